import PyProof.Rows.All
import Wide.All
import OpenK.AllK
import Wide.FinOn
import Lean
import PyProof.EqAt
import PyProof.EqKinds
import PyProof.TupleCall
import PySem.Challenge.RW_stoke_k69_parts_of_a_hold
set_option Elab.async false
set_option linter.all false
set_option maxRecDepth 100000
namespace L2
open PySem PySem.Spec PyProof.Rows

/-- a key: an int or a str -/
abbrev Key := Sum Int Str
def keyIs : Key → Value → Bool
  | .inl k, v => Value.isInt k v
  | .inr x, v => Value.isStrOf x v
def keyH (w : World) : Key → Int
  | .inl k => hashInt k
  | .inr x => hashStr w x
theorem keyIs_shape : ∀ {k : Key} {v : Value}, keyIs k v = true → (∃ i t, k = Sum.inl i ∧ v = Value.int i t) ∨ (∃ x t, k = Sum.inr x ∧ v = Value.str x t)
  | .inl i, v, h => by
    obtain ⟨t, e⟩ := Value.isInt_shape (k := i) (v := v) h
    exact .inl ⟨i, t, rfl, e⟩
  | .inr x, v, h => by
    obtain ⟨t, e⟩ := Value.isStrOf_shape (x := x) (v := v) h
    exact .inr ⟨x, t, rfl, e⟩
theorem keyIs_int (i : Int) (t : Tok) : keyIs (.inl i) (.int i t) = true := by simp [keyIs, Value.isInt]
theorem keyIs_str (x : Str) (t : Tok) : keyIs (.inr x) (.str x t) = true := by simp [keyIs, Value.isStrOf]
theorem key_ll (a b : Int) : decide ((Sum.inl a : Key) = Sum.inl b) = (a == b) := by
  by_cases e : a = b
  · subst e; simp
  · have h : ¬ (Sum.inl a : Key) = Sum.inl b := fun q => e (Sum.inl.inj q)
    rw [decide_eq_false h]
    exact (beq_eq_false_iff_ne.mpr e).symm
theorem key_rr (a b : Str) : decide ((Sum.inr a : Key) = Sum.inr b) = decide (a = b) := by
  by_cases e : a = b
  · subst e; simp
  · have h : ¬ (Sum.inr a : Key) = Sum.inr b := fun q => e (Sum.inr.inj q)
    rw [decide_eq_false h, decide_eq_false e]
theorem key_lr (a : Int) (b : Str) : decide ((Sum.inl a : Key) = Sum.inr b) = false := decide_eq_false (fun q => nomatch q)
theorem key_rl (a : Str) (b : Int) : decide ((Sum.inr a : Key) = Sum.inl b) = false := decide_eq_false (fun q => nomatch q)

def mixKind (prog : Program) (w : World) : PySem.KeyKind prog w Key where
  is := keyIs
  hash := keyH w
  inj := fun v a b ha hb => by
    rcases keyIs_shape ha with ⟨i, t, rfl, rfl⟩ | ⟨x, t, rfl, rfl⟩
    · rcases keyIs_shape hb with ⟨j, u, rfl, e⟩ | ⟨y, u, rfl, e⟩
      · injection e with e1 _; rw [e1]
      · exact nomatch e
    · rcases keyIs_shape hb with ⟨j, u, rfl, e⟩ | ⟨y, u, rfl, e⟩
      · exact nomatch e
      · injection e with e1 _; rw [e1]
  byValue := fun k v h => by
    rcases keyIs_shape h with ⟨i, t, rfl, rfl⟩ | ⟨x, t, rfl, rfl⟩ <;> rfl
  pyHash := fun hv h => by
    rcases keyIs_shape hv with ⟨i, t, rfl, rfl⟩ | ⟨x, t, rfl, rfl⟩
    · exact wpAny_pyHash_int h
    · exact wpAny_pyHash_str h
  eqBool := fun hu hv h => by
    rcases keyIs_shape hu with ⟨i, t, rfl, rfl⟩ | ⟨x, t, rfl, rfl⟩
    · rcases keyIs_shape hv with ⟨j, u, rfl, rfl⟩ | ⟨y, u, rfl, rfl⟩
      · rw [key_ll] at h; exact wpAny_eqBool_int h
      · rw [key_lr] at h; exact SeqAt.EqAt.int_str i t y u _ _ _ _ h
    · rcases keyIs_shape hv with ⟨j, u, rfl, rfl⟩ | ⟨y, u, rfl, rfl⟩
      · rw [key_rl] at h; exact SeqAt.EqAt.str_int x t j u _ _ _ _ h
      · rw [key_rr] at h; exact wpAny_eqBool_str h
  «strs» := fun k x t v h => by
    rcases keyIs_shape h with ⟨i, u, rfl, e⟩ | ⟨y, u, rfl, e⟩
    · exact nomatch e
    · injection e with e1 _
      subst e1
      cases v <;> rfl

theorem mixKind_int (prog : Program) (w : World) (i : Int) (t : Tok) : (mixKind prog w).is (.inl i) (.int i t) = true := keyIs_int i t
theorem mixKind_str (prog : Program) (w : World) (x : Str) (t : Tok) : (mixKind prog w).is (.inr x) (.str x t) = true := keyIs_str x t
end L2

namespace L2
open PySem PySem.Spec PyProof.Rows

/-- a value, without the heap -/
inductive V where
  | non | bl (b : Bool) | int (i : Int) | str (x : Str) | byt (b : Array UInt8) | flt (b : UInt64) | ref (a : Addr) | ty (n : String)
  deriving DecidableEq

def RelV : V → Value → Prop
  | .non, u => u = Value.none
  | .bl b, u => u = Value.bool b
  | .int i, u => ∃ t, u = Value.int i t
  | .str x, u => ∃ t, u = Value.str x t
  | .byt b, u => ∃ t, u = Value.bytes b t
  | .flt b, u => ∃ t, u = Value.float b t
  | .ref a, u => u = Value.ref a
  | .ty n, u => u = Value.type n

abbrev Vals : List V → List Value → Prop := Paired RelV
theorem Vals.length {xs : List V} {us : List Value} (r : Vals xs us) : xs.length = us.length := Paired.length r
theorem Vals.get : ∀ {xs : List V} {us : List Value} {i : Nat} {x : V}, Vals xs us → xs[i]? = some x → ∃ u, us[i]? = some u ∧ RelV x u
  | _, _, _, _, .nil, e => by simp at e
  | _, _, 0, _, .cons r _, e => by simp at e; subst e; exact ⟨_, rfl, r⟩
  | _, _, i + 1, x, .cons _ t, e => by
    obtain ⟨u, h1, h2⟩ := Vals.get (i := i) (x := x) t (by simpa using e)
    exact ⟨u, by simpa using h1, h2⟩
theorem Vals.set {x : V} {u : Value} (r : RelV x u) : ∀ {xs : List V} {us : List Value} (i : Nat), Vals xs us → Vals (xs.set i x) (us.set i u)
  | _, _, _, .nil => .nil
  | _, _, 0, .cons _ t => .cons r t
  | _, _, i + 1, .cons q t => .cons q (Vals.set r i t)
theorem Vals.append : ∀ {xs ys : List V} {us ws : List Value}, Vals xs us → Vals ys ws → Vals (xs ++ ys) (us ++ ws)
  | _, _, _, _, .nil, s => s
  | _, _, _, _, .cons r t, s => .cons r (Vals.append t s)
theorem Vals.take : ∀ {xs : List V} {us : List Value} (n : Nat), Vals xs us → Vals (xs.take n) (us.take n)
  | _, _, 0, _ => .nil
  | _, _, _ + 1, .nil => .nil
  | _, _, n + 1, .cons r t => .cons r (Vals.take n t)
theorem Vals.drop : ∀ {xs : List V} {us : List Value} (n : Nat), Vals xs us → Vals (xs.drop n) (us.drop n)
  | _, _, 0, r => r
  | _, _, _ + 1, .nil => .nil
  | _, _, n + 1, .cons _ t => Vals.drop n t
theorem Vals.none_of : ∀ {xs : List V} {us : List Value} {i : Nat}, Vals xs us → xs[i]? = none → us[i]? = none := fun {xs us i} r e => by
  have h1 := r.length
  have h2 : xs.length ≤ i := List.getElem?_eq_none_iff.mp e
  exact List.getElem?_eq_none_iff.mpr (by omega)

def RelO : Option V → Option Value → Prop
  | some v, some u => RelV v u
  | none, none => True
  | _, _ => False
def KV {κ : Type} : List (κ × V) → List (κ × Value) → Prop := Paired fun (p : κ × V) (q : κ × Value) => p.1 = q.1 ∧ RelV p.2 q.2

/-- a key of a dict (00_mix): an int or a text -/
def kV : Key → V
  | .inl i => .int i
  | .inr x => .str x

/-- what stands at a tracked address -/
inductive HO where
  /-- a list -/
  | lst (xs : List V)
  /-- a tuple (never changes) -/
  | tup (xs : List V)
  /-- a dict whose keys are ints and texts; one whose keys are tuples of ints and texts (the empty one is both) -/
  | dK (kvs : List (Key × V)) | dT (kvs : List (List Key × V))
  /-- a set of ints: its members, its size -/
  | set (S : Int → Bool) (n : Nat)
  /-- an instance of the class at C, its dict at dx, its attributes -/
  | ins (C dx : Addr) (fs : List (Str × V))
  /-- the dict of the instance at x -/
  | own (x : Addr)
  /-- the dict of an exception -/
  | xd (fs : List (Str × V))
  /-- a bound method, f of x -/
  | met (f x : Addr)
  /-- a range object lo, lo + 1, .. below hi -/
  | rng (lo hi : Int)
  /-- a thing that is known to the object (the script; a dict while a loop walks it): read, never written while it is so -/
  | frz (o : Obj) (u : HO)
  /-- a code object's table -/
  | tbl (ps : Array Value)
  /-- any other thing, by what is true of its one object (a def of one's own: SetO a S n := HO.ext fun h => ..) -/
  | ext (φ : Heap → Prop)

abbrev Hp := Addr → Option HO
def upd (H : Hp) (a : Addr) (o : HO) : Hp := fun b => if b = a then some o else H b
theorem upd_same {H : Hp} {a : Addr} {o : HO} : upd H a o a = some o := by unfold upd; rw [if_pos rfl]
theorem upd_ne {H : Hp} {a b : Addr} {o : HO} (h : b ≠ a) : upd H a o b = H b := by unfold upd; rw [if_neg h]
/-- two objects of different content stand apart -/
theorem ne_of {H : Hp} {a b : Addr} {o u : HO} (h : H a = some o) (h' : H b = some u) (d : o ≠ u) : a ≠ b := by
  intro e; subst e; rw [h] at h'; exact d (Option.some.inj h')
theorem ne_of_none {H : Hp} {a b : Addr} {o : HO} (h : H a = some o) (h' : H b = none) : a ≠ b := by
  intro e; subst e; rw [h] at h'; cases h'

section
variable (P : Program) (w : World)
def ObjOk (H : Hp) (h : Heap) (a : Addr) : HO → Prop
  | .lst xs => xs.length ≤ sizeLine ∧ ∃ (its : List Value) (n : Nat), Vals xs its ∧ h.get? a = some { cls := .type "list", data := .seq its.toArray n }
  | .tup xs => xs.length ≤ sizeLine ∧ ∃ its : List Value, Vals xs its ∧ IsTup h a its.toArray
  | .dK kvs => kvs.length ≤ sizeLine ∧ (a == sysModules) = false ∧ ∃ vs, KV kvs vs ∧ h.DictOf (mixKind P w) a vs
  | .dT kvs => kvs.length ≤ sizeLine ∧ (a == sysModules) = false ∧ ∃ xs : List (List Key × Addr × Value),
      Paired (fun (p : List Key × V) (q : List Key × Addr × Value) => p.1 = q.1 ∧ H q.2.1 = some (.tup (p.1.map kV)) ∧ RelV p.2 q.2.2) kvs xs ∧
      ∃ o es ep, h.get? a = some o ∧ o.ExactDict ∧ o.data = .dict es ep ∧ es.toList = xs.map (entryOfKey (tupleKind (mixKind P w))) ∧ (xs.map (·.1)).Nodup
  | .set S n => h.SetOf (intKind P w) a S n
  | .ins C dx fs => H dx = some (.own a) ∧ fs.length ≤ 1000 ∧ dx ≠ a ∧ h.get? a = some (PySem.W.instObj C dx) ∧
      ∃ mA, h.Ns1 dx mA ∧ (∀ f, RelO (fs.lookup f) (mA f)) ∧ PySem.Within mA (fs.map (·.1))
  | .own _ => ∃ o, h.get? a = some o
  | .xd fs => ∃ mA, h.Ns1 a mA ∧ ∀ f, RelO (fs.lookup f) (mA f)
  | .rng lo hi => ∃ t u v, h.get? a = some { cls := .type "range", data := .fields #[.int lo t, .int hi u, .int 1 v] }
  | .frz o u => h.get? a = some o ∧ ObjOk H h a u
  | .tbl ps => h.get? a = some { cls := .none, data := .fields ps }
  | .met f x => h.get? a = some (PySem.W.methodObj (.ref f) (.ref x))
  | .ext φ => φ h ∧ (∃ o, h.get? a = some o) ∧ ∀ h1 h2 : Heap, φ h1 → (∀ o, h1.get? a = some o → h2.get? a = some o) → φ h2
/-- the abstract heap is held -/
def HOk (H : Hp) (h : Heap) : Prop := ∀ a o, H a = some o → ObjOk P w H h a o
end

section
variable {P : Program} {w : World} {H H' : Hp} {h h' : Heap} {a : Addr} {o : HO}
theorem ObjOk.lt (x : ObjOk P w H h a o) : a < h.objs.size := by
  cases o with
  | lst xs => obtain ⟨_, _, _, _, e⟩ := x; exact Heap.lt_size e
  | tup xs => obtain ⟨_, _, _, p⟩ := x; exact p.lt
  | dK kvs => obtain ⟨_, _, _, _, o, _, _, e, _⟩ := x; exact Heap.lt_size e
  | dT kvs => obtain ⟨_, _, _, _, o, _, _, e, _⟩ := x; exact Heap.lt_size e
  | set S n => obtain ⟨o, _, _, _, e, _⟩ := x; exact Heap.lt_size e
  | ins C dx fs => obtain ⟨_, _, _, e, _⟩ := x; exact Heap.lt_size e
  | own y => obtain ⟨_, e⟩ := x; exact Heap.lt_size e
  | xd fs => obtain ⟨_, ⟨_, _, _, e, _⟩, _⟩ := x; exact Heap.lt_size e
  | rng lo hi => obtain ⟨_, _, _, e⟩ := x; exact Heap.lt_size e
  | frz ob u => obtain ⟨e, _⟩ := x; exact Heap.lt_size e
  | tbl ps => exact Heap.lt_size (show h.get? a = some _ from x)
  | met f y => exact Heap.lt_size (show h.get? a = some _ from x)
  | ext φ => obtain ⟨_, ⟨_, e⟩, _⟩ := x; exact Heap.lt_size e
theorem Paired.mapP {α β : Type} {F G : α → β → Prop} : ∀ {l₁ : List α} {l₂ : List β}, Paired F l₁ l₂ → (∀ a b, F a b → G a b) → Paired G l₁ l₂
  | _, _, .nil, _ => .nil
  | _, _, .cons r t, f => .cons (f _ _ r) (Paired.mapP t f)
/-- what an object's description leans on: its own object, its own dict, the tuples -/
theorem ObjOk.stay (x : ObjOk P w H h a o) (k : ∀ b u, (b = a ∨ H b = some (.own a)) → h.get? b = some u → h'.get? b = some u)
    (ho : ∀ b, H b = some (.own a) → H' b = some (.own a)) (ht : ∀ b xs, H b = some (.tup xs) → H' b = some (.tup xs)) : ObjOk P w H' h' a o := by
  induction o with
  | lst xs => obtain ⟨z, its, n, r, e⟩ := x; exact ⟨z, its, n, r, k _ _ (.inl rfl) e⟩
  | tup xs => obtain ⟨z, its, r, ob, e, c⟩ := x; exact ⟨z, its, r, ob, k _ _ (.inl rfl) e, c⟩
  | dK kvs => obtain ⟨z, y, vs, r, ob, es, ep, e, c⟩ := x; exact ⟨z, y, vs, r, ob, es, ep, k _ _ (.inl rfl) e, c⟩
  | dT kvs =>
    obtain ⟨z, y, xs, r, ob, es, ep, e, c⟩ := x
    exact ⟨z, y, xs, Paired.mapP r fun p q z => ⟨z.1, ht _ _ z.2.1, z.2.2⟩, ob, es, ep, k _ _ (.inl rfl) e, c⟩
  | set S n => obtain ⟨ob, es, ep, t, e, c⟩ := x; exact ⟨ob, es, ep, t, k _ _ (.inl rfl) e, c⟩
  | ins C dx fs =>
    obtain ⟨d, z, ne, e, mA, ⟨od, es, ep, e2, c⟩, r⟩ := x
    exact ⟨ho _ d, z, ne, k _ _ (.inl rfl) e, mA, ⟨od, es, ep, k _ _ (.inr d) e2, c⟩, r⟩
  | own y => obtain ⟨ob, e⟩ := x; exact ⟨ob, k _ _ (.inl rfl) e⟩
  | xd fs => obtain ⟨mA, ⟨od, es, ep, e, c⟩, r⟩ := x; exact ⟨mA, ⟨od, es, ep, k _ _ (.inl rfl) e, c⟩, r⟩
  | rng lo hi => obtain ⟨t, u, v, e⟩ := x; exact ⟨t, u, v, k _ _ (.inl rfl) e⟩
  | frz ob u ih => obtain ⟨e, q⟩ := x; exact ⟨k _ _ (.inl rfl) e, ih q⟩
  | tbl ps =>
    have e : h.get? a = some { cls := .none, data := .fields ps } := x
    show h'.get? a = some { cls := .none, data := .fields ps }
    exact k a _ (.inl rfl) e
  | met f y =>
    have e : h.get? a = some (PySem.W.methodObj (.ref f) (.ref y)) := x
    show h'.get? a = some (PySem.W.methodObj (.ref f) (.ref y))
    exact k a _ (.inl rfl) e
  | ext φ => obtain ⟨p, ⟨o, e⟩, st⟩ := x; exact ⟨st _ _ p fun o q => k _ _ (.inl rfl) q, ⟨o, k _ _ (.inl rfl) e⟩, st⟩
theorem HOk.lt (x : HOk P w H h) (e : H a = some o) : a < h.objs.size := (x a o e).lt
theorem HOk.fresh (x : HOk P w H h) (e : h.objs.size ≤ a) : H a = none := by
  cases q : H a with
  | none => rfl
  | some u => exact absurd (Nat.lt_of_lt_of_le (x.lt q) e) (Nat.lt_irrefl _)
/-- every object of the heap is kept -/
theorem HOk.kept (x : HOk P w H h) (k : ∀ b u, h.get? b = some u → h'.get? b = some u) : HOk P w H h' := fun a o e =>
  (x a o e).stay (fun b u _ q => k b u q) (fun _ q => q) fun _ _ q => q
/-- a new object is laid and tracked -/
theorem HOk.laid (x : HOk P w H h) (k : ∀ b u, h.get? b = some u → h'.get? b = some u) (hp : h.objs.size ≤ a) (new : ObjOk P w (upd H a o) h' a o) : HOk P w (upd H a o) h' := fun b u e => by
  have hn := x.fresh hp
  by_cases hb : b = a
  · subst hb; rw [upd_same] at e; cases e; exact new
  · rw [upd_ne hb] at e
    exact (x b u e).stay (fun c v _ q => k c v q) (fun c q => by rw [upd_ne (ne_of_none q hn)]; exact q) fun c xs q => by rw [upd_ne (ne_of_none q hn)]; exact q
end

/-- what may be read as u: it is u, or a known u -/
def Rd (H : Hp) (a : Addr) (u : HO) : Prop := H a = some u ∨ ∃ o, H a = some (.frz o u)
theorem Rd.of {H : Hp} {a : Addr} {u : HO} (h : H a = some u) : Rd H a u := .inl h
theorem Rd.ok {P : Program} {w : World} {H : Hp} {h : Heap} {a : Addr} {u : HO} (r : Rd H a u) (x : HOk P w H h) : ObjOk P w H h a u := by
  rcases r with r | ⟨o, r⟩
  · exact x a u r
  · obtain ⟨_, q⟩ := x a _ r
    exact q
/-- what may be written -/
def Mut : Option HO → Prop
  | some (.lst _) => True
  | some (.dK _) => True
  | some (.dT _) => True
  | some (.set _ _) => True
  | some (.ins _ _ _) => True
  | some (.ext _) => True
  | _ => False
section
variable {P : Program} {w : World} {H : Hp} {h h' : Heap} {x e : Addr} {o' : HO}
/-- the object at e is changed: x itself, or the dict of the instance x -/
theorem HOk.write (ok : HOk P w H h) (mu : Mut (H x)) (he : e = x ∨ H e = some (.own x)) (k : ∀ b u, b ≠ e → h.get? b = some u → h'.get? b = some u) (heo : ∃ u, h'.get? e = some u)
    (new : ObjOk P w (upd H x o') h' x o') : HOk P w (upd H x o') h' := fun b u q => by
  have nown : ∀ c y, H c = some (.own y) → c ≠ x := fun c y r z => by subst z; rw [r] at mu; exact mu
  have ntup : ∀ c xs, H c = some (.tup xs) → c ≠ x := fun c xs r z => by subst z; rw [r] at mu; exact mu
  by_cases hb : b = x
  · subst hb; rw [upd_same] at q; cases q; exact new
  · rw [upd_ne hb] at q
    by_cases hbe : b = e
    · have q' : H b = some (.own x) := by
        rcases he with z | z
        · exact absurd (hbe.trans z) hb
        · rw [hbe]; exact z
      rw [q] at q'; cases q'
      obtain ⟨v, hv⟩ := heo
      exact ⟨v, by rw [hbe]; exact hv⟩
    · refine (ok b u q).stay (fun c v hc r => k c v ?_ r) (fun c r => by rw [upd_ne (nown c b r)]; exact r) fun c xs r => by rw [upd_ne (ntup c xs r)]; exact r
      rcases hc with rfl | hc
      · exact hbe
      · rintro rfl
        rcases he with z | z
        · exact nown c b hc z
        · rw [hc] at z; cases z; exact hb rfl
end

structure Un (fs ex : List Addr) (H H' : Hp) (h h' : Heap) : Prop where
  keep : ∀ b o, h.get? b = some o → H b = none → b ∉ fs → b ∉ ex → h'.get? b = some o
  slot : ∀ b o, h.get? b = some o → H b = none → b ∈ fs → b ∉ ex → ∃ sl, h'.get? b = some { o with slots := sl }
  free : ∀ b o, h.get? b = some o → H b = none → b ∉ ex → H' b = none
  there : ∀ b o, h.get? b = some o → b ∉ ex → ∃ o', h'.get? b = some o'
  tups : ∀ b xs, H b = some (.tup xs) → H' b = some (.tup xs)
  frzs : ∀ b o u, H b = some (.frz o u) → H' b = some (.frz o u)
  tbls : ∀ b ps, H b = some (.tbl ps) → ∃ more, H' b = some (.tbl (ps ++ more))
section
variable {fs fs' ex ex' : List Addr} {H H1 H2 : Hp} {h h1 h2 h' : Heap} {a x e : Addr} {o : HO}
theorem Un.any (u : Un fs ex H H1 h h1) {b : Addr} {ob : Obj} (q : h.get? b = some ob) (n : H b = none) (hx : b ∉ ex) : ∃ sl, h1.get? b = some { ob with slots := sl } := by
  by_cases hb : b ∈ fs
  · exact u.slot b ob q n hb hx
  · exact ⟨ob.slots, u.keep b ob q n hb hx⟩
theorem Un.trans (a : Un fs ex H H1 h h1) (b : Un fs ex H1 H2 h1 h2) : Un fs ex H H2 h h2 where
  keep := fun c ob q n hc hx => b.keep c ob (a.keep c ob q n hc hx) (a.free c ob q n hx) hc hx
  slot := fun c ob q n hc hx => by
    obtain ⟨sl, e1⟩ := a.slot c ob q n hc hx
    obtain ⟨sl', e2⟩ := b.slot c _ e1 (a.free c ob q n hx) hc hx
    exact ⟨sl', e2⟩
  free := fun c ob q n hx => by
    obtain ⟨o', e1⟩ := a.there c ob q hx
    exact b.free c o' e1 (a.free c ob q n hx) hx
  there := fun c ob q hx => by
    obtain ⟨o', e1⟩ := a.there c ob q hx
    exact b.there c o' e1 hx
  tups := fun c xs q => b.tups c xs (a.tups c xs q)
  frzs := fun c ob xs q => b.frzs c ob xs (a.frzs c ob xs q)
  tbls := fun c ps q => by
    obtain ⟨m1, e1⟩ := a.tbls c ps q
    obtain ⟨m2, e2⟩ := b.tbls c _ e1
    exact ⟨m1 ++ m2, by rw [e2, Array.append_assoc]⟩
theorem Un.kept (k : ∀ b u, h.get? b = some u → h'.get? b = some u) : Un fs ex H H h h' :=
  ⟨fun b ob q _ _ _ => k b ob q, fun b ob q _ _ _ => ⟨ob.slots, k b ob q⟩, fun _ _ _ n _ => n, fun b ob q _ => ⟨ob, k b ob q⟩, fun _ _ q => q, fun _ _ _ q => q, fun _ ps q => ⟨#[], by rw [q]; simp⟩⟩
theorem Un.refl : Un fs ex H H h h := Un.kept fun _ _ q => q
theorem Un.laid (k : ∀ b u, h.get? b = some u → h'.get? b = some u) (hp : h.objs.size ≤ a) (hn : H a = none) : Un fs ex H (upd H a o) h h' where
  keep := fun b u q _ _ _ => k b u q
  slot := fun b u q _ _ _ => ⟨u.slots, k b u q⟩
  free := fun b u q n _ => by rw [upd_ne (Nat.ne_of_lt (Nat.lt_of_lt_of_le (Heap.lt_size q) hp))]; exact n
  there := fun b u q _ => ⟨u, k b u q⟩
  tups := fun b xs q => by rw [upd_ne (ne_of_none q hn)]; exact q
  frzs := fun b u xs q => by rw [upd_ne (ne_of_none q hn)]; exact q
  tbls := fun b ps q => ⟨#[], by rw [upd_ne (ne_of_none q hn), q]; simp⟩
theorem Un.write (mu : Mut (H x)) (he : e = x ∨ H e = some (.own x)) (k : ∀ b u, b ≠ e → h.get? b = some u → h'.get? b = some u) (heo : ∃ u, h'.get? e = some u) : Un fs ex H (upd H x o) h h' := by
  have hx : ∀ b, H b = none → b ≠ x := fun b n z => by subst z; rw [n] at mu; exact mu
  have hb : ∀ b, H b = none → b ≠ e := fun b n z => by
    subst z
    rcases he with r | r
    · exact hx b n r
    · rw [n] at r; cases r
  have hm : ∀ b u, H b = some u → ¬ Mut (some u) → b ≠ x := fun b u q nm z => by subst z; rw [q] at mu; exact nm mu
  refine ⟨fun b u q n _ _ => k b u (hb b n) q, fun b u q n _ _ => ⟨u.slots, k b u (hb b n) q⟩, fun b u q n _ => by rw [upd_ne (hx b n)]; exact n, fun b u q _ => ?_,
    fun b xs q => by rw [upd_ne (hm b _ q fun z => z)]; exact q, fun b u xs q => by rw [upd_ne (hm b _ q fun z => z)]; exact q, fun b ps q => ⟨#[], by rw [upd_ne (hm b _ q fun z => z), q]; simp⟩⟩
  by_cases hbe : b = e
  · subst hbe; exact heo
  · exact ⟨u, k b u hbe q⟩
theorem Un.mono (u : Un fs ex H H1 h h1) (hs : ∀ b ∈ fs, b ∈ fs') (hx : ∀ b ∈ ex, b ∈ ex') : Un fs' ex' H H1 h h1 :=
  ⟨fun b ob q n hb he => u.keep b ob q n (fun z => hb (hs b z)) fun z => he (hx b z), fun _ _ q n _ he => u.any q n fun z => he (hx _ z), fun b ob q n he => u.free b ob q n fun z => he (hx b z), fun b ob q he => u.there b ob q fun z => he (hx b z), u.tups, u.frzs, u.tbls⟩
end

def trk (h : Heap) (H : Hp) : List Addr := (List.range h.objs.size).filter fun a => (H a).isSome
def hidT (h : Heap) (H : Hp) : Heap := PySem.W.hideAll h (trk h H)
theorem hidT_size (h : Heap) (H : Hp) : (hidT h H).objs.size = h.objs.size := PySem.W.hideAll_size _ _
theorem hidT_get {h : Heap} {H : Hp} {b : Addr} {o : Obj} (e : h.get? b = some o) (n : H b = none) : (hidT h H).get? b = some o :=
  PySem.W.hideAll_get _ e fun hm => by
    have q : (H b).isSome = true := (List.mem_filter.mp hm).2
    rw [n] at q; simp at q
theorem of_hidT {h : Heap} {H : Hp} {b : Addr} {o : Obj} (e : (hidT h H).get? b = some o) : h.get? b = some o ∧ H b = none := by
  have e' : h.get? b = some o := PySem.W.of_hideAll (trk h H) e
  refine ⟨e', ?_⟩
  cases q : H b with
  | none => rfl
  | some x =>
    have hm : b ∈ trk h H := List.mem_filter.mpr ⟨List.mem_range.mpr (Heap.lt_size e'), by simp [q]⟩
    have z : (hidT h H).get? b = none := PySem.W.hideAll_none (trk h H) hm
    rw [z] at e; cases e

def allNews (g h : Heap) (L : Addr) : List (Addr × Obj) := (List.range h.objs.size).filterMap fun a => if a = L ∨ (g.get? a).isSome = true then none else (h.get? a).map fun o => (a, o)
def rest (g h : Heap) (L d : Addr) : List (Addr × Obj) := (allNews g h L).filter fun p => decide (p.1 ≠ d)
end L2

namespace L2
open PySem PySem.Spec PyProof.Rows

/-- the module's facts, over the base: the heap at the law's entry without what is tracked there -/
structure Mod (K : PySem.W.Frag) (mg : Str → Option Value) (base : Heap) : Prop where
  kin : K.In base
  glob : base.Ns mainGlobals mg
  blt : ∃ mb, base.Ns builtinsNs mb ∧ ∀ x : Str, x ≠ "__name__" → mb x = bootBuiltins x
  nolimit : base.NoLimit

/-- the context: a def's body (or a comprehension's block) running. base: fixed through the whole law; s₀, H₀: the entry; outer: the frames whose slots others may change (a def's callers); stack: all frames that run;
   ex: iterators that were made ahead of the entry and are walked here (a comprehension's); fn: the names whose cells were made at the entry (a def: all; a comprehension's block: its own); calm: not within an except suite; pn: pins that every state bears; xe: what is wanted of an exception that leaves the code -/
structure Cx where
  prog : Program
  w : World
  K : PySem.W.Frag
  mg : Str → Option Value
  base : Heap
  A : Around
  N : List Str
  s₀ : Shared
  H₀ : Hp
  env : Env
  outer : List Env
  stack : List Env
  ex : List Addr
  fn : Str → Bool
  calm : Bool
  pn : List (Addr × Obj)
  xe : Value → Shared → Prop
/-- the callers' frames -/
def frs (l : List Env) : List Addr := l.filterMap (·.frame)
abbrev Cx.fs (X : Cx) : List Addr := frs X.outer

def Vis (sc : Scope) (x : Str) : Prop := sc.names.lookup x = some .local ∨ sc.names.lookup x = some .cell ∨ sc.names.lookup x = some .free
def Loc (sc : Scope) (x : Str) : Prop := sc.names.lookup x = some .local ∨ sc.names.lookup x = some .cell
def Look (env : Env) (h : Heap) (m : Str → Option Value) (x : Str) (u : Value) : Prop :=
  (env.kindOf x = some .local ∧ m x = some u) ∨ ((env.kindOf x = some .cell ∨ env.kindOf x = some .free) ∧ ∃ c, env.cells.lookup x = some c ∧ h.IsCell c (some u))

structure Cx.Ok (X : Cx) : Prop where
  mod : Mod X.K X.mg X.base
  kind : X.env.scope.kind = .function
  glob : X.env.globals = mainGlobals
  blt : X.env.builtins = builtinsNs
  above : X.s₀.heap.objs.size ≤ X.env.locals
  inj : ∀ x y c, X.env.cells.lookup x = some c → X.env.cells.lookup y = some c → x = y
  has : ∀ x, (X.env.kindOf x = some .cell ∨ X.env.kindOf x = some .free) → ∃ c, X.env.cells.lookup x = some c
  cab : ∀ x c, X.fn x = true → X.env.cells.lookup x = some c → X.s₀.heap.objs.size ≤ c
  hd : X.calm = true → X.A.handled = none
  frames : X.A.frames = some X.stack
  stk : X.stack = X.outer ∨ (X.stack = X.env :: X.outer ∧ X.env.frame = some X.env.locals)
  exf : ∀ b ∈ X.ex, b ≠ X.env.locals ∧ ∀ x c, X.env.cells.lookup x = some c → c ≠ b
  bs : ∀ b o, X.base.get? b = some o → X.s₀.heap.get? b = some o ∧ X.H₀ b = none
  bsz : X.base.objs.size ≤ X.s₀.heap.objs.size
  noex : ∀ b o, X.base.get? b = some o → b ∉ X.ex
  exfs : ∀ b ∈ X.ex, b ∉ X.fs
  funs : X.s₀.heap.FunFrames X.base X.outer
  frf : ∀ b ∈ X.fs, X.H₀ b = none

structure Inv (X : Cx) (pins : List (Addr × Obj)) (σ : List (Option V)) (H : Hp) (s : Shared) : Prop where
  ok : X.Ok
  os : s.os = X.s₀.os
  bare : AllBare s.gens
  base : Un X.fs X.ex X.H₀ H X.s₀.heap s.heap
  loc : ∃ m, s.heap.Ns X.env.locals m ∧ ∀ (i : Nat) (x : Str) (v : V), X.N[i]? = some x → σ[i]? = some (some v) → Vis X.env.scope x → ∃ u, RelV v u ∧ Look X.env s.heap m x u
  cell : ∀ x c, X.env.cells.lookup x = some c → ∃ v, s.heap.IsCell c v
  free : H X.env.locals = none
  freeC : ∀ x c, X.env.cells.lookup x = some c → H c = none
  pin : ∀ p ∈ X.pn ++ pins, s.heap.get? p.1 = some p.2 ∧ H p.1 = none ∧ p.1 ≠ X.env.locals ∧ p.1 ∉ X.fs ∧ ∀ v, p.2.data ≠ .cell v
  hok : HOk X.prog X.w H s.heap
  len : σ.length = X.N.length

section
variable {X : Cx} {pins : List (Addr × Obj)} {σ : List (Option V)} {H H' : Hp} {s : Shared} {h' : Heap}

theorem Cx.Ok.nofr (ok : X.Ok) {b : Addr} {o : Obj} (e : X.base.get? b = some o) : b ∉ X.fs := fun hb => by
  have := (ok.funs.mem hb).1
  rw [e] at this; cases this
theorem Inv.bs (I : Inv X pins σ H s) : ∀ b o, X.base.get? b = some o → s.heap.get? b = some o ∧ H b = none := fun b o e =>
  ⟨I.base.keep b o (I.ok.bs b o e).1 (I.ok.bs b o e).2 (I.ok.nofr e) (I.ok.noex b o e), I.base.free b o (I.ok.bs b o e).1 (I.ok.bs b o e).2 (I.ok.noex b o e)⟩
theorem Inv.bk (I : Inv X pins σ H s) : ∀ b o, X.base.get? b = some o → s.heap.get? b = some o := fun b o e => (I.bs b o e).1
theorem Inv.mod (I : Inv X pins σ H s) : Mod X.K X.mg X.base := I.ok.mod
theorem Inv.kIn (I : Inv X pins σ H s) : X.K.In s.heap := I.ok.mod.kin.keeps I.bk
theorem Inv.nolimit (I : Inv X pins σ H s) : s.heap.NoLimit := I.ok.mod.nolimit.keeps I.bk
/-- the frame over the base: for OpenK's rules (K.In X.base is I.mod.kin) -/
theorem Inv.fr (I : Inv X pins σ H s) : ∃ m, Fr X.base X.env.locals s.heap m :=
  let ⟨m, hn, _⟩ := I.loc
  ⟨m, hn, I.bk, Nat.le_trans I.ok.bsz I.ok.above⟩
theorem Inv.lt (I : Inv X pins σ H s) : X.env.locals < s.heap.objs.size := let ⟨_, hn, _⟩ := I.loc; hn.lt
theorem Inv.sz (I : Inv X pins σ H s) : X.s₀.heap.objs.size ≤ s.heap.objs.size := Nat.le_trans I.ok.above (Nat.le_of_lt I.lt)
theorem Inv.nofs (I : Inv X pins σ H s) {a : Addr} (h : s.heap.objs.size ≤ a) : a ∉ X.fs := fun hb => by
  obtain ⟨_, o, ho, _⟩ := I.ok.funs.mem hb
  exact absurd (Nat.lt_of_lt_of_le (Heap.lt_size ho) (Nat.le_trans I.sz h)) (Nat.lt_irrefl _)
theorem Inv.cne (I : Inv X pins σ H s) : ∀ x c, X.env.cells.lookup x = some c → c ≠ X.env.locals := fun x c e z => by
  obtain ⟨v, o, ho, hd⟩ := I.cell x c e
  obtain ⟨m, ⟨o', es, ep, ho', hd', _⟩, _⟩ := I.loc
  rw [z, ho'] at ho; cases ho; rw [hd'] at hd; cases hd
theorem Inv.funs (I : Inv X pins σ H s) : s.heap.FunFrames X.base X.outer := by
  have all : ∀ (l : List Env), (∀ b ∈ frs l, b ∈ X.fs) → X.s₀.heap.FunFrames X.base l → s.heap.FunFrames X.base l := by
    intro l
    induction l with
    | nil => intro _ _; trivial
    | cons env r ih =>
      intro hs hl
      obtain ⟨hk, ⟨L, o, hf, hn, ho, hd⟩, hr⟩ := hl
      have hL : L ∈ X.fs := hs L (by unfold frs; rw [List.filterMap_cons, hf]; exact List.mem_cons_self)
      obtain ⟨sl, e⟩ := I.base.slot L o ho (I.ok.frf L hL) hL fun z => I.ok.exfs L z hL
      exact ⟨hk, ⟨L, _, hf, hn, e, hd⟩, ih (fun b hb => hs b (by unfold frs; rw [List.filterMap_cons, hf]; exact List.mem_cons_of_mem _ hb)) hr⟩
  exact all X.outer (fun _ hb => hb) I.ok.funs

/-- the frames that run, for a call -/
theorem Inv.stack (I : Inv X pins σ H s) : s.heap.FunFrames X.base X.stack := by
  rcases I.ok.stk with e | ⟨e, hf⟩
  · rw [e]; exact I.funs
  · rw [e]
    obtain ⟨m, hn, _⟩ := I.loc
    refine .cons (by rw [I.ok.kind]; decide) hf hn ?_ I.funs
    exact Heap.get?_none_of_le (Nat.le_trans I.ok.bsz I.ok.above)
theorem Inv.stkSub (I : Inv X pins σ H s) : ∀ b ∈ frs X.stack, b ∈ X.env.locals :: X.fs := fun b hb => by
  rcases I.ok.stk with e | ⟨e, hf⟩
  · rw [e] at hb; exact List.mem_cons_of_mem _ hb
  · rw [e] at hb
    unfold frs at hb
    rw [List.filterMap_cons, hf] at hb
    exact hb
theorem Inv.stkFree (I : Inv X pins σ H s) : ∀ b ∈ frs X.stack, H b = none := fun b hb => by
  rcases List.mem_cons.mp (I.stkSub b hb) with e | hb
  · rw [e]; exact I.free
  · obtain ⟨_, o, ho, _⟩ := I.ok.funs.mem hb
    exact I.base.free b o ho (I.ok.frf b hb) fun z => I.ok.exfs b z hb

/-- THE STEP: the untracked objects but the frame and the records at ch are kept (the callers' frames up to slots), the frame's map is kept, the new abstract heap is held -/
theorem Inv.step {g' : Array GenState} {t' : Nat} {d' : Drawn} {ch : List Addr} (I : Inv X pins σ H s)
    (hch : ∀ b ∈ ch, (b ∈ X.ex ∨ X.s₀.heap.objs.size ≤ b) ∧ b ≠ X.env.locals ∧ (∀ x c, X.env.cells.lookup x = some c → c ≠ b) ∧ ∀ p ∈ X.pn ++ pins, p.1 ≠ b)
    (keep : ∀ b o, b ≠ X.env.locals → b ∉ X.fs → b ∉ ch → s.heap.get? b = some o → H b = none → h'.get? b = some o)
    (slot : ∀ b o, b ≠ X.env.locals → b ∈ X.fs → b ∉ ch → s.heap.get? b = some o → H b = none → ∃ sl, h'.get? b = some { o with slots := sl }) (free : ∀ b o, b ∉ ch → s.heap.get? b = some o → H b = none → H' b = none)
    (there : ∀ b o, b ∉ ch → s.heap.get? b = some o → ∃ o', h'.get? b = some o')
    (tups : ∀ b xs, H b = some (.tup xs) → H' b = some (.tup xs)) (frzs : ∀ b o u, H b = some (.frz o u) → H' b = some (.frz o u)) (tbls : ∀ b ps, H b = some (.tbl ps) → ∃ more, H' b = some (.tbl (ps ++ more)))
    (ns : ∀ m, s.heap.Ns X.env.locals m → h'.Ns X.env.locals m) (hok : HOk X.prog X.w H' h') (hg : AllBare g') :
    Inv X pins σ H' { s with heap := h', gens := g', drawn := d', toks := t' } := by
  have neL : ∀ b o, X.s₀.heap.get? b = some o → b ≠ X.env.locals := fun b o e => Nat.ne_of_lt (Nat.lt_of_lt_of_le (Heap.lt_size e) I.ok.above)
  have neC : ∀ b o, X.s₀.heap.get? b = some o → b ∉ X.ex → b ∉ ch := fun b o e hx hb => by
    rcases (hch b hb).1 with z | z
    · exact hx z
    · exact absurd (Nat.lt_of_lt_of_le (Heap.lt_size e) z) (Nat.lt_irrefl _)
  have cellK : ∀ x c, X.env.cells.lookup x = some c → ∀ v, s.heap.IsCell c v → h'.IsCell c v := fun x c e v ⟨o, ho, hd⟩ => by
    have nch : c ∉ ch := fun z => (hch c z).2.2.1 x c e rfl
    by_cases hc : c ∈ X.fs
    · obtain ⟨sl, q⟩ := slot c o (I.cne x c e) hc nch ho (I.freeC x c e)
      exact ⟨_, q, hd⟩
    · exact ⟨o, keep c o (I.cne x c e) hc nch ho (I.freeC x c e), hd⟩
  refine ⟨I.ok, I.os, hg, ⟨fun b o e n hb hx => ?_, fun b o e n hb hx => ?_, fun b o e n hx => ?_, fun b o e hx => ?_, fun b xs e => tups b xs (I.base.tups b xs e), fun b o xs e => frzs b o xs (I.base.frzs b o xs e), fun b ps e => ?_⟩, ?_, fun x c e => ?_, ?_, fun x c e => ?_, fun p hp => ?_, hok, I.len⟩
  · exact keep b o (neL b o e) hb (neC b o e hx) (I.base.keep b o e n hb hx) (I.base.free b o e n hx)
  · obtain ⟨sl, e1⟩ := I.base.slot b o e n hb hx
    obtain ⟨sl', e2⟩ := slot b _ (neL b o e) hb (neC b o e hx) e1 (I.base.free b o e n hx)
    exact ⟨sl', e2⟩
  · obtain ⟨o', e1⟩ := I.base.there b o e hx
    exact free b o' (neC b o e hx) e1 (I.base.free b o e n hx)
  · obtain ⟨o', e1⟩ := I.base.there b o e hx
    exact there b o' (neC b o e hx) e1
  · obtain ⟨m1, e1⟩ := I.base.tbls b ps e
    obtain ⟨m2, e2⟩ := tbls b _ e1
    exact ⟨m1 ++ m2, by rw [e2, Array.append_assoc]⟩
  · obtain ⟨m, hn, hl⟩ := I.loc
    refine ⟨m, ns m hn, fun i x v e1 e2 e3 => ?_⟩
    obtain ⟨u, r, l⟩ := hl i x v e1 e2 e3
    refine ⟨u, r, ?_⟩
    rcases l with l | ⟨k, c, e, z⟩
    · exact .inl l
    · exact .inr ⟨k, c, e, cellK x c e _ z⟩
  · obtain ⟨v, z⟩ := I.cell x c e
    exact ⟨v, cellK x c e v z⟩
  · obtain ⟨m, ⟨o, _, _, ho, _⟩, _⟩ := I.loc
    exact free _ o (fun z => (hch _ z).2.1 rfl) ho I.free
  · obtain ⟨v, o, ho, hd⟩ := I.cell x c e
    exact free c o (fun z => (hch c z).2.2.1 x c e rfl) ho (I.freeC x c e)
  · obtain ⟨e, n, ne, nf, d⟩ := I.pin p hp
    have nch : p.1 ∉ ch := fun z => (hch p.1 z).2.2.2 p hp rfl
    exact ⟨keep p.1 p.2 ne nf nch e n, free p.1 p.2 nch e n, ne, nf, d⟩
/-- .. where the frame's own object is kept too -/
theorem Inv.un {t' : Nat} (I : Inv X pins σ H s) (u : Un X.fs [] H H' s.heap h') (hok : HOk X.prog X.w H' h') : Inv X pins σ H' { s with heap := h', toks := t' } := by
  obtain ⟨m, ⟨o, es, ep, ho, r⟩, _⟩ := id I.loc
  obtain ⟨sl, hL⟩ := u.any ho I.free (by simp)
  exact I.step (g' := s.gens) (d' := s.drawn) (ch := []) (fun _ z => nomatch z) (fun b o _ hb _ e n => u.keep b o e n hb (by simp)) (fun b o _ hb _ e n => u.slot b o e n hb (by simp)) (fun b o _ e n => u.free b o e n (by simp)) (fun b o _ e => u.there b o e (by simp)) u.tups u.frzs u.tbls (fun m' hm => by
    obtain ⟨o', es', ep', ho', r'⟩ := hm
    rw [ho] at ho'; cases ho'
    exact ⟨_, es', ep', hL, r'⟩) hok I.bare
/-- behind a call (or a comprehension's block): the slots of this frame may have changed too, the records at ch may have turned -/
theorem Inv.call {g' : Array GenState} {t' : Nat} {d' : Drawn} {ch : List Addr} (I : Inv X pins σ H s) (u : Un (frs X.stack) ch H H' s.heap h') (hok : HOk X.prog X.w H' h') (hg : AllBare g')
    (hch : ∀ b ∈ ch, (b ∈ X.ex ∨ X.s₀.heap.objs.size ≤ b) ∧ b ≠ X.env.locals ∧ (∀ x c, X.env.cells.lookup x = some c → c ≠ b) ∧ ∀ p ∈ X.pn ++ pins, p.1 ≠ b) :
    Inv X pins σ H' { s with heap := h', gens := g', drawn := d', toks := t' } := by
  obtain ⟨m, ⟨o, es, ep, ho, r⟩, _⟩ := id I.loc
  obtain ⟨sl, hL⟩ := u.any ho I.free fun z => (hch _ z).2.1 rfl
  exact I.step (ch := ch) hch (fun b o hL hb hc e n => u.keep b o e n (fun z => (List.mem_cons.mp (I.stkSub b z)).elim hL hb) hc) (fun b o _ _ hc e n => u.any e n hc) (fun b o hc e n => u.free b o e n hc) (fun b o hc e => u.there b o e hc) u.tups u.frzs u.tbls (fun m' hm => by
    obtain ⟨o', es', ep', ho', r'⟩ := hm
    rw [ho] at ho'; cases ho'
    exact ⟨_, es', ep', hL, r'⟩) hok hg
/-- an untracked record of ours (an iterator) has turned -/
theorem Inv.turned {t' : Nat} {it : Addr} (I : Inv X pins σ H s) (k : ∀ b o, b ≠ it → s.heap.get? b = some o → h'.get? b = some o) (hn : H it = none) (hL : it ≠ X.env.locals)
    (h1 : it ∈ X.ex ∨ X.s₀.heap.objs.size ≤ it) (h2 : ∀ x c, X.env.cells.lookup x = some c → c ≠ it) (h3 : ∀ p ∈ X.pn ++ pins, p.1 ≠ it) : Inv X pins σ H { s with heap := h', toks := t' } := by
  have nit : ∀ b u, H b = some u → b ≠ it := fun b u e z => by rw [z, hn] at e; cases e
  refine I.step (g' := s.gens) (d' := s.drawn) (ch := [it]) (fun b hb => ?_) (fun b o _ _ hc e _ => k b o (fun z => hc (by simp [z])) e) (fun b o _ _ hc e _ => ⟨o.slots, k b o (fun z => hc (by simp [z])) e⟩) (fun _ _ _ _ n => n)
    (fun b o hc e => ⟨o, k b o (fun z => hc (by simp [z])) e⟩) (fun _ _ e => e) (fun _ _ _ e => e) (fun b ps e => ⟨#[], by rw [e]; simp⟩) (fun m hm => ?_) (fun b u e => ?_) I.bare
  · have e : b = it := by simpa using hb
    subst e
    exact ⟨h1, hL, h2, h3⟩
  · obtain ⟨o, es, ep, ho, r⟩ := hm
    exact ⟨o, es, ep, k _ o (Ne.symm hL) ho, r⟩
  · refine (I.hok b u e).stay (fun c v hc q => k c v ?_ q) (fun _ q => q) fun _ _ q => q
    rcases hc with z | z
    · rw [z]; exact nit b u e
    · exact nit c _ z
theorem Inv.tok (I : Inv X pins σ H s) (t : Nat) : Inv X pins σ H { s with toks := t } := I.un (h' := s.heap) (t' := t) Un.refl I.hok
/-- all objects kept -/
theorem Inv.kept {t' : Nat} (I : Inv X pins σ H s) (k : ∀ b u, s.heap.get? b = some u → h'.get? b = some u) : Inv X pins σ H { s with heap := h', toks := t' } := I.un (Un.kept k) (I.hok.kept k)
/-- a new object laid and tracked -/
theorem Inv.laid {a : Addr} {o : HO} {t' : Nat} (I : Inv X pins σ H s) (k : ∀ b u, s.heap.get? b = some u → h'.get? b = some u) (hp : s.heap.objs.size ≤ a) (new : ObjOk X.prog X.w (upd H a o) h' a o) :
    Inv X pins σ (upd H a o) { s with heap := h', toks := t' } := I.un (Un.laid k hp (I.hok.fresh hp)) (I.hok.laid k hp new)
/-- an object written -/
theorem Inv.write {x e : Addr} {o : HO} {t' : Nat} (I : Inv X pins σ H s) (mu : Mut (H x)) (he : e = x ∨ H e = some (.own x)) (k : ∀ b u, b ≠ e → s.heap.get? b = some u → h'.get? b = some u) (heo : ∃ u, h'.get? e = some u)
    (new : ObjOk X.prog X.w (upd H x o) h' x o) : Inv X pins σ (upd H x o) { s with heap := h', toks := t' } := I.un (Un.write mu he k heo) (I.hok.write mu he k heo new)
theorem Inv.pins_of {pins' : List (Addr × Obj)} (I : Inv X pins σ H s) (h : ∀ p ∈ pins', s.heap.get? p.1 = some p.2 ∧ H p.1 = none ∧ p.1 ≠ X.env.locals ∧ p.1 ∉ X.fs ∧ ∀ v, p.2.data ≠ .cell v) : Inv X pins' σ H s :=
  ⟨I.ok, I.os, I.bare, I.base, I.loc, I.cell, I.free, I.freeC, fun p hp => (List.mem_append.mp hp).elim (fun z => I.pin p (List.mem_append_left _ z)) (h p), I.hok, I.len⟩

theorem nodup_ix {N : List Str} (hN : N.Nodup) {i j : Nat} {x : Str} (a : N[i]? = some x) (b : N[j]? = some x) : i = j := by
  obtain ⟨h1, e1⟩ := List.getElem?_eq_some_iff.mp a
  obtain ⟨h2, e2⟩ := List.getElem?_eq_some_iff.mp b
  exact (List.getElem_inj hN).mp (e1.trans e2.symm)

/-- a name is stored; what changed -/
theorem store_ok2 {M : Model} {A : Around} {E : Value → Shared → Prop} {i : Nat} {x : Str} {v : V} {u : Value} {Q : Unit → Shared → Prop} (I : Inv X pins σ H s) (hN : X.N.Nodup) (hi : X.N[i]? = some x) (hx : Loc X.env.scope x) (r : RelV v u)
    (h : ∀ s', Inv X pins (σ.set i (some v)) H s' → (∃ a, Heap.SameBut a s.heap s'.heap ∧ (a = X.env.locals ∨ X.env.cells.lookup x = some a)) → Q () s') (hf : X.fn x = true ∨ X.env.scope.names.lookup x = some .local := by first | exact .inl rfl | exact .inr rfl | assumption) : wpAny M A (storeName X.env x u) Q E s := by
  obtain ⟨m, hn, hl⟩ := id I.loc
  have hcls : (X.env.scope.kind == .class || (X.env.scope.kind == .module && X.env.locals != X.env.globals)) = false := by rw [I.ok.kind]; rfl
  have hiσ : i < σ.length := by rw [I.len]; exact (List.getElem?_eq_some_iff.mp hi).1
  have cne := I.cne
  have tracked : ∀ {a : Addr} {h' : Heap}, (∃ o, s.heap.get? a = some o ∧ H a = none) → Heap.SameBut a s.heap h' → HOk X.prog X.w H h' := fun {a h'} ha hs b ob e => by
    obtain ⟨_, _, hfree⟩ := ha
    refine (I.hok b ob e).stay (fun c w' hc q => (hs.2 c ?_).trans q) (fun _ q => q) fun _ _ q => q
    rintro rfl
    rcases hc with rfl | hc
    · rw [hfree] at e; cases e
    · rw [hfree] at hc; cases hc
  rcases hx with hk | hk
  · refine wpAny_storeName_local hk hn (fun h' hn' hs => ?_) hcls
    obtain ⟨oL, _, _, hoL, _⟩ := id hn
    refine h _ ⟨I.ok, I.os, I.bare, ⟨fun b o e n hb hx => ?_, fun b o e n hb hx => ?_, I.base.free, fun b o e hx => ?_, I.base.tups, I.base.frzs, I.base.tbls⟩, ⟨_, hn', fun j y v' e1 e2 e3 => ?_⟩, fun y c e => ?_, I.free, I.freeC, fun p hp => ?_, tracked ⟨oL, hoL, I.free⟩ hs, by simpa using I.len⟩ ⟨_, hs, .inl rfl⟩
    · exact (hs.2 b (Nat.ne_of_lt (Nat.lt_of_lt_of_le (Heap.lt_size e) I.ok.above))).trans (I.base.keep b o e n hb hx)
    · obtain ⟨sl, e1⟩ := I.base.slot b o e n hb hx
      exact ⟨sl, (hs.2 b (Nat.ne_of_lt (Nat.lt_of_lt_of_le (Heap.lt_size e) I.ok.above))).trans e1⟩
    · obtain ⟨o', e1⟩ := I.base.there b o e hx
      exact ⟨o', (hs.2 b (Nat.ne_of_lt (Nat.lt_of_lt_of_le (Heap.lt_size e) I.ok.above))).trans e1⟩
    · by_cases hj : j = i
      · subst hj
        rw [hi] at e1; cases e1
        rw [List.getElem?_set_self hiσ] at e2
        cases e2
        exact ⟨u, r, .inl ⟨hk, by simp⟩⟩
      · rw [List.getElem?_set_ne (Ne.symm hj)] at e2
        obtain ⟨u', r', q⟩ := hl j y v' e1 e2 e3
        refine ⟨u', r', ?_⟩
        rcases q with ⟨k, e⟩ | ⟨k, c, e, z⟩
        · refine .inl ⟨k, ?_⟩
          have : y ≠ x := fun e => hj (nodup_ix hN e1 (e ▸ hi))
          simp [this, e]
        · exact .inr ⟨k, c, e, z.sameBut hs (cne y c e)⟩
    · obtain ⟨w', z⟩ := I.cell y c e
      exact ⟨w', z.sameBut hs (cne y c e)⟩
    · obtain ⟨e, n, ne, nf, d⟩ := I.pin p hp
      exact ⟨(hs.2 p.1 ne).trans e, n, ne, nf, d⟩
  · have hfn : X.fn x = true := by
      rcases hf with z | z
      · exact z
      · rw [z] at hk; cases hk
    obtain ⟨c, hc⟩ := I.ok.has x (.inl hk)
    obtain ⟨w', z⟩ := I.cell x c hc
    refine wpAny_storeName_cell I.ok.kind hk hc z (fun h' hc' hs => ?_)
    obtain ⟨oc, hoc, hocd⟩ := id z
    refine h { s with heap := h' } ⟨I.ok, I.os, I.bare, ⟨fun b o e n hb hx => ?_, fun b o e n hb hx => ?_, I.base.free, fun b o e hx => ?_, I.base.tups, I.base.frzs, I.base.tbls⟩, ⟨m, hn.sameBut hs (Ne.symm (cne x c hc)), fun j y v' e1 e2 e3 => ?_⟩, fun y c' e => ?_, I.free, I.freeC, fun p hp => ?_, tracked ⟨oc, hoc, I.freeC x c hc⟩ hs, by simpa using I.len⟩ ⟨c, hs, .inr hc⟩
    · exact (hs.2 b (Nat.ne_of_lt (Nat.lt_of_lt_of_le (Heap.lt_size e) (I.ok.cab x c hfn hc)))).trans (I.base.keep b o e n hb hx)
    · obtain ⟨sl, e1⟩ := I.base.slot b o e n hb hx
      exact ⟨sl, (hs.2 b (Nat.ne_of_lt (Nat.lt_of_lt_of_le (Heap.lt_size e) (I.ok.cab x c hfn hc)))).trans e1⟩
    · obtain ⟨o', e1⟩ := I.base.there b o e hx
      exact ⟨o', (hs.2 b (Nat.ne_of_lt (Nat.lt_of_lt_of_le (Heap.lt_size e) (I.ok.cab x c hfn hc)))).trans e1⟩
    · by_cases hj : j = i
      · subst hj
        rw [hi] at e1; cases e1
        rw [List.getElem?_set_self hiσ] at e2
        cases e2
        exact ⟨u, r, .inr ⟨.inl hk, c, hc, hc'⟩⟩
      · rw [List.getElem?_set_ne (Ne.symm hj)] at e2
        obtain ⟨u', r', q⟩ := hl j y v' e1 e2 e3
        refine ⟨u', r', ?_⟩
        rcases q with q | ⟨k, c', e, z'⟩
        · exact .inl q
        · refine .inr ⟨k, c', e, z'.sameBut hs ?_⟩
          rintro rfl
          exact hj (nodup_ix hN e1 (I.ok.inj _ _ _ e hc ▸ hi))
    · by_cases hcc : c' = c
      · subst hcc; exact ⟨_, hc'⟩
      · obtain ⟨w2, z2⟩ := I.cell y c' e
        exact ⟨w2, z2.sameBut hs hcc⟩
    · obtain ⟨e, n, ne, nf, d⟩ := I.pin p hp
      refine ⟨(hs.2 p.1 ?_).trans e, n, ne, nf, d⟩
      intro q
      rw [q, hoc] at e
      have q' : oc = p.2 := Option.some.inj e
      exact d w' (by rw [← q']; exact hocd)
theorem store_ok {M : Model} {A : Around} {E : Value → Shared → Prop} {i : Nat} {x : Str} {v : V} {u : Value} {Q : Unit → Shared → Prop} (I : Inv X pins σ H s) (hN : X.N.Nodup) (hi : X.N[i]? = some x) (hx : Loc X.env.scope x) (r : RelV v u)
    (h : ∀ s', Inv X pins (σ.set i (some v)) H s' → Q () s') (hf : X.fn x = true ∨ X.env.scope.names.lookup x = some .local := by first | exact .inl rfl | exact .inr rfl | assumption) : wpAny M A (storeName X.env x u) Q E s :=
  store_ok2 I hN hi hx r (fun s' I' _ => h s' I') hf
/-- behind a call or a block, the state as it is -/
theorem Inv.call' {s' : Shared} {ch : List Addr} (I : Inv X pins σ H s) (ho : s'.os = s.os) (u : Un (frs X.stack) ch H H' s.heap s'.heap) (hok : HOk X.prog X.w H' s'.heap) (hg : AllBare s'.gens)
    (hch : ∀ b ∈ ch, (b ∈ X.ex ∨ X.s₀.heap.objs.size ≤ b) ∧ b ≠ X.env.locals ∧ (∀ x c, X.env.cells.lookup x = some c → c ≠ b) ∧ ∀ p ∈ X.pn ++ pins, p.1 ≠ b) : Inv X pins σ H' s' := by
  obtain ⟨h', g', d', t', o'⟩ := s'
  have e : o' = s.os := ho
  subst e
  exact I.call (g' := g') (t' := t') (d' := d') u hok hg hch
end

/-- an exception: its class, its own dict's address (where it has one), the abstract heap behind it -/
abbrev XK := Value → Option Addr → Hp → Prop
abbrev St := List (Option V)
abbrev VK := V → Hp → Prop
/-- an expression's reading; a test's; an argument list's -/
abbrev TE := St → Hp → VK → Prop
abbrev TT := St → Hp → (Bool → Hp → Prop) → Prop
abbrev TA := St → Hp → (List V → Hp → Prop) → Prop
/-- what is wanted behind a statement -/
structure Ends where
  nx : St → Hp → Prop
  rt : VK
  bk : St → Hp → Prop := fun _ _ => False
  ct : St → Hp → Prop := fun _ _ => False
abbrev TS := Ends → St → Hp → Prop

def EP (X : Cx) (pins : List (Addr × Obj)) (σ : St) (Q : VK) (u : Value) (s' : Shared) : Prop := ∃ v H', Inv X pins σ H' s' ∧ RelV v u ∧ Q v H'
def TP (X : Cx) (pins : List (Addr × Obj)) (σ : St) (Q : Bool → Hp → Prop) (b : Bool) (s' : Shared) : Prop := ∃ H', Inv X pins σ H' s' ∧ Q b H'
def AP (X : Cx) (pins : List (Addr × Obj)) (σ : St) (Q : List V → Hp → Prop) (us : List Value) (s' : Shared) : Prop := ∃ vs H', Inv X pins σ H' s' ∧ Vals vs us ∧ Q vs H'
def SP (X : Cx) (pins : List (Addr × Obj)) (D : Ends) (f : Flow) (s' : Shared) : Prop :=
  match f with
  | .next => ∃ σ' H', Inv X pins σ' H' s' ∧ D.nx σ' H'
  | .brk => ∃ σ' H', Inv X pins σ' H' s' ∧ D.bk σ' H'
  | .cont => ∃ σ' H', Inv X pins σ' H' s' ∧ D.ct σ' H'
  | .ret u => ∃ v σ' H', Inv X pins σ' H' s' ∧ RelV v u ∧ D.rt v H'

def PE (X : Cx) (e : Expr) (t : TE) : Prop :=
  ∀ (pins : List (Addr × Obj)) (s : Shared) (σ : St) (H : Hp) (Q : VK), Inv X pins σ H s → t σ H Q → wpAny (model X.prog X.w) X.A (eval e X.env) (EP X pins σ Q) X.xe s
def PT (X : Cx) (e : Expr) (t : TT) : Prop :=
  ∀ (pins : List (Addr × Obj)) (s : Shared) (σ : St) (H : Hp) (Q : Bool → Hp → Prop), Inv X pins σ H s → t σ H Q → wpAny (model X.prog X.w) X.A (isTrue e X.env (eval e X.env)) (TP X pins σ Q) X.xe s
/-- a test whatever its 'whole' is (and, or) -/
def PW (X : Cx) (e : Expr) (t : TT) : Prop :=
  ∀ (whole : Sem Value) (pins : List (Addr × Obj)) (s : Shared) (σ : St) (H : Hp) (Q : Bool → Hp → Prop), Inv X pins σ H s → t σ H Q → wpAny (model X.prog X.w) X.A (isTrue e X.env whole) (TP X pins σ Q) X.xe s
theorem PW.pt {X : Cx} {e : Expr} {t : TT} (h : PW X e t) : PT X e t := h _
/-- an argument list (no star), from the left -/
def PA (X : Cx) (es : List Expr) (t : TA) : Prop :=
  ∀ (pos : Pos) (pins : List (Addr × Obj)) (s : Shared) (σ : St) (H : Hp) (Q : List V → Hp → Prop), Inv X pins σ H s → t σ H Q → wpAny (model X.prog X.w) X.A (spliced (backTo pos (starEach es X.env))) (AP X pins σ Q) X.xe s
def PS (X : Cx) (st : Stmt) (t : TS) : Prop :=
  ∀ (pins : List (Addr × Obj)) (s : Shared) (σ : St) (H : Hp) (D : Ends), Inv X pins σ H s → t D σ H → wpAny (model X.prog X.w) X.A (exec st X.env) (SP X pins D) X.xe s
def PSs (X : Cx) (st : List Stmt) (t : TS) : Prop :=
  ∀ (pins : List (Addr × Obj)) (s : Shared) (σ : St) (H : Hp) (D : Ends), Inv X pins σ H s → t D σ H → wpAny (model X.prog X.w) X.A (execs st X.env) (SP X pins D) X.xe s
/-- weaken the end -/
theorem thn {α : Type} {t : Sem α} {Q Q' : α → Shared → Prop} {M : Model} {A : Around} {E : Value → Shared → Prop} {s : Shared} (h : wpAny M A t Q E s) (hQ : ∀ a s, Q a s → Q' a s) : wpAny M A t Q' E s := wpAny_mono h hQ fun _ _ x => x
end L2

namespace L2
open PySem PySem.Spec PyProof.Rows
section
variable {X : Cx}

def tVar (i : Nat) : TE := fun σ H Q => ∃ v, σ[i]? = some (some v) ∧ Q v H
def tC (v : V) : TE := fun _ H Q => Q v H
theorem pe_var {i : Nat} {x : Str} {pos : Pos} (hN : X.N[i]? = some x) (hv : Vis X.env.scope x) (hd : (x == ("__debug__" : Str)) = false := by decide) (hcd : (x == ("__classdict__" : Str)) = false := by decide) : PE X (.Name x pos) (tVar i) := by
  intro pins s σ H Q I h
  obtain ⟨v, e, h⟩ := h
  obtain ⟨m, hn, hl⟩ := I.loc
  obtain ⟨u, r, l⟩ := hl i x v hN e hv
  have fin : EP X pins σ Q u s := ⟨v, H, I, r, h⟩
  rcases l with ⟨hk, hm⟩ | ⟨hk, c, hc, hcell⟩
  · exact wpAny_Name (wpAny_loadName_local I.ok.kind hk hn hm fin) hd
  · rcases hk with hk | hk
    · exact wpAny_Name (wpAny_loadName_cell I.ok.kind hk hc hcell fin) hd
    · exact wpAny_Name (wpAny_loadName_free I.ok.kind hk hc hcell fin hcd) hd
theorem pe_int {i j pos} : PE X (.Constant (.int i) j pos) (tC (.int i)) := fun _ _ _ H _ I h => wpAny_Constant_int ⟨.int i, H, I.tok _, ⟨_, rfl⟩, h⟩
theorem pe_bl {b j pos} : PE X (.Constant (.bool b) j pos) (tC (.bl b)) := fun _ _ _ H _ I h => Constant_bool ⟨.bl b, H, I, rfl, h⟩
theorem pe_non {j pos} : PE X (.Constant .none j pos) (tC .non) := fun _ _ _ H _ I h => Constant_none ⟨.non, H, I, rfl, h⟩
/-- a global name of the def -/
def Gl (X : Cx) (x : Str) : Prop := X.env.kindOf x = some .globalImplicit
theorem ld_glob {E : Value → Shared → Prop} {pins : List (Addr × Obj)} {s : Shared} {σ : St} {H : Hp} {x : Str} {u : Value} {pos : Pos} {Q : Value → Shared → Prop} (I : Inv X pins σ H s) (hg : Gl X x) (hm : X.mg x = some u) (h : Q u s)
    (hd : (x == ("__debug__" : Str)) = false := by decide) : wpAny (model X.prog X.w) X.A (eval (.Name x pos) X.env) Q E s :=
  Calls.Name_function_global I.ok.kind hg (Calls.loadGlobal_global (by rw [I.ok.glob]; exact I.mod.glob.keeps I.bk) hm h) hd
theorem ld_blt {E : Value → Shared → Prop} {pins : List (Addr × Obj)} {s : Shared} {σ : St} {H : Hp} {x : Str} {u : Value} {pos : Pos} {Q : Value → Shared → Prop} (I : Inv X pins σ H s) (hg : Gl X x) (hm : X.mg x = none) (hv : bootBuiltins x = some u) (h : Q u s)
    (hn : x ≠ "__name__" := by decide) (hd : (x == ("__debug__" : Str)) = false := by decide) : wpAny (model X.prog X.w) X.A (eval (.Name x pos) X.env) Q E s := by
  obtain ⟨mb, h1, h2⟩ := I.mod.blt
  exact Calls.Name_function_global I.ok.kind hg (Calls.loadGlobal_builtin (by rw [I.ok.glob]; exact I.mod.glob.keeps I.bk) hm (by rw [I.ok.blt]; exact h1.keeps I.bk) ((h2 x hn).trans hv) h) hd
/-- a module's constant, a class, a function, as a value -/
theorem pe_glob {x : Str} {v : V} {u : Value} {pos : Pos} (hg : Gl X x) (hm : X.mg x = some u) (r : RelV v u) (hd : (x == ("__debug__" : Str)) = false := by decide) : PE X (.Name x pos) (tC v) :=
  fun _ _ _ H _ I h => ld_glob I hg hm ⟨v, H, I, r, h⟩ hd
theorem pe_bltn {x : Str} {v : V} {u : Value} {pos : Pos} (hg : Gl X x) (hm : X.mg x = none) (hv : bootBuiltins x = some u) (r : RelV v u) (hn : x ≠ "__name__" := by decide) (hd : (x == ("__debug__" : Str)) = false := by decide) : PE X (.Name x pos) (tC v) :=
  fun _ _ _ H _ I h => ld_blt I hg hm hv ⟨v, H, I, r, h⟩ hn hd

/-- two ints -/
def t2I (ta tb : TE) (k : Int → Int → Hp → Prop) : St → Hp → Prop := fun σ H => ta σ H fun x H1 => tb σ H1 fun y H2 => ∃ i j, x = .int i ∧ y = .int j ∧ k i j H2
def tAdd (ta tb : TE) : TE := fun σ H Q => t2I ta tb (fun i j H2 => Q (.int (i + j)) H2) σ H
def tSub (ta tb : TE) : TE := fun σ H Q => t2I ta tb (fun i j H2 => Q (.int (i - j)) H2) σ H
/-- the left factor below 2^64 -/
def tMul (ta tb : TE) : TE := fun σ H Q => t2I ta tb (fun i j H2 => (-(2 ^ 64) < i ∧ i < 2 ^ 64) ∧ Q (.int (i * j)) H2) σ H
variable {a b : Expr} {ta tb : TE} {pos : Pos}
def PC (X : Cx) (op : CmpOp) (a b : Expr) (t : TE) : Prop :=
  ∀ (pins : List (Addr × Obj)) (s : Shared) (σ : St) (H : Hp) (Q : VK), Inv X pins σ H s → t σ H Q →
    wpAny (model X.prog X.w) X.A (eval a X.env) (fun v s₁ => wpAny (model X.prog X.w) X.A (eval b X.env) (fun u s₂ => wpAny (model X.prog X.w) X.A (compareOp op v u) (EP X pins σ Q) X.xe s₂) X.xe s₁) X.xe s
theorem nobehind (b : Expr) {op : CmpOp} (h : op ≠ .In) (h2 : op ≠ .NotIn) : behindInMarks op b = false := by
  have e1 : (op == CmpOp.In) = false := by cases op <;> first | rfl | exact absurd rfl h
  have e2 : (op == CmpOp.NotIn) = false := by cases op <;> first | rfl | exact absurd rfl h2
  cases b <;> simp [behindInMarks, e1, e2]
def tCmp (p : Int → Int → Bool) (ta tb : TE) : TE := fun σ H Q => t2I ta tb (fun i j H2 => Q (.bl (p i j)) H2) σ H
abbrev tLt : TE → TE → TE := tCmp fun i j => decide (i < j)
abbrev tLe : TE → TE → TE := tCmp fun i j => decide (i ≤ j)
abbrev tGt : TE → TE → TE := tCmp fun i j => decide (j < i)
abbrev tGe : TE → TE → TE := tCmp fun i j => decide (j ≤ i)
abbrev tEqI : TE → TE → TE := tCmp fun i j => decide (i = j)
abbrev tNeI : TE → TE → TE := tCmp fun i j => !decide (i = j)
/-- is None -/
def tIsN (ta : TE) : TE := fun σ H Q => ta σ H fun x H1 => Q (.bl (decide (x = .non))) H1
def tNotN (ta : TE) : TE := fun σ H Q => ta σ H fun x H1 => Q (.bl (!decide (x = .non))) H1
/-- a comparison as a value, as a test -/
def tB (t : TE) : TT := fun σ H Q => t σ H fun x H1 => ∃ c, x = .bl c ∧ Q c H1
theorem pt_cmp {op : CmpOp} {t : TE} (h : PC X op a b t) (h1 : behindInMarks op b = false := by first | exact nobehind _ (by decide) (by decide) | rfl) : PT X (.Compare a [op] [b] pos) (tB t) := by
  intro pins s σ H Q I hw
  refine wpAny_isTrue_Compare1 (thn (h pins s σ H _ I hw) fun v s1 h1 => thn h1 fun u s2 h2 => thn h2 fun c s3 ⟨x, H1, I1, r1, q1⟩ => ?_) h1
  obtain ⟨d, rfl, q⟩ := q1
  cases r1
  exact wpAny_truthy_bool ⟨H1, I1, q⟩
/-- an expression whose value is a bool, as a test -/
theorem pt_val {e : Expr} {t : TE} (h : PE X e t) (he : ∀ whole, isTrue e X.env whole = (do let v ← whole; standAt e.pos; holding [v] (truthy v)) := by intro _; rfl) : PT X e (tB t) := by
  intro pins s σ H Q I hw
  refine isTrue_plain (thn (h pins s σ H _ I hw) fun v s1 ⟨x, H1, I1, r1, q1⟩ => ?_) (he _)
  obtain ⟨d, rfl, q⟩ := q1
  cases r1
  exact wpAny_truthy_bool ⟨H1, I1, q⟩

variable {tA tB' : TT} {rest : List Expr}
def tAnd (t u : TT) : TT := fun σ H Q => t σ H fun c H1 => if c = true then u σ H1 Q else Q false H1
def tOr (t u : TT) : TT := fun σ H Q => t σ H fun c H1 => if c = true then Q true H1 else u σ H1 Q
def tNot (t : TT) : TT := fun σ H Q => t σ H fun c H1 => Q (!c) H1
theorem pw_and1 (ha : PT X a tA) : PW X (.BoolOp .And [a] pos) tA := by
  intro wh pins s σ H Q I h
  refine isTrue_and (thn (ha pins s σ H Q I h) fun c s1 e => ?_)
  cases c with
  | true => exact isTrue_and_nil e
  | false => exact e
theorem pw_or1 (ha : PT X a tA) : PW X (.BoolOp .Or [a] pos) tA := by
  intro wh pins s σ H Q I h
  refine isTrue_or (thn (ha pins s σ H Q I h) fun c s1 e => ?_)
  cases c with
  | false => exact isTrue_or_nil e
  | true => exact e
theorem pw_and (ha : PT X a tA) (hb : PW X (.BoolOp .And (b :: rest) pos) tB') : PW X (.BoolOp .And (a :: b :: rest) pos) (tAnd tA tB') := by
  intro wh pins s σ H Q I h
  refine isTrue_and (thn (ha pins s σ H _ I h) fun c s1 ⟨H1, I1, q1⟩ => ?_)
  cases c with
  | true => exact hb wh pins s1 σ H1 Q I1 q1
  | false => exact ⟨H1, I1, q1⟩
theorem pw_or (ha : PT X a tA) (hb : PW X (.BoolOp .Or (b :: rest) pos) tB') : PW X (.BoolOp .Or (a :: b :: rest) pos) (tOr tA tB') := by
  intro wh pins s σ H Q I h
  refine isTrue_or (thn (ha pins s σ H _ I h) fun c s1 ⟨H1, I1, q1⟩ => ?_)
  cases c with
  | true => exact ⟨H1, I1, q1⟩
  | false => exact hb wh pins s1 σ H1 Q I1 q1
theorem pt_not (ha : PT X a tA) : PT X (.UnaryOp .Not a pos) (tNot tA) := by
  intro pins s σ H Q I h
  exact isTrue_not (ha pins s σ H (fun c H1 => Q (!c) H1) I h)
/-- .. as values (bools) -/
def tAndV (ta tb : TE) : TE := fun σ H Q => ta σ H fun x H1 => ∃ c, x = .bl c ∧ if c = true then tb σ H1 Q else Q (.bl false) H1
def tOrV (ta tb : TE) : TE := fun σ H Q => ta σ H fun x H1 => ∃ c, x = .bl c ∧ if c = true then Q (.bl true) H1 else tb σ H1 Q
def tNotV (ta : TE) : TE := fun σ H Q => ta σ H fun x H1 => ∃ c, x = .bl c ∧ Q (.bl (!c)) H1
theorem pe_one {op} {t : TE} (h : PE X a t) : PE X (.BoolOp op [a] pos) t := fun pins s σ H Q I hw => BoolOp_one (h pins s σ H Q I hw)
theorem pe_or (ha : PE X a ta) (hb : PE X (.BoolOp .Or (b :: rest) pos) tb) : PE X (.BoolOp .Or (a :: b :: rest) pos) (tOrV ta tb) := by
  intro pins s σ H Q I h
  refine BoolOp_or (thn (ha pins s σ H _ I h) fun v s1 ⟨x, H1, I1, r1, q1⟩ => ?_)
  obtain ⟨c, rfl, q1⟩ := q1
  cases r1
  refine wpAny_truthy_bool ?_
  cases c with
  | false => exact hb pins s1 σ H1 Q I1 q1
  | true => exact ⟨.bl true, H1, I1, rfl, q1⟩
/-- a if t else b -/
def tIf (t : TT) (ta tb : TE) : TE := fun σ H Q => t σ H fun c H1 => if c = true then ta σ H1 Q else tb σ H1 Q
end
end L2

namespace L2
open PySem PySem.Spec PyProof.Rows

def SqL (K : PySem.W.Frag) (H : Hp) (a : Addr) (xs : List V) : Prop :=
  Rd H a (.lst xs) ∨
    ∃ (o : Obj) (its : Array Value) (n : Nat), K.lookup a = some o ∧ o.cls = .type "list" ∧ o.dict = none ∧ o.data = .seq its n ∧ its.size ≤ sizeLine ∧ Vals xs its.toList
def SqT (K : PySem.W.Frag) (H : Hp) (a : Addr) (xs : List V) : Prop :=
  Rd H a (.tup xs) ∨
    ∃ (o : Obj) (its : Array Value) (n : Nat), K.lookup a = some o ∧ o.cls = .type "tuple" ∧ o.data = .seq its n ∧ its.size ≤ sizeLine ∧ Vals xs its.toList
def absV : Value → Option V
  | .none => some .non
  | .bool b => some (.bl b)
  | .int i _ => some (.int i)
  | .str x _ => some (.str x)
  | .bytes b _ => some (.byt b)
  | .float b _ => some (.flt b)
  | .ref a => some (.ref a)
  | .type n => some (.ty n)
  | _ => none
theorem RelV.abs {x : V} {u : Value} (r : RelV x u) : absV u = some x := by
  cases x with
  | non => cases r; rfl
  | bl _ => cases r; rfl
  | int _ => obtain ⟨t, rfl⟩ := r; rfl
  | str _ => obtain ⟨t, rfl⟩ := r; rfl
  | byt _ => obtain ⟨t, rfl⟩ := r; rfl
  | flt _ => obtain ⟨t, rfl⟩ := r; rfl
  | ref _ => cases r; rfl
  | ty _ => cases r; rfl
theorem RelV.inj {x y : V} {u : Value} (r : RelV x u) (q : RelV y u) : x = y := Option.some.inj (r.abs.symm.trans q.abs)
theorem Vals.inj : ∀ {xs ys : List V} {us : List Value}, Vals xs us → Vals ys us → xs = ys
  | _, _, _, .nil, .nil => rfl
  | _, _, _, .cons r t, .cons r' t' => by rw [r.inj r', Vals.inj t t']
section
variable {X : Cx} {pins : List (Addr × Obj)} {σ : St} {H : Hp} {s : Shared} {a : Addr} {xs ys : List V}
theorem SqL.of {K : PySem.W.Frag} (h : H a = some (.lst xs)) : SqL K H a xs := .inl (.inl h)
theorem SqT.of {K : PySem.W.Frag} (h : H a = some (.tup xs)) : SqT K H a xs := .inl (.inl h)
theorem Inv.list (I : Inv X pins σ H s) (h : SqL X.K H a xs) : ∃ its : List Value, Vals xs its ∧ PlainL s.heap a its.toArray ∧ xs.length ≤ sizeLine := by
  rcases h with h | ⟨o, its, n, hk, hc, hd, hs, hz, r⟩
  · obtain ⟨z, its, n, r, e⟩ := h.ok I.hok
    exact ⟨its, r, ⟨_, n, e, rfl, rfl, rfl⟩, z⟩
  · refine ⟨its.toList, r, ⟨o, n, I.kIn a o hk, hc, hd, by simpa using hs⟩, ?_⟩
    have e := r.length
    simp only [Array.length_toList] at e
    omega
theorem Inv.tuple (I : Inv X pins σ H s) (h : SqT X.K H a xs) : ∃ its : List Value, Vals xs its ∧ IsTup s.heap a its.toArray ∧ xs.length ≤ sizeLine := by
  rcases h with h | ⟨o, its, n, hk, hc, hs, hz, r⟩
  · obtain ⟨z, its, r, p⟩ := h.ok I.hok
    exact ⟨its, r, p, z⟩
  · refine ⟨its.toList, r, ⟨o, I.kIn a o hk, hc, n, by simpa using hs⟩, ?_⟩
    have e := r.length
    simp only [Array.length_toList] at e
    omega
theorem Inv.list_inj (I : Inv X pins σ H s) (h : SqL X.K H a xs) (h' : SqL X.K H a ys) : xs = ys := by
  obtain ⟨its, r, ⟨o, n, e, _, _, d⟩, _⟩ := I.list h
  obtain ⟨its', r', ⟨o', n', e', _, _, d'⟩, _⟩ := I.list h'
  rw [e] at e'; cases e'
  rw [d] at d'
  injection d' with d1 _
  have : its = its' := by simpa using congrArg Array.toList d1
  subst this
  exact r.inj r'
end

abbrev Cx.wish (X : Cx) (E : Value → Shared → Prop) : Cx := { X with xe := E }
/-- no exception leaves -/
abbrev Cx.nox (X : Cx) : Cx := X.wish fun _ _ => False
theorem Cx.Ok.wish {X : Cx} (ok : X.Ok) (E : Value → Shared → Prop) : (X.wish E).Ok :=
  ⟨ok.mod, ok.kind, ok.glob, ok.blt, ok.above, ok.inj, ok.has, ok.cab, ok.hd, ok.frames, ok.stk, ok.exf, ok.bs, ok.bsz, ok.noex, ok.exfs, ok.funs, ok.frf⟩
theorem Cx.Ok.unwish {X : Cx} {E : Value → Shared → Prop} (ok : (X.wish E).Ok) : X.Ok :=
  ⟨ok.mod, ok.kind, ok.glob, ok.blt, ok.above, ok.inj, ok.has, ok.cab, ok.hd, ok.frames, ok.stk, ok.exf, ok.bs, ok.bsz, ok.noex, ok.exfs, ok.funs, ok.frf⟩
section
variable {X : Cx} {pins : List (Addr × Obj)} {σ : St} {H : Hp} {s : Shared} {E : Value → Shared → Prop}
theorem Inv.wish (I : Inv X pins σ H s) (E : Value → Shared → Prop) : Inv (X.wish E) pins σ H s := ⟨I.ok.wish E, I.os, I.bare, I.base, I.loc, I.cell, I.free, I.freeC, I.pin, I.hok, I.len⟩
theorem Inv.unwish (I : Inv (X.wish E) pins σ H s) : Inv X pins σ H s := ⟨I.ok.unwish, I.os, I.bare, I.base, I.loc, I.cell, I.free, I.freeC, I.pin, I.hok, I.len⟩
theorem SP.unwish {D : Ends} {f : Flow} {s' : Shared} (h : SP (X.wish E) pins D f s') : SP X pins D f s' := by
  cases f with
  | next => obtain ⟨σ', H', I, q⟩ := h; exact ⟨σ', H', I.unwish, q⟩
  | brk => obtain ⟨σ', H', I, q⟩ := h; exact ⟨σ', H', I.unwish, q⟩
  | cont => obtain ⟨σ', H', I, q⟩ := h; exact ⟨σ', H', I.unwish, q⟩
  | ret u => obtain ⟨v, σ', H', I, r, q⟩ := h; exact ⟨v, σ', H', I.unwish, r, q⟩
theorem PE.nox {e : Expr} {t : TE} (h : PE X.nox e t) : PE X e t := fun pins s σ H Q I hw =>
  wpAny_mono (h pins s σ H Q (I.wish _) hw) (fun _ _ ⟨v, H', I', r, q⟩ => ⟨v, H', I'.unwish, r, q⟩) fun _ _ z => False.elim z
theorem PT.nox {e : Expr} {t : TT} (h : PT X.nox e t) : PT X e t := fun pins s σ H Q I hw =>
  wpAny_mono (h pins s σ H Q (I.wish _) hw) (fun _ _ ⟨H', I', q⟩ => ⟨H', I'.unwish, q⟩) fun _ _ z => False.elim z
theorem PSs.nox {st : List Stmt} {t : TS} (h : PSs X.nox st t) : PSs X st t := fun pins s σ H D I hw =>
  wpAny_mono (h pins s σ H D (I.wish _) hw) (fun _ _ q => q.unwish) fun _ _ z => False.elim z
end

section
variable {X : Cx} {st : Stmt} {rest : List Stmt} {t u : TS} {e : Expr} {te : TE} {pos : Pos}
def tNext : TS := fun D σ H => D.nx σ H
def tSeq (t u : TS) : TS := fun D σ H => t { D with nx := u D } σ H
theorem pss_nil : PSs X [] tNext := fun _ _ σ H _ I h => wpAny_execs_nil ⟨σ, H, I, h⟩
theorem pss_cons (h1 : PS X st t) (h2 : PSs X rest u) : PSs X (st :: rest) (tSeq t u) := by
  intro pins s σ H D I h
  refine wpAny_execs_cons (thn (h1 pins s σ H { D with nx := u D } I h) fun f s1 q => ?_)
  cases f with
  | next =>
    obtain ⟨σ', H', I', q⟩ := q
    exact h2 pins s1 σ' H' D I' q
  | ret v => exact q
  | brk => exact q
  | cont => exact q
theorem pss_one (h1 : PS X st t) : PSs X [st] t := by
  intro pins s σ H D I h
  refine wpAny_execs_cons (thn (h1 pins s σ H D I h) fun f s1 q => ?_)
  cases f with
  | next => exact wpAny_execs_nil q
  | ret v => exact q
  | brk => exact q
  | cont => exact q
def tBreak : TS := fun D σ H => D.bk σ H
def tCont : TS := fun D σ H => D.ct σ H
/-- in a def's body nothing is shown -/
theorem Inv.quiet {pins : List (Addr × Obj)} {σ : St} {H : Hp} {s : Shared} (I : Inv X pins σ H s) : interactive X.env = false := by simp [interactive, I.ok.kind]
/-- an expression whose value is dropped -/
def tDrop (te : TE) : TS := fun D σ H => te σ H fun _ H1 => D.nx σ H1
theorem ps_expr (he : PE X e te) (hs : swapsWith e none pos.line X.env = pure false := by rfl) : PS X (.Expr e pos) (tDrop te) := by
  intro pins s σ H D I h
  exact wpAny_Expr_any (thn (he pins s σ H _ I h) fun v s1 ⟨x, H1, I1, r1, q1⟩ => ⟨σ, H1, I1, q1⟩) I.quiet hs
def tRet (te : TE) : TS := fun D σ H => te σ H D.rt
theorem ps_ret (he : PE X e te) : PS X (.Return (some e) pos) (tRet te) := by
  intro pins s σ H D I h
  exact wpAny_Return_some (thn (he pins s σ H _ I h) fun v s1 ⟨x, H1, I1, r1, q1⟩ => ⟨x, σ, H1, I1, r1, q1⟩)
def tRetN : TS := fun D _ H => D.rt .non H
def tIfS (c : TT) (t u : TS) : TS := fun D σ H => c σ H fun b H1 => if b = true then t D σ H1 else u D σ H1
theorem ps_if {c : Expr} {a b : List Stmt} {tc : TT} (hc : PT X c tc) (ha : PSs X a t) (hb : PSs X b u) : PS X (.If c a b pos) (tIfS tc t u) := by
  intro pins s σ H D I h
  refine wpAny_If (thn (hc pins s σ H _ I h) fun d s1 ⟨H1, I1, q1⟩ => ?_)
  cases d with
  | true => exact ha pins s1 σ H1 D I1 q1
  | false => exact hb pins s1 σ H1 D I1 q1
/-- code that the proof never comes to -/
def tNever : TS := fun _ _ _ => False
theorem ps_never : PS X st tNever := fun _ _ _ _ _ _ h => h.elim
end

abbrev TG := V → St → Hp → (St → Hp → Prop) → Prop
abbrev TGs := List V → St → Hp → (St → Hp → Prop) → Prop
def PG (X : Cx) (target : Expr) (t : TG) : Prop :=
  ∀ (pins : List (Addr × Obj)) (s : Shared) (σ : St) (H : Hp) (v : V) (u : Value) (Q : St → Hp → Prop), Inv X pins σ H s → RelV v u → t v σ H Q →
    wpAny (model X.prog X.w) X.A (assign target X.env u) (fun _ s' => ∃ σ' H', Inv X pins σ' H' s' ∧ Q σ' H') X.xe s
/-- several targets, one after another -/
def PGs (X : Cx) (ts : List Expr) (t : TGs) : Prop :=
  ∀ (pins : List (Addr × Obj)) (s : Shared) (σ : St) (H : Hp) (vs : List V) (us : List Value) (Q : St → Hp → Prop), Inv X pins σ H s → Vals vs us → t vs σ H Q →
    wpAny (model X.prog X.w) X.A (assignInOrder ((assignEach ts X.env).map (·.2)) us) (fun _ s' => ∃ σ' H', Inv X pins σ' H' s' ∧ Q σ' H') X.xe s
/-- o[i] = v, by values -/
abbrev TSet := V → V → V → Hp → (Hp → Prop) → Prop
def PSet (X : Cx) (t : TSet) : Prop :=
  ∀ (pins : List (Addr × Obj)) (s : Shared) (σ : St) (H : Hp) (o i v : V) (ov iv u : Value) (Q : Hp → Prop), Inv X pins σ H s → RelV o ov → RelV i iv → RelV v u → t o i v H Q →
    wpAny (model X.prog X.w) X.A (setItem ov iv u) (fun _ s' => ∃ H', Inv X pins σ H' s' ∧ Q H') X.xe s
/-- a op= b, by values -/
abbrev TIp := V → V → Hp → VK → Prop
def PIp (X : Cx) (op : Operator) (t : TIp) : Prop :=
  ∀ (pins : List (Addr × Obj)) (s : Shared) (σ : St) (H : Hp) (x y : V) (v u : Value) (Q : VK), Inv X pins σ H s → RelV x v → RelV y u → t x y H Q →
    wpAny (model X.prog X.w) X.A (inplaceOp op v u) (EP X pins σ Q) X.xe s
section
variable {X : Cx} {pos : Pos}
def gName (i : Nat) : TG := fun v σ H Q => Q (σ.set i (some v)) H
theorem pg_name {i : Nat} {x : Str} (hN : X.N.Nodup) (hi : X.N[i]? = some x) (hx : Loc X.env.scope x) (hf : X.fn x = true ∨ X.env.scope.names.lookup x = some .local := by first | exact .inl rfl | exact .inr rfl | assumption) : PG X (.Name x pos) (gName i) := by
  intro pins s σ H v u Q I r h
  exact wpAny_assign_Name (store_ok I hN hi hx r (fun s' I' => ⟨_, H, I', h⟩) hf)
def gNil : TGs := fun vs σ H Q => vs = [] ∧ Q σ H
def gCons (t : TG) (u : TGs) : TGs := fun vs σ H Q => ∃ v r, vs = v :: r ∧ t v σ H fun σ' H' => u r σ' H' Q
theorem pgs_nil : PGs X [] gNil := by
  intro pins s σ H vs us Q I r h
  obtain ⟨e, h⟩ := h
  subst e
  cases r
  exact assignInOrder_nil ⟨σ, H, I, h⟩
theorem pgs_cons {e : Expr} {es : List Expr} {t : TG} {u : TGs} (h1 : PG X e t) (h2 : PGs X es u)
    (hs : (assignEach (e :: es) X.env).map (·.2) = assign e X.env :: (assignEach es X.env).map (·.2) := by rfl) : PGs X (e :: es) (gCons t u) := by
  intro pins s σ H vs us Q I r h
  obtain ⟨v, vr, e1, h⟩ := h
  subst e1
  cases r with
  | cons r rr =>
    rw [hs]
    refine assignInOrder_cons (thn (h1 pins s σ H _ _ _ I r h) fun _ s1 ⟨σ1, H1, I1, q1⟩ => ?_)
    exact h2 pins s1 σ1 H1 _ _ Q I1 rr q1
/-- (a, b, ..) = a tuple of that length -/
def gTup (K : PySem.W.Frag) (n : Nat) (t : TGs) : TG := fun v σ H Q => ∃ a xs, v = .ref a ∧ SqT K H a xs ∧ xs.length = n ∧ t xs σ H Q
theorem pg_tup {es : List Expr} {k : Nat} {t : TGs} {n : Nat} (hc : X.calm = true) (h : PGs X es t)
    (hn : (assignEach es X.env).length = n := by rfl) (hst : (assignEach es X.env).findIdx? (·.1) = none := by rfl) : PG X (.Tuple es k pos) (gTup X.K n t) := by
  intro pins s σ H v u Q I r hw
  obtain ⟨a, xs, e1, hq, hl, hw⟩ := hw
  subst e1
  cases r
  obtain ⟨its, rv, ht, hz⟩ := I.tuple hq
  refine assign_Tuple_tuple (I.ok.hd hc) ht (by simp [hn, ← hl, rv.length]) hst fun h' hx => ?_
  have I1 : Inv X pins σ H { s with heap := h' } := I.kept (t' := s.toks) fun b o e => hx b o (Nat.ne_of_lt (Heap.lt_size e)) e
  exact h pins _ σ H xs _ Q I1 (by simpa using rv) hw
/-- o[i] = .. -/
def gSub (to ti : TE) (t : TSet) : TG := fun v σ H Q => to σ H fun o H1 => ti σ H1 fun i H2 => t o i v H2 fun H3 => Q σ H3
/-- target = value -/
def tAsg (te : TE) (g : TG) : TS := fun D σ H => te σ H fun x H1 => g x σ H1 D.nx
/-- name = value -/
theorem ps_set {i : Nat} {x : Str} {e : Expr} {te : TE} {pos' : Pos} (hN : X.N.Nodup) (hi : X.N[i]? = some x) (hx : Loc X.env.scope x) (he : PE X e te) (hs : swapsWith e (some (.Name x pos')) pos.line X.env = pure false := by rfl) (hf : X.fn x = true ∨ X.env.scope.names.lookup x = some .local := by first | exact .inl rfl | exact .inr rfl | assumption) :
    PS X (.Assign [.Name x pos'] e pos) (tAsg te (gName i)) := by
  intro pins s σ H D I h
  refine wpAny_Assign_Name (thn (he pins s σ H _ I h) fun v s1 ⟨y, H1, I1, r1, q1⟩ => ?_) hs
  exact store_ok I1 hN hi hx r1 (fun s2 I2 => ⟨_, H1, I2, q1⟩) hf
/-- a, b = x, y with plain local names: stored from the right; the pair itself is not tracked (the opening rows as in PyProof/Rows/TupAssign.lean:23) -/
def tPar (i j : Nat) (ta : TA) : TS := fun D σ H => ta σ H fun vs H1 => ∃ v w, vs = [v, w] ∧ D.nx ((σ.set i (some v)).set j (some w)) H1
/-- name op= e -/
def tAug (i : Nat) (te : TE) (ti : TIp) : TS := fun D σ H => ∃ x, σ[i]? = some (some x) ∧ te σ H fun y H1 => ti x y H1 fun z H2 => D.nx (σ.set i (some z)) H2
theorem ps_aug {i : Nat} {x : Str} {e : Expr} {te : TE} {op : Operator} {ti : TIp} {pos' : Pos} (hN : X.N.Nodup) (hi : X.N[i]? = some x) (hx : Loc X.env.scope x) (he : PE X e te) (ho : PIp X op ti) (hf : X.fn x = true ∨ X.env.scope.names.lookup x = some .local := by first | exact .inl rfl | exact .inr rfl | assumption) :
    PS X (.AugAssign (.Name x pos') op e pos) (tAug i te ti) := by
  intro pins s σ H D I h
  obtain ⟨v, e1, h⟩ := h
  obtain ⟨m, hn, hl⟩ := I.loc
  have vis : Vis X.env.scope x := by rcases hx with k | k; exact .inl k; exact .inr (.inl k)
  obtain ⟨u, r, l⟩ := hl i x v hi e1 vis
  refine wpAny_AugAssign_Name ?_
  have go : wpAny (model X.prog X.w) X.A (eval e X.env) (fun w s₂ => wpAny (model X.prog X.w) X.A (inplaceOp op u w) (fun r s₃ => wpAny (model X.prog X.w) X.A (storeName X.env x r) (fun _ => SP X pins D .next) X.xe s₃) X.xe s₂) X.xe s := by
    refine thn (he pins s σ H _ I h) fun w s1 ⟨y, H1, I1, r1, q1⟩ => ?_
    refine thn (ho pins s1 σ H1 v y u w _ I1 r r1 q1) fun z s2 ⟨zv, H2, I2, r2, q2⟩ => ?_
    exact store_ok I2 hN hi hx r2 (fun s3 I3 => ⟨_, H2, I3, q2⟩) hf
  rcases l with ⟨hk, hm⟩ | ⟨hk, c, hc, hcell⟩
  · exact wpAny_loadName_local I.ok.kind hk hn hm go
  · rcases hk with hk | hk
    · exact wpAny_loadName_cell I.ok.kind hk hc hcell go
    · rcases hx with k | k
      · have : X.env.scope.names.lookup x = some .free := hk
        rw [k] at this; cases this
      · have : X.env.scope.names.lookup x = some .free := hk
        rw [k] at this; cases this
/-- o[i] op= e -/
def tAugS (to ti te : TE) (tget : V → V → Hp → VK → Prop) (tip : TIp) (tset : TSet) : TS := fun D σ H => to σ H fun o H1 => ti σ H1 fun i H2 => tget o i H2 fun x H3 => te σ H3 fun y H4 => tip x y H4 fun z H5 => tset o i z H5 fun H6 => D.nx σ H6
/-- o[i], by values -/
def PGet (X : Cx) (t : V → V → Hp → VK → Prop) : Prop :=
  ∀ (pins : List (Addr × Obj)) (s : Shared) (σ : St) (H : Hp) (o i : V) (ov iv : Value) (Q : VK), Inv X pins σ H s → RelV o ov → RelV i iv → t o i H Q →
    wpAny (model X.prog X.w) X.A (getItem ov iv) (EP X pins σ Q) X.xe s
/-- ints -/
def ipI (f : Int → Int → Int) : TIp := fun x y H Q => ∃ i j, x = .int i ∧ y = .int j ∧ Q (.int (f i j)) H
theorem ip_add : PIp X .Add (ipI fun i j => i + j) := by
  intro pins s σ H x y v u Q I r1 r2 h
  obtain ⟨i, j, e1, e2, q⟩ := h
  subst e1; subst e2
  obtain ⟨t, rfl⟩ := r1
  obtain ⟨t', rfl⟩ := r2
  exact iadd_int ⟨.int _, H, I.tok _, ⟨_, rfl⟩, q⟩
end

section
variable {X : Cx} {pos : Pos}
/-- the invariant W with its measure -/
def tWhile (c : TT) (tb : TS) : TS := fun D σ H => ∃ W : Nat → St → Hp → Prop, (∃ m, W m σ H) ∧ ∀ m σ H, W m σ H →
  c σ H fun b H1 => if b = true then ∃ N : St → Hp → Prop, (∀ σ' H', N σ' H' → ∃ m', m' < m ∧ W m' σ' H') ∧ tb { D with nx := N, ct := N, bk := D.nx } σ H1 else D.nx σ H1
theorem ps_while {c : Expr} {body : List Stmt} {tc : TT} {tb : TS} (hp : PassesOwn (model X.prog X.w) X.A X.env X.xe) (hc : PT X c tc) (hb : PSs X body tb) : PS X (.While c body [] pos) (tWhile tc tb) := by
  intro pins s σ H D I h
  obtain ⟨W, ⟨m0, w0⟩, turn⟩ := h
  refine wpAny_While (codeAny_whileLoop (fun n s' => ∃ σ' H', Inv X pins σ' H' s' ∧ W n σ' H') ?_ m0 ⟨σ, H, I, w0⟩)
  rintro n s1 ⟨σ1, H1, I1, w1⟩
  refine wpAny_passesOwn hp (thn (hc pins s1 σ1 H1 _ I1 (turn n σ1 H1 w1)) fun b s2 ⟨H2, I2, q2⟩ => ?_)
  cases b with
  | true =>
    obtain ⟨N, hN, q2⟩ := q2
    rw [if_pos rfl]
    refine wpAny_passesOwn hp (thn (hb pins s2 σ1 H2 _ I2 q2) fun f s3 q3 => ?_)
    cases f with
    | next =>
      obtain ⟨σ3, H3, I3, n3⟩ := q3
      obtain ⟨m', hm, w3⟩ := hN σ3 H3 n3
      exact ⟨m', hm, σ3, H3, I3, w3⟩
    | cont =>
      obtain ⟨σ3, H3, I3, n3⟩ := q3
      obtain ⟨m', hm, w3⟩ := hN σ3 H3 n3
      exact ⟨m', hm, σ3, H3, I3, w3⟩
    | brk => exact q3
    | ret v => exact q3
  | false =>
    rw [if_neg Bool.false_ne_true]
    exact wpAny_execs_nil ⟨σ1, H2, I2, q2⟩
end

/-- at turn i: it yields x (the heap may grow), or it stops -/
structure It where
  go : Nat → Hp → Prop
  yld : Nat → Hp → V → Hp → Prop
  stop : Nat → Hp → Prop
/-- the iterator's own objects may turn: they are not the frame's, not pinned, younger than the entry (or a comprehension's own) -/
def FpOk (X : Cx) (pins : List (Addr × Obj)) (H : Hp) (b : Addr) : Prop :=
  H b = none ∧ b ≠ X.env.locals ∧ b ∉ X.fs ∧ (b ∈ X.ex ∨ X.s₀.heap.objs.size ≤ b) ∧ (∀ x c, X.env.cells.lookup x = some c → c ≠ b) ∧ ∀ p ∈ X.pn ++ pins, p.1 ≠ b
theorem Inv.fpOk {X : Cx} {pins : List (Addr × Obj)} {σ : St} {H H' : Hp} {s : Shared} {b : Addr} (I : Inv X pins σ H s) (hb : s.heap.objs.size ≤ b) (hn : H' b = none) : FpOk X pins H' b := by
  refine ⟨hn, Nat.ne_of_gt (Nat.lt_of_lt_of_le I.lt hb), I.nofs hb, .inr (Nat.le_trans I.sz hb), fun x c e z => ?_, fun p hp z => ?_⟩
  · obtain ⟨v, q⟩ := I.cell x c e
    exact absurd (Nat.lt_of_lt_of_le q.lt (by rw [z]; exact hb)) (Nat.lt_irrefl _)
  · exact absurd (Nat.lt_of_lt_of_le (Heap.lt_size (I.pin p hp).1) (by rw [z]; exact hb)) (Nat.lt_irrefl _)
structure Turn (P : Program) (w : World) (K : PySem.W.Frag) (tg : Expr) (J : It) (fp : List Addr) (it : Addr) (tn : Nat → Heap → Prop) : Prop where
  mem : it ∈ fp
  obj : ∀ i h, tn i h → ∀ b ∈ fp, ∃ o, h.get? b = some o ∧ ∀ v, o.data ≠ .cell v
  keep : ∀ i h h', tn i h → (∀ b ∈ fp, ∀ o, h.get? b = some o → h'.get? b = some o) → tn i h'
  item : ∀ (X : Cx), X.prog = P → X.w = w → X.K = K → X.calm = true → ∀ (i : Nat) (pins : List (Addr × Obj)) (s : Shared) (σ : St) (H : Hp) (E : Value → Shared → Prop), Inv X pins σ H s → (∀ b ∈ fp, FpOk X pins H b) → tn i s.heap → J.go i H →
    wpAny (model P w) X.A (pyNext (.ref it)) (fun r s1 => ∃ u, r = some u ∧
      wpAny (model P w) X.A (letOwnedTupleGo tg (.ref it) u) (fun _ s2 => ∃ x H', Inv X pins σ H' s2 ∧ RelV x u ∧ J.yld i H x H' ∧ tn (i + 1) s2.heap ∧ ∀ b ∈ fp, H' b = none) E s1) E s
  done : ∀ (X : Cx), X.prog = P → X.w = w → X.K = K → X.calm = true → ∀ (i : Nat) (pins : List (Addr × Obj)) (s : Shared) (σ : St) (H : Hp) (E : Value → Shared → Prop), Inv X pins σ H s → (∀ b ∈ fp, FpOk X pins H b) → tn i s.heap → J.stop i H →
    wpAny (model P w) X.A (pyNext (.ref it)) (fun r s1 => r = none ∧ Inv X pins σ H s1) E s
  self : ∀ (A : Around) (i : Nat) (s : Shared) (Q : Value → Shared → Prop) (E : Value → Shared → Prop), tn i s.heap → Q (.ref it) s → wpAny (model P w) A (pyIter (.ref it)) Q E s
abbrev TI := St → Hp → (It → Hp → Prop) → Prop
/-- an iterator has come -/
def PIE (X : Cx) (pins : List (Addr × Obj)) (σ : St) (tg : Expr) (R : It → Hp → Prop) (itv : Value) (s2 : Shared) : Prop :=
  ∃ (it : Addr) (fp : List Addr) (tn : Nat → Heap → Prop) (J : It) (H' : Hp), itv = .ref it ∧ Inv X pins σ H' s2 ∧ Turn X.prog X.w X.K tg J fp it tn ∧ tn 0 s2.heap ∧ (∀ b ∈ fp, FpOk X pins H' b) ∧ R J H'
def PI (X : Cx) (tg iter : Expr) (wi : TI) : Prop :=
  ∀ (pins : List (Addr × Obj)) (s : Shared) (σ : St) (H : Hp) (R : It → Hp → Prop), Inv X pins σ H s → wi σ H R →
    wpAny (model X.prog X.w) X.A (eval iter X.env) (fun v s1 => wpAny (model X.prog X.w) X.A (pyIter v) (PIE X pins σ tg R) X.xe s1) X.xe s

/-- the step ahead of the store is nothing for an iterator that keeps no tuple -/
theorem go_of {M : Model} {A : Around} {E : Value → Shared → Prop} {s : Shared} {tg : Expr} {it : Addr} {u : Value} {o : Obj} {n : String} {vs : Array Value} {Q : Unit → Shared → Prop} (ho : s.heap.get? it = some o) (hc : o.cls = .type n) (hd : o.data = .fields vs)
    (hn : ["enumerate", "zip", "dict_itemiterator", "dict_reverseitemiterator", "odict_iterator", "itertools.zip_longest", "itertools.pairwise"].contains n = false) (hQ : Q () s) : wpAny M A (letOwnedTupleGo tg (.ref it) u) Q E s := by
  unfold letOwnedTupleGo
  cases tg <;> first
    | exact wpAny_pure hQ
    | (cases u <;> first
        | exact wpAny_pure hQ
        | (refine wpAny_bind (wpAny_load ho ?_)
           rw [hc, hd]
           show wpAny M A (if (["enumerate", "zip", "dict_itemiterator", "dict_reverseitemiterator", "odict_iterator", "itertools.zip_longest", "itertools.pairwise"].contains n && vs[0]? == some (rawInt _)) = true then _ else _) Q E s
           rw [if_neg (by intro h; rw [hn, Bool.false_and] at h; cases h)]
           exact wpAny_pure hQ))

/-- the list at a, as it stands at each turn (a loop may append to it) -/
def Itl (K : PySem.W.Frag) (a : Addr) : It :=
  ⟨fun i H => ∃ xs x, SqL K H a xs ∧ xs[i]? = some x, fun i H x H' => H' = H ∧ ∀ xs, SqL K H a xs → xs[i]? = some x, fun i H => ∃ xs, SqL K H a xs ∧ xs.length ≤ i⟩
def Itt (K : PySem.W.Frag) (a : Addr) : It :=
  ⟨fun i H => ∃ xs x, SqT K H a xs ∧ xs[i]? = some x, fun i H x H' => H' = H ∧ ∀ xs, SqT K H a xs → xs[i]? = some x, fun i H => ∃ xs, SqT K H a xs ∧ xs.length ≤ i⟩
/-- lo, lo + 1, .. (n of them) -/
def Itr (lo : Int) (n : Nat) : It := ⟨fun i _ => i < n, fun i H x H' => H' = H ∧ x = .int (lo + i), fun i _ => n ≤ i⟩
theorem turn_list {P : Program} {w : World} {K : PySem.W.Frag} {tg : Expr} (a it : Addr) : Turn P w K tg (Itl K a) [it] it (fun i h => h.IsListIter it a i) where
  mem := by simp
  obj := fun i h st b hb => by
    have e : b = it := by simpa using hb
    subst e
    obtain ⟨o, e, c, d⟩ := st
    exact ⟨o, e, fun v z => by rw [d] at z; cases z⟩
  keep := fun i h h' st k => st.at fun o e => k it (by simp) o e
  item := by
    intro X hP hw hK hc i pins s σ H E I hf st hg
    subst hP hw hK
    obtain ⟨xs, x, hq, hx⟩ := hg
    obtain ⟨its, rv, p, hz⟩ := I.list hq
    obtain ⟨u, hu, ru⟩ := rv.get hx
    obtain ⟨f0, f1, f2, f3, f4, f5⟩ := hf it (by simp)
    refine wpAny_pyNext_list_item st p.isList (x := u) (by simpa using hu) fun h' st' sb => ?_
    have I1 : Inv X pins σ H { s with heap := h' } := I.turned (t' := s.toks) (fun b o hb e => (sb.2 b hb).trans e) f0 f1 f3 f4 f5
    obtain ⟨o, e, c, d⟩ := id st'
    exact ⟨u, rfl, go_of (s := { s with heap := h' }) e c d (by decide) ⟨x, H, I1, ru, ⟨rfl, fun ys hy => by rw [I.list_inj hy hq]; exact hx⟩, st', fun b hb => (hf b hb).1⟩⟩
  done := by
    intro X hP hw hK hc i pins s σ H E I hf st hg
    subst hP hw hK
    obtain ⟨xs, hq, hx⟩ := hg
    obtain ⟨its, rv, p, hz⟩ := I.list hq
    obtain ⟨f0, f1, f2, f3, f4, f5⟩ := hf it (by simp)
    have hl := rv.length
    exact wpAny_pyNext_list_end (I.ok.hd hc) st p.isList (by simp; omega) fun h' eb => ⟨rfl, I.turned (t' := s.toks) (fun b o hb e => eb b o hb e) f0 f1 f3 f4 f5⟩
  self := fun _ _ _ _ _ st h => wpAny_pyIter_listiter st h
theorem turn_range {P : Program} {w : World} {K : PySem.W.Frag} {tg : Expr} (it : Addr) (lo : Int) (n : Nat) : Turn P w K tg (Itr lo n) [it] it (fun i h => IsRangeIter h it (lo + (i : Nat) * 1) ((n : Int) - (i : Nat)) 1) where
  mem := by simp
  obj := fun i h st b hb => by
    have e : b = it := by simpa using hb
    subst e
    exact ⟨_, st, fun v z => by
      have z' : Data.fields _ = Data.cell v := z
      cases z'⟩
  keep := fun i h h' st k => k it (by simp) _ st
  item := by
    intro X hP hw hK hc i pins s σ H E I hf st hg
    subst hP hw hK
    obtain ⟨f0, f1, f2, f3, f4, f5⟩ := hf it (by simp)
    have W := Walks.range (prog := X.prog) (w := X.w) (I.ok.hd hc) it lo 1 n
    refine W.item i s _ _ hg st fun v h' tk hv st' kk => ?_
    obtain ⟨t, rfl⟩ := hv
    have I1 : Inv X pins σ H { s with heap := h', toks := tk } := I.turned (fun b o hb e => kk b o (by simpa using hb) e) f0 f1 f3 f4 f5
    refine ⟨_, rfl, go_of (s := { s with heap := h', toks := tk }) (n := "range_iterator") st' rfl rfl (by decide) ⟨.int (lo + i), H, I1, ⟨t, ?_⟩, ⟨rfl, rfl⟩, st', fun b hb => (hf b hb).1⟩⟩
    rw [Int.mul_one]
  done := by
    intro X hP hw hK hc i pins s σ H E I hf st hg
    subst hP hw hK
    obtain ⟨f0, f1, f2, f3, f4, f5⟩ := hf it (by simp)
    exact wpAny_pyNext_range_end (I.ok.hd hc) st (by have : n ≤ i := hg; omega) fun h' eb => ⟨rfl, I.turned (t' := s.toks) (fun b o hb e => eb b o hb e) f0 f1 f3 f4 f5⟩
  self := fun _ _ _ _ _ st h => wpAny_pyIter_rangeiter st h
end L2

namespace L2
open PySem PySem.Spec PyProof.Rows
section
variable {X : Cx} {tg : Expr}
def iList (K : PySem.W.Frag) (tl : TE) : TI := fun σ H R => tl σ H fun x H1 => ∃ a, x = .ref a ∧ (∃ xs, SqL K H1 a xs) ∧ R (Itl K a) H1
def iTup (K : PySem.W.Frag) (tl : TE) : TI := fun σ H R => tl σ H fun x H1 => ∃ a, x = .ref a ∧ (∃ xs, SqT K H1 a xs) ∧ R (Itt K a) H1
theorem pi_list {l : Expr} {tl : TE} (hl : PE X l tl) : PI X tg l (iList X.K tl) := by
  intro pins s σ H R I h
  refine thn (hl pins s σ H _ I h) fun v s1 ⟨x, H1, I1, r1, q1⟩ => ?_
  obtain ⟨a, e, ⟨xs, hq⟩, q⟩ := q1
  subst e
  cases r1
  obtain ⟨its, rv, p, hz⟩ := I1.list hq
  refine wpAny_pyIter_list p.isList ?_
  refine ⟨s1.heap.objs.size, [s1.heap.objs.size], _, _, H1, rfl, I1.kept (t' := s1.toks) fun b o e => Heap.get?_push_of_some _ e, turn_list a _, ⟨_, Heap.get?_push_size _ rfl, rfl, rfl⟩, fun b hb => ?_, q⟩
  have e : b = s1.heap.objs.size := by simpa using hb
  subst e
  exact I1.fpOk (Nat.le_refl _) (I1.hok.fresh (Nat.le_refl _))
/-- a range object just made, walked -/
theorem range_it {pins : List (Addr × Obj)} {σ : St} {H : Hp} {s : Shared} {R : It → Hp → Prop} {E : Value → Shared → Prop} {lo hi : Int} {t u v : Tok} {tk : Nat} (I : Inv X pins σ H s) (h1 : -(2 ^ 62) ≤ lo) (h2 : lo < 2 ^ 62) (h3 : -(2 ^ 62) ≤ hi) (h4 : hi < 2 ^ 62)
    (q : R (Itr lo (hi - lo).toNat) H) : wpAny (model X.prog X.w) X.A (pyIter (.ref s.heap.objs.size)) (PIE X pins σ tg R) E { s with heap := s.heap.push { cls := .type "range", data := .fields #[.int lo t, .int hi u, .int 1 v] }, toks := tk } := by
  refine wpAny_pyIter_range (IsRange.new ..) (small_one h1 h2 h3 h4) ?_
  have I1 : Inv X pins σ H { s with heap := s.heap.push { cls := .type "range", data := .fields #[.int lo t, .int hi u, .int 1 v] }, toks := tk } := I.kept fun b o e => Heap.get?_push_of_some _ e
  refine ⟨(s.heap.push { cls := .type "range", data := .fields #[.int lo t, .int hi u, .int 1 v] }).objs.size, [(s.heap.push { cls := .type "range", data := .fields #[.int lo t, .int hi u, .int 1 v] }).objs.size], _, _, H, rfl,
    I1.kept (t' := tk) fun b o e => Heap.get?_push_of_some _ e, turn_range _ lo (hi - lo).toNat, ?_, fun b hb => ?_, q⟩
  · have e1 : lo + ((0 : Nat) : Int) * 1 = lo := by simp
    have e2 : (((hi - lo).toNat : Nat) : Int) - ((0 : Nat) : Int) = Builtin.Range.rangeSize lo hi 1 := by rw [rangeSize_one]; split <;> omega
    show IsRangeIter _ _ (lo + ((0 : Nat) : Int) * 1) ((((hi - lo).toNat : Nat) : Int) - ((0 : Nat) : Int)) 1
    rw [e1, e2]
    exact Heap.get?_push_size _ rfl
  · have e : b = (s.heap.push { cls := .type "range", data := .fields #[.int lo t, .int hi u, .int 1 v] }).objs.size := by simpa using hb
    subst e
    exact I1.fpOk (Nat.le_refl _) (I1.hok.fresh (Nat.le_refl _))
def iRng1 (ta : TA) : TI := fun σ H R => ta σ H fun vs H1 => ∃ j : Int, vs = [.int j] ∧ -(2 ^ 62) ≤ j ∧ j < 2 ^ 62 ∧ R (Itr 0 j.toNat) H1
def iRng2 (ta : TA) : TI := fun σ H R => ta σ H fun vs H1 => ∃ i j : Int, vs = [.int i, .int j] ∧ (-(2 ^ 62) ≤ i ∧ i < 2 ^ 62 ∧ -(2 ^ 62) ≤ j ∧ j < 2 ^ 62) ∧ R (Itr i (j - i).toNat) H1
theorem pi_range1 {a : Expr} {ta : TA} {p pos : Pos} (hg : Gl X "range") (hm : X.mg "range" = none) (ha : PA X [a] ta) (hs : starEach [a] X.env = [(false, eval a X.env)] := by rfl) : PI X tg (.Call (.Name "range" p) [a] [] pos) (iRng1 ta) := by
  intro pins s σ H R I h
  refine Call_ (ld_blt I hg hm boot_range (PyProof.Rows.callWith_type1 (thn (ha pos pins s σ H _ I h) fun us s1 ⟨vs, H1, I1, r1, q1⟩ => ?_) hs rfl))
  obtain ⟨j, e, q1, q2, q⟩ := q1
  subst e
  cases r1 with
  | cons r rr =>
    cases rr
    obtain ⟨t, rfl⟩ := r
    exact call_range_1 (range_it I1 (by omega) (by omega) q1 q2 (by simpa using q))
/-- W: the invariant by the turn and a measure; N: what the body is to reach -/
def tFor (wi : TI) (g : TG) (tb : TS) : TS := fun D σ H => wi σ H fun J H1 => ∃ W : Nat → Nat → St → Hp → Prop, (∃ m, W 0 m σ H1) ∧ ∀ i m σ H, W i m σ H →
  (J.stop i H ∧ D.nx σ H) ∨ (J.go i H ∧ ∃ N : St → Hp → Prop, (∀ σ' H', N σ' H' → ∃ m', m' < m ∧ W (i + 1) m' σ' H') ∧ ∀ x H', J.yld i H x H' → g x σ H' fun σ2 H2 => tb { D with nx := N, ct := N, bk := D.nx } σ2 H2)
/-- the records at fp as they stand -/
def pinsAt (fp : List Addr) (h : Heap) : List (Addr × Obj) := fp.filterMap fun b => (h.get? b).map fun o => (b, o)
theorem mem_pinsAt {fp : List Addr} {h : Heap} {b : Addr} {o : Obj} (hb : b ∈ fp) (e : h.get? b = some o) : (b, o) ∈ pinsAt fp h := List.mem_filterMap.mpr ⟨b, hb, by rw [e]; rfl⟩
theorem of_pinsAt {fp : List Addr} {h : Heap} {p : Addr × Obj} (hp : p ∈ pinsAt fp h) : p.1 ∈ fp ∧ h.get? p.1 = some p.2 := by
  obtain ⟨b, hb, e⟩ := List.mem_filterMap.mp hp
  cases q : h.get? b with
  | none => rw [q] at e; cases e
  | some o =>
    rw [q] at e
    have e' : (b, o) = p := Option.some.inj e
    subst e'
    exact ⟨hb, q⟩
theorem Inv.pinned {pins : List (Addr × Obj)} {σ : St} {H : Hp} {s : Shared} {fp : List Addr} (I : Inv X pins σ H s) (hf : ∀ b ∈ fp, FpOk X pins H b) (ho : ∀ b ∈ fp, ∃ o, s.heap.get? b = some o ∧ ∀ v, o.data ≠ .cell v) : Inv X (pins ++ pinsAt fp s.heap) σ H s :=
  I.pins_of fun p hp => (List.mem_append.mp hp).elim (fun z => I.pin p (List.mem_append_right _ z)) fun z => by
    obtain ⟨hb, e⟩ := of_pinsAt z
    obtain ⟨f0, f1, f2, _⟩ := hf p.1 hb
    obtain ⟨o, e', d⟩ := ho p.1 hb
    rw [e] at e'; cases e'
    exact ⟨e, f0, f1, f2, d⟩
theorem Inv.unpinned {pins pl : List (Addr × Obj)} {σ : St} {H : Hp} {s : Shared} (I : Inv X (pins ++ pl) σ H s) : Inv X pins σ H s := I.pins_of fun p hp => I.pin p (List.mem_append_right _ (List.mem_append_left _ hp))
theorem ps_for {iter : Expr} {body : List Stmt} {wi : TI} {g : TG} {tb : TS} {pos : Pos} (hp : PassesOwn (model X.prog X.w) X.A X.env X.xe) (hc : X.calm = true) (hi : PI X tg iter wi) (hg : PG X tg g) (hb : PSs X body tb)
    (hs : ∀ x, foldedSetIterable iter X.env x = pure x := by intro _; rfl) : PS X (.For tg iter body [] pos) (tFor wi g tb) := by
  intro pins s σ H D I h
  refine wpAny_For (thn (hi pins s σ H _ I h) fun v s1 h1 => thn h1 fun itv s2 h2 => ?_) hs
  obtain ⟨it, fp, tn, J, H2, e, I2, T, st2, f2, W, ⟨m0, w0⟩, turn⟩ := h2
  subst e
  -- what stays true of the iterator's objects through the loop
  have stat : ∀ {H' : Hp}, (∀ b ∈ fp, H' b = none) → ∀ b ∈ fp, FpOk X pins H' b := fun hn b hb => ⟨hn b hb, (f2 b hb).2⟩
  refine codeAny_forLoop_any (fun n s' => ∃ i σ' H', Inv X pins σ' H' s' ∧ tn i s'.heap ∧ (∀ b ∈ fp, H' b = none) ∧ W i n σ' H') ?_ m0 ⟨0, σ, H2, I2, st2, fun b hb => (f2 b hb).1, w0⟩
  rintro n s3 ⟨i, σ3, H3, I3, st3, fr3, w3⟩
  rcases turn i n σ3 H3 w3 with ⟨stop, qn⟩ | ⟨go, N, hN, step⟩
  · refine wpAny_passesOwn hp (thn (T.done X rfl rfl rfl hc i pins s3 σ3 H3 X.xe I3 (stat fr3) st3 stop) fun r s4 ⟨hr, I4⟩ => ?_)
    subst hr
    exact wpAny_execs_nil ⟨σ3, H3, I4, qn⟩
  · refine wpAny_passesOwn hp (thn (T.item X rfl rfl rfl hc i pins s3 σ3 H3 X.xe I3 (stat fr3) st3 go) fun r s4 ⟨u, hr, h4⟩ => ?_)
    subst hr
    refine wpAny_passesOwn hp (thn h4 fun _ s5 ⟨x, H5, I5, r5, y5, st5, fr5⟩ => ?_)
    have I5' := I5.pinned (stat fr5) (T.obj _ _ st5)
    refine wpAny_passesOwn hp (thn (hg _ s5 σ3 H5 x u _ I5' r5 (step x H5 y5)) fun _ s6 ⟨σ6, H6, I6, q6⟩ => ?_)
    refine wpAny_passesOwn hp (thn (hb _ s6 σ6 H6 _ I6 q6) fun f s7 q7 => ?_)
    have again : ∀ {σ7 : St} {H7 : Hp}, Inv X (pins ++ pinsAt fp s5.heap) σ7 H7 s7 → N σ7 H7 → ∃ m, m < n ∧ ∃ i σ' H', Inv X pins σ' H' s7 ∧ tn i s7.heap ∧ (∀ b ∈ fp, H' b = none) ∧ W i m σ' H' := fun {σ7 H7} I7 n7 => by
      obtain ⟨m', hm, w7⟩ := hN σ7 H7 n7
      refine ⟨m', hm, i + 1, σ7, H7, I7.unpinned, T.keep _ _ _ st5 fun b hb o e => (I7.pin (b, o) (List.mem_append_right _ (List.mem_append_right _ (mem_pinsAt hb e)))).1, fun b hb => ?_, w7⟩
      obtain ⟨o, e, d⟩ := T.obj _ _ st5 b hb
      exact (I7.pin (b, o) (List.mem_append_right _ (List.mem_append_right _ (mem_pinsAt hb e)))).2.1
    cases f with
    | next => obtain ⟨σ7, H7, I7, n7⟩ := q7; exact again I7 n7
    | cont => obtain ⟨σ7, H7, I7, n7⟩ := q7; exact again I7 n7
    | brk => obtain ⟨σ7, H7, I7, q7⟩ := q7; exact ⟨σ7, H7, I7.unpinned, q7⟩
    | ret v => obtain ⟨x7, σ7, H7, I7, r7, q7⟩ := q7; exact ⟨x7, σ7, H7, I7.unpinned, r7, q7⟩
end

/-- over a list that the body leaves as it is -/
theorem for_list {K : PySem.W.Frag} {a : Addr} {xs : List V} {g : TG} {tb : TS} {D : Ends} {σ : St} {H : Hp} (Pv : Nat → St → Hp → Prop) (h0 : Pv 0 σ H) (hl : ∀ i σ H, i ≤ xs.length → Pv i σ H → SqL K H a xs)
    (hs : ∀ i x σ H, xs[i]? = some x → Pv i σ H → g x σ H fun σ2 H2 => tb { D with nx := Pv (i + 1), ct := Pv (i + 1), bk := D.nx } σ2 H2) (hd : ∀ σ H, Pv xs.length σ H → D.nx σ H) :
    ∃ W : Nat → Nat → St → Hp → Prop, (∃ m, W 0 m σ H) ∧ ∀ i m σ H, W i m σ H →
      ((Itl K a).stop i H ∧ D.nx σ H) ∨ ((Itl K a).go i H ∧ ∃ N : St → Hp → Prop, (∀ σ' H', N σ' H' → ∃ m', m' < m ∧ W (i + 1) m' σ' H') ∧ ∀ x H', (Itl K a).yld i H x H' → g x σ H' fun σ2 H2 => tb { D with nx := N, ct := N, bk := D.nx } σ2 H2) := by
  refine ⟨fun i m σ H => m = xs.length - i ∧ i ≤ xs.length ∧ Pv i σ H, ⟨xs.length, by simp, Nat.zero_le _, h0⟩, ?_⟩
  rintro i m σ H ⟨rfl, hi, p⟩
  have q := hl i σ H hi p
  by_cases hlt : i < xs.length
  · refine .inr ⟨⟨xs, xs[i], q, by simp [hlt]⟩, Pv (i + 1), fun σ' H' p' => ⟨xs.length - (i + 1), by omega, rfl, hlt, p'⟩, fun x H' y => ?_⟩
    obtain ⟨e, y⟩ := y
    subst e
    exact hs i x σ _ (y xs q) p
  · have e : i = xs.length := by omega
    subst e
    exact .inl ⟨⟨xs, q, Nat.le_refl _⟩, hd σ H p⟩
theorem for_range {lo : Int} {n : Nat} {g : TG} {tb : TS} {D : Ends} {σ : St} {H : Hp} (Pv : Nat → St → Hp → Prop) (h0 : Pv 0 σ H)
    (hs : ∀ i σ H, i < n → Pv i σ H → g (.int (lo + i)) σ H fun σ2 H2 => tb { D with nx := Pv (i + 1), ct := Pv (i + 1), bk := D.nx } σ2 H2) (hd : ∀ σ H, Pv n σ H → D.nx σ H) :
    ∃ W : Nat → Nat → St → Hp → Prop, (∃ m, W 0 m σ H) ∧ ∀ i m σ H, W i m σ H →
      ((Itr lo n).stop i H ∧ D.nx σ H) ∨ ((Itr lo n).go i H ∧ ∃ N : St → Hp → Prop, (∀ σ' H', N σ' H' → ∃ m', m' < m ∧ W (i + 1) m' σ' H') ∧ ∀ x H', (Itr lo n).yld i H x H' → g x σ H' fun σ2 H2 => tb { D with nx := N, ct := N, bk := D.nx } σ2 H2) := by
  refine ⟨fun i m σ H => m = n - i ∧ i ≤ n ∧ Pv i σ H, ⟨n, by simp, Nat.zero_le _, h0⟩, ?_⟩
  rintro i m σ H ⟨rfl, hi, p⟩
  by_cases hlt : i < n
  · refine .inr ⟨hlt, Pv (i + 1), fun σ' H' p' => ⟨n - (i + 1), by omega, rfl, hlt, p'⟩, fun x H' y => ?_⟩
    obtain ⟨e, y⟩ := y
    subst e y
    exact hs i σ _ hlt p
  · have e : i = n := by omega
    subst e
    exact .inl ⟨Nat.le_refl _, hd σ H p⟩
end L2

namespace L2
open PySem PySem.Spec PyProof.Rows

abbrev R2 := V → V → Hp → VK → Prop
/-- a two-place operation on values: f is binaryOp op, inplaceOp op or compareOp op -/
def OpR (X : Cx) (f : Value → Value → Sem Value) (r : R2) : Prop :=
  ∀ (pins : List (Addr × Obj)) (s : Shared) (σ : St) (H : Hp) (x y : V) (v u : Value) (Q : VK), Inv X pins σ H s → RelV x v → RelV y u → r x y H Q →
    wpAny (model X.prog X.w) X.A (f v u) (EP X pins σ Q) X.xe s
/-- a one-place operation -/
def UnR (X : Cx) (f : Value → Sem Value) (r : V → Hp → VK → Prop) : Prop :=
  ∀ (pins : List (Addr × Obj)) (s : Shared) (σ : St) (H : Hp) (x : V) (v : Value) (Q : VK), Inv X pins σ H s → RelV x v → r x H Q →
    wpAny (model X.prog X.w) X.A (f v) (EP X pins σ Q) X.xe s
/-- a call of a value that is known (a builtin, a type) with values -/
def CallR (X : Cx) (f : Value) (r : List V → Hp → VK → Prop) : Prop :=
  ∀ (pins : List (Addr × Obj)) (s : Shared) (σ : St) (H : Hp) (xs : List V) (us : List Value) (Q : VK), Inv X pins σ H s → Vals xs us → r xs H Q →
    wpAny (model X.prog X.w) X.A (call f us) (EP X pins σ Q) X.xe s
/-- a value's truth -/
def TruR (X : Cx) (r : V → Hp → (Bool → Hp → Prop) → Prop) : Prop :=
  ∀ (pins : List (Addr × Obj)) (s : Shared) (σ : St) (H : Hp) (x : V) (v : Value) (Q : Bool → Hp → Prop), Inv X pins σ H s → RelV x v → r x H Q →
    wpAny (model X.prog X.w) X.A (truthy v) (TP X pins σ Q) X.xe s

def tOp (r : R2) (ta tb : TE) : TE := fun σ H Q => ta σ H fun x H1 => tb σ H1 fun y H2 => r x y H2 Q
def tUn (r : V → Hp → VK → Prop) (ta : TE) : TE := fun σ H Q => ta σ H fun x H1 => r x H1 Q
/-- ints in, under C, and a value out -/
def rI (C : Int → Int → Prop) (g : Int → Int → V) : R2 := fun x y H Q => ∃ i j, x = .int i ∧ y = .int j ∧ C i j ∧ Q (g i j) H
def rI0 (g : Int → Int → V) : R2 := fun x y H Q => ∃ i j, x = .int i ∧ y = .int j ∧ Q (g i j) H
def rU (g : Int → V) : V → Hp → VK → Prop := fun x H Q => ∃ i, x = .int i ∧ Q (g i) H

section
variable {X : Cx} {a b c : Expr} {ta tb tc : TE} {pos : Pos}

theorem binT (ha : PE X a ta) (hb : PE X b tb) {pins : List (Addr × Obj)} {s : Shared} {σ : St} {H : Hp} {R : V → V → Hp → Prop} (I : Inv X pins σ H s)
    (h : ta σ H fun x H1 => tb σ H1 fun y H2 => R x y H2) {Q : Value → Shared → Prop} {f : Value → Value → Sem Value}
    (hf : ∀ v u s2 x y H2, Inv X pins σ H2 s2 → RelV x v → RelV y u → R x y H2 → wpAny (model X.prog X.w) X.A (f v u) Q X.xe s2) :
    wpAny (model X.prog X.w) X.A (eval a X.env) (fun v s₁ => wpAny (model X.prog X.w) X.A (eval b X.env) (fun u s₂ => wpAny (model X.prog X.w) X.A (f v u) Q X.xe s₂) X.xe s₁) X.xe s := by
  refine thn (ha pins s σ H _ I h) fun v s1 ⟨x, H1, I1, r1, q1⟩ => ?_
  refine thn (hb pins s1 σ H1 _ I1 q1) fun u s2 ⟨y, H2, I2, r2, q2⟩ => ?_
  exact hf v u s2 x y H2 I2 r1 r2 q2

theorem pe_op {op : Operator} {r : R2} (ho : OpR X (binaryOp op) r) (ha : PE X a ta) (hb : PE X b tb) : PE X (.BinOp a op b pos) (tOp r ta tb) := by
  intro pins s σ H Q I h
  exact wpAny_BinOp (binT ha hb I h fun v u s2 x y H2 I2 rx ry q => ho pins s2 σ H2 x y v u Q I2 rx ry q)
theorem pe_un {op : UnaryOp} {r : V → Hp → VK → Prop} (ho : UnR X (unaryOp op) r) (ha : PE X a ta) : PE X (.UnaryOp op a pos) (tUn r ta) := by
  intro pins s σ H Q I h
  exact UnaryOp_ (thn (ha pins s σ H _ I h) fun v s1 ⟨x, H1, I1, r1, q1⟩ => ho pins s1 σ H1 x v Q I1 r1 q1)
theorem opI {f : Value → Value → Sem Value} {C : Int → Int → Prop} {g : Int → Int → Int}
    (rule : ∀ (i j : Int) (t u : Tok) (s : Shared) (Q : Value → Shared → Prop) (E : Value → Shared → Prop), C i j → Q (.int (g i j) s.toks) { s with toks := s.toks + 1 } → wpAny (model X.prog X.w) X.A (f (.int i t) (.int j u)) Q E s) :
    OpR X f (rI C fun i j => .int (g i j)) := by
  intro pins s σ H x y v u Q I rx ry h
  obtain ⟨i, j, rfl, rfl, hc, q⟩ := h
  obtain ⟨t, rfl⟩ := rx
  obtain ⟨t', rfl⟩ := ry
  exact rule i j t t' s _ _ hc ⟨.int (g i j), H, I.tok _, ⟨_, rfl⟩, q⟩
theorem opI0 {f : Value → Value → Sem Value} {g : Int → Int → Int}
    (rule : ∀ (i j : Int) (t u : Tok) (s : Shared) (Q : Value → Shared → Prop) (E : Value → Shared → Prop), Q (.int (g i j) s.toks) { s with toks := s.toks + 1 } → wpAny (model X.prog X.w) X.A (f (.int i t) (.int j u)) Q E s) :
    OpR X f (rI0 fun i j => .int (g i j)) := by
  intro pins s σ H x y v u Q I rx ry h
  obtain ⟨i, j, rfl, rfl, q⟩ := h
  obtain ⟨t, rfl⟩ := rx
  obtain ⟨t', rfl⟩ := ry
  exact rule i j t t' s _ _ ⟨.int (g i j), H, I.tok _, ⟨_, rfl⟩, q⟩
theorem opB0 {f : Value → Value → Sem Value} {g : Int → Int → Bool}
    (rule : ∀ (i j : Int) (t u : Tok) (s : Shared) (Q : Value → Shared → Prop) (E : Value → Shared → Prop), Q (.bool (g i j)) s → wpAny (model X.prog X.w) X.A (f (.int i t) (.int j u)) Q E s) :
    OpR X f (rI0 fun i j => .bl (g i j)) := by
  intro pins s σ H x y v u Q I rx ry h
  obtain ⟨i, j, rfl, rfl, q⟩ := h
  obtain ⟨t, rfl⟩ := rx
  obtain ⟨t', rfl⟩ := ry
  exact rule i j t t' s _ _ ⟨.bl (g i j), H, I, rfl, q⟩

def CDiv (i j : Int) : Prop := 0 < j ∧ j < 1073741824
def CDivN (i j : Int) : Prop := j ≠ 0 ∧ j.natAbs < 1073741824
def CPow (i j : Int) : Prop := 0 ≤ j ∧ j ≤ 1000000 ∧ i.natAbs < 2 ^ 64
def CMul (i j : Int) : Prop := (-(2 ^ 64) < i ∧ i < 2 ^ 64) ∨ (-(2 ^ 64) < j ∧ j < 2 ^ 64)
theorem CMul.ok {i j : Int} (h : CMul i j) : IntMulOk i j := by
  rcases h with ⟨h1, h2⟩ | ⟨h1, h2⟩
  · exact .of_left (intBits_le_64 h1 h2)
  · exact .of_right (intBits_le_64 h1 h2)
theorem op_add : OpR X (binaryOp .Add) (rI0 fun i j => .int (i + j)) := opI0 fun _ _ _ _ _ _ _ q => add_int q
theorem op_sub : OpR X (binaryOp .Sub) (rI0 fun i j => .int (i - j)) := opI0 fun _ _ _ _ _ _ _ q => sub_int q
/-- % by a positive divisor of any size -/
theorem op_mod : OpR X (binaryOp .Mod) (rI (fun _ j => 0 < j) fun i j => .int (i % j)) := opI fun i j _ _ _ _ _ hc q => by
  have h1 : (0 : Int) < j := hc
  exact mod_int' (by omega) (by rw [Int.fmod_eq_emod_of_nonneg i (by omega)]; exact q)
theorem op_pow : OpR X (binaryOp .Pow) (rI CPow fun i j => .int (i ^ j.toNat)) := opI fun _ _ _ _ _ _ _ hc q => pow_int_small hc.1 hc.2.1 hc.2.2 q
theorem unI {f : Value → Sem Value} {g : Int → Int}
    (rule : ∀ (i : Int) (t : Tok) (s : Shared) (Q : Value → Shared → Prop) (E : Value → Shared → Prop), Q (.int (g i) s.toks) { s with toks := s.toks + 1 } → wpAny (model X.prog X.w) X.A (f (.int i t)) Q E s) :
    UnR X f (rU fun i => .int (g i)) := by
  intro pins s σ H x v Q I rx h
  obtain ⟨i, rfl, q⟩ := h
  obtain ⟨t, rfl⟩ := rx
  exact rule i t s _ _ ⟨.int (g i), H, I.tok _, ⟨_, rfl⟩, q⟩
theorem un_neg : UnR X (unaryOp .USub) (rU fun i => .int (-i)) := unI fun _ _ _ _ _ q => neg_int q
end

/-- the scalars that == tells apart as data does -/
def scal : V → V → Bool
  | .non, .non => true | .non, .int _ => true | .int _, .non => true | .non, .bl _ => true | .bl _, .non => true | .non, .str _ => true | .str _, .non => true
  | .int _, .int _ => true | .bl _, .bl _ => true | .str _, .str _ => true | .byt _, .byt _ => true
  | .int _, .str _ => true | .str _, .int _ => true | .bl _, .str _ => true | .str _, .bl _ => true
  | _, _ => false
def rEq : R2 := fun x y H Q => scal x y = true ∧ Q (.bl (decide (x = y))) H
def rNe : R2 := fun x y H Q => scal x y = true ∧ Q (.bl (!decide (x = y))) H

theorem dec_int {i j : Int} : decide (V.int i = V.int j) = (i == j) := by
  rw [Bool.eq_iff_iff]
  simp
theorem dec_bl {i j : Bool} : decide (V.bl i = V.bl j) = (i == j) := by
  rw [Bool.eq_iff_iff]
  simp
theorem dec_str {i j : Str} : decide (V.str i = V.str j) = (i == j) := by
  rw [Bool.eq_iff_iff]
  simp
theorem dec_byt {i j : Array UInt8} : decide (V.byt i = V.byt j) = (i.toList == j.toList) := by
  rw [Bool.eq_iff_iff]
  cases i
  cases j
  simp

section
variable {X : Cx} {a b c : Expr} {ta tb tc : TE} {pos : Pos}
theorem fin_bl {pins : List (Addr × Obj)} {σ : St} {H : Hp} {s : Shared} {Q : VK} {k k' : Bool} (I : Inv X pins σ H s) (q : Q (.bl k) H) (e : k = k') : EP X pins σ Q (.bool k') s := by
  subst e
  exact ⟨.bl k, H, I, rfl, q⟩
theorem op_eq : OpR X (compareOp .Eq) rEq := by
  intro pins s σ H x y v u Q I rx ry h
  obtain ⟨hs, q⟩ := h
  cases x with
  | non =>
    cases rx
    cases y with
    | non => cases ry; exact PySem.EqNone.eq_none_none (fin_bl I q (by simp))
    | bl j => cases ry; exact PySem.EqNone.eq_none_bool (fin_bl I q (by simp))
    | int j => obtain ⟨t', rfl⟩ := ry; exact PySem.EqNone.eq_none_int (fin_bl I q (by simp))
    | str j => obtain ⟨t', rfl⟩ := ry; exact PySem.EqNone.eq_none_str (fin_bl I q (by simp))
    | _ => exact absurd (show false = true from hs) Bool.false_ne_true
  | bl i =>
    cases rx
    cases y with
    | non => cases ry; exact PySem.EqNone.eq_bool_none (fin_bl I q (by simp))
    | bl j => cases ry; exact eq_bool (fin_bl I q dec_bl)
    | str j => obtain ⟨t', rfl⟩ := ry; exact PySem.EqMixed.eq_bool_str (fin_bl I q (by simp))
    | _ => exact absurd (show false = true from hs) Bool.false_ne_true
  | int i =>
    obtain ⟨t, rfl⟩ := rx
    cases y with
    | non => cases ry; exact PySem.EqNone.eq_int_none (fin_bl I q (by simp))
    | int j => obtain ⟨t', rfl⟩ := ry; exact eq_int (fin_bl I q dec_int)
    | str j => obtain ⟨t', rfl⟩ := ry; exact PySem.EqMixed.eq_int_str (fin_bl I q (by simp))
    | _ => exact absurd (show false = true from hs) Bool.false_ne_true
  | str i =>
    obtain ⟨t, rfl⟩ := rx
    cases y with
    | non => cases ry; exact PySem.EqNone.eq_str_none (fin_bl I q (by simp))
    | bl j => cases ry; exact PySem.EqMixed.eq_str_bool (fin_bl I q (by simp))
    | int j => obtain ⟨t', rfl⟩ := ry; exact PySem.EqMixed.eq_str_int (fin_bl I q (by simp))
    | str j => obtain ⟨t', rfl⟩ := ry; exact eq_str (fin_bl I q dec_str)
    | _ => exact absurd (show false = true from hs) Bool.false_ne_true
  | byt i =>
    obtain ⟨t, rfl⟩ := rx
    cases y with
    | byt j => obtain ⟨t', rfl⟩ := ry; exact PySem.W.eq_bytes (fin_bl I q dec_byt)
    | _ => exact absurd (show false = true from hs) Bool.false_ne_true
  | _ => cases y <;> exact absurd (show false = true from hs) Bool.false_ne_true
theorem op_ne : OpR X (compareOp .NotEq) rNe := by
  intro pins s σ H x y v u Q I rx ry h
  obtain ⟨hs, q⟩ := h
  cases x with
  | non =>
    cases rx
    cases y with
    | non => cases ry; exact PySem.EqNone.ne_none_none (fin_bl I q (by simp))
    | bl j => cases ry; exact PySem.EqNone.ne_none_bool (fin_bl I q (by simp))
    | int j => obtain ⟨t', rfl⟩ := ry; exact PySem.EqNone.ne_none_int (fin_bl I q (by simp))
    | str j => obtain ⟨t', rfl⟩ := ry; exact PySem.EqNone.ne_none_str (fin_bl I q (by simp))
    | _ => exact absurd (show false = true from hs) Bool.false_ne_true
  | bl i =>
    cases rx
    cases y with
    | non => cases ry; exact PySem.EqNone.ne_bool_none (fin_bl I q (by simp))
    | bl j => cases ry; exact ne_bool (fin_bl I q (congrArg not dec_bl))
    | str j => obtain ⟨t', rfl⟩ := ry; exact PySem.EqMixed.ne_bool_str (fin_bl I q (by simp))
    | _ => exact absurd (show false = true from hs) Bool.false_ne_true
  | int i =>
    obtain ⟨t, rfl⟩ := rx
    cases y with
    | non => cases ry; exact PySem.EqNone.ne_int_none (fin_bl I q (by simp))
    | int j => obtain ⟨t', rfl⟩ := ry; exact ne_int (fin_bl I q (congrArg not dec_int))
    | str j => obtain ⟨t', rfl⟩ := ry; exact PySem.EqMixed.ne_int_str (fin_bl I q (by simp))
    | _ => exact absurd (show false = true from hs) Bool.false_ne_true
  | str i =>
    obtain ⟨t, rfl⟩ := rx
    cases y with
    | non => cases ry; exact PySem.EqNone.ne_str_none (fin_bl I q (by simp))
    | bl j => cases ry; exact PySem.EqMixed.ne_str_bool (fin_bl I q (by simp))
    | int j => obtain ⟨t', rfl⟩ := ry; exact PySem.EqMixed.ne_str_int (fin_bl I q (by simp))
    | str j => obtain ⟨t', rfl⟩ := ry; exact ne_str (fin_bl I q (congrArg not dec_str))
    | _ => exact absurd (show false = true from hs) Bool.false_ne_true
  | byt i =>
    obtain ⟨t, rfl⟩ := rx
    cases y with
    | byt j => obtain ⟨t', rfl⟩ := ry; exact PySem.W.ne_bytes (fin_bl I q (congrArg not dec_byt))
    | _ => exact absurd (show false = true from hs) Bool.false_ne_true
  | _ => cases y <;> exact absurd (show false = true from hs) Bool.false_ne_true

theorem op_lt : OpR X (compareOp .Lt) (rI0 fun i j => .bl (decide (i < j))) := opB0 fun _ _ _ _ _ _ _ q => lt_int q
theorem op_le : OpR X (compareOp .LtE) (rI0 fun i j => .bl (decide (i ≤ j))) := opB0 fun _ _ _ _ _ _ _ q => le_int q
theorem op_gt : OpR X (compareOp .Gt) (rI0 fun i j => .bl (decide (j < i))) := opB0 fun _ _ _ _ _ _ _ q => gt_int q
theorem op_ge : OpR X (compareOp .GtE) (rI0 fun i j => .bl (decide (j ≤ i))) := opB0 fun _ _ _ _ _ _ _ q => ge_int q
/-- is, is not of two objects that are tracked lists or instances -/
def isObj : HO → Bool
  | .lst _ => true
  | .ins _ _ _ => true
  | _ => false
/-- two rules for one operation: by cases -/
theorem OpR.or {f : Value → Value → Sem Value} {r r' : R2} (h : OpR X f r) (h' : OpR X f r') : OpR X f (fun x y H Q => r x y H Q ∨ r' x y H Q) := by
  intro pins s σ H x y v u Q I rx ry q
  rcases q with q | q
  · exact h pins s σ H x y v u Q I rx ry q
  · exact h' pins s σ H x y v u Q I rx ry q

theorem nomark (b : Expr) {op : CmpOp} (h : op ≠ .In := by decide) (h2 : op ≠ .NotIn := by decide) : behindInMarks op b = false := by
  have e1 : (op == CmpOp.In) = false := by cases op <;> first | rfl | exact absurd rfl h
  have e2 : (op == CmpOp.NotIn) = false := by cases op <;> first | rfl | exact absurd rfl h2
  cases b <;> simp [behindInMarks, e1, e2]
/-- a comparison as a value; hm: nomark b, or (for in, not in) by with_unfolding_all rfl -/
theorem pe_cmpR {op : CmpOp} {r : R2} (ho : OpR X (compareOp op) r) (ha : PE X a ta) (hb : PE X b tb) (hm : behindInMarks op b = false) : PE X (.Compare a [op] [b] pos) (tOp r ta tb) := by
  intro pins s σ H Q I h
  exact wpAny_Compare1 (binT ha hb I h fun v u s2 x y H2 I2 rx ry q => ho pins s2 σ H2 x y v u Q I2 rx ry q) hm
/-- a reading of a value as a test -/
def tTest (t : TE) : TT := fun σ H Q => t σ H fun x H' => ∃ k, x = .bl k ∧ Q k H'
theorem pt_cmpR {op : CmpOp} {r : R2} (ho : OpR X (compareOp op) r) (ha : PE X a ta) (hb : PE X b tb) (hm : behindInMarks op b = false) : PT X (.Compare a [op] [b] pos) (tTest (tOp r ta tb)) := by
  intro pins s σ H Q I h
  refine wpAny_isTrue_Compare1 (thn (ha pins s σ H _ I h) fun v s1 ⟨x, H1, I1, r1, q1⟩ => thn (hb pins s1 σ H1 _ I1 q1) fun u s2 ⟨y, H2, I2, r2, q2⟩ =>
    thn (ho pins s2 σ H2 x y v u _ I2 r1 r2 q2) fun c s3 ⟨z, H3, I3, r3, k, e, q3⟩ => ?_) hm
  subst e
  cases r3
  exact wpAny_truthy_bool ⟨H3, I3, q3⟩
/-- a op1 b op2 c -/
def tChain (r r' : R2) (ta tb tc : TE) : TE := fun σ H Q => ta σ H fun x H1 => tb σ H1 fun y H2 => r x y H2 fun z H3 => ∃ k, z = .bl k ∧
  (if k = true then tc σ H3 fun w' H4 => r' y w' H4 Q else Q (.bl false) H3)
theorem pe_chain {op op' : CmpOp} {r r' : R2} (ho : OpR X (compareOp op) r) (ho' : OpR X (compareOp op') r') (ha : PE X a ta) (hb : PE X b tb) (hc : PE X c tc)
    (hm : lastMarks [op, op'] [b, c] = false := by with_unfolding_all rfl) : PE X (.Compare a [op, op'] [b, c] pos) (tChain r r' ta tb tc) := by
  intro pins s σ H Q I h
  refine Compare_chain (thn (ha pins s σ H _ I h) fun v s1 ⟨x, H1, I1, r1, q1⟩ => chain_link (thn (hb pins s1 σ H1 _ I1 q1) fun u s2 ⟨y, H2, I2, r2, q2⟩ =>
    thn (ho pins s2 σ H2 x y v u _ I2 r1 r2 q2) fun d s3 ⟨z, H3, I3, r3, k, e, q3⟩ => ?_)) hm
  subst e
  cases r3
  refine wpAny_truthy_bool ?_
  cases k with
  | false => exact ite_ff ⟨.bl false, H3, I3, rfl, q3⟩
  | true => exact ite_tt (chain_last (thn (hc pins s3 σ H3 _ I3 q3) fun w' s4 ⟨z', H4, I4, r4, q4⟩ => ho' pins s4 σ H4 y z' u w' Q I4 r2 r4 q4))
theorem pt_chain {op op' : CmpOp} {r r' : R2} (ho : OpR X (compareOp op) r) (ho' : OpR X (compareOp op') r') (ha : PE X a ta) (hb : PE X b tb) (hc : PE X c tc)
    (hm : lastMarks [op, op'] [b, c] = false := by with_unfolding_all rfl) : PT X (.Compare a [op, op'] [b, c] pos) (tTest (tChain r r' ta tb tc)) := by
  intro pins s σ H Q I h
  refine isTrue_chain (thn (ha pins s σ H _ I h) fun v s1 ⟨x, H1, I1, r1, q1⟩ => test_link (thn (hb pins s1 σ H1 _ I1 q1) fun u s2 ⟨y, H2, I2, r2, q2⟩ =>
    thn (ho pins s2 σ H2 x y v u _ I2 r1 r2 q2) fun d s3 ⟨z, H3, I3, r3, k, e, q3⟩ => ?_)) hm
  subst e
  cases r3
  refine wpAny_truthy_bool ?_
  cases k with
  | false =>
    obtain ⟨k', e', q'⟩ := q3
    cases e'
    exact ite_ff ⟨H3, I3, q'⟩
  | true =>
    refine ite_tt (test_last (thn (hc pins s3 σ H3 _ I3 q3) fun w' s4 ⟨z', H4, I4, r4, q4⟩ => thn (ho' pins s4 σ H4 y z' u w' _ I4 r2 r4 q4) fun d' s5 ⟨z2, H5, I5, r5, k2, e2, q5⟩ => ?_))
    subst e2
    cases r5
    exact wpAny_truthy_bool ⟨H5, I5, q5⟩

/-- a value's truth by the abstract heap -/
def TruV (K : PySem.W.Frag) (x : V) (H : Hp) (k : Bool) : Prop :=
  match x with
  | .non => k = false
  | .bl b => k = b
  | .int i => k = (i != 0)
  | .str y => y.length ≤ sizeLine ∧ k = ((y.length : Int) != 0)
  | .byt y => y.size ≤ sizeLine ∧ k = ((y.size : Int) != 0)
  | .ref p => (∃ xs, SqL K H p xs ∧ k = !xs.isEmpty) ∨ (∃ xs, SqT K H p xs ∧ k = !xs.isEmpty) ∨ ∃ kvs, H p = some (.dK kvs) ∧ k = !kvs.isEmpty
  | _ => False
theorem line63 : (sizeLine : Nat) < 2 ^ 63 := by rw [sizeLine_eq]; decide
def PlainIxT (b : Expr) : Prop := ∀ o i, subscripted b false o i = operate [o, i] (getItem o i)
theorem vals1 {x : V} {us : List Value} (r : Vals [x] us) : ∃ u, us = [u] ∧ RelV x u := by
  cases r with
  | cons r1 r2 => cases r2; exact ⟨_, rfl, r1⟩
theorem vals2 {x y : V} {us : List Value} (r : Vals [x, y] us) : ∃ u w', us = [u, w'] ∧ RelV x u ∧ RelV y w' := by
  cases r with
  | cons r1 r2 =>
    cases r2 with
    | cons r3 r4 => cases r4; exact ⟨_, _, rfl, r1, r3⟩
theorem call_abs : CallR X (.builtin "abs") (fun xs H Q => ∃ i, xs = [.int i] ∧ Q (.int (if i < 0 then -i else i)) H) := by
  intro pins s σ H xs us Q I r h
  obtain ⟨i, rfl, q⟩ := h
  obtain ⟨u, rfl, t, rfl⟩ := vals1 r
  exact call_abs_int fun u tk => ⟨.int (if i < 0 then -i else i), H, I.tok _, ⟨_, rfl⟩, q⟩
/-- len of a str, a bytes, a list, a tuple -/
def LenV (K : PySem.W.Frag) (x : V) (H : Hp) (n : Nat) : Prop :=
  match x with
  | .str y => y.length ≤ sizeLine ∧ n = y.length
  | .byt y => y.size ≤ sizeLine ∧ n = y.size
  | .ref p => (∃ xs, SqL K H p xs ∧ n = xs.length) ∨ ∃ xs, SqT K H p xs ∧ n = xs.length
  | _ => False
end
end L2

namespace L2
open PySem PySem.Spec PyProof.Rows

structure ObjM (h : Heap) (x dx C : Addr) (mA : Str → Option Value) : Prop where
  obj : h.get? x = some (PySem.W.instObj C dx)
  ns : h.Ns1 dx mA
  ne : dx ≠ x

theorem lookIn_ns {h : Heap} {dx : Addr} {mA : Str → Option Value} (n : h.Ns1 dx mA) : ∃ od, h.get? dx = some od ∧ ∀ name, PySem.W.lookIn name od = some (mA name) := by
  obtain ⟨o, es, ep, ho, hd, hk, _, hm⟩ := n
  refine ⟨o, ho, fun name => ?_⟩
  have e := hm name
  unfold nsFind findBy at e
  rw [← Array.find?_toList] at e
  unfold PySem.W.lookIn
  rw [hd]
  dsimp only
  split
  · rename_i y q
    rw [q] at e
    exact congrArg some e
  · rename_i q
    rw [q] at e
    have a : es.toList.any (·.refKey) = false := by
      rw [List.any_eq_false]
      intro y hy
      obtain ⟨z, t, hkey⟩ := hk y (Array.mem_toList_iff.mp hy)
      simp [DictEntry.refKey, hkey]
    have a' : ¬ es.toList.any (·.refKey) = true := by rw [a]; exact Bool.false_ne_true
    rw [if_neg a']
    exact congrArg some e

theorem ObjM.look {h : Heap} {x dx C : Addr} {mA : Str → Option Value} (I : ObjM h x dx C mA) : ∃ od, PySem.W.InstAt h x (PySem.W.instObj C dx) C (some od) ∧ ∀ name, PySem.W.lookIn name od = some (mA name) :=
  let ⟨od, ho, hl⟩ := lookIn_ns I.ns
  ⟨od, ⟨I.obj, rfl, rfl, ho⟩, hl⟩

section
variable {prog : Program} {w : World} {A : Around} {E : Value → Shared → Prop} {s : Shared} {K : PySem.W.Frag} {x dx C f : Addr} {mA : Str → Option Value} {name : Str} {v : Value}

theorem get_map {expr : Bool} {Q : Value → Shared → Prop} (X : K.In s.heap) (I : ObjM s.heap x dx C mA) (hg : PySem.W.plainGet K C name = true) (hh : PySem.W.hasDictIn K C = true)
    (ha : PySem.W.findIn K (.ref C) name = some none) (hv : mA name = some v) (hv' : PySem.W.handedIn v = true) (h : Q v { s with toks := s.toks + 1 }) :
    wpAny (model prog w) A (getAttr (.ref x) name expr) Q E s := by
  obtain ⟨od, J, hl⟩ := I.look
  exact PySem.W.get_value X J (PySem.W.plainGet_of hg).1 (PySem.W.findObj_own hh ha rfl (by rw [hl, hv])) hv' h

theorem get_meth {pl : Sem Bool} {Q : Value × List Value → Shared → Prop} (X : K.In s.heap) (I : ObjM s.heap x dx C mA) (hg : PySem.W.plainGet K C name = true)
    (hf : PySem.W.findIn K (.ref C) name = some (some (.ref f))) (ht : PySem.W.isFn K (.ref f) = true) (hv : mA name = none) (h : Q (.ref f, [.ref x]) s) :
    wpAny (model prog w) A (getMethod (.ref x) name pl) Q E s := by
  obtain ⟨od, J, hl⟩ := I.look
  exact PySem.W.method_fn X J (PySem.W.plainGet_of hg).1 (PySem.W.plainGet_of hg).2 hf (beq_iff_eq.mp ht) (by show (PySem.W.lookIn name od).map (·.isSome) = some false; rw [hl, hv]; rfl) h

theorem set_map {ns : List Str} {Q : Unit → Shared → Prop} (X : K.In s.heap) (I : ObjM s.heap x dx C mA)
    (hs : PySem.W.findIn K (.ref C) "__setattr__" = some (some (.builtin "object.__setattr__"))) (hp : PySem.W.plainOver K C = true) (ht : PySem.W.takerIn K C name = some none) (hh : PySem.W.hasDictIn K C = true)
    (hw : PySem.Within mA ns) (hsz : ns.length ≤ sizeLine)
    (h : ∀ h', ObjM h' x dx C (fun y => if y = name then some v else mA y) → Heap.SameBut dx s.heap h' → Q () { s with heap := h', toks := s.toks + 2 }) :
    wpAny (model prog w) A (setAttr (.ref x) name v) Q E s := by
  obtain ⟨od, J, hl⟩ := I.look
  refine PySem.W.set_plain X J hs (PySem.W.osa_open (s := { s with toks := s.toks + 1 }) (r := none) X J hp ht fun b => ?_)
  obtain ⟨cd, hc, hd'⟩ := PySem.W.any_some hh
  have hx : s.heap.get? x = some ⟨.ref C, some dx, .plain, #[]⟩ := I.obj
  refine wpAny_bind (wpAny_pure (wpAny_bind (wpAny_bind (wpAny_loadPart hx (wpAny_bind (PySem.W.Looks.here (s := { s with toks := s.toks + 1 }) (PySem.W.looks_clsIn X hc) ?_))))))
  rw [hd']
  refine wpAny_pure (a := some dx) (wpAny_bind (wpAny_pure (wpAny_bind ?_)))
  refine wpAny_nsSet1 (s := { s with toks := s.toks + 1 }) I.ns fun h' hn2 hs2 => ?_
  obtain ⟨oD, esD, epD, hoD, hdD, hcD⟩ := hn2.count (PySem.Within.cons name v hw)
  refine wpAny_bind (wpAny_lookBehind hoD (by rw [hdD]; exact pastItsLine_dict (Nat.le_trans hcD (by rw [List.length_cons]; omega))) ?_)
  exact wpAny_pure (h _ ⟨(hs2.2 _ (Ne.symm I.ne)).trans I.obj, hn2, I.ne⟩ hs2)

/-- C(..): the dict at the heap's end, the instance behind it; then its __init__ -/
theorem make_map {R : Result → Shared → Prop} {vs : List Value} {kw : List (Str × Value)} (X : K.In s.heap) (hm : PySem.W.makesIn K C = true)
    (hi : PySem.W.findIn K (.ref C) "__init__" = some (some (.ref f))) (hf : PySem.W.typeIn K (.ref f) = some (.type "function"))
    (h : codeAny (model prog w) (A.under (.builtin "type.__call__" ⟨.ref C :: vs, kw⟩)) (.call (.ref f) ⟨.ref (s.heap.objs.size + 1) :: vs, kw⟩) (PySem.W.InitBack (s.heap.objs.size + 1) R)
      { s with heap := (s.heap.push PySem.W.emptyDict).push (PySem.W.instObj C s.heap.objs.size) }) :
    codeAny (model prog w) A (.call (.ref C) ⟨vs, kw⟩) R s := by
  obtain ⟨hh, g, d, t, os⟩ := s
  exact PySem.W.make_core (PySem.W.makes_of X hm) (PySem.W.looks_findIn X hi) (fun self => PySem.W.bind_fn X self hf) (.inl rfl) h
end

def putF (f : Str) (v : V) : List (Str × V) → List (Str × V)
  | [] => [(f, v)]
  | (g, x) :: r => if g = f then (g, v) :: r else (g, x) :: putF f v r
theorem lookup_putF (f g : Str) (v : V) : ∀ fs : List (Str × V), (putF f v fs).lookup g = if g = f then some v else fs.lookup g
  | [] => by
    show List.lookup g [(f, v)] = _
    by_cases h : g = f
    · have hb : (g == f) = true := beq_iff_eq.mpr h
      simp only [List.lookup, hb, if_pos h]
    · have hb : (g == f) = false := beq_eq_false_iff_ne.mpr h
      simp only [List.lookup, hb, if_neg h]
  | (k, x) :: r => by
    have ih := lookup_putF f g v r
    rw [show putF f v ((k, x) :: r) = (if k = f then (k, v) :: r else (k, x) :: putF f v r) from rfl]
    by_cases hk : k = f
    · rw [if_pos hk]
      by_cases h : g = k
      · have hb : (g == k) = true := beq_iff_eq.mpr h
        simp only [List.lookup, hb, if_pos (h.trans hk)]
      · have hb : (g == k) = false := beq_eq_false_iff_ne.mpr h
        simp only [List.lookup, hb, if_neg (fun e : g = f => h (e.trans hk.symm))]
    · rw [if_neg hk]
      by_cases h : g = k
      · have hb : (g == k) = true := beq_iff_eq.mpr h
        simp only [List.lookup, hb, if_neg (fun e : g = f => hk (h.symm.trans e))]
      · have hb : (g == k) = false := beq_eq_false_iff_ne.mpr h
        simp only [List.lookup, hb]
        exact ih
theorem keys_putF (f : Str) (v : V) : ∀ fs : List (Str × V), f ∈ (putF f v fs).map (·.1) ∧ ∀ g, g ∈ fs.map (·.1) → g ∈ (putF f v fs).map (·.1)
  | [] => ⟨by simp [putF], fun g h => by simp at h⟩
  | (k, x) :: r => by
    obtain ⟨i1, i2⟩ := keys_putF f v r
    rw [show putF f v ((k, x) :: r) = (if k = f then (k, v) :: r else (k, x) :: putF f v r) from rfl]
    by_cases hk : k = f
    · rw [if_pos hk]
      subst hk
      exact ⟨by simp, fun g h => by simpa using h⟩
    · rw [if_neg hk]
      refine ⟨?_, fun g h => ?_⟩
      · rw [List.map_cons]
        exact List.mem_cons_of_mem _ i1
      · rw [List.map_cons] at h ⊢
        rcases List.mem_cons.mp h with e | e
        · exact List.mem_cons.mpr (.inl e)
        · exact List.mem_cons_of_mem _ (i2 g e)
theorem length_putF (f : Str) (v : V) : ∀ fs : List (Str × V), (putF f v fs).length ≤ fs.length + 1
  | [] => by simp [putF]
  | (k, x) :: r => by
    have ih := length_putF f v r
    rw [show putF f v ((k, x) :: r) = (if k = f then (k, v) :: r else (k, x) :: putF f v r) from rfl]
    by_cases hk : k = f
    · rw [if_pos hk, List.length_cons, List.length_cons]; omega
    · rw [if_neg hk, List.length_cons, List.length_cons]; omega

theorem RelO.some_of {v : V} {o : Option Value} (r : RelO (some v) o) : ∃ u, o = some u ∧ RelV v u := by
  cases o with
  | none => exact (show False from r).elim
  | some u => exact ⟨u, rfl, r⟩
theorem RelO.none_of {o : Option Value} (r : RelO none o) : o = none := by
  cases o with
  | none => rfl
  | some u => exact (show False from r).elim
theorem handed_of {v : V} {u : Value} (r : RelV v u) : PySem.W.handedIn u = true := by
  cases v with
  | non => cases (show u = Value.none from r); rfl
  | bl b => cases (show u = Value.bool b from r); rfl
  | int i => obtain ⟨t, e⟩ := (show ∃ t, u = Value.int i t from r); cases e; rfl
  | str x => obtain ⟨t, e⟩ := (show ∃ t, u = Value.str x t from r); cases e; rfl
  | byt b => obtain ⟨t, e⟩ := (show ∃ t, u = Value.bytes b t from r); cases e; rfl
  | flt b => obtain ⟨t, e⟩ := (show ∃ t, u = Value.float b t from r); cases e; rfl
  | ref a => cases (show u = Value.ref a from r); rfl
  | ty n => cases (show u = Value.type n from r); rfl

section
variable {P : Program} {w : World} {H H' : Hp} {h h' : Heap} {a C dx : Addr} {fs fs' : List (Str × V)}
theorem ins_get (hok : HOk P w H h) (e : H a = some (.ins C dx fs)) : ∃ mA, ObjM h a dx C mA ∧ (∀ f, RelO (fs.lookup f) (mA f)) ∧ PySem.Within mA (fs.map (·.1)) ∧ fs.length ≤ 1000 ∧ H dx = some (.own a) := by
  obtain ⟨d, z, ne, ob, mA, n, r, q⟩ := (show ObjOk P w H h a (.ins C dx fs) from hok a _ e)
  exact ⟨mA, ⟨ob, n, ne⟩, r, q, z, d⟩
end

structure Cls (K : PySem.W.Frag) (C : Addr) : Prop where
  pg : PySem.W.plainGet K C Str.empty = true
  hd : PySem.W.hasDictIn K C = true
  po : PySem.W.plainOver K C = true
  sa : PySem.W.findIn K (.ref C) "__setattr__" = some (some (.builtin "object.__setattr__"))
theorem Cls.get {K : PySem.W.Frag} {C : Addr} (c : Cls K C) (f : Str) : PySem.W.plainGet K C f = true := c.pg
/-- no class of it has the name -/
def NoAttr (K : PySem.W.Frag) (C : Addr) (f : Str) : Prop := PySem.W.findIn K (.ref C) f = some none
theorem NoAttr.taker {K : PySem.W.Frag} {C : Addr} {f : Str} (n : NoAttr K C f) : PySem.W.takerIn K C f = some none := by
  unfold PySem.W.takerIn
  rw [show PySem.W.findIn K (.ref C) f = some none from n]
  rfl
/-- a constant of the class -/
structure Con (K : PySem.W.Frag) (C : Addr) (f : Str) (v : V) (u : Value) : Prop where
  at_ : PySem.W.findIn K (.ref C) f = some (some u)
  rel : RelV v u
  get : PySem.W.specialIn K u "__get__" = some none
  cp : PySem.W.copiedNames.contains f = false
/-- a method: a plain def of the class or of one above it -/
structure Meth (K : PySem.W.Frag) (C : Addr) (m : Str) (f : Addr) : Prop where
  at_ : PySem.W.findIn K (.ref C) m = some (some (.ref f))
  fn : PySem.W.isFn K (.ref f) = true
  kp : PySem.W.keepIn K (.ref f) = true

section
variable {X : Cx} {pins : List (Addr × Obj)} {σ : St} {H : Hp} {s : Shared} {a C dx : Addr} {fs : List (Str × V)} {f : Str} {v : V} {A : Around} {E : Value → Shared → Prop}

theorem getattr_ok {b : Bool} {Q : Value → Shared → Prop} (I : Inv X pins σ H s) (e : H a = some (.ins C dx fs)) (c : Cls X.K C) (n : NoAttr X.K C f) (l : fs.lookup f = some v)
    (h : ∀ u s', Inv X pins σ H s' → RelV v u → Q u s') : wpAny (model X.prog X.w) A (getAttr (.ref a) f b) Q E s := by
  obtain ⟨mA, O, r, _, _, _⟩ := ins_get I.hok e
  obtain ⟨u, hu, ru⟩ := RelO.some_of (v := v) (o := mA f) (by rw [← l]; exact r f)
  exact get_map I.kIn O (c.get f) c.hd n hu (handed_of ru) (h u _ (I.tok _) ru)

theorem getmeth_ok {m : Str} {g : Addr} {pl : Sem Bool} {Q : Value × List Value → Shared → Prop} (I : Inv X pins σ H s) (e : H a = some (.ins C dx fs)) (c : Cls X.K C) (k : Meth X.K C m g) (l : fs.lookup m = none)
    (h : Q (.ref g, [.ref a]) s) : wpAny (model X.prog X.w) A (getMethod (.ref a) m pl) Q E s := by
  obtain ⟨mA, O, r, _, _, _⟩ := ins_get I.hok e
  have hn : mA m = none := RelO.none_of (by rw [← l]; exact r m)
  exact get_meth I.kIn O (c.get m) k.at_ k.fn hn h

theorem setattr_ok {y : V} {u : Value} {Q : Unit → Shared → Prop} (I : Inv X pins σ H s) (e : H a = some (.ins C dx fs)) (c : Cls X.K C) (n : NoAttr X.K C f) (hl : fs.length < 1000) (ry : RelV y u)
    (h : ∀ s', Inv X pins σ (upd H a (.ins C dx (putF f y fs))) s' → Q () s') : wpAny (model X.prog X.w) A (setAttr (.ref a) f u) Q E s := by
  obtain ⟨mA, O, r, wi, _, ho⟩ := ins_get I.hok e
  have hz : (fs.map (·.1)).length ≤ sizeLine := by rw [List.length_map, sizeLine_eq]; omega
  refine set_map I.kIn O c.sa c.po n.taker c.hd wi hz fun h' O' sb => h _ ?_
  have hd : ∃ o, h'.get? dx = some o := let ⟨o, _, _, e', _⟩ := O'.ns; ⟨o, e'⟩
  refine I.write (x := a) (e := dx) (by rw [e]; exact True.intro) (.inr ho) (fun b q hb z => (sb.2 b hb).trans z) hd ?_
  refine ⟨by rw [upd_ne O.ne]; exact ho, ?_, O.ne, O'.obj, _, O'.ns, fun g => ?_, fun g hg => ?_⟩
  · have := length_putF f y fs; omega
  · show RelO ((putF f y fs).lookup g) (if g = f then some u else mA g)
    rw [lookup_putF]
    by_cases q : g = f
    · rw [if_pos q, if_pos q]; exact ry
    · rw [if_neg q, if_neg q]; exact r g
  · by_cases q : g = f
    · rw [q]; exact (keys_putF f y fs).1
    · refine (keys_putF f y fs).2 g (wi g fun z => hg ?_)
      show (if g = f then some u else mA g) = none
      rw [if_neg q]; exact z

/-- a new instance, tracked, without attributes -/
theorem Inv.made (I : Inv X pins σ H s) : Inv X pins σ (upd (upd H s.heap.objs.size (.own (s.heap.objs.size + 1))) (s.heap.objs.size + 1) (.ins C s.heap.objs.size []))
    { s with heap := (s.heap.push PySem.W.emptyDict).push (PySem.W.instObj C s.heap.objs.size) } := by
  have e1 : (s.heap.push PySem.W.emptyDict).get? s.heap.objs.size = some PySem.W.emptyDict := Heap.get?_push_size s.heap rfl
  have e2 : ((s.heap.push PySem.W.emptyDict).push (PySem.W.instObj C s.heap.objs.size)).get? (s.heap.objs.size + 1) = some (PySem.W.instObj C s.heap.objs.size) := by
    have := Heap.get?_push_size (s.heap.push PySem.W.emptyDict) (o := PySem.W.instObj C s.heap.objs.size) rfl
    rwa [Heap.size_push] at this
  have e3 : (s.heap.push PySem.W.emptyDict).Ns s.heap.objs.size (fun _ => none) := ⟨PySem.W.emptyDict, #[], _, e1, rfl, (fun e he => absurd he (by simp)), fun _ => rfl⟩
  have I1 := I.laid (a := s.heap.objs.size) (o := .own (s.heap.objs.size + 1)) (h' := s.heap.push PySem.W.emptyDict) (t' := s.toks) (fun b u q => Heap.get?_push_of_some _ q) (Nat.le_refl _) ⟨_, e1⟩
  refine I1.laid (a := s.heap.objs.size + 1) (o := .ins C s.heap.objs.size []) (t' := s.toks) (fun b u q => Heap.get?_push_of_some _ q) (Nat.le_of_eq (Heap.size_push _ _)) ?_
  have ne : s.heap.objs.size ≠ s.heap.objs.size + 1 := Nat.ne_of_lt (Nat.lt_succ_self _)
  refine ⟨by rw [upd_ne ne, upd_same], Nat.zero_le _, ne, e2, fun _ => none, (Heap.Ns1.of_empty e3).at fun o q => Heap.get?_push_of_some _ q, fun _ => True.intro, fun y hy => absurd rfl hy⟩

/-- e.f where nothing but the object is asked: through attributeBase (super) and the last hold -/
theorem attr_of {prog : Program} {w : World} {env : Env} {e : Expr} {f : Str} {pos : Pos} {s : Shared} {Q : Value → Shared → Prop} (hb : attributeBase e f env (eval e env) = eval e env)
    (h : wpAny (model prog w) A (eval e env) (fun o s₁ => wpAny (model prog w) A (getAttr o f true) Q E s₁) E s) : wpAny (model prog w) A (eval (.Attribute e f pos) env) Q E s :=
  Attribute_any_ h (by rw [arm_eval_Attribute, hb])
end

/-- e.f, an attribute of the instance -/
def tFld (K : PySem.W.Frag) (ta : TE) (f : Str) : TE := fun σ H Q => ta σ H fun x H1 => ∃ a C dx fs v, x = .ref a ∧ H1 a = some (.ins C dx fs) ∧ Cls K C ∧ NoAttr K C f ∧ fs.lookup f = some v ∧ Q v H1
/-- e.f, a constant of the class -/
def tCon (K : PySem.W.Frag) (ta : TE) (f : Str) : TE := fun σ H Q => ta σ H fun x H1 => ∃ a C dx fs v u, x = .ref a ∧ H1 a = some (.ins C dx fs) ∧ Cls K C ∧ Con K C f v u ∧ fs.lookup f = none ∧ Q v H1
/-- e.f = value -/
def sFld (K : PySem.W.Frag) (ta tv : TE) (f : Str) : TS := fun D σ H => tv σ H fun y H1 => ta σ H1 fun x H2 => ∃ a C dx fs, x = .ref a ∧ H2 a = some (.ins C dx fs) ∧ Cls K C ∧ NoAttr K C f ∧ fs.length < 1000 ∧
  D.nx σ (upd H2 a (.ins C dx (putF f y fs)))
/-- an augmented operator on two values -/
def InOp (X : Cx) (op : Operator) (rd : V → V → Hp → VK → Prop) : Prop :=
  ∀ (pins : List (Addr × Obj)) (s : Shared) (σ : St) (H : Hp) (x y : V) (u v : Value) (Q : VK), Inv X pins σ H s → RelV x u → RelV y v → rd x y H Q → wpAny (model X.prog X.w) X.A (inplaceOp op u v) (EP X pins σ Q) X.xe s
/-- e.f op= value -/
def sFldAug (K : PySem.W.Frag) (ta tv : TE) (rd : V → V → Hp → VK → Prop) (f : Str) : TS := fun D σ H => ta σ H fun x H1 => ∃ a C dx fs v, x = .ref a ∧ H1 a = some (.ins C dx fs) ∧ Cls K C ∧ NoAttr K C f ∧ fs.lookup f = some v ∧
  tv σ H1 fun y H2 => rd v y H2 fun z H3 => ∃ dx' fs', H3 a = some (.ins C dx' fs') ∧ fs'.length < 1000 ∧ D.nx σ (upd H3 a (.ins C dx' (putF f z fs')))

section
variable {X : Cx} {o e value : Expr} {f : Str} {pos pos' tpos : Pos} {ta tv : TE}
theorem pe_fld (he : PE X e ta) (hb : attributeBase e f X.env (eval e X.env) = eval e X.env) : PE X (.Attribute e f pos) (tFld X.K ta f) := by
  intro pins s σ H Q I h
  refine attr_of hb (thn (he pins s σ H _ I h) fun u s1 ⟨x, H1, I1, rx, a, C, dx, fs, v, ex, ea, c, n, l, q⟩ => ?_)
  subst ex
  obtain rfl : u = Value.ref a := rx
  exact getattr_ok I1 ea c n l fun u' s2 I2 ru => ⟨v, H1, I2, ru, q⟩
theorem ps_fld (ha : PE X o ta) (hv : PE X value tv) (hs : swapsWith value (some (.Attribute o f pos')) pos.line X.env = pure false) : PS X (.Assign [.Attribute o f pos'] value pos) (sFld X.K ta tv f) := by
  intro pins s σ H D I h
  refine plainObj_wpAny_Assign_Attribute (thn (hv pins s σ H _ I h) fun u s1 ⟨y, H1, I1, ry, q⟩ => thn (ha pins s1 σ H1 _ I1 q) fun ov s2 ⟨x, H2, I2, rx, a, C, dx, fs, ex, ea, c, n, l, q2⟩ => ?_) hs
  subst ex
  obtain rfl : ov = Value.ref a := rx
  exact setattr_ok I2 ea c n l ry fun s3 I3 => ⟨σ, _, I3, q2⟩
def rAdd : V → V → Hp → VK → Prop := fun x y H Q => ∃ i j, x = .int i ∧ y = .int j ∧ Q (.int (i + j)) H
def rSub : V → V → Hp → VK → Prop := fun x y H Q => ∃ i j, x = .int i ∧ y = .int j ∧ Q (.int (i - j)) H
end

section
variable {X : Cx} {pins : List (Addr × Obj)} {σ : St} {H : Hp} {s : Shared} {A : Around} {E : Value → Shared → Prop} {Q : Value → Shared → Prop} {c : Value} {b : Bool}
/-- the type of a value, as the fragment's deciders take it; for an instance its class -/
inductive TyOf (K : PySem.W.Frag) (H : Hp) : V → Value → Prop where
  | non : TyOf K H .non (.type "NoneType")
  | bl (x : Bool) : TyOf K H (.bl x) (.type "bool")
  | int (i : Int) : TyOf K H (.int i) (.type "int")
  | str (x : Str) : TyOf K H (.str x) (.type "str")
  | flt (x : UInt64) : TyOf K H (.flt x) (.type "float")
  | lst {a : Addr} {xs : List V} (e : H a = some (.lst xs)) : TyOf K H (.ref a) (.type "list")
  | frz {a : Addr} {o : Obj} {xs : List V} (e : H a = some (.frz o (.lst xs))) : TyOf K H (.ref a) (.type "list")
  | tup {a : Addr} {xs : List V} (e : H a = some (.tup xs)) : TyOf K H (.ref a) (.type "tuple")
  | dK {a : Addr} {kvs : List (Key × V)} (e : H a = some (.dK kvs)) : TyOf K H (.ref a) (.type "dict")
  | dT {a : Addr} {kvs : List (List Key × V)} (e : H a = some (.dT kvs)) : TyOf K H (.ref a) (.type "dict")
  | ins {a C dx : Addr} {fs : List (Str × V)} (e : H a = some (.ins C dx fs)) (cl : Cls K C) (ha : PySem.W.findIn K (.ref C) "__class__" = some (some (.builtin "object.__class__")))
      (hn : PySem.W.specialIn K (.builtin "object.__class__") "__get__" = some (some (.builtin "getset_descriptor.__get__"))) (htk : PySem.W.takesIn K (.builtin "object.__class__") = some true)
      (hm : PySem.W.mroIn K C (.type "object") = some true) : TyOf K H (.ref a) (.ref C)
/-- isinstance(x, c) for one class c, a built-in or an own one: kitOne's answer -/
theorem isinst_ok {x : V} {u t : Value} (I : Inv X pins σ H s) (rx : RelV x u) (ty : TyOf X.K H x t) (e : PySem.W.kitOne X.K t c = some b) (h : ∀ tk, Q (.bool b) { s with toks := tk }) :
    wpAny (model X.prog X.w) A (call (.builtin "isinstance") [u, c]) Q E s := by
  cases ty with
  | non => cases (show u = Value.none from rx); exact PySem.W.kia_one PySem.W.kitx_none I.kIn True.intro e (fun z => nomatch z) h
  | bl y => cases (show u = Value.bool y from rx); exact PySem.W.kia_one PySem.W.kitx_bool I.kIn True.intro e (fun z => nomatch z) h
  | int i => obtain ⟨t, q⟩ := (show ∃ t, u = Value.int i t from rx); cases q; exact PySem.W.kia_one PySem.W.kitx_int I.kIn True.intro e (fun z => nomatch z) h
  | str y => obtain ⟨t, q⟩ := (show ∃ t, u = Value.str y t from rx); cases q; exact PySem.W.kia_one PySem.W.kitx_str I.kIn True.intro e (fun z => nomatch z) h
  | flt y => obtain ⟨t, q⟩ := (show ∃ t, u = Value.float y t from rx); cases q; exact PySem.W.kia_one PySem.W.kitx_float I.kIn True.intro e (fun z => nomatch z) h
  | @lst a xs ea =>
    cases (show u = Value.ref a from rx)
    obtain ⟨_, _, n, _, h1⟩ := (show ObjOk X.prog X.w H s.heap a (.lst xs) from I.hok a _ ea)
    exact PySem.W.kia_one PySem.W.kitx_list I.kIn ⟨_, h1, rfl⟩ e (fun z => nomatch z) h
  | @frz a ob xs ea =>
    cases (show u = Value.ref a from rx)
    obtain ⟨_, _, _, n, _, h1⟩ := (show ObjOk X.prog X.w H s.heap a (.frz ob (.lst xs)) from I.hok a _ ea)
    exact PySem.W.kia_one PySem.W.kitx_list I.kIn ⟨_, h1, rfl⟩ e (fun z => nomatch z) h
  | @tup a xs ea =>
    cases (show u = Value.ref a from rx)
    obtain ⟨_, _, _, p⟩ := (show ObjOk X.prog X.w H s.heap a (.tup xs) from I.hok a _ ea)
    obtain ⟨o, h1, h2, _⟩ := p
    exact PySem.W.kia_one PySem.W.kitx_tuple I.kIn ⟨o, h1, h2⟩ e (fun z => nomatch z) h
  | @dK a kvs ea =>
    cases (show u = Value.ref a from rx)
    obtain ⟨_, _, vs, _, p⟩ := (show ObjOk X.prog X.w H s.heap a (.dK kvs) from I.hok a _ ea)
    obtain ⟨o, es, ep, h1, h2, _⟩ := p
    exact PySem.W.kia_one PySem.W.kitx_dict I.kIn ⟨o, h1, h2.1⟩ e (fun z => nomatch z) h
  | @dT a kvs ea =>
    cases (show u = Value.ref a from rx)
    obtain ⟨_, _, xs, _, o, es, ep, h1, h2, _⟩ := (show ObjOk X.prog X.w H s.heap a (.dT kvs) from I.hok a _ ea)
    exact PySem.W.kia_one PySem.W.kitx_dict I.kIn ⟨o, h1, h2.1⟩ e (fun z => nomatch z) h
  | @ins a C dx fs ea cl ha hn htk hm =>
    cases (show u = Value.ref a from rx)
    obtain ⟨mA, O, _⟩ := ins_get I.hok ea
    obtain ⟨od, J, _⟩ := O.look
    exact PySem.W.kia_one (PySem.W.kitx_own (cl.get _) cl.hd ha hn htk hm) I.kIn J e (fun z => nomatch z) h
end
end L2

namespace L2
open PySem PySem.Spec PyProof.Rows

structure Room (k : Nat) (A : Around) : Prop where
  hd : A.handled = none
  dp : A.depth + 3 * k + 5 < recursionLimit
  un : A.units + 16 * k + 200 < cLine
theorem Room.mono {j k : Nat} {A : Around} (r : Room k A) (h : j ≤ k) : Room j A := ⟨r.hd, by have := r.dp; omega, by have := r.un; omega⟩
theorem Room.deeper {k : Nat} {A : Around} (r : Room (k + 1) A) (env : Env) : Room k (A.deeper env) :=
  ⟨r.hd, by have := r.dp; show A.depth + 1 + 3 * k + 5 < _; omega, by have := r.un; show A.units + 3 + 16 * k + 200 < _; omega⟩
theorem Room.in1 {k : Nat} {A : Around} (r : Room (k + 1) A) : Room k A.in1 :=
  ⟨r.hd, by have := r.dp; show A.depth + 3 * k + 5 < _; omega, by have := r.un; show A.units + 1 + 16 * k + 200 < _; omega⟩
theorem make_depth {A : Around} {C : Addr} {us : List Value} {kw : List (Str × Value)} : (A.under (.builtin "type.__call__" ⟨.ref C :: us, kw⟩)).depth = A.depth + 1 := by
  first | rfl | simp [Around.under, Code.weight, Code.isCreation, Code.isGuard, Code.isCaller, Code.frames, Code.isFrame, guardIds]
theorem make_units {A : Around} {C : Addr} {us : List Value} {kw : List (Str × Value)} : (A.under (.builtin "type.__call__" ⟨.ref C :: us, kw⟩)).units = A.units + 1 := by
  first | rfl | simp [Around.under, Code.cUnits, Code.frames, Code.isFrame]
theorem Room.make {k : Nat} {A : Around} (r : Room (k + 1) A) (C : Addr) (us : List Value) (kw : List (Str × Value)) : Room k (A.under (.builtin "type.__call__" ⟨.ref C :: us, kw⟩)) :=
  ⟨r.hd, by have := r.dp; rw [make_depth]; omega, by have := r.un; rw [make_units]; omega⟩
theorem Room.depth {k : Nat} {A : Around} (r : Room k A) : A.depth < recursionLimit := by have := r.dp; omega
theorem Room.units {k : Nat} {A : Around} (r : Room k A) : A.units + 64 < cLine := by have := r.un; omega
def tNil : TA := fun _ H Q => Q [] H
def tCons (ta : TE) (tr : TA) : TA := fun σ H Q => ta σ H fun x H1 => tr σ H1 fun xs H2 => Q (x :: xs) H2
section
variable {X : Cx} {e : Expr} {es : List Expr} {te : TE} {t : TA} {pos : Pos}
theorem pa_nil : PA X [] tNil := fun _ _ _ _ H Q I h => Calls.spliced_nil ⟨[], H, I, .nil, h⟩
theorem pa_cons (ha : PE X e te) (hr : PA X es t) (hs : starEach (e :: es) X.env = (false, eval e X.env) :: starEach es X.env := by rfl) : PA X (e :: es) (tCons te t) := by
  intro pos pins s σ H Q I h
  rw [hs]
  show wpAny _ _ (spliced ((false, eval e X.env) :: backTo pos (starEach es X.env))) _ _ s
  refine Calls.spliced_cons (thn (ha pins s σ H _ I h) fun u s1 ⟨x, H1, I1, r1, q1⟩ => ?_)
  exact thn (hr pos pins s1 σ H1 _ I1 q1) fun us s2 ⟨xs, H2, I2, r2, q2⟩ => ⟨x :: xs, H2, I2, .cons r1 r2, q2⟩

/-- a tuple, a list of written items -/
def tTup (t : TA) : TE := fun σ H Q => t σ H fun xs H1 => xs.length ≤ sizeLine ∧ ∀ p, H1 p = none → Q (.ref p) (upd H1 p (.tup xs))
def tLst (t : TA) : TE := fun σ H Q => t σ H fun xs H1 => xs.length ≤ sizeLine ∧ ∀ p, H1 p = none → Q (.ref p) (upd H1 p (.lst xs))
theorem pe_tup {x1} (h : PA X es t) : PE X (.Tuple es x1 pos) (tTup t) := by
  intro pins s σ H Q I hq
  refine wpAny_Tuple_spliced (thn (h pos pins s σ H _ I hq) fun us s1 ⟨xs, H1, I1, r, z, q⟩ => ⟨by rw [← r.length]; exact z, ?_⟩)
  have hf : H1 s1.heap.objs.size = none := I1.hok.fresh (Nat.le_refl _)
  refine ⟨.ref s1.heap.objs.size, upd H1 s1.heap.objs.size (.tup xs), I1.laid (t' := s1.toks) (fun b u e => Heap.get?_push_of_some _ e) (Nat.le_refl _) ?_, rfl, q _ hf⟩
  exact ⟨z, us, r, ⟨_, Heap.get?_push_size _ rfl, rfl, _, rfl⟩⟩
theorem pe_lst (h : PA X es t) : PE X (.List es pos) (tLst t) := by
  intro pins s σ H Q I hq
  refine wpAny_List_spliced (thn (h pos pins s σ H _ I hq) fun us s1 ⟨xs, H1, I1, r, z, q⟩ => ⟨by rw [← r.length]; exact z, ?_⟩)
  have hf : H1 s1.heap.objs.size = none := I1.hok.fresh (Nat.le_refl _)
  refine ⟨.ref s1.heap.objs.size, upd H1 s1.heap.objs.size (.lst xs), I1.laid (t' := s1.toks) (fun b u e => Heap.get?_push_of_some _ e) (Nat.le_refl _) ?_, rfl, q _ hf⟩
  exact ⟨z, us, 0, r, Heap.get?_push_size _ rfl⟩
end

/-- a def's promise: the bound arguments in the parameters' order, the heap, the wanted end, the wanted exception -/
abbrev Sp := List V → Hp → VK → XK → Prop
/-- how an exception lies behind a call (file 08 gives it): the callers' frames, abstract heap and state ahead of the call, the wish, the exception, the state -/
abbrev CXT := List Env → Hp → Shared → XK → Value → Shared → Prop

/-- the state at a call -/
structure Env0 (P : Program) (w : World) (K : PySem.W.Frag) (mg : Str → Option Value) (base : Heap) (A : Around) (outer : List Env) (s : Shared) (H : Hp) : Prop where
  frames : A.frames = some outer
  mod : Mod K mg base
  bs : ∀ b o, base.get? b = some o → s.heap.get? b = some o ∧ H b = none
  bsz : base.objs.size ≤ s.heap.objs.size
  funs : s.heap.FunFrames base outer
  frf : ∀ b ∈ frs outer, H b = none
  hok : HOk P w H s.heap
  bare : AllBare s.gens
/-- a call's end -/
def CE (outer : List Env) (P : Program) (w : World) (H : Hp) (s : Shared) (Q : VK) (u : Value) (s' : Shared) : Prop :=
  ∃ v H', s'.os = s.os ∧ AllBare s'.gens ∧ Un (frs outer) [] H H' s.heap s'.heap ∧ HOk P w H' s'.heap ∧ RelV v u ∧ Q v H'
def CR (CX : CXT) (outer : List Env) (P : Program) (w : World) (H : Hp) (s : Shared) (Q : VK) (E : XK) (r : Result) (s' : Shared) : Prop :=
  match r with
  | .ok (.ret u) => CE outer P w H s Q u s'
  | .ok _ => False
  | .error e => CX outer H s E e s'
structure FnOk (P : Program) (w : World) (K : PySem.W.Frag) (mg : Str → Option Value) (base : Heap) (CX : CXT) (k : Nat) (f : Addr) (fd : FuncData) (ps : List Str) (sp : Sp) : Prop where
  len : ∀ vs H Q E, sp vs H Q E → vs.length = ps.length
  run : ∀ (A : Around) (outer : List Env) (s : Shared) (H : Hp) (args : Args) (us : List Value) (vs : List V) (Q : VK) (E : XK), Room k A → Env0 P w K mg base A outer s H → BindsTo s fd args (ps.zip us) → Vals vs us → sp vs H Q E →
    codeAny (model P w) A (.call (.ref f) args) (CR CX outer P w H s Q E) s
theorem FnOk.mono {P : Program} {w : World} {K : PySem.W.Frag} {mg : Str → Option Value} {base : Heap} {CX : CXT} {j k : Nat} {f : Addr} {fd : FuncData} {ps : List Str} {sp : Sp} (F : FnOk P w K mg base CX j f fd ps sp) (h : j ≤ k) :
    FnOk P w K mg base CX k f fd ps sp := ⟨F.len, fun A outer s H args us vs Q E hr => F.run A outer s H args us vs Q E (hr.mono h)⟩
/-- a weaker promise -/
theorem FnOk.imp {P : Program} {w : World} {K : PySem.W.Frag} {mg : Str → Option Value} {base : Heap} {CX : CXT} {k : Nat} {f : Addr} {fd : FuncData} {ps : List Str} {sp sp' : Sp} (F : FnOk P w K mg base CX k f fd ps sp)
    (h : ∀ vs H Q E, sp' vs H Q E → sp vs H Q E) : FnOk P w K mg base CX k f fd ps sp' :=
  ⟨fun vs H Q E q => F.len vs H Q E (h _ _ _ _ q), fun A outer s H args us vs Q E hr he hb hv hs => F.run A outer s H args us vs Q E hr he hb hv (h _ _ _ _ hs)⟩

theorem Env0.make {P : Program} {w : World} {K : PySem.W.Frag} {mg : Str → Option Value} {base : Heap} {A : Around} {outer : List Env} {s : Shared} {H : Hp} (e : Env0 P w K mg base A outer s H) (C : Addr) (us : List Value) (kw : List (Str × Value)) :
    Env0 P w K mg base (A.under (.builtin "type.__call__" ⟨.ref C :: us, kw⟩)) outer s H := ⟨by first | exact e.frames | (simpa [Around.under, Code.envs, Code.isFrame, pushEnvs] using e.frames), e.mod, e.bs, e.bsz, e.funs, e.frf, e.hok, e.bare⟩
theorem Env0.in1 {P : Program} {w : World} {K : PySem.W.Frag} {mg : Str → Option Value} {base : Heap} {A : Around} {outer : List Env} {s : Shared} {H : Hp} (e : Env0 P w K mg base A outer s H) :
    Env0 P w K mg base A.in1 outer s H := ⟨e.frames, e.mod, e.bs, e.bsz, e.funs, e.frf, e.hok, e.bare⟩

section
variable {X : Cx} {pins : List (Addr × Obj)} {σ : St} {H : Hp} {s s' : Shared}
/-- from a body: what a callee wants -/
theorem Inv.env0 (I : Inv X pins σ H s) : Env0 X.prog X.w X.K X.mg X.base X.A X.stack s H :=
  ⟨I.ok.frames, I.ok.mod, I.bs, Nat.le_trans I.ok.bsz I.sz, I.stack, I.stkFree, I.hok, I.bare⟩
/-- behind a call -/
theorem Inv.after {Q : VK} {u : Value} (I : Inv X pins σ H s) (h : CE X.stack X.prog X.w H s Q u s') : EP X pins σ Q u s' := by
  obtain ⟨v, H', os, bare, un, hok, r, q⟩ := h
  obtain ⟨hh, g, d, t, os'⟩ := s'
  obtain rfl : os' = s.os := os
  exact ⟨v, H', I.call (h' := hh) (g' := g) (d' := d) (t' := t) (ch := []) un hok bare (fun b z => absurd z (by simp)), r, q⟩
end

/-- f(..): the written arguments, then the defaults dvs; E: what is wanted of an exception -/
def tCall (sp : Sp) (dvs : List V) (E : XK) (t : TA) : TE := fun σ H Q => t σ H fun vs H1 => sp (vs ++ dvs) H1 Q E
/-- o.m(..) of an instance of the class at C -/
def tMeth (C : Addr) (m : Str) (sp : Sp) (dvs : List V) (E : XK) (ta : TE) (t : TA) : TE := fun σ H Q => ta σ H fun x H1 => ∃ a dx fs, x = .ref a ∧ H1 a = some (.ins C dx fs) ∧ fs.lookup m = none ∧
  t σ H1 fun vs H2 => sp (x :: (vs ++ dvs)) H2 Q E
/-- C(..): a new instance and its dict, then __init__ -/
def tMake (C : Addr) (sp : Sp) (dvs : List V) (E : XK) (t : TA) : TE := fun σ H Q => t σ H fun vs H1 => ∀ x dx, H1 x = none → H1 dx = none → dx ≠ x →
  sp (.ref x :: (vs ++ dvs)) (upd (upd H1 dx (.own x)) x (.ins C dx [])) (fun v H2 => v = .non ∧ Q (.ref x) H2) E

/-- how the parameters are bound: us the positional arguments, kw the keywords' values by name, ds the defaults that fill up -/
def Binds (K : PySem.W.Frag) (fd : FuncData) (ps : List Str) (ds : List Value) : Prop :=
  ∀ (s : Shared) (us : List Value), K.In s.heap → (us ++ ds).length = ps.length → BindsTo s fd ⟨us, []⟩ (ps.zip (us ++ ds))
/-- every parameter is given -/
theorem Binds.all {K : PySem.W.Frag} {fd : FuncData} {ps : List Str} (h : ∀ us : List Value, us.length = ps.length → bindArgs fd ⟨us, []⟩ = pure (ps.zip us)) : Binds K fd ps [] := fun s us _ hl => by
  rw [List.append_nil] at hl ⊢
  exact .of_eq (h us hl)

/-- an exception of a callee reaches what this body wants of exceptions -/
def Passes (CX : CXT) (X : Cx) (E : XK) : Prop := ∀ (pins : List (Addr × Obj)) (σ : St) (H : Hp) (s : Shared) (e : Value) (s' : Shared), Inv X pins σ H s → CX X.stack H s E e s' → X.xe e s'

section
variable {X : Cx} {CX : CXT} {k : Nat} {f C : Addr} {fd : FuncData} {ps : List Str} {sp : Sp} {dvs : List V} {ds : List Value} {E : XK} {x m : Str} {p pos apos : Pos} {e o : Expr} {es : List Expr} {ta : TE} {t : TA}

/-- the callee runs -/
theorem run_fn {pins : List (Addr × Obj)} {σ : St} {H : Hp} {s : Shared} {Q : VK} {us : List Value} {vs : List V} (F : FnOk X.prog X.w X.K X.mg X.base CX k f fd ps sp) (hr : Room k X.A) (hb : Binds X.K fd ps ds) (hd : Vals dvs ds) (hx : Passes CX X E)
    (I : Inv X pins σ H s) (r : Vals vs us) (h : sp (vs ++ dvs) H Q E) : wpAny (model X.prog X.w) X.A (call (.ref f) us) (EP X pins σ Q) X.xe s := by
  have r2 : Vals (vs ++ dvs) (us ++ ds) := r.append hd
  have hl : (us ++ ds).length = ps.length := by rw [← r2.length]; exact F.len _ _ _ _ h
  refine wpAny_call (codeAny_mono (F.run X.A X.stack s H ⟨us, []⟩ (us ++ ds) (vs ++ dvs) Q E hr I.env0 (hb s us I.kIn hl) r2 h) fun r s' hq => ?_)
  cases r with
  | error e => exact hx pins σ H s e s' I hq
  | ok fl =>
    cases fl with
    | ret u => exact I.after hq
    | next => exact False.elim hq
    | brk => exact False.elim hq
    | cont => exact False.elim hq

theorem pe_call (F : FnOk X.prog X.w X.K X.mg X.base CX k f fd ps sp) (hr : Room k X.A) (hg : Gl X x) (hm : X.mg x = some (.ref f)) (hk : PySem.W.keepIn X.K (.ref f) = true) (hb : Binds X.K fd ps ds) (hd : Vals dvs ds) (hx : Passes CX X E)
    (ha : PA X (e :: es) t) (hdb : (x == ("__debug__" : Str)) = false := by decide) (he : starEach (e :: es) X.env = (false, eval e X.env) :: starEach es X.env := by rfl) (hpl : (backTo pos (starEach es X.env)).any (·.1) = false := by rfl) :
    PE X (.Call (.Name x p) (e :: es) [] pos) (tCall sp dvs E t) := by
  intro pins s σ H Q I h
  refine wpAny_Call_Name_kw (ld_glob I hg hm ?_ hdb)
  refine PySem.W.callWith_K (h₀ := X.base) I.ok.mod.kin hk (thn (ha pos pins s σ H _ I h) fun us s1 ⟨vs, H1, I1, r, q⟩ => ⟨I1.kIn, ?_⟩) he hpl
  exact run_fn F hr hb hd hx I1 r q
/-- o.m(e, ..) -/
theorem pe_meth {pl : Sem Bool} (he : PE X o ta) (c : Cls X.K C) (hm : Meth X.K C m f) (F : FnOk X.prog X.w X.K X.mg X.base CX k f fd ps sp) (hr : Room k X.A) (hb : Binds X.K fd ps ds) (hd : Vals dvs ds) (hx : Passes CX X E) (ha : PA X (e :: es) t)
    (hst : starEach (e :: es) X.env = (false, eval e X.env) :: starEach es X.env := by rfl) (hpl : (backTo pos (starEach es X.env)).any (·.1) = false := by rfl)
    (ht : eval (.Call (.Attribute o m apos) (e :: es) [] pos) X.env = (do
      let ov ← eval o X.env
      standAt apos.atName
      let (f, first) ← holding [ov] (getMethod ov m pl)
      callWith pos f first (backTo pos (starEach (e :: es) X.env)) (backToKw pos (keywordEach [] X.env))) := by rfl) :
    PE X (.Call (.Attribute o m apos) (e :: es) [] pos) (tMeth C m sp dvs E ta t) := by
  intro pins s σ H Q I h
  refine PySem.W.methodCall_KW (pl := pl) (thn (he pins s σ H _ I h) fun u s1 ⟨x, H1, I1, rx, a, dx, fs, ex, ea, l, q⟩ => ?_) ht
  subst ex
  obtain rfl : u = Value.ref a := rx
  refine getmeth_ok I1 ea c hm l ?_
  refine PySem.W.callWith_K (first := [.ref a]) (h₀ := X.base) I.ok.mod.kin hm.kp (thn (ha pos pins s1 σ H1 _ I1 q) fun us s2 ⟨vs, H2, I2, r, q2⟩ => ⟨I2.kIn, ?_⟩) hst hpl
  exact run_fn (us := .ref a :: us) (vs := .ref a :: vs) F hr hb hd hx I2 (.cons rfl r) q2
/-- o.m() -/
theorem pe_meth0 {pl : Sem Bool} (he : PE X o ta) (c : Cls X.K C) (hm : Meth X.K C m f) (F : FnOk X.prog X.w X.K X.mg X.base CX k f fd ps sp) (hr : Room k X.A) (hb : Binds X.K fd ps ds) (hd : Vals dvs ds) (hx : Passes CX X E)
    (ht : eval (.Call (.Attribute o m apos) [] [] pos) X.env = (do
      let ov ← eval o X.env
      standAt apos.atName
      let (f, first) ← holding [ov] (getMethod ov m pl)
      callWith pos f first (backTo pos (starEach [] X.env)) (backToKw pos (keywordEach [] X.env))) := by rfl) :
    PE X (.Call (.Attribute o m apos) [] [] pos) (tMeth C m sp dvs E ta tNil) := by
  intro pins s σ H Q I h
  refine PySem.W.methodCall_KW (pl := pl) (thn (he pins s σ H _ I h) fun u s1 ⟨x, H1, I1, rx, a, dx, fs, ex, ea, l, q⟩ => ?_) ht
  subst ex
  obtain rfl : u = Value.ref a := rx
  refine getmeth_ok I1 ea c hm l ?_
  exact PySem.W.callWith_K0 (first := [.ref a]) I1.kIn hm.kp (run_fn (us := [.ref a]) (vs := [.ref a]) F hr hb hd hx I1 (.cons rfl .nil) q)

/-- what a class must have to be made -/
structure Mk (K : PySem.W.Frag) (C f : Addr) : Prop where
  makes : PySem.W.makesIn K C = true
  init : PySem.W.findIn K (.ref C) "__init__" = some (some (.ref f))
  fn : PySem.W.isFn K (.ref f) = true
  kp : PySem.W.keepIn K (.ref C) = true

theorem run_make {pins : List (Addr × Obj)} {σ : St} {H : Hp} {s : Shared} {Q : VK} {us : List Value} {vs : List V} (M : Mk X.K C f) (F : FnOk X.prog X.w X.K X.mg X.base CX k f fd ps sp) (hr : Room (k + 1) X.A) (hb : Binds X.K fd ps ds) (hd : Vals dvs ds)
    (hx : Passes CX X E) (I : Inv X pins σ H s) (r : Vals vs us)
    (h : ∀ x dx, H x = none → H dx = none → dx ≠ x → sp (.ref x :: (vs ++ dvs)) (upd (upd H dx (.own x)) x (.ins C dx [])) (fun v H2 => v = .non ∧ Q (.ref x) H2) E) :
    wpAny (model X.prog X.w) X.A (call (.ref C) us) (EP X pins σ Q) X.xe s := by
  have hq := h (s.heap.objs.size + 1) s.heap.objs.size (I.hok.fresh (Nat.le_succ _)) (I.hok.fresh (Nat.le_refl _)) (Nat.ne_of_lt (Nat.lt_succ_self _))
  have I2 := Inv.made (C := C) I
  have r2 : Vals (V.ref (s.heap.objs.size + 1) :: (vs ++ dvs)) (Value.ref (s.heap.objs.size + 1) :: (us ++ ds)) := .cons rfl (r.append hd)
  have hl : (Value.ref (s.heap.objs.size + 1) :: us ++ ds).length = ps.length := by
    have e := r2.length
    rw [F.len _ _ _ _ hq] at e
    exact e.symm
  refine wpAny_call (make_map (f := f) I.kIn M.makes M.init (beq_iff_eq.mp M.fn) (codeAny_mono (F.run _ X.stack _ _ ⟨Value.ref (s.heap.objs.size + 1) :: us, []⟩ (Value.ref (s.heap.objs.size + 1) :: (us ++ ds)) _ _ E (hr.make C us [])
    (I2.env0.make C us []) (hb _ (Value.ref (s.heap.objs.size + 1) :: us) I2.kIn hl) r2 hq) fun r s' hq' => ?_))
  cases r with
  | error e => exact hx pins σ _ _ e s' I2 hq'
  | ok fl =>
    cases fl with
    | ret u =>
      obtain ⟨v, H', I3, rv, ev, q3⟩ := I2.after hq'
      subst ev
      exact ⟨rv, ⟨V.ref (s.heap.objs.size + 1), H', I3, rfl, q3⟩⟩
    | next => exact False.elim hq'
    | brk => exact False.elim hq'
    | cont => exact False.elim hq'
theorem pe_make0 (M : Mk X.K C f) (F : FnOk X.prog X.w X.K X.mg X.base CX k f fd ps sp) (hr : Room (k + 1) X.A) (hg : Gl X x) (hm : X.mg x = some (.ref C)) (hb : Binds X.K fd ps ds) (hd : Vals dvs ds) (hx : Passes CX X E)
    (hdb : (x == ("__debug__" : Str)) = false := by decide) : PE X (.Call (.Name x p) [] [] pos) (tMake C sp dvs E tNil) := by
  intro pins s σ H Q I h
  refine wpAny_Call_Name_kw (ld_glob I hg hm ?_ hdb)
  exact PySem.W.callWith_K0 I.kIn M.kp (run_make (us := []) M F hr hb hd hx I .nil h)
end

/-- the values of the keywords, from the left -/
def PK (X : Cx) (kws : List Keyword) (t : TA) : Prop :=
  ∀ (pos : Pos) (pins : List (Addr × Obj)) (s : Shared) (σ : St) (H : Hp) (Q : List V → Hp → Prop), Inv X pins σ H s → t σ H Q → wpAny (model X.prog X.w) X.A (evalAll ((backToKw pos (keywordEach kws X.env)).map (·.2))) (AP X pins σ Q) X.xe s
section
variable {X : Cx} {CX : CXT} {k : Nat} {f C : Addr} {fd : FuncData} {ps ks : List Str} {sp : Sp} {E : XK} {x m : Str} {p pos apos kpos : Pos} {e o : Expr} {es : List Expr} {kws : List Keyword} {te ta : TE} {t tk : TA} {nm : Option Str}
/-- how a call with keywords binds: g puts the positional values us and the keywords' values ws (names ks) in the parameters' order, defaults among them -/
structure KBinds (K : PySem.W.Frag) (fd : FuncData) (ps ks : List Str) (g : List Value → List Value → List Value) (gV : List V → List V → List V) : Prop where
  to : ∀ (s : Shared) (us ws : List Value), K.In s.heap → (g us ws).length = ps.length → BindsTo s fd ⟨us, ks.zip ws⟩ (ps.zip (g us ws))
  rel : ∀ {vs : List V} {us : List Value} {zs : List V} {ws : List Value}, Vals vs us → Vals zs ws → Vals (gV vs zs) (g us ws)
def tCallK (sp : Sp) (gV : List V → List V → List V) (E : XK) (t tk : TA) : TE := fun σ H Q => t σ H fun vs H1 => tk σ H1 fun zs H2 => sp (gV vs zs) H2 Q E
variable {g : List Value → List Value → List Value} {gV : List V → List V → List V}
end

/-- names: the parameters first -/
structure FnScope (N P : List Str) (sc : Scope) : Prop where
  kind : sc.kind = .function
  co : sc.isCoroutine = false
  gen : sc.isGenerator = false
  nd : N.Nodup
  pre : N.take P.length = P
  par : ∀ x ∈ P, sc.names.lookup x = some .local ∨ sc.names.lookup x = some .cell
  nofree : ∀ y ∈ sc.names, y.2 ≠ .free

theorem bindL_out {kindOf : Str → Option NameKind} {x : Str} : ∀ {binds : List (Str × Value)} {m : Str → Option Value}, (∀ v, (x, v) ∉ binds) → bindL kindOf binds m x = m x
  | [], _, _ => rfl
  | (n, v) :: r, m, h => by
    unfold bindL
    rw [bindL_out fun w hw => h w (List.mem_cons_of_mem _ hw)]
    split
    · have : x ≠ n := by rintro rfl; exact h v List.mem_cons_self
      simp [this]
    · rfl
theorem bindC_out {kindOf : Str → Option NameKind} {x : Str} : ∀ {binds : List (Str × Value)} {m : Str → Option Value}, (∀ v, (x, v) ∉ binds) → bindC kindOf binds m x = m x
  | [], _, _ => rfl
  | (n, v) :: r, m, h => by
    unfold bindC
    rw [bindC_out fun w hw => h w (List.mem_cons_of_mem _ hw)]
    split
    · rfl
    · have : x ≠ n := by rintro rfl; exact h v List.mem_cons_self
      simp [this]
theorem bindL_get {kindOf : Str → Option NameKind} {x : Str} {v : Value} : ∀ {P : List Str} {vs : List Value} {i : Nat} {m : Str → Option Value}, P.Nodup → P[i]? = some x → vs[i]? = some v → kindOf x = some .local →
    bindL kindOf (P.zip vs) m x = some v
  | [], _, _, _, _, h, _, _ => by simp at h
  | _ :: _, [], _, _, _, _, h, _ => by simp at h
  | p :: P, w :: vs, 0, m, nd, h1, h2, hk => by
    simp at h1 h2; subst h1; subst h2
    show bindL kindOf ((p, w) :: P.zip vs) m p = _
    unfold bindL
    rw [bindL_out fun v hv => (List.nodup_cons.mp nd).1 (List.of_mem_zip hv).1, if_pos hk]
    simp
  | p :: P, w :: vs, i + 1, m, nd, h1, h2, hk => by
    show bindL kindOf ((p, w) :: P.zip vs) m x = _
    unfold bindL
    exact bindL_get (i := i) (List.nodup_cons.mp nd).2 (by simpa using h1) (by simpa using h2) hk
theorem bindC_get {kindOf : Str → Option NameKind} {x : Str} {v : Value} : ∀ {P : List Str} {vs : List Value} {i : Nat} {m : Str → Option Value}, P.Nodup → P[i]? = some x → vs[i]? = some v → kindOf x ≠ some .local →
    bindC kindOf (P.zip vs) m x = some v
  | [], _, _, _, _, h, _, _ => by simp at h
  | _ :: _, [], _, _, _, _, h, _ => by simp at h
  | p :: P, w :: vs, 0, m, nd, h1, h2, hk => by
    simp at h1 h2; subst h1; subst h2
    show bindC kindOf ((p, w) :: P.zip vs) m p = _
    unfold bindC
    rw [bindC_out fun v hv => (List.nodup_cons.mp nd).1 (List.of_mem_zip hv).1, if_neg hk]
    simp
  | p :: P, w :: vs, i + 1, m, nd, h1, h2, hk => by
    show bindC kindOf ((p, w) :: P.zip vs) m x = _
    unfold bindC
    exact bindC_get (i := i) (List.nodup_cons.mp nd).2 (by simpa using h1) (by simpa using h2) hk

/-- the names' values at the entry -/
def start (N : List Str) (vs : List V) : St := vs.map some ++ List.replicate (N.length - vs.length) none

/-- the context of a def's body, at its entry; an exception leaves the frame, then lies as CX says -/
def cxOf (CX : CXT) (P : Program) (w : World) (K : PySem.W.Frag) (mg : Str → Option Value) (base : Heap) (N : List Str) (qual : Str) (scope : Scope) (f : Addr) (cd : Value) (A : Around) (outer : List Env) (s : Shared) (H : Hp) (E : XK) : Cx where
  prog := P
  w := w
  K := K
  mg := mg
  base := base
  A := A.deeper (envOfC qual scope s.heap.objs.size f cd)
  N := N
  s₀ := s
  H₀ := H
  env := envOfC qual scope s.heap.objs.size f cd
  outer := outer
  stack := envOfC qual scope s.heap.objs.size f cd :: outer
  ex := []
  calm := true
  fn := fun _ => true
  pn := []
  xe := fun e s' => wpAny (model P w) (A.deeper (envOfC qual scope s.heap.objs.size f cd)) (leaving (envOfC qual scope s.heap.objs.size f cd) e) (fun _ s'' => CX outer H s E e s'') (fun e' s'' => CX outer H s E e' s'') s'

theorem cell_has {sc : Scope} {n : Nat} {x : Str} (h : sc.names.lookup x = some .cell) : ∃ c, (cellsFrom n sc.names []).lookup x = some c := by
  have q := PySem.W.cellsFrom_some sc.names n [] (.inl h)
  exact Option.isSome_iff_exists.mp q

theorem inv_start {CX : CXT} {P : Program} {w : World} {K : PySem.W.Frag} {mg : Str → Option Value} {base : Heap} {N ps : List Str} {qual : Str} {scope : Scope} {f : Addr} {cd : Value} {A : Around} {outer : List Env} {s s1 : Shared} {H : Hp} {E : XK} {us : List Value} {vs : List V}
    (S : FnScope N ps scope) (hd : A.handled = none) (e0 : Env0 P w K mg base A outer s H) (hl : vs.length = ps.length) (r : Vals vs us)
    (x : InCallC s s.heap.objs.size (bindL (envOfC qual scope s.heap.objs.size f cd).kindOf (ps.zip us) fun _ => none) (cellsFrom (s.heap.objs.size + 1) scope.names []) (bindC (envOfC qual scope s.heap.objs.size f cd).kindOf (ps.zip us) fun _ => none) s1) :
    Inv (cxOf CX P w K mg base N qual scope f cd A outer s H E) [] (start N vs) H s1 := by
  have hpl : ps.length ≤ N.length := by have := congrArg List.length S.pre; rw [List.length_take] at this; omega
  obtain ⟨h1, tk, rfl, hk⟩ := x.done
  have noA : ∀ b : Addr, b ∉ (cxOf CX P w K mg base N qual scope f cd A outer s H E).ex := fun b z => absurd (show b ∈ ([] : List Addr) from z) (by simp)
  refine ⟨⟨e0.mod, S.kind, rfl, rfl, Nat.le_refl _, fun y z c h1 h2 => ?_, fun y hy => ?_, fun y c _ h => ?_, fun _ => hd, Around.frames_deeper e0.frames, .inr ⟨rfl, rfl⟩, fun b z => absurd z (noA b), e0.bs, e0.bsz, fun b _ _ => noA b, fun b z => absurd z (noA b), e0.funs, e0.frf⟩,
    rfl, e0.bare, Un.kept hk, ⟨_, x.toInCall.ns, fun i y v h1 h2 h3 => ?_⟩, fun y c h => ⟨_, x.cell y c h⟩, e0.hok.fresh (Nat.le_refl _), fun y c h => ?_, fun p hp => absurd (show p ∈ ([] : List (Addr × Obj)) from hp) (by simp), e0.hok.kept hk, ?_⟩
  · exact name_of_addr x.apart (PySem.mem_of_lookup h1) (PySem.mem_of_lookup h2)
  · have hy : scope.names.lookup y = some .cell ∨ scope.names.lookup y = some .free := hy
    rcases hy with hy | hy
    · exact cell_has hy
    · exact absurd rfl (S.nofree _ (PySem.mem_of_lookup hy))
  · exact Nat.le_of_lt (x.above y c (PySem.mem_of_lookup h))
  · have hi : i < vs.length := by
      unfold start at h2
      by_cases hi : i < vs.length
      · exact hi
      · rw [List.getElem?_append_right (by simpa using hi)] at h2
        rw [List.getElem?_replicate] at h2
        split at h2 <;> cases h2
    have ha : vs[i]? = some v := by
      unfold start at h2
      rw [List.getElem?_append_left (by simpa using hi), List.getElem?_map] at h2
      cases e : vs[i]? with
      | none => rw [e] at h2; cases h2
      | some a => rw [e] at h2; cases h2; rfl
    obtain ⟨u, hu, rv⟩ := r.get ha
    have hp : ps[i]? = some y := by
      rw [← S.pre, List.getElem?_take_of_lt (by omega)]; exact h1
    have ndP : ps.Nodup := by rw [← S.pre]; exact S.nd.sublist (List.take_sublist _ _)
    refine ⟨u, rv, ?_⟩
    rcases S.par y (List.mem_of_getElem? hp) with k | k
    · exact .inl ⟨k, bindL_get ndP hp hu k⟩
    · obtain ⟨c, e⟩ := cell_has (n := s.heap.objs.size + 1) k
      refine .inr ⟨.inl k, c, e, ?_⟩
      have q := x.cell y c e
      rw [bindC_get ndP hp hu (by show scope.names.lookup y ≠ _; rw [k]; decide)] at q
      exact q
  · exact e0.hok.fresh (Nat.le_of_lt (x.above y c (PySem.mem_of_lookup h)))
  · unfold start
    show _ = N.length
    rw [List.length_append, List.length_map, List.length_replicate]
    omega

/-- THE RULE: a def (or a method) of the text, by its body. The body's reading t is chosen for each entry; it is run at the parameters' values -/
theorem fn_of {CX : CXT} {P : Program} {w : World} {K : PySem.W.Frag} {mg : Str → Option Value} {base : Heap} {k : Nat} {f : Addr} {name qual : Str} {params : Arguments} {body : List Stmt} {scope : Scope} {dV kV doc pm cdv ct oc : Value} {an od : Option Addr}
    {osl : Array (Option Value)} {N ps : List Str} {sp : Sp} (lk : K.lookup f = some ⟨oc, od, .func (PySem.W.fnOf name qual params body scope dV kV doc pm an cdv ct), osl⟩) (hcd : PySem.W.codeIn K cdv qual = true) (S : FnScope N ps scope)
    (len : ∀ vs H Q E, sp vs H Q E → vs.length = ps.length)
    (hbody : ∀ (A : Around) (outer : List Env) (s : Shared) (H : Hp) (vs : List V) (Q : VK) (E : XK), Room k (A.deeper (envOfC qual scope s.heap.objs.size f cdv)) → sp vs H Q E →
      ∃ t, PSs (cxOf CX P w K mg base N qual scope f cdv A outer s H E) body t ∧ t { nx := fun _ H' => Q .non H', rt := Q } (start N vs) H) :
    FnOk P w K mg base CX (k + 1) f (PySem.W.fnOf name qual params body scope dV kV doc pm an cdv ct) ps sp := by
  refine ⟨len, fun A outer s H args us vs Q E hr e0 hb r hsp => ?_⟩
  have hl := len _ _ _ _ hsp
  have KX : K.In s.heap := e0.mod.kin.keeps fun b o e => (e0.bs b o e).1
  have lim : s.heap.NoLimit := e0.mod.nolimit.keeps fun b o e => (e0.bs b o e).1
  have hkind : ∀ y ∈ ps.zip us, scope.names.lookup y.1 = some .local ∨ (scope.names.lookup y.1 = some .cell ∧ ((cellsFrom (s.heap.objs.size + 1) scope.names []).lookup y.1).isSome = true) := fun ⟨n, v⟩ hy => by
    rcases S.par n (List.of_mem_zip hy).1 with q | q
    · exact .inl q
    · exact .inr ⟨q, PySem.W.cellsFrom_some _ _ _ (.inl q)⟩
  refine codeAny_call_function hr.depth (KX _ _ lk) rfl S.co S.gen rfl (PySem.W.codeRec_of KX hcd) (hb _ _ _ _ ?_)
  refine wpAny_newFunctionEnv_cells S.kind hkind fun env he s1 x => ?_
  subst he
  refine ⟨lim.keeps x.toInCall.keep, codeAny_func ?_⟩
  obtain ⟨t, ht, hq⟩ := hbody A outer s H vs Q E (hr.deeper _) hsp
  have I : Inv (cxOf CX P w K mg base N qual scope f cdv A outer s H E) [] (start N vs) H s1 := inv_start S hr.hd e0 hl r x
  refine wpAny_mono (ht [] s1 (start N vs) H _ I hq) (fun fl s' hs => ?_) fun e s' hs => hs
  have fin : ∀ {σ' : St} {H' : Hp} {v : V} {u : Value}, Inv (cxOf CX P w K mg base N qual scope f cdv A outer s H E) [] σ' H' s' → RelV v u → Q v H' → CE outer P w H s Q u s' :=
    fun {σ' H' v u} J rv q => ⟨v, H', J.os, J.bare, J.base, J.hok, rv, q⟩
  cases fl with
  | ret u =>
    obtain ⟨v, σ', H', J, rv, q⟩ := hs
    exact fin J rv q
  | next =>
    obtain ⟨σ', H', J, q⟩ := hs
    exact fin (v := V.non) (u := Value.none) J rfl q
  | brk =>
    obtain ⟨_, _, _, q⟩ := hs
    exact False.elim q
  | cont =>
    obtain ⟨_, _, _, q⟩ := hs
    exact False.elim q
end L2

namespace L2
open PySem PySem.Spec PyProof.Rows
section
variable {X : Cx} {x : Str} {p pos : Pos} {e : Expr} {es : List Expr} {t : TA} {id T : String} {r : List V → Hp → VK → Prop}

def tCB (r : List V → Hp → VK → Prop) (t : TA) : TE := fun σ H Q => t σ H fun vs H1 => r vs H1 Q
/-- f(e, ..), f a built-in function -/
theorem pe_callB (hc : CallR X (.builtin id) r) (hg : Gl X x) (hm : X.mg x = none) (hv : bootBuiltins x = some (.builtin id)) (ha : PA X (e :: es) t) (hn : x ≠ "__name__" := by decide) (hdb : (x == ("__debug__" : Str)) = false := by decide)
    (he : starEach (e :: es) X.env = (false, eval e X.env) :: starEach es X.env := by rfl) (hpl : (backTo pos (starEach es X.env)).any (·.1) = false := by rfl) : PE X (.Call (.Name x p) (e :: es) [] pos) (tCB r t) := by
  intro pins s σ H Q I h
  refine wpAny_Call_Name_kw (ld_blt I hg hm hv ?_ hn hdb)
  exact PyProof.Rows.callWith_builtin1 (thn (ha pos pins s σ H _ I h) fun us s1 ⟨vs, H1, I1, r1, q1⟩ => hc pins s1 σ H1 vs us Q I1 r1 q1) he hpl
/-- T(e, ..), T a built-in type -/
theorem pe_callTy (hc : CallR X (.type T) r) (hg : Gl X x) (hm : X.mg x = none) (hv : bootBuiltins x = some (.type T)) (ha : PA X (e :: es) t) (hn : x ≠ "__name__" := by decide) (hdb : (x == ("__debug__" : Str)) = false := by decide)
    (he : starEach (e :: es) X.env = (false, eval e X.env) :: starEach es X.env := by rfl) (hpl : (backTo pos (starEach es X.env)).any (·.1) = false := by rfl) : PE X (.Call (.Name x p) (e :: es) [] pos) (tCB r t) := by
  intro pins s σ H Q I h
  refine wpAny_Call_Name_kw (ld_blt I hg hm hv ?_ hn hdb)
  exact PyProof.Rows.callWith_type1 (thn (ha pos pins s σ H _ I h) fun us s1 ⟨vs, H1, I1, r1, q1⟩ => hc pins s1 σ H1 vs us Q I1 r1 q1) he hpl
end
end L2

namespace HT
open PySem PyProof.Rows

/-- t < u of tuples of ints -/
def lexLt : List Int → List Int → Bool
  | [], [] => false
  | [], _ :: _ => true
  | _ :: _, [] => false
  | x :: xs, y :: ys => if x = y then lexLt xs ys else decide (x < y)
section
open PySem.SeqAt
open PySem.AutoSeq1 (wpAny_loadPart')
open PySem.MeetsSeq PySem.MeetsSeq2 PySem.MeetsSeq3

end

section
variable {prog : Program} {w : World} {A : Around} {E : Value → Shared → Prop} {s : Shared}

/-- a slice's bound as a place among n (d where it is left out) -/
def sIx (n d : Nat) : Option Int → Nat
  | none => d
  | some v => if v < 0 then (v + (n : Int)).toNat else min v.toNat n
theorem sIx_none (n d : Nat) : sIx n d none = d := rfl
theorem sIx_nat (n d k : Nat) : sIx n d (some (k : Int)) = min k n := by
  show (if (k : Int) < 0 then ((k : Int) + (n : Int)).toNat else min (k : Int).toNat n) = min k n
  rw [if_neg (by omega), Int.toNat_natCast]
end
end HT

namespace L2
open PySem PySem.Spec PyProof.Rows

abbrev TO := St → Hp → (Option Int → Hp → Prop) → Prop
/-- a slice's part (left out, or an int) -/
def PO (X : Cx) (e : Option Expr) (t : TO) : Prop :=
  ∀ (pins : List (Addr × Obj)) (s : Shared) (σ : St) (H : Hp) (Q : Option Int → Hp → Prop), Inv X pins σ H s → t σ H Q →
    wpAny (model X.prog X.w) X.A (evalPart e X.env) (fun u s' => ∃ o H', Inv X pins σ H' s' ∧ IsPart u o ∧ Q o H') X.xe s
def tNoPart : TO := fun _ H Q => Q none H
def tPart (t : TE) : TO := fun σ H Q => t σ H fun x H1 => ∃ i, x = .int i ∧ Q (some i) H1

section
variable {X : Cx} {e : Expr} {te : TE} {lo hi : Option Expr} {tl th : TO} {pos p2 : Pos}

theorem po_none : PO X none tNoPart := by
  intro pins s σ H Q I h
  rw [evalPart_none]
  exact wpAny_pure ⟨none, H, I, .none, h⟩
theorem po_some (h : PE X e te) : PO X (some e) (tPart te) := by
  intro pins s σ H Q I hw
  rw [evalPart_some]
  refine thn (h pins s σ H _ I hw) fun u s1 ⟨x, H1, I1, r1, q1⟩ => ?_
  obtain ⟨i, rfl, q⟩ := q1
  obtain ⟨t, rfl⟩ := r1
  exact ⟨some i, H1, I1, .int i t, q⟩

/-- what a slice of a value is, by values: the slice object stands at sl -/
def SlR (X : Cx) (r : V → Option Int → Option Int → Hp → VK → Prop) : Prop :=
  ∀ (pins : List (Addr × Obj)) (s : Shared) (σ : St) (H : Hp) (x : V) (v vl vu : Value) (lo hi : Option Int) (sl : Addr) (Q : VK), Inv X pins σ H s → RelV x v → s.heap.IsSliceOf sl vl vu .none → IsPart vl lo → IsPart vu hi → r x lo hi H Q →
    ∃ T id, typeLookup (.type T) "__getitem__" = pure (some (.builtin id)) ∧ s.TypeIs v T ∧ wpAny (model X.prog X.w) X.A (getItem v (.ref sl)) (EP X pins σ Q) X.xe s
theorem SlR.or {r r' : V → Option Int → Option Int → Hp → VK → Prop} (h : SlR X r) (h' : SlR X r') : SlR X (fun x lo hi H Q => r x lo hi H Q ∨ r' x lo hi H Q) := by
  intro pins s σ H x v vl vu lo hi sl Q I rx hs pl pu q
  rcases q with q | q
  · exact h pins s σ H x v vl vu lo hi sl Q I rx hs pl pu q
  · exact h' pins s σ H x v vl vu lo hi sl Q I rx hs pl pu q
def tSl (r : V → Option Int → Option Int → Hp → VK → Prop) (te : TE) (tl th : TO) : TE := fun σ H Q => te σ H fun x H1 => tl σ H1 fun l H2 => th σ H2 fun u H3 => r x l u H3 Q
/-- a[lo:hi], any a -/
theorem pe_slice {r : V → Option Int → Option Int → Hp → VK → Prop} (hr : SlR X r) (he : PE X e te) (hl : PO X lo tl) (hu : PO X hi th) : PE X (.Subscript e (.Slice lo hi none p2) pos) (tSl r te tl th) := by
  intro pins s σ H Q I h
  refine Subscript_ (thn (he pins s σ H _ I h) fun v s1 ⟨x, H1, I1, r1, q1⟩ => ?_)
  refine wpAny_Slice (thn (hl pins s1 σ H1 _ I1 q1) fun vl s2 ⟨l, H2, I2, pl, q2⟩ => thn (hu pins s2 σ H2 _ I2 q2) fun vu s3 ⟨u, H3, I3, pu, q3⟩ => ?_)
  rw [evalPart_none]
  refine wpAny_pure ?_
  have I4 : Inv X pins σ H3 { s3 with heap := s3.heap.push { cls := .type "slice", data := .fields #[vl, vu, .none] } } := I3.kept (t' := s3.toks) fun b ob q => Heap.get?_push_of_some _ q
  obtain ⟨T, id, hT, ht, hg⟩ := hr pins { s3 with heap := s3.heap.push { cls := .type "slice", data := .fields #[vl, vu, .none] } } σ H3 x v vl vu l u s3.heap.objs.size Q I4 r1 (Heap.IsSliceOf.new ..) pl pu q3
  show wpAny (model X.prog X.w) X.A (subscriptTail e (.Slice lo hi none p2) v (.ref s3.heap.objs.size)) (EP X pins σ Q) X.xe { s3 with heap := s3.heap.push { cls := .type "slice", data := .fields #[vl, vu, .none] } }
  exact tail_any (ops := [.ref s3.heap.objs.size, v]) ht hT hg (by with_unfolding_all rfl)

/-- the items of xs[lo:hi] -/
def cutV (xs : List V) (lo hi : Option Int) : List V := (xs.drop (HT.sIx xs.length 0 lo)).take (HT.sIx xs.length xs.length hi - HT.sIx xs.length 0 lo)
theorem cutV_length (xs : List V) (lo hi : Option Int) : (cutV xs lo hi).length ≤ xs.length := by
  unfold cutV
  rw [List.length_take, List.length_drop]
  omega
/-- t[lo:hi], not the whole of it (the whole would be t itself) -/
def rSlT (K : PySem.W.Frag) : V → Option Int → Option Int → Hp → VK → Prop := fun x lo hi H Q => ∃ a xs, x = .ref a ∧ SqT K H a xs ∧
  ¬ (HT.sIx xs.length 0 lo = 0 ∧ HT.sIx xs.length xs.length hi = xs.length) ∧ ∀ p, H p = none → Q (.ref p) (upd H p (.tup (cutV xs lo hi)))
def rLtT (K : PySem.W.Frag) : R2 := fun x y H Q => ∃ a b ns ms, x = .ref a ∧ y = .ref b ∧ SqT K H a (ns.map V.int) ∧ SqT K H b (ms.map V.int) ∧ Q (.bl (HT.lexLt ns ms)) H
/-- t + u, t not empty: u empty gives t itself -/
def rCatT (K : PySem.W.Frag) : R2 := fun x y H Q => ∃ a b xs ys, x = .ref a ∧ y = .ref b ∧ SqT K H a xs ∧ SqT K H b ys ∧ xs ≠ [] ∧ xs.length + ys.length ≤ sizeLine ∧
  (ys = [] → Q (.ref a) H) ∧ (ys ≠ [] → ∀ p, H p = none → Q (.ref p) (upd H p (.tup (xs ++ ys))))
end
end L2

namespace L2
open PySem PySem.Spec PyProof.Rows

/-- the place that an index of any sign means -/
def ixN (n : Nat) (i : Int) : Option Nat := if 0 ≤ i then (if i < n then some i.toNat else none) else if -(n : Int) ≤ i then some (i + n).toNat else none
def atI {α : Type} (xs : List α) (i : Int) : Option α := (ixN xs.length i).bind fun j => xs[j]?
theorem ixN_seq {n : Nat} {i : Int} {j : Nat} (h : ixN n i = some j) : seqIndex? i n = some j ∧ j < n ∧ -(n : Int) ≤ i ∧ i < n := by
  unfold ixN at h
  by_cases h0 : 0 ≤ i
  · rw [if_pos h0] at h
    by_cases h1 : i < n
    · rw [if_pos h1] at h
      have e : i.toNat = j := Option.some.inj h
      exact ⟨by rw [seqIndex_of h0 h1, e], by omega, by omega, h1⟩
    · rw [if_neg h1] at h; cases h
  · rw [if_neg h0] at h
    by_cases h1 : -(n : Int) ≤ i
    · rw [if_pos h1] at h
      have e : (i + n).toNat = j := Option.some.inj h
      exact ⟨by rw [seqIndex_neg (by omega) h1, e], by omega, h1, by omega⟩
    · rw [if_neg h1] at h; cases h
theorem atI_get {α : Type} {xs : List α} {i : Int} {v : α} (h : atI xs i = some v) : ∃ j, seqIndex? i xs.length = some j ∧ xs[j]? = some v ∧ j < xs.length ∧ -(xs.length : Int) ≤ i ∧ i < xs.length := by
  unfold atI at h
  cases e : ixN xs.length i with
  | none => rw [e] at h; cases h
  | some j =>
    rw [e] at h
    obtain ⟨h1, h2, h3, h4⟩ := ixN_seq e
    exact ⟨j, h1, h, h2, h3, h4⟩
theorem atI_nat {α : Type} {xs : List α} {j : Nat} {v : α} (h : xs[j]? = some v) : atI xs (j : Int) = some v := by
  have hj : j < xs.length := (List.getElem?_eq_some_iff.mp h).1
  have e : ixN xs.length (j : Int) = some j := by
    unfold ixN
    rw [if_pos (by omega), if_pos (by omega)]; simp
  unfold atI; rw [e]; exact h
/-- what stands as an index of a plain subscript -/
def PlainIx (b : Expr) : Prop := ∀ o i, subscripted b false o i = operate [o, i] (getItem o i)
/-- a subscript by values -/
def IxR (X : Cx) (r : R2) : Prop :=
  ∀ (value slice : Expr) (pins : List (Addr × Obj)) (s : Shared) (σ : St) (H : Hp) (x y : V) (v u : Value) (Q : VK), Inv X pins σ H s → RelV x v → RelV y u → r x y H Q →
    subscripted slice false v u = operate [v, u] (getItem v u) → wpAny (model X.prog X.w) X.A (subscriptTail value slice v u) (EP X pins σ Q) X.xe s
/-- a call of a builtin's method by values: the receiver, the arguments -/
def MtR (X : Cx) (id : String) (r : V → List V → Hp → VK → Prop) : Prop :=
  ∀ (pins : List (Addr × Obj)) (s : Shared) (σ : St) (H : Hp) (x : V) (xs : List V) (v : Value) (us : List Value) (Q : VK), Inv X pins σ H s → RelV x v → Vals xs us → r x xs H Q →
    wpAny (model X.prog X.w) X.A (call (.builtin id) (v :: us)) (EP X pins σ Q) X.xe s
section
variable {X : Cx} {a b : Expr} {ta tb : TE} {pos : Pos}
theorem IxR.or {r r' : R2} (h : IxR X r) (h' : IxR X r') : IxR X (fun x y H Q => r x y H Q ∨ r' x y H Q) := by
  intro value slice pins s σ H x y v u Q I rx ry q hs
  rcases q with q | q
  · exact h value slice pins s σ H x y v u Q I rx ry q hs
  · exact h' value slice pins s σ H x y v u Q I rx ry q hs
theorem MtR.or {id : String} {r r' : V → List V → Hp → VK → Prop} (h : MtR X id r) (h' : MtR X id r') : MtR X id (fun x xs H Q => r x xs H Q ∨ r' x xs H Q) := by
  intro pins s σ H x xs v us Q I rx rs q
  rcases q with q | q
  · exact h pins s σ H x xs v us Q I rx rs q
  · exact h' pins s σ H x xs v us Q I rx rs q
/-- a[b] -/
theorem pe_ix {r : R2} (hr : IxR X r) (ha : PE X a ta) (hb : PE X b tb) (hs : PlainIx b) : PE X (.Subscript a b pos) (tOp r ta tb) := by
  intro pins s σ H Q I h
  exact Subscript_ (binT ha hb I h fun v u s2 x y H2 I2 rx ry q => hr a b pins s2 σ H2 x y v u Q I2 rx ry q (hs _ _))

def rIxL (K : PySem.W.Frag) : R2 := fun x y H Q => ∃ p xs i v, x = .ref p ∧ y = .int i ∧ SqL K H p xs ∧ atI xs i = some v ∧ Q v H
def rIxT (K : PySem.W.Frag) : R2 := fun x y H Q => ∃ p xs i v, x = .ref p ∧ y = .int i ∧ SqT K H p xs ∧ atI xs i = some v ∧ Q v H
def rIxS : R2 := fun x y H Q => ∃ z i c, x = .str z ∧ y = .int i ∧ z.length ≤ sizeLine ∧ atI z.cps.toList i = some c ∧ Q (.str ⟨#[c]⟩) H
theorem ix_list : IxR X (rIxL X.K) := by
  intro value slice pins s σ H x y v u Q I rx ry h hs
  obtain ⟨p, xs, i, z, rfl, rfl, hq, he, q⟩ := h
  cases rx
  obtain ⟨t, rfl⟩ := ry
  obtain ⟨its, r, pl, hz⟩ := I.list hq
  obtain ⟨j, h1, h2, h3, h4, h5⟩ := atI_get he
  obtain ⟨w, ew, rw'⟩ := r.get h2
  have hl := r.length
  have hn := line63
  have fin : EP X pins σ Q w s := ⟨z, H, I, rw', q⟩
  by_cases h0 : 0 ≤ i
  · have hj : i.toNat = j := by
      rw [seqIndex_of h0 h5] at h1
      exact Option.some.inj h1
    exact item_listR pl.isList h0 (by omega) (by rw [hj]; simpa using ew) fin hs
  · have hj : (i + (its.toArray.size : Int)).toNat = j := by
      rw [seqIndex_neg (by omega) h4] at h1
      rw [List.size_toArray, ← hl]
      exact Option.some.inj h1
    exact subscriptTail_builtinR (x := w) pl.isList.typeIs slot_list_getitem.lookup
      (wpAny_getItem_list_neg (Q := fun r s' => r = w ∧ EP X pins σ Q r s') pl.isList (by omega) (by rw [List.size_toArray] <;> omega) (by omega) (by rw [hj]; simpa using ew) ⟨rfl, fin⟩) hs
theorem ix_tup : IxR X (rIxT X.K) := by
  intro value slice pins s σ H x y v u Q I rx ry h hs
  obtain ⟨p, xs, i, z, rfl, rfl, hq, he, q⟩ := h
  cases rx
  obtain ⟨t, rfl⟩ := ry
  obtain ⟨its, r, pl, hz⟩ := I.tuple hq
  obtain ⟨j, h1, h2, h3, h4, h5⟩ := atI_get he
  obtain ⟨w, ew, rw'⟩ := r.get h2
  have hl := r.length
  have hn := line63
  have fin : EP X pins σ Q w s := ⟨z, H, I, rw', q⟩
  exact subscriptTail_builtinR (x := w) pl.typeIs slot_tuple_getitem.lookup
    (getItem_tuple (j := j) (Q := fun r s' => r = w ∧ EP X pins σ Q r s') pl (by omega) (by omega) (by rw [List.size_toArray, ← hl]; exact h1) (by simpa using ew) ⟨rfl, fin⟩) hs
/-- list, tuple or str -/
def rIx (K : PySem.W.Frag) : R2 := fun x y H Q => rIxL K x y H Q ∨ rIxT K x y H Q ∨ rIxS x y H Q
theorem Inv.lst {pins : List (Addr × Obj)} {σ : St} {H : Hp} {s : Shared} {p : Addr} {xs : List V} (I : Inv X pins σ H s) (h : H p = some (.lst xs)) :
    ∃ (its : List Value) (n : Nat), Vals xs its ∧ s.heap.get? p = some { cls := .type "list", data := .seq its.toArray n } ∧ xs.length ≤ sizeLine := by
  obtain ⟨z, its, n, r, e⟩ := I.hok p _ h
  exact ⟨its, n, r, e, z⟩
def rSetL : V → V → V → Hp → (Hp → Prop) → Prop := fun o i v H Q => ∃ p xs k j, o = .ref p ∧ i = .int k ∧ H p = some (.lst xs) ∧ ixN xs.length k = some j ∧ Q (upd H p (.lst (xs.set j v)))
theorem slice_bounds (lo hi : Option Int) (n : Nat) : (sliceBounds lo hi none n).1 = ((HT.sIx n 0 lo : Nat) : Int) ∧ (sliceBounds lo hi none n).2.1 = ((HT.sIx n n hi : Nat) : Int) ∧ (sliceBounds lo hi none n).2.2 = 1 := by
  refine ⟨?_, ?_, rfl⟩
  · cases lo with
    | none => simp [sliceBounds, HT.sIx]
    | some i =>
      simp only [sliceBounds, HT.sIx, Option.getD_none, show (1 : Int) > 0 by decide, if_true]
      by_cases h : i < 0
      · simp only [h, if_true] <;> omega
      · simp only [h, if_false] <;> omega
  · cases hi with
    | none => simp [sliceBounds, HT.sIx]
    | some i =>
      simp only [sliceBounds, HT.sIx, Option.getD_none, show (1 : Int) > 0 by decide, if_true]
      by_cases h : i < 0
      · simp only [h, if_true] <;> omega
      · simp only [h, if_false] <;> omega
theorem slicePick_cut (its : List Value) (lo hi : Option Int) : slicePick its.toArray lo hi none = ((its.drop (HT.sIx its.length 0 lo)).take (HT.sIx its.length its.length hi - HT.sIx its.length 0 lo)).toArray := by
  obtain ⟨h1, h2, h3⟩ := slice_bounds lo hi its.toArray.size
  unfold slicePick
  rw [h1, h2, h3]
  simp only [sliceRange_one, pick_run, List.size_toArray] <;> rfl
/-- xs[lo:hi] of a list: a new list -/
def rSlL (K : PySem.W.Frag) : V → Option Int → Option Int → Hp → VK → Prop := fun x lo hi H Q => ∃ a xs, x = .ref a ∧ SqL K H a xs ∧ ∀ p, H p = none → Q (.ref p) (upd H p (.lst (cutV xs lo hi)))
theorem sl_list : SlR X (rSlL X.K) := by
  intro pins s σ H x v vl vu lo hi sl Q I rx hs pl pu h
  obtain ⟨a, xs, rfl, hx, q⟩ := h
  cases rx
  obtain ⟨its, r, ht, hz⟩ := I.list hx
  have hlen := r.length
  refine ⟨"list", _, slot_list_getitem.lookup, ht.isList.typeIs, ?_⟩
  refine wpAny_getItem_list_slice ht.isList hs pl pu .none (by simp) ?_ (by rw [List.size_toArray] <;> omega)
  rw [slicePick_cut, ← hlen]
  refine ⟨.ref s.heap.objs.size, _, I.laid (t' := s.toks) (o := .lst (cutV xs lo hi)) (fun b ob q => Heap.get?_push_of_some _ q) (Nat.le_refl _) ?_, rfl, q _ (I.hok.fresh (Nat.le_refl _))⟩
  exact ⟨Nat.le_trans (cutV_length xs lo hi) hz, _, 0, (r.drop (HT.sIx xs.length 0 lo)).take (HT.sIx xs.length xs.length hi - HT.sIx xs.length 0 lo), Heap.get?_push_size _ rfl⟩

def flatV : V → Bool
  | .non => true
  | .bl _ => true
  | .int _ => true
  | .str _ => true
  | _ => false
/-- == of flat values -/
def eqV : V → V → Bool
  | .non, .non => true
  | .bl a, .bl b => a == b
  | .bl a, .int b => (if a then 1 else 0) == b
  | .int a, .bl b => a == (if b then 1 else 0)
  | .int a, .int b => a == b
  | .str a, .str b => a == b
  | _, _ => false
theorem eqAt_V {A : Around} {s : Shared} {y x : V} {u v : Value} (ry : RelV y u) (rx : RelV x v) (fy : flatV y = true) (fx : flatV x = true) : SeqAt.EqAt A s u v (eqV y x) := by
  cases y with
  | non =>
    cases ry
    cases x with
    | non => cases rx; exact SeqAt.EqAt.same _
    | bl b => cases rx; exact SeqAt.EqAt.none_bool b
    | int b => obtain ⟨t, rfl⟩ := rx; exact SeqAt.EqAt.none_int b t
    | str b => obtain ⟨t, rfl⟩ := rx; exact SeqAt.EqAt.none_str b t
    | _ => exact absurd (show false = true from fx) Bool.false_ne_true
  | bl a =>
    cases ry
    cases x with
    | non => cases rx; exact SeqAt.EqAt.bool_none a
    | bl b => cases rx; exact SeqAt.EqAt.bool_bool a b
    | int b => obtain ⟨t, rfl⟩ := rx; exact SeqAt.EqAt.bool_int a b t
    | str b => obtain ⟨t, rfl⟩ := rx; exact SeqAt.EqAt.bool_str a b t
    | _ => exact absurd (show false = true from fx) Bool.false_ne_true
  | int a =>
    obtain ⟨t', rfl⟩ := ry
    cases x with
    | non => cases rx; exact SeqAt.EqAt.int_none a t'
    | bl b => cases rx; exact SeqAt.EqAt.int_bool a t' b
    | int b => obtain ⟨t, rfl⟩ := rx; exact SeqAt.EqAt.int_int a t' b t
    | str b => obtain ⟨t, rfl⟩ := rx; exact SeqAt.EqAt.int_str a t' b t
    | _ => exact absurd (show false = true from fx) Bool.false_ne_true
  | str a =>
    obtain ⟨t', rfl⟩ := ry
    cases x with
    | non => cases rx; exact SeqAt.EqAt.str_none a t'
    | bl b => cases rx; exact SeqAt.EqAt.str_bool a t' b
    | int b => obtain ⟨t, rfl⟩ := rx; exact SeqAt.EqAt.str_int a t' b t
    | str b => obtain ⟨t, rfl⟩ := rx; exact SeqAt.EqAt.str_str a t' b t
    | _ => exact absurd (show false = true from fx) Bool.false_ne_true
  | _ => exact absurd (show false = true from fy) Bool.false_ne_true
/-- the items' answers, read off the values (a value's own answer does not lean on its token) -/
def eqU (x : V) (u : Value) : Bool := match u with
  | .none => eqV .non x
  | .bool b => eqV (.bl b) x
  | .int i _ => eqV (.int i) x
  | .str z _ => eqV (.str z) x
  | _ => false
theorem eqU_of {x y : V} {u : Value} (r : RelV y u) (f : flatV y = true) : eqU x u = eqV y x := by
  cases y with
  | non => cases r; rfl
  | bl b => cases r; rfl
  | int i => obtain ⟨t, rfl⟩ := r; rfl
  | str z => obtain ⟨t, rfl⟩ := r; rfl
  | _ => exact absurd (show false = true from f) Bool.false_ne_true
theorem any_eqU {x : V} : ∀ {xs : List V} {us : List Value}, Vals xs us → xs.all flatV = true → us.any (eqU x) = xs.any fun y => eqV y x
  | _, _, .nil, _ => rfl
  | y :: xs, u :: us, .cons r t, f => by
    rw [List.all_cons, Bool.and_eq_true] at f
    rw [List.any_cons, List.any_cons, eqU_of r f.1, any_eqU t f.2]
theorem mem_eqAt {A : Around} {s : Shared} {x : V} {v : Value} (rx : RelV x v) (fx : flatV x = true) : ∀ {xs : List V} {us : List Value}, Vals xs us → xs.all flatV = true → ∀ u ∈ us, SeqAt.EqAt A s u v (eqU x u)
  | _, _, .nil, _ => fun u hu => by cases hu
  | y :: xs, u :: us, .cons r t, f => fun u' hu => by
    rw [List.all_cons, Bool.and_eq_true] at f
    rcases List.mem_cons.mp hu with rfl | hu
    · rw [eqU_of r f.1]; exact eqAt_V r rx f.1 fx
    · exact mem_eqAt rx fx t f.2 u' hu
def inV (x : V) (xs : List V) : Bool := xs.any fun y => eqV y x
/-- x in a list or tuple of flat items -/
def rIn (K : PySem.W.Frag) (neg : Bool) : R2 := fun x y H Q => ∃ p xs, y = .ref p ∧ (SqL K H p xs ∨ SqT K H p xs) ∧ flatV x = true ∧ xs.all flatV = true ∧ Q (.bl (if neg then !inV x xs else inV x xs)) H
theorem op_in_seq : OpR X (compareOp .In) (rIn X.K false) := by
  intro pins s σ H x y v u Q I rx ry h
  obtain ⟨p, xs, rfl, hq, fx, fs, q⟩ := h
  cases ry
  rcases hq with hq | hq
  · obtain ⟨its, r, pl, hz⟩ := I.list hq
    refine SeqAt.in_listAt (eqU x) pl.isList (fun w hw => mem_eqAt rx fx r fs w (by simpa using hw)) ⟨.bl _, H, I, rfl, ?_⟩
    rw [show its.toArray.any (eqU x) = its.any (eqU x) by simp, any_eqU r fs]
    exact q
  · obtain ⟨its, r, pl, hz⟩ := I.tuple hq
    refine SeqAt.in_tupleAt (eqU x) pl (fun w hw => mem_eqAt rx fx r fs w (by simpa using hw)) ⟨.bl _, H, I, rfl, ?_⟩
    rw [show its.toArray.any (eqU x) = its.any (eqU x) by simp, any_eqU r fs]
    exact q
theorem op_notIn_seq : OpR X (compareOp .NotIn) (rIn X.K true) := by
  intro pins s σ H x y v u Q I rx ry h
  obtain ⟨p, xs, rfl, hq, fx, fs, q⟩ := h
  cases ry
  rcases hq with hq | hq
  · obtain ⟨its, r, pl, hz⟩ := I.list hq
    refine SeqAt.notIn_listAt (eqU x) pl.isList (fun w hw => mem_eqAt rx fx r fs w (by simpa using hw)) ⟨.bl _, H, I, rfl, ?_⟩
    rw [show its.toArray.any (eqU x) = its.any (eqU x) by simp, any_eqU r fs]
    exact q
  · obtain ⟨its, r, pl, hz⟩ := I.tuple hq
    refine SeqAt.notIn_tupleAt (eqU x) pl (fun w hw => mem_eqAt rx fx r fs w (by simpa using hw)) ⟨.bl _, H, I, rfl, ?_⟩
    rw [show its.toArray.any (eqU x) = its.any (eqU x) by simp, any_eqU r fs]
    exact q
theorem call_len_seq : CallR X (.builtin "len") (fun xs H Q => ∃ p ys, xs = [.ref p] ∧ (SqL X.K H p ys ∨ SqT X.K H p ys) ∧ Q (.int ys.length) H) := by
  intro pins s σ H xs us Q I r h
  obtain ⟨p, ys, rfl, hq, q⟩ := h
  obtain ⟨u, rfl, rx⟩ := vals1 r
  cases rx
  have hn := line63
  rcases hq with hq | hq
  · obtain ⟨its, r', pl, hz⟩ := I.list hq
    have hlen := r'.length
    exact Calls.call_len_list pl.isList (by simp only [List.size_toArray] <;> omega) ⟨.int ys.length, H, I.tok _, ⟨s.toks + 1, by rw [List.size_toArray, hlen]⟩, q⟩
  · obtain ⟨its, r', pl, hz⟩ := I.tuple hq
    have hlen := r'.length
    exact len_tuple pl (by simp only [List.size_toArray] <;> omega) ⟨.int ys.length, H, I.tok _, ⟨s.toks + 1, by rw [List.size_toArray, hlen]⟩, q⟩
theorem CallR.or {f : Value} {r r' : List V → Hp → VK → Prop} (h : CallR X f r) (h' : CallR X f r') : CallR X f (fun xs H Q => r xs H Q ∨ r' xs H Q) := by
  intro pins s σ H xs us Q I rs q
  rcases q with q | q
  · exact h pins s σ H xs us Q I rs q
  · exact h' pins s σ H xs us Q I rs q
theorem call_list_of : CallR X (.type "list") (fun xs H Q => ∃ p ys, xs = [.ref p] ∧ (SqL X.K H p ys ∨ SqT X.K H p ys) ∧ ∀ l, H l = none → Q (.ref l) (upd H l (.lst ys))) := by
  intro pins s σ H xs us Q I r h
  obtain ⟨p, ys, rfl, hq, q⟩ := h
  obtain ⟨u, rfl, rx⟩ := vals1 r
  cases rx
  have fin : ∀ (its : List Value), Vals ys its → ys.length ≤ sizeLine → ∀ (h' : Heap) (c' : Nat), (∀ b o', s.heap.get? b = some o' → h'.get? b = some o') →
      h'.get? s.heap.objs.size = some { cls := .type "list", dict := none, data := .seq its.toArray c', slots := #[] } → EP X pins σ Q (.ref s.heap.objs.size) { s with heap := h' } := fun its r' hz h' c' kp e =>
    ⟨.ref s.heap.objs.size, _, I.laid (t' := s.toks) kp (Nat.le_refl _) (show ObjOk X.prog X.w _ h' _ (.lst ys) from ⟨hz, its, c', r', e⟩), rfl, q _ (I.hok.fresh (Nat.le_refl _))⟩
  rcases hq with hq | hq
  · obtain ⟨its, r', pl, hz⟩ := I.list hq
    have hlen := r'.length
    obtain ⟨o, ho, hc, n, hd⟩ := pl.isList
    exact call_list_seq p (.inl rfl) ho hc hd (fun h' c' kp e => fin its r' hz h' c' kp e) (by simp only [List.size_toArray] <;> omega)
  · obtain ⟨its, r', pl, hz⟩ := I.tuple hq
    have hlen := r'.length
    obtain ⟨o, ho, hc, n, hd⟩ := pl
    exact call_list_seq p (.inr rfl) ho hc hd (fun h' c' kp e => fin its r' hz h' c' kp e) (by simp only [List.size_toArray] <;> omega)
theorem call_tuple_of : CallR X (.type "tuple") (fun xs H Q => ∃ p ys, xs = [.ref p] ∧ ((SqL X.K H p ys ∧ ∀ l, H l = none → Q (.ref l) (upd H l (.tup ys))) ∨ (SqT X.K H p ys ∧ Q (.ref p) H))) := by
  intro pins s σ H xs us Q I r h
  obtain ⟨p, ys, rfl, h⟩ := h
  obtain ⟨u, rfl, rx⟩ := vals1 r
  cases rx
  rcases h with ⟨hq, q⟩ | ⟨hq, q⟩
  · obtain ⟨its, r', pl, hz⟩ := I.list hq
    have hlen := r'.length
    refine call_tuple_list pl.isList (fun h' kp => ?_) (by simp only [List.size_toArray] <;> omega)
    have I1 : Inv X pins σ H { s with heap := h' } := I.kept (t' := s.toks) kp
    have I2 : Inv X pins σ (upd H h'.objs.size (.tup ys)) { s with heap := h'.push { cls := .type "tuple", data := .seq its.toArray } } :=
      I1.laid (t' := s.toks) (fun b o e => Heap.get?_push_of_some _ e) (Nat.le_refl _) (show ObjOk X.prog X.w _ _ _ (.tup ys) from ⟨hz, its, r', IsTup.new _ _⟩)
    exact ⟨.ref h'.objs.size, _, I2, rfl, q _ (I1.hok.fresh (Nat.le_refl _))⟩
  · obtain ⟨its, r', pl, hz⟩ := I.tuple hq
    exact call_tuple_same pl ⟨.ref p, H, I, rfl, q⟩

/-- the value is of that builtin type -/
def tyV (K : PySem.W.Frag) (T : String) (x : V) (H : Hp) : Prop := match x with
  | .str _ => T = "str"
  | .int _ => T = "int"
  | .ref p => (T = "list" ∧ ∃ xs, SqL K H p xs) ∨ (T = "tuple" ∧ ∃ o, K.lookup p = some o ∧ o.cls = .type "tuple" ∧ o.dict = none) ∨
      (T = "dict" ∧ ((∃ kvs, H p = some (.dK kvs)) ∨ ∃ kvs, H p = some (.dT kvs))) ∨ (T = "set" ∧ ∃ S n, H p = some (.set S n))
  | _ => False
theorem tyV_is {pins : List (Addr × Obj)} {σ : St} {H : Hp} {s : Shared} {T : String} {x : V} {v : Value} (I : Inv X pins σ H s) (r : RelV x v) (ty : tyV X.K T x H) :
    s.TypeIs v T ∧ ∀ a, v = .ref a → ∃ ob, s.heap.get? a = some ob ∧ ob.dict = none := by
  cases x with
  | str z =>
    obtain ⟨t, rfl⟩ := r
    cases (show T = "str" from ty)
    exact ⟨typeIs_str s z t, fun _ e => nomatch e⟩
  | int i =>
    obtain ⟨t, rfl⟩ := r
    cases (show T = "int" from ty)
    exact ⟨typeIs_int s i t, fun _ e => nomatch e⟩
  | ref p =>
    cases r
    rcases ty with ⟨rfl, xs, hq⟩ | ⟨rfl, o, hk, hc, hd⟩ | ⟨rfl, hk⟩ | ⟨rfl, S, n, hk⟩
    · obtain ⟨its, _, pl, _⟩ := I.list hq
      refine ⟨pl.isList.typeIs, fun a e => ?_⟩
      cases e
      obtain ⟨o, n, e, c, hd, _⟩ := pl
      exact ⟨o, e, hd⟩
    · refine ⟨⟨o, I.kIn p o hk, hc⟩, fun a e => ?_⟩
      cases e
      exact ⟨o, I.kIn _ o hk, hd⟩
    · have z : ∃ o, s.heap.get? p = some o ∧ o.ExactDict := by
        rcases hk with ⟨kvs, hk⟩ | ⟨kvs, hk⟩
        · obtain ⟨_, _, _, _, o, _, _, e, ex, _⟩ := I.hok p _ hk
          exact ⟨o, e, ex⟩
        · obtain ⟨_, _, _, _, o, _, _, e, ex, _⟩ := I.hok p _ hk
          exact ⟨o, e, ex⟩
      obtain ⟨o, e, ex⟩ := z
      refine ⟨⟨o, e, ex.1⟩, fun a e2 => ?_⟩
      cases e2
      exact ⟨o, e, ex.2.1⟩
    · obtain ⟨o, _, _, _, e, ex, _⟩ := I.hok p _ hk
      refine ⟨⟨o, e, ex.1⟩, fun a e2 => ?_⟩
      cases e2
      exact ⟨o, e, ex.2.1⟩
  | _ => exact False.elim ty
def tBM0 (K : PySem.W.Frag) (T : String) (r : V → List V → Hp → VK → Prop) (to : TE) : TE := fun σ H Q => to σ H fun x H1 => tyV K T x H1 ∧ r x [] H1 Q
def tBM (K : PySem.W.Frag) (T : String) (r : V → List V → Hp → VK → Prop) (to : TE) (t : TA) : TE := fun σ H Q => to σ H fun x H1 => tyV K T x H1 ∧ t σ H1 fun xs H2 => r x xs H2 Q
variable {o e : Expr} {es : List Expr} {to : TE} {t : TA} {name : Str} {apos cpos : Pos} {T id : String} {r : V → List V → Hp → VK → Prop}
theorem pe_bm (pa : PlainAttrs T) (slot : Slot T name id) (hty : typeOf (.builtin id) = pure (.type "method_descriptor")) (hm : MtR X id r) (ho : PE X o to) (ha : PA X (e :: es) t)
    (hbase : attributeBase o name X.env (eval o X.env) = eval o X.env := by rfl)
    (hfew : ((backTo cpos (starEach (e :: es) X.env)).all (fun x => !x.1) && (backToKw cpos (keywordEach [] X.env)).all (fun x => x.1.isSome)
      && decide ((e :: es).length + ([] : List Keyword).length + (if ([] : List Keyword).isEmpty then 0 else 1) < 30)) = true := by rfl)
    (hline : (apos.endLine == cpos.line) = true := by rfl) (hs : starEach (e :: es) X.env = (false, eval e X.env) :: starEach es X.env := by rfl) (hplain : (backTo cpos (starEach es X.env)).any (·.1) = false := by rfl) :
    PE X (.Call (.Attribute o name apos) (e :: es) [] cpos) (tBM X.K T r to t) := by
  intro pins s σ H Q I h
  refine wpAny_Call_method_late hbase hfew hline rfl (thn (ho pins s σ H _ I h) fun v s1 ⟨x, H1, I1, r1, ty, q1⟩ => ?_)
  obtain ⟨h1, h2⟩ := tyV_is I1 r1 ty
  refine ⟨T, id, pa, slot, hty, h1, h2, ?_⟩
  have hA := ha cpos pins s1 σ H1 _ I1 q1
  rw [hs] at hA ⊢
  refine Calls.callWith_builtin (by show (false || (backTo cpos (starEach es X.env)).any (·.1)) = false; rw [hplain] <;> rfl) (Calls.evalArgs_plain ?_)
  exact thn hA fun us s2 ⟨vs, H2, I2, r2, q2⟩ => hm pins s2 σ H2 x vs v us Q I2 r1 r2 q2
end
end L2

namespace L2
open PySem PySem.Spec PyProof.Rows

def MtM (X : Cx) (id : String) (r : V → List V → Hp → VK → Prop) : Prop :=
  ∀ (pins : List (Addr × Obj)) (s : Shared) (σ : St) (H : Hp) (x : V) (xs : List V) (v : Value) (us : List Value) (Q : VK), Inv X pins σ H s → RelV x v → Vals xs us → r x xs H Q →
    wpAny (model X.prog X.w) X.A (call (.builtin id) (v :: us)) (EP X pins σ Q) X.xe s

theorem Vals.one : ∀ {x : V} {us : List Value}, Vals [x] us → ∃ u, us = [u] ∧ RelV x u
  | _, _, .cons r .nil => ⟨_, rfl, r⟩
theorem Vals.two : ∀ {x y : V} {us : List Value}, Vals [x, y] us → ∃ u v, us = [u, v] ∧ RelV x u ∧ RelV y v
  | _, _, _, .cons r (.cons q .nil) => ⟨_, _, rfl, r, q⟩
theorem Vals.zero : ∀ {us : List Value}, Vals [] us → us = []
  | _, .nil => rfl
theorem Vals.dropLast {xs : List V} {us : List Value} (h : Vals xs us) : Vals xs.dropLast us.dropLast := by
  induction h with
  | nil => exact .nil
  | cons r t ih =>
    cases t with
    | nil => exact .nil
    | cons q t' => exact .cons r ih
theorem Vals.eraseIdx : ∀ {xs : List V} {us : List Value} (i : Nat), Vals xs us → Vals (xs.eraseIdx i) (us.eraseIdx i)
  | _, _, _, .nil => .nil
  | _, _, 0, .cons _ t => t
  | _, _, i + 1, .cons r t => .cons r (Vals.eraseIdx i t)
theorem Vals.reverse {xs : List V} {us : List Value} (h : Vals xs us) : Vals xs.reverse us.reverse := by
  induction h with
  | nil => exact .nil
  | cons r t ih => rw [List.reverse_cons, List.reverse_cons]; exact Vals.append ih (.cons r .nil)
section
variable {X : Cx} {pins : List (Addr × Obj)} {σ : St} {H : Hp} {s : Shared} {l b : Addr} {xs ys zs : List V}

theorem Inv.lset {its its' : List Value} {n : Nat} {f : Array Value → Array Value} {t' : Nat} (I : Inv X pins σ H s) (hH : H l = some (.lst xs))
    (e : s.heap.get? l = some { cls := .type "list", data := .seq its.toArray n }) (hf : f its.toArray = its'.toArray) (hv : Vals ys its') (hz : ys.length ≤ sizeLine) :
    Inv X pins σ (upd H l (.lst ys)) { s with heap := s.heap.update l (Obj.mapSeq f), toks := t' } := by
  have q := PySem.IsL.update e f
  rw [hf] at q
  refine I.write (x := l) (e := l) (by rw [hH]; exact trivial) (.inl rfl) (fun b' u hb hu => (Heap.get?_update_other s.heap (Obj.mapSeq f) (Ne.symm hb)).trans hu) ⟨_, q⟩ ?_
  exact ⟨hz, its', _, hv, q⟩
theorem Inv.lnew {its : List Value} {t' : Nat} (I : Inv X pins σ H s) (hv : Vals ys its) (hz : ys.length ≤ sizeLine) :
    Inv X pins σ (upd H s.heap.objs.size (.lst ys)) { s with heap := s.heap.push { cls := .type "list", data := .seq its.toArray }, toks := t' } :=
  I.laid (fun _ _ q => Heap.get?_push_of_some _ q) (Nat.le_refl _) ⟨hz, its, 0, hv, Heap.get?_push_size _ rfl⟩
theorem Inv.fresh (I : Inv X pins σ H s) : H s.heap.objs.size = none := I.hok.fresh (Nat.le_refl _)
theorem Inv.lstM (I : Inv X pins σ H s) (hH : H l = some (.lst xs)) : xs.length ≤ sizeLine ∧ ∃ (its : List Value) (n : Nat), Vals xs its ∧ xs.length = its.length ∧ s.heap.get? l = some { cls := .type "list", data := .seq its.toArray n } := by
  obtain ⟨z, its, n, r, e⟩ := I.hok l _ hH
  exact ⟨z, its, n, r, r.length, e⟩

end

section
variable {X : Cx}

def rAppend : V → List V → Hp → VK → Prop := fun x vs H Q => ∃ l xs y, x = .ref l ∧ vs = [y] ∧ H l = some (.lst xs) ∧ xs.length < sizeLine ∧ Q .non (upd H l (.lst (xs ++ [y])))
theorem mt_append : MtM X "list.append" rAppend := by
  intro pins s σ H x vs v us Q I rx rv h
  obtain ⟨l, xs, y, rfl, rfl, hH, hz, q⟩ := h
  cases rx
  obtain ⟨u, rfl, ru⟩ := rv.one
  obtain ⟨z, its, n, r, hl, e⟩ := I.lstM hH
  refine call_meets F.slot_list_append ⟨_, e, rfl⟩ F.entry_list_append (F.args_list_append_2 _ _) (PySem.list_append l its.toArray n u (by rw [List.size_toArray]; omega)) ⟨e, ?_⟩
  refine ⟨.non, _, I.lset (its' := its ++ [u]) hH e (by simp) (r.append (.cons ru .nil)) ?_, rfl, q⟩
  rw [List.length_append, List.length_singleton]
  omega

def rExtend : V → List V → Hp → VK → Prop := fun x vs H Q => ∃ l b xs zs, x = .ref l ∧ vs = [.ref b] ∧ H l = some (.lst xs) ∧ H b = some (.lst zs) ∧ xs.length + zs.length ≤ sizeLine ∧ Q .non (upd H l (.lst (xs ++ zs)))
def rPop : V → List V → Hp → VK → Prop := fun x vs H Q => ∃ l xs y, x = .ref l ∧ vs = [] ∧ H l = some (.lst xs) ∧ xs[xs.length - 1]? = some y ∧ Q y (upd H l (.lst xs.dropLast))
def rPopAt : V → List V → Hp → VK → Prop := fun x vs H Q => ∃ l xs i k y, x = .ref l ∧ vs = [.int i] ∧ H l = some (.lst xs) ∧ -(2 ^ 63) ≤ i ∧ i < 2 ^ 63 ∧ seqIndex? i xs.length = some k ∧ xs[k]? = some y ∧ Q y (upd H l (.lst (xs.eraseIdx k)))
def rReverse : V → List V → Hp → VK → Prop := fun x vs H Q => ∃ l xs, x = .ref l ∧ vs = [] ∧ H l = some (.lst xs) ∧ Q .non (upd H l (.lst xs.reverse))
def rClear : V → List V → Hp → VK → Prop := fun x vs H Q => ∃ l xs, x = .ref l ∧ vs = [] ∧ H l = some (.lst xs) ∧ Q .non (upd H l (.lst []))
def rCat : R2 := fun x y H Q => ∃ l b xs zs, x = .ref l ∧ y = .ref b ∧ H l = some (.lst xs) ∧ H b = some (.lst zs) ∧ xs.length + zs.length ≤ sizeLine ∧ ∀ p, H p = none → Q (.ref p) (upd H p (.lst (xs ++ zs)))
theorem op_cat : OpR X (binaryOp .Add) rCat := by
  intro pins s σ H x y v u Q I rx ry h
  obtain ⟨l, b, xs, zs, rfl, rfl, hH, hB, hz, q⟩ := h
  cases rx
  cases ry
  obtain ⟨z, its, n, r, hl, e⟩ := I.lstM hH
  obtain ⟨z2, its2, n2, r2, hl2, e2⟩ := I.lstM hB
  refine PySem.P.add_list e e2 ?_ (by rw [List.size_toArray, List.size_toArray]; omega)
  have ea : its.toArray ++ its2.toArray = (its ++ its2).toArray := by simp
  rw [ea]
  exact ⟨.ref _, _, I.lnew (t' := s.toks) (r.append r2) (by rw [List.length_append]; omega), rfl, q _ I.fresh⟩
/-- a list times an int (a negative one is nothing) -/
def rRep : R2 := fun x y H Q => ∃ l k xs, x = .ref l ∧ y = .int k ∧ H l = some (.lst xs) ∧ -(2 ^ 63) ≤ k ∧ k < 2 ^ 63 ∧ xs.length * k.toNat ≤ sizeLine ∧
  ∀ p, H p = none → Q (.ref p) (upd H p (.lst (List.replicate k.toNat xs).flatten))
end

section
variable {prog : Program} {w : World} {A : Around} {E : Value → Shared → Prop} {s : Shared}
end

section
variable {X : Cx}
end
end L2

namespace L2
open PySem PySem.Spec PyProof.Rows

section
variable {κ : Type} [DecidableEq κ]
def valV (kvs : List (κ × V)) (k : κ) : Option V := (kvs.find? fun kv => decide (kv.1 = k)).map (·.2)
/-- in its place, or at the end -/
def putK (kvs : List (κ × V)) (k : κ) (v : V) : List (κ × V) :=
  if (kvs.any fun kv => decide (kv.1 = k)) = true then kvs.map (fun kv => if kv.1 = k then (kv.1, v) else kv) else kvs ++ [(k, v)]
def dropK (kvs : List (κ × V)) (k : κ) : List (κ × V) := kvs.filter fun kv => decide (kv.1 ≠ k)

theorem valV_pos {p : κ × V} {r : List (κ × V)} {k : κ} (e : p.1 = k) : valV (p :: r) k = some p.2 := by simp [valV, List.find?_cons, e]
theorem valV_neg {p : κ × V} {r : List (κ × V)} {k : κ} (e : ¬ p.1 = k) : valV (p :: r) k = valV r k := by simp [valV, List.find?_cons, e]
theorem valV_any (k : κ) : ∀ kvs : List (κ × V), (kvs.any fun kv => decide (kv.1 = k)) = (valV kvs k).isSome
  | [] => rfl
  | p :: r => by
    rw [List.any_cons]
    by_cases e : p.1 = k
    · simp only [valV_pos e, decide_eq_true e, Bool.true_or, Option.isSome_some]
    · rw [valV_neg e, decide_eq_false e, Bool.false_or]; exact valV_any k r
theorem valV_map (k j : κ) (y : V) : ∀ kvs : List (κ × V), valV (kvs.map fun kv => if kv.1 = k then (kv.1, y) else kv) j = (valV kvs j).map fun x => if j = k then y else x
  | [] => rfl
  | p :: r => by
    have ih := valV_map k j y r
    rw [List.map_cons]
    by_cases h : p.1 = k
    · rw [if_pos h]
      by_cases e : p.1 = j
      · rw [valV_pos (p := (p.1, y)) e, valV_pos e, Option.map_some, if_pos (e.symm.trans h)]
      · rw [valV_neg (p := (p.1, y)) e, valV_neg e, ih]
    · rw [if_neg h]
      by_cases e : p.1 = j
      · rw [valV_pos (p := p) e, valV_pos e, Option.map_some, if_neg (fun z => h (e.trans z))]
      · rw [valV_neg (p := p) e, valV_neg e, ih]
theorem valV_snoc (k j : κ) (y : V) : ∀ kvs : List (κ × V), valV kvs k = none → valV (kvs ++ [(k, y)]) j = if j = k then some y else valV kvs j
  | [], _ => by
    by_cases e : k = j
    · rw [if_pos e.symm]; exact valV_pos (p := (k, y)) e
    · rw [if_neg (fun z => e z.symm)]; exact valV_neg (p := (k, y)) e
  | p :: r, hn => by
    rw [List.cons_append]
    have hk : ¬ p.1 = k := fun z => by rw [valV_pos z] at hn; cases hn
    rw [valV_neg hk] at hn
    have ih := valV_snoc k j y r hn
    by_cases e : p.1 = j
    · rw [valV_pos e, valV_pos e, if_neg (fun z => hk (e.trans z))]
    · rw [valV_neg e, valV_neg e, ih]
theorem valV_put (kvs : List (κ × V)) (k j : κ) (y : V) : valV (putK kvs k y) j = if j = k then some y else valV kvs j := by
  unfold putK
  by_cases a : (kvs.any fun kv => decide (kv.1 = k)) = true
  · rw [if_pos a, valV_map]
    rw [valV_any] at a
    by_cases e : j = k
    · obtain ⟨x, hx⟩ := Option.isSome_iff_exists.mp a
      rw [if_pos e, e, hx, Option.map_some, if_pos rfl]
    · rw [if_neg e]
      cases valV kvs j with
      | none => rfl
      | some x => rw [Option.map_some, if_neg e]
  · rw [if_neg a]
    refine valV_snoc k j y kvs ?_
    rw [valV_any] at a
    cases q : valV kvs k with
    | none => rfl
    | some x => rw [q] at a; exact (a rfl).elim
theorem length_putK (kvs : List (κ × V)) (k : κ) (v : V) : (putK kvs k v).length ≤ kvs.length + 1 := by
  unfold putK
  split
  · rw [List.length_map]; omega
  · rw [List.length_append, List.length_cons, List.length_nil]; omega
theorem putK_new {kvs : List (κ × V)} {k : κ} (v : V) (h : valV kvs k = none) : putK kvs k v = kvs ++ [(k, v)] := by
  unfold putK
  rw [valV_any, h]
  exact if_neg (by decide)

theorem RelO.isSome_eq {o : Option V} {u : Option Value} (r : RelO o u) : o.isSome = u.isSome := by
  cases o with
  | none => cases u with
    | none => rfl
    | some _ => exact (show False from r).elim
  | some _ => cases u with
    | none => exact (show False from r).elim
    | some _ => rfl
theorem RelO.getD {o : Option V} {u : Option Value} {d : V} {d' : Value} (r : RelO o u) (rd : RelV d d') : RelV (o.getD d) (u.getD d') := by
  cases o with
  | none => cases u with
    | none => exact rd
    | some _ => exact (show False from r).elim
  | some _ => cases u with
    | none => exact (show False from r).elim
    | some _ => exact r

/-- raw tables of the same keys -/
theorem KV.val {kvs : List (κ × V)} {vs : List (κ × Value)} (r : KV kvs vs) (k : κ) : RelO (valV kvs k) (valueAt vs k) := by
  unfold KV at r
  induction r with
  | nil => exact True.intro
  | @cons p q ps qs h t ih =>
    obtain ⟨h1, h2⟩ := h
    by_cases e : p.1 = k
    · have e' : q.1 = k := h1.symm.trans e
      have b : valueAt (q :: qs) k = some q.2 := by simp [valueAt, List.find?_cons, e']
      rw [valV_pos e, b]; exact h2
    · have e' : ¬ q.1 = k := fun z => e (h1.trans z)
      have b : valueAt (q :: qs) k = valueAt qs k := by simp [valueAt, List.find?_cons, e']
      rw [valV_neg e, b]; exact ih
theorem KV.any {kvs : List (κ × V)} {vs : List (κ × Value)} (r : KV kvs vs) (k : κ) : (kvs.any fun kv => decide (kv.1 = k)) = vs.any fun kv => decide (kv.1 = k) := by
  unfold KV at r
  induction r with
  | nil => rfl
  | cons h t ih => rw [List.any_cons, List.any_cons, ih, h.1]
theorem KV.repl {kvs : List (κ × V)} {vs : List (κ × Value)} (r : KV kvs vs) (k : κ) {y : V} {u : Value} (ry : RelV y u) :
    KV (kvs.map fun kv => if kv.1 = k then (kv.1, y) else kv) (vs.map fun kv => if kv.1 = k then (kv.1, u) else kv) := by
  unfold KV at r ⊢
  induction r with
  | nil => exact .nil
  | @cons p q ps qs h t ih =>
    rw [List.map_cons, List.map_cons]
    refine .cons ?_ ih
    obtain ⟨h1, h2⟩ := h
    by_cases e : p.1 = k
    · rw [if_pos e, if_pos (h1.symm.trans e)]; exact ⟨h1, ry⟩
    · rw [if_neg e, if_neg (fun z => e (h1.trans z))]; exact ⟨h1, h2⟩
theorem KV.put {kvs : List (κ × V)} {vs : List (κ × Value)} (r : KV kvs vs) (k : κ) {y : V} {u : Value} (ry : RelV y u) : KV (putK kvs k y) (stored vs k u) := by
  unfold putK stored
  rw [r.any k]
  by_cases e : (vs.any fun kv => decide (kv.1 = k)) = true
  · rw [if_pos e, if_pos e]; exact r.repl k ry
  · rw [if_neg e, if_neg e]; exact Paired.snoc r ⟨rfl, ry⟩
theorem KV.drop {kvs : List (κ × V)} {vs : List (κ × Value)} (r : KV kvs vs) (k : κ) : KV (dropK kvs k) (without vs k) := by
  unfold KV at r ⊢
  unfold dropK without
  induction r with
  | nil => exact .nil
  | @cons p q ps qs h t ih =>
    obtain ⟨h1, h2⟩ := h
    rw [List.filter_cons, List.filter_cons]
    by_cases e : p.1 = k
    · have a : ¬ decide (p.1 ≠ k) = true := by simp [e]
      have b : ¬ decide (q.1 ≠ k) = true := by simp [h1.symm.trans e]
      rw [if_neg a, if_neg b]; exact ih
    · have e' : ¬ q.1 = k := fun z => e (h1.trans z)
      have a : decide (p.1 ≠ k) = true := by simp [e]
      have b : decide (q.1 ≠ k) = true := by simp [e']
      rw [if_pos a, if_pos b]; exact .cons ⟨h1, h2⟩ ih
theorem KV.keys {kvs : List (κ × V)} {vs : List (κ × Value)} (r : KV kvs vs) : kvs.map (·.1) = vs.map (·.1) := by
  unfold KV at r
  induction r with
  | nil => rfl
  | cons h t ih => rw [List.map_cons, List.map_cons, ih, h.1]
theorem KV.length {kvs : List (κ × V)} {vs : List (κ × Value)} (r : KV kvs vs) : kvs.length = vs.length := Paired.length r
theorem dropK_le (kvs : List (κ × V)) (k : κ) : (dropK kvs k).length ≤ kvs.length := List.length_filter_le _ _
end


theorem kV_is {P : Program} {w : World} {k : Key} {u : Value} (r : RelV (kV k) u) : (mixKind P w).is k u = true := by
  cases k with
  | inl i => obtain ⟨t, e⟩ := (show ∃ t, u = Value.int i t from r); subst e; exact mixKind_int P w i t
  | inr x => obtain ⟨t, e⟩ := (show ∃ t, u = Value.str x t from r); subst e; exact mixKind_str P w x t
theorem items_are {P : Program} {w : World} : ∀ {ks : List Key} {us : List Value}, Vals (ks.map kV) us → ItemsAre (mixKind P w) ks us
  | [], _, r => by rw [List.map_nil] at r; cases r; exact .nil
  | k :: ks, _, r => by
    rw [List.map_cons] at r
    cases r with
    | cons h t => exact .cons (kV_is h) (items_are t)

/-- raw entries of a dict with tuple keys -/
abbrev KT (H : Hp) : List (List Key × V) → List (List Key × Addr × Value) → Prop := Paired fun p q => p.1 = q.1 ∧ H q.2.1 = some (.tup (p.1.map kV)) ∧ RelV p.2 q.2.2
theorem KT.val {H : Hp} {kvs : List (List Key × V)} {xs : List (List Key × Addr × Value)} (r : KT H kvs xs) (k : List Key) : RelO (valV kvs k) ((atKey xs k).map (·.2)) := by
  induction r with
  | nil => exact True.intro
  | @cons p q ps qs h t ih =>
    obtain ⟨h1, _, h2⟩ := h
    by_cases e : p.1 = k
    · have e' : q.1 = k := h1.symm.trans e
      have b : atKey (q :: qs) k = some q.2 := by simp [atKey, List.find?_cons, e']
      rw [valV_pos e, b]; exact h2
    · have e' : ¬ q.1 = k := fun z => e (h1.trans z)
      have b : atKey (q :: qs) k = atKey qs k := by simp [atKey, List.find?_cons, e']
      rw [valV_neg e, b]; exact ih
theorem KT.repl {H : Hp} {kvs : List (List Key × V)} {xs : List (List Key × Addr × Value)} (r : KT H kvs xs) (k : List Key) {y : V} {u : Value} (ry : RelV y u) :
    KT H (kvs.map fun kv => if kv.1 = k then (kv.1, y) else kv) (xs.map (putAt k u)) := by
  induction r with
  | nil => exact .nil
  | @cons p q ps qs h t ih =>
    rw [List.map_cons, List.map_cons]
    refine .cons ?_ ih
    obtain ⟨h1, h2, h3⟩ := h
    unfold putAt
    by_cases e : p.1 = k
    · rw [if_pos e, if_pos (h1.symm.trans e)]; exact ⟨h1, h2, ry⟩
    · rw [if_neg e, if_neg (fun z => e (h1.trans z))]; exact ⟨h1, h2, h3⟩
theorem KT.put {H : Hp} {kvs : List (List Key × V)} {xs : List (List Key × Addr × Value)} (r : KT H kvs xs) (k : List Key) {b : Addr} {y : V} {u : Value} (hb : H b = some (.tup (k.map kV))) (ry : RelV y u) :
    KT H (putK kvs k y) (storedH xs k b u) := by
  have e : (kvs.any fun kv => decide (kv.1 = k)) = (atKey xs k).isSome := by
    rw [valV_any, (r.val k).isSome_eq, Option.isSome_map]
  unfold putK storedH
  rw [e]
  by_cases q : (atKey xs k).isSome = true
  · rw [if_pos q, if_pos q]; exact r.repl k ry
  · rw [if_neg q, if_neg q]; exact Paired.snoc r ⟨rfl, hb, ry⟩
theorem KT.keeps {H H' : Hp} {kvs : List (List Key × V)} {xs : List (List Key × Addr × Value)} (r : KT H kvs xs) (ht : ∀ b ys, H b = some (.tup ys) → H' b = some (.tup ys)) : KT H' kvs xs :=
  Paired.mapP r fun _ _ z => ⟨z.1, ht _ _ z.2.1, z.2.2⟩

section
variable {P : Program} {w : World} {H : Hp} {h : Heap} {a : Addr}
theorem rd_of {u : HO} (ok : HOk P w H h) (e : Rd H a u) : ObjOk P w H h a u := e.ok ok
theorem dk_rd {kvs : List (Key × V)} (ok : HOk P w H h) (e : Rd H a (.dK kvs)) : kvs.length ≤ sizeLine ∧ (a == sysModules) = false ∧ ∃ vs, KV kvs vs ∧ h.DictOf (mixKind P w) a vs :=
  show ObjOk P w H h a (.dK kvs) from rd_of ok e
theorem dk_of {kvs : List (Key × V)} (ok : HOk P w H h) (e : H a = some (.dK kvs)) : kvs.length ≤ sizeLine ∧ (a == sysModules) = false ∧ ∃ vs, KV kvs vs ∧ h.DictOf (mixKind P w) a vs := dk_rd ok (.inl e)
/-- a tracked tuple of ints and texts is a key -/
theorem key_of {ks : List Key} (ok : HOk P w H h) (e : H a = some (.tup (ks.map kV))) : (tupleKind (mixKind P w)).is h ks a := by
  obtain ⟨_, its, r, o, h1, h2, n, h3⟩ := (show ObjOk P w H h a (.tup (ks.map kV)) from ok a _ e)
  exact ⟨o, its.toArray, n, h1, h2, h3, by simpa using items_are r⟩
theorem dt_rd {kvs : List (List Key × V)} (ok : HOk P w H h) (e : Rd H a (.dT kvs)) : kvs.length ≤ sizeLine ∧ (a == sysModules) = false ∧
    ∃ xs, KT H kvs xs ∧ h.DictOfH (tupleKind (mixKind P w)) a xs := by
  obtain ⟨z, y, xs, r, o, es, ep, h1, h2, h3, h4, h5⟩ := (show ObjOk P w H h a (.dT kvs) from rd_of ok e)
  refine ⟨z, y, xs, r, o, es, ep, h1, h2, h3, h4, fun x hx => ?_, h5⟩
  have all : ∀ {l : List (List Key × V)} {m : List (List Key × Addr × Value)}, KT H l m → ∀ x ∈ m, (tupleKind (mixKind P w)).is h x.1 x.2.1 := by
    intro l m q
    induction q with
    | nil => intro x hx; exact nomatch hx
    | @cons p q ps qs hq t ih =>
      intro x hx
      rcases List.mem_cons.mp hx with e | hx
      · subst e
        exact key_of ok (by rw [← hq.1]; exact hq.2.1)
      · exact ih x hx
  exact all r x hx
theorem dt_of {kvs : List (List Key × V)} (ok : HOk P w H h) (e : H a = some (.dT kvs)) : kvs.length ≤ sizeLine ∧ (a == sysModules) = false ∧
    ∃ xs, KT H kvs xs ∧ h.DictOfH (tupleKind (mixKind P w)) a xs := dt_rd ok (.inl e)
end

/-- what the dict at a holds at the key y -/
def DGet (H : Hp) (a : Addr) (y : V) (r : Option V) : Prop :=
  (∃ kvs k, Rd H a (.dK kvs) ∧ y = kV k ∧ r = valV kvs k) ∨ ∃ kvs k b, Rd H a (.dT kvs) ∧ y = .ref b ∧ H b = some (.tup (k.map kV)) ∧ r = valV kvs k
/-- the heap behind a[y] = v -/
def DPut (H : Hp) (a : Addr) (y v : V) (H' : Hp) : Prop :=
  (∃ kvs k, H a = some (.dK kvs) ∧ y = kV k ∧ kvs.length < sizeLine ∧ H' = upd H a (.dK (putK kvs k v))) ∨
  ∃ kvs k b, H a = some (.dT kvs) ∧ y = .ref b ∧ H b = some (.tup (k.map kV)) ∧ kvs.length < sizeLine ∧ H' = upd H a (.dT (putK kvs k v))
theorem DGet.k {H : Hp} {a : Addr} {kvs : List (Key × V)} {k : Key} (e : H a = some (.dK kvs)) : DGet H a (kV k) (valV kvs k) := .inl ⟨kvs, k, .inl e, rfl, rfl⟩
theorem DGet.t {H : Hp} {a b : Addr} {kvs : List (List Key × V)} {k : List Key} (e : H a = some (.dT kvs)) (eb : H b = some (.tup (k.map kV))) : DGet H a (.ref b) (valV kvs k) := .inr ⟨kvs, k, b, .inl e, rfl, eb, rfl⟩
theorem DPut.k {H : Hp} {a : Addr} {kvs : List (Key × V)} {k : Key} {v : V} (e : H a = some (.dK kvs)) (hl : kvs.length < sizeLine) : DPut H a (kV k) v (upd H a (.dK (putK kvs k v))) := .inl ⟨kvs, k, e, rfl, hl, rfl⟩
theorem DPut.t {H : Hp} {a b : Addr} {kvs : List (List Key × V)} {k : List Key} {v : V} (e : H a = some (.dT kvs)) (eb : H b = some (.tup (k.map kV))) (hl : kvs.length < sizeLine) :
    DPut H a (.ref b) v (upd H a (.dT (putK kvs k v))) := .inr ⟨kvs, k, b, e, rfl, eb, hl, rfl⟩


section
variable {X : Cx} {pins : List (Addr × Obj)} {σ : St} {H : Hp} {s : Shared} {a : Addr} {y v : V} {u r : Value} {o : Option V} {A : Around} {E : Value → Shared → Prop}

theorem Inv.big (I : Inv X pins σ H s) : sysModules < s.heap.objs.size := by
  have h : mainGlobals < s.heap.objs.size := (I.mod.glob.keeps I.bk).lt
  exact Nat.lt_trans (by decide) h

/-- y in d -/
theorem d_in {Q : Value → Shared → Prop} (hu : A.units + 1 < cLine) (I : Inv X pins σ H s) (g : DGet H a y o) (ry : RelV y u) (h : ∀ s', Inv X pins σ H s' → Q (.bool o.isSome) s') :
    wpAny (model X.prog X.w) A (compareOp .In u (.ref a)) Q E s := by
  rcases g with ⟨kvs, k, e, ey, l⟩ | ⟨kvs, k, b, e, ey, eb, l⟩
  · subst ey
    obtain ⟨z, hd, vs, rel, dd⟩ := dk_rd I.hok e
    refine wpAny_in_of (kV_is ry) hd dd.mapOf ?_
    rw [← (rel.val k).isSome_eq, ← l]
    exact h _ (I.tok _)
  · subst ey
    cases (show u = Value.ref b from ry)
    obtain ⟨z, hd, xs, rel, dd⟩ := dt_rd I.hok e
    refine wpAny_in_heap (tupleKind_room_in1 hu) (key_of I.hok eb) hd dd ?_
    have q := (rel.val k).isSome_eq
    rw [Option.isSome_map] at q
    rw [← q, ← l]
    exact h _ (I.tok _)
/-- a dict's object is replaced -/
theorem d_write {h' : Heap} {t' : Nat} {ob : HO} (I : Inv X pins σ H s) (mu : Mut (H a)) (hs : Heap.SameBut a s.heap h') (he : ∃ q, h'.get? a = some q) (new : ObjOk X.prog X.w (upd H a ob) h' a ob) :
    Inv X pins σ (upd H a ob) { s with heap := h', toks := t' } :=
  I.write (x := a) (e := a) mu (.inl rfl) (fun b q hb z => (hs.2 b hb).trans z) he new
theorem dk_new {P : Program} {w : World} {H' : Hp} {h' : Heap} {kvs : List (Key × V)} {vs : List (Key × Value)} (z : kvs.length ≤ sizeLine) (hd : (a == sysModules) = false) (rel : KV kvs vs) (dd : h'.DictOf (mixKind P w) a vs) :
    ObjOk P w H' h' a (.dK kvs) := ⟨z, hd, vs, rel, dd⟩
/-- d[y] = v -/
theorem d_setItem {H' : Hp} {Q : Unit → Shared → Prop} (hu : A.units + 1 < cLine) (I : Inv X pins σ H s) (g : DPut H a y v H') (ry : RelV y u) (rv : RelV v r) (h : ∀ s', Inv X pins σ H' s' → Q () s') :
    wpAny (model X.prog X.w) A (setItem (.ref a) u r) Q E s := by
  rcases g with ⟨kvs, k, e, ey, l, eH⟩ | ⟨kvs, k, b, e, ey, eb, l, eH⟩
  · subst ey eH
    obtain ⟨z, hd, vs, rel, dd⟩ := dk_of I.hok e
    have hz : vs.length ≤ sizeLine := by rw [← rel.length]; exact z
    have hl : (putK kvs k v).length ≤ sizeLine := by have := length_putK kvs k v; omega
    refine wpAny_setItem_pairs (hsz := hz) (kV_is ry) dd fun h' dd' hs => h _ ?_
    have he : ∃ q, h'.get? a = some q := let ⟨q, _, _, hq, _⟩ := dd'; ⟨q, hq⟩
    exact d_write I (by rw [e]; exact True.intro) hs he (dk_new hl hd (rel.put k rv) dd')
  · subst ey eH
    cases (show u = Value.ref b from ry)
    obtain ⟨z, hd, xs, rel, dd⟩ := dt_of I.hok e
    have hz : xs.length ≤ sizeLine := by rw [← Paired.length rel]; exact z
    have hl : (putK kvs k v).length ≤ sizeLine := by have := length_putK kvs k v; omega
    refine wpAny_setItem_heap (hsz := hz) (tupleKind_room_in1 hu) (key_of I.hok eb) dd fun h' dd' hs => h _ ?_
    obtain ⟨q, es, ep, hq, h2, h3, h4, _, h5⟩ := dd'
    refine d_write I (by rw [e]; exact True.intro) hs ⟨q, hq⟩ ⟨hl, hd, _, (rel.put k eb rv).keeps fun c ys ec => ?_, q, es, ep, hq, h2, h3, h4, h5⟩
    rw [upd_ne (ne_of ec e (fun z => nomatch z))]
    exact ec
end

section
variable {X : Cx} {pins : List (Addr × Obj)} {σ : St} {H : Hp} {s : Shared} {a : Addr} {kvs : List (Key × V)} {k : Key} {u : Value} {A : Around} {E : Value → Shared → Prop}
end


/-- the element of a subscription, not a slice -/
def NoSl (i : Expr) : Prop := ∀ ov iv, subscripted i false ov iv = operate [ov, iv] (getItem ov iv)
/-- d[y] -/
def tDGet (td ty : TE) : TE := fun σ H Q => td σ H fun x H1 => ty σ H1 fun y H2 => ∃ a v, x = .ref a ∧ DGet H2 a y (some v) ∧ Q v H2
/-- y in d, y not in d -/
def tDIn (ty td : TE) : TE := fun σ H Q => ty σ H fun y H1 => td σ H1 fun x H2 => ∃ a o, x = .ref a ∧ DGet H2 a y o ∧ Q (.bl o.isSome) H2
def tDNotIn (ty td : TE) : TE := fun σ H Q => ty σ H fun y H1 => td σ H1 fun x H2 => ∃ a o, x = .ref a ∧ DGet H2 a y o ∧ Q (.bl (!o.isSome)) H2
/-- d[y] = v -/
def sDPut (td ty tv : TE) : TS := fun D σ H => tv σ H fun v H1 => td σ H1 fun x H2 => ty σ H2 fun y H3 => ∃ a H4, x = .ref a ∧ DPut H3 a y v H4 ∧ D.nx σ H4
/-- d[y] op= v -/
def sDAug (td ty tv : TE) (rd : V → V → Hp → VK → Prop) : TS := fun D σ H => td σ H fun x H1 => ty σ H1 fun y H2 => ∃ a v, x = .ref a ∧ DGet H2 a y (some v) ∧
  tv σ H2 fun y2 H3 => rd v y2 H3 fun z H4 => ∃ H5, DPut H4 a y z H5 ∧ D.nx σ H5
/-- del d[y] -/
def sDDel (td ty : TE) : TS := fun D σ H => td σ H fun x H1 => ty σ H1 fun y H2 => ∃ a kvs k, x = .ref a ∧ H2 a = some (.dK kvs) ∧ y = kV k ∧ (valV kvs k).isSome = true ∧ D.nx σ (upd H2 a (.dK (dropK kvs k)))

section
variable {X : Cx} {o i e value : Expr} {pos pos' tpos : Pos} {td ty tv : TE}
theorem pc_din (hu : X.A.units + 1 < cLine) (hi : PE X i ty) (ho : PE X o td) : PC X .In i o (tDIn ty td) := by
  intro pins s σ H Q I h
  refine thn (hi pins s σ H _ I h) fun iv s1 ⟨y, H1, I1, ry, q1⟩ => thn (ho pins s1 σ H1 _ I1 q1) fun u s2 ⟨x, H2, I2, rx, a, ov, ex, g, q2⟩ => ?_
  subst ex
  obtain rfl : u = Value.ref a := rx
  exact d_in hu I2 g ry fun s3 I3 => ⟨.bl ov.isSome, H2, I3, rfl, q2⟩
theorem ps_dput (hu : X.A.units + 1 < cLine) (ho : PE X o td) (hi : PE X i ty) (hv : PE X value tv) (hs : swapsWith value (some (.Subscript o i pos')) pos.line X.env = pure false) :
    PS X (.Assign [.Subscript o i pos'] value pos) (sDPut td ty tv) := by
  intro pins s σ H D I h
  refine wpAny_Assign_Subscript (thn (hv pins s σ H _ I h) fun r s1 ⟨v, H1, I1, rv, q1⟩ => thn (ho pins s1 σ H1 _ I1 q1) fun u s2 ⟨x, H2, I2, rx, q2⟩ => thn (hi pins s2 σ H2 _ I2 q2) fun iv s3 ⟨y, H3, I3, ry, a, H4, ex, g, q3⟩ => ?_) hs
  subst ex
  obtain rfl : u = Value.ref a := rx
  exact d_setItem hu I3 g ry rv fun s4 I4 => ⟨σ, H4, I4, q3⟩
end


theorem dt_empty {P : Program} {w : World} {H : Hp} (h : Heap) (hb : sysModules < h.objs.size) : ObjOk P w H (h.push { cls := .type "dict", data := .dict #[] }) h.objs.size (.dT []) :=
  ⟨Nat.zero_le _, beq_eq_false_iff_ne.mpr (Ne.symm (Nat.ne_of_lt hb)), [], .nil, _, #[], 0, Heap.get?_push_size _ rfl, ⟨rfl, rfl, rfl⟩, rfl, rfl, List.nodup_nil⟩
/-- {}, to be a dict of the kind that is wanted -/
def tDNewK : TE := fun _ H Q => ∀ p, H p = none → Q (.ref p) (upd H p (.dK []))
def tDNewT : TE := fun _ H Q => ∀ p, H p = none → Q (.ref p) (upd H p (.dT []))
section
variable {X : Cx} {pos : Pos}
theorem pe_dnewT : PE X (.Dict [] [] pos) tDNewT := fun pins s σ H Q I h =>
  wpAny_Dict_empty ⟨.ref s.heap.objs.size, _, I.laid (a := s.heap.objs.size) (o := .dT []) (t' := s.toks) (fun _ _ q => Heap.get?_push_of_some _ q) (Nat.le_refl _) (dt_empty s.heap I.big), rfl, h _ (I.hok.fresh (Nat.le_refl _))⟩
end

/-- the pairs of a display, from the left -/
def tPairs : List (TE × TE) → St → Hp → (List (V × V) → Hp → Prop) → Prop
  | [], _, H, Q => Q [] H
  | (tk, tv) :: r, σ, H, Q => tk σ H fun x H1 => tv σ H1 fun y H2 => tPairs r σ H2 fun ps H3 => Q ((x, y) :: ps) H3
abbrev VV : List (V × V) → List (Value × Value) → Prop := Paired fun p q => RelV p.1 q.1 ∧ RelV p.2 q.2
def PPs (X : Cx) (pos : Pos) (keys : List (Option Expr)) (values : List Expr) (trs : List (TE × TE)) : Prop :=
  ∀ (pins : List (Addr × Obj)) (s : Shared) (σ : St) (H : Hp) (Q : List (V × V) → Hp → Prop), Inv X pins σ H s → tPairs trs σ H Q →
    wpAny (model X.prog X.w) X.A (evalPairs (pairTrees keys values X.env pos)) (fun vs s' => ∃ ps H', Inv X pins σ H' s' ∧ VV ps vs ∧ Q ps H') X.xe s
def mergeK (kvs more : List (Key × V)) : List (Key × V) := more.foldl (fun acc kv => putK acc kv.1 kv.2) kvs
/-- {k: v, ..} with keys ints and texts; the new dict stands empty while the pairs are made -/
def tDisp (trs : List (TE × TE)) : TE := fun σ H Q => ∀ p, H p = none → tPairs trs σ (upd H p (.dK [])) fun ps H2 => H2 p = some (.dK []) ∧ ∃ kvs : List (Key × V), ps = kvs.map (fun kv => (kV kv.1, kv.2)) ∧ kvs.length ≤ 15 ∧ Q (.ref p) (upd H2 p (.dK (mergeK [] kvs)))
/-- a method call o.m(e) of a built-in, with one argument: what must be seen of the text -/
structure M1 (X : Cx) (o : Expr) (m : Str) (apos : Pos) (e : Expr) (cpos : Pos) : Prop where
  base : attributeBase o m X.env (eval o X.env) = eval o X.env
  few : ((backTo cpos (starEach [e] X.env)).all (fun x => !x.1) && (backToKw cpos (keywordEach [] X.env)).all (fun x => x.1.isSome)
    && decide (([e] : List Expr).length + ([] : List Keyword).length + (if ([] : List Keyword).isEmpty then 0 else 1) < 30)) = true
  line : (apos.endLine == cpos.line) = true
  trees : backTo cpos (starEach [e] X.env) = [(false, eval e X.env)]
structure M2 (X : Cx) (o : Expr) (m : Str) (apos : Pos) (e f : Expr) (cpos : Pos) : Prop where
  base : attributeBase o m X.env (eval o X.env) = eval o X.env
  few : ((backTo cpos (starEach [e, f] X.env)).all (fun x => !x.1) && (backToKw cpos (keywordEach [] X.env)).all (fun x => x.1.isSome)
    && decide (([e, f] : List Expr).length + ([] : List Keyword).length + (if ([] : List Keyword).isEmpty then 0 else 1) < 30)) = true
  line : (apos.endLine == cpos.line) = true
  trees : backTo cpos (starEach [e, f] X.env) = [(false, eval e X.env), (false, eval f X.env)]

/-- a is a dict, whatever its keys -/
def IsD (H : Hp) (a : Addr) : Prop := (∃ kvs, Rd H a (.dK kvs)) ∨ ∃ kvs, Rd H a (.dT kvs)
theorem isD_at {X : Cx} {pins : List (Addr × Obj)} {σ : St} {H : Hp} {s : Shared} {a : Addr} (I : Inv X pins σ H s) (d : IsD H a) :
    s.TypeIs (.ref a) "dict" ∧ (∀ b, Value.ref a = .ref b → ∃ ob, s.heap.get? b = some ob ∧ ob.dict = none) ∧ (a == sysModules) = false := by
  rcases d with ⟨kvs, e⟩ | ⟨kvs, e⟩
  · obtain ⟨_, hd, vs, _, dd⟩ := dk_rd I.hok e
    refine ⟨dd.typeIs, fun b q => ?_, hd⟩
    cases q
    obtain ⟨ob, _, _, h1, h2, _⟩ := dd
    exact ⟨ob, h1, h2.2.1⟩
  · obtain ⟨_, hd, xs, _, dd⟩ := dt_rd I.hok e
    refine ⟨dd.typeIs, fun b q => ?_, hd⟩
    cases q
    obtain ⟨ob, _, _, h1, h2, _⟩ := dd
    exact ⟨ob, h1, h2.2.1⟩

section
variable {X : Cx} {pins : List (Addr × Obj)} {σ : St} {H : Hp} {s : Shared} {a : Addr} {y d : V} {u r : Value} {o : Option V} {A : Around} {E : Value → Shared → Prop}
/-- d.get(y, x) -/
theorem d_get2 {Q : Value → Shared → Prop} (hu : A.units + 1 < cLine) (I : Inv X pins σ H s) (g : DGet H a y o) (ry : RelV y u) (rd : RelV d r) (h : ∀ w' s', Inv X pins σ H s' → RelV (o.getD d) w' → Q w' s') :
    wpAny (model X.prog X.w) A (call (.builtin "dict.get") [.ref a, u, r]) Q E s := by
  rcases g with ⟨kvs, k, e, ey, l⟩ | ⟨kvs, k, b, e, ey, eb, l⟩
  · subst ey
    obtain ⟨z, hd, vs, rel, dd⟩ := dk_rd I.hok e
    refine call_meetsIn PySem.F.slot_dict_get dd.typeIs PySem.F.entry_dict_get (PySem.F.args_dict_get_3 _ _ _) (meets_dict_get_default (mixKind X.prog X.w) a (kV_is ry) hd r) ⟨_, dd.mapOf, h _ _ (I.tok _) ?_⟩
    rw [l]
    exact (rel.val k).getD rd
  · subst ey
    cases (show u = Value.ref b from ry)
    obtain ⟨z, hd, xs, rel, dd⟩ := dt_rd I.hok e
    refine call_meetsIn PySem.F.slot_dict_get dd.typeIs PySem.F.entry_dict_get (PySem.F.args_dict_get_3 _ _ _) (meetsH_dict_get_default (tupleKind (mixKind X.prog X.w)) a b hd r) ⟨tupleKind_room_in1 hu, k, xs, key_of I.hok eb, dd, h _ _ (I.tok _) ?_⟩
    rw [l]
    exact (rel.val k).getD rd
end

def tDGet1 (td ty : TE) : TE := fun σ H Q => td σ H fun x H1 => ∃ a, x = .ref a ∧ IsD H1 a ∧ ty σ H1 fun y H2 => ∃ o, DGet H2 a y o ∧ Q (o.getD .non) H2
def tDGet2 (td ty tx : TE) : TE := fun σ H Q => td σ H fun x H1 => ∃ a, x = .ref a ∧ IsD H1 a ∧ ty σ H1 fun y H2 => tx σ H2 fun z H3 => ∃ o, DGet H3 a y o ∧ Q (o.getD z) H3
/-- d.pop(k): there; d.pop(k, x): there or not -/
def tDPop1 (td ty : TE) : TE := fun σ H Q => td σ H fun x H1 => ∃ a, x = .ref a ∧ IsD H1 a ∧ ty σ H1 fun y H2 => ∃ kvs k v, H2 a = some (.dK kvs) ∧ y = kV k ∧ valV kvs k = some v ∧ Q v (upd H2 a (.dK (dropK kvs k)))
def tDPop2 (td ty tx : TE) : TE := fun σ H Q => td σ H fun x H1 => ∃ a, x = .ref a ∧ IsD H1 a ∧ ty σ H1 fun y H2 => tx σ H2 fun z H3 => ∃ kvs k, H3 a = some (.dK kvs) ∧ y = kV k ∧
  (∀ v, valV kvs k = some v → Q v (upd H3 a (.dK (dropK kvs k)))) ∧ (valV kvs k = none → Q z H3)
section
variable {X : Cx} {o e f : Expr} {apos cpos : Pos} {td ty tx : TE}
theorem pe_dget2 (hu : X.A.units + 1 < cLine) (ho : PE X o td) (he : PE X e ty) (hf : PE X f tx) (m : M2 X o "get" apos e f cpos) : PE X (.Call (.Attribute o "get" apos) [e, f] [] cpos) (tDGet2 td ty tx) := by
  intro pins s σ H Q I h
  refine wpAny_Call_method m.base m.few m.line PySem.F.plainAttrs_dict PySem.F.slot_dict_get PySem.F.type_dict_get (thn (ho pins s σ H _ I h) fun u s1 ⟨x, H1, I1, rx, a, ex, d, q1⟩ => ?_)
  subst ex
  obtain rfl : u = Value.ref a := rx
  obtain ⟨t1, t2, _⟩ := isD_at I1 d
  refine ⟨t1, t2, ?_⟩
  rw [m.trees]
  refine Calls.callWith_builtin rfl (Calls.evalArgs_plain (Calls.spliced_cons (thn (he pins s1 σ H1 _ I1 q1) fun iv s2 ⟨y, H2, I2, ry, q2⟩ =>
    Calls.spliced_cons (thn (hf pins s2 σ H2 _ I2 q2) fun fv s3 ⟨z, H3, I3, rz, ov, g, q3⟩ => Calls.spliced_nil ?_))))
  exact d_get2 hu I3 g ry rz fun w' s4 I4 rw' => ⟨_, H3, I4, rw', q3⟩
end

section
variable {X : Cx} {pins : List (Addr × Obj)} {σ : St} {H : Hp} {s : Shared} {a : Addr} {kvs : List (Key × V)} {A : Around} {E : Value → Shared → Prop}
end


section
variable {X : Cx} {pins : List (Addr × Obj)} {σ : St} {H : Hp} {s : Shared} {a : Addr} {y : V} {u : Value} {A : Around} {E : Value → Shared → Prop}
end
end L2

namespace Att
open PySem PySem.W PySem.Calls PyProof.Rows

theorem ints_of_wellAll {P : Params} {h : Heap} : ∀ (ns : List Int) (vs : List Value), WellAll P h vs (ns.map WData.int) → IntsAre vs ns := by
  intro ns
  induction ns with
  | nil =>
    intro vs w
    rw [List.map_nil] at w
    cases w
    exact .nil
  | cons n ns ih =>
    intro vs w
    rw [List.map_cons] at w
    cases w with
    | cons a b =>
      cases a
      exact .cons _ _ (ih _ b)

theorem script_of {l : OpenLaw} {n : Nat} (hn : l.most = some n) {P : Params} {h : Heap} {args : List WData} {vals : List Value}
    (hpre : l.row.toRowW.claim.pre args = true) (hwl : WellAll P h vals args) :
    ∃ a vs ns, vals = [Value.ref a] ∧ args = [WData.list (ns.map WData.int)] ∧ h.get? a = some { cls := .type "list", data := .seq vs.toArray } ∧ IntsAre vs ns ∧ ns.length ≤ n := by
  have hsh : WShape.hasAll [] args [.list .int] = true := (pre_splitW hpre).1
  have hc : l.pre.holds [] { args := args } = true := (pre_splitW hpre).2
  obtain ⟨d, r, rfl, h1, h2⟩ := hasAllW_cons hsh
  obtain rfl := hasAllW_nil h2
  obtain ⟨xs, rfl, h3⟩ := hasW_list h1
  obtain ⟨ns, rfl⟩ := items_int h3
  have hlen : ns.length ≤ n := by
    unfold OpenLaw.pre at hc
    have h4 : (WTm.not (.lt (.lit (.int (n : Int))) (.len (.arg 0)))).holds [] { args := [.list (ns.map .int)] } = true := by
      have h4 := (holds_andW hc).1
      rw [hn] at h4
      exact h4
    have h5 := condW_of h4 (w_not (w_lt w_lit (w_len_list (w_arg rfl))))
    rw [List.length_map] at h5
    refine Nat.le_of_not_lt fun q => ?_
    have q' : (n : Int) < ((ns.length : Nat) : Int) := by omega
    first
      | (rw [decide_eq_true q'] at h5; exact absurd h5 (by decide))
      | (simp at h5; omega)
  cases hwl with
  | cons w1 w2 =>
    cases w2
    cases w1 with
    | list ho hall => exact ⟨_, _, ns, rfl, rfl, ho, ints_of_wellAll ns _ hall, hlen⟩

theorem post_true (l : OpenLaw) (args : List WData) : l.row.toRowW.claim.post args (.bool true) args = true :=
  postW_of (r := l.row.toRowW) (X := (true == true))
    (show WShape.has [] (.bool true) .bool = true by first | rfl | decide | simp [WShape.has, WShape.arms, WShape.armsAll])
    (show (WTm.eq .res (.lit (.bool true))).value [] { args := args, res := some (.bool true), after := args } = some (.bool (true == true)) from w_eq_bool (w_res rfl) w_lit) rfl

theorem attach {l : OpenLaw} {n : Nat} {q : Program} {loose : List Str} {XP : (Str → Option Value) → Heap → Prop} {YP : World → Heap → Prop} {d : DefRec} {x : Str}
    (hn : l.most = some n) (hdf : d.params.defaults = [])
    (hbind : ∀ pm cd doc v : Value, bindArgs (docDef d.name d.params d.body d.scope pm cd doc) ⟨[v], []⟩ = pure [(x, v)])
    (hx : d.scope.names.lookup x = some .local ∨ d.scope.names.lookup x = some .cell)
    (hk : d.scope.kind = .function) (hco : d.scope.isCoroutine = false) (hgen : d.scope.isGenerator = false)
    (body : ∀ (w : World) (s₀ s₁ s : Shared) (mg mb : Str → Option Value) (fa : Addr) (o : Obj) (pm cd doc : Value) (a : Addr) (vs : List Value) (ns : List Int),
      Ground q loose [] XP w s₀ mg mb s₁.heap → YP w s₁.heap →
      s₁.heap.get? fa = some o → o.data = .func (docDef d.name d.params d.body d.scope pm cd doc) → s₁.heap.CodeRec cd d.name → mg d.name = some (.ref fa) →
      s₁.heap.get? a = some { cls := .type "list", data := .seq vs.toArray } → IntsAre vs ns → ns.length ≤ n →
      s.gens = #[] → s.os = s₁.os →
      Fr s₁.heap s₁.heap.objs.size s.heap (bindL (envOfC d.name d.scope s₁.heap.objs.size fa cd).kindOf [(x, .ref a)] fun _ => none) →
      Cl s₁.heap.objs.size (cellsFrom (s₁.heap.objs.size + 1) d.scope.names []) s.heap (bindC (envOfC d.name d.scope s₁.heap.objs.size fa cd).kindOf [(x, .ref a)] fun _ => none) →
      wpAny (model l.prog w) (callerA.deeper (envOfC d.name d.scope s₁.heap.objs.size fa cd)) (execs d.body (envOfC d.name d.scope s₁.heap.objs.size fa cd))
        (fun f s' => f = .ret (.bool true) ∧ OldK s₁.heap s'.heap ∧ s'.os = s₁.os ∧ AllBare s'.gens) (fun _ _ => False) s) :
    WalkO q loose XP YP l.row.toRowW d [] (fun f vs => PySem.call f vs) := by
  intro w s₀ s₁ mg mb G Y fa o pm cd doc dV kV ho hd hcd hD hmg hg args vals as hpre hlay hrd hwl hlo
  obtain rfl : dV = .none := Dflts.none hD hdf
  obtain rfl : kV = .none := Dflts.noKw hD
  obtain ⟨a, vs, ns, rfl, rfl, hobj, hints, hlen⟩ := script_of hn hpre hwl
  refine enter_call ?_
  refine call_cells_ret (o := o) (by rw [depth_caller]; decide) ho (fd_plain hd) G.T.nolimit hcd (hbind pm cd doc (.ref a)) (fun y hy => ?_) (fun h₁ tk F X => ?_) hco hgen hk
  · obtain rfl : y = (x, Value.ref a) := List.mem_singleton.mp hy
    rcases hx with e | e
    · exact .inl e
    · exact .inr ⟨e, cellsFrom_some _ _ _ (.inl e)⟩
  · refine wpAny_mono (body w s₀ s₁ { s₁ with heap := h₁, toks := tk } mg mb fa o pm cd doc a vs ns G Y ho (fd_plain hd) hcd hmg hobj hints hlen hg rfl F X) (fun f s' hq => ?_) (fun _ _ hq => hq)
    obtain ⟨rfl, h2, h3, h4⟩ := hq
    exact ⟨.inl ⟨.bool true, .bool true, [], rfl, fun _ => rfl, .bool true, post_true l _, fun _ => ⟨List.Pairwise.nil, fun _ hm => (nomatch hm)⟩⟩, h2, h3, h4⟩

section
variable {prog : Program} {w : World} {A : Around} {E : Value → Shared → Prop} {s : Shared} {K : Frag}

def noObjs (h : Heap) : Heap := { h with objs := #[] }
def ledger (h : Heap) (L d : Addr) : List (Addr × Obj) := (List.range h.objs.size).filterMap fun a => if a = L ∨ a = d then none else (h.get? a).map fun o => (a, o)
end
end Att

namespace L2
open PySem PySem.Spec PyProof.Rows

theorem vals_ints : ∀ {vs : List Value} {ns : List Int}, IntsAre vs ns → Vals (ns.map V.int) vs
  | _, _, .nil => .nil
  | _, _, .cons n t h => .cons ⟨t, rfl⟩ (vals_ints h)

/-- nothing is tracked but the script, known to the object (or it is an object of the module) -/
def Only (H : Hp) : Prop := ∀ b, H b = none ∨ ∃ o xs, H b = some (.frz o (.lst xs))

/-- THE HEAD: the law's promise, at the heap behind the top. F, the promise of the law's def, may use that base is part of the heap (so K.In base, base.Ns mainGlobals mg stand in Mod) -/
theorem law_call {P : Program} {w : World} {K : PySem.W.Frag} {mg mb : Str → Option Value} {CX : CXT} {k : Nat} {fa a : Addr} {fd : FuncData} {x : Str} {sp : Sp} {s₁ : Shared} {vs : List Value} {ns : List Int}
    (KX : K.In s₁.heap) (hns : s₁.heap.Ns mainGlobals mg) (hb : s₁.heap.Ns builtinsNs mb) (hbb : ∀ x : Str, x ≠ "__name__" → mb x = bootBuiltins x) (hlim : s₁.heap.NoLimit) (hg : s₁.gens = #[])
    (ha : s₁.heap.get? a = some { cls := .type "list", data := .seq vs.toArray }) (hi : IntsAre vs ns) (hl : ns.length ≤ sizeLine) (hr : Room k callerA)
    (F : ∀ base : Heap, K.In base → base.Ns mainGlobals mg → FnOk P w K mg base CX k fa fd [x] sp) (hbind : ∀ (s : Shared) (u : Value), BindsTo s fd ⟨[u], []⟩ [(x, u)])
    (hsp : ∀ H : Hp, Only H → SqL K H a (ns.map V.int) → sp [.ref a] H (fun v _ => v = .bl true) fun _ _ _ => False)
    (hCX : ∀ H e s', CX [] H s₁ (fun _ _ _ => False) e s' → False) :
    codeAny (model P w) callerA (.call (.ref fa) ⟨[.ref a], []⟩) (fun r s' => r = .ok (.ret (.bool true)) ∧ OldK s₁.heap s'.heap ∧ s'.os = s₁.os ∧ AllBare s'.gens) s₁ := by
  have rv := vals_ints hi
  have lenV := hi.length
  -- from an abstract heap in which nothing but the script may be tracked
  have core : ∀ H : Hp, Only H → SqL K H a (ns.map V.int) → HOk P w H s₁.heap → (∀ b, H b ≠ none → b = a) → (H a ≠ none → K.lookup a = none) →
      codeAny (model P w) callerA (.call (.ref fa) ⟨[.ref a], []⟩) (fun r s' => r = .ok (.ret (.bool true)) ∧ OldK s₁.heap s'.heap ∧ s'.os = s₁.os ∧ AllBare s'.gens) s₁ := by
    intro H hO hS hok hA hK
    have base_of : ∀ {b : Addr} {o : Obj}, s₁.heap.get? b = some o → H b = none → (hidT s₁.heap H).get? b = some o := fun e n => hidT_get e n
    have noA : ∀ {b : Addr} {o : Obj} {es : Array DictEntry} {ep : Nat}, s₁.heap.get? b = some o → o.data = .dict es ep → H b = none := fun {b o es ep} e d => by
      cases q : H b with
      | none => rfl
      | some u =>
        have e' : b = a := hA b (by rw [q]; simp)
        subst e'
        rw [ha] at e; cases e
        have d' : Data.seq vs.toArray _ = Data.dict es ep := d
        cases d'
    have nsK : ∀ {b : Addr} {m : Str → Option Value}, s₁.heap.Ns b m → (hidT s₁.heap H).Ns b m := fun {b m} ⟨o, es, ep, e, d, r⟩ => ⟨o, es, ep, base_of e (noA e d), d, r⟩
    have hKb : K.In (hidT s₁.heap H) := fun b o e => base_of (KX b o e) (by
      cases q : H b with
      | none => rfl
      | some u =>
        have e' : b = a := hA b (by rw [q]; simp)
        subst e'
        rw [hK (by rw [q]; simp)] at e; cases e)
    have hM : Mod K mg (hidT s₁.heap H) := ⟨hKb, nsK hns, ⟨mb, nsK hb, hbb⟩, let ⟨mc, h1, h2⟩ := hlim; ⟨mc, nsK h1, h2⟩⟩
    have e0 : Env0 P w K mg (hidT s₁.heap H) callerA [] s₁ H := ⟨rfl, hM, fun b o e => of_hidT e, Nat.le_of_eq (hidT_size _ _), trivial, fun b hb => absurd (show b ∈ ([] : List Addr) from hb) (by simp), hok, .of_eq hg⟩
    refine codeAny_mono ((F _ hKb (nsK hns)).run callerA [] s₁ H ⟨[.ref a], []⟩ [.ref a] [.ref a] _ _ hr e0 (hbind s₁ (.ref a)) (.cons rfl .nil) (hsp H hO hS)) fun r s' h => ?_
    cases r with
    | error e => exact (hCX H e s' h).elim
    | ok fl =>
      cases fl with
      | next => exact False.elim h
      | brk => exact False.elim h
      | cont => exact False.elim h
      | ret u =>
        obtain ⟨v, H', os, bare, un, hok', r', q⟩ := h
        have q' : v = .bl true := q
        subst q'
        obtain rfl : u = Value.bool true := r'
        refine ⟨rfl, OldK.of_keep fun b o e => ?_, os, bare⟩
        cases q : H b with
        | none => exact un.keep b o e q (by intro z; exact absurd (show b ∈ ([] : List Addr) from z) (by simp)) (by simp)
        | some u =>
          rcases hO b with z | ⟨ob, xs, z⟩
          · rw [q] at z; cases z
          · have z2 := un.frzs b ob _ z
            obtain ⟨e1, _⟩ := hok b _ z
            obtain ⟨e2, _⟩ := hok' b _ z2
            rw [e] at e1; cases e1
            exact e2
  cases hk : K.lookup a with
  | some o =>
    -- the script is one of the module's own objects
    have e := KX a o hk
    rw [ha] at e
    cases e
    refine core (fun _ => none) (fun _ => .inl rfl) (.inr ⟨_, vs.toArray, _, hk, rfl, rfl, rfl, by rw [List.size_toArray, lenV]; exact hl, by simpa using rv⟩) (fun b u z => by have z' : (none : Option HO) = some u := z; cases z') (fun b z => absurd rfl z) fun z => absurd rfl z
  | none =>
    refine core (fun b => if b = a then some (.frz { cls := .type "list", data := .seq vs.toArray } (.lst (ns.map V.int))) else none) (fun b => ?_) (.inl (.inr ⟨{ cls := .type "list", data := .seq vs.toArray }, if_pos rfl⟩)) (fun b u z => ?_) (fun b z => ?_) fun _ => hk
    · by_cases hb : b = a
      · exact .inr ⟨_, _, if_pos hb⟩
      · exact .inl (if_neg hb)
    · by_cases hb : b = a
      · have z' := (if_pos hb).symm.trans z
        cases z'
        subst hb
        exact ⟨ha, by rw [List.length_map]; exact hl, vs, _, rv, ha⟩
      · have z' := (if_neg hb).symm.trans z
        cases z'
    · by_cases hb : b = a
      · exact hb
      · exact absurd (if_neg hb) z
end L2

namespace L2
open PySem PySem.Spec PyProof.Rows

abbrev KOf {K : PySem.W.Frag} {h : Heap} (_ : K.In h) : PySem.W.Frag := K

end L2


namespace L2
open PySem PySem.Spec PyProof.Rows

/-- the j-th statement of a class's body -/
def inClass (s : Stmt) (j : Nat) : Stmt := match s with
  | .ClassDef _ _ _ body _ _ _ _ _ _ _ => body.getD j (.Pass ⟨0, 0, 0, 0⟩)
  | _ => .Pass ⟨0, 0, 0, 0⟩
def defArgs (s : Stmt) : Arguments := match s with
  | .FunctionDef _ a _ _ _ _ _ _ _ _ => a
  | _ => { posonlyargs := [], args := [], vararg := none, kwonlyargs := [], kw_defaults := [], kwarg := none, defaults := [] }
def defBody (s : Stmt) : List Stmt := match s with
  | .FunctionDef _ _ b _ _ _ _ _ _ _ => b
  | _ => []
def defScope (s : Stmt) : Scope := match s with
  | .FunctionDef _ _ _ _ _ _ sc _ _ _ => sc
  | _ => { kind := .function, names := [], isGenerator := false, isCoroutine := false }

abbrev CX0 : CXT := fun _ _ _ _ _ _ => False
abbrev E0 : XK := fun _ _ _ => False
theorem pass0 {X : Cx} : Passes CX0 X E0 := fun _ _ _ _ _ _ _ h => h.elim

structure Fun (K : PySem.W.Frag) (x qual : Str) (st : Stmt) (f : Addr) (fd : FuncData) : Prop where
  ex : ∃ (oc : Value) (od : Option Addr) (kV doc pm : Value) (an : Option Addr) (cdv ct : Value) (osl : Array (Option Value)),
    fd = PySem.W.fnOf x qual (defArgs st) (defBody st) (defScope st) .none kV doc pm an cdv ct ∧ K.lookup f = some ⟨oc, od, .func fd, osl⟩ ∧ PySem.W.codeIn K cdv qual = true
  kp : PySem.W.keepIn K (.ref f) = true
section
variable {P : Program} {w : World} {K : PySem.W.Frag} {mg : Str → Option Value} {base : Heap}
/-- THE RULE for a def: its body as a term of rules, and the reading of that term -/
theorem Fun.ok {x qual : Str} {st : Stmt} {f : Addr} {fd : FuncData} {N ps : List Str} {k : Nat} {sp : Sp} (F : Fun K x qual st f fd) (S : FnScope N ps (defScope st)) (len : ∀ vs H Q E, sp vs H Q E → vs.length = ps.length)
    (hbody : ∀ (cdv : Value) (A : Around) (outer : List Env) (s : Shared) (H : Hp) (vs : List V) (Q : VK) (E : XK), Room k (A.deeper (envOfC qual (defScope st) s.heap.objs.size f cdv)) → sp vs H Q E →
      ∃ t, PSs (cxOf CX0 P w K mg base N qual (defScope st) f cdv A outer s H E).nox (defBody st) t ∧ t { nx := fun _ H' => Q .non H', rt := Q } (start N vs) H) : FnOk P w K mg base CX0 (k + 1) f fd ps sp := by
  obtain ⟨oc, od, kV, doc, pm, an, cdv, ct, osl, rfl, lk, hcd⟩ := F.ex
  refine fn_of lk hcd S len fun A outer s H vs Q E hr hsp => ?_
  obtain ⟨t, h, q⟩ := hbody cdv A outer s H vs Q E hr hsp
  exact ⟨t, h.nox, q⟩
/-- how its arguments bind (no defaults): h is «fun _ _ _ _ _ _ us hl => match us, hl with | [_, _], _ => rfl», one _ a parameter -/
theorem Fun.binds {x qual : Str} {st : Stmt} {f : Addr} {fd : FuncData} {ps : List Str} (F : Fun K x qual st f fd)
    (h : ∀ (kV doc pm : Value) (an : Option Addr) (cdv ct : Value) (us : List Value), us.length = ps.length → bindArgs (PySem.W.fnOf x qual (defArgs st) (defBody st) (defScope st) .none kV doc pm an cdv ct) ⟨us, []⟩ = pure (ps.zip us)) : Binds K fd ps [] := by
  obtain ⟨oc, od, kV, doc, pm, an, cdv, ct, osl, rfl, lk, hcd⟩ := F.ex
  exact .all (h kV doc pm an cdv ct)
theorem fun_mk {x qual : Str} {st : Stmt} {f : Addr} {oc : Value} {od an : Option Addr} {osl : Array (Option Value)} {kV doc pm cdv ct : Value} (l : K.lookup f = some ⟨oc, od, .func (PySem.W.fnOf x qual (defArgs st) (defBody st) (defScope st) .none kV doc pm an cdv ct), osl⟩)
    (c : PySem.W.codeIn K cdv qual = true) (k : PySem.W.keepIn K (.ref f) = true) : Fun K x qual st f (PySem.W.fnOf x qual (defArgs st) (defBody st) (defScope st) .none kV doc pm an cdv ct) := ⟨⟨oc, od, kV, doc, pm, an, cdv, ct, osl, rfl, l, c⟩, k⟩
end
theorem hu_of {A : Around} {k : Nat} (hr : Room k A) : A.units + 1 < cLine := Nat.lt_of_le_of_lt (Nat.add_le_add_left (by decide : 1 ≤ 64) _) hr.units
theorem small1000 {n : Nat} (h : n ≤ 1000) : n < sizeLine := Nat.lt_of_le_of_lt h (by decide)

section
variable {X : Cx}
theorem pv (i : Nat) {x : Str} {pos : Pos} (hN : X.N[i]? = some x := by rfl) (hv : Vis X.env.scope x := by first | exact Or.inl rfl | exact Or.inr (Or.inl rfl) | exact Or.inr (Or.inr rfl)) (hd : (x == ("__debug__" : Str)) = false := by decide)
    (hcd : (x == ("__classdict__" : Str)) = false := by decide) : PE X (.Name x pos) (tVar i) := pe_var hN hv hd hcd
end

theorem iteF {A B : Prop} (h : B) : if false = true then A else B := by
  rw [if_neg Bool.false_ne_true]
  exact h
theorem iteT {A B : Prop} (h : A) : if true = true then A else B := by
  rw [if_pos rfl]
  exact h
theorem iteNS {c A B : Prop} [Decidable c] (hc : c) (h : B) : if (!decide c) = true then A else B := by
  rw [decide_eq_true hc]
  exact iteF h

/-- all that was tracked is as it was -/
def Same (H H' : Hp) : Prop := ∀ b o, H b = some o → H' b = some o
theorem Same.refl (H : Hp) : Same H H := fun _ _ h => h
theorem Same.trans {H H1 H2 : Hp} (a : Same H H1) (b : Same H1 H2) : Same H H2 := fun c o h => b c o (a c o h)
theorem Same.free {H H' : Hp} (e : Same H H') {l : Addr} (h : H' l = Option.none) : H l = Option.none := by
  cases q : H l with
  | none => rfl
  | some o =>
    rw [e l o q] at h
    cases h
theorem Same.seq {K : PySem.W.Frag} {H H' : Hp} {a : Addr} {xs : List V} (e : Same H H') (h : SqL K H a xs) : SqL K H' a xs := by
  rcases h with (h | ⟨o, h⟩) | h
  · exact .inl (.inl (e _ _ h))
  · exact .inl (.inr ⟨o, e _ _ h⟩)
  · exact .inr h

end L2

namespace L2
open PySem PySem.Spec PyProof.Rows
section
variable {X : Cx}
end
end L2
namespace L2
open PySem PySem.Spec PyProof.Rows
section
variable {κ : Type} [DecidableEq κ]
theorem valV_not {kvs : List (κ × V)} {k : κ} (h : valV kvs k = none) : ¬ k ∈ kvs.map (·.1) := by
  intro m
  obtain ⟨p, hp, e⟩ := List.mem_map.mp m
  have q : (kvs.any fun kv => decide (kv.1 = k)) = true := List.any_eq_true.mpr ⟨p, hp, decide_eq_true e⟩
  rw [valV_any, h] at q
  exact absurd q (by simp)
theorem nd_snoc : ∀ {l : List κ} {k : κ}, l.Nodup → ¬ k ∈ l → (l ++ [k]).Nodup
  | [], k, _, _ => by simp
  | a :: r, k, h, hk => by
    obtain ⟨h1, h2⟩ := List.nodup_cons.mp h
    show (a :: (r ++ [k])).Nodup
    refine List.nodup_cons.mpr ⟨fun m => ?_, nd_snoc h2 fun m => hk (List.mem_cons.mpr (Or.inr m))⟩
    rcases List.mem_append.mp m with q | q
    · exact h1 q
    · exact hk (List.mem_cons.mpr (Or.inl (List.mem_singleton.mp q).symm))
theorem nd_putK {kvs : List (κ × V)} {k : κ} (v : V) (hn : (kvs.map (·.1)).Nodup) (h : valV kvs k = none) : ((putK kvs k v).map (·.1)).Nodup := by
  rw [putK_new v h, List.map_append]
  exact nd_snoc hn (valV_not h)
end
end L2

namespace Mth
theorem gstep {g l : Int} (hg : 0 ≤ g) (hl : 0 < l) : Int.gcd l (g % l) = Int.gcd g l := by
  obtain ⟨a, rfl⟩ := Int.eq_ofNat_of_zero_le hg
  obtain ⟨b, rfl⟩ := Int.eq_ofNat_of_zero_le (Int.le_of_lt hl)
  show Nat.gcd b (((a : Int) % (b : Int))).natAbs = Nat.gcd a b
  have : (((a : Int) % (b : Int))).natAbs = a % b := by rw [← Int.natCast_emod]; rfl
  rw [this, Nat.gcd_comm a b, Nat.gcd_comm b, ← Nat.gcd_rec]
theorem gend {g : Int} (hg : 0 ≤ g) : ((Int.gcd g 0 : Nat) : Int) = g := by
  rw [Int.gcd_zero_right]; omega
theorem pos_right {a b : Int} (ha : 0 < a) (h : 0 < a * b) : 0 < b := by
  rcases (by omega : 0 < b ∨ b ≤ 0) with q | q
  · exact q
  · have := Int.mul_nonneg (Int.le_of_lt ha) (by omega : 0 ≤ -b)
    rw [Int.mul_neg] at this
    omega
/-- what a fraction made of t and b (not 0) is -/
structure Fr (t b q r : Int) : Prop where
  pos : 0 < r
  cross : q * b = t * r
  cop : Int.gcd q r = 1
  topLe : q.natAbs ≤ t.natAbs
  botLe : r.natAbs ≤ b.natAbs
theorem abs_le_mul {c q : Int} (hc : 0 < c) : q.natAbs ≤ (c * q).natAbs := by
  rw [Int.natAbs_mul]
  exact Nat.le_mul_of_pos_left _ (by omega)
theorem fr_of {t b c : Int} (hb : b ≠ 0) (hc : c = ((Int.gcd t b : Nat) : Int)) : 0 < c ∧ c ≤ b.natAbs ∧ (0 < b → Fr t b (t.fdiv c) (b.fdiv c)) ∧ (b < 0 → Fr t b (t.fdiv (-c)) (b.fdiv (-c))) := by
  have hp : 0 < Int.gcd t b := Int.gcd_pos_iff.mpr (.inr hb)
  have c0 : 0 < c := by omega
  have d1 : c ∣ t := hc ▸ Int.gcd_dvd_left t b
  have d2 : c ∣ b := hc ▸ Int.gcd_dvd_right t b
  obtain ⟨q, hq⟩ := d1
  obtain ⟨r, hr⟩ := d2
  have hr0 : r ≠ 0 := by rintro rfl; rw [Int.mul_zero] at hr; exact hb hr
  have hle : c ≤ b.natAbs := by
    rw [hr, Int.natAbs_mul]
    have : c.natAbs * 1 ≤ c.natAbs * r.natAbs := Nat.mul_le_mul_left _ (by omega)
    omega
  have e1 : t.fdiv c = q := by rw [hq, Int.mul_fdiv_cancel_left _ (by omega)]
  have e2 : b.fdiv c = r := by rw [hr, Int.mul_fdiv_cancel_left _ (by omega)]
  have e3 : t.fdiv (-c) = -q := by rw [show t = -c * -q by rw [hq, Int.neg_mul_neg], Int.mul_fdiv_cancel_left _ (by omega)]
  have e4 : b.fdiv (-c) = -r := by rw [show b = -c * -r by rw [hr, Int.neg_mul_neg], Int.mul_fdiv_cancel_left _ (by omega)]
  have hg : Int.gcd q r = 1 := by
    have h1 : Int.gcd (c * q) (c * r) = c.natAbs * Int.gcd q r := Int.gcd_mul_left c q r
    rw [← hq, ← hr] at h1
    have h3 : c.natAbs = Int.gcd t b := by omega
    rw [h3] at h1
    have h2 : Int.gcd t b * Int.gcd q r = Int.gcd t b * 1 := by rw [← h1, Nat.mul_one]
    exact Nat.eq_of_mul_eq_mul_left hp h2
  have l1 : q.natAbs ≤ t.natAbs := hq ▸ abs_le_mul c0
  have l2 : r.natAbs ≤ b.natAbs := hr ▸ abs_le_mul c0
  refine ⟨c0, hle, fun b0 => ?_, fun b0 => ?_⟩
  · rw [e1, e2]
    exact ⟨pos_right c0 (hr ▸ b0), by rw [hq, hr, Int.mul_assoc, Int.mul_left_comm], hg, l1, l2⟩
  · rw [e3, e4]
    refine ⟨pos_right c0 (by rw [Int.mul_neg, ← hr]; omega), ?_, by rw [Int.gcd_neg, Int.neg_gcd]; exact hg, by omega, by omega⟩
    rw [hq, hr, Int.neg_mul, Int.mul_neg, Int.mul_assoc, Int.mul_left_comm]
/-- below 2 ^ n -/
def Bd (n : Nat) (x : Int) : Prop := x.natAbs < 2 ^ n
theorem Bd.mono {m n : Nat} {x : Int} (h : Bd m x) (l : m ≤ n) : Bd n x := Nat.lt_of_lt_of_le h (Nat.pow_le_pow_right (by decide) l)
theorem Bd.mul {m n : Nat} {x y : Int} (h : Bd m x) (k : Bd n y) : Bd (m + n) (x * y) := by
  unfold Bd at *
  rw [Int.natAbs_mul, Nat.pow_add]
  exact Nat.mul_lt_mul'' h k
theorem Bd.add {m : Nat} {x y : Int} (h : Bd m x) (k : Bd m y) : Bd (m + 1) (x + y) := by
  unfold Bd at *
  rw [Nat.pow_succ]
  have := Int.natAbs_add_le x y
  omega
theorem Bd.neg {m : Nat} {x : Int} (h : Bd m x) : Bd m (-x) := by unfold Bd at *; rw [Int.natAbs_neg]; exact h
theorem Bd.sub {m : Nat} {x y : Int} (h : Bd m x) (k : Bd m y) : Bd (m + 1) (x - y) := by rw [Int.sub_eq_add_neg]; exact h.add k.neg
theorem Bd.le {m : Nat} {x y : Int} (h : Bd m y) (k : x.natAbs ≤ y.natAbs) : Bd m x := Nat.lt_of_le_of_lt k h
theorem Bd.abs {m : Nat} {x : Int} (h : Bd m x) : Bd m (x.natAbs : Int) := by unfold Bd at *; simpa using h
theorem Bd.log {n : Nat} {x : Int} (h : Bd n x) (hn : 0 < n) : x.natAbs.log2 < n := by
  by_cases h0 : x.natAbs = 0
  · rw [h0]; simpa using hn
  · exact (Nat.log2_lt h0).mpr h
theorem Fr.bdq {t b q r : Int} {n : Nat} (h : Fr t b q r) (k : Bd n t) : Bd n q := k.le h.topLe
theorem Fr.bdr {t b q r : Int} {n : Nat} (h : Fr t b q r) (k : Bd n b) : Bd n r := k.le h.botLe
end Mth
namespace Bit
/-- the rooms of bits, rising -/
def rooms (n : Nat) : List Nat := (List.range 61).filter n.testBit
/-- bits of a list of rooms -/
def sumOf (l : List Nat) : Nat := l.foldl (fun n r => n ||| 2 ^ r) 0
/-- the parts, as the program makes them -/
def parts (l : List Nat) : List Nat := l.foldl (fun ps r => ps ++ ps.map (· ||| 2 ^ r)) [0]
structure Ok (ps l : List Nat) : Prop where
  len : ps.length = 2 ^ l.length
  first : ps[0]? = some 0
  last : ps[ps.length - 1]? = some (sumOf l)
  rise : ps.Pairwise (· < ·)
  sub : ∀ p ∈ ps, ∀ k, p.testBit k = true → k ∈ l
end Bit
namespace L2
open PySem PySem.Spec PyProof.Rows Mth

theorem bt_abs : bootBuiltins "abs" = some (.builtin "abs") := by decide +kernel
theorem bt_len : bootBuiltins "len" = some (.builtin "len") := by decide +kernel
theorem bt_isinstance : bootBuiltins "isinstance" = some (.builtin "isinstance") := by decide +kernel
theorem bt_all : bootBuiltins "all" = some (.builtin "all") := by decide +kernel
theorem bt_tuple : bootBuiltins "tuple" = some (.type "tuple") := by decide +kernel
theorem bt_list : bootBuiltins "list" = some (.type "list") := by decide +kernel
theorem bt_int : bootBuiltins "int" = some (.type "int") := by decide +kernel
theorem bt_bool : bootBuiltins "bool" = some (.type "bool") := by decide +kernel

theorem bd_bits {n : Nat} {x : Int} (h : Bd n x) : Builtin.Int.intBits x ≤ n := PySem.intBits_le_iff.mpr h
theorem bits_bd {n : Nat} {x : Int} (h : Builtin.Int.intBits x ≤ n) : Bd n x := PySem.intBits_le_iff.mp h

section
variable {X : Cx}
def CMulB (i j : Int) : Prop := ∃ m n, Bd m i ∧ Bd n j ∧ m + n ≤ 100000000
def CDivB (_ j : Int) : Prop := j ≠ 0 ∧ Bd 8999 j
theorem op_mulB : OpR X (binaryOp .Mult) (rI CMulB fun i j => .int (i * j)) := opI fun _ _ _ _ _ _ _ hc q => by
  obtain ⟨m, n, h1, h2, h3⟩ := hc
  exact mul_int q (IntMulOk.of_le (bd_bits h1) (bd_bits h2) (by omega))
theorem op_fdivB : OpR X (binaryOp .FloorDiv) (rI CDivB fun i j => .int (i.fdiv j)) := opI fun _ _ _ _ _ _ _ hc q => by
  have h2 : Bd 8999 _ := hc.2
  exact floordiv_int hc.1 q (.inl (PyProof.noPylong_of_log2 (Nat.lt_of_lt_of_le (h2.log (by decide)) (by decide))))
/-- xs[i] of a list or a tuple -/
def rIxA (K : PySem.W.Frag) : R2 := fun x y H Q => ∃ p xs i v, x = .ref p ∧ y = .int i ∧ (SqL K H p xs ∨ SqT K H p xs) ∧ atI xs i = some v ∧ Q v H
theorem ix_any : IxR X (rIxA X.K) := by
  intro value slice pins s σ H x y v u Q I rx ry h hs
  obtain ⟨p, xs, i, w, e1, e2, hq, e3, q⟩ := h
  rcases hq with hq | hq
  · exact ix_list value slice pins s σ H x y v u Q I rx ry ⟨p, xs, i, w, e1, e2, hq, e3, q⟩ hs
  · exact ix_tup value slice pins s σ H x y v u Q I rx ry ⟨p, xs, i, w, e1, e2, hq, e3, q⟩ hs
/-- isinstance(x, c), c one class -/
theorem call_isinst : CallR X (.builtin "isinstance") (fun xs H Q => ∃ x c t cv b, xs = [x, c] ∧ TyOf X.K H x t ∧ RelV c cv ∧ PySem.W.kitOne X.K t cv = some b ∧ Q (.bl b) H) := by
  intro pins s σ H xs us Q I r h
  obtain ⟨x, c, t, cv, b, rfl, ty, rc, e, q⟩ := h
  obtain ⟨u, w', rfl, r1, r2⟩ := vals2 r
  have : w' = cv := by
    cases c with
    | non => cases r2; cases rc; rfl
    | bl b => cases r2; cases rc; rfl
    | ref a => cases r2; cases rc; rfl
    | ty n => cases r2; cases rc; rfl
    | int i => exact absurd e (by obtain ⟨k, rfl⟩ := rc; intro z; unfold PySem.W.kitOne PySem.W.kitCls at z; cases ty <;> simp at z)
    | str i => exact absurd e (by obtain ⟨k, rfl⟩ := rc; intro z; unfold PySem.W.kitOne PySem.W.kitCls at z; cases ty <;> simp at z)
    | byt i => exact absurd e (by obtain ⟨k, rfl⟩ := rc; intro z; unfold PySem.W.kitOne PySem.W.kitCls at z; cases ty <;> simp at z)
    | flt i => exact absurd e (by obtain ⟨k, rfl⟩ := rc; intro z; unfold PySem.W.kitOne PySem.W.kitCls at z; cases ty <;> simp at z)
  subst this
  exact isinst_ok I r1 ty e fun tk => ⟨.bl b, H, I.tok _, rfl, q⟩
end

def Has (K : PySem.W.Frag) (mg : Str → Option Value) (x : Str) (st : Stmt) : Prop := ∃ f fd, mg x = some (.ref f) ∧ Fun K x x st f fd
def Def (P : Program) (w : World) (K : PySem.W.Frag) (mg : Str → Option Value) (base : Heap) (x : Str) (k : Nat) (ps : List Str) (sp : Sp) : Prop :=
  ∃ f fd, mg x = some (.ref f) ∧ PySem.W.keepIn K (.ref f) = true ∧ Binds K fd ps [] ∧ FnOk P w K mg base CX0 k f fd ps sp
section
variable {P : Program} {w : World} {K : PySem.W.Frag} {mg : Str → Option Value} {base : Heap}
theorem Has.def {x : Str} {st : Stmt} {N ps : List Str} {k : Nat} {sp : Sp} (h : Has K mg x st) (S : FnScope N ps (defScope st)) (len : ∀ vs H Q E, sp vs H Q E → vs.length = ps.length)
    (hb : ∀ (kV doc pm : Value) (an : Option Addr) (cdv ct : Value) (us : List Value), us.length = ps.length → bindArgs (PySem.W.fnOf x x (defArgs st) (defBody st) (defScope st) .none kV doc pm an cdv ct) ⟨us, []⟩ = pure (ps.zip us))
    (hbody : ∀ (f : Addr) (cdv : Value) (A : Around) (outer : List Env) (s : Shared) (H : Hp) (vs : List V) (Q : VK) (E : XK), Room k (A.deeper (envOfC x (defScope st) s.heap.objs.size f cdv)) → sp vs H Q E →
      ∃ t, PSs (cxOf CX0 P w K mg base N x (defScope st) f cdv A outer s H E).nox (defBody st) t ∧ t { nx := fun _ H' => Q .non H', rt := Q } (start N vs) H) : Def P w K mg base x (k + 1) ps sp := by
  obtain ⟨f, fd, hm, F⟩ := h
  exact ⟨f, fd, hm, F.kp, F.binds hb, F.ok S len fun cdv A outer s H vs Q E hr hs => hbody f cdv A outer s H vs Q E hr hs⟩
theorem Def.mono {x : Str} {j k : Nat} {ps : List Str} {sp : Sp} (D : Def P w K mg base x j ps sp) (h : j ≤ k) : Def P w K mg base x k ps sp :=
  let ⟨f, fd, a, b, c, d⟩ := D; ⟨f, fd, a, b, c, d.mono h⟩
theorem Fun.binds1 {x qual : Str} {st : Stmt} {f : Addr} {fd : FuncData} {p : Str} (F : Fun K x qual st f fd)
    (h : ∀ (kV doc pm : Value) (an : Option Addr) (cdv ct : Value) (u : Value), bindArgs (PySem.W.fnOf x qual (defArgs st) (defBody st) (defScope st) .none kV doc pm an cdv ct) ⟨[u], []⟩ = pure [(p, u)]) (s : Shared) (u : Value) : BindsTo s fd ⟨[u], []⟩ [(p, u)] := by
  obtain ⟨oc, od, kV, doc, pm, an, cdv, ct, osl, rfl, lk, hcd⟩ := F.ex
  exact .of_eq (h kV doc pm an cdv ct u)
end
section
variable {X : Cx} {x : Str} {p pos : Pos} {e : Expr} {es : List Expr} {t : TA} {k : Nat} {ps : List Str} {sp : Sp}
theorem pe_callD (D : Def X.prog X.w X.K X.mg X.base x k ps sp) (hr : Room k X.A) (ha : PA X (e :: es) t) (hg : Gl X x := by rfl) (hdb : (x == ("__debug__" : Str)) = false := by decide)
    (he : starEach (e :: es) X.env = (false, eval e X.env) :: starEach es X.env := by rfl) (hpl : (backTo pos (starEach es X.env)).any (·.1) = false := by rfl) : PE X (.Call (.Name x p) (e :: es) [] pos) (tCall sp [] E0 t) := by
  obtain ⟨f, fd, hm, hk, hb, F⟩ := D
  exact pe_call F hr hg hm hk hb .nil pass0 ha hdb he hpl
end

theorem weight_int {n : Int} {m : Nat} (h : (PySem.W.WData.int n).weight ≤ m) : Bd m n := by
  refine bits_bd ?_
  simpa only [PySem.W.WData.weight, Builtin.Int.intBits] using h
end L2
namespace Att
open PySem PySem.W PySem.Calls PyProof.Rows Mth
theorem attach_callB {l : OpenLaw} {n : Nat} {q : Program} {loose : List Str} {XP : (Str → Option Value) → Heap → Prop} {YP : World → Heap → Prop} {d : DefRec}
    (hn : l.most = some n) (hdf : d.params.defaults = [])
    (call : ∀ (w : World) (s₀ s₁ : Shared) (mg mb : Str → Option Value) (fa : Addr) (o : Obj) (pm cd doc : Value) (a : Addr) (vs : List Value) (ns : List Int),
      Ground q loose [] XP w s₀ mg mb s₁.heap → YP w s₁.heap →
      s₁.heap.get? fa = some o → o.data = .func (docDef d.name d.params d.body d.scope pm cd doc) → s₁.heap.CodeRec cd d.name → mg d.name = some (.ref fa) →
      s₁.heap.get? a = some { cls := .type "list", data := .seq vs.toArray } → IntsAre vs ns → ns.length ≤ n → (∀ z ∈ ns, Bd 1048576 z) → s₁.gens = #[] →
      codeAny (model l.prog w) callerA (.call (.ref fa) ⟨[.ref a], []⟩) (fun r s' => r = .ok (.ret (.bool true)) ∧ OldK s₁.heap s'.heap ∧ s'.os = s₁.os ∧ AllBare s'.gens) s₁) :
    WalkO q loose XP YP l.row.toRowW d [] (fun f vs => PySem.call f vs) := by
  intro w s₀ s₁ mg mb G Y fa o pm cd doc dV kV ho hd hcd hD hmg hg args vals as hpre hlay hrd hwl hlo
  obtain rfl : dV = .none := Dflts.none hD hdf
  obtain rfl : kV = .none := Dflts.noKw hD
  obtain ⟨a, vs, ns, rfl, rfl, hobj, hints, hlen⟩ := script_of hn hpre hwl
  have hbits : ∀ z ∈ ns, Bd 1048576 z := fun z hz => by
    have h1 := layableW_arg hlay _ (List.mem_singleton.mpr rfl)
    have h2 := layableW_item h1 (.int z) (List.mem_map.mpr ⟨z, hz, rfl⟩)
    exact L2.weight_int (Nat.le_trans (layableW_iff.mp h2).2.2 (by decide))
  refine enter_call (codeAny_mono (call w s₀ s₁ mg mb fa o pm cd doc a vs ns G Y ho (fd_plain hd) hcd hmg hobj hints hlen hbits hg) fun r s' hq => ?_)
  obtain ⟨rfl, h2, h3, h4⟩ := hq
  exact ⟨.inl ⟨.bool true, .bool true, [], rfl, fun _ => rfl, .bool true, post_true l _, fun _ => ⟨List.Pairwise.nil, fun _ hm => (nomatch hm)⟩⟩, h2, h3, h4⟩
end Att
namespace L2
open PySem PySem.Spec PyProof.Rows Mth
/-- law's promise: a list of at most 63 ints (each below 2 ^ 2 ^ 20) is handed in, True comes out -/
def sp_law (K : PySem.W.Frag) : Sp := fun vs H Q _ => ∃ (a : Addr) (ns : List Int), vs = [.ref a] ∧ SqL K H a (ns.map V.int) ∧ ns.length ≤ 63 ∧ (∀ z ∈ ns, Bd 1048576 z) ∧ ∀ H', Q (.bl true) H'
theorem walk_ofB {l : PySem.W.OpenLaw} {k : Nat} {q : Program} {loose : List Str} {XP : (Str → Option Value) → Heap → Prop} {YP : World → Heap → Prop} {d : DefRec} {K : Params → PySem.W.Frag} {x : Str}
    (hn : l.most = some 63) (hdf : d.params.defaults = []) (hr : Room k callerA)
    (hY : ∀ (w : World) (h : Heap), YP w h → (K w.params).In h)
    (F : ∀ (w : World) (mg : Str → Option Value) (fa : Addr) (h : Heap), (K w.params).In h → h.Ns mainGlobals mg → mg d.name = some (.ref fa) →
      ∃ fd : FuncData, (∀ (s : Shared) (u : Value), BindsTo s fd ⟨[u], []⟩ [(x, u)]) ∧
        ∀ base : Heap, (K w.params).In base → base.Ns mainGlobals mg → FnOk l.prog w (K w.params) mg base CX0 k fa fd [x] (sp_law (K w.params))) :
    PySem.W.WalkO q loose XP YP l.row.toRowW d [] (fun f vs => PySem.call f vs) := by
  refine Att.attach_callB hn hdf fun w s₀ s₁ mg mb fa o pm cd doc a vs ns G Y ho hd hcd hmg hobj hints hlen hbits hg => ?_
  have KX := hY w _ Y
  obtain ⟨fd, hb, hF⟩ := F w mg fa _ KX G.T.g hmg
  exact law_call KX G.T.g G.T.b G.T.builtins G.T.nolimit hg hobj hints (Nat.le_trans hlen (by decide)) hr hF hb (fun H hO hS => ⟨a, ns, rfl, hS, hlen, hbits, fun _ => rfl⟩) fun H e s' z => z
section
variable {X : Cx}
def rAddL : R2 := fun x y H Q => ∃ i j, x = .int i ∧ y = .int j ∧ ∀ r : Int, r = i + j → Q (.int r) H
def rSubL : R2 := fun x y H Q => ∃ i j, x = .int i ∧ y = .int j ∧ ∀ r : Int, r = i - j → Q (.int r) H
def rMulL : R2 := fun x y H Q => ∃ i j, x = .int i ∧ y = .int j ∧ CMulB i j ∧ ∀ r : Int, r = i * j → Q (.int r) H
def rDivL : R2 := fun x y H Q => ∃ i j, x = .int i ∧ y = .int j ∧ CDivB i j ∧ ∀ r : Int, r = i.fdiv j → Q (.int r) H
def rPowL : R2 := fun x y H Q => ∃ i j, x = .int i ∧ y = .int j ∧ CPow i j ∧ ∀ r : Int, r = i ^ j.toNat → Q (.int r) H
def rShlL : R2 := fun x y H Q => ∃ i j, x = .int i ∧ y = .int j ∧ CPow i j ∧ ∀ r : Int, r = i * 2 ^ j.toNat → Q (.int r) H
def rShrL : R2 := fun x y H Q => ∃ i j, x = .int i ∧ y = .int j ∧ 0 ≤ j ∧ ∀ r : Int, r = i / 2 ^ j.toNat → Q (.int r) H
def rOrL : R2 := fun x y H Q => ∃ i j, x = .int i ∧ y = .int j ∧ ∀ r : Int, r = Builtin.bitOr i j → Q (.int r) H
def rAndL : R2 := fun x y H Q => ∃ i j, x = .int i ∧ y = .int j ∧ ∀ r : Int, r = Builtin.bitAnd i j → Q (.int r) H
def rLM : R2 := fun x y H Q => ∃ i j, x = .int i ∧ y = .int j ∧ 0 < j ∧ ∀ r : Int, 0 ≤ r → r < j → r = i % j → Q (.int r) H
theorem op_addL : OpR X (binaryOp .Add) rAddL := fun pins s σ H x y v u Q I rx ry ⟨i, j, e1, e2, q⟩ => op_add pins s σ H x y v u Q I rx ry ⟨i, j, e1, e2, q _ rfl⟩
theorem op_subL : OpR X (binaryOp .Sub) rSubL := fun pins s σ H x y v u Q I rx ry ⟨i, j, e1, e2, q⟩ => op_sub pins s σ H x y v u Q I rx ry ⟨i, j, e1, e2, q _ rfl⟩
theorem op_mulL : OpR X (binaryOp .Mult) rMulL := fun pins s σ H x y v u Q I rx ry ⟨i, j, e1, e2, c, q⟩ => op_mulB pins s σ H x y v u Q I rx ry ⟨i, j, e1, e2, c, q _ rfl⟩
theorem op_fdivL : OpR X (binaryOp .FloorDiv) rDivL := fun pins s σ H x y v u Q I rx ry ⟨i, j, e1, e2, c, q⟩ => op_fdivB pins s σ H x y v u Q I rx ry ⟨i, j, e1, e2, c, q _ rfl⟩
theorem op_powL : OpR X (binaryOp .Pow) rPowL := fun pins s σ H x y v u Q I rx ry ⟨i, j, e1, e2, c, q⟩ => op_pow pins s σ H x y v u Q I rx ry ⟨i, j, e1, e2, c, q _ rfl⟩
theorem op_modL : OpR X (binaryOp .Mod) rLM := fun pins s σ H x y v u Q I rx ry ⟨i, j, e1, e2, c, q⟩ =>
  op_mod pins s σ H x y v u Q I rx ry ⟨i, j, e1, e2, c, q _ (Int.emod_nonneg _ (by omega)) (Int.emod_lt_of_pos _ c) rfl⟩
theorem call_absL : CallR X (.builtin "abs") (fun xs H Q => ∃ i, xs = [.int i] ∧ ∀ r : Int, r = i.natAbs → Q (.int r) H) :=
  fun pins s σ H xs us Q I r ⟨i, e, q⟩ => call_abs pins s σ H xs us Q I r ⟨i, e, q _ (by split <;> omega)⟩
theorem call_lenL : CallR X (.builtin "len") (fun xs H Q => ∃ p ys, xs = [.ref p] ∧ (SqL X.K H p ys ∨ SqT X.K H p ys) ∧ ∀ r : Int, r = ys.length → Q (.int r) H) :=
  fun pins s σ H xs us Q I r ⟨p, ys, e, hq, q⟩ => call_len_seq pins s σ H xs us Q I r ⟨p, ys, e, hq, q _ rfl⟩
def tCut (t : TS) : TS := fun D σ H => ∃ P : St → Hp → Prop, t { D with nx := P } σ H ∧ ∀ σ' H', P σ' H' → D.nx σ' H'
theorem ps_cut {st : Stmt} {t : TS} (h : PS X st t) : PS X st (tCut t) := by
  intro pins s σ H D I hw
  obtain ⟨P, h1, h2⟩ := hw
  refine thn (h pins s σ H { D with nx := P } I h1) fun f s1 q => ?_
  cases f with
  | next =>
    obtain ⟨σ', H', I', q⟩ := q
    exact ⟨σ', H', I', h2 σ' H' q⟩
  | ret v => exact q
  | brk => exact q
  | cont => exact q
end
theorem iteP {c A B : Prop} [Decidable c] (hc : c) (h : A) : if decide c = true then A else B := by
  rw [decide_eq_true hc]; exact iteT h
theorem iteN {c A B : Prop} [Decidable c] (hc : ¬ c) (h : B) : if decide c = true then A else B := by
  rw [decide_eq_false hc]; exact iteF h
theorem ite3 {c A B : Prop} [Decidable c] (h1 : c → A) (h2 : ¬ c → B) : if decide c = true then A else B := by
  by_cases h : c
  · exact iteP h (h1 h)
  · exact iteN h (h2 h)
theorem ite4 {c A B : Prop} [Decidable c] (h1 : ¬ c → A) (h2 : c → B) : if (!decide c) = true then A else B := by
  by_cases h : c
  · exact iteNS h (h2 h)
  · rw [decide_eq_false h]; exact iteT (h1 h)
theorem int_inj {a b : Int} : V.int a = V.int b ↔ a = b := ⟨fun e => by cases e; rfl, fun e => by rw [e]⟩
theorem same_upd {H : Hp} {p : Addr} {o : HO} (h : H p = none) : Same H (upd H p o) := fun b u e => by rw [upd_ne (ne_of_none e h)]; exact e
theorem Same.tup {K : PySem.W.Frag} {H H' : Hp} {a : Addr} {xs : List V} (e : Same H H') (h : SqT K H a xs) : SqT K H' a xs := by
  rcases h with (h | ⟨o, h⟩) | h
  · exact .inl (.inl (e _ _ h))
  · exact .inl (.inr ⟨o, e _ _ h⟩)
  · exact .inr h
theorem bdd {n : Nat} {x : Int} (h : x.natAbs < 2 ^ n := by decide) : Bd n x := h
theorem bdS {x : Int} (n : Nat) (lo : -(2 ^ 100) < x) (hi : x < 2 ^ 100) (h : 100 ≤ n := by decide) : Bd n x := by
  have : Bd 100 x := by unfold Bd; omega
  exact this.mono h
theorem kit_int_bool (K : PySem.W.Frag) : PySem.W.kitOne K (.type "int") (.type "bool") = some false := by
  show (if PySem.W.kitMeta "bool" = true then ((PySem.fastBuiltinMro "int").map (·.contains (Value.type "bool"))) else none) = some false
  decide +kernel
theorem sz2 {x y : V} : [x, y].length ≤ sizeLine := by show 2 ≤ sizeLine; decide
theorem sz3 {x y z : V} : [x, y, z].length ≤ sizeLine := by show 3 ≤ sizeLine; decide
def sp_gcd : Sp := fun vs H Q _ => ∃ a b : Int, vs = [.int a, .int b] ∧ ∀ r : Int, r = ((Int.gcd a b : Nat) : Int) → Q (.int r) H
def sp_fraction : Sp := fun vs H Q _ => ∃ t b : Int, vs = [.int t, .int b] ∧ b ≠ 0 ∧ Bd 4000 b ∧ ∀ q r p H', Fr t b q r → Same H H' → H' p = some (.tup [.int q, .int r]) → Q (.ref p) H'
def sp_arith (f : Int → Int → Int → Int → Int) (K : PySem.W.Frag) : Sp := fun vs H Q _ => ∃ p1 p2 a b c d, vs = [.ref p1, .ref p2] ∧ SqT K H p1 [.int a, .int b] ∧ SqT K H p2 [.int c, .int d] ∧ 0 < b ∧ 0 < d ∧
  Bd 1000 a ∧ Bd 1000 b ∧ Bd 1000 c ∧ Bd 1000 d ∧ ∀ q r p H', Fr (f a b c d) (b * d) q r → Same H H' → H' p = some (.tup [.int q, .int r]) → Q (.ref p) H'
def sp_under (K : PySem.W.Frag) : Sp := fun vs H Q _ => ∃ p1 p2 a b c d, vs = [.ref p1, .ref p2] ∧ SqT K H p1 [.int a, .int b] ∧ SqT K H p2 [.int c, .int d] ∧
  Bd 1000 a ∧ Bd 1000 b ∧ Bd 1000 c ∧ Bd 1000 d ∧ Q (.bl (decide (a * d < c * b))) H
def sp_cell_at (K : PySem.W.Frag) : Sp := fun vs H Q _ => ∃ (a : Addr) (ns : List Int) (k : Int), vs = [.ref a, .int k] ∧ SqL K H a (ns.map V.int) ∧ 0 ≤ k ∧ ∀ z, (z ∈ ns ∨ z = 0) → Q (.int z) H
def sp_number_by : Sp := fun vs H Q _ => ∃ c : Int, vs = [.int c] ∧ ∀ n, Bd 110 n → Q (.int n) H
def sp_ratio : Sp := fun vs H Q _ => ∃ t b : Int, vs = [.int t, .int b] ∧ 0 < b ∧ Bd 4000 b ∧ ∀ q r p H', Fr t b q r → Same H H' → H' p = some (.tup [.int q, .int r]) → Q (.ref p) H'
end L2
namespace L2
open PySem PySem.Spec PyProof.Rows Mth

/-- the comprehension's block: its own frame's names N', the closure cl -/
def cxComp (X : Cx) (N' : List Str) (scope : Scope) (cl : List (Str × Addr)) (C : Addr) (s : Shared) (H : Hp) (ex : List Addr) : Cx :=
  { X with N := N', env := compEnvC scope cl C X.env, s₀ := s, H₀ := H, outer := X.stack, ex := ex, fn := fun _ => false, pn := [], xe := fun _ _ => False }

theorem Un.same_but {fs ex : List Addr} {H H' : Hp} {h h' h'' : Heap} {C : Addr} (u : Un fs ex H H' h h') (sb : Heap.SameBut C h' h'') (hC : h.get? C = none) : Un fs ex H H' h h'' := by
  have ne : ∀ b o, h.get? b = some o → b ≠ C := fun b o e z => by rw [z, hC] at e; cases e
  exact ⟨fun b o e n hb hx => sb.extBut b o (ne b o e) (u.keep b o e n hb hx), fun b o e n hb hx => by
      obtain ⟨sl, q⟩ := u.slot b o e n hb hx
      exact ⟨sl, sb.extBut b _ (ne b o e) q⟩, u.free, fun b o e hx => by
      obtain ⟨o', q⟩ := u.there b o e hx
      exact ⟨o', sb.extBut b o' (ne b o e) q⟩, u.tups, u.frzs, u.tbls⟩
theorem HOk.same_but {P : Program} {w : World} {H : Hp} {h h' : Heap} {C : Addr} (x : HOk P w H h) (sb : Heap.SameBut C h h') (hn : H C = none) : HOk P w H h' := fun a o e =>
  (x a o e).stay (fun b u hb q => sb.extBut b u (fun z => by
    subst z
    rcases hb with z | z
    · rw [z, e] at hn; cases hn
    · rw [z] at hn; cases hn) q) (fun _ q => q) fun _ _ q => q

/-- the tests of a comprehension -/
def PIf (X : Cx) (ifs : List Expr) (tt : TT) : Prop :=
  ∀ (pins : List (Addr × Obj)) (s : Shared) (σ : St) (H : Hp) (Q : Bool → Hp → Prop), Inv X pins σ H s → tt σ H Q →
    wpAny (model X.prog X.w) X.A (forIn ifs true fun c r => if r = true then do let ok ← isTrue c X.env (eval c X.env); pure (ForInStep.yield ok) else pure (ForInStep.yield r)) (TP X pins σ Q) X.xe s
def tYes : TT := fun _ H Q => Q true H
theorem pif_nil {X : Cx} : PIf X [] tYes := fun _ _ _ H _ I h => wpAny_tests_nil ⟨H, I, h⟩
theorem pif_one {X : Cx} {c : Expr} {tt : TT} (hc : PT X c tt) : PIf X [c] tt := fun pins s σ H Q I h => wpAny_tests_one (hc pins s σ H Q I h)

def closL (env : Env) : List (Str × NameKind) → List (Str × Addr) → List (Str × Addr)
  | [], acc => acc
  | y :: r, acc => closL env r (if (y.2 == NameKind.free) = true then (y.1, (env.cells.lookup y.1).getD 0) :: acc else acc)
theorem clos_go (env : Env) : ∀ (names : List (Str × NameKind)) (acc : List (Str × Addr)), (∀ y ∈ names, y.2 = .free → ∃ c, env.cells.lookup y.1 = some c) →
    (forIn names acc fun x __s => if (x.snd == NameKind.free) = true then do
        let __do_lift ← cellOf env x.fst
        pure (ForInStep.yield ((x.fst, __do_lift) :: __s))
      else pure (ForInStep.yield __s)) = (pure (closL env names acc) : Sem _)
  | [], acc, _ => rfl
  | y :: r, acc, h => by
    rw [List.forIn_cons]
    by_cases hk : (y.2 == NameKind.free) = true
    · obtain ⟨c, e⟩ := h y List.mem_cons_self (beq_iff_eq.mp hk)
      rw [if_pos hk]
      have ec : cellOf env y.1 = pure c := by unfold cellOf; rw [e]
      rw [ec]
      simp only [pure_bind]
      rw [clos_go env r _ fun z hz => h z (List.mem_cons_of_mem _ hz)]
      simp only [closL, hk, if_true, e, Option.getD_some]
    · rw [if_neg hk]
      simp only [pure_bind]
      rw [clos_go env r _ fun z hz => h z (List.mem_cons_of_mem _ hz)]
      simp only [closL, hk, if_false]
      rfl
theorem clos_eq {scope : Scope} {env : Env} (h : ∀ y ∈ scope.names, y.2 = .free → ∃ c, env.cells.lookup y.1 = some c) : closureFor scope env = pure (closL env scope.names []) := by
  simp only [closureFor]
  rw [clos_go env scope.names [] h]
  simp only [pure_bind]
theorem closL_sub {env : Env} : ∀ {names : List (Str × NameKind)} {acc : List (Str × Addr)}, (∀ y ∈ names, y.2 = .free → ∃ c, env.cells.lookup y.1 = some c) → (∀ x c, acc.lookup x = some c → env.cells.lookup x = some c) →
    ∀ x c, (closL env names acc).lookup x = some c → env.cells.lookup x = some c
  | [], _, _, ha, x, c, e => ha x c e
  | y :: r, acc, h, ha, x, c, e => by
    refine closL_sub (names := r) (fun z hz => h z (List.mem_cons_of_mem _ hz)) ?_ x c e
    intro x c e
    by_cases hk : (y.2 == NameKind.free) = true
    · rw [if_pos hk] at e
      obtain ⟨c', e'⟩ := h y List.mem_cons_self (beq_iff_eq.mp hk)
      rw [e', Option.getD_some, List.lookup_cons] at e
      cases q : x == y.1 with
      | true => rw [q] at e; cases e; rw [beq_iff_eq.mp q]; exact e'
      | false => rw [q] at e; exact ha x c e
    · rw [if_neg hk] at e; exact ha x c e
theorem closL_acc {env : Env} : ∀ {names : List (Str × NameKind)} {acc : List (Str × Addr)} {x : Str}, (∃ c, acc.lookup x = some c) → ∃ c, (closL env names acc).lookup x = some c
  | [], _, _, h => h
  | y :: r, acc, x, ⟨c, h⟩ => by
    refine closL_acc (names := r) ?_
    by_cases hk : (y.2 == NameKind.free) = true
    · rw [if_pos hk, List.lookup_cons]
      cases q : x == y.1 with
      | true => exact ⟨_, rfl⟩
      | false => exact ⟨c, h⟩
    · rw [if_neg hk]; exact ⟨c, h⟩
theorem closL_has {env : Env} : ∀ {names : List (Str × NameKind)} {acc : List (Str × Addr)} {y : Str × NameKind}, y ∈ names → y.2 = .free → ∃ c, (closL env names acc).lookup y.1 = some c
  | z :: r, acc, y, hm, hk => by
    rcases List.mem_cons.mp hm with rfl | hm
    · refine closL_acc (names := r) ?_
      rw [if_pos (beq_iff_eq.mpr hk), List.lookup_cons]
      simp
    · exact closL_has (names := r) hm hk
theorem relabel_of {scope : Scope} {env : Env} {x : Str} {k : NameKind} (h : (relabel scope env).names.lookup x = some k) (hk : k = .cell ∨ k = .free) (hcell : ∀ y ∈ scope.names, y.2 ≠ .cell) : (x, NameKind.free) ∈ scope.names := by
  have hm := PySem.mem_of_lookup h
  obtain ⟨⟨n, k0⟩, h1, h2⟩ := List.mem_map.mp hm
  dsimp only at h2
  split at h2
  · rename_i hc
    cases h2
    have : (k0 == NameKind.free) = true := by
      simp only [Bool.and_eq_true] at hc
      exact hc.1.1
    rw [beq_iff_eq.mp this] at h1
    exact h1
  · cases h2
    rcases hk with rfl | rfl
    · exact absurd rfl (hcell _ h1)
    · exact h1
theorem lookup_relabel_free {env : Env} : ∀ {names : List (Str × NameKind)} {x : Str}, names.lookup x = some .free →
    (names.map fun (n, k) => if (k == NameKind.free && env.scope.kind == .function && env.kindOf n == some .cell) then (n, NameKind.cell) else (n, k)).lookup x = some .cell ∨
    (names.map fun (n, k) => if (k == NameKind.free && env.scope.kind == .function && env.kindOf n == some .cell) then (n, NameKind.cell) else (n, k)).lookup x = some .free
  | [], _, h => by simp at h
  | (n, k) :: r, x, h => by
    have ih := @lookup_relabel_free env r x
    show List.lookup x ((if (k == NameKind.free && env.scope.kind == .function && env.kindOf n == some .cell) = true then (n, NameKind.cell) else (n, k)) :: _) = _ ∨ List.lookup x ((if (k == NameKind.free && env.scope.kind == .function && env.kindOf n == some .cell) = true then (n, NameKind.cell) else (n, k)) :: _) = _
    cases hx : x == n with
    | true =>
      simp only [List.lookup_cons, hx] at h
      cases h
      by_cases hc : (NameKind.free == NameKind.free && env.scope.kind == .function && env.kindOf n == some .cell) = true
      · rw [if_pos hc]; simp [List.lookup_cons, hx]
      · rw [if_neg hc]; simp [List.lookup_cons, hx]
    | false =>
      simp only [List.lookup_cons, hx] at h
      by_cases hc : (k == NameKind.free && env.scope.kind == .function && env.kindOf n == some .cell) = true
      · rw [if_pos hc]; simp only [List.lookup_cons, hx]; exact ih h
      · rw [if_neg hc]; simp only [List.lookup_cons, hx]; exact ih h
section
variable {prog : Program} {w : World} {A : Around} {E : Value → Shared → Prop} {R : Result → Shared → Prop} {s : Shared}
theorem compLoop_go {elt target iter : Expr} {ifs : List Expr} {scope : Scope} {pos : Pos} {it acc : Value} {env : Env} (I : Nat → Shared → Prop)
    (turn : ∀ n s, I n s → wpAny (model prog w) A (pyNext it) (fun r s₁ => match r with
      | none => R (.ok .next) s₁
      | some v => wpAny (model prog w) A (letOwnedTupleGo target it v) (fun _ s₁ => wpAny (model prog w) A (assign target env v) (fun _ s₂ =>
          wpAny (model prog w) A (forIn ifs true fun c r => if r = true then do let ok ← isTrue c env (eval c env); pure (ForInStep.yield ok) else pure (ForInStep.yield r)) (fun ok s₃ =>
            if ok = true then wpAny (model prog w) A (eval elt env) (fun x s₄ =>
              wpAny (model prog w) A (call (.builtin "list.append") [acc, x]) (fun _ s₅ => ∃ m, m < n ∧ I m s₅) (notedBy (model prog w) A env fun e s' => R (.error e) s') s₄) (notedBy (model prog w) A env fun e s' => R (.error e) s') s₃
            else ∃ m, m < n ∧ I m s₃) (notedBy (model prog w) A env fun e s' => R (.error e) s') s₂) (notedBy (model prog w) A env fun e s' => R (.error e) s') s₁) (notedBy (model prog w) A env fun e s' => R (.error e) s') s₁) (notedBy (model prog w) A env fun e s' => R (.error e) s') s)
    (n : Nat) (h : I n s) :
    codeAny (model prog w) A (.compLoop (.ListComp elt [⟨target, iter, ifs, 0⟩] scope pos) 0 it acc env) R s := by
  refine codeAny_loop rfl I (fun n s hI => ?_) n h
  show wpAny _ A ((compTurn (.ListComp elt [⟨target, iter, ifs, 0⟩] scope pos) 0 it acc env).onRaise (fun x => do noteFrame x env; theTreesLotGoes x)) _ _ s
  refine wpAny_noted ?_
  rw [compTurn_list]
  refine wpAny_bind (wpAny_standAt (wpAny_bind (wpAny_mono (turn n s hI) (fun r s₁ h₁ => ?_) fun _ _ h' => h')))
  cases r with
  | none => exact wpAny_pure h₁
  | some v =>
    refine wpAny_bind (wpAny_mono h₁ (fun _ s₁' h₁' => ?_) fun _ _ h' => h')
    refine wpAny_bind (wpAny_mono h₁' (fun _ s₂ h₂ => wpAny_bind (wpAny_mono h₂ (fun ok s₃ h₃ => ?_) fun _ _ h' => h')) fun _ _ h' => h')
    cases ok with
    | false => exact wpAny_pure ⟨rfl, h₃⟩
    | true =>
      exact wpAny_bind (wpAny_bind (wpAny_mono h₃ (fun x s₄ h₄ => wpAny_bind (wpAny_mono h₄ (fun _ s₅ h₅ => wpAny_pure (wpAny_pure ⟨rfl, h₅⟩)) fun _ _ h' => h')) fun _ _ h' => h'))
end
section
variable {X : Cx}
/-- readings: the turn's names come first, then the names of the frame that it reads (their slots) -/
def tComp (wi : TI) (g : TG) (tt : TT) (te : TE) (nt : Nat) (sl : List Nat) : TE := fun σ H Q => wi σ H fun J H1 => ∀ D, H1 D = none →
  ∃ W : Nat → Nat → List V → St → Hp → Prop, (∃ m, W 0 m [] (List.replicate nt none ++ sl.map fun j => (σ[j]?).join) (upd H1 D (.lst []))) ∧
    ∀ i m acc σ' H', W i m acc σ' H' →
      (J.stop i H' ∧ Q (.ref D) H') ∨
      (J.go i H' ∧ ∃ N : List V → St → Hp → Prop, (∀ acc' σ2 H4, N acc' σ2 H4 → ∃ m', m' < m ∧ W (i + 1) m' acc' σ2 H4) ∧ ∀ x H2, J.yld i H' x H2 → g x σ' H2 fun σ2 H3 => tt σ2 H3 fun b H4 =>
        if b = true then te σ2 H4 fun y H5 => H5 D = some (.lst acc) ∧ acc.length < sizeLine ∧ N (acc ++ [y]) σ2 (upd H5 D (.lst (acc ++ [y])))
        else N acc σ2 H4)

theorem pe_comp {elt tg iter : Expr} {ifs : List Expr} {scope : Scope} {pos : Pos} {wi : TI} {g : TG} {tt : TT} {te : TE} {N' : List Str} {nt : Nat} {sl : List Nat}
    (hc : X.calm = true) (hi : PI X tg iter wi) (hg : ∀ cl C s H ex, PG (cxComp X N' scope cl C s H ex) tg g) (ht : ∀ cl C s H ex, PIf (cxComp X N' scope cl C s H ex) ifs tt) (he : ∀ cl C s H ex, PE (cxComp X N' scope cl C s H ex) elt te)
    (hN' : N'.length = nt + sl.length) (hsl : ∀ k j : Nat, sl[k]? = some j → ∃ x, N'[nt + k]? = some x ∧ X.N[j]? = some x ∧ scope.names.lookup x = some .free)
    (hk : scope.kind = .function) (hcell : ∀ y ∈ scope.names, y.2 ≠ .cell) (hnames : ∀ y ∈ scope.names, y.2 = .local → scope.names.lookup y.1 = some .local)
    (hfree : ∀ y ∈ scope.names, y.2 = .free → X.env.kindOf y.1 = some .cell ∨ X.env.kindOf y.1 = some .free)
    (hs : ∀ x, foldedSetIterable iter X.env x = pure x := by intro _; rfl) :
    PE X (.ListComp elt [⟨tg, iter, ifs, 0⟩] scope pos) (tComp wi g tt te nt sl) := by
  intro pins s σ H Q I h
  have hcl : ∀ y ∈ scope.names, y.2 = .free → ∃ c, X.env.cells.lookup y.1 = some c := fun y hy hf => I.ok.has y.1 (hfree y hy hf)
  have csub := closL_sub (env := X.env) (names := scope.names) (acc := []) hcl (fun x c e => by simp at e)
  rw [eval_ListComp]
  refine wpAny_comprehension_free (use := none) (cl := closL X.env scope.names []) rfl hs (clos_eq hcl) hk hnames (thn (hi pins s σ H _ I h) fun v s1 h1 => thn h1 fun itv s2 h2 => ?_)
  obtain ⟨it, fp, tn, J, H2, rfl, I2, T, st2, f2, q⟩ := h2
  have nD : H2 s2.heap.objs.size = none := I2.hok.fresh (Nat.le_refl _)
  obtain ⟨W, ⟨m0, w0⟩, turn⟩ := q s2.heap.objs.size nD
  refine wpAny_newObj_type ?_ (by show 0 ≤ sizeLine; exact Nat.zero_le _)
  have I3 : Inv X pins σ (upd H2 s2.heap.objs.size (.lst [])) { s2 with heap := s2.heap.push { cls := .type "list", data := .seq ([] : List Value).toArray } } :=
    I2.laid (t' := s2.toks) (fun b u e => Heap.get?_push_of_some _ e) (Nat.le_refl _) ⟨Nat.zero_le _, [], 0, .nil, Heap.get?_push_size _ rfl⟩
  generalize hs3 : ({ s2 with heap := s2.heap.push { cls := .type "list", data := .seq ([] : List Value).toArray } } : Shared) = s3 at I3 ⊢
  have hle : s2.heap.objs.size ≤ s3.heap.objs.size := by rw [← hs3]; show _ ≤ (Heap.push _ _).objs.size; rw [Heap.size_push]; exact Nat.le_succ _
  have hkeep23 : ∀ b o, s2.heap.get? b = some o → s3.heap.get? b = some o := fun b o e => by rw [← hs3]; exact Heap.get?_push_of_some _ e
  refine wpAny_newFunctionEnv hcell (by intro y hy; simp at hy) (fun h₁ hns hsb => ?_) hk
  have keep1 : ∀ b o, s3.heap.get? b = some o → h₁.get? b = some o := fun b o e => hsb.extBut b o (Nat.ne_of_lt (Heap.lt_size e)) (Heap.get?_push_of_some _ e)
  have nC : (upd H2 s2.heap.objs.size (.lst [])) s3.heap.objs.size = none := I3.hok.fresh (Nat.le_refl _)
  have frC : s3.heap.get? s3.heap.objs.size = none := Heap.get?_none_of_le (Nat.le_refl _)
  -- the iterator's objects
  have fpIn : ∀ b ∈ fp, b < s2.heap.objs.size := fun b hb => by
    obtain ⟨o, e, _⟩ := T.obj _ _ st2 b hb
    exact Heap.lt_size e
  have fpC : ∀ b ∈ fp, b ≠ s3.heap.objs.size := fun b hb => Nat.ne_of_lt (Nat.lt_of_lt_of_le (fpIn b hb) hle)
  have fpD : ∀ b ∈ fp, b ≠ s2.heap.objs.size := fun b hb => Nat.ne_of_lt (fpIn b hb)
  have fpS : ∀ b ∈ fp, b ∉ frs X.stack := fun b hb hm => by
    rcases List.mem_cons.mp (I2.stkSub b hm) with z | z
    · exact (f2 b hb).2.1 z
    · exact (f2 b hb).2.2.1 z
  have csub' : ∀ x c, (closL X.env scope.names []).lookup x = some c → X.env.cells.lookup x = some c := csub
  have hch : ∀ b ∈ fp, (b ∈ X.ex ∨ X.s₀.heap.objs.size ≤ b) ∧ b ≠ X.env.locals ∧ (∀ x c, X.env.cells.lookup x = some c → c ≠ b) ∧ ∀ p ∈ X.pn ++ pins, p.1 ≠ b := fun b hb =>
    ⟨(f2 b hb).2.2.2.1, (f2 b hb).2.1, (f2 b hb).2.2.2.2.1, (f2 b hb).2.2.2.2.2⟩
  -- the block's context
  have ok' : (cxComp X N' scope (closL X.env scope.names []) s3.heap.objs.size s3 (upd H2 s2.heap.objs.size (.lst [])) fp).Ok := by
    refine ⟨I3.ok.mod, hk, I3.ok.glob, I3.ok.blt, Nat.le_refl _, fun x y c h1 h2 => I3.ok.inj x y c (csub x c h1) (csub y c h2), fun x hx => ?_, (fun x c hf => nomatch hf), I3.ok.hd, I3.ok.frames, .inl rfl, fun b hb => ⟨fpC b hb, fun x c e => (hch b hb).2.2.1 x c (csub x c e)⟩,
      I3.bs, Nat.le_trans I3.ok.bsz I3.sz, fun b o e hb => ?_, fpS, I3.stack, I3.stkFree⟩
    · have hm : (x, NameKind.free) ∈ scope.names := by
        rcases hx with hx | hx
        · exact relabel_of hx (.inl rfl) hcell
        · exact relabel_of hx (.inr rfl) hcell
      exact closL_has hm rfl
    · rcases (hch b hb).1 with z | z
      · exact I3.ok.noex b o e z
      · exact absurd (Nat.lt_of_lt_of_le (Heap.lt_size (I3.ok.bs b o e).1) z) (Nat.lt_irrefl _)
  have I4 : Inv (cxComp X N' scope (closL X.env scope.names []) s3.heap.objs.size s3 (upd H2 s2.heap.objs.size (.lst [])) fp) [] (List.replicate nt none ++ sl.map fun j => (σ[j]?).join) (upd H2 s2.heap.objs.size (.lst []))
      { s3 with heap := h₁, toks := s3.toks + ([] : List (Str × Value)).length } := by
    refine ⟨ok', rfl, I3.bare, Un.kept keep1, ⟨_, hns, fun i x v e1 e2 e3 => ?_⟩, fun x c e => ?_, nC, fun x c e => I3.freeC x c (csub x c e), fun p hp => absurd hp (by simp [cxComp]), I3.hok.kept keep1, ?_⟩
    · by_cases hi : i < nt
      · rw [List.getElem?_append_left (by simpa using hi), List.getElem?_replicate] at e2
        split at e2 <;> cases e2
      · rw [List.getElem?_append_right (by simpa using hi), List.length_replicate, List.getElem?_map] at e2
        cases ej : sl[i - nt]? with
        | none => rw [ej] at e2; cases e2
        | some j =>
          rw [ej] at e2
          have e2' : (σ[j]?).join = some v := Option.some.inj e2
          have eσ : σ[j]? = some (some v) := by
            cases q : σ[j]? with
            | none => rw [q] at e2'; cases e2'
            | some o => rw [q] at e2'; cases e2'; rfl
          obtain ⟨y, n1, n2, n3⟩ := hsl _ j ej
          have : nt + (i - nt) = i := by omega
          rw [this] at n1
          have exy : y = x := Option.some.inj (n1.symm.trans e1)
          subst exy
          have hm : (y, NameKind.free) ∈ scope.names := PySem.mem_of_lookup n3
          have hkx := hfree _ hm rfl
          obtain ⟨m, hn, hl⟩ := I3.loc
          have vis : Vis X.env.scope y := by
            rcases hkx with z | z
            · exact .inr (.inl z)
            · exact .inr (.inr z)
          obtain ⟨u, r, l⟩ := hl j y v n2 eσ vis
          refine ⟨u, r, .inr ⟨lookup_relabel_free n3, ?_⟩⟩
          obtain ⟨c, ec⟩ := closL_has (env := X.env) (acc := []) hm rfl
          refine ⟨c, ec, ?_⟩
          rcases l with ⟨k1, _⟩ | ⟨_, c', e', hcell'⟩
          · rcases hkx with z | z
            · rw [show X.env.kindOf y = some .local from k1] at z; cases z
            · rw [show X.env.kindOf y = some .local from k1] at z; cases z
          · have ecc : c = c' := Option.some.inj ((csub y c ec).symm.trans e')
            subst ecc
            obtain ⟨o, ho, hd⟩ := hcell'
            exact ⟨o, keep1 c o ho, hd⟩
    · obtain ⟨v, o, ho, hd⟩ := I3.cell x c (csub x c e)
      exact ⟨v, o, keep1 c o ho, hd⟩
    · show _ = N'.length
      rw [hN', List.length_append, List.length_replicate, List.length_map]
  have st4 : tn 0 h₁ := T.keep _ _ _ st2 fun b hb o e => keep1 b o (hkeep23 b o e)
  have fpok : ∀ {pl : List (Addr × Obj)} {H' : Hp}, pl = [] → (∀ b ∈ fp, H' b = none) → ∀ b ∈ fp, FpOk (cxComp X N' scope (closL X.env scope.names []) s3.heap.objs.size s3 (upd H2 s2.heap.objs.size (.lst [])) fp) pl H' b := fun {pl H'} hpl hn b hb => by
    subst hpl
    exact ⟨hn b hb, fpC b hb, fpS b hb, .inl hb, fun x c e => (hch b hb).2.2.1 x c (csub x c e), fun p hp => absurd hp (by simp [cxComp])⟩
  have fr4 : ∀ b ∈ fp, (upd H2 s2.heap.objs.size (.lst [])) b = none := fun b hb => by rw [upd_ne (fpD b hb)]; exact (f2 b hb).1
  have loop : codeAny (model X.prog X.w) X.A (.compLoop (.ListComp elt [⟨tg, iter, ifs, 0⟩] scope pos) 0 (.ref it) (.ref s2.heap.objs.size) (compEnvC scope (closL X.env scope.names []) s3.heap.objs.size X.env))
      (compPost (model X.prog X.w) X.A X.xe none (EP X pins σ Q) (.ref s2.heap.objs.size) s3.heap.objs.size) { s3 with heap := h₁, toks := s3.toks + ([] : List (Str × Value)).length } := by
    refine compLoop_go (fun n s' => ∃ i acc σ' H', Inv (cxComp X N' scope (closL X.env scope.names []) s3.heap.objs.size s3 (upd H2 s2.heap.objs.size (.lst [])) fp) [] σ' H' s' ∧ tn i s'.heap ∧ (∀ b ∈ fp, H' b = none) ∧ W i n acc σ' H') ?_ m0 ⟨0, [], _, _, I4, st4, fr4, w0⟩
    rintro n s5 ⟨i, acc, σ5, H5, I5, st5, fr5, w5⟩
    rcases turn i n acc σ5 H5 w5 with ⟨stop, qn⟩ | ⟨go, N, hN, step⟩
    · refine thn (T.done (cxComp X N' scope (closL X.env scope.names []) s3.heap.objs.size s3 (upd H2 s2.heap.objs.size (.lst [])) fp) rfl rfl rfl hc i [] s5 σ5 H5 _ I5 (fpok rfl fr5) st5 stop) fun r s6 ⟨hr, I6⟩ => ?_
      subst hr
      obtain ⟨m, hn, _⟩ := id I6.loc
      refine ⟨m, hn, fun h' sb => ⟨.ref s2.heap.objs.size, H5, ?_, rfl, qn⟩⟩
      exact I3.call' (s' := { s6 with heap := h' }) I6.os (I6.base.same_but sb frC) (I6.hok.same_but sb I6.free) I6.bare hch
    · refine thn (T.item (cxComp X N' scope (closL X.env scope.names []) s3.heap.objs.size s3 (upd H2 s2.heap.objs.size (.lst [])) fp) rfl rfl rfl hc i [] s5 σ5 H5 _ I5 (fpok rfl fr5) st5 go) fun r s6 ⟨u, hr, h6⟩ => ?_
      subst hr
      refine thn h6 fun _ s7 ⟨x, H7, I7, r7, y7, st7, fr7⟩ => ?_
      have I7' := I7.pinned (fpok rfl fr7) (T.obj _ _ st7)
      have again : ∀ {s8 : Shared} {σ8 : St} {H8 : Hp} {acc' : List V}, Inv (cxComp X N' scope (closL X.env scope.names []) s3.heap.objs.size s3 (upd H2 s2.heap.objs.size (.lst [])) fp) ([] ++ pinsAt fp s7.heap) σ8 H8 s8 → (∃ m', m' < n ∧ W (i + 1) m' acc' σ8 H8) →
          ∃ m, m < n ∧ ∃ i acc σ' H', Inv (cxComp X N' scope (closL X.env scope.names []) s3.heap.objs.size s3 (upd H2 s2.heap.objs.size (.lst [])) fp) [] σ' H' s8 ∧ tn i s8.heap ∧ (∀ b ∈ fp, H' b = none) ∧ W i m acc σ' H' := fun {s8 σ8 H8 acc'} I8 ⟨m', hm, w8⟩ => by
        refine ⟨m', hm, i + 1, acc', σ8, H8, I8.unpinned, T.keep _ _ _ st7 fun b hb o e => (I8.pin (b, o) (List.mem_append_right _ (List.mem_append_right _ (mem_pinsAt hb e)))).1, fun b hb => ?_, w8⟩
        obtain ⟨o, e, d⟩ := T.obj _ _ st7 b hb
        exact (I8.pin (b, o) (List.mem_append_right _ (List.mem_append_right _ (mem_pinsAt hb e)))).2.1
      refine wpAny_mono (hg _ _ _ _ _ _ s7 σ5 H7 x u _ I7' r7 (step x H7 y7)) (fun _ s8 ⟨σ8, H8, I8, q8⟩ => ?_) fun _ _ z => False.elim z
      refine wpAny_mono (ht _ _ _ _ _ _ s8 σ8 H8 _ I8 q8) (fun ok s9 ⟨H9, I9, q9⟩ => ?_) fun _ _ z => False.elim z
      cases ok with
      | false =>
        rw [if_neg Bool.false_ne_true] at q9 ⊢
        exact again I9 (hN _ _ _ q9)
      | true =>
        rw [if_pos rfl] at q9 ⊢
        refine wpAny_mono (he _ _ _ _ _ _ s9 σ8 H9 _ I9 q9) (fun y s10 ⟨yv, H10, I10, r10, hD, hz, q10⟩ => ?_) fun _ _ z => False.elim z
        refine wpAny_mono (mt_append (X := (cxComp X N' scope (closL X.env scope.names []) s3.heap.objs.size s3 (upd H2 s2.heap.objs.size (.lst [])) fp)) _ s10 σ8 H10 (.ref s2.heap.objs.size) [yv] (.ref s2.heap.objs.size) [y] (fun _ H11 => N (acc ++ [yv]) σ8 H11) I10 rfl (.cons r10 .nil) ⟨_, acc, yv, rfl, rfl, hD, hz, q10⟩) (fun _ s11 ⟨v11, H11, I11, r11, q11⟩ => ?_) fun _ _ z => False.elim z
        exact again I11 (hN _ _ _ q11)
  exact codeAny_compStart_list loop (T.self _ 0 _ _ _ st4 loop)

/-- the same, the names by themselves: tn the turn's, fr the frame's that it reads, at the slots sl -/
theorem pe_lc {elt tg iter : Expr} {ifs : List Expr} {scope : Scope} {pos : Pos} {wi : TI} {g : TG} {tt : TT} {te : TE} (tn fr : List Str) (sl : List Nat)
    (hp : Paired (fun (j : Nat) (x : Str) => X.N[j]? = some x ∧ scope.names.lookup x = some .free ∧ (X.env.kindOf x = some .cell ∨ X.env.kindOf x = some .free)) sl fr)
    (hc : X.calm = true) (hi : PI X tg iter wi) (hg : ∀ cl C s H ex, PG (cxComp X (tn ++ fr) scope cl C s H ex) tg g) (ht : ∀ cl C s H ex, PIf (cxComp X (tn ++ fr) scope cl C s H ex) ifs tt) (he : ∀ cl C s H ex, PE (cxComp X (tn ++ fr) scope cl C s H ex) elt te)
    (hk : scope.kind = .function) (hcell : ∀ y ∈ scope.names, y.2 ≠ .cell) (hnames : ∀ y ∈ scope.names, y.2 = .local → scope.names.lookup y.1 = some .local)
    (hfree : ∀ y ∈ scope.names, y.2 = .free → y.1 ∈ fr)
    (hs : ∀ x, foldedSetIterable iter X.env x = pure x := by intro _; rfl) :
    PE X (.ListComp elt [⟨tg, iter, ifs, 0⟩] scope pos) (tComp wi g tt te tn.length sl) := by
  have key : ∀ {sl : List Nat} {fr : List Str}, Paired (fun (j : Nat) (x : Str) => X.N[j]? = some x ∧ scope.names.lookup x = some .free ∧ (X.env.kindOf x = some .cell ∨ X.env.kindOf x = some .free)) sl fr →
      (∀ k j : Nat, sl[k]? = some j → ∃ x, fr[k]? = some x ∧ X.N[j]? = some x ∧ scope.names.lookup x = some .free) ∧ ∀ x ∈ fr, X.env.kindOf x = some .cell ∨ X.env.kindOf x = some .free := by
    intro sl fr hp
    induction hp with
    | nil => exact ⟨fun k j h => by simp at h, fun x hx => by simp at hx⟩
    | cons r t ih =>
      refine ⟨fun k j h => ?_, fun x hx => ?_⟩
      · cases k with
        | zero =>
          have e : _ = j := Option.some.inj h
          subst e
          exact ⟨_, rfl, r.1, r.2.1⟩
        | succ k => exact ih.1 k j (by simpa using h)
      · rcases List.mem_cons.mp hx with z | z
        · rw [z]; exact r.2.2
        · exact ih.2 x z
  refine pe_comp (N' := tn ++ fr) hc hi hg ht he (by rw [List.length_append, hp.length]) (fun k j h => ?_) hk hcell hnames (fun y hy hf => (key hp).2 _ (hfree y hy hf)) hs
  obtain ⟨x, e1, e2⟩ := (key hp).1 k j h
  exact ⟨x, by rw [List.getElem?_append_right (Nat.le_add_right _ _), Nat.add_sub_cancel_left]; exact e1, e2⟩
end
/-- over a list that the turns leave as it is -/
theorem comp_list {K : PySem.W.Frag} {a : Addr} {xs : List V} {g : TG} {tt : TT} {te : TE} {D : Addr} {Q : Hp → Prop} {σ : St} {H : Hp} (Pv : Nat → List V → St → Hp → Prop) (h0 : Pv 0 [] σ H) (hl : ∀ i acc σ H, i ≤ xs.length → Pv i acc σ H → SqL K H a xs)
    (hs : ∀ i x acc σ H, xs[i]? = some x → Pv i acc σ H → g x σ H fun σ2 H3 => tt σ2 H3 fun b H4 =>
      if b = true then te σ2 H4 fun y H5 => H5 D = some (.lst acc) ∧ acc.length < sizeLine ∧ Pv (i + 1) (acc ++ [y]) σ2 (upd H5 D (.lst (acc ++ [y]))) else Pv (i + 1) acc σ2 H4) (hd : ∀ acc σ H, Pv xs.length acc σ H → Q H) :
    ∃ W : Nat → Nat → List V → St → Hp → Prop, (∃ m, W 0 m [] σ H) ∧ ∀ i m acc σ' H', W i m acc σ' H' → ((Itl K a).stop i H' ∧ Q H') ∨
      ((Itl K a).go i H' ∧ ∃ N : List V → St → Hp → Prop, (∀ acc' σ2 H4, N acc' σ2 H4 → ∃ m', m' < m ∧ W (i + 1) m' acc' σ2 H4) ∧ ∀ x H2, (Itl K a).yld i H' x H2 → g x σ' H2 fun σ2 H3 => tt σ2 H3 fun b H4 =>
        if b = true then te σ2 H4 fun y H5 => H5 D = some (.lst acc) ∧ acc.length < sizeLine ∧ N (acc ++ [y]) σ2 (upd H5 D (.lst (acc ++ [y]))) else N acc σ2 H4) := by
  refine ⟨fun i m acc σ H => m = xs.length - i ∧ i ≤ xs.length ∧ Pv i acc σ H, ⟨xs.length, by simp, Nat.zero_le _, h0⟩, ?_⟩
  rintro i m acc σ H ⟨rfl, hi, p⟩
  have q := hl i acc σ H hi p
  by_cases hlt : i < xs.length
  · refine .inr ⟨⟨xs, xs[i], q, by simp [hlt]⟩, Pv (i + 1), fun acc' σ' H' p' => ⟨xs.length - (i + 1), by omega, rfl, hlt, p'⟩, fun x H' y => ?_⟩
    obtain ⟨e, y⟩ := y
    subst e
    exact hs i x acc σ _ (y xs q) p
  · have e : i = xs.length := by omega
    subst e
    exact .inl ⟨⟨xs, q, Nat.le_refl _⟩, hd acc σ H p⟩
section
variable {X : Cx}
def rBitLen : V → List V → Hp → VK → Prop := fun x vs H Q => ∃ i : Int, x = .int i ∧ vs = [] ∧ ∀ b : Int, b = ((Builtin.Int.intBits i : Nat) : Int) → Q (.int b) H
end
def natV (k : Nat) : V := .int (k : Int)
def sp_has_room : Sp := fun vs H Q _ => ∃ n r : Nat, vs = [natV n, natV r] ∧ Q (.bl (n.testBit r)) H
def sp_with_room : Sp := fun vs H Q _ => ∃ n r : Nat, vs = [natV n, natV r] ∧ r ≤ 1000 ∧ Q (natV (n ||| 2 ^ r)) H
def sp_members : Sp := fun vs H Q _ => ∃ n : Nat, vs = [natV n] ∧ n < 2 ^ 61 ∧ ∀ p H', H p = none → Same H H' → H' p = some (.lst ((Bit.rooms n).map natV)) → Q (.ref p) H'
def sp_subsets : Sp := fun vs H Q _ => ∃ n : Nat, vs = [natV n] ∧ n < 2 ^ 61 ∧ (Bit.rooms n).length ≤ 8 ∧ ∀ p H', H p = none → Same H H' → H' p = some (.lst ((Bit.parts (Bit.rooms n)).map natV)) → Q (.ref p) H'
theorem inV_nat (r : Nat) : ∀ l : List Nat, inV (natV r) (l.map natV) = decide (r ∈ l)
  | [] => rfl
  | a :: l => by
    have ih := inV_nat r l
    unfold inV at ih ⊢
    rw [List.map_cons, List.any_cons, ih]
    have e : eqV (natV a) (natV r) = decide (r = a) := by
      show ((a : Int) == (r : Int)) = _
      rw [Bool.eq_iff_iff, beq_iff_eq, decide_eq_true_eq]; omega
    rw [e]
    by_cases h : r = a
    · simp [h]
    · by_cases h2 : r ∈ l <;> simp [h, h2]
theorem flat_nat (l : List Nat) : (l.map natV).all flatV = true := by
  rw [List.all_eq_true]
  intro x hx
  obtain ⟨k, _, rfl⟩ := List.mem_map.mp hx
  rfl
theorem get_natV {l : List Nat} {i : Nat} {x : V} (h : (l.map natV)[i]? = some x) : ∃ k, l[i]? = some k ∧ x = natV k := by
  rw [List.getElem?_map] at h
  cases e : l[i]? with
  | none => rw [e] at h; cases h
  | some k => rw [e] at h; exact ⟨k, rfl, (Option.some.inj h).symm⟩
end L2
namespace L2
open PySem PySem.Spec PyProof.Rows Mth

/-- an exception flies: from the state s (H) of the one who called, to s' (H'); outer: the frames that it has still to pass -/
structure Fly (P : Program) (w : World) (outer : List Env) (H : Hp) (s : Shared) (cls : Value) (x : Addr) (H' : Hp) (s' : Shared) : Prop where
  os : s'.os = s.os
  bare : AllBare s'.gens
  un : Un (frs outer) [] H H' s.heap s'.heap
  hok : HOk P w H' s'.heap
  fly : ∃ a0 B, Heap.FlyingW B outer x cls a0 s'.heap ∧ (∀ b o, s.heap.get? b = some o → b ∉ frs outer → ∀ o', s'.heap.get? b = some o' → B.get? b = some o') ∧ ∀ b u, H' b = some u → ∃ o, B.get? b = some o
def CX1 (P : Program) (w : World) : CXT := fun outer H s E e s' => ∃ x cls H', e = .ref x ∧ Fly P w outer H s cls x H' s' ∧ E cls none H'

theorem hok_of {P : Program} {w : World} {H : Hp} {h h' B : Heap} (x : HOk P w H h) (hB : ∀ b o, B.get? b = some o → h'.get? b = some o) (hb : ∀ b o, B.get? b = some o → h.get? b = some o) (tk : ∀ b u, H b = some u → ∃ o, B.get? b = some o) : HOk P w H h' := fun a o e =>
  (x a o e).stay (fun b u hb' q => by
    have : ∃ u', H b = some u' := by
      rcases hb' with z | z
      · exact ⟨o, by rw [z]; exact e⟩
      · exact ⟨_, z⟩
    obtain ⟨u', hu'⟩ := this
    obtain ⟨ob, hob⟩ := tk b u' hu'
    have := hb b ob hob
    rw [q] at this
    cases this
    exact hB b u hob) (fun _ q => q) fun _ _ q => q

/-- a fresh exception leaves the body as it is wanted -/
def Thr (X : Cx) (E : XK) : Prop := ∀ (pins : List (Addr × Obj)) (σ : St) (H : Hp) (s : Shared) (h' : Heap) (x : Addr) (cls : Value) (args : List Value), Inv X pins σ H s → Heap.MadeExcOf s.heap h' x cls args → E cls none H → X.xe (.ref x) { s with heap := h' }
section
variable {P : Program} {w : World} {K : PySem.W.Frag} {mg : Str → Option Value} {base : Heap} {N : List Str} {qual : Str} {scope : Scope} {f : Addr} {cd : Value} {A : Around} {outer : List Env} {s₀ : Shared} {H₀ : Hp} {E E' : XK}
end
section
variable {X : Cx}
/-- raise C(e, ..) -/
def tRaise (C : Addr) (E : XK) (t : TA) : TS := fun _ σ H => t σ H fun vs H1 => vs.length ≤ sizeLine ∧ E (.ref C) none H1
end
section
variable {P : Program} {w : World} {K : PySem.W.Frag} {mg : Str → Option Value} {base : Heap}
def DefX (P : Program) (w : World) (K : PySem.W.Frag) (mg : Str → Option Value) (base : Heap) (x : Str) (k : Nat) (ps : List Str) (sp : Sp) : Prop :=
  ∃ f fd, mg x = some (.ref f) ∧ PySem.W.keepIn K (.ref f) = true ∧ Binds K fd ps [] ∧ FnOk P w K mg base (CX1 P w) k f fd ps sp
end
def PX (X : Cx) (e : Expr) (t : St → Hp → VK → XK → Prop) : Prop :=
  ∀ (pins : List (Addr × Obj)) (s : Shared) (σ : St) (H : Hp) (Q : VK) (E : XK), Inv X pins σ H s → t σ H Q E →
    wpAny (model X.prog X.w) X.A (eval e X.env) (EP X pins σ Q) (fun ex s' => ∃ H1 s1, Inv X pins σ H1 s1 ∧ CX1 X.prog X.w X.stack H1 s1 E ex s') s
section
variable {X : Cx} {x : Str} {p pos : Pos} {e : Expr} {es : List Expr} {t : TA} {k : Nat} {ps : List Str} {sp : Sp}
end
end L2
namespace L2
open PySem PySem.Spec PyProof.Rows Mth

/-- Fly, its ground B told -/
structure FlyB (P : Program) (w : World) (outer : List Env) (H : Hp) (s : Shared) (cls : Value) (x : Addr) (H' : Hp) (a0 : Value) (B : Heap) (s' : Shared) : Prop where
  os : s'.os = s.os
  bare : AllBare s'.gens
  un : Un (frs outer) [] H H' s.heap s'.heap
  hok : HOk P w H' s'.heap
  fl : Heap.FlyingW B outer x cls a0 s'.heap
  st : ∀ b o, s.heap.get? b = some o → b ∉ frs outer → ∀ o', s'.heap.get? b = some o' → B.get? b = some o'
  tk : ∀ b u, H' b = some u → ∃ o, B.get? b = some o
theorem Fly.b {P : Program} {w : World} {outer : List Env} {H H' : Hp} {s s' : Shared} {cls : Value} {x : Addr} (F : Fly P w outer H s cls x H' s') : ∃ a0 B, FlyB P w outer H s cls x H' a0 B s' :=
  let ⟨a0, B, fl, hB, tk⟩ := F.fly; ⟨a0, B, F.os, F.bare, F.un, F.hok, fl, hB, tk⟩
section
variable {P : Program} {w : World} {outer : List Env} {H H' : Hp} {s s' : Shared} {cls a0 : Value} {x : Addr} {B : Heap}
theorem FlyB.fin (F : FlyB P w outer H s cls x H' a0 B s') : ∀ b ∈ frs outer, ∃ o, s'.heap.get? b = some o ∧ ∀ vs, o.data ≠ .fields vs := fun b hb => (F.fl.2.2.1.mem hb).2
theorem FlyB.moved {h2 : Heap} {t2 : Nat} (F : FlyB P w outer H s cls x H' a0 B s') (fl2 : Heap.FlyingW B outer x cls a0 h2) (up : s'.heap.UpToSlots h2) : FlyB P w outer H s cls x H' a0 B { s' with heap := h2, toks := t2 } := by
  have th : ∀ b o, s.heap.get? b = some o → b ∉ frs outer → ∃ o', B.get? b = some o' ∧ h2.get? b = some o' := fun b o e hb => by
    obtain ⟨o1, e1⟩ := F.un.there b o e (by simp)
    have q := F.st b o e hb o1 e1
    exact ⟨o1, q, fl2.1 b o1 q⟩
  refine ⟨F.os, F.bare, ⟨fun b o e n hb hx => ?_, fun b o e n hb hx => ?_, F.un.free, fun b o e hx => ?_, F.un.tups, F.un.frzs, F.un.tbls⟩, hok_of F.hok fl2.1 F.fl.1 F.tk, fl2, fun b o e hb o' e' => ?_, F.tk⟩
  · exact fl2.1 b o (F.st b o e hb o (F.un.keep b o e n hb hx))
  · obtain ⟨sl, e1⟩ := F.un.slot b o e n hb hx
    obtain ⟨o1, e3, hd⟩ := F.fin b hb
    rw [e1] at e3
    cases e3
    obtain ⟨sl2, e4⟩ := up b _ e1 hd
    exact ⟨sl2, e4⟩
  · by_cases hb : b ∈ frs outer
    · obtain ⟨o1, e3, hd⟩ := F.fin b hb
      obtain ⟨sl2, e4⟩ := up b _ e3 hd
      exact ⟨_, e4⟩
    · obtain ⟨o', _, e4⟩ := th b o e hb
      exact ⟨o', e4⟩
  · obtain ⟨o1, q, e4⟩ := th b o e hb
    have e4' : h2.get? b = some o' := e'
    rw [e4] at e4'
    cases e4'
    exact q
theorem FlyB.none (F : FlyB P w outer H s cls x H' a0 B s') : H' x = none := by
  cases q : H' x with
  | none => rfl
  | some u =>
    obtain ⟨o, e⟩ := F.tk x u q
    rw [F.fl.2.1] at e
    cases e
theorem FlyB.obj (F : FlyB P w outer H s cls x H' a0 B s') : ∃ oe vs, s'.heap.get? x = some oe ∧ oe.cls = cls ∧ oe.data = .fields vs :=
  let ⟨oe, vs, e, c, d, _⟩ := F.fl.first; ⟨oe, vs, e, c, d⟩
theorem FlyB.nofr (F : FlyB P w outer H s cls x H' a0 B s') : x ∉ frs outer := fun z => by
  obtain ⟨o, e, hd⟩ := F.fin x z
  obtain ⟨oe, vs, e', _, d⟩ := F.obj
  rw [e] at e'
  cases e'
  exact hd vs d
end

/-- within an except suite: the exception at e, its object oe -/
def Cx.held (X : Cx) (e : Addr) (oe : Obj) : Cx := { X with A := X.A.mark (some (.ref e)), calm := false, pn := X.pn ++ [(e, oe)], xe := fun _ _ => False }
theorem Cx.Ok.held {X : Cx} (ok : X.Ok) (e : Addr) (oe : Obj) : (X.held e oe).Ok :=
  ⟨ok.mod, ok.kind, ok.glob, ok.blt, ok.above, ok.inj, ok.has, ok.cab, (fun z => nomatch z), ok.frames, ok.stk, ok.exf, ok.bs, ok.bsz, ok.noex, ok.exfs, ok.funs, ok.frf⟩
section
variable {X : Cx} {pins : List (Addr × Obj)} {σ : St} {H H' : Hp} {s s' : Shared} {cls a0 : Value} {e : Addr} {oe : Obj} {B : Heap}
theorem Inv.held {vs : Array Value} (I : Inv X pins σ H s) (he : s.heap.get? e = some oe) (hd : oe.data = .fields vs) (hn : H e = none) : Inv (X.held e oe) pins σ H s := by
  refine ⟨I.ok.held e oe, I.os, I.bare, I.base, I.loc, I.cell, I.free, I.freeC, fun p hp => ?_, I.hok, I.len⟩
  rcases List.mem_append.mp hp with hp | hp
  · rcases List.mem_append.mp hp with hp | hp
    · exact I.pin p (List.mem_append_left _ hp)
    · have ep : p = (e, oe) := by simpa using hp
      subst ep
      refine ⟨he, hn, fun z => ?_, fun z => ?_, fun v z => ?_⟩
      · obtain ⟨m, ⟨o, es, ep, ho, hod, _⟩, _⟩ := I.loc
        have z' : e = X.env.locals := z
        rw [z', ho] at he
        cases he
        rw [hod] at hd
        cases hd
      · obtain ⟨_, o, ho, hnf⟩ := I.funs.mem z
        have ho' : s.heap.get? e = some o := ho
        rw [he] at ho'
        cases ho'
        exact hnf vs hd
      · have z' : oe.data = .cell v := z
        rw [hd] at z'
        cases z'
  · exact I.pin p (List.mem_append_right _ hp)
end

/-- a block; E: what is wanted of an exception, by the frame's values at its place -/
def PSx (X : Cx) (st : List Stmt) (t : (St → XK) → TS) : Prop :=
  ∀ (pins : List (Addr × Obj)) (s : Shared) (σ : St) (H : Hp) (D : Ends) (E : St → XK), Inv X pins σ H s → t E D σ H →
    wpAny (model X.prog X.w) X.A (execs st X.env) (SP X pins D) (fun ex s' => ∃ σ1 H1 s1, Inv X pins σ1 H1 s1 ∧ CX1 X.prog X.w X.stack H1 s1 (E σ1) ex s') s
section
variable {X : Cx} {pos : Pos}
def Ends.unset (D : Ends) (i : Nat) : Ends := ⟨fun σ H => D.nx (σ.set i none) H, D.rt, fun σ H => D.bk (σ.set i none) H, fun σ H => D.ct (σ.set i none) H⟩
def tTry (K : PySem.W.Frag) (c : Value) (i : Nat) (t : (St → XK) → TS) (ts : Value → Addr → TS) : TS := fun D σ H =>
  t (fun σ1 cls _ H1 => PySem.W.exmOne K cls c = some true ∧ ∀ e, H1 e = none → ts cls e (D.unset i) (σ1.set i (some (.ref e))) H1) D σ H
end

/-- an own exception's class, as far as isinstance looks at it -/
structure ExcCl (K : PySem.W.Frag) (C : Addr) : Prop where
  ga : PySem.W.findIn K (.ref C) "__getattribute__" = some (some (.builtin "BaseException.__getattribute__"))
  gt : PySem.W.findIn K (.ref C) "__getattr__" = some none
  cl : PySem.W.findIn K (.ref C) "__class__" = some (some (.builtin "object.__class__"))
  gs : PySem.W.specialIn K (.builtin "object.__class__") "__get__" = some (some (.builtin "getset_descriptor.__get__"))
  tk : PySem.W.takesIn K (.builtin "object.__class__") = some true
  mo : PySem.W.mroIn K C (.type "object") = some true
  mb : PySem.W.mroIn K C (.type "BaseException") = some true
  is : (PySem.W.clsIn K C).isSome = true
section
open PySem.Builtin PySem.Builtin.ObjectAttr PySem.Builtin.Getset_descriptor
variable {K : PySem.W.Frag} {C e : Addr}
variable {prog : Program} {w : World} {A : Around} {s : Shared} {oe : Obj}
end
/-- a class as a value -/
def clsV : V → Bool
  | .ref _ => true
  | .ty _ => true
  | _ => false
def vOf : V → Value
  | .ref a => .ref a
  | .ty n => .type n
  | _ => .none
/-- what isinstance(e, c) answers, e an exception of the own class at C -/
inductive IsE (K : PySem.W.Frag) (C : Addr) (H : Hp) : V → Bool → Prop where
  | one {c : V} {b : Bool} (hc : clsV c = true) (h : PySem.W.kitOne K (.ref C) (vOf c) = some b) : IsE K C H c b
  | many {p : Addr} {cs : List V} {b : Bool} (hp : H p = some (.tup cs)) (hc : ∀ x ∈ cs, clsV x = true) (h : PySem.W.kitAny K (.ref C) (cs.map vOf) = some b) : IsE K C H (.ref p) b
section
variable {X : Cx}
end
end L2
namespace L2
open PySem PySem.Spec PyProof.Rows Mth

section
variable {X : Cx} {x : Str} {pos : Pos}
theorem pe_globI {i : Int} (hg : Gl X x) (hm : ∃ t, X.mg x = some (.int i t)) (hd : (x == ("__debug__" : Str)) = false := by decide) : PE X (.Name x pos) (tC (.int i)) := by
  obtain ⟨t, hm⟩ := hm
  exact pe_glob hg hm ⟨t, rfl⟩ hd
end
/-- a tuple of the module -/
def KTup (K : PySem.W.Frag) (a : Addr) (xs : List V) : Prop :=
  ∃ (o : Obj) (its : Array Value) (n : Nat), K.lookup a = some o ∧ o.cls = .type "tuple" ∧ o.data = .seq its n ∧ its.size ≤ sizeLine ∧ Vals xs its.toList
theorem KTup.at {K : PySem.W.Frag} {a : Addr} {xs : List V} (h : KTup K a xs) (H : Hp) : SqT K H a xs := .inr h
theorem ktup2 {K : PySem.W.Frag} {a : Addr} {dd : Option Addr} {n : Nat} {sl : Array (Option Value)} {i j : Int} {t u : Tok} (h : K.lookup a = some ⟨.type "tuple", dd, .seq #[.int i t, .int j u] n, sl⟩) : KTup K a [.int i, .int j] :=
  ⟨_, _, _, h, rfl, rfl, by show 2 ≤ sizeLine; decide, .cons ⟨t, rfl⟩ (.cons ⟨u, rfl⟩ .nil)⟩

/-- the defaults of a def -/
def DfIs (K : PySem.W.Frag) (T : Addr) (dvs : List V) : Prop := ∃ o n items, K.lookup T = some o ∧ o.data = .seq items n ∧ Vals dvs items.toList
structure FunD (K : PySem.W.Frag) (x qual : Str) (st : Stmt) (dV : Value) (f : Addr) (fd : FuncData) : Prop where
  ex : ∃ (oc : Value) (od : Option Addr) (kV doc pm : Value) (an : Option Addr) (cdv ct : Value) (osl : Array (Option Value)),
    fd = PySem.W.fnOf x qual (defArgs st) (defBody st) (defScope st) dV kV doc pm an cdv ct ∧ K.lookup f = some ⟨oc, od, .func fd, osl⟩ ∧ PySem.W.codeIn K cdv qual = true
  kp : PySem.W.keepIn K (.ref f) = true
theorem fund_mk {K : PySem.W.Frag} {x qual : Str} {st : Stmt} {f : Addr} {oc : Value} {od an : Option Addr} {osl : Array (Option Value)} {dV kV doc pm cdv ct : Value} (l : K.lookup f = some ⟨oc, od, .func (PySem.W.fnOf x qual (defArgs st) (defBody st) (defScope st) dV kV doc pm an cdv ct), osl⟩)
    (c : PySem.W.codeIn K cdv qual = true) (k : PySem.W.keepIn K (.ref f) = true) : FunD K x qual st dV f (PySem.W.fnOf x qual (defArgs st) (defBody st) (defScope st) dV kV doc pm an cdv ct) := ⟨⟨oc, od, kV, doc, pm, an, cdv, ct, osl, rfl, l, c⟩, k⟩
/-- a tuple of defaults -/
def Dflt (K : PySem.W.Frag) (dV : Value) (items : List Value) : Prop := (dV = .none ∧ items = []) ∨ ∃ T o n, dV = .ref T ∧ K.lookup T = some o ∧ o.data = .seq items.toArray n
section
variable {P : Program} {w : World} {K : PySem.W.Frag} {mg : Str → Option Value} {base : Heap} {x qual m : Str} {st : Stmt} {dV : Value} {f C : Addr} {fd : FuncData} {N ps : List Str} {k : Nat} {sp : Sp} {ds : List Value}
theorem FunD.ok (F : FunD K x qual st dV f fd) (S : FnScope N ps (defScope st)) (len : ∀ vs H Q E, sp vs H Q E → vs.length = ps.length)
    (hbody : ∀ (cdv : Value) (A : Around) (outer : List Env) (s : Shared) (H : Hp) (vs : List V) (Q : VK) (E : XK), Room k (A.deeper (envOfC qual (defScope st) s.heap.objs.size f cdv)) → sp vs H Q E →
      ∃ t, PSs (cxOf CX0 P w K mg base N qual (defScope st) f cdv A outer s H E).nox (defBody st) t ∧ t { nx := fun _ H' => Q .non H', rt := Q } (start N vs) H) : FnOk P w K mg base CX0 (k + 1) f fd ps sp := by
  obtain ⟨oc, od, kV, doc, pm, an, cdv, ct, osl, rfl, lk, hcd⟩ := F.ex
  refine fn_of lk hcd S len fun A outer s H vs Q E hr hsp => ?_
  obtain ⟨t, h, q⟩ := hbody cdv A outer s H vs Q E hr hsp
  exact ⟨t, h.nox, q⟩
/-- how its arguments bind: us are given, ds are the defaults that fill up -/
theorem FunD.binds {T : Addr} {o : Obj} {n : Nat} {items : Array Value} (F : FunD K x qual st (.ref T) f fd) (hT : K.lookup T = some o) (ho : o.data = .seq items n)
    (h : ∀ (kV doc pm : Value) (an : Option Addr) (cdv ct : Value) (us : List Value), (us ++ ds).length = ps.length → ∃ k, bindArgs (PySem.W.fnOf x qual (defArgs st) (defBody st) (defScope st) (.ref T) kV doc pm an cdv ct) ⟨us, []⟩ = seqItems? (.ref T) >>= k ∧ k (some items) = pure (ps.zip (us ++ ds))) : Binds K fd ps ds := by
  obtain ⟨oc, od, kV, doc, pm, an, cdv, ct, osl, rfl, lk, hcd⟩ := F.ex
  intro s us X hl
  obtain ⟨k, h1, h2⟩ := h kV doc pm an cdv ct us hl
  exact PySem.W.binds_K X rfl hT ho h1 h2
theorem FunD.binds0 (F : FunD K x qual st .none f fd)
    (h : ∀ (kV doc pm : Value) (an : Option Addr) (cdv ct : Value) (us : List Value), us.length = ps.length → bindArgs (PySem.W.fnOf x qual (defArgs st) (defBody st) (defScope st) .none kV doc pm an cdv ct) ⟨us, []⟩ = pure (ps.zip us)) : Binds K fd ps [] := by
  obtain ⟨oc, od, kV, doc, pm, an, cdv, ct, osl, rfl, lk, hcd⟩ := F.ex
  exact .all (h kV doc pm an cdv ct)
/-- a method of the text -/
def HasM (K : PySem.W.Frag) (C : Addr) (m qual : Str) (st : Stmt) (dV : Value) : Prop := ∃ f fd, Meth K C m f ∧ FunD K m qual st dV f fd
def MDef (P : Program) (w : World) (K : PySem.W.Frag) (mg : Str → Option Value) (base : Heap) (C : Addr) (m : Str) (k : Nat) (ps : List Str) (ds : List Value) (sp : Sp) : Prop :=
  ∃ f fd, Meth K C m f ∧ Binds K fd ps ds ∧ FnOk P w K mg base CX0 k f fd ps sp
theorem HasM.mdef (h : HasM K C m qual st .none) (S : FnScope N ps (defScope st)) (len : ∀ vs H Q E, sp vs H Q E → vs.length = ps.length)
    (hb : ∀ (kV doc pm : Value) (an : Option Addr) (cdv ct : Value) (us : List Value), us.length = ps.length → bindArgs (PySem.W.fnOf m qual (defArgs st) (defBody st) (defScope st) .none kV doc pm an cdv ct) ⟨us, []⟩ = pure (ps.zip us))
    (hbody : ∀ (f : Addr) (cdv : Value) (A : Around) (outer : List Env) (s : Shared) (H : Hp) (vs : List V) (Q : VK) (E : XK), Room k (A.deeper (envOfC qual (defScope st) s.heap.objs.size f cdv)) → sp vs H Q E →
      ∃ t, PSs (cxOf CX0 P w K mg base N qual (defScope st) f cdv A outer s H E).nox (defBody st) t ∧ t { nx := fun _ H' => Q .non H', rt := Q } (start N vs) H) : MDef P w K mg base C m (k + 1) ps [] sp := by
  obtain ⟨f, fd, M, F⟩ := h
  exact ⟨f, fd, M, F.binds0 hb, F.ok S len fun cdv A outer s H vs Q E hr hs => hbody f cdv A outer s H vs Q E hr hs⟩
/-- a class that is made by its __init__ -/
structure MkCl (K : PySem.W.Frag) (C : Addr) : Prop where
  makes : PySem.W.makesIn K C = true
  kp : PySem.W.keepIn K (.ref C) = true
/-- a def by its name, with defaults -/
def HasD (K : PySem.W.Frag) (mg : Str → Option Value) (x : Str) (st : Stmt) (dV : Value) : Prop := ∃ f fd, mg x = some (.ref f) ∧ FunD K x x st dV f fd
def DefD (P : Program) (w : World) (K : PySem.W.Frag) (mg : Str → Option Value) (base : Heap) (x : Str) (k : Nat) (ps : List Str) (ds : List Value) (sp : Sp) : Prop :=
  ∃ f fd, mg x = some (.ref f) ∧ PySem.W.keepIn K (.ref f) = true ∧ Binds K fd ps ds ∧ FnOk P w K mg base CX0 k f fd ps sp
end
section
variable {X : Cx} {C : Addr} {m x : Str} {p pos apos : Pos} {e o : Expr} {es : List Expr} {ta : TE} {t : TA} {k : Nat} {ps : List Str} {sp : Sp} {ds : List Value} {dvs : List V}
theorem pe_methD {pl : Sem Bool} (he : PE X o ta) (c : Cls X.K C) (D : MDef X.prog X.w X.K X.mg X.base C m k ps ds sp) (hd : Vals dvs ds) (hr : Room k X.A) (ha : PA X (e :: es) t)
    (hst : starEach (e :: es) X.env = (false, eval e X.env) :: starEach es X.env := by rfl) (hpl : (backTo pos (starEach es X.env)).any (·.1) = false := by rfl)
    (ht : eval (.Call (.Attribute o m apos) (e :: es) [] pos) X.env = (do
      let ov ← eval o X.env
      standAt apos.atName
      let (f, first) ← holding [ov] (getMethod ov m pl)
      callWith pos f first (backTo pos (starEach (e :: es) X.env)) (backToKw pos (keywordEach [] X.env))) := by rfl) :
    PE X (.Call (.Attribute o m apos) (e :: es) [] pos) (tMeth C m sp dvs E0 ta t) := by
  obtain ⟨f, fd, hm, hb, F⟩ := D
  exact pe_meth (pl := pl) he c hm F hr hb hd pass0 ha hst hpl ht
theorem pe_methD0 {pl : Sem Bool} (he : PE X o ta) (c : Cls X.K C) (D : MDef X.prog X.w X.K X.mg X.base C m k ps ds sp) (hd : Vals dvs ds) (hr : Room k X.A)
    (ht : eval (.Call (.Attribute o m apos) [] [] pos) X.env = (do
      let ov ← eval o X.env
      standAt apos.atName
      let (f, first) ← holding [ov] (getMethod ov m pl)
      callWith pos f first (backTo pos (starEach [] X.env)) (backToKw pos (keywordEach [] X.env))) := by rfl) :
    PE X (.Call (.Attribute o m apos) [] [] pos) (tMeth C m sp dvs E0 ta tNil) := by
  obtain ⟨f, fd, hm, hb, F⟩ := D
  exact pe_meth0 (pl := pl) he c hm F hr hb hd pass0 ht
theorem pe_makeD0 (M : MkCl X.K C) (D : MDef X.prog X.w X.K X.mg X.base C "__init__" k ps ds sp) (hd : Vals dvs ds) (hr : Room (k + 1) X.A) (hm : X.mg x = some (.ref C)) (hg : Gl X x := by rfl) (hdb : (x == ("__debug__" : Str)) = false := by decide) :
    PE X (.Call (.Name x p) [] [] pos) (tMake C sp dvs E0 tNil) := by
  obtain ⟨f, fd, me, hb, F⟩ := D
  exact pe_make0 ⟨M.makes, me.at_, me.fn, M.kp⟩ F hr hg hm hb hd pass0 hdb
end
end L2
namespace L2
open PySem PySem.Spec PyProof.Rows Mth

section
variable {X : Cx} {pins : List (Addr × Obj)} {σ : St} {H : Hp} {s : Shared} {h' : Heap} {ch : List Addr}
/-- records of ours at ch have turned, and a new object is laid -/
theorem Inv.turnedL {a : Addr} {o : HO} {t' : Nat} (I : Inv X pins σ H s) (k : ∀ b u, b ∉ ch → s.heap.get? b = some u → h'.get? b = some u) (hf : ∀ b ∈ ch, FpOk X pins H b) (hp : s.heap.objs.size ≤ a)
    (new : ObjOk X.prog X.w (upd H a o) h' a o) : Inv X pins σ (upd H a o) { s with heap := h', toks := t' } := by
  have hn : H a = none := I.hok.fresh hp
  refine I.step (g' := s.gens) (d' := s.drawn) (ch := ch) (fun b hb => ⟨(hf b hb).2.2.2.1, (hf b hb).2.1, (hf b hb).2.2.2.2.1, (hf b hb).2.2.2.2.2⟩) (fun b u _ _ hc q _ => k b u hc q) (fun b u _ _ hc q _ => ⟨u.slots, k b u hc q⟩)
    (fun b u _ q n => by rw [upd_ne (Nat.ne_of_lt (Nat.lt_of_lt_of_le (Heap.lt_size q) hp))]; exact n) (fun b u hc q => ⟨u, k b u hc q⟩) (fun b xs q => by rw [upd_ne (ne_of_none q hn)]; exact q) (fun b u xs q => by rw [upd_ne (ne_of_none q hn)]; exact q)
    (fun b ps q => ⟨#[], by rw [upd_ne (ne_of_none q hn), q]; simp⟩) (fun m hm => ?_) (fun b u q => ?_) I.bare
  · obtain ⟨ob, es, ep, ho, r⟩ := hm
    exact ⟨ob, es, ep, k _ ob (fun z => (hf _ z).2.1 rfl) ho, r⟩
  · by_cases hb : b = a
    · subst hb
      rw [upd_same] at q
      cases q
      exact new
    · rw [upd_ne hb] at q
      refine (I.hok b u q).stay (fun c v hc z => k c v (fun y => ?_) z) (fun c z => by rw [upd_ne (ne_of_none z hn)]; exact z) fun c xs z => by rw [upd_ne (ne_of_none z hn)]; exact z
      have n := (hf c y).1
      rcases hc with rfl | hc
      · rw [n] at q; cases q
      · rw [n] at hc; cases hc
theorem Inv.turned0 {t' : Nat} (I : Inv X pins σ H s) (k : ∀ b u, b ∉ ch → s.heap.get? b = some u → h'.get? b = some u) (hf : ∀ b ∈ ch, FpOk X pins H b) : Inv X pins σ H { s with heap := h', toks := t' } := by
  refine I.step (g' := s.gens) (d' := s.drawn) (ch := ch) (fun b hb => ⟨(hf b hb).2.2.2.1, (hf b hb).2.1, (hf b hb).2.2.2.2.1, (hf b hb).2.2.2.2.2⟩) (fun b u _ _ hc q _ => k b u hc q) (fun b u _ _ hc q _ => ⟨u.slots, k b u hc q⟩)
    (fun _ _ _ _ n => n) (fun b u hc q => ⟨u, k b u hc q⟩) (fun _ _ q => q) (fun _ _ _ q => q) (fun b ps q => ⟨#[], by rw [q]; simp⟩) (fun m hm => ?_) (fun b u q => ?_) I.bare
  · obtain ⟨ob, es, ep, ho, r⟩ := hm
    exact ⟨ob, es, ep, k _ ob (fun z => (hf _ z).2.1 rfl) ho, r⟩
  · refine (I.hok b u q).stay (fun c v hc z => k c v (fun y => ?_) z) (fun _ z => z) fun _ _ z => z
    have n := (hf c y).1
    rcases hc with rfl | hc
    · rw [n] at q; cases q
    · rw [n] at hc; cases hc
end

/-- two lists side by side: a new pair each turn -/
def Itz (K : PySem.W.Frag) (a b : Addr) : It :=
  ⟨fun i H => ∃ xs ys x y, SqL K H a xs ∧ SqL K H b ys ∧ xs[i]? = some x ∧ ys[i]? = some y,
   fun i H v H' => ∃ p x y, H p = none ∧ v = .ref p ∧ H' = upd H p (.tup [x, y]) ∧ (∀ xs, SqL K H a xs → xs[i]? = some x) ∧ ∀ ys, SqL K H b ys → ys[i]? = some y,
   fun i H => ∃ xs ys, SqL K H a xs ∧ SqL K H b ys ∧ (xs.length ≤ i ∨ ys.length ≤ i)⟩
def ZipSt (z TI TO i1 i2 a b : Addr) (i : Nat) (h : Heap) : Prop := IsZip h z TI TO .none ∧ IsPair h TI (.ref i1) (.ref i2) ∧ (∃ u v, IsPair h TO u v) ∧ h.IsListIter i1 a i ∧ h.IsListIter i2 b i
theorem ZipSt.obj {z TI TO i1 i2 a b : Addr} {i : Nat} {h : Heap} (st : ZipSt z TI TO i1 i2 a b i h) : ∀ c ∈ [z, TI, TO, i1, i2], ∃ o, h.get? c = some o ∧ ∀ v, o.data ≠ .cell v := fun c hc => by
  obtain ⟨hz, hTI, ⟨u, v, hTO⟩, ⟨o1, e1, _, d1⟩, ⟨o2, e2, _, d2⟩⟩ := st
  simp only [List.mem_cons, List.not_mem_nil, or_false] at hc
  rcases hc with rfl | rfl | rfl | rfl | rfl
  · exact ⟨_, hz, fun v q => by cases q⟩
  · exact ⟨_, hTI, fun v q => by cases q⟩
  · exact ⟨_, hTO, fun v q => by cases q⟩
  · exact ⟨o1, e1, fun v q => by rw [d1] at q; cases q⟩
  · exact ⟨o2, e2, fun v q => by rw [d2] at q; cases q⟩
theorem turn_zip {P : Program} {w : World} {K : PySem.W.Frag} {elts : List Expr} {x1 : Nat} {tpos : Pos} {z TI TO i1 i2 a b : Addr} (D : ZipApart z TI TO i1 i2 a b) :
    Turn P w K (.Tuple elts x1 tpos) (Itz K a b) [z, TI, TO, i1, i2] z (ZipSt z TI TO i1 i2 a b) where
  mem := by simp
  obj := fun i h st => st.obj
  keep := fun i h h' st k => by
    obtain ⟨hz, hTI, ⟨u, v, hTO⟩, h1, h2⟩ := st
    exact ⟨k z (by simp) _ hz, k TI (by simp) _ hTI, ⟨u, v, k TO (by simp) _ hTO⟩, h1.at fun o e => k i1 (by simp) o e, h2.at fun o e => k i2 (by simp) o e⟩
  item := by
    intro X hP hw hK hc i pins s σ H E I hf st hg
    subst hP hw hK
    obtain ⟨xs, ys, x, y, hq1, hq2, hx, hy⟩ := hg
    obtain ⟨its1, rv1, p1, hz1⟩ := I.list hq1
    obtain ⟨its2, rv2, p2, hz2⟩ := I.list hq2
    obtain ⟨u1, hu1, ru1⟩ := rv1.get hx
    obtain ⟨u2, hu2, ru2⟩ := rv2.get hy
    have lt : ∀ c ∈ [z, TI, TO, i1, i2], c < s.heap.objs.size := fun c hc' => by
      obtain ⟨o, e, _⟩ := st.obj c hc'
      exact Heap.lt_size e
    obtain ⟨hz, hTI, ⟨u, v, hTO⟩, h1, h2⟩ := st
    refine wpAny_pyNext_zip_item D hz hTI hTO h1 h2 p1.isList p2.isList (x := u1) (y := u2) (by simpa using hu1) (by simpa using hu2) fun h' z1 z2 z3 z4 z5 z6 kk => ?_
    refine ⟨.ref s.heap.objs.size, rfl, wpAny_letOwnedTupleGo_zip (s := { s with heap := h' }) z1 fun h2' zz sb => ?_⟩
    have kAll : ∀ c o, c ∉ [z, TI, TO, i1, i2] → s.heap.get? c = some o → h2'.get? c = some o := fun c o hn e => by
      simp only [List.mem_cons, List.not_mem_nil, or_false, not_or] at hn
      exact sb.extBut _ _ hn.1 (kk c o hn.1 hn.2.2.1 hn.2.2.2.1 hn.2.2.2.2 e)
    have nz : s.heap.objs.size ≠ z := Nat.ne_of_gt (lt z (by simp))
    have n5 : IsPair h2' s.heap.objs.size u1 u2 := sb.extBut _ _ nz z5
    refine ⟨.ref s.heap.objs.size, upd H s.heap.objs.size (.tup [x, y]), I.turnedL (t' := s.toks) kAll hf (Nat.le_refl _) ⟨by show 2 ≤ sizeLine; decide, [u1, u2], .cons ru1 (.cons ru2 .nil), ⟨_, n5, rfl, _, rfl⟩⟩, rfl,
      ⟨_, x, y, I.hok.fresh (Nat.le_refl _), rfl, rfl, fun xs' h => by rw [I.list_inj h hq1]; exact hx, fun ys' h => by rw [I.list_inj h hq2]; exact hy⟩, ?_, fun c hc' => ?_⟩
    · exact ⟨zz, sb.extBut _ _ D.TIz (kk _ _ D.TIz D.TITO D.TIi1 D.TIi2 hTI), ⟨_, _, sb.extBut _ _ D.TOz z2⟩, z3.extBut sb.extBut D.i1z, z4.extBut sb.extBut D.i2z⟩
    · rw [upd_ne (Nat.ne_of_lt (lt c hc'))]
      exact (hf c hc').1
  done := by
    intro X hP hw hK hc i pins s σ H E I hf st hg
    subst hP hw hK
    obtain ⟨xs, ys, hq1, hq2, hl⟩ := hg
    obtain ⟨its1, rv1, p1, hz1⟩ := I.list hq1
    obtain ⟨its2, rv2, p2, hz2⟩ := I.list hq2
    have l1 := rv1.length
    have l2 := rv2.length
    obtain ⟨hz, hTI, ⟨u, v, hTO⟩, h1, h2⟩ := st
    have hend : its1.toArray[i]? = none ∨ its2.toArray[i]? = none := by
      rcases hl with h | h
      · exact .inl (by simp; omega)
      · exact .inr (by simp; omega)
    refine wpAny_pyNext_zip_end (I.ok.hd hc) D hz hTI hTO h1 h2 p1.isList p2.isList hend fun h' kk => ⟨rfl, I.turned0 (ch := [z, TI, TO, i1, i2]) (t' := s.toks) (fun c o hn e => ?_) hf⟩
    simp only [List.mem_cons, List.not_mem_nil, or_false, not_or] at hn
    exact kk c o hn.1 hn.2.2.1 hn.2.2.2.1 hn.2.2.2.2 e
  self := fun _ _ _ _ _ st h => wpAny_pyIter_zip st.1 h
theorem bt_zip : bootBuiltins "zip" = some (.type "zip") := by decide +kernel
section
variable {X : Cx}
def iZip (K : PySem.W.Frag) (ta : TA) : TI := fun σ H R => ta σ H fun vs H1 => ∃ a b, vs = [.ref a, .ref b] ∧ (∃ xs, SqL K H1 a xs) ∧ (∃ ys, SqL K H1 b ys) ∧ R (Itz K a b) H1
theorem pi_zip {a b : Expr} {ta : TA} {p pos tpos : Pos} {elts : List Expr} {x1 : Nat} (hg : Gl X "zip") (hm : X.mg "zip" = none) (ha : PA X [a, b] ta) (hs : starEach [a, b] X.env = [(false, eval a X.env), (false, eval b X.env)] := by rfl)
    (hs2 : starEach [b] X.env = [(false, eval b X.env)] := by rfl) : PI X (.Tuple elts x1 tpos) (.Call (.Name "zip" p) [a, b] [] pos) (iZip X.K ta) := by
  intro pins s σ H R I h
  refine Call_ (ld_blt I hg hm bt_zip (PyProof.Rows.callWith_type1 (thn (ha pos pins s σ H _ I h) fun us s1 ⟨vs, H1, I1, r1, q1⟩ => ?_) (by rw [hs, hs2]) (by rw [hs2]; rfl)))
  obtain ⟨a, b, e, ⟨xs, hq1⟩, ⟨ys, hq2⟩, q⟩ := q1
  subst e
  obtain ⟨u, v, rfl, r, r'⟩ := vals2 r1
  obtain rfl : u = Value.ref a := r
  obtain rfl : v = Value.ref b := r'
  obtain ⟨its1, rv1, p1, hz1⟩ := I1.list hq1
  obtain ⟨its2, rv2, p2, hz2⟩ := I1.list hq2
  refine call_zip_2 p1.isList p2.isList fun h' z1 z2 z3 z4 z5 z6 kk => ?_
  have la : a < s1.heap.objs.size := by obtain ⟨_, e, _⟩ := p1.isList; exact Heap.lt_size e
  have lb : b < s1.heap.objs.size := by obtain ⟨_, e, _⟩ := p2.isList; exact Heap.lt_size e
  refine wpAny_pyIter_zip z1 ?_
  refine ⟨s1.heap.objs.size + 4, [s1.heap.objs.size + 4, s1.heap.objs.size + 2, s1.heap.objs.size + 3, s1.heap.objs.size, s1.heap.objs.size + 1], _, _, H1, rfl, I1.kept (t' := s1.toks) kk, turn_zip (zipApart_new la lb), ⟨z1, z2, ⟨_, _, z3⟩, z4, z5⟩, fun c hc => ?_, q⟩
  have hle : s1.heap.objs.size ≤ c := by
    simp only [List.mem_cons, List.not_mem_nil, or_false] at hc
    rcases hc with rfl | rfl | rfl | rfl | rfl
    · exact Nat.le_add_right _ _
    · exact Nat.le_add_right _ _
    · exact Nat.le_add_right _ _
    · exact Nat.le_refl _
    · exact Nat.le_add_right _ _
  exact I1.fpOk hle (I1.hok.fresh hle)
end
/-- over a zip of two lists that the turns leave as they are -/
theorem comp_zip {K : PySem.W.Frag} {a b : Addr} {xs ys : List V} {g : TG} {tt : TT} {te : TE} {D : Addr} {Q : Hp → Prop} {σ : St} {H : Hp} (Pv : Nat → List V → St → Hp → Prop) (h0 : Pv 0 [] σ H)
    (hl : ∀ i acc σ H, i ≤ min xs.length ys.length → Pv i acc σ H → SqL K H a xs ∧ SqL K H b ys)
    (hs : ∀ i x y p acc σ H, xs[i]? = some x → ys[i]? = some y → H p = none → Pv i acc σ H → g (.ref p) σ (upd H p (.tup [x, y])) fun σ2 H3 => tt σ2 H3 fun k H4 =>
      if k = true then te σ2 H4 fun v H5 => H5 D = some (.lst acc) ∧ acc.length < sizeLine ∧ Pv (i + 1) (acc ++ [v]) σ2 (upd H5 D (.lst (acc ++ [v]))) else Pv (i + 1) acc σ2 H4) (hd : ∀ acc σ H, Pv (min xs.length ys.length) acc σ H → Q H) :
    ∃ W : Nat → Nat → List V → St → Hp → Prop, (∃ m, W 0 m [] σ H) ∧ ∀ i m acc σ' H', W i m acc σ' H' → ((Itz K a b).stop i H' ∧ Q H') ∨
      ((Itz K a b).go i H' ∧ ∃ N : List V → St → Hp → Prop, (∀ acc' σ2 H4, N acc' σ2 H4 → ∃ m', m' < m ∧ W (i + 1) m' acc' σ2 H4) ∧ ∀ x H2, (Itz K a b).yld i H' x H2 → g x σ' H2 fun σ2 H3 => tt σ2 H3 fun k H4 =>
        if k = true then te σ2 H4 fun y H5 => H5 D = some (.lst acc) ∧ acc.length < sizeLine ∧ N (acc ++ [y]) σ2 (upd H5 D (.lst (acc ++ [y]))) else N acc σ2 H4) := by
  refine ⟨fun i m acc σ H => m = min xs.length ys.length - i ∧ i ≤ min xs.length ys.length ∧ Pv i acc σ H, ⟨_, rfl, Nat.zero_le _, h0⟩, ?_⟩
  rintro i m acc σ H ⟨rfl, hi, p⟩
  obtain ⟨q1, q2⟩ := hl i acc σ H hi p
  by_cases hlt : i < min xs.length ys.length
  · have h1 : i < xs.length := by omega
    have h2 : i < ys.length := by omega
    refine .inr ⟨⟨xs, ys, xs[i], ys[i], q1, q2, by simp [h1], by simp [h2]⟩, Pv (i + 1), fun acc' σ' H' p' => ⟨min xs.length ys.length - (i + 1), by omega, rfl, hlt, p'⟩, fun v H' y => ?_⟩
    obtain ⟨pp, x, y, hn, rfl, rfl, e1, e2⟩ := y
    exact hs i x y pp acc σ H (e1 xs q1) (e2 ys q2) hn p
  · have e : i = min xs.length ys.length := by omega
    subst e
    exact .inl ⟨⟨xs, ys, q1, q2, by omega⟩, hd acc σ H p⟩
end L2
namespace L2
open PySem PySem.Spec PyProof.Rows Mth

mutual
/-- the value v tells d -/
def Dn (K : PySem.W.Frag) (H : Hp) : PyData → V → Prop
  | .none, v => v = .non
  | .bool b, v => v = .bl b
  | .int i, v => v = .int i
  | .str x, v => v = .str x
  | .list ds, v => ∃ a xs, v = .ref a ∧ SqL K H a xs ∧ DnA K H ds xs
  | .tuple ds, v => ∃ a xs, v = .ref a ∧ SqT K H a xs ∧ DnA K H ds xs
  | .dict _, _ => False
def DnA (K : PySem.W.Frag) (H : Hp) : List PyData → List V → Prop
  | [], xs => xs = []
  | d :: ds, xs => ∃ x r, xs = x :: r ∧ Dn K H d x ∧ DnA K H ds r
end
/-- no list within -/
def flatD : PyData → Bool
  | .list _ => false
  | .dict _ => false
  | .tuple ds => ds.attach.all fun ⟨d, _⟩ => flatD d
  | _ => true
theorem flatD_tuple {ds : List PyData} : flatD (.tuple ds) = true ↔ ∀ d ∈ ds, flatD d = true := by
  rw [flatD, List.all_eq_true]
  constructor
  · intro h d hd
    exact h ⟨d, hd⟩ (List.mem_attach ..)
  · intro h x _
    exact h x.1 x.2
/-- the tuples stay -/
def TStay (K : PySem.W.Frag) (H H' : Hp) : Prop := ∀ a xs, SqT K H a xs → SqT K H' a xs
theorem TStay.refl {K : PySem.W.Frag} (H : Hp) : TStay K H H := fun _ _ h => h
theorem TStay.trans {K : PySem.W.Frag} {H H1 H2 : Hp} (a : TStay K H H1) (b : TStay K H1 H2) : TStay K H H2 := fun c xs h => b c xs (a c xs h)
theorem Same.ts {K : PySem.W.Frag} {H H' : Hp} (s : Same H H') : TStay K H H' := fun _ _ h => s.tup h
/-- an object that is no tuple is written -/
def noTup : HO → Bool
  | .tup _ => false
  | .frz _ _ => false
  | _ => true
theorem ts_upd {K : PySem.W.Frag} {H : Hp} {a : Addr} {o o' : HO} (h : H a = some o) (n : noTup o = true) : TStay K H (upd H a o') := fun b xs q => by
  have ne : ∀ u, H b = some u → noTup u = false → b ≠ a := fun u e z y => by
    subst y
    rw [h] at e
    cases e
    rw [n] at z
    cases z
  rcases q with (q | ⟨ob, q⟩) | q
  · exact .inl (.inl (by rw [upd_ne (ne _ q rfl)]; exact q))
  · exact .inl (.inr ⟨ob, by rw [upd_ne (ne _ q rfl)]; exact q⟩)
  · exact .inr q
section
variable {K : PySem.W.Frag} {H H' : Hp}
mutual
theorem Dn.same (s : Same H H') : ∀ (d : PyData) {v : V}, Dn K H d v → Dn K H' d v
  | .none, _, h => by rw [Dn] at h ⊢; exact h
  | .bool _, _, h => by rw [Dn] at h ⊢; exact h
  | .int _, _, h => by rw [Dn] at h ⊢; exact h
  | .str _, _, h => by rw [Dn] at h ⊢; exact h
  | .list ds, _, h => by
    rw [Dn] at h ⊢
    obtain ⟨a, xs, e, q, r⟩ := h
    exact ⟨a, xs, e, s.seq q, DnA.same s ds r⟩
  | .tuple ds, _, h => by
    rw [Dn] at h ⊢
    obtain ⟨a, xs, e, q, r⟩ := h
    exact ⟨a, xs, e, s.tup q, DnA.same s ds r⟩
  | .dict _, _, h => by rw [Dn] at h; exact h.elim
theorem DnA.same (s : Same H H') : ∀ (ds : List PyData) {xs : List V}, DnA K H ds xs → DnA K H' ds xs
  | [], _, h => by rw [DnA] at h ⊢; exact h
  | d :: ds, _, h => by
    rw [DnA] at h ⊢
    obtain ⟨x, r, e, q, t⟩ := h
    exact ⟨x, r, e, Dn.same s d q, DnA.same s ds t⟩
end
mutual
theorem Dn.ts (s : TStay K H H') : ∀ (d : PyData) {v : V}, flatD d = true → Dn K H d v → Dn K H' d v
  | .none, _, _, h => by rw [Dn] at h ⊢; exact h
  | .bool _, _, _, h => by rw [Dn] at h ⊢; exact h
  | .int _, _, _, h => by rw [Dn] at h ⊢; exact h
  | .str _, _, _, h => by rw [Dn] at h ⊢; exact h
  | .list ds, _, f, _ => by rw [flatD] at f; cases f
  | .tuple ds, _, f, h => by
    rw [Dn] at h ⊢
    obtain ⟨a, xs, e, q, r⟩ := h
    exact ⟨a, xs, e, s _ _ q, DnA.ts s ds (flatD_tuple.mp f) r⟩
  | .dict _, _, _, h => by rw [Dn] at h; exact h.elim
theorem DnA.ts (s : TStay K H H') : ∀ (ds : List PyData) {xs : List V}, (∀ d ∈ ds, flatD d = true) → DnA K H ds xs → DnA K H' ds xs
  | [], _, _, h => by rw [DnA] at h ⊢; exact h
  | d :: ds, _, f, h => by
    rw [DnA] at h ⊢
    obtain ⟨x, r, e, q, t⟩ := h
    exact ⟨x, r, e, Dn.ts s d (f d List.mem_cons_self) q, DnA.ts s ds (fun d hd => f d (List.mem_cons_of_mem _ hd)) t⟩
end
theorem DnA.length : ∀ {ds : List PyData} {xs : List V}, DnA K H ds xs → xs.length = ds.length
  | [], _, h => by rw [DnA] at h; rw [h]; rfl
  | d :: ds, _, h => by
    rw [DnA] at h
    obtain ⟨x, r, rfl, _, t⟩ := h
    rw [List.length_cons, List.length_cons, DnA.length t]
theorem DnA.get : ∀ {ds : List PyData} {xs : List V} {i : Nat} {d : PyData}, DnA K H ds xs → ds[i]? = some d → ∃ x, xs[i]? = some x ∧ Dn K H d x
  | [], _, _, _, _, e => by simp at e
  | _ :: _, _, 0, _, h, e => by
    rw [DnA] at h
    obtain ⟨x, r, rfl, q, t⟩ := h
    simp at e
    subst e
    exact ⟨x, rfl, q⟩
  | _ :: ds, _, i + 1, d, h, e => by
    rw [DnA] at h
    obtain ⟨x, r, rfl, q, t⟩ := h
    obtain ⟨y, e1, e2⟩ := DnA.get (i := i) t (by simpa using e)
    exact ⟨y, by simpa using e1, e2⟩
theorem DnA.snoc : ∀ {ds : List PyData} {xs : List V} {d : PyData} {x : V}, DnA K H ds xs → Dn K H d x → DnA K H (ds ++ [d]) (xs ++ [x])
  | [], _, d, x, h, q => by
    rw [DnA] at h
    subst h
    exact ⟨x, [], rfl, q, rfl⟩
  | _ :: ds, _, d, x, h, q => by
    rw [DnA] at h
    obtain ⟨y, r, rfl, q', t⟩ := h
    exact ⟨y, r ++ [x], rfl, q', DnA.snoc t q⟩
theorem DnA.set : ∀ {ds : List PyData} {xs : List V} {i : Nat} {d : PyData} {x : V}, DnA K H ds xs → Dn K H d x → DnA K H (ds.set i d) (xs.set i x)
  | [], _, _, _, _, h, _ => by
    rw [DnA] at h
    subst h
    exact rfl
  | _ :: _, _, 0, d, x, h, q => by
    rw [DnA] at h
    obtain ⟨y, r, rfl, q', t⟩ := h
    exact ⟨x, r, rfl, q, t⟩
  | _ :: ds, _, i + 1, d, x, h, q => by
    rw [DnA] at h
    obtain ⟨y, r, rfl, q', t⟩ := h
    exact ⟨y, r.set i x, rfl, q', DnA.set t q⟩
theorem dn_nil : DnA K H [] [] := rfl
theorem dn_cons {d : PyData} {ds : List PyData} {x : V} {xs : List V} (a : Dn K H d x) (b : DnA K H ds xs) : DnA K H (d :: ds) (x :: xs) := ⟨x, xs, rfl, a, b⟩
theorem dn_int {i : Int} : Dn K H (.int i) (.int i) := rfl
theorem dn_tup {a : Addr} {xs : List V} {ds : List PyData} (h : SqT K H a xs) (r : DnA K H ds xs) : Dn K H (.tuple ds) (.ref a) := ⟨a, xs, rfl, h, r⟩
theorem dn_lst {a : Addr} {xs : List V} {ds : List PyData} (h : SqL K H a xs) (r : DnA K H ds xs) : Dn K H (.list ds) (.ref a) := ⟨a, xs, rfl, h, r⟩
/-- a fraction -/
abbrev frD (f : Int × Int) : PyData := .tuple [.int f.1, .int f.2]
theorem dn_fr {p : Addr} {f : Int × Int} (h : SqT K H p [.int f.1, .int f.2]) : Dn K H (frD f) (.ref p) := dn_tup h (dn_cons dn_int (dn_cons dn_int dn_nil))
theorem Dn.fr {v : V} {f : Int × Int} (h : Dn K H (frD f) v) : ∃ p, v = .ref p ∧ SqT K H p [.int f.1, .int f.2] := by
  obtain ⟨p, xs, e, q, x, r, e1, e2, y, r2, e3, e4, e5⟩ := h
  have e2 : x = V.int f.1 := e2
  have e4 : y = V.int f.2 := e4
  have e5 : r2 = [] := e5
  subst e1 e2 e3 e4 e5
  exact ⟨p, e, q⟩
theorem flat_fr (f : Int × Int) : flatD (frD f) = true := by simp [frD, flatD]
end
section
variable {X : Cx} {pins : List (Addr × Obj)} {σ : St} {H : Hp} {s : Shared}
mutual
theorem Inv.reads (I : Inv X pins σ H s) : ∀ (d : PyData) {v : V} {u : Value}, Dn X.K H d v → RelV v u → ∃ as, Reads s.heap u d as
  | .none, _, _, h, r => by
    have h : _ = V.non := h
    subst h
    obtain rfl := (show _ = Value.none from r)
    exact ⟨_, .none⟩
  | .bool b, _, _, h, r => by
    have h : _ = V.bl b := h
    subst h
    obtain rfl := (show _ = Value.bool b from r)
    exact ⟨_, .bool b⟩
  | .int i, _, _, h, r => by
    have h : _ = V.int i := h
    subst h
    obtain ⟨t, rfl⟩ := r
    exact ⟨_, .int i t⟩
  | .str x, _, _, h, r => by
    have h : _ = V.str x := h
    subst h
    obtain ⟨t, rfl⟩ := r
    exact ⟨_, .str x t⟩
  | .list ds, _, _, h, r => by
    obtain ⟨a, xs, rfl, q, t⟩ := h
    obtain rfl := (show _ = Value.ref a from r)
    obtain ⟨its, rv, p, _⟩ := I.list q
    obtain ⟨o, ho, hc, n, hd⟩ := p.isList
    obtain ⟨as, ra⟩ := Inv.readsAll I ds t rv
    exact ⟨_, .list ho hc hd (by simpa using ra)⟩
  | .tuple ds, _, _, h, r => by
    obtain ⟨a, xs, rfl, q, t⟩ := h
    obtain rfl := (show _ = Value.ref a from r)
    obtain ⟨its, rv, p, _⟩ := I.tuple q
    obtain ⟨o, ho, hc, n, hd⟩ := p
    obtain ⟨as, ra⟩ := Inv.readsAll I ds t rv
    exact ⟨_, .tuple ho hc hd (by simpa using ra)⟩
  | .dict _, _, _, h, _ => (show False from h).elim
theorem Inv.readsAll (I : Inv X pins σ H s) : ∀ (ds : List PyData) {xs : List V} {us : List Value}, DnA X.K H ds xs → Vals xs us → ∃ as, ReadsAll s.heap us ds as
  | [], _, _, h, r => by
    have h : _ = [] := h
    subst h
    obtain rfl := Vals.zero r
    exact ⟨_, .nil⟩
  | d :: ds, _, _, h, r => by
    obtain ⟨x, t, rfl, q, qt⟩ := h
    cases r with
    | cons r1 r2 =>
      obtain ⟨as, ra⟩ := Inv.reads I d q r1
      obtain ⟨bs, rb⟩ := Inv.readsAll I ds qt r2
      exact ⟨_, .cons ra rb⟩
end
def rEqD (K : PySem.W.Frag) : R2 := fun x y H Q => ∃ d e, Dn K H d x ∧ Dn K H e y ∧ SeqAt.shaped d = true ∧ SeqAt.shaped e = true ∧ Q (.bl (PyData.eqv d e)) H
def rNeD (K : PySem.W.Frag) : R2 := fun x y H Q => ∃ d e, Dn K H d x ∧ Dn K H e y ∧ SeqAt.shaped d = true ∧ SeqAt.shaped e = true ∧ Q (.bl (!PyData.eqv d e)) H
theorem op_eqD (hu : X.A.units + 64 < cLine) : OpR X (compareOp .Eq) (rEqD X.K) := by
  intro pins s σ H x y v u Q I rx ry h
  obtain ⟨d, e, h1, h2, s1, s2, q⟩ := h
  obtain ⟨as, r1⟩ := I.reads d h1 rx
  obtain ⟨bs, r2⟩ := I.reads e h2 ry
  exact eq_dataH r1 r2 s1 s2 hu ⟨.bl _, H, I, rfl, q⟩
theorem op_neD (hu : X.A.units + 64 < cLine) : OpR X (compareOp .NotEq) (rNeD X.K) := by
  intro pins s σ H x y v u Q I rx ry h
  obtain ⟨d, e, h1, h2, s1, s2, q⟩ := h
  obtain ⟨as, r1⟩ := I.reads d h1 rx
  obtain ⟨bs, r2⟩ := I.reads e h2 ry
  exact ne_dataH r1 r2 s1 s2 hu ⟨.bl _, H, I, rfl, q⟩
/-- all(xs), any(xs) of a list of truths -/
theorem call_allB (hc : X.calm = true) : CallR X (.builtin "all") (fun xs H Q => ∃ (p : Addr) (bs : List Bool), xs = [.ref p] ∧ SqL X.K H p (bs.map V.bl) ∧ Q (.bl (bs.all id)) H) := by
  intro pins s σ H xs us Q I r h
  obtain ⟨p, bs, rfl, hq, q⟩ := h
  obtain ⟨u, rfl, r1⟩ : ∃ u, us = [u] ∧ RelV (.ref p) u := by
    cases r with
    | cons a b => cases b; exact ⟨_, rfl, a⟩
  obtain rfl : u = Value.ref p := r1
  obtain ⟨its, rv, pl, _⟩ := I.list hq
  have hl : p < s.heap.objs.size := by obtain ⟨_, e, _⟩ := pl.isList; exact Heap.lt_size e
  have hlen : its.length = bs.length := by rw [← rv.length, List.length_map]
  have hval : ∀ i v, its.toArray[i]? = some v → v = Value.bool (bs.getD i false) := fun i v e => by
    have e' : its[i]? = some v := by simpa using e
    have hi : i < bs.length := by rw [← hlen]; exact (List.getElem?_eq_some_iff.mp e').1
    obtain ⟨u, e2, r2⟩ := rv.get (i := i) (x := V.bl (bs[i])) (by simp [hi])
    rw [e'] at e2
    cases e2
    have r3 : v = Value.bool bs[i] := r2
    rw [r3]
    simp [hi]
  refine call_all_walk (wpAny_pyIter_list pl.isList ⟨s.heap.objs.size, _, _, _, _, _, fun i => bs.getD i false, rfl, Walks.list (by simpa using I.ok.hd hc) _ p (Nat.ne_of_lt hl) its.toArray, ⟨⟨_, Heap.get?_push_size _ rfl, rfl, rfl⟩, pl.isList.push _⟩, fun i v s' Q' E' hP hQ' => ?_, fun h' tk hk => ?_⟩)
  · rw [hval i v hP]
    exact wpAny_pure hQ'
  · have e : (List.range its.toArray.size).all (fun i => bs.getD i false) = bs.all id := by
      have : its.toArray.size = bs.length := by simpa using hlen
      rw [this, Bool.eq_iff_iff, List.all_eq_true, List.all_eq_true]
      constructor
      · intro h b hb
        obtain ⟨i, hi, rfl⟩ := List.getElem_of_mem hb
        have := h i (List.mem_range.mpr hi)
        simpa [hi] using this
      · intro h i hi
        have hi := List.mem_range.mp hi
        have := h _ (List.getElem_mem hi)
        simpa [hi] using this
    rw [e]
    exact ⟨.bl _, H, I.kept (t' := tk) fun b o z => hk b o (fun y => by
      have y : b = s.heap.objs.size := by simpa using y
      exact absurd (Heap.lt_size z) (by rw [y]; exact Nat.lt_irrefl _)) (Heap.get?_push_of_some _ z), rfl, q⟩
end
end L2
namespace L2
open PySem PySem.Spec PyProof.Rows Mth
section
variable {P : Program} {w : World} {K : PySem.W.Frag} {mg : Str → Option Value} {base : Heap} {x qual m : Str} {st : Stmt} {dV : Value} {f C : Addr} {fd : FuncData} {N ps : List Str} {k : Nat} {sp : Sp} {ds : List Value} {dvs : List V}
def MOk (P : Program) (w : World) (K : PySem.W.Frag) (mg : Str → Option Value) (base : Heap) (C : Addr) (m qual : Str) (st : Stmt) (dV : Value) (k : Nat) (ps : List Str) (sp : Sp) : Prop :=
  ∃ f fd, Meth K C m f ∧ FunD K m qual st dV f fd ∧ FnOk P w K mg base CX0 k f fd ps sp
def MDefE (P : Program) (w : World) (K : PySem.W.Frag) (mg : Str → Option Value) (base : Heap) (C : Addr) (m : Str) (k : Nat) (ps : List Str) (dvs : List V) (sp : Sp) : Prop :=
  ∃ ds, Vals dvs ds ∧ MDef P w K mg base C m k ps ds sp
theorem HasM.mok (h : HasM K C m qual st dV) (S : FnScope N ps (defScope st)) (len : ∀ vs H Q E, sp vs H Q E → vs.length = ps.length)
    (hbody : ∀ (f : Addr) (cdv : Value) (A : Around) (outer : List Env) (s : Shared) (H : Hp) (vs : List V) (Q : VK) (E : XK), Room k (A.deeper (envOfC qual (defScope st) s.heap.objs.size f cdv)) → sp vs H Q E →
      ∃ t, PSs (cxOf CX0 P w K mg base N qual (defScope st) f cdv A outer s H E).nox (defBody st) t ∧ t { nx := fun _ H' => Q .non H', rt := Q } (start N vs) H) : MOk P w K mg base C m qual st dV (k + 1) ps sp := by
  obtain ⟨f, fd, M, F⟩ := h
  exact ⟨f, fd, M, F, F.ok S len fun cdv A outer s H vs Q E hr hs => hbody f cdv A outer s H vs Q E hr hs⟩
theorem MOk.mdef {T : Addr} {dall : List V} (h : MOk P w K mg base C m qual st (.ref T) k ps sp) (hT : DfIs K T dall)
    (hb : ∀ items : Array Value, Vals dall items.toList → ∃ ds, Vals dvs ds ∧ ∀ (kV doc pm : Value) (an : Option Addr) (cdv ct : Value) (us : List Value), (us ++ ds).length = ps.length → ∃ k, bindArgs (PySem.W.fnOf m qual (defArgs st) (defBody st) (defScope st) (.ref T) kV doc pm an cdv ct) ⟨us, []⟩ = seqItems? (.ref T) >>= k ∧ k (some items) = pure (ps.zip (us ++ ds))) :
    MDefE P w K mg base C m k ps dvs sp := by
  obtain ⟨f, fd, M, F, O⟩ := h
  obtain ⟨o, n, items, hT, ho, hv⟩ := hT
  obtain ⟨ds, hd, hb⟩ := hb items hv
  exact ⟨ds, hd, f, fd, M, F.binds hT ho hb, O⟩
def DOk (P : Program) (w : World) (K : PySem.W.Frag) (mg : Str → Option Value) (base : Heap) (x : Str) (st : Stmt) (dV : Value) (k : Nat) (ps : List Str) (sp : Sp) : Prop :=
  ∃ f fd, mg x = some (.ref f) ∧ FunD K x x st dV f fd ∧ FnOk P w K mg base CX0 k f fd ps sp
def DefE (P : Program) (w : World) (K : PySem.W.Frag) (mg : Str → Option Value) (base : Heap) (x : Str) (k : Nat) (ps : List Str) (dvs : List V) (sp : Sp) : Prop :=
  ∃ ds, Vals dvs ds ∧ DefD P w K mg base x k ps ds sp
/-- three defaults -/
theorem vals3 {a b c : V} {items : Array Value} (h : Vals [a, b, c] items.toList) : ∃ u v z, items = #[u, v, z] ∧ RelV a u ∧ RelV b v ∧ RelV c z := by
  obtain ⟨l⟩ := items
  cases h with
  | cons h1 h => cases h with
    | cons h2 h => cases h with
      | cons h3 h => cases h with
        | nil => exact ⟨_, _, _, rfl, h1, h2, h3⟩
end
section
variable {X : Cx} {C : Addr} {m x : Str} {p pos apos : Pos} {e o : Expr} {es : List Expr} {ta : TE} {t : TA} {k : Nat} {ps : List Str} {sp : Sp} {dvs : List V}
end
end L2
namespace L2
open PySem PySem.Spec PyProof.Rows Mth
theorem pg_tupK {X : Cx} {K : PySem.W.Frag} {es : List Expr} {k : Nat} {pos : Pos} {t : TGs} {n : Nat} (hK : X.K = K) (hc : X.calm = true) (h : PGs X es t)
    (hn : (assignEach es X.env).length = n := by rfl) (hst : (assignEach es X.env).findIdx? (·.1) = none := by rfl) : PG X (.Tuple es k pos) (gTup K n t) := by
  subst hK
  exact pg_tup hc h hn hst
end L2
namespace PySem
open Sem (wp)
section
variable {prog : Program} {w : World} {K : Type} [DecidableEq K] {knd : KeyKind prog w K} {A : Around} {E : Value → Shared → Prop} {s : Shared}
end
end PySem
namespace L2
open PySem PySem.Spec PyProof.Rows Mth
section
variable {X : Cx} {pins : List (Addr × Obj)} {σ : St} {H : Hp} {s : Shared} {a : Addr} {kvs : List (List Key × V)} {A : Around} {E : Value → Shared → Prop}
end
end L2
namespace L2
open PySem PySem.Spec PyProof.Rows Mth
section
variable {X : Cx}
theorem ps_comp {elt tg iter : Expr} {yi : Nat} {y : Str} {py spos : Pos} {ifs : List Expr} {scope : Scope} {pos : Pos} {wi : TI} {g : TG} {tt : TT} {te : TE} {N' : List Str} {nt : Nat} {sl : List Nat}
    (hc : X.calm = true) (hi : PI X tg iter wi) (hg : ∀ cl C s H ex, PG (cxComp X N' scope cl C s H ex) tg g) (ht : ∀ cl C s H ex, PIf (cxComp X N' scope cl C s H ex) ifs tt) (he : ∀ cl C s H ex, PE (cxComp X N' scope cl C s H ex) elt te)
    (hN' : N'.length = nt + sl.length) (hsl : ∀ k j : Nat, sl[k]? = some j → ∃ x, N'[nt + k]? = some x ∧ X.N[j]? = some x ∧ scope.names.lookup x = some .free)
    (hk : scope.kind = .function) (hcell : ∀ y ∈ scope.names, y.2 ≠ .cell) (hnames : ∀ y ∈ scope.names, y.2 = .local → scope.names.lookup y.1 = some .local)
    (hfree : ∀ y ∈ scope.names, y.2 = .free → X.env.kindOf y.1 = some .cell ∨ X.env.kindOf y.1 = some .free)
    (hN : X.N.Nodup) (hyi : X.N[yi]? = some y) (hy : Loc X.env.scope y) (hf : X.fn y = true ∨ X.env.scope.names.lookup y = some .local)
    (hsw : swapsWith (.ListComp elt [⟨tg, iter, ifs, 0⟩] scope pos) (some (.Name y py)) spos.line X.env = pure true)
    (hs : ∀ x, foldedSetIterable iter X.env x = pure x := by intro _; rfl) :
    PS X (.Assign [.Name y py] (.ListComp elt [⟨tg, iter, ifs, 0⟩] scope pos) spos) (tAsg (tComp wi g tt te nt sl) (gName yi)) := by
  intro pins s σ H DD I h
  have hcl : ∀ y ∈ scope.names, y.2 = .free → ∃ c, X.env.cells.lookup y.1 = some c := fun y hy hf => I.ok.has y.1 (hfree y hy hf)
  have csub := closL_sub (env := X.env) (names := scope.names) (acc := []) hcl (fun x c e => by simp at e)
  rw [exec_Assign_Name_used _ _ _ _ hsw]
  refine wpAny_bind (wpAny_standAt (wpAny_bind ?_))
  show wpAny _ X.A (do let _ ← comprehension (.ListComp elt [⟨tg, iter, ifs, 0⟩] scope pos) scope X.env _ (newList []) false (eval iter X.env) (some (assign (.Name y py) X.env))) _ _ s
  refine wpAny_bind (wpAny_mono (wpAny_comprehension_free (use := some (assign (.Name y py) X.env)) (Q := fun _ s' => SP X pins DD .next s') (cl := closL X.env scope.names []) rfl hs (clos_eq hcl) hk hnames (thn (hi pins s σ H _ I h) fun v s1 h1 => thn h1 fun itv s2 h2 => ?_))
    (fun _ s' hq => wpAny_pure (wpAny_pure hq)) fun _ _ e => e)
  obtain ⟨it, fp, tn, J, H2, rfl, I2, T, st2, f2, q⟩ := h2
  have nD : H2 s2.heap.objs.size = none := I2.hok.fresh (Nat.le_refl _)
  obtain ⟨W, ⟨m0, w0⟩, turn⟩ := q s2.heap.objs.size nD
  refine wpAny_newObj_type ?_ (by show 0 ≤ sizeLine; exact Nat.zero_le _)
  have I3 : Inv X pins σ (upd H2 s2.heap.objs.size (.lst [])) { s2 with heap := s2.heap.push { cls := .type "list", data := .seq ([] : List Value).toArray } } :=
    I2.laid (t' := s2.toks) (fun b u e => Heap.get?_push_of_some _ e) (Nat.le_refl _) ⟨Nat.zero_le _, [], 0, .nil, Heap.get?_push_size _ rfl⟩
  generalize hs3 : ({ s2 with heap := s2.heap.push { cls := .type "list", data := .seq ([] : List Value).toArray } } : Shared) = s3 at I3 ⊢
  have hle : s2.heap.objs.size ≤ s3.heap.objs.size := by rw [← hs3]; show _ ≤ (Heap.push _ _).objs.size; rw [Heap.size_push]; exact Nat.le_succ _
  have hkeep23 : ∀ b o, s2.heap.get? b = some o → s3.heap.get? b = some o := fun b o e => by rw [← hs3]; exact Heap.get?_push_of_some _ e
  refine wpAny_newFunctionEnv hcell (by intro y hy; simp at hy) (fun h₁ hns hsb => ?_) hk
  have keep1 : ∀ b o, s3.heap.get? b = some o → h₁.get? b = some o := fun b o e => hsb.extBut b o (Nat.ne_of_lt (Heap.lt_size e)) (Heap.get?_push_of_some _ e)
  have nC : (upd H2 s2.heap.objs.size (.lst [])) s3.heap.objs.size = none := I3.hok.fresh (Nat.le_refl _)
  have frC : s3.heap.get? s3.heap.objs.size = none := Heap.get?_none_of_le (Nat.le_refl _)
  -- the iterator's objects
  have fpIn : ∀ b ∈ fp, b < s2.heap.objs.size := fun b hb => by
    obtain ⟨o, e, _⟩ := T.obj _ _ st2 b hb
    exact Heap.lt_size e
  have fpC : ∀ b ∈ fp, b ≠ s3.heap.objs.size := fun b hb => Nat.ne_of_lt (Nat.lt_of_lt_of_le (fpIn b hb) hle)
  have fpD : ∀ b ∈ fp, b ≠ s2.heap.objs.size := fun b hb => Nat.ne_of_lt (fpIn b hb)
  have fpS : ∀ b ∈ fp, b ∉ frs X.stack := fun b hb hm => by
    rcases List.mem_cons.mp (I2.stkSub b hm) with z | z
    · exact (f2 b hb).2.1 z
    · exact (f2 b hb).2.2.1 z
  have csub' : ∀ x c, (closL X.env scope.names []).lookup x = some c → X.env.cells.lookup x = some c := csub
  have hch : ∀ b ∈ fp, (b ∈ X.ex ∨ X.s₀.heap.objs.size ≤ b) ∧ b ≠ X.env.locals ∧ (∀ x c, X.env.cells.lookup x = some c → c ≠ b) ∧ ∀ p ∈ X.pn ++ pins, p.1 ≠ b := fun b hb =>
    ⟨(f2 b hb).2.2.2.1, (f2 b hb).2.1, (f2 b hb).2.2.2.2.1, (f2 b hb).2.2.2.2.2⟩
  -- the block's context
  have ok' : (cxComp X N' scope (closL X.env scope.names []) s3.heap.objs.size s3 (upd H2 s2.heap.objs.size (.lst [])) fp).Ok := by
    refine ⟨I3.ok.mod, hk, I3.ok.glob, I3.ok.blt, Nat.le_refl _, fun x y c h1 h2 => I3.ok.inj x y c (csub x c h1) (csub y c h2), fun x hx => ?_, (fun x c hf => nomatch hf), I3.ok.hd, I3.ok.frames, .inl rfl, fun b hb => ⟨fpC b hb, fun x c e => (hch b hb).2.2.1 x c (csub x c e)⟩,
      I3.bs, Nat.le_trans I3.ok.bsz I3.sz, fun b o e hb => ?_, fpS, I3.stack, I3.stkFree⟩
    · have hm : (x, NameKind.free) ∈ scope.names := by
        rcases hx with hx | hx
        · exact relabel_of hx (.inl rfl) hcell
        · exact relabel_of hx (.inr rfl) hcell
      exact closL_has hm rfl
    · rcases (hch b hb).1 with z | z
      · exact I3.ok.noex b o e z
      · exact absurd (Nat.lt_of_lt_of_le (Heap.lt_size (I3.ok.bs b o e).1) z) (Nat.lt_irrefl _)
  have I4 : Inv (cxComp X N' scope (closL X.env scope.names []) s3.heap.objs.size s3 (upd H2 s2.heap.objs.size (.lst [])) fp) [] (List.replicate nt none ++ sl.map fun j => (σ[j]?).join) (upd H2 s2.heap.objs.size (.lst []))
      { s3 with heap := h₁, toks := s3.toks + ([] : List (Str × Value)).length } := by
    refine ⟨ok', rfl, I3.bare, Un.kept keep1, ⟨_, hns, fun i x v e1 e2 e3 => ?_⟩, fun x c e => ?_, nC, fun x c e => I3.freeC x c (csub x c e), fun p hp => absurd hp (by simp [cxComp]), I3.hok.kept keep1, ?_⟩
    · by_cases hi : i < nt
      · rw [List.getElem?_append_left (by simpa using hi), List.getElem?_replicate] at e2
        split at e2 <;> cases e2
      · rw [List.getElem?_append_right (by simpa using hi), List.length_replicate, List.getElem?_map] at e2
        cases ej : sl[i - nt]? with
        | none => rw [ej] at e2; cases e2
        | some j =>
          rw [ej] at e2
          have e2' : (σ[j]?).join = some v := Option.some.inj e2
          have eσ : σ[j]? = some (some v) := by
            cases q : σ[j]? with
            | none => rw [q] at e2'; cases e2'
            | some o => rw [q] at e2'; cases e2'; rfl
          obtain ⟨y, n1, n2, n3⟩ := hsl _ j ej
          have : nt + (i - nt) = i := by omega
          rw [this] at n1
          have exy : y = x := Option.some.inj (n1.symm.trans e1)
          subst exy
          have hm : (y, NameKind.free) ∈ scope.names := PySem.mem_of_lookup n3
          have hkx := hfree _ hm rfl
          obtain ⟨m, hn, hl⟩ := I3.loc
          have vis : Vis X.env.scope y := by
            rcases hkx with z | z
            · exact .inr (.inl z)
            · exact .inr (.inr z)
          obtain ⟨u, r, l⟩ := hl j y v n2 eσ vis
          refine ⟨u, r, .inr ⟨lookup_relabel_free n3, ?_⟩⟩
          obtain ⟨c, ec⟩ := closL_has (env := X.env) (acc := []) hm rfl
          refine ⟨c, ec, ?_⟩
          rcases l with ⟨k1, _⟩ | ⟨_, c', e', hcell'⟩
          · rcases hkx with z | z
            · rw [show X.env.kindOf y = some .local from k1] at z; cases z
            · rw [show X.env.kindOf y = some .local from k1] at z; cases z
          · have ecc : c = c' := Option.some.inj ((csub y c ec).symm.trans e')
            subst ecc
            obtain ⟨o, ho, hd⟩ := hcell'
            exact ⟨o, keep1 c o ho, hd⟩
    · obtain ⟨v, o, ho, hd⟩ := I3.cell x c (csub x c e)
      exact ⟨v, o, keep1 c o ho, hd⟩
    · show _ = N'.length
      rw [hN', List.length_append, List.length_replicate, List.length_map]
  have st4 : tn 0 h₁ := T.keep _ _ _ st2 fun b hb o e => keep1 b o (hkeep23 b o e)
  have fpok : ∀ {pl : List (Addr × Obj)} {H' : Hp}, pl = [] → (∀ b ∈ fp, H' b = none) → ∀ b ∈ fp, FpOk (cxComp X N' scope (closL X.env scope.names []) s3.heap.objs.size s3 (upd H2 s2.heap.objs.size (.lst [])) fp) pl H' b := fun {pl H'} hpl hn b hb => by
    subst hpl
    exact ⟨hn b hb, fpC b hb, fpS b hb, .inl hb, fun x c e => (hch b hb).2.2.1 x c (csub x c e), fun p hp => absurd hp (by simp [cxComp])⟩
  have fr4 : ∀ b ∈ fp, (upd H2 s2.heap.objs.size (.lst [])) b = none := fun b hb => by rw [upd_ne (fpD b hb)]; exact (f2 b hb).1
  have loop : codeAny (model X.prog X.w) X.A (.compLoop (.ListComp elt [⟨tg, iter, ifs, 0⟩] scope pos) 0 (.ref it) (.ref s2.heap.objs.size) (compEnvC scope (closL X.env scope.names []) s3.heap.objs.size X.env))
      (compPost (model X.prog X.w) X.A X.xe (some (assign (.Name y py) X.env)) (fun _ s' => SP X pins DD .next s') (.ref s2.heap.objs.size) s3.heap.objs.size) { s3 with heap := h₁, toks := s3.toks + ([] : List (Str × Value)).length } := by
    refine compLoop_go (fun n s' => ∃ i acc σ' H', Inv (cxComp X N' scope (closL X.env scope.names []) s3.heap.objs.size s3 (upd H2 s2.heap.objs.size (.lst [])) fp) [] σ' H' s' ∧ tn i s'.heap ∧ (∀ b ∈ fp, H' b = none) ∧ W i n acc σ' H') ?_ m0 ⟨0, [], _, _, I4, st4, fr4, w0⟩
    rintro n s5 ⟨i, acc, σ5, H5, I5, st5, fr5, w5⟩
    rcases turn i n acc σ5 H5 w5 with ⟨stop, qn⟩ | ⟨go, N, hN, step⟩
    · refine thn (T.done (cxComp X N' scope (closL X.env scope.names []) s3.heap.objs.size s3 (upd H2 s2.heap.objs.size (.lst [])) fp) rfl rfl rfl hc i [] s5 σ5 H5 _ I5 (fpok rfl fr5) st5 stop) fun r s6 ⟨hr, I6⟩ => ?_
      subst hr
      obtain ⟨m, hn, _⟩ := id I6.loc
      have J6 : Inv X pins σ H5 s6 := I3.call' (s' := s6) I6.os I6.base I6.hok I6.bare hch
      have fC : FpOk X pins H5 s3.heap.objs.size := I3.fpOk (Nat.le_refl _) I6.free
      refine wpAny_assign_Name (store_ok2 (v := .ref s2.heap.objs.size) J6 hN hyi hy rfl (fun s7 I7 ⟨a, sb7, ha⟩ => ?_) hf)
      have na : s3.heap.objs.size ≠ a := fun z => by
        rcases ha with q | q
        · exact fC.2.1 (z.trans q)
        · exact fC.2.2.2.2.1 _ a q z.symm
      refine ⟨m, ?_, fun h' sb => ?_⟩
      · obtain ⟨o, es, ep, ho, r⟩ := hn
        exact ⟨o, es, ep, (sb7.2 _ na).trans ho, r⟩
      · exact ⟨_, H5, I7.turned0 (ch := [s3.heap.objs.size]) (t' := s7.toks) (fun b u hb q => (sb.2 b (fun z => hb (List.mem_singleton.mpr z))).trans q) (fun b hb => by rw [List.mem_singleton.mp hb]; exact fC), qn⟩
    · refine thn (T.item (cxComp X N' scope (closL X.env scope.names []) s3.heap.objs.size s3 (upd H2 s2.heap.objs.size (.lst [])) fp) rfl rfl rfl hc i [] s5 σ5 H5 _ I5 (fpok rfl fr5) st5 go) fun r s6 ⟨u, hr, h6⟩ => ?_
      subst hr
      refine thn h6 fun _ s7 ⟨x, H7, I7, r7, y7, st7, fr7⟩ => ?_
      have I7' := I7.pinned (fpok rfl fr7) (T.obj _ _ st7)
      have again : ∀ {s8 : Shared} {σ8 : St} {H8 : Hp} {acc' : List V}, Inv (cxComp X N' scope (closL X.env scope.names []) s3.heap.objs.size s3 (upd H2 s2.heap.objs.size (.lst [])) fp) ([] ++ pinsAt fp s7.heap) σ8 H8 s8 → (∃ m', m' < n ∧ W (i + 1) m' acc' σ8 H8) →
          ∃ m, m < n ∧ ∃ i acc σ' H', Inv (cxComp X N' scope (closL X.env scope.names []) s3.heap.objs.size s3 (upd H2 s2.heap.objs.size (.lst [])) fp) [] σ' H' s8 ∧ tn i s8.heap ∧ (∀ b ∈ fp, H' b = none) ∧ W i m acc σ' H' := fun {s8 σ8 H8 acc'} I8 ⟨m', hm, w8⟩ => by
        refine ⟨m', hm, i + 1, acc', σ8, H8, I8.unpinned, T.keep _ _ _ st7 fun b hb o e => (I8.pin (b, o) (List.mem_append_right _ (List.mem_append_right _ (mem_pinsAt hb e)))).1, fun b hb => ?_, w8⟩
        obtain ⟨o, e, d⟩ := T.obj _ _ st7 b hb
        exact (I8.pin (b, o) (List.mem_append_right _ (List.mem_append_right _ (mem_pinsAt hb e)))).2.1
      refine wpAny_mono (hg _ _ _ _ _ _ s7 σ5 H7 x u _ I7' r7 (step x H7 y7)) (fun _ s8 ⟨σ8, H8, I8, q8⟩ => ?_) fun _ _ z => False.elim z
      refine wpAny_mono (ht _ _ _ _ _ _ s8 σ8 H8 _ I8 q8) (fun ok s9 ⟨H9, I9, q9⟩ => ?_) fun _ _ z => False.elim z
      cases ok with
      | false =>
        rw [if_neg Bool.false_ne_true] at q9 ⊢
        exact again I9 (hN _ _ _ q9)
      | true =>
        rw [if_pos rfl] at q9 ⊢
        refine wpAny_mono (he _ _ _ _ _ _ s9 σ8 H9 _ I9 q9) (fun y s10 ⟨yv, H10, I10, r10, hD, hz, q10⟩ => ?_) fun _ _ z => False.elim z
        refine wpAny_mono (mt_append (X := (cxComp X N' scope (closL X.env scope.names []) s3.heap.objs.size s3 (upd H2 s2.heap.objs.size (.lst [])) fp)) _ s10 σ8 H10 (.ref s2.heap.objs.size) [yv] (.ref s2.heap.objs.size) [y] (fun _ H11 => N (acc ++ [yv]) σ8 H11) I10 rfl (.cons r10 .nil) ⟨_, acc, yv, rfl, rfl, hD, hz, q10⟩) (fun _ s11 ⟨v11, H11, I11, r11, q11⟩ => ?_) fun _ _ z => False.elim z
        exact again I11 (hN _ _ _ q11)
  exact codeAny_compStart_list loop (T.self _ 0 _ _ _ st4 loop)

theorem ps_lc {elt tg iter : Expr} {yi : Nat} {y : Str} {py spos : Pos} {ifs : List Expr} {scope : Scope} {pos : Pos} {wi : TI} {g : TG} {tt : TT} {te : TE} (tn fr : List Str) (sl : List Nat)
    (hp : Paired (fun (j : Nat) (x : Str) => X.N[j]? = some x ∧ scope.names.lookup x = some .free ∧ (X.env.kindOf x = some .cell ∨ X.env.kindOf x = some .free)) sl fr)
    (hc : X.calm = true) (hi : PI X tg iter wi) (hg : ∀ cl C s H ex, PG (cxComp X (tn ++ fr) scope cl C s H ex) tg g) (ht : ∀ cl C s H ex, PIf (cxComp X (tn ++ fr) scope cl C s H ex) ifs tt) (he : ∀ cl C s H ex, PE (cxComp X (tn ++ fr) scope cl C s H ex) elt te)
    (hk : scope.kind = .function) (hcell : ∀ y ∈ scope.names, y.2 ≠ .cell) (hnames : ∀ y ∈ scope.names, y.2 = .local → scope.names.lookup y.1 = some .local)
    (hfree : ∀ y ∈ scope.names, y.2 = .free → y.1 ∈ fr)
    (hN : X.N.Nodup) (hyi : X.N[yi]? = some y) (hy : Loc X.env.scope y) (hsw : swapsWith (.ListComp elt [⟨tg, iter, ifs, 0⟩] scope pos) (some (.Name y py)) spos.line X.env = pure true)
    (hf : X.fn y = true ∨ X.env.scope.names.lookup y = some .local := by first | exact .inl rfl | exact .inr rfl | assumption)
    (hs : ∀ x, foldedSetIterable iter X.env x = pure x := by intro _; rfl) :
    PS X (.Assign [.Name y py] (.ListComp elt [⟨tg, iter, ifs, 0⟩] scope pos) spos) (tAsg (tComp wi g tt te tn.length sl) (gName yi)) := by
  have key : ∀ {sl : List Nat} {fr : List Str}, Paired (fun (j : Nat) (x : Str) => X.N[j]? = some x ∧ scope.names.lookup x = some .free ∧ (X.env.kindOf x = some .cell ∨ X.env.kindOf x = some .free)) sl fr →
      (∀ k j : Nat, sl[k]? = some j → ∃ x, fr[k]? = some x ∧ X.N[j]? = some x ∧ scope.names.lookup x = some .free) ∧ ∀ x ∈ fr, X.env.kindOf x = some .cell ∨ X.env.kindOf x = some .free := by
    intro sl fr hp
    induction hp with
    | nil => exact ⟨fun k j h => by simp at h, fun x hx => by simp at hx⟩
    | cons r t ih =>
      refine ⟨fun k j h => ?_, fun x hx => ?_⟩
      · cases k with
        | zero =>
          have e : _ = j := Option.some.inj h
          subst e
          exact ⟨_, rfl, r.1, r.2.1⟩
        | succ k => exact ih.1 k j (by simpa using h)
      · rcases List.mem_cons.mp hx with z | z
        · rw [z]; exact r.2.2
        · exact ih.2 x z
  refine ps_comp (N' := tn ++ fr) hc hi hg ht he (by rw [List.length_append, hp.length]) (fun k j h => ?_) hk hcell hnames (fun y hy hf => (key hp).2 _ (hfree y hy hf)) hN hyi hy hf hsw hs
  obtain ⟨x, e1, e2⟩ := (key hp).1 k j h
  exact ⟨x, by rw [List.getElem?_append_right (Nat.le_add_right _ _), Nat.add_sub_cancel_left]; exact e1, e2⟩
end
end L2
namespace L2
open PySem PySem.Spec PyProof.Rows Mth
abbrev Fra := Int × Int
structure HoldM where
  most : Int
  cap : Int
  load : Int
  rows : List (List Fra)
  flows : Int → Int → Option Fra
  skies : List (Fra × Fra × Fra)
  stoves : List (Option (Fra × Int × Int × Int))
abbrev skyD (s : Fra × Fra × Fra) : PyData := .tuple [frD s.1, frD s.2.1, frD s.2.2]
abbrev stoveD : Option (Fra × Int × Int × Int) → PyData
  | none => .none
  | some s => .tuple [frD s.1, .int s.2.1, .int s.2.2.1, .int s.2.2.2]
abbrev rowD (r : List Fra) : PyData := .tuple (r.map frD)
def hfs (m : HoldM) (pm pf ps pt : Addr) : List (Str × V) :=
  [("most", .int m.most), ("cap", .int m.cap), ("load", .int m.load), ("mark_rows", .ref pm), ("flows", .ref pf), ("skies", .ref ps), ("stoves", .ref pt)]
section
variable (m : HoldM) (pm pf ps pt : Addr)
theorem hfs_rows : (hfs m pm pf ps pt).lookup ("mark_rows" : Str) = some (.ref pm) := by rfl
theorem hfs_flows : (hfs m pm pf ps pt).lookup ("flows" : Str) = some (.ref pf) := by rfl
theorem hfs_skies : (hfs m pm pf ps pt).lookup ("skies" : Str) = some (.ref ps) := by rfl
theorem hfs_stoves : (hfs m pm pf ps pt).lookup ("stoves" : Str) = some (.ref pt) := by rfl
end
def FlowIs (K : PySem.W.Frag) (H : Hp) : Option Fra → Option V → Prop
  | none, none => True
  | some f, some v => Dn K H (frD f) v
  | _, _ => False
abbrev fkey (i j : Int) : List Key := [.inl i, .inl j]
/-- keys of flows: pairs of room numbers, each once -/
def FKeys (kvs : List (List Key × V)) : Prop := (kvs.map (·.1)).Nodup ∧ ∀ p ∈ kvs, ∃ i j : Nat, i < 4 ∧ j < 4 ∧ p.1 = fkey i j
end L2
namespace Mth
/-- a fraction in lowest terms -/
def nf (t b : Int) : Int × Int := (t.fdiv (Int.gcd t b : Nat), b.fdiv (Int.gcd t b : Nat))
theorem dvd_cop {r q s : Int} (h : r ∣ q * s) (c : Int.gcd q r = 1) : r ∣ s := by
  have h1 : r.natAbs ∣ q.natAbs * s.natAbs := by rw [← Int.natAbs_mul]; exact Int.natAbs_dvd_natAbs.mpr h
  have h2 : Nat.Coprime r.natAbs q.natAbs := by rw [Nat.coprime_comm]; exact c
  exact Int.natAbs_dvd_natAbs.mp (Nat.Coprime.dvd_of_dvd_mul_left h2 h1)
theorem Fr.uniq {t b q r q' r' : Int} (hb : b ≠ 0) (h : Fr t b q r) (k : Fr t b q' r') : q = q' ∧ r = r' := by
  have e : q * r' = q' * r := by
    have e1 : (q * r') * b = (q' * r) * b := by
      have a1 := h.cross
      have a2 := k.cross
      calc (q * r') * b = (q * b) * r' := by rw [Int.mul_right_comm]
        _ = (t * r) * r' := by rw [a1]
        _ = (t * r') * r := by rw [Int.mul_right_comm]
        _ = (q' * b) * r := by rw [a2]
        _ = (q' * r) * b := by rw [Int.mul_right_comm]
    exact Int.eq_of_mul_eq_mul_right hb e1
  have d1 : r ∣ r' := by
    have : r ∣ q * r' := ⟨q', by rw [e, Int.mul_comm]⟩
    exact dvd_cop this h.cop
  have d2 : r' ∣ r := by
    have : r' ∣ q' * r := ⟨q, by rw [← e, Int.mul_comm]⟩
    exact dvd_cop this k.cop
  have er : r = r' := Int.dvd_antisymm (Int.le_of_lt h.pos) (Int.le_of_lt k.pos) d1 d2
  subst er
  exact ⟨Int.eq_of_mul_eq_mul_right (Int.ne_of_gt h.pos) e, rfl⟩
theorem nf_fr {t b : Int} (hb : 0 < b) : Fr t b (nf t b).1 (nf t b).2 := (fr_of (Int.ne_of_gt hb) rfl).2.2.1 hb
theorem Fr.nf {t b q r : Int} (hb : 0 < b) (h : Fr t b q r) : (q, r) = nf t b := by
  obtain ⟨e1, e2⟩ := h.uniq (Int.ne_of_gt hb) (nf_fr hb)
  rw [e1, e2]
def plusM (x y : Int × Int) : Int × Int := nf (x.1 * y.2 + y.1 * x.2) (x.2 * y.2)
def minusM (x y : Int × Int) : Int × Int := nf (x.1 * y.2 - y.1 * x.2) (x.2 * y.2)
def underM (x y : Int × Int) : Bool := decide (x.1 * y.2 < y.1 * x.2)
/-- top and bottom below 2 ^ n, the bottom above nought -/
structure OkF (n : Nat) (f : Int × Int) : Prop where
  t : Bd n f.1
  b : Bd n f.2
  p : 0 < f.2
theorem OkF.mono {m n : Nat} {f : Int × Int} (h : OkF m f) (l : m ≤ n) : OkF n f := ⟨h.t.mono l, h.b.mono l, h.p⟩
theorem OkF.minus {m n : Nat} {x y : Int × Int} (h : OkF m x) (k : OkF n y) : OkF (m + n + 1) (minusM x y) := by
  have F := nf_fr (t := x.1 * y.2 - y.1 * x.2) (b := x.2 * y.2) (Int.mul_pos h.p k.p)
  have b1 : Bd (m + n) (x.1 * y.2) := h.t.mul k.b
  have b2 : Bd (m + n) (y.1 * x.2) := by rw [Nat.add_comm]; exact k.t.mul h.b
  exact ⟨F.bdq (b1.sub b2), F.bdr ((h.b.mul k.b).mono (Nat.le_succ _)), F.pos⟩
theorem OkF.plus {m n : Nat} {x y : Int × Int} (h : OkF m x) (k : OkF n y) : OkF (m + n + 1) (plusM x y) := by
  have F := nf_fr (t := x.1 * y.2 + y.1 * x.2) (b := x.2 * y.2) (Int.mul_pos h.p k.p)
  have b1 : Bd (m + n) (x.1 * y.2) := h.t.mul k.b
  have b2 : Bd (m + n) (y.1 * x.2) := by rw [Nat.add_comm]; exact k.t.mul h.b
  exact ⟨F.bdq (b1.add b2), F.bdr ((h.b.mul k.b).mono (Nat.le_succ _)), F.pos⟩
theorem ok01 : OkF 100 (0, 1) := ⟨(by decide : (_ : Int).natAbs < _), (by decide : (_ : Int).natAbs < _), by decide⟩
theorem ok11 : OkF 100 (1, 1) := ⟨(by decide : (_ : Int).natAbs < _), (by decide : (_ : Int).natAbs < _), by decide⟩
end Mth
namespace L2
open PySem PySem.Spec PyProof.Rows Mth
structure HoldM.Wf (m : HoldM) : Prop where
  rows : ∀ r ∈ m.rows, ∀ f ∈ r, OkF 100 f
  len : ∀ r ∈ m.rows, 2 ≤ r.length ∧ r.length ≤ 7
  flows : ∀ i j f, m.flows i j = some f → OkF 100 f
  skies : ∀ s ∈ m.skies, OkF 100 s.1 ∧ OkF 100 s.2.1 ∧ OkF 100 s.2.2
  stoves : ∀ x, some x ∈ m.stoves → OkF 100 x.1
/-- a hold at a: its own objects fp -/
structure HoldAt (K : PySem.W.Frag) (C : Addr) (H : Hp) (a : Addr) (fp : List Addr) (m : HoldM) : Prop where
  ex : ∃ dx pm pf ps pt vm vs vt kvs, fp = [a, dx, pm, pf, ps, pt] ∧ H a = some (.ins C dx (hfs m pm pf ps pt)) ∧ H dx = some (.own a) ∧ H pm = some (.lst vm) ∧ H pf = some (.dT kvs) ∧ H ps = some (.lst vs) ∧ H pt = some (.lst vt) ∧
    pm ≠ ps ∧ pm ≠ pt ∧ ps ≠ pt ∧ DnA K H (m.rows.map rowD) vm ∧ DnA K H (m.skies.map skyD) vs ∧ DnA K H (m.stoves.map stoveD) vt ∧ (∀ i j, FlowIs K H (m.flows i j) (valV kvs (fkey i j))) ∧ FKeys kvs
  sk : m.skies.length = m.rows.length
  st : m.stoves.length = m.rows.length
  mx : m.rows.length ≤ 4
  wf : m.Wf
def But (fp : List Addr) (H H' : Hp) : Prop := ∀ b o, H b = some o → b ∉ fp → H' b = some o
def HoldM.flow (m : HoldM) (i j : Nat) : Fra := (m.flows i j).getD (0, 1)
def HoldM.skyS (m : HoldM) (i : Nat) : Fra := ((m.skies[i]?).map (·.1)).getD (0, 1)
def HoldM.ownTo (m : HoldM) (i n : Nat) : Fra := (List.range n).foldl (fun acc j => minusM acc (m.flow i j)) (minusM (1, 1) (m.skyS i))
def HoldM.own (m : HoldM) (i : Nat) : Fra := m.ownTo i m.rows.length
def HoldM.share (m : HoldM) (i j : Nat) : Fra := if i = j then m.own i else m.flow i j
theorem HoldM.Wf.flow {m : HoldM} (w : m.Wf) (i j : Nat) : OkF 100 (m.flow i j) := by
  unfold HoldM.flow
  cases e : m.flows i j with
  | none => exact ok01
  | some f => exact w.flows i j f e
theorem HoldM.Wf.skyS {m : HoldM} (w : m.Wf) (i : Nat) : OkF 100 (m.skyS i) := by
  unfold HoldM.skyS
  cases e : m.skies[i]? with
  | none => exact ok01
  | some f => exact (w.skies f (List.mem_of_getElem? e)).1
theorem HoldM.ownTo_succ (m : HoldM) (i n : Nat) : m.ownTo i (n + 1) = minusM (m.ownTo i n) (m.flow i n) := by
  unfold HoldM.ownTo
  rw [List.range_succ, List.foldl_append]; rfl
theorem HoldM.Wf.ownTo {m : HoldM} (w : m.Wf) (i : Nat) : ∀ n, OkF (201 + 101 * n) (m.ownTo i n)
  | 0 => (ok11.minus (w.skyS i)).mono (by decide)
  | n + 1 => by
    rw [HoldM.ownTo_succ]
    exact ((w.ownTo i n).minus (w.flow i n)).mono (by omega)
section
variable {K : PySem.W.Frag} {H : Hp} {v : V}
theorem Dn.sky {s : Fra × Fra × Fra} (h : Dn K H (skyD s) v) : ∃ p v1 v2 v3, v = .ref p ∧ SqT K H p [v1, v2, v3] ∧ Dn K H (frD s.1) v1 ∧ Dn K H (frD s.2.1) v2 ∧ Dn K H (frD s.2.2) v3 := by
  obtain ⟨p, xs, e, q, x1, r1, e1, d1, x2, r2, e2, d2, x3, r3, e3, d3, e4⟩ := h
  have e4 : r3 = [] := e4
  subst e1 e2 e3 e4
  exact ⟨p, x1, x2, x3, e, q, d1, d2, d3⟩
theorem dn_sky {s : Fra × Fra × Fra} {p : Addr} {v1 v2 v3 : V} (q : SqT K H p [v1, v2, v3]) (d1 : Dn K H (frD s.1) v1) (d2 : Dn K H (frD s.2.1) v2) (d3 : Dn K H (frD s.2.2) v3) : Dn K H (skyD s) (.ref p) :=
  dn_tup q (dn_cons d1 (dn_cons d2 (dn_cons d3 dn_nil)))
theorem flat_sky (s : Fra × Fra × Fra) : flatD (skyD s) = true := by simp [skyD, frD, flatD]
theorem flat_stove (s : Option (Fra × Int × Int × Int)) : flatD (stoveD s) = true := by cases s <;> simp [stoveD, frD, flatD]
theorem flat_row (r : List Fra) : flatD (rowD r) = true := flatD_tuple.mpr fun d hd => by
  obtain ⟨f, _, rfl⟩ := List.mem_map.mp hd
  exact flat_fr f
theorem KTup.fr {a : Addr} {f : Fra} (h : KTup K a [.int f.1, .int f.2]) : Dn K H (frD f) (.ref a) := dn_fr (h.at H)
end
theorem get_nat {α : Type} {l : List α} {i : Nat} (h : i < l.length) : l[i]? = some l[i] := List.getElem?_eq_getElem h
theorem atI_natI {α : Type} {xs : List α} {i : Nat} {v : α} (h : xs[i]? = some v) : atI xs (i : Int) = some v := atI_nat h
theorem flow_at {K : PySem.W.Frag} {H : Hp} {o : Option Fra} {r : Option V} {z : V} (h : FlowIs K H o r) (hz : Dn K H (frD (0, 1)) z) : Dn K H (frD (o.getD (0, 1))) (r.getD z) := by
  cases o with
  | none => cases r with
    | none => exact hz
    | some v => exact (show False from h).elim
  | some f => cases r with
    | none => exact (show False from h).elim
    | some v => exact h
def sp_upto : Sp := fun vs H Q _ => ∃ n g : Int, vs = [.int n, .int g] ∧ Q (.bl (decide (0 ≤ n ∧ n ≤ g))) H
section
variable (K : PySem.W.Frag) (C : Addr)
def sp_many : Sp := fun vs H Q _ => ∃ a fp m, vs = [.ref a] ∧ HoldAt K C H a fp m ∧ Q (natV m.rows.length) H
def sp_look_for : Sp := fun vs H Q _ => ∃ a fp m, ∃ i : Nat, vs = [.ref a, natV i] ∧ HoldAt K C H a fp m ∧ i < m.rows.length ∧ Q .non H
def sp_sky : Sp := fun vs H Q _ => ∃ a fp m, ∃ i : Nat, ∃ s, vs = [.ref a, natV i] ∧ HoldAt K C H a fp m ∧ m.skies[i]? = some s ∧ ∀ v, Dn K H (skyD s) v → Q v H
def sp_stove : Sp := fun vs H Q _ => ∃ a fp m, ∃ i : Nat, ∃ s, vs = [.ref a, natV i] ∧ HoldAt K C H a fp m ∧ m.stoves[i]? = some s ∧ ∀ v, Dn K H (stoveD s) v → Q v H
def sp_marks : Sp := fun vs H Q _ => ∃ a fp m, ∃ i : Nat, ∃ r, vs = [.ref a, natV i] ∧ HoldAt K C H a fp m ∧ m.rows[i]? = some r ∧ ∀ p xs, H p = none → DnA K H (r.map frD) xs → Q (.ref p) (upd H p (.lst xs))
def sp_own : Sp := fun vs H Q _ => ∃ a fp m, ∃ i : Nat, vs = [.ref a, natV i] ∧ HoldAt K C H a fp m ∧ i < m.rows.length ∧ ∀ v H', Same H H' → Dn K H' (frD (m.own i)) v → Q v H'
def sp_share : Sp := fun vs H Q _ => ∃ a fp m, ∃ i j : Nat, vs = [.ref a, natV i, natV j] ∧ HoldAt K C H a fp m ∧ i < m.rows.length ∧ j < m.rows.length ∧ ∀ v H', Same H H' → Dn K H' (frD (m.share i j)) v → Q v H'
end
theorem HoldAt.same {K : PySem.W.Frag} {C : Addr} {H H' : Hp} {a : Addr} {fp : List Addr} {m : HoldM} (s : Same H H') (h : HoldAt K C H a fp m) : HoldAt K C H' a fp m := by
  obtain ⟨⟨dx, pm, pf, ps, pt, vm, vs, vt, kvs, e, ha, hdx, hpm, hpf, hps, hpt, n1, n2, n3, dm, ds, dt, df, fk⟩, q1, q2, q3, q4⟩ := h
  refine ⟨⟨dx, pm, pf, ps, pt, vm, vs, vt, kvs, e, s _ _ ha, s _ _ hdx, s _ _ hpm, s _ _ hpf, s _ _ hps, s _ _ hpt, n1, n2, n3, DnA.same s _ dm, DnA.same s _ ds, DnA.same s _ dt, fun i j => ?_, fk⟩, q1, q2, q3, q4⟩
  have := df i j
  revert this
  cases m.flows i j <;> cases valV kvs (fkey i j) <;> intro q
  · exact q
  · exact q
  · exact q
  · exact Dn.same s _ q
end L2
namespace L2
open PySem PySem.Spec PyProof.Rows Mth
theorem sz1 {x : V} : [x].length ≤ sizeLine := by show 1 ≤ sizeLine; decide
theorem nodup_len {α : Type} [DecidableEq α] : ∀ (l L : List α), l.Nodup → (∀ x ∈ l, x ∈ L) → l.length ≤ L.length
  | [], _, _, _ => Nat.zero_le _
  | x :: l, L, hn, hs => by
    obtain ⟨h1, h2⟩ := List.nodup_cons.mp hn
    have hx := hs x List.mem_cons_self
    have := nodup_len l (L.erase x) h2 fun y hy => (List.mem_erase_of_ne (fun e => h1 (by rw [← e]; exact hy))).mpr (hs y (List.mem_cons_of_mem _ hy))
    rw [List.length_erase_of_mem hx] at this
    have hp := List.length_pos_of_mem hx
    rw [List.length_cons]
    omega
def allKeys : List (List Key) := (List.range 4).flatMap fun (i : Nat) => (List.range 4).map fun (j : Nat) => fkey (i : Int) (j : Int)
theorem FKeys.len {kvs : List (List Key × V)} (h : FKeys kvs) : kvs.length ≤ 16 := by
  have := nodup_len (kvs.map (·.1)) allKeys h.1 fun x hx => by
    obtain ⟨p, hp, rfl⟩ := List.mem_map.mp hx
    obtain ⟨i, j, hi, hj, e⟩ := h.2 p hp
    rw [e]
    exact List.mem_flatMap.mpr ⟨i, List.mem_range.mpr hi, List.mem_map.mpr ⟨j, List.mem_range.mpr hj, rfl⟩⟩
  rw [List.length_map] at this
  exact Nat.le_trans this (by decide)
theorem FKeys.put {kvs : List (List Key × V)} (h : FKeys kvs) {i j : Nat} (hi : i < 4) (hj : j < 4) (v : V) : FKeys (putK kvs (fkey i j) v) := by
  refine ⟨?_, fun p hp => ?_⟩
  · cases e : valV kvs (fkey i j) with
    | none => exact nd_putK v h.1 e
    | some y =>
      have hc : (kvs.any fun kv => decide (kv.1 = fkey i j)) = true := by
        unfold valV at e
        cases q : kvs.find? fun kv => decide (kv.1 = fkey i j) with
        | none => rw [q] at e; cases e
        | some z => have q2 := List.find?_some q; exact List.any_eq_true.mpr ⟨z, List.mem_of_find?_eq_some q, q2⟩
      unfold putK
      rw [if_pos hc, List.map_map]
      have : ((fun x : List Key × V => x.1) ∘ fun kv : List Key × V => if kv.1 = fkey i j then (kv.1, v) else kv) = fun x => x.1 := by
        funext x
        show (if x.1 = fkey i j then (x.1, v) else x).1 = x.1
        split <;> rfl
      rw [this]
      exact h.1
  · unfold putK at hp
    split at hp
    · obtain ⟨z, hz, rfl⟩ := List.mem_map.mp hp
      obtain ⟨a, b, ha, hb, e⟩ := h.2 z hz
      refine ⟨a, b, ha, hb, ?_⟩
      split <;> exact e
    · rcases List.mem_append.mp hp with hp | hp
      · exact h.2 p hp
      · have : p = (fkey i j, v) := by simpa using hp
        subst this
        exact ⟨i, j, hi, hj, rfl⟩
theorem fkey_inj {i j i' j' : Int} (h : fkey i j = fkey i' j') : i = i' ∧ j = j' := by
  simp only [fkey, List.cons.injEq, Sum.inl.injEq, and_true] at h
  exact h
def HoldM.setFlow (m : HoldM) (i j : Nat) (f : Fra) : HoldM := { m with flows := fun a b => if a = (i : Int) ∧ b = (j : Int) then some f else m.flows a b }
def HoldM.setSky (m : HoldM) (i : Nat) (s : Fra × Fra × Fra) : HoldM := { m with skies := m.skies.set i s }
def HoldM.setStove (m : HoldM) (i : Nat) (s : Fra × Int × Int × Int) : HoldM := { m with stoves := m.stoves.set i (some s) }
def HoldM.addRoom (m : HoldM) (r : List Fra) : HoldM := { m with rows := m.rows ++ [r], skies := m.skies ++ [((0, 1), (0, 1), (0, 1))], stoves := m.stoves ++ [none] }
def HoldM.new (most cap load : Int) : HoldM := ⟨most, cap, load, [], fun _ _ => none, [], []⟩
/-- a deed on a hold: its own objects and new ones alone are changed, the tuples stay -/
structure Deed (K : PySem.W.Frag) (C : Addr) (H : Hp) (a : Addr) (fp : List Addr) (m' : HoldM) (H' : Hp) (fp' : List Addr) : Prop where
  at_ : HoldAt K C H' a fp' m'
  but : But fp H H'
  ts : TStay K H H'
  own : ∀ b ∈ fp', b ∈ fp ∨ H b = none
theorem FlowIs.ts {K : PySem.W.Frag} {H H' : Hp} (s : TStay K H H') : ∀ {o : Option Fra} {v : Option V}, FlowIs K H o v → FlowIs K H' o v
  | none, none, _ => trivial
  | some f, some v, h => Dn.ts s _ (flat_fr f) h
  | none, some _, h => h
  | some _, none, h => h
theorem rows_ts {K : PySem.W.Frag} {H H' : Hp} {rs : List (List Fra)} {xs : List V} (s : TStay K H H') (h : DnA K H (rs.map rowD) xs) : DnA K H' (rs.map rowD) xs := DnA.ts s _ (fun d hd => by obtain ⟨r, _, rfl⟩ := List.mem_map.mp hd; exact flat_row r) h
theorem skies_ts {K : PySem.W.Frag} {H H' : Hp} {rs : List (Fra × Fra × Fra)} {xs : List V} (s : TStay K H H') (h : DnA K H (rs.map skyD) xs) : DnA K H' (rs.map skyD) xs := DnA.ts s _ (fun d hd => by obtain ⟨r, _, rfl⟩ := List.mem_map.mp hd; exact flat_sky r) h
theorem stoves_ts {K : PySem.W.Frag} {H H' : Hp} {rs : List (Option (Fra × Int × Int × Int))} {xs : List V} (s : TStay K H H') (h : DnA K H (rs.map stoveD) xs) : DnA K H' (rs.map stoveD) xs := DnA.ts s _ (fun d hd => by obtain ⟨r, _, rfl⟩ := List.mem_map.mp hd; exact flat_stove r) h
def risingM (r : List Fra) : Bool := (List.zipWith underM r r.tail).all id
def bandsM (rs : List (List Fra)) : Int := rs.foldl (fun p r => p * ((r.length : Int) - 1)) 1
section
variable (K : PySem.W.Frag) (C : Addr)
def sp_fits : Sp := fun vs H Q _ => ∃ a fp m, ∃ i : Nat, ∃ v1 v2 f g, vs = [.ref a, natV i, v1, v2] ∧ HoldAt K C H a fp m ∧ i < m.rows.length ∧ Dn K H (frD f) v1 ∧ Dn K H (frD g) v2 ∧ OkF 100 f ∧ OkF 100 g ∧
  0 ≤ f.1 ∧ underM (plusM (m.own i) g) f = false ∧ ∀ H', Same H H' → Q .non H'
def sp_put_flow : Sp := fun vs H Q _ => ∃ a fp m, ∃ i j : Nat, ∃ v f, vs = [.ref a, natV i, natV j, v] ∧ HoldAt K C H a fp m ∧ i < m.rows.length ∧ j < m.rows.length ∧ i ≠ j ∧ Dn K H (frD f) v ∧ OkF 100 f ∧
  0 ≤ f.1 ∧ underM (plusM (m.own i) (m.flow i j)) f = false ∧ ∀ H' fp', Deed K C H a fp (m.setFlow i j f) H' fp' → Q .non H'
def sp_put_sky : Sp := fun vs H Q _ => ∃ a fp m, ∃ i : Nat, ∃ v1 v2 v3 f lo hi, vs = [.ref a, natV i, v1, v2, v3] ∧ HoldAt K C H a fp m ∧ i < m.rows.length ∧ Dn K H (frD f) v1 ∧ Dn K H (frD lo) v2 ∧ Dn K H (frD hi) v3 ∧
  OkF 100 f ∧ OkF 100 lo ∧ OkF 100 hi ∧ underM hi lo = false ∧ 0 ≤ f.1 ∧ underM (plusM (m.own i) (m.skyS i)) f = false ∧ ∀ H' fp', Deed K C H a fp (m.setSky i (f, lo, hi)) H' fp' → Q .non H'
def sp_put_stove : Sp := fun vs H Q _ => ∃ a fp m, ∃ i : Nat, ∃ v f, ∃ w st fl : Int, vs = [.ref a, natV i, v, .int w, .int st, .int fl] ∧ HoldAt K C H a fp m ∧ i < m.rows.length ∧ Dn K H (frD f) v ∧ OkF 100 f ∧ 0 ≤ f.1 ∧
  (0 ≤ w ∧ w ≤ 9) ∧ (0 ≤ st ∧ st ≤ 3) ∧ (0 ≤ fl ∧ fl ≤ 3) ∧ ∀ H' fp', Deed K C H a fp (m.setStove i (f, w, st, fl)) H' fp' → Q .non H'
def sp_rising : Sp := fun vs H Q _ => ∃ p xs r, vs = [.ref p] ∧ SqL K H p xs ∧ DnA K H (r.map frD) xs ∧ (∀ f ∈ r, OkF 100 f) ∧ r.length ≤ 7 ∧ ∀ H', Same H H' → Q (.bl (risingM r)) H'
def sp_bands : Sp := fun vs H Q _ => ∃ p xs rs, vs = [.ref p] ∧ SqL K H p xs ∧ DnA K H (rs.map rowD) xs ∧ rs.length ≤ 5 ∧ (∀ r ∈ rs, 1 ≤ r.length ∧ r.length ≤ 7) ∧ Q (.int (bandsM rs)) H
def sp_put_room : Sp := fun vs H Q _ => ∃ a fp m p xs r, vs = [.ref a, .ref p] ∧ HoldAt K C H a fp m ∧ m.rows.length < 4 ∧ SqL K H p xs ∧ DnA K H (r.map frD) xs ∧ (∀ f ∈ r, OkF 100 f) ∧ 2 ≤ r.length ∧ r.length ≤ 7 ∧ risingM r = true ∧ bandsM (m.rows ++ [r]) ≤ 400 ∧
  ∀ H' fp', Deed K C H a fp (m.addRoom r) H' fp' → Q (natV m.rows.length) H'
def sp_init : Sp := fun vs H Q _ => ∃ x dx, ∃ most cap load : Int, vs = [.ref x, .int most, .int cap, .int load] ∧ H x = some (.ins C dx []) ∧ H dx = some (.own x) ∧ (0 ≤ most ∧ most ≤ 4) ∧ (0 ≤ cap ∧ cap ≤ 30) ∧ (0 ≤ load ∧ load ≤ 30) ∧
  ∀ H' fp', Deed K C H x [x, dx] (HoldM.new most cap load) H' fp' → Q .non H'
end
end L2
namespace L2
open PySem PySem.Spec PyProof.Rows Mth
theorem ne_obj {H : Hp} {a b : Addr} {o u : HO} (h : H a = some o) (k : H b = some u) (n : o ≠ u) : a ≠ b := fun e => by
  subst e
  rw [h] at k
  exact n (Option.some.inj k)
theorem hfs_inj {m : HoldM} {C dx dx' pm pf ps pt pm' pf' ps' pt' : Addr} (h : some (HO.ins C dx (hfs m pm pf ps pt)) = some (HO.ins C dx' (hfs m pm' pf' ps' pt'))) : dx = dx' ∧ pm = pm' ∧ pf = pf' ∧ ps = ps' ∧ pt = pt' := by
  simp only [hfs, Option.some.injEq, HO.ins.injEq, List.cons.injEq, Prod.mk.injEq, true_and, and_true, V.ref.injEq] at h
  exact h
theorem But.same {fp : List Addr} {H H' : Hp} (s : Same H H') : But fp H H' := fun b o h _ => s b o h
theorem But.upd {fp : List Addr} {H H' : Hp} {p : Addr} {o : HO} (b : But fp H H') (hp : p ∈ fp) : But fp H (upd H' p o) := fun c u h n => by
  rw [upd_ne (fun e => n (by rw [e]; exact hp))]
  exact b c u h n
section
variable {K : PySem.W.Frag} {C : Addr} {H H1 : Hp} {a : Addr} {fp : List Addr} {m : HoldM}
theorem deed_flow {dx pm pf ps pt : Addr} {kvs : List (List Key × V)} {i j : Nat} {f : Fra} {v : V} (hh : HoldAt K C H a fp m) (s : Same H H1) (ha : H a = some (.ins C dx (hfs m pm pf ps pt))) (hpf : H pf = some (.dT kvs))
    (hi : i < 4) (hj : j < 4) (d : Dn K H1 (frD f) v) (o : OkF 100 f) : Deed K C H a fp (m.setFlow i j f) (upd H1 pf (.dT (putK kvs (fkey i j) v))) fp := by
  obtain ⟨⟨dx', pm', pf', ps', pt', vm, vs, vt, kvs', efp, ha', hdx, hpm, hpf', hps, hpt, n1, n2, n3, dm, ds, dt, df, fk⟩, q1, q2, q3, q4⟩ := hh
  obtain ⟨rfl, rfl, rfl, rfl, rfl⟩ := hfs_inj (ha'.symm.trans ha)
  obtain rfl : kvs' = kvs := by
    have := hpf'.symm.trans hpf
    injection this with e
    injection e
  have t1 : TStay K H1 (upd H1 pf' (.dT (putK kvs' (fkey i j) v))) := ts_upd (s _ _ hpf') rfl
  have t0 := (Same.ts (K := K) s).trans t1
  have w : ∀ {b o}, H b = some o → o ≠ .dT kvs' → (upd H1 pf' (.dT (putK kvs' (fkey i j) v))) b = some o := fun h n => by
    rw [upd_ne (ne_obj h hpf' n)]
    exact s _ _ h
  refine ⟨⟨⟨dx', pm', pf', ps', pt', vm, vs, vt, putK kvs' (fkey i j) v, efp, w ha' nofun, w hdx nofun, w hpm nofun, upd_same, w hps nofun, w hpt nofun, n1, n2, n3, rows_ts t0 dm, skies_ts t0 ds, stoves_ts t0 dt, fun i' j' => ?_, fk.put hi hj v⟩, q1, q2, q3, ⟨q4.rows, q4.len, fun i' j' g hg => ?_, q4.skies, q4.stoves⟩⟩, (But.same s).upd (by rw [efp]; simp), t0, fun b hb => .inl hb⟩
  · rw [valV_put]
    by_cases e : i' = (i : Int) ∧ j' = (j : Int)
    · show FlowIs K _ (if i' = (i : Int) ∧ j' = (j : Int) then some f else m.flows i' j') _
      rw [if_pos e, if_pos (by rw [e.1, e.2])]
      exact Dn.ts t1 _ (flat_fr f) d
    · show FlowIs K _ (if i' = (i : Int) ∧ j' = (j : Int) then some f else m.flows i' j') _
      rw [if_neg e, if_neg (fun z => e (fkey_inj z))]
      exact (df i' j').ts t0
  · have hg : (if i' = (i : Int) ∧ j' = (j : Int) then some f else m.flows i' j') = some g := hg
    split at hg
    · cases hg
      exact o
    · exact q4.flows i' j' g hg
end
end L2
namespace L2
open PySem PySem.Spec PyProof.Rows Mth
theorem cut_tail (xs : List V) : cutV xs (some 1) none = xs.tail := by
  have e : HT.sIx xs.length 0 (some 1) = min 1 xs.length := HT.sIx_nat _ _ 1
  unfold cutV
  rw [e, HT.sIx_none]
  cases xs with
  | nil => rfl
  | cons x l =>
    have : min 1 (x :: l).length = 1 := by simp
    rw [this]
    simp
theorem Same.put {H H' : Hp} {D : Addr} {o : HO} (s : Same H H') (h : H D = none) : Same H (upd H' D o) := fun b u e => by
  rw [upd_ne (ne_of_none e h)]
  exact s b u e
theorem rising_get {r : List Fra} {i : Nat} {x y : Fra} (hx : r[i]? = some x) (hy : r[i + 1]? = some y) : (List.zipWith underM r r.tail)[i]? = some (underM x y) := by
  rw [List.getElem?_zipWith, hx]
  have : r.tail[i]? = some y := by rw [List.getElem?_tail]; exact hy
  rw [this]
end L2
namespace L2
open PySem PySem.Spec PyProof.Rows Mth
section
variable {K : PySem.W.Frag} {C : Addr} {H H1 : Hp} {a : Addr} {fp : List Addr} {m : HoldM}
theorem deed_room {dx pm pf ps pt p3 kt q0 N : Addr} {vm vs vt : List V} {r : List Fra} (hh : HoldAt K C H a fp m) (s : Same H H1) (ha : H a = some (.ins C dx (hfs m pm pf ps pt))) (hpm : H pm = some (.lst vm)) (hps : H ps = some (.lst vs)) (hpt : H pt = some (.lst vt))
    (hn : H p3 = none) (hp3 : H1 p3 = some (.lst (vm ++ [.ref kt]))) (dr : Dn K H1 (rowD r) (.ref kt)) (hlt : m.rows.length < 4) (hr : ∀ f ∈ r, OkF 100 f) (hl : 2 ≤ r.length ∧ r.length ≤ 7) (dN : ∀ H', Dn K H' (frD (0, 1)) (.ref N))
    (hq0 : upd H1 a (.ins C dx (putF "mark_rows" (.ref p3) (hfs m pm pf ps pt))) q0 = none) :
    ∃ fp', Deed K C H a fp (m.addRoom r) (upd (upd (upd (upd H1 a (.ins C dx (putF "mark_rows" (.ref p3) (hfs m pm pf ps pt)))) q0 (.tup [.ref N, .ref N, .ref N])) ps (.lst (vs ++ [.ref q0]))) pt (.lst (vt ++ [.non]))) fp' := by
  obtain ⟨⟨dx', pm', pf', ps', pt', vm', vs', vt', kvs', efp, ha', hdx, hpm', hpf', hps', hpt', n1, n2, n3, dm, ds, dt, df, fk⟩, q1, q2, q3, q4⟩ := hh
  obtain ⟨rfl, rfl, rfl, rfl, rfl⟩ := hfs_inj (ha'.symm.trans ha)
  obtain rfl : vm' = vm := by
    have := hpm'.symm.trans hpm
    injection this with e
    injection e
  obtain rfl : vs' = vs := by
    have := hps'.symm.trans hps
    injection this with e
    injection e
  obtain rfl : vt' = vt := by
    have := hpt'.symm.trans hpt
    injection this with e
    injection e
  let H2 := upd H1 a (.ins C dx' (putF "mark_rows" (.ref p3) (hfs m pm' pf' ps' pt')))
  let H3 := upd H2 q0 (.tup [.ref N, .ref N, .ref N])
  let H4 := upd H3 ps' (.lst (vs' ++ [.ref q0]))
  let H5 := upd H4 pt' (.lst (vt' ++ [.non]))
  have w2 : ∀ {b o}, H1 b = some o → b ≠ a → H2 b = some o := fun h n => by show upd _ _ _ _ = _; rw [upd_ne n]; exact h
  have s3 : Same H2 H3 := same_upd hq0
  have na : H2 a = some (.ins C dx' (putF "mark_rows" (.ref p3) (hfs m pm' pf' ps' pt'))) := upd_same
  have aps := ne_obj ha' hps nofun
  have apt := ne_obj ha' hpt nofun
  have h2ps : H2 ps' = some (.lst vs') := w2 (s _ _ hps) aps.symm
  have h2pt : H2 pt' = some (.lst vt') := w2 (s _ _ hpt) apt.symm
  have h3ps := s3 _ _ h2ps
  have h3pt := s3 _ _ h2pt
  have h4pt : H4 pt' = some (.lst vt') := by show upd _ _ _ _ = _; rw [upd_ne n3.symm]; exact h3pt
  have t12 : TStay K H1 H2 := ts_upd (s _ _ ha') rfl
  have t34 : TStay K H3 H4 := ts_upd h3ps rfl
  have t45 : TStay K H4 H5 := ts_upd h4pt rfl
  have t35 := t34.trans t45
  have t15 := t12.trans ((Same.ts s3).trans t35)
  have t05 := (Same.ts (K := K) s).trans t15
  have w5 : ∀ {b o}, H2 b = some o → b ≠ ps' → b ≠ pt' → H5 b = some o := fun h x y => by
    show upd _ _ _ _ = _
    rw [upd_ne y]
    show upd _ _ _ _ = _
    rw [upd_ne x]
    exact s3 _ _ h
  have wo : ∀ {b o}, H b = some o → b ≠ a → b ≠ ps' → b ≠ pt' → H5 b = some o := fun h x y z => w5 (w2 (s _ _ h) x) y z
  have p3a : p3 ≠ a := (ne_of_none ha' hn).symm
  have p3s : p3 ≠ ps' := (ne_of_none hps hn).symm
  have p3t : p3 ≠ pt' := (ne_of_none hpt hn).symm
  have q0s : q0 ≠ ps' := (ne_of_none h2ps hq0).symm
  have h4ps : H5 ps' = some (.lst (vs' ++ [.ref q0])) := by
    show upd _ _ _ _ = _
    rw [upd_ne n3]
    exact upd_same
  refine ⟨[a, dx', p3, pf', ps', pt'], ⟨⟨dx', p3, pf', ps', pt', vm' ++ [.ref kt], vs' ++ [.ref q0], vt' ++ [.non], kvs', rfl, ?_, wo hdx (ne_obj hdx ha' nofun) (ne_obj hdx hps nofun) (ne_obj hdx hpt nofun), w5 (w2 hp3 p3a) p3s p3t, wo hpf' (ne_obj hpf' ha' nofun) (ne_obj hpf' hps nofun) (ne_obj hpf' hpt nofun), h4ps, upd_same, p3s, p3t, n3, ?_, ?_, ?_, fun i j => (df i j).ts t05, fk⟩, ?_, ?_, ?_, ?_⟩, ?_, t05, ?_⟩
  · exact w5 na aps apt
  · show DnA K H5 ((m.rows ++ [r]).map rowD) _
    rw [List.map_append]
    exact (rows_ts t05 dm).snoc (Dn.ts t15 _ (flat_row r) dr)
  · show DnA K H5 ((m.skies ++ [((0, 1), (0, 1), (0, 1))]).map skyD) _
    rw [List.map_append]
    exact (skies_ts t05 ds).snoc (Dn.ts t35 _ (flat_sky _) (dn_sky (s := ((0, 1), (0, 1), (0, 1))) (SqT.of upd_same) (dN _) (dN _) (dN _)))
  · show DnA K H5 ((m.stoves ++ [none]).map stoveD) _
    rw [List.map_append]
    exact (stoves_ts t05 dt).snoc rfl
  · show (m.skies ++ [_]).length = (m.rows ++ [r]).length
    rw [List.length_append, List.length_append, q1]; rfl
  · show (m.stoves ++ [_]).length = (m.rows ++ [r]).length
    rw [List.length_append, List.length_append, q2]; rfl
  · show (m.rows ++ [r]).length ≤ 4
    rw [List.length_append]; exact hlt
  · refine ⟨fun x hx => ?_, fun x hx => ?_, q4.flows, fun x hx => ?_, fun x hx => ?_⟩
    · rcases List.mem_append.mp hx with h | h
      · exact q4.rows x h
      · rw [List.mem_singleton.mp h]; exact hr
    · rcases List.mem_append.mp hx with h | h
      · exact q4.len x h
      · rw [List.mem_singleton.mp h]; exact hl
    · rcases List.mem_append.mp hx with h | h
      · exact q4.skies x h
      · rw [List.mem_singleton.mp h]; exact ⟨ok01, ok01, ok01⟩
    · rcases List.mem_append.mp hx with h | h
      · exact q4.stoves x h
      · cases List.mem_singleton.mp h
  · intro b o h n
    rw [efp] at n
    simp only [List.mem_cons, List.not_mem_nil, or_false, not_or] at n
    exact wo h n.1 n.2.2.2.2.1 n.2.2.2.2.2
  · intro b hb
    rw [efp]
    simp only [List.mem_cons, List.not_mem_nil, or_false] at hb ⊢
    rcases hb with rfl | rfl | rfl | rfl | rfl | rfl
    · exact .inl (.inl rfl)
    · exact .inl (.inr (.inl rfl))
    · exact .inr hn
    · exact .inl (.inr (.inr (.inr (.inl rfl))))
    · exact .inl (.inr (.inr (.inr (.inr (.inl rfl)))))
    · exact .inl (.inr (.inr (.inr (.inr (.inr rfl)))))
end
end L2
namespace L2
open PySem PySem.Spec PyProof.Rows Mth
/-- but for x all stays, and x is an instance -/
structure ButX (K : PySem.W.Frag) (C x dx : Addr) (H H' : Hp) (fs : List (Str × V)) : Prop where
  st : ∀ b o, H b = some o → b ≠ x → H' b = some o
  ts : TStay K H H'
  at_ : H' x = some (.ins C dx fs)
section
variable {K : PySem.W.Frag} {C x dx : Addr} {H H' : Hp} {fs fs' : List (Str × V)}
theorem ButX.start (h : H x = some (.ins C dx fs)) : ButX K C x dx H H fs := ⟨fun _ _ h _ => h, TStay.refl _, h⟩
theorem ButX.put (B : ButX K C x dx H H' fs) : ButX K C x dx H (upd H' x (.ins C dx fs')) fs' := ⟨fun b o h n => by rw [upd_ne n]; exact B.st b o h n, B.ts.trans (ts_upd B.at_ rfl), upd_same⟩
theorem ButX.new {p : Addr} {o : HO} (B : ButX K C x dx H H' fs) (hp : H' p = none) : ButX K C x dx H (upd H' p o) fs := ⟨fun b u h n => by rw [upd_ne (ne_of_none (B.st b u h n) hp)]; exact B.st b u h n, B.ts.trans (Same.ts (same_upd hp)), by rw [upd_ne (ne_of_none B.at_ hp)]; exact B.at_⟩
theorem ButX.keep {b : Addr} {o u : HO} (B : ButX K C x dx H H' fs) (h : H' b = some o) (n : b ≠ x) : (upd H' x u) b = some o := by rw [upd_ne n]; exact h
theorem ButX.none {p : Addr} (B : ButX K C x dx H H' fs) (hp : H' p = none) : H p = Option.none := by
  cases e : H p with
  | none => rfl
  | some o =>
    by_cases q : p = x
    · rw [q, B.at_] at hp; cases hp
    · rw [B.st p o e q] at hp; cases hp
theorem ButX.ne {p : Addr} (B : ButX K C x dx H H' fs) (hp : H' p = Option.none) : p ≠ x := fun q => by rw [q, B.at_] at hp; cases hp
theorem deed_new {p1 p2 p3 p4 : Addr} {most cap load : Int} (B : ButX K C x dx H H' (hfs (HoldM.new most cap load) p1 p2 p3 p4)) (hx : H x = some (.ins C dx fs')) (hdx : H dx = some (.own x)) (h1 : H' p1 = some (.lst [])) (h2 : H' p2 = some (.dT [])) (h3 : H' p3 = some (.lst [])) (h4 : H' p4 = some (.lst []))
    (n1 : H p1 = none) (n2 : H p2 = none) (n3 : H p3 = none) (n4 : H p4 = none) (e1 : p1 ≠ p3) (e2 : p1 ≠ p4) (e3 : p3 ≠ p4) :
    Deed K C H x [x, dx] (HoldM.new most cap load) H' [x, dx, p1, p2, p3, p4] := by
  refine ⟨⟨⟨dx, p1, p2, p3, p4, [], [], [], [], rfl, B.at_, B.st _ _ hdx (ne_obj hdx hx nofun), h1, h2, h3, h4, e1, e2, e3, rfl, rfl, rfl, fun _ _ => trivial, List.nodup_nil, nofun⟩, rfl, rfl, Nat.zero_le _, ⟨nofun, nofun, nofun, nofun, nofun⟩⟩, ?_, B.ts, ?_⟩
  · intro b o h n
    simp only [List.mem_cons, List.not_mem_nil, or_false, not_or] at n
    exact B.st b o h n.1
  · intro b hb
    simp only [List.mem_cons, List.not_mem_nil, or_false] at hb ⊢
    rcases hb with rfl | rfl | rfl | rfl | rfl | rfl
    · exact .inl (.inl rfl)
    · exact .inl (.inr rfl)
    · exact .inr n1
    · exact .inr n2
    · exact .inr n3
    · exact .inr n4
end
theorem lt1000 {n : Nat} (h : Nat.ble (n + 1) 1000 = true) : n < 1000 := Nat.le_of_ble_eq_true h
end L2
namespace L2
open PySem PySem.Spec PyProof.Rows Mth
def hpair (i j : Int) : Int := reduceHash (Builtin.Tuple.tupleHashOf [hashInt i, hashInt j])
theorem hpair_fin : ∀ i j i' j' : Fin 4, hpair (i.val : Int) (j.val : Int) = hpair (i'.val : Int) (j'.val : Int) → i = i' ∧ j = j' := by decide +kernel
theorem hpair_inj (i : Nat) (hi : i < 4) (j : Nat) (hj : j < 4) (i' : Nat) (hi' : i' < 4) (j' : Nat) (hj' : j' < 4) (h : hpair (i : Int) (j : Int) = hpair (i' : Int) (j' : Int)) : i = i' ∧ j = j' := by
  obtain ⟨a, b⟩ := hpair_fin ⟨i, hi⟩ ⟨j, hj⟩ ⟨i', hi'⟩ ⟨j', hj'⟩ h
  exact ⟨congrArg Fin.val a, congrArg Fin.val b⟩
theorem FKeys.hash {P : Program} {w : World} {kvs : List (List Key × V)} (h : FKeys kvs) : (kvs.map fun kv => tupleKeyHash (mixKind P w) kv.1).Nodup := by
  have h1 := List.pairwise_map.mp h.1
  refine List.pairwise_map.mpr (h1.imp_of_mem fun {a b} ha hb n e => ?_)
  obtain ⟨i, j, hi, hj, e1⟩ := h.2 a ha
  obtain ⟨i', j', hi', hj', e2⟩ := h.2 b hb
  rw [e1, e2] at e
  obtain ⟨z1, z2⟩ := hpair_inj i hi j hj i' hi' j' hj' e
  exact n (by rw [e1, e2, z1, z2])
def optV : Option Int → V
  | none => .non
  | some n => .int n
def HoldM.with (m : HoldM) (x y z : Option Int) : HoldM := { m with most := x.getD m.most, cap := y.getD m.cap, load := z.getD m.load }
def HoldM.Bds (m : HoldM) : Prop := (0 ≤ m.most ∧ m.most ≤ 4) ∧ (0 ≤ m.cap ∧ m.cap ≤ 30) ∧ (0 ≤ m.load ∧ m.load ≤ 30)
def sp_like (K : PySem.W.Frag) (C : Addr) : Sp := fun vs H Q _ => ∃ a fp m x y z, vs = [.ref a, optV x, optV y, optV z] ∧ HoldAt K C H a fp m ∧ (m.with x y z).Bds ∧
  ∀ b H' fp', Same H H' → HoldAt K C H' b fp' (m.with x y z) → (∀ c ∈ fp', H c = none) → Q (.ref b) H'
end L2
namespace L2
open PySem PySem.Spec PyProof.Rows Mth
def sp_pick : Sp := fun vs H Q _ => ∃ c k n : Int, vs = [.int c, .int k, .int n] ∧ 0 ≤ k ∧ k ≤ 1000 ∧ 0 < n ∧ ∀ r, 0 ≤ r → r < n → Q (.int r) H
structure ScM where
  a : Int
  b : Int
  t : Int
  d : Int
structure ScM.Ok (s : ScM) : Prop where
  a0 : 1 ≤ s.a
  a1 : s.a ≤ 10 ^ 9
  b0 : 1 ≤ s.b
  b1 : s.b ≤ 10 ^ 9
  t0 : -(10 ^ 9) ≤ s.t
  t1 : s.t ≤ 10 ^ 9
  d0 : 1 ≤ s.d
  d1 : s.d ≤ 10 ^ 9
abbrev ScM.vs (s : ScM) : List V := [.int s.a, .int s.b, .int s.t, .int s.d]
def sp_scale : Sp := fun vs H Q _ => ∃ c : Int, vs = [.int c] ∧ ∀ p H' (s : ScM), s.Ok → Same H H' → H' p = some (.tup s.vs) → Q (.ref p) H'
/-- num by parts, scaled and moved -/
def warmT (num parts : Int) (s : ScM) : Int := num * s.a * s.d + parts * s.t * s.b
def warmB (parts : Int) (s : ScM) : Int := parts * s.b * s.d
def warmM (num parts : Int) (s : ScM) : Fra := nf (warmT num parts s) (warmB parts s)
def sp_warm (K : PySem.W.Frag) : Sp := fun vs H Q _ => ∃ num parts p, ∃ s : ScM, vs = [.int num, .int parts, .ref p] ∧ SqT K H p s.vs ∧ s.Ok ∧ Bd 30 num ∧ 0 < parts ∧ Bd 30 parts ∧
  ∀ q H', Same H H' → H' q = some (.tup [.int (warmM num parts s).1, .int (warmM num parts s).2]) → Q (.ref q) H'
theorem bd30 {x : Int} (h0 : -(10 ^ 9) ≤ x) (h1 : x ≤ 10 ^ 9) : Bd 30 x := by show x.natAbs < 2 ^ 30; omega
section
variable {s : ScM}
theorem ScM.Ok.ba (h : s.Ok) : Bd 30 s.a := bd30 (by have := h.a0; omega) h.a1
theorem ScM.Ok.bb (h : s.Ok) : Bd 30 s.b := bd30 (by have := h.b0; omega) h.b1
theorem ScM.Ok.bd (h : s.Ok) : Bd 30 s.d := bd30 (by have := h.d0; omega) h.d1
end
abbrev stoveI (z : Int × Int × Int × Int) : List V := [.int z.1, .int z.2.1, .int z.2.2.1, .int z.2.2.2]
structure StI (z : Int × Int × Int × Int) : Prop where
  h : 0 ≤ z.1 ∧ z.1 ≤ 25
  w : 0 ≤ z.2.1 ∧ z.2.1 ≤ 9
  s : 0 ≤ z.2.2.1 ∧ z.2.2.1 ≤ 3
  f : 0 ≤ z.2.2.2 ∧ z.2.2.2 ≤ 3
def sp_stove_by : Sp := fun vs H Q _ => ∃ a b c : Int, ∃ i : Nat, vs = [.int a, .int b, .int c, natV i] ∧ i < 4 ∧ Q .non H ∧ ∀ p z, StI z → H p = none → Q (.ref p) (upd H p (.tup (stoveI z)))
end L2
namespace L2
open PySem PySem.Spec PyProof.Rows Mth
def cutH (H : Hp) (L : List Addr) : Hp := fun b => if b ∈ L then none else H b
section
variable {K : PySem.W.Frag} {H H' : Hp} {L : List Addr} {a : Addr} {o : HO}
theorem cut_upd (h : a ∈ L) : cutH (upd H a o) L = cutH H L := by
  funext b
  unfold cutH
  split
  · rfl
  · rename_i n
    rw [upd_ne (fun e => n (by rw [e]; exact h))]
theorem same_cut (s : Same H H') : Same (cutH H L) (cutH H' L) := fun b u h => by
  unfold cutH at h ⊢
  split at h
  · cases h
  · rename_i n
    rw [if_neg n]
    exact s b u h
/-- but for L all stays -/
theorem But.cut (b : But L H H') : Same (cutH H L) (cutH H' L) := fun c u h => by
  unfold cutH at h ⊢
  split at h
  · cases h
  · rename_i n
    rw [if_neg n]
    exact b c u h n
/-- none of L is a tuple -/
def NoTups (H : Hp) (L : List Addr) : Prop := ∀ b ∈ L, ∃ o, H b = some o ∧ noTup o = true
end
structure ToldM where
  marks : List (List Int)
  sky : List (Int × Int × Int)
  stoves : List (Option (Int × Int × Int × Int))
  flows : Nat → Nat → Option Int
  scale : ScM
  bounds : Int × Int × Int
abbrev skyI (z : Int × Int × Int) : PyData := .tuple [.int z.1, .int z.2.1, .int z.2.2]
abbrev stI : Option (Int × Int × Int × Int) → PyData
  | none => .none
  | some z => .tuple [.int z.1, .int z.2.1, .int z.2.2.1, .int z.2.2.2]
abbrev rowI (l : List Int) : PyData := .list (l.map PyData.int)
def toldKV (pm ps pt pf psc pb : Addr) : List (Key × V) :=
  [(.inr "marks", .ref pm), (.inr "sky", .ref ps), (.inr "stoves", .ref pt), (.inr "flows", .ref pf), (.inr "scale", .ref psc), (.inr "bounds", .ref pb)]
section
variable (pm ps pt pf psc pb : Addr)
end
/-- the objects of what is told -/
structure TC (K : PySem.W.Frag) (H : Hp) (p pm ps pt pf psc pb : Addr) (vm vs vt : List V) (kvs : List (List Key × V)) (m : ToldM) : Prop where
  hp : H p = some (.dK (toldKV pm ps pt pf psc pb))
  hpm : H pm = some (.lst vm)
  hps : H ps = some (.lst vs)
  hpt : H pt = some (.lst vt)
  hpf : H pf = some (.dT kvs)
  n1 : pm ≠ ps
  n2 : pm ≠ pt
  n3 : ps ≠ pt
  dm : DnA K (cutH H [p, pm, ps, pt, pf]) (m.marks.map rowI) vm
  ds : DnA K (cutH H [p, pm, ps, pt, pf]) (m.sky.map skyI) vs
  dt : DnA K (cutH H [p, pm, ps, pt, pf]) (m.stoves.map stI) vt
  df : ∀ i j : Nat, i < 4 → j < 4 → valV kvs (fkey i j) = (m.flows i j).map V.int
  fk : FKeys kvs
  sc : SqT K (cutH H [p, pm, ps, pt, pf]) psc m.scale.vs
  bo : SqT K (cutH H [p, pm, ps, pt, pf]) pb [.int m.bounds.1, .int m.bounds.2.1, .int m.bounds.2.2]
section
variable {K : PySem.W.Frag} {H H' : Hp} {p pm ps pt pf psc pb : Addr} {vm vs vt : List V} {kvs : List (List Key × V)} {m : ToldM}
theorem TC.same (c : TC K H p pm ps pt pf psc pb vm vs vt kvs m) (s : Same H H') : TC K H' p pm ps pt pf psc pb vm vs vt kvs m :=
  ⟨s _ _ c.hp, s _ _ c.hpm, s _ _ c.hps, s _ _ c.hpt, s _ _ c.hpf, c.n1, c.n2, c.n3, DnA.same (same_cut s) _ c.dm, DnA.same (same_cut s) _ c.ds, DnA.same (same_cut s) _ c.dt, c.df, c.fk, (same_cut s).tup c.sc, (same_cut s).tup c.bo⟩
def ToldM.setFlow (m : ToldM) (i j : Nat) (k : Int) : ToldM := { m with flows := fun a b => if a = i ∧ b = j then some k else m.flows a b }
theorem TC.setFlow (c : TC K H p pm ps pt pf psc pb vm vs vt kvs m) {i j : Nat} {k : Int} (hi : i < 4) (hj : j < 4) :
    TC K (upd H pf (.dT (putK kvs (fkey i j) (.int k)))) p pm ps pt pf psc pb vm vs vt (putK kvs (fkey i j) (.int k)) (m.setFlow i j k) := by
  have e : cutH (upd H pf (.dT (putK kvs (fkey i j) (.int k)))) [p, pm, ps, pt, pf] = cutH H [p, pm, ps, pt, pf] := cut_upd (by simp)
  refine ⟨by rw [upd_ne (ne_obj c.hp c.hpf nofun)]; exact c.hp, by rw [upd_ne (ne_obj c.hpm c.hpf nofun)]; exact c.hpm, by rw [upd_ne (ne_obj c.hps c.hpf nofun)]; exact c.hps, by rw [upd_ne (ne_obj c.hpt c.hpf nofun)]; exact c.hpt, upd_same, c.n1, c.n2, c.n3, by rw [e]; exact c.dm, by rw [e]; exact c.ds, by rw [e]; exact c.dt, fun a b ha hb => ?_, c.fk.put hi hj _, by rw [e]; exact c.sc, by rw [e]; exact c.bo⟩
  rw [valV_put]
  show _ = (if a = i ∧ b = j then some k else m.flows a b).map V.int
  by_cases z : a = i ∧ b = j
  · rw [if_pos z, if_pos (by rw [z.1, z.2])]; rfl
  · rw [if_neg z, if_neg (fun y => z (by have := fkey_inj y; omega))]
    exact c.df a b ha hb
end
def risingI (l : List Int) : Prop := ∀ i x y, l[i]? = some x → l[i + 1]? = some y → x < y
structure RowOk (n : Nat) (l : List Int) : Prop where
  two : 2 ≤ l.length
  most : l.length ≤ if n ≤ 2 then 7 else 5
  ris : risingI l
  bd : ∀ x ∈ l, -200 ≤ x ∧ x ≤ 200
structure ToldM.Ok (n i : Nat) (m : ToldM) : Prop where
  lm : m.marks.length = i
  ls : m.sky.length = i
  lt : m.stoves.length = i
  rows : ∀ l ∈ m.marks, RowOk n l
  sky : ∀ z ∈ m.sky, (0 ≤ z.1 ∧ z.1 ≤ 3) ∧ (-30 ≤ z.2.1 ∧ z.2.1 ≤ 30) ∧ z.2.1 ≤ z.2.2 ∧ z.2.2 ≤ z.2.1 + 30
  stoves : ∀ z, some z ∈ m.stoves → StI z
  flows : ∀ a b, a < i → b < n → a ≠ b → ∃ k, m.flows a b = some k ∧ 0 ≤ k ∧ k ≤ 3
  scale : m.scale.Ok
  bounds : (0 ≤ m.bounds.1 ∧ m.bounds.1 ≤ 4) ∧ (0 ≤ m.bounds.2.1 ∧ m.bounds.2.1 ≤ 30) ∧ (0 ≤ m.bounds.2.2 ∧ m.bounds.2.2 ≤ 30)
def ToldAt (K : PySem.W.Frag) (H : Hp) (p : Addr) (m : ToldM) : Prop := ∃ pm ps pt pf psc pb vm vs vt kvs, TC K H p pm ps pt pf psc pb vm vs vt kvs m
theorem ToldAt.same {K : PySem.W.Frag} {H H' : Hp} {p : Addr} {m : ToldM} (h : ToldAt K H p m) (s : Same H H') : ToldAt K H' p m := by
  obtain ⟨pm, ps, pt, pf, psc, pb, vm, vs, vt, kvs, c⟩ := h
  exact ⟨pm, ps, pt, pf, psc, pb, vm, vs, vt, kvs, c.same s⟩
def sp_drawn (K : PySem.W.Frag) : Sp := fun vs H Q _ => ∃ a, ∃ ns : List Int, vs = [.ref a] ∧ SqL K H a (ns.map V.int) ∧ ∀ p H' m n, 1 ≤ n → n ≤ 4 → ToldM.Ok n n m → Same H H' → ToldAt K H' p m → Q (.ref p) H'
end L2
namespace L2
open PySem PySem.Spec PyProof.Rows Mth
section
variable {H : Hp} {p pm ps pt pf psc pb : Addr}
end
theorem ToldM.Ok.marks {n i : Nat} {m : ToldM} {l : List Int} {z : Int × Int × Int} {t : Option (Int × Int × Int × Int)} {fl : Nat → Nat → Option Int} (h : m.Ok n i) (hl : RowOk n l)
    (hz : (0 ≤ z.1 ∧ z.1 ≤ 3) ∧ (-30 ≤ z.2.1 ∧ z.2.1 ≤ 30) ∧ z.2.1 ≤ z.2.2 ∧ z.2.2 ≤ z.2.1 + 30) (ht : ∀ y, t = some y → StI y) (hf : ∀ a b, a < i + 1 → b < n → a ≠ b → ∃ k, fl a b = some k ∧ 0 ≤ k ∧ k ≤ 3) :
    ToldM.Ok n (i + 1) { m with marks := m.marks ++ [l], sky := m.sky ++ [z], stoves := m.stoves ++ [t], flows := fl } := by
  refine ⟨?_, ?_, ?_, fun x hx => ?_, fun x hx => ?_, fun x hx => ?_, hf, h.scale, h.bounds⟩
  · show (m.marks ++ [l]).length = _
    rw [List.length_append, h.lm]; rfl
  · show (m.sky ++ [z]).length = _
    rw [List.length_append, h.ls]; rfl
  · show (m.stoves ++ [t]).length = _
    rw [List.length_append, h.lt]; rfl
  · rcases List.mem_append.mp hx with q | q
    · exact h.rows x q
    · rw [List.mem_singleton.mp q]; exact hl
  · rcases List.mem_append.mp hx with q | q
    · exact h.sky x q
    · rw [List.mem_singleton.mp q]; exact hz
  · rcases List.mem_append.mp hx with q | q
    · exact h.stoves x q
    · exact ht x (List.mem_singleton.mp q).symm
end L2
namespace L2
open PySem PySem.Spec PyProof.Rows Mth
/-- a stove told, or none -/
def StV (H : Hp) (t : Option (Int × Int × Int × Int)) (x : V) (H' : Hp) : Prop := (t = none ∧ x = .non ∧ H' = H) ∨ ∃ p z, t = some z ∧ x = .ref p ∧ H p = none ∧ StI z ∧ H' = upd H p (.tup (stoveI z))
theorem StV.same {H H' : Hp} {t : Option (Int × Int × Int × Int)} {x : V} (h : StV H t x H') : Same H H' := by
  rcases h with ⟨_, _, rfl⟩ | ⟨p, z, _, _, hp, _, rfl⟩
  · exact Same.refl _
  · exact same_upd hp
theorem StV.ok {H H' : Hp} {t : Option (Int × Int × Int × Int)} {x : V} (h : StV H t x H') : ∀ y, t = some y → StI y := by
  rcases h with ⟨rfl, _, _⟩ | ⟨p, z, rfl, _, hp, hz, _⟩
  · exact nofun
  · intro y e; cases e; exact hz
end L2
namespace L2
open PySem PySem.Spec PyProof.Rows Mth
end L2
namespace Mth
/-- f is k by W -/
def Ov (W k : Int) (f : Int × Int) : Prop := f.1 * W = k * f.2 ∧ 0 < f.2
theorem Ov.nf {W k : Int} (h : 0 < W) : Ov W k (nf k W) := by
  have F := nf_fr (t := k) h
  exact ⟨F.cross, F.pos⟩
theorem ov_one {W : Int} : Ov W W (1, 1) := ⟨by show 1 * W = W * 1; omega, by decide⟩
theorem ov_zero {W : Int} : Ov W 0 (0, 1) := ⟨by show 0 * W = 0 * 1; omega, by decide⟩
theorem Ov.minus {W a b : Int} {x y : Int × Int} (h : Ov W a x) (k : Ov W b y) : Ov W (a - b) (minusM x y) := by
  have F := nf_fr (t := x.1 * y.2 - y.1 * x.2) (b := x.2 * y.2) (Int.mul_pos h.2 k.2)
  refine ⟨?_, F.pos⟩
  have c := F.cross
  have hx := h.1
  have hy := k.1
  have pp : 0 < x.2 * y.2 := Int.mul_pos h.2 k.2
  show (Mth.nf (x.1 * y.2 - y.1 * x.2) (x.2 * y.2)).1 * W = (a - b) * (Mth.nf (x.1 * y.2 - y.1 * x.2) (x.2 * y.2)).2
  generalize (Mth.nf (x.1 * y.2 - y.1 * x.2) (x.2 * y.2)).1 = q at c ⊢
  generalize (Mth.nf (x.1 * y.2 - y.1 * x.2) (x.2 * y.2)).2 = r at c ⊢
  refine Int.eq_of_mul_eq_mul_right (Int.ne_of_gt pp) ?_
  have e1 : x.1 * y.2 * W = a * (x.2 * y.2) := by rw [Int.mul_right_comm, hx, Int.mul_assoc]
  have e2 : y.1 * x.2 * W = b * (x.2 * y.2) := by rw [Int.mul_right_comm, hy, Int.mul_assoc, Int.mul_comm y.2]
  calc q * W * (x.2 * y.2) = (q * (x.2 * y.2)) * W := by rw [Int.mul_right_comm]
    _ = (x.1 * y.2 - y.1 * x.2) * r * W := by rw [c]
    _ = ((x.1 * y.2 - y.1 * x.2) * W) * r := by rw [Int.mul_right_comm]
    _ = (a * (x.2 * y.2) - b * (x.2 * y.2)) * r := by rw [Int.sub_mul, e1, e2]
    _ = (a - b) * r * (x.2 * y.2) := by rw [← Int.sub_mul, Int.mul_right_comm]
theorem Ov.plus {W a b : Int} {x y : Int × Int} (h : Ov W a x) (k : Ov W b y) : Ov W (a + b) (plusM x y) := by
  have F := nf_fr (t := x.1 * y.2 + y.1 * x.2) (b := x.2 * y.2) (Int.mul_pos h.2 k.2)
  refine ⟨?_, F.pos⟩
  have c := F.cross
  have hx := h.1
  have hy := k.1
  have pp : 0 < x.2 * y.2 := Int.mul_pos h.2 k.2
  show (Mth.nf (x.1 * y.2 + y.1 * x.2) (x.2 * y.2)).1 * W = (a + b) * (Mth.nf (x.1 * y.2 + y.1 * x.2) (x.2 * y.2)).2
  generalize (Mth.nf (x.1 * y.2 + y.1 * x.2) (x.2 * y.2)).1 = q at c ⊢
  generalize (Mth.nf (x.1 * y.2 + y.1 * x.2) (x.2 * y.2)).2 = r at c ⊢
  refine Int.eq_of_mul_eq_mul_right (Int.ne_of_gt pp) ?_
  have e1 : x.1 * y.2 * W = a * (x.2 * y.2) := by rw [Int.mul_right_comm, hx, Int.mul_assoc]
  have e2 : y.1 * x.2 * W = b * (x.2 * y.2) := by rw [Int.mul_right_comm, hy, Int.mul_assoc, Int.mul_comm y.2]
  calc q * W * (x.2 * y.2) = (q * (x.2 * y.2)) * W := by rw [Int.mul_right_comm]
    _ = (x.1 * y.2 + y.1 * x.2) * r * W := by rw [c]
    _ = ((x.1 * y.2 + y.1 * x.2) * W) * r := by rw [Int.mul_right_comm]
    _ = (a * (x.2 * y.2) + b * (x.2 * y.2)) * r := by rw [Int.add_mul, e1, e2]
    _ = (a + b) * r * (x.2 * y.2) := by rw [← Int.add_mul, Int.mul_right_comm]
theorem Ov.under {W a b : Int} {x y : Int × Int} (hW : 0 < W) (h : Ov W a x) (k : Ov W b y) : underM x y = decide (a < b) := by
  unfold underM
  refine decide_eq_decide.mpr ?_
  have pp : 0 < x.2 * y.2 := Int.mul_pos h.2 k.2
  have e1 : x.1 * y.2 * W = a * (x.2 * y.2) := by rw [Int.mul_right_comm, h.1, Int.mul_assoc]
  have e2 : y.1 * x.2 * W = b * (x.2 * y.2) := by rw [Int.mul_right_comm, k.1, Int.mul_assoc, Int.mul_comm y.2]
  constructor
  · intro l
    have := Int.mul_lt_mul_of_pos_right l hW
    rw [e1, e2] at this
    exact Int.lt_of_mul_lt_mul_right this (Int.le_of_lt pp)
  · intro l
    have := Int.mul_lt_mul_of_pos_right l pp
    rw [← e1, ← e2] at this
    exact Int.lt_of_mul_lt_mul_right this (Int.le_of_lt hW)
end Mth
namespace L2
open PySem PySem.Spec PyProof.Rows Mth
def sumF (fl : Nat → Nat → Int) (i : Nat) : Nat → Int
  | 0 => 0
  | t + 1 => sumF fl i t + fl i t
/-- the shares of a hold, over W -/
structure ShOk (W : Int) (sk : Nat → Int) (fl : Nat → Nat → Int) (m : HoldM) : Prop where
  sky : ∀ i, Ov W (sk i) (m.skyS i)
  flow : ∀ i j, Ov W (fl i j) (m.flow i j)
theorem ShOk.ownTo {W : Int} {sk : Nat → Int} {fl : Nat → Nat → Int} {m : HoldM} (h : ShOk W sk fl m) (i : Nat) : ∀ t, Ov W (W - sk i - sumF fl i t) (m.ownTo i t)
  | 0 => by
    have := (ov_one (W := W)).minus (h.sky i)
    have e : W - sk i - sumF fl i 0 = W - sk i := by show W - sk i - 0 = _; omega
    rw [e]
    exact this
  | t + 1 => by
    rw [HoldM.ownTo_succ]
    have := (h.ownTo i t).minus (h.flow i t)
    have e : W - sk i - sumF fl i (t + 1) = W - sk i - sumF fl i t - fl i t := by show W - sk i - (sumF fl i t + fl i t) = _; omega
    rw [e]
    exact this
theorem ShOk.own {W : Int} {sk : Nat → Int} {fl : Nat → Nat → Int} {m : HoldM} (h : ShOk W sk fl m) (i : Nat) : Ov W (W - sk i - sumF fl i m.rows.length) (m.own i) := h.ownTo i _
theorem flow_setFlow {m : HoldM} {i j a b : Nat} {f : Fra} : (m.setFlow i j f).flow a b = if a = i ∧ b = j then f else m.flow a b := by
  unfold HoldM.flow HoldM.setFlow
  by_cases e : a = i ∧ b = j
  · rw [if_pos e]
    show ((if (a : Int) = (i : Int) ∧ (b : Int) = (j : Int) then some f else m.flows a b)).getD (0, 1) = f
    rw [if_pos (by omega)]; rfl
  · rw [if_neg e]
    show ((if (a : Int) = (i : Int) ∧ (b : Int) = (j : Int) then some f else m.flows a b)).getD (0, 1) = _
    rw [if_neg (by omega)]
theorem ShOk.setFlow {W k : Int} {sk : Nat → Int} {fl : Nat → Nat → Int} {m : HoldM} {f : Fra} {i j : Nat} (h : ShOk W sk fl m) (hf : Ov W k f) : ShOk W sk (fun a b => if a = i ∧ b = j then k else fl a b) (m.setFlow i j f) := by
  refine ⟨fun a => h.sky a, fun a b => ?_⟩
  rw [flow_setFlow]
  by_cases e : a = i ∧ b = j
  · simp only [if_pos e]; exact hf
  · simp only [if_neg e]; exact h.flow a b
theorem skyS_setSky {m : HoldM} {i a : Nat} {z : Fra × Fra × Fra} (hi : i < m.skies.length) : (m.setSky i z).skyS a = if a = i then z.1 else m.skyS a := by
  unfold HoldM.skyS HoldM.setSky
  by_cases e : a = i
  · subst e
    rw [if_pos rfl]
    show (((m.skies.set a z)[a]?).map (·.1)).getD (0, 1) = _
    rw [List.getElem?_set_self hi]; rfl
  · rw [if_neg e]
    show (((m.skies.set i z)[a]?).map (·.1)).getD (0, 1) = _
    rw [List.getElem?_set_ne (fun x => e x.symm)]
theorem ShOk.setSky {W k : Int} {sk : Nat → Int} {fl : Nat → Nat → Int} {m : HoldM} {z : Fra × Fra × Fra} {i : Nat} (h : ShOk W sk fl m) (hi : i < m.skies.length) (hf : Ov W k z.1) : ShOk W (fun a => if a = i then k else sk a) fl (m.setSky i z) := by
  refine ⟨fun a => ?_, fun a b => h.flow a b⟩
  rw [skyS_setSky hi]
  by_cases e : a = i
  · simp only [if_pos e]; exact hf
  · simp only [if_neg e]; exact h.sky a
theorem ShOk.new {W : Int} {most cap load : Int} : ShOk W (fun _ => 0) (fun _ _ => 0) (HoldM.new most cap load) := ⟨fun _ => ov_zero, fun _ _ => ov_zero⟩
theorem ShOk.addRoom {W : Int} {sk : Nat → Int} {fl : Nat → Nat → Int} {m : HoldM} {r : List Fra} (h : ShOk W sk fl m) (hs : ∀ i, m.skies.length ≤ i → sk i = 0) : ShOk W sk fl (m.addRoom r) := by
  refine ⟨fun a => ?_, fun a b => h.flow a b⟩
  by_cases e : a < m.skies.length
  · have : (m.addRoom r).skyS a = m.skyS a := by
      show (((m.skies ++ [((0, 1), (0, 1), (0, 1))])[a]?).map (·.1)).getD (0, 1) = ((m.skies[a]?).map (·.1)).getD (0, 1)
      rw [List.getElem?_append_left e]
    rw [this]
    exact h.sky a
  · have : (m.addRoom r).skyS a = (0, 1) := by
      show (((m.skies ++ [((0, 1), (0, 1), (0, 1))])[a]?).map (·.1)).getD (0, 1) = (0, 1)
      rw [List.getElem?_append_right (by omega)]
      cases q : a - m.skies.length with
      | zero => rfl
      | succ n => rfl
    rw [this, hs a (by omega)]
    exact ov_zero
theorem ShOk.setStove {W : Int} {sk : Nat → Int} {fl : Nat → Nat → Int} {m : HoldM} {i : Nat} {z : Fra × Int × Int × Int} (h : ShOk W sk fl m) : ShOk W sk fl (m.setStove i z) := ⟨fun a => h.sky a, fun a b => h.flow a b⟩
end L2
namespace L2
open PySem PySem.Spec PyProof.Rows Mth
def ToldM.row (tm : ToldM) (l : List Int) : List Fra := l.map fun x => warmM x 1 tm.scale
def ToldM.m1 (tm : ToldM) (k : Nat) : HoldM := ((tm.marks.take k).map tm.row).foldl HoldM.addRoom (HoldM.new tm.bounds.1 tm.bounds.2.1 tm.bounds.2.2)
def ToldM.skyAt (tm : ToldM) (z : Int × Int × Int) : Fra × Fra × Fra := (nf z.1 12, warmM z.2.1 1 tm.scale, warmM z.2.2 1 tm.scale)
def ToldM.stoveAt (tm : ToldM) (z : Int × Int × Int × Int) : Fra × Int × Int × Int := (nf (z.1 * tm.scale.a) tm.scale.b, z.2.1, z.2.2.1, z.2.2.2)
def ToldM.skyStep (tm : ToldM) (m : HoldM) (i : Nat) : HoldM := match tm.sky[i]? with | some z => m.setSky i (tm.skyAt z) | none => m
def ToldM.stoveStep (tm : ToldM) (m : HoldM) (i : Nat) : HoldM := match tm.stoves[i]? with | some (some z) => m.setStove i (tm.stoveAt z) | _ => m
def ToldM.flowStep (tm : ToldM) (i : Nat) (m : HoldM) (j : Nat) : HoldM := if j = i then m else match tm.flows i j with | some k => m.setFlow i j (nf k 12) | none => m
def ToldM.flowsTo (tm : ToldM) (i : Nat) (m : HoldM) (j : Nat) : HoldM := (List.range j).foldl (tm.flowStep i) m
def ToldM.roomStep (tm : ToldM) (n : Nat) (m : HoldM) (i : Nat) : HoldM := tm.flowsTo i (tm.stoveStep (tm.skyStep m i) i) n
def ToldM.m2 (tm : ToldM) (n k : Nat) : HoldM := (List.range k).foldl (tm.roomStep n) (tm.m1 n)
theorem Deed.keep {K : PySem.W.Frag} {C : Addr} {H0 H H' : Hp} {a : Addr} {fp fp' : List Addr} {m' : HoldM} (S : Same H0 H) (n : ∀ b ∈ fp, H0 b = none) (D : Deed K C H a fp m' H' fp') : Same H0 H' ∧ ∀ b ∈ fp', H0 b = none := by
  refine ⟨fun b o h => D.but b o (S b o h) fun q => ?_, fun b hb => ?_⟩
  · rw [n b q] at h; cases h
  · rcases D.own b hb with q | q
    · exact n b q
    · exact S.free q
/-- rows and bounds stay -/
structure Kp (m m' : HoldM) : Prop where
  rows : m'.rows = m.rows
  most : m'.most = m.most
  cap : m'.cap = m.cap
  load : m'.load = m.load
theorem Kp.refl (m : HoldM) : Kp m m := ⟨rfl, rfl, rfl, rfl⟩
theorem Kp.trans {m m1 m2 : HoldM} (a : Kp m m1) (b : Kp m1 m2) : Kp m m2 := ⟨b.rows.trans a.rows, b.most.trans a.most, b.cap.trans a.cap, b.load.trans a.load⟩
end L2
namespace L2
open PySem PySem.Spec PyProof.Rows Mth
theorem dn_ints_inv {K : PySem.W.Frag} {H : Hp} : ∀ {l : List Int} {ws : List V}, DnA K H (l.map PyData.int) ws → ws = l.map V.int
  | [], _, h => h
  | x :: l, _, h => by
    obtain ⟨y, r, rfl, e, t⟩ := h
    have e : y = .int x := e
    rw [e, dn_ints_inv t]; rfl
end L2
namespace L2
open PySem PySem.Spec PyProof.Rows Mth
structure SF (sk : Nat → Int) (fl : Nat → Nat → Int) : Prop where
  hsk : ∀ a, 0 ≤ sk a ∧ sk a ≤ 3
  hfl : ∀ a b, 0 ≤ fl a b ∧ fl a b ≤ 3
  hno : ∀ a, fl a a = 0
/-- a hold whose shares are twelfths, at most three each -/
def Tw (m : HoldM) : Prop := ∃ sk fl, ShOk 12 sk fl m ∧ SF sk fl
theorem Tw.sky {m : HoldM} {i : Nat} {z : Fra × Fra × Fra} {k : Int} (h : Tw m) (hi : i < m.skies.length) (hf : Ov 12 k z.1) (k0 : 0 ≤ k) (k3 : k ≤ 3) : Tw (m.setSky i z) := by
  obtain ⟨sk, fl, S, F⟩ := h
  refine ⟨_, _, S.setSky hi hf, ⟨fun a => ?_, F.hfl, F.hno⟩⟩
  show 0 ≤ (if a = i then k else sk a) ∧ (if a = i then k else sk a) ≤ 3
  split
  · exact ⟨k0, k3⟩
  · exact F.hsk a
theorem Tw.flow {m : HoldM} {i j : Nat} {f : Fra} {k : Int} (h : Tw m) (hij : i ≠ j) (hf : Ov 12 k f) (k0 : 0 ≤ k) (k3 : k ≤ 3) : Tw (m.setFlow i j f) := by
  obtain ⟨sk, fl, S, F⟩ := h
  refine ⟨_, _, S.setFlow hf, ⟨F.hsk, fun a b => ?_, fun a => ?_⟩⟩
  · show 0 ≤ (if a = i ∧ b = j then k else fl a b) ∧ (if a = i ∧ b = j then k else fl a b) ≤ 3
    split
    · exact ⟨k0, k3⟩
    · exact F.hfl a b
  · show (if a = i ∧ a = j then k else fl a a) = 0
    rw [if_neg (by omega)]
    exact F.hno a
theorem Tw.stove {m : HoldM} {i : Nat} {z : Fra × Int × Int × Int} (h : Tw m) : Tw (m.setStove i z) := by
  obtain ⟨sk, fl, S, F⟩ := h
  exact ⟨sk, fl, S.setStove, F⟩
end L2
namespace L2
open PySem PySem.Spec PyProof.Rows Mth
def seenRoom (m : HoldM) (i : Nat) : List PyData :=
  [.tuple [.list (((m.rows[i]?).getD []).map frD), skyD ((m.skies[i]?).getD ((0, 1), (0, 1), (0, 1))), stoveD ((m.stoves[i]?).getD none)], .list ((List.range m.rows.length).map fun j => frD (m.share i j))]
def seenTo (m : HoldM) (k : Nat) : List PyData := .int m.rows.length :: (List.range k).flatMap (seenRoom m)
def seenD (m : HoldM) : PyData := .list (seenTo m m.rows.length)
/-- what is seen, told by objects that are none of L -/
def sp_seen (K : PySem.W.Frag) (C : Addr) : Sp := fun vs H Q _ => ∃ a fp m L, vs = [.ref a] ∧ HoldAt K C H a fp m ∧ NoTups H L ∧ ∀ v H', Same H H' → Dn K (cutH H' L) (seenD m) v → Q v H'
def sp_bounds (K : PySem.W.Frag) (C : Addr) : Sp := fun vs H Q _ => ∃ a fp m, vs = [.ref a] ∧ HoldAt K C H a fp m ∧ ∀ p, H p = none → Q (.ref p) (upd H p (.tup [.int m.most, .int m.cap, .int m.load]))
end L2
namespace L2
open PySem PySem.Spec PyProof.Rows Mth
theorem NoTups.same {H H' : Hp} {L : List Addr} (h : NoTups H L) (s : Same H H') : NoTups H' L := fun b hb => by
  obtain ⟨o, e, n⟩ := h b hb
  exact ⟨o, s _ _ e, n⟩
end L2
namespace L2
open PySem PySem.Spec PyProof.Rows Mth
section
variable {K : PySem.W.Frag} {C : Addr} {H H1 H2 : Hp} {a : Addr} {fp fp1 fp2 : List Addr} {m1 m2 : HoldM}
theorem Deed.trans (D1 : Deed K C H a fp m1 H1 fp1) (D2 : Deed K C H1 a fp1 m2 H2 fp2) : Deed K C H a fp m2 H2 fp2 := by
  refine ⟨D2.at_, fun b o h n => D2.but b o (D1.but b o h n) fun q => ?_, D1.ts.trans D2.ts, fun b hb => ?_⟩
  · rcases D1.own b q with z | z
    · exact n z
    · rw [z] at h; cases h
  · rcases D2.own b hb with q | q
    · exact D1.own b q
    · by_cases z : b ∈ fp
      · exact .inl z
      · refine .inr ?_
        cases e : H b with
        | none => rfl
        | some o => rw [D1.but b o e z] at q; cases q
theorem Deed.pre (s : Same H H1) (D : Deed K C H1 a fp m2 H2 fp2) : Deed K C H a fp m2 H2 fp2 :=
  ⟨D.at_, fun b o h n => D.but b o (s b o h) n, (Same.ts s).trans D.ts, fun b hb => (D.own b hb).elim .inl fun q => .inr (s.free q)⟩
end
def sp_changed (K : PySem.W.Frag) (C : Addr) : Sp := fun vs H Q _ => ∃ a fp m, ∃ c : Int, vs = [.ref a, .int c] ∧ HoldAt K C H a fp m ∧ Tw m ∧ 1 ≤ m.rows.length ∧ bandsM m.rows ≤ 400 ∧
  ∀ H' fp' m', m'.most = m.most → m'.cap = m.cap → m'.load = m.load → Deed K C H a fp m' H' fp' → Q .non H'
end L2
namespace L2
open PySem PySem.Spec PyProof.Rows Mth
end L2
namespace L2
open PySem PySem.Spec PyProof.Rows Mth
def sp_built (K : PySem.W.Frag) (C : Addr) : Sp := fun vs H Q _ => ∃ p, ∃ tm : ToldM, ∃ n : Nat, vs = [.ref p] ∧ ToldAt K H p tm ∧ tm.Ok n n ∧ 1 ≤ n ∧ n ≤ 4 ∧
  ∀ a H' fp, Same H H' → HoldAt K C H' a fp (tm.m2 n n) → (∀ b ∈ fp, H b = none) → (tm.m2 n n).rows.length = n → Tw (tm.m2 n n) → Q (.ref a) H'
end L2
namespace L2
open PySem PySem.Spec PyProof.Rows Mth
/-- whole numbers, truths and None in lists and tuples, n deep at most -/
def plD : Nat → PyData → Prop
  | _, .none => True
  | _, .bool _ => True
  | _, .int _ => True
  | n + 1, .list ds => ∀ d ∈ ds, plD n d
  | n + 1, .tuple ds => ∀ d ∈ ds, plD n d
  | _, _ => False
theorem plD_all {n : Nat} (h : ∀ d, plD n d → PyData.eqv d d = true ∧ d.canLay0 = true ∧ d.depth ≤ n) : ∀ ds : List PyData, (∀ d ∈ ds, plD n d) → PyData.eqvAll ds ds = true ∧ PyData.canLayAll0 ds = true ∧ PyData.depthAll ds ≤ n
  | [], _ => by simp [PyData.eqvAll, PyData.canLayAll0, PyData.depthAll]
  | d :: ds, k => by
    obtain ⟨a, b, c⟩ := h d (k d List.mem_cons_self)
    obtain ⟨a', b', c'⟩ := plD_all h ds (fun e he => k e (List.mem_cons_of_mem _ he))
    simp only [PyData.eqvAll, PyData.canLayAll0, PyData.depthAll, a, b, a', b', Bool.and_self, true_and]
    omega
theorem plD_all3 : ∀ (n : Nat) (d : PyData), plD n d → PyData.eqv d d = true ∧ d.canLay0 = true ∧ d.depth ≤ n
  | n, .none, _ => by simp [PyData.eqv, PyData.canLay0, PyData.depth]
  | n, .bool b, _ => by simp [PyData.eqv, PyData.canLay0, PyData.depth]
  | n, .int i, _ => by simp [PyData.eqv, PyData.canLay0, PyData.depth]
  | n + 1, .list ds, h => by
    obtain ⟨a, b, c⟩ := plD_all (plD_all3 n) ds h
    simp only [PyData.eqv, PyData.canLay0, PyData.depth, a, b, true_and]
    omega
  | n + 1, .tuple ds, h => by
    obtain ⟨a, b, c⟩ := plD_all (plD_all3 n) ds h
    simp only [PyData.eqv, PyData.canLay0, PyData.depth, a, b, true_and]
    omega
  | 0, .list _, h => h.elim
  | 0, .tuple _, h => h.elim
  | 0, .str _, h => h.elim
  | _ + 1, .str _, h => h.elim
  | 0, .dict _, h => h.elim
  | _ + 1, .dict _, h => h.elim
theorem plD_shaped {n : Nat} {d : PyData} (h : plD n d) (hn : n ≤ 64) : SeqAt.shaped d = true := by
  obtain ⟨_, b, c⟩ := plD_all3 n d h
  unfold SeqAt.shaped
  rw [b, decide_eq_true (Nat.le_trans c hn)]; rfl
theorem plD_refl {n : Nat} {d : PyData} (h : plD n d) : PyData.eqv d d = true := (plD_all3 n d h).1
/-- the same data on both sides -/
theorem neD_refl {K : PySem.W.Frag} {H : Hp} {x y : V} {d : PyData} {n : Nat} {Q : VK} (hx : Dn K H d x) (hy : Dn K H d y) (p : plD n d) (hn : n ≤ 64) (q : Q (.bl false) H) : rNeD K x y H Q :=
  ⟨d, d, hx, hy, plD_shaped p hn, plD_shaped p hn, by rw [plD_refl p]; exact q⟩
theorem eqD_refl {K : PySem.W.Frag} {H : Hp} {x y : V} {d : PyData} {n : Nat} {Q : VK} (hx : Dn K H d x) (hy : Dn K H d y) (p : plD n d) (hn : n ≤ 64) (q : Q (.bl true) H) : rEqD K x y H Q :=
  ⟨d, d, hx, hy, plD_shaped p hn, plD_shaped p hn, by rw [plD_refl p]; exact q⟩
end L2
namespace L2
open PySem PySem.Spec PyProof.Rows Mth
section
variable {K : PySem.W.Frag} {C : Addr} {H H1 H' : Hp} {a b : Addr} {fp fp' fpb L M : List Addr} {m m' mb : HoldM}
/-- its own objects are there, and no tuples -/
theorem HoldAt.notups (h : HoldAt K C H a fp m) : NoTups H fp := by
  obtain ⟨⟨dx, pm, pf, ps, pt, vm, vs, vt, kvs, rfl, ha, hdx, hpm, hpf, hps, hpt, _⟩, _⟩ := h
  intro c hc
  simp only [List.mem_cons, List.not_mem_nil, or_false] at hc
  rcases hc with rfl | rfl | rfl | rfl | rfl | rfl
  · exact ⟨_, ha, rfl⟩
  · exact ⟨_, hdx, rfl⟩
  · exact ⟨_, hpm, rfl⟩
  · exact ⟨_, hpf, rfl⟩
  · exact ⟨_, hps, rfl⟩
  · exact ⟨_, hpt, rfl⟩
theorem HoldAt.mem (h : HoldAt K C H a fp m) : a ∈ fp := by
  obtain ⟨⟨dx, pm, pf, ps, pt, vm, vs, vt, kvs, rfl, _⟩, _⟩ := h
  exact List.mem_cons_self
/-- a hold made later has none of what was there -/
theorem HoldAt.apart (h : HoldAt K C H a fp m) (n : ∀ c ∈ fpb, H c = none) : ∀ c ∈ fp, c ∉ fpb := fun c hc hb => by
  obtain ⟨o, e, _⟩ := h.notups c hc
  rw [n c hb] at e
  cases e
theorem But.mono (b : But L H H') (h : ∀ c ∈ L, c ∈ M) : But M H H' := fun c o e n => b c o e fun z => n (h c z)
/-- a deed on one hold leaves another one -/
theorem Deed.other (D : Deed K C H a fp m' H' fp') (h : HoldAt K C H b fpb mb) (dis : ∀ c ∈ fpb, c ∉ fp) : HoldAt K C H' b fpb mb := by
  obtain ⟨⟨dx, pm, pf, ps, pt, vm, vs, vt, kvs, rfl, ha, hdx, hpm, hpf, hps, hpt, n1, n2, n3, dm, ds, dt, df, fk⟩, q1, q2, q3, q4⟩ := h
  have g : ∀ {c o}, H c = some o → c ∈ [b, dx, pm, pf, ps, pt] → H' c = some o := fun e hc => D.but _ _ e (dis _ hc)
  exact ⟨⟨dx, pm, pf, ps, pt, vm, vs, vt, kvs, rfl, g ha (by simp), g hdx (by simp), g hpm (by simp), g hpf (by simp), g hps (by simp), g hpt (by simp), n1, n2, n3, rows_ts D.ts dm, skies_ts D.ts ds, stoves_ts D.ts dt, fun i j => (df i j).ts D.ts, fk⟩, q1, q2, q3, q4⟩
end
end L2
namespace L2
open PySem PySem.Spec PyProof.Rows Mth
theorem Tw.with {m : HoldM} {x y z : Option Int} (h : Tw m) : Tw (m.with x y z) := by
  obtain ⟨sk, fl, S, F⟩ := h
  exact ⟨sk, fl, ⟨S.sky, S.flow⟩, F⟩
end L2
namespace L2
open PySem PySem.Spec PyProof.Rows Mth
section
variable {X : Cx}
end
theorem call_isinstK {X : Cx} {K : PySem.W.Frag} (hK : X.K = K) : CallR X (.builtin "isinstance") (fun xs H Q => ∃ x c t cv b, xs = [x, c] ∧ TyOf K H x t ∧ RelV c cv ∧ PySem.W.kitOne K t cv = some b ∧ Q (.bl b) H) := by
  subst hK
  exact call_isinst
end L2
namespace L2
open PySem PySem.Spec PyProof.Rows Mth
theorem bt_any : bootBuiltins "any" = some (.builtin "any") := by decide +kernel
end L2
namespace L2
open PySem PySem.Spec PyProof.Rows Mth
def touchP (r : List Fra) (f g : Fra) (b : Nat) : Bool := (!underM g (r.getD b (0, 1))) && !underM (r.getD (b + 1) (0, 1)) f
def touchTo (r : List Fra) (f g : Fra) (n : Nat) : List Nat := (List.range n).filter (touchP r f g)
def touchM (r : List Fra) (f g : Fra) : List Nat := touchTo r f g (r.length - 1)
def withinM (r : List Fra) (f g : Fra) : Bool := (!underM f (r.getD 0 (0, 1))) && !underM (r.getD (r.length - 1) (0, 1)) g
def sp_touched (K : PySem.W.Frag) (C : Addr) : Sp := fun vs H Q _ => ∃ a fp m, ∃ i : Nat, ∃ r v1 v2 f g, vs = [.ref a, natV i, v1, v2] ∧ HoldAt K C H a fp m ∧ m.rows[i]? = some r ∧ Dn K H (frD f) v1 ∧ Dn K H (frD g) v2 ∧ OkF 1000 f ∧ OkF 1000 g ∧
  ∀ p H', Same H H' → H' p = some (.lst ((touchM r f g).map natV)) → Q (.ref p) H'
def sp_within (K : PySem.W.Frag) (C : Addr) : Sp := fun vs H Q _ => ∃ a fp m, ∃ i : Nat, ∃ r v1 v2 f g, vs = [.ref a, natV i, v1, v2] ∧ HoldAt K C H a fp m ∧ m.rows[i]? = some r ∧ Dn K H (frD f) v1 ∧ Dn K H (frD g) v2 ∧ OkF 1000 f ∧ OkF 1000 g ∧
  ∀ H', Same H H' → Q (.bl (withinM r f g)) H'
end L2
namespace L2
open PySem PySem.Spec PyProof.Rows Mth
end L2
namespace L2
open PySem PySem.Spec PyProof.Rows Mth
end L2
namespace L2
open PySem PySem.Spec PyProof.Rows Mth
def natD (n : Nat) : PyData := .int (n : Int)
theorem dnA_nats {K : PySem.W.Frag} {H : Hp} : ∀ l : List Nat, DnA K H (l.map natD) (l.map natV)
  | [] => dn_nil
  | n :: l => dn_cons rfl (dnA_nats l)
theorem dn_nats {K : PySem.W.Frag} {H : Hp} {p : Addr} {l : List Nat} (h : SqL K H p (l.map natV)) : Dn K H (.list (l.map natD)) (.ref p) := dn_lst h (dnA_nats l)
theorem pl_nats {n : Nat} {l : List Nat} : plD (n + 1) (.list (l.map natD)) := by
  intro d hd
  obtain ⟨i, _, rfl⟩ := List.mem_map.mp hd
  cases n <;> exact trivial
theorem sz0 : ([] : List V).length ≤ sizeLine := Nat.zero_le _
end L2
namespace L2
open PySem PySem.Spec PyProof.Rows Mth
def cutI (ns : List Int) (lo hi : Option Int) : List Int := (ns.drop (HT.sIx ns.length 0 lo)).take (HT.sIx ns.length ns.length hi - HT.sIx ns.length 0 lo)
end L2
namespace L2
open PySem PySem.Spec PyProof.Rows Mth
theorem cut {t u : TS} {D : Ends} {σ : St} {H : Hp} (h : ∀ R : St → Hp → Prop, (∀ σ' H', u D σ' H' → R σ' H') → t { D with nx := R } σ H) : tSeq t u D σ H := h (u D) fun _ _ x => x
/-- o.m(..), whatever class o is of -/
def tDyn (P : Program) (w : World) (K : PySem.W.Frag) (mg : Str → Option Value) (base : Heap) (m : Str) (k : Nat) (ta : TE) (t : TA) : TE := fun σ H Q => ta σ H fun x H1 =>
  ∃ C a dx fs ps sp, x = .ref a ∧ H1 a = some (.ins C dx fs) ∧ fs.lookup m = none ∧ Cls K C ∧ MDef P w K mg base C m k ps [] sp ∧ t σ H1 fun vs H2 => sp (.ref a :: (vs ++ [])) H2 Q E0
section
variable {X : Cx} {P : Program} {w : World} {K : PySem.W.Frag} {mg : Str → Option Value} {base : Heap} {m x : Str} {p pos apos : Pos} {e o : Expr} {es : List Expr} {ta : TE} {t : TA} {k : Nat}
/-- a def of the class at C, read off the class -/
structure ClsFn (K : PySem.W.Frag) (C : Addr) (m : Str) (f : Addr) : Prop where
  ga : PySem.W.specialIn K (.ref C) "__getattribute__" = some (some (.builtin "type.__getattribute__"))
  rd : ∃ mc, PySem.W.readsIn K C mc = true ∧ PySem.W.findCls K (.ref C) mc m = some (.val (.ref f))
  kp : PySem.W.keepIn K (.ref f) = true
end
/-- a def that is read off its class -/
def CDef (P : Program) (w : World) (K : PySem.W.Frag) (mg : Str → Option Value) (base : Heap) (C : Addr) (m : Str) (k : Nat) (ps : List Str) (sp : Sp) : Prop :=
  ∃ f fd, ClsFn K C m f ∧ Binds K fd ps [] ∧ FnOk P w K mg base CX0 k f fd ps sp
theorem MDef.mono {P : Program} {w : World} {K : PySem.W.Frag} {mg : Str → Option Value} {base : Heap} {C : Addr} {m : Str} {j k : Nat} {ps : List Str} {ds : List Value} {sp : Sp} (h : MDef P w K mg base C m j ps ds sp) (hk : j ≤ k) : MDef P w K mg base C m k ps ds sp := by
  obtain ⟨f, fd, M, B, F⟩ := h
  exact ⟨f, fd, M, B, F.mono hk⟩
end L2
namespace L2
open PySem PySem.Spec PyProof.Rows Mth
end L2
namespace L2
open PySem PySem.Spec PyProof.Rows Mth
end L2
namespace L2
open PySem PySem.Spec PyProof.Rows Mth
section
variable {P : Program} {w : World} {A : Around} {E : Value → Shared → Prop} {s : Shared}
end
section
variable {P : Program} {w : World} {A : Around} {E : Value → Shared → Prop} {s : Shared}
end
/-- a sequence with its places: a new pair each turn -/
def Itn (sq : Hp → Addr → List V → Prop) (a : Addr) : It :=
  ⟨fun i H => ∃ xs x, sq H a xs ∧ xs[i]? = some x,
   fun i H v H' => ∃ p x, H p = none ∧ v = .ref p ∧ H' = upd H p (.tup [natV i, x]) ∧ ∀ xs, sq H a xs → xs[i]? = some x,
   fun i H => ∃ xs, sq H a xs ∧ xs.length = i⟩
def EnL (e j a : Addr) (i : Nat) (h : Heap) : Prop := (∃ old, IsEnum h e j i old) ∧ h.IsListIter j a i
def EnT (e j a : Addr) (i : Nat) (h : Heap) : Prop := (∃ old, IsEnum h e j i old) ∧ h.IsTupleIter j a i
end L2
namespace L2
open PySem PySem.Spec PyProof.Rows Mth
section
variable {X : Cx}
def iEnL (K : PySem.W.Frag) (ta : TA) : TI := fun σ H R => ta σ H fun vs H1 => ∃ a, vs = [.ref a] ∧ (∃ xs, SqL K H1 a xs) ∧ R (Itn (SqL K) a) H1
def iEnT (K : PySem.W.Frag) (ta : TA) : TI := fun σ H R => ta σ H fun vs H1 => ∃ a, vs = [.ref a] ∧ (∃ xs, SqT K H1 a xs) ∧ R (Itn (SqT K) a) H1
end
end L2
namespace Ord
open Bit
/-- what the document allows, of an order -/
structure LawOk (n : Nat) (has : Nat → Bool) (wd : Nat → Int) (wt : Nat → Bool) (b : Nat) (most heap : Int) (o : Nat) : Prop where
  has : ∀ r ∈ rooms o, r < n ∧ has r = true
  stay : ∀ r, r < n → wt r = true → o.testBit r = b.testBit r
  most : ((rooms o).length : Int) ≤ most
  wood : ((rooms o).map wd).sum ≤ heap
def setOf (n : Nat) (p : Nat → Bool) : Nat := sumOf ((List.range n).filter p)
structure ProgOk (n : Nat) (has : Nat → Bool) (wd : Nat → Int) (wt : Nat → Bool) (b : Nat) (most heap : Int) (o : Nat) : Prop where
  stay : o &&& setOf n wt = b &&& setOf n wt
  most : ((rooms o).length : Int) ≤ most
  wood : ((rooms (o &&& setOf n has)).map wd).sum ≤ heap
section
variable {n : Nat} {has : Nat → Bool} {wd : Nat → Int} {wt : Nat → Bool} {b : Nat} {most heap : Int} {o : Nat}
end
end Ord
namespace L2
open PySem PySem.Spec PyProof.Rows Mth
section
variable {prog : Program} {w : World} {A : Around} {E : Value → Shared → Prop} {s : Shared}
end
section
variable {X : Cx}
/-- xs[i:] of a tuple, i from 1 on -/
def rSlF (K : PySem.W.Frag) : V → Option Int → Option Int → Hp → VK → Prop := fun x lo hi H Q => ∃ a xs, ∃ i : Nat, x = .ref a ∧ SqT K H a xs ∧ lo = some (i : Int) ∧ hi = none ∧ 1 ≤ i ∧ i ≤ xs.length ∧ ∀ p, H p = none → Q (.ref p) (upd H p (.tup (xs.drop i)))
/-- xs[:j] of a tuple, less than all -/
def rSlU (K : PySem.W.Frag) : V → Option Int → Option Int → Hp → VK → Prop := fun x lo hi H Q => ∃ a xs, ∃ j : Nat, x = .ref a ∧ SqT K H a xs ∧ lo = none ∧ hi = some (j : Int) ∧ j < xs.length ∧ ∀ p, H p = none → Q (.ref p) (upd H p (.tup (xs.take j)))
theorem ints_of : ∀ {ns : List Int} {its : List Value}, Vals (ns.map V.int) its → IntsAre its ns
  | [], _, .nil => .nil
  | _ :: _, _, .cons ⟨t, e⟩ r => by subst e; exact .cons _ _ (ints_of r)
theorem vals_of : ∀ {ns : List Int} {its : List Value}, IntsAre its ns → Vals (ns.map V.int) its
  | [], _, .nil => .nil
  | _ :: _, _, .cons _ _ r => .cons ⟨_, rfl⟩ (vals_of r)
/-- sorted of a list of ints, a new list -/
theorem call_sortedL : CallR X (.builtin "sorted") (fun xs H Q => ∃ (p : Addr) (ns : List Int), xs = [.ref p] ∧ SqL X.K H p (ns.map V.int) ∧ ns.length < 64 ∧ ∀ q (ms : List Int), H q = none → ms.Perm ns → ms.Pairwise (· ≤ ·) → Q (.ref q) (upd H q (.lst (ms.map V.int)))) := by
  intro pins s σ H xs us Q I r h
  obtain ⟨p, ns, rfl, hq, h64, q⟩ := h
  obtain ⟨u, rfl, r1⟩ := vals1 r
  obtain rfl : u = Value.ref p := r1
  obtain ⟨its, rv, pl, hz⟩ := I.list hq
  have hl := rv.length
  rw [List.length_map] at hl
  refine sorted_ints pl.isList (ints_of rv) (by omega) fun out ms a1 a2 a3 => ?_
  obtain ⟨e, he⟩ := sortedAll_at s.heap its out
  refine ⟨.ref (s.heap.objs.size + 1), _, I.laid (t' := s.toks) (o := .lst (ms.map V.int)) (fun b ob q => sortedAll_old q) (Nat.le_succ _) ?_, rfl, q _ ms (I.hok.fresh (Nat.le_succ _)) a2 a3⟩
  have := a2.length_eq
  exact ⟨by rw [List.length_map]; exact Nat.le_of_lt (small1000 (by omega)), out.toList, e, vals_of a1, he⟩
end
end L2
namespace L2
open PySem PySem.Spec PyProof.Rows Mth
abbrev Pr := Fra × Fra
def sopM (ds : List Pr) : Int × Int := ds.foldl (fun s d => (s.1 * (d.1.2 * d.2.2) + d.1.1 * d.2.1 * s.2, s.2 * (d.1.2 * d.2.2))) (0, 1)
theorem sop_snoc (ds : List Pr) (d : Pr) : sopM (ds ++ [d]) = ((sopM ds).1 * (d.1.2 * d.2.2) + d.1.1 * d.2.1 * (sopM ds).2, (sopM ds).2 * (d.1.2 * d.2.2)) := by
  unfold sopM
  rw [List.foldl_append]; rfl
structure PrOk (n k : Nat) (d : Pr) : Prop where
  a : OkF n d.1
  b : OkF k d.2
abbrev prD (d : Pr) : PyData := .tuple [frD d.1, frD d.2]
def sp_sop (K : PySem.W.Frag) : Sp := fun vs H Q _ => ∃ p xs ds, vs = [.ref p] ∧ SqL K H p xs ∧ DnA K H (ds.map prD) xs ∧ (∀ d ∈ ds, PrOk 900 900 d) ∧ ds.length ≤ 10 ∧ Bd 4000 (sopM ds).2 ∧
  ∀ q H', Same H H' → H' q = some (.tup [.int (nf (sopM ds).1 (sopM ds).2).1, .int (nf (sopM ds).1 (sopM ds).2).2]) → Q (.ref q) H'
/-- the pairs of a room's warmth -/
def roomPrs (m : HoldM) (i : Nat) (airs : List Fra) : List Pr := (List.range airs.length).map fun j => (m.share i j, airs.getD j (0, 1))
def warmPrs (m : HoldM) (i : Nat) (airs : List Fra) (w : Fra) (fired : Bool) : List Pr := roomPrs m i airs ++ [(m.skyS i, w)] ++ (if fired then [((1, 1), ((m.stoves[i]?).getD none).map (·.1) |>.getD (0, 1))] else [])
def warmthM (m : HoldM) (i : Nat) (airs : List Fra) (w : Fra) (fired : Bool) : Fra := nf (sopM (warmPrs m i airs w fired)).1 (sopM (warmPrs m i airs w fired)).2
def sp_warmth (K : PySem.W.Frag) (C : Addr) : Sp := fun vs H Q _ => ∃ a fp m, ∃ i : Nat, ∃ pa avs airs wv w fired, vs = [.ref a, natV i, .ref pa, wv, .bl fired] ∧ HoldAt K C H a fp m ∧ i < m.rows.length ∧ SqL K H pa avs ∧ DnA K H (airs.map frD) avs ∧ airs.length = m.rows.length ∧ (∀ f ∈ airs, OkF 120 f) ∧ Dn K H (frD w) wv ∧ OkF 120 w ∧
  (fired = true → ∃ z, m.stoves[i]? = some (some z)) ∧ ∀ q H', Same H H' → H' q = some (.tup [.int (warmthM m i airs w fired).1, .int (warmthM m i airs w fired).2]) → Q (.ref q) H'
end L2
namespace L2
open PySem PySem.Spec PyProof.Rows Mth
/-- a sum so far, over W -/
def OvS (W C : Int) (s : Int × Int) : Prop := s.1 * W = C * s.2
theorem OvS.next {W C c : Int} {ds : List Pr} {d : Pr} (h : OvS W C (sopM ds)) (hd : d.1.1 * d.2.1 * W = c * (d.1.2 * d.2.2)) : OvS W (C + c) (sopM (ds ++ [d])) := by
  unfold OvS at *
  rw [sop_snoc]
  generalize sopM ds = s at h
  generalize d.1.2 * d.2.2 = B at hd
  generalize d.1.1 * d.2.1 = A at hd
  show (s.1 * B + A * s.2) * W = (C + c) * (s.2 * B)
  grind
def sumI (f : Nat → Int) : Nat → Int
  | 0 => 0
  | t + 1 => sumI f t + f t
/-- the shares told -/
def ToldM.skT (tm : ToldM) (i : Nat) : Int := ((tm.sky[i]?).map (·.1)).getD 0
def ToldM.flT (tm : ToldM) (i j : Nat) : Int := if i = j then 0 else (tm.flows i j).getD 0
end L2

namespace L2
open PySem PySem.Spec PyProof.Rows Mth
/-- a sum of fractions, not brought down -/
def sumQ (ts : List Fra) : Int × Int := ts.foldl (fun s d => (s.1 * d.2 + d.1 * s.2, s.2 * d.2)) (0, 1)
def sp_sum8 (K : PySem.W.Frag) : Sp := fun vs H Q _ => ∃ p xs ts, vs = [.ref p] ∧ SqL K H p xs ∧ DnA K H (ts.map frD) xs ∧ (∀ d ∈ ts, OkF 250 d) ∧ ts.length ≤ 10 ∧ ∀ q H', Same H H' → H' q = some (.tup [.int (sumQ ts).1, .int (sumQ ts).2]) → Q (.ref q) H'
def sp_air8 : Sp := fun vs H Q _ => ∃ c : Int, ∃ k : Nat, vs = [.int c, natV k] ∧ Bd 1048577 c ∧ k ≤ 100 ∧ ∀ q f H', Same H H' → H' q = some (.tup [.int (f : Fra).1, .int f.2]) → OkF 100 f → Q (.ref q) H'
/-- the shares drawn: of each room five, each a quarter of the whole at most -/
structure PtOk (n : Nat) (W : Int) (ps : List (List Int)) : Prop where
  len : ps.length = n
  five : ∀ l ∈ ps, l.length = 5
  bd : ∀ l ∈ ps, ∀ x ∈ l, 0 ≤ x ∧ x ≤ W / 4
  w0 : 0 < W
  w1 : W < 10 ^ 30
def pA (ps : List (List Int)) (i j : Nat) : Int := (ps.getD i []).getD j 0
theorem PtOk.at_ {n : Nat} {W : Int} {ps : List (List Int)} (h : PtOk n W ps) {i j : Nat} (hi : i < n) (hj : j < 5) : ∃ h1 : i < ps.length, ∃ h2 : j < ps[i].length, pA ps i j = ps[i][j] ∧ 0 ≤ pA ps i j ∧ pA ps i j ≤ W / 4 := by
  have h1 : i < ps.length := by rw [h.len]; exact hi
  have h2 : j < ps[i].length := by rw [h.five _ (List.getElem_mem h1)]; exact hj
  have e : pA ps i j = ps[i][j] := by
    unfold pA
    rw [List.getD_eq_getElem?_getD (l := ps), get_nat h1]
    show ps[i].getD j 0 = _
    rw [List.getD_eq_getElem?_getD, get_nat h2]; rfl
  exact ⟨h1, h2, e, by rw [e]; exact h.bd _ (List.getElem_mem h1) _ (List.getElem_mem h2)⟩
abbrev ptD (ps : List (List Int)) : PyData := .list (ps.map fun l => .list (l.map PyData.int))
def PtAt (K : PySem.W.Frag) (H : Hp) (p : Addr) (ps : List (List Int)) : Prop := Dn K H (ptD ps) (.ref p)
theorem ShOk.congr {W : Int} {sk sk' : Nat → Int} {fl fl' : Nat → Nat → Int} {m : HoldM} (h : ShOk W sk fl m) (h1 : ∀ i, sk i = sk' i) (h2 : ∀ i j, fl i j = fl' i j) : ShOk W sk' fl' m := ⟨fun i => h1 i ▸ h.sky i, fun i j => h2 i j ▸ h.flow i j⟩
end L2
namespace L2
open PySem PySem.Spec PyProof.Rows Mth
theorem pe_makeE0 {X : Cx} {C : Addr} {x : Str} {p pos : Pos} {k : Nat} {ps : List Str} {sp : Sp} {dvs : List V} (M : MkCl X.K C) (D : MDefE X.prog X.w X.K X.mg X.base C "__init__" k ps dvs sp) (hr : Room (k + 1) X.A) (hm : X.mg x = some (.ref C)) (hg : Gl X x := by rfl) (hdb : (x == ("__debug__" : Str)) = false := by decide) :
    PE X (.Call (.Name x p) [] [] pos) (tMake C sp dvs E0 tNil) := by
  obtain ⟨ds, hd, D⟩ := D
  exact pe_makeD0 M D hd hr hm hg hdb
end L2
namespace L2
open PySem PySem.Spec PyProof.Rows Mth
/-- the shares put in by then: all of the rooms below k, of room k those below j -/
def sk8 (ps : List (List Int)) (k a : Nat) : Int := if a < k then pA ps a 4 else 0
def fl8 (ps : List (List Int)) (n k j a b : Nat) : Int := if a ≠ b ∧ b < n ∧ (a < k ∨ (a = k ∧ b < j)) then pA ps a b else 0
abbrev r01 : List Fra := [(0, 1), (1, 1)]
def sp_built8 (K : PySem.W.Frag) (C : Addr) : Sp := fun vs H Q _ => ∃ p ps W, ∃ n : Nat, ∃ v f, vs = [.ref p, .int W, v] ∧ PtAt K H p ps ∧ PtOk n W ps ∧ 1 ≤ n ∧ n ≤ 4 ∧ Dn K H (frD f) v ∧ OkF 100 f ∧ 0 ≤ f.1 ∧
  ∀ a H' fp m, Same H H' → HoldAt K C H' a fp m → m.rows.length = n → ShOk W (sk8 ps n) (fl8 ps n n 0) m → m.stoves[0]? = some (some (f, 0, 0, 0)) → Q (.ref a) H'
theorem PtAt.same {K : PySem.W.Frag} {H H' : Hp} {p : Addr} {ps : List (List Int)} (h : PtAt K H p ps) (s : Same H H') : PtAt K H' p ps := Dn.same s _ h
theorem PtAt.at_ {K : PySem.W.Frag} {H : Hp} {p : Addr} {ps : List (List Int)} {n : Nat} {W : Int} (h : PtAt K H p ps) (ok : PtOk n W ps) : ∃ xs, SqL K H p xs ∧ xs.length = n ∧ ∀ i j : Nat, i < n → j < 5 → ∃ pk vs, atI xs (i : Int) = some (.ref pk) ∧ SqL K H pk vs ∧ atI vs (j : Int) = some (.int (pA ps i j)) := by
  obtain ⟨q, xs, e, hq, d⟩ := h
  injection e with e
  subst e
  refine ⟨xs, hq, by rw [d.length, List.length_map, ok.len], fun i j hi hj => ?_⟩
  obtain ⟨h1, h2, e, _⟩ := ok.at_ hi hj
  obtain ⟨v, ev, pk, ws, rfl, hpk, dws⟩ := d.get (i := i) (d := .list (ps[i].map PyData.int)) (by rw [List.getElem?_map, get_nat h1]; rfl)
  obtain rfl := dn_ints_inv dws
  exact ⟨pk, _, atI_nat ev, hpk, by rw [e]; exact atI_nat (by rw [List.getElem?_map, get_nat h2]; rfl)⟩
/-- what is left to the room itself, behind the rooms below j -/
def rest8 (ps : List (List Int)) (W : Int) (n i j : Nat) : Int := W - pA ps i 4 - sumF (fl8 ps n n 0) i j
def trm8 (ps : List (List Int)) (W : Int) (n i : Nat) (airs : List Fra) (j : Nat) : Fra := ((if j = i then rest8 ps W n i n else pA ps i j) * (airs.getD j (0, 1)).1, W * (airs.getD j (0, 1)).2)
def terms8 (ps : List (List Int)) (W : Int) (n i : Nat) (airs : List Fra) (w : Fra) : List Fra :=
  [(pA ps i 4 * w.1, W * w.2)] ++ (((List.range n).filter fun j => decide (j ≠ i)).map (trm8 ps W n i airs) ++ [trm8 ps W n i airs i])
def sp_terms8 (K : PySem.W.Frag) : Sp := fun vs H Q _ => ∃ p ps W, ∃ n i : Nat, ∃ pa avs airs wv w, vs = [.ref p, .int W, natV i, .ref pa, wv] ∧ PtAt K H p ps ∧ PtOk n W ps ∧ n ≤ 4 ∧ i < n ∧ SqL K H pa avs ∧ DnA K H (airs.map frD) avs ∧ airs.length = n ∧ (∀ f ∈ airs, OkF 100 f) ∧ Dn K H (frD w) wv ∧ OkF 100 w ∧
  ∀ q xs H', Same H H' → H q = none → H' q = some (.lst xs) → DnA K H' ((terms8 ps W n i airs w).map frD) xs → Q (.ref q) H'
end L2
namespace PySem
open Sem (wp)
section
variable {prog : Program} {w : World} {K : Type} [DecidableEq K] {knd : HeapKind prog w K} {A : Around} {E : Value → Shared → Prop} {s : Shared}
theorem map_erase_nodup {f : K × Addr × Value → DictEntry} {k : K} : ∀ {xs : List (K × Addr × Value)} {j : Nat} {p : Addr × Value}, (xs.map (·.1)).Nodup → xs[j]? = some (k, p) → (xs.map f).eraseIdx j = (xs.filter fun x => decide (x.1 ≠ k)).map f
  | [], _, _, _, e => by cases e
  | x :: xs, 0, p, nd, e => by
    cases e
    rw [List.map_cons, List.eraseIdx_zero, List.tail_cons, List.filter_cons_of_neg (by simp)]
    have nd' := List.nodup_cons.mp nd
    congr 1
    symm
    rw [List.filter_eq_self]
    intro y hy
    have : y.1 ≠ k := fun z => nd'.1 (by show k ∈ _; rw [← z]; exact List.mem_map.mpr ⟨y, hy, rfl⟩)
    simpa using this
  | x :: xs, j + 1, p, nd, e => by
    have e : xs[j]? = some (k, p) := e
    have nd' := List.nodup_cons.mp nd
    have ne : x.1 ≠ k := fun z => nd'.1 (by show x.1 ∈ _; rw [z]; exact List.mem_map.mpr ⟨(k, p), List.mem_of_getElem? e, rfl⟩)
    rw [List.map_cons, List.eraseIdx_cons_succ, map_erase_nodup nd'.2 e, List.filter_cons_of_pos (by simpa using ne), List.map_cons]
theorem wpAny_takeOut_heap {d a : Addr} {xs : List (K × Addr × Value)} {k : K} {Q : Option DictEntry → Shared → Prop} (hu : knd.room A) (hkey : knd.is s.heap k a) (hm : s.heap.DictOfH knd d xs)
    (hnone : atKey xs k = none → Q none { s with toks := s.toks + knd.draws k })
    (hsome : ∀ p, atKey xs k = some p → ∀ h', h'.DictOfH knd d (xs.filter fun x => decide (x.1 ≠ k)) → Heap.SameBut d s.heap h' → Q (some (entryOfKey knd (k, p))) { s with heap := h', toks := s.toks + knd.draws k })
    (hsz : xs.length ≤ sizeLine) : wpAny (model prog w) A (Builtin.Dict.takeOut d (.ref a)) Q E s := by
  obtain ⟨o, es, ep, ho, hc, hd, he, his, hn⟩ := hm
  unfold Builtin.Dict.takeOut
  try with_reducible refine wpAny_holding ?_
  refine wpAny_bind (knd.pyHash hu hkey ?_)
  refine wpAny_bind (wpAny_dictFind_heap (s := { s with toks := s.toks + knd.draws k }) hu hkey ho hd he his hn ?_ ?_)
  · intro hno
    exact wpAny_pure (hnone (atKey_none_of_get hno))
  · intro j p hj
    refine wpAny_bind (wpAny_dictEntries (s := { s with toks := s.toks + knd.draws k }) ho hd ?_)
    rw [entry_at he j, hj]
    have hes : es.size ≤ sizeLine := by have e := size_of_entries he; omega
    refine wpAny_bind (wpAny_updateDictKeys (hz := hes) (s := { s with toks := s.toks + knd.draws k }) ho hd (wpAny_pure (hsome p (atKey_of_get hn hj) _ ⟨_, _, ep + 1, Heap.get?_update_self _ ho (Obj.isFreed_of_dict (Obj.data_mapDictKeys hd _)),
      hc.mapDictKeys _, Obj.data_mapDictKeys hd _, ?_, ?_, ?_⟩ (Heap.SameBut.update ..))))
    · have := map_erase_nodup (f := entryOfKey knd) hn hj
      rw [← this, ← he]
      obtain ⟨l⟩ := es
      simp
    · intro x hx
      exact knd.keeps (his x (List.mem_filter.mp hx).1) ho hd (Heap.SameBut.update ..)
    · exact hn.sublist (List.Sublist.map _ List.filter_sublist)
theorem dictpop_heap {d a : Addr} {xs : List (K × Addr × Value)} {k : K} {dflt : Value} {R : Result → Shared → Prop} (hu : knd.room A) (hkey : knd.is s.heap k a) (hm : s.heap.DictOfH knd d xs) (hs : (d == sysModules) = false) (hsz : xs.length ≤ sizeLine)
    (hnone : atKey xs k = none → ∀ tk, R (.ok (.ret dflt)) { s with toks := tk })
    (hsome : ∀ p, atKey xs k = some p → ∀ h' tk, h'.DictOfH knd d (xs.filter fun x => decide (x.1 ≠ k)) → Heap.SameBut d s.heap h' → R (.ok (.ret p.2)) { s with heap := h', toks := tk }) :
    wpAny (model prog w) A (Builtin.«dict.pop» ⟨[.ref d, .ref a, dflt], []⟩) (fun fin s' => ∃ v, fin = .done (.ret v) ∧ R (.ok (.ret v)) s') E s := by
  unfold Builtin.«dict.pop»
  refine wpAny_bind ?_
  unfold Builtin.Dict.keyAndDefault
  refine wpAny_bind (wpAny_notOrdered_dict hm.typeIs ?_)
  show wpAny _ _ (pure (d, Value.ref a, some dflt)) _ _ s
  refine wpAny_pure ?_
  have hp : (keyPart (.ref a)).isSome = false := rfl
  simp only [hp, Bool.false_eq_true, if_false]
  obtain ⟨o, es, ep, ho, hc, hd, he, his, hn⟩ := id hm
  refine wpAny_bind (wpAny_dictEntries ho hd (wpAny_bind (wpAny_pure ?_)))
  by_cases hem : es.isEmpty = true
  · rw [hem]
    simp only [if_true]
    have hx : xs = [] := by
      have e := size_of_entries he
      have : es.size = 0 := by simpa [Array.isEmpty] using hem
      exact List.eq_nil_of_length_eq_zero (by omega)
    refine wpAny_bind (wpAny_rule (wpAny_bind (wpAny_pure ?_)))
    simp only [Option.isNone_none, if_true]
    refine wpAny_bind (wpAny_missedRemoval_other hs ?_)
    exact wpAny_bind (wpAny_rule (wpAny_pure ⟨dflt, rfl, hnone (by rw [hx]; rfl) _⟩))
  · have hem : es.isEmpty = false := by simpa using hem
    rw [hem]
    simp only [Bool.false_eq_true, if_false]
    refine wpAny_bind (wpAny_takeOut_heap hu hkey hm (fun hno => ?_) (fun p hp' h' hm' hs' => ?_) hsz)
    · simp only [Option.isNone_none, if_true]
      refine wpAny_bind (wpAny_missedRemoval_other hs ?_)
      exact wpAny_bind (wpAny_rule (wpAny_pure ⟨dflt, rfl, hnone hno _⟩))
    · simp only [Option.isNone_some, Bool.false_eq_true, if_false]
      exact wpAny_bind (wpAny_letGo (wpAny_pure ⟨_, rfl, hsome p hp' h' _ hm' hs'⟩))
end
end PySem
namespace L2
open PySem PySem.Spec PyProof.Rows Mth
theorem KT.drop {H : Hp} {kvs : List (List Key × V)} {xs : List (List Key × Addr × Value)} (r : KT H kvs xs) (k : List Key) : KT H (dropK kvs k) (xs.filter fun x => decide (x.1 ≠ k)) := by
  unfold dropK
  induction r with
  | nil => exact .nil
  | @cons p q ps qs h t ih =>
    by_cases e : p.1 = k
    · rw [List.filter_cons_of_neg (by simpa using e), List.filter_cons_of_neg (by rw [← h.1]; simpa using e)]; exact ih
    · rw [List.filter_cons_of_pos (by simpa using e), List.filter_cons_of_pos (by rw [← h.1]; simpa using e)]; exact .cons h ih
def tDPopT (td ty tx : TE) : TE := fun σ H Q => td σ H fun x H1 => ∃ a, x = .ref a ∧ IsD H1 a ∧ ty σ H1 fun y H2 => tx σ H2 fun z H3 => ∃ kvs k b, H3 a = some (.dT kvs) ∧ y = .ref b ∧ H3 b = some (.tup (k.map kV)) ∧
  (∀ v, valV kvs k = some v → Q v (upd H3 a (.dT (dropK kvs k)))) ∧ (valV kvs k = none → Q z H3)
section
variable {X : Cx} {o e f : Expr} {apos cpos : Pos} {td ty tx : TE}
theorem pe_dpopT (hu : X.A.units + 1 < cLine) (ho : PE X o td) (he : PE X e ty) (hf : PE X f tx) (m : M2 X o "pop" apos e f cpos) : PE X (.Call (.Attribute o "pop" apos) [e, f] [] cpos) (tDPopT td ty tx) := by
  intro pins s σ H Q I h
  refine wpAny_Call_method m.base m.few m.line PySem.F.plainAttrs_dict PySem.F.slot_dict_pop PySem.F.type_dict_pop (thn (ho pins s σ H _ I h) fun u s1 ⟨x, H1, I1, rx, a, ex, d, q1⟩ => ?_)
  subst ex
  obtain rfl : u = Value.ref a := rx
  obtain ⟨t1, t2, _⟩ := isD_at I1 d
  refine ⟨t1, t2, ?_⟩
  rw [m.trees]
  refine Calls.callWith_builtin rfl (Calls.evalArgs_plain (Calls.spliced_cons (thn (he pins s1 σ H1 _ I1 q1) fun iv s2 ⟨y, H2, I2, ry, q2⟩ =>
    Calls.spliced_cons (thn (hf pins s2 σ H2 _ I2 q2) fun fv s3 ⟨z, H3, I3, rz, kvs, k, b, ea, ey, eb, q3, q4⟩ => Calls.spliced_nil ?_))))
  subst ey
  obtain rfl : iv = Value.ref b := ry
  obtain ⟨z1, hd, xs, rel, dd⟩ := dt_of I3.hok ea
  have hz : xs.length ≤ sizeLine := by rw [← Paired.length rel]; exact z1
  have rv := rel.val k
  refine wpAny_call_entry PySem.F.slot_dict_pop dd.typeIs PySem.F.entry_dict_pop ?_ (PySem.F.args_dict_pop_3 _ _ _)
  refine wpAny_mono (dictpop_heap (R := fun r s' => match r with | .ok (.ret v) => EP X pins σ Q v s' | _ => False) (tupleKind_room_in1 hu) (key_of I3.hok eb) dd hd hz (fun hn tk => ?_) (fun p hp h' tk dd' hs => ?_)) (fun fin s' ⟨v, e1, e2⟩ => ⟨v, e1, e2⟩) fun _ _ z => z
  · rw [hn] at rv
    have hn' : valV kvs k = none := by
      cases l : valV kvs k with
      | none => rfl
      | some v => rw [l] at rv; exact rv.elim
    exact ⟨z, H3, I3.kept (t' := tk) fun _ _ e => e, rz, q4 hn'⟩
  · rw [hp] at rv
    obtain ⟨v, hv, rv'⟩ : ∃ v, valV kvs k = some v ∧ RelV v p.2 := by
      cases l : valV kvs k with
      | none => rw [l] at rv; exact rv.elim
      | some v => rw [l] at rv; exact ⟨v, rfl, rv⟩
    obtain ⟨q, es, ep, hq, h2, h3, h4, _, h5⟩ := dd'
    refine ⟨v, _, d_write (t' := tk) I3 (by rw [ea]; exact True.intro) hs ⟨q, hq⟩ (show ObjOk X.prog X.w (upd H3 a (.dT (dropK kvs k))) h' a (.dT (dropK kvs k)) from ⟨Nat.le_trans (dropK_le kvs k) z1, hd, _, (rel.drop k).keeps fun c ys ec => ?_, q, es, ep, hq, h2, h3, h4, h5⟩), rv', q3 v hv⟩
    rw [upd_ne (ne_of ec ea (fun z => nomatch z))]
    exact ec
def tListRng (ta : TE) : TE := fun σ H Q => ta σ H fun x H1 => ∃ n : Nat, x = natV n ∧ n ≤ 1000 ∧ ∀ l, H1 l = none → Q (.ref l) (upd H1 l (.lst ((List.range n).map natV)))
theorem pe_listrng {p1 p2 pos1 pos2 : Pos} {te : TE} (hc : X.calm = true) (he : PE X e te) (hg1 : Gl X "list") (hm1 : X.mg "list" = none) (hg2 : Gl X "range") (hm2 : X.mg "range" = none)
    (hs : starEach [e] X.env = [(false, eval e X.env)] := by rfl)
    (hs2 : starEach [.Call (.Name "range" p2) [e] [] pos2] X.env = [(false, eval (.Call (.Name "range" p2) [e] [] pos2) X.env)] := by rfl) :
    PE X (.Call (.Name "list" p1) [.Call (.Name "range" p2) [e] [] pos2] [] pos1) (tListRng te) := by
  intro pins s σ H Q I h
  refine wpAny_Call_Name_kw (ld_blt I hg1 hm1 bt_list ?_ (by decide) (by decide))
  refine PyProof.Rows.callWith_type1 ?_ hs2 rfl
  rw [hs2]
  refine Calls.spliced_cons ?_
  refine wpAny_Call_Name_kw (ld_blt I hg2 hm2 boot_range ?_ (by decide) (by decide))
  refine PyProof.Rows.callWith_type1 ?_ hs rfl
  rw [hs]
  refine Calls.spliced_cons (thn (he pins s σ H _ I h) fun v s1 ⟨x, H1, I1, r1, q1⟩ => Calls.spliced_nil ?_)
  obtain ⟨n, rfl, hn, q⟩ := q1
  obtain ⟨t, rfl⟩ : ∃ t, v = Value.int (n : Int) t := r1
  refine call_range_1 ?_
  refine Calls.spliced_nil ?_
  have I2 : Inv X pins σ H1 { s1 with heap := s1.heap.push { cls := .type "range", data := .fields #[.int 0 s1.toks, .int (n : Int) t, .int 1 (s1.toks + 1)] }, toks := s1.toks + 1 + 1 } := I1.kept (t' := s1.toks + 1 + 1) fun b o e => Heap.get?_push_of_some _ e
  have hsz : Builtin.Range.rangeSize 0 (n : Int) 1 = (n : Int) := by rw [rangeSize_one]; split <;> omega
  refine call_list_range (n := n) (I1.ok.hd hc) (IsRange.new ..) (small_one (by omega) (by omega) (by omega) (by omega)) hsz (by omega) fun h' tk acc c hk hD hI => ?_
  have hlt : s1.heap.objs.size < (s1.heap.push { cls := .type "range", data := .fields #[.int 0 s1.toks, .int (n : Int) t, .int 1 (s1.toks + 1)] }).objs.size := by rw [Heap.size_push]; exact Nat.lt_succ_self _
  refine ⟨.ref _, _, I2.laid (t' := tk) hk (Nat.le_refl _) ?_, rfl, q _ (I2.hok.fresh (Nat.le_refl _))⟩
  refine ⟨by rw [List.length_map, List.length_range]; exact Nat.le_of_lt (small1000 hn), acc.toList, c, ?_, by simpa using hD⟩
  have hl : acc.toList.length = n := by rw [Array.length_toList]; exact hI.1
  have hv : ∀ (j : Nat) (v : Value), acc.toList[j]? = some v → ∃ t, v = Value.int (j : Int) t := fun j v ev => by
    obtain ⟨t, et⟩ := hI.2 j v (by rw [← Array.getElem?_toList]; exact ev)
    exact ⟨t, by rw [et]; congr 1; omega⟩
  generalize acc.toList = l at hl hv
  have gen : ∀ (l : List Value) (m : Nat), (∀ (j : Nat) (v : Value), l[j]? = some v → ∃ t, v = Value.int ((m + j : Nat) : Int) t) → Vals ((List.range' m l.length).map natV) l := by
    intro l
    induction l with
    | nil => intro m _; exact .nil
    | cons v l ih =>
      intro m hv
      obtain ⟨t, et⟩ := hv 0 v rfl
      refine .cons ⟨t, et⟩ (ih (m + 1) fun j u ej => ?_)
      obtain ⟨t', et'⟩ := hv (j + 1) u ej
      exact ⟨t', by rw [et']; congr 1; omega⟩
  have := gen l 0 fun j v ev => by obtain ⟨t, et⟩ := hv j v ev; exact ⟨t, by rw [et]; congr 1; omega⟩
  rw [hl, ← List.range_eq_range'] at this
  exact this
/-- any(xs) of a list of truths -/
theorem call_anyB (hc : X.calm = true) : CallR X (.builtin "any") (fun xs H Q => ∃ (p : Addr) (bs : List Bool), xs = [.ref p] ∧ SqL X.K H p (bs.map V.bl) ∧ Q (.bl (bs.any id)) H) := by
  intro pins s σ H xs us Q I r h
  obtain ⟨p, bs, rfl, hq, q⟩ := h
  obtain ⟨u, rfl, r1⟩ : ∃ u, us = [u] ∧ RelV (.ref p) u := by
    cases r with
    | cons a b => cases b; exact ⟨_, rfl, a⟩
  obtain rfl : u = Value.ref p := r1
  obtain ⟨its, rv, pl, _⟩ := I.list hq
  have hl : p < s.heap.objs.size := by obtain ⟨_, e, _⟩ := pl.isList; exact Heap.lt_size e
  have hlen : its.length = bs.length := by rw [← rv.length, List.length_map]
  have hval : ∀ i v, its.toArray[i]? = some v → v = Value.bool (bs.getD i false) := fun i v e => by
    have e' : its[i]? = some v := by simpa using e
    have hi : i < bs.length := by rw [← hlen]; exact (List.getElem?_eq_some_iff.mp e').1
    obtain ⟨u, e2, r2⟩ := rv.get (i := i) (x := V.bl (bs[i])) (by simp [hi])
    rw [e'] at e2
    cases e2
    have r3 : v = Value.bool bs[i] := r2
    rw [r3]
    simp [hi]
  refine call_any_walk (wpAny_pyIter_list pl.isList ⟨s.heap.objs.size, _, _, _, _, _, fun i => bs.getD i false, rfl, Walks.list (by simpa using I.ok.hd hc) _ p (Nat.ne_of_lt hl) its.toArray, ⟨⟨_, Heap.get?_push_size _ rfl, rfl, rfl⟩, pl.isList.push _⟩, fun i v s' Q' E' hP hQ' => ?_, fun h' tk hk => ?_⟩)
  · rw [hval i v hP]
    exact wpAny_pure hQ'
  · have e : (List.range its.toArray.size).any (fun i => bs.getD i false) = bs.any id := by
      have : its.toArray.size = bs.length := by simpa using hlen
      rw [this, Bool.eq_iff_iff, List.any_eq_true, List.any_eq_true]
      constructor
      · rintro ⟨i, hi, h⟩
        have hi := List.mem_range.mp hi
        exact ⟨bs[i], List.getElem_mem hi, by simpa [hi] using h⟩
      · rintro ⟨b, hb, h⟩
        obtain ⟨i, hi, rfl⟩ := List.getElem_of_mem hb
        exact ⟨i, List.mem_range.mpr hi, by simpa [hi] using h⟩
    rw [e]
    exact ⟨.bl _, H, I.kept (t' := tk) fun b o z => hk b o (fun y => by
      have y : b = s.heap.objs.size := by simpa using y
      exact absurd (Heap.lt_size z) (by rw [y]; exact Nat.lt_irrefl _)) (Heap.get?_push_of_some _ z), rfl, q⟩
end
end L2
namespace L2
open PySem PySem.Spec PyProof.Rows Mth
def cxCompC (x0 : Str) (X : Cx) (N' : List Str) (scope : Scope) (cl : List (Str × Addr)) (C : Addr) (s : Shared) (H : Hp) (ex : List Addr) : Cx := { cxComp X N' scope cl C s H ex with fn := fun x => x == x0 }
theorem wpAny_newEnvC {M : Model} {A : Around} {E : Value → Shared → Prop} {s : Shared} {scope : Scope} {globals : Addr} {closure : List (Str × Addr)} {qual : Str} {outer : Env} {x0 : Str} {Q : Env → Shared → Prop} (hcs : ∀ n cl, cellsFrom n scope.names cl = (x0, n) :: cl) (hps : ∀ h, pushCells h scope.names = h.push { cls := .type "cell", data := .cell none })
    (hQ : Q (newEnv scope s.heap.objs.size globals ((x0, s.heap.objs.size + 1) :: closure) qual none .none (some outer) builtinsNs) { s with heap := (s.heap.push { cls := .type "dict", data := .dict #[] }).push { cls := .type "cell", data := .cell none } }) :
    wpAny M A (newFunctionEnv scope globals closure [] qual none .none (some outer)) Q E s := by
  simp only [newFunctionEnv, Option.isSome_some, if_true]
  refine wpAny_bind (wpAny_alloc ?_)
  refine wpAny_bind (wpAny_layCells _ (fun name kind cells => by cases hkc : kind == NameKind.cell <;> simp [hkc]) _ _ _ _ ?_)
  rw [hcs, hps]
  refine wpAny_bind (wpAny_pure (wpAny_pure ?_))
  have e : (s.heap.push { cls := .type "dict", data := .dict #[] }).objs.size = s.heap.objs.size + 1 := Heap.size_push ..
  rw [e]
  exact hQ
theorem nl1 {n c : Nat} (e : c = n + 1) (h : c < n) : False := by omega
theorem nl2 {n m c b : Nat} (e : c = n + 1) (h : b < m) (hl : m ≤ n) : c ≠ b := by omega
theorem relabel_ofC {scope : Scope} {env : Env} {x x0 : Str} {k : NameKind} (h : (relabel scope env).names.lookup x = some k) (hk : k = .cell ∨ k = .free) (hcell : ∀ y ∈ scope.names, y.2 = .cell → y.1 = x0) : (x, NameKind.free) ∈ scope.names ∨ x = x0 := by
  have hm := PySem.mem_of_lookup h
  obtain ⟨⟨n, k0⟩, h1, h2⟩ := List.mem_map.mp hm
  dsimp only at h2
  split at h2
  · rename_i hc
    cases h2
    have : (k0 == NameKind.free) = true := by
      simp only [Bool.and_eq_true] at hc
      exact hc.1.1
    rw [beq_iff_eq.mp this] at h1
    exact .inl h1
  · cases h2
    rcases hk with rfl | rfl
    · exact .inr (hcell _ h1 rfl)
    · exact .inl h1
section
variable {X : Cx}
theorem ps_compC {elt tg iter : Expr} {yi : Nat} {y : Str} {py spos : Pos} {ifs : List Expr} {scope : Scope} {pos : Pos} {wi : TI} {g : TG} {tt : TT} {te : TE} {N' : List Str} {nt : Nat} {sl : List Nat} (x0 : Str)
    (hc : X.calm = true) (hi : PI X tg iter wi) (hg : ∀ cl C s H ex, PG (cxCompC x0 X N' scope cl C s H ex) tg g) (ht : ∀ cl C s H ex, PIf (cxCompC x0 X N' scope cl C s H ex) ifs tt) (he : ∀ cl C s H ex, PE (cxCompC x0 X N' scope cl C s H ex) elt te)
    (hN' : N'.length = nt + sl.length) (hsl : ∀ k j : Nat, sl[k]? = some j → ∃ x, N'[nt + k]? = some x ∧ X.N[j]? = some x ∧ scope.names.lookup x = some .free)
    (hk : scope.kind = .function) (hcell : ∀ y ∈ scope.names, y.2 = .cell → y.1 = x0) (hx0 : scope.names.lookup x0 = some .cell) (hcs : ∀ n cl, cellsFrom n scope.names cl = (x0, n) :: cl) (hps : ∀ h, pushCells h scope.names = h.push { cls := .type "cell", data := .cell none }) (hnames : ∀ y ∈ scope.names, y.2 = .local → scope.names.lookup y.1 = some .local)
    (hfree : ∀ y ∈ scope.names, y.2 = .free → X.env.kindOf y.1 = some .cell ∨ X.env.kindOf y.1 = some .free)
    (hN : X.N.Nodup) (hyi : X.N[yi]? = some y) (hy : Loc X.env.scope y) (hf : X.fn y = true ∨ X.env.scope.names.lookup y = some .local)
    (hsw : swapsWith (.ListComp elt [⟨tg, iter, ifs, 0⟩] scope pos) (some (.Name y py)) spos.line X.env = pure true)
    (hs : ∀ x, foldedSetIterable iter X.env x = pure x := by intro _; rfl) :
    PS X (.Assign [.Name y py] (.ListComp elt [⟨tg, iter, ifs, 0⟩] scope pos) spos) (tAsg (tComp wi g tt te nt sl) (gName yi)) := by
  intro pins s σ H DD I h
  have hcl : ∀ y ∈ scope.names, y.2 = .free → ∃ c, X.env.cells.lookup y.1 = some c := fun y hy hf => I.ok.has y.1 (hfree y hy hf)
  have csub := closL_sub (env := X.env) (names := scope.names) (acc := []) hcl (fun x c e => by simp at e)
  rw [exec_Assign_Name_used _ _ _ _ hsw]
  refine wpAny_bind (wpAny_standAt (wpAny_bind ?_))
  show wpAny _ X.A (do let _ ← comprehension (.ListComp elt [⟨tg, iter, ifs, 0⟩] scope pos) scope X.env _ (newList []) false (eval iter X.env) (some (assign (.Name y py) X.env))) _ _ s
  refine wpAny_bind (wpAny_mono (wpAny_comprehension_free (use := some (assign (.Name y py) X.env)) (Q := fun _ s' => SP X pins DD .next s') (cl := closL X.env scope.names []) rfl hs (clos_eq hcl) hk hnames (thn (hi pins s σ H _ I h) fun v s1 h1 => thn h1 fun itv s2 h2 => ?_))
    (fun _ s' hq => wpAny_pure (wpAny_pure hq)) fun _ _ e => e)
  obtain ⟨it, fp, tn, J, H2, rfl, I2, T, st2, f2, q⟩ := h2
  have nD : H2 s2.heap.objs.size = none := I2.hok.fresh (Nat.le_refl _)
  obtain ⟨W, ⟨m0, w0⟩, turn⟩ := q s2.heap.objs.size nD
  refine wpAny_newObj_type ?_ (by show 0 ≤ sizeLine; exact Nat.zero_le _)
  have I3 : Inv X pins σ (upd H2 s2.heap.objs.size (.lst [])) { s2 with heap := s2.heap.push { cls := .type "list", data := .seq ([] : List Value).toArray } } :=
    I2.laid (t' := s2.toks) (fun b u e => Heap.get?_push_of_some _ e) (Nat.le_refl _) ⟨Nat.zero_le _, [], 0, .nil, Heap.get?_push_size _ rfl⟩
  generalize hs3 : ({ s2 with heap := s2.heap.push { cls := .type "list", data := .seq ([] : List Value).toArray } } : Shared) = s3 at I3 ⊢
  have hle : s2.heap.objs.size ≤ s3.heap.objs.size := by rw [← hs3]; show _ ≤ (Heap.push _ _).objs.size; rw [Heap.size_push]; exact Nat.le_succ _
  have hkeep23 : ∀ b o, s2.heap.get? b = some o → s3.heap.get? b = some o := fun b o e => by rw [← hs3]; exact Heap.get?_push_of_some _ e
  refine wpAny_newEnvC hcs hps ?_
  have hns : ((s3.heap.push { cls := .type "dict", data := .dict #[] }).push { cls := .type "cell", data := .cell none }).Ns s3.heap.objs.size (fun _ => none) := (Heap.Ns.new s3.heap (.type "dict")).keeps fun b o e => Heap.get?_push_of_some _ e
  have hic : ((s3.heap.push { cls := .type "dict", data := .dict #[] }).push { cls := .type "cell", data := .cell none }).IsCell (s3.heap.objs.size + 1) none := ⟨_, by
    have := Heap.get?_push_size (h := s3.heap.push { cls := .type "dict", data := .dict #[] }) (o := { cls := .type "cell", data := .cell none }) rfl
    rwa [Heap.size_push] at this, rfl⟩
  have keep1 : ∀ b o, s3.heap.get? b = some o → ((s3.heap.push { cls := .type "dict", data := .dict #[] }).push { cls := .type "cell", data := .cell none }).get? b = some o := fun b o e => Heap.get?_push_of_some _ (Heap.get?_push_of_some _ e)
  generalize ((s3.heap.push { cls := .type "dict", data := .dict #[] }).push { cls := .type "cell", data := .cell none }) = h₁ at hns hic keep1 ⊢
  have old : ∀ x c, X.env.cells.lookup x = some c → c < s3.heap.objs.size := fun x c e => by
    obtain ⟨v, o, ho, _⟩ := I3.cell x c e
    exact Heap.lt_size ho
  have clk : ∀ x c, ((x0, s3.heap.objs.size + 1) :: closL X.env scope.names []).lookup x = some c → (x = x0 ∧ c = s3.heap.objs.size + 1) ∨ X.env.cells.lookup x = some c := fun x c e => by
    rw [List.lookup_cons] at e
    cases q : x == x0 with
    | true => rw [q] at e; cases e; exact .inl ⟨beq_iff_eq.mp q, rfl⟩
    | false => rw [q] at e; exact .inr (csub x c e)
  have nC1 : (upd H2 s2.heap.objs.size (.lst [])) (s3.heap.objs.size + 1) = none := I3.hok.fresh (Nat.le_succ _)
  have nC : (upd H2 s2.heap.objs.size (.lst [])) s3.heap.objs.size = none := I3.hok.fresh (Nat.le_refl _)
  have frC : s3.heap.get? s3.heap.objs.size = none := Heap.get?_none_of_le (Nat.le_refl _)
  -- the iterator's objects
  have fpIn : ∀ b ∈ fp, b < s2.heap.objs.size := fun b hb => by
    obtain ⟨o, e, _⟩ := T.obj _ _ st2 b hb
    exact Heap.lt_size e
  have fpC : ∀ b ∈ fp, b ≠ s3.heap.objs.size := fun b hb => Nat.ne_of_lt (Nat.lt_of_lt_of_le (fpIn b hb) hle)
  have fpD : ∀ b ∈ fp, b ≠ s2.heap.objs.size := fun b hb => Nat.ne_of_lt (fpIn b hb)
  have fpS : ∀ b ∈ fp, b ∉ frs X.stack := fun b hb hm => by
    rcases List.mem_cons.mp (I2.stkSub b hm) with z | z
    · exact (f2 b hb).2.1 z
    · exact (f2 b hb).2.2.1 z
  have csub' : ∀ x c, (closL X.env scope.names []).lookup x = some c → X.env.cells.lookup x = some c := csub
  have hch : ∀ b ∈ fp, (b ∈ X.ex ∨ X.s₀.heap.objs.size ≤ b) ∧ b ≠ X.env.locals ∧ (∀ x c, X.env.cells.lookup x = some c → c ≠ b) ∧ ∀ p ∈ X.pn ++ pins, p.1 ≠ b := fun b hb =>
    ⟨(f2 b hb).2.2.2.1, (f2 b hb).2.1, (f2 b hb).2.2.2.2.1, (f2 b hb).2.2.2.2.2⟩
  -- the block's context
  have ok' : (cxCompC x0 X N' scope ((x0, s3.heap.objs.size + 1) :: closL X.env scope.names []) s3.heap.objs.size s3 (upd H2 s2.heap.objs.size (.lst [])) fp).Ok := by
    refine ⟨I3.ok.mod, hk, I3.ok.glob, I3.ok.blt, Nat.le_refl _, fun x y c h1 h2 => ?_, fun x hx => ?_, (fun x c hf e => ?_), I3.ok.hd, I3.ok.frames, .inl rfl, fun b hb => ⟨fpC b hb, fun x c e => ?_⟩,
      I3.bs, Nat.le_trans I3.ok.bsz I3.sz, fun b o e hb => ?_, fpS, I3.stack, I3.stkFree⟩
    · rcases clk x c h1 with ⟨a1, b1⟩ | a1 <;> rcases clk y c h2 with ⟨a2, b2⟩ | a2
      · rw [a1, a2]
      · exact (nl1 b1 (old _ _ a2)).elim
      · exact (nl1 b2 (old _ _ a1)).elim
      · exact I3.ok.inj x y c a1 a2
    · have hm : (x, NameKind.free) ∈ scope.names ∨ x = x0 := by
        rcases hx with hx | hx
        · exact relabel_ofC hx (.inl rfl) hcell
        · exact relabel_ofC hx (.inr rfl) hcell
      show ∃ c, ((x0, s3.heap.objs.size + 1) :: closL X.env scope.names []).lookup x = some c
      rw [List.lookup_cons]
      cases q : x == x0 with
      | true => exact ⟨_, rfl⟩
      | false =>
        rcases hm with hm | hm
        · exact closL_has hm rfl
        · rw [hm] at q; simp at q
    · rcases clk x c e with ⟨_, b1⟩ | a1
      · rw [b1]; exact Nat.le_succ _
      · exfalso
        have hf : (x == x0) = true := hf
        have ex : x = x0 := beq_iff_eq.mp hf
        have e' : ((x0, s3.heap.objs.size + 1) :: closL X.env scope.names []).lookup x = some c := e
        rw [ex, List.lookup_cons] at e'
        simp at e'
        exact nl1 e'.symm (old _ _ a1)
    · rcases clk x c e with ⟨_, b1⟩ | a1
      · exact nl2 b1 (fpIn b hb) hle
      · exact (hch b hb).2.2.1 x c a1
    · rcases (hch b hb).1 with z | z
      · exact I3.ok.noex b o e z
      · exact absurd (Nat.lt_of_lt_of_le (Heap.lt_size (I3.ok.bs b o e).1) z) (Nat.lt_irrefl _)
  have I4 : Inv (cxCompC x0 X N' scope ((x0, s3.heap.objs.size + 1) :: closL X.env scope.names []) s3.heap.objs.size s3 (upd H2 s2.heap.objs.size (.lst [])) fp) [] (List.replicate nt none ++ sl.map fun j => (σ[j]?).join) (upd H2 s2.heap.objs.size (.lst []))
      { s3 with heap := h₁ } := by
    refine ⟨ok', rfl, I3.bare, Un.kept keep1, ⟨_, hns, fun i x v e1 e2 e3 => ?_⟩, fun x c e => ?_, nC, fun x c e => (by
      rcases clk x c e with ⟨_, b1⟩ | a1
      · rw [b1]; exact nC1
      · exact I3.freeC x c a1), fun p hp => absurd hp (by simp [cxCompC, cxComp]), I3.hok.kept keep1, ?_⟩
    · by_cases hi : i < nt
      · rw [List.getElem?_append_left (by simpa using hi), List.getElem?_replicate] at e2
        split at e2 <;> cases e2
      · rw [List.getElem?_append_right (by simpa using hi), List.length_replicate, List.getElem?_map] at e2
        cases ej : sl[i - nt]? with
        | none => rw [ej] at e2; cases e2
        | some j =>
          rw [ej] at e2
          have e2' : (σ[j]?).join = some v := Option.some.inj e2
          have eσ : σ[j]? = some (some v) := by
            cases q : σ[j]? with
            | none => rw [q] at e2'; cases e2'
            | some o => rw [q] at e2'; cases e2'; rfl
          obtain ⟨y, n1, n2, n3⟩ := hsl _ j ej
          have : nt + (i - nt) = i := by omega
          rw [this] at n1
          have exy : y = x := Option.some.inj (n1.symm.trans e1)
          subst exy
          have hm : (y, NameKind.free) ∈ scope.names := PySem.mem_of_lookup n3
          have hkx := hfree _ hm rfl
          obtain ⟨m, hn, hl⟩ := I3.loc
          have vis : Vis X.env.scope y := by
            rcases hkx with z | z
            · exact .inr (.inl z)
            · exact .inr (.inr z)
          obtain ⟨u, r, l⟩ := hl j y v n2 eσ vis
          refine ⟨u, r, .inr ⟨lookup_relabel_free n3, ?_⟩⟩
          obtain ⟨c, ec⟩ := closL_has (env := X.env) (acc := []) hm rfl
          have ny : (y == x0) = false := by
            cases q : y == x0 with
            | false => rfl
            | true => rw [beq_iff_eq.mp q, hx0] at n3; cases n3
          refine ⟨c, ?_, ?_⟩
          · show ((x0, s3.heap.objs.size + 1) :: closL X.env scope.names []).lookup y = some c
            rw [List.lookup_cons, ny]; exact ec
          rcases l with ⟨k1, _⟩ | ⟨_, c', e', hcell'⟩
          · rcases hkx with z | z
            · rw [show X.env.kindOf y = some .local from k1] at z; cases z
            · rw [show X.env.kindOf y = some .local from k1] at z; cases z
          · have ecc : c = c' := Option.some.inj ((csub y c ec).symm.trans e')
            subst ecc
            obtain ⟨o, ho, hd⟩ := hcell'
            exact ⟨o, keep1 c o ho, hd⟩
    · rcases clk x c e with ⟨_, b1⟩ | a1
      · rw [b1]; exact ⟨none, hic⟩
      · obtain ⟨v, o, ho, hd⟩ := I3.cell x c a1
        exact ⟨v, o, keep1 c o ho, hd⟩
    · show _ = N'.length
      rw [hN', List.length_append, List.length_replicate, List.length_map]
  have st4 : tn 0 h₁ := T.keep _ _ _ st2 fun b hb o e => keep1 b o (hkeep23 b o e)
  have fpok : ∀ {pl : List (Addr × Obj)} {H' : Hp}, pl = [] → (∀ b ∈ fp, H' b = none) → ∀ b ∈ fp, FpOk (cxCompC x0 X N' scope ((x0, s3.heap.objs.size + 1) :: closL X.env scope.names []) s3.heap.objs.size s3 (upd H2 s2.heap.objs.size (.lst [])) fp) pl H' b := fun {pl H'} hpl hn b hb => by
    subst hpl
    exact ⟨hn b hb, fpC b hb, fpS b hb, .inl hb, fun x c e => (by
      rcases clk x c e with ⟨_, b1⟩ | a1
      · exact nl2 b1 (fpIn b hb) hle
      · exact (hch b hb).2.2.1 x c a1), fun p hp => absurd hp (by simp [cxCompC, cxComp])⟩
  have fr4 : ∀ b ∈ fp, (upd H2 s2.heap.objs.size (.lst [])) b = none := fun b hb => by rw [upd_ne (fpD b hb)]; exact (f2 b hb).1
  have loop : codeAny (model X.prog X.w) X.A (.compLoop (.ListComp elt [⟨tg, iter, ifs, 0⟩] scope pos) 0 (.ref it) (.ref s2.heap.objs.size) (compEnvC scope ((x0, s3.heap.objs.size + 1) :: closL X.env scope.names []) s3.heap.objs.size X.env))
      (compPost (model X.prog X.w) X.A X.xe (some (assign (.Name y py) X.env)) (fun _ s' => SP X pins DD .next s') (.ref s2.heap.objs.size) s3.heap.objs.size) { s3 with heap := h₁ } := by
    refine compLoop_go (fun n s' => ∃ i acc σ' H', Inv (cxCompC x0 X N' scope ((x0, s3.heap.objs.size + 1) :: closL X.env scope.names []) s3.heap.objs.size s3 (upd H2 s2.heap.objs.size (.lst [])) fp) [] σ' H' s' ∧ tn i s'.heap ∧ (∀ b ∈ fp, H' b = none) ∧ W i n acc σ' H') ?_ m0 ⟨0, [], _, _, I4, st4, fr4, w0⟩
    rintro n s5 ⟨i, acc, σ5, H5, I5, st5, fr5, w5⟩
    rcases turn i n acc σ5 H5 w5 with ⟨stop, qn⟩ | ⟨go, N, hN, step⟩
    · refine thn (T.done (cxCompC x0 X N' scope ((x0, s3.heap.objs.size + 1) :: closL X.env scope.names []) s3.heap.objs.size s3 (upd H2 s2.heap.objs.size (.lst [])) fp) rfl rfl rfl hc i [] s5 σ5 H5 _ I5 (fpok rfl fr5) st5 stop) fun r s6 ⟨hr, I6⟩ => ?_
      subst hr
      obtain ⟨m, hn, _⟩ := id I6.loc
      have J6 : Inv X pins σ H5 s6 := I3.call' (s' := s6) I6.os I6.base I6.hok I6.bare hch
      have fC : FpOk X pins H5 s3.heap.objs.size := I3.fpOk (Nat.le_refl _) I6.free
      refine wpAny_assign_Name (store_ok2 (v := .ref s2.heap.objs.size) J6 hN hyi hy rfl (fun s7 I7 ⟨a, sb7, ha⟩ => ?_) hf)
      have na : s3.heap.objs.size ≠ a := fun z => by
        rcases ha with q | q
        · exact fC.2.1 (z.trans q)
        · exact fC.2.2.2.2.1 _ a q z.symm
      refine ⟨m, ?_, fun h' sb => ?_⟩
      · obtain ⟨o, es, ep, ho, r⟩ := hn
        exact ⟨o, es, ep, (sb7.2 _ na).trans ho, r⟩
      · exact ⟨_, H5, I7.turned0 (ch := [s3.heap.objs.size]) (t' := s7.toks) (fun b u hb q => (sb.2 b (fun z => hb (List.mem_singleton.mpr z))).trans q) (fun b hb => by rw [List.mem_singleton.mp hb]; exact fC), qn⟩
    · refine thn (T.item (cxCompC x0 X N' scope ((x0, s3.heap.objs.size + 1) :: closL X.env scope.names []) s3.heap.objs.size s3 (upd H2 s2.heap.objs.size (.lst [])) fp) rfl rfl rfl hc i [] s5 σ5 H5 _ I5 (fpok rfl fr5) st5 go) fun r s6 ⟨u, hr, h6⟩ => ?_
      subst hr
      refine thn h6 fun _ s7 ⟨x, H7, I7, r7, y7, st7, fr7⟩ => ?_
      have I7' := I7.pinned (fpok rfl fr7) (T.obj _ _ st7)
      have again : ∀ {s8 : Shared} {σ8 : St} {H8 : Hp} {acc' : List V}, Inv (cxCompC x0 X N' scope ((x0, s3.heap.objs.size + 1) :: closL X.env scope.names []) s3.heap.objs.size s3 (upd H2 s2.heap.objs.size (.lst [])) fp) ([] ++ pinsAt fp s7.heap) σ8 H8 s8 → (∃ m', m' < n ∧ W (i + 1) m' acc' σ8 H8) →
          ∃ m, m < n ∧ ∃ i acc σ' H', Inv (cxCompC x0 X N' scope ((x0, s3.heap.objs.size + 1) :: closL X.env scope.names []) s3.heap.objs.size s3 (upd H2 s2.heap.objs.size (.lst [])) fp) [] σ' H' s8 ∧ tn i s8.heap ∧ (∀ b ∈ fp, H' b = none) ∧ W i m acc σ' H' := fun {s8 σ8 H8 acc'} I8 ⟨m', hm, w8⟩ => by
        refine ⟨m', hm, i + 1, acc', σ8, H8, I8.unpinned, T.keep _ _ _ st7 fun b hb o e => (I8.pin (b, o) (List.mem_append_right _ (List.mem_append_right _ (mem_pinsAt hb e)))).1, fun b hb => ?_, w8⟩
        obtain ⟨o, e, d⟩ := T.obj _ _ st7 b hb
        exact (I8.pin (b, o) (List.mem_append_right _ (List.mem_append_right _ (mem_pinsAt hb e)))).2.1
      refine wpAny_mono (hg _ _ _ _ _ _ s7 σ5 H7 x u _ I7' r7 (step x H7 y7)) (fun _ s8 ⟨σ8, H8, I8, q8⟩ => ?_) fun _ _ z => False.elim z
      refine wpAny_mono (ht _ _ _ _ _ _ s8 σ8 H8 _ I8 q8) (fun ok s9 ⟨H9, I9, q9⟩ => ?_) fun _ _ z => False.elim z
      cases ok with
      | false =>
        rw [if_neg Bool.false_ne_true] at q9 ⊢
        exact again I9 (hN _ _ _ q9)
      | true =>
        rw [if_pos rfl] at q9 ⊢
        refine wpAny_mono (he _ _ _ _ _ _ s9 σ8 H9 _ I9 q9) (fun y s10 ⟨yv, H10, I10, r10, hD, hz, q10⟩ => ?_) fun _ _ z => False.elim z
        refine wpAny_mono (mt_append (X := (cxCompC x0 X N' scope ((x0, s3.heap.objs.size + 1) :: closL X.env scope.names []) s3.heap.objs.size s3 (upd H2 s2.heap.objs.size (.lst [])) fp)) _ s10 σ8 H10 (.ref s2.heap.objs.size) [yv] (.ref s2.heap.objs.size) [y] (fun _ H11 => N (acc ++ [yv]) σ8 H11) I10 rfl (.cons r10 .nil) ⟨_, acc, yv, rfl, rfl, hD, hz, q10⟩) (fun _ s11 ⟨v11, H11, I11, r11, q11⟩ => ?_) fun _ _ z => False.elim z
        exact again I11 (hN _ _ _ q11)
  exact codeAny_compStart_list loop (T.self _ 0 _ _ _ st4 loop)

theorem ps_lcC {elt tg iter : Expr} {yi : Nat} {y : Str} {py spos : Pos} {ifs : List Expr} {scope : Scope} {pos : Pos} {wi : TI} {g : TG} {tt : TT} {te : TE} (x0 : Str) (tn fr : List Str) (sl : List Nat)
    (hp : Paired (fun (j : Nat) (x : Str) => X.N[j]? = some x ∧ scope.names.lookup x = some .free ∧ (X.env.kindOf x = some .cell ∨ X.env.kindOf x = some .free)) sl fr)
    (hc : X.calm = true) (hi : PI X tg iter wi) (hg : ∀ cl C s H ex, PG (cxCompC x0 X (tn ++ fr) scope cl C s H ex) tg g) (ht : ∀ cl C s H ex, PIf (cxCompC x0 X (tn ++ fr) scope cl C s H ex) ifs tt) (he : ∀ cl C s H ex, PE (cxCompC x0 X (tn ++ fr) scope cl C s H ex) elt te)
    (hk : scope.kind = .function) (hcell : ∀ y ∈ scope.names, y.2 = .cell → y.1 = x0) (hx0 : scope.names.lookup x0 = some .cell) (hcs : ∀ n cl, cellsFrom n scope.names cl = (x0, n) :: cl) (hps : ∀ h, pushCells h scope.names = h.push { cls := .type "cell", data := .cell none }) (hnames : ∀ y ∈ scope.names, y.2 = .local → scope.names.lookup y.1 = some .local)
    (hfree : ∀ y ∈ scope.names, y.2 = .free → y.1 ∈ fr)
    (hN : X.N.Nodup) (hyi : X.N[yi]? = some y) (hy : Loc X.env.scope y) (hsw : swapsWith (.ListComp elt [⟨tg, iter, ifs, 0⟩] scope pos) (some (.Name y py)) spos.line X.env = pure true)
    (hf : X.fn y = true ∨ X.env.scope.names.lookup y = some .local := by first | exact .inl rfl | exact .inr rfl | assumption)
    (hs : ∀ x, foldedSetIterable iter X.env x = pure x := by intro _; rfl) :
    PS X (.Assign [.Name y py] (.ListComp elt [⟨tg, iter, ifs, 0⟩] scope pos) spos) (tAsg (tComp wi g tt te tn.length sl) (gName yi)) := by
  have key : ∀ {sl : List Nat} {fr : List Str}, Paired (fun (j : Nat) (x : Str) => X.N[j]? = some x ∧ scope.names.lookup x = some .free ∧ (X.env.kindOf x = some .cell ∨ X.env.kindOf x = some .free)) sl fr →
      (∀ k j : Nat, sl[k]? = some j → ∃ x, fr[k]? = some x ∧ X.N[j]? = some x ∧ scope.names.lookup x = some .free) ∧ ∀ x ∈ fr, X.env.kindOf x = some .cell ∨ X.env.kindOf x = some .free := by
    intro sl fr hp
    induction hp with
    | nil => exact ⟨fun k j h => by simp at h, fun x hx => by simp at hx⟩
    | cons r t ih =>
      refine ⟨fun k j h => ?_, fun x hx => ?_⟩
      · cases k with
        | zero =>
          have e : _ = j := Option.some.inj h
          subst e
          exact ⟨_, rfl, r.1, r.2.1⟩
        | succ k => exact ih.1 k j (by simpa using h)
      · rcases List.mem_cons.mp hx with z | z
        · rw [z]; exact r.2.2
        · exact ih.2 x z
  refine ps_compC (N' := tn ++ fr) x0 hc hi hg ht he (by rw [List.length_append, hp.length]) (fun k j h => ?_) hk hcell hx0 hcs hps hnames (fun y hy hf => (key hp).2 _ (hfree y hy hf)) hN hyi hy hf hsw hs
  obtain ⟨x, e1, e2⟩ := (key hp).1 k j h
  exact ⟨x, by rw [List.getElem?_append_right (Nat.le_add_right _ _), Nat.add_sub_cancel_left]; exact e1, e2⟩
end
end L2
namespace L2
open PySem PySem.Spec PyProof.Rows Mth
theorem op_neDK {X : Cx} {K : PySem.W.Frag} (hK : X.K = K) (hu : X.A.units + 64 < cLine) : OpR X (compareOp .NotEq) (rNeD K) := by subst hK; exact op_neD hu
theorem pi_listK {X : Cx} {tg l : Expr} {tl : TE} {K : PySem.W.Frag} (hK : X.K = K) (hl : PE X l tl) : PI X tg l (iList K tl) := by subst hK; exact pi_list hl
theorem op_in_seqK {X : Cx} {K : PySem.W.Frag} (hK : X.K = K) : OpR X (compareOp .In) (rIn K false) := by subst hK; exact op_in_seq
theorem op_notIn_seqK {X : Cx} {K : PySem.W.Frag} (hK : X.K = K) : OpR X (compareOp .NotIn) (rIn K true) := by subst hK; exact op_notIn_seq
/-- which of four rooms hang together -/
structure G6 where
  a : Bool
  b : Bool
  c : Bool
  d : Bool
  e : Bool
  f : Bool
def adG (g : G6) (i j : Nat) : Bool := match i, j with
  | 0, 1 => g.a | 1, 0 => g.a | 0, 2 => g.b | 2, 0 => g.b | 0, 3 => g.c | 3, 0 => g.c | 1, 2 => g.d | 2, 1 => g.d | 1, 3 => g.e | 3, 1 => g.e | 2, 3 => g.f | 3, 2 => g.f | _, _ => false
def g6 (r : Nat → Nat → Bool) : G6 := ⟨r 0 1, r 0 2, r 0 3, r 1 2, r 1 3, r 2 3⟩
theorem adG_g6 {r : Nat → Nat → Bool} (h : ∀ i j, r i j = r j i) {i j : Nat} (hi : i < 4) (hj : j < 4) (n : i ≠ j) : adG (g6 r) i j = r i j := by
  match i, j, hi, hj with
  | 0, 1, _, _ => rfl | 0, 2, _, _ => rfl | 0, 3, _, _ => rfl | 1, 2, _, _ => rfl | 1, 3, _, _ => rfl | 2, 3, _, _ => rfl
  | 1, 0, _, _ => exact h 0 1 | 2, 0, _, _ => exact h 0 2 | 3, 0, _, _ => exact h 0 3 | 2, 1, _, _ => exact h 1 2 | 3, 1, _, _ => exact h 1 3 | 3, 2, _, _ => exact h 2 3
  | 0, 0, _, _ => exact absurd rfl n | 1, 1, _, _ => exact absurd rfl n | 2, 2, _, _ => exact absurd rfl n | 3, 3, _, _ => exact absurd rfl n
def insN (x : Nat) : List Nat → List Nat
  | [] => [x]
  | y :: l => if x ≤ y then x :: y :: l else y :: insN x l
def srtN (l : List Nat) : List Nat := l.foldr insN []
theorem insN_perm (x : Nat) : ∀ l, (insN x l).Perm (x :: l)
  | [] => .refl _
  | y :: l => by
    unfold insN
    split
    · exact .refl _
    · exact ((insN_perm x l).cons y).trans (.swap x y l)
theorem srtN_perm : ∀ l, (srtN l).Perm l
  | [] => .refl _
  | x :: l => (insN_perm x _).trans ((srtN_perm l).cons x)
theorem insN_le {x : Nat} : ∀ {l : List Nat}, l.Pairwise (· ≤ ·) → (insN x l).Pairwise (· ≤ ·)
  | [], _ => by simp [insN]
  | y :: l, h => by
    obtain ⟨h1, h2⟩ := List.pairwise_cons.mp h
    unfold insN
    split
    · rename_i q
      exact List.pairwise_cons.mpr ⟨fun z hz => by
        rcases List.mem_cons.mp hz with rfl | hz
        · exact q
        · exact Nat.le_trans q (h1 z hz), h⟩
    · rename_i q
      refine List.pairwise_cons.mpr ⟨fun z hz => ?_, insN_le h2⟩
      rcases List.mem_cons.mp ((insN_perm x l).mem_iff.mp hz) with rfl | hz
      · omega
      · exact h1 z hz
theorem srtN_le : ∀ l, (srtN l).Pairwise (· ≤ ·)
  | [] => .nil
  | _ :: l => insN_le (srtN_le l)
/-- what sorted gives -/
theorem srt_is {l : List Nat} {ms : List Int} (hp : ms.Perm (l.map fun n : Nat => (n : Int))) (hs : ms.Pairwise (· ≤ ·)) : ms = (srtN l).map fun n : Nat => (n : Int) := by
  refine List.Perm.eq_of_pairwise (le := (· ≤ ·)) (fun a b _ _ h1 h2 => Int.le_antisymm h1 h2) hs ?_ (hp.trans ((srtN_perm l).symm.map _))
  rw [List.pairwise_map]
  exact (srtN_le l).imp fun h => by omega
def stepO (g : G6) (done : Nat) (p : List Nat) (o : Nat) : List Nat := if (!decide (o ∈ p) && adG g (p.getD done 0) o) = true then p ++ [o] else p
def stepP (g : G6) (n : Nat) (p : List Nat) (done : Nat) : List Nat := (List.range n).foldl (stepO g done) p
def runP (g : G6) (n : Nat) : Nat → List Nat → Nat → List Nat
  | 0, p, _ => p
  | f + 1, p, done => if done < p.length then runP g n f (stepP g n p done) (done + 1) else p
def partP (g : G6) (n r : Nat) : List Nat := srtN (runP g n 5 [r] 0)
def stepQ (g : G6) (n : Nat) (ps : List (List Nat)) (r : Nat) : List (List Nat) := if (ps.any fun p => decide (r ∈ p)) = true then ps else ps ++ [partP g n r]
def partsP (g : G6) (n : Nat) : List (List Nat) := (List.range n).foldl (stepQ g n) []
theorem bt_sorted : bootBuiltins "sorted" = some (.builtin "sorted") := boot_sorted
/-- rooms, each once -/
def NdL (n : Nat) (p : List Nat) : Prop := p.Nodup ∧ ∀ x ∈ p, x < n
theorem NdL.len {n : Nat} {p : List Nat} (h : NdL n p) : p.length ≤ n := by
  have := nodup_len p (List.range n) h.1 fun x hx => List.mem_range.mpr (h.2 x hx)
  rwa [List.length_range] at this
theorem NdL.put {n o : Nat} {p : List Nat} (h : NdL n p) (ho : o < n) (hn : o ∉ p) : NdL n (p ++ [o]) :=
  ⟨List.nodup_append.mpr ⟨h.1, by simp, fun a ha b hb => by rw [List.mem_singleton.mp hb]; exact fun e => hn (e ▸ ha)⟩, fun x hx => by
    rcases List.mem_append.mp hx with q | q
    · exact h.2 x q
    · rw [List.mem_singleton.mp q]; exact ho⟩
theorem NdL.step {g : G6} {n done o : Nat} {p : List Nat} (h : NdL n p) (ho : o < n) : NdL n (stepO g done p o) := by
  unfold stepO
  split
  · rename_i q
    exact h.put ho (by simp at q; exact q.1)
  · exact h
theorem foldO_next (g : G6) (done i : Nat) (p : List Nat) : (List.range (i + 1)).foldl (stepO g done) p = stepO g done ((List.range i).foldl (stepO g done) p) i := by
  rw [List.range_succ, List.foldl_append]; rfl
def moreL (g : G6) (left p : List Nat) : List Nat := left.filter fun j => !decide (j ∈ p) && !((p.filter fun i => adG g i j).isEmpty)
def runL (g : G6) (left : List Nat) : Nat → List Nat → List Nat
  | 0, p => p
  | f + 1, p => if (moreL g left p).isEmpty = true then p else runL g left f (p ++ moreL g left p)
def partL (g : G6) (left : List Nat) : List Nat := runL g left 5 [left.getD 0 0]
def runO (g : G6) : Nat → List Nat → List (List Nat) → List (List Nat)
  | 0, _, fs => fs
  | f + 1, left, fs => if left.isEmpty = true then fs else runO g f (left.filter fun j => !decide (j ∈ partL g left)) (fs ++ [srtN (partL g left)])
def partsL (g : G6) (n : Nat) : List (List Nat) := runO g 5 (List.range n) []
theorem parts_same : ∀ (a b c d e f : Bool) (n : Fin 5), partsP ⟨a, b, c, d, e, f⟩ n = partsL ⟨a, b, c, d, e, f⟩ n := by decide +kernel
theorem parts_eq (g : G6) {n : Nat} (h : n ≤ 4) : partsP g n = partsL g n := parts_same g.a g.b g.c g.d g.e g.f ⟨n, by omega⟩
theorem parts_ne : ∀ (a b c d e f : Bool) (n : Fin 5), 1 ≤ n.val → (partsP ⟨a, b, c, d, e, f⟩ n).length ≤ 4 ∧ (partsP ⟨a, b, c, d, e, f⟩ n) ≠ [] ∧ ((partsP ⟨a, b, c, d, e, f⟩ n).all fun p => decide (p.length ≤ 4)) = true := by decide +kernel
end L2
namespace L2
open PySem PySem.Spec PyProof.Rows Mth
theorem ge_minus {x f : Int × Int} {c d : Int} (hx : 0 < x.2) (hf : 0 < f.2) (h : c * x.2 ≤ 4 * x.1) (hq : 4 * f.1 ≤ d * f.2) : (c - d) * (minusM x f).2 ≤ 4 * (minusM x f).1 := by
  have hb : 0 < x.2 * f.2 := Int.mul_pos hx hf
  have F := nf_fr (t := x.1 * f.2 - f.1 * x.2) (b := x.2 * f.2) hb
  have e : minusM x f = nf (x.1 * f.2 - f.1 * x.2) (x.2 * f.2) := rfl
  rw [e]
  generalize (nf (x.1 * f.2 - f.1 * x.2) (x.2 * f.2)).1 = q at F
  generalize (nf (x.1 * f.2 - f.1 * x.2) (x.2 * f.2)).2 = r at F
  have k1 : (c - d) * (x.2 * f.2) ≤ 4 * (x.1 * f.2 - f.1 * x.2) := by
    have a1 : c * x.2 * f.2 ≤ 4 * x.1 * f.2 := Int.mul_le_mul_of_nonneg_right h (by omega)
    have a2 : 4 * f.1 * x.2 ≤ d * f.2 * x.2 := Int.mul_le_mul_of_nonneg_right hq (by omega)
    grind
  have k2 : (c - d) * (x.2 * f.2) * r ≤ 4 * (x.1 * f.2 - f.1 * x.2) * r := Int.mul_le_mul_of_nonneg_right k1 (Int.le_of_lt F.pos)
  refine Int.le_of_mul_le_mul_right (a := x.2 * f.2) ?_ hb
  have c1 := F.cross
  have e1 : (c - d) * r * (x.2 * f.2) = (c - d) * (x.2 * f.2) * r := by grind
  have e2 : 4 * q * (x.2 * f.2) = 4 * (x.1 * f.2 - f.1 * x.2) * r := by rw [Int.mul_assoc, c1, ← Int.mul_assoc]
  rw [e1, e2]
  exact k2
theorem ge_plus {x f : Int × Int} (hx : 0 < x.2) (hf : 0 < f.2) (h : x.2 ≤ 4 * x.1) (hq : 0 ≤ f.1) : (plusM x f).2 ≤ 4 * (plusM x f).1 ∧ 0 < (plusM x f).2 := by
  have hb : 0 < x.2 * f.2 := Int.mul_pos hx hf
  have F := nf_fr (t := x.1 * f.2 + f.1 * x.2) (b := x.2 * f.2) hb
  have e : plusM x f = nf (x.1 * f.2 + f.1 * x.2) (x.2 * f.2) := rfl
  rw [e]
  generalize (nf (x.1 * f.2 + f.1 * x.2) (x.2 * f.2)).1 = q at F
  generalize (nf (x.1 * f.2 + f.1 * x.2) (x.2 * f.2)).2 = r at F
  refine ⟨?_, F.pos⟩
  have k1 : x.2 * f.2 ≤ 4 * (x.1 * f.2 + f.1 * x.2) := by
    have a1 : x.2 * f.2 ≤ 4 * x.1 * f.2 := Int.mul_le_mul_of_nonneg_right h (by omega)
    have a2 : 0 ≤ f.1 * x.2 := Int.mul_nonneg hq (by omega)
    grind
  have k2 : (x.2 * f.2) * r ≤ 4 * (x.1 * f.2 + f.1 * x.2) * r := Int.mul_le_mul_of_nonneg_right k1 (Int.le_of_lt F.pos)
  refine Int.le_of_mul_le_mul_right (a := x.2 * f.2) ?_ hb
  have c1 := F.cross
  have e2 : 4 * q * (x.2 * f.2) = 4 * (x.1 * f.2 + f.1 * x.2) * r := by rw [Int.mul_assoc, c1, ← Int.mul_assoc]
  rw [Int.mul_comm r, e2]
  exact k2
theorem fits_q {p f : Int × Int} (hp : 0 < p.2) (h : p.2 ≤ 4 * p.1) (h0 : 0 ≤ f.1) (hf : 0 < f.2) (hq : 4 * f.1 ≤ f.2) : underM p f = false := by
  unfold underM
  refine decide_eq_false fun z => ?_
  have a1 : 4 * f.1 * p.2 ≤ f.2 * p.2 := Int.mul_le_mul_of_nonneg_right hq (by omega)
  have a2 : p.2 * f.2 ≤ 4 * p.1 * f.2 := Int.mul_le_mul_of_nonneg_right h (by omega)
  grind
/-- a hold whose shares are a quarter at most, without weather -/
structure MQ (m : HoldM) (n : Nat) : Prop where
  rows : m.rows.length = n
  two : ∀ r ∈ m.rows, r.length = 2
  sky : ∀ i : Nat, m.skyS i = (0, 1)
  q : ∀ i j : Nat, 0 ≤ (m.flow i j).1 ∧ 4 * (m.flow i j).1 ≤ (m.flow i j).2
  d : ∀ i : Nat, m.flow i i = (0, 1)
theorem MQ.new : MQ (HoldM.new 4 0 0) 0 := ⟨rfl, nofun, fun i => by simp [HoldM.skyS, HoldM.new], fun i j => by simp [HoldM.flow, HoldM.new], fun i => by simp [HoldM.flow, HoldM.new]⟩
theorem MQ.add {m : HoldM} {n : Nat} {r : List Fra} (h : MQ m n) (hr : r.length = 2) : MQ (m.addRoom r) (n + 1) := by
  refine ⟨by show (m.rows ++ [r]).length = _; rw [List.length_append, h.rows]; rfl, fun x hx => ?_, fun i => ?_, h.q, h.d⟩
  · rcases List.mem_append.mp hx with z | z
    · exact h.two x z
    · rw [List.mem_singleton.mp z]; exact hr
  · have := h.sky i
    unfold HoldM.skyS at this ⊢
    show (((m.skies ++ [((0, 1), (0, 1), (0, 1))])[i]?).map (·.1)).getD (0, 1) = (0, 1)
    rcases Nat.lt_trichotomy i m.skies.length with z | z | z
    · rw [List.getElem?_append_left z]; exact this
    · rw [z, List.getElem?_append_right (Nat.le_refl _), Nat.sub_self]; rfl
    · rw [List.getElem?_eq_none (by rw [List.length_append]; show m.skies.length + 1 ≤ i; omega)]; rfl
theorem flow_set (m : HoldM) (i j : Nat) (f : Fra) (a b : Nat) : (m.setFlow i j f).flow a b = if a = i ∧ b = j then f else m.flow a b := by
  unfold HoldM.flow HoldM.setFlow
  dsimp only
  by_cases h : a = i ∧ b = j
  · obtain ⟨rfl, rfl⟩ := h
    simp
  · rw [if_neg h, if_neg (fun z => h ⟨by omega, by omega⟩)]
theorem MQ.set {m : HoldM} {n i j : Nat} {f : Fra} (h : MQ m n) (ne : i ≠ j) (h0 : 0 ≤ f.1) (hq : 4 * f.1 ≤ f.2) : MQ (m.setFlow i j f) n := by
  refine ⟨h.rows, h.two, h.sky, fun a b => ?_, fun a => ?_⟩
  · rw [flow_set]
    split
    · exact ⟨h0, hq⟩
    · exact h.q a b
  · rw [flow_set, if_neg (fun z => ne (z.1.symm.trans z.2))]
    exact h.d a
theorem MQ.own {m : HoldM} {n i : Nat} (h : MQ m n) (wf : m.Wf) (hi : i < n) (n4 : n ≤ 4) : (m.own i).2 ≤ 4 * (m.own i).1 ∧ 0 < (m.own i).2 := by
  have key : ∀ k, (4 - ((k - (if i < k then 1 else 0) : Nat) : Int)) * (m.ownTo i k).2 ≤ 4 * (m.ownTo i k).1 := by
    intro k
    induction k with
    | zero =>
      have e : m.ownTo i 0 = minusM (1, 1) (0, 1) := by unfold HoldM.ownTo; rw [h.sky i]; rfl
      rw [e]
      have := ge_minus (x := (1, 1)) (f := (0, 1)) (c := 4) (d := 0) (by decide) (by decide) (by decide) (by decide)
      simpa using this
    | succ k ih =>
      rw [HoldM.ownTo_succ]
      have o1 := (wf.ownTo i k).p
      have o2 := (wf.flow i k).p
      by_cases e : k = i
      · subst e
        have := ge_minus (c := (4 - ((k - (if k < k then 1 else 0) : Nat) : Int))) (d := 0) o1 o2 ih (by rw [h.d k]; decide)
        rw [if_neg (Nat.lt_irrefl _)] at this
        rw [if_pos (Nat.lt_succ_self _)]
        have e2 : (4 - ((k - 0 : Nat) : Int)) - 0 = 4 - ((k + 1 - 1 : Nat) : Int) := by omega
        rw [e2] at this
        exact this
      · have := ge_minus (c := (4 - ((k - (if i < k then 1 else 0) : Nat) : Int))) (d := 1) o1 o2 ih (by have := (h.q i k).2; omega)
        have e2 : (4 - ((k - (if i < k then 1 else 0) : Nat) : Int)) - 1 = 4 - ((k + 1 - (if i < k + 1 then 1 else 0) : Nat) : Int) := by
          by_cases z : i < k
          · rw [if_pos z, if_pos (by omega)]; omega
          · rw [if_neg z, if_neg (by omega)]; omega
        rw [e2] at this
        exact this
  have kn := key m.rows.length
  have po := (wf.ownTo i m.rows.length).p
  refine ⟨?_, po⟩
  show (m.ownTo i m.rows.length).2 ≤ 4 * (m.ownTo i m.rows.length).1
  rw [h.rows, if_pos hi] at kn
  rw [h.rows] at po ⊢
  have c1 : (1 : Int) ≤ 4 - ((n - 1 : Nat) : Int) := by omega
  have : 1 * (m.ownTo i n).2 ≤ (4 - ((n - 1 : Nat) : Int)) * (m.ownTo i n).2 := Int.mul_le_mul_of_nonneg_right c1 (by omega)
  omega
theorem MQ.fits {m : HoldM} {n i j : Nat} {f : Fra} (h : MQ m n) (wf : m.Wf) (hi : i < n) (n4 : n ≤ 4) (h0 : 0 ≤ f.1) (hf : 0 < f.2) (hq : 4 * f.1 ≤ f.2) : underM (plusM (m.own i) (m.flow i j)) f = false := by
  obtain ⟨a, b⟩ := h.own wf hi n4
  obtain ⟨c, d⟩ := ge_plus b (wf.flow i j).p a (h.q i j).1
  exact fits_q d c h0 hf hq
theorem bands_two : ∀ {rs : List (List Fra)}, (∀ r ∈ rs, r.length = 2) → bandsM rs = 1 := by
  intro rs h
  unfold bandsM
  have gen : ∀ (rs : List (List Fra)) (a : Int), (∀ r ∈ rs, r.length = 2) → rs.foldl (fun p r => p * ((r.length : Int) - 1)) a = a := by
    intro rs
    induction rs with
    | nil => intro a _; rfl
    | cons r rs ih =>
      intro a h
      rw [List.foldl_cons, h r (by simp), ih _ fun x hx => h x (by simp [hx])]
      simp
  exact gen rs 1 h
theorem valV_drop {κ : Type} [DecidableEq κ] (kvs : List (κ × V)) (k j : κ) : valV (dropK kvs k) j = if j = k then none else valV kvs j := by
  unfold valV dropK
  induction kvs with
  | nil => simp
  | cons c kvs ih =>
    by_cases h : c.1 = k
    · rw [List.filter_cons_of_neg (by simpa using h)]
      rw [ih]
      by_cases z : j = k
      · rw [if_pos z, if_pos z]
      · rw [if_neg z, if_neg z, List.find?_cons_of_neg (by simp; intro y; exact z (y.symm.trans h))]
    · rw [List.filter_cons_of_pos (by simpa using h)]
      by_cases y : c.1 = j
      · have z : ¬ j = k := fun e => h (y.trans e)
        rw [if_neg z, List.find?_cons_of_pos (by simpa using y), List.find?_cons_of_pos (by simpa using y)]
      · rw [List.find?_cons_of_neg (by simpa using y), List.find?_cons_of_neg (by simpa using y)]
        exact ih
theorem FKeys.drop {kvs : List (List Key × V)} (h : FKeys kvs) (k : List Key) : FKeys (dropK kvs k) := ⟨h.1.sublist (List.Sublist.map _ List.filter_sublist), fun p hp => h.2 p (List.mem_filter.mp hp).1⟩
section
variable {K : PySem.W.Frag} {C : Addr} {H H' : Hp} {Z : List Addr} {a : Addr} {fp : List Addr} {m : HoldM}
theorem HoldAt.butZ (h : HoldAt K C H a fp m) (B : But Z H H') (ts : TStay K H H') (dj : ∀ b ∈ fp, b ∉ Z) : HoldAt K C H' a fp m := by
  obtain ⟨⟨dx, pm, pf, ps, pt, vm, vs, vt, kvs, rfl, ha, hdx, hpm, hpf, hps, hpt, n1, n2, n3, dm, ds, dt, df, fk⟩, q1, q2, q3, q4⟩ := h
  have g : ∀ {c o}, H c = some o → c ∈ [a, dx, pm, pf, ps, pt] → H' c = some o := fun e hc => B _ _ e (dj _ hc)
  exact ⟨⟨dx, pm, pf, ps, pt, vm, vs, vt, kvs, rfl, g ha (by simp), g hdx (by simp), g hpm (by simp), g hpf (by simp), g hps (by simp), g hpt (by simp), n1, n2, n3, rows_ts ts dm, skies_ts ts ds, stoves_ts ts dt, fun i j => (df i j).ts ts, fk⟩, q1, q2, q3, q4⟩
theorem HoldAt.there (h : HoldAt K C H a fp m) : ∀ b ∈ fp, ∃ o, H b = some o := by
  obtain ⟨⟨dx, pm, pf, ps, pt, vm, vs, vt, kvs, rfl, ha, hdx, hpm, hpf, hps, hpt, _⟩, _⟩ := h
  intro b hb
  simp only [List.mem_cons, List.not_mem_nil, or_false] at hb
  rcases hb with rfl | rfl | rfl | rfl | rfl | rfl
  · exact ⟨_, ha⟩
  · exact ⟨_, hdx⟩
  · exact ⟨_, hpm⟩
  · exact ⟨_, hpf⟩
  · exact ⟨_, hps⟩
  · exact ⟨_, hpt⟩
end
end L2


namespace K69
open PySem PySem.Spec PyProof.Rows L2 Mth
seal PE PS PSs PPs PA PG PGs PT PIf PI
def top (i : Nat) : Stmt := PySem.Challenge.pw_stoke_k69_parts_of_a_hold.main.body.getD i (.Pass ⟨0, 0, 0, 0⟩)
abbrev s_wall : Stmt := top 0
theorem sc_wall : FnScope ["k"] ["k"] (defScope s_wall) := ⟨rfl, rfl, rfl, by decide +kernel, rfl, by decide +kernel, by decide +kernel⟩
abbrev s_NoRoom___init__ : Stmt := inClass (top 8) 0
theorem sc_NoRoom___init__ : FnScope ["self", "room"] ["self", "room"] (defScope s_NoRoom___init__) := ⟨rfl, rfl, rfl, by decide +kernel, rfl, by decide +kernel, by decide +kernel⟩
abbrev s_NoShare___init__ : Stmt := inClass (top 9) 0
theorem sc_NoShare___init__ : FnScope ["self", "room"] ["self", "room"] (defScope s_NoShare___init__) := ⟨rfl, rfl, rfl, by decide +kernel, rfl, by decide +kernel, by decide +kernel⟩
abbrev s_divisor : Stmt := top 13
theorem sc_divisor : FnScope ["one", "other", "greater", "lesser", "rest"] ["one", "other"] (defScope s_divisor) := ⟨rfl, rfl, rfl, by decide +kernel, rfl, by decide +kernel, by decide +kernel⟩
abbrev s_fraction : Stmt := top 14
theorem sc_fraction : FnScope ["top", "bottom", "common"] ["top", "bottom"] (defScope s_fraction) := ⟨rfl, rfl, rfl, by decide +kernel, rfl, by decide +kernel, by decide +kernel⟩
abbrev s_plus : Stmt := top 15
theorem sc_plus : FnScope ["one", "other"] ["one", "other"] (defScope s_plus) := ⟨rfl, rfl, rfl, by decide +kernel, rfl, by decide +kernel, by decide +kernel⟩
abbrev s_minus : Stmt := top 16
theorem sc_minus : FnScope ["one", "other"] ["one", "other"] (defScope s_minus) := ⟨rfl, rfl, rfl, by decide +kernel, rfl, by decide +kernel, by decide +kernel⟩
abbrev s_under : Stmt := top 17
theorem sc_under : FnScope ["one", "other"] ["one", "other"] (defScope s_under) := ⟨rfl, rfl, rfl, by decide +kernel, rfl, by decide +kernel, by decide +kernel⟩
abbrev s_is_whole_upto : Stmt := top 26
theorem sc_is_whole_upto : FnScope ["thing", "greatest"] ["thing", "greatest"] (defScope s_is_whole_upto) := ⟨rfl, rfl, rfl, by decide +kernel, rfl, by decide +kernel, by decide +kernel⟩
abbrev s_is_rising : Stmt := top 27
theorem sc_is_rising : FnScope ["marks"] ["marks"] (defScope s_is_rising) := ⟨rfl, rfl, rfl, by decide +kernel, rfl, by decide +kernel, by decide +kernel⟩
abbrev s_bands_together : Stmt := top 28
theorem sc_bands_together : FnScope ["rows", "product", "marks"] ["rows"] (defScope s_bands_together) := ⟨rfl, rfl, rfl, by decide +kernel, rfl, by decide +kernel, by decide +kernel⟩
abbrev s_Hold___init__ : Stmt := inClass (top 29) 0
theorem sc_Hold___init__ : FnScope ["self", "most", "cap", "load"] ["self", "most", "cap", "load"] (defScope s_Hold___init__) := ⟨rfl, rfl, rfl, by decide +kernel, rfl, by decide +kernel, by decide +kernel⟩
abbrev s_Hold_put_room : Stmt := inClass (top 29) 1
theorem sc_Hold_put_room : FnScope ["self", "marks", "rows"] ["self", "marks"] (defScope s_Hold_put_room) := ⟨rfl, rfl, rfl, by decide +kernel, rfl, by decide +kernel, by decide +kernel⟩
abbrev s_Hold_put_flow : Stmt := inClass (top 29) 2
theorem sc_Hold_put_flow : FnScope ["self", "into", "of", "share"] ["self", "into", "of", "share"] (defScope s_Hold_put_flow) := ⟨rfl, rfl, rfl, by decide +kernel, rfl, by decide +kernel, by decide +kernel⟩
abbrev s_Hold_put_sky : Stmt := inClass (top 29) 3
theorem sc_Hold_put_sky : FnScope ["self", "room", "share", "low", "high"] ["self", "room", "share", "low", "high"] (defScope s_Hold_put_sky) := ⟨rfl, rfl, rfl, by decide +kernel, rfl, by decide +kernel, by decide +kernel⟩
abbrev s_Hold_put_stove : Stmt := inClass (top 29) 4
theorem sc_Hold_put_stove : FnScope ["self", "room", "heat", "wood", "stay", "fails"] ["self", "room", "heat", "wood", "stay", "fails"] (defScope s_Hold_put_stove) := ⟨rfl, rfl, rfl, by decide +kernel, rfl, by decide +kernel, by decide +kernel⟩
abbrev s_Hold_many : Stmt := inClass (top 29) 5
theorem sc_Hold_many : FnScope ["self"] ["self"] (defScope s_Hold_many) := ⟨rfl, rfl, rfl, by decide +kernel, rfl, by decide +kernel, by decide +kernel⟩
abbrev s_Hold_marks : Stmt := inClass (top 29) 6
theorem sc_Hold_marks : FnScope ["self", "room"] ["self", "room"] (defScope s_Hold_marks) := ⟨rfl, rfl, rfl, by decide +kernel, rfl, by decide +kernel, by decide +kernel⟩
abbrev s_Hold_share : Stmt := inClass (top 29) 7
theorem sc_Hold_share : FnScope ["self", "into", "of"] ["self", "into", "of"] (defScope s_Hold_share) := ⟨rfl, rfl, rfl, by decide +kernel, rfl, by decide +kernel, by decide +kernel⟩
abbrev s_Hold_sky : Stmt := inClass (top 29) 8
theorem sc_Hold_sky : FnScope ["self", "room"] ["self", "room"] (defScope s_Hold_sky) := ⟨rfl, rfl, rfl, by decide +kernel, rfl, by decide +kernel, by decide +kernel⟩
abbrev s_Hold_stove : Stmt := inClass (top 29) 9
theorem sc_Hold_stove : FnScope ["self", "room"] ["self", "room"] (defScope s_Hold_stove) := ⟨rfl, rfl, rfl, by decide +kernel, rfl, by decide +kernel, by decide +kernel⟩
abbrev s_Hold_own_share : Stmt := inClass (top 29) 10
theorem sc_Hold_own_share : FnScope ["self", "room", "rest", "other"] ["self", "room"] (defScope s_Hold_own_share) := ⟨rfl, rfl, rfl, by decide +kernel, rfl, by decide +kernel, by decide +kernel⟩
abbrev s_Hold_look_for : Stmt := inClass (top 29) 11
theorem sc_Hold_look_for : FnScope ["self", "room"] ["self", "room"] (defScope s_Hold_look_for) := ⟨rfl, rfl, rfl, by decide +kernel, rfl, by decide +kernel, by decide +kernel⟩
abbrev s_Hold_look_at_share : Stmt := inClass (top 29) 12
theorem sc_Hold_look_at_share : FnScope ["self", "room", "share", "former", "free"] ["self", "room", "share", "former"] (defScope s_Hold_look_at_share) := ⟨rfl, rfl, rfl, by decide +kernel, rfl, by decide +kernel, by decide +kernel⟩
abbrev s_parts_of : Stmt := top 31
theorem sc_parts_of : FnScope ["hold", "parts", "room"] ["hold"] (defScope s_parts_of) := ⟨rfl, rfl, rfl, by decide +kernel, rfl, by decide +kernel, by decide +kernel⟩
abbrev s_part_of : Stmt := top 32
theorem sc_part_of : FnScope ["hold", "room", "part", "done", "other"] ["hold", "room"] (defScope s_part_of) := ⟨rfl, rfl, rfl, by decide +kernel, rfl, by decide +kernel, by decide +kernel⟩
abbrev s_takes_or_gives : Stmt := top 33
theorem sc_takes_or_gives : FnScope ["hold", "one", "other"] ["hold", "one", "other"] (defScope s_takes_or_gives) := ⟨rfl, rfl, rfl, by decide +kernel, rfl, by decide +kernel, by decide +kernel⟩
abbrev s_law_cell_at : Stmt := top 35
theorem sc_law_cell_at : FnScope ["_law_script", "_law_k"] ["_law_script", "_law_k"] (defScope s_law_cell_at) := ⟨rfl, rfl, rfl, by decide +kernel, rfl, by decide +kernel, by decide +kernel⟩
abbrev s_law_part : Stmt := top 36
theorem sc_law_part : FnScope ["_law_top", "_law_bottom", "_law_one", "_law_other", "_law_rest"] ["_law_top", "_law_bottom"] (defScope s_law_part) := ⟨rfl, rfl, rfl, by decide +kernel, rfl, by decide +kernel, by decide +kernel⟩
abbrev s_law_share : Stmt := top 37
theorem sc_law_share : FnScope ["_law_cell", "_law_bottom"] ["_law_cell"] (defScope s_law_share) := ⟨rfl, rfl, rfl, by decide +kernel, rfl, by decide +kernel, by decide +kernel⟩
abbrev s_law_parts : Stmt := top 38
theorem sc_law_parts : FnScope ["_law_many", "_law_takes", "_law_left", "_law_found", "_law_part_here", "_law_grown", "_law_more"] ["_law_many", "_law_takes"] (defScope s_law_parts) := ⟨rfl, rfl, rfl, by decide +kernel, rfl, by decide +kernel, by decide +kernel⟩
abbrev s_law_right : Stmt := top 39
theorem sc_law_right : FnScope ["_law_hold", "_law_takes", "_law_found", "_law_due", "_law_part_here"] ["_law_hold", "_law_takes"] (defScope s_law_right) := ⟨rfl, rfl, rfl, by decide +kernel, rfl, by decide +kernel, by decide +kernel⟩
abbrev s_law : Stmt := top 40
theorem sc_law : FnScope ["_law_script", "_law_hold", "_law_many", "_law_k", "_law_takes", "_law_cell", "_law_one", "_law_other"] ["_law_script"] (defScope s_law) := ⟨rfl, rfl, rfl, by decide +kernel, rfl, by decide +kernel, by decide +kernel⟩
structure Ads where
  Hold : Addr
  NOUGHT : Addr
  WHOLE : Addr
  T_Hold___init__ : Addr
  T_Hold_put_stove : Addr
structure Txt (K : PySem.W.Frag) (mg : Str → Option Value) (A : Ads) : Prop where
  m_Hold : mg "Hold" = some (.ref A.Hold)
  m_NOUGHT : mg "NOUGHT" = some (.ref A.NOUGHT)
  m_WHOLE : mg "WHOLE" = some (.ref A.WHOLE)
  m_LEAST_MARKS : ∃ t, mg "LEAST_MARKS" = some (.int 2 t)
  m_MOST_BANDS : ∃ t, mg "MOST_BANDS" = some (.int 400 t)
  m_MOST_BURNING : ∃ t, mg "MOST_BURNING" = some (.int 4 t)
  m_MOST_CAP : ∃ t, mg "MOST_CAP" = some (.int 30 t)
  m_MOST_LOAD : ∃ t, mg "MOST_LOAD" = some (.int 30 t)
  m_MOST_MARKS : ∃ t, mg "MOST_MARKS" = some (.int 7 t)
  m_MOST_ROOMS : ∃ t, mg "MOST_ROOMS" = some (.int 4 t)
  q_NOUGHT : KTup K A.NOUGHT [.int 0, .int 1]
  q_WHOLE : KTup K A.WHOLE [.int 1, .int 1]
  cl_Hold : Cls K A.Hold
  mk_Hold : MkCl K A.Hold
  na_Hold_most : NoAttr K A.Hold "most"
  na_Hold_cap : NoAttr K A.Hold "cap"
  na_Hold_load : NoAttr K A.Hold "load"
  na_Hold_mark_rows : NoAttr K A.Hold "mark_rows"
  na_Hold_flows : NoAttr K A.Hold "flows"
  na_Hold_skies : NoAttr K A.Hold "skies"
  na_Hold_stoves : NoAttr K A.Hold "stoves"
  e_Hold___init__ : HasM K A.Hold "__init__" "Hold.__init__" s_Hold___init__ (.ref A.T_Hold___init__)
  t_Hold___init__ : DfIs K A.T_Hold___init__ [.int 4, .int 0, .int 0]
  e_Hold_put_room : HasM K A.Hold "put_room" "Hold.put_room" s_Hold_put_room .none
  e_Hold_put_flow : HasM K A.Hold "put_flow" "Hold.put_flow" s_Hold_put_flow .none
  e_Hold_put_sky : HasM K A.Hold "put_sky" "Hold.put_sky" s_Hold_put_sky .none
  e_Hold_put_stove : HasM K A.Hold "put_stove" "Hold.put_stove" s_Hold_put_stove (.ref A.T_Hold_put_stove)
  t_Hold_put_stove : DfIs K A.T_Hold_put_stove [.int 0, .int 0, .int 0]
  e_Hold_many : HasM K A.Hold "many" "Hold.many" s_Hold_many .none
  e_Hold_marks : HasM K A.Hold "marks" "Hold.marks" s_Hold_marks .none
  e_Hold_share : HasM K A.Hold "share" "Hold.share" s_Hold_share .none
  e_Hold_sky : HasM K A.Hold "sky" "Hold.sky" s_Hold_sky .none
  e_Hold_stove : HasM K A.Hold "stove" "Hold.stove" s_Hold_stove .none
  e_Hold_own_share : HasM K A.Hold "own_share" "Hold.own_share" s_Hold_own_share .none
  e_Hold_look_for : HasM K A.Hold "look_for" "Hold.look_for" s_Hold_look_for .none
  e_Hold_look_at_share : HasM K A.Hold "look_at_share" "Hold.look_at_share" s_Hold_look_at_share .none
  d_wall : Has K mg "_wall" s_wall
  d_divisor : Has K mg "divisor" s_divisor
  d_fraction : Has K mg "fraction" s_fraction
  d_plus : Has K mg "plus" s_plus
  d_minus : Has K mg "minus" s_minus
  d_under : Has K mg "under" s_under
  d_is_whole_upto : Has K mg "is_whole_upto" s_is_whole_upto
  d_is_rising : Has K mg "is_rising" s_is_rising
  d_bands_together : Has K mg "bands_together" s_bands_together
  d_parts_of : Has K mg "parts_of" s_parts_of
  d_part_of : Has K mg "part_of" s_part_of
  d_takes_or_gives : Has K mg "takes_or_gives" s_takes_or_gives
  d_law_cell_at : Has K mg "_law_cell_at" s_law_cell_at
  d_law_part : Has K mg "_law_part" s_law_part
  d_law_share : Has K mg "_law_share" s_law_share
  d_law_parts : Has K mg "_law_parts" s_law_parts
  d_law_right : Has K mg "_law_right" s_law_right
  d_law : Has K mg "law" s_law
  n_abs : mg "abs" = none
  n_all : mg "all" = none
  n_any : mg "any" = none
  n_bool : mg "bool" = none
  n_dict : mg "dict" = none
  n_int : mg "int" = none
  n_isinstance : mg "isinstance" = none
  n_len : mg "len" = none
  n_list : mg "list" = none
  n_range : mg "range" = none
  n_sorted : mg "sorted" = none
  n_tuple : mg "tuple" = none
  n_zip : mg "zip" = none
theorem txt_mk {K : PySem.W.Frag} {h : Heap} {mg : Str → Option Value} (X : K.In h) (G : h.Ns mainGlobals mg)
    {c_Hold : Addr}
    {c_NOUGHT : Addr}
    {c_WHOLE : Addr}
    {t_LEAST_MARKS : Tok}
    {t_MOST_BANDS : Tok}
    {t_MOST_BURNING : Tok}
    {t_MOST_CAP : Tok}
    {t_MOST_LOAD : Tok}
    {t_MOST_MARKS : Tok}
    {t_MOST_ROOMS : Tok}
    {dd_NOUGHT : Option Addr} {n_NOUGHT : Nat} {sl_NOUGHT : Array (Option Value)} {t_NOUGHT u_NOUGHT : Tok}
    {dd_WHOLE : Option Addr} {n_WHOLE : Nat} {sl_WHOLE : Array (Option Value)} {t_WHOLE u_WHOLE : Tok}
    {f_Hold___init__ : Addr} {od_Hold___init__ an_Hold___init__ : Option Addr} {sl_Hold___init__ : Array (Option Value)} {oc_Hold___init__ kV_Hold___init__ dc_Hold___init__ pm_Hold___init__ cd_Hold___init__ ct_Hold___init__ : Value}
    {T_Hold___init__ : Addr}
    {dt_Hold___init___0 : Tok}
    {dt_Hold___init___1 : Tok}
    {dt_Hold___init___2 : Tok}
    {do_Hold___init__ : Value} {dd_Hold___init__ : Option Addr} {dn_Hold___init__ : Nat} {ds_Hold___init__ : Array (Option Value)}
    {f_Hold_put_room : Addr} {od_Hold_put_room an_Hold_put_room : Option Addr} {sl_Hold_put_room : Array (Option Value)} {oc_Hold_put_room kV_Hold_put_room dc_Hold_put_room pm_Hold_put_room cd_Hold_put_room ct_Hold_put_room : Value}
    {f_Hold_put_flow : Addr} {od_Hold_put_flow an_Hold_put_flow : Option Addr} {sl_Hold_put_flow : Array (Option Value)} {oc_Hold_put_flow kV_Hold_put_flow dc_Hold_put_flow pm_Hold_put_flow cd_Hold_put_flow ct_Hold_put_flow : Value}
    {f_Hold_put_sky : Addr} {od_Hold_put_sky an_Hold_put_sky : Option Addr} {sl_Hold_put_sky : Array (Option Value)} {oc_Hold_put_sky kV_Hold_put_sky dc_Hold_put_sky pm_Hold_put_sky cd_Hold_put_sky ct_Hold_put_sky : Value}
    {f_Hold_put_stove : Addr} {od_Hold_put_stove an_Hold_put_stove : Option Addr} {sl_Hold_put_stove : Array (Option Value)} {oc_Hold_put_stove kV_Hold_put_stove dc_Hold_put_stove pm_Hold_put_stove cd_Hold_put_stove ct_Hold_put_stove : Value}
    {T_Hold_put_stove : Addr}
    {dt_Hold_put_stove_0 : Tok}
    {dt_Hold_put_stove_1 : Tok}
    {dt_Hold_put_stove_2 : Tok}
    {do_Hold_put_stove : Value} {dd_Hold_put_stove : Option Addr} {dn_Hold_put_stove : Nat} {ds_Hold_put_stove : Array (Option Value)}
    {f_Hold_many : Addr} {od_Hold_many an_Hold_many : Option Addr} {sl_Hold_many : Array (Option Value)} {oc_Hold_many kV_Hold_many dc_Hold_many pm_Hold_many cd_Hold_many ct_Hold_many : Value}
    {f_Hold_marks : Addr} {od_Hold_marks an_Hold_marks : Option Addr} {sl_Hold_marks : Array (Option Value)} {oc_Hold_marks kV_Hold_marks dc_Hold_marks pm_Hold_marks cd_Hold_marks ct_Hold_marks : Value}
    {f_Hold_share : Addr} {od_Hold_share an_Hold_share : Option Addr} {sl_Hold_share : Array (Option Value)} {oc_Hold_share kV_Hold_share dc_Hold_share pm_Hold_share cd_Hold_share ct_Hold_share : Value}
    {f_Hold_sky : Addr} {od_Hold_sky an_Hold_sky : Option Addr} {sl_Hold_sky : Array (Option Value)} {oc_Hold_sky kV_Hold_sky dc_Hold_sky pm_Hold_sky cd_Hold_sky ct_Hold_sky : Value}
    {f_Hold_stove : Addr} {od_Hold_stove an_Hold_stove : Option Addr} {sl_Hold_stove : Array (Option Value)} {oc_Hold_stove kV_Hold_stove dc_Hold_stove pm_Hold_stove cd_Hold_stove ct_Hold_stove : Value}
    {f_Hold_own_share : Addr} {od_Hold_own_share an_Hold_own_share : Option Addr} {sl_Hold_own_share : Array (Option Value)} {oc_Hold_own_share kV_Hold_own_share dc_Hold_own_share pm_Hold_own_share cd_Hold_own_share ct_Hold_own_share : Value}
    {f_Hold_look_for : Addr} {od_Hold_look_for an_Hold_look_for : Option Addr} {sl_Hold_look_for : Array (Option Value)} {oc_Hold_look_for kV_Hold_look_for dc_Hold_look_for pm_Hold_look_for cd_Hold_look_for ct_Hold_look_for : Value}
    {f_Hold_look_at_share : Addr} {od_Hold_look_at_share an_Hold_look_at_share : Option Addr} {sl_Hold_look_at_share : Array (Option Value)} {oc_Hold_look_at_share kV_Hold_look_at_share dc_Hold_look_at_share pm_Hold_look_at_share cd_Hold_look_at_share ct_Hold_look_at_share : Value}
    {f_wall : Addr} {od_wall an_wall : Option Addr} {sl_wall : Array (Option Value)} {oc_wall kV_wall dc_wall pm_wall cd_wall ct_wall : Value}
    {f_divisor : Addr} {od_divisor an_divisor : Option Addr} {sl_divisor : Array (Option Value)} {oc_divisor kV_divisor dc_divisor pm_divisor cd_divisor ct_divisor : Value}
    {f_fraction : Addr} {od_fraction an_fraction : Option Addr} {sl_fraction : Array (Option Value)} {oc_fraction kV_fraction dc_fraction pm_fraction cd_fraction ct_fraction : Value}
    {f_plus : Addr} {od_plus an_plus : Option Addr} {sl_plus : Array (Option Value)} {oc_plus kV_plus dc_plus pm_plus cd_plus ct_plus : Value}
    {f_minus : Addr} {od_minus an_minus : Option Addr} {sl_minus : Array (Option Value)} {oc_minus kV_minus dc_minus pm_minus cd_minus ct_minus : Value}
    {f_under : Addr} {od_under an_under : Option Addr} {sl_under : Array (Option Value)} {oc_under kV_under dc_under pm_under cd_under ct_under : Value}
    {f_is_whole_upto : Addr} {od_is_whole_upto an_is_whole_upto : Option Addr} {sl_is_whole_upto : Array (Option Value)} {oc_is_whole_upto kV_is_whole_upto dc_is_whole_upto pm_is_whole_upto cd_is_whole_upto ct_is_whole_upto : Value}
    {f_is_rising : Addr} {od_is_rising an_is_rising : Option Addr} {sl_is_rising : Array (Option Value)} {oc_is_rising kV_is_rising dc_is_rising pm_is_rising cd_is_rising ct_is_rising : Value}
    {f_bands_together : Addr} {od_bands_together an_bands_together : Option Addr} {sl_bands_together : Array (Option Value)} {oc_bands_together kV_bands_together dc_bands_together pm_bands_together cd_bands_together ct_bands_together : Value}
    {f_parts_of : Addr} {od_parts_of an_parts_of : Option Addr} {sl_parts_of : Array (Option Value)} {oc_parts_of kV_parts_of dc_parts_of pm_parts_of cd_parts_of ct_parts_of : Value}
    {f_part_of : Addr} {od_part_of an_part_of : Option Addr} {sl_part_of : Array (Option Value)} {oc_part_of kV_part_of dc_part_of pm_part_of cd_part_of ct_part_of : Value}
    {f_takes_or_gives : Addr} {od_takes_or_gives an_takes_or_gives : Option Addr} {sl_takes_or_gives : Array (Option Value)} {oc_takes_or_gives kV_takes_or_gives dc_takes_or_gives pm_takes_or_gives cd_takes_or_gives ct_takes_or_gives : Value}
    {f_law_cell_at : Addr} {od_law_cell_at an_law_cell_at : Option Addr} {sl_law_cell_at : Array (Option Value)} {oc_law_cell_at kV_law_cell_at dc_law_cell_at pm_law_cell_at cd_law_cell_at ct_law_cell_at : Value}
    {f_law_part : Addr} {od_law_part an_law_part : Option Addr} {sl_law_part : Array (Option Value)} {oc_law_part kV_law_part dc_law_part pm_law_part cd_law_part ct_law_part : Value}
    {f_law_share : Addr} {od_law_share an_law_share : Option Addr} {sl_law_share : Array (Option Value)} {oc_law_share kV_law_share dc_law_share pm_law_share cd_law_share ct_law_share : Value}
    {f_law_parts : Addr} {od_law_parts an_law_parts : Option Addr} {sl_law_parts : Array (Option Value)} {oc_law_parts kV_law_parts dc_law_parts pm_law_parts cd_law_parts ct_law_parts : Value}
    {f_law_right : Addr} {od_law_right an_law_right : Option Addr} {sl_law_right : Array (Option Value)} {oc_law_right kV_law_right dc_law_right pm_law_right cd_law_right ct_law_right : Value}
    {f_law : Addr} {od_law an_law : Option Addr} {sl_law : Array (Option Value)} {oc_law kV_law dc_law pm_law cd_law ct_law : Value}
    (y_Hold : PySem.W.nsIn K mainGlobals "Hold" = some (some (.ref c_Hold)))
    (y_NOUGHT : PySem.W.nsIn K mainGlobals "NOUGHT" = some (some (.ref c_NOUGHT)))
    (y_WHOLE : PySem.W.nsIn K mainGlobals "WHOLE" = some (some (.ref c_WHOLE)))
    (i_LEAST_MARKS : PySem.W.nsIn K mainGlobals "LEAST_MARKS" = some (some (.int 2 t_LEAST_MARKS)))
    (i_MOST_BANDS : PySem.W.nsIn K mainGlobals "MOST_BANDS" = some (some (.int 400 t_MOST_BANDS)))
    (i_MOST_BURNING : PySem.W.nsIn K mainGlobals "MOST_BURNING" = some (some (.int 4 t_MOST_BURNING)))
    (i_MOST_CAP : PySem.W.nsIn K mainGlobals "MOST_CAP" = some (some (.int 30 t_MOST_CAP)))
    (i_MOST_LOAD : PySem.W.nsIn K mainGlobals "MOST_LOAD" = some (some (.int 30 t_MOST_LOAD)))
    (i_MOST_MARKS : PySem.W.nsIn K mainGlobals "MOST_MARKS" = some (some (.int 7 t_MOST_MARKS)))
    (i_MOST_ROOMS : PySem.W.nsIn K mainGlobals "MOST_ROOMS" = some (some (.int 4 t_MOST_ROOMS)))
    (q_NOUGHT : K.lookup c_NOUGHT = some ⟨.type "tuple", dd_NOUGHT, .seq #[.int 0 t_NOUGHT, .int 1 u_NOUGHT] n_NOUGHT, sl_NOUGHT⟩)
    (q_WHOLE : K.lookup c_WHOLE = some ⟨.type "tuple", dd_WHOLE, .seq #[.int 1 t_WHOLE, .int 1 u_WHOLE] n_WHOLE, sl_WHOLE⟩)
    (pg_Hold : PySem.W.plainGet K c_Hold Str.empty = true)
    (hd_Hold : PySem.W.hasDictIn K c_Hold = true)
    (po_Hold : PySem.W.plainOver K c_Hold = true)
    (sa_Hold : PySem.W.findIn K (.ref c_Hold) "__setattr__" = some (some (.builtin "object.__setattr__")))
    (mk_Hold : PySem.W.makesIn K c_Hold = true)
    (kc_Hold : PySem.W.keepIn K (.ref c_Hold) = true)
    (na_Hold_most : PySem.W.findIn K (.ref c_Hold) "most" = some none)
    (na_Hold_cap : PySem.W.findIn K (.ref c_Hold) "cap" = some none)
    (na_Hold_load : PySem.W.findIn K (.ref c_Hold) "load" = some none)
    (na_Hold_mark_rows : PySem.W.findIn K (.ref c_Hold) "mark_rows" = some none)
    (na_Hold_flows : PySem.W.findIn K (.ref c_Hold) "flows" = some none)
    (na_Hold_skies : PySem.W.findIn K (.ref c_Hold) "skies" = some none)
    (na_Hold_stoves : PySem.W.findIn K (.ref c_Hold) "stoves" = some none)
    (at_Hold___init__ : PySem.W.findIn K (.ref c_Hold) "__init__" = some (some (.ref f_Hold___init__)))
    (fn_Hold___init__ : PySem.W.isFn K (.ref f_Hold___init__) = true)
    (l_Hold___init__ : K.lookup f_Hold___init__ = some ⟨oc_Hold___init__, od_Hold___init__, .func (PySem.W.fnOf "__init__" "Hold.__init__" (defArgs s_Hold___init__) (defBody s_Hold___init__) (defScope s_Hold___init__) (.ref T_Hold___init__) kV_Hold___init__ dc_Hold___init__ pm_Hold___init__ an_Hold___init__ cd_Hold___init__ ct_Hold___init__), sl_Hold___init__⟩)
    (co_Hold___init__ : PySem.W.codeIn K cd_Hold___init__ "Hold.__init__" = true)
    (k_Hold___init__ : PySem.W.keepIn K (.ref f_Hold___init__) = true)
    (t_Hold___init__ : K.lookup T_Hold___init__ = some ⟨do_Hold___init__, dd_Hold___init__, .seq #[.int 4 dt_Hold___init___0, .int 0 dt_Hold___init___1, .int 0 dt_Hold___init___2] dn_Hold___init__, ds_Hold___init__⟩)
    (at_Hold_put_room : PySem.W.findIn K (.ref c_Hold) "put_room" = some (some (.ref f_Hold_put_room)))
    (fn_Hold_put_room : PySem.W.isFn K (.ref f_Hold_put_room) = true)
    (l_Hold_put_room : K.lookup f_Hold_put_room = some ⟨oc_Hold_put_room, od_Hold_put_room, .func (PySem.W.fnOf "put_room" "Hold.put_room" (defArgs s_Hold_put_room) (defBody s_Hold_put_room) (defScope s_Hold_put_room) .none kV_Hold_put_room dc_Hold_put_room pm_Hold_put_room an_Hold_put_room cd_Hold_put_room ct_Hold_put_room), sl_Hold_put_room⟩)
    (co_Hold_put_room : PySem.W.codeIn K cd_Hold_put_room "Hold.put_room" = true)
    (k_Hold_put_room : PySem.W.keepIn K (.ref f_Hold_put_room) = true)
    (at_Hold_put_flow : PySem.W.findIn K (.ref c_Hold) "put_flow" = some (some (.ref f_Hold_put_flow)))
    (fn_Hold_put_flow : PySem.W.isFn K (.ref f_Hold_put_flow) = true)
    (l_Hold_put_flow : K.lookup f_Hold_put_flow = some ⟨oc_Hold_put_flow, od_Hold_put_flow, .func (PySem.W.fnOf "put_flow" "Hold.put_flow" (defArgs s_Hold_put_flow) (defBody s_Hold_put_flow) (defScope s_Hold_put_flow) .none kV_Hold_put_flow dc_Hold_put_flow pm_Hold_put_flow an_Hold_put_flow cd_Hold_put_flow ct_Hold_put_flow), sl_Hold_put_flow⟩)
    (co_Hold_put_flow : PySem.W.codeIn K cd_Hold_put_flow "Hold.put_flow" = true)
    (k_Hold_put_flow : PySem.W.keepIn K (.ref f_Hold_put_flow) = true)
    (at_Hold_put_sky : PySem.W.findIn K (.ref c_Hold) "put_sky" = some (some (.ref f_Hold_put_sky)))
    (fn_Hold_put_sky : PySem.W.isFn K (.ref f_Hold_put_sky) = true)
    (l_Hold_put_sky : K.lookup f_Hold_put_sky = some ⟨oc_Hold_put_sky, od_Hold_put_sky, .func (PySem.W.fnOf "put_sky" "Hold.put_sky" (defArgs s_Hold_put_sky) (defBody s_Hold_put_sky) (defScope s_Hold_put_sky) .none kV_Hold_put_sky dc_Hold_put_sky pm_Hold_put_sky an_Hold_put_sky cd_Hold_put_sky ct_Hold_put_sky), sl_Hold_put_sky⟩)
    (co_Hold_put_sky : PySem.W.codeIn K cd_Hold_put_sky "Hold.put_sky" = true)
    (k_Hold_put_sky : PySem.W.keepIn K (.ref f_Hold_put_sky) = true)
    (at_Hold_put_stove : PySem.W.findIn K (.ref c_Hold) "put_stove" = some (some (.ref f_Hold_put_stove)))
    (fn_Hold_put_stove : PySem.W.isFn K (.ref f_Hold_put_stove) = true)
    (l_Hold_put_stove : K.lookup f_Hold_put_stove = some ⟨oc_Hold_put_stove, od_Hold_put_stove, .func (PySem.W.fnOf "put_stove" "Hold.put_stove" (defArgs s_Hold_put_stove) (defBody s_Hold_put_stove) (defScope s_Hold_put_stove) (.ref T_Hold_put_stove) kV_Hold_put_stove dc_Hold_put_stove pm_Hold_put_stove an_Hold_put_stove cd_Hold_put_stove ct_Hold_put_stove), sl_Hold_put_stove⟩)
    (co_Hold_put_stove : PySem.W.codeIn K cd_Hold_put_stove "Hold.put_stove" = true)
    (k_Hold_put_stove : PySem.W.keepIn K (.ref f_Hold_put_stove) = true)
    (t_Hold_put_stove : K.lookup T_Hold_put_stove = some ⟨do_Hold_put_stove, dd_Hold_put_stove, .seq #[.int 0 dt_Hold_put_stove_0, .int 0 dt_Hold_put_stove_1, .int 0 dt_Hold_put_stove_2] dn_Hold_put_stove, ds_Hold_put_stove⟩)
    (at_Hold_many : PySem.W.findIn K (.ref c_Hold) "many" = some (some (.ref f_Hold_many)))
    (fn_Hold_many : PySem.W.isFn K (.ref f_Hold_many) = true)
    (l_Hold_many : K.lookup f_Hold_many = some ⟨oc_Hold_many, od_Hold_many, .func (PySem.W.fnOf "many" "Hold.many" (defArgs s_Hold_many) (defBody s_Hold_many) (defScope s_Hold_many) .none kV_Hold_many dc_Hold_many pm_Hold_many an_Hold_many cd_Hold_many ct_Hold_many), sl_Hold_many⟩)
    (co_Hold_many : PySem.W.codeIn K cd_Hold_many "Hold.many" = true)
    (k_Hold_many : PySem.W.keepIn K (.ref f_Hold_many) = true)
    (at_Hold_marks : PySem.W.findIn K (.ref c_Hold) "marks" = some (some (.ref f_Hold_marks)))
    (fn_Hold_marks : PySem.W.isFn K (.ref f_Hold_marks) = true)
    (l_Hold_marks : K.lookup f_Hold_marks = some ⟨oc_Hold_marks, od_Hold_marks, .func (PySem.W.fnOf "marks" "Hold.marks" (defArgs s_Hold_marks) (defBody s_Hold_marks) (defScope s_Hold_marks) .none kV_Hold_marks dc_Hold_marks pm_Hold_marks an_Hold_marks cd_Hold_marks ct_Hold_marks), sl_Hold_marks⟩)
    (co_Hold_marks : PySem.W.codeIn K cd_Hold_marks "Hold.marks" = true)
    (k_Hold_marks : PySem.W.keepIn K (.ref f_Hold_marks) = true)
    (at_Hold_share : PySem.W.findIn K (.ref c_Hold) "share" = some (some (.ref f_Hold_share)))
    (fn_Hold_share : PySem.W.isFn K (.ref f_Hold_share) = true)
    (l_Hold_share : K.lookup f_Hold_share = some ⟨oc_Hold_share, od_Hold_share, .func (PySem.W.fnOf "share" "Hold.share" (defArgs s_Hold_share) (defBody s_Hold_share) (defScope s_Hold_share) .none kV_Hold_share dc_Hold_share pm_Hold_share an_Hold_share cd_Hold_share ct_Hold_share), sl_Hold_share⟩)
    (co_Hold_share : PySem.W.codeIn K cd_Hold_share "Hold.share" = true)
    (k_Hold_share : PySem.W.keepIn K (.ref f_Hold_share) = true)
    (at_Hold_sky : PySem.W.findIn K (.ref c_Hold) "sky" = some (some (.ref f_Hold_sky)))
    (fn_Hold_sky : PySem.W.isFn K (.ref f_Hold_sky) = true)
    (l_Hold_sky : K.lookup f_Hold_sky = some ⟨oc_Hold_sky, od_Hold_sky, .func (PySem.W.fnOf "sky" "Hold.sky" (defArgs s_Hold_sky) (defBody s_Hold_sky) (defScope s_Hold_sky) .none kV_Hold_sky dc_Hold_sky pm_Hold_sky an_Hold_sky cd_Hold_sky ct_Hold_sky), sl_Hold_sky⟩)
    (co_Hold_sky : PySem.W.codeIn K cd_Hold_sky "Hold.sky" = true)
    (k_Hold_sky : PySem.W.keepIn K (.ref f_Hold_sky) = true)
    (at_Hold_stove : PySem.W.findIn K (.ref c_Hold) "stove" = some (some (.ref f_Hold_stove)))
    (fn_Hold_stove : PySem.W.isFn K (.ref f_Hold_stove) = true)
    (l_Hold_stove : K.lookup f_Hold_stove = some ⟨oc_Hold_stove, od_Hold_stove, .func (PySem.W.fnOf "stove" "Hold.stove" (defArgs s_Hold_stove) (defBody s_Hold_stove) (defScope s_Hold_stove) .none kV_Hold_stove dc_Hold_stove pm_Hold_stove an_Hold_stove cd_Hold_stove ct_Hold_stove), sl_Hold_stove⟩)
    (co_Hold_stove : PySem.W.codeIn K cd_Hold_stove "Hold.stove" = true)
    (k_Hold_stove : PySem.W.keepIn K (.ref f_Hold_stove) = true)
    (at_Hold_own_share : PySem.W.findIn K (.ref c_Hold) "own_share" = some (some (.ref f_Hold_own_share)))
    (fn_Hold_own_share : PySem.W.isFn K (.ref f_Hold_own_share) = true)
    (l_Hold_own_share : K.lookup f_Hold_own_share = some ⟨oc_Hold_own_share, od_Hold_own_share, .func (PySem.W.fnOf "own_share" "Hold.own_share" (defArgs s_Hold_own_share) (defBody s_Hold_own_share) (defScope s_Hold_own_share) .none kV_Hold_own_share dc_Hold_own_share pm_Hold_own_share an_Hold_own_share cd_Hold_own_share ct_Hold_own_share), sl_Hold_own_share⟩)
    (co_Hold_own_share : PySem.W.codeIn K cd_Hold_own_share "Hold.own_share" = true)
    (k_Hold_own_share : PySem.W.keepIn K (.ref f_Hold_own_share) = true)
    (at_Hold_look_for : PySem.W.findIn K (.ref c_Hold) "look_for" = some (some (.ref f_Hold_look_for)))
    (fn_Hold_look_for : PySem.W.isFn K (.ref f_Hold_look_for) = true)
    (l_Hold_look_for : K.lookup f_Hold_look_for = some ⟨oc_Hold_look_for, od_Hold_look_for, .func (PySem.W.fnOf "look_for" "Hold.look_for" (defArgs s_Hold_look_for) (defBody s_Hold_look_for) (defScope s_Hold_look_for) .none kV_Hold_look_for dc_Hold_look_for pm_Hold_look_for an_Hold_look_for cd_Hold_look_for ct_Hold_look_for), sl_Hold_look_for⟩)
    (co_Hold_look_for : PySem.W.codeIn K cd_Hold_look_for "Hold.look_for" = true)
    (k_Hold_look_for : PySem.W.keepIn K (.ref f_Hold_look_for) = true)
    (at_Hold_look_at_share : PySem.W.findIn K (.ref c_Hold) "look_at_share" = some (some (.ref f_Hold_look_at_share)))
    (fn_Hold_look_at_share : PySem.W.isFn K (.ref f_Hold_look_at_share) = true)
    (l_Hold_look_at_share : K.lookup f_Hold_look_at_share = some ⟨oc_Hold_look_at_share, od_Hold_look_at_share, .func (PySem.W.fnOf "look_at_share" "Hold.look_at_share" (defArgs s_Hold_look_at_share) (defBody s_Hold_look_at_share) (defScope s_Hold_look_at_share) .none kV_Hold_look_at_share dc_Hold_look_at_share pm_Hold_look_at_share an_Hold_look_at_share cd_Hold_look_at_share ct_Hold_look_at_share), sl_Hold_look_at_share⟩)
    (co_Hold_look_at_share : PySem.W.codeIn K cd_Hold_look_at_share "Hold.look_at_share" = true)
    (k_Hold_look_at_share : PySem.W.keepIn K (.ref f_Hold_look_at_share) = true)
    (a_wall : PySem.W.nsIn K mainGlobals "_wall" = some (some (.ref f_wall)))
    (l_wall : K.lookup f_wall = some ⟨oc_wall, od_wall, .func (PySem.W.fnOf "_wall" "_wall" (defArgs s_wall) (defBody s_wall) (defScope s_wall) .none kV_wall dc_wall pm_wall an_wall cd_wall ct_wall), sl_wall⟩)
    (co_wall : PySem.W.codeIn K cd_wall "_wall" = true)
    (k_wall : PySem.W.keepIn K (.ref f_wall) = true)
    (a_divisor : PySem.W.nsIn K mainGlobals "divisor" = some (some (.ref f_divisor)))
    (l_divisor : K.lookup f_divisor = some ⟨oc_divisor, od_divisor, .func (PySem.W.fnOf "divisor" "divisor" (defArgs s_divisor) (defBody s_divisor) (defScope s_divisor) .none kV_divisor dc_divisor pm_divisor an_divisor cd_divisor ct_divisor), sl_divisor⟩)
    (co_divisor : PySem.W.codeIn K cd_divisor "divisor" = true)
    (k_divisor : PySem.W.keepIn K (.ref f_divisor) = true)
    (a_fraction : PySem.W.nsIn K mainGlobals "fraction" = some (some (.ref f_fraction)))
    (l_fraction : K.lookup f_fraction = some ⟨oc_fraction, od_fraction, .func (PySem.W.fnOf "fraction" "fraction" (defArgs s_fraction) (defBody s_fraction) (defScope s_fraction) .none kV_fraction dc_fraction pm_fraction an_fraction cd_fraction ct_fraction), sl_fraction⟩)
    (co_fraction : PySem.W.codeIn K cd_fraction "fraction" = true)
    (k_fraction : PySem.W.keepIn K (.ref f_fraction) = true)
    (a_plus : PySem.W.nsIn K mainGlobals "plus" = some (some (.ref f_plus)))
    (l_plus : K.lookup f_plus = some ⟨oc_plus, od_plus, .func (PySem.W.fnOf "plus" "plus" (defArgs s_plus) (defBody s_plus) (defScope s_plus) .none kV_plus dc_plus pm_plus an_plus cd_plus ct_plus), sl_plus⟩)
    (co_plus : PySem.W.codeIn K cd_plus "plus" = true)
    (k_plus : PySem.W.keepIn K (.ref f_plus) = true)
    (a_minus : PySem.W.nsIn K mainGlobals "minus" = some (some (.ref f_minus)))
    (l_minus : K.lookup f_minus = some ⟨oc_minus, od_minus, .func (PySem.W.fnOf "minus" "minus" (defArgs s_minus) (defBody s_minus) (defScope s_minus) .none kV_minus dc_minus pm_minus an_minus cd_minus ct_minus), sl_minus⟩)
    (co_minus : PySem.W.codeIn K cd_minus "minus" = true)
    (k_minus : PySem.W.keepIn K (.ref f_minus) = true)
    (a_under : PySem.W.nsIn K mainGlobals "under" = some (some (.ref f_under)))
    (l_under : K.lookup f_under = some ⟨oc_under, od_under, .func (PySem.W.fnOf "under" "under" (defArgs s_under) (defBody s_under) (defScope s_under) .none kV_under dc_under pm_under an_under cd_under ct_under), sl_under⟩)
    (co_under : PySem.W.codeIn K cd_under "under" = true)
    (k_under : PySem.W.keepIn K (.ref f_under) = true)
    (a_is_whole_upto : PySem.W.nsIn K mainGlobals "is_whole_upto" = some (some (.ref f_is_whole_upto)))
    (l_is_whole_upto : K.lookup f_is_whole_upto = some ⟨oc_is_whole_upto, od_is_whole_upto, .func (PySem.W.fnOf "is_whole_upto" "is_whole_upto" (defArgs s_is_whole_upto) (defBody s_is_whole_upto) (defScope s_is_whole_upto) .none kV_is_whole_upto dc_is_whole_upto pm_is_whole_upto an_is_whole_upto cd_is_whole_upto ct_is_whole_upto), sl_is_whole_upto⟩)
    (co_is_whole_upto : PySem.W.codeIn K cd_is_whole_upto "is_whole_upto" = true)
    (k_is_whole_upto : PySem.W.keepIn K (.ref f_is_whole_upto) = true)
    (a_is_rising : PySem.W.nsIn K mainGlobals "is_rising" = some (some (.ref f_is_rising)))
    (l_is_rising : K.lookup f_is_rising = some ⟨oc_is_rising, od_is_rising, .func (PySem.W.fnOf "is_rising" "is_rising" (defArgs s_is_rising) (defBody s_is_rising) (defScope s_is_rising) .none kV_is_rising dc_is_rising pm_is_rising an_is_rising cd_is_rising ct_is_rising), sl_is_rising⟩)
    (co_is_rising : PySem.W.codeIn K cd_is_rising "is_rising" = true)
    (k_is_rising : PySem.W.keepIn K (.ref f_is_rising) = true)
    (a_bands_together : PySem.W.nsIn K mainGlobals "bands_together" = some (some (.ref f_bands_together)))
    (l_bands_together : K.lookup f_bands_together = some ⟨oc_bands_together, od_bands_together, .func (PySem.W.fnOf "bands_together" "bands_together" (defArgs s_bands_together) (defBody s_bands_together) (defScope s_bands_together) .none kV_bands_together dc_bands_together pm_bands_together an_bands_together cd_bands_together ct_bands_together), sl_bands_together⟩)
    (co_bands_together : PySem.W.codeIn K cd_bands_together "bands_together" = true)
    (k_bands_together : PySem.W.keepIn K (.ref f_bands_together) = true)
    (a_parts_of : PySem.W.nsIn K mainGlobals "parts_of" = some (some (.ref f_parts_of)))
    (l_parts_of : K.lookup f_parts_of = some ⟨oc_parts_of, od_parts_of, .func (PySem.W.fnOf "parts_of" "parts_of" (defArgs s_parts_of) (defBody s_parts_of) (defScope s_parts_of) .none kV_parts_of dc_parts_of pm_parts_of an_parts_of cd_parts_of ct_parts_of), sl_parts_of⟩)
    (co_parts_of : PySem.W.codeIn K cd_parts_of "parts_of" = true)
    (k_parts_of : PySem.W.keepIn K (.ref f_parts_of) = true)
    (a_part_of : PySem.W.nsIn K mainGlobals "part_of" = some (some (.ref f_part_of)))
    (l_part_of : K.lookup f_part_of = some ⟨oc_part_of, od_part_of, .func (PySem.W.fnOf "part_of" "part_of" (defArgs s_part_of) (defBody s_part_of) (defScope s_part_of) .none kV_part_of dc_part_of pm_part_of an_part_of cd_part_of ct_part_of), sl_part_of⟩)
    (co_part_of : PySem.W.codeIn K cd_part_of "part_of" = true)
    (k_part_of : PySem.W.keepIn K (.ref f_part_of) = true)
    (a_takes_or_gives : PySem.W.nsIn K mainGlobals "takes_or_gives" = some (some (.ref f_takes_or_gives)))
    (l_takes_or_gives : K.lookup f_takes_or_gives = some ⟨oc_takes_or_gives, od_takes_or_gives, .func (PySem.W.fnOf "takes_or_gives" "takes_or_gives" (defArgs s_takes_or_gives) (defBody s_takes_or_gives) (defScope s_takes_or_gives) .none kV_takes_or_gives dc_takes_or_gives pm_takes_or_gives an_takes_or_gives cd_takes_or_gives ct_takes_or_gives), sl_takes_or_gives⟩)
    (co_takes_or_gives : PySem.W.codeIn K cd_takes_or_gives "takes_or_gives" = true)
    (k_takes_or_gives : PySem.W.keepIn K (.ref f_takes_or_gives) = true)
    (a_law_cell_at : PySem.W.nsIn K mainGlobals "_law_cell_at" = some (some (.ref f_law_cell_at)))
    (l_law_cell_at : K.lookup f_law_cell_at = some ⟨oc_law_cell_at, od_law_cell_at, .func (PySem.W.fnOf "_law_cell_at" "_law_cell_at" (defArgs s_law_cell_at) (defBody s_law_cell_at) (defScope s_law_cell_at) .none kV_law_cell_at dc_law_cell_at pm_law_cell_at an_law_cell_at cd_law_cell_at ct_law_cell_at), sl_law_cell_at⟩)
    (co_law_cell_at : PySem.W.codeIn K cd_law_cell_at "_law_cell_at" = true)
    (k_law_cell_at : PySem.W.keepIn K (.ref f_law_cell_at) = true)
    (a_law_part : PySem.W.nsIn K mainGlobals "_law_part" = some (some (.ref f_law_part)))
    (l_law_part : K.lookup f_law_part = some ⟨oc_law_part, od_law_part, .func (PySem.W.fnOf "_law_part" "_law_part" (defArgs s_law_part) (defBody s_law_part) (defScope s_law_part) .none kV_law_part dc_law_part pm_law_part an_law_part cd_law_part ct_law_part), sl_law_part⟩)
    (co_law_part : PySem.W.codeIn K cd_law_part "_law_part" = true)
    (k_law_part : PySem.W.keepIn K (.ref f_law_part) = true)
    (a_law_share : PySem.W.nsIn K mainGlobals "_law_share" = some (some (.ref f_law_share)))
    (l_law_share : K.lookup f_law_share = some ⟨oc_law_share, od_law_share, .func (PySem.W.fnOf "_law_share" "_law_share" (defArgs s_law_share) (defBody s_law_share) (defScope s_law_share) .none kV_law_share dc_law_share pm_law_share an_law_share cd_law_share ct_law_share), sl_law_share⟩)
    (co_law_share : PySem.W.codeIn K cd_law_share "_law_share" = true)
    (k_law_share : PySem.W.keepIn K (.ref f_law_share) = true)
    (a_law_parts : PySem.W.nsIn K mainGlobals "_law_parts" = some (some (.ref f_law_parts)))
    (l_law_parts : K.lookup f_law_parts = some ⟨oc_law_parts, od_law_parts, .func (PySem.W.fnOf "_law_parts" "_law_parts" (defArgs s_law_parts) (defBody s_law_parts) (defScope s_law_parts) .none kV_law_parts dc_law_parts pm_law_parts an_law_parts cd_law_parts ct_law_parts), sl_law_parts⟩)
    (co_law_parts : PySem.W.codeIn K cd_law_parts "_law_parts" = true)
    (k_law_parts : PySem.W.keepIn K (.ref f_law_parts) = true)
    (a_law_right : PySem.W.nsIn K mainGlobals "_law_right" = some (some (.ref f_law_right)))
    (l_law_right : K.lookup f_law_right = some ⟨oc_law_right, od_law_right, .func (PySem.W.fnOf "_law_right" "_law_right" (defArgs s_law_right) (defBody s_law_right) (defScope s_law_right) .none kV_law_right dc_law_right pm_law_right an_law_right cd_law_right ct_law_right), sl_law_right⟩)
    (co_law_right : PySem.W.codeIn K cd_law_right "_law_right" = true)
    (k_law_right : PySem.W.keepIn K (.ref f_law_right) = true)
    (a_law : PySem.W.nsIn K mainGlobals "law" = some (some (.ref f_law)))
    (l_law : K.lookup f_law = some ⟨oc_law, od_law, .func (PySem.W.fnOf "law" "law" (defArgs s_law) (defBody s_law) (defScope s_law) .none kV_law dc_law pm_law an_law cd_law ct_law), sl_law⟩)
    (co_law : PySem.W.codeIn K cd_law "law" = true)
    (k_law : PySem.W.keepIn K (.ref f_law) = true)
    (z_abs : PySem.W.nsIn K mainGlobals "abs" = some none)
    (z_all : PySem.W.nsIn K mainGlobals "all" = some none)
    (z_any : PySem.W.nsIn K mainGlobals "any" = some none)
    (z_bool : PySem.W.nsIn K mainGlobals "bool" = some none)
    (z_dict : PySem.W.nsIn K mainGlobals "dict" = some none)
    (z_int : PySem.W.nsIn K mainGlobals "int" = some none)
    (z_isinstance : PySem.W.nsIn K mainGlobals "isinstance" = some none)
    (z_len : PySem.W.nsIn K mainGlobals "len" = some none)
    (z_list : PySem.W.nsIn K mainGlobals "list" = some none)
    (z_range : PySem.W.nsIn K mainGlobals "range" = some none)
    (z_sorted : PySem.W.nsIn K mainGlobals "sorted" = some none)
    (z_tuple : PySem.W.nsIn K mainGlobals "tuple" = some none)
    (z_zip : PySem.W.nsIn K mainGlobals "zip" = some none)
    : Txt K mg ⟨c_Hold, c_NOUGHT, c_WHOLE, T_Hold___init__, T_Hold_put_stove⟩ :=
  ⟨PySem.W.mg_of X G y_Hold,
    PySem.W.mg_of X G y_NOUGHT,
    PySem.W.mg_of X G y_WHOLE,
    ⟨_, PySem.W.mg_of X G i_LEAST_MARKS⟩,
    ⟨_, PySem.W.mg_of X G i_MOST_BANDS⟩,
    ⟨_, PySem.W.mg_of X G i_MOST_BURNING⟩,
    ⟨_, PySem.W.mg_of X G i_MOST_CAP⟩,
    ⟨_, PySem.W.mg_of X G i_MOST_LOAD⟩,
    ⟨_, PySem.W.mg_of X G i_MOST_MARKS⟩,
    ⟨_, PySem.W.mg_of X G i_MOST_ROOMS⟩,
    ktup2 q_NOUGHT,
    ktup2 q_WHOLE,
    ⟨pg_Hold, hd_Hold, po_Hold, sa_Hold⟩,
    ⟨mk_Hold, kc_Hold⟩,
    na_Hold_most,
    na_Hold_cap,
    na_Hold_load,
    na_Hold_mark_rows,
    na_Hold_flows,
    na_Hold_skies,
    na_Hold_stoves,
    ⟨f_Hold___init__, _, ⟨at_Hold___init__, fn_Hold___init__, k_Hold___init__⟩, fund_mk (st := s_Hold___init__) l_Hold___init__ co_Hold___init__ k_Hold___init__⟩,
    ⟨_, _, _, t_Hold___init__, rfl, (.cons ⟨_, rfl⟩ (.cons ⟨_, rfl⟩ (.cons ⟨_, rfl⟩ .nil)))⟩,
    ⟨f_Hold_put_room, _, ⟨at_Hold_put_room, fn_Hold_put_room, k_Hold_put_room⟩, fund_mk (st := s_Hold_put_room) l_Hold_put_room co_Hold_put_room k_Hold_put_room⟩,
    ⟨f_Hold_put_flow, _, ⟨at_Hold_put_flow, fn_Hold_put_flow, k_Hold_put_flow⟩, fund_mk (st := s_Hold_put_flow) l_Hold_put_flow co_Hold_put_flow k_Hold_put_flow⟩,
    ⟨f_Hold_put_sky, _, ⟨at_Hold_put_sky, fn_Hold_put_sky, k_Hold_put_sky⟩, fund_mk (st := s_Hold_put_sky) l_Hold_put_sky co_Hold_put_sky k_Hold_put_sky⟩,
    ⟨f_Hold_put_stove, _, ⟨at_Hold_put_stove, fn_Hold_put_stove, k_Hold_put_stove⟩, fund_mk (st := s_Hold_put_stove) l_Hold_put_stove co_Hold_put_stove k_Hold_put_stove⟩,
    ⟨_, _, _, t_Hold_put_stove, rfl, (.cons ⟨_, rfl⟩ (.cons ⟨_, rfl⟩ (.cons ⟨_, rfl⟩ .nil)))⟩,
    ⟨f_Hold_many, _, ⟨at_Hold_many, fn_Hold_many, k_Hold_many⟩, fund_mk (st := s_Hold_many) l_Hold_many co_Hold_many k_Hold_many⟩,
    ⟨f_Hold_marks, _, ⟨at_Hold_marks, fn_Hold_marks, k_Hold_marks⟩, fund_mk (st := s_Hold_marks) l_Hold_marks co_Hold_marks k_Hold_marks⟩,
    ⟨f_Hold_share, _, ⟨at_Hold_share, fn_Hold_share, k_Hold_share⟩, fund_mk (st := s_Hold_share) l_Hold_share co_Hold_share k_Hold_share⟩,
    ⟨f_Hold_sky, _, ⟨at_Hold_sky, fn_Hold_sky, k_Hold_sky⟩, fund_mk (st := s_Hold_sky) l_Hold_sky co_Hold_sky k_Hold_sky⟩,
    ⟨f_Hold_stove, _, ⟨at_Hold_stove, fn_Hold_stove, k_Hold_stove⟩, fund_mk (st := s_Hold_stove) l_Hold_stove co_Hold_stove k_Hold_stove⟩,
    ⟨f_Hold_own_share, _, ⟨at_Hold_own_share, fn_Hold_own_share, k_Hold_own_share⟩, fund_mk (st := s_Hold_own_share) l_Hold_own_share co_Hold_own_share k_Hold_own_share⟩,
    ⟨f_Hold_look_for, _, ⟨at_Hold_look_for, fn_Hold_look_for, k_Hold_look_for⟩, fund_mk (st := s_Hold_look_for) l_Hold_look_for co_Hold_look_for k_Hold_look_for⟩,
    ⟨f_Hold_look_at_share, _, ⟨at_Hold_look_at_share, fn_Hold_look_at_share, k_Hold_look_at_share⟩, fund_mk (st := s_Hold_look_at_share) l_Hold_look_at_share co_Hold_look_at_share k_Hold_look_at_share⟩,
    ⟨f_wall, _, PySem.W.mg_of X G a_wall, fun_mk (st := s_wall) l_wall co_wall k_wall⟩,
    ⟨f_divisor, _, PySem.W.mg_of X G a_divisor, fun_mk (st := s_divisor) l_divisor co_divisor k_divisor⟩,
    ⟨f_fraction, _, PySem.W.mg_of X G a_fraction, fun_mk (st := s_fraction) l_fraction co_fraction k_fraction⟩,
    ⟨f_plus, _, PySem.W.mg_of X G a_plus, fun_mk (st := s_plus) l_plus co_plus k_plus⟩,
    ⟨f_minus, _, PySem.W.mg_of X G a_minus, fun_mk (st := s_minus) l_minus co_minus k_minus⟩,
    ⟨f_under, _, PySem.W.mg_of X G a_under, fun_mk (st := s_under) l_under co_under k_under⟩,
    ⟨f_is_whole_upto, _, PySem.W.mg_of X G a_is_whole_upto, fun_mk (st := s_is_whole_upto) l_is_whole_upto co_is_whole_upto k_is_whole_upto⟩,
    ⟨f_is_rising, _, PySem.W.mg_of X G a_is_rising, fun_mk (st := s_is_rising) l_is_rising co_is_rising k_is_rising⟩,
    ⟨f_bands_together, _, PySem.W.mg_of X G a_bands_together, fun_mk (st := s_bands_together) l_bands_together co_bands_together k_bands_together⟩,
    ⟨f_parts_of, _, PySem.W.mg_of X G a_parts_of, fun_mk (st := s_parts_of) l_parts_of co_parts_of k_parts_of⟩,
    ⟨f_part_of, _, PySem.W.mg_of X G a_part_of, fun_mk (st := s_part_of) l_part_of co_part_of k_part_of⟩,
    ⟨f_takes_or_gives, _, PySem.W.mg_of X G a_takes_or_gives, fun_mk (st := s_takes_or_gives) l_takes_or_gives co_takes_or_gives k_takes_or_gives⟩,
    ⟨f_law_cell_at, _, PySem.W.mg_of X G a_law_cell_at, fun_mk (st := s_law_cell_at) l_law_cell_at co_law_cell_at k_law_cell_at⟩,
    ⟨f_law_part, _, PySem.W.mg_of X G a_law_part, fun_mk (st := s_law_part) l_law_part co_law_part k_law_part⟩,
    ⟨f_law_share, _, PySem.W.mg_of X G a_law_share, fun_mk (st := s_law_share) l_law_share co_law_share k_law_share⟩,
    ⟨f_law_parts, _, PySem.W.mg_of X G a_law_parts, fun_mk (st := s_law_parts) l_law_parts co_law_parts k_law_parts⟩,
    ⟨f_law_right, _, PySem.W.mg_of X G a_law_right, fun_mk (st := s_law_right) l_law_right co_law_right k_law_right⟩,
    ⟨f_law, _, PySem.W.mg_of X G a_law, fun_mk (st := s_law) l_law co_law k_law⟩,
    PySem.W.mg_none_of X G z_abs,
    PySem.W.mg_none_of X G z_all,
    PySem.W.mg_none_of X G z_any,
    PySem.W.mg_none_of X G z_bool,
    PySem.W.mg_none_of X G z_dict,
    PySem.W.mg_none_of X G z_int,
    PySem.W.mg_none_of X G z_isinstance,
    PySem.W.mg_none_of X G z_len,
    PySem.W.mg_none_of X G z_list,
    PySem.W.mg_none_of X G z_range,
    PySem.W.mg_none_of X G z_sorted,
    PySem.W.mg_none_of X G z_tuple,
    PySem.W.mg_none_of X G z_zip⟩
section
variable {P : Program} {w : World} {K : PySem.W.Frag} {mg : Str → Option Value} {base : Heap} {Ad : Ads}
theorem ok_divisor (T : Txt K mg Ad) : Def P w K mg base "divisor" 1 ["one", "other"] sp_gcd := by
  refine T.d_divisor.def sc_divisor (fun vs H Q E h => ?_) (fun _ _ _ _ _ _ us hl => match us, hl with | [_, _], _ => rfl) (fun f cdv A outer s H vs Q E hr h => ?_)
  · obtain ⟨a, b, rfl, _⟩ := h
    rfl
  · obtain ⟨a, b, rfl, k⟩ := h
    refine ⟨_, (pss_cons (ps_set (i := 2) sc_divisor.nd rfl (by first | exact Or.inl rfl | exact Or.inr rfl) (pe_callB call_absL (by rfl) T.n_abs bt_abs (pa_cons (pv 0) pa_nil)))
      (pss_cons (ps_set (i := 3) sc_divisor.nd rfl (by first | exact Or.inl rfl | exact Or.inr rfl) (pe_callB call_absL (by rfl) T.n_abs bt_abs (pa_cons (pv 1) pa_nil)))
      (pss_cons (ps_while PassesOwn.never (pt_cmpR op_ne (pv 3) pe_int (nomark _)) (pss_cons (ps_set (i := 4) sc_divisor.nd rfl (by first | exact Or.inl rfl | exact Or.inr rfl) (pe_op op_modL (pv 2) (pv 3)))
      (pss_cons (ps_set (i := 2) sc_divisor.nd rfl (by first | exact Or.inl rfl | exact Or.inr rfl) (pv 3))
      (pss_one (ps_set (i := 3) sc_divisor.nd rfl (by first | exact Or.inl rfl | exact Or.inr rfl) (pv 4))))))
      (pss_one (ps_ret (pv 2)))))), ?_⟩
    refine ⟨_, rfl, _, rfl, fun g0 eg => ⟨_, rfl, _, rfl, fun l0 el => ?_⟩⟩
    refine ⟨fun m σ H' => H' = H ∧ ∃ (g l : Int) (r : Option V), σ = [some (.int a), some (.int b), some (.int g), some (.int l), r] ∧ 0 ≤ g ∧ 0 ≤ l ∧ m = l.toNat ∧ Int.gcd g l = Int.gcd a b,
      ⟨_, rfl, g0, l0, none, rfl, by omega, by omega, rfl, by rw [eg, el]; rfl⟩, ?_⟩
    rintro m σ H' ⟨rfl, g, l, r, rfl, hg, hl, rfl, e⟩
    refine ⟨_, rfl, rfl, _, rfl, ?_⟩
    refine ite4 (fun h => ?_) (fun h => ?_)
    · have l1 : 0 < l := by rw [int_inj] at h; omega
      refine ⟨fun σ' H'' => H'' = H' ∧ σ' = [some (.int a), some (.int b), some (.int l), some (.int (g % l)), some (.int (g % l))], fun σ' H'' ⟨e1, e2⟩ => ?_, ?_⟩
      · have m0 := Int.emod_nonneg g (by omega : l ≠ 0)
        have m1 := Int.emod_lt_of_pos g l1
        exact ⟨(g % l).toNat, by omega, e1, l, g % l, _, e2, hl, m0, rfl, (gstep hg l1).trans e⟩
      · refine ⟨_, rfl, _, rfl, _, _, rfl, rfl, l1, fun r _ _ er => ?_⟩
        subst er
        exact ⟨_, rfl, _, rfl, rfl, rfl⟩
    · have l1 : l = 0 := int_inj.mp h
      subst l1
      refine ⟨_, rfl, k g ?_⟩
      rw [← e, gend hg]
theorem ok_fraction (T : Txt K mg Ad) : Def P w K mg base "fraction" 2 ["top", "bottom"] sp_fraction := by
  refine T.d_fraction.def sc_fraction (fun vs H Q E h => ?_) (fun _ _ _ _ _ _ us hl => match us, hl with | [_, _], _ => rfl) (fun f cdv A outer s H vs Q E hr h => ?_)
  · obtain ⟨a, b, rfl, _⟩ := h
    rfl
  · obtain ⟨t, b, rfl, hb, bb, k⟩ := h
    refine ⟨_, (pss_cons (ps_if (pt_cmpR op_eq (pv 1) pe_int (nomark _)) (pss_one ps_never) pss_nil)
      (pss_cons (ps_set (i := 2) sc_fraction.nd rfl (by first | exact Or.inl rfl | exact Or.inr rfl) (pe_callD (ok_divisor T) (hr.mono (by decide)) (pa_cons (pv 0) (pa_cons (pv 1) pa_nil))))
      (pss_cons (ps_cut (ps_if (pt_cmpR op_lt (pv 1) pe_int (nomark _)) (pss_one (ps_set (i := 2) sc_fraction.nd rfl (by first | exact Or.inl rfl | exact Or.inr rfl) (pe_un un_neg (pv 2)))) pss_nil))
      (pss_one (ps_ret (pe_tup (pa_cons (pe_op op_fdivL (pv 0) (pv 2)) (pa_cons (pe_op op_fdivL (pv 1) (pv 2)) pa_nil)))))))), ?_⟩
    refine ⟨_, rfl, rfl, _, rfl, ?_⟩
    refine iteN (fun e => hb (int_inj.mp e)) ?_
    refine ⟨_, rfl, _, rfl, t, b, rfl, fun c ec => ?_⟩
    obtain ⟨c0, cl, fp, fn⟩ := fr_of hb ec
    have bc : Bd 8999 c := (bb.le (by omega)).mono (by decide)
    refine ⟨fun σ' H' => H' = H ∧ ∃ c', c' ≠ 0 ∧ Bd 8999 c' ∧ Fr t b (t.fdiv c') (b.fdiv c') ∧ σ' = [some (.int t), some (.int b), some (.int c')], ?_, ?_⟩
    · refine ⟨_, rfl, _, _, rfl, rfl, _, rfl, ?_⟩
      refine ite3 (fun h => ?_) (fun h => ?_)
      · exact ⟨_, rfl, _, rfl, rfl, -c, by omega, bc.neg, fn h, rfl⟩
      · exact ⟨rfl, c, by omega, bc, fp (by omega), rfl⟩
    · rintro σ' H' ⟨rfl, c', h1, h2, h3, rfl⟩
      refine ⟨_, rfl, _, rfl, _, _, rfl, rfl, ⟨h1, h2⟩, fun q eq => ⟨_, rfl, _, rfl, _, _, rfl, rfl, ⟨h1, h2⟩, fun r er => ⟨sz2, fun p hp => ?_⟩⟩⟩
      subst eq er
      exact k _ _ p _ h3 (same_upd hp) upd_same
theorem ok_plus (T : Txt K mg Ad) : Def P w K mg base "plus" 3 ["one", "other"] (sp_arith (fun a b c d => a * d + c * b) K) := by
  refine T.d_plus.def sc_plus (fun vs H Q E h => ?_) (fun _ _ _ _ _ _ us hl => match us, hl with | [_, _], _ => rfl) (fun f cdv A outer s H vs Q E hr h => ?_)
  · obtain ⟨p1, p2, a, b, c, d, rfl, _⟩ := h
    rfl
  · obtain ⟨p1, p2, a, b, c, d, rfl, h1, h2, b0, d0, ba, bb, bc, bd, k⟩ := h
    refine ⟨_, (pss_one (ps_ret (pe_callD (ok_fraction T) (hr.mono (by decide)) (pa_cons (pe_op op_addL (pe_op op_mulL (pe_ix ix_any (pv 0) pe_int (fun _ _ => rfl)) (pe_ix ix_any (pv 1) pe_int (fun _ _ => rfl))) (pe_op op_mulL (pe_ix ix_any (pv 1) pe_int (fun _ _ => rfl)) (pe_ix ix_any (pv 0) pe_int (fun _ _ => rfl)))) (pa_cons (pe_op op_mulL (pe_ix ix_any (pv 0) pe_int (fun _ _ => rfl)) (pe_ix ix_any (pv 1) pe_int (fun _ _ => rfl))) pa_nil))))), ?_⟩
    refine ⟨_, rfl, _, _, _, _, rfl, rfl, .inr h1, rfl, _, rfl, _, _, _, _, rfl, rfl, .inr h2, rfl, _, _, rfl, rfl, ⟨_, _, ba, bd, by decide⟩, fun x1 e1 => ?_⟩
    refine ⟨_, rfl, _, _, _, _, rfl, rfl, .inr h2, rfl, _, rfl, _, _, _, _, rfl, rfl, .inr h1, rfl, _, _, rfl, rfl, ⟨_, _, bc, bb, by decide⟩, fun x2 e2 => ⟨_, _, rfl, rfl, fun t et => ?_⟩⟩
    refine ⟨_, rfl, _, _, _, _, rfl, rfl, .inr h1, rfl, _, rfl, _, _, _, _, rfl, rfl, .inr h2, rfl, _, _, rfl, rfl, ⟨_, _, bb, bd, by decide⟩, fun u eu => ?_⟩
    subst e1 e2 et eu
    exact ⟨_, _, rfl, Int.ne_of_gt (Int.mul_pos b0 d0), (bb.mul bd).mono (by decide), k⟩
theorem ok_minus (T : Txt K mg Ad) : Def P w K mg base "minus" 3 ["one", "other"] (sp_arith (fun a b c d => a * d - c * b) K) := by
  refine T.d_minus.def sc_minus (fun vs H Q E h => ?_) (fun _ _ _ _ _ _ us hl => match us, hl with | [_, _], _ => rfl) (fun f cdv A outer s H vs Q E hr h => ?_)
  · obtain ⟨p1, p2, a, b, c, d, rfl, _⟩ := h
    rfl
  · obtain ⟨p1, p2, a, b, c, d, rfl, h1, h2, b0, d0, ba, bb, bc, bd, k⟩ := h
    refine ⟨_, (pss_one (ps_ret (pe_callD (ok_fraction T) (hr.mono (by decide)) (pa_cons (pe_op op_subL (pe_op op_mulL (pe_ix ix_any (pv 0) pe_int (fun _ _ => rfl)) (pe_ix ix_any (pv 1) pe_int (fun _ _ => rfl))) (pe_op op_mulL (pe_ix ix_any (pv 1) pe_int (fun _ _ => rfl)) (pe_ix ix_any (pv 0) pe_int (fun _ _ => rfl)))) (pa_cons (pe_op op_mulL (pe_ix ix_any (pv 0) pe_int (fun _ _ => rfl)) (pe_ix ix_any (pv 1) pe_int (fun _ _ => rfl))) pa_nil))))), ?_⟩
    refine ⟨_, rfl, _, _, _, _, rfl, rfl, .inr h1, rfl, _, rfl, _, _, _, _, rfl, rfl, .inr h2, rfl, _, _, rfl, rfl, ⟨_, _, ba, bd, by decide⟩, fun x1 e1 => ?_⟩
    refine ⟨_, rfl, _, _, _, _, rfl, rfl, .inr h2, rfl, _, rfl, _, _, _, _, rfl, rfl, .inr h1, rfl, _, _, rfl, rfl, ⟨_, _, bc, bb, by decide⟩, fun x2 e2 => ⟨_, _, rfl, rfl, fun t et => ?_⟩⟩
    refine ⟨_, rfl, _, _, _, _, rfl, rfl, .inr h1, rfl, _, rfl, _, _, _, _, rfl, rfl, .inr h2, rfl, _, _, rfl, rfl, ⟨_, _, bb, bd, by decide⟩, fun u eu => ?_⟩
    subst e1 e2 et eu
    exact ⟨_, _, rfl, Int.ne_of_gt (Int.mul_pos b0 d0), (bb.mul bd).mono (by decide), k⟩
theorem ok_under (T : Txt K mg Ad) : Def P w K mg base "under" 1 ["one", "other"] (sp_under K) := by
  refine T.d_under.def sc_under (fun vs H Q E h => ?_) (fun _ _ _ _ _ _ us hl => match us, hl with | [_, _], _ => rfl) (fun f cdv A outer s H vs Q E hr h => ?_)
  · obtain ⟨p1, p2, a, b, c, d, rfl, _⟩ := h
    rfl
  · obtain ⟨p1, p2, a, b, c, d, rfl, h1, h2, ba, bb, bc, bd, k⟩ := h
    refine ⟨_, (pss_one (ps_ret (pe_cmpR op_lt (pe_op op_mulL (pe_ix ix_any (pv 0) pe_int (fun _ _ => rfl)) (pe_ix ix_any (pv 1) pe_int (fun _ _ => rfl))) (pe_op op_mulL (pe_ix ix_any (pv 1) pe_int (fun _ _ => rfl)) (pe_ix ix_any (pv 0) pe_int (fun _ _ => rfl))) (nomark _)))), ?_⟩
    refine ⟨_, rfl, _, _, _, _, rfl, rfl, .inr h1, rfl, _, rfl, _, _, _, _, rfl, rfl, .inr h2, rfl, _, _, rfl, rfl, ⟨_, _, ba, bd, by decide⟩, fun x1 e1 => ?_⟩
    refine ⟨_, rfl, _, _, _, _, rfl, rfl, .inr h2, rfl, _, rfl, _, _, _, _, rfl, rfl, .inr h1, rfl, _, _, rfl, rfl, ⟨_, _, bc, bb, by decide⟩, fun x2 e2 => ⟨_, _, rfl, rfl, ?_⟩⟩
    subst e1 e2
    exact k

theorem ok_is_whole_upto (T : Txt K mg Ad) : Def P w K mg base "is_whole_upto" 1 ["thing", "greatest"] sp_upto := by
  refine T.d_is_whole_upto.def sc_is_whole_upto (fun vs H Q E h => ?_) (fun _ _ _ _ _ _ us hl => match us, hl with | [_, _], _ => rfl) (fun f cdv A outer s H vs Q E hr h => ?_)
  · obtain ⟨n, g, rfl, _⟩ := h
    rfl
  · obtain ⟨n, g, rfl, k⟩ := h
    refine ⟨_, (pss_cons (ps_if (PW.pt (pw_or (pt_val (pe_callB call_isinst (by rfl) T.n_isinstance bt_isinstance (pa_cons (pv 0) (pa_cons (pe_bltn (v := V.ty "bool") rfl T.n_bool bt_bool rfl) pa_nil)))) (pw_or1 (pt_not (pt_val (pe_callB call_isinst (by rfl) T.n_isinstance bt_isinstance (pa_cons (pv 0) (pa_cons (pe_bltn (v := V.ty "int") rfl T.n_int bt_int rfl) pa_nil)))))))) (pss_one (ps_ret pe_bl)) pss_nil)
      (pss_one (ps_ret (pe_chain op_le op_le pe_int (pv 0) (pv 1))))), ?_⟩
    refine ⟨_, rfl, _, _, _, _, _, rfl, .int n, rfl, kit_int_bool K, _, rfl, iteF ⟨_, rfl, _, _, _, _, _, rfl, .int n, rfl, rfl, _, rfl, iteF ?_⟩⟩
    refine ⟨_, rfl, _, _, rfl, rfl, _, rfl, ?_⟩
    by_cases h0 : (0 : Int) ≤ n
    · refine iteP h0 ⟨_, rfl, _, _, rfl, rfl, ?_⟩
      have : decide (n ≤ g) = decide (0 ≤ n ∧ n ≤ g) := decide_eq_decide.mpr ⟨fun h => ⟨h0, h⟩, fun h => h.2⟩
      show Q (V.bl (decide (n ≤ g))) H
      rw [this]
      exact k
    · refine iteN h0 ?_
      have : decide (0 ≤ n ∧ n ≤ g) = false := decide_eq_false fun h => h0 h.1
      rw [this] at k
      exact k
theorem okm_Hold_many (T : Txt K mg Ad) : MDef P w K mg base Ad.Hold "many" 1 ["self"] [] (sp_many K Ad.Hold) := by
  refine T.e_Hold_many.mdef sc_Hold_many (fun vs H Q E h => ?_) (fun _ _ _ _ _ _ us hl => match us, hl with | [_], _ => rfl) (fun f cdv A outer s H vs Q E hr h => ?_)
  · obtain ⟨a, fp, m, rfl, _⟩ := h
    rfl
  · obtain ⟨a, fp, m, rfl, hh, k⟩ := h
    refine ⟨_, (pss_one (ps_ret (pe_callB call_lenL (by rfl) T.n_len bt_len (pa_cons (pe_fld (pv 0) rfl) pa_nil)))), ?_⟩
    obtain ⟨⟨dx, pm, pf, ps, pt, vm, vs, vt, kvs, rfl, ha, hdx, hpm, hpf, hps, hpt, n1, n2, n3, dm, ds, dt, df, fk⟩, q1, q2, q3, q4⟩ := hh
    refine ⟨_, rfl, a, _, dx, _, _, rfl, ha, T.cl_Hold, T.na_Hold_mark_rows, hfs_rows .., _, _, rfl, .inl (SqL.of hpm), fun n en => ?_⟩
    have e : n = (m.rows.length : Int) := by rw [en, dm.length, List.length_map]
    rw [e]
    exact k
theorem okm_Hold_look_for (T : Txt K mg Ad) : MDef P w K mg base Ad.Hold "look_for" 3 ["self", "room"] [] (sp_look_for K Ad.Hold) := by
  refine T.e_Hold_look_for.mdef sc_Hold_look_for (fun vs H Q E h => ?_) (fun _ _ _ _ _ _ us hl => match us, hl with | [_, _], _ => rfl) (fun f cdv A outer s H vs Q E hr h => ?_)
  · obtain ⟨a, fp, m, i, rfl, _⟩ := h
    rfl
  · obtain ⟨a, fp, m, i, rfl, hh, hi, k⟩ := h
    refine ⟨_, (pss_one (ps_if (pt_not (pt_chain op_le op_lt pe_int (pv 1) (pe_methD0 (pv 0) T.cl_Hold (okm_Hold_many T) .nil (hr.mono (by decide))))) (pss_one ps_never) pss_nil)), ?_⟩
    obtain ⟨⟨dx, pm, pf, ps, pt, vm, vs, vt, kvs, efp, ha, _⟩, _⟩ := id hh
    refine ⟨_, rfl, _, _, rfl, rfl, _, rfl, iteP (by omega) ⟨_, rfl, a, dx, _, rfl, ha, rfl, a, fp, m, rfl, hh, _, _, rfl, rfl, _, rfl, ?_⟩⟩
    exact iteNS (by omega) k
theorem okm_Hold_marks (T : Txt K mg Ad) : MDef P w K mg base Ad.Hold "marks" 4 ["self", "room"] [] (sp_marks K Ad.Hold) := by
  refine T.e_Hold_marks.mdef sc_Hold_marks (fun vs H Q E h => ?_) (fun _ _ _ _ _ _ us hl => match us, hl with | [_, _], _ => rfl) (fun f cdv A outer s H vs Q E hr h => ?_)
  · obtain ⟨a, fp, m, i, z, rfl, _⟩ := h
    rfl
  · obtain ⟨a, fp, m, i, r, rfl, hh, hz, k⟩ := h
    refine ⟨_, (pss_cons (ps_expr (pe_methD (pv 0) T.cl_Hold (okm_Hold_look_for T) .nil (hr.mono (by decide)) (pa_cons (pv 1) pa_nil)))
      (pss_one (ps_ret (pe_callTy call_list_of (by rfl) T.n_list bt_list (pa_cons (pe_ix ix_any (pe_fld (pv 0) rfl) (pv 1) (fun _ _ => rfl)) pa_nil))))), ?_⟩
    obtain ⟨⟨dx, pm, pf, ps, pt, vm, vs, vt, kvs, efp, ha, hdx, hpm, hpf, hps, hpt, n1, n2, n3, dm, ds, dt, df, fk⟩, q1, q2, q3, q4⟩ := id hh
    have hi : i < m.rows.length := (List.getElem?_eq_some_iff.mp hz).1
    obtain ⟨v, ev, b, xs, rfl, hq, dv⟩ := dm.get (i := i) (d := rowD r) (by rw [List.getElem?_map, hz]; rfl)
    refine ⟨_, rfl, a, dx, _, rfl, ha, rfl, _, rfl, a, fp, m, i, rfl, hh, hi, ?_⟩
    exact ⟨_, rfl, a, _, dx, _, _, rfl, ha, T.cl_Hold, T.na_Hold_mark_rows, hfs_rows .., _, rfl, _, _, _, _, rfl, rfl, .inl (SqL.of hpm), atI_natI ev, b, xs, rfl, .inr hq, fun p hp => k p xs hp dv⟩
theorem okm_Hold_own_share (T : Txt K mg Ad) : MDef P w K mg base Ad.Hold "own_share" 4 ["self", "room"] [] (sp_own K Ad.Hold) := by
  refine T.e_Hold_own_share.mdef sc_Hold_own_share (fun vs H Q E h => ?_) (fun _ _ _ _ _ _ us hl => match us, hl with | [_, _], _ => rfl) (fun f cdv A outer s H vs Q E hr h => ?_)
  · obtain ⟨a, fp, m, i, rfl, _⟩ := h
    rfl
  · obtain ⟨a, fp, m, i, rfl, hh, hi, k⟩ := h
    refine ⟨_, (pss_cons (ps_set (i := 2) sc_Hold_own_share.nd rfl (by first | exact Or.inl rfl | exact Or.inr rfl) (pe_callD (ok_minus T) (hr.mono (by decide)) (pa_cons (pe_glob (v := V.ref _) rfl T.m_WHOLE rfl) (pa_cons (pe_ix ix_any (pe_ix ix_any (pe_fld (pv 0) rfl) (pv 1) (fun _ _ => rfl)) pe_int (fun _ _ => rfl)) pa_nil))))
      (pss_cons (ps_for PassesOwn.never rfl (pi_range1 rfl T.n_range (pa_cons (pe_methD0 (pv 0) T.cl_Hold (okm_Hold_many T) .nil (hr.mono (by decide))) pa_nil)) (pg_name (i := 3) sc_Hold_own_share.nd rfl (by first | exact Or.inl rfl | exact Or.inr rfl)) (pss_one (ps_set (i := 2) sc_Hold_own_share.nd rfl (by first | exact Or.inl rfl | exact Or.inr rfl) (pe_callD (ok_minus T) (hr.mono (by decide)) (pa_cons (pv 2) (pa_cons (pe_dget2 (hu_of hr) (pe_fld (pv 0) rfl) (pe_tup (pa_cons (pv 1) (pa_cons (pv 3) pa_nil))) (pe_glob (v := V.ref _) rfl T.m_NOUGHT rfl) ⟨rfl, rfl, rfl, rfl⟩) pa_nil))))))
      (pss_one (ps_ret (pv 2))))), ?_⟩
    obtain ⟨⟨dx, pm, pf, ps, pt, vm, vs, vt, kvs, efp, ha, hdx, hpm, hpf, hps, hpt, n1, n2, n3, dm, ds, dt, df, fk⟩, q1, q2, q3, q4⟩ := id hh
    have hi1 : i < m.skies.length := by rw [q1]; exact hi
    have hz := get_nat hi1
    obtain ⟨v, ev, dv⟩ := ds.get (i := i) (d := skyD m.skies[i]) (by rw [List.getElem?_map, hz]; rfl)
    obtain ⟨p0, v1, v2, v3, rfl, hq0, d1, d2, d3⟩ := dv.sky
    obtain ⟨p1, rfl, hq1⟩ := d1.fr
    have es : m.skies[i].1 = m.skyS i := by unfold HoldM.skyS; rw [hz]; rfl
    have o1 : OkF 100 m.skies[i].1 := es ▸ q4.skyS i
    refine ⟨_, rfl, a, _, dx, _, _, rfl, ha, T.cl_Hold, T.na_Hold_skies, hfs_skies .., _, rfl, _, _, _, _, rfl, rfl, .inl (SqL.of hps), atI_natI ev, _, _, _, _, rfl, rfl, .inr hq0, rfl, ?_⟩
    refine ⟨Ad.WHOLE, p1, 1, 1, _, _, rfl, T.q_WHOLE.at H, hq1, by decide, o1.p, bdd, bdd, o1.t.mono (by decide), o1.b.mono (by decide), fun q r u H1 F s1 hu => ?_⟩
    have e0 : (q, r) = m.ownTo i 0 := by
      have := F.nf (Int.mul_pos (by decide) o1.p)
      rw [this]
      unfold HoldM.ownTo minusM
      rw [← es]; rfl
    refine ⟨_, rfl, a, dx, _, rfl, s1 _ _ ha, rfl, a, fp, m, rfl, HoldAt.same s1 hh, _, rfl, by omega, by omega, ?_⟩
    refine for_range (lo := 0) (n := m.rows.length) (fun j σ H' => Same H H' ∧ ∃ (u : Addr) (x : Option V), H' u = some (.tup [.int (m.ownTo i j).1, .int (m.ownTo i j).2]) ∧ σ = [some (.ref a), some (natV i), some (.ref u), x])
      ⟨s1, u, none, by rw [← e0]; exact hu, rfl⟩ ?_ ?_
    · rintro j σ H2 hj ⟨s2, u, x, hu, rfl⟩
      have oj := (q4.ownTo i j).mono (show 201 + 101 * j ≤ 1000 by omega)
      obtain ⟨of, ot⟩ : True ∧ True := ⟨trivial, trivial⟩
      refine ⟨_, rfl, _, rfl, a, _, dx, _, _, rfl, s2 _ _ ha, T.cl_Hold, T.na_Hold_flows, hfs_flows .., _, rfl, .inr ⟨_, .inl (s2 _ _ hpf)⟩, _, rfl, _, rfl, sz2, fun kp hkp => ?_⟩
      have s3 := same_upd (o := .tup [natV i, .int (0 + (j : Int))]) hkp
      have hkey : (upd H2 kp (.tup [natV i, .int (0 + (j : Int))])) kp = some (.tup ((fkey i j).map kV)) := by rw [upd_same, Int.zero_add]; rfl
      refine ⟨_, DGet.t (s3 _ _ (s2 _ _ hpf)) hkey, ?_⟩
      have dfl : Dn K (upd H2 kp (.tup [natV i, .int (0 + (j : Int))])) (frD (m.flow i j)) ((valV kvs (fkey i j)).getD (.ref Ad.NOUGHT)) := by
        have := (HoldAt.same (s2.trans s3) hh).ex
        have q := df i j
        refine Dn.same (s2.trans s3) _ (flow_at q (T.q_NOUGHT.fr (f := (0, 1))))
      obtain ⟨pf1, ef1, hf1⟩ := dfl.fr
      have okf := q4.flow i j
      rw [ef1]
      refine ⟨u, pf1, _, _, _, _, rfl, SqT.of (s3 _ _ hu), hf1, oj.p, okf.p, oj.t, oj.b, okf.t.mono (by decide), okf.b.mono (by decide), fun q r u' H4 F s4 hu' => ?_⟩
      refine ⟨s2.trans (s3.trans s4), u', _, ?_, rfl⟩
      have := F.nf (Int.mul_pos oj.p okf.p)
      rw [hu', HoldM.ownTo_succ]
      unfold minusM
      rw [← this]
    · rintro σ H2 ⟨s2, u, x, hu, rfl⟩
      exact ⟨_, rfl, k _ H2 s2 (dn_fr (SqT.of hu))⟩
theorem okm_Hold_share (T : Txt K mg Ad) : MDef P w K mg base Ad.Hold "share" 5 ["self", "into", "of"] [] (sp_share K Ad.Hold) := by
  refine T.e_Hold_share.mdef sc_Hold_share (fun vs H Q E h => ?_) (fun _ _ _ _ _ _ us hl => match us, hl with | [_, _, _], _ => rfl) (fun f cdv A outer s H vs Q E hr h => ?_)
  · obtain ⟨a, fp, m, i, j, rfl, _⟩ := h
    rfl
  · obtain ⟨a, fp, m, i, j, rfl, hh, hi, hj, k⟩ := h
    refine ⟨_, (pss_cons (ps_expr (pe_methD (pv 0) T.cl_Hold (okm_Hold_look_for T) .nil (hr.mono (by decide)) (pa_cons (pv 1) pa_nil)))
      (pss_cons (ps_expr (pe_methD (pv 0) T.cl_Hold (okm_Hold_look_for T) .nil (hr.mono (by decide)) (pa_cons (pv 2) pa_nil)))
      (pss_cons (ps_if (pt_cmpR op_eq (pv 1) (pv 2) (nomark _)) (pss_one (ps_ret (pe_methD (pv 0) T.cl_Hold (okm_Hold_own_share T) .nil (hr.mono (by decide)) (pa_cons (pv 1) pa_nil)))) pss_nil)
      (pss_one (ps_ret (pe_dget2 (hu_of hr) (pe_fld (pv 0) rfl) (pe_tup (pa_cons (pv 1) (pa_cons (pv 2) pa_nil))) (pe_glob (v := V.ref _) rfl T.m_NOUGHT rfl) ⟨rfl, rfl, rfl, rfl⟩)))))), ?_⟩
    obtain ⟨⟨dx, pm, pf, ps, pt, vm, vs, vt, kvs, efp, ha, hdx, hpm, hpf, hps, hpt, n1, n2, n3, dm, ds, dt, df, fk⟩, q1, q2, q3, q4⟩ := id hh
    refine ⟨_, rfl, a, dx, _, rfl, ha, rfl, _, rfl, a, fp, m, i, rfl, hh, hi, ⟨_, rfl, a, dx, _, rfl, ha, rfl, _, rfl, a, fp, m, j, rfl, hh, hj, ?_⟩⟩
    refine ⟨_, rfl, _, rfl, rfl, _, rfl, ?_⟩
    by_cases hij : i = j
    · subst hij
      refine iteP rfl ⟨_, rfl, a, dx, _, rfl, ha, rfl, _, rfl, a, fp, m, i, rfl, hh, hi, fun v H' s' dv => k v H' s' ?_⟩
      rw [HoldM.share, if_pos rfl]; exact dv
    · refine iteN (fun e => hij (by have := int_inj.mp e; omega)) ?_
      refine ⟨_, rfl, a, _, dx, _, _, rfl, ha, T.cl_Hold, T.na_Hold_flows, hfs_flows .., _, rfl, .inr ⟨_, .inl hpf⟩, _, rfl, _, rfl, sz2, fun kp hkp => ?_⟩
      have s3 := same_upd (o := .tup [natV i, natV j]) hkp
      have hkey : (upd H kp (.tup [natV i, natV j])) kp = some (.tup ((fkey i j).map kV)) := by rw [upd_same]; rfl
      refine ⟨_, DGet.t (s3 _ _ hpf) hkey, k _ _ s3 ?_⟩
      rw [HoldM.share, if_neg hij]
      exact Dn.same s3 _ (flow_at (df i j) (T.q_NOUGHT.fr (f := (0, 1))))
theorem okm_Hold_look_at_share (T : Txt K mg Ad) : MDef P w K mg base Ad.Hold "look_at_share" 5 ["self", "room", "share", "former"] [] (sp_fits K Ad.Hold) := by
  refine T.e_Hold_look_at_share.mdef sc_Hold_look_at_share (fun vs H Q E h => ?_) (fun _ _ _ _ _ _ us hl => match us, hl with | [_, _, _, _], _ => rfl) (fun f cdv A outer s H vs Q E hr h => ?_)
  · obtain ⟨a, fp, m, i, v1, v2, f, g, rfl, _⟩ := h
    rfl
  · obtain ⟨a, fp, m, i, v1, v2, f, g, rfl, hh, hi, d1, d2, o1, o2, hf, hu, k⟩ := h
    refine ⟨_, (pss_cons (ps_set (i := 4) sc_Hold_look_at_share.nd rfl (by first | exact Or.inl rfl | exact Or.inr rfl) (pe_callD (ok_plus T) (hr.mono (by decide)) (pa_cons (pe_methD (pv 0) T.cl_Hold (okm_Hold_own_share T) .nil (hr.mono (by decide)) (pa_cons (pv 1) pa_nil)) (pa_cons (pv 3) pa_nil))))
      (pss_one (ps_if (PW.pt (pw_or (pt_val (pe_callD (ok_under T) (hr.mono (by decide)) (pa_cons (pv 2) (pa_cons (pe_glob (v := V.ref _) rfl T.m_NOUGHT rfl) pa_nil)))) (pw_or1 (pt_val (pe_callD (ok_under T) (hr.mono (by decide)) (pa_cons (pv 4) (pa_cons (pv 2) pa_nil))))))) (pss_one ps_never) pss_nil))), ?_⟩
    obtain ⟨⟨dx, pm, pf, ps, pt, vm, vs, vt, kvs, efp, ha, hdx, hpm, hpf, hps, hpt, n1, n2, n3, dm, ds, dt, df, fk⟩, q1, q2, q3, q4⟩ := id hh
    obtain ⟨p1, rfl, hp1⟩ := d1.fr
    obtain ⟨p2, rfl, hp2⟩ := d2.fr
    refine ⟨_, rfl, a, dx, _, rfl, ha, rfl, _, rfl, a, fp, m, i, rfl, hh, hi, fun v H1 s1 dv => ⟨_, rfl, ?_⟩⟩
    obtain ⟨p3, rfl, hp3⟩ := dv.fr
    have oo : OkF 800 (m.own i) := (q4.ownTo i _).mono (by omega)
    refine ⟨p3, p2, _, _, _, _, rfl, hp3, s1.tup hp2, oo.p, o2.p, oo.t.mono (by decide), oo.b.mono (by decide), o2.t.mono (by decide), o2.b.mono (by decide), fun q r u H2 F s2 hu2 => ?_⟩
    have e0 : (q, r) = plusM (m.own i) g := F.nf (Int.mul_pos oo.p o2.p)
    have op : OkF 950 (plusM (m.own i) g) := (oo.plus o2).mono (by decide)
    rw [← e0] at op hu
    refine ⟨_, rfl, p1, Ad.NOUGHT, _, _, _, _, rfl, s2.tup (s1.tup hp1), T.q_NOUGHT.at _, o1.t.mono (by decide), o1.b.mono (by decide), bdd, bdd, _, rfl, iteN (by omega) ?_⟩
    refine ⟨_, rfl, _, rfl, u, p1, _, _, _, _, rfl, SqT.of hu2, s2.tup (s1.tup hp1), op.t.mono (by decide), op.b.mono (by decide), o1.t.mono (by decide), o1.b.mono (by decide), _, rfl, iteN (of_decide_eq_false hu) (k _ (s1.trans s2))⟩
theorem okm_Hold_put_flow (T : Txt K mg Ad) : MDef P w K mg base Ad.Hold "put_flow" 6 ["self", "into", "of", "share"] [] (sp_put_flow K Ad.Hold) := by
  refine T.e_Hold_put_flow.mdef sc_Hold_put_flow (fun vs H Q E h => ?_) (fun _ _ _ _ _ _ us hl => match us, hl with | [_, _, _, _], _ => rfl) (fun f cdv A outer s H vs Q E hr h => ?_)
  · obtain ⟨a, fp, m, i, j, v, f, rfl, _⟩ := h
    rfl
  · obtain ⟨a, fp, m, i, j, v, f, rfl, hh, hi, hj, hij, dv, o1, hf, hu, k⟩ := h
    refine ⟨_, (pss_cons (ps_expr (pe_methD (pv 0) T.cl_Hold (okm_Hold_look_for T) .nil (hr.mono (by decide)) (pa_cons (pv 1) pa_nil)))
      (pss_cons (ps_expr (pe_methD (pv 0) T.cl_Hold (okm_Hold_look_for T) .nil (hr.mono (by decide)) (pa_cons (pv 2) pa_nil)))
      (pss_cons (ps_if (pt_cmpR op_eq (pv 1) (pv 2) (nomark _)) (pss_one ps_never) pss_nil)
      (pss_cons (ps_expr (pe_methD (pv 0) T.cl_Hold (okm_Hold_look_at_share T) .nil (hr.mono (by decide)) (pa_cons (pv 1) (pa_cons (pv 3) (pa_cons (pe_methD (pv 0) T.cl_Hold (okm_Hold_share T) .nil (hr.mono (by decide)) (pa_cons (pv 1) (pa_cons (pv 2) pa_nil))) pa_nil)))))
      (pss_one (ps_dput (hu_of hr) (pe_fld (pv 0) rfl) (pe_tup (pa_cons (pv 1) (pa_cons (pv 2) pa_nil))) (pv 3) rfl)))))), ?_⟩
    obtain ⟨⟨dx, pm, pf, ps, pt, vm, vs, vt, kvs, efp, ha, hdx, hpm, hpf, hps, hpt, n1, n2, n3, dm, ds, dt, df, fk⟩, q1, q2, q3, q4⟩ := id hh
    refine ⟨_, rfl, a, dx, _, rfl, ha, rfl, _, rfl, a, fp, m, i, rfl, hh, hi, ⟨_, rfl, a, dx, _, rfl, ha, rfl, _, rfl, a, fp, m, j, rfl, hh, hj, ?_⟩⟩
    refine ⟨_, rfl, _, rfl, rfl, _, rfl, iteN (fun e => hij (by have := int_inj.mp e; omega)) ?_⟩
    refine ⟨_, rfl, a, dx, _, rfl, ha, rfl, _, rfl, _, rfl, _, rfl, a, dx, _, rfl, ha, rfl, _, rfl, _, rfl, a, fp, m, i, j, rfl, hh, hi, hj, fun z H1 s1 dz => ?_⟩
    rw [HoldM.share, if_neg hij] at dz
    refine ⟨a, fp, m, i, v, z, f, _, rfl, hh.same s1, hi, Dn.same s1 _ dv, dz, o1, q4.flow i j, hf, hu, fun H2 s2 => ?_⟩
    have s12 := s1.trans s2
    refine ⟨_, rfl, _, rfl, a, _, dx, _, _, rfl, s12 _ _ ha, T.cl_Hold, T.na_Hold_flows, hfs_flows .., _, rfl, _, rfl, sz2, fun kp hkp => ?_⟩
    have s3 := same_upd (o := .tup [natV i, natV j]) hkp
    have hkey : (upd H2 kp (.tup [natV i, natV j])) kp = some (.tup ((fkey i j).map kV)) := by rw [upd_same]; rfl
    have sA := s12.trans s3
    refine ⟨_, _, rfl, DPut.t (sA _ _ hpf) hkey (Nat.lt_of_le_of_lt fk.len (by decide)), k _ fp (deed_flow hh sA ha hpf (by omega) (by omega) (Dn.same sA _ dv) o1)⟩
theorem ok_bands_together (T : Txt K mg Ad) : Def P w K mg base "bands_together" 1 ["rows"] (sp_bands K) := by
  refine T.d_bands_together.def sc_bands_together (fun vs H Q E h => ?_) (fun _ _ _ _ _ _ us hl => match us, hl with | [_], _ => rfl) (fun f cdv A outer s H vs Q E hr h => ?_)
  · obtain ⟨p, xs, rs, rfl, _⟩ := h
    rfl
  · obtain ⟨p, xs, rs, rfl, hq, hd, hl, hr2, k⟩ := h
    refine ⟨_, (pss_cons (ps_set (i := 1) sc_bands_together.nd rfl (by first | exact Or.inl rfl | exact Or.inr rfl) pe_int)
      (pss_cons (ps_for PassesOwn.never rfl (pi_list (pv 0)) (pg_name (i := 2) sc_bands_together.nd rfl (by first | exact Or.inl rfl | exact Or.inr rfl)) (pss_one (ps_set (i := 1) sc_bands_together.nd rfl (by first | exact Or.inl rfl | exact Or.inr rfl) (pe_op op_mulL (pv 1) (pe_op op_subL (pe_callB call_lenL (by rfl) T.n_len bt_len (pa_cons (pv 2) pa_nil)) pe_int)))))
      (pss_one (ps_ret (pv 1))))), ?_⟩
    have hxl : xs.length = rs.length := by rw [hd.length, List.length_map]
    refine ⟨_, rfl, p, rfl, ⟨xs, hq⟩, ?_⟩
    refine for_list (xs := xs) (fun i σ H' => H' = H ∧ ∃ x : Option V, Bd (1 + 3 * i) (bandsM (rs.take i)) ∧ σ = [some (.ref p), some (.int (bandsM (rs.take i))), x]) ⟨rfl, none, (by show Bd 1 (bandsM []); exact bdd), rfl⟩ (fun i σ H' _ e => by rw [e.1]; exact hq) ?_ ?_
    · rintro i x σ H' hx ⟨rfl, y, hb, rfl⟩
      have hi : i < rs.length := by rw [← hxl]; exact (List.getElem?_eq_some_iff.mp hx).1
      obtain ⟨v, ev, b, ys, rfl, hq2, dv⟩ := hd.get (i := i) (d := rowD rs[i]) (by rw [List.getElem?_map, get_nat hi]; rfl)
      obtain rfl : x = .ref b := Option.some.inj (hx.symm.trans ev)
      have hlen := hr2 rs[i] (List.getElem_mem hi)
      have el : ys.length = rs[i].length := by rw [dv.length, List.length_map]
      refine ⟨_, rfl, _, rfl, _, _, rfl, .inr hq2, fun n en => ⟨_, _, rfl, rfl, fun u eu => ⟨_, _, rfl, rfl, ?_, fun z ez => ?_⟩⟩⟩
      · exact ⟨_, 3, hb, (show u.natAbs < 2 ^ 3 by omega), (show 1 + 3 * i + 3 ≤ _ by omega)⟩
      · have e1 : z = bandsM (rs.take (i + 1)) := by
          rw [ez, eu, en, el]
          unfold bandsM
          rw [List.take_succ, get_nat hi, List.foldl_append]; rfl
        refine ⟨rfl, _, ?_, by rw [← e1]; rfl⟩
        rw [← e1, ez]
        exact (hb.mul (show u.natAbs < 2 ^ 3 by omega)).mono (by omega)
    · rintro σ H' ⟨rfl, y, hb, rfl⟩
      refine ⟨_, rfl, ?_⟩
      rw [hxl, List.take_length]
      exact k
theorem ok_is_rising (T : Txt K mg Ad) : Def P w K mg base "is_rising" 2 ["marks"] (sp_rising K) := by
  refine T.d_is_rising.def sc_is_rising (fun vs H Q E h => ?_) (fun _ _ _ _ _ _ us hl => match us, hl with | [_], _ => rfl) (fun f cdv A outer s H vs Q E hr h => ?_)
  · obtain ⟨p, xs, r, rfl, _⟩ := h
    rfl
  · obtain ⟨p, xs, r, rfl, hq, hd, ho, hl, k⟩ := h
    refine ⟨_, (pss_one (ps_ret (pe_callB (call_allB rfl) (by rfl) T.n_all bt_all (pa_cons (pe_lc ["low", "high"] [] [] .nil rfl (pi_zip rfl T.n_zip (pa_cons (pv 0) (pa_cons (pe_slice sl_list (pv 0) (po_some pe_int) po_none) pa_nil))) (fun _ _ _ _ _ => (pg_tupK (K := K) (n := 2) rfl rfl (pgs_cons (pg_name (i := 0) (show (["low", "high"] : List Str).Nodup by decide +kernel) rfl (by first | exact Or.inl rfl | exact Or.inr rfl)) (pgs_cons (pg_name (i := 1) (show (["low", "high"] : List Str).Nodup by decide +kernel) rfl (by first | exact Or.inl rfl | exact Or.inr rfl)) pgs_nil)))) (fun _ _ _ _ _ => pif_nil) (fun _ _ _ _ _ => (pe_callD (ok_under T) (hr.mono (by decide)) (pa_cons (pv 0) (pa_cons (pv 1) pa_nil)))) rfl (by decide +kernel) (by decide +kernel) (by decide +kernel)) pa_nil)))), ?_⟩
    refine ⟨_, rfl, _, rfl, 1, rfl, p, xs, rfl, hq, fun p2 hp2 => ?_⟩
    have s2 := same_upd (o := .lst (cutV xs (some 1) none)) hp2
    rw [cut_tail] at s2 ⊢
    have hxl : xs.length = r.length := by rw [hd.length, List.length_map]
    refine ⟨p, p2, rfl, ⟨xs, s2.seq hq⟩, ⟨xs.tail, SqL.of upd_same⟩, fun D hD => ?_⟩
    have hml : min xs.length xs.tail.length = (List.zipWith underM r r.tail).length := by rw [List.length_zipWith, List.length_tail, List.length_tail, hxl]
    refine comp_zip (K := K) (a := p) (b := p2) (xs := xs) (ys := xs.tail) (fun i acc σ H' => Same (upd H p2 (.lst xs.tail)) H' ∧ H' D = some (.lst acc) ∧ acc = ((List.zipWith underM r r.tail).take i).map V.bl ∧ ∃ v0 v1, σ = [v0, v1])
      ⟨same_upd hD, upd_same, rfl, none, none, rfl⟩ (fun i acc σ H' _ e => ⟨e.1.seq (s2.seq hq), e.1.seq (SqL.of upd_same)⟩) ?_ ?_
    · rintro i x y pp acc σ H' hx hy hpp ⟨s3, hD3, rfl, v0, v1, rfl⟩
      rw [List.getElem?_tail] at hy
      have h1 : i + 1 < r.length := by rw [← hxl]; exact (List.getElem?_eq_some_iff.mp hy).1
      obtain ⟨u, eu, du⟩ := hd.get (i := i) (d := frD r[i]) (by rw [List.getElem?_map, get_nat (by omega)]; rfl)
      obtain rfl : x = u := Option.some.inj (hx.symm.trans eu)
      obtain ⟨v, ev, dv⟩ := hd.get (i := i + 1) (d := frD r[i + 1]) (by rw [List.getElem?_map, get_nat h1]; rfl)
      obtain rfl : y = v := Option.some.inj (hy.symm.trans ev)
      obtain ⟨a1, rfl, g1⟩ := du.fr
      obtain ⟨a2, rfl, g2⟩ := dv.fr
      have o1 := ho r[i] (List.getElem_mem _)
      have o2 := ho r[i + 1] (List.getElem_mem _)
      have s4 : Same H' (upd H' pp (.tup [.ref a1, .ref a2])) := same_upd hpp
      have s5 := s2.trans (s3.trans s4)
      have nD : D ≠ pp := ne_of_none hD3 hpp
      refine ⟨pp, _, rfl, SqT.of upd_same, rfl, _, _, rfl, _, _, rfl, rfl, ?_⟩
      refine ⟨_, rfl, _, rfl, a1, a2, _, _, _, _, rfl, s5.tup g1, s5.tup g2, o1.t.mono (by decide), o1.b.mono (by decide), o2.t.mono (by decide), o2.b.mono (by decide), ?_⟩
      have hb := rising_get (get_nat (show i < r.length by omega)) (get_nat h1)
      refine ⟨by rw [upd_ne nD]; exact hD3, ?_, Same.put (s3.trans s4) hD, upd_same, ?_, _, _, rfl⟩
      · rw [List.length_map, List.length_take]
        have : (7 : Nat) < sizeLine := by decide
        rw [← hml]
        omega
      · rw [List.take_succ, hb, List.map_append]
        rfl
    · rintro acc σ H' ⟨s3, hD3, rfl, v0, v1, rfl⟩
      rw [hml, List.take_length] at hD3
      exact ⟨D, _, rfl, SqL.of hD3, k _ (s2.trans s3)⟩
theorem okm_Hold_put_room (T : Txt K mg Ad) : MDef P w K mg base Ad.Hold "put_room" 3 ["self", "marks"] [] (sp_put_room K Ad.Hold) := by
  refine T.e_Hold_put_room.mdef sc_Hold_put_room (fun vs H Q E h => ?_) (fun _ _ _ _ _ _ us hl => match us, hl with | [_, _], _ => rfl) (fun f cdv A outer s H vs Q E hr h => ?_)
  · obtain ⟨a, fp, m, p, xs, r, rfl, _⟩ := h
    rfl
  · obtain ⟨a, fp, m, p, xs, r, rfl, hh, h4, hq, hd, ho, hl2, hl7, hrise, hb, k⟩ := h
    refine ⟨_, (pss_cons (ps_if (pt_cmpR op_ge (pe_methD0 (pv 0) T.cl_Hold (okm_Hold_many T) .nil (hr.mono (by decide))) (pe_globI rfl T.m_MOST_ROOMS) (nomark _)) (pss_one ps_never) pss_nil)
      (pss_cons (ps_if (pt_not (pt_chain op_le op_le (pe_globI rfl T.m_LEAST_MARKS) (pe_callB call_lenL (by rfl) T.n_len bt_len (pa_cons (pv 1) pa_nil)) (pe_globI rfl T.m_MOST_MARKS))) (pss_one ps_never) pss_nil)
      (pss_cons (ps_if (pt_not (pt_val (pe_callD (ok_is_rising T) (hr.mono (by decide)) (pa_cons (pv 1) pa_nil)))) (pss_one ps_never) pss_nil)
      (pss_cons (ps_set (i := 2) sc_Hold_put_room.nd rfl (by first | exact Or.inl rfl | exact Or.inr rfl) (pe_op op_cat (pe_fld (pv 0) rfl) (pe_lst (pa_cons (pe_callTy call_tuple_of (by rfl) T.n_tuple bt_tuple (pa_cons (pv 1) pa_nil)) pa_nil))))
      (pss_cons (ps_if (pt_cmpR op_gt (pe_callD (ok_bands_together T) (hr.mono (by decide)) (pa_cons (pv 2) pa_nil)) (pe_globI rfl T.m_MOST_BANDS) (nomark _)) (pss_one ps_never) pss_nil)
      (pss_cons (ps_fld (pv 0) (pv 2) rfl)
      (pss_cons (ps_expr (pe_bm PySem.F.plainAttrs_list PySem.F.slot_list_append PySem.F.type_list_append mt_append (pe_fld (pv 0) rfl) (pa_cons (pe_tup (pa_cons (pe_glob (v := V.ref _) rfl T.m_NOUGHT rfl) (pa_cons (pe_glob (v := V.ref _) rfl T.m_NOUGHT rfl) (pa_cons (pe_glob (v := V.ref _) rfl T.m_NOUGHT rfl) pa_nil)))) pa_nil)))
      (pss_cons (ps_expr (pe_bm PySem.F.plainAttrs_list PySem.F.slot_list_append PySem.F.type_list_append mt_append (pe_fld (pv 0) rfl) (pa_cons pe_non pa_nil)))
      (pss_one (ps_ret (pe_op op_subL (pe_methD0 (pv 0) T.cl_Hold (okm_Hold_many T) .nil (hr.mono (by decide))) pe_int))))))))))), ?_⟩
    obtain ⟨⟨dx, pm, pf, ps, pt, vm, vs, vt, kvs, efp, ha, hdx, hpm, hpf, hps, hpt, n1, n2, n3, dm, ds, dt, df, fk⟩, q1, q2, q3, q4⟩ := id hh
    have hxl : xs.length = r.length := by rw [hd.length, List.length_map]
    have lm : vm.length = m.rows.length := by rw [dm.length, List.length_map]
    have ls : vs.length = m.skies.length := by rw [ds.length, List.length_map]
    have lt : vt.length = m.stoves.length := by rw [dt.length, List.length_map]
    have szl : (7 : Nat) < sizeLine := by decide
    refine ⟨_, rfl, a, dx, _, rfl, ha, rfl, a, fp, m, rfl, hh, _, _, rfl, rfl, _, rfl, iteN (by omega) ?_⟩
    refine ⟨_, rfl, _, _, rfl, .inl hq, fun n en => ⟨_, _, rfl, rfl, _, rfl, iteP (by omega) ⟨_, _, rfl, rfl, _, rfl, iteNS (by omega) ?_⟩⟩⟩
    refine ⟨_, rfl, p, xs, r, rfl, hq, hd, ho, hl7, fun H1 s1 => ⟨_, rfl, ?_⟩⟩
    rw [hrise]
    refine iteF ?_
    refine ⟨_, rfl, a, _, dx, _, _, rfl, s1 _ _ ha, T.cl_Hold, T.na_Hold_mark_rows, hfs_rows .., _, rfl, p, xs, rfl, .inl ⟨s1.seq hq, fun kt hkt => ⟨sz1, fun kl hkl => ?_⟩⟩⟩
    have s2 := s1.trans (same_upd (o := .tup xs) hkt)
    have s3 := s2.trans (same_upd (o := .lst [.ref kt]) hkl)
    refine ⟨pm, kl, vm, [.ref kt], rfl, rfl, s3 _ _ hpm, upd_same, by rw [List.length_singleton]; omega, fun p3 hp3 => ?_⟩
    have s3' : Same (upd H1 kt (.tup xs)) _ := (same_upd (o := .lst [.ref kt]) hkl).trans (same_upd (o := .lst (vm ++ [.ref kt])) hp3)
    have s4 := s3.trans (same_upd (o := .lst (vm ++ [.ref kt])) hp3)
    have dr : Dn K (upd (upd (upd H1 kt (.tup xs)) kl (.lst [.ref kt])) p3 (.lst (vm ++ [.ref kt]))) (rowD r) (.ref kt) := dn_tup (SqT.of (s3' _ _ upd_same)) (DnA.same s4 _ hd)
    refine ⟨_, rfl, p3, _, m.rows ++ [r], rfl, SqL.of upd_same, ?_, by rw [List.length_append, List.length_singleton]; omega, ?_, _, _, rfl, rfl, _, rfl, iteN (by omega) ?_⟩
    · rw [List.map_append]
      exact (DnA.same s4 _ dm).snoc dr
    · intro x hx
      rcases List.mem_append.mp hx with h | h
      · have := q4.len x h; omega
      · rw [List.mem_singleton.mp h]; omega
    refine ⟨_, rfl, _, rfl, a, _, dx, _, rfl, s4 _ _ ha, T.cl_Hold, T.na_Hold_mark_rows, lt1000 rfl, ?_⟩
    have hn3 : H p3 = none := s3.free hp3
    have x3a : p3 ≠ a := (ne_of_none ha hn3).symm
    refine ⟨_, rfl, a, _, dx, _, _, rfl, upd_same, T.cl_Hold, T.na_Hold_skies, hfs_skies .., ?_⟩
    have aps := ne_obj hps ha nofun
    have apt := ne_obj hpt ha nofun
    have g1 := (upd_ne (H := upd (upd (upd H1 kt (.tup xs)) kl (.lst [.ref kt])) p3 (.lst (vm ++ [.ref kt]))) (o := .ins Ad.Hold dx (putF "mark_rows" (.ref p3) (hfs m pm pf ps pt))) aps).trans (s4 _ _ hps)
    have g2 := (upd_ne (H := upd (upd (upd H1 kt (.tup xs)) kl (.lst [.ref kt])) p3 (.lst (vm ++ [.ref kt]))) (o := .ins Ad.Hold dx (putF "mark_rows" (.ref p3) (hfs m pm pf ps pt))) apt).trans (s4 _ _ hpt)
    refine ⟨.inl ⟨rfl, vs, SqL.of g1⟩, sz3, fun q0 hq0 => ?_⟩
    have s5 := same_upd (o := .tup [.ref Ad.NOUGHT, .ref Ad.NOUGHT, .ref Ad.NOUGHT]) hq0
    refine ⟨ps, vs, _, rfl, rfl, s5 _ _ g1, by omega, ?_⟩
    have g3 := (upd_ne (o := .lst (vs ++ [.ref q0])) n3.symm).trans (s5 _ _ g2)
    have g4 := (upd_ne (o := .lst (vs ++ [.ref q0])) aps.symm).trans (s5 _ _ upd_same)
    refine ⟨_, rfl, a, _, dx, _, _, rfl, g4, T.cl_Hold, T.na_Hold_stoves, hfs_stoves .., .inl ⟨rfl, vt, SqL.of g3⟩, pt, vt, _, rfl, rfl, g3, by omega, ?_⟩
    obtain ⟨fp', D⟩ := deed_room (N := Ad.NOUGHT) (r := r) hh s4 ha hpm hps hpt hn3 upd_same dr h4 ho ⟨hl2, hl7⟩ (fun H' => T.q_NOUGHT.fr (f := (0, 1))) hq0
    obtain ⟨⟨dx', pm', pf', ps', pt', _, _, _, _, _, ha5, _⟩, _⟩ := id D.at_
    refine ⟨_, rfl, a, dx', _, rfl, ha5, rfl, a, fp', _, rfl, D.at_, _, _, rfl, rfl, fun z ez => ?_⟩
    have e : z = (m.rows.length : Int) := by
      rw [ez]
      show (((m.rows ++ [r]).length : Nat) : Int) - 1 = _
      rw [List.length_append, List.length_singleton]; omega
    rw [e]
    exact k _ fp' D
theorem bo_Hold___init__ (T : Txt K mg Ad) : MOk P w K mg base Ad.Hold "__init__" "Hold.__init__" s_Hold___init__ (.ref Ad.T_Hold___init__) 2 ["self", "most", "cap", "load"] (sp_init K Ad.Hold) := by
  refine T.e_Hold___init__.mok sc_Hold___init__ (fun vs H Q E h => ?_) (fun f cdv A outer s H vs Q E hr h => ?_)
  · obtain ⟨x, dx, most, cap, load, rfl, _⟩ := h
    rfl
  · obtain ⟨x, dx, most, cap, load, rfl, hx, hdx, hm, hc, hl, k⟩ := h
    refine ⟨_, (pss_cons (ps_if (pt_not (pt_val (pe_callD (ok_is_whole_upto T) (hr.mono (by decide)) (pa_cons (pv 1) (pa_cons (pe_globI rfl T.m_MOST_BURNING) pa_nil))))) (pss_one ps_never) pss_nil)
      (pss_cons (ps_if (pt_not (pt_val (pe_callD (ok_is_whole_upto T) (hr.mono (by decide)) (pa_cons (pv 2) (pa_cons (pe_globI rfl T.m_MOST_CAP) pa_nil))))) (pss_one ps_never) pss_nil)
      (pss_cons (ps_if (pt_not (pt_val (pe_callD (ok_is_whole_upto T) (hr.mono (by decide)) (pa_cons (pv 3) (pa_cons (pe_globI rfl T.m_MOST_LOAD) pa_nil))))) (pss_one ps_never) pss_nil)
      (pss_cons (ps_fld (pv 0) (pv 1) rfl)
      (pss_cons (ps_fld (pv 0) (pv 2) rfl)
      (pss_cons (ps_fld (pv 0) (pv 3) rfl)
      (pss_cons (ps_fld (pv 0) (pe_lst pa_nil) rfl)
      (pss_cons (ps_fld (pv 0) pe_dnewT rfl)
      (pss_cons (ps_fld (pv 0) (pe_lst pa_nil) rfl)
      (pss_one (ps_fld (pv 0) (pe_lst pa_nil) rfl))))))))))), ?_⟩
    refine ⟨_, rfl, most, 4, rfl, _, rfl, iteNS hm ⟨_, rfl, cap, 30, rfl, _, rfl, iteNS hc ⟨_, rfl, load, 30, rfl, _, rfl, iteNS hl ?_⟩⟩⟩
    have B0 : ButX K Ad.Hold x dx H H [] := .start hx
    refine ⟨_, rfl, _, rfl, x, _, dx, _, rfl, B0.at_, T.cl_Hold, T.na_Hold_most, lt1000 rfl, ?_⟩
    have B1 := B0.put (fs' := putF "most" (.int most) [])
    refine ⟨_, rfl, _, rfl, x, _, dx, _, rfl, B1.at_, T.cl_Hold, T.na_Hold_cap, lt1000 rfl, ?_⟩
    have B2 := B1.put (fs' := putF "cap" (.int cap) (putF "most" (.int most) []))
    refine ⟨_, rfl, _, rfl, x, _, dx, _, rfl, B2.at_, T.cl_Hold, T.na_Hold_load, lt1000 rfl, ?_⟩
    have B3 := B2.put (fs' := putF "load" (.int load) (putF "cap" (.int cap) (putF "most" (.int most) [])))
    refine ⟨Nat.zero_le _, fun p1 f1 => ?_⟩
    have B4 := B3.new (o := .lst []) f1
    refine ⟨_, rfl, x, _, dx, _, rfl, B4.at_, T.cl_Hold, T.na_Hold_mark_rows, lt1000 rfl, fun p2 f2 => ?_⟩
    have B5 := B4.put (fs' := putF "mark_rows" (.ref p1) (putF "load" (.int load) (putF "cap" (.int cap) (putF "most" (.int most) []))))
    have B6 := B5.new (o := .dT []) f2
    refine ⟨_, rfl, x, _, dx, _, rfl, B6.at_, T.cl_Hold, T.na_Hold_flows, lt1000 rfl, Nat.zero_le _, fun p3 f3 => ?_⟩
    have B7 := B6.put (fs' := putF "flows" (.ref p2) (putF "mark_rows" (.ref p1) (putF "load" (.int load) (putF "cap" (.int cap) (putF "most" (.int most) [])))))
    have B8 := B7.new (o := .lst []) f3
    refine ⟨_, rfl, x, _, dx, _, rfl, B8.at_, T.cl_Hold, T.na_Hold_skies, lt1000 rfl, Nat.zero_le _, fun p4 f4 => ?_⟩
    have B9 := B8.put (fs' := putF "skies" (.ref p3) (putF "flows" (.ref p2) (putF "mark_rows" (.ref p1) (putF "load" (.int load) (putF "cap" (.int cap) (putF "most" (.int most) []))))))
    have B10 := B9.new (o := .lst []) f4
    refine ⟨_, rfl, x, _, dx, _, rfl, B10.at_, T.cl_Hold, T.na_Hold_stoves, lt1000 rfl, ?_⟩
    have B11 := B10.put (fs' := hfs (HoldM.new most cap load) p1 p2 p3 p4)
    have h1 := B4.keep (u := .ins Ad.Hold dx (putF "mark_rows" (.ref p1) (putF "load" (.int load) (putF "cap" (.int cap) (putF "most" (.int most) []))))) upd_same (B3.ne f1)
    have h1a := B6.keep (u := .ins Ad.Hold dx (putF "flows" (.ref p2) (putF "mark_rows" (.ref p1) (putF "load" (.int load) (putF "cap" (.int cap) (putF "most" (.int most) [])))))) (same_upd (o := .dT []) f2 _ _ h1) (B3.ne f1)
    have h2a := B6.keep (u := .ins Ad.Hold dx (putF "flows" (.ref p2) (putF "mark_rows" (.ref p1) (putF "load" (.int load) (putF "cap" (.int cap) (putF "most" (.int most) [])))))) upd_same (B5.ne f2)
    have kk := fun b o (h : _ = some o) (n : b ≠ x) => B8.keep (b := b) (u := .ins Ad.Hold dx (putF "skies" (.ref p3) (putF "flows" (.ref p2) (putF "mark_rows" (.ref p1) (putF "load" (.int load) (putF "cap" (.int cap) (putF "most" (.int most) []))))))) h n
    have h1b := kk _ _ (same_upd (o := .lst []) f3 _ _ h1a) (B3.ne f1)
    have h2b := kk _ _ (same_upd (o := .lst []) f3 _ _ h2a) (B5.ne f2)
    have h3b := kk _ _ upd_same (B7.ne f3)
    have kl := fun b o (h : _ = some o) (n : b ≠ x) => B10.keep (b := b) (u := .ins Ad.Hold dx (hfs (HoldM.new most cap load) p1 p2 p3 p4)) h n
    have h1c := kl _ _ (same_upd (o := .lst []) f4 _ _ h1b) (B3.ne f1)
    have h2c := kl _ _ (same_upd (o := .lst []) f4 _ _ h2b) (B5.ne f2)
    have h3c := kl _ _ (same_upd (o := .lst []) f4 _ _ h3b) (B7.ne f3)
    have h4c := kl _ _ upd_same (B9.ne f4)
    exact k _ _ (deed_new B11 hx hdx h1c h2c h3c h4c (B3.none f1) (B5.none f2) (B7.none f3) (B9.none f4) (ne_of_none h1a f3) (ne_of_none h1b f4) (ne_of_none h3b f4))
theorem okm_Hold___init___0 (T : Txt K mg Ad) : MDefE P w K mg base Ad.Hold "__init__" 2 ["self", "most", "cap", "load"] [] (sp_init K Ad.Hold) :=
  (bo_Hold___init__ T).mdef T.t_Hold___init__ fun items hv => by
    obtain ⟨u1, u2, u3, rfl, r1, r2, r3⟩ := vals3 hv
    exact ⟨[], .nil, fun _ _ _ _ _ _ us hl => match us, hl with | [_, _, _, _], _ => ⟨_, rfl, rfl⟩⟩

theorem ok_law_cell_at (T : Txt K mg Ad) : Def P w K mg base "_law_cell_at" 1 ["_law_script", "_law_k"] (sp_cell_at K) := by
  refine T.d_law_cell_at.def sc_law_cell_at (fun vs H Q E h => ?_) (fun _ _ _ _ _ _ us hl => match us, hl with | [_, _], _ => rfl) (fun f cdv A outer s H vs Q E hr h => ?_)
  · obtain ⟨a, ns, z, rfl, _⟩ := h
    rfl
  · obtain ⟨a, ns, z, rfl, hS, hz, k⟩ := h
    refine ⟨_, (pss_cons (ps_if (pt_cmpR op_lt (pv 1) (pe_callB call_lenL (by rfl) T.n_len bt_len (pa_cons (pv 0) pa_nil)) (nomark _)) (pss_one (ps_ret (pe_ix ix_any (pv 0) (pv 1) (fun _ _ => rfl)))) pss_nil)
      (pss_one (ps_ret pe_int))), ?_⟩
    refine ⟨_, rfl, _, rfl, _, _, rfl, .inl hS, fun n en => ⟨_, _, rfl, rfl, _, rfl, ?_⟩⟩
    rw [List.length_map] at en
    refine ite3 (fun h => ?_) (fun h => ?_)
    · have hl : z.toNat < ns.length := by omega
      have e : (ns.map V.int)[z.toNat]? = some (.int (ns[z.toNat]'hl)) := by simp [hl]
      have e2 := atI_nat e
      rw [Int.toNat_of_nonneg hz] at e2
      refine ⟨_, rfl, _, rfl, _, _, _, _, rfl, rfl, .inl hS, e2, k _ (.inl (List.getElem_mem hl))⟩
    · exact k 0 (.inr rfl)

theorem flat_nat (l : List Nat) : (l.map natV).all flatV = true := by
  rw [List.all_eq_true]
  intro x hx
  obtain ⟨w, _, rfl⟩ := List.mem_map.mp hx
  rfl
def adjB (m : HoldM) (i j : Nat) : Bool := underM (0, 1) (m.flow i j) || underM (0, 1) (m.flow j i)
theorem adjB_symm (m : HoldM) (i j : Nat) : adjB m i j = adjB m j i := Bool.or_comm ..
def sp_tog (K : PySem.W.Frag) (C : Addr) : Sp := fun vs H Q _ => ∃ a fp m, ∃ i j : Nat, vs = [.ref a, natV i, natV j] ∧ HoldAt K C H a fp m ∧ i < m.rows.length ∧ j < m.rows.length ∧ i ≠ j ∧ ∀ H', Same H H' → Q (.bl (adjB m i j)) H'
theorem ok_takes_or_gives (T : Txt K mg Ad) : Def P w K mg base "takes_or_gives" 6 ["hold", "one", "other"] (sp_tog K Ad.Hold) := by
  refine T.d_takes_or_gives.def sc_takes_or_gives (fun vs H Q E h => ?_) (fun _ _ _ _ _ _ us hl => match us, hl with | [_, _, _], _ => rfl) (fun f cdv A outer s H vs Q E hr h => ?_)
  · obtain ⟨a, fp, m, i, j, rfl, _⟩ := h
    rfl
  · obtain ⟨a, fp, m, i, j, rfl, hh, hi, hj, nij, k⟩ := h
    refine ⟨_, (pss_one (ps_ret (pe_or (pe_callD (ok_under T) (hr.mono (by decide)) (pa_cons (pe_glob (v := V.ref _) rfl T.m_NOUGHT rfl) (pa_cons (pe_methD (pv 0) T.cl_Hold (okm_Hold_share T) .nil (hr.mono (by decide)) (pa_cons (pv 1) (pa_cons (pv 2) pa_nil))) pa_nil))) (pe_one (pe_callD (ok_under T) (hr.mono (by decide)) (pa_cons (pe_glob (v := V.ref _) rfl T.m_NOUGHT rfl) (pa_cons (pe_methD (pv 0) T.cl_Hold (okm_Hold_share T) .nil (hr.mono (by decide)) (pa_cons (pv 2) (pa_cons (pv 1) pa_nil))) pa_nil))))))), ?_⟩
    obtain ⟨⟨dx, pm, pf, ps, pt, vm, vs, vt, kvs, efp, ha, _⟩, q1, q2, q3, q4⟩ := id hh
    refine ⟨_, rfl, a, dx, _, rfl, ha, rfl, _, rfl, _, rfl, a, fp, m, i, j, rfl, hh, hi, hj, fun v H1 s1 dv => ?_⟩
    rw [HoldM.share, if_neg nij] at dv
    obtain ⟨p1, rfl, hp1⟩ := dv.fr
    have o1 := q4.flow i j
    have o2 := q4.flow j i
    refine ⟨Ad.NOUGHT, p1, 0, 1, _, _, rfl, T.q_NOUGHT.at _, hp1, bdd, bdd, o1.t.mono (by decide), o1.b.mono (by decide), _, rfl, ?_⟩
    have e1 : decide (0 * (m.flow i j).2 < (m.flow i j).1 * 1) = underM (0, 1) (m.flow i j) := rfl
    rw [e1]
    cases u1 : underM (0, 1) (m.flow i j) with
    | true => refine iteT ?_; have := k H1 s1; unfold adjB at this; rw [u1] at this; exact this
    | false =>
      refine iteF ?_
      refine ⟨_, rfl, a, dx, _, rfl, s1 _ _ ha, rfl, _, rfl, _, rfl, a, fp, m, j, i, rfl, HoldAt.same s1 hh, hj, hi, fun v2 H2 s2 dv2 => ?_⟩
      rw [HoldM.share, if_neg (Ne.symm nij)] at dv2
      obtain ⟨p2, rfl, hp2⟩ := dv2.fr
      refine ⟨Ad.NOUGHT, p2, 0, 1, _, _, rfl, T.q_NOUGHT.at _, hp2, bdd, bdd, o2.t.mono (by decide), o2.b.mono (by decide), ?_⟩
      have e2 : decide (0 * (m.flow j i).2 < (m.flow j i).1 * 1) = underM (0, 1) (m.flow j i) := rfl
      rw [e2]
      have := k H2 (s1.trans s2)
      unfold adjB at this
      rw [u1, Bool.false_or] at this
      exact this
def sp_part (K : PySem.W.Frag) (C : Addr) : Sp := fun vs H Q _ => ∃ a fp m, ∃ r : Nat, vs = [.ref a, natV r] ∧ HoldAt K C H a fp m ∧ r < m.rows.length ∧ ∀ p H', Same H H' → H p = none → H' p = some (.lst ((partP (g6 (adjB m)) m.rows.length r).map natV)) → Q (.ref p) H'
theorem ok_part_of (T : Txt K mg Ad) : Def P w K mg base "part_of" 7 ["hold", "room"] (sp_part K Ad.Hold) := by
  refine T.d_part_of.def sc_part_of (fun vs H Q E h => ?_) (fun _ _ _ _ _ _ us hl => match us, hl with | [_, _], _ => rfl) (fun f cdv A outer s H vs Q E hr h => ?_)
  · obtain ⟨a, fp, m, r, rfl, _⟩ := h
    rfl
  · obtain ⟨a, fp, m, r, rfl, hh, hr1, k⟩ := h
    refine ⟨_, (pss_cons (ps_set (i := 2) sc_part_of.nd rfl (by first | exact Or.inl rfl | exact Or.inr rfl) (pe_lst (pa_cons (pv 1) pa_nil)))
      (pss_cons (ps_set (i := 3) sc_part_of.nd rfl (by first | exact Or.inl rfl | exact Or.inr rfl) pe_int)
      (pss_cons (ps_while PassesOwn.never (pt_cmpR op_lt (pv 3) (pe_callB call_lenL (by rfl) T.n_len bt_len (pa_cons (pv 2) pa_nil)) (nomark _)) (pss_cons (ps_for PassesOwn.never rfl (pi_range1 rfl T.n_range (pa_cons (pe_methD0 (pv 0) T.cl_Hold (okm_Hold_many T) .nil (hr.mono (by decide))) pa_nil)) (pg_name (i := 4) sc_part_of.nd rfl (by first | exact Or.inl rfl | exact Or.inr rfl)) (pss_one (ps_if (PW.pt (pw_and (pt_cmpR op_notIn_seq (pv 4) (pv 2) (by with_unfolding_all rfl)) (pw_and1 (pt_val (pe_callD (ok_takes_or_gives T) (hr.mono (by decide)) (pa_cons (pv 0) (pa_cons (pe_ix ix_any (pv 2) (pv 3) (fun _ _ => rfl)) (pa_cons (pv 4) pa_nil)))))))) (pss_one (ps_expr (pe_bm PySem.F.plainAttrs_list PySem.F.slot_list_append PySem.F.type_list_append mt_append (pv 2) (pa_cons (pv 4) pa_nil)))) pss_nil)))
      (pss_one (ps_aug (i := 3) sc_part_of.nd rfl (by first | exact Or.inl rfl | exact Or.inr rfl) pe_int ip_add))))
      (pss_one (ps_ret (pe_callB call_sortedL (by rfl) T.n_sorted bt_sorted (pa_cons (pv 2) pa_nil))))))), ?_⟩
    obtain ⟨⟨dx, pm, pf, ps, pt, vm, vs, vt, kvs, efp, ha, _⟩, q1, q2, q3, q4⟩ := id hh
    have n4 := q3
    have gad : ∀ {i j : Nat}, i < m.rows.length → j < m.rows.length → i ≠ j → adG (g6 (adjB m)) i j = adjB m i j := fun hi hj n => adG_g6 (adjB_symm m) (by omega) (by omega) n
    generalize hg : g6 (adjB m) = g at k gad
    generalize hn : m.rows.length = n at k gad hr1 n4
    refine cut fun R1 k1 => ⟨_, rfl, sz1, fun pp hpp => k1 _ _ ?_⟩
    have s0 := same_upd (o := .lst [natV r]) hpp
    refine cut fun R2 k2 => k2 _ _ ?_
    refine cut fun R3 k3 => ?_
    refine ⟨fun μ σ H' => ∃ p done, ∃ v4 : Option V, μ + done = 5 ∧ Same H H' ∧ H' pp = some (.lst (p.map natV)) ∧ NdL n p ∧ done ≤ p.length ∧ runP g n μ p done = runP g n 5 [r] 0 ∧ σ = [some (.ref a), some (natV r), some (.ref pp), some (natV done), v4],
      ⟨5, [r], 0, none, rfl, s0, upd_same, ⟨by simp, fun x hx => by rw [List.mem_singleton.mp hx]; exact hr1⟩, by simp, rfl, rfl⟩, ?_⟩
    rintro μ σ H1 ⟨p, done, v4, eμ, s1, hp, nd, dl, er, rfl⟩
    have pl := nd.len
    refine ⟨_, rfl, _, rfl, pp, _, rfl, .inl (SqL.of hp), fun y ey => ⟨_, _, rfl, rfl, _, rfl, ite3 (fun q => ?_) fun q => ?_⟩⟩
    · have q : (done : Int) < y := q
      rw [List.length_map] at ey
      have dlt : done < p.length := by omega
      obtain ⟨μ', rfl⟩ : ∃ μ', μ = μ' + 1 := ⟨μ - 1, by omega⟩
      refine ⟨fun σ H' => ∃ p done, ∃ v4 : Option V, μ' + done = 5 ∧ Same H H' ∧ H' pp = some (.lst (p.map natV)) ∧ NdL n p ∧ done ≤ p.length ∧ runP g n μ' p done = runP g n 5 [r] 0 ∧ σ = [some (.ref a), some (natV r), some (.ref pp), some (natV done), v4], fun σ' H' h => ⟨μ', by omega, h⟩, ?_⟩
      refine cut fun R4 k4 => ⟨_, rfl, a, dx, _, rfl, s1 _ _ ha, rfl, a, fp, m, rfl, HoldAt.same s1 hh, _, rfl, by omega, by omega, ?_⟩
      rw [hn]
      refine for_range (lo := 0) (n := n) (fun i σ H' => Same H H' ∧ H' pp = some (.lst (((List.range i).foldl (stepO g done) p).map natV)) ∧ NdL n ((List.range i).foldl (stepO g done) p) ∧ p.length ≤ ((List.range i).foldl (stepO g done) p).length ∧ ∃ v4 : Option V, σ = [some (.ref a), some (natV r), some (.ref pp), some (natV done), v4])
        ⟨s1, hp, nd, Nat.le_refl _, _, rfl⟩ ?_ ?_
      · rintro i σ H2 hi ⟨s2, hp2, nd2, l2, v4, rfl⟩
        rw [foldO_next]
        generalize (List.range i).foldl (stepO g done) p = pc at hp2 nd2 l2
        have pl2 := nd2.len
        have ev : inV (.int (0 + (i : Int))) (pc.map natV) = decide (i ∈ pc) := by rw [Int.zero_add]; exact inV_nat i pc
        refine ⟨_, rfl, _, rfl, pp, _, rfl, .inl (SqL.of hp2), rfl, flat_nat pc, _, rfl, ?_⟩
        show if (!inV (.int (0 + (i : Int))) (pc.map natV)) = true then _ else _
        rw [ev]
        have hdi : done < pc.length := by omega
        by_cases hm : i ∈ pc
        · rw [decide_eq_true hm]
          refine iteF ?_
          have e0 : stepO g done pc i = pc := by unfold stepO; rw [decide_eq_true hm]; rfl
          rw [e0]
          exact iteF ⟨s2, hp2, nd2, l2, _, rfl⟩
        · rw [decide_eq_false hm]
          refine iteT ?_
          have gd : pc.getD done 0 = pc[done] := by rw [List.getD_eq_getElem?_getD, get_nat hdi]; rfl
          have at_ : atI (pc.map natV) (done : Int) = some (natV pc[done]) := atI_nat (by rw [List.getElem?_map, get_nat hdi]; rfl)
          have hlt : pc[done] < n := nd2.2 _ (List.getElem_mem _)
          have hne : pc[done] ≠ i := fun e => hm (e ▸ List.getElem_mem _)
          have ei : (0 : Int) + (i : Int) = (i : Int) := Int.zero_add _
          rw [ei]
          refine ⟨_, rfl, _, rfl, _, rfl, pp, _, _, _, rfl, rfl, .inl (SqL.of hp2), at_, _, rfl, a, fp, m, pc[done], i, rfl, HoldAt.same s2 hh, by omega, by omega, hne, fun H3 s3 => ⟨_, rfl, ?_⟩⟩
          rw [← gad hlt hi hne]
          cases ea : adG g pc[done] i with
          | true =>
            have e0 : stepO g done pc i = pc ++ [i] := by unfold stepO; rw [decide_eq_false hm, gd, ea]; rfl
            rw [e0]
            refine iteT ⟨_, rfl, .inl ⟨rfl, _, SqL.of (s3 _ _ hp2)⟩, _, rfl, pp, _, _, rfl, rfl, s3 _ _ hp2, small1000 (by rw [List.length_map]; omega), (s2.trans s3).put hpp, ?_, nd2.put hi hm, by rw [List.length_append]; omega, _, rfl⟩
            rw [upd_same, List.map_append]; rfl
          | false =>
            have e0 : stepO g done pc i = pc := by unfold stepO; rw [gd, ea, Bool.and_false]; rfl
            rw [e0]
            exact iteF ⟨s2.trans s3, s3 _ _ hp2, nd2, l2, _, rfl⟩
      · rintro σ H2 ⟨s2, hp2, nd2, l2, v4, rfl⟩
        refine k4 _ _ ⟨_, rfl, _, _, rfl, rfl, stepP g n p done, done + 1, v4, by omega, s2, hp2, nd2, by show done + 1 ≤ ((List.range n).foldl (stepO g done) p).length; omega, ?_, ?_⟩
        · rw [← er]
          show _ = if done < p.length then _ else _
          rw [if_pos dlt]
        · rfl
    · have q : ¬ (done : Int) < y := q
      rw [List.length_map] at ey
      refine k3 _ _ ?_
      have μ1 : ∃ μ', μ = μ' + 1 := ⟨μ - 1, by omega⟩
      obtain ⟨μ', rfl⟩ := μ1
      have ep : p = runP g n 5 [r] 0 := by
        rw [← er]
        show _ = if done < p.length then _ else _
        rw [if_neg (by omega)]
      have hpi : H1 pp = some (.lst ((p.map fun x : Nat => (x : Int)).map V.int)) := by rw [hp, List.map_map]; rfl
      refine ⟨_, rfl, pp, _, rfl, SqL.of hpi, by rw [List.length_map]; omega, fun qq ms hq hpm hsm => ?_⟩
      have ems := srt_is hpm hsm
      refine k qq _ (s1.trans (same_upd hq)) (s1.free hq) ?_
      rw [upd_same, ems, List.map_map, ep]
      rfl
/-- a list of lists of rooms -/
def LLa (H : Hp) (as : List Addr) (ls : List (List Nat)) : Prop := as.length = ls.length ∧ ∀ (i : Nat) (a : Addr) (l : List Nat), as[i]? = some a → ls[i]? = some l → H a = some (.lst (l.map natV))
theorem LLa.mono {H H' : Hp} {as : List Addr} {ls : List (List Nat)} (h : LLa H as ls) (g : ∀ a ∈ as, ∀ o, H a = some o → H' a = some o) : LLa H' as ls :=
  ⟨h.1, fun i a l e1 e2 => g a (List.mem_of_getElem? e1) _ (h.2 i a l e1 e2)⟩
theorem LLa.put {H : Hp} {as : List Addr} {ls : List (List Nat)} {b : Addr} {l : List Nat} (h : LLa H as ls) (hb : H b = some (.lst (l.map natV))) : LLa H (as ++ [b]) (ls ++ [l]) :=
  ⟨by rw [List.length_append, List.length_append, h.1]; rfl, fun i a l' e1 e2 => by
    rcases Nat.lt_trichotomy i as.length with q | q | q
    · rw [List.getElem?_append_left q] at e1
      rw [List.getElem?_append_left (by rw [← h.1]; exact q)] at e2
      exact h.2 i a l' e1 e2
    · subst q
      rw [List.getElem?_append_right (Nat.le_refl _), Nat.sub_self] at e1
      rw [h.1, List.getElem?_append_right (Nat.le_refl _), Nat.sub_self] at e2
      cases e1; cases e2
      exact hb
    · rw [List.getElem?_append_right (by omega), List.getElem?_eq_none (by show 1 ≤ _; omega)] at e1
      cases e1⟩
theorem foldQ_next (g : G6) (n i : Nat) : (List.range (i + 1)).foldl (stepQ g n) [] = stepQ g n ((List.range i).foldl (stepQ g n) []) i := by
  rw [List.range_succ, List.foldl_append]; rfl
def sp_parts (K : PySem.W.Frag) (C : Addr) : Sp := fun vs H Q _ => ∃ a fp m, vs = [.ref a] ∧ HoldAt K C H a fp m ∧ ∀ p as H', Same H H' → H p = none → (∀ b ∈ as, H b = none) → p ∉ as → as.Nodup → H' p = some (.lst (as.map V.ref)) → LLa H' as (partsP (g6 (adjB m)) m.rows.length) → Q (.ref p) H'
theorem ok_parts_of (T : Txt K mg Ad) : Def P w K mg base "parts_of" 8 ["hold"] (sp_parts K Ad.Hold) := by
  refine T.d_parts_of.def sc_parts_of (fun vs H Q E h => ?_) (fun _ _ _ _ _ _ us hl => match us, hl with | [_], _ => rfl) (fun f cdv A outer s H vs Q E hr h => ?_)
  · obtain ⟨a, fp, m, rfl, _⟩ := h
    rfl
  · obtain ⟨a, fp, m, rfl, hh, k⟩ := h
    refine ⟨_, (pss_cons (ps_set (i := 1) sc_parts_of.nd rfl (by first | exact Or.inl rfl | exact Or.inr rfl) (pe_lst pa_nil))
      (pss_cons (ps_for PassesOwn.never rfl (pi_range1 rfl T.n_range (pa_cons (pe_methD0 (pv 0) T.cl_Hold (okm_Hold_many T) .nil (hr.mono (by decide))) pa_nil)) (pg_name (i := 2) sc_parts_of.nd rfl (by first | exact Or.inl rfl | exact Or.inr rfl)) (pss_one (ps_if (pt_not (pt_val (pe_callB (call_anyB rfl) (by rfl) T.n_any bt_any (pa_cons (pe_lc ["part"] ["room"] [2] (.cons ⟨rfl, rfl, .inl rfl⟩ .nil) rfl (pi_list (pv 1)) (fun _ _ _ _ _ => (pg_name (i := 0) (show (["part", "room"] : List Str).Nodup by decide +kernel) rfl (by first | exact Or.inl rfl | exact Or.inr rfl))) (fun _ _ _ _ _ => pif_nil) (fun _ _ _ _ _ => (pe_cmpR (op_in_seqK (K := K) rfl) (pv 1) (pv 0) (by with_unfolding_all rfl))) rfl (by decide +kernel) (by decide +kernel) (by decide +kernel)) pa_nil)))) (pss_one (ps_expr (pe_bm PySem.F.plainAttrs_list PySem.F.slot_list_append PySem.F.type_list_append mt_append (pv 1) (pa_cons (pe_callD (ok_part_of T) (hr.mono (by decide)) (pa_cons (pv 0) (pa_cons (pv 2) pa_nil))) pa_nil)))) pss_nil)))
      (pss_one (ps_ret (pv 1))))), ?_⟩
    obtain ⟨⟨dx, pm, pf, ps, pt, vm, vs, vt, kvs, efp, ha, _⟩, q1, q2, q3, q4⟩ := id hh
    refine cut fun R1 k1 => ⟨sz0, fun pp hpp => k1 _ _ ?_⟩
    have s0 := same_upd (o := .lst []) hpp
    refine cut fun R2 k2 => ⟨_, rfl, a, dx, _, rfl, s0 _ _ ha, rfl, a, fp, m, rfl, HoldAt.same s0 hh, _, rfl, by omega, by omega, ?_⟩
    generalize hg : g6 (adjB m) = g at k
    generalize hn : m.rows.length = n at k q3
    refine for_range (lo := 0) (n := n) (fun i σ H' => Same H H' ∧ (∃ as : List Addr, H' pp = some (.lst (as.map V.ref)) ∧ LLa H' as ((List.range i).foldl (stepQ g n) []) ∧ (∀ b ∈ as, H b = none ∧ b ≠ pp) ∧ as.Nodup ∧ as.length ≤ i) ∧ ∃ v : Option V, σ = [some (.ref a), some (.ref pp), v])
      ⟨s0, ⟨[], upd_same, ⟨rfl, nofun⟩, nofun, .nil, Nat.le_refl _⟩, none, rfl⟩ ?_ ?_
    · rintro i σ H1 hi ⟨s1, ⟨as, hp, hl, fr, nd, ll⟩, v, rfl⟩
      rw [foldQ_next]
      generalize (List.range i).foldl (stepQ g n) [] = ls at hl
      have ei : (0 : Int) + (i : Int) = (i : Int) := Int.zero_add _
      rw [ei]
      refine ⟨_, rfl, pp, rfl, ⟨_, SqL.of hp⟩, fun D hD => ?_⟩
      refine comp_list (K := K) (a := pp) (xs := as.map V.ref) (fun j acc σ H' => Same H1 H' ∧ H' D = some (.lst acc) ∧ acc = ((ls.take j).map fun p => V.bl (decide (i ∈ p))) ∧ ∃ v, σ = [v, some (natV i)])
        ⟨same_upd hD, upd_same, rfl, none, rfl⟩ (fun j acc σ H' _ e => SqL.of (e.1 _ _ hp)) ?_ ?_
      · rintro j x acc σ H2 hx ⟨s2, hD2, rfl, v, rfl⟩
        rw [List.getElem?_map] at hx
        obtain ⟨b, eb, rfl⟩ := Option.map_eq_some_iff.mp hx
        have hj : j < ls.length := by rw [← hl.1]; exact (List.getElem?_eq_some_iff.mp eb).1
        have hb := s2 _ _ (hl.2 j b ls[j] eb (get_nat hj))
        refine ⟨_, rfl, _, rfl, b, _, rfl, .inl (SqL.of hb), rfl, flat_nat _, ?_⟩
        rw [show inV (natV i) (ls[j].map natV) = decide (i ∈ ls[j]) from inV_nat i _]
        have hl1 := hl.1
        refine ⟨hD2, small1000 (by rw [List.length_map, List.length_take]; omega), s2.put hD, upd_same, ?_, _, rfl⟩
        rw [List.take_succ, get_nat hj, List.map_append]; rfl
      · rintro acc σ H2 ⟨s2, hD2, rfl, v, rfl⟩
        have e0 : ((ls.take (as.map V.ref).length).map fun p => V.bl (decide (i ∈ p))) = (ls.map fun p => decide (i ∈ p)).map V.bl := by rw [List.length_map, hl.1, List.take_length, List.map_map]; rfl
        rw [e0] at hD2
        refine ⟨D, _, rfl, SqL.of hD2, _, rfl, ?_⟩
        have e1 : (ls.map fun p => decide (i ∈ p)).any id = ls.any fun p => decide (i ∈ p) := by rw [List.any_map]; rfl
        rw [e1]
        cases ea : ls.any fun p => decide (i ∈ p) with
        | true =>
          have e2 : stepQ g n ls i = ls := by unfold stepQ; rw [if_pos ea]
          rw [e2]
          exact iteF ⟨s1.trans s2, ⟨as, s2 _ _ hp, hl.mono fun b hb o e => s2 _ _ e, fr, nd, by omega⟩, _, rfl⟩
        | false =>
          have e2 : stepQ g n ls i = ls ++ [partP g n i] := by unfold stepQ; rw [if_neg (by rw [ea]; exact Bool.false_ne_true)]
          rw [e2]
          have S2 := s1.trans s2
          have hp2 := s2 _ _ hp
          refine iteT ⟨_, rfl, .inl ⟨rfl, _, SqL.of hp2⟩, _, rfl, _, rfl, a, fp, m, i, rfl, HoldAt.same S2 hh, by omega, fun b H3 s3 fb hb => ?_⟩
          rw [hg, hn] at hb
          have hp3 := s3 _ _ hp2
          have nb : b ≠ pp := fun z => by rw [z, hp2] at fb; cases fb
          have fb0 : H b = none := S2.free fb
          have nin : b ∉ as := fun hm => by
            obtain ⟨j, hj, rfl⟩ := List.getElem_of_mem hm
            have := hl.2 j as[j] _ (get_nat hj) (get_nat (show j < ls.length by rw [← hl.1]; exact hj))
            rw [s2 _ _ this] at fb; cases fb
          refine ⟨pp, _, _, rfl, rfl, hp3, small1000 (by rw [List.length_map]; omega), (S2.trans s3).put hpp, ⟨as ++ [b], by rw [upd_same, List.map_append]; rfl, ?_, ?_, ?_, by rw [List.length_append]; show as.length + 1 ≤ _; omega⟩, _, rfl⟩
          · refine ((hl.mono fun c hc o e => s3 _ _ (s2 _ _ e)).put hb).mono fun c hc o e => ?_
            rw [upd_ne (fun z => ?_)]
            · exact e
            · rcases List.mem_append.mp hc with h | h
              · exact (fr c h).2 z
              · exact nb ((List.mem_singleton.mp h) ▸ z)
          · intro c hc
            rcases List.mem_append.mp hc with h | h
            · exact fr c h
            · rw [List.mem_singleton.mp h]; exact ⟨fb0, nb⟩
          · exact List.nodup_append.mpr ⟨nd, by simp, fun x hx y hy => by rw [List.mem_singleton.mp hy]; exact fun e => nin (e ▸ hx)⟩
    · rintro σ H1 ⟨s1, ⟨as, hp, hl, fr, nd, ll⟩, v, rfl⟩
      exact k2 _ _ ⟨_, rfl, k pp as H1 s1 hpp (fun b hb => (fr b hb).1) (fun hm => (fr pp hm).2 rfl) nd hp hl⟩

/-- what the law keeps: who takes of whom -/
def TkAt (H : Hp) (pt : Addr) (kvs : List (List Key × V)) (tk : Nat → Nat → Bool) : Prop := H pt = some (.dT kvs) ∧ ∀ i j : Nat, i < 4 → j < 4 → (valV kvs (fkey i j)).isSome = tk i j
def adT (tk : Nat → Nat → Bool) (i j : Nat) : Bool := tk i j || tk j i
theorem adT_symm (tk : Nat → Nat → Bool) (i j : Nat) : adT tk i j = adT tk j i := Bool.or_comm ..
theorem dn_nats {H : Hp} : ∀ l : List Nat, DnA K H (l.map fun n : Nat => PyData.int (n : Int)) (l.map natV)
  | [] => dn_nil
  | _ :: l => dn_cons dn_int (dn_nats l)
theorem pl_nats (l : List Nat) : ∀ d ∈ l.map (fun n : Nat => PyData.int (n : Int)), plD 0 d := fun d hd => by
  obtain ⟨n, _, rfl⟩ := List.mem_map.mp hd
  exact trivial
theorem ne_nil {H : Hp} {p q : Addr} {l : List Nat} {Q : VK} (hp : SqL K H p (l.map natV)) (hq : SqL K H q []) (k : Q (.bl (!l.isEmpty)) H) : rNeD K (.ref p) (.ref q) H Q := by
  refine ⟨.list (l.map fun n : Nat => PyData.int (n : Int)), .list [], dn_lst hp (dn_nats l), dn_lst hq dn_nil, plD_shaped (n := 1) (pl_nats l) (by decide), plD_shaped (n := 1) (show ∀ d ∈ ([] : List PyData), plD 0 d from nofun) (by decide), ?_⟩
  have e : PyData.eqv (.list (l.map fun n : Nat => PyData.int (n : Int))) (.list []) = l.isEmpty := by
    cases l <;> simp [PyData.eqv, PyData.eqvAll]
  rw [e]
  exact k
def sp_lparts : Sp := fun vs H Q _ => ∃ n pt kvs tk, vs = [natV n, .ref pt] ∧ n ≤ 4 ∧ TkAt H pt kvs tk ∧ ∀ p as H', Same H H' → H p = none → (∀ b ∈ as, H b = none) → p ∉ as → as.Nodup → H' p = some (.lst (as.map V.ref)) → LLa H' as (partsL (g6 (adT tk)) n) → Q (.ref p) H'
theorem filt_next {l : List Nat} {f : Nat → Bool} {i j : Nat} (e : l[i]? = some j) : (l.take (i + 1)).filter f = (l.take i).filter f ++ (if f j = true then [j] else []) := by
  rw [List.take_succ, e, List.filter_append]
  congr 1
  show List.filter f [j] = _
  cases q : f j <;> simp [q]
theorem nd_filter {n : Nat} {l : List Nat} {f : Nat → Bool} (h : NdL n l) : NdL n (l.filter f) := ⟨h.1.sublist List.filter_sublist, fun x hx => h.2 x (List.mem_filter.mp hx).1⟩
theorem nd_more {n : Nat} {g : G6} {left p : List Nat} (h : NdL n left) (hp : NdL n p) : NdL n (p ++ moreL g left p) := by
  refine ⟨List.nodup_append.mpr ⟨hp.1, (nd_filter h).1, fun a ha b hb e => ?_⟩, fun x hx => ?_⟩
  · have := (List.mem_filter.mp hb).2
    rw [e] at ha
    simp [ha] at this
  · rcases List.mem_append.mp hx with q | q
    · exact hp.2 x q
    · exact (nd_filter h).2 x q
theorem runL_mem {g : G6} {left : List Nat} {x : Nat} : ∀ {f : Nat} {p : List Nat}, x ∈ p → x ∈ runL g left f p
  | 0, _, h => h
  | f + 1, p, h => by
    unfold runL
    split
    · exact h
    · exact runL_mem (List.mem_append_left _ h)
set_option maxHeartbeats 2000000 in
theorem ok_law_parts (T : Txt K mg Ad) : Def P w K mg base "_law_parts" 1 ["_law_many", "_law_takes"] sp_lparts := by
  refine T.d_law_parts.def sc_law_parts (fun vs H Q E h => ?_) (fun _ _ _ _ _ _ us hl => match us, hl with | [_, _], _ => rfl) (fun f cdv A outer s H vs Q E hr h => ?_)
  · obtain ⟨n, pt, kvs, tk, rfl, _⟩ := h
    rfl
  · obtain ⟨n, pt, kvs, tk, rfl, n4, ⟨hpt, htk⟩, k⟩ := h
    refine ⟨_, (pss_cons (ps_set (i := 2) sc_law_parts.nd rfl (by first | exact Or.inl rfl | exact Or.inr rfl) (pe_listrng rfl (pv 0) rfl T.n_list rfl T.n_range))
      (pss_cons (ps_set (i := 3) sc_law_parts.nd rfl (by first | exact Or.inl rfl | exact Or.inr rfl) (pe_lst pa_nil))
      (pss_cons (ps_while PassesOwn.never (pt_cmpR (op_neD hr.units) (pv 2) (pe_lst pa_nil) (nomark _)) (pss_cons (ps_set (i := 4) sc_law_parts.nd rfl (by first | exact Or.inl rfl | exact Or.inr rfl) (pe_lst (pa_cons (pe_ix ix_any (pv 2) pe_int (fun _ _ => rfl)) pa_nil)))
      (pss_cons (ps_set (i := 5) sc_law_parts.nd rfl (by first | exact Or.inl rfl | exact Or.inr rfl) pe_bl)
      (pss_cons (ps_while PassesOwn.never (pt_val (pv 5)) (pss_cons (ps_lcC (yi := 6) "_law_j" ["_law_j"] ["_law_part_here", "_law_takes"] [4, 1] (.cons ⟨rfl, rfl, .inl rfl⟩ (.cons ⟨rfl, rfl, .inl rfl⟩ .nil)) rfl (pi_list (pv 2)) (fun _ _ _ _ _ => (pg_name (i := 0) (show (["_law_j", "_law_part_here", "_law_takes"] : List Str).Nodup by decide +kernel) rfl (by first | exact Or.inl rfl | exact Or.inr rfl))) (fun _ _ _ _ _ => (pif_one (PW.pt (pw_and (pt_cmpR (op_notIn_seqK (K := K) rfl) (pv 0) (pv 1) (by with_unfolding_all rfl)) (pw_and1 (pt_cmpR (op_neDK (K := K) rfl hr.units) (pe_lc ["_law_i"] ["_law_takes", "_law_j"] [2, 0] (.cons ⟨rfl, rfl, .inl rfl⟩ (.cons ⟨rfl, rfl, .inl rfl⟩ .nil)) rfl (pi_listK (K := K) rfl (pv 1)) (fun _ _ _ _ _ => (pg_name (i := 0) (show (["_law_i", "_law_takes", "_law_j"] : List Str).Nodup by decide +kernel) rfl (by first | exact Or.inl rfl | exact Or.inr rfl))) (fun _ _ _ _ _ => (pif_one (PW.pt (pw_or (pt_cmp (pc_din (hu_of hr) (pe_tup (pa_cons (pv 0) (pa_cons (pv 2) pa_nil))) (pv 1)) (by with_unfolding_all rfl)) (pw_or1 (pt_cmp (pc_din (hu_of hr) (pe_tup (pa_cons (pv 2) (pa_cons (pv 0) pa_nil))) (pv 1)) (by with_unfolding_all rfl))))))) (fun _ _ _ _ _ => (pv 0)) rfl (by decide +kernel) (by decide +kernel) (by decide +kernel)) (pe_lst pa_nil) (nomark _))))))) (fun _ _ _ _ _ => (pv 0)) rfl (by decide +kernel) rfl (fun _ _ => rfl) (fun _ => rfl) (by decide +kernel) (by decide +kernel) sc_law_parts.nd rfl (by first | exact Or.inl rfl | exact Or.inr rfl) rfl)
      (pss_cons (ps_set (i := 4) sc_law_parts.nd rfl (by first | exact Or.inl rfl | exact Or.inr rfl) (pe_op op_cat (pv 4) (pv 6)))
      (pss_one (ps_set (i := 5) sc_law_parts.nd rfl (by first | exact Or.inl rfl | exact Or.inr rfl) (pe_cmpR (op_neD hr.units) (pv 6) (pe_lst pa_nil) (nomark _)))))))
      (pss_cons (ps_expr (pe_bm PySem.F.plainAttrs_list PySem.F.slot_list_append PySem.F.type_list_append mt_append (pv 3) (pa_cons (pe_callB call_sortedL (by rfl) T.n_sorted bt_sorted (pa_cons (pv 4) pa_nil)) pa_nil)))
      (pss_one (ps_lc (yi := 2) ["_law_j"] ["_law_part_here"] [4] (.cons ⟨rfl, rfl, .inl rfl⟩ .nil) rfl (pi_list (pv 2)) (fun _ _ _ _ _ => (pg_name (i := 0) (show (["_law_j", "_law_part_here"] : List Str).Nodup by decide +kernel) rfl (by first | exact Or.inl rfl | exact Or.inr rfl))) (fun _ _ _ _ _ => (pif_one (pt_cmpR (op_notIn_seqK (K := K) rfl) (pv 0) (pv 1) (by with_unfolding_all rfl)))) (fun _ _ _ _ _ => (pv 0)) rfl (by decide +kernel) (by decide +kernel) (by decide +kernel) sc_law_parts.nd rfl (by first | exact Or.inl rfl | exact Or.inr rfl) rfl)))))))
      (pss_one (ps_ret (pv 3)))))), ?_⟩
    have gad : ∀ {i j : Nat}, i < n → j < n → i ≠ j → adG (g6 (adT tk)) i j = adT tk i j := fun hi hj ne => adG_g6 (adT_symm tk) (by omega) (by omega) ne
    generalize g6 (adT tk) = g at k gad
    refine cut fun R1 k1 => ⟨_, rfl, n, rfl, by omega, fun pl0 hpl0 => k1 _ _ ?_⟩
    have s0 := same_upd (o := .lst ((List.range n).map natV)) hpl0
    refine cut fun R2 k2 => ⟨sz0, fun pf hpf => k2 _ _ ?_⟩
    have s1 := s0.trans (same_upd (o := .lst []) hpf)
    have ff : H pf = none := s0.free hpf
    have hl0 : (upd (upd H pl0 (.lst ((List.range n).map natV))) pf (.lst [])) pl0 = some (.lst ((List.range n).map natV)) := same_upd hpf _ _ upd_same
    have hf0 : (upd (upd H pl0 (.lst ((List.range n).map natV))) pf (.lst [])) pf = some (.lst []) := upd_same
    generalize upd (upd H pl0 (.lst ((List.range n).map natV))) pf (.lst []) = H0 at s1 hl0 hf0 ⊢
    refine cut fun R3 k3 => ?_
    refine ⟨fun μ σ H' => ∃ pl left found as, ∃ v4 v5 v6 : Option V, Same H H' ∧ H' pl = some (.lst (left.map natV)) ∧ pl ≠ pf ∧ H' pf = some (.lst (as.map V.ref)) ∧ LLa H' as found ∧ (∀ b ∈ as, H b = none ∧ b ≠ pf) ∧ as.Nodup ∧ NdL n left ∧ left.length + 1 ≤ μ ∧ as.length + μ ≤ 5 ∧ runO g μ left found = runO g 5 (List.range n) [] ∧
        σ = [some (natV n), some (.ref pt), some (.ref pl), some (.ref pf), v4, v5, v6],
      ⟨5, pl0, List.range n, [], [], none, none, none, s1, hl0, (fun z => by rw [← z, upd_same] at hpf; cases hpf), hf0, ⟨rfl, nofun⟩, nofun, .nil, ⟨List.nodup_range, fun x hx => List.mem_range.mp hx⟩, by rw [List.length_range]; omega, by simp, rfl, rfl⟩, ?_⟩
    rintro μ σ H1 ⟨pl, left, found, as, v4, v5, v6, S1, hl, nlf, hf, hll, hfr, hnd, ndl, lμ, aμ, er, rfl⟩
    have ll := ndl.len
    refine ⟨_, rfl, sz0, fun pe hpe => ne_nil (K := K) (SqL.of (same_upd hpe _ _ hl)) (SqL.of upd_same) ⟨_, rfl, ?_⟩⟩
    have S1e := S1.trans (same_upd (o := .lst []) hpe)
    have hle := same_upd (o := .lst []) hpe _ _ hl
    have hfe := same_upd (o := .lst []) hpe _ _ hf
    have hlle : LLa (upd H1 pe (.lst [])) as found := hll.mono fun b hb o e => same_upd hpe _ _ e
    have hpte := S1e _ _ hpt
    generalize upd H1 pe (.lst []) = H2 at S1e hle hfe hlle hpte ⊢
    obtain ⟨μ', rfl⟩ : ∃ μ', μ = μ' + 1 := ⟨μ - 1, by omega⟩
    cases left with
    | nil =>
      refine iteF (k3 _ _ ⟨_, rfl, k pf as H2 S1e ff (fun b hb => (hfr b hb).1) (fun hm => (hfr pf hm).2 rfl) hnd hfe ?_⟩)
      show LLa H2 as (runO g 5 (List.range n) [])
      rw [← er]
      exact hlle
    | cons x0 lr =>
      refine iteT ⟨fun σ H' => ∃ pl left found as, ∃ v4 v5 v6 : Option V, Same H H' ∧ H' pl = some (.lst (left.map natV)) ∧ pl ≠ pf ∧ H' pf = some (.lst (as.map V.ref)) ∧ LLa H' as found ∧ (∀ b ∈ as, H b = none ∧ b ≠ pf) ∧ as.Nodup ∧ NdL n left ∧ left.length + 1 ≤ μ' ∧ as.length + μ' ≤ 5 ∧ runO g μ' left found = runO g 5 (List.range n) [] ∧
        σ = [some (natV n), some (.ref pt), some (.ref pl), some (.ref pf), v4, v5, v6], fun σ' H' h => ⟨μ', by omega, h⟩, ?_⟩
      have x0n : x0 < n := ndl.2 x0 (by simp)
      generalize hleft : x0 :: lr = left at *
      have xin : x0 ∈ left := by rw [← hleft]; simp
      have g0 : left.getD 0 0 = x0 := by rw [← hleft]; rfl
      have at0 : atI (left.map natV) 0 = some (natV x0) := by rw [← hleft]; exact atI_nat (j := 0) rfl
      refine cut fun R4 k4 => ⟨_, rfl, pl, _, _, _, rfl, rfl, .inl (SqL.of hle), at0, sz1, fun pp hpp => k4 _ _ ?_⟩
      have s3 := same_upd (o := .lst [natV x0]) hpp
      have hp3 : (upd H2 pp (.lst [natV x0])) pp = some (.lst (([x0] : List Nat).map natV)) := upd_same
      generalize upd H2 pp (.lst [natV x0]) = H3 at s3 hp3 ⊢
      refine cut fun R5 k5 => k5 _ _ ?_
      refine cut fun R6 k6 => ?_
      have S3 := S1e.trans s3
      refine ⟨fun ν σ H' => ∃ pp part gr, ∃ v6 : Option V, Same H3 H' ∧ H' pp = some (.lst (part.map natV)) ∧ NdL n part ∧ x0 ∈ part ∧ (gr = true → 6 ≤ ν - 1 + part.length ∧ 1 ≤ ν ∧ runL g left (ν - 1) part = partL g left) ∧ (gr = false → part = partL g left) ∧ (ν = 0 → gr = false) ∧
          σ = [some (natV n), some (.ref pt), some (.ref pl), some (.ref pf), some (.ref pp), some (.bl gr), v6],
        ⟨6, pp, [x0], true, v6, Same.refl _, hp3, ⟨by simp, fun y hy => by rw [List.mem_singleton.mp hy]; exact x0n⟩, by simp, (fun _ => ⟨by simp, by omega, by unfold partL; rw [g0]⟩), (fun z => by cases z), (fun z => by cases z), rfl⟩, ?_⟩
      rintro ν σ H4 ⟨pp, part, gr, v6, S4, hp4, ndp, xp, gt, gf, gz, rfl⟩
      have pl4 := ndp.len
      refine ⟨_, rfl, _, rfl, ?_⟩
      cases gr with
      | true =>
        obtain ⟨f6, ν1, er2⟩ := gt rfl
        obtain ⟨f, rfl⟩ : ∃ f, ν = f + 2 := ⟨ν - 2, by omega⟩
        have er2 : runL g left (f + 1) part = partL g left := er2
        have f6 : 6 ≤ f + 1 + part.length := by omega
        refine iteT ⟨fun σ H' => ∃ pp part gr, ∃ v6 : Option V, Same H3 H' ∧ H' pp = some (.lst (part.map natV)) ∧ NdL n part ∧ x0 ∈ part ∧ (gr = true → 6 ≤ f + part.length ∧ runL g left f part = partL g left) ∧ (gr = false → part = partL g left) ∧
          σ = [some (natV n), some (.ref pt), some (.ref pl), some (.ref pf), some (.ref pp), some (.bl gr), v6], fun σ' H' h => ?_, ?_⟩
        · obtain ⟨pp', part', gr', v6', h1, h2, h3, h4, h5, h6, h7⟩ := h
          exact ⟨f + 1, by omega, pp', part', gr', v6', h1, h2, h3, h4, (fun z => ⟨by have := (h5 z).1; omega, by omega, (h5 z).2⟩), h6, (fun z => by omega), h7⟩
        have hl4 := S4 _ _ (s3 _ _ hle)
        have hpt4 := S4 _ _ (s3 _ _ hpte)
        refine cut fun R7 k7 => ⟨_, rfl, pl, rfl, ⟨_, SqL.of hl4⟩, fun D hD => ?_⟩
        refine comp_list (K := K) (a := pl) (xs := left.map natV) (fun i acc σ H' => Same H4 H' ∧ H' D = some (.lst acc) ∧ acc = (moreL g (left.take i) part).map natV ∧ ∃ v, σ = [v, some (.ref pp), some (.ref pt)])
          ⟨same_upd hD, upd_same, rfl, none, rfl⟩ (fun i acc σ H' _ e => SqL.of (e.1 _ _ hl4)) ?_ ?_
        · rintro i x acc σ H5 hx ⟨S5, hD5, rfl, v, rfl⟩
          obtain ⟨j, ej, rfl⟩ := get_natV hx
          have hjn : j < n := ndl.2 j (List.mem_of_getElem? ej)
          have il : i < left.length := (List.getElem?_eq_some_iff.mp ej).1
          have nx : moreL g (left.take (i + 1)) part = moreL g (left.take i) part ++ (if (!decide (j ∈ part) && !((part.filter fun i => adG g i j).isEmpty)) = true then [j] else []) := by
            unfold moreL
            exact filt_next ej
          have ml : ((moreL g (left.take i) part).map natV).length ≤ 4 := by
            rw [List.length_map]
            exact Nat.le_trans (List.length_filter_le _ _) (by rw [List.length_take]; omega)
          have hp5 := S5 _ _ hp4
          refine ⟨_, rfl, _, rfl, pp, _, rfl, .inl (SqL.of hp5), rfl, flat_nat part, _, rfl, ?_⟩
          rw [show inV (natV j) (part.map natV) = decide (j ∈ part) from inV_nat j part]
          by_cases hm : j ∈ part
          · rw [decide_eq_true hm] at nx ⊢
            rw [Bool.not_true, Bool.false_and, if_neg Bool.false_ne_true, List.append_nil] at nx
            exact iteF (iteF ⟨S5, hD5, by rw [nx], _, rfl⟩)
          · rw [decide_eq_false hm] at nx ⊢
            rw [Bool.not_false, Bool.true_and] at nx
            refine iteT ?_
            refine ⟨_, rfl, pp, rfl, ⟨_, SqL.of hp5⟩, fun D2 hD2 => ?_⟩
            refine comp_list (K := K) (a := pp) (xs := part.map natV) (fun i acc σ H' => Same H5 H' ∧ H' D2 = some (.lst acc) ∧ acc = ((part.take i).filter fun i => adG g i j).map natV ∧ ∃ v, σ = [v, some (.ref pt), some (natV j)])
              ⟨same_upd hD2, upd_same, rfl, none, rfl⟩ (fun i acc σ H' _ e => SqL.of (e.1 _ _ hp5)) ?_ ?_
            · rintro i2 x acc σ H6 hx ⟨S6, hD6, rfl, v, rfl⟩
              obtain ⟨q, eq, rfl⟩ := get_natV hx
              have hqn : q < n := ndp.2 q (List.mem_of_getElem? eq)
              have hne : q ≠ j := fun e => hm (e ▸ List.mem_of_getElem? eq)
              have nx2 : ((part.take (i2 + 1)).filter fun i => adG g i j) = ((part.take i2).filter fun i => adG g i j) ++ (if adG g q j = true then [q] else []) := by
                exact filt_next eq
              rw [gad hqn hjn hne] at nx2
              have fl : (((part.take i2).filter fun i => adG g i j).map natV).length ≤ 4 := by
                rw [List.length_map]
                exact Nat.le_trans (List.length_filter_le _ _) (by rw [List.length_take]; omega)
              have hpt6 := S6 _ _ (S5 _ _ hpt4)
              refine ⟨_, rfl, _, rfl, sz2, fun t1 ht1 => ⟨_, rfl, pt, _, rfl, DGet.t (k := fkey q j) (same_upd ht1 _ _ hpt6) upd_same, _, rfl, ?_⟩⟩
              rw [htk q j (by omega) (by omega)]
              have fin : ∀ {H7 : Hp}, Same H6 H7 → ∀ b, adT tk q j = b → if b = true then tVar 0 [some (natV q), some (.ref pt), some (natV j)] H7 (fun y H5' => H5' D2 = some (.lst (((part.take i2).filter fun i => adG g i j).map natV)) ∧ (((part.take i2).filter fun i => adG g i j).map natV).length < sizeLine ∧ (Same H5 (upd H5' D2 (.lst (((part.take i2).filter fun i => adG g i j).map natV ++ [y]))) ∧ (upd H5' D2 (.lst (((part.take i2).filter fun i => adG g i j).map natV ++ [y]))) D2 = some (.lst (((part.take i2).filter fun i => adG g i j).map natV ++ [y])) ∧ ((part.take i2).filter fun i => adG g i j).map natV ++ [y] = ((part.take (i2 + 1)).filter fun i => adG g i j).map natV ∧ ∃ v, [some (natV q), some (.ref pt), some (natV j)] = [v, some (.ref pt), some (natV j)])) else (Same H5 H7 ∧ H7 D2 = some (.lst (((part.take i2).filter fun i => adG g i j).map natV)) ∧ ((part.take i2).filter fun i => adG g i j).map natV = ((part.take (i2 + 1)).filter fun i => adG g i j).map natV ∧ ∃ v, [some (natV q), some (.ref pt), some (natV j)] = [v, some (.ref pt), some (natV j)]) := fun {H7} s7 b eb => by
                rw [eb] at nx2
                cases b with
                | true =>
                  rw [if_pos rfl] at nx2
                  exact iteT ⟨_, rfl, s7 _ _ hD6, small1000 (by omega), (S6.trans s7).put hD2, upd_same, by rw [nx2, List.map_append]; rfl, _, rfl⟩
                | false =>
                  rw [if_neg Bool.false_ne_true, List.append_nil] at nx2
                  exact iteF ⟨S6.trans s7, s7 _ _ hD6, by rw [nx2], _, rfl⟩
              cases e1 : tk q j with
              | true => exact iteT (fin (same_upd ht1) true (by unfold adT; rw [e1]; rfl))
              | false =>
                refine iteF ⟨_, rfl, _, rfl, sz2, fun t2 ht2 => ⟨_, rfl, pt, _, rfl, DGet.t (k := fkey j q) (same_upd ht2 _ _ (same_upd ht1 _ _ hpt6)) upd_same, _, rfl, ?_⟩⟩
                rw [htk j q (by omega) (by omega)]
                exact fin ((same_upd ht1).trans (same_upd ht2)) _ (by unfold adT; rw [e1, Bool.false_or])
            · rintro acc σ H6 ⟨S6, hD6, rfl, v, rfl⟩
              rw [List.length_map, List.take_length] at hD6
              refine ⟨sz0, fun pe2 hpe2 => ne_nil (K := K) (SqL.of (same_upd hpe2 _ _ hD6)) (SqL.of upd_same) ⟨_, rfl, ?_⟩⟩
              have S7 := S6.trans (same_upd (o := .lst []) hpe2)
              cases eb : (!((part.filter fun i => adG g i j).isEmpty)) with
              | true =>
                rw [eb, if_pos rfl] at nx
                exact iteT ⟨_, rfl, S7 _ _ hD5, small1000 (by omega), (S5.trans S7).put hD, upd_same, by rw [nx, List.map_append]; rfl, _, rfl⟩
              | false =>
                rw [eb, if_neg Bool.false_ne_true, List.append_nil] at nx
                exact iteF ⟨S5.trans S7, S7 _ _ hD5, by rw [nx], _, rfl⟩
        · rintro acc σ H5 ⟨S5, hD5, rfl, v, rfl⟩
          rw [List.length_map, List.take_length] at hD5
          refine k7 _ _ ?_
          have hp5 := S5 _ _ hp4
          have ml : (moreL g left part).length ≤ 4 := Nat.le_trans (List.length_filter_le _ _) (by omega)
          refine cut fun R8 k8 => ⟨_, rfl, _, rfl, pp, D, _, _, rfl, rfl, hp5, hD5, ?_, fun p2 hp2 => k8 _ _ ?_⟩
          · rw [List.length_map, List.length_map]
            exact Nat.le_of_lt (small1000 (by omega))
          have s6 := same_upd (o := .lst (part.map natV ++ (moreL g left part).map natV)) hp2
          have hp6 : (upd H5 p2 (.lst (part.map natV ++ (moreL g left part).map natV))) p2 = some (.lst ((part ++ moreL g left part).map natV)) := by rw [upd_same, List.map_append]
          generalize upd H5 p2 (.lst (part.map natV ++ (moreL g left part).map natV)) = H6 at s6 hp6 ⊢
          refine ⟨_, rfl, sz0, fun pe2 hpe2 => ne_nil (K := K) (SqL.of (same_upd hpe2 _ _ (s6 _ _ hD5))) (SqL.of upd_same) ?_⟩
          have s7 := same_upd (o := .lst []) hpe2
          refine ⟨p2, part ++ moreL g left part, !(moreL g left part).isEmpty, _, S4.trans (S5.trans (s6.trans s7)), s7 _ _ hp6, nd_more ndl ndp, List.mem_append_left _ xp, fun z => ?_, fun z => ?_, rfl⟩
          · have z : (moreL g left part).isEmpty = false := by simpa using z
            have hpos : 1 ≤ (moreL g left part).length := by
              cases e : moreL g left part with
              | nil => rw [e] at z; cases z
              | cons => simp
            refine ⟨by rw [List.length_append]; omega, ?_⟩
            rw [← er2]
            show _ = if (moreL g left part).isEmpty = true then _ else _
            rw [z, if_neg Bool.false_ne_true]
          · have z : (moreL g left part).isEmpty = true := by simpa using z
            rw [← er2]
            show _ = if (moreL g left part).isEmpty = true then _ else _
            rw [if_pos z, List.isEmpty_iff.mp z, List.append_nil]
      | false =>
        refine iteF (k6 _ _ ?_)
        obtain rfl := gf rfl
        have S34 := s3.trans S4
        have hf4 := S34 _ _ hfe
        have hl4 := S34 _ _ hle
        have hll4 : LLa H4 as found := hlle.mono fun b hb o e => S34 _ _ e
        have SH4 := S1e.trans S34
        have hpi : H4 pp = some (.lst (((partL g left).map fun x : Nat => (x : Int)).map V.int)) := by rw [hp4, List.map_map]; rfl
        refine cut fun R7 k7 => ⟨_, rfl, .inl ⟨rfl, _, SqL.of hf4⟩, _, rfl, pp, _, rfl, SqL.of hpi, by rw [List.length_map]; omega, fun qq ms hq hpm hsm => ?_⟩
        rw [srt_is hpm hsm]
        have s5 := same_upd (o := .lst (((srtN (partL g left)).map fun x : Nat => (x : Int)).map V.int)) hq
        have hq5 : (upd H4 qq (.lst (((srtN (partL g left)).map fun x : Nat => (x : Int)).map V.int))) qq = some (.lst ((srtN (partL g left)).map natV)) := by rw [upd_same, List.map_map]; rfl
        have fq : H qq = none := SH4.free hq
        have nqf : qq ≠ pf := fun z => by rw [z, hf4] at hq; cases hq
        have nin : qq ∉ as := fun hm => by
          obtain ⟨j, hj, rfl⟩ := List.getElem_of_mem hm
          have := hll4.2 j as[j] _ (get_nat hj) (get_nat (show j < found.length by rw [← hll4.1]; exact hj))
          rw [this] at hq; cases hq
        generalize upd H4 qq (.lst (((srtN (partL g left)).map fun x : Nat => (x : Int)).map V.int)) = H5 at s5 hq5 ⊢
        have hf5 := s5 _ _ hf4
        refine ⟨pf, _, _, rfl, rfl, hf5, small1000 (by rw [List.length_map]; omega), k7 _ _ ?_⟩
        have hf6 : (upd H5 pf (.lst (as.map V.ref ++ [.ref qq]))) pf = some (.lst ((as ++ [qq]).map V.ref)) := by rw [upd_same, List.map_append]; rfl
        have S6 : Same H (upd H5 pf (.lst (as.map V.ref ++ [.ref qq]))) := (SH4.trans s5).put ff
        have hl6 : (upd H5 pf (.lst (as.map V.ref ++ [.ref qq]))) pl = some (.lst (left.map natV)) := by rw [upd_ne nlf]; exact s5 _ _ hl4
        have nppf : pp ≠ pf := fun z => by
          rw [z, hf4] at hp4
          cases as with
          | nil =>
            have : (partL g left).map natV = [] := by
              have := Option.some.inj hp4
              injection this with e
              exact e.symm
            have : partL g left = [] := List.map_eq_nil_iff.mp this
            rw [this] at xp; cases xp
          | cons b bs =>
            cases e : partL g left with
            | nil => rw [e] at xp; cases xp
            | cons y ys => rw [e] at hp4; injection hp4 with e2; injection e2 with e3; injection e3 with e4; cases e4
        have hp6 : (upd H5 pf (.lst (as.map V.ref ++ [.ref qq]))) pp = some (.lst ((partL g left).map natV)) := by rw [upd_ne nppf]; exact s5 _ _ hp4
        have hll6 : LLa (upd H5 pf (.lst (as.map V.ref ++ [.ref qq]))) (as ++ [qq]) (found ++ [srtN (partL g left)]) := by
          refine ((hll4.mono fun c hc o e => s5 _ _ e).put hq5).mono fun c hc o e => ?_
          rw [upd_ne (fun z => ?_)]
          · exact e
          · rcases List.mem_append.mp hc with h | h
            · exact (hfr c h).2 z
            · exact nqf ((List.mem_singleton.mp h) ▸ z)
        generalize upd H5 pf (.lst (as.map V.ref ++ [.ref qq])) = H6 at hf6 S6 hl6 hp6 hll6 ⊢
        refine ⟨_, rfl, pl, rfl, ⟨_, SqL.of hl6⟩, fun D hD => ?_⟩
        have nDf : D ≠ pf := fun z => by rw [z, hf6] at hD; cases hD
        refine comp_list (K := K) (a := pl) (xs := left.map natV) (fun i acc σ H' => Same H6 H' ∧ H' D = some (.lst acc) ∧ acc = ((left.take i).filter fun j => !decide (j ∈ partL g left)).map natV ∧ ∃ v, σ = [v, some (.ref pp)])
          ⟨same_upd hD, upd_same, rfl, none, rfl⟩ (fun i acc σ H' _ e => SqL.of (e.1 _ _ hl6)) ?_ ?_
        · rintro i x acc σ H7 hx ⟨S7, hD7, rfl, v, rfl⟩
          obtain ⟨j, ej, rfl⟩ := get_natV hx
          have il : i < left.length := (List.getElem?_eq_some_iff.mp ej).1
          have nx := filt_next (f := fun j => !decide (j ∈ partL g left)) ej
          have fl : (((left.take i).filter fun j => !decide (j ∈ partL g left)).map natV).length ≤ 4 := by
            rw [List.length_map]
            exact Nat.le_trans (List.length_filter_le _ _) (by rw [List.length_take]; omega)
          refine ⟨_, rfl, _, rfl, pp, _, rfl, .inl (SqL.of (S7 _ _ hp6)), rfl, flat_nat _, _, rfl, ?_⟩
          rw [show inV (natV j) ((partL g left).map natV) = decide (j ∈ partL g left) from inV_nat j _]
          cases eb : (!decide (j ∈ partL g left)) with
          | true =>
            rw [eb, if_pos rfl] at nx
            exact iteT ⟨_, rfl, hD7, small1000 (by omega), S7.put hD, upd_same, by rw [nx, List.map_append]; rfl, _, rfl⟩
          | false =>
            rw [eb, if_neg Bool.false_ne_true, List.append_nil] at nx
            exact iteF ⟨S7, hD7, by rw [nx], _, rfl⟩
        · rintro acc σ H7 ⟨S7, hD7, rfl, v, rfl⟩
          rw [List.length_map, List.take_length] at hD7
          refine ⟨D, _, found ++ [srtN (partL g left)], as ++ [qq], _, _, _, S6.trans S7, hD7, nDf, S7 _ _ hf6, hll6.mono fun b hb o e => S7 _ _ e, fun b hb => ?_, List.nodup_append.mpr ⟨hnd, by simp, fun x hx y hy => by rw [List.mem_singleton.mp hy]; exact fun e => nin (e ▸ hx)⟩, nd_filter ndl, ?_, by rw [List.length_append]; show as.length + 1 + μ' ≤ 5; omega, ?_, rfl⟩
          · rcases List.mem_append.mp hb with h | h
            · exact hfr b h
            · rw [List.mem_singleton.mp h]; exact ⟨fq, nqf⟩
          · have : (left.filter fun j => !decide (j ∈ partL g left)).length < left.length := by
              have hx := runL_mem (g := g) (left := left) (f := 5) (p := [left.getD 0 0]) (x := x0) (by rw [g0]; simp)
              have hx : x0 ∈ partL g left := hx
              refine List.length_filter_lt_length_iff_exists.mpr ⟨x0, xin, by simp [hx]⟩
            omega
          · rw [← er]
            show _ = if left.isEmpty = true then _ else _
            rw [if_neg (by rw [← hleft]; exact Bool.false_ne_true)]

theorem ok_law_part (T : Txt K mg Ad) : Def P w K mg base "_law_part" 1 ["_law_top", "_law_bottom"] sp_ratio := by
  refine T.d_law_part.def sc_law_part (fun vs H Q E h => ?_) (fun _ _ _ _ _ _ us hl => match us, hl with | [_, _], _ => rfl) (fun f cdv A outer s H vs Q E hr h => ?_)
  · obtain ⟨a, b, rfl, _⟩ := h
    rfl
  · obtain ⟨t, b, rfl, hb, bb, k⟩ := h
    refine ⟨_, (pss_cons (ps_set (i := 2) sc_law_part.nd rfl (by first | exact Or.inl rfl | exact Or.inr rfl) (pe_callB call_absL (by rfl) T.n_abs bt_abs (pa_cons (pv 0) pa_nil)))
      (pss_cons (ps_set (i := 3) sc_law_part.nd rfl (by first | exact Or.inl rfl | exact Or.inr rfl) (pv 1))
      (pss_cons (ps_while PassesOwn.never (pt_cmpR op_gt (pv 3) pe_int (nomark _)) (pss_cons (ps_set (i := 4) sc_law_part.nd rfl (by first | exact Or.inl rfl | exact Or.inr rfl) (pe_op op_modL (pv 2) (pv 3)))
      (pss_cons (ps_set (i := 2) sc_law_part.nd rfl (by first | exact Or.inl rfl | exact Or.inr rfl) (pv 3))
      (pss_one (ps_set (i := 3) sc_law_part.nd rfl (by first | exact Or.inl rfl | exact Or.inr rfl) (pv 4))))))
      (pss_one (ps_ret (pe_tup (pa_cons (pe_op op_fdivL (pv 0) (pv 2)) (pa_cons (pe_op op_fdivL (pv 1) (pv 2)) pa_nil)))))))), ?_⟩
    refine ⟨_, rfl, _, rfl, fun g0 eg => ⟨_, rfl, ?_⟩⟩
    refine ⟨fun m σ H' => H' = H ∧ ∃ (g l : Int) (r : Option V), σ = [some (.int t), some (.int b), some (.int g), some (.int l), r] ∧ 0 ≤ g ∧ 0 ≤ l ∧ m = l.toNat ∧ Int.gcd g l = Int.gcd t b,
      ⟨_, rfl, g0, b, none, rfl, by omega, by omega, rfl, by rw [eg]; rfl⟩, ?_⟩
    rintro m σ H' ⟨rfl, g, l, r, rfl, hg, hl, rfl, e⟩
    refine ⟨_, rfl, _, _, rfl, rfl, _, rfl, ?_⟩
    refine ite3 (fun h => ?_) (fun h => ?_)
    · have l1 : 0 < l := h
      refine ⟨fun σ' H'' => H'' = H' ∧ σ' = [some (.int t), some (.int b), some (.int l), some (.int (g % l)), some (.int (g % l))], fun σ' H'' ⟨e1, e2⟩ => ?_, ?_⟩
      · have m0 := Int.emod_nonneg g (by omega : l ≠ 0)
        have m1 := Int.emod_lt_of_pos g l1
        exact ⟨(g % l).toNat, by omega, e1, l, g % l, _, e2, hl, m0, rfl, (gstep hg l1).trans e⟩
      · refine ⟨_, rfl, _, rfl, _, _, rfl, rfl, l1, fun r _ _ er => ?_⟩
        subst er
        exact ⟨_, rfl, _, rfl, rfl, rfl⟩
    · have l1 : l = 0 := by omega
      subst l1
      have ec : g = ((Int.gcd t b : Nat) : Int) := by rw [← e, gend hg]
      obtain ⟨c0, cl, fp, fn⟩ := fr_of (by omega : b ≠ 0) ec
      have bc : Bd 8999 g := (bb.le (by omega)).mono (by decide)
      refine ⟨_, rfl, _, rfl, _, _, rfl, rfl, ⟨by omega, bc⟩, fun q eq => ⟨_, rfl, _, rfl, _, _, rfl, rfl, ⟨by omega, bc⟩, fun r er => ⟨sz2, fun p hp => ?_⟩⟩⟩
      subst eq er
      exact k _ _ p _ (fp hb) (same_upd hp) upd_same
/-- a share of a quarter at most, more than nought -/
def Qt (f : Int × Int) : Prop := OkF 100 f ∧ 0 < f.1 ∧ 4 * f.1 ≤ f.2
theorem pos_of {q b : Int} (h : 0 < q * b) (hb : 0 < b) : 0 < q := by
  rcases Int.lt_or_le 0 q with z | z
  · exact z
  · exact absurd (Int.mul_nonpos_of_nonpos_of_nonneg z (Int.le_of_lt hb)) (by omega)
def sp_lshare : Sp := fun vs H Q _ => ∃ c : Int, vs = [.int c] ∧ ∀ p f H', Same H H' → H' p = some (.tup [.int f.1, .int f.2]) → Qt f → Q (.ref p) H'
theorem ok_law_share (T : Txt K mg Ad) : Def P w K mg base "_law_share" 2 ["_law_cell"] sp_lshare := by
  refine T.d_law_share.def sc_law_share (fun vs H Q E h => ?_) (fun _ _ _ _ _ _ us hl => match us, hl with | [_], _ => rfl) (fun f cdv A outer s H vs Q E hr h => ?_)
  · obtain ⟨c, rfl, _⟩ := h
    rfl
  · obtain ⟨c, rfl, k⟩ := h
    refine ⟨_, (pss_cons (ps_set (i := 1) sc_law_share.nd rfl (by first | exact Or.inl rfl | exact Or.inr rfl) (pe_op op_addL pe_int (pe_op op_modL (pe_op op_fdivL (pv 0) pe_int) (pe_op op_subL (pe_op op_powL pe_int pe_int) pe_int))))
      (pss_one (ps_ret (pe_callD (ok_law_part T) (hr.mono (by decide)) (pa_cons (pe_op op_addL pe_int (pe_op op_modL (pe_op op_modL (pe_op op_fdivL (pv 0) pe_int) (pe_op op_powL pe_int pe_int)) (pe_op op_fdivL (pv 1) pe_int))) (pa_cons (pv 1) pa_nil)))))), ?_⟩
    refine cut fun R1 k1 => ⟨_, rfl, _, _, rfl, rfl, ⟨by decide, bdd⟩, fun y1 e1 => ⟨_, _, rfl, rfl, ⟨by decide, by decide, by decide⟩, fun y2 e2 => ⟨_, _, rfl, rfl, fun y3 e3 => ?_⟩⟩⟩
    have e2 : y2 = 1000000000000000000000000000000 := e2.trans (by decide +kernel)
    refine ⟨_, _, rfl, rfl, by omega, fun y4 g0 g1 e4 => ⟨_, _, rfl, rfl, fun b eb => k1 _ _ ?_⟩⟩
    refine ⟨_, rfl, _, _, rfl, rfl, ⟨by decide, bdd⟩, fun z1 f1 => ⟨_, _, rfl, rfl, ⟨by decide, by decide, by decide⟩, fun z2 f2 => ?_⟩⟩
    have f2 : z2 = 100000000000000000000000000000 := f2.trans (by decide +kernel)
    refine ⟨_, _, rfl, rfl, by omega, fun z3 h0 h1 f3 => ⟨_, rfl, _, _, rfl, rfl, ⟨by decide, bdd⟩, fun z4 f4 => ?_⟩⟩
    rw [Int.fdiv_eq_ediv_of_nonneg b (by decide)] at f4
    have f4 : z4 = b / 4 := f4
    refine ⟨_, _, rfl, rfl, by omega, fun z5 i0 i1 f5 => ⟨_, _, rfl, rfl, fun t et => ⟨_, rfl, t, b, rfl, by omega, ?_, fun q r p H' F s' hp => ?_⟩⟩⟩
    · exact (show Bd 100 b from (show Int.natAbs _ < 2 ^ 100 by omega)).mono (by decide)
    · refine k p (q, r) H' s' hp ⟨⟨F.bdq (show Int.natAbs _ < 2 ^ 100 by omega), F.bdr (show Int.natAbs _ < 2 ^ 100 by omega), F.pos⟩, ?_, ?_⟩
      · show 0 < q
        have c1 := F.cross
        have p1 := F.pos
        have : 0 < t * r := Int.mul_pos (by omega) p1
        rw [← c1] at this
        exact pos_of this (by omega)
      · show 4 * q ≤ r
        have c1 := F.cross
        have p1 := F.pos
        have h1 : 4 * q * b ≤ r * b := by
          have e : 4 * q * b = (4 * t) * r := by rw [Int.mul_assoc, c1]; grind
          rw [e, Int.mul_comm r b]
          exact Int.mul_le_mul_of_nonneg_right (by omega) (by omega)
        exact Int.le_of_mul_le_mul_right h1 (by omega)

def tkM (m : HoldM) (i j : Nat) : Bool := underM (0, 1) (m.flow i j)
theorem adT_tkM (m : HoldM) : adT (tkM m) = adjB m := rfl
def rowL (l : List Nat) : PyData := .list (l.map fun n : Nat => PyData.int (n : Int))
theorem dn_LL {H : Hp} : ∀ {as : List Addr} {ls : List (List Nat)}, LLa H as ls → DnA K H (ls.map rowL) (as.map V.ref)
  | [], [], _ => dn_nil
  | [], _ :: _, h => by have := h.1; simp at this
  | _ :: _, [], h => by have := h.1; simp at this
  | a :: as, l :: ls, h => dn_cons (dn_lst (SqL.of (h.2 0 a l rfl rfl)) (dn_nats l)) (dn_LL ⟨by have := h.1; simpa using this, fun i b k e1 e2 => h.2 (i + 1) b k e1 e2⟩)
theorem pl_LL (ls : List (List Nat)) : ∀ d ∈ ls.map rowL, plD 1 d := fun d hd => by
  obtain ⟨l, _, rfl⟩ := List.mem_map.mp hd
  exact pl_nats l
def sp_lright (K : PySem.W.Frag) (C : Addr) : Sp := fun vs H Q _ => ∃ a fp m pt kvs, vs = [.ref a, .ref pt] ∧ HoldAt K C H a fp m ∧ 1 ≤ m.rows.length ∧ TkAt H pt kvs (tkM m) ∧ ∀ H', Same H H' → Q (.bl true) H'
set_option maxHeartbeats 1000000 in
theorem ok_law_right (T : Txt K mg Ad) : Def P w K mg base "_law_right" 9 ["_law_hold", "_law_takes"] (sp_lright K Ad.Hold) := by
  refine T.d_law_right.def sc_law_right (fun vs H Q E h => ?_) (fun _ _ _ _ _ _ us hl => match us, hl with | [_, _], _ => rfl) (fun f cdv A outer s H vs Q E hr h => ?_)
  · obtain ⟨a, fp, m, pt, kvs, rfl, _⟩ := h
    rfl
  · obtain ⟨a, fp, m, pt, kvs, rfl, hh, n1, ⟨hpt, htk⟩, k⟩ := h
    refine ⟨_, (pss_cons (ps_set (i := 2) sc_law_right.nd rfl (by first | exact Or.inl rfl | exact Or.inr rfl) (pe_callD (ok_parts_of T) (hr.mono (by decide)) (pa_cons (pv 0) pa_nil)))
      (pss_cons (ps_set (i := 3) sc_law_right.nd rfl (by first | exact Or.inl rfl | exact Or.inr rfl) (pe_callD (ok_law_parts T) (hr.mono (by decide)) (pa_cons (pe_methD0 (pv 0) T.cl_Hold (okm_Hold_many T) .nil (hr.mono (by decide))) (pa_cons (pv 1) pa_nil))))
      (pss_cons (ps_if (PW.pt (pw_or (pt_not (pt_val (pe_callB call_isinst (by rfl) T.n_isinstance bt_isinstance (pa_cons (pv 2) (pa_cons (pe_bltn (v := V.ty "list") rfl T.n_list bt_list rfl) pa_nil))))) (pw_or1 (pt_cmpR (op_neD hr.units) (pv 2) (pv 3) (nomark _))))) (pss_one (ps_ret pe_bl)) pss_nil)
      (pss_cons (ps_for PassesOwn.never rfl (pi_list (pv 2)) (pg_name (i := 4) sc_law_right.nd rfl (by first | exact Or.inl rfl | exact Or.inr rfl)) (pss_one (ps_if (PW.pt (pw_or (pt_not (pt_val (pe_callB call_isinst (by rfl) T.n_isinstance bt_isinstance (pa_cons (pv 4) (pa_cons (pe_bltn (v := V.ty "list") rfl T.n_list bt_list rfl) pa_nil))))) (pw_or1 (pt_cmpR (op_neD hr.units) (pe_lc ["_law_one"] [] [] .nil rfl (pi_list (pv 4)) (fun _ _ _ _ _ => (pg_name (i := 0) (show (["_law_one"] : List Str).Nodup by decide +kernel) rfl (by first | exact Or.inl rfl | exact Or.inr rfl))) (fun _ _ _ _ _ => (pif_one (pt_val (pe_callB (call_isinstK (K := K) rfl) (by rfl) T.n_isinstance bt_isinstance (pa_cons (pv 0) (pa_cons (pe_bltn (v := V.ty "bool") rfl T.n_bool bt_bool rfl) pa_nil)))))) (fun _ _ _ _ _ => (pv 0)) rfl (by decide +kernel) (by decide +kernel) (by decide +kernel)) (pe_lst pa_nil) (nomark _))))) (pss_one (ps_ret pe_bl)) pss_nil)))
      (pss_cons (ps_expr (pe_bm PySem.F.plainAttrs_list PySem.F.slot_list_append PySem.F.type_list_append mt_append (pe_ix ix_any (pv 2) pe_int (fun _ _ => rfl)) (pa_cons pe_int pa_nil)))
      (pss_cons (ps_expr (pe_bm PySem.F.plainAttrs_list PySem.F.slot_list_append PySem.F.type_list_append mt_append (pv 2) (pa_cons (pe_lst (pa_cons pe_int pa_nil)) pa_nil)))
      (pss_one (ps_ret (pe_cmpR (op_eqD hr.units) (pe_callD (ok_parts_of T) (hr.mono (by decide)) (pa_cons (pv 0) pa_nil)) (pv 3) (nomark _)))))))))), ?_⟩
    obtain ⟨⟨dx, pm, pf, ps, pt', vm, vs, vt, kvs', efp, ha, _⟩, q1, q2, q3, q4⟩ := id hh
    have pe := parts_eq (g6 (adjB m)) q3
    obtain ⟨pl4, pne, pal⟩ := parts_ne (g6 (adjB m)).a (g6 (adjB m)).b (g6 (adjB m)).c (g6 (adjB m)).d (g6 (adjB m)).e (g6 (adjB m)).f ⟨m.rows.length, by omega⟩ n1
    have pl4 : (partsP (g6 (adjB m)) m.rows.length).length ≤ 4 := pl4
    have pne : partsP (g6 (adjB m)) m.rows.length ≠ [] := pne
    have pal : ∀ l ∈ partsP (g6 (adjB m)) m.rows.length, l.length ≤ 4 := fun l hl => by
      have := List.all_eq_true.mp pal l hl
      exact of_decide_eq_true this
    refine cut fun R1 k1 => ⟨_, rfl, a, fp, m, rfl, hh, fun p1 as1 H1 s1 f1 fa1 np1 nd1 hp1 hl1 => k1 _ _ ?_⟩
    refine cut fun R2 k2 => ⟨_, rfl, a, dx, _, rfl, s1 _ _ ha, rfl, a, fp, m, rfl, HoldAt.same s1 hh, _, rfl, m.rows.length, pt, kvs, tkM m, rfl, q3, ⟨s1 _ _ hpt, htk⟩, fun p2 as2 H2 s2 f2 fa2 np2 nd2 hp2 hl2 => k2 _ _ ?_⟩
    rw [adT_tkM, ← pe] at hl2
    generalize hls : partsP (g6 (adjB m)) m.rows.length = ls at hl1 hl2 pl4 pne pal
    have hp1' := s2 _ _ hp1
    have hl1' : LLa H2 as1 ls := hl1.mono fun b hb o e => s2 _ _ e
    refine cut fun R3 k3 => ⟨_, rfl, _, _, _, _, _, rfl, .lst hp1', rfl, rfl, _, rfl, iteF ⟨_, rfl, _, rfl, neD_refl (n := 2) (d := .list (ls.map rowL)) (dn_lst (SqL.of hp1') (dn_LL hl1')) (dn_lst (SqL.of hp2) (dn_LL hl2)) (pl_LL ls) (by decide) ⟨_, rfl, iteF (k3 _ _ ?_)⟩⟩⟩
    refine cut fun R4 k4 => ⟨_, rfl, p1, rfl, ⟨_, SqL.of hp1'⟩, ?_⟩
    refine for_list (K := K) (a := p1) (xs := as1.map V.ref) (fun i σ H' => Same H2 H' ∧ ∃ v4 : Option V, σ = [some (.ref a), some (.ref pt), some (.ref p1), some (.ref p2), v4]) ⟨Same.refl _, none, rfl⟩ (fun i σ H' _ e => SqL.of (e.1 _ _ hp1')) ?_ ?_
    · rintro i x σ H3 hx ⟨s3, v4, rfl⟩
      rw [List.getElem?_map] at hx
      obtain ⟨b, eb, rfl⟩ := Option.map_eq_some_iff.mp hx
      have hi : i < ls.length := by rw [← hl1.1]; exact (List.getElem?_eq_some_iff.mp eb).1
      have hb := s3 _ _ (hl1'.2 i b ls[i] eb (get_nat hi))
      have hlen := pal ls[i] (List.getElem_mem hi)
      refine ⟨_, rfl, _, _, _, _, _, rfl, .lst hb, rfl, rfl, _, rfl, iteF ⟨_, rfl, b, rfl, ⟨_, SqL.of hb⟩, fun D hD => ?_⟩⟩
      refine comp_list (K := K) (a := b) (xs := ls[i].map natV) (fun j acc σ H' => Same H3 H' ∧ H' D = some (.lst acc) ∧ acc = [] ∧ ∃ v, σ = [v]) ⟨same_upd hD, upd_same, rfl, none, rfl⟩ (fun j acc σ H' _ e => SqL.of (e.1 _ _ hb)) ?_ ?_
      · rintro j x acc σ H4 hx ⟨s4, hD4, rfl, v, rfl⟩
        obtain ⟨y, ey, rfl⟩ := get_natV hx
        exact ⟨_, rfl, _, _, _, _, _, rfl, .int _, rfl, kit_int_bool K, _, rfl, iteF ⟨s4, hD4, rfl, _, rfl⟩⟩
      · rintro acc σ H4 ⟨s4, hD4, rfl, v, rfl⟩
        refine ⟨sz0, fun pe2 hpe2 => ne_nil (K := K) (l := []) (SqL.of (same_upd hpe2 _ _ hD4)) (SqL.of upd_same) ⟨_, rfl, iteF ⟨s3.trans (s4.trans (same_upd hpe2)), _, rfl⟩⟩⟩
    · rintro σ H3 ⟨s3, v4, rfl⟩
      refine k4 _ _ ?_
      have hp3 := s3 _ _ hp1'
      have hl3 : LLa H3 as1 ls := hl1'.mono fun b hb o e => s3 _ _ e
      have hd3 := s3 _ _ hp2
      have hl23 : LLa H3 as2 ls := hl2.mono fun b hb o e => s3 _ _ e
      have SH3 := s1.trans (s2.trans s3)
      obtain ⟨b0, bs, eas⟩ : ∃ b0 bs, as1 = b0 :: bs := by
        cases e : as1 with
        | nil => have := hl1.1; rw [e] at this; exact absurd (List.eq_nil_of_length_eq_zero this.symm) pne
        | cons b bs => exact ⟨b, bs, rfl⟩
      obtain ⟨l0, el0⟩ : ∃ l0, ls[0]? = some l0 := ⟨_, List.getElem?_eq_getElem (by rw [← hl1.1, eas]; simp)⟩
      have hb0 := hl3.2 0 b0 l0 (by rw [eas]; rfl) el0
      have hl0 := pal l0 (List.mem_of_getElem? el0)
      have fb0 : H b0 = none := fa1 b0 (by rw [eas]; simp)
      have nb1 : b0 ≠ p1 := fun z => np1 (by rw [eas, z]; simp)
      have at0 : atI (as1.map V.ref) 0 = some (.ref b0) := by rw [eas]; exact atI_nat (j := 0) rfl
      refine cut fun R5 k5 => ⟨_, rfl, p1, _, _, _, rfl, rfl, .inl (SqL.of hp3), at0, .inl ⟨rfl, _, SqL.of hb0⟩, b0, _, _, rfl, rfl, hb0, small1000 (by rw [List.length_map]; omega), k5 _ _ ?_⟩
      have hp4 : (upd H3 b0 (.lst (l0.map natV ++ [.int 7]))) p1 = some (.lst (as1.map V.ref)) := by rw [upd_ne nb1.symm]; exact hp3
      refine cut fun R6 k6 => ⟨_, rfl, .inl ⟨rfl, _, SqL.of hp4⟩, sz1, fun p9 hp9 => ?_⟩
      have s9 := same_upd (o := .lst [.int 9]) hp9
      have ll : as1.length ≤ 4 := by rw [hl1.1]; exact pl4
      refine ⟨p1, _, _, rfl, rfl, s9 _ _ hp4, small1000 (by rw [List.length_map]; omega), k6 _ _ ?_⟩
      have f9 : H p9 = none := by
        cases e : H p9 with
        | none => rfl
        | some o =>
          have : upd H3 b0 (.lst (l0.map natV ++ [.int 7])) p9 = some o := by rw [upd_ne (ne_of_none e fb0)]; exact SH3 _ _ e
          rw [this] at hp9; cases hp9
      have S5 : Same H (upd (upd (upd H3 b0 (.lst (l0.map natV ++ [.int 7]))) p9 (.lst [.int 9])) p1 (.lst (as1.map V.ref ++ [.ref p9]))) := ((SH3.put fb0).put f9).put f1
      have kk : ∀ {b o}, H3 b = some o → b ≠ b0 → b ≠ p1 → (upd (upd (upd H3 b0 (.lst (l0.map natV ++ [.int 7]))) p9 (.lst [.int 9])) p1 (.lst (as1.map V.ref ++ [.ref p9]))) b = some o := fun {b o} e x1 x2 => by
        rw [upd_ne x2]
        exact s9 _ _ (by rw [upd_ne x1]; exact e)
      have in1 : ∀ b ∈ as1, ∃ o, H1 b = some o := fun b hb => by
        obtain ⟨j, hj, rfl⟩ := List.getElem_of_mem hb
        exact ⟨_, hl1.2 j as1[j] _ (get_nat hj) (get_nat (show j < ls.length by rw [← hl1.1]; exact hj))⟩
      obtain ⟨ob0, hob0⟩ := in1 b0 (by rw [eas]; simp)
      have hd5 := kk hd3 (ne_of_none hob0 f2).symm (ne_of_none hp1 f2).symm
      have hl5 : LLa (upd (upd (upd H3 b0 (.lst (l0.map natV ++ [.int 7]))) p9 (.lst [.int 9])) p1 (.lst (as1.map V.ref ++ [.ref p9]))) as2 ls := hl23.mono fun b hb o e => kk e (ne_of_none hob0 (fa2 b hb)).symm (ne_of_none hp1 (fa2 b hb)).symm
      generalize upd (upd (upd H3 b0 (.lst (l0.map natV ++ [.int 7]))) p9 (.lst [.int 9])) p1 (.lst (as1.map V.ref ++ [.ref p9])) = H5 at S5 hd5 hl5 ⊢
      refine ⟨_, rfl, a, fp, m, rfl, HoldAt.same S5 hh, fun p6 as6 H6 s6 f6 fa6 np6 nd6 hp6 hl6 => ?_⟩
      rw [hls] at hl6
      exact ⟨_, rfl, eqD_refl (n := 2) (d := .list (ls.map rowL)) (dn_lst (SqL.of hp6) (dn_LL hl6)) (dn_lst (SqL.of (s6 _ _ hd5)) (dn_LL (hl5.mono fun b hb o e => s6 _ _ e))) (pl_LL ls) (by decide) (k H6 (S5.trans s6))⟩

theorem okm_Hold___init___3 (T : Txt K mg Ad) : MDefE P w K mg base Ad.Hold "__init__" 2 ["self", "most", "cap", "load"] [.int 4, .int 0, .int 0] (sp_init K Ad.Hold) :=
  (bo_Hold___init__ T).mdef T.t_Hold___init__ fun items hv => by
    obtain ⟨u1, u2, u3, rfl, r1, r2, r3⟩ := vals3 hv
    exact ⟨[u1, u2, u3], .cons r1 (.cons r2 (.cons r3 .nil)), fun _ _ _ _ _ _ us hl => match us, (by simpa using hl : us.length = 1) with | [_], _ => ⟨_, rfl, rfl⟩⟩
theorem tk_put {m : HoldM} {kvs : List (List Key × V)} {i j : Nat} {f : Fra} (h : ∀ a b : Nat, a < 4 → b < 4 → (valV kvs (fkey a b)).isSome = tkM m a b) (hf : 0 < f.1) : ∀ a b : Nat, a < 4 → b < 4 → (valV (putK kvs (fkey i j) (.bl true)) (fkey a b)).isSome = tkM (m.setFlow i j f) a b := fun a b ha hb => by
  rw [valV_put]
  unfold tkM
  rw [flow_set]
  by_cases e : a = i ∧ b = j
  · obtain ⟨rfl, rfl⟩ := e
    rw [if_pos rfl, if_pos ⟨rfl, rfl⟩]
    show true = decide (0 * f.2 < f.1 * 1)
    rw [decide_eq_true (by omega)]
  · rw [if_neg (fun z => e (by have := fkey_inj z; omega)), if_neg e]
    exact h a b ha hb
theorem tk_drop {m : HoldM} {kvs : List (List Key × V)} {i j : Nat} (h : ∀ a b : Nat, a < 4 → b < 4 → (valV kvs (fkey a b)).isSome = tkM m a b) : ∀ a b : Nat, a < 4 → b < 4 → (valV (dropK kvs (fkey i j)) (fkey a b)).isSome = tkM (m.setFlow i j (0, 1)) a b := fun a b ha hb => by
  rw [valV_drop]
  unfold tkM
  rw [flow_set]
  by_cases e : a = i ∧ b = j
  · obtain ⟨rfl, rfl⟩ := e
    rw [if_pos rfl, if_pos ⟨rfl, rfl⟩]
    rfl
  · rw [if_neg (fun z => e (by have := fkey_inj z; omega)), if_neg e]
    exact h a b ha hb
theorem iteTN {c A B : Prop} [Decidable c] (hc : ¬ c) (h : A) : if (!decide c) = true then A else B := by rw [decide_eq_false hc]; exact iteT h
/-- what the law has at each turn -/
def Hold69 (K : PySem.W.Frag) (C : Addr) (H0 H : Hp) (x pt : Addr) (n : Nat) : Prop := Same H0 H ∧ H0 pt = none ∧ ∃ fp m kvs, HoldAt K C H x fp m ∧ (∀ b ∈ fp, H0 b = none) ∧ MQ m n ∧ H pt = some (.dT kvs) ∧ FKeys kvs ∧ (∀ a b : Nat, a < 4 → b < 4 → (valV kvs (fkey a b)).isSome = tkM m a b) ∧ pt ∉ fp
theorem Hold69.same {C : Addr} {H0 H H' : Hp} {x pt n : Nat} (h : Hold69 K C H0 H x pt n) (s : Same H H') : Hold69 K C H0 H' x pt n := by
  obtain ⟨a, b, fp, m, kvs, c, d, e, f, g⟩ := h
  exact ⟨a.trans s, b, fp, m, kvs, HoldAt.same s c, d, e, s _ _ f, g⟩
theorem tk_none {m : HoldM} {kvs : List (List Key × V)} {i j : Nat} (h : ∀ a b : Nat, a < 4 → b < 4 → (valV kvs (fkey a b)).isSome = tkM m a b) (hn : valV kvs (fkey i j) = none) : ∀ a b : Nat, a < 4 → b < 4 → (valV kvs (fkey a b)).isSome = tkM (m.setFlow i j (0, 1)) a b := fun a b ha hb => by
  unfold tkM
  rw [flow_set]
  by_cases e : a = i ∧ b = j
  · obtain ⟨rfl, rfl⟩ := e
    rw [if_pos ⟨rfl, rfl⟩, hn]; rfl
  · rw [if_neg e]; exact h a b ha hb
theorem Hold69.put {C : Addr} {H0 H : Hp} {x pt n : Nat} {fp : List Addr} {m : HoldM} {kvs kvs' : List (List Key × V)} (S : Same H0 H) (f0 : H0 pt = none) (hh : HoldAt K C H x fp m) (hf : ∀ b ∈ fp, H0 b = none) (mq : MQ m n) (hpt : H pt = some (.dT kvs)) (npt : pt ∉ fp) (fk : FKeys kvs') (tk : ∀ a b : Nat, a < 4 → b < 4 → (valV kvs' (fkey a b)).isSome = tkM m a b) : Hold69 K C H0 (upd H pt (.dT kvs')) x pt n :=
  ⟨S.put f0, f0, fp, m, kvs', hh.butZ (Z := [pt]) (fun b o e nb => by rw [upd_ne (fun z => nb (by rw [z]; simp))]; exact e) (ts_upd hpt rfl) (fun b hb hz => npt ((List.mem_singleton.mp hz) ▸ hb)), hf, mq, upd_same, fk, tk, npt⟩
set_option maxHeartbeats 2000000 in
theorem ok_law {f : Addr} {fd : FuncData} (F : Fun K "law" "law" s_law f fd) (T : Txt K mg Ad) : FnOk P w K mg base CX0 10 f fd ["_law_script"] (sp_law K) := by
  refine F.ok sc_law (fun vs H Q E h => ?_) (fun cdv A outer s H vs Q E hr h => ?_)
  · obtain ⟨a, ns, rfl, _⟩ := h
    rfl
  · obtain ⟨a, ns, rfl, hS, hlen, hbits, k⟩ := h
    refine ⟨_, (pss_cons (ps_set (i := 1) sc_law.nd rfl (by first | exact Or.inl rfl | exact Or.inr rfl) (pe_makeE0 T.mk_Hold (okm_Hold___init___3 T) (hr.mono (by decide)) T.m_Hold))
      (pss_cons (ps_set (i := 2) sc_law.nd rfl (by first | exact Or.inl rfl | exact Or.inr rfl) (pe_op op_addL pe_int (pe_op op_modL (pe_callD (ok_law_cell_at T) (hr.mono (by decide)) (pa_cons (pv 0) (pa_cons pe_int pa_nil))) pe_int)))
      (pss_cons (ps_for PassesOwn.never rfl (pi_range1 rfl T.n_range (pa_cons (pv 2) pa_nil)) (pg_name (i := 3) sc_law.nd rfl (by first | exact Or.inl rfl | exact Or.inr rfl)) (pss_one (ps_expr (pe_methD (pv 1) T.cl_Hold (okm_Hold_put_room T) .nil (hr.mono (by decide)) (pa_cons (pe_lst (pa_cons (pe_tup (pa_cons (pv 3) (pa_cons pe_int pa_nil))) (pa_cons (pe_tup (pa_cons (pe_op op_addL (pv 3) pe_int) (pa_cons pe_int pa_nil))) pa_nil))) pa_nil)))))
      (pss_cons (ps_set (i := 4) sc_law.nd rfl (by first | exact Or.inl rfl | exact Or.inr rfl) pe_dnewT)
      (pss_cons (ps_for PassesOwn.never rfl (pi_range1 rfl T.n_range (pa_cons (pe_op op_addL pe_int (pe_op op_modL (pe_op op_fdivL (pe_callD (ok_law_cell_at T) (hr.mono (by decide)) (pa_cons (pv 0) (pa_cons pe_int pa_nil))) pe_int) pe_int)) pa_nil)) (pg_name (i := 3) sc_law.nd rfl (by first | exact Or.inl rfl | exact Or.inr rfl)) (pss_cons (ps_set (i := 5) sc_law.nd rfl (by first | exact Or.inl rfl | exact Or.inr rfl) (pe_op op_addL (pe_callD (ok_law_cell_at T) (hr.mono (by decide)) (pa_cons (pv 0) (pa_cons (pe_op op_addL pe_int (pv 3)) pa_nil))) (pe_op op_mulL (pe_op op_mulL pe_int (pv 3)) (pv 3))))
      (pss_cons (ps_set (i := 6) sc_law.nd rfl (by first | exact Or.inl rfl | exact Or.inr rfl) (pe_op op_modL (pv 5) (pv 2)))
      (pss_cons (ps_set (i := 7) sc_law.nd rfl (by first | exact Or.inl rfl | exact Or.inr rfl) (pe_op op_modL (pe_op op_fdivL (pv 5) pe_int) (pv 2)))
      (pss_one (ps_if (pt_cmpR op_ne (pv 6) (pv 7) (nomark _)) (pss_cons (ps_cut (ps_if (pt_cmpR op_eq (pe_op op_modL (pe_op op_fdivL (pv 5) pe_int) pe_int) pe_int (nomark _)) (pss_cons (ps_expr (pe_methD (pv 1) T.cl_Hold (okm_Hold_put_flow T) .nil (hr.mono (by decide)) (pa_cons (pv 6) (pa_cons (pv 7) (pa_cons (pe_tup (pa_cons pe_int (pa_cons pe_int pa_nil))) pa_nil)))))
      (pss_one (ps_expr (pe_dpopT (hu_of hr) (pv 4) (pe_tup (pa_cons (pv 6) (pa_cons (pv 7) pa_nil))) pe_non ⟨rfl, rfl, rfl, rfl⟩)))) (pss_cons (ps_expr (pe_methD (pv 1) T.cl_Hold (okm_Hold_put_flow T) .nil (hr.mono (by decide)) (pa_cons (pv 6) (pa_cons (pv 7) (pa_cons (pe_callD (ok_law_share T) (hr.mono (by decide)) (pa_cons (pv 5) pa_nil)) pa_nil)))))
      (pss_one (ps_dput (hu_of hr) (pv 4) (pe_tup (pa_cons (pv 6) (pa_cons (pv 7) pa_nil))) pe_bl rfl)))))
      (pss_one (ps_if (PW.pt (pw_and (pt_cmpR op_eq (pe_op op_modL (pe_op op_fdivL (pv 5) pe_int) pe_int) pe_int (nomark _)) (pw_and1 (pt_not (pt_val (pe_callD (ok_law_right T) (hr.mono (by decide)) (pa_cons (pv 1) (pa_cons (pv 4) pa_nil)))))))) (pss_one (ps_ret pe_bl)) pss_nil))) pss_nil))))))
      (pss_one (ps_ret (pe_callD (ok_law_right T) (hr.mono (by decide)) (pa_cons (pv 1) (pa_cons (pv 4) pa_nil)))))))))), ?_⟩
    refine cut fun R1 k1 => fun x dx fx fdx nx => ?_
    have st : Same H (upd (upd H dx (.own x)) x (.ins Ad.Hold dx [])) := fun b o hb => by
      rw [upd_ne (ne_of_none hb fx), upd_ne (ne_of_none hb fdx)]; exact hb
    refine ⟨x, dx, 4, 0, 0, rfl, upd_same, by rw [upd_ne nx]; exact upd_same, ⟨by decide, by decide⟩, ⟨by decide, by decide⟩, ⟨by decide, by decide⟩, fun H1 fp1 D1 => ⟨rfl, k1 _ _ ?_⟩⟩
    obtain ⟨S1, F1⟩ := Deed.keep st (fun b hb => by
      simp only [List.mem_cons, List.not_mem_nil, or_false] at hb
      rcases hb with rfl | rfl
      · exact fx
      · exact fdx) D1
    refine cut fun R2 k2 => ⟨_, rfl, a, ns, 0, rfl, S1.seq hS, by decide, fun c0 _ => ⟨_, _, rfl, rfl, by decide, fun y y0 y1 ey => ⟨_, _, rfl, rfl, fun n0 en0 => k2 _ _ ?_⟩⟩⟩
    obtain ⟨n, rfl⟩ : ∃ n : Nat, n0 = (n : Int) := ⟨n0.toNat, by omega⟩
    have n1 : 1 ≤ n := by omega
    have n4 : n ≤ 4 := by omega
    refine cut fun R3 k3 => ⟨_, rfl, _, rfl, by omega, by omega, ?_⟩
    refine for_range (lo := 0) (n := n) (fun i σ H' => Same H H' ∧ (∃ fp m, HoldAt K Ad.Hold H' x fp m ∧ (∀ b ∈ fp, H b = none) ∧ MQ m i ∧ ∀ a b : Nat, m.flow a b = (0, 1)) ∧ ∃ v3 : Option V, σ = [some (.ref a), some (.ref x), some (natV n), v3, none, none, none, none])
      ⟨S1, ⟨fp1, _, D1.at_, F1, MQ.new, fun a b => by simp [HoldM.flow, HoldM.new]⟩, none, rfl⟩ ?_ ?_
    · rintro i σ H2 hi ⟨S2, ⟨fp, m, hh, hf, mq, f0⟩, v3, rfl⟩
      obtain ⟨⟨dx2, pm, pf, ps, pt, vm, vs, vt, kvs, efp, ha2, _⟩, q1, q2, q3, q4⟩ := id hh
      refine ⟨_, rfl, x, dx2, _, rfl, ha2, rfl, _, rfl, sz2, fun t1 ht1 => ⟨_, rfl, _, _, rfl, rfl, fun z ez => ⟨sz2, fun t2 ht2 => ⟨sz2, fun pl hpl => ?_⟩⟩⟩⟩
      have s3 := (same_upd (o := .tup [.int (0 + (i : Int)), .int 1]) ht1).trans ((same_upd (o := .tup [.int z, .int 1]) ht2).trans (same_upd (o := .lst [.ref t1, .ref t2]) hpl))
      have k1' := (same_upd (o := .tup [.int z, .int 1]) ht2).trans (same_upd (o := .lst [.ref t1, .ref t2]) hpl) _ _ (upd_same (H := H2) (a := t1) (o := .tup [.int (0 + (i : Int)), .int 1]))
      have k2' := same_upd (o := .lst [.ref t1, .ref t2]) hpl _ _ (upd_same (H := upd H2 t1 (.tup [.int (0 + (i : Int)), .int 1])) (a := t2) (o := .tup [.int z, .int 1]))
      have k3' : (upd (upd (upd H2 t1 (.tup [.int (0 + (i : Int)), .int 1])) t2 (.tup [.int z, .int 1])) pl (.lst [.ref t1, .ref t2])) pl = some (.lst [.ref t1, .ref t2]) := upd_same
      generalize upd (upd (upd H2 t1 (.tup [.int (0 + (i : Int)), .int 1])) t2 (.tup [.int z, .int 1])) pl (.lst [.ref t1, .ref t2]) = H3 at s3 k1' k2' k3' ⊢
      have okr : ∀ f ∈ [((0 + (i : Int)), (1 : Int)), (z, 1)], OkF 100 f := fun f hf => by
        simp only [List.mem_cons, List.not_mem_nil, or_false] at hf
        rcases hf with rfl | rfl
        · exact ⟨show Int.natAbs _ < 2 ^ 100 by omega, (show Bd 100 (1 : Int) from bdd), (show (0 : Int) < 1 by decide)⟩
        · exact ⟨show Int.natAbs _ < 2 ^ 100 by omega, (show Bd 100 (1 : Int) from bdd), (show (0 : Int) < 1 by decide)⟩
      refine ⟨x, fp, m, pl, _, [((0 + (i : Int)), 1), (z, 1)], rfl, HoldAt.same s3 hh, by rw [mq.rows]; omega, SqL.of k3', dn_cons (dn_fr (f := ((0 + (i : Int)), 1)) (SqT.of k1')) (dn_cons (dn_fr (f := (z, 1)) (SqT.of k2')) dn_nil), okr, (show 2 ≤ 2 by decide), (show 2 ≤ 7 by decide), ?_, ?_, fun H4 fp4 D4 => ?_⟩
      · show (decide ((0 + (i : Int)) * 1 < z * 1) && true) = true
        rw [decide_eq_true (by omega)]; rfl
      · rw [bands_two (fun r hr => by
          rcases List.mem_append.mp hr with h | h
          · exact mq.two r h
          · rw [List.mem_singleton.mp h]; rfl)]
        decide
      · obtain ⟨S4, F4⟩ := Deed.keep (S2.trans s3) hf D4
        exact ⟨S4, ⟨fp4, _, D4.at_, F4, mq.add rfl, f0⟩, _, rfl⟩
    rintro σ H2 ⟨S2, ⟨fp, m, hh, hf, mq, f0⟩, v3, rfl⟩
    refine k3 _ _ ?_
    refine cut fun R4 k4 => fun pt hpt => k4 _ _ ?_
    have s3 := same_upd (o := .dT []) hpt
    have I0 : Hold69 K Ad.Hold H (upd H2 pt (.dT [])) x pt n := by
      refine ⟨S2.trans s3, S2.free hpt, fp, m, [], HoldAt.same s3 hh, hf, mq, upd_same, ⟨by simp, nofun⟩, fun a b _ _ => ?_, fun hm => ?_⟩
      · unfold tkM
        rw [f0 a b]; rfl
      · obtain ⟨o, e⟩ := hh.there pt hm
        rw [hpt] at e; cases e
    generalize upd H2 pt (.dT []) = H3 at I0 ⊢
    clear hh hf mq f0 S2 s3 hpt m fp k1 k2 k3 k4 S1 F1 D1 st
    refine cut fun R5 k5 => ⟨_, rfl, a, ns, 0, rfl, I0.1.seq hS, by decide, fun c1 _ => ⟨_, _, rfl, rfl, ⟨by decide, bdd⟩, fun y2 e2 => ⟨_, _, rfl, rfl, by decide, fun y3 g0 g1 e3 => ⟨_, _, rfl, rfl, fun y4 e4 => ?_⟩⟩⟩⟩
    refine ⟨_, rfl, by omega, by omega, for_range (lo := 0) (n := y4.toNat) (fun i σ H' => Hold69 K Ad.Hold H H' x pt n ∧ ∃ v3 v5 v6 v7 : Option V, σ = [some (.ref a), some (.ref x), some (natV n), v3, some (.ref pt), v5, v6, v7]) ⟨I0, _, _, _, _, rfl⟩ ?_ ?_⟩
    · rintro i σ H4 hi ⟨I4, v3, v5, v6, v7, rfl⟩
      have bi : Bd 100 (0 + (i : Int)) := bdS 100 (by omega) (by omega)
      have hS4 := I4.1.seq hS
      refine cut fun R6 k6 => ⟨_, rfl, _, rfl, _, _, rfl, rfl, fun m1 em1 => ⟨a, ns, m1, rfl, hS4, by omega, fun c2 _ => ?_⟩⟩
      refine ⟨_, rfl, _, _, rfl, rfl, ⟨16, 100, bdd, bi, by decide⟩, fun m2 em2 => ⟨_, rfl, _, _, rfl, rfl, ⟨100, 100, (show Int.natAbs _ < 2 ^ 100 by omega), bi, by decide⟩, fun m3 em3 => ⟨_, _, rfl, rfl, fun c ec => k6 _ _ ?_⟩⟩⟩
      refine cut fun R7 k7 => ⟨_, rfl, _, rfl, _, _, rfl, rfl, by omega, fun o1 o10 o11 eo1 => k7 _ _ ?_⟩
      refine cut fun R8 k8 => ⟨_, rfl, _, _, rfl, rfl, ⟨by decide, bdd⟩, fun d1 ed1 => ⟨_, rfl, _, _, rfl, rfl, by omega, fun o2 o20 o21 eo2 => k8 _ _ ?_⟩⟩
      obtain ⟨p, rfl⟩ : ∃ p : Nat, o1 = (p : Int) := ⟨o1.toNat, by omega⟩
      obtain ⟨q, rfl⟩ : ∃ q : Nat, o2 = (q : Int) := ⟨o2.toNat, by omega⟩
      refine ⟨_, rfl, _, rfl, rfl, _, rfl, ?_⟩
      by_cases epq : p = q
      · subst epq
        exact iteNS rfl ⟨I4, _, _, _, _, rfl⟩
      · refine iteTN (fun e => epq (by have := int_inj.mp e; omega)) ?_
        refine cut fun R9 k9 => ⟨fun σ H' => Hold69 K Ad.Hold H H' x pt n ∧ σ = [some (.ref a), some (.ref x), some (natV n), some (.int (0 + (i : Int))), some (.ref pt), some (.int c), some (natV p), some (natV q)], ?_, ?_⟩
        · obtain ⟨SH, f0, fp, m, kvs, hh, hf, mq, hpt, fk, tk, npt⟩ := I4
          obtain ⟨⟨dx2, pm, pf, ps, pt2, vm, vs, vt, kvs2, efp, ha2, _⟩, q1, q2, q3, q4⟩ := id hh
          have pn : p < m.rows.length := by rw [mq.rows]; omega
          have qn : q < m.rows.length := by rw [mq.rows]; omega
          refine ⟨_, rfl, _, _, rfl, rfl, ⟨by decide, bdd⟩, fun u1 eu1 => ⟨_, _, rfl, rfl, by decide, fun u2 u20 u21 eu2 => ⟨rfl, _, rfl, ite3 (fun z => ?_) fun z => ?_⟩⟩⟩
          · refine cut fun R10 k10 => ⟨_, rfl, x, dx2, _, rfl, ha2, rfl, _, rfl, _, rfl, sz2, fun t1 ht1 => ?_⟩
            have s5 := same_upd (o := .tup [.int 0, .int 1]) ht1
            refine ⟨x, fp, m, p, q, _, (0, 1), rfl, HoldAt.same s5 hh, pn, qn, epq, dn_fr (f := (0, 1)) (SqT.of upd_same), ⟨bdd, bdd, by decide⟩, by decide, mq.fits q4 (by omega) n4 (by decide) (by decide) (by decide), fun H6 fp6 D6 => k10 _ _ ?_⟩
            obtain ⟨S6, F6⟩ := Deed.keep (SH.trans s5) hf D6
            have hpt6 := D6.but _ _ (s5 _ _ hpt) npt
            have npt6 : pt ∉ fp6 := fun hm => by
              rcases D6.own pt hm with h | h
              · exact npt h
              · rw [s5 _ _ hpt] at h; cases h
            have mq6 := mq.set (f := (0, 1)) epq (by decide) (by decide)
            refine ⟨_, rfl, pt, rfl, .inr ⟨_, .inl hpt6⟩, _, rfl, _, rfl, sz2, fun kp hkp => ?_⟩
            have s7 := same_upd (o := .tup [natV p, natV q]) hkp
            refine ⟨kvs, fkey p q, kp, s7 _ _ hpt6, rfl, upd_same, fun v hv => ?_, fun hn => ?_⟩
            · exact ⟨Hold69.put (S6.trans s7) f0 (HoldAt.same s7 D6.at_) F6 mq6 (s7 _ _ hpt6) npt6 (fk.drop _) (tk_drop tk), rfl⟩
            · exact ⟨⟨S6.trans s7, f0, fp6, _, kvs, HoldAt.same s7 D6.at_, F6, mq6, s7 _ _ hpt6, fk, tk_none tk hn, npt6⟩, rfl⟩
          · refine cut fun R10 k10 => ⟨_, rfl, x, dx2, _, rfl, ha2, rfl, _, rfl, _, rfl, _, rfl, c, rfl, fun t1 f1 H5 s5 ht1 qt => ?_⟩
            obtain ⟨okf, fpos, fq⟩ := qt
            refine ⟨x, fp, m, p, q, _, f1, rfl, HoldAt.same s5 hh, pn, qn, epq, dn_fr (SqT.of ht1), okf, by omega, mq.fits q4 (by omega) n4 (by omega) okf.p fq, fun H6 fp6 D6 => k10 _ _ ?_⟩
            obtain ⟨S6, F6⟩ := Deed.keep (SH.trans s5) hf D6
            have hpt6 := D6.but _ _ (s5 _ _ hpt) npt
            have npt6 : pt ∉ fp6 := fun hm => by
              rcases D6.own pt hm with h | h
              · exact npt h
              · rw [s5 _ _ hpt] at h; cases h
            have mq6 := mq.set (f := f1) epq (by omega) fq
            refine ⟨_, rfl, _, rfl, _, rfl, sz2, fun kp hkp => ?_⟩
            have s7 := same_upd (o := .tup [natV p, natV q]) hkp
            refine ⟨pt, _, rfl, DPut.t (k := fkey p q) (s7 _ _ hpt6) upd_same (Nat.lt_of_le_of_lt fk.len (by decide)), ?_⟩
            exact ⟨Hold69.put (S6.trans s7) f0 (HoldAt.same s7 D6.at_) F6 mq6 (s7 _ _ hpt6) npt6 (fk.put (by omega) (by omega) _) (tk_put tk fpos), rfl⟩
        · rintro σ' H6 ⟨I6, rfl⟩
          refine k9 _ _ ?_
          refine ⟨_, rfl, _, _, rfl, rfl, ⟨by decide, bdd⟩, fun u1 eu1 => ⟨_, _, rfl, rfl, by decide, fun u2 u20 u21 eu2 => ⟨rfl, _, rfl, ite3 (fun z => ?_) fun z => iteF ⟨I6, _, _, _, _, rfl⟩⟩⟩⟩
          obtain ⟨SH, f0, fp, m, kvs, hh, hf, mq, hpt, fk, tk, npt⟩ := id I6
          exact ⟨_, rfl, _, rfl, x, fp, m, pt, kvs, rfl, hh, by rw [mq.rows]; exact n1, ⟨hpt, tk⟩, fun H7 s7 => ⟨_, rfl, iteF ⟨I6.same s7, _, _, _, _, rfl⟩⟩⟩
    · rintro σ H4 ⟨I4, v3, v5, v6, v7, rfl⟩
      refine k5 _ _ ?_
      obtain ⟨SH, f0, fp, m, kvs, hh, hf, mq, hpt, fk, tk, npt⟩ := I4
      exact ⟨_, rfl, _, rfl, x, fp, m, pt, kvs, rfl, hh, by rw [mq.rows]; exact n1, ⟨hpt, tk⟩, fun H5 s5 => k H5⟩

end
theorem walk {l : PySem.W.OpenLaw} {q : Program} {loose : List Str} {XP : (Str → Option Value) → Heap → Prop} {YP : World → Heap → Prop} {d : DefRec} {K : Params → PySem.W.Frag} (hn : l.most = some 63) (hdf : d.params.defaults = []) (hname : d.name = "law")
    (hY : ∀ (w : World) (h : Heap), YP w h → (K w.params).In h)
    (F : ∀ (w : World) (mg : Str → Option Value) (h : Heap), (K w.params).In h → h.Ns mainGlobals mg → ∃ A, Txt (K w.params) mg A) :
    PySem.W.WalkO q loose XP YP l.row.toRowW d [] (fun f vs => PySem.call f vs) :=
  L2.walk_ofB (k := 10) (x := "_law_script") hn hdf ⟨rfl, by decide, by decide⟩ hY
    (fun w mg fa h KX G hmg => by
      obtain ⟨_, T⟩ := F w mg h KX G
      obtain ⟨f, fd, hm, Fd⟩ := id T.d_law
      rw [hname] at hmg
      have e := hmg.symm.trans hm
      cases e
      exact ⟨fd, Fd.binds1 (fun _ _ _ _ _ _ _ => rfl), fun base _ _ => ok_law Fd T⟩)
end K69
def PySem.W.Fast.tw1325164704926989415 : Nat := 0
def PySem.W.Fast.tw396007921981597254 : Nat := 0
def PySem.W.Fast.tw3092204163407168030 : Nat := 0
def PySem.W.Fast.tw14724983923816045765 : Nat := 0
def PySem.W.Fast.tw9558888154464486283 : Nat := 0
def PySem.W.Fast.tw17606837989920744868 : Nat := 0
def PySem.W.Fast.tw8707382595560391450 : Nat := 0
def PySem.W.Fast.tw1992251123431110609 : Nat := 0
def PySem.W.Fast.tw1046575805198948200 : Nat := 0
def PySem.W.Fast.tw1567187419742825925 : Nat := 0
def PySem.W.Fast.tw15944237566744892720 : Nat := 0
def PySem.W.Fast.tw16251789538995707092 : Nat := 0
def PySem.W.Fast.tw13061297601499235099 : Nat := 0
def PySem.W.Fast.tw9253753020964690790 : Nat := 0
def PySem.W.Fast.tw17961698316184421846 : Nat := 0
def PySem.W.Fast.tw15009054375122894523 : Nat := 0
def PySem.W.Fast.tw16451437651746627291 : Nat := 0
def PySem.W.Fast.tw10352419176219869801 : Nat := 0
def PySem.W.Fast.tw13128567001680233498 : Nat := 0
def PySem.W.Fast.tw1239027010675372326 : Nat := 0
def PySem.W.Fast.tw16527036675990304595 : Nat := 0
def PySem.W.Fast.tw16803414042900010735 : Nat := 0
def PySem.W.Fast.tw13989845416546882138 : Nat := 0
def PySem.W.Fast.tw13404374534422606969 : Nat := 0
def PySem.W.Fast.tw4232002086205294372 : Nat := 0
def PySem.W.Fast.tw5889997524580165978 : Nat := 0
def PySem.W.Fast.tw8211879116301527974 : Nat := 0
def PySem.W.Fast.tw16198821249308386261 : Nat := 0
def PySem.W.Fast.tw14357723792461650662 : Nat := 0
def PySem.W.Fast.tw15122393506131801004 : Nat := 0
def PySem.W.Fast.tw14090064609415910522 : Nat := 0
def PySem.W.Fast.tw17583966027986252716 : Nat := 0
def PySem.W.Fast.tw5576986264523507046 : Nat := 0
def PySem.W.Fast.tw6320038289256329488 : Nat := 0
def PySem.W.Fast.tw12752771776597004773 : Nat := 0
def PySem.W.Fast.tw7985248800829872687 : Nat := 0
def PySem.W.Fast.tw16252480548000606663 : Nat := 0
def PySem.W.Fast.tw4653387491147139527 : Nat := 0
def PySem.W.Fast.tw11596419678291975500 : Nat := 0
open PySem PySem.W PyProof.Rows
set_option maxRecDepth 100000 in
set_option maxHeartbeats 0 in
theorem PySem.Challenge.cw_stoke_k69_parts_of_a_hold_holds : PySem.Challenge.rw_stoke_k69_parts_of_a_hold.Holds := by
  w_on; o_law; k_head; (case hw => w_witness2)
  k_fill
  refine K69.walk (l := PySem.Challenge.rw_stoke_k69_parts_of_a_hold) rfl rfl rfl (fun w h Y => PySem.W.kIn_of Y) ?F
  case F =>
    intro w mg h KX G
    refine' ⟨_, K69.txt_mk KX G ?y_Hold ?y_NOUGHT ?y_WHOLE ?i_LEAST_MARKS ?i_MOST_BANDS ?i_MOST_BURNING ?i_MOST_CAP ?i_MOST_LOAD ?i_MOST_MARKS ?i_MOST_ROOMS ?q_NOUGHT ?q_WHOLE ?pg_Hold ?hd_Hold ?po_Hold ?sa_Hold ?mk_Hold ?kc_Hold ?na_Hold_most ?na_Hold_cap ?na_Hold_load ?na_Hold_mark_rows ?na_Hold_flows ?na_Hold_skies ?na_Hold_stoves ?at_Hold___init__ ?fn_Hold___init__ ?l_Hold___init__ ?co_Hold___init__ ?k_Hold___init__ ?t_Hold___init__ ?at_Hold_put_room ?fn_Hold_put_room ?l_Hold_put_room ?co_Hold_put_room ?k_Hold_put_room ?at_Hold_put_flow ?fn_Hold_put_flow ?l_Hold_put_flow ?co_Hold_put_flow ?k_Hold_put_flow ?at_Hold_put_sky ?fn_Hold_put_sky ?l_Hold_put_sky ?co_Hold_put_sky ?k_Hold_put_sky ?at_Hold_put_stove ?fn_Hold_put_stove ?l_Hold_put_stove ?co_Hold_put_stove ?k_Hold_put_stove ?t_Hold_put_stove ?at_Hold_many ?fn_Hold_many ?l_Hold_many ?co_Hold_many ?k_Hold_many ?at_Hold_marks ?fn_Hold_marks ?l_Hold_marks ?co_Hold_marks ?k_Hold_marks ?at_Hold_share ?fn_Hold_share ?l_Hold_share ?co_Hold_share ?k_Hold_share ?at_Hold_sky ?fn_Hold_sky ?l_Hold_sky ?co_Hold_sky ?k_Hold_sky ?at_Hold_stove ?fn_Hold_stove ?l_Hold_stove ?co_Hold_stove ?k_Hold_stove ?at_Hold_own_share ?fn_Hold_own_share ?l_Hold_own_share ?co_Hold_own_share ?k_Hold_own_share ?at_Hold_look_for ?fn_Hold_look_for ?l_Hold_look_for ?co_Hold_look_for ?k_Hold_look_for ?at_Hold_look_at_share ?fn_Hold_look_at_share ?l_Hold_look_at_share ?co_Hold_look_at_share ?k_Hold_look_at_share ?a_wall ?l_wall ?co_wall ?k_wall ?a_divisor ?l_divisor ?co_divisor ?k_divisor ?a_fraction ?l_fraction ?co_fraction ?k_fraction ?a_plus ?l_plus ?co_plus ?k_plus ?a_minus ?l_minus ?co_minus ?k_minus ?a_under ?l_under ?co_under ?k_under ?a_is_whole_upto ?l_is_whole_upto ?co_is_whole_upto ?k_is_whole_upto ?a_is_rising ?l_is_rising ?co_is_rising ?k_is_rising ?a_bands_together ?l_bands_together ?co_bands_together ?k_bands_together ?a_parts_of ?l_parts_of ?co_parts_of ?k_parts_of ?a_part_of ?l_part_of ?co_part_of ?k_part_of ?a_takes_or_gives ?l_takes_or_gives ?co_takes_or_gives ?k_takes_or_gives ?a_law_cell_at ?l_law_cell_at ?co_law_cell_at ?k_law_cell_at ?a_law_part ?l_law_part ?co_law_part ?k_law_part ?a_law_share ?l_law_share ?co_law_share ?k_law_share ?a_law_parts ?l_law_parts ?co_law_parts ?k_law_parts ?a_law_right ?l_law_right ?co_law_right ?k_law_right ?a_law ?l_law ?co_law ?k_law ?z_abs ?z_all ?z_any ?z_bool ?z_dict ?z_int ?z_isinstance ?z_len ?z_list ?z_range ?z_sorted ?z_tuple ?z_zip⟩
    (case y_Hold => k_is)
    (case y_NOUGHT => k_is)
    (case y_WHOLE => k_is)
    (case i_LEAST_MARKS => k_is)
    (case i_MOST_BANDS => k_is)
    (case i_MOST_BURNING => k_is)
    (case i_MOST_CAP => k_is)
    (case i_MOST_LOAD => k_is)
    (case i_MOST_MARKS => k_is)
    (case i_MOST_ROOMS => k_is)
    (case q_NOUGHT => k_is)
    (case q_WHOLE => k_is)
    (case pg_Hold => k_is)
    (case hd_Hold => k_is)
    (case po_Hold => k_is)
    (case sa_Hold => k_is)
    (case mk_Hold => k_is)
    (case kc_Hold => k_is)
    (case na_Hold_most => k_is)
    (case na_Hold_cap => k_is)
    (case na_Hold_load => k_is)
    (case na_Hold_mark_rows => k_is)
    (case na_Hold_flows => k_is)
    (case na_Hold_skies => k_is)
    (case na_Hold_stoves => k_is)
    (case at_Hold___init__ => k_is)
    (case fn_Hold___init__ => k_is)
    (case l_Hold___init__ => k_is)
    (case co_Hold___init__ => k_is)
    (case k_Hold___init__ => k_is)
    (case t_Hold___init__ => k_is)
    (case at_Hold_put_room => k_is)
    (case fn_Hold_put_room => k_is)
    (case l_Hold_put_room => k_is)
    (case co_Hold_put_room => k_is)
    (case k_Hold_put_room => k_is)
    (case at_Hold_put_flow => k_is)
    (case fn_Hold_put_flow => k_is)
    (case l_Hold_put_flow => k_is)
    (case co_Hold_put_flow => k_is)
    (case k_Hold_put_flow => k_is)
    (case at_Hold_put_sky => k_is)
    (case fn_Hold_put_sky => k_is)
    (case l_Hold_put_sky => k_is)
    (case co_Hold_put_sky => k_is)
    (case k_Hold_put_sky => k_is)
    (case at_Hold_put_stove => k_is)
    (case fn_Hold_put_stove => k_is)
    (case l_Hold_put_stove => k_is)
    (case co_Hold_put_stove => k_is)
    (case k_Hold_put_stove => k_is)
    (case t_Hold_put_stove => k_is)
    (case at_Hold_many => k_is)
    (case fn_Hold_many => k_is)
    (case l_Hold_many => k_is)
    (case co_Hold_many => k_is)
    (case k_Hold_many => k_is)
    (case at_Hold_marks => k_is)
    (case fn_Hold_marks => k_is)
    (case l_Hold_marks => k_is)
    (case co_Hold_marks => k_is)
    (case k_Hold_marks => k_is)
    (case at_Hold_share => k_is)
    (case fn_Hold_share => k_is)
    (case l_Hold_share => k_is)
    (case co_Hold_share => k_is)
    (case k_Hold_share => k_is)
    (case at_Hold_sky => k_is)
    (case fn_Hold_sky => k_is)
    (case l_Hold_sky => k_is)
    (case co_Hold_sky => k_is)
    (case k_Hold_sky => k_is)
    (case at_Hold_stove => k_is)
    (case fn_Hold_stove => k_is)
    (case l_Hold_stove => k_is)
    (case co_Hold_stove => k_is)
    (case k_Hold_stove => k_is)
    (case at_Hold_own_share => k_is)
    (case fn_Hold_own_share => k_is)
    (case l_Hold_own_share => k_is)
    (case co_Hold_own_share => k_is)
    (case k_Hold_own_share => k_is)
    (case at_Hold_look_for => k_is)
    (case fn_Hold_look_for => k_is)
    (case l_Hold_look_for => k_is)
    (case co_Hold_look_for => k_is)
    (case k_Hold_look_for => k_is)
    (case at_Hold_look_at_share => k_is)
    (case fn_Hold_look_at_share => k_is)
    (case l_Hold_look_at_share => k_is)
    (case co_Hold_look_at_share => k_is)
    (case k_Hold_look_at_share => k_is)
    (case a_wall => k_is)
    (case l_wall => k_is)
    (case co_wall => k_is)
    (case k_wall => k_is)
    (case a_divisor => k_is)
    (case l_divisor => k_is)
    (case co_divisor => k_is)
    (case k_divisor => k_is)
    (case a_fraction => k_is)
    (case l_fraction => k_is)
    (case co_fraction => k_is)
    (case k_fraction => k_is)
    (case a_plus => k_is)
    (case l_plus => k_is)
    (case co_plus => k_is)
    (case k_plus => k_is)
    (case a_minus => k_is)
    (case l_minus => k_is)
    (case co_minus => k_is)
    (case k_minus => k_is)
    (case a_under => k_is)
    (case l_under => k_is)
    (case co_under => k_is)
    (case k_under => k_is)
    (case a_is_whole_upto => k_is)
    (case l_is_whole_upto => k_is)
    (case co_is_whole_upto => k_is)
    (case k_is_whole_upto => k_is)
    (case a_is_rising => k_is)
    (case l_is_rising => k_is)
    (case co_is_rising => k_is)
    (case k_is_rising => k_is)
    (case a_bands_together => k_is)
    (case l_bands_together => k_is)
    (case co_bands_together => k_is)
    (case k_bands_together => k_is)
    (case a_parts_of => k_is)
    (case l_parts_of => k_is)
    (case co_parts_of => k_is)
    (case k_parts_of => k_is)
    (case a_part_of => k_is)
    (case l_part_of => k_is)
    (case co_part_of => k_is)
    (case k_part_of => k_is)
    (case a_takes_or_gives => k_is)
    (case l_takes_or_gives => k_is)
    (case co_takes_or_gives => k_is)
    (case k_takes_or_gives => k_is)
    (case a_law_cell_at => k_is)
    (case l_law_cell_at => k_is)
    (case co_law_cell_at => k_is)
    (case k_law_cell_at => k_is)
    (case a_law_part => k_is)
    (case l_law_part => k_is)
    (case co_law_part => k_is)
    (case k_law_part => k_is)
    (case a_law_share => k_is)
    (case l_law_share => k_is)
    (case co_law_share => k_is)
    (case k_law_share => k_is)
    (case a_law_parts => k_is)
    (case l_law_parts => k_is)
    (case co_law_parts => k_is)
    (case k_law_parts => k_is)
    (case a_law_right => k_is)
    (case l_law_right => k_is)
    (case co_law_right => k_is)
    (case k_law_right => k_is)
    (case a_law => k_is)
    (case l_law => k_is)
    (case co_law => k_is)
    (case k_law => k_is)
    (case z_abs => k_is)
    (case z_all => k_is)
    (case z_any => k_is)
    (case z_bool => k_is)
    (case z_dict => k_is)
    (case z_int => k_is)
    (case z_isinstance => k_is)
    (case z_len => k_is)
    (case z_list => k_is)
    (case z_range => k_is)
    (case z_sorted => k_is)
    (case z_tuple => k_is)
    (case z_zip => k_is)

