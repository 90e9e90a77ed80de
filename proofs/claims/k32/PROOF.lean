import PyProof.Rows.All
import Wide.All
import OpenK.AllK
import Wide.FinOn
import Lean
import PyProof.EqAt
import PyProof.EqKinds
import PyProof.TupleCall
import PySem.Challenge.RW_stoke_k32_plain_keepers
set_option Elab.async false
set_option linter.all false
set_option maxRecDepth 100000
namespace L2
open PySem PySem.Spec PyProof.Rows

/-- a key: an int or a str -/
abbrev Key := Sum Int Str
def keyIs : Key → Value → Bool
  | .inl k, v => Value.isInt k v
  | .inr x, v => Value.isStrOf x v
def keyH (w : World) : Key → Int
  | .inl k => hashInt k
  | .inr x => hashStr w x
theorem keyIs_shape : ∀ {k : Key} {v : Value}, keyIs k v = true → (∃ i t, k = Sum.inl i ∧ v = Value.int i t) ∨ (∃ x t, k = Sum.inr x ∧ v = Value.str x t)
  | .inl i, v, h => by
    obtain ⟨t, e⟩ := Value.isInt_shape (k := i) (v := v) h
    exact .inl ⟨i, t, rfl, e⟩
  | .inr x, v, h => by
    obtain ⟨t, e⟩ := Value.isStrOf_shape (x := x) (v := v) h
    exact .inr ⟨x, t, rfl, e⟩
theorem keyIs_int (i : Int) (t : Tok) : keyIs (.inl i) (.int i t) = true := by simp [keyIs, Value.isInt]
theorem keyIs_str (x : Str) (t : Tok) : keyIs (.inr x) (.str x t) = true := by simp [keyIs, Value.isStrOf]
theorem key_ll (a b : Int) : decide ((Sum.inl a : Key) = Sum.inl b) = (a == b) := by
  by_cases e : a = b
  · subst e; simp
  · have h : ¬ (Sum.inl a : Key) = Sum.inl b := fun q => e (Sum.inl.inj q)
    rw [decide_eq_false h]
    exact (beq_eq_false_iff_ne.mpr e).symm
theorem key_rr (a b : Str) : decide ((Sum.inr a : Key) = Sum.inr b) = decide (a = b) := by
  by_cases e : a = b
  · subst e; simp
  · have h : ¬ (Sum.inr a : Key) = Sum.inr b := fun q => e (Sum.inr.inj q)
    rw [decide_eq_false h, decide_eq_false e]
theorem key_lr (a : Int) (b : Str) : decide ((Sum.inl a : Key) = Sum.inr b) = false := decide_eq_false (fun q => nomatch q)
theorem key_rl (a : Str) (b : Int) : decide ((Sum.inr a : Key) = Sum.inl b) = false := decide_eq_false (fun q => nomatch q)

def mixKind (prog : Program) (w : World) : PySem.KeyKind prog w Key where
  is := keyIs
  hash := keyH w
  inj := fun v a b ha hb => by
    rcases keyIs_shape ha with ⟨i, t, rfl, rfl⟩ | ⟨x, t, rfl, rfl⟩
    · rcases keyIs_shape hb with ⟨j, u, rfl, e⟩ | ⟨y, u, rfl, e⟩
      · injection e with e1 _; rw [e1]
      · exact nomatch e
    · rcases keyIs_shape hb with ⟨j, u, rfl, e⟩ | ⟨y, u, rfl, e⟩
      · exact nomatch e
      · injection e with e1 _; rw [e1]
  byValue := fun k v h => by
    rcases keyIs_shape h with ⟨i, t, rfl, rfl⟩ | ⟨x, t, rfl, rfl⟩ <;> rfl
  pyHash := fun hv h => by
    rcases keyIs_shape hv with ⟨i, t, rfl, rfl⟩ | ⟨x, t, rfl, rfl⟩
    · exact wpAny_pyHash_int h
    · exact wpAny_pyHash_str h
  eqBool := fun hu hv h => by
    rcases keyIs_shape hu with ⟨i, t, rfl, rfl⟩ | ⟨x, t, rfl, rfl⟩
    · rcases keyIs_shape hv with ⟨j, u, rfl, rfl⟩ | ⟨y, u, rfl, rfl⟩
      · rw [key_ll] at h; exact wpAny_eqBool_int h
      · rw [key_lr] at h; exact SeqAt.EqAt.int_str i t y u _ _ _ _ h
    · rcases keyIs_shape hv with ⟨j, u, rfl, rfl⟩ | ⟨y, u, rfl, rfl⟩
      · rw [key_rl] at h; exact SeqAt.EqAt.str_int x t j u _ _ _ _ h
      · rw [key_rr] at h; exact wpAny_eqBool_str h
  «strs» := fun k x t v h => by
    rcases keyIs_shape h with ⟨i, u, rfl, e⟩ | ⟨y, u, rfl, e⟩
    · exact nomatch e
    · injection e with e1 _
      subst e1
      cases v <;> rfl

theorem mixKind_int (prog : Program) (w : World) (i : Int) (t : Tok) : (mixKind prog w).is (.inl i) (.int i t) = true := keyIs_int i t
theorem mixKind_str (prog : Program) (w : World) (x : Str) (t : Tok) : (mixKind prog w).is (.inr x) (.str x t) = true := keyIs_str x t
end L2

namespace L2
open PySem PySem.Spec PyProof.Rows

/-- a value, without the heap -/
inductive V where
  | non | bl (b : Bool) | int (i : Int) | str (x : Str) | byt (b : Array UInt8) | flt (b : UInt64) | ref (a : Addr) | ty (n : String)
  deriving DecidableEq

def RelV : V → Value → Prop
  | .non, u => u = Value.none
  | .bl b, u => u = Value.bool b
  | .int i, u => ∃ t, u = Value.int i t
  | .str x, u => ∃ t, u = Value.str x t
  | .byt b, u => ∃ t, u = Value.bytes b t
  | .flt b, u => ∃ t, u = Value.float b t
  | .ref a, u => u = Value.ref a
  | .ty n, u => u = Value.type n

abbrev Vals : List V → List Value → Prop := Paired RelV
theorem Vals.length {xs : List V} {us : List Value} (r : Vals xs us) : xs.length = us.length := Paired.length r
theorem Vals.get : ∀ {xs : List V} {us : List Value} {i : Nat} {x : V}, Vals xs us → xs[i]? = some x → ∃ u, us[i]? = some u ∧ RelV x u
  | _, _, _, _, .nil, e => by simp at e
  | _, _, 0, _, .cons r _, e => by simp at e; subst e; exact ⟨_, rfl, r⟩
  | _, _, i + 1, x, .cons _ t, e => by
    obtain ⟨u, h1, h2⟩ := Vals.get (i := i) (x := x) t (by simpa using e)
    exact ⟨u, by simpa using h1, h2⟩
theorem Vals.set {x : V} {u : Value} (r : RelV x u) : ∀ {xs : List V} {us : List Value} (i : Nat), Vals xs us → Vals (xs.set i x) (us.set i u)
  | _, _, _, .nil => .nil
  | _, _, 0, .cons _ t => .cons r t
  | _, _, i + 1, .cons q t => .cons q (Vals.set r i t)
theorem Vals.append : ∀ {xs ys : List V} {us ws : List Value}, Vals xs us → Vals ys ws → Vals (xs ++ ys) (us ++ ws)
  | _, _, _, _, .nil, s => s
  | _, _, _, _, .cons r t, s => .cons r (Vals.append t s)
theorem Vals.take : ∀ {xs : List V} {us : List Value} (n : Nat), Vals xs us → Vals (xs.take n) (us.take n)
  | _, _, 0, _ => .nil
  | _, _, _ + 1, .nil => .nil
  | _, _, n + 1, .cons r t => .cons r (Vals.take n t)
theorem Vals.drop : ∀ {xs : List V} {us : List Value} (n : Nat), Vals xs us → Vals (xs.drop n) (us.drop n)
  | _, _, 0, r => r
  | _, _, _ + 1, .nil => .nil
  | _, _, n + 1, .cons _ t => Vals.drop n t
theorem Vals.none_of : ∀ {xs : List V} {us : List Value} {i : Nat}, Vals xs us → xs[i]? = none → us[i]? = none := fun {xs us i} r e => by
  have h1 := r.length
  have h2 : xs.length ≤ i := List.getElem?_eq_none_iff.mp e
  exact List.getElem?_eq_none_iff.mpr (by omega)

def RelO : Option V → Option Value → Prop
  | some v, some u => RelV v u
  | none, none => True
  | _, _ => False
def KV {κ : Type} : List (κ × V) → List (κ × Value) → Prop := Paired fun (p : κ × V) (q : κ × Value) => p.1 = q.1 ∧ RelV p.2 q.2

/-- a key of a dict (00_mix): an int or a text -/
def kV : Key → V
  | .inl i => .int i
  | .inr x => .str x

/-- what stands at a tracked address -/
inductive HO where
  /-- a list -/
  | lst (xs : List V)
  /-- a tuple (never changes) -/
  | tup (xs : List V)
  /-- a dict whose keys are ints and texts; one whose keys are tuples of ints and texts (the empty one is both) -/
  | dK (kvs : List (Key × V)) | dT (kvs : List (List Key × V))
  /-- a set of ints: its members, its size -/
  | set (S : Int → Bool) (n : Nat)
  /-- an instance of the class at C, its dict at dx, its attributes -/
  | ins (C dx : Addr) (fs : List (Str × V))
  /-- the dict of the instance at x -/
  | own (x : Addr)
  /-- the dict of an exception -/
  | xd (fs : List (Str × V))
  /-- a bound method, f of x -/
  | met (f x : Addr)
  /-- a range object lo, lo + 1, .. below hi -/
  | rng (lo hi : Int)
  /-- a thing that is known to the object (the script; a dict while a loop walks it): read, never written while it is so -/
  | frz (o : Obj) (u : HO)
  /-- a code object's table -/
  | tbl (ps : Array Value)
  /-- any other thing, by what is true of its one object (a def of one's own: SetO a S n := HO.ext fun h => ..) -/
  | ext (φ : Heap → Prop)

abbrev Hp := Addr → Option HO
def upd (H : Hp) (a : Addr) (o : HO) : Hp := fun b => if b = a then some o else H b
theorem upd_same {H : Hp} {a : Addr} {o : HO} : upd H a o a = some o := by unfold upd; rw [if_pos rfl]
theorem upd_ne {H : Hp} {a b : Addr} {o : HO} (h : b ≠ a) : upd H a o b = H b := by unfold upd; rw [if_neg h]
theorem upd_upd {H : Hp} {a : Addr} {o u : HO} : upd (upd H a o) a u = upd H a u := by
  funext b; unfold upd; split <;> rfl
/-- two objects of different content stand apart -/
theorem ne_of {H : Hp} {a b : Addr} {o u : HO} (h : H a = some o) (h' : H b = some u) (d : o ≠ u) : a ≠ b := by
  intro e; subst e; rw [h] at h'; exact d (Option.some.inj h')
theorem ne_of_none {H : Hp} {a b : Addr} {o : HO} (h : H a = some o) (h' : H b = none) : a ≠ b := by
  intro e; subst e; rw [h] at h'; cases h'

section
variable (P : Program) (w : World)
def ObjOk (H : Hp) (h : Heap) (a : Addr) : HO → Prop
  | .lst xs => xs.length ≤ sizeLine ∧ ∃ (its : List Value) (n : Nat), Vals xs its ∧ h.get? a = some { cls := .type "list", data := .seq its.toArray n }
  | .tup xs => xs.length ≤ sizeLine ∧ ∃ its : List Value, Vals xs its ∧ IsTup h a its.toArray
  | .dK kvs => kvs.length ≤ sizeLine ∧ (a == sysModules) = false ∧ ∃ vs, KV kvs vs ∧ h.DictOf (mixKind P w) a vs
  | .dT kvs => kvs.length ≤ sizeLine ∧ (a == sysModules) = false ∧ ∃ xs : List (List Key × Addr × Value),
      Paired (fun (p : List Key × V) (q : List Key × Addr × Value) => p.1 = q.1 ∧ H q.2.1 = some (.tup (p.1.map kV)) ∧ RelV p.2 q.2.2) kvs xs ∧
      ∃ o es ep, h.get? a = some o ∧ o.ExactDict ∧ o.data = .dict es ep ∧ es.toList = xs.map (entryOfKey (tupleKind (mixKind P w))) ∧ (xs.map (·.1)).Nodup
  | .set S n => h.SetOf (intKind P w) a S n
  | .ins C dx fs => H dx = some (.own a) ∧ fs.length ≤ 1000 ∧ dx ≠ a ∧ h.get? a = some (PySem.W.instObj C dx) ∧
      ∃ mA, h.Ns1 dx mA ∧ (∀ f, RelO (fs.lookup f) (mA f)) ∧ PySem.Within mA (fs.map (·.1))
  | .own _ => ∃ o, h.get? a = some o
  | .xd fs => ∃ mA, h.Ns1 a mA ∧ ∀ f, RelO (fs.lookup f) (mA f)
  | .rng lo hi => ∃ t u v, h.get? a = some { cls := .type "range", data := .fields #[.int lo t, .int hi u, .int 1 v] }
  | .frz o u => h.get? a = some o ∧ ObjOk H h a u
  | .tbl ps => h.get? a = some { cls := .none, data := .fields ps }
  | .met f x => h.get? a = some (PySem.W.methodObj (.ref f) (.ref x))
  | .ext φ => φ h ∧ (∃ o, h.get? a = some o) ∧ ∀ h1 h2 : Heap, φ h1 → (∀ o, h1.get? a = some o → h2.get? a = some o) → φ h2
/-- the abstract heap is held -/
def HOk (H : Hp) (h : Heap) : Prop := ∀ a o, H a = some o → ObjOk P w H h a o
end

section
variable {P : Program} {w : World} {H H' : Hp} {h h' : Heap} {a : Addr} {o : HO}
theorem ObjOk.lt (x : ObjOk P w H h a o) : a < h.objs.size := by
  cases o with
  | lst xs => obtain ⟨_, _, _, _, e⟩ := x; exact Heap.lt_size e
  | tup xs => obtain ⟨_, _, _, p⟩ := x; exact p.lt
  | dK kvs => obtain ⟨_, _, _, _, o, _, _, e, _⟩ := x; exact Heap.lt_size e
  | dT kvs => obtain ⟨_, _, _, _, o, _, _, e, _⟩ := x; exact Heap.lt_size e
  | set S n => obtain ⟨o, _, _, _, e, _⟩ := x; exact Heap.lt_size e
  | ins C dx fs => obtain ⟨_, _, _, e, _⟩ := x; exact Heap.lt_size e
  | own y => obtain ⟨_, e⟩ := x; exact Heap.lt_size e
  | xd fs => obtain ⟨_, ⟨_, _, _, e, _⟩, _⟩ := x; exact Heap.lt_size e
  | rng lo hi => obtain ⟨_, _, _, e⟩ := x; exact Heap.lt_size e
  | frz ob u => obtain ⟨e, _⟩ := x; exact Heap.lt_size e
  | tbl ps => exact Heap.lt_size (show h.get? a = some _ from x)
  | met f y => exact Heap.lt_size (show h.get? a = some _ from x)
  | ext φ => obtain ⟨_, ⟨_, e⟩, _⟩ := x; exact Heap.lt_size e
theorem Paired.mapP {α β : Type} {F G : α → β → Prop} : ∀ {l₁ : List α} {l₂ : List β}, Paired F l₁ l₂ → (∀ a b, F a b → G a b) → Paired G l₁ l₂
  | _, _, .nil, _ => .nil
  | _, _, .cons r t, f => .cons (f _ _ r) (Paired.mapP t f)
/-- what an object's description leans on: its own object, its own dict, the tuples -/
theorem ObjOk.stay (x : ObjOk P w H h a o) (k : ∀ b u, (b = a ∨ H b = some (.own a)) → h.get? b = some u → h'.get? b = some u)
    (ho : ∀ b, H b = some (.own a) → H' b = some (.own a)) (ht : ∀ b xs, H b = some (.tup xs) → H' b = some (.tup xs)) : ObjOk P w H' h' a o := by
  induction o with
  | lst xs => obtain ⟨z, its, n, r, e⟩ := x; exact ⟨z, its, n, r, k _ _ (.inl rfl) e⟩
  | tup xs => obtain ⟨z, its, r, ob, e, c⟩ := x; exact ⟨z, its, r, ob, k _ _ (.inl rfl) e, c⟩
  | dK kvs => obtain ⟨z, y, vs, r, ob, es, ep, e, c⟩ := x; exact ⟨z, y, vs, r, ob, es, ep, k _ _ (.inl rfl) e, c⟩
  | dT kvs =>
    obtain ⟨z, y, xs, r, ob, es, ep, e, c⟩ := x
    exact ⟨z, y, xs, Paired.mapP r fun p q z => ⟨z.1, ht _ _ z.2.1, z.2.2⟩, ob, es, ep, k _ _ (.inl rfl) e, c⟩
  | set S n => obtain ⟨ob, es, ep, t, e, c⟩ := x; exact ⟨ob, es, ep, t, k _ _ (.inl rfl) e, c⟩
  | ins C dx fs =>
    obtain ⟨d, z, ne, e, mA, ⟨od, es, ep, e2, c⟩, r⟩ := x
    exact ⟨ho _ d, z, ne, k _ _ (.inl rfl) e, mA, ⟨od, es, ep, k _ _ (.inr d) e2, c⟩, r⟩
  | own y => obtain ⟨ob, e⟩ := x; exact ⟨ob, k _ _ (.inl rfl) e⟩
  | xd fs => obtain ⟨mA, ⟨od, es, ep, e, c⟩, r⟩ := x; exact ⟨mA, ⟨od, es, ep, k _ _ (.inl rfl) e, c⟩, r⟩
  | rng lo hi => obtain ⟨t, u, v, e⟩ := x; exact ⟨t, u, v, k _ _ (.inl rfl) e⟩
  | frz ob u ih => obtain ⟨e, q⟩ := x; exact ⟨k _ _ (.inl rfl) e, ih q⟩
  | tbl ps =>
    have e : h.get? a = some { cls := .none, data := .fields ps } := x
    show h'.get? a = some { cls := .none, data := .fields ps }
    exact k a _ (.inl rfl) e
  | met f y =>
    have e : h.get? a = some (PySem.W.methodObj (.ref f) (.ref y)) := x
    show h'.get? a = some (PySem.W.methodObj (.ref f) (.ref y))
    exact k a _ (.inl rfl) e
  | ext φ => obtain ⟨p, ⟨o, e⟩, st⟩ := x; exact ⟨st _ _ p fun o q => k _ _ (.inl rfl) q, ⟨o, k _ _ (.inl rfl) e⟩, st⟩
theorem HOk.lt (x : HOk P w H h) (e : H a = some o) : a < h.objs.size := (x a o e).lt
theorem HOk.fresh (x : HOk P w H h) (e : h.objs.size ≤ a) : H a = none := by
  cases q : H a with
  | none => rfl
  | some u => exact absurd (Nat.lt_of_lt_of_le (x.lt q) e) (Nat.lt_irrefl _)
/-- every object of the heap is kept -/
theorem HOk.kept (x : HOk P w H h) (k : ∀ b u, h.get? b = some u → h'.get? b = some u) : HOk P w H h' := fun a o e =>
  (x a o e).stay (fun b u _ q => k b u q) (fun _ q => q) fun _ _ q => q
/-- a new object is laid and tracked -/
theorem HOk.laid (x : HOk P w H h) (k : ∀ b u, h.get? b = some u → h'.get? b = some u) (hp : h.objs.size ≤ a) (new : ObjOk P w (upd H a o) h' a o) : HOk P w (upd H a o) h' := fun b u e => by
  have hn := x.fresh hp
  by_cases hb : b = a
  · subst hb; rw [upd_same] at e; cases e; exact new
  · rw [upd_ne hb] at e
    exact (x b u e).stay (fun c v _ q => k c v q) (fun c q => by rw [upd_ne (ne_of_none q hn)]; exact q) fun c xs q => by rw [upd_ne (ne_of_none q hn)]; exact q
end

/-- what may be read as u: it is u, or a known u -/
def Rd (H : Hp) (a : Addr) (u : HO) : Prop := H a = some u ∨ ∃ o, H a = some (.frz o u)
theorem Rd.of {H : Hp} {a : Addr} {u : HO} (h : H a = some u) : Rd H a u := .inl h
theorem Rd.ok {P : Program} {w : World} {H : Hp} {h : Heap} {a : Addr} {u : HO} (r : Rd H a u) (x : HOk P w H h) : ObjOk P w H h a u := by
  rcases r with r | ⟨o, r⟩
  · exact x a u r
  · obtain ⟨_, q⟩ := x a _ r
    exact q
/-- what may be written -/
def Mut : Option HO → Prop
  | some (.lst _) => True
  | some (.dK _) => True
  | some (.dT _) => True
  | some (.set _ _) => True
  | some (.ins _ _ _) => True
  | some (.ext _) => True
  | _ => False
section
variable {P : Program} {w : World} {H : Hp} {h h' : Heap} {x e : Addr} {o' : HO}
/-- the object at e is changed: x itself, or the dict of the instance x -/
theorem HOk.write (ok : HOk P w H h) (mu : Mut (H x)) (he : e = x ∨ H e = some (.own x)) (k : ∀ b u, b ≠ e → h.get? b = some u → h'.get? b = some u) (heo : ∃ u, h'.get? e = some u)
    (new : ObjOk P w (upd H x o') h' x o') : HOk P w (upd H x o') h' := fun b u q => by
  have nown : ∀ c y, H c = some (.own y) → c ≠ x := fun c y r z => by subst z; rw [r] at mu; exact mu
  have ntup : ∀ c xs, H c = some (.tup xs) → c ≠ x := fun c xs r z => by subst z; rw [r] at mu; exact mu
  by_cases hb : b = x
  · subst hb; rw [upd_same] at q; cases q; exact new
  · rw [upd_ne hb] at q
    by_cases hbe : b = e
    · have q' : H b = some (.own x) := by
        rcases he with z | z
        · exact absurd (hbe.trans z) hb
        · rw [hbe]; exact z
      rw [q] at q'; cases q'
      obtain ⟨v, hv⟩ := heo
      exact ⟨v, by rw [hbe]; exact hv⟩
    · refine (ok b u q).stay (fun c v hc r => k c v ?_ r) (fun c r => by rw [upd_ne (nown c b r)]; exact r) fun c xs r => by rw [upd_ne (ntup c xs r)]; exact r
      rcases hc with rfl | hc
      · exact hbe
      · rintro rfl
        rcases he with z | z
        · exact nown c b hc z
        · rw [hc] at z; cases z; exact hb rfl
end

structure Un (fs ex : List Addr) (H H' : Hp) (h h' : Heap) : Prop where
  keep : ∀ b o, h.get? b = some o → H b = none → b ∉ fs → b ∉ ex → h'.get? b = some o
  slot : ∀ b o, h.get? b = some o → H b = none → b ∈ fs → b ∉ ex → ∃ sl, h'.get? b = some { o with slots := sl }
  free : ∀ b o, h.get? b = some o → H b = none → b ∉ ex → H' b = none
  there : ∀ b o, h.get? b = some o → b ∉ ex → ∃ o', h'.get? b = some o'
  tups : ∀ b xs, H b = some (.tup xs) → H' b = some (.tup xs)
  frzs : ∀ b o u, H b = some (.frz o u) → H' b = some (.frz o u)
  tbls : ∀ b ps, H b = some (.tbl ps) → ∃ more, H' b = some (.tbl (ps ++ more))
section
variable {fs fs' ex ex' : List Addr} {H H1 H2 : Hp} {h h1 h2 h' : Heap} {a x e : Addr} {o : HO}
theorem Un.any (u : Un fs ex H H1 h h1) {b : Addr} {ob : Obj} (q : h.get? b = some ob) (n : H b = none) (hx : b ∉ ex) : ∃ sl, h1.get? b = some { ob with slots := sl } := by
  by_cases hb : b ∈ fs
  · exact u.slot b ob q n hb hx
  · exact ⟨ob.slots, u.keep b ob q n hb hx⟩
theorem Un.trans (a : Un fs ex H H1 h h1) (b : Un fs ex H1 H2 h1 h2) : Un fs ex H H2 h h2 where
  keep := fun c ob q n hc hx => b.keep c ob (a.keep c ob q n hc hx) (a.free c ob q n hx) hc hx
  slot := fun c ob q n hc hx => by
    obtain ⟨sl, e1⟩ := a.slot c ob q n hc hx
    obtain ⟨sl', e2⟩ := b.slot c _ e1 (a.free c ob q n hx) hc hx
    exact ⟨sl', e2⟩
  free := fun c ob q n hx => by
    obtain ⟨o', e1⟩ := a.there c ob q hx
    exact b.free c o' e1 (a.free c ob q n hx) hx
  there := fun c ob q hx => by
    obtain ⟨o', e1⟩ := a.there c ob q hx
    exact b.there c o' e1 hx
  tups := fun c xs q => b.tups c xs (a.tups c xs q)
  frzs := fun c ob xs q => b.frzs c ob xs (a.frzs c ob xs q)
  tbls := fun c ps q => by
    obtain ⟨m1, e1⟩ := a.tbls c ps q
    obtain ⟨m2, e2⟩ := b.tbls c _ e1
    exact ⟨m1 ++ m2, by rw [e2, Array.append_assoc]⟩
theorem Un.kept (k : ∀ b u, h.get? b = some u → h'.get? b = some u) : Un fs ex H H h h' :=
  ⟨fun b ob q _ _ _ => k b ob q, fun b ob q _ _ _ => ⟨ob.slots, k b ob q⟩, fun _ _ _ n _ => n, fun b ob q _ => ⟨ob, k b ob q⟩, fun _ _ q => q, fun _ _ _ q => q, fun _ ps q => ⟨#[], by rw [q]; simp⟩⟩
theorem Un.refl : Un fs ex H H h h := Un.kept fun _ _ q => q
theorem Un.laid (k : ∀ b u, h.get? b = some u → h'.get? b = some u) (hp : h.objs.size ≤ a) (hn : H a = none) : Un fs ex H (upd H a o) h h' where
  keep := fun b u q _ _ _ => k b u q
  slot := fun b u q _ _ _ => ⟨u.slots, k b u q⟩
  free := fun b u q n _ => by rw [upd_ne (Nat.ne_of_lt (Nat.lt_of_lt_of_le (Heap.lt_size q) hp))]; exact n
  there := fun b u q _ => ⟨u, k b u q⟩
  tups := fun b xs q => by rw [upd_ne (ne_of_none q hn)]; exact q
  frzs := fun b u xs q => by rw [upd_ne (ne_of_none q hn)]; exact q
  tbls := fun b ps q => ⟨#[], by rw [upd_ne (ne_of_none q hn), q]; simp⟩
theorem Un.write (mu : Mut (H x)) (he : e = x ∨ H e = some (.own x)) (k : ∀ b u, b ≠ e → h.get? b = some u → h'.get? b = some u) (heo : ∃ u, h'.get? e = some u) : Un fs ex H (upd H x o) h h' := by
  have hx : ∀ b, H b = none → b ≠ x := fun b n z => by subst z; rw [n] at mu; exact mu
  have hb : ∀ b, H b = none → b ≠ e := fun b n z => by
    subst z
    rcases he with r | r
    · exact hx b n r
    · rw [n] at r; cases r
  have hm : ∀ b u, H b = some u → ¬ Mut (some u) → b ≠ x := fun b u q nm z => by subst z; rw [q] at mu; exact nm mu
  refine ⟨fun b u q n _ _ => k b u (hb b n) q, fun b u q n _ _ => ⟨u.slots, k b u (hb b n) q⟩, fun b u q n _ => by rw [upd_ne (hx b n)]; exact n, fun b u q _ => ?_,
    fun b xs q => by rw [upd_ne (hm b _ q fun z => z)]; exact q, fun b u xs q => by rw [upd_ne (hm b _ q fun z => z)]; exact q, fun b ps q => ⟨#[], by rw [upd_ne (hm b _ q fun z => z), q]; simp⟩⟩
  by_cases hbe : b = e
  · subst hbe; exact heo
  · exact ⟨u, k b u hbe q⟩
theorem Un.mono (u : Un fs ex H H1 h h1) (hs : ∀ b ∈ fs, b ∈ fs') (hx : ∀ b ∈ ex, b ∈ ex') : Un fs' ex' H H1 h h1 :=
  ⟨fun b ob q n hb he => u.keep b ob q n (fun z => hb (hs b z)) fun z => he (hx b z), fun _ _ q n _ he => u.any q n fun z => he (hx _ z), fun b ob q n he => u.free b ob q n fun z => he (hx b z), fun b ob q he => u.there b ob q fun z => he (hx b z), u.tups, u.frzs, u.tbls⟩
end

def trk (h : Heap) (H : Hp) : List Addr := (List.range h.objs.size).filter fun a => (H a).isSome
def hidT (h : Heap) (H : Hp) : Heap := PySem.W.hideAll h (trk h H)
theorem hidT_size (h : Heap) (H : Hp) : (hidT h H).objs.size = h.objs.size := PySem.W.hideAll_size _ _
theorem hidT_get {h : Heap} {H : Hp} {b : Addr} {o : Obj} (e : h.get? b = some o) (n : H b = none) : (hidT h H).get? b = some o :=
  PySem.W.hideAll_get _ e fun hm => by
    have q : (H b).isSome = true := (List.mem_filter.mp hm).2
    rw [n] at q; simp at q
theorem of_hidT {h : Heap} {H : Hp} {b : Addr} {o : Obj} (e : (hidT h H).get? b = some o) : h.get? b = some o ∧ H b = none := by
  have e' : h.get? b = some o := PySem.W.of_hideAll (trk h H) e
  refine ⟨e', ?_⟩
  cases q : H b with
  | none => rfl
  | some x =>
    have hm : b ∈ trk h H := List.mem_filter.mpr ⟨List.mem_range.mpr (Heap.lt_size e'), by simp [q]⟩
    have z : (hidT h H).get? b = none := PySem.W.hideAll_none (trk h H) hm
    rw [z] at e; cases e

def allNews (g h : Heap) (L : Addr) : List (Addr × Obj) := (List.range h.objs.size).filterMap fun a => if a = L ∨ (g.get? a).isSome = true then none else (h.get? a).map fun o => (a, o)
def rest (g h : Heap) (L d : Addr) : List (Addr × Obj) := (allNews g h L).filter fun p => decide (p.1 ≠ d)
end L2

namespace L2
open PySem PySem.Spec PyProof.Rows

/-- the module's facts, over the base: the heap at the law's entry without what is tracked there -/
structure Mod (K : PySem.W.Frag) (mg : Str → Option Value) (base : Heap) : Prop where
  kin : K.In base
  glob : base.Ns mainGlobals mg
  blt : ∃ mb, base.Ns builtinsNs mb ∧ ∀ x : Str, x ≠ "__name__" → mb x = bootBuiltins x
  nolimit : base.NoLimit

/-- the context: a def's body (or a comprehension's block) running. base: fixed through the whole law; s₀, H₀: the entry; outer: the frames whose slots others may change (a def's callers); stack: all frames that run;
   ex: iterators that were made ahead of the entry and are walked here (a comprehension's); fn: the names whose cells were made at the entry (a def: all; a comprehension's block: its own); calm: not within an except suite; pn: pins that every state bears; xe: what is wanted of an exception that leaves the code -/
structure Cx where
  prog : Program
  w : World
  K : PySem.W.Frag
  mg : Str → Option Value
  base : Heap
  A : Around
  N : List Str
  s₀ : Shared
  H₀ : Hp
  env : Env
  outer : List Env
  stack : List Env
  ex : List Addr
  fn : Str → Bool
  calm : Bool
  pn : List (Addr × Obj)
  xe : Value → Shared → Prop
/-- the callers' frames -/
def frs (l : List Env) : List Addr := l.filterMap (·.frame)
abbrev Cx.fs (X : Cx) : List Addr := frs X.outer

def Vis (sc : Scope) (x : Str) : Prop := sc.names.lookup x = some .local ∨ sc.names.lookup x = some .cell ∨ sc.names.lookup x = some .free
def Loc (sc : Scope) (x : Str) : Prop := sc.names.lookup x = some .local ∨ sc.names.lookup x = some .cell
def Look (env : Env) (h : Heap) (m : Str → Option Value) (x : Str) (u : Value) : Prop :=
  (env.kindOf x = some .local ∧ m x = some u) ∨ ((env.kindOf x = some .cell ∨ env.kindOf x = some .free) ∧ ∃ c, env.cells.lookup x = some c ∧ h.IsCell c (some u))

structure Cx.Ok (X : Cx) : Prop where
  mod : Mod X.K X.mg X.base
  kind : X.env.scope.kind = .function
  glob : X.env.globals = mainGlobals
  blt : X.env.builtins = builtinsNs
  above : X.s₀.heap.objs.size ≤ X.env.locals
  inj : ∀ x y c, X.env.cells.lookup x = some c → X.env.cells.lookup y = some c → x = y
  has : ∀ x, (X.env.kindOf x = some .cell ∨ X.env.kindOf x = some .free) → ∃ c, X.env.cells.lookup x = some c
  cab : ∀ x c, X.fn x = true → X.env.cells.lookup x = some c → X.s₀.heap.objs.size ≤ c
  hd : X.calm = true → X.A.handled = none
  frames : X.A.frames = some X.stack
  stk : X.stack = X.outer ∨ (X.stack = X.env :: X.outer ∧ X.env.frame = some X.env.locals)
  exf : ∀ b ∈ X.ex, b ≠ X.env.locals ∧ ∀ x c, X.env.cells.lookup x = some c → c ≠ b
  bs : ∀ b o, X.base.get? b = some o → X.s₀.heap.get? b = some o ∧ X.H₀ b = none
  bsz : X.base.objs.size ≤ X.s₀.heap.objs.size
  noex : ∀ b o, X.base.get? b = some o → b ∉ X.ex
  exfs : ∀ b ∈ X.ex, b ∉ X.fs
  funs : X.s₀.heap.FunFrames X.base X.outer
  frf : ∀ b ∈ X.fs, X.H₀ b = none

structure Inv (X : Cx) (pins : List (Addr × Obj)) (σ : List (Option V)) (H : Hp) (s : Shared) : Prop where
  ok : X.Ok
  os : s.os = X.s₀.os
  bare : AllBare s.gens
  base : Un X.fs X.ex X.H₀ H X.s₀.heap s.heap
  loc : ∃ m, s.heap.Ns X.env.locals m ∧ ∀ (i : Nat) (x : Str) (v : V), X.N[i]? = some x → σ[i]? = some (some v) → Vis X.env.scope x → ∃ u, RelV v u ∧ Look X.env s.heap m x u
  cell : ∀ x c, X.env.cells.lookup x = some c → ∃ v, s.heap.IsCell c v
  free : H X.env.locals = none
  freeC : ∀ x c, X.env.cells.lookup x = some c → H c = none
  pin : ∀ p ∈ X.pn ++ pins, s.heap.get? p.1 = some p.2 ∧ H p.1 = none ∧ p.1 ≠ X.env.locals ∧ p.1 ∉ X.fs ∧ ∀ v, p.2.data ≠ .cell v
  hok : HOk X.prog X.w H s.heap
  len : σ.length = X.N.length

section
variable {X : Cx} {pins : List (Addr × Obj)} {σ : List (Option V)} {H H' : Hp} {s : Shared} {h' : Heap}

theorem Cx.Ok.nofr (ok : X.Ok) {b : Addr} {o : Obj} (e : X.base.get? b = some o) : b ∉ X.fs := fun hb => by
  have := (ok.funs.mem hb).1
  rw [e] at this; cases this
theorem Inv.bs (I : Inv X pins σ H s) : ∀ b o, X.base.get? b = some o → s.heap.get? b = some o ∧ H b = none := fun b o e =>
  ⟨I.base.keep b o (I.ok.bs b o e).1 (I.ok.bs b o e).2 (I.ok.nofr e) (I.ok.noex b o e), I.base.free b o (I.ok.bs b o e).1 (I.ok.bs b o e).2 (I.ok.noex b o e)⟩
theorem Inv.bk (I : Inv X pins σ H s) : ∀ b o, X.base.get? b = some o → s.heap.get? b = some o := fun b o e => (I.bs b o e).1
theorem Inv.mod (I : Inv X pins σ H s) : Mod X.K X.mg X.base := I.ok.mod
theorem Inv.kIn (I : Inv X pins σ H s) : X.K.In s.heap := I.ok.mod.kin.keeps I.bk
theorem Inv.nolimit (I : Inv X pins σ H s) : s.heap.NoLimit := I.ok.mod.nolimit.keeps I.bk
/-- the frame over the base: for OpenK's rules (K.In X.base is I.mod.kin) -/
theorem Inv.fr (I : Inv X pins σ H s) : ∃ m, Fr X.base X.env.locals s.heap m :=
  let ⟨m, hn, _⟩ := I.loc
  ⟨m, hn, I.bk, Nat.le_trans I.ok.bsz I.ok.above⟩
theorem Inv.lt (I : Inv X pins σ H s) : X.env.locals < s.heap.objs.size := let ⟨_, hn, _⟩ := I.loc; hn.lt
theorem Inv.sz (I : Inv X pins σ H s) : X.s₀.heap.objs.size ≤ s.heap.objs.size := Nat.le_trans I.ok.above (Nat.le_of_lt I.lt)
theorem Inv.nofs (I : Inv X pins σ H s) {a : Addr} (h : s.heap.objs.size ≤ a) : a ∉ X.fs := fun hb => by
  obtain ⟨_, o, ho, _⟩ := I.ok.funs.mem hb
  exact absurd (Nat.lt_of_lt_of_le (Heap.lt_size ho) (Nat.le_trans I.sz h)) (Nat.lt_irrefl _)
theorem Inv.cne (I : Inv X pins σ H s) : ∀ x c, X.env.cells.lookup x = some c → c ≠ X.env.locals := fun x c e z => by
  obtain ⟨v, o, ho, hd⟩ := I.cell x c e
  obtain ⟨m, ⟨o', es, ep, ho', hd', _⟩, _⟩ := I.loc
  rw [z, ho'] at ho; cases ho; rw [hd'] at hd; cases hd
theorem Inv.funs (I : Inv X pins σ H s) : s.heap.FunFrames X.base X.outer := by
  have all : ∀ (l : List Env), (∀ b ∈ frs l, b ∈ X.fs) → X.s₀.heap.FunFrames X.base l → s.heap.FunFrames X.base l := by
    intro l
    induction l with
    | nil => intro _ _; trivial
    | cons env r ih =>
      intro hs hl
      obtain ⟨hk, ⟨L, o, hf, hn, ho, hd⟩, hr⟩ := hl
      have hL : L ∈ X.fs := hs L (by unfold frs; rw [List.filterMap_cons, hf]; exact List.mem_cons_self)
      obtain ⟨sl, e⟩ := I.base.slot L o ho (I.ok.frf L hL) hL fun z => I.ok.exfs L z hL
      exact ⟨hk, ⟨L, _, hf, hn, e, hd⟩, ih (fun b hb => hs b (by unfold frs; rw [List.filterMap_cons, hf]; exact List.mem_cons_of_mem _ hb)) hr⟩
  exact all X.outer (fun _ hb => hb) I.ok.funs

/-- the frames that run, for a call -/
theorem Inv.stack (I : Inv X pins σ H s) : s.heap.FunFrames X.base X.stack := by
  rcases I.ok.stk with e | ⟨e, hf⟩
  · rw [e]; exact I.funs
  · rw [e]
    obtain ⟨m, hn, _⟩ := I.loc
    refine .cons (by rw [I.ok.kind]; decide) hf hn ?_ I.funs
    exact Heap.get?_none_of_le (Nat.le_trans I.ok.bsz I.ok.above)
theorem Inv.stkSub (I : Inv X pins σ H s) : ∀ b ∈ frs X.stack, b ∈ X.env.locals :: X.fs := fun b hb => by
  rcases I.ok.stk with e | ⟨e, hf⟩
  · rw [e] at hb; exact List.mem_cons_of_mem _ hb
  · rw [e] at hb
    unfold frs at hb
    rw [List.filterMap_cons, hf] at hb
    exact hb
theorem Inv.stkFree (I : Inv X pins σ H s) : ∀ b ∈ frs X.stack, H b = none := fun b hb => by
  rcases List.mem_cons.mp (I.stkSub b hb) with e | hb
  · rw [e]; exact I.free
  · obtain ⟨_, o, ho, _⟩ := I.ok.funs.mem hb
    exact I.base.free b o ho (I.ok.frf b hb) fun z => I.ok.exfs b z hb

/-- THE STEP: the untracked objects but the frame and the records at ch are kept (the callers' frames up to slots), the frame's map is kept, the new abstract heap is held -/
theorem Inv.step {g' : Array GenState} {t' : Nat} {d' : Drawn} {ch : List Addr} (I : Inv X pins σ H s)
    (hch : ∀ b ∈ ch, (b ∈ X.ex ∨ X.s₀.heap.objs.size ≤ b) ∧ b ≠ X.env.locals ∧ (∀ x c, X.env.cells.lookup x = some c → c ≠ b) ∧ ∀ p ∈ X.pn ++ pins, p.1 ≠ b)
    (keep : ∀ b o, b ≠ X.env.locals → b ∉ X.fs → b ∉ ch → s.heap.get? b = some o → H b = none → h'.get? b = some o)
    (slot : ∀ b o, b ≠ X.env.locals → b ∈ X.fs → b ∉ ch → s.heap.get? b = some o → H b = none → ∃ sl, h'.get? b = some { o with slots := sl }) (free : ∀ b o, b ∉ ch → s.heap.get? b = some o → H b = none → H' b = none)
    (there : ∀ b o, b ∉ ch → s.heap.get? b = some o → ∃ o', h'.get? b = some o')
    (tups : ∀ b xs, H b = some (.tup xs) → H' b = some (.tup xs)) (frzs : ∀ b o u, H b = some (.frz o u) → H' b = some (.frz o u)) (tbls : ∀ b ps, H b = some (.tbl ps) → ∃ more, H' b = some (.tbl (ps ++ more)))
    (ns : ∀ m, s.heap.Ns X.env.locals m → h'.Ns X.env.locals m) (hok : HOk X.prog X.w H' h') (hg : AllBare g') :
    Inv X pins σ H' { s with heap := h', gens := g', drawn := d', toks := t' } := by
  have neL : ∀ b o, X.s₀.heap.get? b = some o → b ≠ X.env.locals := fun b o e => Nat.ne_of_lt (Nat.lt_of_lt_of_le (Heap.lt_size e) I.ok.above)
  have neC : ∀ b o, X.s₀.heap.get? b = some o → b ∉ X.ex → b ∉ ch := fun b o e hx hb => by
    rcases (hch b hb).1 with z | z
    · exact hx z
    · exact absurd (Nat.lt_of_lt_of_le (Heap.lt_size e) z) (Nat.lt_irrefl _)
  have cellK : ∀ x c, X.env.cells.lookup x = some c → ∀ v, s.heap.IsCell c v → h'.IsCell c v := fun x c e v ⟨o, ho, hd⟩ => by
    have nch : c ∉ ch := fun z => (hch c z).2.2.1 x c e rfl
    by_cases hc : c ∈ X.fs
    · obtain ⟨sl, q⟩ := slot c o (I.cne x c e) hc nch ho (I.freeC x c e)
      exact ⟨_, q, hd⟩
    · exact ⟨o, keep c o (I.cne x c e) hc nch ho (I.freeC x c e), hd⟩
  refine ⟨I.ok, I.os, hg, ⟨fun b o e n hb hx => ?_, fun b o e n hb hx => ?_, fun b o e n hx => ?_, fun b o e hx => ?_, fun b xs e => tups b xs (I.base.tups b xs e), fun b o xs e => frzs b o xs (I.base.frzs b o xs e), fun b ps e => ?_⟩, ?_, fun x c e => ?_, ?_, fun x c e => ?_, fun p hp => ?_, hok, I.len⟩
  · exact keep b o (neL b o e) hb (neC b o e hx) (I.base.keep b o e n hb hx) (I.base.free b o e n hx)
  · obtain ⟨sl, e1⟩ := I.base.slot b o e n hb hx
    obtain ⟨sl', e2⟩ := slot b _ (neL b o e) hb (neC b o e hx) e1 (I.base.free b o e n hx)
    exact ⟨sl', e2⟩
  · obtain ⟨o', e1⟩ := I.base.there b o e hx
    exact free b o' (neC b o e hx) e1 (I.base.free b o e n hx)
  · obtain ⟨o', e1⟩ := I.base.there b o e hx
    exact there b o' (neC b o e hx) e1
  · obtain ⟨m1, e1⟩ := I.base.tbls b ps e
    obtain ⟨m2, e2⟩ := tbls b _ e1
    exact ⟨m1 ++ m2, by rw [e2, Array.append_assoc]⟩
  · obtain ⟨m, hn, hl⟩ := I.loc
    refine ⟨m, ns m hn, fun i x v e1 e2 e3 => ?_⟩
    obtain ⟨u, r, l⟩ := hl i x v e1 e2 e3
    refine ⟨u, r, ?_⟩
    rcases l with l | ⟨k, c, e, z⟩
    · exact .inl l
    · exact .inr ⟨k, c, e, cellK x c e _ z⟩
  · obtain ⟨v, z⟩ := I.cell x c e
    exact ⟨v, cellK x c e v z⟩
  · obtain ⟨m, ⟨o, _, _, ho, _⟩, _⟩ := I.loc
    exact free _ o (fun z => (hch _ z).2.1 rfl) ho I.free
  · obtain ⟨v, o, ho, hd⟩ := I.cell x c e
    exact free c o (fun z => (hch c z).2.2.1 x c e rfl) ho (I.freeC x c e)
  · obtain ⟨e, n, ne, nf, d⟩ := I.pin p hp
    have nch : p.1 ∉ ch := fun z => (hch p.1 z).2.2.2 p hp rfl
    exact ⟨keep p.1 p.2 ne nf nch e n, free p.1 p.2 nch e n, ne, nf, d⟩
/-- .. where the frame's own object is kept too -/
theorem Inv.un {t' : Nat} (I : Inv X pins σ H s) (u : Un X.fs [] H H' s.heap h') (hok : HOk X.prog X.w H' h') : Inv X pins σ H' { s with heap := h', toks := t' } := by
  obtain ⟨m, ⟨o, es, ep, ho, r⟩, _⟩ := id I.loc
  obtain ⟨sl, hL⟩ := u.any ho I.free (by simp)
  exact I.step (g' := s.gens) (d' := s.drawn) (ch := []) (fun _ z => nomatch z) (fun b o _ hb _ e n => u.keep b o e n hb (by simp)) (fun b o _ hb _ e n => u.slot b o e n hb (by simp)) (fun b o _ e n => u.free b o e n (by simp)) (fun b o _ e => u.there b o e (by simp)) u.tups u.frzs u.tbls (fun m' hm => by
    obtain ⟨o', es', ep', ho', r'⟩ := hm
    rw [ho] at ho'; cases ho'
    exact ⟨_, es', ep', hL, r'⟩) hok I.bare
/-- behind a call (or a comprehension's block): the slots of this frame may have changed too, the records at ch may have turned -/
theorem Inv.call {g' : Array GenState} {t' : Nat} {d' : Drawn} {ch : List Addr} (I : Inv X pins σ H s) (u : Un (frs X.stack) ch H H' s.heap h') (hok : HOk X.prog X.w H' h') (hg : AllBare g')
    (hch : ∀ b ∈ ch, (b ∈ X.ex ∨ X.s₀.heap.objs.size ≤ b) ∧ b ≠ X.env.locals ∧ (∀ x c, X.env.cells.lookup x = some c → c ≠ b) ∧ ∀ p ∈ X.pn ++ pins, p.1 ≠ b) :
    Inv X pins σ H' { s with heap := h', gens := g', drawn := d', toks := t' } := by
  obtain ⟨m, ⟨o, es, ep, ho, r⟩, _⟩ := id I.loc
  obtain ⟨sl, hL⟩ := u.any ho I.free fun z => (hch _ z).2.1 rfl
  exact I.step (ch := ch) hch (fun b o hL hb hc e n => u.keep b o e n (fun z => (List.mem_cons.mp (I.stkSub b z)).elim hL hb) hc) (fun b o _ _ hc e n => u.any e n hc) (fun b o hc e n => u.free b o e n hc) (fun b o hc e => u.there b o e hc) u.tups u.frzs u.tbls (fun m' hm => by
    obtain ⟨o', es', ep', ho', r'⟩ := hm
    rw [ho] at ho'; cases ho'
    exact ⟨_, es', ep', hL, r'⟩) hok hg
/-- an untracked record of ours (an iterator) has turned -/
theorem Inv.turned {t' : Nat} {it : Addr} (I : Inv X pins σ H s) (k : ∀ b o, b ≠ it → s.heap.get? b = some o → h'.get? b = some o) (hn : H it = none) (hL : it ≠ X.env.locals)
    (h1 : it ∈ X.ex ∨ X.s₀.heap.objs.size ≤ it) (h2 : ∀ x c, X.env.cells.lookup x = some c → c ≠ it) (h3 : ∀ p ∈ X.pn ++ pins, p.1 ≠ it) : Inv X pins σ H { s with heap := h', toks := t' } := by
  have nit : ∀ b u, H b = some u → b ≠ it := fun b u e z => by rw [z, hn] at e; cases e
  refine I.step (g' := s.gens) (d' := s.drawn) (ch := [it]) (fun b hb => ?_) (fun b o _ _ hc e _ => k b o (fun z => hc (by simp [z])) e) (fun b o _ _ hc e _ => ⟨o.slots, k b o (fun z => hc (by simp [z])) e⟩) (fun _ _ _ _ n => n)
    (fun b o hc e => ⟨o, k b o (fun z => hc (by simp [z])) e⟩) (fun _ _ e => e) (fun _ _ _ e => e) (fun b ps e => ⟨#[], by rw [e]; simp⟩) (fun m hm => ?_) (fun b u e => ?_) I.bare
  · have e : b = it := by simpa using hb
    subst e
    exact ⟨h1, hL, h2, h3⟩
  · obtain ⟨o, es, ep, ho, r⟩ := hm
    exact ⟨o, es, ep, k _ o (Ne.symm hL) ho, r⟩
  · refine (I.hok b u e).stay (fun c v hc q => k c v ?_ q) (fun _ q => q) fun _ _ q => q
    rcases hc with z | z
    · rw [z]; exact nit b u e
    · exact nit c _ z
theorem Inv.tok (I : Inv X pins σ H s) (t : Nat) : Inv X pins σ H { s with toks := t } := I.un (h' := s.heap) (t' := t) Un.refl I.hok
/-- all objects kept -/
theorem Inv.kept {t' : Nat} (I : Inv X pins σ H s) (k : ∀ b u, s.heap.get? b = some u → h'.get? b = some u) : Inv X pins σ H { s with heap := h', toks := t' } := I.un (Un.kept k) (I.hok.kept k)
/-- a new object laid and tracked -/
theorem Inv.laid {a : Addr} {o : HO} {t' : Nat} (I : Inv X pins σ H s) (k : ∀ b u, s.heap.get? b = some u → h'.get? b = some u) (hp : s.heap.objs.size ≤ a) (new : ObjOk X.prog X.w (upd H a o) h' a o) :
    Inv X pins σ (upd H a o) { s with heap := h', toks := t' } := I.un (Un.laid k hp (I.hok.fresh hp)) (I.hok.laid k hp new)
/-- an object written -/
theorem Inv.write {x e : Addr} {o : HO} {t' : Nat} (I : Inv X pins σ H s) (mu : Mut (H x)) (he : e = x ∨ H e = some (.own x)) (k : ∀ b u, b ≠ e → s.heap.get? b = some u → h'.get? b = some u) (heo : ∃ u, h'.get? e = some u)
    (new : ObjOk X.prog X.w (upd H x o) h' x o) : Inv X pins σ (upd H x o) { s with heap := h', toks := t' } := I.un (Un.write mu he k heo) (I.hok.write mu he k heo new)
theorem Inv.pins_of {pins' : List (Addr × Obj)} (I : Inv X pins σ H s) (h : ∀ p ∈ pins', s.heap.get? p.1 = some p.2 ∧ H p.1 = none ∧ p.1 ≠ X.env.locals ∧ p.1 ∉ X.fs ∧ ∀ v, p.2.data ≠ .cell v) : Inv X pins' σ H s :=
  ⟨I.ok, I.os, I.bare, I.base, I.loc, I.cell, I.free, I.freeC, fun p hp => (List.mem_append.mp hp).elim (fun z => I.pin p (List.mem_append_left _ z)) (h p), I.hok, I.len⟩

theorem nodup_ix {N : List Str} (hN : N.Nodup) {i j : Nat} {x : Str} (a : N[i]? = some x) (b : N[j]? = some x) : i = j := by
  obtain ⟨h1, e1⟩ := List.getElem?_eq_some_iff.mp a
  obtain ⟨h2, e2⟩ := List.getElem?_eq_some_iff.mp b
  exact (List.getElem_inj hN).mp (e1.trans e2.symm)

/-- a name is stored; what changed -/
theorem store_ok2 {M : Model} {A : Around} {E : Value → Shared → Prop} {i : Nat} {x : Str} {v : V} {u : Value} {Q : Unit → Shared → Prop} (I : Inv X pins σ H s) (hN : X.N.Nodup) (hi : X.N[i]? = some x) (hx : Loc X.env.scope x) (r : RelV v u)
    (h : ∀ s', Inv X pins (σ.set i (some v)) H s' → (∃ a, Heap.SameBut a s.heap s'.heap ∧ (a = X.env.locals ∨ X.env.cells.lookup x = some a)) → Q () s') (hf : X.fn x = true ∨ X.env.scope.names.lookup x = some .local := by first | exact .inl rfl | exact .inr rfl | assumption) : wpAny M A (storeName X.env x u) Q E s := by
  obtain ⟨m, hn, hl⟩ := id I.loc
  have hcls : (X.env.scope.kind == .class || (X.env.scope.kind == .module && X.env.locals != X.env.globals)) = false := by rw [I.ok.kind]; rfl
  have hiσ : i < σ.length := by rw [I.len]; exact (List.getElem?_eq_some_iff.mp hi).1
  have cne := I.cne
  have tracked : ∀ {a : Addr} {h' : Heap}, (∃ o, s.heap.get? a = some o ∧ H a = none) → Heap.SameBut a s.heap h' → HOk X.prog X.w H h' := fun {a h'} ha hs b ob e => by
    obtain ⟨_, _, hfree⟩ := ha
    refine (I.hok b ob e).stay (fun c w' hc q => (hs.2 c ?_).trans q) (fun _ q => q) fun _ _ q => q
    rintro rfl
    rcases hc with rfl | hc
    · rw [hfree] at e; cases e
    · rw [hfree] at hc; cases hc
  rcases hx with hk | hk
  · refine wpAny_storeName_local hk hn (fun h' hn' hs => ?_) hcls
    obtain ⟨oL, _, _, hoL, _⟩ := id hn
    refine h _ ⟨I.ok, I.os, I.bare, ⟨fun b o e n hb hx => ?_, fun b o e n hb hx => ?_, I.base.free, fun b o e hx => ?_, I.base.tups, I.base.frzs, I.base.tbls⟩, ⟨_, hn', fun j y v' e1 e2 e3 => ?_⟩, fun y c e => ?_, I.free, I.freeC, fun p hp => ?_, tracked ⟨oL, hoL, I.free⟩ hs, by simpa using I.len⟩ ⟨_, hs, .inl rfl⟩
    · exact (hs.2 b (Nat.ne_of_lt (Nat.lt_of_lt_of_le (Heap.lt_size e) I.ok.above))).trans (I.base.keep b o e n hb hx)
    · obtain ⟨sl, e1⟩ := I.base.slot b o e n hb hx
      exact ⟨sl, (hs.2 b (Nat.ne_of_lt (Nat.lt_of_lt_of_le (Heap.lt_size e) I.ok.above))).trans e1⟩
    · obtain ⟨o', e1⟩ := I.base.there b o e hx
      exact ⟨o', (hs.2 b (Nat.ne_of_lt (Nat.lt_of_lt_of_le (Heap.lt_size e) I.ok.above))).trans e1⟩
    · by_cases hj : j = i
      · subst hj
        rw [hi] at e1; cases e1
        rw [List.getElem?_set_self hiσ] at e2
        cases e2
        exact ⟨u, r, .inl ⟨hk, by simp⟩⟩
      · rw [List.getElem?_set_ne (Ne.symm hj)] at e2
        obtain ⟨u', r', q⟩ := hl j y v' e1 e2 e3
        refine ⟨u', r', ?_⟩
        rcases q with ⟨k, e⟩ | ⟨k, c, e, z⟩
        · refine .inl ⟨k, ?_⟩
          have : y ≠ x := fun e => hj (nodup_ix hN e1 (e ▸ hi))
          simp [this, e]
        · exact .inr ⟨k, c, e, z.sameBut hs (cne y c e)⟩
    · obtain ⟨w', z⟩ := I.cell y c e
      exact ⟨w', z.sameBut hs (cne y c e)⟩
    · obtain ⟨e, n, ne, nf, d⟩ := I.pin p hp
      exact ⟨(hs.2 p.1 ne).trans e, n, ne, nf, d⟩
  · have hfn : X.fn x = true := by
      rcases hf with z | z
      · exact z
      · rw [z] at hk; cases hk
    obtain ⟨c, hc⟩ := I.ok.has x (.inl hk)
    obtain ⟨w', z⟩ := I.cell x c hc
    refine wpAny_storeName_cell I.ok.kind hk hc z (fun h' hc' hs => ?_)
    obtain ⟨oc, hoc, hocd⟩ := id z
    refine h { s with heap := h' } ⟨I.ok, I.os, I.bare, ⟨fun b o e n hb hx => ?_, fun b o e n hb hx => ?_, I.base.free, fun b o e hx => ?_, I.base.tups, I.base.frzs, I.base.tbls⟩, ⟨m, hn.sameBut hs (Ne.symm (cne x c hc)), fun j y v' e1 e2 e3 => ?_⟩, fun y c' e => ?_, I.free, I.freeC, fun p hp => ?_, tracked ⟨oc, hoc, I.freeC x c hc⟩ hs, by simpa using I.len⟩ ⟨c, hs, .inr hc⟩
    · exact (hs.2 b (Nat.ne_of_lt (Nat.lt_of_lt_of_le (Heap.lt_size e) (I.ok.cab x c hfn hc)))).trans (I.base.keep b o e n hb hx)
    · obtain ⟨sl, e1⟩ := I.base.slot b o e n hb hx
      exact ⟨sl, (hs.2 b (Nat.ne_of_lt (Nat.lt_of_lt_of_le (Heap.lt_size e) (I.ok.cab x c hfn hc)))).trans e1⟩
    · obtain ⟨o', e1⟩ := I.base.there b o e hx
      exact ⟨o', (hs.2 b (Nat.ne_of_lt (Nat.lt_of_lt_of_le (Heap.lt_size e) (I.ok.cab x c hfn hc)))).trans e1⟩
    · by_cases hj : j = i
      · subst hj
        rw [hi] at e1; cases e1
        rw [List.getElem?_set_self hiσ] at e2
        cases e2
        exact ⟨u, r, .inr ⟨.inl hk, c, hc, hc'⟩⟩
      · rw [List.getElem?_set_ne (Ne.symm hj)] at e2
        obtain ⟨u', r', q⟩ := hl j y v' e1 e2 e3
        refine ⟨u', r', ?_⟩
        rcases q with q | ⟨k, c', e, z'⟩
        · exact .inl q
        · refine .inr ⟨k, c', e, z'.sameBut hs ?_⟩
          rintro rfl
          exact hj (nodup_ix hN e1 (I.ok.inj _ _ _ e hc ▸ hi))
    · by_cases hcc : c' = c
      · subst hcc; exact ⟨_, hc'⟩
      · obtain ⟨w2, z2⟩ := I.cell y c' e
        exact ⟨w2, z2.sameBut hs hcc⟩
    · obtain ⟨e, n, ne, nf, d⟩ := I.pin p hp
      refine ⟨(hs.2 p.1 ?_).trans e, n, ne, nf, d⟩
      intro q
      rw [q, hoc] at e
      have q' : oc = p.2 := Option.some.inj e
      exact d w' (by rw [← q']; exact hocd)
theorem store_ok {M : Model} {A : Around} {E : Value → Shared → Prop} {i : Nat} {x : Str} {v : V} {u : Value} {Q : Unit → Shared → Prop} (I : Inv X pins σ H s) (hN : X.N.Nodup) (hi : X.N[i]? = some x) (hx : Loc X.env.scope x) (r : RelV v u)
    (h : ∀ s', Inv X pins (σ.set i (some v)) H s' → Q () s') (hf : X.fn x = true ∨ X.env.scope.names.lookup x = some .local := by first | exact .inl rfl | exact .inr rfl | assumption) : wpAny M A (storeName X.env x u) Q E s :=
  store_ok2 I hN hi hx r (fun s' I' _ => h s' I') hf
/-- behind a call or a block, the state as it is -/
theorem Inv.call' {s' : Shared} {ch : List Addr} (I : Inv X pins σ H s) (ho : s'.os = s.os) (u : Un (frs X.stack) ch H H' s.heap s'.heap) (hok : HOk X.prog X.w H' s'.heap) (hg : AllBare s'.gens)
    (hch : ∀ b ∈ ch, (b ∈ X.ex ∨ X.s₀.heap.objs.size ≤ b) ∧ b ≠ X.env.locals ∧ (∀ x c, X.env.cells.lookup x = some c → c ≠ b) ∧ ∀ p ∈ X.pn ++ pins, p.1 ≠ b) : Inv X pins σ H' s' := by
  obtain ⟨h', g', d', t', o'⟩ := s'
  have e : o' = s.os := ho
  subst e
  exact I.call (g' := g') (t' := t') (d' := d') u hok hg hch
end

/-- an exception: its class, its own dict's address (where it has one), the abstract heap behind it -/
abbrev XK := Value → Option Addr → Hp → Prop
abbrev St := List (Option V)
abbrev VK := V → Hp → Prop
/-- an expression's reading; a test's; an argument list's -/
abbrev TE := St → Hp → VK → Prop
abbrev TT := St → Hp → (Bool → Hp → Prop) → Prop
abbrev TA := St → Hp → (List V → Hp → Prop) → Prop
/-- what is wanted behind a statement -/
structure Ends where
  nx : St → Hp → Prop
  rt : VK
  bk : St → Hp → Prop := fun _ _ => False
  ct : St → Hp → Prop := fun _ _ => False
abbrev TS := Ends → St → Hp → Prop

def EP (X : Cx) (pins : List (Addr × Obj)) (σ : St) (Q : VK) (u : Value) (s' : Shared) : Prop := ∃ v H', Inv X pins σ H' s' ∧ RelV v u ∧ Q v H'
def TP (X : Cx) (pins : List (Addr × Obj)) (σ : St) (Q : Bool → Hp → Prop) (b : Bool) (s' : Shared) : Prop := ∃ H', Inv X pins σ H' s' ∧ Q b H'
def AP (X : Cx) (pins : List (Addr × Obj)) (σ : St) (Q : List V → Hp → Prop) (us : List Value) (s' : Shared) : Prop := ∃ vs H', Inv X pins σ H' s' ∧ Vals vs us ∧ Q vs H'
def SP (X : Cx) (pins : List (Addr × Obj)) (D : Ends) (f : Flow) (s' : Shared) : Prop :=
  match f with
  | .next => ∃ σ' H', Inv X pins σ' H' s' ∧ D.nx σ' H'
  | .brk => ∃ σ' H', Inv X pins σ' H' s' ∧ D.bk σ' H'
  | .cont => ∃ σ' H', Inv X pins σ' H' s' ∧ D.ct σ' H'
  | .ret u => ∃ v σ' H', Inv X pins σ' H' s' ∧ RelV v u ∧ D.rt v H'

def PE (X : Cx) (e : Expr) (t : TE) : Prop :=
  ∀ (pins : List (Addr × Obj)) (s : Shared) (σ : St) (H : Hp) (Q : VK), Inv X pins σ H s → t σ H Q → wpAny (model X.prog X.w) X.A (eval e X.env) (EP X pins σ Q) X.xe s
def PT (X : Cx) (e : Expr) (t : TT) : Prop :=
  ∀ (pins : List (Addr × Obj)) (s : Shared) (σ : St) (H : Hp) (Q : Bool → Hp → Prop), Inv X pins σ H s → t σ H Q → wpAny (model X.prog X.w) X.A (isTrue e X.env (eval e X.env)) (TP X pins σ Q) X.xe s
/-- a test whatever its 'whole' is (and, or) -/
def PW (X : Cx) (e : Expr) (t : TT) : Prop :=
  ∀ (whole : Sem Value) (pins : List (Addr × Obj)) (s : Shared) (σ : St) (H : Hp) (Q : Bool → Hp → Prop), Inv X pins σ H s → t σ H Q → wpAny (model X.prog X.w) X.A (isTrue e X.env whole) (TP X pins σ Q) X.xe s
theorem PW.pt {X : Cx} {e : Expr} {t : TT} (h : PW X e t) : PT X e t := h _
/-- an argument list (no star), from the left -/
def PA (X : Cx) (es : List Expr) (t : TA) : Prop :=
  ∀ (pos : Pos) (pins : List (Addr × Obj)) (s : Shared) (σ : St) (H : Hp) (Q : List V → Hp → Prop), Inv X pins σ H s → t σ H Q → wpAny (model X.prog X.w) X.A (spliced (backTo pos (starEach es X.env))) (AP X pins σ Q) X.xe s
def PS (X : Cx) (st : Stmt) (t : TS) : Prop :=
  ∀ (pins : List (Addr × Obj)) (s : Shared) (σ : St) (H : Hp) (D : Ends), Inv X pins σ H s → t D σ H → wpAny (model X.prog X.w) X.A (exec st X.env) (SP X pins D) X.xe s
def PSs (X : Cx) (st : List Stmt) (t : TS) : Prop :=
  ∀ (pins : List (Addr × Obj)) (s : Shared) (σ : St) (H : Hp) (D : Ends), Inv X pins σ H s → t D σ H → wpAny (model X.prog X.w) X.A (execs st X.env) (SP X pins D) X.xe s
/-- weaken the end -/
theorem thn {α : Type} {t : Sem α} {Q Q' : α → Shared → Prop} {M : Model} {A : Around} {E : Value → Shared → Prop} {s : Shared} (h : wpAny M A t Q E s) (hQ : ∀ a s, Q a s → Q' a s) : wpAny M A t Q' E s := wpAny_mono h hQ fun _ _ x => x
end L2

namespace L2
open PySem PySem.Spec PyProof.Rows
section
variable {X : Cx}

def tVar (i : Nat) : TE := fun σ H Q => ∃ v, σ[i]? = some (some v) ∧ Q v H
def tC (v : V) : TE := fun _ H Q => Q v H
theorem pe_var {i : Nat} {x : Str} {pos : Pos} (hN : X.N[i]? = some x) (hv : Vis X.env.scope x) (hd : (x == ("__debug__" : Str)) = false := by decide) (hcd : (x == ("__classdict__" : Str)) = false := by decide) : PE X (.Name x pos) (tVar i) := by
  intro pins s σ H Q I h
  obtain ⟨v, e, h⟩ := h
  obtain ⟨m, hn, hl⟩ := I.loc
  obtain ⟨u, r, l⟩ := hl i x v hN e hv
  have fin : EP X pins σ Q u s := ⟨v, H, I, r, h⟩
  rcases l with ⟨hk, hm⟩ | ⟨hk, c, hc, hcell⟩
  · exact wpAny_Name (wpAny_loadName_local I.ok.kind hk hn hm fin) hd
  · rcases hk with hk | hk
    · exact wpAny_Name (wpAny_loadName_cell I.ok.kind hk hc hcell fin) hd
    · exact wpAny_Name (wpAny_loadName_free I.ok.kind hk hc hcell fin hcd) hd
theorem pe_int {i j pos} : PE X (.Constant (.int i) j pos) (tC (.int i)) := fun _ _ _ H _ I h => wpAny_Constant_int ⟨.int i, H, I.tok _, ⟨_, rfl⟩, h⟩
theorem pe_bl {b j pos} : PE X (.Constant (.bool b) j pos) (tC (.bl b)) := fun _ _ _ H _ I h => Constant_bool ⟨.bl b, H, I, rfl, h⟩
theorem pe_str {x j pos} : PE X (.Constant (.str x) j pos) (tC (.str x)) := fun _ _ _ H _ I h => Calls.Constant_str ⟨.str x, H, I.tok _, ⟨_, rfl⟩, h⟩

/-- a global name of the def -/
def Gl (X : Cx) (x : Str) : Prop := X.env.kindOf x = some .globalImplicit
theorem ld_glob {E : Value → Shared → Prop} {pins : List (Addr × Obj)} {s : Shared} {σ : St} {H : Hp} {x : Str} {u : Value} {pos : Pos} {Q : Value → Shared → Prop} (I : Inv X pins σ H s) (hg : Gl X x) (hm : X.mg x = some u) (h : Q u s)
    (hd : (x == ("__debug__" : Str)) = false := by decide) : wpAny (model X.prog X.w) X.A (eval (.Name x pos) X.env) Q E s :=
  Calls.Name_function_global I.ok.kind hg (Calls.loadGlobal_global (by rw [I.ok.glob]; exact I.mod.glob.keeps I.bk) hm h) hd
theorem ld_blt {E : Value → Shared → Prop} {pins : List (Addr × Obj)} {s : Shared} {σ : St} {H : Hp} {x : Str} {u : Value} {pos : Pos} {Q : Value → Shared → Prop} (I : Inv X pins σ H s) (hg : Gl X x) (hm : X.mg x = none) (hv : bootBuiltins x = some u) (h : Q u s)
    (hn : x ≠ "__name__" := by decide) (hd : (x == ("__debug__" : Str)) = false := by decide) : wpAny (model X.prog X.w) X.A (eval (.Name x pos) X.env) Q E s := by
  obtain ⟨mb, h1, h2⟩ := I.mod.blt
  exact Calls.Name_function_global I.ok.kind hg (Calls.loadGlobal_builtin (by rw [I.ok.glob]; exact I.mod.glob.keeps I.bk) hm (by rw [I.ok.blt]; exact h1.keeps I.bk) ((h2 x hn).trans hv) h) hd
/-- a module's constant, a class, a function, as a value -/
theorem pe_glob {x : Str} {v : V} {u : Value} {pos : Pos} (hg : Gl X x) (hm : X.mg x = some u) (r : RelV v u) (hd : (x == ("__debug__" : Str)) = false := by decide) : PE X (.Name x pos) (tC v) :=
  fun _ _ _ H _ I h => ld_glob I hg hm ⟨v, H, I, r, h⟩ hd
theorem pe_bltn {x : Str} {v : V} {u : Value} {pos : Pos} (hg : Gl X x) (hm : X.mg x = none) (hv : bootBuiltins x = some u) (r : RelV v u) (hn : x ≠ "__name__" := by decide) (hd : (x == ("__debug__" : Str)) = false := by decide) : PE X (.Name x pos) (tC v) :=
  fun _ _ _ H _ I h => ld_blt I hg hm hv ⟨v, H, I, r, h⟩ hn hd

/-- two ints -/
def t2I (ta tb : TE) (k : Int → Int → Hp → Prop) : St → Hp → Prop := fun σ H => ta σ H fun x H1 => tb σ H1 fun y H2 => ∃ i j, x = .int i ∧ y = .int j ∧ k i j H2
def tAdd (ta tb : TE) : TE := fun σ H Q => t2I ta tb (fun i j H2 => Q (.int (i + j)) H2) σ H
def tSub (ta tb : TE) : TE := fun σ H Q => t2I ta tb (fun i j H2 => Q (.int (i - j)) H2) σ H
/-- the left factor below 2^64 -/
def tMul (ta tb : TE) : TE := fun σ H Q => t2I ta tb (fun i j H2 => (-(2 ^ 64) < i ∧ i < 2 ^ 64) ∧ Q (.int (i * j)) H2) σ H
variable {a b : Expr} {ta tb : TE} {pos : Pos}
def PC (X : Cx) (op : CmpOp) (a b : Expr) (t : TE) : Prop :=
  ∀ (pins : List (Addr × Obj)) (s : Shared) (σ : St) (H : Hp) (Q : VK), Inv X pins σ H s → t σ H Q →
    wpAny (model X.prog X.w) X.A (eval a X.env) (fun v s₁ => wpAny (model X.prog X.w) X.A (eval b X.env) (fun u s₂ => wpAny (model X.prog X.w) X.A (compareOp op v u) (EP X pins σ Q) X.xe s₂) X.xe s₁) X.xe s
def tCmp (p : Int → Int → Bool) (ta tb : TE) : TE := fun σ H Q => t2I ta tb (fun i j H2 => Q (.bl (p i j)) H2) σ H
abbrev tLt : TE → TE → TE := tCmp fun i j => decide (i < j)
abbrev tLe : TE → TE → TE := tCmp fun i j => decide (i ≤ j)
abbrev tGt : TE → TE → TE := tCmp fun i j => decide (j < i)
abbrev tGe : TE → TE → TE := tCmp fun i j => decide (j ≤ i)
abbrev tEqI : TE → TE → TE := tCmp fun i j => decide (i = j)
abbrev tNeI : TE → TE → TE := tCmp fun i j => !decide (i = j)
/-- is None -/
def tIsN (ta : TE) : TE := fun σ H Q => ta σ H fun x H1 => Q (.bl (decide (x = .non))) H1
def tNotN (ta : TE) : TE := fun σ H Q => ta σ H fun x H1 => Q (.bl (!decide (x = .non))) H1
/-- a comparison as a value, as a test -/
def tB (t : TE) : TT := fun σ H Q => t σ H fun x H1 => ∃ c, x = .bl c ∧ Q c H1
/-- an expression whose value is a bool, as a test -/
theorem pt_val {e : Expr} {t : TE} (h : PE X e t) (he : ∀ whole, isTrue e X.env whole = (do let v ← whole; standAt e.pos; holding [v] (truthy v)) := by intro _; rfl) : PT X e (tB t) := by
  intro pins s σ H Q I hw
  refine isTrue_plain (thn (h pins s σ H _ I hw) fun v s1 ⟨x, H1, I1, r1, q1⟩ => ?_) (he _)
  obtain ⟨d, rfl, q⟩ := q1
  cases r1
  exact wpAny_truthy_bool ⟨H1, I1, q⟩

variable {tA tB' : TT} {rest : List Expr}
def tAnd (t u : TT) : TT := fun σ H Q => t σ H fun c H1 => if c = true then u σ H1 Q else Q false H1
def tOr (t u : TT) : TT := fun σ H Q => t σ H fun c H1 => if c = true then Q true H1 else u σ H1 Q
def tNot (t : TT) : TT := fun σ H Q => t σ H fun c H1 => Q (!c) H1
theorem pw_and1 (ha : PT X a tA) : PW X (.BoolOp .And [a] pos) tA := by
  intro wh pins s σ H Q I h
  refine isTrue_and (thn (ha pins s σ H Q I h) fun c s1 e => ?_)
  cases c with
  | true => exact isTrue_and_nil e
  | false => exact e
theorem pw_or1 (ha : PT X a tA) : PW X (.BoolOp .Or [a] pos) tA := by
  intro wh pins s σ H Q I h
  refine isTrue_or (thn (ha pins s σ H Q I h) fun c s1 e => ?_)
  cases c with
  | false => exact isTrue_or_nil e
  | true => exact e
theorem pw_and (ha : PT X a tA) (hb : PW X (.BoolOp .And (b :: rest) pos) tB') : PW X (.BoolOp .And (a :: b :: rest) pos) (tAnd tA tB') := by
  intro wh pins s σ H Q I h
  refine isTrue_and (thn (ha pins s σ H _ I h) fun c s1 ⟨H1, I1, q1⟩ => ?_)
  cases c with
  | true => exact hb wh pins s1 σ H1 Q I1 q1
  | false => exact ⟨H1, I1, q1⟩
theorem pw_or (ha : PT X a tA) (hb : PW X (.BoolOp .Or (b :: rest) pos) tB') : PW X (.BoolOp .Or (a :: b :: rest) pos) (tOr tA tB') := by
  intro wh pins s σ H Q I h
  refine isTrue_or (thn (ha pins s σ H _ I h) fun c s1 ⟨H1, I1, q1⟩ => ?_)
  cases c with
  | true => exact ⟨H1, I1, q1⟩
  | false => exact hb wh pins s1 σ H1 Q I1 q1
theorem pt_not (ha : PT X a tA) : PT X (.UnaryOp .Not a pos) (tNot tA) := by
  intro pins s σ H Q I h
  exact isTrue_not (ha pins s σ H (fun c H1 => Q (!c) H1) I h)
/-- .. as values (bools) -/
def tAndV (ta tb : TE) : TE := fun σ H Q => ta σ H fun x H1 => ∃ c, x = .bl c ∧ if c = true then tb σ H1 Q else Q (.bl false) H1
def tOrV (ta tb : TE) : TE := fun σ H Q => ta σ H fun x H1 => ∃ c, x = .bl c ∧ if c = true then Q (.bl true) H1 else tb σ H1 Q
def tNotV (ta : TE) : TE := fun σ H Q => ta σ H fun x H1 => ∃ c, x = .bl c ∧ Q (.bl (!c)) H1
theorem pe_one {op} {t : TE} (h : PE X a t) : PE X (.BoolOp op [a] pos) t := fun pins s σ H Q I hw => BoolOp_one (h pins s σ H Q I hw)
theorem pe_and (ha : PE X a ta) (hb : PE X (.BoolOp .And (b :: rest) pos) tb) : PE X (.BoolOp .And (a :: b :: rest) pos) (tAndV ta tb) := by
  intro pins s σ H Q I h
  refine BoolOp_and (thn (ha pins s σ H _ I h) fun v s1 ⟨x, H1, I1, r1, q1⟩ => ?_)
  obtain ⟨c, rfl, q1⟩ := q1
  cases r1
  refine wpAny_truthy_bool ?_
  cases c with
  | true => exact hb pins s1 σ H1 Q I1 q1
  | false => exact ⟨.bl false, H1, I1, rfl, q1⟩
theorem pe_not (ha : PE X a ta) : PE X (.UnaryOp .Not a pos) (tNotV ta) := by
  intro pins s σ H Q I h
  refine UnaryOp_ (thn (ha pins s σ H _ I h) fun v s1 ⟨x, H1, I1, r1, q1⟩ => ?_)
  obtain ⟨c, rfl, q1⟩ := q1
  cases r1
  exact not_of (wpAny_truthy_bool ⟨.bl (!c), H1, I1, rfl, q1⟩)
/-- a if t else b -/
def tIf (t : TT) (ta tb : TE) : TE := fun σ H Q => t σ H fun c H1 => if c = true then ta σ H1 Q else tb σ H1 Q
theorem pe_ifExp {c : Expr} (hc : PT X c tA) (ha : PE X a ta) (hb : PE X b tb) : PE X (.IfExp c a b pos) (tIf tA ta tb) := by
  intro pins s σ H Q I h
  refine wpAny_IfExp (thn (hc pins s σ H _ I h) fun d s1 ⟨H1, I1, q1⟩ => ?_)
  cases d with
  | true => exact ha pins s1 σ H1 Q I1 q1
  | false => exact hb pins s1 σ H1 Q I1 q1
end
end L2

namespace L2
open PySem PySem.Spec PyProof.Rows

def SqL (K : PySem.W.Frag) (H : Hp) (a : Addr) (xs : List V) : Prop :=
  Rd H a (.lst xs) ∨
    ∃ (o : Obj) (its : Array Value) (n : Nat), K.lookup a = some o ∧ o.cls = .type "list" ∧ o.dict = none ∧ o.data = .seq its n ∧ its.size ≤ sizeLine ∧ Vals xs its.toList
def SqT (K : PySem.W.Frag) (H : Hp) (a : Addr) (xs : List V) : Prop :=
  Rd H a (.tup xs) ∨
    ∃ (o : Obj) (its : Array Value) (n : Nat), K.lookup a = some o ∧ o.cls = .type "tuple" ∧ o.data = .seq its n ∧ its.size ≤ sizeLine ∧ Vals xs its.toList
def absV : Value → Option V
  | .none => some .non
  | .bool b => some (.bl b)
  | .int i _ => some (.int i)
  | .str x _ => some (.str x)
  | .bytes b _ => some (.byt b)
  | .float b _ => some (.flt b)
  | .ref a => some (.ref a)
  | .type n => some (.ty n)
  | _ => none
theorem RelV.abs {x : V} {u : Value} (r : RelV x u) : absV u = some x := by
  cases x with
  | non => cases r; rfl
  | bl _ => cases r; rfl
  | int _ => obtain ⟨t, rfl⟩ := r; rfl
  | str _ => obtain ⟨t, rfl⟩ := r; rfl
  | byt _ => obtain ⟨t, rfl⟩ := r; rfl
  | flt _ => obtain ⟨t, rfl⟩ := r; rfl
  | ref _ => cases r; rfl
  | ty _ => cases r; rfl
theorem RelV.inj {x y : V} {u : Value} (r : RelV x u) (q : RelV y u) : x = y := Option.some.inj (r.abs.symm.trans q.abs)
theorem Vals.inj : ∀ {xs ys : List V} {us : List Value}, Vals xs us → Vals ys us → xs = ys
  | _, _, _, .nil, .nil => rfl
  | _, _, _, .cons r t, .cons r' t' => by rw [r.inj r', Vals.inj t t']
section
variable {X : Cx} {pins : List (Addr × Obj)} {σ : St} {H : Hp} {s : Shared} {a : Addr} {xs ys : List V}
theorem SqL.of {K : PySem.W.Frag} (h : H a = some (.lst xs)) : SqL K H a xs := .inl (.inl h)
theorem SqT.of {K : PySem.W.Frag} (h : H a = some (.tup xs)) : SqT K H a xs := .inl (.inl h)
theorem Inv.list (I : Inv X pins σ H s) (h : SqL X.K H a xs) : ∃ its : List Value, Vals xs its ∧ PlainL s.heap a its.toArray ∧ xs.length ≤ sizeLine := by
  rcases h with h | ⟨o, its, n, hk, hc, hd, hs, hz, r⟩
  · obtain ⟨z, its, n, r, e⟩ := h.ok I.hok
    exact ⟨its, r, ⟨_, n, e, rfl, rfl, rfl⟩, z⟩
  · refine ⟨its.toList, r, ⟨o, n, I.kIn a o hk, hc, hd, by simpa using hs⟩, ?_⟩
    have e := r.length
    simp only [Array.length_toList] at e
    omega
theorem Inv.tuple (I : Inv X pins σ H s) (h : SqT X.K H a xs) : ∃ its : List Value, Vals xs its ∧ IsTup s.heap a its.toArray ∧ xs.length ≤ sizeLine := by
  rcases h with h | ⟨o, its, n, hk, hc, hs, hz, r⟩
  · obtain ⟨z, its, r, p⟩ := h.ok I.hok
    exact ⟨its, r, p, z⟩
  · refine ⟨its.toList, r, ⟨o, I.kIn a o hk, hc, n, by simpa using hs⟩, ?_⟩
    have e := r.length
    simp only [Array.length_toList] at e
    omega
theorem Inv.list_inj (I : Inv X pins σ H s) (h : SqL X.K H a xs) (h' : SqL X.K H a ys) : xs = ys := by
  obtain ⟨its, r, ⟨o, n, e, _, _, d⟩, _⟩ := I.list h
  obtain ⟨its', r', ⟨o', n', e', _, _, d'⟩, _⟩ := I.list h'
  rw [e] at e'; cases e'
  rw [d] at d'
  injection d' with d1 _
  have : its = its' := by simpa using congrArg Array.toList d1
  subst this
  exact r.inj r'
end

abbrev Cx.wish (X : Cx) (E : Value → Shared → Prop) : Cx := { X with xe := E }
/-- no exception leaves -/
abbrev Cx.nox (X : Cx) : Cx := X.wish fun _ _ => False
theorem Cx.Ok.wish {X : Cx} (ok : X.Ok) (E : Value → Shared → Prop) : (X.wish E).Ok :=
  ⟨ok.mod, ok.kind, ok.glob, ok.blt, ok.above, ok.inj, ok.has, ok.cab, ok.hd, ok.frames, ok.stk, ok.exf, ok.bs, ok.bsz, ok.noex, ok.exfs, ok.funs, ok.frf⟩
theorem Cx.Ok.unwish {X : Cx} {E : Value → Shared → Prop} (ok : (X.wish E).Ok) : X.Ok :=
  ⟨ok.mod, ok.kind, ok.glob, ok.blt, ok.above, ok.inj, ok.has, ok.cab, ok.hd, ok.frames, ok.stk, ok.exf, ok.bs, ok.bsz, ok.noex, ok.exfs, ok.funs, ok.frf⟩
section
variable {X : Cx} {pins : List (Addr × Obj)} {σ : St} {H : Hp} {s : Shared} {E : Value → Shared → Prop}
theorem Inv.wish (I : Inv X pins σ H s) (E : Value → Shared → Prop) : Inv (X.wish E) pins σ H s := ⟨I.ok.wish E, I.os, I.bare, I.base, I.loc, I.cell, I.free, I.freeC, I.pin, I.hok, I.len⟩
theorem Inv.unwish (I : Inv (X.wish E) pins σ H s) : Inv X pins σ H s := ⟨I.ok.unwish, I.os, I.bare, I.base, I.loc, I.cell, I.free, I.freeC, I.pin, I.hok, I.len⟩
theorem SP.unwish {D : Ends} {f : Flow} {s' : Shared} (h : SP (X.wish E) pins D f s') : SP X pins D f s' := by
  cases f with
  | next => obtain ⟨σ', H', I, q⟩ := h; exact ⟨σ', H', I.unwish, q⟩
  | brk => obtain ⟨σ', H', I, q⟩ := h; exact ⟨σ', H', I.unwish, q⟩
  | cont => obtain ⟨σ', H', I, q⟩ := h; exact ⟨σ', H', I.unwish, q⟩
  | ret u => obtain ⟨v, σ', H', I, r, q⟩ := h; exact ⟨v, σ', H', I.unwish, r, q⟩
theorem PE.nox {e : Expr} {t : TE} (h : PE X.nox e t) : PE X e t := fun pins s σ H Q I hw =>
  wpAny_mono (h pins s σ H Q (I.wish _) hw) (fun _ _ ⟨v, H', I', r, q⟩ => ⟨v, H', I'.unwish, r, q⟩) fun _ _ z => False.elim z
theorem PT.nox {e : Expr} {t : TT} (h : PT X.nox e t) : PT X e t := fun pins s σ H Q I hw =>
  wpAny_mono (h pins s σ H Q (I.wish _) hw) (fun _ _ ⟨H', I', q⟩ => ⟨H', I'.unwish, q⟩) fun _ _ z => False.elim z
theorem PSs.nox {st : List Stmt} {t : TS} (h : PSs X.nox st t) : PSs X st t := fun pins s σ H D I hw =>
  wpAny_mono (h pins s σ H D (I.wish _) hw) (fun _ _ q => q.unwish) fun _ _ z => False.elim z
end

section
variable {X : Cx} {st : Stmt} {rest : List Stmt} {t u : TS} {e : Expr} {te : TE} {pos : Pos}
def tNext : TS := fun D σ H => D.nx σ H
def tSeq (t u : TS) : TS := fun D σ H => t { D with nx := u D } σ H
theorem pss_nil : PSs X [] tNext := fun _ _ σ H _ I h => wpAny_execs_nil ⟨σ, H, I, h⟩
theorem pss_cons (h1 : PS X st t) (h2 : PSs X rest u) : PSs X (st :: rest) (tSeq t u) := by
  intro pins s σ H D I h
  refine wpAny_execs_cons (thn (h1 pins s σ H { D with nx := u D } I h) fun f s1 q => ?_)
  cases f with
  | next =>
    obtain ⟨σ', H', I', q⟩ := q
    exact h2 pins s1 σ' H' D I' q
  | ret v => exact q
  | brk => exact q
  | cont => exact q
theorem pss_one (h1 : PS X st t) : PSs X [st] t := by
  intro pins s σ H D I h
  refine wpAny_execs_cons (thn (h1 pins s σ H D I h) fun f s1 q => ?_)
  cases f with
  | next => exact wpAny_execs_nil q
  | ret v => exact q
  | brk => exact q
  | cont => exact q
def tBreak : TS := fun D σ H => D.bk σ H
def tCont : TS := fun D σ H => D.ct σ H
/-- in a def's body nothing is shown -/
theorem Inv.quiet {pins : List (Addr × Obj)} {σ : St} {H : Hp} {s : Shared} (I : Inv X pins σ H s) : interactive X.env = false := by simp [interactive, I.ok.kind]
/-- an expression whose value is dropped -/
def tDrop (te : TE) : TS := fun D σ H => te σ H fun _ H1 => D.nx σ H1
theorem ps_expr (he : PE X e te) (hs : swapsWith e none pos.line X.env = pure false := by rfl) : PS X (.Expr e pos) (tDrop te) := by
  intro pins s σ H D I h
  exact wpAny_Expr_any (thn (he pins s σ H _ I h) fun v s1 ⟨x, H1, I1, r1, q1⟩ => ⟨σ, H1, I1, q1⟩) I.quiet hs
def tRet (te : TE) : TS := fun D σ H => te σ H D.rt
theorem ps_ret (he : PE X e te) : PS X (.Return (some e) pos) (tRet te) := by
  intro pins s σ H D I h
  exact wpAny_Return_some (thn (he pins s σ H _ I h) fun v s1 ⟨x, H1, I1, r1, q1⟩ => ⟨x, σ, H1, I1, r1, q1⟩)
def tRetN : TS := fun D _ H => D.rt .non H
def tIfS (c : TT) (t u : TS) : TS := fun D σ H => c σ H fun b H1 => if b = true then t D σ H1 else u D σ H1
theorem ps_if {c : Expr} {a b : List Stmt} {tc : TT} (hc : PT X c tc) (ha : PSs X a t) (hb : PSs X b u) : PS X (.If c a b pos) (tIfS tc t u) := by
  intro pins s σ H D I h
  refine wpAny_If (thn (hc pins s σ H _ I h) fun d s1 ⟨H1, I1, q1⟩ => ?_)
  cases d with
  | true => exact ha pins s1 σ H1 D I1 q1
  | false => exact hb pins s1 σ H1 D I1 q1
/-- code that the proof never comes to -/
def tNever : TS := fun _ _ _ => False
theorem ps_never : PS X st tNever := fun _ _ _ _ _ _ h => h.elim
end

abbrev TG := V → St → Hp → (St → Hp → Prop) → Prop
abbrev TGs := List V → St → Hp → (St → Hp → Prop) → Prop
def PG (X : Cx) (target : Expr) (t : TG) : Prop :=
  ∀ (pins : List (Addr × Obj)) (s : Shared) (σ : St) (H : Hp) (v : V) (u : Value) (Q : St → Hp → Prop), Inv X pins σ H s → RelV v u → t v σ H Q →
    wpAny (model X.prog X.w) X.A (assign target X.env u) (fun _ s' => ∃ σ' H', Inv X pins σ' H' s' ∧ Q σ' H') X.xe s
/-- several targets, one after another -/
def PGs (X : Cx) (ts : List Expr) (t : TGs) : Prop :=
  ∀ (pins : List (Addr × Obj)) (s : Shared) (σ : St) (H : Hp) (vs : List V) (us : List Value) (Q : St → Hp → Prop), Inv X pins σ H s → Vals vs us → t vs σ H Q →
    wpAny (model X.prog X.w) X.A (assignInOrder ((assignEach ts X.env).map (·.2)) us) (fun _ s' => ∃ σ' H', Inv X pins σ' H' s' ∧ Q σ' H') X.xe s
/-- o[i] = v, by values -/
abbrev TSet := V → V → V → Hp → (Hp → Prop) → Prop
def PSet (X : Cx) (t : TSet) : Prop :=
  ∀ (pins : List (Addr × Obj)) (s : Shared) (σ : St) (H : Hp) (o i v : V) (ov iv u : Value) (Q : Hp → Prop), Inv X pins σ H s → RelV o ov → RelV i iv → RelV v u → t o i v H Q →
    wpAny (model X.prog X.w) X.A (setItem ov iv u) (fun _ s' => ∃ H', Inv X pins σ H' s' ∧ Q H') X.xe s
/-- a op= b, by values -/
abbrev TIp := V → V → Hp → VK → Prop
def PIp (X : Cx) (op : Operator) (t : TIp) : Prop :=
  ∀ (pins : List (Addr × Obj)) (s : Shared) (σ : St) (H : Hp) (x y : V) (v u : Value) (Q : VK), Inv X pins σ H s → RelV x v → RelV y u → t x y H Q →
    wpAny (model X.prog X.w) X.A (inplaceOp op v u) (EP X pins σ Q) X.xe s
section
variable {X : Cx} {pos : Pos}
def gName (i : Nat) : TG := fun v σ H Q => Q (σ.set i (some v)) H
theorem pg_name {i : Nat} {x : Str} (hN : X.N.Nodup) (hi : X.N[i]? = some x) (hx : Loc X.env.scope x) (hf : X.fn x = true ∨ X.env.scope.names.lookup x = some .local := by first | exact .inl rfl | exact .inr rfl | assumption) : PG X (.Name x pos) (gName i) := by
  intro pins s σ H v u Q I r h
  exact wpAny_assign_Name (store_ok I hN hi hx r (fun s' I' => ⟨_, H, I', h⟩) hf)
def gNil : TGs := fun vs σ H Q => vs = [] ∧ Q σ H
def gCons (t : TG) (u : TGs) : TGs := fun vs σ H Q => ∃ v r, vs = v :: r ∧ t v σ H fun σ' H' => u r σ' H' Q
theorem pgs_nil : PGs X [] gNil := by
  intro pins s σ H vs us Q I r h
  obtain ⟨e, h⟩ := h
  subst e
  cases r
  exact assignInOrder_nil ⟨σ, H, I, h⟩
theorem pgs_cons {e : Expr} {es : List Expr} {t : TG} {u : TGs} (h1 : PG X e t) (h2 : PGs X es u)
    (hs : (assignEach (e :: es) X.env).map (·.2) = assign e X.env :: (assignEach es X.env).map (·.2) := by rfl) : PGs X (e :: es) (gCons t u) := by
  intro pins s σ H vs us Q I r h
  obtain ⟨v, vr, e1, h⟩ := h
  subst e1
  cases r with
  | cons r rr =>
    rw [hs]
    refine assignInOrder_cons (thn (h1 pins s σ H _ _ _ I r h) fun _ s1 ⟨σ1, H1, I1, q1⟩ => ?_)
    exact h2 pins s1 σ1 H1 _ _ Q I1 rr q1
/-- (a, b, ..) = a tuple of that length -/
def gTup (K : PySem.W.Frag) (n : Nat) (t : TGs) : TG := fun v σ H Q => ∃ a xs, v = .ref a ∧ SqT K H a xs ∧ xs.length = n ∧ t xs σ H Q
theorem pg_tup {es : List Expr} {k : Nat} {t : TGs} {n : Nat} (hc : X.calm = true) (h : PGs X es t)
    (hn : (assignEach es X.env).length = n := by rfl) (hst : (assignEach es X.env).findIdx? (·.1) = none := by rfl) : PG X (.Tuple es k pos) (gTup X.K n t) := by
  intro pins s σ H v u Q I r hw
  obtain ⟨a, xs, e1, hq, hl, hw⟩ := hw
  subst e1
  cases r
  obtain ⟨its, rv, ht, hz⟩ := I.tuple hq
  refine assign_Tuple_tuple (I.ok.hd hc) ht (by simp [hn, ← hl, rv.length]) hst fun h' hx => ?_
  have I1 : Inv X pins σ H { s with heap := h' } := I.kept (t' := s.toks) fun b o e => hx b o (Nat.ne_of_lt (Heap.lt_size e)) e
  exact h pins _ σ H xs _ Q I1 (by simpa using rv) hw
/-- o[i] = .. -/
def gSub (to ti : TE) (t : TSet) : TG := fun v σ H Q => to σ H fun o H1 => ti σ H1 fun i H2 => t o i v H2 fun H3 => Q σ H3
/-- target = value -/
def tAsg (te : TE) (g : TG) : TS := fun D σ H => te σ H fun x H1 => g x σ H1 D.nx
theorem ps_asg {tg e : Expr} {te : TE} {g : TG} (he : PE X e te) (hg : PG X tg g) (hs : swapsWithSole [tg] e pos.line X.env = pure false := by rfl) (hw : swappedStores [tg] e X.env = pure none := by rfl)
    (h1 : (assignEach [tg] X.env).map (·.2) = [assign tg X.env] := by rfl) : PS X (.Assign [tg] e pos) (tAsg te g) := by
  intro pins s σ H D I h
  refine wpAny_Assign_stores (thn (he pins s σ H _ I h) fun v s1 ⟨x, H1, I1, r1, q1⟩ => ?_) hs hw
  rw [h1]
  exact thn (hg pins s1 σ H1 x v _ I1 r1 q1) fun _ s2 q => q
/-- name = value -/
theorem ps_set {i : Nat} {x : Str} {e : Expr} {te : TE} {pos' : Pos} (hN : X.N.Nodup) (hi : X.N[i]? = some x) (hx : Loc X.env.scope x) (he : PE X e te) (hs : swapsWith e (some (.Name x pos')) pos.line X.env = pure false := by rfl) (hf : X.fn x = true ∨ X.env.scope.names.lookup x = some .local := by first | exact .inl rfl | exact .inr rfl | assumption) :
    PS X (.Assign [.Name x pos'] e pos) (tAsg te (gName i)) := by
  intro pins s σ H D I h
  refine wpAny_Assign_Name (thn (he pins s σ H _ I h) fun v s1 ⟨y, H1, I1, r1, q1⟩ => ?_) hs
  exact store_ok I1 hN hi hx r1 (fun s2 I2 => ⟨_, H1, I2, q1⟩) hf
/-- a, b = x, y with plain local names: stored from the right; the pair itself is not tracked (the opening rows as in PyProof/Rows/TupAssign.lean:23) -/
def tPar (i j : Nat) (ta : TA) : TS := fun D σ H => ta σ H fun vs H1 => ∃ v w, vs = [v, w] ∧ D.nx ((σ.set i (some v)).set j (some w)) H1
/-- name op= e -/
def tAug (i : Nat) (te : TE) (ti : TIp) : TS := fun D σ H => ∃ x, σ[i]? = some (some x) ∧ te σ H fun y H1 => ti x y H1 fun z H2 => D.nx (σ.set i (some z)) H2
/-- o[i] op= e -/
def tAugS (to ti te : TE) (tget : V → V → Hp → VK → Prop) (tip : TIp) (tset : TSet) : TS := fun D σ H => to σ H fun o H1 => ti σ H1 fun i H2 => tget o i H2 fun x H3 => te σ H3 fun y H4 => tip x y H4 fun z H5 => tset o i z H5 fun H6 => D.nx σ H6
/-- o[i], by values -/
def PGet (X : Cx) (t : V → V → Hp → VK → Prop) : Prop :=
  ∀ (pins : List (Addr × Obj)) (s : Shared) (σ : St) (H : Hp) (o i : V) (ov iv : Value) (Q : VK), Inv X pins σ H s → RelV o ov → RelV i iv → t o i H Q →
    wpAny (model X.prog X.w) X.A (getItem ov iv) (EP X pins σ Q) X.xe s
/-- ints -/
def ipI (f : Int → Int → Int) : TIp := fun x y H Q => ∃ i j, x = .int i ∧ y = .int j ∧ Q (.int (f i j)) H
end

section
variable {X : Cx} {pos : Pos}
/-- the invariant W with its measure -/
def tWhile (c : TT) (tb : TS) : TS := fun D σ H => ∃ W : Nat → St → Hp → Prop, (∃ m, W m σ H) ∧ ∀ m σ H, W m σ H →
  c σ H fun b H1 => if b = true then ∃ N : St → Hp → Prop, (∀ σ' H', N σ' H' → ∃ m', m' < m ∧ W m' σ' H') ∧ tb { D with nx := N, ct := N, bk := D.nx } σ H1 else D.nx σ H1
end

/-- at turn i: it yields x (the heap may grow), or it stops -/
structure It where
  go : Nat → Hp → Prop
  yld : Nat → Hp → V → Hp → Prop
  stop : Nat → Hp → Prop
/-- the iterator's own objects may turn: they are not the frame's, not pinned, younger than the entry (or a comprehension's own) -/
def FpOk (X : Cx) (pins : List (Addr × Obj)) (H : Hp) (b : Addr) : Prop :=
  H b = none ∧ b ≠ X.env.locals ∧ b ∉ X.fs ∧ (b ∈ X.ex ∨ X.s₀.heap.objs.size ≤ b) ∧ (∀ x c, X.env.cells.lookup x = some c → c ≠ b) ∧ ∀ p ∈ X.pn ++ pins, p.1 ≠ b
theorem Inv.fpOk {X : Cx} {pins : List (Addr × Obj)} {σ : St} {H H' : Hp} {s : Shared} {b : Addr} (I : Inv X pins σ H s) (hb : s.heap.objs.size ≤ b) (hn : H' b = none) : FpOk X pins H' b := by
  refine ⟨hn, Nat.ne_of_gt (Nat.lt_of_lt_of_le I.lt hb), I.nofs hb, .inr (Nat.le_trans I.sz hb), fun x c e z => ?_, fun p hp z => ?_⟩
  · obtain ⟨v, q⟩ := I.cell x c e
    exact absurd (Nat.lt_of_lt_of_le q.lt (by rw [z]; exact hb)) (Nat.lt_irrefl _)
  · exact absurd (Nat.lt_of_lt_of_le (Heap.lt_size (I.pin p hp).1) (by rw [z]; exact hb)) (Nat.lt_irrefl _)
structure Turn (P : Program) (w : World) (K : PySem.W.Frag) (tg : Expr) (J : It) (fp : List Addr) (it : Addr) (tn : Nat → Heap → Prop) : Prop where
  mem : it ∈ fp
  obj : ∀ i h, tn i h → ∀ b ∈ fp, ∃ o, h.get? b = some o ∧ ∀ v, o.data ≠ .cell v
  keep : ∀ i h h', tn i h → (∀ b ∈ fp, ∀ o, h.get? b = some o → h'.get? b = some o) → tn i h'
  item : ∀ (X : Cx), X.prog = P → X.w = w → X.K = K → X.calm = true → ∀ (i : Nat) (pins : List (Addr × Obj)) (s : Shared) (σ : St) (H : Hp) (E : Value → Shared → Prop), Inv X pins σ H s → (∀ b ∈ fp, FpOk X pins H b) → tn i s.heap → J.go i H →
    wpAny (model P w) X.A (pyNext (.ref it)) (fun r s1 => ∃ u, r = some u ∧
      wpAny (model P w) X.A (letOwnedTupleGo tg (.ref it) u) (fun _ s2 => ∃ x H', Inv X pins σ H' s2 ∧ RelV x u ∧ J.yld i H x H' ∧ tn (i + 1) s2.heap ∧ ∀ b ∈ fp, H' b = none) E s1) E s
  done : ∀ (X : Cx), X.prog = P → X.w = w → X.K = K → X.calm = true → ∀ (i : Nat) (pins : List (Addr × Obj)) (s : Shared) (σ : St) (H : Hp) (E : Value → Shared → Prop), Inv X pins σ H s → (∀ b ∈ fp, FpOk X pins H b) → tn i s.heap → J.stop i H →
    wpAny (model P w) X.A (pyNext (.ref it)) (fun r s1 => r = none ∧ Inv X pins σ H s1) E s
  self : ∀ (A : Around) (i : Nat) (s : Shared) (Q : Value → Shared → Prop) (E : Value → Shared → Prop), tn i s.heap → Q (.ref it) s → wpAny (model P w) A (pyIter (.ref it)) Q E s
abbrev TI := St → Hp → (It → Hp → Prop) → Prop
/-- an iterator has come -/
def PIE (X : Cx) (pins : List (Addr × Obj)) (σ : St) (tg : Expr) (R : It → Hp → Prop) (itv : Value) (s2 : Shared) : Prop :=
  ∃ (it : Addr) (fp : List Addr) (tn : Nat → Heap → Prop) (J : It) (H' : Hp), itv = .ref it ∧ Inv X pins σ H' s2 ∧ Turn X.prog X.w X.K tg J fp it tn ∧ tn 0 s2.heap ∧ (∀ b ∈ fp, FpOk X pins H' b) ∧ R J H'
def PI (X : Cx) (tg iter : Expr) (wi : TI) : Prop :=
  ∀ (pins : List (Addr × Obj)) (s : Shared) (σ : St) (H : Hp) (R : It → Hp → Prop), Inv X pins σ H s → wi σ H R →
    wpAny (model X.prog X.w) X.A (eval iter X.env) (fun v s1 => wpAny (model X.prog X.w) X.A (pyIter v) (PIE X pins σ tg R) X.xe s1) X.xe s

/-- the step ahead of the store is nothing for an iterator that keeps no tuple -/
theorem go_of {M : Model} {A : Around} {E : Value → Shared → Prop} {s : Shared} {tg : Expr} {it : Addr} {u : Value} {o : Obj} {n : String} {vs : Array Value} {Q : Unit → Shared → Prop} (ho : s.heap.get? it = some o) (hc : o.cls = .type n) (hd : o.data = .fields vs)
    (hn : ["enumerate", "zip", "dict_itemiterator", "dict_reverseitemiterator", "odict_iterator", "itertools.zip_longest", "itertools.pairwise"].contains n = false) (hQ : Q () s) : wpAny M A (letOwnedTupleGo tg (.ref it) u) Q E s := by
  unfold letOwnedTupleGo
  cases tg <;> first
    | exact wpAny_pure hQ
    | (cases u <;> first
        | exact wpAny_pure hQ
        | (refine wpAny_bind (wpAny_load ho ?_)
           rw [hc, hd]
           show wpAny M A (if (["enumerate", "zip", "dict_itemiterator", "dict_reverseitemiterator", "odict_iterator", "itertools.zip_longest", "itertools.pairwise"].contains n && vs[0]? == some (rawInt _)) = true then _ else _) Q E s
           rw [if_neg (by intro h; rw [hn, Bool.false_and] at h; cases h)]
           exact wpAny_pure hQ))

/-- the list at a, as it stands at each turn (a loop may append to it) -/
def Itl (K : PySem.W.Frag) (a : Addr) : It :=
  ⟨fun i H => ∃ xs x, SqL K H a xs ∧ xs[i]? = some x, fun i H x H' => H' = H ∧ ∀ xs, SqL K H a xs → xs[i]? = some x, fun i H => ∃ xs, SqL K H a xs ∧ xs.length ≤ i⟩
def Itt (K : PySem.W.Frag) (a : Addr) : It :=
  ⟨fun i H => ∃ xs x, SqT K H a xs ∧ xs[i]? = some x, fun i H x H' => H' = H ∧ ∀ xs, SqT K H a xs → xs[i]? = some x, fun i H => ∃ xs, SqT K H a xs ∧ xs.length ≤ i⟩
/-- lo, lo + 1, .. (n of them) -/
def Itr (lo : Int) (n : Nat) : It := ⟨fun i _ => i < n, fun i H x H' => H' = H ∧ x = .int (lo + i), fun i _ => n ≤ i⟩
theorem turn_list {P : Program} {w : World} {K : PySem.W.Frag} {tg : Expr} (a it : Addr) : Turn P w K tg (Itl K a) [it] it (fun i h => h.IsListIter it a i) where
  mem := by simp
  obj := fun i h st b hb => by
    have e : b = it := by simpa using hb
    subst e
    obtain ⟨o, e, c, d⟩ := st
    exact ⟨o, e, fun v z => by rw [d] at z; cases z⟩
  keep := fun i h h' st k => st.at fun o e => k it (by simp) o e
  item := by
    intro X hP hw hK hc i pins s σ H E I hf st hg
    subst hP hw hK
    obtain ⟨xs, x, hq, hx⟩ := hg
    obtain ⟨its, rv, p, hz⟩ := I.list hq
    obtain ⟨u, hu, ru⟩ := rv.get hx
    obtain ⟨f0, f1, f2, f3, f4, f5⟩ := hf it (by simp)
    refine wpAny_pyNext_list_item st p.isList (x := u) (by simpa using hu) fun h' st' sb => ?_
    have I1 : Inv X pins σ H { s with heap := h' } := I.turned (t' := s.toks) (fun b o hb e => (sb.2 b hb).trans e) f0 f1 f3 f4 f5
    obtain ⟨o, e, c, d⟩ := id st'
    exact ⟨u, rfl, go_of (s := { s with heap := h' }) e c d (by decide) ⟨x, H, I1, ru, ⟨rfl, fun ys hy => by rw [I.list_inj hy hq]; exact hx⟩, st', fun b hb => (hf b hb).1⟩⟩
  done := by
    intro X hP hw hK hc i pins s σ H E I hf st hg
    subst hP hw hK
    obtain ⟨xs, hq, hx⟩ := hg
    obtain ⟨its, rv, p, hz⟩ := I.list hq
    obtain ⟨f0, f1, f2, f3, f4, f5⟩ := hf it (by simp)
    have hl := rv.length
    exact wpAny_pyNext_list_end (I.ok.hd hc) st p.isList (by simp; omega) fun h' eb => ⟨rfl, I.turned (t' := s.toks) (fun b o hb e => eb b o hb e) f0 f1 f3 f4 f5⟩
  self := fun _ _ _ _ _ st h => wpAny_pyIter_listiter st h
theorem turn_range {P : Program} {w : World} {K : PySem.W.Frag} {tg : Expr} (it : Addr) (lo : Int) (n : Nat) : Turn P w K tg (Itr lo n) [it] it (fun i h => IsRangeIter h it (lo + (i : Nat) * 1) ((n : Int) - (i : Nat)) 1) where
  mem := by simp
  obj := fun i h st b hb => by
    have e : b = it := by simpa using hb
    subst e
    exact ⟨_, st, fun v z => by
      have z' : Data.fields _ = Data.cell v := z
      cases z'⟩
  keep := fun i h h' st k => k it (by simp) _ st
  item := by
    intro X hP hw hK hc i pins s σ H E I hf st hg
    subst hP hw hK
    obtain ⟨f0, f1, f2, f3, f4, f5⟩ := hf it (by simp)
    have W := Walks.range (prog := X.prog) (w := X.w) (I.ok.hd hc) it lo 1 n
    refine W.item i s _ _ hg st fun v h' tk hv st' kk => ?_
    obtain ⟨t, rfl⟩ := hv
    have I1 : Inv X pins σ H { s with heap := h', toks := tk } := I.turned (fun b o hb e => kk b o (by simpa using hb) e) f0 f1 f3 f4 f5
    refine ⟨_, rfl, go_of (s := { s with heap := h', toks := tk }) (n := "range_iterator") st' rfl rfl (by decide) ⟨.int (lo + i), H, I1, ⟨t, ?_⟩, ⟨rfl, rfl⟩, st', fun b hb => (hf b hb).1⟩⟩
    rw [Int.mul_one]
  done := by
    intro X hP hw hK hc i pins s σ H E I hf st hg
    subst hP hw hK
    obtain ⟨f0, f1, f2, f3, f4, f5⟩ := hf it (by simp)
    exact wpAny_pyNext_range_end (I.ok.hd hc) st (by have : n ≤ i := hg; omega) fun h' eb => ⟨rfl, I.turned (t' := s.toks) (fun b o hb e => eb b o hb e) f0 f1 f3 f4 f5⟩
  self := fun _ _ _ _ _ st h => wpAny_pyIter_rangeiter st h
end L2

namespace L2
open PySem PySem.Spec PyProof.Rows
section
variable {X : Cx} {tg : Expr}
def iList (K : PySem.W.Frag) (tl : TE) : TI := fun σ H R => tl σ H fun x H1 => ∃ a, x = .ref a ∧ (∃ xs, SqL K H1 a xs) ∧ R (Itl K a) H1
def iTup (K : PySem.W.Frag) (tl : TE) : TI := fun σ H R => tl σ H fun x H1 => ∃ a, x = .ref a ∧ (∃ xs, SqT K H1 a xs) ∧ R (Itt K a) H1
theorem pi_list {l : Expr} {tl : TE} (hl : PE X l tl) : PI X tg l (iList X.K tl) := by
  intro pins s σ H R I h
  refine thn (hl pins s σ H _ I h) fun v s1 ⟨x, H1, I1, r1, q1⟩ => ?_
  obtain ⟨a, e, ⟨xs, hq⟩, q⟩ := q1
  subst e
  cases r1
  obtain ⟨its, rv, p, hz⟩ := I1.list hq
  refine wpAny_pyIter_list p.isList ?_
  refine ⟨s1.heap.objs.size, [s1.heap.objs.size], _, _, H1, rfl, I1.kept (t' := s1.toks) fun b o e => Heap.get?_push_of_some _ e, turn_list a _, ⟨_, Heap.get?_push_size _ rfl, rfl, rfl⟩, fun b hb => ?_, q⟩
  have e : b = s1.heap.objs.size := by simpa using hb
  subst e
  exact I1.fpOk (Nat.le_refl _) (I1.hok.fresh (Nat.le_refl _))
/-- a range object just made, walked -/
theorem range_it {pins : List (Addr × Obj)} {σ : St} {H : Hp} {s : Shared} {R : It → Hp → Prop} {E : Value → Shared → Prop} {lo hi : Int} {t u v : Tok} {tk : Nat} (I : Inv X pins σ H s) (h1 : -(2 ^ 62) ≤ lo) (h2 : lo < 2 ^ 62) (h3 : -(2 ^ 62) ≤ hi) (h4 : hi < 2 ^ 62)
    (q : R (Itr lo (hi - lo).toNat) H) : wpAny (model X.prog X.w) X.A (pyIter (.ref s.heap.objs.size)) (PIE X pins σ tg R) E { s with heap := s.heap.push { cls := .type "range", data := .fields #[.int lo t, .int hi u, .int 1 v] }, toks := tk } := by
  refine wpAny_pyIter_range (IsRange.new ..) (small_one h1 h2 h3 h4) ?_
  have I1 : Inv X pins σ H { s with heap := s.heap.push { cls := .type "range", data := .fields #[.int lo t, .int hi u, .int 1 v] }, toks := tk } := I.kept fun b o e => Heap.get?_push_of_some _ e
  refine ⟨(s.heap.push { cls := .type "range", data := .fields #[.int lo t, .int hi u, .int 1 v] }).objs.size, [(s.heap.push { cls := .type "range", data := .fields #[.int lo t, .int hi u, .int 1 v] }).objs.size], _, _, H, rfl,
    I1.kept (t' := tk) fun b o e => Heap.get?_push_of_some _ e, turn_range _ lo (hi - lo).toNat, ?_, fun b hb => ?_, q⟩
  · have e1 : lo + ((0 : Nat) : Int) * 1 = lo := by simp
    have e2 : (((hi - lo).toNat : Nat) : Int) - ((0 : Nat) : Int) = Builtin.Range.rangeSize lo hi 1 := by rw [rangeSize_one]; split <;> omega
    show IsRangeIter _ _ (lo + ((0 : Nat) : Int) * 1) ((((hi - lo).toNat : Nat) : Int) - ((0 : Nat) : Int)) 1
    rw [e1, e2]
    exact Heap.get?_push_size _ rfl
  · have e : b = (s.heap.push { cls := .type "range", data := .fields #[.int lo t, .int hi u, .int 1 v] }).objs.size := by simpa using hb
    subst e
    exact I1.fpOk (Nat.le_refl _) (I1.hok.fresh (Nat.le_refl _))
def iRng1 (ta : TA) : TI := fun σ H R => ta σ H fun vs H1 => ∃ j : Int, vs = [.int j] ∧ -(2 ^ 62) ≤ j ∧ j < 2 ^ 62 ∧ R (Itr 0 j.toNat) H1
def iRng2 (ta : TA) : TI := fun σ H R => ta σ H fun vs H1 => ∃ i j : Int, vs = [.int i, .int j] ∧ (-(2 ^ 62) ≤ i ∧ i < 2 ^ 62 ∧ -(2 ^ 62) ≤ j ∧ j < 2 ^ 62) ∧ R (Itr i (j - i).toNat) H1
theorem pi_range1 {a : Expr} {ta : TA} {p pos : Pos} (hg : Gl X "range") (hm : X.mg "range" = none) (ha : PA X [a] ta) (hs : starEach [a] X.env = [(false, eval a X.env)] := by rfl) : PI X tg (.Call (.Name "range" p) [a] [] pos) (iRng1 ta) := by
  intro pins s σ H R I h
  refine Call_ (ld_blt I hg hm boot_range (PyProof.Rows.callWith_type1 (thn (ha pos pins s σ H _ I h) fun us s1 ⟨vs, H1, I1, r1, q1⟩ => ?_) hs rfl))
  obtain ⟨j, e, q1, q2, q⟩ := q1
  subst e
  cases r1 with
  | cons r rr =>
    cases rr
    obtain ⟨t, rfl⟩ := r
    exact call_range_1 (range_it I1 (by omega) (by omega) q1 q2 (by simpa using q))
/-- W: the invariant by the turn and a measure; N: what the body is to reach -/
def tFor (wi : TI) (g : TG) (tb : TS) : TS := fun D σ H => wi σ H fun J H1 => ∃ W : Nat → Nat → St → Hp → Prop, (∃ m, W 0 m σ H1) ∧ ∀ i m σ H, W i m σ H →
  (J.stop i H ∧ D.nx σ H) ∨ (J.go i H ∧ ∃ N : St → Hp → Prop, (∀ σ' H', N σ' H' → ∃ m', m' < m ∧ W (i + 1) m' σ' H') ∧ ∀ x H', J.yld i H x H' → g x σ H' fun σ2 H2 => tb { D with nx := N, ct := N, bk := D.nx } σ2 H2)
/-- the records at fp as they stand -/
def pinsAt (fp : List Addr) (h : Heap) : List (Addr × Obj) := fp.filterMap fun b => (h.get? b).map fun o => (b, o)
theorem mem_pinsAt {fp : List Addr} {h : Heap} {b : Addr} {o : Obj} (hb : b ∈ fp) (e : h.get? b = some o) : (b, o) ∈ pinsAt fp h := List.mem_filterMap.mpr ⟨b, hb, by rw [e]; rfl⟩
theorem of_pinsAt {fp : List Addr} {h : Heap} {p : Addr × Obj} (hp : p ∈ pinsAt fp h) : p.1 ∈ fp ∧ h.get? p.1 = some p.2 := by
  obtain ⟨b, hb, e⟩ := List.mem_filterMap.mp hp
  cases q : h.get? b with
  | none => rw [q] at e; cases e
  | some o =>
    rw [q] at e
    have e' : (b, o) = p := Option.some.inj e
    subst e'
    exact ⟨hb, q⟩
theorem Inv.pinned {pins : List (Addr × Obj)} {σ : St} {H : Hp} {s : Shared} {fp : List Addr} (I : Inv X pins σ H s) (hf : ∀ b ∈ fp, FpOk X pins H b) (ho : ∀ b ∈ fp, ∃ o, s.heap.get? b = some o ∧ ∀ v, o.data ≠ .cell v) : Inv X (pins ++ pinsAt fp s.heap) σ H s :=
  I.pins_of fun p hp => (List.mem_append.mp hp).elim (fun z => I.pin p (List.mem_append_right _ z)) fun z => by
    obtain ⟨hb, e⟩ := of_pinsAt z
    obtain ⟨f0, f1, f2, _⟩ := hf p.1 hb
    obtain ⟨o, e', d⟩ := ho p.1 hb
    rw [e] at e'; cases e'
    exact ⟨e, f0, f1, f2, d⟩
theorem Inv.unpinned {pins pl : List (Addr × Obj)} {σ : St} {H : Hp} {s : Shared} (I : Inv X (pins ++ pl) σ H s) : Inv X pins σ H s := I.pins_of fun p hp => I.pin p (List.mem_append_right _ (List.mem_append_left _ hp))
theorem ps_for {iter : Expr} {body : List Stmt} {wi : TI} {g : TG} {tb : TS} {pos : Pos} (hp : PassesOwn (model X.prog X.w) X.A X.env X.xe) (hc : X.calm = true) (hi : PI X tg iter wi) (hg : PG X tg g) (hb : PSs X body tb)
    (hs : ∀ x, foldedSetIterable iter X.env x = pure x := by intro _; rfl) : PS X (.For tg iter body [] pos) (tFor wi g tb) := by
  intro pins s σ H D I h
  refine wpAny_For (thn (hi pins s σ H _ I h) fun v s1 h1 => thn h1 fun itv s2 h2 => ?_) hs
  obtain ⟨it, fp, tn, J, H2, e, I2, T, st2, f2, W, ⟨m0, w0⟩, turn⟩ := h2
  subst e
  -- what stays true of the iterator's objects through the loop
  have stat : ∀ {H' : Hp}, (∀ b ∈ fp, H' b = none) → ∀ b ∈ fp, FpOk X pins H' b := fun hn b hb => ⟨hn b hb, (f2 b hb).2⟩
  refine codeAny_forLoop_any (fun n s' => ∃ i σ' H', Inv X pins σ' H' s' ∧ tn i s'.heap ∧ (∀ b ∈ fp, H' b = none) ∧ W i n σ' H') ?_ m0 ⟨0, σ, H2, I2, st2, fun b hb => (f2 b hb).1, w0⟩
  rintro n s3 ⟨i, σ3, H3, I3, st3, fr3, w3⟩
  rcases turn i n σ3 H3 w3 with ⟨stop, qn⟩ | ⟨go, N, hN, step⟩
  · refine wpAny_passesOwn hp (thn (T.done X rfl rfl rfl hc i pins s3 σ3 H3 X.xe I3 (stat fr3) st3 stop) fun r s4 ⟨hr, I4⟩ => ?_)
    subst hr
    exact wpAny_execs_nil ⟨σ3, H3, I4, qn⟩
  · refine wpAny_passesOwn hp (thn (T.item X rfl rfl rfl hc i pins s3 σ3 H3 X.xe I3 (stat fr3) st3 go) fun r s4 ⟨u, hr, h4⟩ => ?_)
    subst hr
    refine wpAny_passesOwn hp (thn h4 fun _ s5 ⟨x, H5, I5, r5, y5, st5, fr5⟩ => ?_)
    have I5' := I5.pinned (stat fr5) (T.obj _ _ st5)
    refine wpAny_passesOwn hp (thn (hg _ s5 σ3 H5 x u _ I5' r5 (step x H5 y5)) fun _ s6 ⟨σ6, H6, I6, q6⟩ => ?_)
    refine wpAny_passesOwn hp (thn (hb _ s6 σ6 H6 _ I6 q6) fun f s7 q7 => ?_)
    have again : ∀ {σ7 : St} {H7 : Hp}, Inv X (pins ++ pinsAt fp s5.heap) σ7 H7 s7 → N σ7 H7 → ∃ m, m < n ∧ ∃ i σ' H', Inv X pins σ' H' s7 ∧ tn i s7.heap ∧ (∀ b ∈ fp, H' b = none) ∧ W i m σ' H' := fun {σ7 H7} I7 n7 => by
      obtain ⟨m', hm, w7⟩ := hN σ7 H7 n7
      refine ⟨m', hm, i + 1, σ7, H7, I7.unpinned, T.keep _ _ _ st5 fun b hb o e => (I7.pin (b, o) (List.mem_append_right _ (List.mem_append_right _ (mem_pinsAt hb e)))).1, fun b hb => ?_, w7⟩
      obtain ⟨o, e, d⟩ := T.obj _ _ st5 b hb
      exact (I7.pin (b, o) (List.mem_append_right _ (List.mem_append_right _ (mem_pinsAt hb e)))).2.1
    cases f with
    | next => obtain ⟨σ7, H7, I7, n7⟩ := q7; exact again I7 n7
    | cont => obtain ⟨σ7, H7, I7, n7⟩ := q7; exact again I7 n7
    | brk => obtain ⟨σ7, H7, I7, q7⟩ := q7; exact ⟨σ7, H7, I7.unpinned, q7⟩
    | ret v => obtain ⟨x7, σ7, H7, I7, r7, q7⟩ := q7; exact ⟨x7, σ7, H7, I7.unpinned, r7, q7⟩
end

/-- over a list that the body leaves as it is -/
theorem for_list {K : PySem.W.Frag} {a : Addr} {xs : List V} {g : TG} {tb : TS} {D : Ends} {σ : St} {H : Hp} (Pv : Nat → St → Hp → Prop) (h0 : Pv 0 σ H) (hl : ∀ i σ H, i ≤ xs.length → Pv i σ H → SqL K H a xs)
    (hs : ∀ i x σ H, xs[i]? = some x → Pv i σ H → g x σ H fun σ2 H2 => tb { D with nx := Pv (i + 1), ct := Pv (i + 1), bk := D.nx } σ2 H2) (hd : ∀ σ H, Pv xs.length σ H → D.nx σ H) :
    ∃ W : Nat → Nat → St → Hp → Prop, (∃ m, W 0 m σ H) ∧ ∀ i m σ H, W i m σ H →
      ((Itl K a).stop i H ∧ D.nx σ H) ∨ ((Itl K a).go i H ∧ ∃ N : St → Hp → Prop, (∀ σ' H', N σ' H' → ∃ m', m' < m ∧ W (i + 1) m' σ' H') ∧ ∀ x H', (Itl K a).yld i H x H' → g x σ H' fun σ2 H2 => tb { D with nx := N, ct := N, bk := D.nx } σ2 H2) := by
  refine ⟨fun i m σ H => m = xs.length - i ∧ i ≤ xs.length ∧ Pv i σ H, ⟨xs.length, by simp, Nat.zero_le _, h0⟩, ?_⟩
  rintro i m σ H ⟨rfl, hi, p⟩
  have q := hl i σ H hi p
  by_cases hlt : i < xs.length
  · refine .inr ⟨⟨xs, xs[i], q, by simp [hlt]⟩, Pv (i + 1), fun σ' H' p' => ⟨xs.length - (i + 1), by omega, rfl, hlt, p'⟩, fun x H' y => ?_⟩
    obtain ⟨e, y⟩ := y
    subst e
    exact hs i x σ _ (y xs q) p
  · have e : i = xs.length := by omega
    subst e
    exact .inl ⟨⟨xs, q, Nat.le_refl _⟩, hd σ H p⟩
theorem for_range {lo : Int} {n : Nat} {g : TG} {tb : TS} {D : Ends} {σ : St} {H : Hp} (Pv : Nat → St → Hp → Prop) (h0 : Pv 0 σ H)
    (hs : ∀ i σ H, i < n → Pv i σ H → g (.int (lo + i)) σ H fun σ2 H2 => tb { D with nx := Pv (i + 1), ct := Pv (i + 1), bk := D.nx } σ2 H2) (hd : ∀ σ H, Pv n σ H → D.nx σ H) :
    ∃ W : Nat → Nat → St → Hp → Prop, (∃ m, W 0 m σ H) ∧ ∀ i m σ H, W i m σ H →
      ((Itr lo n).stop i H ∧ D.nx σ H) ∨ ((Itr lo n).go i H ∧ ∃ N : St → Hp → Prop, (∀ σ' H', N σ' H' → ∃ m', m' < m ∧ W (i + 1) m' σ' H') ∧ ∀ x H', (Itr lo n).yld i H x H' → g x σ H' fun σ2 H2 => tb { D with nx := N, ct := N, bk := D.nx } σ2 H2) := by
  refine ⟨fun i m σ H => m = n - i ∧ i ≤ n ∧ Pv i σ H, ⟨n, by simp, Nat.zero_le _, h0⟩, ?_⟩
  rintro i m σ H ⟨rfl, hi, p⟩
  by_cases hlt : i < n
  · refine .inr ⟨hlt, Pv (i + 1), fun σ' H' p' => ⟨n - (i + 1), by omega, rfl, hlt, p'⟩, fun x H' y => ?_⟩
    obtain ⟨e, y⟩ := y
    subst e y
    exact hs i σ _ hlt p
  · have e : i = n := by omega
    subst e
    exact .inl ⟨Nat.le_refl _, hd σ H p⟩
end L2

namespace L2
open PySem PySem.Spec PyProof.Rows

abbrev R2 := V → V → Hp → VK → Prop
/-- a two-place operation on values: f is binaryOp op, inplaceOp op or compareOp op -/
def OpR (X : Cx) (f : Value → Value → Sem Value) (r : R2) : Prop :=
  ∀ (pins : List (Addr × Obj)) (s : Shared) (σ : St) (H : Hp) (x y : V) (v u : Value) (Q : VK), Inv X pins σ H s → RelV x v → RelV y u → r x y H Q →
    wpAny (model X.prog X.w) X.A (f v u) (EP X pins σ Q) X.xe s
/-- a one-place operation -/
def UnR (X : Cx) (f : Value → Sem Value) (r : V → Hp → VK → Prop) : Prop :=
  ∀ (pins : List (Addr × Obj)) (s : Shared) (σ : St) (H : Hp) (x : V) (v : Value) (Q : VK), Inv X pins σ H s → RelV x v → r x H Q →
    wpAny (model X.prog X.w) X.A (f v) (EP X pins σ Q) X.xe s
/-- a call of a value that is known (a builtin, a type) with values -/
def CallR (X : Cx) (f : Value) (r : List V → Hp → VK → Prop) : Prop :=
  ∀ (pins : List (Addr × Obj)) (s : Shared) (σ : St) (H : Hp) (xs : List V) (us : List Value) (Q : VK), Inv X pins σ H s → Vals xs us → r xs H Q →
    wpAny (model X.prog X.w) X.A (call f us) (EP X pins σ Q) X.xe s
/-- a value's truth -/
def TruR (X : Cx) (r : V → Hp → (Bool → Hp → Prop) → Prop) : Prop :=
  ∀ (pins : List (Addr × Obj)) (s : Shared) (σ : St) (H : Hp) (x : V) (v : Value) (Q : Bool → Hp → Prop), Inv X pins σ H s → RelV x v → r x H Q →
    wpAny (model X.prog X.w) X.A (truthy v) (TP X pins σ Q) X.xe s

def tOp (r : R2) (ta tb : TE) : TE := fun σ H Q => ta σ H fun x H1 => tb σ H1 fun y H2 => r x y H2 Q
def tUn (r : V → Hp → VK → Prop) (ta : TE) : TE := fun σ H Q => ta σ H fun x H1 => r x H1 Q
/-- ints in, under C, and a value out -/
def rI (C : Int → Int → Prop) (g : Int → Int → V) : R2 := fun x y H Q => ∃ i j, x = .int i ∧ y = .int j ∧ C i j ∧ Q (g i j) H
def rI0 (g : Int → Int → V) : R2 := fun x y H Q => ∃ i j, x = .int i ∧ y = .int j ∧ Q (g i j) H
def rU (g : Int → V) : V → Hp → VK → Prop := fun x H Q => ∃ i, x = .int i ∧ Q (g i) H

section
variable {X : Cx} {a b c : Expr} {ta tb tc : TE} {pos : Pos}

theorem binT (ha : PE X a ta) (hb : PE X b tb) {pins : List (Addr × Obj)} {s : Shared} {σ : St} {H : Hp} {R : V → V → Hp → Prop} (I : Inv X pins σ H s)
    (h : ta σ H fun x H1 => tb σ H1 fun y H2 => R x y H2) {Q : Value → Shared → Prop} {f : Value → Value → Sem Value}
    (hf : ∀ v u s2 x y H2, Inv X pins σ H2 s2 → RelV x v → RelV y u → R x y H2 → wpAny (model X.prog X.w) X.A (f v u) Q X.xe s2) :
    wpAny (model X.prog X.w) X.A (eval a X.env) (fun v s₁ => wpAny (model X.prog X.w) X.A (eval b X.env) (fun u s₂ => wpAny (model X.prog X.w) X.A (f v u) Q X.xe s₂) X.xe s₁) X.xe s := by
  refine thn (ha pins s σ H _ I h) fun v s1 ⟨x, H1, I1, r1, q1⟩ => ?_
  refine thn (hb pins s1 σ H1 _ I1 q1) fun u s2 ⟨y, H2, I2, r2, q2⟩ => ?_
  exact hf v u s2 x y H2 I2 r1 r2 q2

theorem pe_op {op : Operator} {r : R2} (ho : OpR X (binaryOp op) r) (ha : PE X a ta) (hb : PE X b tb) : PE X (.BinOp a op b pos) (tOp r ta tb) := by
  intro pins s σ H Q I h
  exact wpAny_BinOp (binT ha hb I h fun v u s2 x y H2 I2 rx ry q => ho pins s2 σ H2 x y v u Q I2 rx ry q)
theorem opI {f : Value → Value → Sem Value} {C : Int → Int → Prop} {g : Int → Int → Int}
    (rule : ∀ (i j : Int) (t u : Tok) (s : Shared) (Q : Value → Shared → Prop) (E : Value → Shared → Prop), C i j → Q (.int (g i j) s.toks) { s with toks := s.toks + 1 } → wpAny (model X.prog X.w) X.A (f (.int i t) (.int j u)) Q E s) :
    OpR X f (rI C fun i j => .int (g i j)) := by
  intro pins s σ H x y v u Q I rx ry h
  obtain ⟨i, j, rfl, rfl, hc, q⟩ := h
  obtain ⟨t, rfl⟩ := rx
  obtain ⟨t', rfl⟩ := ry
  exact rule i j t t' s _ _ hc ⟨.int (g i j), H, I.tok _, ⟨_, rfl⟩, q⟩
theorem opI0 {f : Value → Value → Sem Value} {g : Int → Int → Int}
    (rule : ∀ (i j : Int) (t u : Tok) (s : Shared) (Q : Value → Shared → Prop) (E : Value → Shared → Prop), Q (.int (g i j) s.toks) { s with toks := s.toks + 1 } → wpAny (model X.prog X.w) X.A (f (.int i t) (.int j u)) Q E s) :
    OpR X f (rI0 fun i j => .int (g i j)) := by
  intro pins s σ H x y v u Q I rx ry h
  obtain ⟨i, j, rfl, rfl, q⟩ := h
  obtain ⟨t, rfl⟩ := rx
  obtain ⟨t', rfl⟩ := ry
  exact rule i j t t' s _ _ ⟨.int (g i j), H, I.tok _, ⟨_, rfl⟩, q⟩
theorem opB0 {f : Value → Value → Sem Value} {g : Int → Int → Bool}
    (rule : ∀ (i j : Int) (t u : Tok) (s : Shared) (Q : Value → Shared → Prop) (E : Value → Shared → Prop), Q (.bool (g i j)) s → wpAny (model X.prog X.w) X.A (f (.int i t) (.int j u)) Q E s) :
    OpR X f (rI0 fun i j => .bl (g i j)) := by
  intro pins s σ H x y v u Q I rx ry h
  obtain ⟨i, j, rfl, rfl, q⟩ := h
  obtain ⟨t, rfl⟩ := rx
  obtain ⟨t', rfl⟩ := ry
  exact rule i j t t' s _ _ ⟨.bl (g i j), H, I, rfl, q⟩

def CDiv (i j : Int) : Prop := 0 < j ∧ j < 1073741824
def CDivN (i j : Int) : Prop := j ≠ 0 ∧ j.natAbs < 1073741824
def CPow (i j : Int) : Prop := 0 ≤ j ∧ j ≤ 1000000 ∧ i.natAbs < 2 ^ 64
def CMul (i j : Int) : Prop := (-(2 ^ 64) < i ∧ i < 2 ^ 64) ∨ (-(2 ^ 64) < j ∧ j < 2 ^ 64)
theorem CMul.ok {i j : Int} (h : CMul i j) : IntMulOk i j := by
  rcases h with ⟨h1, h2⟩ | ⟨h1, h2⟩
  · exact .of_left (intBits_le_64 h1 h2)
  · exact .of_right (intBits_le_64 h1 h2)
theorem two_pow_nn (k : Nat) : (0 : Int) ≤ 2 ^ k := by
  rw [two_pow_cast]
  exact Int.natCast_nonneg _

theorem op_add : OpR X (binaryOp .Add) (rI0 fun i j => .int (i + j)) := opI0 fun _ _ _ _ _ _ _ q => add_int q
theorem op_sub : OpR X (binaryOp .Sub) (rI0 fun i j => .int (i - j)) := opI0 fun _ _ _ _ _ _ _ q => sub_int q
/-- % by a positive divisor of any size -/
theorem op_mod : OpR X (binaryOp .Mod) (rI (fun _ j => 0 < j) fun i j => .int (i % j)) := opI fun i j _ _ _ _ _ hc q => by
  have h1 : (0 : Int) < j := hc
  exact mod_int' (by omega) (by rw [Int.fmod_eq_emod_of_nonneg i (by omega)]; exact q)
theorem op_pow : OpR X (binaryOp .Pow) (rI CPow fun i j => .int (i ^ j.toNat)) := opI fun _ _ _ _ _ _ _ hc q => pow_int_small hc.1 hc.2.1 hc.2.2 q
theorem op_shl : OpR X (binaryOp .LShift) (rI CPow fun i j => .int (i * 2 ^ j.toNat)) := opI fun _ _ _ _ _ _ _ hc q => lshift_int_small hc.1 hc.2.1 hc.2.2 q
theorem op_shr : OpR X (binaryOp .RShift) (rI (fun _ j => 0 ≤ j) fun i j => .int (i / 2 ^ j.toNat)) := opI fun i j _ _ _ _ _ hc q =>
  rshift_int hc (by rw [Int.fdiv_eq_ediv_of_nonneg i (two_pow_nn _)]; exact q)
theorem op_or : OpR X (binaryOp .BitOr) (rI0 fun i j => .int (Builtin.bitOr i j)) := opI0 fun _ _ _ _ _ _ _ q => or_int q
end

/-- the scalars that == tells apart as data does -/
def scal : V → V → Bool
  | .non, .non => true | .non, .int _ => true | .int _, .non => true | .non, .bl _ => true | .bl _, .non => true | .non, .str _ => true | .str _, .non => true
  | .int _, .int _ => true | .bl _, .bl _ => true | .str _, .str _ => true | .byt _, .byt _ => true
  | .int _, .str _ => true | .str _, .int _ => true | .bl _, .str _ => true | .str _, .bl _ => true
  | _, _ => false
def rEq : R2 := fun x y H Q => scal x y = true ∧ Q (.bl (decide (x = y))) H
def rNe : R2 := fun x y H Q => scal x y = true ∧ Q (.bl (!decide (x = y))) H

theorem dec_int {i j : Int} : decide (V.int i = V.int j) = (i == j) := by
  rw [Bool.eq_iff_iff]
  simp
theorem dec_bl {i j : Bool} : decide (V.bl i = V.bl j) = (i == j) := by
  rw [Bool.eq_iff_iff]
  simp
theorem dec_str {i j : Str} : decide (V.str i = V.str j) = (i == j) := by
  rw [Bool.eq_iff_iff]
  simp
theorem dec_byt {i j : Array UInt8} : decide (V.byt i = V.byt j) = (i.toList == j.toList) := by
  rw [Bool.eq_iff_iff]
  cases i
  cases j
  simp

section
variable {X : Cx} {a b c : Expr} {ta tb tc : TE} {pos : Pos}
theorem fin_bl {pins : List (Addr × Obj)} {σ : St} {H : Hp} {s : Shared} {Q : VK} {k k' : Bool} (I : Inv X pins σ H s) (q : Q (.bl k) H) (e : k = k') : EP X pins σ Q (.bool k') s := by
  subst e
  exact ⟨.bl k, H, I, rfl, q⟩
theorem op_eq : OpR X (compareOp .Eq) rEq := by
  intro pins s σ H x y v u Q I rx ry h
  obtain ⟨hs, q⟩ := h
  cases x with
  | non =>
    cases rx
    cases y with
    | non => cases ry; exact PySem.EqNone.eq_none_none (fin_bl I q (by simp))
    | bl j => cases ry; exact PySem.EqNone.eq_none_bool (fin_bl I q (by simp))
    | int j => obtain ⟨t', rfl⟩ := ry; exact PySem.EqNone.eq_none_int (fin_bl I q (by simp))
    | str j => obtain ⟨t', rfl⟩ := ry; exact PySem.EqNone.eq_none_str (fin_bl I q (by simp))
    | _ => exact absurd (show false = true from hs) Bool.false_ne_true
  | bl i =>
    cases rx
    cases y with
    | non => cases ry; exact PySem.EqNone.eq_bool_none (fin_bl I q (by simp))
    | bl j => cases ry; exact eq_bool (fin_bl I q dec_bl)
    | str j => obtain ⟨t', rfl⟩ := ry; exact PySem.EqMixed.eq_bool_str (fin_bl I q (by simp))
    | _ => exact absurd (show false = true from hs) Bool.false_ne_true
  | int i =>
    obtain ⟨t, rfl⟩ := rx
    cases y with
    | non => cases ry; exact PySem.EqNone.eq_int_none (fin_bl I q (by simp))
    | int j => obtain ⟨t', rfl⟩ := ry; exact eq_int (fin_bl I q dec_int)
    | str j => obtain ⟨t', rfl⟩ := ry; exact PySem.EqMixed.eq_int_str (fin_bl I q (by simp))
    | _ => exact absurd (show false = true from hs) Bool.false_ne_true
  | str i =>
    obtain ⟨t, rfl⟩ := rx
    cases y with
    | non => cases ry; exact PySem.EqNone.eq_str_none (fin_bl I q (by simp))
    | bl j => cases ry; exact PySem.EqMixed.eq_str_bool (fin_bl I q (by simp))
    | int j => obtain ⟨t', rfl⟩ := ry; exact PySem.EqMixed.eq_str_int (fin_bl I q (by simp))
    | str j => obtain ⟨t', rfl⟩ := ry; exact eq_str (fin_bl I q dec_str)
    | _ => exact absurd (show false = true from hs) Bool.false_ne_true
  | byt i =>
    obtain ⟨t, rfl⟩ := rx
    cases y with
    | byt j => obtain ⟨t', rfl⟩ := ry; exact PySem.W.eq_bytes (fin_bl I q dec_byt)
    | _ => exact absurd (show false = true from hs) Bool.false_ne_true
  | _ => cases y <;> exact absurd (show false = true from hs) Bool.false_ne_true
theorem op_ne : OpR X (compareOp .NotEq) rNe := by
  intro pins s σ H x y v u Q I rx ry h
  obtain ⟨hs, q⟩ := h
  cases x with
  | non =>
    cases rx
    cases y with
    | non => cases ry; exact PySem.EqNone.ne_none_none (fin_bl I q (by simp))
    | bl j => cases ry; exact PySem.EqNone.ne_none_bool (fin_bl I q (by simp))
    | int j => obtain ⟨t', rfl⟩ := ry; exact PySem.EqNone.ne_none_int (fin_bl I q (by simp))
    | str j => obtain ⟨t', rfl⟩ := ry; exact PySem.EqNone.ne_none_str (fin_bl I q (by simp))
    | _ => exact absurd (show false = true from hs) Bool.false_ne_true
  | bl i =>
    cases rx
    cases y with
    | non => cases ry; exact PySem.EqNone.ne_bool_none (fin_bl I q (by simp))
    | bl j => cases ry; exact ne_bool (fin_bl I q (congrArg not dec_bl))
    | str j => obtain ⟨t', rfl⟩ := ry; exact PySem.EqMixed.ne_bool_str (fin_bl I q (by simp))
    | _ => exact absurd (show false = true from hs) Bool.false_ne_true
  | int i =>
    obtain ⟨t, rfl⟩ := rx
    cases y with
    | non => cases ry; exact PySem.EqNone.ne_int_none (fin_bl I q (by simp))
    | int j => obtain ⟨t', rfl⟩ := ry; exact ne_int (fin_bl I q (congrArg not dec_int))
    | str j => obtain ⟨t', rfl⟩ := ry; exact PySem.EqMixed.ne_int_str (fin_bl I q (by simp))
    | _ => exact absurd (show false = true from hs) Bool.false_ne_true
  | str i =>
    obtain ⟨t, rfl⟩ := rx
    cases y with
    | non => cases ry; exact PySem.EqNone.ne_str_none (fin_bl I q (by simp))
    | bl j => cases ry; exact PySem.EqMixed.ne_str_bool (fin_bl I q (by simp))
    | int j => obtain ⟨t', rfl⟩ := ry; exact PySem.EqMixed.ne_str_int (fin_bl I q (by simp))
    | str j => obtain ⟨t', rfl⟩ := ry; exact ne_str (fin_bl I q (congrArg not dec_str))
    | _ => exact absurd (show false = true from hs) Bool.false_ne_true
  | byt i =>
    obtain ⟨t, rfl⟩ := rx
    cases y with
    | byt j => obtain ⟨t', rfl⟩ := ry; exact PySem.W.ne_bytes (fin_bl I q (congrArg not dec_byt))
    | _ => exact absurd (show false = true from hs) Bool.false_ne_true
  | _ => cases y <;> exact absurd (show false = true from hs) Bool.false_ne_true

theorem op_lt : OpR X (compareOp .Lt) (rI0 fun i j => .bl (decide (i < j))) := opB0 fun _ _ _ _ _ _ _ q => lt_int q
theorem op_gt : OpR X (compareOp .Gt) (rI0 fun i j => .bl (decide (j < i))) := opB0 fun _ _ _ _ _ _ _ q => gt_int q
theorem op_ge : OpR X (compareOp .GtE) (rI0 fun i j => .bl (decide (j ≤ i))) := opB0 fun _ _ _ _ _ _ _ q => ge_int q
/-- is, is not of two objects that are tracked lists or instances -/
def isObj : HO → Bool
  | .lst _ => true
  | .ins _ _ _ => true
  | _ => false
/-- two rules for one operation: by cases -/
theorem OpR.or {f : Value → Value → Sem Value} {r r' : R2} (h : OpR X f r) (h' : OpR X f r') : OpR X f (fun x y H Q => r x y H Q ∨ r' x y H Q) := by
  intro pins s σ H x y v u Q I rx ry q
  rcases q with q | q
  · exact h pins s σ H x y v u Q I rx ry q
  · exact h' pins s σ H x y v u Q I rx ry q

theorem nomark (b : Expr) {op : CmpOp} (h : op ≠ .In := by decide) (h2 : op ≠ .NotIn := by decide) : behindInMarks op b = false := by
  have e1 : (op == CmpOp.In) = false := by cases op <;> first | rfl | exact absurd rfl h
  have e2 : (op == CmpOp.NotIn) = false := by cases op <;> first | rfl | exact absurd rfl h2
  cases b <;> simp [behindInMarks, e1, e2]
/-- a comparison as a value; hm: nomark b, or (for in, not in) by with_unfolding_all rfl -/
theorem pe_cmpR {op : CmpOp} {r : R2} (ho : OpR X (compareOp op) r) (ha : PE X a ta) (hb : PE X b tb) (hm : behindInMarks op b = false) : PE X (.Compare a [op] [b] pos) (tOp r ta tb) := by
  intro pins s σ H Q I h
  exact wpAny_Compare1 (binT ha hb I h fun v u s2 x y H2 I2 rx ry q => ho pins s2 σ H2 x y v u Q I2 rx ry q) hm
/-- a reading of a value as a test -/
def tTest (t : TE) : TT := fun σ H Q => t σ H fun x H' => ∃ k, x = .bl k ∧ Q k H'
theorem pt_cmpR {op : CmpOp} {r : R2} (ho : OpR X (compareOp op) r) (ha : PE X a ta) (hb : PE X b tb) (hm : behindInMarks op b = false) : PT X (.Compare a [op] [b] pos) (tTest (tOp r ta tb)) := by
  intro pins s σ H Q I h
  refine wpAny_isTrue_Compare1 (thn (ha pins s σ H _ I h) fun v s1 ⟨x, H1, I1, r1, q1⟩ => thn (hb pins s1 σ H1 _ I1 q1) fun u s2 ⟨y, H2, I2, r2, q2⟩ =>
    thn (ho pins s2 σ H2 x y v u _ I2 r1 r2 q2) fun c s3 ⟨z, H3, I3, r3, k, e, q3⟩ => ?_) hm
  subst e
  cases r3
  exact wpAny_truthy_bool ⟨H3, I3, q3⟩
/-- a op1 b op2 c -/
def tChain (r r' : R2) (ta tb tc : TE) : TE := fun σ H Q => ta σ H fun x H1 => tb σ H1 fun y H2 => r x y H2 fun z H3 => ∃ k, z = .bl k ∧
  (if k = true then tc σ H3 fun w' H4 => r' y w' H4 Q else Q (.bl false) H3)
/-- a value's truth by the abstract heap -/
def TruV (K : PySem.W.Frag) (x : V) (H : Hp) (k : Bool) : Prop :=
  match x with
  | .non => k = false
  | .bl b => k = b
  | .int i => k = (i != 0)
  | .str y => y.length ≤ sizeLine ∧ k = ((y.length : Int) != 0)
  | .byt y => y.size ≤ sizeLine ∧ k = ((y.size : Int) != 0)
  | .ref p => (∃ xs, SqL K H p xs ∧ k = !xs.isEmpty) ∨ (∃ xs, SqT K H p xs ∧ k = !xs.isEmpty) ∨ ∃ kvs, H p = some (.dK kvs) ∧ k = !kvs.isEmpty
  | _ => False
theorem line63 : (sizeLine : Nat) < 2 ^ 63 := by rw [sizeLine_eq]; decide
def PlainIxT (b : Expr) : Prop := ∀ o i, subscripted b false o i = operate [o, i] (getItem o i)
theorem vals1 {x : V} {us : List Value} (r : Vals [x] us) : ∃ u, us = [u] ∧ RelV x u := by
  cases r with
  | cons r1 r2 => cases r2; exact ⟨_, rfl, r1⟩
theorem vals2 {x y : V} {us : List Value} (r : Vals [x, y] us) : ∃ u w', us = [u, w'] ∧ RelV x u ∧ RelV y w' := by
  cases r with
  | cons r1 r2 =>
    cases r2 with
    | cons r3 r4 => cases r4; exact ⟨_, _, rfl, r1, r3⟩
/-- len of a str, a bytes, a list, a tuple -/
def LenV (K : PySem.W.Frag) (x : V) (H : Hp) (n : Nat) : Prop :=
  match x with
  | .str y => y.length ≤ sizeLine ∧ n = y.length
  | .byt y => y.size ≤ sizeLine ∧ n = y.size
  | .ref p => (∃ xs, SqL K H p xs ∧ n = xs.length) ∨ ∃ xs, SqT K H p xs ∧ n = xs.length
  | _ => False
end
end L2

namespace L2
open PySem PySem.Spec PyProof.Rows

structure ObjM (h : Heap) (x dx C : Addr) (mA : Str → Option Value) : Prop where
  obj : h.get? x = some (PySem.W.instObj C dx)
  ns : h.Ns1 dx mA
  ne : dx ≠ x

theorem lookIn_ns {h : Heap} {dx : Addr} {mA : Str → Option Value} (n : h.Ns1 dx mA) : ∃ od, h.get? dx = some od ∧ ∀ name, PySem.W.lookIn name od = some (mA name) := by
  obtain ⟨o, es, ep, ho, hd, hk, _, hm⟩ := n
  refine ⟨o, ho, fun name => ?_⟩
  have e := hm name
  unfold nsFind findBy at e
  rw [← Array.find?_toList] at e
  unfold PySem.W.lookIn
  rw [hd]
  dsimp only
  split
  · rename_i y q
    rw [q] at e
    exact congrArg some e
  · rename_i q
    rw [q] at e
    have a : es.toList.any (·.refKey) = false := by
      rw [List.any_eq_false]
      intro y hy
      obtain ⟨z, t, hkey⟩ := hk y (Array.mem_toList_iff.mp hy)
      simp [DictEntry.refKey, hkey]
    have a' : ¬ es.toList.any (·.refKey) = true := by rw [a]; exact Bool.false_ne_true
    rw [if_neg a']
    exact congrArg some e

theorem ObjM.look {h : Heap} {x dx C : Addr} {mA : Str → Option Value} (I : ObjM h x dx C mA) : ∃ od, PySem.W.InstAt h x (PySem.W.instObj C dx) C (some od) ∧ ∀ name, PySem.W.lookIn name od = some (mA name) :=
  let ⟨od, ho, hl⟩ := lookIn_ns I.ns
  ⟨od, ⟨I.obj, rfl, rfl, ho⟩, hl⟩

section
variable {prog : Program} {w : World} {A : Around} {E : Value → Shared → Prop} {s : Shared} {K : PySem.W.Frag} {x dx C f : Addr} {mA : Str → Option Value} {name : Str} {v : Value}

theorem get_map {expr : Bool} {Q : Value → Shared → Prop} (X : K.In s.heap) (I : ObjM s.heap x dx C mA) (hg : PySem.W.plainGet K C name = true) (hh : PySem.W.hasDictIn K C = true)
    (ha : PySem.W.findIn K (.ref C) name = some none) (hv : mA name = some v) (hv' : PySem.W.handedIn v = true) (h : Q v { s with toks := s.toks + 1 }) :
    wpAny (model prog w) A (getAttr (.ref x) name expr) Q E s := by
  obtain ⟨od, J, hl⟩ := I.look
  exact PySem.W.get_value X J (PySem.W.plainGet_of hg).1 (PySem.W.findObj_own hh ha rfl (by rw [hl, hv])) hv' h

theorem get_meth {pl : Sem Bool} {Q : Value × List Value → Shared → Prop} (X : K.In s.heap) (I : ObjM s.heap x dx C mA) (hg : PySem.W.plainGet K C name = true)
    (hf : PySem.W.findIn K (.ref C) name = some (some (.ref f))) (ht : PySem.W.isFn K (.ref f) = true) (hv : mA name = none) (h : Q (.ref f, [.ref x]) s) :
    wpAny (model prog w) A (getMethod (.ref x) name pl) Q E s := by
  obtain ⟨od, J, hl⟩ := I.look
  exact PySem.W.method_fn X J (PySem.W.plainGet_of hg).1 (PySem.W.plainGet_of hg).2 hf (beq_iff_eq.mp ht) (by show (PySem.W.lookIn name od).map (·.isSome) = some false; rw [hl, hv]; rfl) h

theorem set_map {ns : List Str} {Q : Unit → Shared → Prop} (X : K.In s.heap) (I : ObjM s.heap x dx C mA)
    (hs : PySem.W.findIn K (.ref C) "__setattr__" = some (some (.builtin "object.__setattr__"))) (hp : PySem.W.plainOver K C = true) (ht : PySem.W.takerIn K C name = some none) (hh : PySem.W.hasDictIn K C = true)
    (hw : PySem.Within mA ns) (hsz : ns.length ≤ sizeLine)
    (h : ∀ h', ObjM h' x dx C (fun y => if y = name then some v else mA y) → Heap.SameBut dx s.heap h' → Q () { s with heap := h', toks := s.toks + 2 }) :
    wpAny (model prog w) A (setAttr (.ref x) name v) Q E s := by
  obtain ⟨od, J, hl⟩ := I.look
  refine PySem.W.set_plain X J hs (PySem.W.osa_open (s := { s with toks := s.toks + 1 }) (r := none) X J hp ht fun b => ?_)
  obtain ⟨cd, hc, hd'⟩ := PySem.W.any_some hh
  have hx : s.heap.get? x = some ⟨.ref C, some dx, .plain, #[]⟩ := I.obj
  refine wpAny_bind (wpAny_pure (wpAny_bind (wpAny_bind (wpAny_loadPart hx (wpAny_bind (PySem.W.Looks.here (s := { s with toks := s.toks + 1 }) (PySem.W.looks_clsIn X hc) ?_))))))
  rw [hd']
  refine wpAny_pure (a := some dx) (wpAny_bind (wpAny_pure (wpAny_bind ?_)))
  refine wpAny_nsSet1 (s := { s with toks := s.toks + 1 }) I.ns fun h' hn2 hs2 => ?_
  obtain ⟨oD, esD, epD, hoD, hdD, hcD⟩ := hn2.count (PySem.Within.cons name v hw)
  refine wpAny_bind (wpAny_lookBehind hoD (by rw [hdD]; exact pastItsLine_dict (Nat.le_trans hcD (by rw [List.length_cons]; omega))) ?_)
  exact wpAny_pure (h _ ⟨(hs2.2 _ (Ne.symm I.ne)).trans I.obj, hn2, I.ne⟩ hs2)

/-- C(..): the dict at the heap's end, the instance behind it; then its __init__ -/
theorem make_map {R : Result → Shared → Prop} {vs : List Value} {kw : List (Str × Value)} (X : K.In s.heap) (hm : PySem.W.makesIn K C = true)
    (hi : PySem.W.findIn K (.ref C) "__init__" = some (some (.ref f))) (hf : PySem.W.typeIn K (.ref f) = some (.type "function"))
    (h : codeAny (model prog w) (A.under (.builtin "type.__call__" ⟨.ref C :: vs, kw⟩)) (.call (.ref f) ⟨.ref (s.heap.objs.size + 1) :: vs, kw⟩) (PySem.W.InitBack (s.heap.objs.size + 1) R)
      { s with heap := (s.heap.push PySem.W.emptyDict).push (PySem.W.instObj C s.heap.objs.size) }) :
    codeAny (model prog w) A (.call (.ref C) ⟨vs, kw⟩) R s := by
  obtain ⟨hh, g, d, t, os⟩ := s
  exact PySem.W.make_core (PySem.W.makes_of X hm) (PySem.W.looks_findIn X hi) (fun self => PySem.W.bind_fn X self hf) (.inl rfl) h
end

def putF (f : Str) (v : V) : List (Str × V) → List (Str × V)
  | [] => [(f, v)]
  | (g, x) :: r => if g = f then (g, v) :: r else (g, x) :: putF f v r
theorem lookup_putF (f g : Str) (v : V) : ∀ fs : List (Str × V), (putF f v fs).lookup g = if g = f then some v else fs.lookup g
  | [] => by
    show List.lookup g [(f, v)] = _
    by_cases h : g = f
    · have hb : (g == f) = true := beq_iff_eq.mpr h
      simp only [List.lookup, hb, if_pos h]
    · have hb : (g == f) = false := beq_eq_false_iff_ne.mpr h
      simp only [List.lookup, hb, if_neg h]
  | (k, x) :: r => by
    have ih := lookup_putF f g v r
    rw [show putF f v ((k, x) :: r) = (if k = f then (k, v) :: r else (k, x) :: putF f v r) from rfl]
    by_cases hk : k = f
    · rw [if_pos hk]
      by_cases h : g = k
      · have hb : (g == k) = true := beq_iff_eq.mpr h
        simp only [List.lookup, hb, if_pos (h.trans hk)]
      · have hb : (g == k) = false := beq_eq_false_iff_ne.mpr h
        simp only [List.lookup, hb, if_neg (fun e : g = f => h (e.trans hk.symm))]
    · rw [if_neg hk]
      by_cases h : g = k
      · have hb : (g == k) = true := beq_iff_eq.mpr h
        simp only [List.lookup, hb, if_neg (fun e : g = f => hk (h.symm.trans e))]
      · have hb : (g == k) = false := beq_eq_false_iff_ne.mpr h
        simp only [List.lookup, hb]
        exact ih
theorem keys_putF (f : Str) (v : V) : ∀ fs : List (Str × V), f ∈ (putF f v fs).map (·.1) ∧ ∀ g, g ∈ fs.map (·.1) → g ∈ (putF f v fs).map (·.1)
  | [] => ⟨by simp [putF], fun g h => by simp at h⟩
  | (k, x) :: r => by
    obtain ⟨i1, i2⟩ := keys_putF f v r
    rw [show putF f v ((k, x) :: r) = (if k = f then (k, v) :: r else (k, x) :: putF f v r) from rfl]
    by_cases hk : k = f
    · rw [if_pos hk]
      subst hk
      exact ⟨by simp, fun g h => by simpa using h⟩
    · rw [if_neg hk]
      refine ⟨?_, fun g h => ?_⟩
      · rw [List.map_cons]
        exact List.mem_cons_of_mem _ i1
      · rw [List.map_cons] at h ⊢
        rcases List.mem_cons.mp h with e | e
        · exact List.mem_cons.mpr (.inl e)
        · exact List.mem_cons_of_mem _ (i2 g e)
theorem length_putF (f : Str) (v : V) : ∀ fs : List (Str × V), (putF f v fs).length ≤ fs.length + 1
  | [] => by simp [putF]
  | (k, x) :: r => by
    have ih := length_putF f v r
    rw [show putF f v ((k, x) :: r) = (if k = f then (k, v) :: r else (k, x) :: putF f v r) from rfl]
    by_cases hk : k = f
    · rw [if_pos hk, List.length_cons, List.length_cons]; omega
    · rw [if_neg hk, List.length_cons, List.length_cons]; omega

theorem RelO.some_of {v : V} {o : Option Value} (r : RelO (some v) o) : ∃ u, o = some u ∧ RelV v u := by
  cases o with
  | none => exact (show False from r).elim
  | some u => exact ⟨u, rfl, r⟩
theorem RelO.none_of {o : Option Value} (r : RelO none o) : o = none := by
  cases o with
  | none => rfl
  | some u => exact (show False from r).elim
theorem handed_of {v : V} {u : Value} (r : RelV v u) : PySem.W.handedIn u = true := by
  cases v with
  | non => cases (show u = Value.none from r); rfl
  | bl b => cases (show u = Value.bool b from r); rfl
  | int i => obtain ⟨t, e⟩ := (show ∃ t, u = Value.int i t from r); cases e; rfl
  | str x => obtain ⟨t, e⟩ := (show ∃ t, u = Value.str x t from r); cases e; rfl
  | byt b => obtain ⟨t, e⟩ := (show ∃ t, u = Value.bytes b t from r); cases e; rfl
  | flt b => obtain ⟨t, e⟩ := (show ∃ t, u = Value.float b t from r); cases e; rfl
  | ref a => cases (show u = Value.ref a from r); rfl
  | ty n => cases (show u = Value.type n from r); rfl

section
variable {P : Program} {w : World} {H H' : Hp} {h h' : Heap} {a C dx : Addr} {fs fs' : List (Str × V)}
theorem ins_get (hok : HOk P w H h) (e : H a = some (.ins C dx fs)) : ∃ mA, ObjM h a dx C mA ∧ (∀ f, RelO (fs.lookup f) (mA f)) ∧ PySem.Within mA (fs.map (·.1)) ∧ fs.length ≤ 1000 ∧ H dx = some (.own a) := by
  obtain ⟨d, z, ne, ob, mA, n, r, q⟩ := (show ObjOk P w H h a (.ins C dx fs) from hok a _ e)
  exact ⟨mA, ⟨ob, n, ne⟩, r, q, z, d⟩
end

structure Cls (K : PySem.W.Frag) (C : Addr) : Prop where
  pg : PySem.W.plainGet K C Str.empty = true
  hd : PySem.W.hasDictIn K C = true
  po : PySem.W.plainOver K C = true
  sa : PySem.W.findIn K (.ref C) "__setattr__" = some (some (.builtin "object.__setattr__"))
theorem Cls.get {K : PySem.W.Frag} {C : Addr} (c : Cls K C) (f : Str) : PySem.W.plainGet K C f = true := c.pg
/-- no class of it has the name -/
def NoAttr (K : PySem.W.Frag) (C : Addr) (f : Str) : Prop := PySem.W.findIn K (.ref C) f = some none
theorem NoAttr.taker {K : PySem.W.Frag} {C : Addr} {f : Str} (n : NoAttr K C f) : PySem.W.takerIn K C f = some none := by
  unfold PySem.W.takerIn
  rw [show PySem.W.findIn K (.ref C) f = some none from n]
  rfl
/-- a constant of the class -/
structure Con (K : PySem.W.Frag) (C : Addr) (f : Str) (v : V) (u : Value) : Prop where
  at_ : PySem.W.findIn K (.ref C) f = some (some u)
  rel : RelV v u
  get : PySem.W.specialIn K u "__get__" = some none
  cp : PySem.W.copiedNames.contains f = false
/-- a method: a plain def of the class or of one above it -/
structure Meth (K : PySem.W.Frag) (C : Addr) (m : Str) (f : Addr) : Prop where
  at_ : PySem.W.findIn K (.ref C) m = some (some (.ref f))
  fn : PySem.W.isFn K (.ref f) = true
  kp : PySem.W.keepIn K (.ref f) = true

section
variable {X : Cx} {pins : List (Addr × Obj)} {σ : St} {H : Hp} {s : Shared} {a C dx : Addr} {fs : List (Str × V)} {f : Str} {v : V} {A : Around} {E : Value → Shared → Prop}

theorem getattr_ok {b : Bool} {Q : Value → Shared → Prop} (I : Inv X pins σ H s) (e : H a = some (.ins C dx fs)) (c : Cls X.K C) (n : NoAttr X.K C f) (l : fs.lookup f = some v)
    (h : ∀ u s', Inv X pins σ H s' → RelV v u → Q u s') : wpAny (model X.prog X.w) A (getAttr (.ref a) f b) Q E s := by
  obtain ⟨mA, O, r, _, _, _⟩ := ins_get I.hok e
  obtain ⟨u, hu, ru⟩ := RelO.some_of (v := v) (o := mA f) (by rw [← l]; exact r f)
  exact get_map I.kIn O (c.get f) c.hd n hu (handed_of ru) (h u _ (I.tok _) ru)

theorem getmeth_ok {m : Str} {g : Addr} {pl : Sem Bool} {Q : Value × List Value → Shared → Prop} (I : Inv X pins σ H s) (e : H a = some (.ins C dx fs)) (c : Cls X.K C) (k : Meth X.K C m g) (l : fs.lookup m = none)
    (h : Q (.ref g, [.ref a]) s) : wpAny (model X.prog X.w) A (getMethod (.ref a) m pl) Q E s := by
  obtain ⟨mA, O, r, _, _, _⟩ := ins_get I.hok e
  have hn : mA m = none := RelO.none_of (by rw [← l]; exact r m)
  exact get_meth I.kIn O (c.get m) k.at_ k.fn hn h

theorem setattr_ok {y : V} {u : Value} {Q : Unit → Shared → Prop} (I : Inv X pins σ H s) (e : H a = some (.ins C dx fs)) (c : Cls X.K C) (n : NoAttr X.K C f) (hl : fs.length < 1000) (ry : RelV y u)
    (h : ∀ s', Inv X pins σ (upd H a (.ins C dx (putF f y fs))) s' → Q () s') : wpAny (model X.prog X.w) A (setAttr (.ref a) f u) Q E s := by
  obtain ⟨mA, O, r, wi, _, ho⟩ := ins_get I.hok e
  have hz : (fs.map (·.1)).length ≤ sizeLine := by rw [List.length_map, sizeLine_eq]; omega
  refine set_map I.kIn O c.sa c.po n.taker c.hd wi hz fun h' O' sb => h _ ?_
  have hd : ∃ o, h'.get? dx = some o := let ⟨o, _, _, e', _⟩ := O'.ns; ⟨o, e'⟩
  refine I.write (x := a) (e := dx) (by rw [e]; exact True.intro) (.inr ho) (fun b q hb z => (sb.2 b hb).trans z) hd ?_
  refine ⟨by rw [upd_ne O.ne]; exact ho, ?_, O.ne, O'.obj, _, O'.ns, fun g => ?_, fun g hg => ?_⟩
  · have := length_putF f y fs; omega
  · show RelO ((putF f y fs).lookup g) (if g = f then some u else mA g)
    rw [lookup_putF]
    by_cases q : g = f
    · rw [if_pos q, if_pos q]; exact ry
    · rw [if_neg q, if_neg q]; exact r g
  · by_cases q : g = f
    · rw [q]; exact (keys_putF f y fs).1
    · refine (keys_putF f y fs).2 g (wi g fun z => hg ?_)
      show (if g = f then some u else mA g) = none
      rw [if_neg q]; exact z

/-- a new instance, tracked, without attributes -/
theorem Inv.made (I : Inv X pins σ H s) : Inv X pins σ (upd (upd H s.heap.objs.size (.own (s.heap.objs.size + 1))) (s.heap.objs.size + 1) (.ins C s.heap.objs.size []))
    { s with heap := (s.heap.push PySem.W.emptyDict).push (PySem.W.instObj C s.heap.objs.size) } := by
  have e1 : (s.heap.push PySem.W.emptyDict).get? s.heap.objs.size = some PySem.W.emptyDict := Heap.get?_push_size s.heap rfl
  have e2 : ((s.heap.push PySem.W.emptyDict).push (PySem.W.instObj C s.heap.objs.size)).get? (s.heap.objs.size + 1) = some (PySem.W.instObj C s.heap.objs.size) := by
    have := Heap.get?_push_size (s.heap.push PySem.W.emptyDict) (o := PySem.W.instObj C s.heap.objs.size) rfl
    rwa [Heap.size_push] at this
  have e3 : (s.heap.push PySem.W.emptyDict).Ns s.heap.objs.size (fun _ => none) := ⟨PySem.W.emptyDict, #[], _, e1, rfl, (fun e he => absurd he (by simp)), fun _ => rfl⟩
  have I1 := I.laid (a := s.heap.objs.size) (o := .own (s.heap.objs.size + 1)) (h' := s.heap.push PySem.W.emptyDict) (t' := s.toks) (fun b u q => Heap.get?_push_of_some _ q) (Nat.le_refl _) ⟨_, e1⟩
  refine I1.laid (a := s.heap.objs.size + 1) (o := .ins C s.heap.objs.size []) (t' := s.toks) (fun b u q => Heap.get?_push_of_some _ q) (Nat.le_of_eq (Heap.size_push _ _)) ?_
  have ne : s.heap.objs.size ≠ s.heap.objs.size + 1 := Nat.ne_of_lt (Nat.lt_succ_self _)
  refine ⟨by rw [upd_ne ne, upd_same], Nat.zero_le _, ne, e2, fun _ => none, (Heap.Ns1.of_empty e3).at fun o q => Heap.get?_push_of_some _ q, fun _ => True.intro, fun y hy => absurd rfl hy⟩

/-- e.f where nothing but the object is asked: through attributeBase (super) and the last hold -/
theorem attr_of {prog : Program} {w : World} {env : Env} {e : Expr} {f : Str} {pos : Pos} {s : Shared} {Q : Value → Shared → Prop} (hb : attributeBase e f env (eval e env) = eval e env)
    (h : wpAny (model prog w) A (eval e env) (fun o s₁ => wpAny (model prog w) A (getAttr o f true) Q E s₁) E s) : wpAny (model prog w) A (eval (.Attribute e f pos) env) Q E s :=
  Attribute_any_ h (by rw [arm_eval_Attribute, hb])
end

/-- e.f, an attribute of the instance -/
def tFld (K : PySem.W.Frag) (ta : TE) (f : Str) : TE := fun σ H Q => ta σ H fun x H1 => ∃ a C dx fs v, x = .ref a ∧ H1 a = some (.ins C dx fs) ∧ Cls K C ∧ NoAttr K C f ∧ fs.lookup f = some v ∧ Q v H1
/-- e.f, a constant of the class -/
def tCon (K : PySem.W.Frag) (ta : TE) (f : Str) : TE := fun σ H Q => ta σ H fun x H1 => ∃ a C dx fs v u, x = .ref a ∧ H1 a = some (.ins C dx fs) ∧ Cls K C ∧ Con K C f v u ∧ fs.lookup f = none ∧ Q v H1
/-- e.f = value -/
def sFld (K : PySem.W.Frag) (ta tv : TE) (f : Str) : TS := fun D σ H => tv σ H fun y H1 => ta σ H1 fun x H2 => ∃ a C dx fs, x = .ref a ∧ H2 a = some (.ins C dx fs) ∧ Cls K C ∧ NoAttr K C f ∧ fs.length < 1000 ∧
  D.nx σ (upd H2 a (.ins C dx (putF f y fs)))
/-- an augmented operator on two values -/
def InOp (X : Cx) (op : Operator) (rd : V → V → Hp → VK → Prop) : Prop :=
  ∀ (pins : List (Addr × Obj)) (s : Shared) (σ : St) (H : Hp) (x y : V) (u v : Value) (Q : VK), Inv X pins σ H s → RelV x u → RelV y v → rd x y H Q → wpAny (model X.prog X.w) X.A (inplaceOp op u v) (EP X pins σ Q) X.xe s
/-- e.f op= value -/
def sFldAug (K : PySem.W.Frag) (ta tv : TE) (rd : V → V → Hp → VK → Prop) (f : Str) : TS := fun D σ H => ta σ H fun x H1 => ∃ a C dx fs v, x = .ref a ∧ H1 a = some (.ins C dx fs) ∧ Cls K C ∧ NoAttr K C f ∧ fs.lookup f = some v ∧
  tv σ H1 fun y H2 => rd v y H2 fun z H3 => ∃ dx' fs', H3 a = some (.ins C dx' fs') ∧ fs'.length < 1000 ∧ D.nx σ (upd H3 a (.ins C dx' (putF f z fs')))

section
variable {X : Cx} {o e value : Expr} {f : Str} {pos pos' tpos : Pos} {ta tv : TE}
theorem pe_fld (he : PE X e ta) (hb : attributeBase e f X.env (eval e X.env) = eval e X.env) : PE X (.Attribute e f pos) (tFld X.K ta f) := by
  intro pins s σ H Q I h
  refine attr_of hb (thn (he pins s σ H _ I h) fun u s1 ⟨x, H1, I1, rx, a, C, dx, fs, v, ex, ea, c, n, l, q⟩ => ?_)
  subst ex
  obtain rfl : u = Value.ref a := rx
  exact getattr_ok I1 ea c n l fun u' s2 I2 ru => ⟨v, H1, I2, ru, q⟩
theorem ps_fld (ha : PE X o ta) (hv : PE X value tv) (hs : swapsWith value (some (.Attribute o f pos')) pos.line X.env = pure false) : PS X (.Assign [.Attribute o f pos'] value pos) (sFld X.K ta tv f) := by
  intro pins s σ H D I h
  refine plainObj_wpAny_Assign_Attribute (thn (hv pins s σ H _ I h) fun u s1 ⟨y, H1, I1, ry, q⟩ => thn (ha pins s1 σ H1 _ I1 q) fun ov s2 ⟨x, H2, I2, rx, a, C, dx, fs, ex, ea, c, n, l, q2⟩ => ?_) hs
  subst ex
  obtain rfl : ov = Value.ref a := rx
  exact setattr_ok I2 ea c n l ry fun s3 I3 => ⟨σ, _, I3, q2⟩
def rAdd : V → V → Hp → VK → Prop := fun x y H Q => ∃ i j, x = .int i ∧ y = .int j ∧ Q (.int (i + j)) H
def rSub : V → V → Hp → VK → Prop := fun x y H Q => ∃ i j, x = .int i ∧ y = .int j ∧ Q (.int (i - j)) H
end

section
variable {X : Cx} {pins : List (Addr × Obj)} {σ : St} {H : Hp} {s : Shared} {A : Around} {E : Value → Shared → Prop} {Q : Value → Shared → Prop} {c : Value} {b : Bool}
/-- the type of a value, as the fragment's deciders take it; for an instance its class -/
inductive TyOf (K : PySem.W.Frag) (H : Hp) : V → Value → Prop where
  | non : TyOf K H .non (.type "NoneType")
  | bl (x : Bool) : TyOf K H (.bl x) (.type "bool")
  | int (i : Int) : TyOf K H (.int i) (.type "int")
  | str (x : Str) : TyOf K H (.str x) (.type "str")
  | flt (x : UInt64) : TyOf K H (.flt x) (.type "float")
  | lst {a : Addr} {xs : List V} (e : H a = some (.lst xs)) : TyOf K H (.ref a) (.type "list")
  | frz {a : Addr} {o : Obj} {xs : List V} (e : H a = some (.frz o (.lst xs))) : TyOf K H (.ref a) (.type "list")
  | tup {a : Addr} {xs : List V} (e : H a = some (.tup xs)) : TyOf K H (.ref a) (.type "tuple")
  | dK {a : Addr} {kvs : List (Key × V)} (e : H a = some (.dK kvs)) : TyOf K H (.ref a) (.type "dict")
  | dT {a : Addr} {kvs : List (List Key × V)} (e : H a = some (.dT kvs)) : TyOf K H (.ref a) (.type "dict")
  | ins {a C dx : Addr} {fs : List (Str × V)} (e : H a = some (.ins C dx fs)) (cl : Cls K C) (ha : PySem.W.findIn K (.ref C) "__class__" = some (some (.builtin "object.__class__")))
      (hn : PySem.W.specialIn K (.builtin "object.__class__") "__get__" = some (some (.builtin "getset_descriptor.__get__"))) (htk : PySem.W.takesIn K (.builtin "object.__class__") = some true)
      (hm : PySem.W.mroIn K C (.type "object") = some true) : TyOf K H (.ref a) (.ref C)
/-- isinstance(x, c) for one class c, a built-in or an own one: kitOne's answer -/
theorem isinst_ok {x : V} {u t : Value} (I : Inv X pins σ H s) (rx : RelV x u) (ty : TyOf X.K H x t) (e : PySem.W.kitOne X.K t c = some b) (h : ∀ tk, Q (.bool b) { s with toks := tk }) :
    wpAny (model X.prog X.w) A (call (.builtin "isinstance") [u, c]) Q E s := by
  cases ty with
  | non => cases (show u = Value.none from rx); exact PySem.W.kia_one PySem.W.kitx_none I.kIn True.intro e (fun z => nomatch z) h
  | bl y => cases (show u = Value.bool y from rx); exact PySem.W.kia_one PySem.W.kitx_bool I.kIn True.intro e (fun z => nomatch z) h
  | int i => obtain ⟨t, q⟩ := (show ∃ t, u = Value.int i t from rx); cases q; exact PySem.W.kia_one PySem.W.kitx_int I.kIn True.intro e (fun z => nomatch z) h
  | str y => obtain ⟨t, q⟩ := (show ∃ t, u = Value.str y t from rx); cases q; exact PySem.W.kia_one PySem.W.kitx_str I.kIn True.intro e (fun z => nomatch z) h
  | flt y => obtain ⟨t, q⟩ := (show ∃ t, u = Value.float y t from rx); cases q; exact PySem.W.kia_one PySem.W.kitx_float I.kIn True.intro e (fun z => nomatch z) h
  | @lst a xs ea =>
    cases (show u = Value.ref a from rx)
    obtain ⟨_, _, n, _, h1⟩ := (show ObjOk X.prog X.w H s.heap a (.lst xs) from I.hok a _ ea)
    exact PySem.W.kia_one PySem.W.kitx_list I.kIn ⟨_, h1, rfl⟩ e (fun z => nomatch z) h
  | @frz a ob xs ea =>
    cases (show u = Value.ref a from rx)
    obtain ⟨_, _, _, n, _, h1⟩ := (show ObjOk X.prog X.w H s.heap a (.frz ob (.lst xs)) from I.hok a _ ea)
    exact PySem.W.kia_one PySem.W.kitx_list I.kIn ⟨_, h1, rfl⟩ e (fun z => nomatch z) h
  | @tup a xs ea =>
    cases (show u = Value.ref a from rx)
    obtain ⟨_, _, _, p⟩ := (show ObjOk X.prog X.w H s.heap a (.tup xs) from I.hok a _ ea)
    obtain ⟨o, h1, h2, _⟩ := p
    exact PySem.W.kia_one PySem.W.kitx_tuple I.kIn ⟨o, h1, h2⟩ e (fun z => nomatch z) h
  | @dK a kvs ea =>
    cases (show u = Value.ref a from rx)
    obtain ⟨_, _, vs, _, p⟩ := (show ObjOk X.prog X.w H s.heap a (.dK kvs) from I.hok a _ ea)
    obtain ⟨o, es, ep, h1, h2, _⟩ := p
    exact PySem.W.kia_one PySem.W.kitx_dict I.kIn ⟨o, h1, h2.1⟩ e (fun z => nomatch z) h
  | @dT a kvs ea =>
    cases (show u = Value.ref a from rx)
    obtain ⟨_, _, xs, _, o, es, ep, h1, h2, _⟩ := (show ObjOk X.prog X.w H s.heap a (.dT kvs) from I.hok a _ ea)
    exact PySem.W.kia_one PySem.W.kitx_dict I.kIn ⟨o, h1, h2.1⟩ e (fun z => nomatch z) h
  | @ins a C dx fs ea cl ha hn htk hm =>
    cases (show u = Value.ref a from rx)
    obtain ⟨mA, O, _⟩ := ins_get I.hok ea
    obtain ⟨od, J, _⟩ := O.look
    exact PySem.W.kia_one (PySem.W.kitx_own (cl.get _) cl.hd ha hn htk hm) I.kIn J e (fun z => nomatch z) h
end
end L2

namespace L2
open PySem PySem.Spec PyProof.Rows

structure Room (k : Nat) (A : Around) : Prop where
  hd : A.handled = none
  dp : A.depth + 3 * k + 5 < recursionLimit
  un : A.units + 16 * k + 200 < cLine
theorem Room.mono {j k : Nat} {A : Around} (r : Room k A) (h : j ≤ k) : Room j A := ⟨r.hd, by have := r.dp; omega, by have := r.un; omega⟩
theorem Room.deeper {k : Nat} {A : Around} (r : Room (k + 1) A) (env : Env) : Room k (A.deeper env) :=
  ⟨r.hd, by have := r.dp; show A.depth + 1 + 3 * k + 5 < _; omega, by have := r.un; show A.units + 3 + 16 * k + 200 < _; omega⟩
theorem make_depth {A : Around} {C : Addr} {us : List Value} {kw : List (Str × Value)} : (A.under (.builtin "type.__call__" ⟨.ref C :: us, kw⟩)).depth = A.depth + 1 := by
  first | rfl | simp [Around.under, Code.weight, Code.isCreation, Code.isGuard, Code.isCaller, Code.frames, Code.isFrame, guardIds]
theorem make_units {A : Around} {C : Addr} {us : List Value} {kw : List (Str × Value)} : (A.under (.builtin "type.__call__" ⟨.ref C :: us, kw⟩)).units = A.units + 1 := by
  first | rfl | simp [Around.under, Code.cUnits, Code.frames, Code.isFrame]
theorem Room.make {k : Nat} {A : Around} (r : Room (k + 1) A) (C : Addr) (us : List Value) (kw : List (Str × Value)) : Room k (A.under (.builtin "type.__call__" ⟨.ref C :: us, kw⟩)) :=
  ⟨r.hd, by have := r.dp; rw [make_depth]; omega, by have := r.un; rw [make_units]; omega⟩
theorem Room.depth {k : Nat} {A : Around} (r : Room k A) : A.depth < recursionLimit := by have := r.dp; omega
theorem Room.units {k : Nat} {A : Around} (r : Room k A) : A.units + 64 < cLine := by have := r.un; omega
def tNil : TA := fun _ H Q => Q [] H
def tCons (ta : TE) (tr : TA) : TA := fun σ H Q => ta σ H fun x H1 => tr σ H1 fun xs H2 => Q (x :: xs) H2
section
variable {X : Cx} {e : Expr} {es : List Expr} {te : TE} {t : TA} {pos : Pos}
theorem pa_nil : PA X [] tNil := fun _ _ _ _ H Q I h => Calls.spliced_nil ⟨[], H, I, .nil, h⟩
theorem pa_cons (ha : PE X e te) (hr : PA X es t) (hs : starEach (e :: es) X.env = (false, eval e X.env) :: starEach es X.env := by rfl) : PA X (e :: es) (tCons te t) := by
  intro pos pins s σ H Q I h
  rw [hs]
  show wpAny _ _ (spliced ((false, eval e X.env) :: backTo pos (starEach es X.env))) _ _ s
  refine Calls.spliced_cons (thn (ha pins s σ H _ I h) fun u s1 ⟨x, H1, I1, r1, q1⟩ => ?_)
  exact thn (hr pos pins s1 σ H1 _ I1 q1) fun us s2 ⟨xs, H2, I2, r2, q2⟩ => ⟨x :: xs, H2, I2, .cons r1 r2, q2⟩

/-- a tuple, a list of written items -/
def tTup (t : TA) : TE := fun σ H Q => t σ H fun xs H1 => xs.length ≤ sizeLine ∧ ∀ p, H1 p = none → Q (.ref p) (upd H1 p (.tup xs))
def tLst (t : TA) : TE := fun σ H Q => t σ H fun xs H1 => xs.length ≤ sizeLine ∧ ∀ p, H1 p = none → Q (.ref p) (upd H1 p (.lst xs))
theorem pe_tup {x1} (h : PA X es t) : PE X (.Tuple es x1 pos) (tTup t) := by
  intro pins s σ H Q I hq
  refine wpAny_Tuple_spliced (thn (h pos pins s σ H _ I hq) fun us s1 ⟨xs, H1, I1, r, z, q⟩ => ⟨by rw [← r.length]; exact z, ?_⟩)
  have hf : H1 s1.heap.objs.size = none := I1.hok.fresh (Nat.le_refl _)
  refine ⟨.ref s1.heap.objs.size, upd H1 s1.heap.objs.size (.tup xs), I1.laid (t' := s1.toks) (fun b u e => Heap.get?_push_of_some _ e) (Nat.le_refl _) ?_, rfl, q _ hf⟩
  exact ⟨z, us, r, ⟨_, Heap.get?_push_size _ rfl, rfl, _, rfl⟩⟩
theorem pe_lst (h : PA X es t) : PE X (.List es pos) (tLst t) := by
  intro pins s σ H Q I hq
  refine wpAny_List_spliced (thn (h pos pins s σ H _ I hq) fun us s1 ⟨xs, H1, I1, r, z, q⟩ => ⟨by rw [← r.length]; exact z, ?_⟩)
  have hf : H1 s1.heap.objs.size = none := I1.hok.fresh (Nat.le_refl _)
  refine ⟨.ref s1.heap.objs.size, upd H1 s1.heap.objs.size (.lst xs), I1.laid (t' := s1.toks) (fun b u e => Heap.get?_push_of_some _ e) (Nat.le_refl _) ?_, rfl, q _ hf⟩
  exact ⟨z, us, 0, r, Heap.get?_push_size _ rfl⟩
end

/-- a def's promise: the bound arguments in the parameters' order, the heap, the wanted end, the wanted exception -/
abbrev Sp := List V → Hp → VK → XK → Prop
/-- how an exception lies behind a call (file 08 gives it): the callers' frames, abstract heap and state ahead of the call, the wish, the exception, the state -/
abbrev CXT := List Env → Hp → Shared → XK → Value → Shared → Prop

/-- the state at a call -/
structure Env0 (P : Program) (w : World) (K : PySem.W.Frag) (mg : Str → Option Value) (base : Heap) (A : Around) (outer : List Env) (s : Shared) (H : Hp) : Prop where
  frames : A.frames = some outer
  mod : Mod K mg base
  bs : ∀ b o, base.get? b = some o → s.heap.get? b = some o ∧ H b = none
  bsz : base.objs.size ≤ s.heap.objs.size
  funs : s.heap.FunFrames base outer
  frf : ∀ b ∈ frs outer, H b = none
  hok : HOk P w H s.heap
  bare : AllBare s.gens
/-- a call's end -/
def CE (outer : List Env) (P : Program) (w : World) (H : Hp) (s : Shared) (Q : VK) (u : Value) (s' : Shared) : Prop :=
  ∃ v H', s'.os = s.os ∧ AllBare s'.gens ∧ Un (frs outer) [] H H' s.heap s'.heap ∧ HOk P w H' s'.heap ∧ RelV v u ∧ Q v H'
def CR (CX : CXT) (outer : List Env) (P : Program) (w : World) (H : Hp) (s : Shared) (Q : VK) (E : XK) (r : Result) (s' : Shared) : Prop :=
  match r with
  | .ok (.ret u) => CE outer P w H s Q u s'
  | .ok _ => False
  | .error e => CX outer H s E e s'
structure FnOk (P : Program) (w : World) (K : PySem.W.Frag) (mg : Str → Option Value) (base : Heap) (CX : CXT) (k : Nat) (f : Addr) (fd : FuncData) (ps : List Str) (sp : Sp) : Prop where
  len : ∀ vs H Q E, sp vs H Q E → vs.length = ps.length
  run : ∀ (A : Around) (outer : List Env) (s : Shared) (H : Hp) (args : Args) (us : List Value) (vs : List V) (Q : VK) (E : XK), Room k A → Env0 P w K mg base A outer s H → BindsTo s fd args (ps.zip us) → Vals vs us → sp vs H Q E →
    codeAny (model P w) A (.call (.ref f) args) (CR CX outer P w H s Q E) s
theorem FnOk.mono {P : Program} {w : World} {K : PySem.W.Frag} {mg : Str → Option Value} {base : Heap} {CX : CXT} {j k : Nat} {f : Addr} {fd : FuncData} {ps : List Str} {sp : Sp} (F : FnOk P w K mg base CX j f fd ps sp) (h : j ≤ k) :
    FnOk P w K mg base CX k f fd ps sp := ⟨F.len, fun A outer s H args us vs Q E hr => F.run A outer s H args us vs Q E (hr.mono h)⟩
theorem Env0.make {P : Program} {w : World} {K : PySem.W.Frag} {mg : Str → Option Value} {base : Heap} {A : Around} {outer : List Env} {s : Shared} {H : Hp} (e : Env0 P w K mg base A outer s H) (C : Addr) (us : List Value) (kw : List (Str × Value)) :
    Env0 P w K mg base (A.under (.builtin "type.__call__" ⟨.ref C :: us, kw⟩)) outer s H := ⟨by first | exact e.frames | (simpa [Around.under, Code.envs, Code.isFrame, pushEnvs] using e.frames), e.mod, e.bs, e.bsz, e.funs, e.frf, e.hok, e.bare⟩
section
variable {X : Cx} {pins : List (Addr × Obj)} {σ : St} {H : Hp} {s s' : Shared}
/-- from a body: what a callee wants -/
theorem Inv.env0 (I : Inv X pins σ H s) : Env0 X.prog X.w X.K X.mg X.base X.A X.stack s H :=
  ⟨I.ok.frames, I.ok.mod, I.bs, Nat.le_trans I.ok.bsz I.sz, I.stack, I.stkFree, I.hok, I.bare⟩
/-- behind a call -/
theorem Inv.after {Q : VK} {u : Value} (I : Inv X pins σ H s) (h : CE X.stack X.prog X.w H s Q u s') : EP X pins σ Q u s' := by
  obtain ⟨v, H', os, bare, un, hok, r, q⟩ := h
  obtain ⟨hh, g, d, t, os'⟩ := s'
  obtain rfl : os' = s.os := os
  exact ⟨v, H', I.call (h' := hh) (g' := g) (d' := d) (t' := t) (ch := []) un hok bare (fun b z => absurd z (by simp)), r, q⟩
end

/-- f(..): the written arguments, then the defaults dvs; E: what is wanted of an exception -/
def tCall (sp : Sp) (dvs : List V) (E : XK) (t : TA) : TE := fun σ H Q => t σ H fun vs H1 => sp (vs ++ dvs) H1 Q E
/-- o.m(..) of an instance of the class at C -/
def tMeth (C : Addr) (m : Str) (sp : Sp) (dvs : List V) (E : XK) (ta : TE) (t : TA) : TE := fun σ H Q => ta σ H fun x H1 => ∃ a dx fs, x = .ref a ∧ H1 a = some (.ins C dx fs) ∧ fs.lookup m = none ∧
  t σ H1 fun vs H2 => sp (x :: (vs ++ dvs)) H2 Q E
/-- C(..): a new instance and its dict, then __init__ -/
def tMake (C : Addr) (sp : Sp) (dvs : List V) (E : XK) (t : TA) : TE := fun σ H Q => t σ H fun vs H1 => ∀ x dx, H1 x = none → H1 dx = none → dx ≠ x →
  sp (.ref x :: (vs ++ dvs)) (upd (upd H1 dx (.own x)) x (.ins C dx [])) (fun v H2 => v = .non ∧ Q (.ref x) H2) E

/-- how the parameters are bound: us the positional arguments, kw the keywords' values by name, ds the defaults that fill up -/
def Binds (K : PySem.W.Frag) (fd : FuncData) (ps : List Str) (ds : List Value) : Prop :=
  ∀ (s : Shared) (us : List Value), K.In s.heap → (us ++ ds).length = ps.length → BindsTo s fd ⟨us, []⟩ (ps.zip (us ++ ds))
/-- every parameter is given -/
theorem Binds.all {K : PySem.W.Frag} {fd : FuncData} {ps : List Str} (h : ∀ us : List Value, us.length = ps.length → bindArgs fd ⟨us, []⟩ = pure (ps.zip us)) : Binds K fd ps [] := fun s us _ hl => by
  rw [List.append_nil] at hl ⊢
  exact .of_eq (h us hl)

/-- an exception of a callee reaches what this body wants of exceptions -/
def Passes (CX : CXT) (X : Cx) (E : XK) : Prop := ∀ (pins : List (Addr × Obj)) (σ : St) (H : Hp) (s : Shared) (e : Value) (s' : Shared), Inv X pins σ H s → CX X.stack H s E e s' → X.xe e s'

section
variable {X : Cx} {CX : CXT} {k : Nat} {f C : Addr} {fd : FuncData} {ps : List Str} {sp : Sp} {dvs : List V} {ds : List Value} {E : XK} {x m : Str} {p pos apos : Pos} {e o : Expr} {es : List Expr} {ta : TE} {t : TA}

/-- the callee runs -/
theorem run_fn {pins : List (Addr × Obj)} {σ : St} {H : Hp} {s : Shared} {Q : VK} {us : List Value} {vs : List V} (F : FnOk X.prog X.w X.K X.mg X.base CX k f fd ps sp) (hr : Room k X.A) (hb : Binds X.K fd ps ds) (hd : Vals dvs ds) (hx : Passes CX X E)
    (I : Inv X pins σ H s) (r : Vals vs us) (h : sp (vs ++ dvs) H Q E) : wpAny (model X.prog X.w) X.A (call (.ref f) us) (EP X pins σ Q) X.xe s := by
  have r2 : Vals (vs ++ dvs) (us ++ ds) := r.append hd
  have hl : (us ++ ds).length = ps.length := by rw [← r2.length]; exact F.len _ _ _ _ h
  refine wpAny_call (codeAny_mono (F.run X.A X.stack s H ⟨us, []⟩ (us ++ ds) (vs ++ dvs) Q E hr I.env0 (hb s us I.kIn hl) r2 h) fun r s' hq => ?_)
  cases r with
  | error e => exact hx pins σ H s e s' I hq
  | ok fl =>
    cases fl with
    | ret u => exact I.after hq
    | next => exact False.elim hq
    | brk => exact False.elim hq
    | cont => exact False.elim hq

theorem pe_call (F : FnOk X.prog X.w X.K X.mg X.base CX k f fd ps sp) (hr : Room k X.A) (hg : Gl X x) (hm : X.mg x = some (.ref f)) (hk : PySem.W.keepIn X.K (.ref f) = true) (hb : Binds X.K fd ps ds) (hd : Vals dvs ds) (hx : Passes CX X E)
    (ha : PA X (e :: es) t) (hdb : (x == ("__debug__" : Str)) = false := by decide) (he : starEach (e :: es) X.env = (false, eval e X.env) :: starEach es X.env := by rfl) (hpl : (backTo pos (starEach es X.env)).any (·.1) = false := by rfl) :
    PE X (.Call (.Name x p) (e :: es) [] pos) (tCall sp dvs E t) := by
  intro pins s σ H Q I h
  refine wpAny_Call_Name_kw (ld_glob I hg hm ?_ hdb)
  refine PySem.W.callWith_K (h₀ := X.base) I.ok.mod.kin hk (thn (ha pos pins s σ H _ I h) fun us s1 ⟨vs, H1, I1, r, q⟩ => ⟨I1.kIn, ?_⟩) he hpl
  exact run_fn F hr hb hd hx I1 r q
/-- what a class must have to be made -/
structure Mk (K : PySem.W.Frag) (C f : Addr) : Prop where
  makes : PySem.W.makesIn K C = true
  init : PySem.W.findIn K (.ref C) "__init__" = some (some (.ref f))
  fn : PySem.W.isFn K (.ref f) = true
  kp : PySem.W.keepIn K (.ref C) = true

theorem run_make {pins : List (Addr × Obj)} {σ : St} {H : Hp} {s : Shared} {Q : VK} {us : List Value} {vs : List V} (M : Mk X.K C f) (F : FnOk X.prog X.w X.K X.mg X.base CX k f fd ps sp) (hr : Room (k + 1) X.A) (hb : Binds X.K fd ps ds) (hd : Vals dvs ds)
    (hx : Passes CX X E) (I : Inv X pins σ H s) (r : Vals vs us)
    (h : ∀ x dx, H x = none → H dx = none → dx ≠ x → sp (.ref x :: (vs ++ dvs)) (upd (upd H dx (.own x)) x (.ins C dx [])) (fun v H2 => v = .non ∧ Q (.ref x) H2) E) :
    wpAny (model X.prog X.w) X.A (call (.ref C) us) (EP X pins σ Q) X.xe s := by
  have hq := h (s.heap.objs.size + 1) s.heap.objs.size (I.hok.fresh (Nat.le_succ _)) (I.hok.fresh (Nat.le_refl _)) (Nat.ne_of_lt (Nat.lt_succ_self _))
  have I2 := Inv.made (C := C) I
  have r2 : Vals (V.ref (s.heap.objs.size + 1) :: (vs ++ dvs)) (Value.ref (s.heap.objs.size + 1) :: (us ++ ds)) := .cons rfl (r.append hd)
  have hl : (Value.ref (s.heap.objs.size + 1) :: us ++ ds).length = ps.length := by
    have e := r2.length
    rw [F.len _ _ _ _ hq] at e
    exact e.symm
  refine wpAny_call (make_map (f := f) I.kIn M.makes M.init (beq_iff_eq.mp M.fn) (codeAny_mono (F.run _ X.stack _ _ ⟨Value.ref (s.heap.objs.size + 1) :: us, []⟩ (Value.ref (s.heap.objs.size + 1) :: (us ++ ds)) _ _ E (hr.make C us [])
    (I2.env0.make C us []) (hb _ (Value.ref (s.heap.objs.size + 1) :: us) I2.kIn hl) r2 hq) fun r s' hq' => ?_))
  cases r with
  | error e => exact hx pins σ _ _ e s' I2 hq'
  | ok fl =>
    cases fl with
    | ret u =>
      obtain ⟨v, H', I3, rv, ev, q3⟩ := I2.after hq'
      subst ev
      exact ⟨rv, ⟨V.ref (s.heap.objs.size + 1), H', I3, rfl, q3⟩⟩
    | next => exact False.elim hq'
    | brk => exact False.elim hq'
    | cont => exact False.elim hq'
theorem pe_make (M : Mk X.K C f) (F : FnOk X.prog X.w X.K X.mg X.base CX k f fd ps sp) (hr : Room (k + 1) X.A) (hg : Gl X x) (hm : X.mg x = some (.ref C)) (hb : Binds X.K fd ps ds) (hd : Vals dvs ds) (hx : Passes CX X E)
    (ha : PA X (e :: es) t) (hdb : (x == ("__debug__" : Str)) = false := by decide) (he : starEach (e :: es) X.env = (false, eval e X.env) :: starEach es X.env := by rfl) (hpl : (backTo pos (starEach es X.env)).any (·.1) = false := by rfl) :
    PE X (.Call (.Name x p) (e :: es) [] pos) (tMake C sp dvs E t) := by
  intro pins s σ H Q I h
  refine wpAny_Call_Name_kw (ld_glob I hg hm ?_ hdb)
  refine PySem.W.callWith_K (h₀ := X.base) I.ok.mod.kin M.kp (thn (ha pos pins s σ H _ I h) fun us s1 ⟨vs, H1, I1, r, q⟩ => ⟨I1.kIn, ?_⟩) he hpl
  exact run_make M F hr hb hd hx I1 r q
end

/-- the values of the keywords, from the left -/
def PK (X : Cx) (kws : List Keyword) (t : TA) : Prop :=
  ∀ (pos : Pos) (pins : List (Addr × Obj)) (s : Shared) (σ : St) (H : Hp) (Q : List V → Hp → Prop), Inv X pins σ H s → t σ H Q → wpAny (model X.prog X.w) X.A (evalAll ((backToKw pos (keywordEach kws X.env)).map (·.2))) (AP X pins σ Q) X.xe s
section
variable {X : Cx} {CX : CXT} {k : Nat} {f C : Addr} {fd : FuncData} {ps ks : List Str} {sp : Sp} {E : XK} {x m : Str} {p pos apos kpos : Pos} {e o : Expr} {es : List Expr} {kws : List Keyword} {te ta : TE} {t tk : TA} {nm : Option Str}
/-- how a call with keywords binds: g puts the positional values us and the keywords' values ws (names ks) in the parameters' order, defaults among them -/
structure KBinds (K : PySem.W.Frag) (fd : FuncData) (ps ks : List Str) (g : List Value → List Value → List Value) (gV : List V → List V → List V) : Prop where
  to : ∀ (s : Shared) (us ws : List Value), K.In s.heap → (g us ws).length = ps.length → BindsTo s fd ⟨us, ks.zip ws⟩ (ps.zip (g us ws))
  rel : ∀ {vs : List V} {us : List Value} {zs : List V} {ws : List Value}, Vals vs us → Vals zs ws → Vals (gV vs zs) (g us ws)
def tCallK (sp : Sp) (gV : List V → List V → List V) (E : XK) (t tk : TA) : TE := fun σ H Q => t σ H fun vs H1 => tk σ H1 fun zs H2 => sp (gV vs zs) H2 Q E
variable {g : List Value → List Value → List Value} {gV : List V → List V → List V}
end

/-- names: the parameters first -/
structure FnScope (N P : List Str) (sc : Scope) : Prop where
  kind : sc.kind = .function
  co : sc.isCoroutine = false
  gen : sc.isGenerator = false
  nd : N.Nodup
  pre : N.take P.length = P
  par : ∀ x ∈ P, sc.names.lookup x = some .local ∨ sc.names.lookup x = some .cell
  nofree : ∀ y ∈ sc.names, y.2 ≠ .free

theorem bindL_out {kindOf : Str → Option NameKind} {x : Str} : ∀ {binds : List (Str × Value)} {m : Str → Option Value}, (∀ v, (x, v) ∉ binds) → bindL kindOf binds m x = m x
  | [], _, _ => rfl
  | (n, v) :: r, m, h => by
    unfold bindL
    rw [bindL_out fun w hw => h w (List.mem_cons_of_mem _ hw)]
    split
    · have : x ≠ n := by rintro rfl; exact h v List.mem_cons_self
      simp [this]
    · rfl
theorem bindC_out {kindOf : Str → Option NameKind} {x : Str} : ∀ {binds : List (Str × Value)} {m : Str → Option Value}, (∀ v, (x, v) ∉ binds) → bindC kindOf binds m x = m x
  | [], _, _ => rfl
  | (n, v) :: r, m, h => by
    unfold bindC
    rw [bindC_out fun w hw => h w (List.mem_cons_of_mem _ hw)]
    split
    · rfl
    · have : x ≠ n := by rintro rfl; exact h v List.mem_cons_self
      simp [this]
theorem bindL_get {kindOf : Str → Option NameKind} {x : Str} {v : Value} : ∀ {P : List Str} {vs : List Value} {i : Nat} {m : Str → Option Value}, P.Nodup → P[i]? = some x → vs[i]? = some v → kindOf x = some .local →
    bindL kindOf (P.zip vs) m x = some v
  | [], _, _, _, _, h, _, _ => by simp at h
  | _ :: _, [], _, _, _, _, h, _ => by simp at h
  | p :: P, w :: vs, 0, m, nd, h1, h2, hk => by
    simp at h1 h2; subst h1; subst h2
    show bindL kindOf ((p, w) :: P.zip vs) m p = _
    unfold bindL
    rw [bindL_out fun v hv => (List.nodup_cons.mp nd).1 (List.of_mem_zip hv).1, if_pos hk]
    simp
  | p :: P, w :: vs, i + 1, m, nd, h1, h2, hk => by
    show bindL kindOf ((p, w) :: P.zip vs) m x = _
    unfold bindL
    exact bindL_get (i := i) (List.nodup_cons.mp nd).2 (by simpa using h1) (by simpa using h2) hk
theorem bindC_get {kindOf : Str → Option NameKind} {x : Str} {v : Value} : ∀ {P : List Str} {vs : List Value} {i : Nat} {m : Str → Option Value}, P.Nodup → P[i]? = some x → vs[i]? = some v → kindOf x ≠ some .local →
    bindC kindOf (P.zip vs) m x = some v
  | [], _, _, _, _, h, _, _ => by simp at h
  | _ :: _, [], _, _, _, _, h, _ => by simp at h
  | p :: P, w :: vs, 0, m, nd, h1, h2, hk => by
    simp at h1 h2; subst h1; subst h2
    show bindC kindOf ((p, w) :: P.zip vs) m p = _
    unfold bindC
    rw [bindC_out fun v hv => (List.nodup_cons.mp nd).1 (List.of_mem_zip hv).1, if_neg hk]
    simp
  | p :: P, w :: vs, i + 1, m, nd, h1, h2, hk => by
    show bindC kindOf ((p, w) :: P.zip vs) m x = _
    unfold bindC
    exact bindC_get (i := i) (List.nodup_cons.mp nd).2 (by simpa using h1) (by simpa using h2) hk

/-- the names' values at the entry -/
def start (N : List Str) (vs : List V) : St := vs.map some ++ List.replicate (N.length - vs.length) none

/-- the context of a def's body, at its entry; an exception leaves the frame, then lies as CX says -/
def cxOf (CX : CXT) (P : Program) (w : World) (K : PySem.W.Frag) (mg : Str → Option Value) (base : Heap) (N : List Str) (qual : Str) (scope : Scope) (f : Addr) (cd : Value) (A : Around) (outer : List Env) (s : Shared) (H : Hp) (E : XK) : Cx where
  prog := P
  w := w
  K := K
  mg := mg
  base := base
  A := A.deeper (envOfC qual scope s.heap.objs.size f cd)
  N := N
  s₀ := s
  H₀ := H
  env := envOfC qual scope s.heap.objs.size f cd
  outer := outer
  stack := envOfC qual scope s.heap.objs.size f cd :: outer
  ex := []
  calm := true
  fn := fun _ => true
  pn := []
  xe := fun e s' => wpAny (model P w) (A.deeper (envOfC qual scope s.heap.objs.size f cd)) (leaving (envOfC qual scope s.heap.objs.size f cd) e) (fun _ s'' => CX outer H s E e s'') (fun e' s'' => CX outer H s E e' s'') s'

theorem cell_has {sc : Scope} {n : Nat} {x : Str} (h : sc.names.lookup x = some .cell) : ∃ c, (cellsFrom n sc.names []).lookup x = some c := by
  have q := PySem.W.cellsFrom_some sc.names n [] (.inl h)
  exact Option.isSome_iff_exists.mp q

theorem inv_start {CX : CXT} {P : Program} {w : World} {K : PySem.W.Frag} {mg : Str → Option Value} {base : Heap} {N ps : List Str} {qual : Str} {scope : Scope} {f : Addr} {cd : Value} {A : Around} {outer : List Env} {s s1 : Shared} {H : Hp} {E : XK} {us : List Value} {vs : List V}
    (S : FnScope N ps scope) (hd : A.handled = none) (e0 : Env0 P w K mg base A outer s H) (hl : vs.length = ps.length) (r : Vals vs us)
    (x : InCallC s s.heap.objs.size (bindL (envOfC qual scope s.heap.objs.size f cd).kindOf (ps.zip us) fun _ => none) (cellsFrom (s.heap.objs.size + 1) scope.names []) (bindC (envOfC qual scope s.heap.objs.size f cd).kindOf (ps.zip us) fun _ => none) s1) :
    Inv (cxOf CX P w K mg base N qual scope f cd A outer s H E) [] (start N vs) H s1 := by
  have hpl : ps.length ≤ N.length := by have := congrArg List.length S.pre; rw [List.length_take] at this; omega
  obtain ⟨h1, tk, rfl, hk⟩ := x.done
  have noA : ∀ b : Addr, b ∉ (cxOf CX P w K mg base N qual scope f cd A outer s H E).ex := fun b z => absurd (show b ∈ ([] : List Addr) from z) (by simp)
  refine ⟨⟨e0.mod, S.kind, rfl, rfl, Nat.le_refl _, fun y z c h1 h2 => ?_, fun y hy => ?_, fun y c _ h => ?_, fun _ => hd, Around.frames_deeper e0.frames, .inr ⟨rfl, rfl⟩, fun b z => absurd z (noA b), e0.bs, e0.bsz, fun b _ _ => noA b, fun b z => absurd z (noA b), e0.funs, e0.frf⟩,
    rfl, e0.bare, Un.kept hk, ⟨_, x.toInCall.ns, fun i y v h1 h2 h3 => ?_⟩, fun y c h => ⟨_, x.cell y c h⟩, e0.hok.fresh (Nat.le_refl _), fun y c h => ?_, fun p hp => absurd (show p ∈ ([] : List (Addr × Obj)) from hp) (by simp), e0.hok.kept hk, ?_⟩
  · exact name_of_addr x.apart (PySem.mem_of_lookup h1) (PySem.mem_of_lookup h2)
  · have hy : scope.names.lookup y = some .cell ∨ scope.names.lookup y = some .free := hy
    rcases hy with hy | hy
    · exact cell_has hy
    · exact absurd rfl (S.nofree _ (PySem.mem_of_lookup hy))
  · exact Nat.le_of_lt (x.above y c (PySem.mem_of_lookup h))
  · have hi : i < vs.length := by
      unfold start at h2
      by_cases hi : i < vs.length
      · exact hi
      · rw [List.getElem?_append_right (by simpa using hi)] at h2
        rw [List.getElem?_replicate] at h2
        split at h2 <;> cases h2
    have ha : vs[i]? = some v := by
      unfold start at h2
      rw [List.getElem?_append_left (by simpa using hi), List.getElem?_map] at h2
      cases e : vs[i]? with
      | none => rw [e] at h2; cases h2
      | some a => rw [e] at h2; cases h2; rfl
    obtain ⟨u, hu, rv⟩ := r.get ha
    have hp : ps[i]? = some y := by
      rw [← S.pre, List.getElem?_take_of_lt (by omega)]; exact h1
    have ndP : ps.Nodup := by rw [← S.pre]; exact S.nd.sublist (List.take_sublist _ _)
    refine ⟨u, rv, ?_⟩
    rcases S.par y (List.mem_of_getElem? hp) with k | k
    · exact .inl ⟨k, bindL_get ndP hp hu k⟩
    · obtain ⟨c, e⟩ := cell_has (n := s.heap.objs.size + 1) k
      refine .inr ⟨.inl k, c, e, ?_⟩
      have q := x.cell y c e
      rw [bindC_get ndP hp hu (by show scope.names.lookup y ≠ _; rw [k]; decide)] at q
      exact q
  · exact e0.hok.fresh (Nat.le_of_lt (x.above y c (PySem.mem_of_lookup h)))
  · unfold start
    show _ = N.length
    rw [List.length_append, List.length_map, List.length_replicate]
    omega

/-- THE RULE: a def (or a method) of the text, by its body. The body's reading t is chosen for each entry; it is run at the parameters' values -/
theorem fn_of {CX : CXT} {P : Program} {w : World} {K : PySem.W.Frag} {mg : Str → Option Value} {base : Heap} {k : Nat} {f : Addr} {name qual : Str} {params : Arguments} {body : List Stmt} {scope : Scope} {dV kV doc pm cdv ct oc : Value} {an od : Option Addr}
    {osl : Array (Option Value)} {N ps : List Str} {sp : Sp} (lk : K.lookup f = some ⟨oc, od, .func (PySem.W.fnOf name qual params body scope dV kV doc pm an cdv ct), osl⟩) (hcd : PySem.W.codeIn K cdv qual = true) (S : FnScope N ps scope)
    (len : ∀ vs H Q E, sp vs H Q E → vs.length = ps.length)
    (hbody : ∀ (A : Around) (outer : List Env) (s : Shared) (H : Hp) (vs : List V) (Q : VK) (E : XK), Room k (A.deeper (envOfC qual scope s.heap.objs.size f cdv)) → sp vs H Q E →
      ∃ t, PSs (cxOf CX P w K mg base N qual scope f cdv A outer s H E) body t ∧ t { nx := fun _ H' => Q .non H', rt := Q } (start N vs) H) :
    FnOk P w K mg base CX (k + 1) f (PySem.W.fnOf name qual params body scope dV kV doc pm an cdv ct) ps sp := by
  refine ⟨len, fun A outer s H args us vs Q E hr e0 hb r hsp => ?_⟩
  have hl := len _ _ _ _ hsp
  have KX : K.In s.heap := e0.mod.kin.keeps fun b o e => (e0.bs b o e).1
  have lim : s.heap.NoLimit := e0.mod.nolimit.keeps fun b o e => (e0.bs b o e).1
  have hkind : ∀ y ∈ ps.zip us, scope.names.lookup y.1 = some .local ∨ (scope.names.lookup y.1 = some .cell ∧ ((cellsFrom (s.heap.objs.size + 1) scope.names []).lookup y.1).isSome = true) := fun ⟨n, v⟩ hy => by
    rcases S.par n (List.of_mem_zip hy).1 with q | q
    · exact .inl q
    · exact .inr ⟨q, PySem.W.cellsFrom_some _ _ _ (.inl q)⟩
  refine codeAny_call_function hr.depth (KX _ _ lk) rfl S.co S.gen rfl (PySem.W.codeRec_of KX hcd) (hb _ _ _ _ ?_)
  refine wpAny_newFunctionEnv_cells S.kind hkind fun env he s1 x => ?_
  subst he
  refine ⟨lim.keeps x.toInCall.keep, codeAny_func ?_⟩
  obtain ⟨t, ht, hq⟩ := hbody A outer s H vs Q E (hr.deeper _) hsp
  have I : Inv (cxOf CX P w K mg base N qual scope f cdv A outer s H E) [] (start N vs) H s1 := inv_start S hr.hd e0 hl r x
  refine wpAny_mono (ht [] s1 (start N vs) H _ I hq) (fun fl s' hs => ?_) fun e s' hs => hs
  have fin : ∀ {σ' : St} {H' : Hp} {v : V} {u : Value}, Inv (cxOf CX P w K mg base N qual scope f cdv A outer s H E) [] σ' H' s' → RelV v u → Q v H' → CE outer P w H s Q u s' :=
    fun {σ' H' v u} J rv q => ⟨v, H', J.os, J.bare, J.base, J.hok, rv, q⟩
  cases fl with
  | ret u =>
    obtain ⟨v, σ', H', J, rv, q⟩ := hs
    exact fin J rv q
  | next =>
    obtain ⟨σ', H', J, q⟩ := hs
    exact fin (v := V.non) (u := Value.none) J rfl q
  | brk =>
    obtain ⟨_, _, _, q⟩ := hs
    exact False.elim q
  | cont =>
    obtain ⟨_, _, _, q⟩ := hs
    exact False.elim q
end L2

namespace L2
open PySem PySem.Spec PyProof.Rows
section
variable {X : Cx} {x : Str} {p pos : Pos} {e : Expr} {es : List Expr} {t : TA} {id T : String} {r : List V → Hp → VK → Prop}

def tCB (r : List V → Hp → VK → Prop) (t : TA) : TE := fun σ H Q => t σ H fun vs H1 => r vs H1 Q
/-- f(e, ..), f a built-in function -/
theorem pe_callB (hc : CallR X (.builtin id) r) (hg : Gl X x) (hm : X.mg x = none) (hv : bootBuiltins x = some (.builtin id)) (ha : PA X (e :: es) t) (hn : x ≠ "__name__" := by decide) (hdb : (x == ("__debug__" : Str)) = false := by decide)
    (he : starEach (e :: es) X.env = (false, eval e X.env) :: starEach es X.env := by rfl) (hpl : (backTo pos (starEach es X.env)).any (·.1) = false := by rfl) : PE X (.Call (.Name x p) (e :: es) [] pos) (tCB r t) := by
  intro pins s σ H Q I h
  refine wpAny_Call_Name_kw (ld_blt I hg hm hv ?_ hn hdb)
  exact PyProof.Rows.callWith_builtin1 (thn (ha pos pins s σ H _ I h) fun us s1 ⟨vs, H1, I1, r1, q1⟩ => hc pins s1 σ H1 vs us Q I1 r1 q1) he hpl
/-- T(e, ..), T a built-in type -/
theorem pe_callTy (hc : CallR X (.type T) r) (hg : Gl X x) (hm : X.mg x = none) (hv : bootBuiltins x = some (.type T)) (ha : PA X (e :: es) t) (hn : x ≠ "__name__" := by decide) (hdb : (x == ("__debug__" : Str)) = false := by decide)
    (he : starEach (e :: es) X.env = (false, eval e X.env) :: starEach es X.env := by rfl) (hpl : (backTo pos (starEach es X.env)).any (·.1) = false := by rfl) : PE X (.Call (.Name x p) (e :: es) [] pos) (tCB r t) := by
  intro pins s σ H Q I h
  refine wpAny_Call_Name_kw (ld_blt I hg hm hv ?_ hn hdb)
  exact PyProof.Rows.callWith_type1 (thn (ha pos pins s σ H _ I h) fun us s1 ⟨vs, H1, I1, r1, q1⟩ => hc pins s1 σ H1 vs us Q I1 r1 q1) he hpl
end
end L2

namespace HT
open PySem PyProof.Rows

/-- t < u of tuples of ints -/
def lexLt : List Int → List Int → Bool
  | [], [] => false
  | [], _ :: _ => true
  | _ :: _, [] => false
  | x :: xs, y :: ys => if x = y then lexLt xs ys else decide (x < y)
section
open PySem.SeqAt
open PySem.AutoSeq1 (wpAny_loadPart')
open PySem.MeetsSeq PySem.MeetsSeq2 PySem.MeetsSeq3

end

section
variable {prog : Program} {w : World} {A : Around} {E : Value → Shared → Prop} {s : Shared}

/-- a slice's bound as a place among n (d where it is left out) -/
def sIx (n d : Nat) : Option Int → Nat
  | none => d
  | some v => if v < 0 then (v + (n : Int)).toNat else min v.toNat n
end
end HT

namespace L2
open PySem PySem.Spec PyProof.Rows

abbrev TO := St → Hp → (Option Int → Hp → Prop) → Prop
/-- a slice's part (left out, or an int) -/
def PO (X : Cx) (e : Option Expr) (t : TO) : Prop :=
  ∀ (pins : List (Addr × Obj)) (s : Shared) (σ : St) (H : Hp) (Q : Option Int → Hp → Prop), Inv X pins σ H s → t σ H Q →
    wpAny (model X.prog X.w) X.A (evalPart e X.env) (fun u s' => ∃ o H', Inv X pins σ H' s' ∧ IsPart u o ∧ Q o H') X.xe s
def tNoPart : TO := fun _ H Q => Q none H
def tPart (t : TE) : TO := fun σ H Q => t σ H fun x H1 => ∃ i, x = .int i ∧ Q (some i) H1

section
variable {X : Cx} {e : Expr} {te : TE} {lo hi : Option Expr} {tl th : TO} {pos p2 : Pos}

theorem po_none : PO X none tNoPart := by
  intro pins s σ H Q I h
  rw [evalPart_none]
  exact wpAny_pure ⟨none, H, I, .none, h⟩
theorem po_some (h : PE X e te) : PO X (some e) (tPart te) := by
  intro pins s σ H Q I hw
  rw [evalPart_some]
  refine thn (h pins s σ H _ I hw) fun u s1 ⟨x, H1, I1, r1, q1⟩ => ?_
  obtain ⟨i, rfl, q⟩ := q1
  obtain ⟨t, rfl⟩ := r1
  exact ⟨some i, H1, I1, .int i t, q⟩

/-- what a slice of a value is, by values: the slice object stands at sl -/
def SlR (X : Cx) (r : V → Option Int → Option Int → Hp → VK → Prop) : Prop :=
  ∀ (pins : List (Addr × Obj)) (s : Shared) (σ : St) (H : Hp) (x : V) (v vl vu : Value) (lo hi : Option Int) (sl : Addr) (Q : VK), Inv X pins σ H s → RelV x v → s.heap.IsSliceOf sl vl vu .none → IsPart vl lo → IsPart vu hi → r x lo hi H Q →
    ∃ T id, typeLookup (.type T) "__getitem__" = pure (some (.builtin id)) ∧ s.TypeIs v T ∧ wpAny (model X.prog X.w) X.A (getItem v (.ref sl)) (EP X pins σ Q) X.xe s
theorem SlR.or {r r' : V → Option Int → Option Int → Hp → VK → Prop} (h : SlR X r) (h' : SlR X r') : SlR X (fun x lo hi H Q => r x lo hi H Q ∨ r' x lo hi H Q) := by
  intro pins s σ H x v vl vu lo hi sl Q I rx hs pl pu q
  rcases q with q | q
  · exact h pins s σ H x v vl vu lo hi sl Q I rx hs pl pu q
  · exact h' pins s σ H x v vl vu lo hi sl Q I rx hs pl pu q
def tSl (r : V → Option Int → Option Int → Hp → VK → Prop) (te : TE) (tl th : TO) : TE := fun σ H Q => te σ H fun x H1 => tl σ H1 fun l H2 => th σ H2 fun u H3 => r x l u H3 Q
/-- a[lo:hi], any a -/
theorem pe_slice {r : V → Option Int → Option Int → Hp → VK → Prop} (hr : SlR X r) (he : PE X e te) (hl : PO X lo tl) (hu : PO X hi th) : PE X (.Subscript e (.Slice lo hi none p2) pos) (tSl r te tl th) := by
  intro pins s σ H Q I h
  refine Subscript_ (thn (he pins s σ H _ I h) fun v s1 ⟨x, H1, I1, r1, q1⟩ => ?_)
  refine wpAny_Slice (thn (hl pins s1 σ H1 _ I1 q1) fun vl s2 ⟨l, H2, I2, pl, q2⟩ => thn (hu pins s2 σ H2 _ I2 q2) fun vu s3 ⟨u, H3, I3, pu, q3⟩ => ?_)
  rw [evalPart_none]
  refine wpAny_pure ?_
  have I4 : Inv X pins σ H3 { s3 with heap := s3.heap.push { cls := .type "slice", data := .fields #[vl, vu, .none] } } := I3.kept (t' := s3.toks) fun b ob q => Heap.get?_push_of_some _ q
  obtain ⟨T, id, hT, ht, hg⟩ := hr pins { s3 with heap := s3.heap.push { cls := .type "slice", data := .fields #[vl, vu, .none] } } σ H3 x v vl vu l u s3.heap.objs.size Q I4 r1 (Heap.IsSliceOf.new ..) pl pu q3
  show wpAny (model X.prog X.w) X.A (subscriptTail e (.Slice lo hi none p2) v (.ref s3.heap.objs.size)) (EP X pins σ Q) X.xe { s3 with heap := s3.heap.push { cls := .type "slice", data := .fields #[vl, vu, .none] } }
  exact tail_any (ops := [.ref s3.heap.objs.size, v]) ht hT hg (by with_unfolding_all rfl)

/-- the items of xs[lo:hi] -/
def cutV (xs : List V) (lo hi : Option Int) : List V := (xs.drop (HT.sIx xs.length 0 lo)).take (HT.sIx xs.length xs.length hi - HT.sIx xs.length 0 lo)
theorem cutV_length (xs : List V) (lo hi : Option Int) : (cutV xs lo hi).length ≤ xs.length := by
  unfold cutV
  rw [List.length_take, List.length_drop]
  omega
/-- t[lo:hi], not the whole of it (the whole would be t itself) -/
def rSlT (K : PySem.W.Frag) : V → Option Int → Option Int → Hp → VK → Prop := fun x lo hi H Q => ∃ a xs, x = .ref a ∧ SqT K H a xs ∧
  ¬ (HT.sIx xs.length 0 lo = 0 ∧ HT.sIx xs.length xs.length hi = xs.length) ∧ ∀ p, H p = none → Q (.ref p) (upd H p (.tup (cutV xs lo hi)))
def rLtT (K : PySem.W.Frag) : R2 := fun x y H Q => ∃ a b ns ms, x = .ref a ∧ y = .ref b ∧ SqT K H a (ns.map V.int) ∧ SqT K H b (ms.map V.int) ∧ Q (.bl (HT.lexLt ns ms)) H
/-- t + u, t not empty: u empty gives t itself -/
def rCatT (K : PySem.W.Frag) : R2 := fun x y H Q => ∃ a b xs ys, x = .ref a ∧ y = .ref b ∧ SqT K H a xs ∧ SqT K H b ys ∧ xs ≠ [] ∧ xs.length + ys.length ≤ sizeLine ∧
  (ys = [] → Q (.ref a) H) ∧ (ys ≠ [] → ∀ p, H p = none → Q (.ref p) (upd H p (.tup (xs ++ ys))))
end
end L2

namespace L2
open PySem PySem.Spec PyProof.Rows

/-- the place that an index of any sign means -/
def ixN (n : Nat) (i : Int) : Option Nat := if 0 ≤ i then (if i < n then some i.toNat else none) else if -(n : Int) ≤ i then some (i + n).toNat else none
def atI {α : Type} (xs : List α) (i : Int) : Option α := (ixN xs.length i).bind fun j => xs[j]?
theorem ixN_seq {n : Nat} {i : Int} {j : Nat} (h : ixN n i = some j) : seqIndex? i n = some j ∧ j < n ∧ -(n : Int) ≤ i ∧ i < n := by
  unfold ixN at h
  by_cases h0 : 0 ≤ i
  · rw [if_pos h0] at h
    by_cases h1 : i < n
    · rw [if_pos h1] at h
      have e : i.toNat = j := Option.some.inj h
      exact ⟨by rw [seqIndex_of h0 h1, e], by omega, by omega, h1⟩
    · rw [if_neg h1] at h; cases h
  · rw [if_neg h0] at h
    by_cases h1 : -(n : Int) ≤ i
    · rw [if_pos h1] at h
      have e : (i + n).toNat = j := Option.some.inj h
      exact ⟨by rw [seqIndex_neg (by omega) h1, e], by omega, h1, by omega⟩
    · rw [if_neg h1] at h; cases h
theorem atI_get {α : Type} {xs : List α} {i : Int} {v : α} (h : atI xs i = some v) : ∃ j, seqIndex? i xs.length = some j ∧ xs[j]? = some v ∧ j < xs.length ∧ -(xs.length : Int) ≤ i ∧ i < xs.length := by
  unfold atI at h
  cases e : ixN xs.length i with
  | none => rw [e] at h; cases h
  | some j =>
    rw [e] at h
    obtain ⟨h1, h2, h3, h4⟩ := ixN_seq e
    exact ⟨j, h1, h, h2, h3, h4⟩
theorem atI_nat {α : Type} {xs : List α} {j : Nat} {v : α} (h : xs[j]? = some v) : atI xs (j : Int) = some v := by
  have hj : j < xs.length := (List.getElem?_eq_some_iff.mp h).1
  have e : ixN xs.length (j : Int) = some j := by
    unfold ixN
    rw [if_pos (by omega), if_pos (by omega)]; simp
  unfold atI; rw [e]; exact h
/-- what stands as an index of a plain subscript -/
def PlainIx (b : Expr) : Prop := ∀ o i, subscripted b false o i = operate [o, i] (getItem o i)
/-- a subscript by values -/
def IxR (X : Cx) (r : R2) : Prop :=
  ∀ (value slice : Expr) (pins : List (Addr × Obj)) (s : Shared) (σ : St) (H : Hp) (x y : V) (v u : Value) (Q : VK), Inv X pins σ H s → RelV x v → RelV y u → r x y H Q →
    subscripted slice false v u = operate [v, u] (getItem v u) → wpAny (model X.prog X.w) X.A (subscriptTail value slice v u) (EP X pins σ Q) X.xe s
/-- a call of a builtin's method by values: the receiver, the arguments -/
def MtR (X : Cx) (id : String) (r : V → List V → Hp → VK → Prop) : Prop :=
  ∀ (pins : List (Addr × Obj)) (s : Shared) (σ : St) (H : Hp) (x : V) (xs : List V) (v : Value) (us : List Value) (Q : VK), Inv X pins σ H s → RelV x v → Vals xs us → r x xs H Q →
    wpAny (model X.prog X.w) X.A (call (.builtin id) (v :: us)) (EP X pins σ Q) X.xe s
section
variable {X : Cx} {a b : Expr} {ta tb : TE} {pos : Pos}
theorem IxR.or {r r' : R2} (h : IxR X r) (h' : IxR X r') : IxR X (fun x y H Q => r x y H Q ∨ r' x y H Q) := by
  intro value slice pins s σ H x y v u Q I rx ry q hs
  rcases q with q | q
  · exact h value slice pins s σ H x y v u Q I rx ry q hs
  · exact h' value slice pins s σ H x y v u Q I rx ry q hs
theorem MtR.or {id : String} {r r' : V → List V → Hp → VK → Prop} (h : MtR X id r) (h' : MtR X id r') : MtR X id (fun x xs H Q => r x xs H Q ∨ r' x xs H Q) := by
  intro pins s σ H x xs v us Q I rx rs q
  rcases q with q | q
  · exact h pins s σ H x xs v us Q I rx rs q
  · exact h' pins s σ H x xs v us Q I rx rs q
/-- a[b] -/
theorem pe_ix {r : R2} (hr : IxR X r) (ha : PE X a ta) (hb : PE X b tb) (hs : PlainIx b) : PE X (.Subscript a b pos) (tOp r ta tb) := by
  intro pins s σ H Q I h
  exact Subscript_ (binT ha hb I h fun v u s2 x y H2 I2 rx ry q => hr a b pins s2 σ H2 x y v u Q I2 rx ry q (hs _ _))

def rIxL (K : PySem.W.Frag) : R2 := fun x y H Q => ∃ p xs i v, x = .ref p ∧ y = .int i ∧ SqL K H p xs ∧ atI xs i = some v ∧ Q v H
def rIxT (K : PySem.W.Frag) : R2 := fun x y H Q => ∃ p xs i v, x = .ref p ∧ y = .int i ∧ SqT K H p xs ∧ atI xs i = some v ∧ Q v H
def rIxS : R2 := fun x y H Q => ∃ z i c, x = .str z ∧ y = .int i ∧ z.length ≤ sizeLine ∧ atI z.cps.toList i = some c ∧ Q (.str ⟨#[c]⟩) H
theorem ix_list : IxR X (rIxL X.K) := by
  intro value slice pins s σ H x y v u Q I rx ry h hs
  obtain ⟨p, xs, i, z, rfl, rfl, hq, he, q⟩ := h
  cases rx
  obtain ⟨t, rfl⟩ := ry
  obtain ⟨its, r, pl, hz⟩ := I.list hq
  obtain ⟨j, h1, h2, h3, h4, h5⟩ := atI_get he
  obtain ⟨w, ew, rw'⟩ := r.get h2
  have hl := r.length
  have hn := line63
  have fin : EP X pins σ Q w s := ⟨z, H, I, rw', q⟩
  by_cases h0 : 0 ≤ i
  · have hj : i.toNat = j := by
      rw [seqIndex_of h0 h5] at h1
      exact Option.some.inj h1
    exact item_listR pl.isList h0 (by omega) (by rw [hj]; simpa using ew) fin hs
  · have hj : (i + (its.toArray.size : Int)).toNat = j := by
      rw [seqIndex_neg (by omega) h4] at h1
      rw [List.size_toArray, ← hl]
      exact Option.some.inj h1
    exact subscriptTail_builtinR (x := w) pl.isList.typeIs slot_list_getitem.lookup
      (wpAny_getItem_list_neg (Q := fun r s' => r = w ∧ EP X pins σ Q r s') pl.isList (by omega) (by rw [List.size_toArray] <;> omega) (by omega) (by rw [hj]; simpa using ew) ⟨rfl, fin⟩) hs
theorem ix_tup : IxR X (rIxT X.K) := by
  intro value slice pins s σ H x y v u Q I rx ry h hs
  obtain ⟨p, xs, i, z, rfl, rfl, hq, he, q⟩ := h
  cases rx
  obtain ⟨t, rfl⟩ := ry
  obtain ⟨its, r, pl, hz⟩ := I.tuple hq
  obtain ⟨j, h1, h2, h3, h4, h5⟩ := atI_get he
  obtain ⟨w, ew, rw'⟩ := r.get h2
  have hl := r.length
  have hn := line63
  have fin : EP X pins σ Q w s := ⟨z, H, I, rw', q⟩
  exact subscriptTail_builtinR (x := w) pl.typeIs slot_tuple_getitem.lookup
    (getItem_tuple (j := j) (Q := fun r s' => r = w ∧ EP X pins σ Q r s') pl (by omega) (by omega) (by rw [List.size_toArray, ← hl]; exact h1) (by simpa using ew) ⟨rfl, fin⟩) hs
/-- list, tuple or str -/
def rIx (K : PySem.W.Frag) : R2 := fun x y H Q => rIxL K x y H Q ∨ rIxT K x y H Q ∨ rIxS x y H Q
theorem Inv.lst {pins : List (Addr × Obj)} {σ : St} {H : Hp} {s : Shared} {p : Addr} {xs : List V} (I : Inv X pins σ H s) (h : H p = some (.lst xs)) :
    ∃ (its : List Value) (n : Nat), Vals xs its ∧ s.heap.get? p = some { cls := .type "list", data := .seq its.toArray n } ∧ xs.length ≤ sizeLine := by
  obtain ⟨z, its, n, r, e⟩ := I.hok p _ h
  exact ⟨its, n, r, e, z⟩
def rSetL : V → V → V → Hp → (Hp → Prop) → Prop := fun o i v H Q => ∃ p xs k j, o = .ref p ∧ i = .int k ∧ H p = some (.lst xs) ∧ ixN xs.length k = some j ∧ Q (upd H p (.lst (xs.set j v)))
theorem slice_bounds (lo hi : Option Int) (n : Nat) : (sliceBounds lo hi none n).1 = ((HT.sIx n 0 lo : Nat) : Int) ∧ (sliceBounds lo hi none n).2.1 = ((HT.sIx n n hi : Nat) : Int) ∧ (sliceBounds lo hi none n).2.2 = 1 := by
  refine ⟨?_, ?_, rfl⟩
  · cases lo with
    | none => simp [sliceBounds, HT.sIx]
    | some i =>
      simp only [sliceBounds, HT.sIx, Option.getD_none, show (1 : Int) > 0 by decide, if_true]
      by_cases h : i < 0
      · simp only [h, if_true] <;> omega
      · simp only [h, if_false] <;> omega
  · cases hi with
    | none => simp [sliceBounds, HT.sIx]
    | some i =>
      simp only [sliceBounds, HT.sIx, Option.getD_none, show (1 : Int) > 0 by decide, if_true]
      by_cases h : i < 0
      · simp only [h, if_true] <;> omega
      · simp only [h, if_false] <;> omega
theorem slicePick_cut (its : List Value) (lo hi : Option Int) : slicePick its.toArray lo hi none = ((its.drop (HT.sIx its.length 0 lo)).take (HT.sIx its.length its.length hi - HT.sIx its.length 0 lo)).toArray := by
  obtain ⟨h1, h2, h3⟩ := slice_bounds lo hi its.toArray.size
  unfold slicePick
  rw [h1, h2, h3]
  simp only [sliceRange_one, pick_run, List.size_toArray] <;> rfl
/-- xs[lo:hi] of a list: a new list -/
def rSlL (K : PySem.W.Frag) : V → Option Int → Option Int → Hp → VK → Prop := fun x lo hi H Q => ∃ a xs, x = .ref a ∧ SqL K H a xs ∧ ∀ p, H p = none → Q (.ref p) (upd H p (.lst (cutV xs lo hi)))
theorem sl_list : SlR X (rSlL X.K) := by
  intro pins s σ H x v vl vu lo hi sl Q I rx hs pl pu h
  obtain ⟨a, xs, rfl, hx, q⟩ := h
  cases rx
  obtain ⟨its, r, ht, hz⟩ := I.list hx
  have hlen := r.length
  refine ⟨"list", _, slot_list_getitem.lookup, ht.isList.typeIs, ?_⟩
  refine wpAny_getItem_list_slice ht.isList hs pl pu .none (by simp) ?_ (by rw [List.size_toArray] <;> omega)
  rw [slicePick_cut, ← hlen]
  refine ⟨.ref s.heap.objs.size, _, I.laid (t' := s.toks) (o := .lst (cutV xs lo hi)) (fun b ob q => Heap.get?_push_of_some _ q) (Nat.le_refl _) ?_, rfl, q _ (I.hok.fresh (Nat.le_refl _))⟩
  exact ⟨Nat.le_trans (cutV_length xs lo hi) hz, _, 0, (r.drop (HT.sIx xs.length 0 lo)).take (HT.sIx xs.length xs.length hi - HT.sIx xs.length 0 lo), Heap.get?_push_size _ rfl⟩

def flatV : V → Bool
  | .non => true
  | .bl _ => true
  | .int _ => true
  | .str _ => true
  | _ => false
/-- == of flat values -/
def eqV : V → V → Bool
  | .non, .non => true
  | .bl a, .bl b => a == b
  | .bl a, .int b => (if a then 1 else 0) == b
  | .int a, .bl b => a == (if b then 1 else 0)
  | .int a, .int b => a == b
  | .str a, .str b => a == b
  | _, _ => false
theorem eqAt_V {A : Around} {s : Shared} {y x : V} {u v : Value} (ry : RelV y u) (rx : RelV x v) (fy : flatV y = true) (fx : flatV x = true) : SeqAt.EqAt A s u v (eqV y x) := by
  cases y with
  | non =>
    cases ry
    cases x with
    | non => cases rx; exact SeqAt.EqAt.same _
    | bl b => cases rx; exact SeqAt.EqAt.none_bool b
    | int b => obtain ⟨t, rfl⟩ := rx; exact SeqAt.EqAt.none_int b t
    | str b => obtain ⟨t, rfl⟩ := rx; exact SeqAt.EqAt.none_str b t
    | _ => exact absurd (show false = true from fx) Bool.false_ne_true
  | bl a =>
    cases ry
    cases x with
    | non => cases rx; exact SeqAt.EqAt.bool_none a
    | bl b => cases rx; exact SeqAt.EqAt.bool_bool a b
    | int b => obtain ⟨t, rfl⟩ := rx; exact SeqAt.EqAt.bool_int a b t
    | str b => obtain ⟨t, rfl⟩ := rx; exact SeqAt.EqAt.bool_str a b t
    | _ => exact absurd (show false = true from fx) Bool.false_ne_true
  | int a =>
    obtain ⟨t', rfl⟩ := ry
    cases x with
    | non => cases rx; exact SeqAt.EqAt.int_none a t'
    | bl b => cases rx; exact SeqAt.EqAt.int_bool a t' b
    | int b => obtain ⟨t, rfl⟩ := rx; exact SeqAt.EqAt.int_int a t' b t
    | str b => obtain ⟨t, rfl⟩ := rx; exact SeqAt.EqAt.int_str a t' b t
    | _ => exact absurd (show false = true from fx) Bool.false_ne_true
  | str a =>
    obtain ⟨t', rfl⟩ := ry
    cases x with
    | non => cases rx; exact SeqAt.EqAt.str_none a t'
    | bl b => cases rx; exact SeqAt.EqAt.str_bool a t' b
    | int b => obtain ⟨t, rfl⟩ := rx; exact SeqAt.EqAt.str_int a t' b t
    | str b => obtain ⟨t, rfl⟩ := rx; exact SeqAt.EqAt.str_str a t' b t
    | _ => exact absurd (show false = true from fx) Bool.false_ne_true
  | _ => exact absurd (show false = true from fy) Bool.false_ne_true
/-- the items' answers, read off the values (a value's own answer does not lean on its token) -/
def eqU (x : V) (u : Value) : Bool := match u with
  | .none => eqV .non x
  | .bool b => eqV (.bl b) x
  | .int i _ => eqV (.int i) x
  | .str z _ => eqV (.str z) x
  | _ => false
theorem eqU_of {x y : V} {u : Value} (r : RelV y u) (f : flatV y = true) : eqU x u = eqV y x := by
  cases y with
  | non => cases r; rfl
  | bl b => cases r; rfl
  | int i => obtain ⟨t, rfl⟩ := r; rfl
  | str z => obtain ⟨t, rfl⟩ := r; rfl
  | _ => exact absurd (show false = true from f) Bool.false_ne_true
theorem any_eqU {x : V} : ∀ {xs : List V} {us : List Value}, Vals xs us → xs.all flatV = true → us.any (eqU x) = xs.any fun y => eqV y x
  | _, _, .nil, _ => rfl
  | y :: xs, u :: us, .cons r t, f => by
    rw [List.all_cons, Bool.and_eq_true] at f
    rw [List.any_cons, List.any_cons, eqU_of r f.1, any_eqU t f.2]
theorem mem_eqAt {A : Around} {s : Shared} {x : V} {v : Value} (rx : RelV x v) (fx : flatV x = true) : ∀ {xs : List V} {us : List Value}, Vals xs us → xs.all flatV = true → ∀ u ∈ us, SeqAt.EqAt A s u v (eqU x u)
  | _, _, .nil, _ => fun u hu => by cases hu
  | y :: xs, u :: us, .cons r t, f => fun u' hu => by
    rw [List.all_cons, Bool.and_eq_true] at f
    rcases List.mem_cons.mp hu with rfl | hu
    · rw [eqU_of r f.1]; exact eqAt_V r rx f.1 fx
    · exact mem_eqAt rx fx t f.2 u' hu
def inV (x : V) (xs : List V) : Bool := xs.any fun y => eqV y x
/-- x in a list or tuple of flat items -/
def rIn (K : PySem.W.Frag) (neg : Bool) : R2 := fun x y H Q => ∃ p xs, y = .ref p ∧ (SqL K H p xs ∨ SqT K H p xs) ∧ flatV x = true ∧ xs.all flatV = true ∧ Q (.bl (if neg then !inV x xs else inV x xs)) H
theorem op_in_seq : OpR X (compareOp .In) (rIn X.K false) := by
  intro pins s σ H x y v u Q I rx ry h
  obtain ⟨p, xs, rfl, hq, fx, fs, q⟩ := h
  cases ry
  rcases hq with hq | hq
  · obtain ⟨its, r, pl, hz⟩ := I.list hq
    refine SeqAt.in_listAt (eqU x) pl.isList (fun w hw => mem_eqAt rx fx r fs w (by simpa using hw)) ⟨.bl _, H, I, rfl, ?_⟩
    rw [show its.toArray.any (eqU x) = its.any (eqU x) by simp, any_eqU r fs]
    exact q
  · obtain ⟨its, r, pl, hz⟩ := I.tuple hq
    refine SeqAt.in_tupleAt (eqU x) pl (fun w hw => mem_eqAt rx fx r fs w (by simpa using hw)) ⟨.bl _, H, I, rfl, ?_⟩
    rw [show its.toArray.any (eqU x) = its.any (eqU x) by simp, any_eqU r fs]
    exact q
theorem call_len_seq : CallR X (.builtin "len") (fun xs H Q => ∃ p ys, xs = [.ref p] ∧ (SqL X.K H p ys ∨ SqT X.K H p ys) ∧ Q (.int ys.length) H) := by
  intro pins s σ H xs us Q I r h
  obtain ⟨p, ys, rfl, hq, q⟩ := h
  obtain ⟨u, rfl, rx⟩ := vals1 r
  cases rx
  have hn := line63
  rcases hq with hq | hq
  · obtain ⟨its, r', pl, hz⟩ := I.list hq
    have hlen := r'.length
    exact Calls.call_len_list pl.isList (by simp only [List.size_toArray] <;> omega) ⟨.int ys.length, H, I.tok _, ⟨s.toks + 1, by rw [List.size_toArray, hlen]⟩, q⟩
  · obtain ⟨its, r', pl, hz⟩ := I.tuple hq
    have hlen := r'.length
    exact len_tuple pl (by simp only [List.size_toArray] <;> omega) ⟨.int ys.length, H, I.tok _, ⟨s.toks + 1, by rw [List.size_toArray, hlen]⟩, q⟩
theorem CallR.or {f : Value} {r r' : List V → Hp → VK → Prop} (h : CallR X f r) (h' : CallR X f r') : CallR X f (fun xs H Q => r xs H Q ∨ r' xs H Q) := by
  intro pins s σ H xs us Q I rs q
  rcases q with q | q
  · exact h pins s σ H xs us Q I rs q
  · exact h' pins s σ H xs us Q I rs q
theorem call_list_of : CallR X (.type "list") (fun xs H Q => ∃ p ys, xs = [.ref p] ∧ (SqL X.K H p ys ∨ SqT X.K H p ys) ∧ ∀ l, H l = none → Q (.ref l) (upd H l (.lst ys))) := by
  intro pins s σ H xs us Q I r h
  obtain ⟨p, ys, rfl, hq, q⟩ := h
  obtain ⟨u, rfl, rx⟩ := vals1 r
  cases rx
  have fin : ∀ (its : List Value), Vals ys its → ys.length ≤ sizeLine → ∀ (h' : Heap) (c' : Nat), (∀ b o', s.heap.get? b = some o' → h'.get? b = some o') →
      h'.get? s.heap.objs.size = some { cls := .type "list", dict := none, data := .seq its.toArray c', slots := #[] } → EP X pins σ Q (.ref s.heap.objs.size) { s with heap := h' } := fun its r' hz h' c' kp e =>
    ⟨.ref s.heap.objs.size, _, I.laid (t' := s.toks) kp (Nat.le_refl _) (show ObjOk X.prog X.w _ h' _ (.lst ys) from ⟨hz, its, c', r', e⟩), rfl, q _ (I.hok.fresh (Nat.le_refl _))⟩
  rcases hq with hq | hq
  · obtain ⟨its, r', pl, hz⟩ := I.list hq
    have hlen := r'.length
    obtain ⟨o, ho, hc, n, hd⟩ := pl.isList
    exact call_list_seq p (.inl rfl) ho hc hd (fun h' c' kp e => fin its r' hz h' c' kp e) (by simp only [List.size_toArray] <;> omega)
  · obtain ⟨its, r', pl, hz⟩ := I.tuple hq
    have hlen := r'.length
    obtain ⟨o, ho, hc, n, hd⟩ := pl
    exact call_list_seq p (.inr rfl) ho hc hd (fun h' c' kp e => fin its r' hz h' c' kp e) (by simp only [List.size_toArray] <;> omega)
theorem call_tuple_of : CallR X (.type "tuple") (fun xs H Q => ∃ p ys, xs = [.ref p] ∧ ((SqL X.K H p ys ∧ ∀ l, H l = none → Q (.ref l) (upd H l (.tup ys))) ∨ (SqT X.K H p ys ∧ Q (.ref p) H))) := by
  intro pins s σ H xs us Q I r h
  obtain ⟨p, ys, rfl, h⟩ := h
  obtain ⟨u, rfl, rx⟩ := vals1 r
  cases rx
  rcases h with ⟨hq, q⟩ | ⟨hq, q⟩
  · obtain ⟨its, r', pl, hz⟩ := I.list hq
    have hlen := r'.length
    refine call_tuple_list pl.isList (fun h' kp => ?_) (by simp only [List.size_toArray] <;> omega)
    have I1 : Inv X pins σ H { s with heap := h' } := I.kept (t' := s.toks) kp
    have I2 : Inv X pins σ (upd H h'.objs.size (.tup ys)) { s with heap := h'.push { cls := .type "tuple", data := .seq its.toArray } } :=
      I1.laid (t' := s.toks) (fun b o e => Heap.get?_push_of_some _ e) (Nat.le_refl _) (show ObjOk X.prog X.w _ _ _ (.tup ys) from ⟨hz, its, r', IsTup.new _ _⟩)
    exact ⟨.ref h'.objs.size, _, I2, rfl, q _ (I1.hok.fresh (Nat.le_refl _))⟩
  · obtain ⟨its, r', pl, hz⟩ := I.tuple hq
    exact call_tuple_same pl ⟨.ref p, H, I, rfl, q⟩

/-- the value is of that builtin type -/
def tyV (K : PySem.W.Frag) (T : String) (x : V) (H : Hp) : Prop := match x with
  | .str _ => T = "str"
  | .int _ => T = "int"
  | .ref p => (T = "list" ∧ ∃ xs, SqL K H p xs) ∨ (T = "tuple" ∧ ∃ o, K.lookup p = some o ∧ o.cls = .type "tuple" ∧ o.dict = none) ∨
      (T = "dict" ∧ ((∃ kvs, H p = some (.dK kvs)) ∨ ∃ kvs, H p = some (.dT kvs))) ∨ (T = "set" ∧ ∃ S n, H p = some (.set S n))
  | _ => False
theorem tyV_is {pins : List (Addr × Obj)} {σ : St} {H : Hp} {s : Shared} {T : String} {x : V} {v : Value} (I : Inv X pins σ H s) (r : RelV x v) (ty : tyV X.K T x H) :
    s.TypeIs v T ∧ ∀ a, v = .ref a → ∃ ob, s.heap.get? a = some ob ∧ ob.dict = none := by
  cases x with
  | str z =>
    obtain ⟨t, rfl⟩ := r
    cases (show T = "str" from ty)
    exact ⟨typeIs_str s z t, fun _ e => nomatch e⟩
  | int i =>
    obtain ⟨t, rfl⟩ := r
    cases (show T = "int" from ty)
    exact ⟨typeIs_int s i t, fun _ e => nomatch e⟩
  | ref p =>
    cases r
    rcases ty with ⟨rfl, xs, hq⟩ | ⟨rfl, o, hk, hc, hd⟩ | ⟨rfl, hk⟩ | ⟨rfl, S, n, hk⟩
    · obtain ⟨its, _, pl, _⟩ := I.list hq
      refine ⟨pl.isList.typeIs, fun a e => ?_⟩
      cases e
      obtain ⟨o, n, e, c, hd, _⟩ := pl
      exact ⟨o, e, hd⟩
    · refine ⟨⟨o, I.kIn p o hk, hc⟩, fun a e => ?_⟩
      cases e
      exact ⟨o, I.kIn _ o hk, hd⟩
    · have z : ∃ o, s.heap.get? p = some o ∧ o.ExactDict := by
        rcases hk with ⟨kvs, hk⟩ | ⟨kvs, hk⟩
        · obtain ⟨_, _, _, _, o, _, _, e, ex, _⟩ := I.hok p _ hk
          exact ⟨o, e, ex⟩
        · obtain ⟨_, _, _, _, o, _, _, e, ex, _⟩ := I.hok p _ hk
          exact ⟨o, e, ex⟩
      obtain ⟨o, e, ex⟩ := z
      refine ⟨⟨o, e, ex.1⟩, fun a e2 => ?_⟩
      cases e2
      exact ⟨o, e, ex.2.1⟩
    · obtain ⟨o, _, _, _, e, ex, _⟩ := I.hok p _ hk
      refine ⟨⟨o, e, ex.1⟩, fun a e2 => ?_⟩
      cases e2
      exact ⟨o, e, ex.2.1⟩
  | _ => exact False.elim ty
def tBM0 (K : PySem.W.Frag) (T : String) (r : V → List V → Hp → VK → Prop) (to : TE) : TE := fun σ H Q => to σ H fun x H1 => tyV K T x H1 ∧ r x [] H1 Q
def tBM (K : PySem.W.Frag) (T : String) (r : V → List V → Hp → VK → Prop) (to : TE) (t : TA) : TE := fun σ H Q => to σ H fun x H1 => tyV K T x H1 ∧ t σ H1 fun xs H2 => r x xs H2 Q
variable {o e : Expr} {es : List Expr} {to : TE} {t : TA} {name : Str} {apos cpos : Pos} {T id : String} {r : V → List V → Hp → VK → Prop}
theorem pe_bm0 (pa : PlainAttrs T) (slot : Slot T name id) (hty : typeOf (.builtin id) = pure (.type "method_descriptor")) (hm : MtR X id r) (ho : PE X o to)
    (hbase : attributeBase o name X.env (eval o X.env) = eval o X.env := by rfl) (hline : (apos.endLine == cpos.line) = true := by rfl) : PE X (.Call (.Attribute o name apos) [] [] cpos) (tBM0 X.K T r to) := by
  intro pins s σ H Q I h
  refine wpAny_Call_method0_late hbase hline (thn (ho pins s σ H _ I h) fun v s1 ⟨x, H1, I1, r1, ty, q1⟩ => ?_)
  obtain ⟨h1, h2⟩ := tyV_is I1 r1 ty
  exact ⟨T, id, pa, slot, hty, h1, h2, Calls.callWith_builtin rfl (PySem.evalArgs_none (hm pins s1 σ H1 x [] v [] Q I1 r1 .nil q1))⟩
theorem pe_bm (pa : PlainAttrs T) (slot : Slot T name id) (hty : typeOf (.builtin id) = pure (.type "method_descriptor")) (hm : MtR X id r) (ho : PE X o to) (ha : PA X (e :: es) t)
    (hbase : attributeBase o name X.env (eval o X.env) = eval o X.env := by rfl)
    (hfew : ((backTo cpos (starEach (e :: es) X.env)).all (fun x => !x.1) && (backToKw cpos (keywordEach [] X.env)).all (fun x => x.1.isSome)
      && decide ((e :: es).length + ([] : List Keyword).length + (if ([] : List Keyword).isEmpty then 0 else 1) < 30)) = true := by rfl)
    (hline : (apos.endLine == cpos.line) = true := by rfl) (hs : starEach (e :: es) X.env = (false, eval e X.env) :: starEach es X.env := by rfl) (hplain : (backTo cpos (starEach es X.env)).any (·.1) = false := by rfl) :
    PE X (.Call (.Attribute o name apos) (e :: es) [] cpos) (tBM X.K T r to t) := by
  intro pins s σ H Q I h
  refine wpAny_Call_method_late hbase hfew hline rfl (thn (ho pins s σ H _ I h) fun v s1 ⟨x, H1, I1, r1, ty, q1⟩ => ?_)
  obtain ⟨h1, h2⟩ := tyV_is I1 r1 ty
  refine ⟨T, id, pa, slot, hty, h1, h2, ?_⟩
  have hA := ha cpos pins s1 σ H1 _ I1 q1
  rw [hs] at hA ⊢
  refine Calls.callWith_builtin (by show (false || (backTo cpos (starEach es X.env)).any (·.1)) = false; rw [hplain] <;> rfl) (Calls.evalArgs_plain ?_)
  exact thn hA fun us s2 ⟨vs, H2, I2, r2, q2⟩ => hm pins s2 σ H2 x vs v us Q I2 r1 r2 q2
end
end L2

namespace L2
open PySem PySem.Spec PyProof.Rows

def MtM (X : Cx) (id : String) (r : V → List V → Hp → VK → Prop) : Prop :=
  ∀ (pins : List (Addr × Obj)) (s : Shared) (σ : St) (H : Hp) (x : V) (xs : List V) (v : Value) (us : List Value) (Q : VK), Inv X pins σ H s → RelV x v → Vals xs us → r x xs H Q →
    wpAny (model X.prog X.w) X.A (call (.builtin id) (v :: us)) (EP X pins σ Q) X.xe s

theorem Vals.one : ∀ {x : V} {us : List Value}, Vals [x] us → ∃ u, us = [u] ∧ RelV x u
  | _, _, .cons r .nil => ⟨_, rfl, r⟩
theorem Vals.two : ∀ {x y : V} {us : List Value}, Vals [x, y] us → ∃ u v, us = [u, v] ∧ RelV x u ∧ RelV y v
  | _, _, _, .cons r (.cons q .nil) => ⟨_, _, rfl, r, q⟩
theorem Vals.zero : ∀ {us : List Value}, Vals [] us → us = []
  | _, .nil => rfl
theorem Vals.dropLast {xs : List V} {us : List Value} (h : Vals xs us) : Vals xs.dropLast us.dropLast := by
  induction h with
  | nil => exact .nil
  | cons r t ih =>
    cases t with
    | nil => exact .nil
    | cons q t' => exact .cons r ih
theorem Vals.eraseIdx : ∀ {xs : List V} {us : List Value} (i : Nat), Vals xs us → Vals (xs.eraseIdx i) (us.eraseIdx i)
  | _, _, _, .nil => .nil
  | _, _, 0, .cons _ t => t
  | _, _, i + 1, .cons r t => .cons r (Vals.eraseIdx i t)
theorem Vals.reverse {xs : List V} {us : List Value} (h : Vals xs us) : Vals xs.reverse us.reverse := by
  induction h with
  | nil => exact .nil
  | cons r t ih => rw [List.reverse_cons, List.reverse_cons]; exact Vals.append ih (.cons r .nil)
section
variable {X : Cx} {pins : List (Addr × Obj)} {σ : St} {H : Hp} {s : Shared} {l b : Addr} {xs ys zs : List V}

theorem Inv.lset {its its' : List Value} {n : Nat} {f : Array Value → Array Value} {t' : Nat} (I : Inv X pins σ H s) (hH : H l = some (.lst xs))
    (e : s.heap.get? l = some { cls := .type "list", data := .seq its.toArray n }) (hf : f its.toArray = its'.toArray) (hv : Vals ys its') (hz : ys.length ≤ sizeLine) :
    Inv X pins σ (upd H l (.lst ys)) { s with heap := s.heap.update l (Obj.mapSeq f), toks := t' } := by
  have q := PySem.IsL.update e f
  rw [hf] at q
  refine I.write (x := l) (e := l) (by rw [hH]; exact trivial) (.inl rfl) (fun b' u hb hu => (Heap.get?_update_other s.heap (Obj.mapSeq f) (Ne.symm hb)).trans hu) ⟨_, q⟩ ?_
  exact ⟨hz, its', _, hv, q⟩
theorem Inv.fresh (I : Inv X pins σ H s) : H s.heap.objs.size = none := I.hok.fresh (Nat.le_refl _)
theorem Inv.lstM (I : Inv X pins σ H s) (hH : H l = some (.lst xs)) : xs.length ≤ sizeLine ∧ ∃ (its : List Value) (n : Nat), Vals xs its ∧ xs.length = its.length ∧ s.heap.get? l = some { cls := .type "list", data := .seq its.toArray n } := by
  obtain ⟨z, its, n, r, e⟩ := I.hok l _ hH
  exact ⟨z, its, n, r, r.length, e⟩

end

section
variable {X : Cx}

def rAppend : V → List V → Hp → VK → Prop := fun x vs H Q => ∃ l xs y, x = .ref l ∧ vs = [y] ∧ H l = some (.lst xs) ∧ xs.length < sizeLine ∧ Q .non (upd H l (.lst (xs ++ [y])))
theorem mt_append : MtM X "list.append" rAppend := by
  intro pins s σ H x vs v us Q I rx rv h
  obtain ⟨l, xs, y, rfl, rfl, hH, hz, q⟩ := h
  cases rx
  obtain ⟨u, rfl, ru⟩ := rv.one
  obtain ⟨z, its, n, r, hl, e⟩ := I.lstM hH
  refine call_meets F.slot_list_append ⟨_, e, rfl⟩ F.entry_list_append (F.args_list_append_2 _ _) (PySem.list_append l its.toArray n u (by rw [List.size_toArray]; omega)) ⟨e, ?_⟩
  refine ⟨.non, _, I.lset (its' := its ++ [u]) hH e (by simp) (r.append (.cons ru .nil)) ?_, rfl, q⟩
  rw [List.length_append, List.length_singleton]
  omega

def rExtend : V → List V → Hp → VK → Prop := fun x vs H Q => ∃ l b xs zs, x = .ref l ∧ vs = [.ref b] ∧ H l = some (.lst xs) ∧ H b = some (.lst zs) ∧ xs.length + zs.length ≤ sizeLine ∧ Q .non (upd H l (.lst (xs ++ zs)))
def rPop : V → List V → Hp → VK → Prop := fun x vs H Q => ∃ l xs y, x = .ref l ∧ vs = [] ∧ H l = some (.lst xs) ∧ xs[xs.length - 1]? = some y ∧ Q y (upd H l (.lst xs.dropLast))
def rPopAt : V → List V → Hp → VK → Prop := fun x vs H Q => ∃ l xs i k y, x = .ref l ∧ vs = [.int i] ∧ H l = some (.lst xs) ∧ -(2 ^ 63) ≤ i ∧ i < 2 ^ 63 ∧ seqIndex? i xs.length = some k ∧ xs[k]? = some y ∧ Q y (upd H l (.lst (xs.eraseIdx k)))
def rReverse : V → List V → Hp → VK → Prop := fun x vs H Q => ∃ l xs, x = .ref l ∧ vs = [] ∧ H l = some (.lst xs) ∧ Q .non (upd H l (.lst xs.reverse))
def rClear : V → List V → Hp → VK → Prop := fun x vs H Q => ∃ l xs, x = .ref l ∧ vs = [] ∧ H l = some (.lst xs) ∧ Q .non (upd H l (.lst []))
def rCat : R2 := fun x y H Q => ∃ l b xs zs, x = .ref l ∧ y = .ref b ∧ H l = some (.lst xs) ∧ H b = some (.lst zs) ∧ xs.length + zs.length ≤ sizeLine ∧ ∀ p, H p = none → Q (.ref p) (upd H p (.lst (xs ++ zs)))
/-- a list times an int (a negative one is nothing) -/
def rRep : R2 := fun x y H Q => ∃ l k xs, x = .ref l ∧ y = .int k ∧ H l = some (.lst xs) ∧ -(2 ^ 63) ≤ k ∧ k < 2 ^ 63 ∧ xs.length * k.toNat ≤ sizeLine ∧
  ∀ p, H p = none → Q (.ref p) (upd H p (.lst (List.replicate k.toNat xs).flatten))
end

section
variable {prog : Program} {w : World} {A : Around} {E : Value → Shared → Prop} {s : Shared}
end

section
variable {X : Cx}
end
end L2

namespace L2
open PySem PySem.Spec PyProof.Rows

section
variable {κ : Type} [DecidableEq κ]
def valV (kvs : List (κ × V)) (k : κ) : Option V := (kvs.find? fun kv => decide (kv.1 = k)).map (·.2)
/-- in its place, or at the end -/
def putK (kvs : List (κ × V)) (k : κ) (v : V) : List (κ × V) :=
  if (kvs.any fun kv => decide (kv.1 = k)) = true then kvs.map (fun kv => if kv.1 = k then (kv.1, v) else kv) else kvs ++ [(k, v)]
def dropK (kvs : List (κ × V)) (k : κ) : List (κ × V) := kvs.filter fun kv => decide (kv.1 ≠ k)

theorem valV_pos {p : κ × V} {r : List (κ × V)} {k : κ} (e : p.1 = k) : valV (p :: r) k = some p.2 := by simp [valV, List.find?_cons, e]
theorem valV_neg {p : κ × V} {r : List (κ × V)} {k : κ} (e : ¬ p.1 = k) : valV (p :: r) k = valV r k := by simp [valV, List.find?_cons, e]
theorem valV_any (k : κ) : ∀ kvs : List (κ × V), (kvs.any fun kv => decide (kv.1 = k)) = (valV kvs k).isSome
  | [] => rfl
  | p :: r => by
    rw [List.any_cons]
    by_cases e : p.1 = k
    · simp only [valV_pos e, decide_eq_true e, Bool.true_or, Option.isSome_some]
    · rw [valV_neg e, decide_eq_false e, Bool.false_or]; exact valV_any k r
theorem valV_map (k j : κ) (y : V) : ∀ kvs : List (κ × V), valV (kvs.map fun kv => if kv.1 = k then (kv.1, y) else kv) j = (valV kvs j).map fun x => if j = k then y else x
  | [] => rfl
  | p :: r => by
    have ih := valV_map k j y r
    rw [List.map_cons]
    by_cases h : p.1 = k
    · rw [if_pos h]
      by_cases e : p.1 = j
      · rw [valV_pos (p := (p.1, y)) e, valV_pos e, Option.map_some, if_pos (e.symm.trans h)]
      · rw [valV_neg (p := (p.1, y)) e, valV_neg e, ih]
    · rw [if_neg h]
      by_cases e : p.1 = j
      · rw [valV_pos (p := p) e, valV_pos e, Option.map_some, if_neg (fun z => h (e.trans z))]
      · rw [valV_neg (p := p) e, valV_neg e, ih]
theorem valV_snoc (k j : κ) (y : V) : ∀ kvs : List (κ × V), valV kvs k = none → valV (kvs ++ [(k, y)]) j = if j = k then some y else valV kvs j
  | [], _ => by
    by_cases e : k = j
    · rw [if_pos e.symm]; exact valV_pos (p := (k, y)) e
    · rw [if_neg (fun z => e z.symm)]; exact valV_neg (p := (k, y)) e
  | p :: r, hn => by
    rw [List.cons_append]
    have hk : ¬ p.1 = k := fun z => by rw [valV_pos z] at hn; cases hn
    rw [valV_neg hk] at hn
    have ih := valV_snoc k j y r hn
    by_cases e : p.1 = j
    · rw [valV_pos e, valV_pos e, if_neg (fun z => hk (e.trans z))]
    · rw [valV_neg e, valV_neg e, ih]
theorem valV_put (kvs : List (κ × V)) (k j : κ) (y : V) : valV (putK kvs k y) j = if j = k then some y else valV kvs j := by
  unfold putK
  by_cases a : (kvs.any fun kv => decide (kv.1 = k)) = true
  · rw [if_pos a, valV_map]
    rw [valV_any] at a
    by_cases e : j = k
    · obtain ⟨x, hx⟩ := Option.isSome_iff_exists.mp a
      rw [if_pos e, e, hx, Option.map_some, if_pos rfl]
    · rw [if_neg e]
      cases valV kvs j with
      | none => rfl
      | some x => rw [Option.map_some, if_neg e]
  · rw [if_neg a]
    refine valV_snoc k j y kvs ?_
    rw [valV_any] at a
    cases q : valV kvs k with
    | none => rfl
    | some x => rw [q] at a; exact (a rfl).elim
theorem length_putK (kvs : List (κ × V)) (k : κ) (v : V) : (putK kvs k v).length ≤ kvs.length + 1 := by
  unfold putK
  split
  · rw [List.length_map]; omega
  · rw [List.length_append, List.length_cons, List.length_nil]; omega
theorem putK_new {kvs : List (κ × V)} {k : κ} (v : V) (h : valV kvs k = none) : putK kvs k v = kvs ++ [(k, v)] := by
  unfold putK
  rw [valV_any, h]
  exact if_neg (by decide)

theorem RelO.isSome_eq {o : Option V} {u : Option Value} (r : RelO o u) : o.isSome = u.isSome := by
  cases o with
  | none => cases u with
    | none => rfl
    | some _ => exact (show False from r).elim
  | some _ => cases u with
    | none => exact (show False from r).elim
    | some _ => rfl
theorem RelO.getD {o : Option V} {u : Option Value} {d : V} {d' : Value} (r : RelO o u) (rd : RelV d d') : RelV (o.getD d) (u.getD d') := by
  cases o with
  | none => cases u with
    | none => exact rd
    | some _ => exact (show False from r).elim
  | some _ => cases u with
    | none => exact (show False from r).elim
    | some _ => exact r

/-- raw tables of the same keys -/
theorem KV.val {kvs : List (κ × V)} {vs : List (κ × Value)} (r : KV kvs vs) (k : κ) : RelO (valV kvs k) (valueAt vs k) := by
  unfold KV at r
  induction r with
  | nil => exact True.intro
  | @cons p q ps qs h t ih =>
    obtain ⟨h1, h2⟩ := h
    by_cases e : p.1 = k
    · have e' : q.1 = k := h1.symm.trans e
      have b : valueAt (q :: qs) k = some q.2 := by simp [valueAt, List.find?_cons, e']
      rw [valV_pos e, b]; exact h2
    · have e' : ¬ q.1 = k := fun z => e (h1.trans z)
      have b : valueAt (q :: qs) k = valueAt qs k := by simp [valueAt, List.find?_cons, e']
      rw [valV_neg e, b]; exact ih
theorem KV.any {kvs : List (κ × V)} {vs : List (κ × Value)} (r : KV kvs vs) (k : κ) : (kvs.any fun kv => decide (kv.1 = k)) = vs.any fun kv => decide (kv.1 = k) := by
  unfold KV at r
  induction r with
  | nil => rfl
  | cons h t ih => rw [List.any_cons, List.any_cons, ih, h.1]
theorem KV.repl {kvs : List (κ × V)} {vs : List (κ × Value)} (r : KV kvs vs) (k : κ) {y : V} {u : Value} (ry : RelV y u) :
    KV (kvs.map fun kv => if kv.1 = k then (kv.1, y) else kv) (vs.map fun kv => if kv.1 = k then (kv.1, u) else kv) := by
  unfold KV at r ⊢
  induction r with
  | nil => exact .nil
  | @cons p q ps qs h t ih =>
    rw [List.map_cons, List.map_cons]
    refine .cons ?_ ih
    obtain ⟨h1, h2⟩ := h
    by_cases e : p.1 = k
    · rw [if_pos e, if_pos (h1.symm.trans e)]; exact ⟨h1, ry⟩
    · rw [if_neg e, if_neg (fun z => e (h1.trans z))]; exact ⟨h1, h2⟩
theorem KV.put {kvs : List (κ × V)} {vs : List (κ × Value)} (r : KV kvs vs) (k : κ) {y : V} {u : Value} (ry : RelV y u) : KV (putK kvs k y) (stored vs k u) := by
  unfold putK stored
  rw [r.any k]
  by_cases e : (vs.any fun kv => decide (kv.1 = k)) = true
  · rw [if_pos e, if_pos e]; exact r.repl k ry
  · rw [if_neg e, if_neg e]; exact Paired.snoc r ⟨rfl, ry⟩
theorem KV.drop {kvs : List (κ × V)} {vs : List (κ × Value)} (r : KV kvs vs) (k : κ) : KV (dropK kvs k) (without vs k) := by
  unfold KV at r ⊢
  unfold dropK without
  induction r with
  | nil => exact .nil
  | @cons p q ps qs h t ih =>
    obtain ⟨h1, h2⟩ := h
    rw [List.filter_cons, List.filter_cons]
    by_cases e : p.1 = k
    · have a : ¬ decide (p.1 ≠ k) = true := by simp [e]
      have b : ¬ decide (q.1 ≠ k) = true := by simp [h1.symm.trans e]
      rw [if_neg a, if_neg b]; exact ih
    · have e' : ¬ q.1 = k := fun z => e (h1.trans z)
      have a : decide (p.1 ≠ k) = true := by simp [e]
      have b : decide (q.1 ≠ k) = true := by simp [e']
      rw [if_pos a, if_pos b]; exact .cons ⟨h1, h2⟩ ih
theorem KV.keys {kvs : List (κ × V)} {vs : List (κ × Value)} (r : KV kvs vs) : kvs.map (·.1) = vs.map (·.1) := by
  unfold KV at r
  induction r with
  | nil => rfl
  | cons h t ih => rw [List.map_cons, List.map_cons, ih, h.1]
theorem KV.length {kvs : List (κ × V)} {vs : List (κ × Value)} (r : KV kvs vs) : kvs.length = vs.length := Paired.length r
end


theorem kV_is {P : Program} {w : World} {k : Key} {u : Value} (r : RelV (kV k) u) : (mixKind P w).is k u = true := by
  cases k with
  | inl i => obtain ⟨t, e⟩ := (show ∃ t, u = Value.int i t from r); subst e; exact mixKind_int P w i t
  | inr x => obtain ⟨t, e⟩ := (show ∃ t, u = Value.str x t from r); subst e; exact mixKind_str P w x t
theorem items_are {P : Program} {w : World} : ∀ {ks : List Key} {us : List Value}, Vals (ks.map kV) us → ItemsAre (mixKind P w) ks us
  | [], _, r => by rw [List.map_nil] at r; cases r; exact .nil
  | k :: ks, _, r => by
    rw [List.map_cons] at r
    cases r with
    | cons h t => exact .cons (kV_is h) (items_are t)

/-- raw entries of a dict with tuple keys -/
abbrev KT (H : Hp) : List (List Key × V) → List (List Key × Addr × Value) → Prop := Paired fun p q => p.1 = q.1 ∧ H q.2.1 = some (.tup (p.1.map kV)) ∧ RelV p.2 q.2.2
theorem KT.val {H : Hp} {kvs : List (List Key × V)} {xs : List (List Key × Addr × Value)} (r : KT H kvs xs) (k : List Key) : RelO (valV kvs k) ((atKey xs k).map (·.2)) := by
  induction r with
  | nil => exact True.intro
  | @cons p q ps qs h t ih =>
    obtain ⟨h1, _, h2⟩ := h
    by_cases e : p.1 = k
    · have e' : q.1 = k := h1.symm.trans e
      have b : atKey (q :: qs) k = some q.2 := by simp [atKey, List.find?_cons, e']
      rw [valV_pos e, b]; exact h2
    · have e' : ¬ q.1 = k := fun z => e (h1.trans z)
      have b : atKey (q :: qs) k = atKey qs k := by simp [atKey, List.find?_cons, e']
      rw [valV_neg e, b]; exact ih
theorem KT.repl {H : Hp} {kvs : List (List Key × V)} {xs : List (List Key × Addr × Value)} (r : KT H kvs xs) (k : List Key) {y : V} {u : Value} (ry : RelV y u) :
    KT H (kvs.map fun kv => if kv.1 = k then (kv.1, y) else kv) (xs.map (putAt k u)) := by
  induction r with
  | nil => exact .nil
  | @cons p q ps qs h t ih =>
    rw [List.map_cons, List.map_cons]
    refine .cons ?_ ih
    obtain ⟨h1, h2, h3⟩ := h
    unfold putAt
    by_cases e : p.1 = k
    · rw [if_pos e, if_pos (h1.symm.trans e)]; exact ⟨h1, h2, ry⟩
    · rw [if_neg e, if_neg (fun z => e (h1.trans z))]; exact ⟨h1, h2, h3⟩
theorem KT.put {H : Hp} {kvs : List (List Key × V)} {xs : List (List Key × Addr × Value)} (r : KT H kvs xs) (k : List Key) {b : Addr} {y : V} {u : Value} (hb : H b = some (.tup (k.map kV))) (ry : RelV y u) :
    KT H (putK kvs k y) (storedH xs k b u) := by
  have e : (kvs.any fun kv => decide (kv.1 = k)) = (atKey xs k).isSome := by
    rw [valV_any, (r.val k).isSome_eq, Option.isSome_map]
  unfold putK storedH
  rw [e]
  by_cases q : (atKey xs k).isSome = true
  · rw [if_pos q, if_pos q]; exact r.repl k ry
  · rw [if_neg q, if_neg q]; exact Paired.snoc r ⟨rfl, hb, ry⟩
theorem KT.keeps {H H' : Hp} {kvs : List (List Key × V)} {xs : List (List Key × Addr × Value)} (r : KT H kvs xs) (ht : ∀ b ys, H b = some (.tup ys) → H' b = some (.tup ys)) : KT H' kvs xs :=
  Paired.mapP r fun _ _ z => ⟨z.1, ht _ _ z.2.1, z.2.2⟩

section
variable {P : Program} {w : World} {H : Hp} {h : Heap} {a : Addr}
theorem rd_of {u : HO} (ok : HOk P w H h) (e : Rd H a u) : ObjOk P w H h a u := e.ok ok
theorem dk_rd {kvs : List (Key × V)} (ok : HOk P w H h) (e : Rd H a (.dK kvs)) : kvs.length ≤ sizeLine ∧ (a == sysModules) = false ∧ ∃ vs, KV kvs vs ∧ h.DictOf (mixKind P w) a vs :=
  show ObjOk P w H h a (.dK kvs) from rd_of ok e
theorem dk_of {kvs : List (Key × V)} (ok : HOk P w H h) (e : H a = some (.dK kvs)) : kvs.length ≤ sizeLine ∧ (a == sysModules) = false ∧ ∃ vs, KV kvs vs ∧ h.DictOf (mixKind P w) a vs := dk_rd ok (.inl e)
/-- a tracked tuple of ints and texts is a key -/
theorem key_of {ks : List Key} (ok : HOk P w H h) (e : H a = some (.tup (ks.map kV))) : (tupleKind (mixKind P w)).is h ks a := by
  obtain ⟨_, its, r, o, h1, h2, n, h3⟩ := (show ObjOk P w H h a (.tup (ks.map kV)) from ok a _ e)
  exact ⟨o, its.toArray, n, h1, h2, h3, by simpa using items_are r⟩
theorem dt_rd {kvs : List (List Key × V)} (ok : HOk P w H h) (e : Rd H a (.dT kvs)) : kvs.length ≤ sizeLine ∧ (a == sysModules) = false ∧
    ∃ xs, KT H kvs xs ∧ h.DictOfH (tupleKind (mixKind P w)) a xs := by
  obtain ⟨z, y, xs, r, o, es, ep, h1, h2, h3, h4, h5⟩ := (show ObjOk P w H h a (.dT kvs) from rd_of ok e)
  refine ⟨z, y, xs, r, o, es, ep, h1, h2, h3, h4, fun x hx => ?_, h5⟩
  have all : ∀ {l : List (List Key × V)} {m : List (List Key × Addr × Value)}, KT H l m → ∀ x ∈ m, (tupleKind (mixKind P w)).is h x.1 x.2.1 := by
    intro l m q
    induction q with
    | nil => intro x hx; exact nomatch hx
    | @cons p q ps qs hq t ih =>
      intro x hx
      rcases List.mem_cons.mp hx with e | hx
      · subst e
        exact key_of ok (by rw [← hq.1]; exact hq.2.1)
      · exact ih x hx
  exact all r x hx
theorem dt_of {kvs : List (List Key × V)} (ok : HOk P w H h) (e : H a = some (.dT kvs)) : kvs.length ≤ sizeLine ∧ (a == sysModules) = false ∧
    ∃ xs, KT H kvs xs ∧ h.DictOfH (tupleKind (mixKind P w)) a xs := dt_rd ok (.inl e)
end

/-- what the dict at a holds at the key y -/
def DGet (H : Hp) (a : Addr) (y : V) (r : Option V) : Prop :=
  (∃ kvs k, Rd H a (.dK kvs) ∧ y = kV k ∧ r = valV kvs k) ∨ ∃ kvs k b, Rd H a (.dT kvs) ∧ y = .ref b ∧ H b = some (.tup (k.map kV)) ∧ r = valV kvs k
/-- the heap behind a[y] = v -/
def DPut (H : Hp) (a : Addr) (y v : V) (H' : Hp) : Prop :=
  (∃ kvs k, H a = some (.dK kvs) ∧ y = kV k ∧ kvs.length < sizeLine ∧ H' = upd H a (.dK (putK kvs k v))) ∨
  ∃ kvs k b, H a = some (.dT kvs) ∧ y = .ref b ∧ H b = some (.tup (k.map kV)) ∧ kvs.length < sizeLine ∧ H' = upd H a (.dT (putK kvs k v))
theorem DGet.k {H : Hp} {a : Addr} {kvs : List (Key × V)} {k : Key} (e : H a = some (.dK kvs)) : DGet H a (kV k) (valV kvs k) := .inl ⟨kvs, k, .inl e, rfl, rfl⟩
theorem DGet.t {H : Hp} {a b : Addr} {kvs : List (List Key × V)} {k : List Key} (e : H a = some (.dT kvs)) (eb : H b = some (.tup (k.map kV))) : DGet H a (.ref b) (valV kvs k) := .inr ⟨kvs, k, b, .inl e, rfl, eb, rfl⟩
theorem DPut.k {H : Hp} {a : Addr} {kvs : List (Key × V)} {k : Key} {v : V} (e : H a = some (.dK kvs)) (hl : kvs.length < sizeLine) : DPut H a (kV k) v (upd H a (.dK (putK kvs k v))) := .inl ⟨kvs, k, e, rfl, hl, rfl⟩
theorem DPut.t {H : Hp} {a b : Addr} {kvs : List (List Key × V)} {k : List Key} {v : V} (e : H a = some (.dT kvs)) (eb : H b = some (.tup (k.map kV))) (hl : kvs.length < sizeLine) :
    DPut H a (.ref b) v (upd H a (.dT (putK kvs k v))) := .inr ⟨kvs, k, b, e, rfl, eb, hl, rfl⟩


section
variable {X : Cx} {pins : List (Addr × Obj)} {σ : St} {H : Hp} {s : Shared} {a : Addr} {y v : V} {u r : Value} {o : Option V} {A : Around} {E : Value → Shared → Prop}

theorem Inv.big (I : Inv X pins σ H s) : sysModules < s.heap.objs.size := by
  have h : mainGlobals < s.heap.objs.size := (I.mod.glob.keeps I.bk).lt
  exact Nat.lt_trans (by decide) h

/-- d[y], there -/
theorem d_getItem {Q : Value → Shared → Prop} (hu : A.units + 1 < cLine) (I : Inv X pins σ H s) (g : DGet H a y (some v)) (ry : RelV y u) (h : ∀ w' s', Inv X pins σ H s' → RelV v w' → Q w' s') :
    wpAny (model X.prog X.w) A (getItem (.ref a) u) Q E s := by
  rcases g with ⟨kvs, k, e, ey, l⟩ | ⟨kvs, k, b, e, ey, eb, l⟩
  · subst ey
    obtain ⟨z, hd, vs, rel, dd⟩ := dk_rd I.hok e
    obtain ⟨w', hw, rw'⟩ := RelO.some_of (v := v) (o := valueAt vs k) (by rw [l]; exact rel.val k)
    exact wpAny_getItem_of (kV_is ry) dd.mapOf hw (h w' _ (I.tok _) rw')
  · subst ey
    cases (show u = Value.ref b from ry)
    obtain ⟨z, hd, xs, rel, dd⟩ := dt_rd I.hok e
    obtain ⟨w', hw, rw'⟩ := RelO.some_of (v := v) (o := (atKey xs k).map (·.2)) (by rw [l]; exact rel.val k)
    obtain ⟨p, hp, hp2⟩ := Option.map_eq_some_iff.mp hw
    refine wpAny_getItem_heap (tupleKind_room_in1 hu) (key_of I.hok eb) dd hp ?_
    rw [hp2]
    exact h w' _ (I.tok _) rw'
/-- a dict's object is replaced -/
theorem d_write {h' : Heap} {t' : Nat} {ob : HO} (I : Inv X pins σ H s) (mu : Mut (H a)) (hs : Heap.SameBut a s.heap h') (he : ∃ q, h'.get? a = some q) (new : ObjOk X.prog X.w (upd H a ob) h' a ob) :
    Inv X pins σ (upd H a ob) { s with heap := h', toks := t' } :=
  I.write (x := a) (e := a) mu (.inl rfl) (fun b q hb z => (hs.2 b hb).trans z) he new
theorem dk_new {P : Program} {w : World} {H' : Hp} {h' : Heap} {kvs : List (Key × V)} {vs : List (Key × Value)} (z : kvs.length ≤ sizeLine) (hd : (a == sysModules) = false) (rel : KV kvs vs) (dd : h'.DictOf (mixKind P w) a vs) :
    ObjOk P w H' h' a (.dK kvs) := ⟨z, hd, vs, rel, dd⟩
/-- d[y] = v -/
theorem d_setItem {H' : Hp} {Q : Unit → Shared → Prop} (hu : A.units + 1 < cLine) (I : Inv X pins σ H s) (g : DPut H a y v H') (ry : RelV y u) (rv : RelV v r) (h : ∀ s', Inv X pins σ H' s' → Q () s') :
    wpAny (model X.prog X.w) A (setItem (.ref a) u r) Q E s := by
  rcases g with ⟨kvs, k, e, ey, l, eH⟩ | ⟨kvs, k, b, e, ey, eb, l, eH⟩
  · subst ey eH
    obtain ⟨z, hd, vs, rel, dd⟩ := dk_of I.hok e
    have hz : vs.length ≤ sizeLine := by rw [← rel.length]; exact z
    have hl : (putK kvs k v).length ≤ sizeLine := by have := length_putK kvs k v; omega
    refine wpAny_setItem_pairs (hsz := hz) (kV_is ry) dd fun h' dd' hs => h _ ?_
    have he : ∃ q, h'.get? a = some q := let ⟨q, _, _, hq, _⟩ := dd'; ⟨q, hq⟩
    exact d_write I (by rw [e]; exact True.intro) hs he (dk_new hl hd (rel.put k rv) dd')
  · subst ey eH
    cases (show u = Value.ref b from ry)
    obtain ⟨z, hd, xs, rel, dd⟩ := dt_of I.hok e
    have hz : xs.length ≤ sizeLine := by rw [← Paired.length rel]; exact z
    have hl : (putK kvs k v).length ≤ sizeLine := by have := length_putK kvs k v; omega
    refine wpAny_setItem_heap (hsz := hz) (tupleKind_room_in1 hu) (key_of I.hok eb) dd fun h' dd' hs => h _ ?_
    obtain ⟨q, es, ep, hq, h2, h3, h4, _, h5⟩ := dd'
    refine d_write I (by rw [e]; exact True.intro) hs ⟨q, hq⟩ ⟨hl, hd, _, (rel.put k eb rv).keeps fun c ys ec => ?_, q, es, ep, hq, h2, h3, h4, h5⟩
    rw [upd_ne (ne_of ec e (fun z => nomatch z))]
    exact ec
end

section
variable {X : Cx} {pins : List (Addr × Obj)} {σ : St} {H : Hp} {s : Shared} {a : Addr} {kvs : List (Key × V)} {k : Key} {u : Value} {A : Around} {E : Value → Shared → Prop}
/-- d.clear() -/
theorem d_clear {Q : Value → Shared → Prop} (I : Inv X pins σ H s) (e : H a = some (.dK kvs)) (h : ∀ s', Inv X pins σ (upd H a (.dK [])) s' → Q .none s') : wpAny (model X.prog X.w) A (call (.builtin "dict.clear") [.ref a]) Q E s := by
  obtain ⟨z, hd, vs, rel, dd⟩ := dk_of I.hok e
  refine call_meetsIn PySem.F.slot_dict_clear dd.typeIs PySem.F.entry_dict_clear (PySem.F.args_dict_clear_1 _) (meets_dict_clear (mixKind X.prog X.w) a) ⟨vs, dd, by rw [← rel.length]; exact z, fun h' dd' hs => h _ ?_⟩
  have he : ∃ q, h'.get? a = some q := let ⟨q, _, _, hq, _⟩ := dd'; ⟨q, hq⟩
  exact d_write (t' := s.toks) I (by rw [e]; exact True.intro) hs he (dk_new (Nat.zero_le _) hd .nil dd')
/-- len(d) -/
theorem d_len {Q : Value → Shared → Prop} (I : Inv X pins σ H s) (e : Rd H a (.dK kvs)) (h : ∀ t s', Inv X pins σ H s' → Q (.int kvs.length t) s') : wpAny (model X.prog X.w) A (call (.builtin "len") [.ref a]) Q E s := by
  obtain ⟨z, hd, vs, rel, dd⟩ := dk_rd I.hok e
  refine call_len_dict hd dd (by rw [← rel.length]; rw [sizeLine_eq] at z; omega) ?_
  rw [← rel.length]
  exact h _ _ (I.tok _)
end


/-- the element of a subscription, not a slice -/
def NoSl (i : Expr) : Prop := ∀ ov iv, subscripted i false ov iv = operate [ov, iv] (getItem ov iv)
theorem subD_of {prog : Program} {w : World} {A : Around} {E : Value → Shared → Prop} {s : Shared} {env : Env} {value slice : Expr} {pos : Pos} {T id : String} {Q : Value → Shared → Prop}
    (hl : typeLookup (.type T) "__getitem__" = pure (some (.builtin id))) (hs : NoSl slice)
    (h : wpAny (model prog w) A (eval value env) (fun o s₁ => wpAny (model prog w) A (eval slice env) (fun i s₂ => s₂.TypeIs o T ∧ wpAny (model prog w) A (getItem o i) Q E s₂) E s₁) E s) :
    wpAny (model prog w) A (eval (.Subscript value slice pos) env) Q E s := by
  refine Subscript_ (wpAny_mono h (fun o s₁ h₁ => wpAny_mono h₁ (fun i s₂ h₂ => ?_) fun _ _ x => x) fun _ _ x => x)
  obtain ⟨hT, h₂⟩ := h₂
  unfold subscriptTail
  refine wpAny_bind ?_
  rw [getitemInPython_of_ne hT.not_modules]
  refine wpAny_bind (wpAny_specialOf hT hl ?_)
  have fin : wpAny (model prog w) A (subscripted slice false o i) (fun r s₃ => wpAny (model prog w) A (letTemporaryGo value o r >>= fun _ => pure r) Q E s₃) E s₂ := by
    rw [hs o i]
    exact wpAny_operating (wpAny_mono h₂ (fun r s₃ h₃ => wpAny_bind (wpAny_letTemporaryGo (wpAny_pure h₃))) fun _ _ x => x)
  first
    | exact wpAny_pure (wpAny_bind fin)
    | exact wpAny_bind (wpAny_pure (wpAny_bind fin))
    | exact wpAny_bind fin

theorem dict_typeIs {X : Cx} {pins : List (Addr × Obj)} {σ : St} {H : Hp} {s : Shared} {a : Addr} {y : V} {o : Option V} (I : Inv X pins σ H s) (g : DGet H a y o) : s.TypeIs (.ref a) "dict" := by
  rcases g with ⟨kvs, k, e, _, _⟩ | ⟨kvs, k, b, e, _, _, _⟩
  · obtain ⟨_, _, vs, _, dd⟩ := dk_rd I.hok e
    exact dd.typeIs
  · obtain ⟨_, _, xs, _, dd⟩ := dt_rd I.hok e
    exact dd.typeIs
/-- d[y] -/
def tDGet (td ty : TE) : TE := fun σ H Q => td σ H fun x H1 => ty σ H1 fun y H2 => ∃ a v, x = .ref a ∧ DGet H2 a y (some v) ∧ Q v H2
/-- y in d, y not in d -/
def tDIn (ty td : TE) : TE := fun σ H Q => ty σ H fun y H1 => td σ H1 fun x H2 => ∃ a o, x = .ref a ∧ DGet H2 a y o ∧ Q (.bl o.isSome) H2
def tDNotIn (ty td : TE) : TE := fun σ H Q => ty σ H fun y H1 => td σ H1 fun x H2 => ∃ a o, x = .ref a ∧ DGet H2 a y o ∧ Q (.bl (!o.isSome)) H2
/-- d[y] = v -/
def sDPut (td ty tv : TE) : TS := fun D σ H => tv σ H fun v H1 => td σ H1 fun x H2 => ty σ H2 fun y H3 => ∃ a H4, x = .ref a ∧ DPut H3 a y v H4 ∧ D.nx σ H4
/-- d[y] op= v -/
def sDAug (td ty tv : TE) (rd : V → V → Hp → VK → Prop) : TS := fun D σ H => td σ H fun x H1 => ty σ H1 fun y H2 => ∃ a v, x = .ref a ∧ DGet H2 a y (some v) ∧
  tv σ H2 fun y2 H3 => rd v y2 H3 fun z H4 => ∃ H5, DPut H4 a y z H5 ∧ D.nx σ H5
/-- del d[y] -/
def sDDel (td ty : TE) : TS := fun D σ H => td σ H fun x H1 => ty σ H1 fun y H2 => ∃ a kvs k, x = .ref a ∧ H2 a = some (.dK kvs) ∧ y = kV k ∧ (valV kvs k).isSome = true ∧ D.nx σ (upd H2 a (.dK (dropK kvs k)))

section
variable {X : Cx} {o i e value : Expr} {pos pos' tpos : Pos} {td ty tv : TE}
theorem pe_dget (hu : X.A.units + 1 < cLine) (ho : PE X o td) (hi : PE X i ty) (hs : NoSl i) : PE X (.Subscript o i pos) (tDGet td ty) := by
  intro pins s σ H Q I h
  refine subD_of PySem.F.slot_dict_getitem.lookup hs (thn (ho pins s σ H _ I h) fun u s1 ⟨x, H1, I1, rx, q1⟩ => thn (hi pins s1 σ H1 _ I1 q1) fun iv s2 ⟨y, H2, I2, ry, a, v, ex, g, q2⟩ => ?_)
  subst ex
  obtain rfl : u = Value.ref a := rx
  exact ⟨dict_typeIs I2 g, d_getItem hu I2 g ry fun w' s3 I3 rw' => ⟨v, H2, I3, rw', q2⟩⟩
theorem ps_dput (hu : X.A.units + 1 < cLine) (ho : PE X o td) (hi : PE X i ty) (hv : PE X value tv) (hs : swapsWith value (some (.Subscript o i pos')) pos.line X.env = pure false) :
    PS X (.Assign [.Subscript o i pos'] value pos) (sDPut td ty tv) := by
  intro pins s σ H D I h
  refine wpAny_Assign_Subscript (thn (hv pins s σ H _ I h) fun r s1 ⟨v, H1, I1, rv, q1⟩ => thn (ho pins s1 σ H1 _ I1 q1) fun u s2 ⟨x, H2, I2, rx, q2⟩ => thn (hi pins s2 σ H2 _ I2 q2) fun iv s3 ⟨y, H3, I3, ry, a, H4, ex, g, q3⟩ => ?_) hs
  subst ex
  obtain rfl : u = Value.ref a := rx
  exact d_setItem hu I3 g ry rv fun s4 I4 => ⟨σ, H4, I4, q3⟩
end


theorem dk_empty {P : Program} {w : World} {H : Hp} (h : Heap) (hb : sysModules < h.objs.size) : ObjOk P w H (h.push { cls := .type "dict", data := .dict #[] }) h.objs.size (.dK []) :=
  ⟨Nat.zero_le _, beq_eq_false_iff_ne.mpr (Ne.symm (Nat.ne_of_lt hb)), [], .nil, Heap.DictOf.new h⟩
/-- {}, to be a dict of the kind that is wanted -/
def tDNewK : TE := fun _ H Q => ∀ p, H p = none → Q (.ref p) (upd H p (.dK []))
def tDNewT : TE := fun _ H Q => ∀ p, H p = none → Q (.ref p) (upd H p (.dT []))
section
variable {X : Cx} {pos : Pos}
theorem pe_dnewK : PE X (.Dict [] [] pos) tDNewK := fun pins s σ H Q I h =>
  wpAny_Dict_empty ⟨.ref s.heap.objs.size, _, I.laid (a := s.heap.objs.size) (o := .dK []) (t' := s.toks) (fun _ _ q => Heap.get?_push_of_some _ q) (Nat.le_refl _) (dk_empty s.heap I.big), rfl, h _ (I.hok.fresh (Nat.le_refl _))⟩
end

/-- the pairs of a display, from the left -/
def tPairs : List (TE × TE) → St → Hp → (List (V × V) → Hp → Prop) → Prop
  | [], _, H, Q => Q [] H
  | (tk, tv) :: r, σ, H, Q => tk σ H fun x H1 => tv σ H1 fun y H2 => tPairs r σ H2 fun ps H3 => Q ((x, y) :: ps) H3
abbrev VV : List (V × V) → List (Value × Value) → Prop := Paired fun p q => RelV p.1 q.1 ∧ RelV p.2 q.2
def PPs (X : Cx) (pos : Pos) (keys : List (Option Expr)) (values : List Expr) (trs : List (TE × TE)) : Prop :=
  ∀ (pins : List (Addr × Obj)) (s : Shared) (σ : St) (H : Hp) (Q : List (V × V) → Hp → Prop), Inv X pins σ H s → tPairs trs σ H Q →
    wpAny (model X.prog X.w) X.A (evalPairs (pairTrees keys values X.env pos)) (fun vs s' => ∃ ps H', Inv X pins σ H' s' ∧ VV ps vs ∧ Q ps H') X.xe s
def mergeK (kvs more : List (Key × V)) : List (Key × V) := more.foldl (fun acc kv => putK acc kv.1 kv.2) kvs
/-- {k: v, ..} with keys ints and texts; the new dict stands empty while the pairs are made -/
def tDisp (trs : List (TE × TE)) : TE := fun σ H Q => ∀ p, H p = none → tPairs trs σ (upd H p (.dK [])) fun ps H2 => H2 p = some (.dK []) ∧ ∃ kvs : List (Key × V), ps = kvs.map (fun kv => (kV kv.1, kv.2)) ∧ kvs.length ≤ 15 ∧ Q (.ref p) (upd H2 p (.dK (mergeK [] kvs)))
/-- a method call o.m(e) of a built-in, with one argument: what must be seen of the text -/
structure M1 (X : Cx) (o : Expr) (m : Str) (apos : Pos) (e : Expr) (cpos : Pos) : Prop where
  base : attributeBase o m X.env (eval o X.env) = eval o X.env
  few : ((backTo cpos (starEach [e] X.env)).all (fun x => !x.1) && (backToKw cpos (keywordEach [] X.env)).all (fun x => x.1.isSome)
    && decide (([e] : List Expr).length + ([] : List Keyword).length + (if ([] : List Keyword).isEmpty then 0 else 1) < 30)) = true
  line : (apos.endLine == cpos.line) = true
  trees : backTo cpos (starEach [e] X.env) = [(false, eval e X.env)]
structure M2 (X : Cx) (o : Expr) (m : Str) (apos : Pos) (e f : Expr) (cpos : Pos) : Prop where
  base : attributeBase o m X.env (eval o X.env) = eval o X.env
  few : ((backTo cpos (starEach [e, f] X.env)).all (fun x => !x.1) && (backToKw cpos (keywordEach [] X.env)).all (fun x => x.1.isSome)
    && decide (([e, f] : List Expr).length + ([] : List Keyword).length + (if ([] : List Keyword).isEmpty then 0 else 1) < 30)) = true
  line : (apos.endLine == cpos.line) = true
  trees : backTo cpos (starEach [e, f] X.env) = [(false, eval e X.env), (false, eval f X.env)]

/-- a is a dict, whatever its keys -/
def IsD (H : Hp) (a : Addr) : Prop := (∃ kvs, Rd H a (.dK kvs)) ∨ ∃ kvs, Rd H a (.dT kvs)
section
variable {X : Cx} {pins : List (Addr × Obj)} {σ : St} {H : Hp} {s : Shared} {a : Addr} {y d : V} {u r : Value} {o : Option V} {A : Around} {E : Value → Shared → Prop}
end

def tDGet1 (td ty : TE) : TE := fun σ H Q => td σ H fun x H1 => ∃ a, x = .ref a ∧ IsD H1 a ∧ ty σ H1 fun y H2 => ∃ o, DGet H2 a y o ∧ Q (o.getD .non) H2
def tDGet2 (td ty tx : TE) : TE := fun σ H Q => td σ H fun x H1 => ∃ a, x = .ref a ∧ IsD H1 a ∧ ty σ H1 fun y H2 => tx σ H2 fun z H3 => ∃ o, DGet H3 a y o ∧ Q (o.getD z) H3
/-- d.pop(k): there; d.pop(k, x): there or not -/
def tDPop1 (td ty : TE) : TE := fun σ H Q => td σ H fun x H1 => ∃ a, x = .ref a ∧ IsD H1 a ∧ ty σ H1 fun y H2 => ∃ kvs k v, H2 a = some (.dK kvs) ∧ y = kV k ∧ valV kvs k = some v ∧ Q v (upd H2 a (.dK (dropK kvs k)))
def tDPop2 (td ty tx : TE) : TE := fun σ H Q => td σ H fun x H1 => ∃ a, x = .ref a ∧ IsD H1 a ∧ ty σ H1 fun y H2 => tx σ H2 fun z H3 => ∃ kvs k, H3 a = some (.dK kvs) ∧ y = kV k ∧
  (∀ v, valV kvs k = some v → Q v (upd H3 a (.dK (dropK kvs k)))) ∧ (valV kvs k = none → Q z H3)
section
variable {X : Cx} {o e f : Expr} {apos cpos : Pos} {td ty tx : TE}
end

section
variable {X : Cx} {pins : List (Addr × Obj)} {σ : St} {H : Hp} {s : Shared} {a : Addr} {kvs : List (Key × V)} {A : Around} {E : Value → Shared → Prop}
theorem d_copyOf {Q : Value → Shared → Prop} (I : Inv X pins σ H s) (e : Rd H a (.dK kvs)) (h : ∀ p s', H p = none → Inv X pins σ (upd H p (.dK kvs)) s' → Q (.ref p) s') : wpAny (model X.prog X.w) A (call (.type "dict") [.ref a]) Q E s := by
  obtain ⟨z, hd, vs, rel, dd⟩ := dk_rd I.hok e
  refine kt_call_dict hd dd (by rw [← rel.length]; exact z) fun h' dd' hs => ?_
  refine h _ _ (I.hok.fresh (Nat.le_refl _)) (I.laid (a := s.heap.objs.size) (o := .dK kvs) (t' := s.toks) (fun b q hq => ?_) (Nat.le_refl _) (dk_new z (beq_eq_false_iff_ne.mpr (Ne.symm (Nat.ne_of_lt I.big))) rel dd'))
  exact (hs.2 b (Nat.ne_of_lt (Heap.lt_size hq))).trans (Heap.get?_push_of_some _ hq)
end


section
variable {X : Cx} {pins : List (Addr × Obj)} {σ : St} {H : Hp} {s : Shared} {a : Addr} {y : V} {u : Value} {A : Around} {E : Value → Shared → Prop}
end
end L2

namespace Att
open PySem PySem.W PySem.Calls PyProof.Rows

theorem ints_of_wellAll {P : Params} {h : Heap} : ∀ (ns : List Int) (vs : List Value), WellAll P h vs (ns.map WData.int) → IntsAre vs ns := by
  intro ns
  induction ns with
  | nil =>
    intro vs w
    rw [List.map_nil] at w
    cases w
    exact .nil
  | cons n ns ih =>
    intro vs w
    rw [List.map_cons] at w
    cases w with
    | cons a b =>
      cases a
      exact .cons _ _ (ih _ b)

theorem script_of {l : OpenLaw} {n : Nat} (hn : l.most = some n) {P : Params} {h : Heap} {args : List WData} {vals : List Value}
    (hpre : l.row.toRowW.claim.pre args = true) (hwl : WellAll P h vals args) :
    ∃ a vs ns, vals = [Value.ref a] ∧ args = [WData.list (ns.map WData.int)] ∧ h.get? a = some { cls := .type "list", data := .seq vs.toArray } ∧ IntsAre vs ns ∧ ns.length ≤ n := by
  have hsh : WShape.hasAll [] args [.list .int] = true := (pre_splitW hpre).1
  have hc : l.pre.holds [] { args := args } = true := (pre_splitW hpre).2
  obtain ⟨d, r, rfl, h1, h2⟩ := hasAllW_cons hsh
  obtain rfl := hasAllW_nil h2
  obtain ⟨xs, rfl, h3⟩ := hasW_list h1
  obtain ⟨ns, rfl⟩ := items_int h3
  have hlen : ns.length ≤ n := by
    unfold OpenLaw.pre at hc
    have h4 : (WTm.not (.lt (.lit (.int (n : Int))) (.len (.arg 0)))).holds [] { args := [.list (ns.map .int)] } = true := by
      have h4 := (holds_andW hc).1
      rw [hn] at h4
      exact h4
    have h5 := condW_of h4 (w_not (w_lt w_lit (w_len_list (w_arg rfl))))
    rw [List.length_map] at h5
    refine Nat.le_of_not_lt fun q => ?_
    have q' : (n : Int) < ((ns.length : Nat) : Int) := by omega
    first
      | (rw [decide_eq_true q'] at h5; exact absurd h5 (by decide))
      | (simp at h5; omega)
  cases hwl with
  | cons w1 w2 =>
    cases w2
    cases w1 with
    | list ho hall => exact ⟨_, _, ns, rfl, rfl, ho, ints_of_wellAll ns _ hall, hlen⟩

theorem post_true (l : OpenLaw) (args : List WData) : l.row.toRowW.claim.post args (.bool true) args = true :=
  postW_of (r := l.row.toRowW) (X := (true == true))
    (show WShape.has [] (.bool true) .bool = true by first | rfl | decide | simp [WShape.has, WShape.arms, WShape.armsAll])
    (show (WTm.eq .res (.lit (.bool true))).value [] { args := args, res := some (.bool true), after := args } = some (.bool (true == true)) from w_eq_bool (w_res rfl) w_lit) rfl

theorem attach {l : OpenLaw} {n : Nat} {q : Program} {loose : List Str} {XP : (Str → Option Value) → Heap → Prop} {YP : World → Heap → Prop} {d : DefRec} {x : Str}
    (hn : l.most = some n) (hdf : d.params.defaults = [])
    (hbind : ∀ pm cd doc v : Value, bindArgs (docDef d.name d.params d.body d.scope pm cd doc) ⟨[v], []⟩ = pure [(x, v)])
    (hx : d.scope.names.lookup x = some .local ∨ d.scope.names.lookup x = some .cell)
    (hk : d.scope.kind = .function) (hco : d.scope.isCoroutine = false) (hgen : d.scope.isGenerator = false)
    (body : ∀ (w : World) (s₀ s₁ s : Shared) (mg mb : Str → Option Value) (fa : Addr) (o : Obj) (pm cd doc : Value) (a : Addr) (vs : List Value) (ns : List Int),
      Ground q loose [] XP w s₀ mg mb s₁.heap → YP w s₁.heap →
      s₁.heap.get? fa = some o → o.data = .func (docDef d.name d.params d.body d.scope pm cd doc) → s₁.heap.CodeRec cd d.name → mg d.name = some (.ref fa) →
      s₁.heap.get? a = some { cls := .type "list", data := .seq vs.toArray } → IntsAre vs ns → ns.length ≤ n →
      s.gens = #[] → s.os = s₁.os →
      Fr s₁.heap s₁.heap.objs.size s.heap (bindL (envOfC d.name d.scope s₁.heap.objs.size fa cd).kindOf [(x, .ref a)] fun _ => none) →
      Cl s₁.heap.objs.size (cellsFrom (s₁.heap.objs.size + 1) d.scope.names []) s.heap (bindC (envOfC d.name d.scope s₁.heap.objs.size fa cd).kindOf [(x, .ref a)] fun _ => none) →
      wpAny (model l.prog w) (callerA.deeper (envOfC d.name d.scope s₁.heap.objs.size fa cd)) (execs d.body (envOfC d.name d.scope s₁.heap.objs.size fa cd))
        (fun f s' => f = .ret (.bool true) ∧ OldK s₁.heap s'.heap ∧ s'.os = s₁.os ∧ AllBare s'.gens) (fun _ _ => False) s) :
    WalkO q loose XP YP l.row.toRowW d [] (fun f vs => PySem.call f vs) := by
  intro w s₀ s₁ mg mb G Y fa o pm cd doc dV kV ho hd hcd hD hmg hg args vals as hpre hlay hrd hwl hlo
  obtain rfl : dV = .none := Dflts.none hD hdf
  obtain rfl : kV = .none := Dflts.noKw hD
  obtain ⟨a, vs, ns, rfl, rfl, hobj, hints, hlen⟩ := script_of hn hpre hwl
  refine enter_call ?_
  refine call_cells_ret (o := o) (by rw [depth_caller]; decide) ho (fd_plain hd) G.T.nolimit hcd (hbind pm cd doc (.ref a)) (fun y hy => ?_) (fun h₁ tk F X => ?_) hco hgen hk
  · obtain rfl : y = (x, Value.ref a) := List.mem_singleton.mp hy
    rcases hx with e | e
    · exact .inl e
    · exact .inr ⟨e, cellsFrom_some _ _ _ (.inl e)⟩
  · refine wpAny_mono (body w s₀ s₁ { s₁ with heap := h₁, toks := tk } mg mb fa o pm cd doc a vs ns G Y ho (fd_plain hd) hcd hmg hobj hints hlen hg rfl F X) (fun f s' hq => ?_) (fun _ _ hq => hq)
    obtain ⟨rfl, h2, h3, h4⟩ := hq
    exact ⟨.inl ⟨.bool true, .bool true, [], rfl, fun _ => rfl, .bool true, post_true l _, fun _ => ⟨List.Pairwise.nil, fun _ hm => (nomatch hm)⟩⟩, h2, h3, h4⟩

section
variable {prog : Program} {w : World} {A : Around} {E : Value → Shared → Prop} {s : Shared} {K : Frag}

def noObjs (h : Heap) : Heap := { h with objs := #[] }
def ledger (h : Heap) (L d : Addr) : List (Addr × Obj) := (List.range h.objs.size).filterMap fun a => if a = L ∨ a = d then none else (h.get? a).map fun o => (a, o)
end
end Att

namespace L2
open PySem PySem.Spec PyProof.Rows

theorem vals_ints : ∀ {vs : List Value} {ns : List Int}, IntsAre vs ns → Vals (ns.map V.int) vs
  | _, _, .nil => .nil
  | _, _, .cons n t h => .cons ⟨t, rfl⟩ (vals_ints h)

/-- nothing is tracked but the script, known to the object (or it is an object of the module) -/
def Only (H : Hp) : Prop := ∀ b, H b = none ∨ ∃ o xs, H b = some (.frz o (.lst xs))

end L2

namespace L2
open PySem PySem.Spec PyProof.Rows

abbrev KOf {K : PySem.W.Frag} {h : Heap} (_ : K.In h) : PySem.W.Frag := K

end L2


namespace L2
open PySem PySem.Spec PyProof.Rows

/-- the j-th statement of a class's body -/
def inClass (s : Stmt) (j : Nat) : Stmt := match s with
  | .ClassDef _ _ _ body _ _ _ _ _ _ _ => body.getD j (.Pass ⟨0, 0, 0, 0⟩)
  | _ => .Pass ⟨0, 0, 0, 0⟩
def defArgs (s : Stmt) : Arguments := match s with
  | .FunctionDef _ a _ _ _ _ _ _ _ _ => a
  | _ => { posonlyargs := [], args := [], vararg := none, kwonlyargs := [], kw_defaults := [], kwarg := none, defaults := [] }
def defBody (s : Stmt) : List Stmt := match s with
  | .FunctionDef _ _ b _ _ _ _ _ _ _ => b
  | _ => []
def defScope (s : Stmt) : Scope := match s with
  | .FunctionDef _ _ _ _ _ _ sc _ _ _ => sc
  | _ => { kind := .function, names := [], isGenerator := false, isCoroutine := false }

abbrev CX0 : CXT := fun _ _ _ _ _ _ => False
abbrev E0 : XK := fun _ _ _ => False
theorem pass0 {X : Cx} : Passes CX0 X E0 := fun _ _ _ _ _ _ _ h => h.elim

structure Fun (K : PySem.W.Frag) (x qual : Str) (st : Stmt) (f : Addr) (fd : FuncData) : Prop where
  ex : ∃ (oc : Value) (od : Option Addr) (kV doc pm : Value) (an : Option Addr) (cdv ct : Value) (osl : Array (Option Value)),
    fd = PySem.W.fnOf x qual (defArgs st) (defBody st) (defScope st) .none kV doc pm an cdv ct ∧ K.lookup f = some ⟨oc, od, .func fd, osl⟩ ∧ PySem.W.codeIn K cdv qual = true
  kp : PySem.W.keepIn K (.ref f) = true
section
variable {P : Program} {w : World} {K : PySem.W.Frag} {mg : Str → Option Value} {base : Heap}
/-- THE RULE for a def: its body as a term of rules, and the reading of that term -/
theorem Fun.ok {x qual : Str} {st : Stmt} {f : Addr} {fd : FuncData} {N ps : List Str} {k : Nat} {sp : Sp} (F : Fun K x qual st f fd) (S : FnScope N ps (defScope st)) (len : ∀ vs H Q E, sp vs H Q E → vs.length = ps.length)
    (hbody : ∀ (cdv : Value) (A : Around) (outer : List Env) (s : Shared) (H : Hp) (vs : List V) (Q : VK) (E : XK), Room k (A.deeper (envOfC qual (defScope st) s.heap.objs.size f cdv)) → sp vs H Q E →
      ∃ t, PSs (cxOf CX0 P w K mg base N qual (defScope st) f cdv A outer s H E).nox (defBody st) t ∧ t { nx := fun _ H' => Q .non H', rt := Q } (start N vs) H) : FnOk P w K mg base CX0 (k + 1) f fd ps sp := by
  obtain ⟨oc, od, kV, doc, pm, an, cdv, ct, osl, rfl, lk, hcd⟩ := F.ex
  refine fn_of lk hcd S len fun A outer s H vs Q E hr hsp => ?_
  obtain ⟨t, h, q⟩ := hbody cdv A outer s H vs Q E hr hsp
  exact ⟨t, h.nox, q⟩
/-- how its arguments bind (no defaults): h is «fun _ _ _ _ _ _ us hl => match us, hl with | [_, _], _ => rfl», one _ a parameter -/
theorem Fun.binds {x qual : Str} {st : Stmt} {f : Addr} {fd : FuncData} {ps : List Str} (F : Fun K x qual st f fd)
    (h : ∀ (kV doc pm : Value) (an : Option Addr) (cdv ct : Value) (us : List Value), us.length = ps.length → bindArgs (PySem.W.fnOf x qual (defArgs st) (defBody st) (defScope st) .none kV doc pm an cdv ct) ⟨us, []⟩ = pure (ps.zip us)) : Binds K fd ps [] := by
  obtain ⟨oc, od, kV, doc, pm, an, cdv, ct, osl, rfl, lk, hcd⟩ := F.ex
  exact .all (h kV doc pm an cdv ct)
theorem fun_mk {x qual : Str} {st : Stmt} {f : Addr} {oc : Value} {od an : Option Addr} {osl : Array (Option Value)} {kV doc pm cdv ct : Value} (l : K.lookup f = some ⟨oc, od, .func (PySem.W.fnOf x qual (defArgs st) (defBody st) (defScope st) .none kV doc pm an cdv ct), osl⟩)
    (c : PySem.W.codeIn K cdv qual = true) (k : PySem.W.keepIn K (.ref f) = true) : Fun K x qual st f (PySem.W.fnOf x qual (defArgs st) (defBody st) (defScope st) .none kV doc pm an cdv ct) := ⟨⟨oc, od, kV, doc, pm, an, cdv, ct, osl, rfl, l, c⟩, k⟩
end
theorem hu_of {A : Around} {k : Nat} (hr : Room k A) : A.units + 1 < cLine := Nat.lt_of_le_of_lt (Nat.add_le_add_left (by decide : 1 ≤ 64) _) hr.units
theorem small1000 {n : Nat} (h : n ≤ 1000) : n < sizeLine := Nat.lt_of_le_of_lt h (by decide)

section
variable {X : Cx}
theorem pv (i : Nat) {x : Str} {pos : Pos} (hN : X.N[i]? = some x := by rfl) (hv : Vis X.env.scope x := by first | exact Or.inl rfl | exact Or.inr (Or.inl rfl) | exact Or.inr (Or.inr rfl)) (hd : (x == ("__debug__" : Str)) = false := by decide)
    (hcd : (x == ("__classdict__" : Str)) = false := by decide) : PE X (.Name x pos) (tVar i) := pe_var hN hv hd hcd
end

theorem iteF {A B : Prop} (h : B) : if false = true then A else B := by
  rw [if_neg Bool.false_ne_true]
  exact h
theorem iteT {A B : Prop} (h : A) : if true = true then A else B := by
  rw [if_pos rfl]
  exact h
theorem iteNS {c A B : Prop} [Decidable c] (hc : c) (h : B) : if (!decide c) = true then A else B := by
  rw [decide_eq_true hc]
  exact iteF h

/-- all that was tracked is as it was -/
def Same (H H' : Hp) : Prop := ∀ b o, H b = some o → H' b = some o
theorem Same.refl (H : Hp) : Same H H := fun _ _ h => h
theorem Same.trans {H H1 H2 : Hp} (a : Same H H1) (b : Same H1 H2) : Same H H2 := fun c o h => b c o (a c o h)
theorem Same.free {H H' : Hp} (e : Same H H') {l : Addr} (h : H' l = Option.none) : H l = Option.none := by
  cases q : H l with
  | none => rfl
  | some o =>
    rw [e l o q] at h
    cases h
theorem Same.seq {K : PySem.W.Frag} {H H' : Hp} {a : Addr} {xs : List V} (e : Same H H') (h : SqL K H a xs) : SqL K H' a xs := by
  rcases h with (h | ⟨o, h⟩) | h
  · exact .inl (.inl (e _ _ h))
  · exact .inl (.inr ⟨o, e _ _ h⟩)
  · exact .inr h

end L2

namespace L2
open PySem PySem.Spec PyProof.Rows
section
variable {X : Cx}
/-- len of a dict -/
theorem call_lenD : CallR X (.builtin "len") (fun xs H Q => ∃ a kvs, xs = [V.ref a] ∧ H a = some (.dK kvs) ∧ Q (.int kvs.length) H) := by
  intro pins s σ H xs us Q I r h
  obtain ⟨a, kvs, rfl, ha, q⟩ := h
  obtain ⟨u, rfl, ru⟩ := vals1 r
  cases ru
  exact d_len I (.inl ha) fun t s' I' => ⟨.int kvs.length, H, I', ⟨t, rfl⟩, q⟩
end
end L2
namespace L2
open PySem PySem.Spec PyProof.Rows
section
variable {κ : Type} [DecidableEq κ]
theorem valV_not {kvs : List (κ × V)} {k : κ} (h : valV kvs k = none) : ¬ k ∈ kvs.map (·.1) := by
  intro m
  obtain ⟨p, hp, e⟩ := List.mem_map.mp m
  have q : (kvs.any fun kv => decide (kv.1 = k)) = true := List.any_eq_true.mpr ⟨p, hp, decide_eq_true e⟩
  rw [valV_any, h] at q
  exact absurd q (by simp)
theorem nd_snoc : ∀ {l : List κ} {k : κ}, l.Nodup → ¬ k ∈ l → (l ++ [k]).Nodup
  | [], k, _, _ => by simp
  | a :: r, k, h, hk => by
    obtain ⟨h1, h2⟩ := List.nodup_cons.mp h
    show (a :: (r ++ [k])).Nodup
    refine List.nodup_cons.mpr ⟨fun m => ?_, nd_snoc h2 fun m => hk (List.mem_cons.mpr (Or.inr m))⟩
    rcases List.mem_append.mp m with q | q
    · exact h1 q
    · exact hk (List.mem_cons.mpr (Or.inl (List.mem_singleton.mp q).symm))
theorem nd_putK {kvs : List (κ × V)} {k : κ} (v : V) (hn : (kvs.map (·.1)).Nodup) (h : valV kvs k = none) : ((putK kvs k v).map (·.1)).Nodup := by
  rw [putK_new v h, List.map_append]
  exact nd_snoc hn (valV_not h)
end
end L2

namespace Mth
theorem pos_right {a b : Int} (ha : 0 < a) (h : 0 < a * b) : 0 < b := by
  rcases (by omega : 0 < b ∨ b ≤ 0) with q | q
  · exact q
  · have := Int.mul_nonneg (Int.le_of_lt ha) (by omega : 0 ≤ -b)
    rw [Int.mul_neg] at this
    omega
/-- what a fraction made of t and b (not 0) is -/
structure Fr (t b q r : Int) : Prop where
  pos : 0 < r
  cross : q * b = t * r
  cop : Int.gcd q r = 1
  topLe : q.natAbs ≤ t.natAbs
  botLe : r.natAbs ≤ b.natAbs
theorem abs_le_mul {c q : Int} (hc : 0 < c) : q.natAbs ≤ (c * q).natAbs := by
  rw [Int.natAbs_mul]
  exact Nat.le_mul_of_pos_left _ (by omega)
theorem fr_of {t b c : Int} (hb : b ≠ 0) (hc : c = ((Int.gcd t b : Nat) : Int)) : 0 < c ∧ c ≤ b.natAbs ∧ (0 < b → Fr t b (t.fdiv c) (b.fdiv c)) ∧ (b < 0 → Fr t b (t.fdiv (-c)) (b.fdiv (-c))) := by
  have hp : 0 < Int.gcd t b := Int.gcd_pos_iff.mpr (.inr hb)
  have c0 : 0 < c := by omega
  have d1 : c ∣ t := hc ▸ Int.gcd_dvd_left t b
  have d2 : c ∣ b := hc ▸ Int.gcd_dvd_right t b
  obtain ⟨q, hq⟩ := d1
  obtain ⟨r, hr⟩ := d2
  have hr0 : r ≠ 0 := by rintro rfl; rw [Int.mul_zero] at hr; exact hb hr
  have hle : c ≤ b.natAbs := by
    rw [hr, Int.natAbs_mul]
    have : c.natAbs * 1 ≤ c.natAbs * r.natAbs := Nat.mul_le_mul_left _ (by omega)
    omega
  have e1 : t.fdiv c = q := by rw [hq, Int.mul_fdiv_cancel_left _ (by omega)]
  have e2 : b.fdiv c = r := by rw [hr, Int.mul_fdiv_cancel_left _ (by omega)]
  have e3 : t.fdiv (-c) = -q := by rw [show t = -c * -q by rw [hq, Int.neg_mul_neg], Int.mul_fdiv_cancel_left _ (by omega)]
  have e4 : b.fdiv (-c) = -r := by rw [show b = -c * -r by rw [hr, Int.neg_mul_neg], Int.mul_fdiv_cancel_left _ (by omega)]
  have hg : Int.gcd q r = 1 := by
    have h1 : Int.gcd (c * q) (c * r) = c.natAbs * Int.gcd q r := Int.gcd_mul_left c q r
    rw [← hq, ← hr] at h1
    have h3 : c.natAbs = Int.gcd t b := by omega
    rw [h3] at h1
    have h2 : Int.gcd t b * Int.gcd q r = Int.gcd t b * 1 := by rw [← h1, Nat.mul_one]
    exact Nat.eq_of_mul_eq_mul_left hp h2
  have l1 : q.natAbs ≤ t.natAbs := hq ▸ abs_le_mul c0
  have l2 : r.natAbs ≤ b.natAbs := hr ▸ abs_le_mul c0
  refine ⟨c0, hle, fun b0 => ?_, fun b0 => ?_⟩
  · rw [e1, e2]
    exact ⟨pos_right c0 (hr ▸ b0), by rw [hq, hr, Int.mul_assoc, Int.mul_left_comm], hg, l1, l2⟩
  · rw [e3, e4]
    refine ⟨pos_right c0 (by rw [Int.mul_neg, ← hr]; omega), ?_, by rw [Int.gcd_neg, Int.neg_gcd]; exact hg, by omega, by omega⟩
    rw [hq, hr, Int.neg_mul, Int.mul_neg, Int.mul_assoc, Int.mul_left_comm]
/-- below 2 ^ n -/
def Bd (n : Nat) (x : Int) : Prop := x.natAbs < 2 ^ n
theorem Bd.mono {m n : Nat} {x : Int} (h : Bd m x) (l : m ≤ n) : Bd n x := Nat.lt_of_lt_of_le h (Nat.pow_le_pow_right (by decide) l)
theorem Bd.mul {m n : Nat} {x y : Int} (h : Bd m x) (k : Bd n y) : Bd (m + n) (x * y) := by
  unfold Bd at *
  rw [Int.natAbs_mul, Nat.pow_add]
  exact Nat.mul_lt_mul'' h k
theorem Bd.add {m : Nat} {x y : Int} (h : Bd m x) (k : Bd m y) : Bd (m + 1) (x + y) := by
  unfold Bd at *
  rw [Nat.pow_succ]
  have := Int.natAbs_add_le x y
  omega
theorem Bd.neg {m : Nat} {x : Int} (h : Bd m x) : Bd m (-x) := by unfold Bd at *; rw [Int.natAbs_neg]; exact h
theorem Bd.sub {m : Nat} {x y : Int} (h : Bd m x) (k : Bd m y) : Bd (m + 1) (x - y) := by rw [Int.sub_eq_add_neg]; exact h.add k.neg
theorem Bd.le {m : Nat} {x y : Int} (h : Bd m y) (k : x.natAbs ≤ y.natAbs) : Bd m x := Nat.lt_of_le_of_lt k h
theorem Bd.abs {m : Nat} {x : Int} (h : Bd m x) : Bd m (x.natAbs : Int) := by unfold Bd at *; simpa using h
theorem Bd.log {n : Nat} {x : Int} (h : Bd n x) (hn : 0 < n) : x.natAbs.log2 < n := by
  by_cases h0 : x.natAbs = 0
  · rw [h0]; simpa using hn
  · exact (Nat.log2_lt h0).mpr h
theorem Fr.bdq {t b q r : Int} {n : Nat} (h : Fr t b q r) (k : Bd n t) : Bd n q := k.le h.topLe
theorem Fr.bdr {t b q r : Int} {n : Nat} (h : Fr t b q r) (k : Bd n b) : Bd n r := k.le h.botLe
end Mth
namespace Bit
/-- the rooms of bits, rising -/
def rooms (n : Nat) : List Nat := (List.range 61).filter n.testBit
/-- bits of a list of rooms -/
def sumOf (l : List Nat) : Nat := l.foldl (fun n r => n ||| 2 ^ r) 0
/-- the parts, as the program makes them -/
def parts (l : List Nat) : List Nat := l.foldl (fun ps r => ps ++ ps.map (· ||| 2 ^ r)) [0]
structure Ok (ps l : List Nat) : Prop where
  len : ps.length = 2 ^ l.length
  first : ps[0]? = some 0
  last : ps[ps.length - 1]? = some (sumOf l)
  rise : ps.Pairwise (· < ·)
  sub : ∀ p ∈ ps, ∀ k, p.testBit k = true → k ∈ l
end Bit
namespace L2
open PySem PySem.Spec PyProof.Rows Mth

theorem bt_len : bootBuiltins "len" = some (.builtin "len") := by decide +kernel
theorem bt_isinstance : bootBuiltins "isinstance" = some (.builtin "isinstance") := by decide +kernel
theorem bt_tuple : bootBuiltins "tuple" = some (.type "tuple") := by decide +kernel
theorem bt_list : bootBuiltins "list" = some (.type "list") := by decide +kernel
theorem bt_int : bootBuiltins "int" = some (.type "int") := by decide +kernel
theorem bt_bool : bootBuiltins "bool" = some (.type "bool") := by decide +kernel

theorem bd_bits {n : Nat} {x : Int} (h : Bd n x) : Builtin.Int.intBits x ≤ n := PySem.intBits_le_iff.mpr h
theorem bits_bd {n : Nat} {x : Int} (h : Builtin.Int.intBits x ≤ n) : Bd n x := PySem.intBits_le_iff.mp h

section
variable {X : Cx}
def CMulB (i j : Int) : Prop := ∃ m n, Bd m i ∧ Bd n j ∧ m + n ≤ 100000000
def CDivB (_ j : Int) : Prop := j ≠ 0 ∧ Bd 8999 j
theorem op_mulB : OpR X (binaryOp .Mult) (rI CMulB fun i j => .int (i * j)) := opI fun _ _ _ _ _ _ _ hc q => by
  obtain ⟨m, n, h1, h2, h3⟩ := hc
  exact mul_int q (IntMulOk.of_le (bd_bits h1) (bd_bits h2) (by omega))
theorem op_fdivB : OpR X (binaryOp .FloorDiv) (rI CDivB fun i j => .int (i.fdiv j)) := opI fun _ _ _ _ _ _ _ hc q => by
  have h2 : Bd 8999 _ := hc.2
  exact floordiv_int hc.1 q (.inl (PyProof.noPylong_of_log2 (Nat.lt_of_lt_of_le (h2.log (by decide)) (by decide))))
/-- xs[i] of a list or a tuple -/
def rIxA (K : PySem.W.Frag) : R2 := fun x y H Q => ∃ p xs i v, x = .ref p ∧ y = .int i ∧ (SqL K H p xs ∨ SqT K H p xs) ∧ atI xs i = some v ∧ Q v H
theorem ix_any : IxR X (rIxA X.K) := by
  intro value slice pins s σ H x y v u Q I rx ry h hs
  obtain ⟨p, xs, i, w, e1, e2, hq, e3, q⟩ := h
  rcases hq with hq | hq
  · exact ix_list value slice pins s σ H x y v u Q I rx ry ⟨p, xs, i, w, e1, e2, hq, e3, q⟩ hs
  · exact ix_tup value slice pins s σ H x y v u Q I rx ry ⟨p, xs, i, w, e1, e2, hq, e3, q⟩ hs
/-- isinstance(x, c), c one class -/
theorem call_isinst : CallR X (.builtin "isinstance") (fun xs H Q => ∃ x c t cv b, xs = [x, c] ∧ TyOf X.K H x t ∧ RelV c cv ∧ PySem.W.kitOne X.K t cv = some b ∧ Q (.bl b) H) := by
  intro pins s σ H xs us Q I r h
  obtain ⟨x, c, t, cv, b, rfl, ty, rc, e, q⟩ := h
  obtain ⟨u, w', rfl, r1, r2⟩ := vals2 r
  have : w' = cv := by
    cases c with
    | non => cases r2; cases rc; rfl
    | bl b => cases r2; cases rc; rfl
    | ref a => cases r2; cases rc; rfl
    | ty n => cases r2; cases rc; rfl
    | int i => exact absurd e (by obtain ⟨k, rfl⟩ := rc; intro z; unfold PySem.W.kitOne PySem.W.kitCls at z; cases ty <;> simp at z)
    | str i => exact absurd e (by obtain ⟨k, rfl⟩ := rc; intro z; unfold PySem.W.kitOne PySem.W.kitCls at z; cases ty <;> simp at z)
    | byt i => exact absurd e (by obtain ⟨k, rfl⟩ := rc; intro z; unfold PySem.W.kitOne PySem.W.kitCls at z; cases ty <;> simp at z)
    | flt i => exact absurd e (by obtain ⟨k, rfl⟩ := rc; intro z; unfold PySem.W.kitOne PySem.W.kitCls at z; cases ty <;> simp at z)
  subst this
  exact isinst_ok I r1 ty e fun tk => ⟨.bl b, H, I.tok _, rfl, q⟩
end

def Has (K : PySem.W.Frag) (mg : Str → Option Value) (x : Str) (st : Stmt) : Prop := ∃ f fd, mg x = some (.ref f) ∧ Fun K x x st f fd
def Def (P : Program) (w : World) (K : PySem.W.Frag) (mg : Str → Option Value) (base : Heap) (x : Str) (k : Nat) (ps : List Str) (sp : Sp) : Prop :=
  ∃ f fd, mg x = some (.ref f) ∧ PySem.W.keepIn K (.ref f) = true ∧ Binds K fd ps [] ∧ FnOk P w K mg base CX0 k f fd ps sp
section
variable {P : Program} {w : World} {K : PySem.W.Frag} {mg : Str → Option Value} {base : Heap}
theorem Has.def {x : Str} {st : Stmt} {N ps : List Str} {k : Nat} {sp : Sp} (h : Has K mg x st) (S : FnScope N ps (defScope st)) (len : ∀ vs H Q E, sp vs H Q E → vs.length = ps.length)
    (hb : ∀ (kV doc pm : Value) (an : Option Addr) (cdv ct : Value) (us : List Value), us.length = ps.length → bindArgs (PySem.W.fnOf x x (defArgs st) (defBody st) (defScope st) .none kV doc pm an cdv ct) ⟨us, []⟩ = pure (ps.zip us))
    (hbody : ∀ (f : Addr) (cdv : Value) (A : Around) (outer : List Env) (s : Shared) (H : Hp) (vs : List V) (Q : VK) (E : XK), Room k (A.deeper (envOfC x (defScope st) s.heap.objs.size f cdv)) → sp vs H Q E →
      ∃ t, PSs (cxOf CX0 P w K mg base N x (defScope st) f cdv A outer s H E).nox (defBody st) t ∧ t { nx := fun _ H' => Q .non H', rt := Q } (start N vs) H) : Def P w K mg base x (k + 1) ps sp := by
  obtain ⟨f, fd, hm, F⟩ := h
  exact ⟨f, fd, hm, F.kp, F.binds hb, F.ok S len fun cdv A outer s H vs Q E hr hs => hbody f cdv A outer s H vs Q E hr hs⟩
theorem Def.mono {x : Str} {j k : Nat} {ps : List Str} {sp : Sp} (D : Def P w K mg base x j ps sp) (h : j ≤ k) : Def P w K mg base x k ps sp :=
  let ⟨f, fd, a, b, c, d⟩ := D; ⟨f, fd, a, b, c, d.mono h⟩
theorem Fun.binds1 {x qual : Str} {st : Stmt} {f : Addr} {fd : FuncData} {p : Str} (F : Fun K x qual st f fd)
    (h : ∀ (kV doc pm : Value) (an : Option Addr) (cdv ct : Value) (u : Value), bindArgs (PySem.W.fnOf x qual (defArgs st) (defBody st) (defScope st) .none kV doc pm an cdv ct) ⟨[u], []⟩ = pure [(p, u)]) (s : Shared) (u : Value) : BindsTo s fd ⟨[u], []⟩ [(p, u)] := by
  obtain ⟨oc, od, kV, doc, pm, an, cdv, ct, osl, rfl, lk, hcd⟩ := F.ex
  exact .of_eq (h kV doc pm an cdv ct u)
end
section
variable {X : Cx} {x : Str} {p pos : Pos} {e : Expr} {es : List Expr} {t : TA} {k : Nat} {ps : List Str} {sp : Sp}
theorem pe_callD (D : Def X.prog X.w X.K X.mg X.base x k ps sp) (hr : Room k X.A) (ha : PA X (e :: es) t) (hg : Gl X x := by rfl) (hdb : (x == ("__debug__" : Str)) = false := by decide)
    (he : starEach (e :: es) X.env = (false, eval e X.env) :: starEach es X.env := by rfl) (hpl : (backTo pos (starEach es X.env)).any (·.1) = false := by rfl) : PE X (.Call (.Name x p) (e :: es) [] pos) (tCall sp [] E0 t) := by
  obtain ⟨f, fd, hm, hk, hb, F⟩ := D
  exact pe_call F hr hg hm hk hb .nil pass0 ha hdb he hpl
end

theorem weight_int {n : Int} {m : Nat} (h : (PySem.W.WData.int n).weight ≤ m) : Bd m n := by
  refine bits_bd ?_
  simpa only [PySem.W.WData.weight, Builtin.Int.intBits] using h
end L2
namespace Att
open PySem PySem.W PySem.Calls PyProof.Rows Mth
theorem attach_callB {l : OpenLaw} {n : Nat} {q : Program} {loose : List Str} {XP : (Str → Option Value) → Heap → Prop} {YP : World → Heap → Prop} {d : DefRec}
    (hn : l.most = some n) (hdf : d.params.defaults = [])
    (call : ∀ (w : World) (s₀ s₁ : Shared) (mg mb : Str → Option Value) (fa : Addr) (o : Obj) (pm cd doc : Value) (a : Addr) (vs : List Value) (ns : List Int),
      Ground q loose [] XP w s₀ mg mb s₁.heap → YP w s₁.heap →
      s₁.heap.get? fa = some o → o.data = .func (docDef d.name d.params d.body d.scope pm cd doc) → s₁.heap.CodeRec cd d.name → mg d.name = some (.ref fa) →
      s₁.heap.get? a = some { cls := .type "list", data := .seq vs.toArray } → IntsAre vs ns → ns.length ≤ n → (∀ z ∈ ns, Bd 1048576 z) → s₁.gens = #[] →
      codeAny (model l.prog w) callerA (.call (.ref fa) ⟨[.ref a], []⟩) (fun r s' => r = .ok (.ret (.bool true)) ∧ OldK s₁.heap s'.heap ∧ s'.os = s₁.os ∧ AllBare s'.gens) s₁) :
    WalkO q loose XP YP l.row.toRowW d [] (fun f vs => PySem.call f vs) := by
  intro w s₀ s₁ mg mb G Y fa o pm cd doc dV kV ho hd hcd hD hmg hg args vals as hpre hlay hrd hwl hlo
  obtain rfl : dV = .none := Dflts.none hD hdf
  obtain rfl : kV = .none := Dflts.noKw hD
  obtain ⟨a, vs, ns, rfl, rfl, hobj, hints, hlen⟩ := script_of hn hpre hwl
  have hbits : ∀ z ∈ ns, Bd 1048576 z := fun z hz => by
    have h1 := layableW_arg hlay _ (List.mem_singleton.mpr rfl)
    have h2 := layableW_item h1 (.int z) (List.mem_map.mpr ⟨z, hz, rfl⟩)
    exact L2.weight_int (Nat.le_trans (layableW_iff.mp h2).2.2 (by decide))
  refine enter_call (codeAny_mono (call w s₀ s₁ mg mb fa o pm cd doc a vs ns G Y ho (fd_plain hd) hcd hmg hobj hints hlen hbits hg) fun r s' hq => ?_)
  obtain ⟨rfl, h2, h3, h4⟩ := hq
  exact ⟨.inl ⟨.bool true, .bool true, [], rfl, fun _ => rfl, .bool true, post_true l _, fun _ => ⟨List.Pairwise.nil, fun _ hm => (nomatch hm)⟩⟩, h2, h3, h4⟩
end Att
namespace L2
open PySem PySem.Spec PyProof.Rows Mth
/-- law's promise: a list of at most 63 ints (each below 2 ^ 2 ^ 20) is handed in, True comes out -/
def sp_law (K : PySem.W.Frag) : Sp := fun vs H Q _ => ∃ (a : Addr) (ns : List Int), vs = [.ref a] ∧ SqL K H a (ns.map V.int) ∧ ns.length ≤ 63 ∧ (∀ z ∈ ns, Bd 1048576 z) ∧ ∀ H', Q (.bl true) H'
section
variable {X : Cx}
def rAddL : R2 := fun x y H Q => ∃ i j, x = .int i ∧ y = .int j ∧ ∀ r : Int, r = i + j → Q (.int r) H
def rSubL : R2 := fun x y H Q => ∃ i j, x = .int i ∧ y = .int j ∧ ∀ r : Int, r = i - j → Q (.int r) H
def rMulL : R2 := fun x y H Q => ∃ i j, x = .int i ∧ y = .int j ∧ CMulB i j ∧ ∀ r : Int, r = i * j → Q (.int r) H
def rDivL : R2 := fun x y H Q => ∃ i j, x = .int i ∧ y = .int j ∧ CDivB i j ∧ ∀ r : Int, r = i.fdiv j → Q (.int r) H
def rPowL : R2 := fun x y H Q => ∃ i j, x = .int i ∧ y = .int j ∧ CPow i j ∧ ∀ r : Int, r = i ^ j.toNat → Q (.int r) H
def rShlL : R2 := fun x y H Q => ∃ i j, x = .int i ∧ y = .int j ∧ CPow i j ∧ ∀ r : Int, r = i * 2 ^ j.toNat → Q (.int r) H
def rShrL : R2 := fun x y H Q => ∃ i j, x = .int i ∧ y = .int j ∧ 0 ≤ j ∧ ∀ r : Int, r = i / 2 ^ j.toNat → Q (.int r) H
def rOrL : R2 := fun x y H Q => ∃ i j, x = .int i ∧ y = .int j ∧ ∀ r : Int, r = Builtin.bitOr i j → Q (.int r) H
def rAndL : R2 := fun x y H Q => ∃ i j, x = .int i ∧ y = .int j ∧ ∀ r : Int, r = Builtin.bitAnd i j → Q (.int r) H
def rLM : R2 := fun x y H Q => ∃ i j, x = .int i ∧ y = .int j ∧ 0 < j ∧ ∀ r : Int, 0 ≤ r → r < j → r = i % j → Q (.int r) H
theorem op_addL : OpR X (binaryOp .Add) rAddL := fun pins s σ H x y v u Q I rx ry ⟨i, j, e1, e2, q⟩ => op_add pins s σ H x y v u Q I rx ry ⟨i, j, e1, e2, q _ rfl⟩
theorem op_subL : OpR X (binaryOp .Sub) rSubL := fun pins s σ H x y v u Q I rx ry ⟨i, j, e1, e2, q⟩ => op_sub pins s σ H x y v u Q I rx ry ⟨i, j, e1, e2, q _ rfl⟩
theorem op_mulL : OpR X (binaryOp .Mult) rMulL := fun pins s σ H x y v u Q I rx ry ⟨i, j, e1, e2, c, q⟩ => op_mulB pins s σ H x y v u Q I rx ry ⟨i, j, e1, e2, c, q _ rfl⟩
theorem op_fdivL : OpR X (binaryOp .FloorDiv) rDivL := fun pins s σ H x y v u Q I rx ry ⟨i, j, e1, e2, c, q⟩ => op_fdivB pins s σ H x y v u Q I rx ry ⟨i, j, e1, e2, c, q _ rfl⟩
theorem op_powL : OpR X (binaryOp .Pow) rPowL := fun pins s σ H x y v u Q I rx ry ⟨i, j, e1, e2, c, q⟩ => op_pow pins s σ H x y v u Q I rx ry ⟨i, j, e1, e2, c, q _ rfl⟩
theorem op_shlL : OpR X (binaryOp .LShift) rShlL := fun pins s σ H x y v u Q I rx ry ⟨i, j, e1, e2, c, q⟩ => op_shl pins s σ H x y v u Q I rx ry ⟨i, j, e1, e2, c, q _ rfl⟩
theorem op_shrL : OpR X (binaryOp .RShift) rShrL := fun pins s σ H x y v u Q I rx ry ⟨i, j, e1, e2, c, q⟩ => op_shr pins s σ H x y v u Q I rx ry ⟨i, j, e1, e2, c, q _ rfl⟩
theorem op_orL : OpR X (binaryOp .BitOr) rOrL := fun pins s σ H x y v u Q I rx ry ⟨i, j, e1, e2, q⟩ => op_or pins s σ H x y v u Q I rx ry ⟨i, j, e1, e2, q _ rfl⟩
theorem op_modL : OpR X (binaryOp .Mod) rLM := fun pins s σ H x y v u Q I rx ry ⟨i, j, e1, e2, c, q⟩ =>
  op_mod pins s σ H x y v u Q I rx ry ⟨i, j, e1, e2, c, q _ (Int.emod_nonneg _ (by omega)) (Int.emod_lt_of_pos _ c) rfl⟩
theorem call_lenL : CallR X (.builtin "len") (fun xs H Q => ∃ p ys, xs = [.ref p] ∧ (SqL X.K H p ys ∨ SqT X.K H p ys) ∧ ∀ r : Int, r = ys.length → Q (.int r) H) :=
  fun pins s σ H xs us Q I r ⟨p, ys, e, hq, q⟩ => call_len_seq pins s σ H xs us Q I r ⟨p, ys, e, hq, q _ rfl⟩
def tCut (t : TS) : TS := fun D σ H => ∃ P : St → Hp → Prop, t { D with nx := P } σ H ∧ ∀ σ' H', P σ' H' → D.nx σ' H'
theorem ps_cut {st : Stmt} {t : TS} (h : PS X st t) : PS X st (tCut t) := by
  intro pins s σ H D I hw
  obtain ⟨P, h1, h2⟩ := hw
  refine thn (h pins s σ H { D with nx := P } I h1) fun f s1 q => ?_
  cases f with
  | next =>
    obtain ⟨σ', H', I', q⟩ := q
    exact ⟨σ', H', I', h2 σ' H' q⟩
  | ret v => exact q
  | brk => exact q
  | cont => exact q
end
theorem iteP {c A B : Prop} [Decidable c] (hc : c) (h : A) : if decide c = true then A else B := by
  rw [decide_eq_true hc]; exact iteT h
theorem iteN {c A B : Prop} [Decidable c] (hc : ¬ c) (h : B) : if decide c = true then A else B := by
  rw [decide_eq_false hc]; exact iteF h
theorem ite3 {c A B : Prop} [Decidable c] (h1 : c → A) (h2 : ¬ c → B) : if decide c = true then A else B := by
  by_cases h : c
  · exact iteP h (h1 h)
  · exact iteN h (h2 h)
theorem int_inj {a b : Int} : V.int a = V.int b ↔ a = b := ⟨fun e => by cases e; rfl, fun e => by rw [e]⟩
theorem same_upd {H : Hp} {p : Addr} {o : HO} (h : H p = none) : Same H (upd H p o) := fun b u e => by rw [upd_ne (ne_of_none e h)]; exact e
theorem Same.tup {K : PySem.W.Frag} {H H' : Hp} {a : Addr} {xs : List V} (e : Same H H') (h : SqT K H a xs) : SqT K H' a xs := by
  rcases h with (h | ⟨o, h⟩) | h
  · exact .inl (.inl (e _ _ h))
  · exact .inl (.inr ⟨o, e _ _ h⟩)
  · exact .inr h
theorem bdd {n : Nat} {x : Int} (h : x.natAbs < 2 ^ n := by decide) : Bd n x := h
theorem bdS {x : Int} (n : Nat) (lo : -(2 ^ 100) < x) (hi : x < 2 ^ 100) (h : 100 ≤ n := by decide) : Bd n x := by
  have : Bd 100 x := by unfold Bd; omega
  exact this.mono h
theorem kit_int_bool (K : PySem.W.Frag) : PySem.W.kitOne K (.type "int") (.type "bool") = some false := by
  show (if PySem.W.kitMeta "bool" = true then ((PySem.fastBuiltinMro "int").map (·.contains (Value.type "bool"))) else none) = some false
  decide +kernel
theorem sz2 {x y : V} : [x, y].length ≤ sizeLine := by show 2 ≤ sizeLine; decide
theorem sz3 {x y z : V} : [x, y, z].length ≤ sizeLine := by show 3 ≤ sizeLine; decide
def sp_gcd : Sp := fun vs H Q _ => ∃ a b : Int, vs = [.int a, .int b] ∧ ∀ r : Int, r = ((Int.gcd a b : Nat) : Int) → Q (.int r) H
def sp_fraction : Sp := fun vs H Q _ => ∃ t b : Int, vs = [.int t, .int b] ∧ b ≠ 0 ∧ Bd 4000 b ∧ ∀ q r p H', Fr t b q r → Same H H' → H' p = some (.tup [.int q, .int r]) → Q (.ref p) H'
def sp_arith (f : Int → Int → Int → Int → Int) (K : PySem.W.Frag) : Sp := fun vs H Q _ => ∃ p1 p2 a b c d, vs = [.ref p1, .ref p2] ∧ SqT K H p1 [.int a, .int b] ∧ SqT K H p2 [.int c, .int d] ∧ 0 < b ∧ 0 < d ∧
  Bd 1000 a ∧ Bd 1000 b ∧ Bd 1000 c ∧ Bd 1000 d ∧ ∀ q r p H', Fr (f a b c d) (b * d) q r → Same H H' → H' p = some (.tup [.int q, .int r]) → Q (.ref p) H'
def sp_under (K : PySem.W.Frag) : Sp := fun vs H Q _ => ∃ p1 p2 a b c d, vs = [.ref p1, .ref p2] ∧ SqT K H p1 [.int a, .int b] ∧ SqT K H p2 [.int c, .int d] ∧
  Bd 1000 a ∧ Bd 1000 b ∧ Bd 1000 c ∧ Bd 1000 d ∧ Q (.bl (decide (a * d < c * b))) H
def sp_cell_at (K : PySem.W.Frag) : Sp := fun vs H Q _ => ∃ (a : Addr) (ns : List Int) (k : Int), vs = [.ref a, .int k] ∧ SqL K H a (ns.map V.int) ∧ 0 ≤ k ∧ ∀ z, (z ∈ ns ∨ z = 0) → Q (.int z) H
def sp_number_by : Sp := fun vs H Q _ => ∃ c : Int, vs = [.int c] ∧ ∀ n, Bd 110 n → Q (.int n) H
def sp_ratio : Sp := fun vs H Q _ => ∃ t b : Int, vs = [.int t, .int b] ∧ 0 < b ∧ Bd 4000 b ∧ ∀ q r p H', Fr t b q r → Same H H' → H' p = some (.tup [.int q, .int r]) → Q (.ref p) H'
end L2
namespace L2
open PySem PySem.Spec PyProof.Rows Mth

/-- the comprehension's block: its own frame's names N', the closure cl -/
def cxComp (X : Cx) (N' : List Str) (scope : Scope) (cl : List (Str × Addr)) (C : Addr) (s : Shared) (H : Hp) (ex : List Addr) : Cx :=
  { X with N := N', env := compEnvC scope cl C X.env, s₀ := s, H₀ := H, outer := X.stack, ex := ex, fn := fun _ => false, pn := [], xe := fun _ _ => False }

theorem Un.same_but {fs ex : List Addr} {H H' : Hp} {h h' h'' : Heap} {C : Addr} (u : Un fs ex H H' h h') (sb : Heap.SameBut C h' h'') (hC : h.get? C = none) : Un fs ex H H' h h'' := by
  have ne : ∀ b o, h.get? b = some o → b ≠ C := fun b o e z => by rw [z, hC] at e; cases e
  exact ⟨fun b o e n hb hx => sb.extBut b o (ne b o e) (u.keep b o e n hb hx), fun b o e n hb hx => by
      obtain ⟨sl, q⟩ := u.slot b o e n hb hx
      exact ⟨sl, sb.extBut b _ (ne b o e) q⟩, u.free, fun b o e hx => by
      obtain ⟨o', q⟩ := u.there b o e hx
      exact ⟨o', sb.extBut b o' (ne b o e) q⟩, u.tups, u.frzs, u.tbls⟩
theorem HOk.same_but {P : Program} {w : World} {H : Hp} {h h' : Heap} {C : Addr} (x : HOk P w H h) (sb : Heap.SameBut C h h') (hn : H C = none) : HOk P w H h' := fun a o e =>
  (x a o e).stay (fun b u hb q => sb.extBut b u (fun z => by
    subst z
    rcases hb with z | z
    · rw [z, e] at hn; cases hn
    · rw [z] at hn; cases hn) q) (fun _ q => q) fun _ _ q => q

/-- the tests of a comprehension -/
def PIf (X : Cx) (ifs : List Expr) (tt : TT) : Prop :=
  ∀ (pins : List (Addr × Obj)) (s : Shared) (σ : St) (H : Hp) (Q : Bool → Hp → Prop), Inv X pins σ H s → tt σ H Q →
    wpAny (model X.prog X.w) X.A (forIn ifs true fun c r => if r = true then do let ok ← isTrue c X.env (eval c X.env); pure (ForInStep.yield ok) else pure (ForInStep.yield r)) (TP X pins σ Q) X.xe s
def tYes : TT := fun _ H Q => Q true H
theorem pif_nil {X : Cx} : PIf X [] tYes := fun _ _ _ H _ I h => wpAny_tests_nil ⟨H, I, h⟩
theorem pif_one {X : Cx} {c : Expr} {tt : TT} (hc : PT X c tt) : PIf X [c] tt := fun pins s σ H Q I h => wpAny_tests_one (hc pins s σ H Q I h)

def closL (env : Env) : List (Str × NameKind) → List (Str × Addr) → List (Str × Addr)
  | [], acc => acc
  | y :: r, acc => closL env r (if (y.2 == NameKind.free) = true then (y.1, (env.cells.lookup y.1).getD 0) :: acc else acc)
theorem clos_go (env : Env) : ∀ (names : List (Str × NameKind)) (acc : List (Str × Addr)), (∀ y ∈ names, y.2 = .free → ∃ c, env.cells.lookup y.1 = some c) →
    (forIn names acc fun x __s => if (x.snd == NameKind.free) = true then do
        let __do_lift ← cellOf env x.fst
        pure (ForInStep.yield ((x.fst, __do_lift) :: __s))
      else pure (ForInStep.yield __s)) = (pure (closL env names acc) : Sem _)
  | [], acc, _ => rfl
  | y :: r, acc, h => by
    rw [List.forIn_cons]
    by_cases hk : (y.2 == NameKind.free) = true
    · obtain ⟨c, e⟩ := h y List.mem_cons_self (beq_iff_eq.mp hk)
      rw [if_pos hk]
      have ec : cellOf env y.1 = pure c := by unfold cellOf; rw [e]
      rw [ec]
      simp only [pure_bind]
      rw [clos_go env r _ fun z hz => h z (List.mem_cons_of_mem _ hz)]
      simp only [closL, hk, if_true, e, Option.getD_some]
    · rw [if_neg hk]
      simp only [pure_bind]
      rw [clos_go env r _ fun z hz => h z (List.mem_cons_of_mem _ hz)]
      simp only [closL, hk, if_false]
      rfl
theorem clos_eq {scope : Scope} {env : Env} (h : ∀ y ∈ scope.names, y.2 = .free → ∃ c, env.cells.lookup y.1 = some c) : closureFor scope env = pure (closL env scope.names []) := by
  simp only [closureFor]
  rw [clos_go env scope.names [] h]
  simp only [pure_bind]
theorem closL_sub {env : Env} : ∀ {names : List (Str × NameKind)} {acc : List (Str × Addr)}, (∀ y ∈ names, y.2 = .free → ∃ c, env.cells.lookup y.1 = some c) → (∀ x c, acc.lookup x = some c → env.cells.lookup x = some c) →
    ∀ x c, (closL env names acc).lookup x = some c → env.cells.lookup x = some c
  | [], _, _, ha, x, c, e => ha x c e
  | y :: r, acc, h, ha, x, c, e => by
    refine closL_sub (names := r) (fun z hz => h z (List.mem_cons_of_mem _ hz)) ?_ x c e
    intro x c e
    by_cases hk : (y.2 == NameKind.free) = true
    · rw [if_pos hk] at e
      obtain ⟨c', e'⟩ := h y List.mem_cons_self (beq_iff_eq.mp hk)
      rw [e', Option.getD_some, List.lookup_cons] at e
      cases q : x == y.1 with
      | true => rw [q] at e; cases e; rw [beq_iff_eq.mp q]; exact e'
      | false => rw [q] at e; exact ha x c e
    · rw [if_neg hk] at e; exact ha x c e
theorem closL_acc {env : Env} : ∀ {names : List (Str × NameKind)} {acc : List (Str × Addr)} {x : Str}, (∃ c, acc.lookup x = some c) → ∃ c, (closL env names acc).lookup x = some c
  | [], _, _, h => h
  | y :: r, acc, x, ⟨c, h⟩ => by
    refine closL_acc (names := r) ?_
    by_cases hk : (y.2 == NameKind.free) = true
    · rw [if_pos hk, List.lookup_cons]
      cases q : x == y.1 with
      | true => exact ⟨_, rfl⟩
      | false => exact ⟨c, h⟩
    · rw [if_neg hk]; exact ⟨c, h⟩
theorem closL_has {env : Env} : ∀ {names : List (Str × NameKind)} {acc : List (Str × Addr)} {y : Str × NameKind}, y ∈ names → y.2 = .free → ∃ c, (closL env names acc).lookup y.1 = some c
  | z :: r, acc, y, hm, hk => by
    rcases List.mem_cons.mp hm with rfl | hm
    · refine closL_acc (names := r) ?_
      rw [if_pos (beq_iff_eq.mpr hk), List.lookup_cons]
      simp
    · exact closL_has (names := r) hm hk
theorem relabel_of {scope : Scope} {env : Env} {x : Str} {k : NameKind} (h : (relabel scope env).names.lookup x = some k) (hk : k = .cell ∨ k = .free) (hcell : ∀ y ∈ scope.names, y.2 ≠ .cell) : (x, NameKind.free) ∈ scope.names := by
  have hm := PySem.mem_of_lookup h
  obtain ⟨⟨n, k0⟩, h1, h2⟩ := List.mem_map.mp hm
  dsimp only at h2
  split at h2
  · rename_i hc
    cases h2
    have : (k0 == NameKind.free) = true := by
      simp only [Bool.and_eq_true] at hc
      exact hc.1.1
    rw [beq_iff_eq.mp this] at h1
    exact h1
  · cases h2
    rcases hk with rfl | rfl
    · exact absurd rfl (hcell _ h1)
    · exact h1
theorem lookup_relabel_free {env : Env} : ∀ {names : List (Str × NameKind)} {x : Str}, names.lookup x = some .free →
    (names.map fun (n, k) => if (k == NameKind.free && env.scope.kind == .function && env.kindOf n == some .cell) then (n, NameKind.cell) else (n, k)).lookup x = some .cell ∨
    (names.map fun (n, k) => if (k == NameKind.free && env.scope.kind == .function && env.kindOf n == some .cell) then (n, NameKind.cell) else (n, k)).lookup x = some .free
  | [], _, h => by simp at h
  | (n, k) :: r, x, h => by
    have ih := @lookup_relabel_free env r x
    show List.lookup x ((if (k == NameKind.free && env.scope.kind == .function && env.kindOf n == some .cell) = true then (n, NameKind.cell) else (n, k)) :: _) = _ ∨ List.lookup x ((if (k == NameKind.free && env.scope.kind == .function && env.kindOf n == some .cell) = true then (n, NameKind.cell) else (n, k)) :: _) = _
    cases hx : x == n with
    | true =>
      simp only [List.lookup_cons, hx] at h
      cases h
      by_cases hc : (NameKind.free == NameKind.free && env.scope.kind == .function && env.kindOf n == some .cell) = true
      · rw [if_pos hc]; simp [List.lookup_cons, hx]
      · rw [if_neg hc]; simp [List.lookup_cons, hx]
    | false =>
      simp only [List.lookup_cons, hx] at h
      by_cases hc : (k == NameKind.free && env.scope.kind == .function && env.kindOf n == some .cell) = true
      · rw [if_pos hc]; simp only [List.lookup_cons, hx]; exact ih h
      · rw [if_neg hc]; simp only [List.lookup_cons, hx]; exact ih h
section
variable {prog : Program} {w : World} {A : Around} {E : Value → Shared → Prop} {R : Result → Shared → Prop} {s : Shared}
theorem compLoop_go {elt target iter : Expr} {ifs : List Expr} {scope : Scope} {pos : Pos} {it acc : Value} {env : Env} (I : Nat → Shared → Prop)
    (turn : ∀ n s, I n s → wpAny (model prog w) A (pyNext it) (fun r s₁ => match r with
      | none => R (.ok .next) s₁
      | some v => wpAny (model prog w) A (letOwnedTupleGo target it v) (fun _ s₁ => wpAny (model prog w) A (assign target env v) (fun _ s₂ =>
          wpAny (model prog w) A (forIn ifs true fun c r => if r = true then do let ok ← isTrue c env (eval c env); pure (ForInStep.yield ok) else pure (ForInStep.yield r)) (fun ok s₃ =>
            if ok = true then wpAny (model prog w) A (eval elt env) (fun x s₄ =>
              wpAny (model prog w) A (call (.builtin "list.append") [acc, x]) (fun _ s₅ => ∃ m, m < n ∧ I m s₅) (notedBy (model prog w) A env fun e s' => R (.error e) s') s₄) (notedBy (model prog w) A env fun e s' => R (.error e) s') s₃
            else ∃ m, m < n ∧ I m s₃) (notedBy (model prog w) A env fun e s' => R (.error e) s') s₂) (notedBy (model prog w) A env fun e s' => R (.error e) s') s₁) (notedBy (model prog w) A env fun e s' => R (.error e) s') s₁) (notedBy (model prog w) A env fun e s' => R (.error e) s') s)
    (n : Nat) (h : I n s) :
    codeAny (model prog w) A (.compLoop (.ListComp elt [⟨target, iter, ifs, 0⟩] scope pos) 0 it acc env) R s := by
  refine codeAny_loop rfl I (fun n s hI => ?_) n h
  show wpAny _ A ((compTurn (.ListComp elt [⟨target, iter, ifs, 0⟩] scope pos) 0 it acc env).onRaise (fun x => do noteFrame x env; theTreesLotGoes x)) _ _ s
  refine wpAny_noted ?_
  rw [compTurn_list]
  refine wpAny_bind (wpAny_standAt (wpAny_bind (wpAny_mono (turn n s hI) (fun r s₁ h₁ => ?_) fun _ _ h' => h')))
  cases r with
  | none => exact wpAny_pure h₁
  | some v =>
    refine wpAny_bind (wpAny_mono h₁ (fun _ s₁' h₁' => ?_) fun _ _ h' => h')
    refine wpAny_bind (wpAny_mono h₁' (fun _ s₂ h₂ => wpAny_bind (wpAny_mono h₂ (fun ok s₃ h₃ => ?_) fun _ _ h' => h')) fun _ _ h' => h')
    cases ok with
    | false => exact wpAny_pure ⟨rfl, h₃⟩
    | true =>
      exact wpAny_bind (wpAny_bind (wpAny_mono h₃ (fun x s₄ h₄ => wpAny_bind (wpAny_mono h₄ (fun _ s₅ h₅ => wpAny_pure (wpAny_pure ⟨rfl, h₅⟩)) fun _ _ h' => h')) fun _ _ h' => h'))
end
section
variable {X : Cx}
/-- readings: the turn's names come first, then the names of the frame that it reads (their slots) -/
def tComp (wi : TI) (g : TG) (tt : TT) (te : TE) (nt : Nat) (sl : List Nat) : TE := fun σ H Q => wi σ H fun J H1 => ∀ D, H1 D = none →
  ∃ W : Nat → Nat → List V → St → Hp → Prop, (∃ m, W 0 m [] (List.replicate nt none ++ sl.map fun j => (σ[j]?).join) (upd H1 D (.lst []))) ∧
    ∀ i m acc σ' H', W i m acc σ' H' →
      (J.stop i H' ∧ Q (.ref D) H') ∨
      (J.go i H' ∧ ∃ N : List V → St → Hp → Prop, (∀ acc' σ2 H4, N acc' σ2 H4 → ∃ m', m' < m ∧ W (i + 1) m' acc' σ2 H4) ∧ ∀ x H2, J.yld i H' x H2 → g x σ' H2 fun σ2 H3 => tt σ2 H3 fun b H4 =>
        if b = true then te σ2 H4 fun y H5 => H5 D = some (.lst acc) ∧ acc.length < sizeLine ∧ N (acc ++ [y]) σ2 (upd H5 D (.lst (acc ++ [y])))
        else N acc σ2 H4)

theorem pe_comp {elt tg iter : Expr} {ifs : List Expr} {scope : Scope} {pos : Pos} {wi : TI} {g : TG} {tt : TT} {te : TE} {N' : List Str} {nt : Nat} {sl : List Nat}
    (hc : X.calm = true) (hi : PI X tg iter wi) (hg : ∀ cl C s H ex, PG (cxComp X N' scope cl C s H ex) tg g) (ht : ∀ cl C s H ex, PIf (cxComp X N' scope cl C s H ex) ifs tt) (he : ∀ cl C s H ex, PE (cxComp X N' scope cl C s H ex) elt te)
    (hN' : N'.length = nt + sl.length) (hsl : ∀ k j : Nat, sl[k]? = some j → ∃ x, N'[nt + k]? = some x ∧ X.N[j]? = some x ∧ scope.names.lookup x = some .free)
    (hk : scope.kind = .function) (hcell : ∀ y ∈ scope.names, y.2 ≠ .cell) (hnames : ∀ y ∈ scope.names, y.2 = .local → scope.names.lookup y.1 = some .local)
    (hfree : ∀ y ∈ scope.names, y.2 = .free → X.env.kindOf y.1 = some .cell ∨ X.env.kindOf y.1 = some .free)
    (hs : ∀ x, foldedSetIterable iter X.env x = pure x := by intro _; rfl) :
    PE X (.ListComp elt [⟨tg, iter, ifs, 0⟩] scope pos) (tComp wi g tt te nt sl) := by
  intro pins s σ H Q I h
  have hcl : ∀ y ∈ scope.names, y.2 = .free → ∃ c, X.env.cells.lookup y.1 = some c := fun y hy hf => I.ok.has y.1 (hfree y hy hf)
  have csub := closL_sub (env := X.env) (names := scope.names) (acc := []) hcl (fun x c e => by simp at e)
  rw [eval_ListComp]
  refine wpAny_comprehension_free (use := none) (cl := closL X.env scope.names []) rfl hs (clos_eq hcl) hk hnames (thn (hi pins s σ H _ I h) fun v s1 h1 => thn h1 fun itv s2 h2 => ?_)
  obtain ⟨it, fp, tn, J, H2, rfl, I2, T, st2, f2, q⟩ := h2
  have nD : H2 s2.heap.objs.size = none := I2.hok.fresh (Nat.le_refl _)
  obtain ⟨W, ⟨m0, w0⟩, turn⟩ := q s2.heap.objs.size nD
  refine wpAny_newObj_type ?_ (by show 0 ≤ sizeLine; exact Nat.zero_le _)
  have I3 : Inv X pins σ (upd H2 s2.heap.objs.size (.lst [])) { s2 with heap := s2.heap.push { cls := .type "list", data := .seq ([] : List Value).toArray } } :=
    I2.laid (t' := s2.toks) (fun b u e => Heap.get?_push_of_some _ e) (Nat.le_refl _) ⟨Nat.zero_le _, [], 0, .nil, Heap.get?_push_size _ rfl⟩
  generalize hs3 : ({ s2 with heap := s2.heap.push { cls := .type "list", data := .seq ([] : List Value).toArray } } : Shared) = s3 at I3 ⊢
  have hle : s2.heap.objs.size ≤ s3.heap.objs.size := by rw [← hs3]; show _ ≤ (Heap.push _ _).objs.size; rw [Heap.size_push]; exact Nat.le_succ _
  have hkeep23 : ∀ b o, s2.heap.get? b = some o → s3.heap.get? b = some o := fun b o e => by rw [← hs3]; exact Heap.get?_push_of_some _ e
  refine wpAny_newFunctionEnv hcell (by intro y hy; simp at hy) (fun h₁ hns hsb => ?_) hk
  have keep1 : ∀ b o, s3.heap.get? b = some o → h₁.get? b = some o := fun b o e => hsb.extBut b o (Nat.ne_of_lt (Heap.lt_size e)) (Heap.get?_push_of_some _ e)
  have nC : (upd H2 s2.heap.objs.size (.lst [])) s3.heap.objs.size = none := I3.hok.fresh (Nat.le_refl _)
  have frC : s3.heap.get? s3.heap.objs.size = none := Heap.get?_none_of_le (Nat.le_refl _)
  -- the iterator's objects
  have fpIn : ∀ b ∈ fp, b < s2.heap.objs.size := fun b hb => by
    obtain ⟨o, e, _⟩ := T.obj _ _ st2 b hb
    exact Heap.lt_size e
  have fpC : ∀ b ∈ fp, b ≠ s3.heap.objs.size := fun b hb => Nat.ne_of_lt (Nat.lt_of_lt_of_le (fpIn b hb) hle)
  have fpD : ∀ b ∈ fp, b ≠ s2.heap.objs.size := fun b hb => Nat.ne_of_lt (fpIn b hb)
  have fpS : ∀ b ∈ fp, b ∉ frs X.stack := fun b hb hm => by
    rcases List.mem_cons.mp (I2.stkSub b hm) with z | z
    · exact (f2 b hb).2.1 z
    · exact (f2 b hb).2.2.1 z
  have csub' : ∀ x c, (closL X.env scope.names []).lookup x = some c → X.env.cells.lookup x = some c := csub
  have hch : ∀ b ∈ fp, (b ∈ X.ex ∨ X.s₀.heap.objs.size ≤ b) ∧ b ≠ X.env.locals ∧ (∀ x c, X.env.cells.lookup x = some c → c ≠ b) ∧ ∀ p ∈ X.pn ++ pins, p.1 ≠ b := fun b hb =>
    ⟨(f2 b hb).2.2.2.1, (f2 b hb).2.1, (f2 b hb).2.2.2.2.1, (f2 b hb).2.2.2.2.2⟩
  -- the block's context
  have ok' : (cxComp X N' scope (closL X.env scope.names []) s3.heap.objs.size s3 (upd H2 s2.heap.objs.size (.lst [])) fp).Ok := by
    refine ⟨I3.ok.mod, hk, I3.ok.glob, I3.ok.blt, Nat.le_refl _, fun x y c h1 h2 => I3.ok.inj x y c (csub x c h1) (csub y c h2), fun x hx => ?_, (fun x c hf => nomatch hf), I3.ok.hd, I3.ok.frames, .inl rfl, fun b hb => ⟨fpC b hb, fun x c e => (hch b hb).2.2.1 x c (csub x c e)⟩,
      I3.bs, Nat.le_trans I3.ok.bsz I3.sz, fun b o e hb => ?_, fpS, I3.stack, I3.stkFree⟩
    · have hm : (x, NameKind.free) ∈ scope.names := by
        rcases hx with hx | hx
        · exact relabel_of hx (.inl rfl) hcell
        · exact relabel_of hx (.inr rfl) hcell
      exact closL_has hm rfl
    · rcases (hch b hb).1 with z | z
      · exact I3.ok.noex b o e z
      · exact absurd (Nat.lt_of_lt_of_le (Heap.lt_size (I3.ok.bs b o e).1) z) (Nat.lt_irrefl _)
  have I4 : Inv (cxComp X N' scope (closL X.env scope.names []) s3.heap.objs.size s3 (upd H2 s2.heap.objs.size (.lst [])) fp) [] (List.replicate nt none ++ sl.map fun j => (σ[j]?).join) (upd H2 s2.heap.objs.size (.lst []))
      { s3 with heap := h₁, toks := s3.toks + ([] : List (Str × Value)).length } := by
    refine ⟨ok', rfl, I3.bare, Un.kept keep1, ⟨_, hns, fun i x v e1 e2 e3 => ?_⟩, fun x c e => ?_, nC, fun x c e => I3.freeC x c (csub x c e), fun p hp => absurd hp (by simp [cxComp]), I3.hok.kept keep1, ?_⟩
    · by_cases hi : i < nt
      · rw [List.getElem?_append_left (by simpa using hi), List.getElem?_replicate] at e2
        split at e2 <;> cases e2
      · rw [List.getElem?_append_right (by simpa using hi), List.length_replicate, List.getElem?_map] at e2
        cases ej : sl[i - nt]? with
        | none => rw [ej] at e2; cases e2
        | some j =>
          rw [ej] at e2
          have e2' : (σ[j]?).join = some v := Option.some.inj e2
          have eσ : σ[j]? = some (some v) := by
            cases q : σ[j]? with
            | none => rw [q] at e2'; cases e2'
            | some o => rw [q] at e2'; cases e2'; rfl
          obtain ⟨y, n1, n2, n3⟩ := hsl _ j ej
          have : nt + (i - nt) = i := by omega
          rw [this] at n1
          have exy : y = x := Option.some.inj (n1.symm.trans e1)
          subst exy
          have hm : (y, NameKind.free) ∈ scope.names := PySem.mem_of_lookup n3
          have hkx := hfree _ hm rfl
          obtain ⟨m, hn, hl⟩ := I3.loc
          have vis : Vis X.env.scope y := by
            rcases hkx with z | z
            · exact .inr (.inl z)
            · exact .inr (.inr z)
          obtain ⟨u, r, l⟩ := hl j y v n2 eσ vis
          refine ⟨u, r, .inr ⟨lookup_relabel_free n3, ?_⟩⟩
          obtain ⟨c, ec⟩ := closL_has (env := X.env) (acc := []) hm rfl
          refine ⟨c, ec, ?_⟩
          rcases l with ⟨k1, _⟩ | ⟨_, c', e', hcell'⟩
          · rcases hkx with z | z
            · rw [show X.env.kindOf y = some .local from k1] at z; cases z
            · rw [show X.env.kindOf y = some .local from k1] at z; cases z
          · have ecc : c = c' := Option.some.inj ((csub y c ec).symm.trans e')
            subst ecc
            obtain ⟨o, ho, hd⟩ := hcell'
            exact ⟨o, keep1 c o ho, hd⟩
    · obtain ⟨v, o, ho, hd⟩ := I3.cell x c (csub x c e)
      exact ⟨v, o, keep1 c o ho, hd⟩
    · show _ = N'.length
      rw [hN', List.length_append, List.length_replicate, List.length_map]
  have st4 : tn 0 h₁ := T.keep _ _ _ st2 fun b hb o e => keep1 b o (hkeep23 b o e)
  have fpok : ∀ {pl : List (Addr × Obj)} {H' : Hp}, pl = [] → (∀ b ∈ fp, H' b = none) → ∀ b ∈ fp, FpOk (cxComp X N' scope (closL X.env scope.names []) s3.heap.objs.size s3 (upd H2 s2.heap.objs.size (.lst [])) fp) pl H' b := fun {pl H'} hpl hn b hb => by
    subst hpl
    exact ⟨hn b hb, fpC b hb, fpS b hb, .inl hb, fun x c e => (hch b hb).2.2.1 x c (csub x c e), fun p hp => absurd hp (by simp [cxComp])⟩
  have fr4 : ∀ b ∈ fp, (upd H2 s2.heap.objs.size (.lst [])) b = none := fun b hb => by rw [upd_ne (fpD b hb)]; exact (f2 b hb).1
  have loop : codeAny (model X.prog X.w) X.A (.compLoop (.ListComp elt [⟨tg, iter, ifs, 0⟩] scope pos) 0 (.ref it) (.ref s2.heap.objs.size) (compEnvC scope (closL X.env scope.names []) s3.heap.objs.size X.env))
      (compPost (model X.prog X.w) X.A X.xe none (EP X pins σ Q) (.ref s2.heap.objs.size) s3.heap.objs.size) { s3 with heap := h₁, toks := s3.toks + ([] : List (Str × Value)).length } := by
    refine compLoop_go (fun n s' => ∃ i acc σ' H', Inv (cxComp X N' scope (closL X.env scope.names []) s3.heap.objs.size s3 (upd H2 s2.heap.objs.size (.lst [])) fp) [] σ' H' s' ∧ tn i s'.heap ∧ (∀ b ∈ fp, H' b = none) ∧ W i n acc σ' H') ?_ m0 ⟨0, [], _, _, I4, st4, fr4, w0⟩
    rintro n s5 ⟨i, acc, σ5, H5, I5, st5, fr5, w5⟩
    rcases turn i n acc σ5 H5 w5 with ⟨stop, qn⟩ | ⟨go, N, hN, step⟩
    · refine thn (T.done (cxComp X N' scope (closL X.env scope.names []) s3.heap.objs.size s3 (upd H2 s2.heap.objs.size (.lst [])) fp) rfl rfl rfl hc i [] s5 σ5 H5 _ I5 (fpok rfl fr5) st5 stop) fun r s6 ⟨hr, I6⟩ => ?_
      subst hr
      obtain ⟨m, hn, _⟩ := id I6.loc
      refine ⟨m, hn, fun h' sb => ⟨.ref s2.heap.objs.size, H5, ?_, rfl, qn⟩⟩
      exact I3.call' (s' := { s6 with heap := h' }) I6.os (I6.base.same_but sb frC) (I6.hok.same_but sb I6.free) I6.bare hch
    · refine thn (T.item (cxComp X N' scope (closL X.env scope.names []) s3.heap.objs.size s3 (upd H2 s2.heap.objs.size (.lst [])) fp) rfl rfl rfl hc i [] s5 σ5 H5 _ I5 (fpok rfl fr5) st5 go) fun r s6 ⟨u, hr, h6⟩ => ?_
      subst hr
      refine thn h6 fun _ s7 ⟨x, H7, I7, r7, y7, st7, fr7⟩ => ?_
      have I7' := I7.pinned (fpok rfl fr7) (T.obj _ _ st7)
      have again : ∀ {s8 : Shared} {σ8 : St} {H8 : Hp} {acc' : List V}, Inv (cxComp X N' scope (closL X.env scope.names []) s3.heap.objs.size s3 (upd H2 s2.heap.objs.size (.lst [])) fp) ([] ++ pinsAt fp s7.heap) σ8 H8 s8 → (∃ m', m' < n ∧ W (i + 1) m' acc' σ8 H8) →
          ∃ m, m < n ∧ ∃ i acc σ' H', Inv (cxComp X N' scope (closL X.env scope.names []) s3.heap.objs.size s3 (upd H2 s2.heap.objs.size (.lst [])) fp) [] σ' H' s8 ∧ tn i s8.heap ∧ (∀ b ∈ fp, H' b = none) ∧ W i m acc σ' H' := fun {s8 σ8 H8 acc'} I8 ⟨m', hm, w8⟩ => by
        refine ⟨m', hm, i + 1, acc', σ8, H8, I8.unpinned, T.keep _ _ _ st7 fun b hb o e => (I8.pin (b, o) (List.mem_append_right _ (List.mem_append_right _ (mem_pinsAt hb e)))).1, fun b hb => ?_, w8⟩
        obtain ⟨o, e, d⟩ := T.obj _ _ st7 b hb
        exact (I8.pin (b, o) (List.mem_append_right _ (List.mem_append_right _ (mem_pinsAt hb e)))).2.1
      refine wpAny_mono (hg _ _ _ _ _ _ s7 σ5 H7 x u _ I7' r7 (step x H7 y7)) (fun _ s8 ⟨σ8, H8, I8, q8⟩ => ?_) fun _ _ z => False.elim z
      refine wpAny_mono (ht _ _ _ _ _ _ s8 σ8 H8 _ I8 q8) (fun ok s9 ⟨H9, I9, q9⟩ => ?_) fun _ _ z => False.elim z
      cases ok with
      | false =>
        rw [if_neg Bool.false_ne_true] at q9 ⊢
        exact again I9 (hN _ _ _ q9)
      | true =>
        rw [if_pos rfl] at q9 ⊢
        refine wpAny_mono (he _ _ _ _ _ _ s9 σ8 H9 _ I9 q9) (fun y s10 ⟨yv, H10, I10, r10, hD, hz, q10⟩ => ?_) fun _ _ z => False.elim z
        refine wpAny_mono (mt_append (X := (cxComp X N' scope (closL X.env scope.names []) s3.heap.objs.size s3 (upd H2 s2.heap.objs.size (.lst [])) fp)) _ s10 σ8 H10 (.ref s2.heap.objs.size) [yv] (.ref s2.heap.objs.size) [y] (fun _ H11 => N (acc ++ [yv]) σ8 H11) I10 rfl (.cons r10 .nil) ⟨_, acc, yv, rfl, rfl, hD, hz, q10⟩) (fun _ s11 ⟨v11, H11, I11, r11, q11⟩ => ?_) fun _ _ z => False.elim z
        exact again I11 (hN _ _ _ q11)
  exact codeAny_compStart_list loop (T.self _ 0 _ _ _ st4 loop)

/-- the same, the names by themselves: tn the turn's, fr the frame's that it reads, at the slots sl -/
theorem pe_lc {elt tg iter : Expr} {ifs : List Expr} {scope : Scope} {pos : Pos} {wi : TI} {g : TG} {tt : TT} {te : TE} (tn fr : List Str) (sl : List Nat)
    (hp : Paired (fun (j : Nat) (x : Str) => X.N[j]? = some x ∧ scope.names.lookup x = some .free ∧ (X.env.kindOf x = some .cell ∨ X.env.kindOf x = some .free)) sl fr)
    (hc : X.calm = true) (hi : PI X tg iter wi) (hg : ∀ cl C s H ex, PG (cxComp X (tn ++ fr) scope cl C s H ex) tg g) (ht : ∀ cl C s H ex, PIf (cxComp X (tn ++ fr) scope cl C s H ex) ifs tt) (he : ∀ cl C s H ex, PE (cxComp X (tn ++ fr) scope cl C s H ex) elt te)
    (hk : scope.kind = .function) (hcell : ∀ y ∈ scope.names, y.2 ≠ .cell) (hnames : ∀ y ∈ scope.names, y.2 = .local → scope.names.lookup y.1 = some .local)
    (hfree : ∀ y ∈ scope.names, y.2 = .free → y.1 ∈ fr)
    (hs : ∀ x, foldedSetIterable iter X.env x = pure x := by intro _; rfl) :
    PE X (.ListComp elt [⟨tg, iter, ifs, 0⟩] scope pos) (tComp wi g tt te tn.length sl) := by
  have key : ∀ {sl : List Nat} {fr : List Str}, Paired (fun (j : Nat) (x : Str) => X.N[j]? = some x ∧ scope.names.lookup x = some .free ∧ (X.env.kindOf x = some .cell ∨ X.env.kindOf x = some .free)) sl fr →
      (∀ k j : Nat, sl[k]? = some j → ∃ x, fr[k]? = some x ∧ X.N[j]? = some x ∧ scope.names.lookup x = some .free) ∧ ∀ x ∈ fr, X.env.kindOf x = some .cell ∨ X.env.kindOf x = some .free := by
    intro sl fr hp
    induction hp with
    | nil => exact ⟨fun k j h => by simp at h, fun x hx => by simp at hx⟩
    | cons r t ih =>
      refine ⟨fun k j h => ?_, fun x hx => ?_⟩
      · cases k with
        | zero =>
          have e : _ = j := Option.some.inj h
          subst e
          exact ⟨_, rfl, r.1, r.2.1⟩
        | succ k => exact ih.1 k j (by simpa using h)
      · rcases List.mem_cons.mp hx with z | z
        · rw [z]; exact r.2.2
        · exact ih.2 x z
  refine pe_comp (N' := tn ++ fr) hc hi hg ht he (by rw [List.length_append, hp.length]) (fun k j h => ?_) hk hcell hnames (fun y hy hf => (key hp).2 _ (hfree y hy hf)) hs
  obtain ⟨x, e1, e2⟩ := (key hp).1 k j h
  exact ⟨x, by rw [List.getElem?_append_right (Nat.le_add_right _ _), Nat.add_sub_cancel_left]; exact e1, e2⟩
end
/-- over a range -/
theorem comp_range {lo : Int} {n : Nat} {g : TG} {tt : TT} {te : TE} {D : Addr} {Q : Hp → Prop} {σ : St} {H : Hp} (Pv : Nat → List V → St → Hp → Prop) (h0 : Pv 0 [] σ H)
    (hs : ∀ i acc σ H, i < n → Pv i acc σ H → g (.int (lo + i)) σ H fun σ2 H3 => tt σ2 H3 fun b H4 =>
      if b = true then te σ2 H4 fun y H5 => H5 D = some (.lst acc) ∧ acc.length < sizeLine ∧ Pv (i + 1) (acc ++ [y]) σ2 (upd H5 D (.lst (acc ++ [y]))) else Pv (i + 1) acc σ2 H4) (hd : ∀ acc σ H, Pv n acc σ H → Q H) :
    ∃ W : Nat → Nat → List V → St → Hp → Prop, (∃ m, W 0 m [] σ H) ∧ ∀ i m acc σ' H', W i m acc σ' H' → ((Itr lo n).stop i H' ∧ Q H') ∨
      ((Itr lo n).go i H' ∧ ∃ N : List V → St → Hp → Prop, (∀ acc' σ2 H4, N acc' σ2 H4 → ∃ m', m' < m ∧ W (i + 1) m' acc' σ2 H4) ∧ ∀ x H2, (Itr lo n).yld i H' x H2 → g x σ' H2 fun σ2 H3 => tt σ2 H3 fun b H4 =>
        if b = true then te σ2 H4 fun y H5 => H5 D = some (.lst acc) ∧ acc.length < sizeLine ∧ N (acc ++ [y]) σ2 (upd H5 D (.lst (acc ++ [y]))) else N acc σ2 H4) := by
  refine ⟨fun i m acc σ H => m = n - i ∧ i ≤ n ∧ Pv i acc σ H, ⟨n, by simp, Nat.zero_le _, h0⟩, ?_⟩
  rintro i m acc σ H ⟨rfl, hi, p⟩
  by_cases hlt : i < n
  · refine .inr ⟨hlt, Pv (i + 1), fun acc' σ' H' p' => ⟨n - (i + 1), by omega, rfl, hlt, p'⟩, fun x H' y => ?_⟩
    obtain ⟨e, y⟩ := y
    subst e y
    exact hs i acc σ _ hlt p
  · have e : i = n := by omega
    subst e
    exact .inl ⟨Nat.le_refl _, hd acc σ H p⟩
/-- over a list that the turns leave as it is -/
theorem comp_list {K : PySem.W.Frag} {a : Addr} {xs : List V} {g : TG} {tt : TT} {te : TE} {D : Addr} {Q : Hp → Prop} {σ : St} {H : Hp} (Pv : Nat → List V → St → Hp → Prop) (h0 : Pv 0 [] σ H) (hl : ∀ i acc σ H, i ≤ xs.length → Pv i acc σ H → SqL K H a xs)
    (hs : ∀ i x acc σ H, xs[i]? = some x → Pv i acc σ H → g x σ H fun σ2 H3 => tt σ2 H3 fun b H4 =>
      if b = true then te σ2 H4 fun y H5 => H5 D = some (.lst acc) ∧ acc.length < sizeLine ∧ Pv (i + 1) (acc ++ [y]) σ2 (upd H5 D (.lst (acc ++ [y]))) else Pv (i + 1) acc σ2 H4) (hd : ∀ acc σ H, Pv xs.length acc σ H → Q H) :
    ∃ W : Nat → Nat → List V → St → Hp → Prop, (∃ m, W 0 m [] σ H) ∧ ∀ i m acc σ' H', W i m acc σ' H' → ((Itl K a).stop i H' ∧ Q H') ∨
      ((Itl K a).go i H' ∧ ∃ N : List V → St → Hp → Prop, (∀ acc' σ2 H4, N acc' σ2 H4 → ∃ m', m' < m ∧ W (i + 1) m' acc' σ2 H4) ∧ ∀ x H2, (Itl K a).yld i H' x H2 → g x σ' H2 fun σ2 H3 => tt σ2 H3 fun b H4 =>
        if b = true then te σ2 H4 fun y H5 => H5 D = some (.lst acc) ∧ acc.length < sizeLine ∧ N (acc ++ [y]) σ2 (upd H5 D (.lst (acc ++ [y]))) else N acc σ2 H4) := by
  refine ⟨fun i m acc σ H => m = xs.length - i ∧ i ≤ xs.length ∧ Pv i acc σ H, ⟨xs.length, by simp, Nat.zero_le _, h0⟩, ?_⟩
  rintro i m acc σ H ⟨rfl, hi, p⟩
  have q := hl i acc σ H hi p
  by_cases hlt : i < xs.length
  · refine .inr ⟨⟨xs, xs[i], q, by simp [hlt]⟩, Pv (i + 1), fun acc' σ' H' p' => ⟨xs.length - (i + 1), by omega, rfl, hlt, p'⟩, fun x H' y => ?_⟩
    obtain ⟨e, y⟩ := y
    subst e
    exact hs i x acc σ _ (y xs q) p
  · have e : i = xs.length := by omega
    subst e
    exact .inl ⟨⟨xs, q, Nat.le_refl _⟩, hd acc σ H p⟩
section
variable {X : Cx}
def rBitLen : V → List V → Hp → VK → Prop := fun x vs H Q => ∃ i : Int, x = .int i ∧ vs = [] ∧ ∀ b : Int, b = ((Builtin.Int.intBits i : Nat) : Int) → Q (.int b) H
theorem bitOr_nat (a b : Nat) : Builtin.bitOr (a : Int) (b : Int) = ((a ||| b : Nat) : Int) := by
  have d1 : decide (0 ≤ Builtin.bitNot (a : Int)) = false := decide_eq_false (by unfold Builtin.bitNot; omega)
  have d2 : decide (0 ≤ Builtin.bitNot (b : Int)) = false := decide_eq_false (by unfold Builtin.bitNot; omega)
  have n1 : (Builtin.bitNot (Builtin.bitNot (a : Int))).toNat = a := by unfold Builtin.bitNot; omega
  have n2 : (Builtin.bitNot (Builtin.bitNot (b : Int))).toNat = b := by unfold Builtin.bitNot; omega
  unfold Builtin.bitOr Builtin.bitAnd
  rw [d1, d2]
  dsimp only
  rw [n1, n2]
  unfold Builtin.bitNot
  omega
end
def natV (k : Nat) : V := .int (k : Int)
def sp_has_room : Sp := fun vs H Q _ => ∃ n r : Nat, vs = [natV n, natV r] ∧ Q (.bl (n.testBit r)) H
def sp_with_room : Sp := fun vs H Q _ => ∃ n r : Nat, vs = [natV n, natV r] ∧ r ≤ 1000 ∧ Q (natV (n ||| 2 ^ r)) H
def sp_members : Sp := fun vs H Q _ => ∃ n : Nat, vs = [natV n] ∧ n < 2 ^ 61 ∧ ∀ p H', H p = none → Same H H' → H' p = some (.lst ((Bit.rooms n).map natV)) → Q (.ref p) H'
def sp_subsets : Sp := fun vs H Q _ => ∃ n : Nat, vs = [natV n] ∧ n < 2 ^ 61 ∧ (Bit.rooms n).length ≤ 8 ∧ ∀ p H', H p = none → Same H H' → H' p = some (.lst ((Bit.parts (Bit.rooms n)).map natV)) → Q (.ref p) H'
theorem shr_odd (n r : Nat) {s m : Int} (es : s = (n : Int) / 2 ^ ((r : Int)).toNat) (em : m = s % 2) : decide (V.int m = V.int 1) = n.testBit r := by
  rw [Nat.testBit_eq_decide_div_mod_eq]
  have e1 : s = ((n / 2 ^ r : Nat) : Int) := by
    rw [es, Int.toNat_natCast]
    have : ((2 : Int) ^ r) = ((2 ^ r : Nat) : Int) := by rw [Int.natCast_pow]; rfl
    rw [this, ← Int.natCast_ediv]
  have e2 : m = ((n / 2 ^ r % 2 : Nat) : Int) := by rw [em, e1]; exact (Int.natCast_emod _ _).symm
  have e3 : (V.int m = V.int 1) ↔ (n / 2 ^ r % 2 = 1) := by rw [int_inj, e2]; omega
  exact decide_eq_decide.mpr e3
theorem inV_nat (r : Nat) : ∀ l : List Nat, inV (natV r) (l.map natV) = decide (r ∈ l)
  | [] => rfl
  | a :: l => by
    have ih := inV_nat r l
    unfold inV at ih ⊢
    rw [List.map_cons, List.any_cons, ih]
    have e : eqV (natV a) (natV r) = decide (r = a) := by
      show ((a : Int) == (r : Int)) = _
      rw [Bool.eq_iff_iff, beq_iff_eq, decide_eq_true_eq]; omega
    rw [e]
    by_cases h : r = a
    · simp [h]
    · by_cases h2 : r ∈ l <;> simp [h, h2]
theorem flat_nat (l : List Nat) : (l.map natV).all flatV = true := by
  rw [List.all_eq_true]
  intro x hx
  obtain ⟨k, _, rfl⟩ := List.mem_map.mp hx
  rfl
theorem get_natV {l : List Nat} {i : Nat} {x : V} (h : (l.map natV)[i]? = some x) : ∃ k, l[i]? = some k ∧ x = natV k := by
  rw [List.getElem?_map] at h
  cases e : l[i]? with
  | none => rw [e] at h; cases h
  | some k => rw [e] at h; exact ⟨k, rfl, (Option.some.inj h).symm⟩
end L2
namespace L2
open PySem PySem.Spec PyProof.Rows Mth

theorem hide_get {h : Heap} {as : List Addr} {b : Addr} {o : Obj} (e : h.get? b = some o) (n : b ∉ as) : (PySem.W.hideAll h as).get? b = some o := PySem.W.hideAll_get _ e n
/-- an exception flies: from the state s (H) of the one who called, to s' (H'); outer: the frames that it has still to pass -/
structure Fly (P : Program) (w : World) (outer : List Env) (H : Hp) (s : Shared) (cls : Value) (x : Addr) (H' : Hp) (s' : Shared) : Prop where
  os : s'.os = s.os
  bare : AllBare s'.gens
  un : Un (frs outer) [] H H' s.heap s'.heap
  hok : HOk P w H' s'.heap
  fly : ∃ a0 B, Heap.FlyingW B outer x cls a0 s'.heap ∧ (∀ b o, s.heap.get? b = some o → b ∉ frs outer → ∀ o', s'.heap.get? b = some o' → B.get? b = some o') ∧ ∀ b u, H' b = some u → ∃ o, B.get? b = some o
def CX1 (P : Program) (w : World) : CXT := fun outer H s E e s' => ∃ x cls H', e = .ref x ∧ Fly P w outer H s cls x H' s' ∧ E cls none H'

theorem hok_of {P : Program} {w : World} {H : Hp} {h h' B : Heap} (x : HOk P w H h) (hB : ∀ b o, B.get? b = some o → h'.get? b = some o) (hb : ∀ b o, B.get? b = some o → h.get? b = some o) (tk : ∀ b u, H b = some u → ∃ o, B.get? b = some o) : HOk P w H h' := fun a o e =>
  (x a o e).stay (fun b u hb' q => by
    have : ∃ u', H b = some u' := by
      rcases hb' with z | z
      · exact ⟨o, by rw [z]; exact e⟩
      · exact ⟨_, z⟩
    obtain ⟨u', hu'⟩ := this
    obtain ⟨ob, hob⟩ := tk b u' hu'
    have := hb b ob hob
    rw [q] at this
    cases this
    exact hB b u hob) (fun _ q => q) fun _ _ q => q

/-- a fresh exception leaves the body as it is wanted -/
def Thr (X : Cx) (E : XK) : Prop := ∀ (pins : List (Addr × Obj)) (σ : St) (H : Hp) (s : Shared) (h' : Heap) (x : Addr) (cls : Value) (args : List Value), Inv X pins σ H s → Heap.MadeExcOf s.heap h' x cls args → E cls none H → X.xe (.ref x) { s with heap := h' }
section
variable {P : Program} {w : World} {K : PySem.W.Frag} {mg : Str → Option Value} {base : Heap} {N : List Str} {qual : Str} {scope : Scope} {f : Addr} {cd : Value} {A : Around} {outer : List Env} {s₀ : Shared} {H₀ : Hp} {E E' : XK}
theorem thr_of (hE : ∀ cls d H, E' cls d H → E cls d H) : Thr (cxOf (CX1 P w) P w K mg base N qual scope f cd A outer s₀ H₀ E) E' := by
  intro pins σ H s h' x cls args I hx he
  have L1 : (envOfC qual scope s₀.heap.objs.size f cd).frame = some s₀.heap.objs.size := rfl
  have fr := I.ok.frames
  have st := I.stack
  have hin : ∀ env ∈ (envOfC qual scope s₀.heap.objs.size f cd :: outer), ∀ b, env.frame = some b → b ∈ frs (envOfC qual scope s₀.heap.objs.size f cd :: outer) := fun env he b hb => List.mem_filterMap.mpr ⟨env, he, hb⟩
  refine wpAny_leaves_madeW (base := PySem.W.hideAll s.heap (frs (envOfC qual scope s₀.heap.objs.size f cd :: outer))) fr L1 (fun b o q => PySem.W.of_hideAll _ q) (PySem.W.funFrames_hide st hin) hx fun h2 t fl tup tn up => ?_
  have nofr : ∀ b o, s₀.heap.get? b = some o → b ∉ frs outer → b ∉ frs (envOfC qual scope s₀.heap.objs.size f cd :: outer) := fun b o e n hm => by
    rcases List.mem_cons.mp (show b ∈ s₀.heap.objs.size :: frs outer from hm) with z | z
    · exact absurd (Heap.lt_size e) (by rw [z]; exact Nat.lt_irrefl _)
    · exact n z
  have stay : ∀ b o, s.heap.get? b = some o → b ∉ frs (envOfC qual scope s₀.heap.objs.size f cd :: outer) → h2.get? b = some o := fun b o e n => fl.1 b o (hide_get e n)
  have fin : ∀ b ∈ frs outer, ∃ o, s.heap.get? b = some o ∧ ∀ vs, o.data ≠ .fields vs := fun b hb => (I.ok.funs.mem hb).2 |> fun ⟨o, e, hd⟩ => by
    obtain ⟨sl, e2⟩ := I.base.slot b o e (I.ok.frf b hb) hb (by intro z; exact absurd (show b ∈ ([] : List Addr) from z) (by simp))
    exact ⟨_, e2, hd⟩
  have tk : ∀ b u, H b = some u → ∃ o, (PySem.W.hideAll s.heap (frs (envOfC qual scope s₀.heap.objs.size f cd :: outer))).get? b = some o := fun b u e => by
    have nf : b ∉ frs (envOfC qual scope s₀.heap.objs.size f cd :: outer) := fun z => by rw [I.stkFree b z] at e; cases e
    have lt := I.hok.lt e
    cases q : s.heap.get? b with
    | none => 
      obtain ⟨o, ho⟩ : ∃ o, s.heap.get? b = some o := by
        have ok := I.hok b u e
        cases u with
        | lst xs => obtain ⟨_, _, _, _, e⟩ := ok; exact ⟨_, e⟩
        | tup xs => obtain ⟨_, _, _, o, e, _⟩ := ok; exact ⟨_, e⟩
        | dK kvs => obtain ⟨_, _, _, _, o, _, _, e, _⟩ := ok; exact ⟨_, e⟩
        | dT kvs => obtain ⟨_, _, _, _, o, _, _, e, _⟩ := ok; exact ⟨_, e⟩
        | set S n => obtain ⟨o, _, _, _, e, _⟩ := ok; exact ⟨_, e⟩
        | ins C dx fs => obtain ⟨_, _, _, e, _⟩ := ok; exact ⟨_, e⟩
        | own y => obtain ⟨_, e⟩ := ok; exact ⟨_, e⟩
        | xd fs => obtain ⟨_, ⟨_, _, _, e, _⟩, _⟩ := ok; exact ⟨_, e⟩
        | rng lo hi => obtain ⟨_, _, _, e⟩ := ok; exact ⟨_, e⟩
        | frz ob u => obtain ⟨e, _⟩ := ok; exact ⟨_, e⟩
        | tbl ps => exact ⟨_, ok⟩
        | met f y => exact ⟨_, ok⟩
        | ext φ => obtain ⟨_, ⟨_, e⟩, _⟩ := ok; exact ⟨_, e⟩
      rw [q] at ho; cases ho
    | some o => exact ⟨o, hide_get q nf⟩
  refine ⟨x, cls, H, rfl, ⟨I.os, I.bare, ?_, hok_of I.hok fl.1 (fun b o q => PySem.W.of_hideAll _ q) tk, _, _, fl, ?_, tk⟩, hE _ _ _ he⟩
  · refine ⟨fun b o e n hb _ => stay b o (I.base.keep b o e n hb (by simp [cxOf])) (nofr b o e hb), fun b o e n hb _ => ?_, fun b o e n _ => I.base.free b o e n (by simp [cxOf]), fun b o e _ => ?_, I.base.tups, I.base.frzs, I.base.tbls⟩
    · obtain ⟨sl, e1⟩ := I.base.slot b o e n hb (by simp [cxOf])
      obtain ⟨o1, e2, hd⟩ := fin b hb
      rw [e1] at e2
      cases e2
      obtain ⟨sl2, e3⟩ := up b _ (hx.keeps b _ e1) hd
      exact ⟨sl2, e3⟩
    · obtain ⟨o', e1⟩ := I.base.there b o e (by simp [cxOf])
      by_cases hb : b ∈ frs outer
      · obtain ⟨o1, e2, hd⟩ := fin b hb
        obtain ⟨sl2, e3⟩ := up b _ (hx.keeps b _ e2) hd
        exact ⟨_, e3⟩
      · exact ⟨o', stay b o' e1 (nofr b o e hb)⟩
  · intro b o e hb o' e'
    obtain ⟨o1, e1⟩ := I.base.there b o e (by simp [cxOf])
    have e2 := stay b o1 e1 (nofr b o e hb)
    rw [e2] at e'
    cases e'
    exact hide_get e1 (nofr b o e hb)
end
theorem exc_obj {K : PySem.W.Frag} {h : Heap} {C : Addr} {bmB : List Value} {newId : String} (X : K.In h) (q : PySem.W.excIn K C bmB newId = true) :
    ∃ bm N nm q bs hdct sn sub ab col dd k0 k1 k2 k3 k5 mN, h.get? C = some (excClassObj nm q C N bs bm hdct sn sub ab col dd k0 k1 k2 k3 k5 newId) ∧ h.Ns N mN ∧ mN "__init__" = none ∧ OwnTail h bmB bm := by
  unfold PySem.W.excIn at q
  split at q
  · rename_i dd cd sl ho
    split at q
    · rename_i C' bm k0 k1 k2 k3 n k5 hm hs
      simp only [Bool.and_eq_true, beq_iff_eq, Bool.not_eq_true'] at q
      obtain ⟨⟨⟨⟨⟨rfl, rfl⟩, hdel⟩, ht⟩, hok⟩, hni⟩ := q
      obtain ⟨nm, bs, mro, ns, qn, hd, sn, sub, ab, col, del⟩ := cd
      dsimp only at hm hdel hok hni
      subst hm hdel
      have hsl : sl = #[k0, k1, k2, k3, some (.builtin n), k5] := by
        obtain ⟨l⟩ := sl
        simp only at hs
        rw [hs]
      subst hsl
      exact ⟨bm, ns, nm, qn, bs, hd, sn, sub, ab, col, dd, k0, k1, k2, k3, k5, _, X _ _ ho, .of_isNs (PySem.W.isNs_of_in X hok), PySem.W.nsMap_none_of_in X hok hni, PySem.W.tail_of_in X ht⟩
    · cases q
  · cases q
section
variable {X : Cx}
/-- raise C(e, ..) -/
def tRaise (C : Addr) (E : XK) (t : TA) : TS := fun _ σ H => t σ H fun vs H1 => vs.length ≤ sizeLine ∧ E (.ref C) none H1
theorem ps_raise {c : Str} {C : Addr} {B initId : String} {bmB : List Value} {newId : String} {e₀ : Expr} {rest : List Expr} {np cpos pos : Pos} {t : TA} {E : XK} (hc : X.calm = true) (FB : ExcBaseFacts B newId initId bmB)
    (hm : X.mg c = some (.ref C)) (q : PySem.W.excIn X.K C bmB newId = true) (th : Thr X E) (ha : PA X (e₀ :: rest) t) (hg : Gl X c := by rfl) (hd : (c == ("__debug__" : Str)) = false := by decide)
    (he : starEach (e₀ :: rest) X.env = (false, eval e₀ X.env) :: starEach rest X.env := by rfl) (hplain : (backTo cpos (starEach rest X.env)).any (·.1) = false := by rfl) :
    PS X (.Raise (some (.Call (.Name c np) (e₀ :: rest) [] cpos)) none pos) (tRaise C E t) := by
  intro pins s σ H D I h
  obtain ⟨tl, N, nm, qn, bs, hdct, sn, sub, ab, col, dd, k0, k1, k2, k3, k5, mN, hC, hN, hni, T⟩ := exc_obj I.ok.mod.kin q
  refine wpAny_Raise_call_subT (C := C) (nm := nm) (q := qn) (N := N) (bs := bs) (bm := tl) (hdct := hdct) (sn := sn) (sub := sub) (ab := ab) (col := col) (dd := dd) (k0 := k0) (k1 := k1) (k2 := k2) (k3 := k3) (k5 := k5)
    FB (mN := mN) (T.hasType FB.hasBase) (I.ok.hd hc) (by rw [he]; show (false || (backTo cpos (starEach rest X.env)).any (·.1)) = false; rw [hplain]; rfl) hni (ld_glob I hg hm ⟨rfl, ?_⟩ hd)
  have hA := ha cpos pins s σ H _ I h
  rw [he] at hA ⊢
  refine Calls.evalArgs_plain (wpAny_mono hA (fun us s2 ⟨vs, H2, I2, r2, hz, q2⟩ => ⟨rfl, by rw [← r2.length]; exact hz, I2.bk _ _ hC, hN.keeps I2.bk, T.keeps I2.bk, fun h' x hx => ?_⟩) fun _ _ y => y)
  exact th pins σ H2 s2 h' x _ _ I2 hx q2
end
section
variable {P : Program} {w : World} {K : PySem.W.Frag} {mg : Str → Option Value} {base : Heap}
theorem Fun.okX {x qual : Str} {st : Stmt} {f : Addr} {fd : FuncData} {N ps : List Str} {k : Nat} {sp : Sp} (F : Fun K x qual st f fd) (S : FnScope N ps (defScope st)) (len : ∀ vs H Q E, sp vs H Q E → vs.length = ps.length)
    (hbody : ∀ (cdv : Value) (A : Around) (outer : List Env) (s : Shared) (H : Hp) (vs : List V) (Q : VK) (E : XK), Room k (A.deeper (envOfC qual (defScope st) s.heap.objs.size f cdv)) → sp vs H Q E →
      ∃ t, PSs (cxOf (CX1 P w) P w K mg base N qual (defScope st) f cdv A outer s H E) (defBody st) t ∧ t { nx := fun _ H' => Q .non H', rt := Q } (start N vs) H) : FnOk P w K mg base (CX1 P w) (k + 1) f fd ps sp := by
  obtain ⟨oc, od, kV, doc, pm, an, cdv, ct, osl, rfl, lk, hcd⟩ := F.ex
  exact fn_of lk hcd S len fun A outer s H vs Q E hr hsp => hbody cdv A outer s H vs Q E hr hsp
def DefX (P : Program) (w : World) (K : PySem.W.Frag) (mg : Str → Option Value) (base : Heap) (x : Str) (k : Nat) (ps : List Str) (sp : Sp) : Prop :=
  ∃ f fd, mg x = some (.ref f) ∧ PySem.W.keepIn K (.ref f) = true ∧ Binds K fd ps [] ∧ FnOk P w K mg base (CX1 P w) k f fd ps sp
end
def PX (X : Cx) (e : Expr) (t : St → Hp → VK → XK → Prop) : Prop :=
  ∀ (pins : List (Addr × Obj)) (s : Shared) (σ : St) (H : Hp) (Q : VK) (E : XK), Inv X pins σ H s → t σ H Q E →
    wpAny (model X.prog X.w) X.A (eval e X.env) (EP X pins σ Q) (fun ex s' => ∃ H1 s1, Inv X pins σ H1 s1 ∧ CX1 X.prog X.w X.stack H1 s1 E ex s') s
section
variable {X : Cx} {x : Str} {p pos : Pos} {e : Expr} {es : List Expr} {t : TA} {k : Nat} {ps : List Str} {sp : Sp}
end
end L2
namespace L2
open PySem PySem.Spec PyProof.Rows Mth

/-- Fly, its ground B told -/
structure FlyB (P : Program) (w : World) (outer : List Env) (H : Hp) (s : Shared) (cls : Value) (x : Addr) (H' : Hp) (a0 : Value) (B : Heap) (s' : Shared) : Prop where
  os : s'.os = s.os
  bare : AllBare s'.gens
  un : Un (frs outer) [] H H' s.heap s'.heap
  hok : HOk P w H' s'.heap
  fl : Heap.FlyingW B outer x cls a0 s'.heap
  st : ∀ b o, s.heap.get? b = some o → b ∉ frs outer → ∀ o', s'.heap.get? b = some o' → B.get? b = some o'
  tk : ∀ b u, H' b = some u → ∃ o, B.get? b = some o
theorem Fly.b {P : Program} {w : World} {outer : List Env} {H H' : Hp} {s s' : Shared} {cls : Value} {x : Addr} (F : Fly P w outer H s cls x H' s') : ∃ a0 B, FlyB P w outer H s cls x H' a0 B s' :=
  let ⟨a0, B, fl, hB, tk⟩ := F.fly; ⟨a0, B, F.os, F.bare, F.un, F.hok, fl, hB, tk⟩
section
variable {P : Program} {w : World} {outer : List Env} {H H' : Hp} {s s' : Shared} {cls a0 : Value} {x : Addr} {B : Heap}
theorem FlyB.fin (F : FlyB P w outer H s cls x H' a0 B s') : ∀ b ∈ frs outer, ∃ o, s'.heap.get? b = some o ∧ ∀ vs, o.data ≠ .fields vs := fun b hb => (F.fl.2.2.1.mem hb).2
theorem FlyB.moved {h2 : Heap} {t2 : Nat} (F : FlyB P w outer H s cls x H' a0 B s') (fl2 : Heap.FlyingW B outer x cls a0 h2) (up : s'.heap.UpToSlots h2) : FlyB P w outer H s cls x H' a0 B { s' with heap := h2, toks := t2 } := by
  have th : ∀ b o, s.heap.get? b = some o → b ∉ frs outer → ∃ o', B.get? b = some o' ∧ h2.get? b = some o' := fun b o e hb => by
    obtain ⟨o1, e1⟩ := F.un.there b o e (by simp)
    have q := F.st b o e hb o1 e1
    exact ⟨o1, q, fl2.1 b o1 q⟩
  refine ⟨F.os, F.bare, ⟨fun b o e n hb hx => ?_, fun b o e n hb hx => ?_, F.un.free, fun b o e hx => ?_, F.un.tups, F.un.frzs, F.un.tbls⟩, hok_of F.hok fl2.1 F.fl.1 F.tk, fl2, fun b o e hb o' e' => ?_, F.tk⟩
  · exact fl2.1 b o (F.st b o e hb o (F.un.keep b o e n hb hx))
  · obtain ⟨sl, e1⟩ := F.un.slot b o e n hb hx
    obtain ⟨o1, e3, hd⟩ := F.fin b hb
    rw [e1] at e3
    cases e3
    obtain ⟨sl2, e4⟩ := up b _ e1 hd
    exact ⟨sl2, e4⟩
  · by_cases hb : b ∈ frs outer
    · obtain ⟨o1, e3, hd⟩ := F.fin b hb
      obtain ⟨sl2, e4⟩ := up b _ e3 hd
      exact ⟨_, e4⟩
    · obtain ⟨o', _, e4⟩ := th b o e hb
      exact ⟨o', e4⟩
  · obtain ⟨o1, q, e4⟩ := th b o e hb
    have e4' : h2.get? b = some o' := e'
    rw [e4] at e4'
    cases e4'
    exact q
theorem FlyB.none (F : FlyB P w outer H s cls x H' a0 B s') : H' x = none := by
  cases q : H' x with
  | none => rfl
  | some u =>
    obtain ⟨o, e⟩ := F.tk x u q
    rw [F.fl.2.1] at e
    cases e
theorem FlyB.obj (F : FlyB P w outer H s cls x H' a0 B s') : ∃ oe vs, s'.heap.get? x = some oe ∧ oe.cls = cls ∧ oe.data = .fields vs :=
  let ⟨oe, vs, e, c, d, _⟩ := F.fl.first; ⟨oe, vs, e, c, d⟩
theorem FlyB.nofr (F : FlyB P w outer H s cls x H' a0 B s') : x ∉ frs outer := fun z => by
  obtain ⟨o, e, hd⟩ := F.fin x z
  obtain ⟨oe, vs, e', _, d⟩ := F.obj
  rw [e] at e'
  cases e'
  exact hd vs d
end

/-- within an except suite: the exception at e, its object oe -/
def Cx.held (X : Cx) (e : Addr) (oe : Obj) : Cx := { X with A := X.A.mark (some (.ref e)), calm := false, pn := X.pn ++ [(e, oe)], xe := fun _ _ => False }
theorem Cx.Ok.held {X : Cx} (ok : X.Ok) (e : Addr) (oe : Obj) : (X.held e oe).Ok :=
  ⟨ok.mod, ok.kind, ok.glob, ok.blt, ok.above, ok.inj, ok.has, ok.cab, (fun z => nomatch z), ok.frames, ok.stk, ok.exf, ok.bs, ok.bsz, ok.noex, ok.exfs, ok.funs, ok.frf⟩
section
variable {X : Cx} {pins : List (Addr × Obj)} {σ : St} {H H' : Hp} {s s' : Shared} {cls a0 : Value} {e : Addr} {oe : Obj} {B : Heap}
theorem Inv.caught (I : Inv X pins σ H s) (F : FlyB X.prog X.w X.stack H s cls e H' a0 B s') : Inv X pins σ H' s' :=
  I.call' (ch := []) F.os F.un F.hok F.bare (fun b z => absurd z (by simp))
theorem Inv.held {vs : Array Value} (I : Inv X pins σ H s) (he : s.heap.get? e = some oe) (hd : oe.data = .fields vs) (hn : H e = none) : Inv (X.held e oe) pins σ H s := by
  refine ⟨I.ok.held e oe, I.os, I.bare, I.base, I.loc, I.cell, I.free, I.freeC, fun p hp => ?_, I.hok, I.len⟩
  rcases List.mem_append.mp hp with hp | hp
  · rcases List.mem_append.mp hp with hp | hp
    · exact I.pin p (List.mem_append_left _ hp)
    · have ep : p = (e, oe) := by simpa using hp
      subst ep
      refine ⟨he, hn, fun z => ?_, fun z => ?_, fun v z => ?_⟩
      · obtain ⟨m, ⟨o, es, ep, ho, hod, _⟩, _⟩ := I.loc
        have z' : e = X.env.locals := z
        rw [z', ho] at he
        cases he
        rw [hod] at hd
        cases hd
      · obtain ⟨_, o, ho, hnf⟩ := I.funs.mem z
        have ho' : s.heap.get? e = some o := ho
        rw [he] at ho'
        cases ho'
        exact hnf vs hd
      · have z' : oe.data = .cell v := z
        rw [hd] at z'
        cases z'
  · exact I.pin p (List.mem_append_right _ hp)
theorem Inv.unheld (ok : X.Ok) (I : Inv (X.held e oe) pins σ H s) : Inv X pins σ H s :=
  ⟨ok, I.os, I.bare, I.base, I.loc, I.cell, I.free, I.freeC, fun p hp => I.pin p ((List.mem_append.mp hp).elim (fun z => List.mem_append_left _ (List.mem_append_left _ z)) fun z => List.mem_append_right _ z), I.hok, I.len⟩
/-- the name of an except clause goes behind its suite -/
theorem name_gone {A : Around} {E : Value → Shared → Prop} {i : Nat} {n : Str} {pos : Pos} {Q : Unit → Shared → Prop} (I : Inv X pins σ H s) (hN : X.N.Nodup) (hi : X.N[i]? = some n) (hl : X.env.scope.names.lookup n = some .local)
    (h : ∀ s', Inv X pins (σ.set i none) H s' → Q () s') : wpAny (model X.prog X.w) A (do bindName X.env n .none; unbindBehindTheSuite X.env n pos) Q E s := by
  obtain ⟨m, hn, hm⟩ := id I.loc
  refine wpAny_nameGoes_keeps hl hn (by rw [I.ok.kind]; rfl) fun h' v hn' hs => h _ ?_
  have cne := I.cne
  refine ⟨I.ok, I.os, I.bare, I.base.same_but hs (Heap.get?_none_of_le I.ok.above), ⟨_, hn', fun j y v' e1 e2 e3 => ?_⟩, fun y c q => ?_, I.free, I.freeC, fun p hp => ?_, I.hok.same_but hs I.free, by rw [List.length_set]; exact I.len⟩
  · by_cases hj : j = i
    · subst hj
      rw [List.getElem?_set] at e2
      simp only [if_true] at e2
      split at e2 <;> cases e2
    · rw [List.getElem?_set_ne (Ne.symm hj)] at e2
      obtain ⟨u', r', q⟩ := hm j y v' e1 e2 e3
      refine ⟨u', r', ?_⟩
      rcases q with ⟨k, q⟩ | ⟨k, c, q, z⟩
      · refine .inl ⟨k, ?_⟩
        have : y ≠ n := fun z => hj (nodup_ix hN e1 (z ▸ hi))
        show (if y = n then v else m y) = some u'
        rw [if_neg this]
        exact q
      · exact .inr ⟨k, c, q, z.sameBut hs (cne y c q)⟩
  · obtain ⟨w', z⟩ := I.cell y c q
    exact ⟨w', z.sameBut hs (cne y c q)⟩
  · obtain ⟨q, n', ne, nf, d⟩ := I.pin p hp
    exact ⟨(hs.2 p.1 ne).trans q, n', ne, nf, d⟩
end

/-- a block; E: what is wanted of an exception, by the frame's values at its place -/
def PSx (X : Cx) (st : List Stmt) (t : (St → XK) → TS) : Prop :=
  ∀ (pins : List (Addr × Obj)) (s : Shared) (σ : St) (H : Hp) (D : Ends) (E : St → XK), Inv X pins σ H s → t E D σ H →
    wpAny (model X.prog X.w) X.A (execs st X.env) (SP X pins D) (fun ex s' => ∃ σ1 H1 s1, Inv X pins σ1 H1 s1 ∧ CX1 X.prog X.w X.stack H1 s1 (E σ1) ex s') s
section
variable {X : Cx} {pos : Pos}
theorem psx_expr {e : Expr} {t : St → Hp → VK → XK → Prop} (he : PX X e t) (hs : swapsWith e none pos.line X.env = pure false := by rfl) : PSx X [.Expr e pos] (fun E D σ H => t σ H (fun _ H1 => D.nx σ H1) (E σ)) := by
  intro pins s σ H D E I h
  refine wpAny_execs_cons (wpAny_Expr_any (wpAny_mono (he pins s σ H _ _ I h) (fun v s1 q => ?_) fun ex s1 q => ?_) I.quiet hs)
  · obtain ⟨x, H1, I1, r1, q1⟩ := q
    exact wpAny_execs_nil ⟨σ, H1, I1, q1⟩
  · obtain ⟨H1, s1, I1, c⟩ := q
    exact ⟨σ, H1, s1, I1, c⟩
def Ends.unset (D : Ends) (i : Nat) : Ends := ⟨fun σ H => D.nx (σ.set i none) H, D.rt, fun σ H => D.bk (σ.set i none) H, fun σ H => D.ct (σ.set i none) H⟩
def tTry (K : PySem.W.Frag) (c : Value) (i : Nat) (t : (St → XK) → TS) (ts : Value → Addr → TS) : TS := fun D σ H =>
  t (fun σ1 cls _ H1 => PySem.W.exmOne K cls c = some true ∧ ∀ e, H1 e = none → ts cls e (D.unset i) (σ1.set i (some (.ref e))) H1) D σ H
theorem ps_try {body : List Stmt} {c n : Str} {C : Addr} {np hpos : Pos} {b₀ : Stmt} {suite : List Stmt} {t : (St → XK) → TS} {ts : Value → Addr → TS} {i : Nat}
    (hst : X.stack = X.env :: X.outer) (hfr : X.env.frame = some X.env.locals) (hN : X.N.Nodup) (hi : X.N[i]? = some n) (hl : X.env.scope.names.lookup n = some .local)
    (hm : X.mg c = some (.ref C)) (hb : PSx X body t) (hs : ∀ cls e oe, oe.cls = cls → PSs (X.held e oe) (b₀ :: suite) (ts cls e)) (hg : Gl X c := by rfl) (hdb : (c == ("__debug__" : Str)) = false := by decide) :
    PS X (.Try body [.ExceptHandler (some (.Name c np)) (some n) (b₀ :: suite) hpos] [] [] pos) (tTry X.K (.ref C) i t ts) := by
  intro pins s σ H D I h
  refine wpAny_Try_except (wpAny_mono (hb pins s σ H D _ I h) (fun f s1 q => ?_) fun ex s1 hx => ?_)
  · cases f with
    | next => exact wpAny_execs_nil q
    | ret v => exact q
    | brk => exact q
    | cont => exact q
  · obtain ⟨σ1, H1, s0, I0, x, cls, H', rfl, F, hm', hk⟩ := hx
    obtain ⟨a0, B, FB⟩ := F.b
    have fr : X.A.frames = some (X.env :: X.outer) := hst ▸ I.ok.frames
    have fl' : Heap.FlyingW B (X.env :: X.outer) x cls a0 s1.heap := hst ▸ FB.fl
    refine wpAny_looks_onW fr hfr fl' fun h4 held up4 => ?_
    refine wpAny_landsW held fun h5 fl5 up5 => ?_
    have F5 := FB.moved (t2 := s1.toks) (hst ▸ fl5) (Heap.UpToSlots.trans up4 up5)
    have I5 := I0.caught F5
    obtain ⟨oe5, vs5, he5, hc5, hd5⟩ := F5.obj
    have J5 := I5.held he5 hd5 F5.none
    refine wpAny_handleBy_cons (codeAny_handlers_test (ld_glob (X := X.held x oe5) J5 hg hm ?_ hdb)) (by intro q; cases q)
    have LT : PySem.W.Looks (model X.prog X.w) h5 (typeOf (.ref x)) cls := hc5 ▸ (PySem.W.Looks.ld he5).andThen .now
    refine (PySem.W.exm_one J5.kIn LT hm') _ _ _ _ (fun _ _ q => q) ?_
    refine codeAny_handlers_suite_as ?_
    refine lands_againW fl5 fun h6 fl6 up6 => ?_
    have F6 := F5.moved (t2 := s1.toks) (hst ▸ fl6) up6
    have I6 := I0.caught F6
    obtain ⟨oe, vs, he, hc, hd⟩ := F6.obj
    have J6 := I6.held he hd F6.none
    refine store_ok (X := X.held x oe) (v := .ref x) J6 hN hi (.inl hl) rfl (fun s7 J7 => ?_) (.inr hl)
    refine wpAny_mono (hs cls x oe hc pins s7 _ H' (D.unset i) J7 (hk x F6.none)) (fun f s8 q => ?_) fun _ _ z => False.elim z
    have ok := I.ok
    cases f with
    | next =>
      obtain ⟨σ8, H8, J8, q8⟩ := q
      exact name_gone (J8.unheld ok) hN hi hl fun s9 I9 => ⟨_, H8, I9, q8⟩
    | brk =>
      obtain ⟨σ8, H8, J8, q8⟩ := q
      exact name_gone (J8.unheld ok) hN hi hl fun s9 I9 => ⟨_, H8, I9, q8⟩
    | cont =>
      obtain ⟨σ8, H8, J8, q8⟩ := q
      exact name_gone (J8.unheld ok) hN hi hl fun s9 I9 => ⟨_, H8, I9, q8⟩
    | ret v =>
      obtain ⟨v8, σ8, H8, J8, r8, q8⟩ := q
      exact name_gone (J8.unheld ok) hN hi hl fun s9 I9 => ⟨v8, _, H8, I9, r8, q8⟩
end

/-- an own exception's class, as far as isinstance looks at it -/
structure ExcCl (K : PySem.W.Frag) (C : Addr) : Prop where
  ga : PySem.W.findIn K (.ref C) "__getattribute__" = some (some (.builtin "BaseException.__getattribute__"))
  gt : PySem.W.findIn K (.ref C) "__getattr__" = some none
  cl : PySem.W.findIn K (.ref C) "__class__" = some (some (.builtin "object.__class__"))
  gs : PySem.W.specialIn K (.builtin "object.__class__") "__get__" = some (some (.builtin "getset_descriptor.__get__"))
  tk : PySem.W.takesIn K (.builtin "object.__class__") = some true
  mo : PySem.W.mroIn K C (.type "object") = some true
  mb : PySem.W.mroIn K C (.type "BaseException") = some true
  is : (PySem.W.clsIn K C).isSome = true
section
open PySem.Builtin PySem.Builtin.ObjectAttr PySem.Builtin.Getset_descriptor
variable {K : PySem.W.Frag} {C e : Addr}
theorem find_data {M : Model} {h : Heap} {name : Str} {a g : Value} (X : K.In h) (h1 : PySem.W.findIn K (.ref C) name = some (some a)) (h2 : PySem.W.specialIn K a "__get__" = some (some g)) (h3 : PySem.W.takesIn K a = some true) :
    PySem.W.Looks M h (find (.ref e) (.ref C) name) (.bind g a) := by
  have M1 := PySem.W.looks_findIn (M := M) X h1
  have M2 : PySem.W.Looks M h (getOf (some a)) (some g) := PySem.W.looks_specialIn X h2
  have M3 : PySem.W.Looks M h (dataDescriptor? (some a) (some g)) (some (g, a)) := (PySem.W.looks_takesIn (M := M) X h3).andThen .now
  exact M1.andThen (M2.andThen (M3.andThen (PySem.W.Looks.tag .now)))
variable {prog : Program} {w : World} {A : Around} {s : Shared} {oe : Obj}
theorem exc_descr {R : Result → Shared → Prop} {tp : Value} (X : K.In s.heap) (he : s.heap.get? e = some oe) (hc : oe.cls = .ref C) (hE : ExcCl K C) (h : R (.ok (.ret (.ref C))) s) :
    codeAny (model prog w) A (.call (.builtin "getset_descriptor.__get__") ⟨[.builtin "object.__class__", .ref e, tp], []⟩) R s := by
  obtain ⟨hp0, gn, dw, tt, os0⟩ := s
  have M0 : PySem.W.Looks (model prog w) hp0 (typeOf (.ref e)) (.ref C) := hc ▸ (PySem.W.Looks.ld he).andThen .now
  have M1 := PySem.W.looks_mroIn (M := model prog w) X hE.mo
  refine codeAny_call_builtin PySem.W.KF.slot_gs.plain PySem.W.KF.entry_gs (PySem.W.KF.slot_gs.check _ _ _ _ _ _ _ _ PySem.W.KF.type_class (PySem.W.KF.args_gs _ _ _) ?_)
  unfold PySem.Builtin.«getset_descriptor.__get__» descrGet
  rw [PySem.W.dga_obj]
  refine wpAny_bind (wpAny_pure ?_)
  unfold descrGetter descrCheckInstance descrNameAndClass PySem.isInstance
  simp only [PySem.W.KF.owner_class]
  repeat lk
  refine ⟨Code.quiet_builtin _ (by decide +kernel), codeAny_builtin PySem.W.KF.entry_class ?_⟩
  unfold PySem.Builtin.«object.__class__» PySem.shownTypeOf
  repeat lk
  exact h
theorem exc_ga {R : Result → Shared → Prop} {tk : Tok} (X : K.In s.heap) (he : s.heap.get? e = some oe) (hc : oe.cls = .ref C) (hE : ExcCl K C) (h : R (.ok (.ret (.ref C))) s) :
    codeAny (model prog w) A (.call (.builtin "BaseException.__getattribute__") ⟨[.ref e, .str "__class__" tk], []⟩) R s := by
  obtain ⟨hp0, gn, dw, tt, os0⟩ := s
  have M0 : PySem.W.Looks (model prog w) hp0 (typeOf (.ref e)) (.ref C) := hc ▸ (PySem.W.Looks.ld he).andThen .now
  have MB := PySem.W.looks_mroIn (M := model prog w) X hE.mb
  have MF := find_data (M := model prog w) (e := e) X hE.cl hE.gs hE.tk
  have ar := PySem.F.args_bexc_ga (.ref e) (.str "__class__" tk)
  refine codeAny_call_builtin PySem.F.excAttr_ValueError.ga.plain PySem.F.entry_bexc_ga ?_
  have hk : builtinKind "BaseException.__getattribute__" = some .slot := by decide +kernel
  have hsplit : splitId "BaseException.__getattribute__" = some ("BaseException", "__getattribute__") := by decide +kernel
  simp only [checkBuiltinCall, hk, hsplit]
  refine wpAny_bind ((M0.andThen MB).at ?_)
  simp only [Bool.not_true, Bool.false_eq_true, if_false]
  unfold argsOk at ar
  refine wpAny_of_eq (a := ()) ar ?_
  unfold PySem.Builtin.«object.__getattribute__»
  refine wpAny_bind (wpAny_of_eq (a := (Value.ref e, [Value.str "__class__" tk])) rfl ?_)
  dsimp only
  refine wpAny_bind (wpAny_of_eq (a := ("__class__" : Str)) rfl ?_)
  refine wpAny_bind (M0.at (wpAny_bind (MF.at ?_)))
  show wpAny _ _ (holding [_] (call _ [_, _, _]) >>= ret) _ _ _
  refine wpAny_bind (wpAny_holding (wpAny_call (exc_descr (s := ⟨hp0, gn, dw, tt, os0⟩) X he hc hE ?_)))
  exact wpAny_pure h
theorem kitx_exc (hE : ExcCl K C) : PySem.W.KitX K (.ref e) (.ref C) (fun h => ∃ oe, h.get? e = some oe ∧ oe.cls = .ref C) where
  ty := fun _ _ _ ⟨_, he, hc⟩ => hc ▸ (PySem.W.Looks.ld he).andThen .now
  it := fun _ _ X _ => by
    obtain ⟨cd, hcd⟩ := Option.isSome_iff_exists.mp hE.is
    unfold PySem.W.clsIn at hcd
    split at hcd
    · rename_i q1 q2 q3 q4 ho
      intro A1 Q1 E1 s1 keep q
      unfold isType loadHead
      exact wpAny_bind (wpAny_loadPart (keep _ _ (X _ _ ho)) (wpAny_pure q))
    · cases hcd
  ne := fun h tp dd its n sl X htp => by
    obtain ⟨cd, hcd⟩ := Option.isSome_iff_exists.mp hE.is
    refine Bool.eq_false_iff.mpr fun q => ?_
    have z : C = tp := Value.ref.inj (beq_iff_eq.mp q)
    subst z
    unfold PySem.W.clsIn at hcd
    split at hcd
    · rename_i q1 q2 q3 q4 ho
      have y := (X _ _ ho).symm.trans htp
      cases y
    · cases hcd
  ca := fun {prog w A E Q s} X hx k => by
    obtain ⟨oe, he, hc⟩ := hx
    obtain ⟨hp0, gn, dw, tt, os0⟩ := s
    have M0 : PySem.W.Looks (model prog w) hp0 (typeOf (.ref e)) (.ref C) := hc ▸ (PySem.W.Looks.ld he).andThen .now
    have M1 := PySem.W.looks_findIn (M := model prog w) X hE.ga
    have M2 := PySem.W.looks_findIn (M := model prog w) X hE.gt
    unfold getAttr? getAttrBy? getAttrBy
    refine wpAny_bind (wpAny_mkText (wpAny_bind (wpAny_attempt (wpAny_holding (wpAny_bind (M0.at (wpAny_bind (M1.at ?_))))))))
    show wpAny _ _ (getAttrByItsOwn _ _ _ _ _ _) _ _ _
    unfold getAttrByItsOwn
    refine wpAny_bind (m := hookBefore _) (M2.at ?_)
    refine wpAny_bind (wpAny_attempt (wpAny_holding ?_))
    show wpAny _ _ (boundAndCalled _ _ _) _ _ _
    unfold boundAndCalled
    refine wpAny_bind (wpAny_of_eq (PySem.F.excAttr_ValueError.ga.bind (.ref e)) ?_)
    refine wpAny_call (exc_ga (s := ⟨hp0, gn, dw, tt + 1, os0⟩) X he hc hE ?_)
    exact PySem.W.handed_on rfl (wpAny_pure k)
end
/-- a class as a value -/
def clsV : V → Bool
  | .ref _ => true
  | .ty _ => true
  | _ => false
def vOf : V → Value
  | .ref a => .ref a
  | .ty n => .type n
  | _ => .none
theorem relv_cls {c : V} {u : Value} (hc : clsV c = true) (r : RelV c u) : u = vOf c := by
  cases c <;> first | exact r | cases hc
theorem vals_cls : ∀ {cs : List V} {us : List Value}, Vals cs us → (∀ x ∈ cs, clsV x = true) → us = cs.map vOf
  | _, _, .nil, _ => rfl
  | _, _, .cons r t, h => by rw [List.map_cons, relv_cls (h _ List.mem_cons_self) r, vals_cls t fun x hx => h x (List.mem_cons_of_mem _ hx)]
/-- what isinstance(e, c) answers, e an exception of the own class at C -/
inductive IsE (K : PySem.W.Frag) (C : Addr) (H : Hp) : V → Bool → Prop where
  | one {c : V} {b : Bool} (hc : clsV c = true) (h : PySem.W.kitOne K (.ref C) (vOf c) = some b) : IsE K C H c b
  | many {p : Addr} {cs : List V} {b : Bool} (hp : H p = some (.tup cs)) (hc : ∀ x ∈ cs, clsV x = true) (h : PySem.W.kitAny K (.ref C) (cs.map vOf) = some b) : IsE K C H (.ref p) b
section
variable {X : Cx}
theorem call_isE {e : Addr} {oe : Obj} {cls : Value} (K : PySem.W.Frag) (hK : X.K = K) (hp : (e, oe) ∈ X.pn) (hc : oe.cls = cls) :
    CallR X (.builtin "isinstance") (fun xs H Q => ∃ c b C, xs = [.ref e, c] ∧ cls = .ref C ∧ ExcCl K C ∧ IsE K C H c b ∧ Q (.bl b) H) := by
  subst hK
  intro pins s σ H xs us Q I r h
  obtain ⟨c, b, C, rfl, ec, hE, is, q⟩ := h
  obtain ⟨u, w', rfl, r1, r2⟩ := vals2 r
  obtain rfl : u = Value.ref e := r1
  have he : s.heap.get? e = some oe := (I.pin (e, oe) (List.mem_append_left _ hp)).1
  have fin : ∀ tk, EP X pins σ Q (.bool b) { s with toks := tk } := fun tk => ⟨.bl b, H, I.tok _, rfl, q⟩
  cases is with
  | one hc' h1 =>
    rw [relv_cls hc' r2]
    exact PySem.W.kia_one (kitx_exc hE) I.kIn ⟨oe, he, hc.trans ec⟩ h1 (fun z => nomatch z) fin
  | @many p cs _ hp' hc' h1 =>
    obtain rfl : w' = Value.ref p := r2
    obtain ⟨_, its, rv, o, ho, hcl, n, hd⟩ := (show ObjOk X.prog X.w H s.heap p (.tup cs) from I.hok p _ hp')
    have ei := vals_cls rv hc'
    subst ei
    obtain ⟨o1, o2, o3, o4⟩ := o
    dsimp only at hcl hd
    subst hcl hd
    exact PySem.W.kia_tup (kitx_exc hE) I.kIn ⟨oe, he, hc.trans ec⟩ ho h1 (fun z => nomatch z) fin
end
theorem bt_ValueError : bootBuiltins "ValueError" = some (.type "ValueError") := by decide +kernel
end L2
namespace L2
open PySem PySem.Spec PyProof.Rows Mth

section
variable {X : Cx} {x : Str} {pos : Pos}
end
/-- a tuple of the module -/
def KTup (K : PySem.W.Frag) (a : Addr) (xs : List V) : Prop :=
  ∃ (o : Obj) (its : Array Value) (n : Nat), K.lookup a = some o ∧ o.cls = .type "tuple" ∧ o.data = .seq its n ∧ its.size ≤ sizeLine ∧ Vals xs its.toList
theorem KTup.at {K : PySem.W.Frag} {a : Addr} {xs : List V} (h : KTup K a xs) (H : Hp) : SqT K H a xs := .inr h
/-- the defaults of a def -/
def DfIs (K : PySem.W.Frag) (T : Addr) (dvs : List V) : Prop := ∃ o n items, K.lookup T = some o ∧ o.data = .seq items n ∧ Vals dvs items.toList
structure FunD (K : PySem.W.Frag) (x qual : Str) (st : Stmt) (dV : Value) (f : Addr) (fd : FuncData) : Prop where
  ex : ∃ (oc : Value) (od : Option Addr) (kV doc pm : Value) (an : Option Addr) (cdv ct : Value) (osl : Array (Option Value)),
    fd = PySem.W.fnOf x qual (defArgs st) (defBody st) (defScope st) dV kV doc pm an cdv ct ∧ K.lookup f = some ⟨oc, od, .func fd, osl⟩ ∧ PySem.W.codeIn K cdv qual = true
  kp : PySem.W.keepIn K (.ref f) = true
theorem fund_mk {K : PySem.W.Frag} {x qual : Str} {st : Stmt} {f : Addr} {oc : Value} {od an : Option Addr} {osl : Array (Option Value)} {dV kV doc pm cdv ct : Value} (l : K.lookup f = some ⟨oc, od, .func (PySem.W.fnOf x qual (defArgs st) (defBody st) (defScope st) dV kV doc pm an cdv ct), osl⟩)
    (c : PySem.W.codeIn K cdv qual = true) (k : PySem.W.keepIn K (.ref f) = true) : FunD K x qual st dV f (PySem.W.fnOf x qual (defArgs st) (defBody st) (defScope st) dV kV doc pm an cdv ct) := ⟨⟨oc, od, kV, doc, pm, an, cdv, ct, osl, rfl, l, c⟩, k⟩
/-- a tuple of defaults -/
def Dflt (K : PySem.W.Frag) (dV : Value) (items : List Value) : Prop := (dV = .none ∧ items = []) ∨ ∃ T o n, dV = .ref T ∧ K.lookup T = some o ∧ o.data = .seq items.toArray n
section
variable {P : Program} {w : World} {K : PySem.W.Frag} {mg : Str → Option Value} {base : Heap} {x qual m : Str} {st : Stmt} {dV : Value} {f C : Addr} {fd : FuncData} {N ps : List Str} {k : Nat} {sp : Sp} {ds : List Value}
theorem FunD.ok (F : FunD K x qual st dV f fd) (S : FnScope N ps (defScope st)) (len : ∀ vs H Q E, sp vs H Q E → vs.length = ps.length)
    (hbody : ∀ (cdv : Value) (A : Around) (outer : List Env) (s : Shared) (H : Hp) (vs : List V) (Q : VK) (E : XK), Room k (A.deeper (envOfC qual (defScope st) s.heap.objs.size f cdv)) → sp vs H Q E →
      ∃ t, PSs (cxOf CX0 P w K mg base N qual (defScope st) f cdv A outer s H E).nox (defBody st) t ∧ t { nx := fun _ H' => Q .non H', rt := Q } (start N vs) H) : FnOk P w K mg base CX0 (k + 1) f fd ps sp := by
  obtain ⟨oc, od, kV, doc, pm, an, cdv, ct, osl, rfl, lk, hcd⟩ := F.ex
  refine fn_of lk hcd S len fun A outer s H vs Q E hr hsp => ?_
  obtain ⟨t, h, q⟩ := hbody cdv A outer s H vs Q E hr hsp
  exact ⟨t, h.nox, q⟩
/-- how its arguments bind: us are given, ds are the defaults that fill up -/
theorem FunD.binds {T : Addr} {o : Obj} {n : Nat} {items : Array Value} (F : FunD K x qual st (.ref T) f fd) (hT : K.lookup T = some o) (ho : o.data = .seq items n)
    (h : ∀ (kV doc pm : Value) (an : Option Addr) (cdv ct : Value) (us : List Value), (us ++ ds).length = ps.length → ∃ k, bindArgs (PySem.W.fnOf x qual (defArgs st) (defBody st) (defScope st) (.ref T) kV doc pm an cdv ct) ⟨us, []⟩ = seqItems? (.ref T) >>= k ∧ k (some items) = pure (ps.zip (us ++ ds))) : Binds K fd ps ds := by
  obtain ⟨oc, od, kV, doc, pm, an, cdv, ct, osl, rfl, lk, hcd⟩ := F.ex
  intro s us X hl
  obtain ⟨k, h1, h2⟩ := h kV doc pm an cdv ct us hl
  exact PySem.W.binds_K X rfl hT ho h1 h2
theorem FunD.binds0 (F : FunD K x qual st .none f fd)
    (h : ∀ (kV doc pm : Value) (an : Option Addr) (cdv ct : Value) (us : List Value), us.length = ps.length → bindArgs (PySem.W.fnOf x qual (defArgs st) (defBody st) (defScope st) .none kV doc pm an cdv ct) ⟨us, []⟩ = pure (ps.zip us)) : Binds K fd ps [] := by
  obtain ⟨oc, od, kV, doc, pm, an, cdv, ct, osl, rfl, lk, hcd⟩ := F.ex
  exact .all (h kV doc pm an cdv ct)
/-- a method of the text -/
def HasM (K : PySem.W.Frag) (C : Addr) (m qual : Str) (st : Stmt) (dV : Value) : Prop := ∃ f fd, Meth K C m f ∧ FunD K m qual st dV f fd
def MDef (P : Program) (w : World) (K : PySem.W.Frag) (mg : Str → Option Value) (base : Heap) (C : Addr) (m : Str) (k : Nat) (ps : List Str) (ds : List Value) (sp : Sp) : Prop :=
  ∃ f fd, Meth K C m f ∧ Binds K fd ps ds ∧ FnOk P w K mg base CX0 k f fd ps sp
theorem HasM.mdef (h : HasM K C m qual st .none) (S : FnScope N ps (defScope st)) (len : ∀ vs H Q E, sp vs H Q E → vs.length = ps.length)
    (hb : ∀ (kV doc pm : Value) (an : Option Addr) (cdv ct : Value) (us : List Value), us.length = ps.length → bindArgs (PySem.W.fnOf m qual (defArgs st) (defBody st) (defScope st) .none kV doc pm an cdv ct) ⟨us, []⟩ = pure (ps.zip us))
    (hbody : ∀ (f : Addr) (cdv : Value) (A : Around) (outer : List Env) (s : Shared) (H : Hp) (vs : List V) (Q : VK) (E : XK), Room k (A.deeper (envOfC qual (defScope st) s.heap.objs.size f cdv)) → sp vs H Q E →
      ∃ t, PSs (cxOf CX0 P w K mg base N qual (defScope st) f cdv A outer s H E).nox (defBody st) t ∧ t { nx := fun _ H' => Q .non H', rt := Q } (start N vs) H) : MDef P w K mg base C m (k + 1) ps [] sp := by
  obtain ⟨f, fd, M, F⟩ := h
  exact ⟨f, fd, M, F.binds0 hb, F.ok S len fun cdv A outer s H vs Q E hr hs => hbody f cdv A outer s H vs Q E hr hs⟩
/-- a class that is made by its __init__ -/
structure MkCl (K : PySem.W.Frag) (C : Addr) : Prop where
  makes : PySem.W.makesIn K C = true
  kp : PySem.W.keepIn K (.ref C) = true
/-- a def by its name, with defaults -/
def HasD (K : PySem.W.Frag) (mg : Str → Option Value) (x : Str) (st : Stmt) (dV : Value) : Prop := ∃ f fd, mg x = some (.ref f) ∧ FunD K x x st dV f fd
def DefD (P : Program) (w : World) (K : PySem.W.Frag) (mg : Str → Option Value) (base : Heap) (x : Str) (k : Nat) (ps : List Str) (ds : List Value) (sp : Sp) : Prop :=
  ∃ f fd, mg x = some (.ref f) ∧ PySem.W.keepIn K (.ref f) = true ∧ Binds K fd ps ds ∧ FnOk P w K mg base CX0 k f fd ps sp
end
section
variable {X : Cx} {C : Addr} {m x : Str} {p pos apos : Pos} {e o : Expr} {es : List Expr} {ta : TE} {t : TA} {k : Nat} {ps : List Str} {sp : Sp} {ds : List Value} {dvs : List V}
theorem pe_makeD (M : MkCl X.K C) (D : MDef X.prog X.w X.K X.mg X.base C "__init__" k ps ds sp) (hd : Vals dvs ds) (hr : Room (k + 1) X.A) (hm : X.mg x = some (.ref C)) (ha : PA X (e :: es) t) (hg : Gl X x := by rfl) (hdb : (x == ("__debug__" : Str)) = false := by decide)
    (he : starEach (e :: es) X.env = (false, eval e X.env) :: starEach es X.env := by rfl) (hpl : (backTo pos (starEach es X.env)).any (·.1) = false := by rfl) : PE X (.Call (.Name x p) (e :: es) [] pos) (tMake C sp dvs E0 t) := by
  obtain ⟨f, fd, me, hb, F⟩ := D
  exact pe_make ⟨M.makes, me.at_, me.fn, M.kp⟩ F hr hg hm hb hd pass0 ha hdb he hpl
end
end L2
namespace L2
open PySem PySem.Spec PyProof.Rows Mth

section
variable {X : Cx} {pins : List (Addr × Obj)} {σ : St} {H : Hp} {s : Shared} {h' : Heap} {ch : List Addr}
theorem Inv.turned0 {t' : Nat} (I : Inv X pins σ H s) (k : ∀ b u, b ∉ ch → s.heap.get? b = some u → h'.get? b = some u) (hf : ∀ b ∈ ch, FpOk X pins H b) : Inv X pins σ H { s with heap := h', toks := t' } := by
  refine I.step (g' := s.gens) (d' := s.drawn) (ch := ch) (fun b hb => ⟨(hf b hb).2.2.2.1, (hf b hb).2.1, (hf b hb).2.2.2.2.1, (hf b hb).2.2.2.2.2⟩) (fun b u _ _ hc q _ => k b u hc q) (fun b u _ _ hc q _ => ⟨u.slots, k b u hc q⟩)
    (fun _ _ _ _ n => n) (fun b u hc q => ⟨u, k b u hc q⟩) (fun _ _ q => q) (fun _ _ _ q => q) (fun b ps q => ⟨#[], by rw [q]; simp⟩) (fun m hm => ?_) (fun b u q => ?_) I.bare
  · obtain ⟨ob, es, ep, ho, r⟩ := hm
    exact ⟨ob, es, ep, k _ ob (fun z => (hf _ z).2.1 rfl) ho, r⟩
  · refine (I.hok b u q).stay (fun c v hc z => k c v (fun y => ?_) z) (fun _ z => z) fun _ _ z => z
    have n := (hf c y).1
    rcases hc with rfl | hc
    · rw [n] at q; cases q
    · rw [n] at hc; cases hc
end

/-- two lists side by side: a new pair each turn -/
def Itz (K : PySem.W.Frag) (a b : Addr) : It :=
  ⟨fun i H => ∃ xs ys x y, SqL K H a xs ∧ SqL K H b ys ∧ xs[i]? = some x ∧ ys[i]? = some y,
   fun i H v H' => ∃ p x y, H p = none ∧ v = .ref p ∧ H' = upd H p (.tup [x, y]) ∧ (∀ xs, SqL K H a xs → xs[i]? = some x) ∧ ∀ ys, SqL K H b ys → ys[i]? = some y,
   fun i H => ∃ xs ys, SqL K H a xs ∧ SqL K H b ys ∧ (xs.length ≤ i ∨ ys.length ≤ i)⟩
def ZipSt (z TI TO i1 i2 a b : Addr) (i : Nat) (h : Heap) : Prop := IsZip h z TI TO .none ∧ IsPair h TI (.ref i1) (.ref i2) ∧ (∃ u v, IsPair h TO u v) ∧ h.IsListIter i1 a i ∧ h.IsListIter i2 b i
theorem ZipSt.obj {z TI TO i1 i2 a b : Addr} {i : Nat} {h : Heap} (st : ZipSt z TI TO i1 i2 a b i h) : ∀ c ∈ [z, TI, TO, i1, i2], ∃ o, h.get? c = some o ∧ ∀ v, o.data ≠ .cell v := fun c hc => by
  obtain ⟨hz, hTI, ⟨u, v, hTO⟩, ⟨o1, e1, _, d1⟩, ⟨o2, e2, _, d2⟩⟩ := st
  simp only [List.mem_cons, List.not_mem_nil, or_false] at hc
  rcases hc with rfl | rfl | rfl | rfl | rfl
  · exact ⟨_, hz, fun v q => by cases q⟩
  · exact ⟨_, hTI, fun v q => by cases q⟩
  · exact ⟨_, hTO, fun v q => by cases q⟩
  · exact ⟨o1, e1, fun v q => by rw [d1] at q; cases q⟩
  · exact ⟨o2, e2, fun v q => by rw [d2] at q; cases q⟩
section
variable {X : Cx}
def iZip (K : PySem.W.Frag) (ta : TA) : TI := fun σ H R => ta σ H fun vs H1 => ∃ a b, vs = [.ref a, .ref b] ∧ (∃ xs, SqL K H1 a xs) ∧ (∃ ys, SqL K H1 b ys) ∧ R (Itz K a b) H1
end
end L2
namespace L2
open PySem PySem.Spec PyProof.Rows Mth

mutual
/-- the value v tells d -/
def Dn (K : PySem.W.Frag) (H : Hp) : PyData → V → Prop
  | .none, v => v = .non
  | .bool b, v => v = .bl b
  | .int i, v => v = .int i
  | .str x, v => v = .str x
  | .list ds, v => ∃ a xs, v = .ref a ∧ SqL K H a xs ∧ DnA K H ds xs
  | .tuple ds, v => ∃ a xs, v = .ref a ∧ SqT K H a xs ∧ DnA K H ds xs
  | .dict _, _ => False
def DnA (K : PySem.W.Frag) (H : Hp) : List PyData → List V → Prop
  | [], xs => xs = []
  | d :: ds, xs => ∃ x r, xs = x :: r ∧ Dn K H d x ∧ DnA K H ds r
end
/-- no list within -/
def flatD : PyData → Bool
  | .list _ => false
  | .dict _ => false
  | .tuple ds => ds.attach.all fun ⟨d, _⟩ => flatD d
  | _ => true
theorem flatD_tuple {ds : List PyData} : flatD (.tuple ds) = true ↔ ∀ d ∈ ds, flatD d = true := by
  rw [flatD, List.all_eq_true]
  constructor
  · intro h d hd
    exact h ⟨d, hd⟩ (List.mem_attach ..)
  · intro h x _
    exact h x.1 x.2
/-- the tuples stay -/
def TStay (K : PySem.W.Frag) (H H' : Hp) : Prop := ∀ a xs, SqT K H a xs → SqT K H' a xs
theorem TStay.refl {K : PySem.W.Frag} (H : Hp) : TStay K H H := fun _ _ h => h
theorem TStay.trans {K : PySem.W.Frag} {H H1 H2 : Hp} (a : TStay K H H1) (b : TStay K H1 H2) : TStay K H H2 := fun c xs h => b c xs (a c xs h)
theorem Same.ts {K : PySem.W.Frag} {H H' : Hp} (s : Same H H') : TStay K H H' := fun _ _ h => s.tup h
/-- an object that is no tuple is written -/
def noTup : HO → Bool
  | .tup _ => false
  | .frz _ _ => false
  | _ => true
theorem ts_upd {K : PySem.W.Frag} {H : Hp} {a : Addr} {o o' : HO} (h : H a = some o) (n : noTup o = true) : TStay K H (upd H a o') := fun b xs q => by
  have ne : ∀ u, H b = some u → noTup u = false → b ≠ a := fun u e z y => by
    subst y
    rw [h] at e
    cases e
    rw [n] at z
    cases z
  rcases q with (q | ⟨ob, q⟩) | q
  · exact .inl (.inl (by rw [upd_ne (ne _ q rfl)]; exact q))
  · exact .inl (.inr ⟨ob, by rw [upd_ne (ne _ q rfl)]; exact q⟩)
  · exact .inr q
section
variable {K : PySem.W.Frag} {H H' : Hp}
mutual
theorem Dn.same (s : Same H H') : ∀ (d : PyData) {v : V}, Dn K H d v → Dn K H' d v
  | .none, _, h => by rw [Dn] at h ⊢; exact h
  | .bool _, _, h => by rw [Dn] at h ⊢; exact h
  | .int _, _, h => by rw [Dn] at h ⊢; exact h
  | .str _, _, h => by rw [Dn] at h ⊢; exact h
  | .list ds, _, h => by
    rw [Dn] at h ⊢
    obtain ⟨a, xs, e, q, r⟩ := h
    exact ⟨a, xs, e, s.seq q, DnA.same s ds r⟩
  | .tuple ds, _, h => by
    rw [Dn] at h ⊢
    obtain ⟨a, xs, e, q, r⟩ := h
    exact ⟨a, xs, e, s.tup q, DnA.same s ds r⟩
  | .dict _, _, h => by rw [Dn] at h; exact h.elim
theorem DnA.same (s : Same H H') : ∀ (ds : List PyData) {xs : List V}, DnA K H ds xs → DnA K H' ds xs
  | [], _, h => by rw [DnA] at h ⊢; exact h
  | d :: ds, _, h => by
    rw [DnA] at h ⊢
    obtain ⟨x, r, e, q, t⟩ := h
    exact ⟨x, r, e, Dn.same s d q, DnA.same s ds t⟩
end
mutual
theorem Dn.ts (s : TStay K H H') : ∀ (d : PyData) {v : V}, flatD d = true → Dn K H d v → Dn K H' d v
  | .none, _, _, h => by rw [Dn] at h ⊢; exact h
  | .bool _, _, _, h => by rw [Dn] at h ⊢; exact h
  | .int _, _, _, h => by rw [Dn] at h ⊢; exact h
  | .str _, _, _, h => by rw [Dn] at h ⊢; exact h
  | .list ds, _, f, _ => by rw [flatD] at f; cases f
  | .tuple ds, _, f, h => by
    rw [Dn] at h ⊢
    obtain ⟨a, xs, e, q, r⟩ := h
    exact ⟨a, xs, e, s _ _ q, DnA.ts s ds (flatD_tuple.mp f) r⟩
  | .dict _, _, _, h => by rw [Dn] at h; exact h.elim
theorem DnA.ts (s : TStay K H H') : ∀ (ds : List PyData) {xs : List V}, (∀ d ∈ ds, flatD d = true) → DnA K H ds xs → DnA K H' ds xs
  | [], _, _, h => by rw [DnA] at h ⊢; exact h
  | d :: ds, _, f, h => by
    rw [DnA] at h ⊢
    obtain ⟨x, r, e, q, t⟩ := h
    exact ⟨x, r, e, Dn.ts s d (f d List.mem_cons_self) q, DnA.ts s ds (fun d hd => f d (List.mem_cons_of_mem _ hd)) t⟩
end
theorem DnA.length : ∀ {ds : List PyData} {xs : List V}, DnA K H ds xs → xs.length = ds.length
  | [], _, h => by rw [DnA] at h; rw [h]; rfl
  | d :: ds, _, h => by
    rw [DnA] at h
    obtain ⟨x, r, rfl, _, t⟩ := h
    rw [List.length_cons, List.length_cons, DnA.length t]
theorem DnA.get : ∀ {ds : List PyData} {xs : List V} {i : Nat} {d : PyData}, DnA K H ds xs → ds[i]? = some d → ∃ x, xs[i]? = some x ∧ Dn K H d x
  | [], _, _, _, _, e => by simp at e
  | _ :: _, _, 0, _, h, e => by
    rw [DnA] at h
    obtain ⟨x, r, rfl, q, t⟩ := h
    simp at e
    subst e
    exact ⟨x, rfl, q⟩
  | _ :: ds, _, i + 1, d, h, e => by
    rw [DnA] at h
    obtain ⟨x, r, rfl, q, t⟩ := h
    obtain ⟨y, e1, e2⟩ := DnA.get (i := i) t (by simpa using e)
    exact ⟨y, by simpa using e1, e2⟩
theorem DnA.snoc : ∀ {ds : List PyData} {xs : List V} {d : PyData} {x : V}, DnA K H ds xs → Dn K H d x → DnA K H (ds ++ [d]) (xs ++ [x])
  | [], _, d, x, h, q => by
    rw [DnA] at h
    subst h
    exact ⟨x, [], rfl, q, rfl⟩
  | _ :: ds, _, d, x, h, q => by
    rw [DnA] at h
    obtain ⟨y, r, rfl, q', t⟩ := h
    exact ⟨y, r ++ [x], rfl, q', DnA.snoc t q⟩
theorem DnA.set : ∀ {ds : List PyData} {xs : List V} {i : Nat} {d : PyData} {x : V}, DnA K H ds xs → Dn K H d x → DnA K H (ds.set i d) (xs.set i x)
  | [], _, _, _, _, h, _ => by
    rw [DnA] at h
    subst h
    exact rfl
  | _ :: _, _, 0, d, x, h, q => by
    rw [DnA] at h
    obtain ⟨y, r, rfl, q', t⟩ := h
    exact ⟨x, r, rfl, q, t⟩
  | _ :: ds, _, i + 1, d, x, h, q => by
    rw [DnA] at h
    obtain ⟨y, r, rfl, q', t⟩ := h
    exact ⟨y, r.set i x, rfl, q', DnA.set t q⟩
theorem dn_nil : DnA K H [] [] := rfl
theorem dn_cons {d : PyData} {ds : List PyData} {x : V} {xs : List V} (a : Dn K H d x) (b : DnA K H ds xs) : DnA K H (d :: ds) (x :: xs) := ⟨x, xs, rfl, a, b⟩
theorem dn_int {i : Int} : Dn K H (.int i) (.int i) := rfl
theorem dn_tup {a : Addr} {xs : List V} {ds : List PyData} (h : SqT K H a xs) (r : DnA K H ds xs) : Dn K H (.tuple ds) (.ref a) := ⟨a, xs, rfl, h, r⟩
/-- a fraction -/
abbrev frD (f : Int × Int) : PyData := .tuple [.int f.1, .int f.2]
theorem dn_fr {p : Addr} {f : Int × Int} (h : SqT K H p [.int f.1, .int f.2]) : Dn K H (frD f) (.ref p) := dn_tup h (dn_cons dn_int (dn_cons dn_int dn_nil))
theorem Dn.fr {v : V} {f : Int × Int} (h : Dn K H (frD f) v) : ∃ p, v = .ref p ∧ SqT K H p [.int f.1, .int f.2] := by
  obtain ⟨p, xs, e, q, x, r, e1, e2, y, r2, e3, e4, e5⟩ := h
  have e2 : x = V.int f.1 := e2
  have e4 : y = V.int f.2 := e4
  have e5 : r2 = [] := e5
  subst e1 e2 e3 e4 e5
  exact ⟨p, e, q⟩
theorem flat_fr (f : Int × Int) : flatD (frD f) = true := by simp [frD, flatD]
end
section
variable {X : Cx} {pins : List (Addr × Obj)} {σ : St} {H : Hp} {s : Shared}
mutual
theorem Inv.reads (I : Inv X pins σ H s) : ∀ (d : PyData) {v : V} {u : Value}, Dn X.K H d v → RelV v u → ∃ as, Reads s.heap u d as
  | .none, _, _, h, r => by
    have h : _ = V.non := h
    subst h
    obtain rfl := (show _ = Value.none from r)
    exact ⟨_, .none⟩
  | .bool b, _, _, h, r => by
    have h : _ = V.bl b := h
    subst h
    obtain rfl := (show _ = Value.bool b from r)
    exact ⟨_, .bool b⟩
  | .int i, _, _, h, r => by
    have h : _ = V.int i := h
    subst h
    obtain ⟨t, rfl⟩ := r
    exact ⟨_, .int i t⟩
  | .str x, _, _, h, r => by
    have h : _ = V.str x := h
    subst h
    obtain ⟨t, rfl⟩ := r
    exact ⟨_, .str x t⟩
  | .list ds, _, _, h, r => by
    obtain ⟨a, xs, rfl, q, t⟩ := h
    obtain rfl := (show _ = Value.ref a from r)
    obtain ⟨its, rv, p, _⟩ := I.list q
    obtain ⟨o, ho, hc, n, hd⟩ := p.isList
    obtain ⟨as, ra⟩ := Inv.readsAll I ds t rv
    exact ⟨_, .list ho hc hd (by simpa using ra)⟩
  | .tuple ds, _, _, h, r => by
    obtain ⟨a, xs, rfl, q, t⟩ := h
    obtain rfl := (show _ = Value.ref a from r)
    obtain ⟨its, rv, p, _⟩ := I.tuple q
    obtain ⟨o, ho, hc, n, hd⟩ := p
    obtain ⟨as, ra⟩ := Inv.readsAll I ds t rv
    exact ⟨_, .tuple ho hc hd (by simpa using ra)⟩
  | .dict _, _, _, h, _ => (show False from h).elim
theorem Inv.readsAll (I : Inv X pins σ H s) : ∀ (ds : List PyData) {xs : List V} {us : List Value}, DnA X.K H ds xs → Vals xs us → ∃ as, ReadsAll s.heap us ds as
  | [], _, _, h, r => by
    have h : _ = [] := h
    subst h
    obtain rfl := Vals.zero r
    exact ⟨_, .nil⟩
  | d :: ds, _, _, h, r => by
    obtain ⟨x, t, rfl, q, qt⟩ := h
    cases r with
    | cons r1 r2 =>
      obtain ⟨as, ra⟩ := Inv.reads I d q r1
      obtain ⟨bs, rb⟩ := Inv.readsAll I ds qt r2
      exact ⟨_, .cons ra rb⟩
end
def rEqD (K : PySem.W.Frag) : R2 := fun x y H Q => ∃ d e, Dn K H d x ∧ Dn K H e y ∧ SeqAt.shaped d = true ∧ SeqAt.shaped e = true ∧ Q (.bl (PyData.eqv d e)) H
def rNeD (K : PySem.W.Frag) : R2 := fun x y H Q => ∃ d e, Dn K H d x ∧ Dn K H e y ∧ SeqAt.shaped d = true ∧ SeqAt.shaped e = true ∧ Q (.bl (!PyData.eqv d e)) H
end
end L2
namespace L2
open PySem PySem.Spec PyProof.Rows Mth
section
variable {P : Program} {w : World} {K : PySem.W.Frag} {mg : Str → Option Value} {base : Heap} {x qual m : Str} {st : Stmt} {dV : Value} {f C : Addr} {fd : FuncData} {N ps : List Str} {k : Nat} {sp : Sp} {ds : List Value} {dvs : List V}
def MOk (P : Program) (w : World) (K : PySem.W.Frag) (mg : Str → Option Value) (base : Heap) (C : Addr) (m qual : Str) (st : Stmt) (dV : Value) (k : Nat) (ps : List Str) (sp : Sp) : Prop :=
  ∃ f fd, Meth K C m f ∧ FunD K m qual st dV f fd ∧ FnOk P w K mg base CX0 k f fd ps sp
def MDefE (P : Program) (w : World) (K : PySem.W.Frag) (mg : Str → Option Value) (base : Heap) (C : Addr) (m : Str) (k : Nat) (ps : List Str) (dvs : List V) (sp : Sp) : Prop :=
  ∃ ds, Vals dvs ds ∧ MDef P w K mg base C m k ps ds sp
theorem MOk.mdef {T : Addr} {dall : List V} (h : MOk P w K mg base C m qual st (.ref T) k ps sp) (hT : DfIs K T dall)
    (hb : ∀ items : Array Value, Vals dall items.toList → ∃ ds, Vals dvs ds ∧ ∀ (kV doc pm : Value) (an : Option Addr) (cdv ct : Value) (us : List Value), (us ++ ds).length = ps.length → ∃ k, bindArgs (PySem.W.fnOf m qual (defArgs st) (defBody st) (defScope st) (.ref T) kV doc pm an cdv ct) ⟨us, []⟩ = seqItems? (.ref T) >>= k ∧ k (some items) = pure (ps.zip (us ++ ds))) :
    MDefE P w K mg base C m k ps dvs sp := by
  obtain ⟨f, fd, M, F, O⟩ := h
  obtain ⟨o, n, items, hT, ho, hv⟩ := hT
  obtain ⟨ds, hd, hb⟩ := hb items hv
  exact ⟨ds, hd, f, fd, M, F.binds hT ho hb, O⟩
def DOk (P : Program) (w : World) (K : PySem.W.Frag) (mg : Str → Option Value) (base : Heap) (x : Str) (st : Stmt) (dV : Value) (k : Nat) (ps : List Str) (sp : Sp) : Prop :=
  ∃ f fd, mg x = some (.ref f) ∧ FunD K x x st dV f fd ∧ FnOk P w K mg base CX0 k f fd ps sp
def DefE (P : Program) (w : World) (K : PySem.W.Frag) (mg : Str → Option Value) (base : Heap) (x : Str) (k : Nat) (ps : List Str) (dvs : List V) (sp : Sp) : Prop :=
  ∃ ds, Vals dvs ds ∧ DefD P w K mg base x k ps ds sp
end
section
variable {X : Cx} {C : Addr} {m x : Str} {p pos apos : Pos} {e o : Expr} {es : List Expr} {ta : TE} {t : TA} {k : Nat} {ps : List Str} {sp : Sp} {dvs : List V}
end
end L2
namespace L2
open PySem PySem.Spec PyProof.Rows Mth
theorem pg_tupK {X : Cx} {K : PySem.W.Frag} {es : List Expr} {k : Nat} {pos : Pos} {t : TGs} {n : Nat} (hK : X.K = K) (hc : X.calm = true) (h : PGs X es t)
    (hn : (assignEach es X.env).length = n := by rfl) (hst : (assignEach es X.env).findIdx? (·.1) = none := by rfl) : PG X (.Tuple es k pos) (gTup K n t) := by
  subst hK
  exact pg_tup hc h hn hst
end L2
namespace PySem
open Sem (wp)
section
variable {prog : Program} {w : World} {K : Type} [DecidableEq K] {knd : KeyKind prog w K} {A : Around} {E : Value → Shared → Prop} {s : Shared}
end
end PySem
namespace L2
open PySem PySem.Spec PyProof.Rows Mth
section
variable {X : Cx} {pins : List (Addr × Obj)} {σ : St} {H : Hp} {s : Shared} {a : Addr} {kvs : List (List Key × V)} {A : Around} {E : Value → Shared → Prop}
end
theorem bt_dict : bootBuiltins "dict" = some (.type "dict") := by decide +kernel
end L2
namespace L2
open PySem PySem.Spec PyProof.Rows Mth
section
variable {X : Cx}
theorem ps_comp {elt tg iter : Expr} {yi : Nat} {y : Str} {py spos : Pos} {ifs : List Expr} {scope : Scope} {pos : Pos} {wi : TI} {g : TG} {tt : TT} {te : TE} {N' : List Str} {nt : Nat} {sl : List Nat}
    (hc : X.calm = true) (hi : PI X tg iter wi) (hg : ∀ cl C s H ex, PG (cxComp X N' scope cl C s H ex) tg g) (ht : ∀ cl C s H ex, PIf (cxComp X N' scope cl C s H ex) ifs tt) (he : ∀ cl C s H ex, PE (cxComp X N' scope cl C s H ex) elt te)
    (hN' : N'.length = nt + sl.length) (hsl : ∀ k j : Nat, sl[k]? = some j → ∃ x, N'[nt + k]? = some x ∧ X.N[j]? = some x ∧ scope.names.lookup x = some .free)
    (hk : scope.kind = .function) (hcell : ∀ y ∈ scope.names, y.2 ≠ .cell) (hnames : ∀ y ∈ scope.names, y.2 = .local → scope.names.lookup y.1 = some .local)
    (hfree : ∀ y ∈ scope.names, y.2 = .free → X.env.kindOf y.1 = some .cell ∨ X.env.kindOf y.1 = some .free)
    (hN : X.N.Nodup) (hyi : X.N[yi]? = some y) (hy : Loc X.env.scope y) (hf : X.fn y = true ∨ X.env.scope.names.lookup y = some .local)
    (hsw : swapsWith (.ListComp elt [⟨tg, iter, ifs, 0⟩] scope pos) (some (.Name y py)) spos.line X.env = pure true)
    (hs : ∀ x, foldedSetIterable iter X.env x = pure x := by intro _; rfl) :
    PS X (.Assign [.Name y py] (.ListComp elt [⟨tg, iter, ifs, 0⟩] scope pos) spos) (tAsg (tComp wi g tt te nt sl) (gName yi)) := by
  intro pins s σ H DD I h
  have hcl : ∀ y ∈ scope.names, y.2 = .free → ∃ c, X.env.cells.lookup y.1 = some c := fun y hy hf => I.ok.has y.1 (hfree y hy hf)
  have csub := closL_sub (env := X.env) (names := scope.names) (acc := []) hcl (fun x c e => by simp at e)
  rw [exec_Assign_Name_used _ _ _ _ hsw]
  refine wpAny_bind (wpAny_standAt (wpAny_bind ?_))
  show wpAny _ X.A (do let _ ← comprehension (.ListComp elt [⟨tg, iter, ifs, 0⟩] scope pos) scope X.env _ (newList []) false (eval iter X.env) (some (assign (.Name y py) X.env))) _ _ s
  refine wpAny_bind (wpAny_mono (wpAny_comprehension_free (use := some (assign (.Name y py) X.env)) (Q := fun _ s' => SP X pins DD .next s') (cl := closL X.env scope.names []) rfl hs (clos_eq hcl) hk hnames (thn (hi pins s σ H _ I h) fun v s1 h1 => thn h1 fun itv s2 h2 => ?_))
    (fun _ s' hq => wpAny_pure (wpAny_pure hq)) fun _ _ e => e)
  obtain ⟨it, fp, tn, J, H2, rfl, I2, T, st2, f2, q⟩ := h2
  have nD : H2 s2.heap.objs.size = none := I2.hok.fresh (Nat.le_refl _)
  obtain ⟨W, ⟨m0, w0⟩, turn⟩ := q s2.heap.objs.size nD
  refine wpAny_newObj_type ?_ (by show 0 ≤ sizeLine; exact Nat.zero_le _)
  have I3 : Inv X pins σ (upd H2 s2.heap.objs.size (.lst [])) { s2 with heap := s2.heap.push { cls := .type "list", data := .seq ([] : List Value).toArray } } :=
    I2.laid (t' := s2.toks) (fun b u e => Heap.get?_push_of_some _ e) (Nat.le_refl _) ⟨Nat.zero_le _, [], 0, .nil, Heap.get?_push_size _ rfl⟩
  generalize hs3 : ({ s2 with heap := s2.heap.push { cls := .type "list", data := .seq ([] : List Value).toArray } } : Shared) = s3 at I3 ⊢
  have hle : s2.heap.objs.size ≤ s3.heap.objs.size := by rw [← hs3]; show _ ≤ (Heap.push _ _).objs.size; rw [Heap.size_push]; exact Nat.le_succ _
  have hkeep23 : ∀ b o, s2.heap.get? b = some o → s3.heap.get? b = some o := fun b o e => by rw [← hs3]; exact Heap.get?_push_of_some _ e
  refine wpAny_newFunctionEnv hcell (by intro y hy; simp at hy) (fun h₁ hns hsb => ?_) hk
  have keep1 : ∀ b o, s3.heap.get? b = some o → h₁.get? b = some o := fun b o e => hsb.extBut b o (Nat.ne_of_lt (Heap.lt_size e)) (Heap.get?_push_of_some _ e)
  have nC : (upd H2 s2.heap.objs.size (.lst [])) s3.heap.objs.size = none := I3.hok.fresh (Nat.le_refl _)
  have frC : s3.heap.get? s3.heap.objs.size = none := Heap.get?_none_of_le (Nat.le_refl _)
  -- the iterator's objects
  have fpIn : ∀ b ∈ fp, b < s2.heap.objs.size := fun b hb => by
    obtain ⟨o, e, _⟩ := T.obj _ _ st2 b hb
    exact Heap.lt_size e
  have fpC : ∀ b ∈ fp, b ≠ s3.heap.objs.size := fun b hb => Nat.ne_of_lt (Nat.lt_of_lt_of_le (fpIn b hb) hle)
  have fpD : ∀ b ∈ fp, b ≠ s2.heap.objs.size := fun b hb => Nat.ne_of_lt (fpIn b hb)
  have fpS : ∀ b ∈ fp, b ∉ frs X.stack := fun b hb hm => by
    rcases List.mem_cons.mp (I2.stkSub b hm) with z | z
    · exact (f2 b hb).2.1 z
    · exact (f2 b hb).2.2.1 z
  have csub' : ∀ x c, (closL X.env scope.names []).lookup x = some c → X.env.cells.lookup x = some c := csub
  have hch : ∀ b ∈ fp, (b ∈ X.ex ∨ X.s₀.heap.objs.size ≤ b) ∧ b ≠ X.env.locals ∧ (∀ x c, X.env.cells.lookup x = some c → c ≠ b) ∧ ∀ p ∈ X.pn ++ pins, p.1 ≠ b := fun b hb =>
    ⟨(f2 b hb).2.2.2.1, (f2 b hb).2.1, (f2 b hb).2.2.2.2.1, (f2 b hb).2.2.2.2.2⟩
  -- the block's context
  have ok' : (cxComp X N' scope (closL X.env scope.names []) s3.heap.objs.size s3 (upd H2 s2.heap.objs.size (.lst [])) fp).Ok := by
    refine ⟨I3.ok.mod, hk, I3.ok.glob, I3.ok.blt, Nat.le_refl _, fun x y c h1 h2 => I3.ok.inj x y c (csub x c h1) (csub y c h2), fun x hx => ?_, (fun x c hf => nomatch hf), I3.ok.hd, I3.ok.frames, .inl rfl, fun b hb => ⟨fpC b hb, fun x c e => (hch b hb).2.2.1 x c (csub x c e)⟩,
      I3.bs, Nat.le_trans I3.ok.bsz I3.sz, fun b o e hb => ?_, fpS, I3.stack, I3.stkFree⟩
    · have hm : (x, NameKind.free) ∈ scope.names := by
        rcases hx with hx | hx
        · exact relabel_of hx (.inl rfl) hcell
        · exact relabel_of hx (.inr rfl) hcell
      exact closL_has hm rfl
    · rcases (hch b hb).1 with z | z
      · exact I3.ok.noex b o e z
      · exact absurd (Nat.lt_of_lt_of_le (Heap.lt_size (I3.ok.bs b o e).1) z) (Nat.lt_irrefl _)
  have I4 : Inv (cxComp X N' scope (closL X.env scope.names []) s3.heap.objs.size s3 (upd H2 s2.heap.objs.size (.lst [])) fp) [] (List.replicate nt none ++ sl.map fun j => (σ[j]?).join) (upd H2 s2.heap.objs.size (.lst []))
      { s3 with heap := h₁, toks := s3.toks + ([] : List (Str × Value)).length } := by
    refine ⟨ok', rfl, I3.bare, Un.kept keep1, ⟨_, hns, fun i x v e1 e2 e3 => ?_⟩, fun x c e => ?_, nC, fun x c e => I3.freeC x c (csub x c e), fun p hp => absurd hp (by simp [cxComp]), I3.hok.kept keep1, ?_⟩
    · by_cases hi : i < nt
      · rw [List.getElem?_append_left (by simpa using hi), List.getElem?_replicate] at e2
        split at e2 <;> cases e2
      · rw [List.getElem?_append_right (by simpa using hi), List.length_replicate, List.getElem?_map] at e2
        cases ej : sl[i - nt]? with
        | none => rw [ej] at e2; cases e2
        | some j =>
          rw [ej] at e2
          have e2' : (σ[j]?).join = some v := Option.some.inj e2
          have eσ : σ[j]? = some (some v) := by
            cases q : σ[j]? with
            | none => rw [q] at e2'; cases e2'
            | some o => rw [q] at e2'; cases e2'; rfl
          obtain ⟨y, n1, n2, n3⟩ := hsl _ j ej
          have : nt + (i - nt) = i := by omega
          rw [this] at n1
          have exy : y = x := Option.some.inj (n1.symm.trans e1)
          subst exy
          have hm : (y, NameKind.free) ∈ scope.names := PySem.mem_of_lookup n3
          have hkx := hfree _ hm rfl
          obtain ⟨m, hn, hl⟩ := I3.loc
          have vis : Vis X.env.scope y := by
            rcases hkx with z | z
            · exact .inr (.inl z)
            · exact .inr (.inr z)
          obtain ⟨u, r, l⟩ := hl j y v n2 eσ vis
          refine ⟨u, r, .inr ⟨lookup_relabel_free n3, ?_⟩⟩
          obtain ⟨c, ec⟩ := closL_has (env := X.env) (acc := []) hm rfl
          refine ⟨c, ec, ?_⟩
          rcases l with ⟨k1, _⟩ | ⟨_, c', e', hcell'⟩
          · rcases hkx with z | z
            · rw [show X.env.kindOf y = some .local from k1] at z; cases z
            · rw [show X.env.kindOf y = some .local from k1] at z; cases z
          · have ecc : c = c' := Option.some.inj ((csub y c ec).symm.trans e')
            subst ecc
            obtain ⟨o, ho, hd⟩ := hcell'
            exact ⟨o, keep1 c o ho, hd⟩
    · obtain ⟨v, o, ho, hd⟩ := I3.cell x c (csub x c e)
      exact ⟨v, o, keep1 c o ho, hd⟩
    · show _ = N'.length
      rw [hN', List.length_append, List.length_replicate, List.length_map]
  have st4 : tn 0 h₁ := T.keep _ _ _ st2 fun b hb o e => keep1 b o (hkeep23 b o e)
  have fpok : ∀ {pl : List (Addr × Obj)} {H' : Hp}, pl = [] → (∀ b ∈ fp, H' b = none) → ∀ b ∈ fp, FpOk (cxComp X N' scope (closL X.env scope.names []) s3.heap.objs.size s3 (upd H2 s2.heap.objs.size (.lst [])) fp) pl H' b := fun {pl H'} hpl hn b hb => by
    subst hpl
    exact ⟨hn b hb, fpC b hb, fpS b hb, .inl hb, fun x c e => (hch b hb).2.2.1 x c (csub x c e), fun p hp => absurd hp (by simp [cxComp])⟩
  have fr4 : ∀ b ∈ fp, (upd H2 s2.heap.objs.size (.lst [])) b = none := fun b hb => by rw [upd_ne (fpD b hb)]; exact (f2 b hb).1
  have loop : codeAny (model X.prog X.w) X.A (.compLoop (.ListComp elt [⟨tg, iter, ifs, 0⟩] scope pos) 0 (.ref it) (.ref s2.heap.objs.size) (compEnvC scope (closL X.env scope.names []) s3.heap.objs.size X.env))
      (compPost (model X.prog X.w) X.A X.xe (some (assign (.Name y py) X.env)) (fun _ s' => SP X pins DD .next s') (.ref s2.heap.objs.size) s3.heap.objs.size) { s3 with heap := h₁, toks := s3.toks + ([] : List (Str × Value)).length } := by
    refine compLoop_go (fun n s' => ∃ i acc σ' H', Inv (cxComp X N' scope (closL X.env scope.names []) s3.heap.objs.size s3 (upd H2 s2.heap.objs.size (.lst [])) fp) [] σ' H' s' ∧ tn i s'.heap ∧ (∀ b ∈ fp, H' b = none) ∧ W i n acc σ' H') ?_ m0 ⟨0, [], _, _, I4, st4, fr4, w0⟩
    rintro n s5 ⟨i, acc, σ5, H5, I5, st5, fr5, w5⟩
    rcases turn i n acc σ5 H5 w5 with ⟨stop, qn⟩ | ⟨go, N, hN, step⟩
    · refine thn (T.done (cxComp X N' scope (closL X.env scope.names []) s3.heap.objs.size s3 (upd H2 s2.heap.objs.size (.lst [])) fp) rfl rfl rfl hc i [] s5 σ5 H5 _ I5 (fpok rfl fr5) st5 stop) fun r s6 ⟨hr, I6⟩ => ?_
      subst hr
      obtain ⟨m, hn, _⟩ := id I6.loc
      have J6 : Inv X pins σ H5 s6 := I3.call' (s' := s6) I6.os I6.base I6.hok I6.bare hch
      have fC : FpOk X pins H5 s3.heap.objs.size := I3.fpOk (Nat.le_refl _) I6.free
      refine wpAny_assign_Name (store_ok2 (v := .ref s2.heap.objs.size) J6 hN hyi hy rfl (fun s7 I7 ⟨a, sb7, ha⟩ => ?_) hf)
      have na : s3.heap.objs.size ≠ a := fun z => by
        rcases ha with q | q
        · exact fC.2.1 (z.trans q)
        · exact fC.2.2.2.2.1 _ a q z.symm
      refine ⟨m, ?_, fun h' sb => ?_⟩
      · obtain ⟨o, es, ep, ho, r⟩ := hn
        exact ⟨o, es, ep, (sb7.2 _ na).trans ho, r⟩
      · exact ⟨_, H5, I7.turned0 (ch := [s3.heap.objs.size]) (t' := s7.toks) (fun b u hb q => (sb.2 b (fun z => hb (List.mem_singleton.mpr z))).trans q) (fun b hb => by rw [List.mem_singleton.mp hb]; exact fC), qn⟩
    · refine thn (T.item (cxComp X N' scope (closL X.env scope.names []) s3.heap.objs.size s3 (upd H2 s2.heap.objs.size (.lst [])) fp) rfl rfl rfl hc i [] s5 σ5 H5 _ I5 (fpok rfl fr5) st5 go) fun r s6 ⟨u, hr, h6⟩ => ?_
      subst hr
      refine thn h6 fun _ s7 ⟨x, H7, I7, r7, y7, st7, fr7⟩ => ?_
      have I7' := I7.pinned (fpok rfl fr7) (T.obj _ _ st7)
      have again : ∀ {s8 : Shared} {σ8 : St} {H8 : Hp} {acc' : List V}, Inv (cxComp X N' scope (closL X.env scope.names []) s3.heap.objs.size s3 (upd H2 s2.heap.objs.size (.lst [])) fp) ([] ++ pinsAt fp s7.heap) σ8 H8 s8 → (∃ m', m' < n ∧ W (i + 1) m' acc' σ8 H8) →
          ∃ m, m < n ∧ ∃ i acc σ' H', Inv (cxComp X N' scope (closL X.env scope.names []) s3.heap.objs.size s3 (upd H2 s2.heap.objs.size (.lst [])) fp) [] σ' H' s8 ∧ tn i s8.heap ∧ (∀ b ∈ fp, H' b = none) ∧ W i m acc σ' H' := fun {s8 σ8 H8 acc'} I8 ⟨m', hm, w8⟩ => by
        refine ⟨m', hm, i + 1, acc', σ8, H8, I8.unpinned, T.keep _ _ _ st7 fun b hb o e => (I8.pin (b, o) (List.mem_append_right _ (List.mem_append_right _ (mem_pinsAt hb e)))).1, fun b hb => ?_, w8⟩
        obtain ⟨o, e, d⟩ := T.obj _ _ st7 b hb
        exact (I8.pin (b, o) (List.mem_append_right _ (List.mem_append_right _ (mem_pinsAt hb e)))).2.1
      refine wpAny_mono (hg _ _ _ _ _ _ s7 σ5 H7 x u _ I7' r7 (step x H7 y7)) (fun _ s8 ⟨σ8, H8, I8, q8⟩ => ?_) fun _ _ z => False.elim z
      refine wpAny_mono (ht _ _ _ _ _ _ s8 σ8 H8 _ I8 q8) (fun ok s9 ⟨H9, I9, q9⟩ => ?_) fun _ _ z => False.elim z
      cases ok with
      | false =>
        rw [if_neg Bool.false_ne_true] at q9 ⊢
        exact again I9 (hN _ _ _ q9)
      | true =>
        rw [if_pos rfl] at q9 ⊢
        refine wpAny_mono (he _ _ _ _ _ _ s9 σ8 H9 _ I9 q9) (fun y s10 ⟨yv, H10, I10, r10, hD, hz, q10⟩ => ?_) fun _ _ z => False.elim z
        refine wpAny_mono (mt_append (X := (cxComp X N' scope (closL X.env scope.names []) s3.heap.objs.size s3 (upd H2 s2.heap.objs.size (.lst [])) fp)) _ s10 σ8 H10 (.ref s2.heap.objs.size) [yv] (.ref s2.heap.objs.size) [y] (fun _ H11 => N (acc ++ [yv]) σ8 H11) I10 rfl (.cons r10 .nil) ⟨_, acc, yv, rfl, rfl, hD, hz, q10⟩) (fun _ s11 ⟨v11, H11, I11, r11, q11⟩ => ?_) fun _ _ z => False.elim z
        exact again I11 (hN _ _ _ q11)
  exact codeAny_compStart_list loop (T.self _ 0 _ _ _ st4 loop)

theorem ps_lc {elt tg iter : Expr} {yi : Nat} {y : Str} {py spos : Pos} {ifs : List Expr} {scope : Scope} {pos : Pos} {wi : TI} {g : TG} {tt : TT} {te : TE} (tn fr : List Str) (sl : List Nat)
    (hp : Paired (fun (j : Nat) (x : Str) => X.N[j]? = some x ∧ scope.names.lookup x = some .free ∧ (X.env.kindOf x = some .cell ∨ X.env.kindOf x = some .free)) sl fr)
    (hc : X.calm = true) (hi : PI X tg iter wi) (hg : ∀ cl C s H ex, PG (cxComp X (tn ++ fr) scope cl C s H ex) tg g) (ht : ∀ cl C s H ex, PIf (cxComp X (tn ++ fr) scope cl C s H ex) ifs tt) (he : ∀ cl C s H ex, PE (cxComp X (tn ++ fr) scope cl C s H ex) elt te)
    (hk : scope.kind = .function) (hcell : ∀ y ∈ scope.names, y.2 ≠ .cell) (hnames : ∀ y ∈ scope.names, y.2 = .local → scope.names.lookup y.1 = some .local)
    (hfree : ∀ y ∈ scope.names, y.2 = .free → y.1 ∈ fr)
    (hN : X.N.Nodup) (hyi : X.N[yi]? = some y) (hy : Loc X.env.scope y) (hsw : swapsWith (.ListComp elt [⟨tg, iter, ifs, 0⟩] scope pos) (some (.Name y py)) spos.line X.env = pure true)
    (hf : X.fn y = true ∨ X.env.scope.names.lookup y = some .local := by first | exact .inl rfl | exact .inr rfl | assumption)
    (hs : ∀ x, foldedSetIterable iter X.env x = pure x := by intro _; rfl) :
    PS X (.Assign [.Name y py] (.ListComp elt [⟨tg, iter, ifs, 0⟩] scope pos) spos) (tAsg (tComp wi g tt te tn.length sl) (gName yi)) := by
  have key : ∀ {sl : List Nat} {fr : List Str}, Paired (fun (j : Nat) (x : Str) => X.N[j]? = some x ∧ scope.names.lookup x = some .free ∧ (X.env.kindOf x = some .cell ∨ X.env.kindOf x = some .free)) sl fr →
      (∀ k j : Nat, sl[k]? = some j → ∃ x, fr[k]? = some x ∧ X.N[j]? = some x ∧ scope.names.lookup x = some .free) ∧ ∀ x ∈ fr, X.env.kindOf x = some .cell ∨ X.env.kindOf x = some .free := by
    intro sl fr hp
    induction hp with
    | nil => exact ⟨fun k j h => by simp at h, fun x hx => by simp at hx⟩
    | cons r t ih =>
      refine ⟨fun k j h => ?_, fun x hx => ?_⟩
      · cases k with
        | zero =>
          have e : _ = j := Option.some.inj h
          subst e
          exact ⟨_, rfl, r.1, r.2.1⟩
        | succ k => exact ih.1 k j (by simpa using h)
      · rcases List.mem_cons.mp hx with z | z
        · rw [z]; exact r.2.2
        · exact ih.2 x z
  refine ps_comp (N' := tn ++ fr) hc hi hg ht he (by rw [List.length_append, hp.length]) (fun k j h => ?_) hk hcell hnames (fun y hy hf => (key hp).2 _ (hfree y hy hf)) hN hyi hy hf hsw hs
  obtain ⟨x, e1, e2⟩ := (key hp).1 k j h
  exact ⟨x, by rw [List.getElem?_append_right (Nat.le_add_right _ _), Nat.add_sub_cancel_left]; exact e1, e2⟩
end
end L2
namespace L2
open PySem PySem.Spec PyProof.Rows Mth
abbrev Fra := Int × Int
structure HoldM where
  most : Int
  cap : Int
  load : Int
  rows : List (List Fra)
  flows : Int → Int → Option Fra
  skies : List (Fra × Fra × Fra)
  stoves : List (Option (Fra × Int × Int × Int))
abbrev skyD (s : Fra × Fra × Fra) : PyData := .tuple [frD s.1, frD s.2.1, frD s.2.2]
abbrev stoveD : Option (Fra × Int × Int × Int) → PyData
  | none => .none
  | some s => .tuple [frD s.1, .int s.2.1, .int s.2.2.1, .int s.2.2.2]
abbrev rowD (r : List Fra) : PyData := .tuple (r.map frD)
def hfs (m : HoldM) (pm pf ps pt : Addr) : List (Str × V) :=
  [("most", .int m.most), ("cap", .int m.cap), ("load", .int m.load), ("mark_rows", .ref pm), ("flows", .ref pf), ("skies", .ref ps), ("stoves", .ref pt)]
section
variable (m : HoldM) (pm pf ps pt : Addr)
end
def FlowIs (K : PySem.W.Frag) (H : Hp) : Option Fra → Option V → Prop
  | none, none => True
  | some f, some v => Dn K H (frD f) v
  | _, _ => False
abbrev fkey (i j : Int) : List Key := [.inl i, .inl j]
/-- keys of flows: pairs of room numbers, each once -/
def FKeys (kvs : List (List Key × V)) : Prop := (kvs.map (·.1)).Nodup ∧ ∀ p ∈ kvs, ∃ i j : Nat, i < 4 ∧ j < 4 ∧ p.1 = fkey i j
end L2
namespace Mth
/-- a fraction in lowest terms -/
def nf (t b : Int) : Int × Int := (t.fdiv (Int.gcd t b : Nat), b.fdiv (Int.gcd t b : Nat))
theorem dvd_cop {r q s : Int} (h : r ∣ q * s) (c : Int.gcd q r = 1) : r ∣ s := by
  have h1 : r.natAbs ∣ q.natAbs * s.natAbs := by rw [← Int.natAbs_mul]; exact Int.natAbs_dvd_natAbs.mpr h
  have h2 : Nat.Coprime r.natAbs q.natAbs := by rw [Nat.coprime_comm]; exact c
  exact Int.natAbs_dvd_natAbs.mp (Nat.Coprime.dvd_of_dvd_mul_left h2 h1)
theorem Fr.uniq {t b q r q' r' : Int} (hb : b ≠ 0) (h : Fr t b q r) (k : Fr t b q' r') : q = q' ∧ r = r' := by
  have e : q * r' = q' * r := by
    have e1 : (q * r') * b = (q' * r) * b := by
      have a1 := h.cross
      have a2 := k.cross
      calc (q * r') * b = (q * b) * r' := by rw [Int.mul_right_comm]
        _ = (t * r) * r' := by rw [a1]
        _ = (t * r') * r := by rw [Int.mul_right_comm]
        _ = (q' * b) * r := by rw [a2]
        _ = (q' * r) * b := by rw [Int.mul_right_comm]
    exact Int.eq_of_mul_eq_mul_right hb e1
  have d1 : r ∣ r' := by
    have : r ∣ q * r' := ⟨q', by rw [e, Int.mul_comm]⟩
    exact dvd_cop this h.cop
  have d2 : r' ∣ r := by
    have : r' ∣ q' * r := ⟨q, by rw [← e, Int.mul_comm]⟩
    exact dvd_cop this k.cop
  have er : r = r' := Int.dvd_antisymm (Int.le_of_lt h.pos) (Int.le_of_lt k.pos) d1 d2
  subst er
  exact ⟨Int.eq_of_mul_eq_mul_right (Int.ne_of_gt h.pos) e, rfl⟩
theorem nf_fr {t b : Int} (hb : 0 < b) : Fr t b (nf t b).1 (nf t b).2 := (fr_of (Int.ne_of_gt hb) rfl).2.2.1 hb
theorem Fr.nf {t b q r : Int} (hb : 0 < b) (h : Fr t b q r) : (q, r) = nf t b := by
  obtain ⟨e1, e2⟩ := h.uniq (Int.ne_of_gt hb) (nf_fr hb)
  rw [e1, e2]
def plusM (x y : Int × Int) : Int × Int := nf (x.1 * y.2 + y.1 * x.2) (x.2 * y.2)
def minusM (x y : Int × Int) : Int × Int := nf (x.1 * y.2 - y.1 * x.2) (x.2 * y.2)
def underM (x y : Int × Int) : Bool := decide (x.1 * y.2 < y.1 * x.2)
/-- top and bottom below 2 ^ n, the bottom above nought -/
structure OkF (n : Nat) (f : Int × Int) : Prop where
  t : Bd n f.1
  b : Bd n f.2
  p : 0 < f.2
theorem OkF.mono {m n : Nat} {f : Int × Int} (h : OkF m f) (l : m ≤ n) : OkF n f := ⟨h.t.mono l, h.b.mono l, h.p⟩
theorem OkF.minus {m n : Nat} {x y : Int × Int} (h : OkF m x) (k : OkF n y) : OkF (m + n + 1) (minusM x y) := by
  have F := nf_fr (t := x.1 * y.2 - y.1 * x.2) (b := x.2 * y.2) (Int.mul_pos h.p k.p)
  have b1 : Bd (m + n) (x.1 * y.2) := h.t.mul k.b
  have b2 : Bd (m + n) (y.1 * x.2) := by rw [Nat.add_comm]; exact k.t.mul h.b
  exact ⟨F.bdq (b1.sub b2), F.bdr ((h.b.mul k.b).mono (Nat.le_succ _)), F.pos⟩
theorem ok01 : OkF 100 (0, 1) := ⟨(by decide : (_ : Int).natAbs < _), (by decide : (_ : Int).natAbs < _), by decide⟩
theorem ok11 : OkF 100 (1, 1) := ⟨(by decide : (_ : Int).natAbs < _), (by decide : (_ : Int).natAbs < _), by decide⟩
end Mth
namespace L2
open PySem PySem.Spec PyProof.Rows Mth
structure HoldM.Wf (m : HoldM) : Prop where
  rows : ∀ r ∈ m.rows, ∀ f ∈ r, OkF 100 f
  len : ∀ r ∈ m.rows, 2 ≤ r.length ∧ r.length ≤ 7
  flows : ∀ i j f, m.flows i j = some f → OkF 100 f
  skies : ∀ s ∈ m.skies, OkF 100 s.1 ∧ OkF 100 s.2.1 ∧ OkF 100 s.2.2
  stoves : ∀ x, some x ∈ m.stoves → OkF 100 x.1
/-- a hold at a: its own objects fp -/
structure HoldAt (K : PySem.W.Frag) (C : Addr) (H : Hp) (a : Addr) (fp : List Addr) (m : HoldM) : Prop where
  ex : ∃ dx pm pf ps pt vm vs vt kvs, fp = [a, dx, pm, pf, ps, pt] ∧ H a = some (.ins C dx (hfs m pm pf ps pt)) ∧ H dx = some (.own a) ∧ H pm = some (.lst vm) ∧ H pf = some (.dT kvs) ∧ H ps = some (.lst vs) ∧ H pt = some (.lst vt) ∧
    pm ≠ ps ∧ pm ≠ pt ∧ ps ≠ pt ∧ DnA K H (m.rows.map rowD) vm ∧ DnA K H (m.skies.map skyD) vs ∧ DnA K H (m.stoves.map stoveD) vt ∧ (∀ i j, FlowIs K H (m.flows i j) (valV kvs (fkey i j))) ∧ FKeys kvs
  sk : m.skies.length = m.rows.length
  st : m.stoves.length = m.rows.length
  mx : m.rows.length ≤ 4
  wf : m.Wf
def But (fp : List Addr) (H H' : Hp) : Prop := ∀ b o, H b = some o → b ∉ fp → H' b = some o
def HoldM.flow (m : HoldM) (i j : Nat) : Fra := (m.flows i j).getD (0, 1)
def HoldM.skyS (m : HoldM) (i : Nat) : Fra := ((m.skies[i]?).map (·.1)).getD (0, 1)
def HoldM.ownTo (m : HoldM) (i n : Nat) : Fra := (List.range n).foldl (fun acc j => minusM acc (m.flow i j)) (minusM (1, 1) (m.skyS i))
def HoldM.own (m : HoldM) (i : Nat) : Fra := m.ownTo i m.rows.length
def HoldM.share (m : HoldM) (i j : Nat) : Fra := if i = j then m.own i else m.flow i j
theorem HoldM.Wf.flow {m : HoldM} (w : m.Wf) (i j : Nat) : OkF 100 (m.flow i j) := by
  unfold HoldM.flow
  cases e : m.flows i j with
  | none => exact ok01
  | some f => exact w.flows i j f e
theorem HoldM.Wf.skyS {m : HoldM} (w : m.Wf) (i : Nat) : OkF 100 (m.skyS i) := by
  unfold HoldM.skyS
  cases e : m.skies[i]? with
  | none => exact ok01
  | some f => exact (w.skies f (List.mem_of_getElem? e)).1
theorem HoldM.ownTo_succ (m : HoldM) (i n : Nat) : m.ownTo i (n + 1) = minusM (m.ownTo i n) (m.flow i n) := by
  unfold HoldM.ownTo
  rw [List.range_succ, List.foldl_append]; rfl
theorem HoldM.Wf.ownTo {m : HoldM} (w : m.Wf) (i : Nat) : ∀ n, OkF (201 + 101 * n) (m.ownTo i n)
  | 0 => (ok11.minus (w.skyS i)).mono (by decide)
  | n + 1 => by
    rw [HoldM.ownTo_succ]
    exact ((w.ownTo i n).minus (w.flow i n)).mono (by omega)
section
variable {K : PySem.W.Frag} {H : Hp} {v : V}
theorem Dn.sky {s : Fra × Fra × Fra} (h : Dn K H (skyD s) v) : ∃ p v1 v2 v3, v = .ref p ∧ SqT K H p [v1, v2, v3] ∧ Dn K H (frD s.1) v1 ∧ Dn K H (frD s.2.1) v2 ∧ Dn K H (frD s.2.2) v3 := by
  obtain ⟨p, xs, e, q, x1, r1, e1, d1, x2, r2, e2, d2, x3, r3, e3, d3, e4⟩ := h
  have e4 : r3 = [] := e4
  subst e1 e2 e3 e4
  exact ⟨p, x1, x2, x3, e, q, d1, d2, d3⟩
theorem flat_sky (s : Fra × Fra × Fra) : flatD (skyD s) = true := by simp [skyD, frD, flatD]
theorem flat_stove (s : Option (Fra × Int × Int × Int)) : flatD (stoveD s) = true := by cases s <;> simp [stoveD, frD, flatD]
theorem flat_row (r : List Fra) : flatD (rowD r) = true := flatD_tuple.mpr fun d hd => by
  obtain ⟨f, _, rfl⟩ := List.mem_map.mp hd
  exact flat_fr f
theorem KTup.fr {a : Addr} {f : Fra} (h : KTup K a [.int f.1, .int f.2]) : Dn K H (frD f) (.ref a) := dn_fr (h.at H)
end
theorem get_nat {α : Type} {l : List α} {i : Nat} (h : i < l.length) : l[i]? = some l[i] := List.getElem?_eq_getElem h
def sp_upto : Sp := fun vs H Q _ => ∃ n g : Int, vs = [.int n, .int g] ∧ Q (.bl (decide (0 ≤ n ∧ n ≤ g))) H
section
variable (K : PySem.W.Frag) (C : Addr)
def sp_many : Sp := fun vs H Q _ => ∃ a fp m, vs = [.ref a] ∧ HoldAt K C H a fp m ∧ Q (natV m.rows.length) H
def sp_look_for : Sp := fun vs H Q _ => ∃ a fp m, ∃ i : Nat, vs = [.ref a, natV i] ∧ HoldAt K C H a fp m ∧ i < m.rows.length ∧ Q .non H
def sp_sky : Sp := fun vs H Q _ => ∃ a fp m, ∃ i : Nat, ∃ s, vs = [.ref a, natV i] ∧ HoldAt K C H a fp m ∧ m.skies[i]? = some s ∧ ∀ v, Dn K H (skyD s) v → Q v H
def sp_stove : Sp := fun vs H Q _ => ∃ a fp m, ∃ i : Nat, ∃ s, vs = [.ref a, natV i] ∧ HoldAt K C H a fp m ∧ m.stoves[i]? = some s ∧ ∀ v, Dn K H (stoveD s) v → Q v H
def sp_marks : Sp := fun vs H Q _ => ∃ a fp m, ∃ i : Nat, ∃ r, vs = [.ref a, natV i] ∧ HoldAt K C H a fp m ∧ m.rows[i]? = some r ∧ ∀ p xs, H p = none → DnA K H (r.map frD) xs → Q (.ref p) (upd H p (.lst xs))
def sp_own : Sp := fun vs H Q _ => ∃ a fp m, ∃ i : Nat, vs = [.ref a, natV i] ∧ HoldAt K C H a fp m ∧ i < m.rows.length ∧ ∀ v H', Same H H' → Dn K H' (frD (m.own i)) v → Q v H'
def sp_share : Sp := fun vs H Q _ => ∃ a fp m, ∃ i j : Nat, vs = [.ref a, natV i, natV j] ∧ HoldAt K C H a fp m ∧ i < m.rows.length ∧ j < m.rows.length ∧ ∀ v H', Same H H' → Dn K H' (frD (m.share i j)) v → Q v H'
end
theorem HoldAt.same {K : PySem.W.Frag} {C : Addr} {H H' : Hp} {a : Addr} {fp : List Addr} {m : HoldM} (s : Same H H') (h : HoldAt K C H a fp m) : HoldAt K C H' a fp m := by
  obtain ⟨⟨dx, pm, pf, ps, pt, vm, vs, vt, kvs, e, ha, hdx, hpm, hpf, hps, hpt, n1, n2, n3, dm, ds, dt, df, fk⟩, q1, q2, q3, q4⟩ := h
  refine ⟨⟨dx, pm, pf, ps, pt, vm, vs, vt, kvs, e, s _ _ ha, s _ _ hdx, s _ _ hpm, s _ _ hpf, s _ _ hps, s _ _ hpt, n1, n2, n3, DnA.same s _ dm, DnA.same s _ ds, DnA.same s _ dt, fun i j => ?_, fk⟩, q1, q2, q3, q4⟩
  have := df i j
  revert this
  cases m.flows i j <;> cases valV kvs (fkey i j) <;> intro q
  · exact q
  · exact q
  · exact q
  · exact Dn.same s _ q
end L2
namespace L2
open PySem PySem.Spec PyProof.Rows Mth
theorem sz4 {x y z t : V} : [x, y, z, t].length ≤ sizeLine := by show 4 ≤ sizeLine; decide
theorem sz1 {x : V} : [x].length ≤ sizeLine := by show 1 ≤ sizeLine; decide
theorem nodup_len {α : Type} [DecidableEq α] : ∀ (l L : List α), l.Nodup → (∀ x ∈ l, x ∈ L) → l.length ≤ L.length
  | [], _, _, _ => Nat.zero_le _
  | x :: l, L, hn, hs => by
    obtain ⟨h1, h2⟩ := List.nodup_cons.mp hn
    have hx := hs x List.mem_cons_self
    have := nodup_len l (L.erase x) h2 fun y hy => (List.mem_erase_of_ne (fun e => h1 (by rw [← e]; exact hy))).mpr (hs y (List.mem_cons_of_mem _ hy))
    rw [List.length_erase_of_mem hx] at this
    have hp := List.length_pos_of_mem hx
    rw [List.length_cons]
    omega
def allKeys : List (List Key) := (List.range 4).flatMap fun (i : Nat) => (List.range 4).map fun (j : Nat) => fkey (i : Int) (j : Int)
theorem FKeys.len {kvs : List (List Key × V)} (h : FKeys kvs) : kvs.length ≤ 16 := by
  have := nodup_len (kvs.map (·.1)) allKeys h.1 fun x hx => by
    obtain ⟨p, hp, rfl⟩ := List.mem_map.mp hx
    obtain ⟨i, j, hi, hj, e⟩ := h.2 p hp
    rw [e]
    exact List.mem_flatMap.mpr ⟨i, List.mem_range.mpr hi, List.mem_map.mpr ⟨j, List.mem_range.mpr hj, rfl⟩⟩
  rw [List.length_map] at this
  exact Nat.le_trans this (by decide)
theorem FKeys.put {kvs : List (List Key × V)} (h : FKeys kvs) {i j : Nat} (hi : i < 4) (hj : j < 4) (v : V) : FKeys (putK kvs (fkey i j) v) := by
  refine ⟨?_, fun p hp => ?_⟩
  · cases e : valV kvs (fkey i j) with
    | none => exact nd_putK v h.1 e
    | some y =>
      have hc : (kvs.any fun kv => decide (kv.1 = fkey i j)) = true := by
        unfold valV at e
        cases q : kvs.find? fun kv => decide (kv.1 = fkey i j) with
        | none => rw [q] at e; cases e
        | some z => have q2 := List.find?_some q; exact List.any_eq_true.mpr ⟨z, List.mem_of_find?_eq_some q, q2⟩
      unfold putK
      rw [if_pos hc, List.map_map]
      have : ((fun x : List Key × V => x.1) ∘ fun kv : List Key × V => if kv.1 = fkey i j then (kv.1, v) else kv) = fun x => x.1 := by
        funext x
        show (if x.1 = fkey i j then (x.1, v) else x).1 = x.1
        split <;> rfl
      rw [this]
      exact h.1
  · unfold putK at hp
    split at hp
    · obtain ⟨z, hz, rfl⟩ := List.mem_map.mp hp
      obtain ⟨a, b, ha, hb, e⟩ := h.2 z hz
      refine ⟨a, b, ha, hb, ?_⟩
      split <;> exact e
    · rcases List.mem_append.mp hp with hp | hp
      · exact h.2 p hp
      · have : p = (fkey i j, v) := by simpa using hp
        subst this
        exact ⟨i, j, hi, hj, rfl⟩
theorem fkey_inj {i j i' j' : Int} (h : fkey i j = fkey i' j') : i = i' ∧ j = j' := by
  simp only [fkey, List.cons.injEq, Sum.inl.injEq, and_true] at h
  exact h
def HoldM.setFlow (m : HoldM) (i j : Nat) (f : Fra) : HoldM := { m with flows := fun a b => if a = (i : Int) ∧ b = (j : Int) then some f else m.flows a b }
def HoldM.setSky (m : HoldM) (i : Nat) (s : Fra × Fra × Fra) : HoldM := { m with skies := m.skies.set i s }
def HoldM.setStove (m : HoldM) (i : Nat) (s : Fra × Int × Int × Int) : HoldM := { m with stoves := m.stoves.set i (some s) }
def HoldM.addRoom (m : HoldM) (r : List Fra) : HoldM := { m with rows := m.rows ++ [r], skies := m.skies ++ [((0, 1), (0, 1), (0, 1))], stoves := m.stoves ++ [none] }
def HoldM.new (most cap load : Int) : HoldM := ⟨most, cap, load, [], fun _ _ => none, [], []⟩
/-- a deed on a hold: its own objects and new ones alone are changed, the tuples stay -/
structure Deed (K : PySem.W.Frag) (C : Addr) (H : Hp) (a : Addr) (fp : List Addr) (m' : HoldM) (H' : Hp) (fp' : List Addr) : Prop where
  at_ : HoldAt K C H' a fp' m'
  but : But fp H H'
  ts : TStay K H H'
  own : ∀ b ∈ fp', b ∈ fp ∨ H b = none
theorem FlowIs.ts {K : PySem.W.Frag} {H H' : Hp} (s : TStay K H H') : ∀ {o : Option Fra} {v : Option V}, FlowIs K H o v → FlowIs K H' o v
  | none, none, _ => trivial
  | some f, some v, h => Dn.ts s _ (flat_fr f) h
  | none, some _, h => h
  | some _, none, h => h
theorem rows_ts {K : PySem.W.Frag} {H H' : Hp} {rs : List (List Fra)} {xs : List V} (s : TStay K H H') (h : DnA K H (rs.map rowD) xs) : DnA K H' (rs.map rowD) xs := DnA.ts s _ (fun d hd => by obtain ⟨r, _, rfl⟩ := List.mem_map.mp hd; exact flat_row r) h
theorem skies_ts {K : PySem.W.Frag} {H H' : Hp} {rs : List (Fra × Fra × Fra)} {xs : List V} (s : TStay K H H') (h : DnA K H (rs.map skyD) xs) : DnA K H' (rs.map skyD) xs := DnA.ts s _ (fun d hd => by obtain ⟨r, _, rfl⟩ := List.mem_map.mp hd; exact flat_sky r) h
theorem stoves_ts {K : PySem.W.Frag} {H H' : Hp} {rs : List (Option (Fra × Int × Int × Int))} {xs : List V} (s : TStay K H H') (h : DnA K H (rs.map stoveD) xs) : DnA K H' (rs.map stoveD) xs := DnA.ts s _ (fun d hd => by obtain ⟨r, _, rfl⟩ := List.mem_map.mp hd; exact flat_stove r) h
def risingM (r : List Fra) : Bool := (List.zipWith underM r r.tail).all id
def bandsM (rs : List (List Fra)) : Int := rs.foldl (fun p r => p * ((r.length : Int) - 1)) 1
section
variable (K : PySem.W.Frag) (C : Addr)
def sp_fits : Sp := fun vs H Q _ => ∃ a fp m, ∃ i : Nat, ∃ v1 v2 f g, vs = [.ref a, natV i, v1, v2] ∧ HoldAt K C H a fp m ∧ i < m.rows.length ∧ Dn K H (frD f) v1 ∧ Dn K H (frD g) v2 ∧ OkF 100 f ∧ OkF 100 g ∧
  0 ≤ f.1 ∧ underM (plusM (m.own i) g) f = false ∧ ∀ H', Same H H' → Q .non H'
def sp_put_flow : Sp := fun vs H Q _ => ∃ a fp m, ∃ i j : Nat, ∃ v f, vs = [.ref a, natV i, natV j, v] ∧ HoldAt K C H a fp m ∧ i < m.rows.length ∧ j < m.rows.length ∧ i ≠ j ∧ Dn K H (frD f) v ∧ OkF 100 f ∧
  0 ≤ f.1 ∧ underM (plusM (m.own i) (m.flow i j)) f = false ∧ ∀ H' fp', Deed K C H a fp (m.setFlow i j f) H' fp' → Q .non H'
def sp_put_sky : Sp := fun vs H Q _ => ∃ a fp m, ∃ i : Nat, ∃ v1 v2 v3 f lo hi, vs = [.ref a, natV i, v1, v2, v3] ∧ HoldAt K C H a fp m ∧ i < m.rows.length ∧ Dn K H (frD f) v1 ∧ Dn K H (frD lo) v2 ∧ Dn K H (frD hi) v3 ∧
  OkF 100 f ∧ OkF 100 lo ∧ OkF 100 hi ∧ underM hi lo = false ∧ 0 ≤ f.1 ∧ underM (plusM (m.own i) (m.skyS i)) f = false ∧ ∀ H' fp', Deed K C H a fp (m.setSky i (f, lo, hi)) H' fp' → Q .non H'
def sp_put_stove : Sp := fun vs H Q _ => ∃ a fp m, ∃ i : Nat, ∃ v f, ∃ w st fl : Int, vs = [.ref a, natV i, v, .int w, .int st, .int fl] ∧ HoldAt K C H a fp m ∧ i < m.rows.length ∧ Dn K H (frD f) v ∧ OkF 100 f ∧ 0 ≤ f.1 ∧
  (0 ≤ w ∧ w ≤ 9) ∧ (0 ≤ st ∧ st ≤ 3) ∧ (0 ≤ fl ∧ fl ≤ 3) ∧ ∀ H' fp', Deed K C H a fp (m.setStove i (f, w, st, fl)) H' fp' → Q .non H'
def sp_rising : Sp := fun vs H Q _ => ∃ p xs r, vs = [.ref p] ∧ SqL K H p xs ∧ DnA K H (r.map frD) xs ∧ (∀ f ∈ r, OkF 100 f) ∧ r.length ≤ 7 ∧ ∀ H', Same H H' → Q (.bl (risingM r)) H'
def sp_bands : Sp := fun vs H Q _ => ∃ p xs rs, vs = [.ref p] ∧ SqL K H p xs ∧ DnA K H (rs.map rowD) xs ∧ rs.length ≤ 5 ∧ (∀ r ∈ rs, 1 ≤ r.length ∧ r.length ≤ 7) ∧ Q (.int (bandsM rs)) H
def sp_put_room : Sp := fun vs H Q _ => ∃ a fp m p xs r, vs = [.ref a, .ref p] ∧ HoldAt K C H a fp m ∧ m.rows.length < 4 ∧ SqL K H p xs ∧ DnA K H (r.map frD) xs ∧ (∀ f ∈ r, OkF 100 f) ∧ 2 ≤ r.length ∧ r.length ≤ 7 ∧ risingM r = true ∧ bandsM (m.rows ++ [r]) ≤ 400 ∧
  ∀ H' fp', Deed K C H a fp (m.addRoom r) H' fp' → Q (natV m.rows.length) H'
def sp_init : Sp := fun vs H Q _ => ∃ x dx, ∃ most cap load : Int, vs = [.ref x, .int most, .int cap, .int load] ∧ H x = some (.ins C dx []) ∧ H dx = some (.own x) ∧ (0 ≤ most ∧ most ≤ 4) ∧ (0 ≤ cap ∧ cap ≤ 30) ∧ (0 ≤ load ∧ load ≤ 30) ∧
  ∀ H' fp', Deed K C H x [x, dx] (HoldM.new most cap load) H' fp' → Q .non H'
end
end L2
namespace L2
open PySem PySem.Spec PyProof.Rows Mth
theorem ne_obj {H : Hp} {a b : Addr} {o u : HO} (h : H a = some o) (k : H b = some u) (n : o ≠ u) : a ≠ b := fun e => by
  subst e
  rw [h] at k
  exact n (Option.some.inj k)
theorem But.same {fp : List Addr} {H H' : Hp} (s : Same H H') : But fp H H' := fun b o h _ => s b o h
theorem But.upd {fp : List Addr} {H H' : Hp} {p : Addr} {o : HO} (b : But fp H H') (hp : p ∈ fp) : But fp H (upd H' p o) := fun c u h n => by
  rw [upd_ne (fun e => n (by rw [e]; exact hp))]
  exact b c u h n
section
variable {K : PySem.W.Frag} {C : Addr} {H H1 : Hp} {a : Addr} {fp : List Addr} {m : HoldM}
end
end L2
namespace L2
open PySem PySem.Spec PyProof.Rows Mth
theorem Same.put {H H' : Hp} {D : Addr} {o : HO} (s : Same H H') (h : H D = none) : Same H (upd H' D o) := fun b u e => by
  rw [upd_ne (ne_of_none e h)]
  exact s b u e
end L2
namespace L2
open PySem PySem.Spec PyProof.Rows Mth
section
variable {K : PySem.W.Frag} {C : Addr} {H H1 : Hp} {a : Addr} {fp : List Addr} {m : HoldM}
end
end L2
namespace L2
open PySem PySem.Spec PyProof.Rows Mth
/-- but for x all stays, and x is an instance -/
structure ButX (K : PySem.W.Frag) (C x dx : Addr) (H H' : Hp) (fs : List (Str × V)) : Prop where
  st : ∀ b o, H b = some o → b ≠ x → H' b = some o
  ts : TStay K H H'
  at_ : H' x = some (.ins C dx fs)
section
variable {K : PySem.W.Frag} {C x dx : Addr} {H H' : Hp} {fs fs' : List (Str × V)}
theorem ButX.start (h : H x = some (.ins C dx fs)) : ButX K C x dx H H fs := ⟨fun _ _ h _ => h, TStay.refl _, h⟩
theorem ButX.put (B : ButX K C x dx H H' fs) : ButX K C x dx H (upd H' x (.ins C dx fs')) fs' := ⟨fun b o h n => by rw [upd_ne n]; exact B.st b o h n, B.ts.trans (ts_upd B.at_ rfl), upd_same⟩
theorem ButX.new {p : Addr} {o : HO} (B : ButX K C x dx H H' fs) (hp : H' p = none) : ButX K C x dx H (upd H' p o) fs := ⟨fun b u h n => by rw [upd_ne (ne_of_none (B.st b u h n) hp)]; exact B.st b u h n, B.ts.trans (Same.ts (same_upd hp)), by rw [upd_ne (ne_of_none B.at_ hp)]; exact B.at_⟩
theorem ButX.keep {b : Addr} {o u : HO} (B : ButX K C x dx H H' fs) (h : H' b = some o) (n : b ≠ x) : (upd H' x u) b = some o := by rw [upd_ne n]; exact h
theorem ButX.none {p : Addr} (B : ButX K C x dx H H' fs) (hp : H' p = none) : H p = Option.none := by
  cases e : H p with
  | none => rfl
  | some o =>
    by_cases q : p = x
    · rw [q, B.at_] at hp; cases hp
    · rw [B.st p o e q] at hp; cases hp
theorem ButX.ne {p : Addr} (B : ButX K C x dx H H' fs) (hp : H' p = Option.none) : p ≠ x := fun q => by rw [q, B.at_] at hp; cases hp
end
theorem lt1000 {n : Nat} (h : Nat.ble (n + 1) 1000 = true) : n < 1000 := Nat.le_of_ble_eq_true h
end L2
namespace L2
open PySem PySem.Spec PyProof.Rows Mth
def hpair (i j : Int) : Int := reduceHash (Builtin.Tuple.tupleHashOf [hashInt i, hashInt j])
theorem hpair_fin : ∀ i j i' j' : Fin 4, hpair (i.val : Int) (j.val : Int) = hpair (i'.val : Int) (j'.val : Int) → i = i' ∧ j = j' := by decide +kernel
theorem hpair_inj (i : Nat) (hi : i < 4) (j : Nat) (hj : j < 4) (i' : Nat) (hi' : i' < 4) (j' : Nat) (hj' : j' < 4) (h : hpair (i : Int) (j : Int) = hpair (i' : Int) (j' : Int)) : i = i' ∧ j = j' := by
  obtain ⟨a, b⟩ := hpair_fin ⟨i, hi⟩ ⟨j, hj⟩ ⟨i', hi'⟩ ⟨j', hj'⟩ h
  exact ⟨congrArg Fin.val a, congrArg Fin.val b⟩
theorem FKeys.hash {P : Program} {w : World} {kvs : List (List Key × V)} (h : FKeys kvs) : (kvs.map fun kv => tupleKeyHash (mixKind P w) kv.1).Nodup := by
  have h1 := List.pairwise_map.mp h.1
  refine List.pairwise_map.mpr (h1.imp_of_mem fun {a b} ha hb n e => ?_)
  obtain ⟨i, j, hi, hj, e1⟩ := h.2 a ha
  obtain ⟨i', j', hi', hj', e2⟩ := h.2 b hb
  rw [e1, e2] at e
  obtain ⟨z1, z2⟩ := hpair_inj i hi j hj i' hi' j' hj' e
  exact n (by rw [e1, e2, z1, z2])
def optV : Option Int → V
  | none => .non
  | some n => .int n
def HoldM.with (m : HoldM) (x y z : Option Int) : HoldM := { m with most := x.getD m.most, cap := y.getD m.cap, load := z.getD m.load }
def HoldM.Bds (m : HoldM) : Prop := (0 ≤ m.most ∧ m.most ≤ 4) ∧ (0 ≤ m.cap ∧ m.cap ≤ 30) ∧ (0 ≤ m.load ∧ m.load ≤ 30)
def sp_like (K : PySem.W.Frag) (C : Addr) : Sp := fun vs H Q _ => ∃ a fp m x y z, vs = [.ref a, optV x, optV y, optV z] ∧ HoldAt K C H a fp m ∧ (m.with x y z).Bds ∧
  ∀ b H' fp', Same H H' → HoldAt K C H' b fp' (m.with x y z) → (∀ c ∈ fp', H c = none) → Q (.ref b) H'
end L2
namespace L2
open PySem PySem.Spec PyProof.Rows Mth
theorem atI_ints {ns : List Int} {r : Int} (h0 : 0 ≤ r) (h1 : r < ns.length) : ∃ z ∈ ns, atI (ns.map V.int) r = some (.int z) := by
  have hl : r.toNat < ns.length := by omega
  have e : (ns.map V.int)[r.toNat]? = some (.int (ns[r.toNat]'hl)) := by simp [hl]
  have e2 := atI_nat e
  rw [Int.toNat_of_nonneg h0] at e2
  exact ⟨_, List.getElem_mem hl, e2⟩
def sp_pick : Sp := fun vs H Q _ => ∃ c k n : Int, vs = [.int c, .int k, .int n] ∧ 0 ≤ k ∧ k ≤ 1000 ∧ 0 < n ∧ ∀ r, 0 ≤ r → r < n → Q (.int r) H
structure ScM where
  a : Int
  b : Int
  t : Int
  d : Int
structure ScM.Ok (s : ScM) : Prop where
  a0 : 1 ≤ s.a
  a1 : s.a ≤ 10 ^ 9
  b0 : 1 ≤ s.b
  b1 : s.b ≤ 10 ^ 9
  t0 : -(10 ^ 9) ≤ s.t
  t1 : s.t ≤ 10 ^ 9
  d0 : 1 ≤ s.d
  d1 : s.d ≤ 10 ^ 9
abbrev ScM.vs (s : ScM) : List V := [.int s.a, .int s.b, .int s.t, .int s.d]
def sp_scale : Sp := fun vs H Q _ => ∃ c : Int, vs = [.int c] ∧ ∀ p H' (s : ScM), s.Ok → Same H H' → H' p = some (.tup s.vs) → Q (.ref p) H'
/-- num by parts, scaled and moved -/
def warmT (num parts : Int) (s : ScM) : Int := num * s.a * s.d + parts * s.t * s.b
def warmB (parts : Int) (s : ScM) : Int := parts * s.b * s.d
def warmM (num parts : Int) (s : ScM) : Fra := nf (warmT num parts s) (warmB parts s)
def sp_warm (K : PySem.W.Frag) : Sp := fun vs H Q _ => ∃ num parts p, ∃ s : ScM, vs = [.int num, .int parts, .ref p] ∧ SqT K H p s.vs ∧ s.Ok ∧ Bd 30 num ∧ 0 < parts ∧ Bd 30 parts ∧
  ∀ q H', Same H H' → H' q = some (.tup [.int (warmM num parts s).1, .int (warmM num parts s).2]) → Q (.ref q) H'
theorem bd30 {x : Int} (h0 : -(10 ^ 9) ≤ x) (h1 : x ≤ 10 ^ 9) : Bd 30 x := by show x.natAbs < 2 ^ 30; omega
section
variable {s : ScM}
theorem ScM.Ok.ba (h : s.Ok) : Bd 30 s.a := bd30 (by have := h.a0; omega) h.a1
theorem ScM.Ok.bb (h : s.Ok) : Bd 30 s.b := bd30 (by have := h.b0; omega) h.b1
theorem ScM.Ok.bd (h : s.Ok) : Bd 30 s.d := bd30 (by have := h.d0; omega) h.d1
end
abbrev stoveI (z : Int × Int × Int × Int) : List V := [.int z.1, .int z.2.1, .int z.2.2.1, .int z.2.2.2]
structure StI (z : Int × Int × Int × Int) : Prop where
  h : 0 ≤ z.1 ∧ z.1 ≤ 25
  w : 0 ≤ z.2.1 ∧ z.2.1 ≤ 9
  s : 0 ≤ z.2.2.1 ∧ z.2.2.1 ≤ 3
  f : 0 ≤ z.2.2.2 ∧ z.2.2.2 ≤ 3
def sp_stove_by : Sp := fun vs H Q _ => ∃ a b c : Int, ∃ i : Nat, vs = [.int a, .int b, .int c, natV i] ∧ i < 4 ∧ Q .non H ∧ ∀ p z, StI z → H p = none → Q (.ref p) (upd H p (.tup (stoveI z)))
end L2
namespace L2
open PySem PySem.Spec PyProof.Rows Mth
def cutH (H : Hp) (L : List Addr) : Hp := fun b => if b ∈ L then none else H b
section
variable {K : PySem.W.Frag} {H H' : Hp} {L : List Addr} {a : Addr} {o : HO}
theorem cut_upd (h : a ∈ L) : cutH (upd H a o) L = cutH H L := by
  funext b
  unfold cutH
  split
  · rfl
  · rename_i n
    rw [upd_ne (fun e => n (by rw [e]; exact h))]
theorem same_cut (s : Same H H') : Same (cutH H L) (cutH H' L) := fun b u h => by
  unfold cutH at h ⊢
  split at h
  · cases h
  · rename_i n
    rw [if_neg n]
    exact s b u h
/-- but for L all stays -/
theorem But.cut (b : But L H H') : Same (cutH H L) (cutH H' L) := fun c u h => by
  unfold cutH at h ⊢
  split at h
  · cases h
  · rename_i n
    rw [if_neg n]
    exact b c u h n
/-- none of L is a tuple -/
def NoTups (H : Hp) (L : List Addr) : Prop := ∀ b ∈ L, ∃ o, H b = some o ∧ noTup o = true
end
structure ToldM where
  marks : List (List Int)
  sky : List (Int × Int × Int)
  stoves : List (Option (Int × Int × Int × Int))
  flows : Nat → Nat → Option Int
  scale : ScM
  bounds : Int × Int × Int
abbrev skyI (z : Int × Int × Int) : PyData := .tuple [.int z.1, .int z.2.1, .int z.2.2]
abbrev stI : Option (Int × Int × Int × Int) → PyData
  | none => .none
  | some z => .tuple [.int z.1, .int z.2.1, .int z.2.2.1, .int z.2.2.2]
abbrev rowI (l : List Int) : PyData := .list (l.map PyData.int)
def toldKV (pm ps pt pf psc pb : Addr) : List (Key × V) :=
  [(.inr "marks", .ref pm), (.inr "sky", .ref ps), (.inr "stoves", .ref pt), (.inr "flows", .ref pf), (.inr "scale", .ref psc), (.inr "bounds", .ref pb)]
section
variable (pm ps pt pf psc pb : Addr)
end
/-- the objects of what is told -/
structure TC (K : PySem.W.Frag) (H : Hp) (p pm ps pt pf psc pb : Addr) (vm vs vt : List V) (kvs : List (List Key × V)) (m : ToldM) : Prop where
  hp : H p = some (.dK (toldKV pm ps pt pf psc pb))
  hpm : H pm = some (.lst vm)
  hps : H ps = some (.lst vs)
  hpt : H pt = some (.lst vt)
  hpf : H pf = some (.dT kvs)
  n1 : pm ≠ ps
  n2 : pm ≠ pt
  n3 : ps ≠ pt
  dm : DnA K (cutH H [p, pm, ps, pt, pf]) (m.marks.map rowI) vm
  ds : DnA K (cutH H [p, pm, ps, pt, pf]) (m.sky.map skyI) vs
  dt : DnA K (cutH H [p, pm, ps, pt, pf]) (m.stoves.map stI) vt
  df : ∀ i j : Nat, i < 4 → j < 4 → valV kvs (fkey i j) = (m.flows i j).map V.int
  fk : FKeys kvs
  sc : SqT K (cutH H [p, pm, ps, pt, pf]) psc m.scale.vs
  bo : SqT K (cutH H [p, pm, ps, pt, pf]) pb [.int m.bounds.1, .int m.bounds.2.1, .int m.bounds.2.2]
section
variable {K : PySem.W.Frag} {H H' : Hp} {p pm ps pt pf psc pb : Addr} {vm vs vt : List V} {kvs : List (List Key × V)} {m : ToldM}
theorem TC.same (c : TC K H p pm ps pt pf psc pb vm vs vt kvs m) (s : Same H H') : TC K H' p pm ps pt pf psc pb vm vs vt kvs m :=
  ⟨s _ _ c.hp, s _ _ c.hpm, s _ _ c.hps, s _ _ c.hpt, s _ _ c.hpf, c.n1, c.n2, c.n3, DnA.same (same_cut s) _ c.dm, DnA.same (same_cut s) _ c.ds, DnA.same (same_cut s) _ c.dt, c.df, c.fk, (same_cut s).tup c.sc, (same_cut s).tup c.bo⟩
def ToldM.setFlow (m : ToldM) (i j : Nat) (k : Int) : ToldM := { m with flows := fun a b => if a = i ∧ b = j then some k else m.flows a b }
theorem TC.setFlow (c : TC K H p pm ps pt pf psc pb vm vs vt kvs m) {i j : Nat} {k : Int} (hi : i < 4) (hj : j < 4) :
    TC K (upd H pf (.dT (putK kvs (fkey i j) (.int k)))) p pm ps pt pf psc pb vm vs vt (putK kvs (fkey i j) (.int k)) (m.setFlow i j k) := by
  have e : cutH (upd H pf (.dT (putK kvs (fkey i j) (.int k)))) [p, pm, ps, pt, pf] = cutH H [p, pm, ps, pt, pf] := cut_upd (by simp)
  refine ⟨by rw [upd_ne (ne_obj c.hp c.hpf nofun)]; exact c.hp, by rw [upd_ne (ne_obj c.hpm c.hpf nofun)]; exact c.hpm, by rw [upd_ne (ne_obj c.hps c.hpf nofun)]; exact c.hps, by rw [upd_ne (ne_obj c.hpt c.hpf nofun)]; exact c.hpt, upd_same, c.n1, c.n2, c.n3, by rw [e]; exact c.dm, by rw [e]; exact c.ds, by rw [e]; exact c.dt, fun a b ha hb => ?_, c.fk.put hi hj _, by rw [e]; exact c.sc, by rw [e]; exact c.bo⟩
  rw [valV_put]
  show _ = (if a = i ∧ b = j then some k else m.flows a b).map V.int
  by_cases z : a = i ∧ b = j
  · rw [if_pos z, if_pos (by rw [z.1, z.2])]; rfl
  · rw [if_neg z, if_neg (fun y => z (by have := fkey_inj y; omega))]
    exact c.df a b ha hb
end
def risingI (l : List Int) : Prop := ∀ i x y, l[i]? = some x → l[i + 1]? = some y → x < y
structure RowOk (n : Nat) (l : List Int) : Prop where
  two : 2 ≤ l.length
  most : l.length ≤ if n ≤ 2 then 7 else 5
  ris : risingI l
  bd : ∀ x ∈ l, -200 ≤ x ∧ x ≤ 200
structure ToldM.Ok (n i : Nat) (m : ToldM) : Prop where
  lm : m.marks.length = i
  ls : m.sky.length = i
  lt : m.stoves.length = i
  rows : ∀ l ∈ m.marks, RowOk n l
  sky : ∀ z ∈ m.sky, (0 ≤ z.1 ∧ z.1 ≤ 3) ∧ (-30 ≤ z.2.1 ∧ z.2.1 ≤ 30) ∧ z.2.1 ≤ z.2.2 ∧ z.2.2 ≤ z.2.1 + 30
  stoves : ∀ z, some z ∈ m.stoves → StI z
  flows : ∀ a b, a < i → b < n → a ≠ b → ∃ k, m.flows a b = some k ∧ 0 ≤ k ∧ k ≤ 3
  scale : m.scale.Ok
  bounds : (0 ≤ m.bounds.1 ∧ m.bounds.1 ≤ 4) ∧ (0 ≤ m.bounds.2.1 ∧ m.bounds.2.1 ≤ 30) ∧ (0 ≤ m.bounds.2.2 ∧ m.bounds.2.2 ≤ 30)
def ToldAt (K : PySem.W.Frag) (H : Hp) (p : Addr) (m : ToldM) : Prop := ∃ pm ps pt pf psc pb vm vs vt kvs, TC K H p pm ps pt pf psc pb vm vs vt kvs m
theorem ToldAt.same {K : PySem.W.Frag} {H H' : Hp} {p : Addr} {m : ToldM} (h : ToldAt K H p m) (s : Same H H') : ToldAt K H' p m := by
  obtain ⟨pm, ps, pt, pf, psc, pb, vm, vs, vt, kvs, c⟩ := h
  exact ⟨pm, ps, pt, pf, psc, pb, vm, vs, vt, kvs, c.same s⟩
def sp_drawn (K : PySem.W.Frag) : Sp := fun vs H Q _ => ∃ a, ∃ ns : List Int, vs = [.ref a] ∧ SqL K H a (ns.map V.int) ∧ ∀ p H' m n, 1 ≤ n → n ≤ 4 → ToldM.Ok n n m → Same H H' → ToldAt K H' p m → Q (.ref p) H'
end L2
namespace L2
open PySem PySem.Spec PyProof.Rows Mth
section
variable {H : Hp} {p pm ps pt pf psc pb : Addr}
end
theorem ToldM.Ok.marks {n i : Nat} {m : ToldM} {l : List Int} {z : Int × Int × Int} {t : Option (Int × Int × Int × Int)} {fl : Nat → Nat → Option Int} (h : m.Ok n i) (hl : RowOk n l)
    (hz : (0 ≤ z.1 ∧ z.1 ≤ 3) ∧ (-30 ≤ z.2.1 ∧ z.2.1 ≤ 30) ∧ z.2.1 ≤ z.2.2 ∧ z.2.2 ≤ z.2.1 + 30) (ht : ∀ y, t = some y → StI y) (hf : ∀ a b, a < i + 1 → b < n → a ≠ b → ∃ k, fl a b = some k ∧ 0 ≤ k ∧ k ≤ 3) :
    ToldM.Ok n (i + 1) { m with marks := m.marks ++ [l], sky := m.sky ++ [z], stoves := m.stoves ++ [t], flows := fl } := by
  refine ⟨?_, ?_, ?_, fun x hx => ?_, fun x hx => ?_, fun x hx => ?_, hf, h.scale, h.bounds⟩
  · show (m.marks ++ [l]).length = _
    rw [List.length_append, h.lm]; rfl
  · show (m.sky ++ [z]).length = _
    rw [List.length_append, h.ls]; rfl
  · show (m.stoves ++ [t]).length = _
    rw [List.length_append, h.lt]; rfl
  · rcases List.mem_append.mp hx with q | q
    · exact h.rows x q
    · rw [List.mem_singleton.mp q]; exact hl
  · rcases List.mem_append.mp hx with q | q
    · exact h.sky x q
    · rw [List.mem_singleton.mp q]; exact hz
  · rcases List.mem_append.mp hx with q | q
    · exact h.stoves x q
    · exact ht x (List.mem_singleton.mp q).symm
end L2
namespace L2
open PySem PySem.Spec PyProof.Rows Mth
/-- a stove told, or none -/
def StV (H : Hp) (t : Option (Int × Int × Int × Int)) (x : V) (H' : Hp) : Prop := (t = none ∧ x = .non ∧ H' = H) ∨ ∃ p z, t = some z ∧ x = .ref p ∧ H p = none ∧ StI z ∧ H' = upd H p (.tup (stoveI z))
theorem StV.same {H H' : Hp} {t : Option (Int × Int × Int × Int)} {x : V} (h : StV H t x H') : Same H H' := by
  rcases h with ⟨_, _, rfl⟩ | ⟨p, z, _, _, hp, _, rfl⟩
  · exact Same.refl _
  · exact same_upd hp
theorem StV.ok {H H' : Hp} {t : Option (Int × Int × Int × Int)} {x : V} (h : StV H t x H') : ∀ y, t = some y → StI y := by
  rcases h with ⟨rfl, _, _⟩ | ⟨p, z, rfl, _, hp, hz, _⟩
  · exact nofun
  · intro y e; cases e; exact hz
end L2
namespace L2
open PySem PySem.Spec PyProof.Rows Mth
end L2
namespace Mth
/-- f is k by W -/
def Ov (W k : Int) (f : Int × Int) : Prop := f.1 * W = k * f.2 ∧ 0 < f.2
theorem Ov.nf {W k : Int} (h : 0 < W) : Ov W k (nf k W) := by
  have F := nf_fr (t := k) h
  exact ⟨F.cross, F.pos⟩
theorem ov_one {W : Int} : Ov W W (1, 1) := ⟨by show 1 * W = W * 1; omega, by decide⟩
theorem ov_zero {W : Int} : Ov W 0 (0, 1) := ⟨by show 0 * W = 0 * 1; omega, by decide⟩
theorem Ov.minus {W a b : Int} {x y : Int × Int} (h : Ov W a x) (k : Ov W b y) : Ov W (a - b) (minusM x y) := by
  have F := nf_fr (t := x.1 * y.2 - y.1 * x.2) (b := x.2 * y.2) (Int.mul_pos h.2 k.2)
  refine ⟨?_, F.pos⟩
  have c := F.cross
  have hx := h.1
  have hy := k.1
  have pp : 0 < x.2 * y.2 := Int.mul_pos h.2 k.2
  show (Mth.nf (x.1 * y.2 - y.1 * x.2) (x.2 * y.2)).1 * W = (a - b) * (Mth.nf (x.1 * y.2 - y.1 * x.2) (x.2 * y.2)).2
  generalize (Mth.nf (x.1 * y.2 - y.1 * x.2) (x.2 * y.2)).1 = q at c ⊢
  generalize (Mth.nf (x.1 * y.2 - y.1 * x.2) (x.2 * y.2)).2 = r at c ⊢
  refine Int.eq_of_mul_eq_mul_right (Int.ne_of_gt pp) ?_
  have e1 : x.1 * y.2 * W = a * (x.2 * y.2) := by rw [Int.mul_right_comm, hx, Int.mul_assoc]
  have e2 : y.1 * x.2 * W = b * (x.2 * y.2) := by rw [Int.mul_right_comm, hy, Int.mul_assoc, Int.mul_comm y.2]
  calc q * W * (x.2 * y.2) = (q * (x.2 * y.2)) * W := by rw [Int.mul_right_comm]
    _ = (x.1 * y.2 - y.1 * x.2) * r * W := by rw [c]
    _ = ((x.1 * y.2 - y.1 * x.2) * W) * r := by rw [Int.mul_right_comm]
    _ = (a * (x.2 * y.2) - b * (x.2 * y.2)) * r := by rw [Int.sub_mul, e1, e2]
    _ = (a - b) * r * (x.2 * y.2) := by rw [← Int.sub_mul, Int.mul_right_comm]
theorem Ov.under {W a b : Int} {x y : Int × Int} (hW : 0 < W) (h : Ov W a x) (k : Ov W b y) : underM x y = decide (a < b) := by
  unfold underM
  refine decide_eq_decide.mpr ?_
  have pp : 0 < x.2 * y.2 := Int.mul_pos h.2 k.2
  have e1 : x.1 * y.2 * W = a * (x.2 * y.2) := by rw [Int.mul_right_comm, h.1, Int.mul_assoc]
  have e2 : y.1 * x.2 * W = b * (x.2 * y.2) := by rw [Int.mul_right_comm, k.1, Int.mul_assoc, Int.mul_comm y.2]
  constructor
  · intro l
    have := Int.mul_lt_mul_of_pos_right l hW
    rw [e1, e2] at this
    exact Int.lt_of_mul_lt_mul_right this (Int.le_of_lt pp)
  · intro l
    have := Int.mul_lt_mul_of_pos_right l pp
    rw [← e1, ← e2] at this
    exact Int.lt_of_mul_lt_mul_right this (Int.le_of_lt hW)
end Mth
namespace L2
open PySem PySem.Spec PyProof.Rows Mth
def sumF (fl : Nat → Nat → Int) (i : Nat) : Nat → Int
  | 0 => 0
  | t + 1 => sumF fl i t + fl i t
/-- the shares of a hold, over W -/
structure ShOk (W : Int) (sk : Nat → Int) (fl : Nat → Nat → Int) (m : HoldM) : Prop where
  sky : ∀ i, Ov W (sk i) (m.skyS i)
  flow : ∀ i j, Ov W (fl i j) (m.flow i j)
theorem ShOk.ownTo {W : Int} {sk : Nat → Int} {fl : Nat → Nat → Int} {m : HoldM} (h : ShOk W sk fl m) (i : Nat) : ∀ t, Ov W (W - sk i - sumF fl i t) (m.ownTo i t)
  | 0 => by
    have := (ov_one (W := W)).minus (h.sky i)
    have e : W - sk i - sumF fl i 0 = W - sk i := by show W - sk i - 0 = _; omega
    rw [e]
    exact this
  | t + 1 => by
    rw [HoldM.ownTo_succ]
    have := (h.ownTo i t).minus (h.flow i t)
    have e : W - sk i - sumF fl i (t + 1) = W - sk i - sumF fl i t - fl i t := by show W - sk i - (sumF fl i t + fl i t) = _; omega
    rw [e]
    exact this
theorem ShOk.own {W : Int} {sk : Nat → Int} {fl : Nat → Nat → Int} {m : HoldM} (h : ShOk W sk fl m) (i : Nat) : Ov W (W - sk i - sumF fl i m.rows.length) (m.own i) := h.ownTo i _
theorem flow_setFlow {m : HoldM} {i j a b : Nat} {f : Fra} : (m.setFlow i j f).flow a b = if a = i ∧ b = j then f else m.flow a b := by
  unfold HoldM.flow HoldM.setFlow
  by_cases e : a = i ∧ b = j
  · rw [if_pos e]
    show ((if (a : Int) = (i : Int) ∧ (b : Int) = (j : Int) then some f else m.flows a b)).getD (0, 1) = f
    rw [if_pos (by omega)]; rfl
  · rw [if_neg e]
    show ((if (a : Int) = (i : Int) ∧ (b : Int) = (j : Int) then some f else m.flows a b)).getD (0, 1) = _
    rw [if_neg (by omega)]
theorem ShOk.setFlow {W k : Int} {sk : Nat → Int} {fl : Nat → Nat → Int} {m : HoldM} {f : Fra} {i j : Nat} (h : ShOk W sk fl m) (hf : Ov W k f) : ShOk W sk (fun a b => if a = i ∧ b = j then k else fl a b) (m.setFlow i j f) := by
  refine ⟨fun a => h.sky a, fun a b => ?_⟩
  rw [flow_setFlow]
  by_cases e : a = i ∧ b = j
  · simp only [if_pos e]; exact hf
  · simp only [if_neg e]; exact h.flow a b
theorem skyS_setSky {m : HoldM} {i a : Nat} {z : Fra × Fra × Fra} (hi : i < m.skies.length) : (m.setSky i z).skyS a = if a = i then z.1 else m.skyS a := by
  unfold HoldM.skyS HoldM.setSky
  by_cases e : a = i
  · subst e
    rw [if_pos rfl]
    show (((m.skies.set a z)[a]?).map (·.1)).getD (0, 1) = _
    rw [List.getElem?_set_self hi]; rfl
  · rw [if_neg e]
    show (((m.skies.set i z)[a]?).map (·.1)).getD (0, 1) = _
    rw [List.getElem?_set_ne (fun x => e x.symm)]
theorem ShOk.setSky {W k : Int} {sk : Nat → Int} {fl : Nat → Nat → Int} {m : HoldM} {z : Fra × Fra × Fra} {i : Nat} (h : ShOk W sk fl m) (hi : i < m.skies.length) (hf : Ov W k z.1) : ShOk W (fun a => if a = i then k else sk a) fl (m.setSky i z) := by
  refine ⟨fun a => ?_, fun a b => h.flow a b⟩
  rw [skyS_setSky hi]
  by_cases e : a = i
  · simp only [if_pos e]; exact hf
  · simp only [if_neg e]; exact h.sky a
theorem ShOk.new {W : Int} {most cap load : Int} : ShOk W (fun _ => 0) (fun _ _ => 0) (HoldM.new most cap load) := ⟨fun _ => ov_zero, fun _ _ => ov_zero⟩
theorem ShOk.addRoom {W : Int} {sk : Nat → Int} {fl : Nat → Nat → Int} {m : HoldM} {r : List Fra} (h : ShOk W sk fl m) (hs : ∀ i, m.skies.length ≤ i → sk i = 0) : ShOk W sk fl (m.addRoom r) := by
  refine ⟨fun a => ?_, fun a b => h.flow a b⟩
  by_cases e : a < m.skies.length
  · have : (m.addRoom r).skyS a = m.skyS a := by
      show (((m.skies ++ [((0, 1), (0, 1), (0, 1))])[a]?).map (·.1)).getD (0, 1) = ((m.skies[a]?).map (·.1)).getD (0, 1)
      rw [List.getElem?_append_left e]
    rw [this]
    exact h.sky a
  · have : (m.addRoom r).skyS a = (0, 1) := by
      show (((m.skies ++ [((0, 1), (0, 1), (0, 1))])[a]?).map (·.1)).getD (0, 1) = (0, 1)
      rw [List.getElem?_append_right (by omega)]
      cases q : a - m.skies.length with
      | zero => rfl
      | succ n => rfl
    rw [this, hs a (by omega)]
    exact ov_zero
theorem ShOk.setStove {W : Int} {sk : Nat → Int} {fl : Nat → Nat → Int} {m : HoldM} {i : Nat} {z : Fra × Int × Int × Int} (h : ShOk W sk fl m) : ShOk W sk fl (m.setStove i z) := ⟨fun a => h.sky a, fun a b => h.flow a b⟩
end L2
namespace L2
open PySem PySem.Spec PyProof.Rows Mth
def ToldM.row (tm : ToldM) (l : List Int) : List Fra := l.map fun x => warmM x 1 tm.scale
def ToldM.m1 (tm : ToldM) (k : Nat) : HoldM := ((tm.marks.take k).map tm.row).foldl HoldM.addRoom (HoldM.new tm.bounds.1 tm.bounds.2.1 tm.bounds.2.2)
def ToldM.skyAt (tm : ToldM) (z : Int × Int × Int) : Fra × Fra × Fra := (nf z.1 12, warmM z.2.1 1 tm.scale, warmM z.2.2 1 tm.scale)
def ToldM.stoveAt (tm : ToldM) (z : Int × Int × Int × Int) : Fra × Int × Int × Int := (nf (z.1 * tm.scale.a) tm.scale.b, z.2.1, z.2.2.1, z.2.2.2)
def ToldM.skyStep (tm : ToldM) (m : HoldM) (i : Nat) : HoldM := match tm.sky[i]? with | some z => m.setSky i (tm.skyAt z) | none => m
def ToldM.stoveStep (tm : ToldM) (m : HoldM) (i : Nat) : HoldM := match tm.stoves[i]? with | some (some z) => m.setStove i (tm.stoveAt z) | _ => m
def ToldM.flowStep (tm : ToldM) (i : Nat) (m : HoldM) (j : Nat) : HoldM := if j = i then m else match tm.flows i j with | some k => m.setFlow i j (nf k 12) | none => m
def ToldM.flowsTo (tm : ToldM) (i : Nat) (m : HoldM) (j : Nat) : HoldM := (List.range j).foldl (tm.flowStep i) m
def ToldM.roomStep (tm : ToldM) (n : Nat) (m : HoldM) (i : Nat) : HoldM := tm.flowsTo i (tm.stoveStep (tm.skyStep m i) i) n
def ToldM.m2 (tm : ToldM) (n k : Nat) : HoldM := (List.range k).foldl (tm.roomStep n) (tm.m1 n)
theorem Deed.keep {K : PySem.W.Frag} {C : Addr} {H0 H H' : Hp} {a : Addr} {fp fp' : List Addr} {m' : HoldM} (S : Same H0 H) (n : ∀ b ∈ fp, H0 b = none) (D : Deed K C H a fp m' H' fp') : Same H0 H' ∧ ∀ b ∈ fp', H0 b = none := by
  refine ⟨fun b o h => D.but b o (S b o h) fun q => ?_, fun b hb => ?_⟩
  · rw [n b q] at h; cases h
  · rcases D.own b hb with q | q
    · exact n b q
    · exact S.free q
/-- rows and bounds stay -/
structure Kp (m m' : HoldM) : Prop where
  rows : m'.rows = m.rows
  most : m'.most = m.most
  cap : m'.cap = m.cap
  load : m'.load = m.load
theorem Kp.refl (m : HoldM) : Kp m m := ⟨rfl, rfl, rfl, rfl⟩
theorem Kp.trans {m m1 m2 : HoldM} (a : Kp m m1) (b : Kp m1 m2) : Kp m m2 := ⟨b.rows.trans a.rows, b.most.trans a.most, b.cap.trans a.cap, b.load.trans a.load⟩
end L2
namespace L2
open PySem PySem.Spec PyProof.Rows Mth
end L2
namespace L2
open PySem PySem.Spec PyProof.Rows Mth
structure SF (sk : Nat → Int) (fl : Nat → Nat → Int) : Prop where
  hsk : ∀ a, 0 ≤ sk a ∧ sk a ≤ 3
  hfl : ∀ a b, 0 ≤ fl a b ∧ fl a b ≤ 3
  hno : ∀ a, fl a a = 0
/-- a hold whose shares are twelfths, at most three each -/
def Tw (m : HoldM) : Prop := ∃ sk fl, ShOk 12 sk fl m ∧ SF sk fl
theorem Tw.sky {m : HoldM} {i : Nat} {z : Fra × Fra × Fra} {k : Int} (h : Tw m) (hi : i < m.skies.length) (hf : Ov 12 k z.1) (k0 : 0 ≤ k) (k3 : k ≤ 3) : Tw (m.setSky i z) := by
  obtain ⟨sk, fl, S, F⟩ := h
  refine ⟨_, _, S.setSky hi hf, ⟨fun a => ?_, F.hfl, F.hno⟩⟩
  show 0 ≤ (if a = i then k else sk a) ∧ (if a = i then k else sk a) ≤ 3
  split
  · exact ⟨k0, k3⟩
  · exact F.hsk a
theorem Tw.flow {m : HoldM} {i j : Nat} {f : Fra} {k : Int} (h : Tw m) (hij : i ≠ j) (hf : Ov 12 k f) (k0 : 0 ≤ k) (k3 : k ≤ 3) : Tw (m.setFlow i j f) := by
  obtain ⟨sk, fl, S, F⟩ := h
  refine ⟨_, _, S.setFlow hf, ⟨F.hsk, fun a b => ?_, fun a => ?_⟩⟩
  · show 0 ≤ (if a = i ∧ b = j then k else fl a b) ∧ (if a = i ∧ b = j then k else fl a b) ≤ 3
    split
    · exact ⟨k0, k3⟩
    · exact F.hfl a b
  · show (if a = i ∧ a = j then k else fl a a) = 0
    rw [if_neg (by omega)]
    exact F.hno a
theorem Tw.stove {m : HoldM} {i : Nat} {z : Fra × Int × Int × Int} (h : Tw m) : Tw (m.setStove i z) := by
  obtain ⟨sk, fl, S, F⟩ := h
  exact ⟨sk, fl, S.setStove, F⟩
end L2
namespace L2
open PySem PySem.Spec PyProof.Rows Mth
def seenRoom (m : HoldM) (i : Nat) : List PyData :=
  [.tuple [.list (((m.rows[i]?).getD []).map frD), skyD ((m.skies[i]?).getD ((0, 1), (0, 1), (0, 1))), stoveD ((m.stoves[i]?).getD none)], .list ((List.range m.rows.length).map fun j => frD (m.share i j))]
def seenTo (m : HoldM) (k : Nat) : List PyData := .int m.rows.length :: (List.range k).flatMap (seenRoom m)
def seenD (m : HoldM) : PyData := .list (seenTo m m.rows.length)
/-- what is seen, told by objects that are none of L -/
def sp_seen (K : PySem.W.Frag) (C : Addr) : Sp := fun vs H Q _ => ∃ a fp m L, vs = [.ref a] ∧ HoldAt K C H a fp m ∧ NoTups H L ∧ ∀ v H', Same H H' → Dn K (cutH H' L) (seenD m) v → Q v H'
def sp_bounds (K : PySem.W.Frag) (C : Addr) : Sp := fun vs H Q _ => ∃ a fp m, vs = [.ref a] ∧ HoldAt K C H a fp m ∧ ∀ p, H p = none → Q (.ref p) (upd H p (.tup [.int m.most, .int m.cap, .int m.load]))
end L2
namespace L2
open PySem PySem.Spec PyProof.Rows Mth
theorem NoTups.same {H H' : Hp} {L : List Addr} (h : NoTups H L) (s : Same H H') : NoTups H' L := fun b hb => by
  obtain ⟨o, e, n⟩ := h b hb
  exact ⟨o, s _ _ e, n⟩
end L2
namespace L2
open PySem PySem.Spec PyProof.Rows Mth
section
variable {K : PySem.W.Frag} {C : Addr} {H H1 H2 : Hp} {a : Addr} {fp fp1 fp2 : List Addr} {m1 m2 : HoldM}
theorem Deed.trans (D1 : Deed K C H a fp m1 H1 fp1) (D2 : Deed K C H1 a fp1 m2 H2 fp2) : Deed K C H a fp m2 H2 fp2 := by
  refine ⟨D2.at_, fun b o h n => D2.but b o (D1.but b o h n) fun q => ?_, D1.ts.trans D2.ts, fun b hb => ?_⟩
  · rcases D1.own b q with z | z
    · exact n z
    · rw [z] at h; cases h
  · rcases D2.own b hb with q | q
    · exact D1.own b q
    · by_cases z : b ∈ fp
      · exact .inl z
      · refine .inr ?_
        cases e : H b with
        | none => rfl
        | some o => rw [D1.but b o e z] at q; cases q
theorem Deed.pre (s : Same H H1) (D : Deed K C H1 a fp m2 H2 fp2) : Deed K C H a fp m2 H2 fp2 :=
  ⟨D.at_, fun b o h n => D.but b o (s b o h) n, (Same.ts s).trans D.ts, fun b hb => (D.own b hb).elim .inl fun q => .inr (s.free q)⟩
end
def sp_changed (K : PySem.W.Frag) (C : Addr) : Sp := fun vs H Q _ => ∃ a fp m, ∃ c : Int, vs = [.ref a, .int c] ∧ HoldAt K C H a fp m ∧ Tw m ∧ 1 ≤ m.rows.length ∧ bandsM m.rows ≤ 400 ∧
  ∀ H' fp' m', m'.most = m.most → m'.cap = m.cap → m'.load = m.load → Deed K C H a fp m' H' fp' → Q .non H'
end L2
namespace L2
open PySem PySem.Spec PyProof.Rows Mth
end L2
namespace L2
open PySem PySem.Spec PyProof.Rows Mth
def sp_built (K : PySem.W.Frag) (C : Addr) : Sp := fun vs H Q _ => ∃ p, ∃ tm : ToldM, ∃ n : Nat, vs = [.ref p] ∧ ToldAt K H p tm ∧ tm.Ok n n ∧ 1 ≤ n ∧ n ≤ 4 ∧
  ∀ a H' fp, Same H H' → HoldAt K C H' a fp (tm.m2 n n) → (∀ b ∈ fp, H b = none) → (tm.m2 n n).rows.length = n → Tw (tm.m2 n n) → Q (.ref a) H'
end L2
namespace L2
open PySem PySem.Spec PyProof.Rows Mth
/-- whole numbers, truths and None in lists and tuples, n deep at most -/
def plD : Nat → PyData → Prop
  | _, .none => True
  | _, .bool _ => True
  | _, .int _ => True
  | n + 1, .list ds => ∀ d ∈ ds, plD n d
  | n + 1, .tuple ds => ∀ d ∈ ds, plD n d
  | _, _ => False
theorem ix_anyK {X : Cx} {K : PySem.W.Frag} (h : X.K = K) : IxR X (rIxA K) := by
  subst h
  exact ix_any
end L2
namespace L2
open PySem PySem.Spec PyProof.Rows Mth
section
variable {K : PySem.W.Frag} {C : Addr} {H H1 H' : Hp} {a b : Addr} {fp fp' fpb L M : List Addr} {m m' mb : HoldM}
/-- its own objects are there, and no tuples -/
theorem HoldAt.notups (h : HoldAt K C H a fp m) : NoTups H fp := by
  obtain ⟨⟨dx, pm, pf, ps, pt, vm, vs, vt, kvs, rfl, ha, hdx, hpm, hpf, hps, hpt, _⟩, _⟩ := h
  intro c hc
  simp only [List.mem_cons, List.not_mem_nil, or_false] at hc
  rcases hc with rfl | rfl | rfl | rfl | rfl | rfl
  · exact ⟨_, ha, rfl⟩
  · exact ⟨_, hdx, rfl⟩
  · exact ⟨_, hpm, rfl⟩
  · exact ⟨_, hpf, rfl⟩
  · exact ⟨_, hps, rfl⟩
  · exact ⟨_, hpt, rfl⟩
theorem HoldAt.mem (h : HoldAt K C H a fp m) : a ∈ fp := by
  obtain ⟨⟨dx, pm, pf, ps, pt, vm, vs, vt, kvs, rfl, _⟩, _⟩ := h
  exact List.mem_cons_self
/-- a hold made later has none of what was there -/
theorem HoldAt.apart (h : HoldAt K C H a fp m) (n : ∀ c ∈ fpb, H c = none) : ∀ c ∈ fp, c ∉ fpb := fun c hc hb => by
  obtain ⟨o, e, _⟩ := h.notups c hc
  rw [n c hb] at e
  cases e
theorem But.mono (b : But L H H') (h : ∀ c ∈ L, c ∈ M) : But M H H' := fun c o e n => b c o e fun z => n (h c z)
/-- a deed on one hold leaves another one -/
theorem Deed.other (D : Deed K C H a fp m' H' fp') (h : HoldAt K C H b fpb mb) (dis : ∀ c ∈ fpb, c ∉ fp) : HoldAt K C H' b fpb mb := by
  obtain ⟨⟨dx, pm, pf, ps, pt, vm, vs, vt, kvs, rfl, ha, hdx, hpm, hpf, hps, hpt, n1, n2, n3, dm, ds, dt, df, fk⟩, q1, q2, q3, q4⟩ := h
  have g : ∀ {c o}, H c = some o → c ∈ [b, dx, pm, pf, ps, pt] → H' c = some o := fun e hc => D.but _ _ e (dis _ hc)
  exact ⟨⟨dx, pm, pf, ps, pt, vm, vs, vt, kvs, rfl, g ha (by simp), g hdx (by simp), g hpm (by simp), g hpf (by simp), g hps (by simp), g hpt (by simp), n1, n2, n3, rows_ts D.ts dm, skies_ts D.ts ds, stoves_ts D.ts dt, fun i j => (df i j).ts D.ts, fk⟩, q1, q2, q3, q4⟩
end
end L2
namespace L2
open PySem PySem.Spec PyProof.Rows Mth
theorem Tw.with {m : HoldM} {x y z : Option Int} (h : Tw m) : Tw (m.with x y z) := by
  obtain ⟨sk, fl, S, F⟩ := h
  exact ⟨sk, fl, ⟨S.sky, S.flow⟩, F⟩
end L2
namespace L2
open PySem PySem.Spec PyProof.Rows Mth
section
variable {X : Cx}
end
end L2
namespace L2
open PySem PySem.Spec PyProof.Rows Mth
end L2
namespace L2
open PySem PySem.Spec PyProof.Rows Mth
def touchP (r : List Fra) (f g : Fra) (b : Nat) : Bool := (!underM g (r.getD b (0, 1))) && !underM (r.getD (b + 1) (0, 1)) f
def touchTo (r : List Fra) (f g : Fra) (n : Nat) : List Nat := (List.range n).filter (touchP r f g)
def touchM (r : List Fra) (f g : Fra) : List Nat := touchTo r f g (r.length - 1)
def withinM (r : List Fra) (f g : Fra) : Bool := (!underM f (r.getD 0 (0, 1))) && !underM (r.getD (r.length - 1) (0, 1)) g
def sp_touched (K : PySem.W.Frag) (C : Addr) : Sp := fun vs H Q _ => ∃ a fp m, ∃ i : Nat, ∃ r v1 v2 f g, vs = [.ref a, natV i, v1, v2] ∧ HoldAt K C H a fp m ∧ m.rows[i]? = some r ∧ Dn K H (frD f) v1 ∧ Dn K H (frD g) v2 ∧ OkF 1000 f ∧ OkF 1000 g ∧
  ∀ p H', Same H H' → H' p = some (.lst ((touchM r f g).map natV)) → Q (.ref p) H'
def sp_within (K : PySem.W.Frag) (C : Addr) : Sp := fun vs H Q _ => ∃ a fp m, ∃ i : Nat, ∃ r v1 v2 f g, vs = [.ref a, natV i, v1, v2] ∧ HoldAt K C H a fp m ∧ m.rows[i]? = some r ∧ Dn K H (frD f) v1 ∧ Dn K H (frD g) v2 ∧ OkF 1000 f ∧ OkF 1000 g ∧
  ∀ H', Same H H' → Q (.bl (withinM r f g)) H'
end L2
namespace L2
open PySem PySem.Spec PyProof.Rows Mth
end L2
namespace L2
open PySem PySem.Spec PyProof.Rows Mth
end L2
namespace L2
open PySem PySem.Spec PyProof.Rows Mth
def natD (n : Nat) : PyData := .int (n : Int)
theorem sz0 : ([] : List V).length ≤ sizeLine := Nat.zero_le _
end L2
namespace L2
open PySem PySem.Spec PyProof.Rows Mth
def cutI (ns : List Int) (lo hi : Option Int) : List Int := (ns.drop (HT.sIx ns.length 0 lo)).take (HT.sIx ns.length ns.length hi - HT.sIx ns.length 0 lo)
theorem cutV_ints (ns : List Int) (lo hi : Option Int) : cutV (ns.map V.int) lo hi = (cutI ns lo hi).map V.int := by
  unfold cutV cutI
  rw [List.length_map, ← List.map_drop, ← List.map_take]
end L2
namespace L2
open PySem PySem.Spec PyProof.Rows Mth
theorem cut {t u : TS} {D : Ends} {σ : St} {H : Hp} (h : ∀ R : St → Hp → Prop, (∀ σ' H', u D σ' H' → R σ' H') → t { D with nx := R } σ H) : tSeq t u D σ H := h (u D) fun _ _ x => x
/-- o.m(..), whatever class o is of -/
def tDyn (P : Program) (w : World) (K : PySem.W.Frag) (mg : Str → Option Value) (base : Heap) (m : Str) (k : Nat) (ta : TE) (t : TA) : TE := fun σ H Q => ta σ H fun x H1 =>
  ∃ C a dx fs ps sp, x = .ref a ∧ H1 a = some (.ins C dx fs) ∧ fs.lookup m = none ∧ Cls K C ∧ MDef P w K mg base C m k ps [] sp ∧ t σ H1 fun vs H2 => sp (.ref a :: (vs ++ [])) H2 Q E0
section
variable {X : Cx} {P : Program} {w : World} {K : PySem.W.Frag} {mg : Str → Option Value} {base : Heap} {m x : Str} {p pos apos : Pos} {e o : Expr} {es : List Expr} {ta : TE} {t : TA} {k : Nat}
theorem pe_dyn {pl : Sem Bool} (hX : X.prog = P ∧ X.w = w ∧ X.K = K ∧ X.mg = mg ∧ X.base = base) (he : PE X o ta) (hr : Room k X.A) (ha : PA X (e :: es) t)
    (hst : starEach (e :: es) X.env = (false, eval e X.env) :: starEach es X.env := by rfl) (hpl : (backTo pos (starEach es X.env)).any (·.1) = false := by rfl)
    (ht : eval (.Call (.Attribute o m apos) (e :: es) [] pos) X.env = (do
      let ov ← eval o X.env
      standAt apos.atName
      let (f, first) ← holding [ov] (getMethod ov m pl)
      callWith pos f first (backTo pos (starEach (e :: es) X.env)) (backToKw pos (keywordEach [] X.env))) := by rfl) :
    PE X (.Call (.Attribute o m apos) (e :: es) [] pos) (tDyn P w K mg base m k ta t) := by
  obtain ⟨rfl, rfl, rfl, rfl, rfl⟩ := hX
  intro pins s σ H Q I h
  refine PySem.W.methodCall_KW (pl := pl) (thn (he pins s σ H _ I h) fun u s1 z => ?_) ht
  obtain ⟨x, H1, I1, rx, C, a, dx, fs, ps, sp, ex, ea, l, c, ⟨f, fd, hm, hb, F⟩, q⟩ := z
  subst ex
  obtain rfl : u = Value.ref a := rx
  refine getmeth_ok I1 ea c hm l ?_
  refine PySem.W.callWith_K (first := [.ref a]) (h₀ := X.base) I.ok.mod.kin hm.kp (thn (ha pos pins s1 σ H1 _ I1 q) fun us s2 ⟨vs, H2, I2, r, q2⟩ => ⟨I2.kIn, ?_⟩) hst hpl
  exact run_fn (us := .ref a :: us) (vs := .ref a :: vs) F hr hb .nil pass0 I2 (.cons rfl r) q2
theorem pe_dyn0 {pl : Sem Bool} (hX : X.prog = P ∧ X.w = w ∧ X.K = K ∧ X.mg = mg ∧ X.base = base) (he : PE X o ta) (hr : Room k X.A)
    (ht : eval (.Call (.Attribute o m apos) [] [] pos) X.env = (do
      let ov ← eval o X.env
      standAt apos.atName
      let (f, first) ← holding [ov] (getMethod ov m pl)
      callWith pos f first (backTo pos (starEach [] X.env)) (backToKw pos (keywordEach [] X.env))) := by rfl) :
    PE X (.Call (.Attribute o m apos) [] [] pos) (tDyn P w K mg base m k ta tNil) := by
  obtain ⟨rfl, rfl, rfl, rfl, rfl⟩ := hX
  intro pins s σ H Q I h
  refine PySem.W.methodCall_KW (pl := pl) (thn (he pins s σ H _ I h) fun u s1 z => ?_) ht
  obtain ⟨x, H1, I1, rx, C, a, dx, fs, ps, sp, ex, ea, l, c, ⟨f, fd, hm, hb, F⟩, q⟩ := z
  subst ex
  obtain rfl : u = Value.ref a := rx
  refine getmeth_ok I1 ea c hm l ?_
  exact PySem.W.callWith_K0 (first := [.ref a]) I1.kIn hm.kp (run_fn (us := [.ref a]) (vs := [.ref a]) F hr hb .nil pass0 I1 (.cons rfl .nil) q)
/-- a def of the class at C, read off the class -/
structure ClsFn (K : PySem.W.Frag) (C : Addr) (m : Str) (f : Addr) : Prop where
  ga : PySem.W.specialIn K (.ref C) "__getattribute__" = some (some (.builtin "type.__getattribute__"))
  rd : ∃ mc, PySem.W.readsIn K C mc = true ∧ PySem.W.findCls K (.ref C) mc m = some (.val (.ref f))
  kp : PySem.W.keepIn K (.ref f) = true
end
/-- a def that is read off its class -/
def CDef (P : Program) (w : World) (K : PySem.W.Frag) (mg : Str → Option Value) (base : Heap) (C : Addr) (m : Str) (k : Nat) (ps : List Str) (sp : Sp) : Prop :=
  ∃ f fd, ClsFn K C m f ∧ Binds K fd ps [] ∧ FnOk P w K mg base CX0 k f fd ps sp
theorem MDef.mono {P : Program} {w : World} {K : PySem.W.Frag} {mg : Str → Option Value} {base : Heap} {C : Addr} {m : Str} {j k : Nat} {ps : List Str} {ds : List Value} {sp : Sp} (h : MDef P w K mg base C m j ps ds sp) (hk : j ≤ k) : MDef P w K mg base C m k ps ds sp := by
  obtain ⟨f, fd, M, B, F⟩ := h
  exact ⟨f, fd, M, B, F.mono hk⟩
end L2
namespace L2
open PySem PySem.Spec PyProof.Rows Mth
def ClockAt (C : Addr) (H : Hp) (a : Addr) (ws : List Int) : Prop := ∃ dx pw, H a = some (.ins C dx [("wishes", .ref pw)]) ∧ H dx = some (.own a) ∧ H pw = some (.lst (ws.map V.int)) ∧ 1 ≤ ws.length ∧ ws.length ≤ 24
theorem ClockAt.same {C : Addr} {H H' : Hp} {a : Addr} {ws : List Int} (h : ClockAt C H a ws) (s : Same H H') : ClockAt C H' a ws := by
  obtain ⟨dx, pw, h1, h2, h3, h4⟩ := h
  exact ⟨dx, pw, s _ _ h1, s _ _ h2, s _ _ h3, h4⟩
/-- the attributes of a pair -/
def PairAt (C : Addr) (H : Hp) (b a1 a2 : Addr) (ex : List (Str × V)) : Prop := ∃ dx, H b = some (.ins C dx (("one", .ref a1) :: ("other", .ref a2) :: ex)) ∧ H dx = some (.own b)
theorem PairAt.same {C : Addr} {H H' : Hp} {b a1 a2 : Addr} {ex : List (Str × V)} (h : PairAt C H b a1 a2 ex) (s : Same H H') : PairAt C H' b a1 a2 ex := by
  obtain ⟨dx, h1, h2⟩ := h
  exact ⟨dx, s _ _ h1, s _ _ h2⟩
section
variable (C : Addr)
def sp_cminds : Sp := fun vs H Q _ => ∃ a ws, vs = [.ref a] ∧ ClockAt C H a ws ∧ Q (natV ws.length) H
def sp_csize : Sp := fun vs H Q _ => ∃ v, vs = [v] ∧ Q (.int 1) H
def sp_cwish : Sp := fun vs H Q _ => ∃ a ws, ∃ i : Nat, ∃ z st, vs = [.ref a, natV i, st] ∧ ClockAt C H a ws ∧ ws[i]? = some z ∧ Q (.int z) H
def sp_cafter : Sp := fun vs H Q _ => ∃ a ws, ∃ i : Nat, ∃ st, vs = [.ref a, natV i, st] ∧ ClockAt C H a ws ∧ Q (natV ((i + 1) % ws.length)) H
def sp_cinit (K : PySem.W.Frag) : Sp := fun vs H Q _ => ∃ x dx p, ∃ ws : List Int, vs = [.ref x, .ref p] ∧ H x = some (.ins C dx []) ∧ H dx = some (.own x) ∧ SqL K H p (ws.map V.int) ∧ 1 ≤ ws.length ∧ ws.length ≤ 24 ∧
  ∀ H', (∀ b o, H b = some o → b ≠ x → H' b = some o) → ClockAt C H' x ws → Q .non H'
end
end L2
namespace L2
open PySem PySem.Spec PyProof.Rows Mth
/-- what a class of pairs must have -/
structure PCl (K : PySem.W.Frag) (C : Addr) : Prop where
  cl : Cls K C
  n1 : NoAttr K C "one"
  n2 : NoAttr K C "other"
/-- a pair of two clocks -/
structure PairC (K : PySem.W.Frag) (CC C : Addr) (H : Hp) (b a1 a2 : Addr) (ex : List (Str × V)) (ws1 ws2 : List Int) : Prop where
  pc : PCl K C
  at_ : PairAt C H b a1 a2 ex
  c1 : ClockAt CC H a1 ws1
  c2 : ClockAt CC H a2 ws2
  e0 : ex.lookup ("minds" : Str) = none ∧ ex.lookup ("size" : Str) = none ∧ ex.lookup ("wish_of_one" : Str) = none ∧ ex.lookup ("wish_of_other" : Str) = none
theorem PairC.same {K : PySem.W.Frag} {CC C : Addr} {H H' : Hp} {b a1 a2 : Addr} {ex : List (Str × V)} {ws1 ws2 : List Int} (h : PairC K CC C H b a1 a2 ex ws1 ws2) (s : Same H H') : PairC K CC C H' b a1 a2 ex ws1 ws2 :=
  ⟨h.pc, h.at_.same s, h.c1.same s, h.c2.same s, h.e0⟩
section
variable (K : PySem.W.Frag) (CC : Addr)
def sp_pminds : Sp := fun vs H Q _ => ∃ C b a1 a2 ex ws1 ws2, vs = [.ref b] ∧ PairC K CC C H b a1 a2 ex ws1 ws2 ∧ Q (natV (ws1.length * ws2.length)) H
def sp_psize : Sp := fun vs H Q _ => ∃ C b a1 a2 ex ws1 ws2, vs = [.ref b] ∧ PairC K CC C H b a1 a2 ex ws1 ws2 ∧ Q (.int 3) H
def sp_pone : Sp := fun vs H Q _ => ∃ C b a1 a2 ex ws1 ws2, ∃ i : Nat, ∃ z st, vs = [.ref b, natV i, st] ∧ PairC K CC C H b a1 a2 ex ws1 ws2 ∧ ws1[i / ws2.length]? = some z ∧ Q (.int z) H
def sp_pother : Sp := fun vs H Q _ => ∃ C b a1 a2 ex ws1 ws2, ∃ i : Nat, ∃ z st, vs = [.ref b, natV i, st] ∧ PairC K CC C H b a1 a2 ex ws1 ws2 ∧ ws2[i % ws2.length]? = some z ∧ Q (.int z) H
def sp_pafter : Sp := fun vs H Q _ => ∃ C b a1 a2 ex ws1 ws2, ∃ i : Nat, ∃ st, vs = [.ref b, natV i, st] ∧ PairC K CC C H b a1 a2 ex ws1 ws2 ∧
  ∀ H', Same H H' → Q (natV ((i / ws2.length + 1) % ws1.length * ws2.length + (i % ws2.length + 1) % ws2.length)) H'
end
/-- its minds and its size by any class of pairs -/
structure PM (P : Program) (w : World) (K : PySem.W.Frag) (mg : Str → Option Value) (base : Heap) (CC C : Addr) : Prop where
  pc : PCl K C
  mi : MDef P w K mg base C "minds" 2 ["self"] [] (sp_pminds K CC)
  si : MDef P w K mg base C "size" 2 ["self"] [] (sp_psize K CC)
def sp_look (P : Program) (w : World) (K : PySem.W.Frag) (mg : Str → Option Value) (base : Heap) (CC : Addr) : Sp := fun vs H Q _ => ∃ C b a1 a2 ex ws1 ws2, vs = [.ref b] ∧ PM P w K mg base CC C ∧ PairC K CC C H b a1 a2 ex ws1 ws2 ∧ ws1.length * ws2.length ≤ 60 ∧ Q .non H
def sp_pinit (P : Program) (w : World) (K : PySem.W.Frag) (mg : Str → Option Value) (base : Heap) (CC : Addr) : Sp := fun vs H Q _ => ∃ C x dx a1 a2 ws1 ws2, vs = [.ref x, .ref a1, .ref a2] ∧ PM P w K mg base CC C ∧ H x = some (.ins C dx []) ∧ H dx = some (.own x) ∧
  ClockAt CC H a1 ws1 ∧ ClockAt CC H a2 ws2 ∧ ws1.length * ws2.length ≤ 60 ∧ ∀ H', (∀ b o, H b = some o → b ≠ x → H' b = some o) → H' x = some (.ins C dx [("one", .ref a1), ("other", .ref a2)]) → Q .non H'
theorem HasM.of {P : Program} {w : World} {K : PySem.W.Frag} {mg : Str → Option Value} {base : Heap} {C : Addr} {m qual : Str} {st : Stmt} {k : Nat} {ps : List Str} {sp : Sp} (h : HasM K C m qual st .none)
    (hb : ∀ (kV doc pm : Value) (an : Option Addr) (cdv ct : Value) (us : List Value), us.length = ps.length → bindArgs (PySem.W.fnOf m qual (defArgs st) (defBody st) (defScope st) .none kV doc pm an cdv ct) ⟨us, []⟩ = pure (ps.zip us))
    (hf : ∀ f fd, FunD K m qual st .none f fd → FnOk P w K mg base CX0 k f fd ps sp) : MDef P w K mg base C m k ps [] sp := by
  obtain ⟨f, fd, M, F⟩ := h
  exact ⟨f, fd, M, F.binds0 hb, hf f fd F⟩
end L2
namespace L2
open PySem PySem.Spec PyProof.Rows Mth
section
variable (K : PySem.W.Frag) (CC : Addr)
/-- the wish of a pair of the class at C, by both wishes -/
def sp_w (C : Addr) (g : Int → Int → Int) : Sp := fun vs H Q _ => ∃ b a1 a2 ex ws1 ws2, ∃ i : Nat, ∃ z1 z2 st, vs = [.ref b, natV i, st] ∧ PairC K CC C H b a1 a2 ex ws1 ws2 ∧ ws1[i / ws2.length]? = some z1 ∧ ws2[i % ws2.length]? = some z2 ∧ ∀ r, r = g z1 z2 → Q (.int r) H
def belowX (r bd : Int) : List (Str × V) := [("room", .int r), ("band", .int bd)]
def sp_w3 (C : Addr) : Sp := fun vs H Q _ => ∃ b a1 a2 ws1 ws2, ∃ i r : Nat, ∃ z1 z2 bd x : Int, ∃ ps pb rest, ∃ bs : List Int, vs = [.ref b, natV i, .ref ps] ∧ PairC K CC C H b a1 a2 (belowX r bd) ws1 ws2 ∧ ws1[i / ws2.length]? = some z1 ∧ ws2[i % ws2.length]? = some z2 ∧
  SqT K H ps (.ref pb :: rest) ∧ SqT K H pb (bs.map V.int) ∧ bs[r]? = some x ∧ Q (.int (if x < bd then z1 else z2)) H
end
def sp_binit (P : Program) (w : World) (K : PySem.W.Frag) (mg : Str → Option Value) (base : Heap) (CC C : Addr) : Sp := fun vs H Q _ => ∃ x dx a1 a2 ws1 ws2, ∃ r bd : Int, vs = [.ref x, .int r, .int bd, .ref a1, .ref a2] ∧ H x = some (.ins C dx []) ∧ H dx = some (.own x) ∧
  ClockAt CC H a1 ws1 ∧ ClockAt CC H a2 ws2 ∧ ws1.length * ws2.length ≤ 60 ∧ ∀ H', (∀ b o, H b = some o → b ≠ x → H' b = some o) → H' x = some (.ins C dx (("one", .ref a1) :: ("other", .ref a2) :: belowX r bd)) → Q .non H'
end L2
namespace L2
open PySem PySem.Spec PyProof.Rows Mth
def sp_stream : Sp := fun vs H Q _ => ∃ c : Int, ∃ m : Nat, vs = [.int c, natV m] ∧ m ≤ 100 ∧ ∀ p (ns : List Int) H', Same H H' → H' p = some (.lst (ns.map V.int)) → ns.length = m → (∀ z ∈ ns, 0 ≤ z ∧ z < 2 ^ 31) → Q (.ref p) H'
theorem cut2 {ns : List Int} {n : Nat} (h : ns.length = n + 2) : cutV (ns.map V.int) (some 2) none = (ns.drop 2).map V.int := by
  rw [cutV_ints]
  unfold cutI
  have e : HT.sIx ns.length 0 (some 2) = 2 := by
    unfold HT.sIx
    simp
    omega
  rw [e]
  have e2 : HT.sIx ns.length ns.length none = ns.length := rfl
  rw [e2, List.take_of_length_le (by rw [List.length_drop]; omega)]
end L2
namespace L2
open PySem PySem.Spec PyProof.Rows Mth
/-- a state of some rooms at ps -/
def StAt (H : Hp) (ps : Addr) (bs ws fs : List Int) (bu hp : Int) : Prop := ∃ pb pw pf, H ps = some (.tup [.ref pb, .int bu, .ref pw, .ref pf, .int hp]) ∧ H pb = some (.tup (bs.map V.int)) ∧ H pw = some (.tup (ws.map V.int)) ∧ H pf = some (.tup (fs.map V.int))
theorem StAt.same {H H' : Hp} {ps : Addr} {bs ws fs : List Int} {bu hp : Int} (h : StAt H ps bs ws fs bu hp) (s : Same H H') : StAt H' ps bs ws fs bu hp := by
  obtain ⟨pb, pw, pf, h1, h2, h3, h4⟩ := h
  exact ⟨pb, pw, pf, s _ _ h1, s _ _ h2, s _ _ h3, s _ _ h4⟩
def sp_state (K : PySem.W.Frag) : Sp := fun vs H Q _ => ∃ p, ∃ ns : List Int, ∃ r : Nat, vs = [.ref p, natV r] ∧ SqL K H p (ns.map V.int) ∧ 6 ≤ ns.length ∧ (∀ z ∈ ns, 0 ≤ z ∧ z < 2 ^ 31) ∧ 1 ≤ r ∧ r ≤ 4 ∧
  ∀ ps (bs ws fs : List Int) (bu hp : Int) H', Same H H' → StAt H' ps bs ws fs bu hp → bs.length = r → ws.length = r → fs.length = r → (∀ z ∈ bs, 0 ≤ z ∧ z ≤ 6) → 0 ≤ bu → bu < 16 → 0 ≤ hp → hp ≤ 30 → Q (.ref ps) H'
def sp_whole : Sp := fun vs H Q _ => ∃ z : Int, vs = [.int z] ∧ Q (.bl true) H
def sp_bits : Sp := fun vs H Q _ => ∃ c : Int, vs = [.int c] ∧ 0 ≤ c ∧ c < 2 ^ 31 ∧ ∀ z, 0 ≤ z → z < 2 ^ 61 → ∀ H', Same H H' → Q (.int z) H'
def sp_are (K : PySem.W.Frag) : Sp := fun vs H Q _ => ∃ p q, ∃ ns : List Int, vs = [.ref p, .ref q] ∧ SqL K H p (ns.map V.int) ∧ SqL K H q (ns.map V.int) ∧ ns.length ≤ 10 ∧ Q (.bl true) H
theorem ints_get {l : List Int} {j : Nat} (h : j < l.length) : (l.map V.int)[j]? = some (.int l[j]) := by rw [List.getElem?_map, get_nat h]; rfl
end L2
namespace L2
open PySem PySem.Spec PyProof.Rows Mth
def opN (any : Bool) (a b : Nat) : Nat := if any then a ||| b else a &&& b
def digN (any : Bool) (a b : Nat) : Nat := if a % 2 + b % 2 > 1 - (if any then 1 else 0) then 1 else 0
def sp_mixed : Sp := fun vs H Q _ => ∃ a b : Nat, ∃ any : Bool, vs = [natV a, natV b, .bl any] ∧ a < 2 ^ 61 ∧ b < 2 ^ 61 ∧ Q (natV (opN any a b)) H
end L2
namespace L2
open PySem PySem.Spec PyProof.Rows Mth
def dueN (w a b : Nat) (c : Bool) : Nat := if w = 0 then a else if w = 3 then (if c then a else b) else opN (w == 1) a b
def sp_due : Sp := fun vs H Q _ => ∃ w a b : Nat, ∃ c : Bool, vs = [natV w, natV a, natV b, .bl c] ∧ w < 4 ∧ a < 2 ^ 61 ∧ b < 2 ^ 61 ∧ ∀ H', Same H H' → Q (natV (dueN w a b c)) H'
def exW (w r : Nat) (bd : Int) : List (Str × V) := if w = 3 then belowX r bd else []
/-- a wish, by any of the four classes -/
def sp_wishW (K : PySem.W.Frag) (CC C : Addr) (w : Nat) : Sp := fun vs H Q _ => ∃ b a1 a2 ws1 ws2, ∃ i r : Nat, ∃ z1 z2 : Nat, ∃ bd x : Int, ∃ ps bs us fs bu hp, vs = [.ref b, natV i, .ref ps] ∧ PairC K CC C H b a1 a2 (exW w r bd) ws1 ws2 ∧ ws1[i / ws2.length]? = some (z1 : Int) ∧ ws2[i % ws2.length]? = some (z2 : Int) ∧
  StAt H ps bs us fs bu hp ∧ bs[r]? = some x ∧ Q (natV (dueN w z1 z2 (decide (x < bd)))) H
structure KW (P : Program) (w : World) (K : PySem.W.Frag) (mg : Str → Option Value) (base : Heap) (CC C CK CP : Addr) (way : Nat) : Prop where
  pm : PM P w K mg base CC C
  af : MDef P w K mg base C "after" 2 ["self", "mind", "state"] [] (sp_pafter K CC)
  wi : MDef P w K mg base C "wish" 3 ["self", "mind", "state"] [] (sp_wishW K CC C way)
  ty : ∀ {H : Hp} {b dx : Addr} {fs : List (Str × V)}, H b = some (.ins C dx fs) → TyOf K H (.ref b) (.ref C)
  kk : PySem.W.kitOne K (.ref C) (.ref CK) = some true
  kp : PySem.W.kitOne K (.ref C) (.ref CP) = some true
def sp_made (K : PySem.W.Frag) (CC : Addr) (cw : Nat → Addr) : Sp := fun vs H Q _ => ∃ way r : Nat, ∃ bd : Int, ∃ a1 a2 ws1 ws2, vs = [natV way, .ref a1, .ref a2, natV r, .int bd] ∧ way < 4 ∧ ClockAt CC H a1 ws1 ∧ ClockAt CC H a2 ws2 ∧ ws1.length * ws2.length ≤ 60 ∧
  ∀ b H', Same H H' → PairC K CC (cw way) H' b a1 a2 (exW way r bd) ws1 ws2 → Q (.ref b) H'
end L2
namespace L2
open PySem PySem.Spec PyProof.Rows Mth
abbrev natsI (l : List Nat) : List Int := l.map Int.ofNat
structure PR (K : PySem.W.Frag) (CC : Addr) (H : Hp) (pp pws pst a1 a2 q1 q2 s1 s2 : Addr) (W1 W2 : List Nat) (room : Nat) : Prop where
  hp : H pp = some (.lst [.ref a1, .ref a2])
  hw : H pws = some (.lst [.ref q1, .ref q2])
  hs : H pst = some (.lst [.ref s1, .ref s2])
  c1 : ClockAt CC H a1 (natsI W1)
  c2 : ClockAt CC H a2 (natsI W2)
  h1 : H q1 = some (.lst ((natsI W1).map V.int))
  h2 : H q2 = some (.lst ((natsI W2).map V.int))
  t1 : ∃ bs us fs bu hp, StAt H s1 bs us fs bu hp ∧ room < bs.length
  t2 : ∃ bs us fs bu hp, StAt H s2 bs us fs bu hp ∧ room < bs.length
theorem PR.same {K : PySem.W.Frag} {CC : Addr} {H H' : Hp} {pp pws pst a1 a2 q1 q2 s1 s2 : Addr} {W1 W2 : List Nat} {room : Nat} (h : PR K CC H pp pws pst a1 a2 q1 q2 s1 s2 W1 W2 room) (s : Same H H') : PR K CC H' pp pws pst a1 a2 q1 q2 s1 s2 W1 W2 room := by
  obtain ⟨b1, u1, f1, c1, d1, g1, l1⟩ := h.t1
  obtain ⟨b2, u2, f2, c2, d2, g2, l2⟩ := h.t2
  exact ⟨s _ _ h.hp, s _ _ h.hw, s _ _ h.hs, h.c1.same s, h.c2.same s, s _ _ h.h1, s _ _ h.h2, ⟨b1, u1, f1, c1, d1, g1.same s, l1⟩, ⟨b2, u2, f2, c2, d2, g2.same s, l2⟩⟩
def sp_pright (K : PySem.W.Frag) (CC : Addr) : Sp := fun vs H Q _ => ∃ way room : Nat, ∃ band number : Int, ∃ pp pws pst a1 a2 q1 q2 s1 s2 W1 W2, vs = [natV way, .ref pp, .ref pws, .ref pst, natV room, .int band, .int number] ∧ way < 4 ∧ PR K CC H pp pws pst a1 a2 q1 q2 s1 s2 W1 W2 room ∧
  1 ≤ W1.length ∧ W1.length ≤ 7 ∧ 1 ≤ W2.length ∧ W2.length ≤ 8 ∧ (∀ z ∈ W1, z < 2 ^ 61) ∧ (∀ z ∈ W2, z < 2 ^ 61) ∧ 0 ≤ number ∧ ∀ H', Same H H' → Q (.bl true) H'
end L2
namespace L2
open PySem PySem.Spec PyProof.Rows Mth
end L2
namespace L2
open PySem PySem.Spec PyProof.Rows Mth
theorem StAt.put {H : Hp} {ps D : Addr} {bs ws fs : List Int} {bu hp : Int} {acc : List V} {o : HO} (h : StAt H ps bs ws fs bu hp) (hD : H D = some (.lst acc)) : StAt (upd H D o) ps bs ws fs bu hp := by
  obtain ⟨pb, pw, pf, h1, h2, h3, h4⟩ := h
  exact ⟨pb, pw, pf, by rw [upd_ne (ne_obj h1 hD nofun)]; exact h1, by rw [upd_ne (ne_obj h2 hD nofun)]; exact h2, by rw [upd_ne (ne_obj h3 hD nofun)]; exact h3, by rw [upd_ne (ne_obj h4 hD nofun)]; exact h4⟩
end L2
namespace L2
open PySem PySem.Spec PyProof.Rows Mth
end L2
namespace L2
open PySem PySem.Spec PyProof.Rows Mth
/-- an object that stays as it is -/
def Fz (o : Obj) : HO := .frz o (.ext fun _ => True)
theorem fz_ok {P : Program} {w : World} {H : Hp} {h : Heap} {a : Addr} {o : Obj} (e : h.get? a = some o) : ObjOk P w H h a (Fz o) := ⟨e, trivial, ⟨o, e⟩, fun _ _ _ _ => trivial⟩
theorem fz_get {P : Program} {w : World} {H : Hp} {h : Heap} {a : Addr} {o : Obj} (x : HOk P w H h) (e : H a = some (Fz o)) : h.get? a = some o := (x a _ e).1
/-- without the cells at cs; with them again -/
def wo (H : Hp) (cs : List Addr) : Hp := fun b => if b ∈ cs then none else H b
def wi (H : Hp) (cs : List Addr) (H' : Hp) : Hp := fun b => if b ∈ cs then H b else H' b
section
variable {P : Program} {w : World} {H H' : Hp} {h h' : Heap} {cs fs : List Addr}
theorem wo_in {c : Addr} (hc : c ∈ cs) : wo H cs c = none := if_pos hc
theorem wo_out {c : Addr} (hc : c ∉ cs) : wo H cs c = H c := if_neg hc
theorem wi_in {c : Addr} (hc : c ∈ cs) : wi H cs H' c = H c := if_pos hc
theorem wi_out {c : Addr} (hc : c ∉ cs) : wi H cs H' c = H' c := if_neg hc
theorem wo_some {b : Addr} {o : HO} (e : wo H cs b = some o) : b ∉ cs ∧ H b = some o := by
  by_cases hb : b ∈ cs
  · rw [wo_in hb] at e; cases e
  · rw [wo_out hb] at e; exact ⟨hb, e⟩
theorem wo_hok (x : HOk P w H h) (hc : ∀ c ∈ cs, ∃ o, H c = some (Fz o)) : HOk P w (wo H cs) h := fun a o e => by
  obtain ⟨_, e'⟩ := wo_some e
  refine (x a o e').stay (fun b u _ q => q) (fun b q => ?_) fun b xs q => ?_
  · rw [wo_out]
    · exact q
    · intro hb
      obtain ⟨ob, eb⟩ := hc b hb
      rw [eb] at q; cases q
  · rw [wo_out]
    · exact q
    · intro hb
      obtain ⟨ob, eb⟩ := hc b hb
      rw [eb] at q; cases q
theorem wi_un (u : Un fs [] (wo H cs) H' h h') (hc : ∀ c ∈ cs, ∃ o, H c = some (Fz o)) : Un fs [] H (wi H cs H') h h' := by
  have out : ∀ b, H b = none → b ∉ cs := fun b n hb => by
    obtain ⟨o, e⟩ := hc b hb
    rw [n] at e; cases e
  refine ⟨fun b o e n hb hx => u.keep b o e (by rw [wo_out (out b n)]; exact n) hb hx, fun b o e n hb hx => u.slot b o e (by rw [wo_out (out b n)]; exact n) hb hx,
    fun b o e n hx => ?_, u.there, fun b xs e => ?_, fun b o v e => ?_, fun b ps e => ?_⟩
  · rw [wi_out (out b n)]
    exact u.free b o e (by rw [wo_out (out b n)]; exact n) hx
  · have hb : b ∉ cs := fun hb => by
      obtain ⟨o, e'⟩ := hc b hb
      rw [e] at e'; cases e'
    rw [wi_out hb]
    exact u.tups b xs (by rw [wo_out hb]; exact e)
  · by_cases hb : b ∈ cs
    · rw [wi_in hb]; exact e
    · rw [wi_out hb]
      exact u.frzs b o v (by rw [wo_out hb]; exact e)
  · have hb : b ∉ cs := fun hb => by
      obtain ⟨o, e'⟩ := hc b hb
      rw [e] at e'; cases e'
    obtain ⟨more, q⟩ := u.tbls b ps (by rw [wo_out hb]; exact e)
    exact ⟨more, by rw [wi_out hb]; exact q⟩
theorem wi_hok (x : HOk P w H' h') (hn : ∀ c ∈ cs, H' c = none) (hk : ∀ c ∈ cs, ∃ o, H c = some (Fz o) ∧ h'.get? c = some o) : HOk P w (wi H cs H') h' := fun a o e => by
  by_cases ha : a ∈ cs
  · rw [wi_in ha] at e
    obtain ⟨ob, e1, e2⟩ := hk a ha
    rw [e1] at e
    cases e
    exact fz_ok e2
  · rw [wi_out ha] at e
    refine (x a o e).stay (fun b u _ q => q) (fun b q => ?_) fun b xs q => ?_
    · rw [wi_out fun hb => by rw [hn b hb] at q; cases q]; exact q
    · rw [wi_out fun hb => by rw [hn b hb] at q; cases q]; exact q
end
/-- the frame of a function made at run time -/
def cxLam (P : Program) (w : World) (K : PySem.W.Frag) (mg : Str → Option Value) (base : Heap) (N : List Str) (env : Env) (A : Around) (outer : List Env) (s : Shared) (H : Hp) : Cx where
  prog := P
  w := w
  K := K
  mg := mg
  base := base
  A := A.deeper env
  N := N
  s₀ := s
  H₀ := H
  env := env
  outer := outer
  stack := env :: outer
  ex := []
  calm := true
  fn := fun _ => false
  pn := []
  xe := fun _ _ => False
/-- what the text says of a function of one parameter x, that reads the names fr of its maker -/
structure LamScope (x : Str) (fr : List Str) (scope : Scope) : Prop where
  kind : scope.kind = .function
  co : scope.isCoroutine = false
  gen : scope.isGenerator = false
  par : scope.names.lookup x = some .local
  frs : ∀ y ∈ fr, scope.names.lookup y = some .free
  nocell : ∀ y ∈ scope.names, y.2 ≠ .cell
  free : ∀ y, scope.names.lookup y = some .free → y ∈ fr
/-- the function at f as it was made: its text, its cells and what they hold -/
structure Lam (H : Hp) (f : Addr) (qual : Str) (params : Arguments) (body : Expr) (scope : Scope) (cl : List (Str × Addr)) (fr : List Str) (vals : List V) : Prop where
  fn : ∃ name pm c' ctv oc vs t, H f = some (Fz (PySem.W.kla_obj name qual params body scope cl pm c' ctv)) ∧ H c' = some (Fz oc) ∧ oc.data = .fields vs ∧ vs[1]? = some (.str qual t) ∧ c' ≤ f
  cells : Paired (fun (y : Str) (v : V) => ∃ c o u, cl.lookup y = some c ∧ H c = some (Fz o) ∧ o.data = .cell (some u) ∧ RelV v u) fr vals
  all : ∀ y c, (y, c) ∈ cl → ∃ o v, H c = some (Fz o) ∧ o.data = .cell v ∧ c ≤ f
  apart : ∀ y z c, cl.lookup y = some c → cl.lookup z = some c → y = z
theorem paired_get {α β : Type} {F : α → β → Prop} : ∀ {l₁ : List α} {l₂ : List β} {i : Nat} {x : α}, Paired F l₁ l₂ → l₁[i]? = some x → ∃ y, l₂[i]? = some y ∧ F x y
  | _, _, _, _, .nil, e => by simp at e
  | _, _, 0, _, .cons r _, e => by simp at e; subst e; exact ⟨_, rfl, r⟩
  | _, _, i + 1, x, .cons _ t, e => by
    obtain ⟨y, h1, h2⟩ := paired_get (i := i) (x := x) t (by simpa using e)
    exact ⟨y, by simpa using h1, h2⟩
section
variable {P : Program} {w : World} {K : PySem.W.Frag} {mg : Str → Option Value} {base : Heap} {k : Nat} {f : Addr} {A : Around} {outer : List Env} {s : Shared} {H : Hp}
  {qual : Str} {params : Arguments} {body : Expr} {scope : Scope} {cl : List (Str × Addr)} {fr : List Str} {vals : List V} {x : Str} {u : Value} {v : V} {Q : VK} {E : XK}
/-- the frame's environment -/
def lamEnv (qual : Str) (scope : Scope) (L f c' : Addr) (cl : List (Str × Addr)) : Env :=
  { scope := scope, locals := L, globals := mainGlobals, cells := cl, qual := qual ++ ".<locals>.", func := some f, code := .ref c', frame := some L, builtins := builtinsNs }
theorem run_lam (hr : Room (k + 1) A) (e0 : Env0 P w K mg base A outer s H) (L : Lam H f qual params body scope cl fr vals) (S : LamScope x fr scope)
    (hbind : ∀ (name : Str) (pm cd ct : Value) (u : Value), bindArgs (PySem.W.kla_fn name qual params body scope cl pm cd ct) ⟨[u], []⟩ = pure [(x, u)]) (r : RelV v u)
    (hbody : ∀ c' : Addr, Room k (A.deeper (lamEnv qual scope s.heap.objs.size f c' cl)) → ∃ te, PE (cxLam P w K mg base (x :: fr) (lamEnv qual scope s.heap.objs.size f c' cl) A outer s (wo H (cl.map (·.2)))) body te ∧
      te (some v :: vals.map some) (wo H (cl.map (·.2))) (fun y H' => Q y (wi H (cl.map (·.2)) H'))) :
    codeAny (model P w) A (.call (.ref f) ⟨[u], []⟩) (CR CX0 outer P w H s Q E) s := by
  obtain ⟨name, pm, c', ctv, oc, vs, t, hf, hc', hd, hv, _⟩ := L.fn
  have lim : s.heap.NoLimit := e0.mod.nolimit.keeps fun b o e => (e0.bs b o e).1
  have hcs : ∀ c ∈ cl.map (·.2), ∃ o, H c = some (Fz o) := fun c hc => by
    obtain ⟨⟨y, c2⟩, hm, rfl⟩ := List.mem_map.mp hc
    obtain ⟨o, _, e, _⟩ := L.all y c2 hm
    exact ⟨o, e⟩
  have inCs : ∀ y c, cl.lookup y = some c → c ∈ cl.map (·.2) := fun y c e => List.mem_map.mpr ⟨(y, c), PySem.mem_of_lookup e, rfl⟩
  refine PySem.W.kla_callFunE hr.depth (fz_get e0.hok hf) rfl S.co S.gen rfl ⟨c', oc, vs, t, rfl, fz_get e0.hok hc', hd, hv⟩ ?_
  rw [hbind]
  refine wpAny_pure (wpAny_newFunctionEnv S.nocell (fun y hy => ?_) (fun h₁ hns hsb => ⟨lim.fresh _ hsb, ?_⟩) S.kind)
  · rw [List.mem_singleton.mp hy]; exact S.par
  show codeAny _ A (.expr body (lamEnv qual scope s.heap.objs.size f c' cl)) _ _
  obtain ⟨te, ht, hq⟩ := hbody c' (hr.deeper _)
  have hk₁ : ∀ b o, s.heap.get? b = some o → h₁.get? b = some o := fun b o e => hsb.extBut b o (Nat.ne_of_lt (Heap.lt_size e)) (Heap.get?_push_of_some _ e)
  have hok0 := wo_hok e0.hok hcs
  have noA : ∀ b : Addr, b ∉ ([] : List Addr) := fun b z => by cases z
  have len : fr.length = vals.length := L.cells.length
  have I : Inv (cxLam P w K mg base (x :: fr) (lamEnv qual scope s.heap.objs.size f c' cl) A outer s (wo H (cl.map (·.2)))) [] (some v :: vals.map some) (wo H (cl.map (·.2))) { s with heap := h₁, toks := s.toks + [(x, u)].length } := by
    refine ⟨⟨e0.mod, S.kind, rfl, rfl, Nat.le_refl _, L.apart, fun y hy => ?_, fun y c z => (nomatch z), fun _ => hr.hd, Around.frames_deeper e0.frames, .inr ⟨rfl, rfl⟩, fun b z => absurd z (noA b), fun b o e => ⟨(e0.bs b o e).1, ?_⟩, e0.bsz, fun b _ _ => noA b, fun b z => absurd z (noA b), e0.funs, fun b hb => ?_⟩,
      rfl, e0.bare, Un.kept hk₁, ⟨_, hns, fun i y v' h1 h2 h3 => ?_⟩, fun y c h => ?_, hok0.fresh (Nat.le_refl _), fun y c h => wo_in (inCs y c h), fun p hp => absurd (show p ∈ ([] : List (Addr × Obj)) from hp) (by simp), hok0.kept hk₁, ?_⟩
    · have hy : scope.names.lookup y = some .cell ∨ scope.names.lookup y = some .free := hy
      rcases hy with hy | hy
      · exact absurd rfl (S.nocell _ (PySem.mem_of_lookup hy))
      · obtain ⟨i, hi, e⟩ := List.getElem_of_mem (S.free y hy)
        obtain ⟨_, _, c, _, _, ec, _⟩ := paired_get L.cells (i := i) (x := y) (by rw [List.getElem?_eq_getElem hi, e])
        exact ⟨c, ec⟩
    · show wo H (cl.map (·.2)) b = none
      by_cases hb : b ∈ cl.map (·.2)
      · exact wo_in hb
      · rw [wo_out hb]; exact (e0.bs b o e).2
    · show wo H (cl.map (·.2)) b = none
      by_cases hb' : b ∈ cl.map (·.2)
      · exact wo_in hb'
      · rw [wo_out hb']; exact e0.frf b hb
    · cases i with
      | zero =>
        obtain rfl : x = y := Option.some.inj h1
        obtain rfl : v = v' := Option.some.inj (Option.some.inj h2)
        refine ⟨u, r, .inl ⟨S.par, ?_⟩⟩
        show ([(x, u)].reverse).lookup x = some u
        simp
      | succ i =>
        have h1 : fr[i]? = some y := h1
        have h2 : (vals.map some)[i]? = some (some v') := h2
        obtain ⟨v2, ev, c, o, u2, ec, eH, eo, rv⟩ := paired_get L.cells h1
        rw [List.getElem?_map, ev] at h2
        obtain rfl : v2 = v' := Option.some.inj (Option.some.inj h2)
        exact ⟨u2, rv, .inr ⟨.inr (S.frs y (List.mem_of_getElem? h1)), c, ec, o, hk₁ _ _ (fz_get e0.hok eH), eo⟩⟩
    · obtain ⟨o, v2, e1, e2, _⟩ := L.all y c (PySem.mem_of_lookup h)
      exact ⟨v2, o, hk₁ _ _ (fz_get e0.hok e1), e2⟩
    · show (vals.map some).length + 1 = fr.length + 1
      rw [List.length_map, len]
  refine PySem.W.kla_codeExpr (wpAny_mono (ht [] _ _ _ _ I hq) (fun y s' hy => ?_) fun _ _ z => False.elim z)
  obtain ⟨y', H', I', ry, qy⟩ := hy
  have ub : Un (frs outer) [] (wo H (cl.map (·.2))) H' s.heap s'.heap := I'.base
  refine ⟨y', wi H (cl.map (·.2)) H', I'.os, I'.bare, wi_un ub hcs, wi_hok I'.hok (fun c hc => ?_) (fun c hc => ?_), ry, qy⟩
  · obtain ⟨o, e⟩ := hcs c hc
    exact ub.free c o (fz_get e0.hok e) (wo_in hc) (noA c)
  · obtain ⟨o, e⟩ := hcs c hc
    refine ⟨o, e, ub.keep c o (fz_get e0.hok e) (wo_in hc) (fun hb => ?_) (noA c)⟩
    rw [e0.frf c hb] at e
    cases e
end
end L2
namespace L2
open PySem PySem.Spec PyProof.Rows Mth
/-- a table of nested texts: empty, or with the one text at its place -/
def tabRow (p : Pos) (c : Addr) : Array Value := #[rawInt p.line, rawInt p.col, .ref c]
def TabE (H : Hp) (e : Addr × Pos × Str) : Prop :=
  H e.1 = some (.tbl #[]) ∨ ∃ c oc vs t, H e.1 = some (.tbl (tabRow e.2.1 c)) ∧ H c = some (Fz oc) ∧ oc.data = .fields vs ∧ vs[1]? = some (.str e.2.2 t)
def TabOk (T : List (Addr × Pos × Str)) (H : Hp) : Prop := ∀ e ∈ T, TabE H e
/-- the same but for tables -/
def Gr (H H' : Hp) : Prop := ∀ b o, H b = some o → (∀ ps, o ≠ .tbl ps) → H' b = some o
theorem Gr.refl {H : Hp} : Gr H H := fun _ _ e _ => e
theorem Gr.trans {H H1 H2 : Hp} (a : Gr H H1) (b : Gr H1 H2) : Gr H H2 := fun c o e n => b c o (a c o e n) n
theorem Gr.of {H H' : Hp} (h : ∀ b o, H b = some o → H' b = some o) : Gr H H' := fun b o e _ => h b o e
theorem Gr.fz {H H' : Hp} (g : Gr H H') {b : Addr} {o : Obj} (e : H b = some (Fz o)) : H' b = some (Fz o) := g b _ e fun ps z => by unfold Fz at z; cases z
theorem tabOk_of {T : List (Addr × Pos × Str)} {H H' : Hp} (t : TabOk T H) (h : ∀ b o, H b = some o → H' b = some o) : TabOk T H' := fun e he => by
  rcases t e he with q | ⟨c, oc, vs, t', q1, q2, q3, q4⟩
  · exact .inl (h _ _ q)
  · exact .inr ⟨c, oc, vs, t', h _ _ q1, h _ _ q2, q3, q4⟩
theorem among_row (p : Pos) (c : Addr) : codeAmong p (tabRow p c).toList = some (.ref c) := by
  show codeAmong p [rawInt p.line, rawInt p.col, .ref c] = _
  have := codeAmong_snoc (pos := p) (c := .ref c) [] trivial rfl
  exact this
theorem triples_row (p : Pos) (c : Addr) : TriplesOk (tabRow p c).toList := trivial
/-- the module __builtins__ -/
def BMain (mg : Str → Option Value) (base : Heap) : Prop := ∃ bm ob, mg "__builtins__" = some (.ref bm) ∧ bm ≠ builtinsNs ∧ base.get? bm = some ob ∧ ob.cls = .type "module" ∧ ob.dict = some builtinsNs ∧ ob.data = .plain
/-- a lambda: a new function object, and its text's record at the first time -/
def tLam (cells : List (Str × Addr)) (T : Addr) (pos : Pos) (qual : Str) (params : Arguments) (body : Expr) (scope : Scope) (cl : List (Str × Addr)) : TE := fun _ H Q => TabE H (T, pos, qual) ∧ ∀ f pm c ctv oc vs t H', H f = none → oc.data = .fields vs → vs[1]? = some (.str qual t) → c < f → (∀ y d, cells.lookup y = some d → d < f) →
  ((H c = some (Fz oc) ∧ H T = some (.tbl (tabRow pos c)) ∧ H' = upd H f (Fz (PySem.W.kla_obj "<lambda>" qual params body scope cl pm c ctv))) ∨
   (H c = none ∧ H T = some (.tbl #[]) ∧ H' = upd (upd (upd H T (.tbl (tabRow pos c))) c (Fz oc)) f (Fz (PySem.W.kla_obj "<lambda>" qual params body scope cl pm c ctv)))) → Q (.ref f) H'
section
variable {X : Cx} {params : Arguments} {body : Expr} {scope : Scope} {pos : Pos} {cl : List (Str × Addr)} {c T : Addr}
theorem pe_lam (hdef : defaultsOf params X.env = ([], [])) (hcl : closureFor scope X.env = pure cl) (hcode : X.env.code = .ref c) (hC : PySem.W.CodeHd X.base c T) (hbm : BMain X.mg X.base) :
    PE X (.Lambda params body scope pos) (tLam X.env.cells T pos (X.env.qual ++ "<lambda>") params body scope cl) := by
  intro pins s σ H Q I h
  obtain ⟨hT, h⟩ := h
  have hg : s.heap.Ns mainGlobals X.mg := I.mod.glob.keeps I.bk
  have hC' : PySem.W.CodeHd s.heap c T := hC.keeps I.bk
  obtain ⟨bm, ob, b1, b2, b3, b4, b5, b6⟩ := hbm
  have ⟨b3', b3n⟩ := I.bs _ _ b3
  have hTs : H T ≠ none := by
    rcases hT with q | ⟨_, _, _, _, q, _⟩ <;> rw [show H T = _ from q] <;> simp
  have hgT : mainGlobals ≠ T := fun q => by
    obtain ⟨o, es, ep, e, _⟩ := I.mod.glob
    exact hTs (q ▸ (I.bs _ _ e).2)
  have hbG : bm ≠ mainGlobals := fun q => by
    obtain ⟨o, es, ep, e, d, _⟩ := I.mod.glob
    rw [q, e] at b3
    cases b3
    rw [d] at b6; cases b6
  have hbT : bm ≠ T := fun q => hTs (q ▸ b3n)
  have cls : ∀ y d, X.env.cells.lookup y = some d → d < s.heap.objs.size := fun y d e => by
    obtain ⟨_, _, q, _⟩ := I.cell y d e
    exact Heap.lt_size q
  refine PySem.W.kla_eval hdef ?_
  have hb : s.heap.BuiltinsAt X.mg T := ⟨bm, ob, b1, b2, hbG, hbT, b3', b4, b5, b6⟩
  rcases hT with q | ⟨c', oc, vs, t, q1, q2, q3, q4⟩
  · have hP : s.heap.get? T = some (PySem.W.tabObj #[]) := I.hok _ _ q
    refine PySem.W.kla_makeFunction (mg := X.mg) hcl I.ok.glob hg hcode hC' hP trivial rfl hgT hb fun c' ctv h' tk hx hge hlt hrec htb => ?_
    obtain ⟨c2, oc, vs, t, e2, hoc, hd, hv⟩ := hrec
    cases e2
    have lt : ∀ b u, H b = some u → b < s.heap.objs.size := fun b u e => I.hok.lt e
    have cn : H c' = none := I.hok.fresh hge
    have fn : H h'.objs.size = none := I.hok.fresh (Nat.le_trans hge (Nat.le_of_lt hlt))
    have cf : c' ≠ h'.objs.size := Nat.ne_of_lt hlt
    have ct : c' ≠ T := fun z => hTs (z ▸ cn)
    have ft : h'.objs.size ≠ T := fun z => hTs (z ▸ fn)
    have old : ∀ b : Addr, b < s.heap.objs.size → b ≠ c' ∧ b ≠ h'.objs.size := fun b hb => ⟨Nat.ne_of_lt (Nat.lt_of_lt_of_le hb hge), Nat.ne_of_lt (Nat.lt_of_lt_of_le hb (Nat.le_trans hge (Nat.le_of_lt hlt)))⟩
    have same : ∀ b : Addr, b ≠ T → b < s.heap.objs.size → upd (upd (upd H T (.tbl (tabRow pos c'))) c' (Fz oc)) h'.objs.size (Fz (PySem.W.kla_obj "<lambda>" (X.env.qual ++ "<lambda>") params body scope cl ((X.mg "__name__").getD .none) c' ctv)) b = H b := fun b ht hb => by
      rw [upd_ne (old b hb).2, upd_ne (old b hb).1, upd_ne ht]
    have kp : ∀ b o, b ≠ T → s.heap.get? b = some o → (h'.push (PySem.W.kla_obj "<lambda>" (X.env.qual ++ "<lambda>") params body scope cl ((X.mg "__name__").getD .none) c' ctv)).get? b = some o := fun b o hb e => Heap.get?_push_of_some _ (hx b o hb e)
    have nT : ∀ b, H b = none → b ≠ T := fun b n z => hTs (z ▸ n)
    refine I.after (s' := { s with heap := h'.push (PySem.W.kla_obj "<lambda>" (X.env.qual ++ "<lambda>") params body scope cl ((X.mg "__name__").getD .none) c' ctv), toks := tk }) ⟨.ref h'.objs.size, _, rfl, I.bare, ?_, ?_, rfl, h h'.objs.size ((X.mg "__name__").getD .none) c' ctv oc vs t _ fn hd hv hlt (fun y d e => Nat.lt_of_lt_of_le (cls y d e) (Nat.le_trans hge (Nat.le_of_lt hlt))) (.inr ⟨cn, q, rfl⟩)⟩
    · refine ⟨fun b o e n _ _ => kp b o (nT b n) e, fun b o e n _ _ => ⟨o.slots, kp b o (nT b n) e⟩, fun b o e n _ => ?_, fun b o e _ => ?_, fun b xs e => ?_, fun b o u e => ?_, fun b ps e => ?_⟩
      · rw [same b (nT b n) (Heap.lt_size e)]; exact n
      · by_cases hb : b = T
        · subst hb; exact ⟨_, Heap.get?_push_of_some _ htb⟩
        · exact ⟨o, kp b o hb e⟩
      · rw [same b (fun z => by rw [z, q] at e; cases e) (lt _ _ e)]; exact e
      · rw [same b (fun z => by rw [z, q] at e; cases e) (lt _ _ e)]; exact e
      · by_cases hb : b = T
        · subst hb
          rw [q] at e
          cases e
          refine ⟨tabRow pos c', ?_⟩
          rw [upd_ne ft.symm, upd_ne ct.symm, upd_same]
          simp
        · exact ⟨#[], by rw [same b hb (lt _ _ e), e]; simp⟩
    · intro a o e
      by_cases hf : a = h'.objs.size
      · subst hf
        rw [upd_same] at e
        cases e
        exact fz_ok (Heap.get?_push_size _ rfl)
      · rw [upd_ne hf] at e
        by_cases hc : a = c'
        · subst hc
          rw [upd_same] at e
          cases e
          exact fz_ok (Heap.get?_push_of_some _ hoc)
        · rw [upd_ne hc] at e
          by_cases ht : a = T
          · subst ht
            rw [upd_same] at e
            cases e
            show _ = _
            refine (Heap.get?_push_of_some _ htb).trans ?_
            simp [tabRow]
          · rw [upd_ne ht] at e
            refine (I.hok a o e).stay (fun b u hb r => kp b u ?_ r) (fun b r => ?_) fun b xs r => ?_
            · rcases hb with rfl | hb
              · exact ht
              · intro z; rw [z, q] at hb; cases hb
            · rw [same b (fun z => by rw [z, q] at r; cases r) (lt _ _ r)]; exact r
            · rw [same b (fun z => by rw [z, q] at r; cases r) (lt _ _ r)]; exact r
  · have hP : s.heap.get? T = some (PySem.W.tabObj (tabRow pos c')) := I.hok _ _ q1
    refine PySem.W.kla_makeFunctionHit (mg := X.mg) hcl I.ok.glob hg hcode hC' hP (triples_row _ _) (among_row _ _) hb fun ctv h' tk hk hsz => ?_
    have fn : H h'.objs.size = none := I.hok.fresh hsz
    have clt : c' < h'.objs.size := Nat.lt_of_lt_of_le (I.hok.lt q2) hsz
    refine I.after (s' := { s with heap := h'.push (PySem.W.kla_obj "<lambda>" (X.env.qual ++ "<lambda>") params body scope cl ((X.mg "__name__").getD .none) c' ctv), toks := tk }) ⟨.ref h'.objs.size, _, rfl, I.bare, ?_, ?_, rfl, h h'.objs.size ((X.mg "__name__").getD .none) c' ctv oc vs t _ fn q3 q4 clt (fun y d e => Nat.lt_of_lt_of_le (cls y d e) hsz) (.inl ⟨q2, q1, rfl⟩)⟩
    · have kp : ∀ b o, s.heap.get? b = some o → (h'.push (PySem.W.kla_obj "<lambda>" (X.env.qual ++ "<lambda>") params body scope cl ((X.mg "__name__").getD .none) c' ctv)).get? b = some o := fun b o e => Heap.get?_push_of_some _ (hk b o e)
      have ne : ∀ b : Addr, b < s.heap.objs.size → b ≠ h'.objs.size := fun b hb => Nat.ne_of_lt (Nat.lt_of_lt_of_le hb hsz)
      refine ⟨fun b o e _ _ _ => kp b o e, fun b o e _ _ _ => ⟨o.slots, kp b o e⟩, fun b o e n _ => ?_, fun b o e _ => ⟨o, kp b o e⟩, fun b xs e => ?_, fun b o u e => ?_, fun b ps e => ⟨#[], ?_⟩⟩
      · rw [upd_ne (ne b (Heap.lt_size e))]; exact n
      · rw [upd_ne (ne b (I.hok.lt e))]; exact e
      · rw [upd_ne (ne b (I.hok.lt e))]; exact e
      · rw [upd_ne (ne b (I.hok.lt e)), e]; simp
    · exact I.hok.laid (fun b u e => Heap.get?_push_of_some _ (hk b u e)) hsz (fz_ok (Heap.get?_push_size _ rfl))
end
end L2
namespace L2
open PySem PySem.Spec PyProof.Rows Mth
/-- the cells at cs as they stand in h -/
def wc (h : Heap) (cs : List Addr) (H : Hp) : Hp := fun b => if b ∈ cs then (h.get? b).map Fz else H b
theorem wc_in {h : Heap} {cs : List Addr} {H : Hp} {b : Addr} {o : Obj} (hb : b ∈ cs) (e : h.get? b = some o) : wc h cs H b = some (Fz o) := by unfold wc; rw [if_pos hb, e]; rfl
theorem wc_out {h : Heap} {cs : List Addr} {H : Hp} {b : Addr} (hb : b ∉ cs) : wc h cs H b = H b := if_neg hb
/-- what a maker tells: a new function that closes over its arguments -/
def spMk (T : List (Addr × Pos × Str)) (qual : Str) (params : Arguments) (body : Expr) (scope : Scope) (ps : List Str) : Sp := fun vs H Q _ => vs.length = ps.length ∧ TabOk T H ∧
  ∀ f cl H', Gr H H' → TabOk T H' → Lam H' f qual params body scope cl ps vs → (∀ b o, H b = some o → ∀ y c, (y, c) ∈ cl → b < c) → H f = none → Q (.ref f) H'
theorem paired_of {α β : Type} {F : α → β → Prop} : ∀ {l₁ : List α} {l₂ : List β}, l₁.length = l₂.length → (∀ (i : Nat) x y, l₁[i]? = some x → l₂[i]? = some y → F x y) → Paired F l₁ l₂
  | [], [], _, _ => .nil
  | [], _ :: _, e, _ => by cases e
  | _ :: _, [], e, _ => by cases e
  | a :: r, b :: t, e, h => .cons (h 0 a b rfl rfl) (paired_of (by simpa using e) fun i x y h1 h2 => h (i + 1) x y (by simpa using h1) (by simpa using h2))
theorem fn_mk {CX : CXT} {P : Program} {w : World} {K : PySem.W.Frag} {mg : Str → Option Value} {base : Heap} {k : Nat} {f : Addr} {name qual : Str} {params : Arguments} {scope : Scope} {dV kV doc pm ct oc : Value} {an od : Option Addr} {cd Tb : Addr} {pos : Pos}
    {osl : Array (Option Value)} {ps : List Str} {lps : Arguments} {lbody : Expr} {lscope : Scope} {lpos : Pos} {T : List (Addr × Pos × Str)} {clo : Addr → List (Str × Addr)}
    (lk : K.lookup f = some ⟨oc, od, .func (PySem.W.fnOf name qual params [.Return (some (.Lambda lps lbody lscope lpos)) pos] scope dV kV doc pm an (.ref cd) ct), osl⟩) (hcd : PySem.W.codeIn K (.ref cd) qual = true) (S : FnScope ps ps scope)
    (hcell : ∀ y ∈ ps, scope.names.lookup y = some .cell)
    (hC : PySem.W.CodeHd base cd Tb) (hbm : BMain mg base) (hTm : (Tb, lpos, qual ++ ".<locals>." ++ "<lambda>") ∈ T) (hTd : ∀ e ∈ T, e.1 = Tb → e = (Tb, lpos, qual ++ ".<locals>." ++ "<lambda>"))
    (hdef : ∀ L, defaultsOf lps (envOfC qual scope L f (.ref cd)) = ([], [])) (hcl : ∀ L, closureFor lscope (envOfC qual scope L f (.ref cd)) = pure (clo L))
    (hclo : ∀ L y c, (y, c) ∈ clo L → (cellsFrom (L + 1) scope.names []).lookup y = some c) (hfr : ∀ L, ∀ y ∈ ps, ∃ c, (clo L).lookup y = some c) :
    FnOk P w K mg base CX (k + 1) f (PySem.W.fnOf name qual params [.Return (some (.Lambda lps lbody lscope lpos)) pos] scope dV kV doc pm an (.ref cd) ct) ps (spMk T (qual ++ ".<locals>." ++ "<lambda>") lps lbody lscope ps) := by
  refine ⟨fun vs H Q E h => h.1, fun A outer s H args us vs Q E hr e0 hb r hsp => ?_⟩
  obtain ⟨hl, hT, hq⟩ := hsp
  have KX : K.In s.heap := e0.mod.kin.keeps fun b o e => (e0.bs b o e).1
  have lim : s.heap.NoLimit := e0.mod.nolimit.keeps fun b o e => (e0.bs b o e).1
  have hkind : ∀ y ∈ ps.zip us, scope.names.lookup y.1 = some .local ∨ (scope.names.lookup y.1 = some .cell ∧ ((cellsFrom (s.heap.objs.size + 1) scope.names []).lookup y.1).isSome = true) := fun ⟨n, v⟩ hy => by
    rcases S.par n (List.of_mem_zip hy).1 with q | q
    · exact .inl q
    · exact .inr ⟨q, PySem.W.cellsFrom_some _ _ _ (.inl q)⟩
  refine codeAny_call_function hr.depth (KX _ _ lk) rfl S.co S.gen rfl (PySem.W.codeRec_of KX hcd) (hb _ _ _ _ ?_)
  refine wpAny_newFunctionEnv_cells S.kind hkind fun env he s1 xx => ?_
  subst he
  refine ⟨lim.keeps xx.toInCall.keep, codeAny_func ?_⟩
  have I : Inv (cxOf CX P w K mg base ps qual scope f (.ref cd) A outer s H E) [] (start ps vs) H s1 := inv_start S hr.hd e0 hl r xx
  have hpe : PE (cxOf CX P w K mg base ps qual scope f (.ref cd) A outer s H E) (.Lambda lps lbody lscope lpos) _ := pe_lam (T := Tb) (c := cd) (cl := clo s.heap.objs.size) (hdef _) (hcl _) rfl hC hbm
  have hst : start ps vs = vs.map some := by unfold start; rw [hl]; simp
  let Q1 : VK := fun v H1 => ∃ f' pm c ctv oc vs' t, v = .ref f' ∧ H f' = none ∧ oc.data = .fields vs' ∧ vs'[1]? = some (.str (qual ++ ".<locals>." ++ "<lambda>") t) ∧ c < f' ∧ (∀ y d, (cellsFrom (s.heap.objs.size + 1) scope.names []).lookup y = some d → d < f') ∧
    ((H c = some (Fz oc) ∧ H Tb = some (.tbl (tabRow lpos c)) ∧ H1 = upd H f' (Fz (PySem.W.kla_obj "<lambda>" (qual ++ ".<locals>." ++ "<lambda>") lps lbody lscope (clo s.heap.objs.size) pm c ctv))) ∨
     (H c = none ∧ H Tb = some (.tbl #[]) ∧ H1 = upd (upd (upd H Tb (.tbl (tabRow lpos c))) c (Fz oc)) f' (Fz (PySem.W.kla_obj "<lambda>" (qual ++ ".<locals>." ++ "<lambda>") lps lbody lscope (clo s.heap.objs.size) pm c ctv))))
  have hw := hpe [] s1 (start ps vs) H Q1 I ⟨hT _ hTm, fun f' pm c ctv oc vs' t H' h1 h2 h3 h4 h6 h5 => ⟨f', pm, c, ctv, oc, vs', t, rfl, h1, h2, h3, h4, h6, h5⟩⟩
  refine wpAny_execs_cons (wpAny_Return_some (wpAny_mono hw (fun u s' hs => ?_) fun e s' hs => hs))
  obtain ⟨v, H1, J, rv, f', pm', c, ctv, oc', vs', t, rfl, hf', hd, hv, hcf, hcs, hH⟩ := hs
  obtain rfl : u = .ref f' := rv
  have cab : ∀ y c', (cellsFrom (s.heap.objs.size + 1) scope.names []).lookup y = some c' → s.heap.objs.size ≤ c' := fun y c' e => J.ok.cab y c' rfl e
  have lt : ∀ b o, H b = some o → b < s.heap.objs.size := fun b o e => e0.hok.lt e
  have csge : ∀ b ∈ (clo s.heap.objs.size).map (·.2), s.heap.objs.size ≤ b ∧ H1 b = none ∧ ∃ o v, s'.heap.get? b = some o ∧ o.data = .cell v := fun b hb => by
    obtain ⟨⟨y, b'⟩, hm, rfl⟩ := List.mem_map.mp hb
    have e := hclo _ _ _ hm
    obtain ⟨v, o, h1, h2⟩ := J.cell y b' e
    exact ⟨cab _ _ e, J.freeC y b' e, o, v, h1, h2⟩
  have nin : ∀ b, b < s.heap.objs.size → b ∉ (clo s.heap.objs.size).map (·.2) := fun b hb hm => absurd (Nat.lt_of_lt_of_le hb (csge b hm).1) (Nat.lt_irrefl _)
  have tin : ∀ b o, H1 b = some o → b ∉ (clo s.heap.objs.size).map (·.2) := fun b o e hm => by rw [(csge b hm).2.1] at e; cases e
  have H1f : H1 f' = some (Fz (PySem.W.kla_obj "<lambda>" (qual ++ ".<locals>." ++ "<lambda>") lps lbody lscope (clo s.heap.objs.size) pm' c ctv)) := by
    rcases hH with ⟨_, _, rfl⟩ | ⟨_, _, rfl⟩ <;> exact upd_same
  have H1c : H1 c = some (Fz oc') := by
    rcases hH with ⟨q, _, rfl⟩ | ⟨_, _, rfl⟩
    · rw [upd_ne (Nat.ne_of_lt hcf)]; exact q
    · rw [upd_ne (Nat.ne_of_lt hcf)]; exact upd_same
  have H1T : H1 Tb = some (.tbl (tabRow lpos c)) := by
    rcases hH with ⟨_, q, rfl⟩ | ⟨qc, q, rfl⟩
    · rw [upd_ne (fun z => by rw [z, hf'] at q; cases q)]; exact q
    · rw [upd_ne (fun z => by rw [z, hf'] at q; cases q), upd_ne (fun z => by rw [z, qc] at q; cases q)]; exact upd_same
  have H1o : ∀ b o, H b = some o → b ≠ Tb → H1 b = some o := fun b o e hb => by
    have bf : b ≠ f' := fun z => by rw [z, hf'] at e; cases e
    rcases hH with ⟨_, _, rfl⟩ | ⟨qc, _, rfl⟩
    · rw [upd_ne bf]; exact e
    · rw [upd_ne bf, upd_ne (fun z => by rw [z, qc] at e; cases e), upd_ne hb]; exact e
  have Tt : ∃ ps, H Tb = some (.tbl ps) := by rcases hH with ⟨_, q, _⟩ | ⟨_, q, _⟩ <;> exact ⟨_, q⟩
  have out : ∀ b o, H1 b = some o → wc s'.heap ((clo s.heap.objs.size).map (·.2)) H1 b = some o := fun b o e => by rw [wc_out (tin b o e)]; exact e
  have ub : Un (frs outer) [] H H1 s.heap s'.heap := J.base
  refine (show CE outer P w H s Q (.ref f') s' from ⟨.ref f', wc s'.heap ((clo s.heap.objs.size).map (·.2)) H1, J.os, J.bare, ?_, ?_, rfl, ?_⟩)
  · refine ⟨ub.keep, ub.slot, fun b o e n hx => ?_, ub.there, fun b xs e => out _ _ (ub.tups b xs e), fun b o u e => out _ _ (ub.frzs b o u e), fun b ps e => ?_⟩
    · rw [wc_out (nin b (Heap.lt_size e))]; exact ub.free b o e n hx
    · obtain ⟨more, q⟩ := ub.tbls b ps e
      exact ⟨more, out _ _ q⟩
  · intro a o e
    by_cases ha : a ∈ (clo s.heap.objs.size).map (·.2)
    · obtain ⟨_, _, ob, _, h1, _⟩ := csge a ha
      rw [wc_in ha h1] at e
      cases e
      exact fz_ok h1
    · rw [wc_out ha] at e
      exact (J.hok a o e).stay (fun b u _ q => q) (fun b q => out _ _ q) fun b xs q => out _ _ q
  · refine hq f' (clo s.heap.objs.size) _ (fun b o e n => ?_) (fun e he => ?_) ⟨⟨"<lambda>", pm', c, ctv, oc', vs', t, out _ _ H1f, out _ _ H1c, hd, hv, Nat.le_of_lt hcf⟩, ?_, ?_, ?_⟩ (fun b o e y c' hm => ?_) hf'
    · refine out _ _ (H1o b o e fun z => ?_)
      obtain ⟨ps, q⟩ := Tt
      rw [z, q] at e
      cases e
      exact n ps rfl
    · by_cases hb : e.1 = Tb
      · rw [hTd e he hb]
        exact .inr ⟨c, oc', vs', t, out _ _ H1T, out _ _ H1c, hd, hv⟩
      · rcases hT e he with q | ⟨c2, oc2, vs2, t2, q1, q2, q3, q4⟩
        · exact .inl (out _ _ (H1o _ _ q hb))
        · refine .inr ⟨c2, oc2, vs2, t2, out _ _ (H1o _ _ q1 hb), out _ _ (H1o _ _ q2 fun z => ?_), q3, q4⟩
          obtain ⟨ps, q⟩ := Tt
          rw [z, q] at q2
          unfold Fz at q2
          cases q2
    · obtain ⟨m, hn, hlook⟩ := J.loc
      refine paired_of hl.symm fun i y v h1 h2 => ?_
      have hy : y ∈ ps := List.mem_of_getElem? h1
      obtain ⟨u, ru, lk⟩ := hlook i y v h1 (by rw [hst, List.getElem?_map, h2]; rfl) (.inr (.inl (hcell y hy)))
      obtain ⟨c', ec⟩ := hfr s.heap.objs.size y hy
      have em := hclo _ _ _ (PySem.mem_of_lookup ec)
      rcases lk with ⟨hk, _⟩ | ⟨_, c2, e2, hcl2⟩
      · have hk : scope.names.lookup y = some .local := hk
        rw [hcell y hy] at hk; cases hk
      · have e2 : (cellsFrom (s.heap.objs.size + 1) scope.names []).lookup y = some c2 := e2
        rw [em] at e2
        cases e2
        obtain ⟨o, h3, h4⟩ := hcl2
        exact ⟨c', o, u, ec, wc_in (List.mem_map.mpr ⟨(y, c'), PySem.mem_of_lookup ec, rfl⟩) h3, h4, ru⟩
    · intro y c' hm
      have hmem : c' ∈ (clo s.heap.objs.size).map (·.2) := List.mem_map.mpr ⟨(y, c'), hm, rfl⟩
      obtain ⟨_, _, o, v, h1, h2⟩ := csge c' hmem
      refine ⟨o, v, wc_in hmem h1, h2, ?_⟩
      exact Nat.le_of_lt (hcs y c' (hclo _ _ _ hm))
    · intro y z c' h1 h2
      exact J.ok.inj y z c' (hclo _ _ _ (PySem.mem_of_lookup h1)) (hclo _ _ _ (PySem.mem_of_lookup h2))
    · have hmem : c' ∈ (clo s.heap.objs.size).map (·.2) := List.mem_map.mpr ⟨(y, c'), hm, rfl⟩
      exact Nat.lt_of_lt_of_le (lt b o e) (csge c' hmem).1
end L2
namespace L2
open PySem PySem.Spec PyProof.Rows Mth
/-- the promise of a function at f: at these arguments, from this heap -/
def Runs (X : Cx) (f : Addr) (vs : List V) (H : Hp) (Q : VK) : Prop := ∀ (s : Shared) (us : List Value), Env0 X.prog X.w X.K X.mg X.base X.A X.stack s H → Vals vs us →
  codeAny (model X.prog X.w) X.A (.call (.ref f) ⟨us, []⟩) (CR CX0 X.stack X.prog X.w H s Q E0) s
/-- x(e, ..), x a name that holds a made function -/
def tCallV (X : Cx) (i : Nat) (t : TA) : TE := fun σ H Q => ∃ f o fd, σ[i]? = some (some (.ref f)) ∧ o.data = .func fd ∧ t σ H fun vs H1 => H1 f = some (Fz o) ∧ Runs X f vs H1 Q
section
variable {X : Cx} {i : Nat} {x : Str} {p pos : Pos} {e : Expr} {es : List Expr} {t : TA}
end
/-- the base of a law with makers -/
structure Bs (K : PySem.W.Frag) (mg : Str → Option Value) (base : Heap) : Prop where
  kin : K.In base
  bm : BMain mg base
/-- the text of a lambda that a def returns -/
def lamOf (st : Stmt) : Expr := match defBody st with
  | [.Return (some e) _] => e
  | _ => .Constant .none 0 ⟨0, 0, 0, 0⟩
def lamArgs (st : Stmt) : Arguments := match lamOf st with
  | .Lambda a _ _ _ => a
  | _ => { posonlyargs := [], args := [], vararg := none, kwonlyargs := [], kw_defaults := [], kwarg := none, defaults := [] }
def lamBody (st : Stmt) : Expr := match lamOf st with
  | .Lambda _ b _ _ => b
  | _ => .Constant .none 0 ⟨0, 0, 0, 0⟩
def lamScope (st : Stmt) : Scope := match lamOf st with
  | .Lambda _ _ s _ => s
  | _ => { kind := .function, names := [], isGenerator := false, isCoroutine := false }
def lamPos (st : Stmt) : Pos := match lamOf st with
  | .Lambda _ _ _ p => p
  | _ => ⟨0, 0, 0, 0⟩
def retPos (st : Stmt) : Pos := match defBody st with
  | [.Return _ p] => p
  | _ => ⟨0, 0, 0, 0⟩
/-- a def that makes a function: its table stands at T -/
def HasMk (K : PySem.W.Frag) (mg : Str → Option Value) (x : Str) (st : Stmt) (T : Addr) : Prop :=
  ∃ (f cd : Addr) (oc : Value) (od : Option Addr) (kV doc pm : Value) (an : Option Addr) (ct : Value) (osl : Array (Option Value)), mg x = some (.ref f) ∧
    K.lookup f = some ⟨oc, od, .func (PySem.W.fnOf x x (defArgs st) (defBody st) (defScope st) .none kV doc pm an (.ref cd) ct), osl⟩ ∧ PySem.W.codeIn K (.ref cd) x = true ∧ PySem.W.keepIn K (.ref f) = true ∧ PySem.W.codeHdIn K cd T = true
theorem HasMk.def {P : Program} {w : World} {K : PySem.W.Frag} {mg : Str → Option Value} {base : Heap} {x : Str} {st : Stmt} {Tb : Addr} {ps : List Str} {k : Nat} {T : List (Addr × Pos × Str)} {clo : Addr → List (Str × Addr)} (h : HasMk K mg x st Tb) (B : Bs K mg base)
    (hst : defBody st = [.Return (some (.Lambda (lamArgs st) (lamBody st) (lamScope st) (lamPos st))) (retPos st)]) (S : FnScope ps ps (defScope st)) (hcell : ∀ y ∈ ps, (defScope st).names.lookup y = some .cell)
    (hTm : (Tb, lamPos st, x ++ ".<locals>." ++ "<lambda>") ∈ T) (hTd : ∀ e ∈ T, e.1 = Tb → e = (Tb, lamPos st, x ++ ".<locals>." ++ "<lambda>"))
    (hdef : ∀ f cd L, defaultsOf (lamArgs st) (envOfC x (defScope st) L f (.ref cd)) = ([], [])) (hcl : ∀ f cd L, closureFor (lamScope st) (envOfC x (defScope st) L f (.ref cd)) = pure (clo L))
    (hclo : ∀ L y c, (y, c) ∈ clo L → (cellsFrom (L + 1) (defScope st).names []).lookup y = some c) (hfr : ∀ L, ∀ y ∈ ps, ∃ c, (clo L).lookup y = some c)
    (hb : ∀ (kV doc pm : Value) (an : Option Addr) (cdv ct : Value) (us : List Value), us.length = ps.length → bindArgs (PySem.W.fnOf x x (defArgs st) (defBody st) (defScope st) .none kV doc pm an cdv ct) ⟨us, []⟩ = pure (ps.zip us)) :
    Def P w K mg base x (k + 1) ps (spMk T (x ++ ".<locals>." ++ "<lambda>") (lamArgs st) (lamBody st) (lamScope st) ps) := by
  obtain ⟨f, cd, oc, od, kV, doc, pm, an, ct, osl, h1, h2, h3, h4, h5⟩ := h
  refine ⟨f, _, h1, h4, .all fun us hl => hb kV doc pm an (.ref cd) ct us hl, ?_⟩
  rw [hst] at h2 ⊢
  exact fn_mk h2 h3 S hcell (PySem.W.codeHd_of_K B.kin h5) B.bm hTm hTd (hdef f cd) (hcl f cd) hclo hfr
/-- from a heap in which the script and the tables may be tracked -/
theorem law_callT {P : Program} {w : World} {K : PySem.W.Frag} {mg mb : Str → Option Value} {k : Nat} {fa a : Addr} {fd : FuncData} {x : Str} {sp : Sp} {s₁ : Shared} {vs : List Value} {ns : List Int} {ts : List Addr}
    (KX : K.In s₁.heap) (hns : s₁.heap.Ns mainGlobals mg) (hb : s₁.heap.Ns builtinsNs mb) (hbb : ∀ x : Str, x ≠ "__name__" → mb x = bootBuiltins x) (hlim : s₁.heap.NoLimit) (hg : s₁.gens = #[])
    (ha : s₁.heap.get? a = some { cls := .type "list", data := .seq vs.toArray }) (hi : IntsAre vs ns) (hl : ns.length ≤ sizeLine) (hr : Room k callerA)
    (hts : ∀ T ∈ ts, s₁.heap.get? T = some (PySem.W.tabObj #[]) ∧ isCodeTable s₁.heap T) (hK : PySem.W.noTabs K = true) (hbm : BMain mg s₁.heap)
    (F : ∀ base : Heap, K.In base → base.Ns mainGlobals mg → BMain mg base → FnOk P w K mg base CX0 k fa fd [x] sp) (hbind : ∀ (s : Shared) (u : Value), BindsTo s fd ⟨[u], []⟩ [(x, u)])
    (hsp : ∀ H : Hp, (∀ T ∈ ts, H T = some (.tbl #[])) → SqL K H a (ns.map V.int) → sp [.ref a] H (fun v _ => v = .bl true) fun _ _ _ => False) :
    codeAny (model P w) callerA (.call (.ref fa) ⟨[.ref a], []⟩) (fun r s' => r = .ok (.ret (.bool true)) ∧ OldK s₁.heap s'.heap ∧ s'.os = s₁.os ∧ AllBare s'.gens) s₁ := by
  have rv := vals_ints hi
  have lenV := hi.length
  have aT : a ∉ ts := fun h => by
    have := (hts a h).1
    rw [ha] at this
    cases this
  have kT : ∀ T ∈ ts, K.lookup T = none := fun T h => by
    cases q : K.lookup T with
    | none => rfl
    | some o =>
      have e := KX T o q
      rw [(hts T h).1] at e
      cases e
      have h2 := List.all_eq_true.mp hK (T, PySem.W.tabObj #[]) (PySem.W.mem_of_lookupK q)
      cases h2
  have core : ∀ H : Hp, (∀ T ∈ ts, H T = some (.tbl #[])) → (∀ b o, H b = some o → b ∈ ts ∨ (b = a ∧ ∃ ob xs, o = .frz ob (.lst xs))) → SqL K H a (ns.map V.int) → HOk P w H s₁.heap → (H a ≠ none → K.lookup a = none) →
      codeAny (model P w) callerA (.call (.ref fa) ⟨[.ref a], []⟩) (fun r s' => r = .ok (.ret (.bool true)) ∧ OldK s₁.heap s'.heap ∧ s'.os = s₁.os ∧ AllBare s'.gens) s₁ := by
    intro H hT hO hS hok hKa
    have base_of : ∀ {b : Addr} {o : Obj}, s₁.heap.get? b = some o → H b = none → (hidT s₁.heap H).get? b = some o := fun e n => hidT_get e n
    have no : ∀ {b : Addr} {o : Obj}, s₁.heap.get? b = some o → o ≠ PySem.W.tabObj #[] → o ≠ { cls := .type "list", data := .seq vs.toArray } → H b = none := fun {b o} e d1 d2 => by
      cases q : H b with
      | none => rfl
      | some u =>
        rcases hO b u q with z | ⟨rfl, _⟩
        · rw [(hts b z).1] at e; cases e; exact absurd rfl d1
        · rw [ha] at e; cases e; exact absurd rfl d2
    have nsK : ∀ {b : Addr} {m : Str → Option Value}, s₁.heap.Ns b m → (hidT s₁.heap H).Ns b m := fun {b m} ⟨o, es, ep, e, d, r⟩ => ⟨o, es, ep, base_of e (no e (fun z => by rw [z] at d; cases d) fun z => by rw [z] at d; cases d), d, r⟩
    have hKb : K.In (hidT s₁.heap H) := fun b o e => base_of (KX b o e) (by
      cases q : H b with
      | none => rfl
      | some u =>
        rcases hO b u q with z | ⟨rfl, _⟩
        · rw [kT b z] at e; cases e
        · rw [hKa (by rw [q]; simp)] at e; cases e)
    have hM : Mod K mg (hidT s₁.heap H) := ⟨hKb, nsK hns, ⟨mb, nsK hb, hbb⟩, let ⟨mc, h1, h2⟩ := hlim; ⟨mc, nsK h1, h2⟩⟩
    have hB : BMain mg (hidT s₁.heap H) := by
      obtain ⟨bm, ob, b1, b2, b3, b4, b5, b6⟩ := hbm
      exact ⟨bm, ob, b1, b2, base_of b3 (no b3 (fun z => by rw [z] at b4; cases b4) fun z => by rw [z] at b6; cases b6), b4, b5, b6⟩
    have e0 : Env0 P w K mg (hidT s₁.heap H) callerA [] s₁ H := ⟨rfl, hM, fun b o e => of_hidT e, Nat.le_of_eq (hidT_size _ _), trivial, fun b hb => absurd (show b ∈ ([] : List Addr) from hb) (by simp), hok, .of_eq hg⟩
    refine codeAny_mono ((F _ hKb (nsK hns) hB).run callerA [] s₁ H ⟨[.ref a], []⟩ [.ref a] [.ref a] _ _ hr e0 (hbind s₁ (.ref a)) (.cons rfl .nil) (hsp H hT hS)) fun r s' h => ?_
    cases r with
    | error e => exact False.elim h
    | ok fl =>
      cases fl with
      | next => exact False.elim h
      | brk => exact False.elim h
      | cont => exact False.elim h
      | ret u =>
        obtain ⟨v, H', os, bare, un, hok', r', q⟩ := h
        have q' : v = .bl true := q
        subst q'
        obtain rfl : u = Value.bool true := r'
        have nm : ∀ b : Addr, b ∉ frs ([] : List Env) := fun b z => absurd (show b ∈ ([] : List Addr) from z) (by simp)
        refine ⟨rfl, ⟨fun b o e => ?_, fun b o e => un.there b o e (by simp)⟩, os, bare⟩
        cases q : H b with
        | none => exact .inl (un.keep b o e q (nm b) (by simp))
        | some u =>
          rcases hO b u q with z | ⟨rfl, ob, xs, rfl⟩
          · obtain ⟨more, q2⟩ := un.tbls b _ (hT b z)
            have e2 := hok' b _ q2
            have e2 : s'.heap.get? b = some (PySem.W.tabObj (#[] ++ more)) := e2
            rw [(hts b z).1] at e
            cases e
            exact .inr (.inl ⟨(hts b z).2, rfl, #[], more, rfl, e2⟩)
          · have z2 := un.frzs b ob _ q
            obtain ⟨e1, _⟩ := hok b _ q
            obtain ⟨e2, _⟩ := hok' b _ z2
            rw [e] at e1; cases e1
            exact .inl e2
  cases hk : K.lookup a with
  | some o =>
    have e := KX a o hk
    rw [ha] at e
    cases e
    refine core (fun b => if b ∈ ts then some (.tbl #[]) else none) (fun T h => if_pos h) (fun b o h => ?_) (.inr ⟨_, vs.toArray, _, hk, rfl, rfl, rfl, by rw [List.size_toArray, lenV]; exact hl, by simpa using rv⟩) (fun b u z => ?_) fun z => absurd (if_neg aT) z
    · by_cases hb : b ∈ ts
      · exact .inl hb
      · rw [if_neg hb] at h; cases h
    · by_cases hb : b ∈ ts
      · have z' := (if_pos hb).symm.trans z
        cases z'
        exact (hts b hb).1
      · have z' := (if_neg hb).symm.trans z
        cases z'
  | none =>
    refine core (fun b => if b ∈ ts then some (.tbl #[]) else if b = a then some (.frz { cls := .type "list", data := .seq vs.toArray } (.lst (ns.map V.int))) else none) (fun T h => if_pos h) (fun b o h => ?_) (.inl (.inr ⟨{ cls := .type "list", data := .seq vs.toArray }, (if_neg aT).trans (if_pos rfl)⟩)) (fun b u z => ?_) fun _ => hk
    · by_cases hb : b ∈ ts
      · exact .inl hb
      · rw [if_neg hb] at h
        by_cases hba : b = a
        · rw [if_pos hba] at h; cases h; exact .inr ⟨hba, _, _, rfl⟩
        · rw [if_neg hba] at h; cases h
    · by_cases hb : b ∈ ts
      · have z' := (if_pos hb).symm.trans z
        cases z'
        exact (hts b hb).1
      · have z : (if b = a then some (HO.frz { cls := .type "list", data := .seq vs.toArray } (.lst (ns.map V.int))) else none) = some u := (if_neg hb).symm.trans z
        by_cases hba : b = a
        · have z' := (if_pos hba).symm.trans z
          cases z'
          subst hba
          exact ⟨ha, by rw [List.length_map]; exact hl, vs, _, rv, ha⟩
        · have z' := (if_neg hba).symm.trans z
          cases z'
/-- law's promise, with the tables at ts -/
def sp_lawT (K : PySem.W.Frag) (ts : List Addr) : Sp := fun vs H Q _ => ∃ (a : Addr) (ns : List Int), vs = [.ref a] ∧ SqL K H a (ns.map V.int) ∧ ns.length ≤ 63 ∧ (∀ z ∈ ns, Bd 1048576 z) ∧ (∀ T ∈ ts, H T = some (.tbl #[])) ∧ ∀ H', Q (.bl true) H'
theorem walk_ofT {l : PySem.W.OpenLaw} {k : Nat} {q : Program} {loose : List Str} {XP : (Str → Option Value) → Heap → Prop} {YP : World → Heap → Prop} {d : DefRec} {K : Params → PySem.W.Frag} {x : Str}
    (hn : l.most = some 63) (hdf : d.params.defaults = []) (hr : Room k callerA)
    (hY : ∀ (w : World) (h : Heap), YP w h → (K w.params).In h) (hK : ∀ w : World, PySem.W.noTabs (K w.params) = true)
    (F : ∀ (w : World) (mg : Str → Option Value) (fa : Addr) (h : Heap), YP w h → (K w.params).In h → h.Ns mainGlobals mg → mg d.name = some (.ref fa) →
      ∃ (fd : FuncData) (ts : List Addr), (∀ (s : Shared) (u : Value), BindsTo s fd ⟨[u], []⟩ [(x, u)]) ∧ (∀ T ∈ ts, h.get? T = some (PySem.W.tabObj #[]) ∧ ∃ c, PySem.W.codeHdIn (K w.params) c T = true) ∧
        ∀ base : Heap, (K w.params).In base → base.Ns mainGlobals mg → BMain mg base → FnOk l.prog w (K w.params) mg base CX0 k fa fd [x] (sp_lawT (K w.params) ts)) :
    PySem.W.WalkO q loose XP YP l.row.toRowW d [] (fun f vs => PySem.call f vs) := by
  refine Att.attach_callB hn hdf fun w s₀ s₁ mg mb fa o pm cd doc a vs ns G Y ho hd hcd hmg hobj hints hlen hbits hg => ?_
  have KX := hY w _ Y
  obtain ⟨fd, ts, hb, hts, hF⟩ := F w mg fa _ Y KX G.T.g hmg
  exact law_callT KX G.T.g G.T.b G.T.builtins G.T.nolimit hg hobj hints (Nat.le_trans hlen (by decide)) hr (fun T h => ⟨(hts T h).1, by
    obtain ⟨c, hc⟩ := (hts T h).2
    exact ((PySem.W.codeHd_of_K KX hc).tab (hts T h).1).isCodeTable⟩) (hK w) G.T.bmain hF hb (fun H hT hS => ⟨a, ns, rfl, hS, hlen, hbits, hT, fun _ => rfl⟩)
end L2
namespace L2
open PySem PySem.Spec PyProof.Rows Mth
section
variable {P : Program} {w : World} {H H' : Hp} {f : Addr} {qual : Str} {params : Arguments} {body : Expr} {scope : Scope} {cl : List (Str × Addr)} {fr : List Str} {vals : List V}
theorem Paired.mem {α β : Type} {F G : α → β → Prop} : ∀ {l₁ : List α} {l₂ : List β}, Paired F l₁ l₂ → (∀ a ∈ l₁, ∀ b, F a b → G a b) → Paired G l₁ l₂
  | _, _, .nil, _ => .nil
  | _, _, .cons r t, f => .cons (f _ (List.mem_cons_self) _ r) (Paired.mem t fun a ha b h => f a (List.mem_cons_of_mem _ ha) b h)
theorem Lam.mono (L : Lam H f qual params body scope cl fr vals) (h : ∀ b o, b ≤ f → H b = some (Fz o) → H' b = some (Fz o)) : Lam H' f qual params body scope cl fr vals := by
  obtain ⟨name, pm, c', ctv, oc, vs, t, h1, h2, h3, h4, h5⟩ := L.fn
  refine ⟨⟨name, pm, c', ctv, oc, vs, t, h _ _ (Nat.le_refl _) h1, h _ _ h5 h2, h3, h4, h5⟩, Paired.mapP L.cells fun y v ⟨c, o, u, e1, e2, e3, e4⟩ => ?_, fun y c hm => ?_, L.apart⟩
  · obtain ⟨_, _, _, _, le⟩ := L.all y c (PySem.mem_of_lookup e1)
    exact ⟨c, o, u, e1, h _ _ le e2, e3, e4⟩
  · obtain ⟨o, v, e1, e2, le⟩ := L.all y c hm
    exact ⟨o, v, h _ _ le e1, e2, le⟩
theorem Lam.obj (L : Lam H f qual params body scope cl fr vals) : ∃ o fd, H f = some (Fz o) ∧ o.data = .func fd := by
  obtain ⟨name, pm, c', ctv, oc, vs, t, h1, _⟩ := L.fn
  exact ⟨_, _, h1, rfl⟩
theorem Lam.cs (L : Lam H f qual params body scope cl fr vals) : ∀ c ∈ cl.map (·.2), ∃ o, H c = some (Fz o) := fun c hc => by
  obtain ⟨⟨y, c2⟩, hm, rfl⟩ := List.mem_map.mp hc
  obtain ⟨o, _, e, _⟩ := L.all y c2 hm
  exact ⟨o, e⟩
/-- what is captured first lies below: some cell stands between -/
theorem Lam.lt (L : Lam H f qual params body scope cl fr vals) {y : Str} (hy : y ∈ fr) {n : Addr} (h : ∀ z c, (z, c) ∈ cl → n < c) : n < f := by
  obtain ⟨i, hi, e⟩ := List.getElem_of_mem hy
  obtain ⟨_, _, c, _, _, ec, _⟩ := paired_get L.cells (i := i) (x := y) (by rw [List.getElem?_eq_getElem hi, e])
  have m := PySem.mem_of_lookup ec
  obtain ⟨_, _, _, _, le⟩ := L.all y c m
  exact Nat.lt_of_lt_of_le (h y c m) le
variable {cs : List Addr}
theorem wo_keep {b : Addr} {o : HO} (hc : ∀ c ∈ cs, ∃ o, H c = some (Fz o)) (e : H b = some o) (n : ∀ u, o ≠ Fz u) : wo H cs b = some o := by
  rw [wo_out]
  · exact e
  · intro hb
    obtain ⟨u, q⟩ := hc b hb
    rw [q] at e
    exact n u (Option.some.inj e).symm
theorem tup_nfz {xs : List V} (u : Obj) : HO.tup xs ≠ Fz u := fun h => by unfold Fz at h; cases h
theorem wi_same (s : Same (wo H cs) H') : Same H (wi H cs H') := fun b o e => by
  by_cases hb : b ∈ cs
  · rw [wi_in hb]; exact e
  · rw [wi_out hb]; exact s b o (by rw [wo_out hb]; exact e)
theorem CR.mono {outer : List Env} {s s' : Shared} {Q Q' : VK} {r : Result} (h : ∀ v H', Q v H' → Q' v H') (x : CR CX0 outer P w H s Q E0 r s') : CR CX0 outer P w H s Q' E0 r s' := by
  cases r with
  | error e => exact x
  | ok fl =>
    cases fl with
    | ret u =>
      obtain ⟨v, H', a, b, c, d, e, q⟩ := x
      exact ⟨v, H', a, b, c, d, e, h v H' q⟩
    | next => exact x
    | brk => exact x
    | cont => exact x
theorem nodup_fst {α β : Type} : ∀ {l : List (α × β)}, (l.map (·.1)).Nodup → ∀ {a b : α × β}, a ∈ l → b ∈ l → a.1 = b.1 → a = b
  | [], _, _, _, ha, _, _ => by cases ha
  | c :: r, n, a, b, ha, hb, e => by
    obtain ⟨n1, n2⟩ := List.nodup_cons.mp n
    rcases List.mem_cons.mp ha with ea | ha
    · rcases List.mem_cons.mp hb with eb | hb
      · rw [ea, eb]
      · exact absurd (List.mem_map.mpr ⟨b, hb, by rw [← e, ea]⟩) n1
    · rcases List.mem_cons.mp hb with eb | hb
      · exact absurd (List.mem_map.mpr ⟨a, ha, by rw [e, eb]⟩) n1
      · exact nodup_fst n2 ha hb e
theorem Gr.tup {b : Addr} {xs : List V} (g : Gr H H') (e : H b = some (.tup xs)) : H' b = some (.tup xs) := g b _ e nofun
theorem Gr.lst {b : Addr} {xs : List V} (g : Gr H H') (e : H b = some (.lst xs)) : H' b = some (.lst xs) := g b _ e nofun
end
end L2
namespace L2
open PySem PySem.Spec PyProof.Rows Mth
section
variable {P : Program} {w : World} {K : PySem.W.Frag} {mg : Str → Option Value} {base : Heap} {x qual m : Str} {st : Stmt} {dV : Value} {f C : Addr} {fd : FuncData} {N ps : List Str} {k : Nat} {sp : Sp} {ds : List Value} {dvs : List V}
theorem FunD.okX (F : FunD K x qual st dV f fd) (S : FnScope N ps (defScope st)) (len : ∀ vs H Q E, sp vs H Q E → vs.length = ps.length)
    (hbody : ∀ (cdv : Value) (A : Around) (outer : List Env) (s : Shared) (H : Hp) (vs : List V) (Q : VK) (E : XK), Room k (A.deeper (envOfC qual (defScope st) s.heap.objs.size f cdv)) → sp vs H Q E →
      ∃ t, PSs (cxOf (CX1 P w) P w K mg base N qual (defScope st) f cdv A outer s H E) (defBody st) t ∧ t { nx := fun _ H' => Q .non H', rt := Q } (start N vs) H) : FnOk P w K mg base (CX1 P w) (k + 1) f fd ps sp := by
  obtain ⟨oc, od, kV, doc, pm, an, cdv, ct, osl, rfl, lk, hcd⟩ := F.ex
  exact fn_of lk hcd S len fun A outer s H vs Q E hr hsp => hbody cdv A outer s H vs Q E hr hsp
def MDefX (P : Program) (w : World) (K : PySem.W.Frag) (mg : Str → Option Value) (base : Heap) (C : Addr) (m : Str) (k : Nat) (ps : List Str) (ds : List Value) (sp : Sp) : Prop :=
  ∃ f fd, Meth K C m f ∧ Binds K fd ps ds ∧ FnOk P w K mg base (CX1 P w) k f fd ps sp
theorem HasM.mdefX (h : HasM K C m qual st .none) (S : FnScope N ps (defScope st)) (len : ∀ vs H Q E, sp vs H Q E → vs.length = ps.length)
    (hb : ∀ (kV doc pm : Value) (an : Option Addr) (cdv ct : Value) (us : List Value), us.length = ps.length → bindArgs (PySem.W.fnOf m qual (defArgs st) (defBody st) (defScope st) .none kV doc pm an cdv ct) ⟨us, []⟩ = pure (ps.zip us))
    (hbody : ∀ (f : Addr) (cdv : Value) (A : Around) (outer : List Env) (s : Shared) (H : Hp) (vs : List V) (Q : VK) (E : XK), Room k (A.deeper (envOfC qual (defScope st) s.heap.objs.size f cdv)) → sp vs H Q E →
      ∃ t, PSs (cxOf (CX1 P w) P w K mg base N qual (defScope st) f cdv A outer s H E) (defBody st) t ∧ t { nx := fun _ H' => Q .non H', rt := Q } (start N vs) H) : MDefX P w K mg base C m (k + 1) ps [] sp := by
  obtain ⟨f, fd, M, F⟩ := h
  exact ⟨f, fd, M, F.binds0 hb, F.okX S len fun cdv A outer s H vs Q E hr hs => hbody f cdv A outer s H vs Q E hr hs⟩
def DOkX (P : Program) (w : World) (K : PySem.W.Frag) (mg : Str → Option Value) (base : Heap) (x : Str) (st : Stmt) (dV : Value) (k : Nat) (ps : List Str) (sp : Sp) : Prop :=
  ∃ f fd, mg x = some (.ref f) ∧ FunD K x x st dV f fd ∧ FnOk P w K mg base (CX1 P w) k f fd ps sp
def DefXE (P : Program) (w : World) (K : PySem.W.Frag) (mg : Str → Option Value) (base : Heap) (x : Str) (k : Nat) (ps : List Str) (dvs : List V) (sp : Sp) : Prop :=
  ∃ ds, Vals dvs ds ∧ ∃ f fd, mg x = some (.ref f) ∧ PySem.W.keepIn K (.ref f) = true ∧ Binds K fd ps ds ∧ FnOk P w K mg base (CX1 P w) k f fd ps sp
end
section
variable {X : Cx} {C : Addr} {x : Str} {p pos : Pos} {e : Expr} {es : List Expr} {t : TA} {k k1 : Nat} {ps ps1 : List Str} {sp sp1 : Sp} {ds : List Value} {dvs : List V} {E : XK}
end
end L2
namespace L2
open PySem PySem.Spec PyProof.Rows Mth
section
variable {X : Cx} {pins : List (Addr × Obj)} {σ : St} {H : Hp} {s : Shared} {d : Addr} {u u' : HO}
theorem objOk_retag {P : Program} {w : World} {h : Heap} {a : Addr} {o : HO} (e : H d = some u) (h1 : ∀ xs, u ≠ .tup xs) (h2 : ∀ y, u ≠ .own y) (ok : ObjOk P w H h a o) : ObjOk P w (upd H d u') h a o :=
  ok.stay (fun _ _ _ q => q) (fun b q => by rw [upd_ne (fun z => by subst z; rw [e] at q; exact h2 _ (Option.some.inj q))]; exact q) (fun b xs q => by rw [upd_ne (fun z => by subst z; rw [e] at q; exact h1 _ (Option.some.inj q))]; exact q)
theorem Inv.retag (I : Inv X pins σ H s) (e : H d = some u) (h1 : ∀ xs, u ≠ .tup xs) (h2 : ∀ y, u ≠ .own y) (h3 : ∀ ps, u ≠ .tbl ps) (h4 : ∀ o v, X.H₀ d ≠ some (.frz o v)) (ok : ObjOk X.prog X.w H s.heap d u') : Inv X pins σ (upd H d u') s := by
  have ne : ∀ {b}, H b = none → b ≠ d := fun {b} h z => by subst z; rw [e] at h; cases h
  refine ⟨I.ok, I.os, I.bare, ⟨I.base.keep, I.base.slot, fun b o q n hx => ?_, I.base.there, fun b xs q => ?_, fun b o v q => ?_, fun b ps q => ?_⟩, I.loc, I.cell, ?_, fun x c q => ?_, fun p hp => ?_, ?_, I.len⟩
  · have := I.base.free b o q n hx
    rw [upd_ne (ne this)]; exact this
  · have := I.base.tups b xs q
    rw [upd_ne (fun z => by subst z; rw [e] at this; exact h1 _ (Option.some.inj this))]; exact this
  · have := I.base.frzs b o v q
    rw [upd_ne (fun z => by subst z; exact h4 _ _ q)]; exact this
  · obtain ⟨m, this⟩ := I.base.tbls b ps q
    exact ⟨m, by rw [upd_ne (fun z => by subst z; rw [e] at this; exact h3 _ (Option.some.inj this))]; exact this⟩
  · rw [upd_ne (ne I.free)]; exact I.free
  · have := I.freeC x c q
    rw [upd_ne (ne this)]; exact this
  · obtain ⟨a, b, c⟩ := I.pin p hp
    exact ⟨a, by rw [upd_ne (ne b)]; exact b, c⟩
  · intro b o q
    by_cases hb : b = d
    · subst hb; rw [upd_same] at q; cases q; exact objOk_retag e h1 h2 ok
    · rw [upd_ne hb] at q; exact objOk_retag e h1 h2 (I.hok b o q)
abbrev Fd (ob : Obj) (kvs : List (Key × V)) : HO := .frz ob (.dK kvs)
theorem Inv.froze {kvs : List (Key × V)} (I : Inv X pins σ H s) (e : H d = some (.dK kvs)) : (∀ o v, X.H₀ d ≠ some (.frz o v)) ∧ ∃ ob, Inv X pins σ (upd H d (Fd ob kvs)) s := by
  have nf : ∀ o v, X.H₀ d ≠ some (.frz o v) := fun o v q => by
    have := I.base.frzs d o v q
    rw [e] at this; cases this
  obtain ⟨z, y, vs, rel, ob, es, ep, hg, r⟩ := dk_of I.hok e
  exact ⟨nf, ob, I.retag e nofun nofun nofun nf ⟨hg, z, y, vs, rel, ob, es, ep, hg, r⟩⟩
theorem Inv.thaw {kvs : List (Key × V)} {ob : Obj} (I : Inv X pins σ H s) (nf : ∀ o v, X.H₀ d ≠ some (.frz o v)) (e : H d = some (Fd ob kvs)) : Inv X pins σ (upd H d (.dK kvs)) s :=
  I.retag e nofun nofun nofun nf (I.hok d _ e).2
end
section
variable {X : Cx} {pos : Pos}
/-- a dict is known while e is looked at -/
def tThaw (t : TE) : TE := fun σ H Q => ∃ d kvs, H d = some (.dK kvs) ∧ ∀ ob, t σ (upd H d (Fd ob kvs)) fun v H' => H' d = some (Fd ob kvs) ∧ Q v (upd H' d (.dK kvs))
theorem pe_thaw {e : Expr} {t : TE} (he : PE X e t) : PE X e (tThaw t) := by
  rintro pins s σ H Q I ⟨d, kvs, hd, h⟩
  obtain ⟨nf, ob, I1⟩ := I.froze hd
  exact thn (he pins s σ _ _ I1 (h ob)) fun v s1 ⟨x, H1, I2, r, e, q⟩ => ⟨x, _, I2.thaw nf e, r, q⟩
def Ends.thaw (D : Ends) (d : Addr) (ob : Obj) (kvs : List (Key × V)) : Ends :=
  ⟨fun σ H => H d = some (Fd ob kvs) ∧ D.nx σ (upd H d (.dK kvs)), fun v H => H d = some (Fd ob kvs) ∧ D.rt v (upd H d (.dK kvs)), fun σ H => H d = some (Fd ob kvs) ∧ D.bk σ (upd H d (.dK kvs)), fun σ H => H d = some (Fd ob kvs) ∧ D.ct σ (upd H d (.dK kvs))⟩
/-- .. while a statement is done -/
def sThaw (t : TS) : TS := fun D σ H => ∃ d kvs, H d = some (.dK kvs) ∧ ∀ ob, t (D.thaw d ob kvs) σ (upd H d (Fd ob kvs))
theorem ps_thaw {st : Stmt} {t : TS} (he : PS X st t) : PS X st (sThaw t) := by
  rintro pins s σ H D I ⟨d, kvs, hd, h⟩
  obtain ⟨nf, ob, I1⟩ := I.froze hd
  refine thn (he pins s σ _ _ I1 (h ob)) fun f s1 q => ?_
  cases f with
  | next => obtain ⟨σ', H', I', e, q⟩ := q; exact ⟨σ', _, I'.thaw nf e, q⟩
  | brk => obtain ⟨σ', H', I', e, q⟩ := q; exact ⟨σ', _, I'.thaw nf e, q⟩
  | cont => obtain ⟨σ', H', I', e, q⟩ := q; exact ⟨σ', _, I'.thaw nf e, q⟩
  | ret v => obtain ⟨x, σ', H', I', r, e, q⟩ := q; exact ⟨x, σ', _, I'.thaw nf e, r, q⟩
end
theorem rel_key {k : Key} {v : Value} (h : keyIs k v = true) : RelV (kV k) v := by
  rcases keyIs_shape h with ⟨i, t, rfl, rfl⟩ | ⟨x, t, rfl, rfl⟩
  · exact ⟨t, rfl⟩
  · exact ⟨t, rfl⟩
def Itk (d : Addr) (ob : Obj) (kvs : List (Key × V)) : It :=
  ⟨fun i H => H d = some (Fd ob kvs) ∧ i < kvs.length, fun i H x H' => H' = H ∧ ∃ p, kvs[i]? = some p ∧ x = kV p.1, fun i H => H d = some (Fd ob kvs) ∧ kvs.length ≤ i⟩
def Itv (d : Addr) (ob : Obj) (kvs : List (Key × V)) : It :=
  ⟨fun i H => H d = some (Fd ob kvs) ∧ i < kvs.length, fun i H x H' => H' = H ∧ ∃ p, kvs[i]? = some p ∧ x = p.2, fun i H => H d = some (Fd ob kvs) ∧ kvs.length ≤ i⟩
theorem fd_at {X : Cx} {pins : List (Addr × Obj)} {σ : St} {H : Hp} {s : Shared} {d : Addr} {ob : Obj} {kvs : List (Key × V)} {es : Array DictEntry} {ep : Nat} (I : Inv X pins σ H s) (e : H d = some (Fd ob kvs)) (ho : ob.data = .dict es ep) :
    kvs.length ≤ sizeLine ∧ (d == sysModules) = false ∧ ∃ vs, KV kvs vs ∧ s.heap.DictAt (mixKind X.prog X.w) d vs ep := by
  obtain ⟨hg, z, y, vs, rel, o, es', ep', hg', hx, hd, r⟩ := I.hok d _ e
  rw [hg] at hg'
  cases hg'
  rw [ho] at hd
  cases hd
  exact ⟨z, y, vs, rel, _, _, hg, hx, ho, r⟩
theorem KV.get {κ : Type} : ∀ {kvs : List (κ × V)} {vs : List (κ × Value)} {i : Nat} {p : κ × V}, KV kvs vs → kvs[i]? = some p → ∃ q, vs[i]? = some q ∧ p.1 = q.1 ∧ RelV p.2 q.2
  | _, _, 0, _, .cons r _, e => by cases e; exact ⟨_, rfl, r⟩
  | _, _, i + 1, _, .cons _ t, e => KV.get (i := i) t e
theorem turn_keys {P : Program} {w : World} {K : PySem.W.Frag} {tg : Expr} (d it : Addr) {ob : Obj} {kvs : List (Key × V)} {es : Array DictEntry} {ep : Nat} (ho : ob.data = .dict es ep) : Turn P w K tg (Itk d ob kvs) [it] it (fun i h => h.IsKeyIter it d i kvs.length ep) where
  mem := by simp
  obj := fun i h st b hb => by
    have e : b = it := by simpa using hb
    subst e
    obtain ⟨o, e, c, d⟩ := st
    exact ⟨o, e, fun v z => by rw [d] at z; cases z⟩
  keep := fun i h h' st k => st.at fun o e => k it (by simp) o e
  item := by
    intro X hP hw hK hc i pins s σ H E I hf st hg
    subst hP hw hK
    obtain ⟨hd, hi⟩ := hg
    obtain ⟨z, y, vs, rel, da⟩ := fd_at I hd ho
    obtain ⟨q, hq, e1, r2⟩ := KV.get rel (List.getElem?_eq_getElem hi)
    obtain ⟨f0, f1, f2, f3, f4, f5⟩ := hf it (by simp)
    have st0 := st
    have ln : kvs.length = vs.length := rel.length
    rw [ln] at st0
    refine wpAny_pyNext_dict_item st0 da (k := q.1) (v := q.2) hq fun key h' hk st' sb => ?_
    rw [← ln] at st'
    have I1 : Inv X pins σ H { s with heap := h' } := I.turned (t' := s.toks) (fun b o hb e => (sb.2 b hb).trans e) f0 f1 f3 f4 f5
    obtain ⟨o, e, c, d'⟩ := id st'
    exact ⟨key, rfl, go_of (s := { s with heap := h' }) e c d' (by decide) ⟨kV q.1, H, I1, rel_key hk, ⟨rfl, _, List.getElem?_eq_getElem hi, by rw [e1]⟩, st', fun b hb => (hf b hb).1⟩⟩
  done := by
    intro X hP hw hK hc i pins s σ H E I hf st hg
    subst hP hw hK
    obtain ⟨hd, hi⟩ := hg
    obtain ⟨z, y, vs, rel, da⟩ := fd_at I hd ho
    obtain ⟨f0, f1, f2, f3, f4, f5⟩ := hf it (by simp)
    have ln : kvs.length = vs.length := rel.length
    rw [ln] at st
    exact wpAny_pyNext_dict_end (I.ok.hd hc) st da (by rw [List.getElem?_eq_none_iff]; omega) fun h' eb => ⟨rfl, I.turned (t' := s.toks) (fun b o hb e => eb b o hb e) f0 f1 f3 f4 f5⟩
  self := fun _ _ _ _ _ st h => wpAny_pyIter_keyiter st h
theorem turn_vals {P : Program} {w : World} {K : PySem.W.Frag} {tg : Expr} (d it : Addr) {ob : Obj} {kvs : List (Key × V)} {es : Array DictEntry} {ep : Nat} (ho : ob.data = .dict es ep) : Turn P w K tg (Itv d ob kvs) [it] it (fun i h => h.IsValIter it d i kvs.length ep) where
  mem := by simp
  obj := fun i h st b hb => by
    have e : b = it := by simpa using hb
    subst e
    obtain ⟨o, e, c, d⟩ := st
    exact ⟨o, e, fun v z => by rw [d] at z; cases z⟩
  keep := fun i h h' st k => st.at fun o e => k it (by simp) o e
  item := by
    intro X hP hw hK hc i pins s σ H E I hf st hg
    subst hP hw hK
    obtain ⟨hd, hi⟩ := hg
    obtain ⟨z, y, vs, rel, da⟩ := fd_at I hd ho
    obtain ⟨q, hq, e1, r2⟩ := KV.get rel (List.getElem?_eq_getElem hi)
    obtain ⟨f0, f1, f2, f3, f4, f5⟩ := hf it (by simp)
    have st0 := st
    have ln : kvs.length = vs.length := rel.length
    rw [ln] at st0
    refine wpAny_pyNext_values_item st0 da (k := q.1) (v := q.2) hq fun h' st' sb => ?_
    rw [← ln] at st'
    have I1 : Inv X pins σ H { s with heap := h' } := I.turned (t' := s.toks) (fun b o hb e => (sb.2 b hb).trans e) f0 f1 f3 f4 f5
    obtain ⟨o, e, c, d'⟩ := id st'
    exact ⟨q.2, rfl, go_of (s := { s with heap := h' }) e c d' (by decide) ⟨_, H, I1, r2, ⟨rfl, _, List.getElem?_eq_getElem hi, rfl⟩, st', fun b hb => (hf b hb).1⟩⟩
  done := by
    intro X hP hw hK hc i pins s σ H E I hf st hg
    subst hP hw hK
    obtain ⟨hd, hi⟩ := hg
    obtain ⟨z, y, vs, rel, da⟩ := fd_at I hd ho
    obtain ⟨f0, f1, f2, f3, f4, f5⟩ := hf it (by simp)
    have ln : kvs.length = vs.length := rel.length
    rw [ln] at st
    exact wpAny_pyNext_values_end (I.ok.hd hc) st da (by rw [List.getElem?_eq_none_iff]; omega) fun h' eb => ⟨rfl, I.turned (t' := s.toks) (fun b o hb e => eb b o hb e) f0 f1 f3 f4 f5⟩
  self := fun _ _ _ _ _ st h => wpAny_pyIter_valiter st h
section
variable {X : Cx} {tg : Expr}
def iKeys (tl : TE) : TI := fun σ H R => tl σ H fun x H1 => ∃ d ob kvs, x = .ref d ∧ H1 d = some (Fd ob kvs) ∧ R (Itk d ob kvs) H1
theorem pi_keys {l : Expr} {tl : TE} (hl : PE X l tl) : PI X tg l (iKeys tl) := by
  intro pins s σ H R I h
  refine thn (hl pins s σ H _ I h) fun v s1 ⟨x, H1, I1, r1, q1⟩ => ?_
  obtain ⟨d, ob, kvs, e, hd, q⟩ := q1
  subst e
  cases r1
  obtain ⟨hg, _, _, vs, _, o, es, ep, hg', _, hdd, _⟩ := I1.hok d _ hd
  rw [hg] at hg'
  cases hg'
  obtain ⟨z, y, vs, rel, da⟩ := fd_at I1 hd hdd
  refine wpAny_pyIter_dict y da ?_
  refine ⟨s1.heap.objs.size, [s1.heap.objs.size], _, _, H1, rfl, I1.kept (t' := s1.toks) fun b o e => Heap.get?_push_of_some _ e, turn_keys d _ hdd, ⟨_, Heap.get?_push_size _ rfl, rfl, by rw [rel.length]; rfl⟩, fun b hb => ?_, q⟩
  have e : b = s1.heap.objs.size := by simpa using hb
  subst e
  exact I1.fpOk (Nat.le_refl _) (I1.hok.fresh (Nat.le_refl _))
end
end L2
namespace L2
open PySem PySem.Spec PyProof.Rows Mth
section
variable {X : Cx} {tg o : Expr} {to : TE} {apos cpos : Pos}
def iVals (to : TE) : TI := fun σ H R => to σ H fun x H1 => ∃ d ob kvs, x = .ref d ∧ H1 d = some (Fd ob kvs) ∧ R (Itv d ob kvs) H1
theorem pi_vals (ho : PE X o to) (hbase : attributeBase o "values" X.env (eval o X.env) = eval o X.env := by rfl) (hline : (apos.endLine == cpos.line) = true := by rfl) : PI X tg (.Call (.Attribute o "values" apos) [] [] cpos) (iVals to) := by
  intro pins s σ H R I h
  refine wpAny_Call_method0_late hbase hline (thn (ho pins s σ H _ I h) fun v s1 ⟨x, H1, I1, r1, q1⟩ => ?_)
  obtain ⟨d, ob, kvs, e, hd, q⟩ := q1
  subst e
  cases r1
  obtain ⟨hg, _, _, vs, _, o', es, ep, hg', hx, hdd, _⟩ := I1.hok d _ hd
  rw [hg] at hg'
  cases hg'
  obtain ⟨z, y, vs, rel, da⟩ := fd_at I1 hd hdd
  refine ⟨"dict", "dict.values", PySem.F.plainAttrs_dict, PySem.F.slot_dict_values, PySem.F.type_dict_values, da.dictOf.typeIs, fun a e => ?_, Calls.callWith_builtin rfl (PySem.evalArgs_none ?_)⟩
  · cases e
    exact ⟨_, hg, hx.2.1⟩
  · refine call_meetsIn PySem.F.slot_dict_values da.dictOf.typeIs PySem.F.entry_dict_values (PySem.F.args_dict_values_1 _) (meets_dict_values (mixKind X.prog X.w) d y) ⟨⟨_, da.dictOf⟩, ?_⟩
    have da' : (s1.heap.push { cls := .type "dict_values", data := .fields #[.ref d] }).DictAt (mixKind X.prog X.w) d vs ep := da.push _
    refine wpAny_pyIter_values (s := { s1 with heap := s1.heap.push { cls := .type "dict_values", data := .fields #[.ref d] } }) ⟨_, Heap.get?_push_size _ rfl, rfl, rfl⟩ da' ?_
    have I2 := I1.kept (t' := s1.toks) (h' := s1.heap.push { cls := .type "dict_values", data := .fields #[.ref d] }) fun b o e => Heap.get?_push_of_some _ e
    refine ⟨_, [_], _, _, H1, rfl, I2.kept (t' := s1.toks) fun b o e => Heap.get?_push_of_some _ e, turn_vals d _ hdd, ⟨_, Heap.get?_push_size _ rfl, rfl, by rw [rel.length]; rfl⟩, fun b hb => ?_, q⟩
    have e : b = (s1.heap.push { cls := .type "dict_values", data := .fields #[.ref d] }).objs.size := by simpa using hb
    subst e
    exact I2.fpOk (Nat.le_refl _) (I2.hok.fresh (Nat.le_refl _))
def rClearD : V → List V → Hp → VK → Prop := fun x vs H Q => ∃ a kvs, x = .ref a ∧ vs = [] ∧ H a = some (.dK kvs) ∧ Q .non (upd H a (.dK []))
theorem mt_clearD : MtR X "dict.clear" rClearD := by
  intro pins s σ H x vs v us Q I rx rv h
  obtain ⟨a, kvs, rfl, rfl, e, q⟩ := h
  cases rx
  obtain rfl := Vals.zero rv
  exact d_clear I e fun s' I' => ⟨.non, _, I', rfl, q⟩
def rClearL : V → List V → Hp → VK → Prop := fun x vs H Q => ∃ a xs, x = .ref a ∧ vs = [] ∧ H a = some (.lst xs) ∧ Q .non (upd H a (.lst []))
theorem mt_clearL : MtR X "list.clear" rClearL := by
  intro pins s σ H x vs v us Q I rx rv h
  obtain ⟨l, xs, rfl, rfl, hH, q⟩ := h
  cases rx
  obtain rfl := Vals.zero rv
  obtain ⟨z, its, n, r, e⟩ := (show ObjOk X.prog X.w H s.heap l (.lst xs) from I.hok l _ hH)
  refine call_meets F.slot_list_clear ⟨_, e, rfl⟩ F.entry_list_clear (F.args_list_clear_1 _) (AutoSeq1.list_clear_list_0 l its.toArray n (by rw [List.size_toArray, ← r.length]; exact z)) ⟨e, ?_⟩
  exact ⟨.non, _, I.lset (its' := []) hH e rfl .nil (Nat.zero_le _), rfl, q⟩
theorem call_list_ofD (hc : X.calm = true) : CallR X (.type "list") (fun xs H Q => ∃ p kvs, xs = [.ref p] ∧ Rd H p (.dK kvs) ∧ ∀ l, H l = none → Q (.ref l) (upd H l (.lst (kvs.map fun kv => kV kv.1)))) := by
  intro pins s σ H xs us Q I r h
  obtain ⟨p, kvs, rfl, hq, q⟩ := h
  obtain ⟨u, rfl, rx⟩ := vals1 r
  cases rx
  obtain ⟨z, y, vs, rel, dd⟩ := dk_rd I.hok hq
  obtain ⟨ep, da⟩ := dd.dictAt
  have ln : kvs.length = vs.length := rel.length
  refine PySem.W.kdl_call (PySem.W.kdl_dict (ep := ep) y) (I.ok.hd hc) da (by rw [← ln]; exact z) fun h' tk acc' c' kp e it => ?_
  have rv : Vals (kvs.map fun kv => kV kv.1) acc'.toList := by
    have hl : acc'.toList.length = vs.length := by rw [Array.length_toList]; exact it.1
    have hv : ∀ j v, acc'.toList[j]? = some v → ∃ k x, vs[j]? = some (k, x) ∧ keyIs k v = true := fun j v e => it.2 j v (by rw [← Array.getElem?_toList]; exact e)
    clear q it e hq da dd z y ln
    generalize acc'.toList = acc at hl hv
    induction rel generalizing acc with
    | nil => cases acc with
      | nil => exact .nil
      | cons => cases hl
    | @cons a b kvs vs r t ih => cases acc with
      | nil => cases hl
      | cons v acc =>
        obtain ⟨k, x, e, hk⟩ := hv 0 v rfl
        cases e
        refine .cons ?_ (ih acc (Nat.succ.inj hl) fun j v e => hv (j + 1) v e)
        have : a.1 = k := r.1
        show RelV (kV a.1) v
        rw [this]
        exact rel_key hk
  exact ⟨.ref s.heap.objs.size, _, I.laid (t' := tk) kp (Nat.le_refl _) (show ObjOk X.prog X.w _ h' _ (.lst _) from ⟨by rw [List.length_map]; exact z, acc'.toList, c', rv, by rw [Array.toArray_toList]; exact e⟩), rfl, q _ (I.hok.fresh (Nat.le_refl _))⟩
theorem call_dict_ofK : CallR X (.type "dict") (fun xs H Q => ∃ p kvs, xs = [.ref p] ∧ Rd H p (.dK kvs) ∧ ∀ l, H l = none → Q (.ref l) (upd H l (.dK kvs))) := by
  intro pins s σ H xs us Q I r h
  obtain ⟨p, kvs, rfl, hq, q⟩ := h
  obtain ⟨u, rfl, rx⟩ := vals1 r
  cases rx
  exact d_copyOf I hq fun l s' hl I' => ⟨.ref l, _, I', rfl, q l hl⟩
end
end L2
namespace L2
open PySem PySem.Spec PyProof.Rows Mth
structure MkN (K : PySem.W.Frag) (C : Addr) : Prop where
  makes : PySem.W.makesIn K C = true
  init : PySem.W.findIn K (.ref C) "__init__" = some (some (.builtin "object.__init__"))
  kp : PySem.W.keepIn K (.ref C) = true
section
variable {X : Cx} {C : Addr} {x : Str} {p pos : Pos}
def tMakeN (C : Addr) : TE := fun _ H Q => ∀ x dx, H x = none → H dx = none → dx ≠ x → Q (.ref x) (upd (upd H dx (.own x)) x (.ins C dx []))
theorem pe_makeN (M : MkN X.K C) (hm : X.mg x = some (.ref C)) (hg : Gl X x := by rfl) (hdb : (x == ("__debug__" : Str)) = false := by decide) : PE X (.Call (.Name x p) [] [] pos) (tMakeN C) := by
  intro pins s σ H Q I h
  refine wpAny_Call_Name_kw (ld_glob I hg hm ?_ hdb)
  refine PySem.W.callWith_K0 I.kIn M.kp (wpAny_call ?_)
  have hq := h (s.heap.objs.size + 1) s.heap.objs.size (I.hok.fresh (Nat.le_succ _)) (I.hok.fresh (Nat.le_refl _)) (Nat.ne_of_lt (Nat.lt_succ_self _))
  have I2 := Inv.made (C := C) I
  have kin := I.kIn
  obtain ⟨hh, g, d, t, os⟩ := s
  have Y := PySem.W.makes_of (M := model X.prog X.w) kin M.makes
  refine PySem.W.make_core Y (PySem.W.looks_findIn kin M.init) (fun self => PySem.W.Looks.of_pure (PySem.W.oi_bind self)) (.inr ⟨rfl, rfl⟩) ?_
  have gi : ((hh.push PySem.W.emptyDict).push (PySem.W.instObj C hh.objs.size)).get? (hh.objs.size + 1) = some (PySem.W.instObj C hh.objs.size) := by
    have : ((hh.push PySem.W.emptyDict).push (PySem.W.instObj C hh.objs.size)).get? (hh.push PySem.W.emptyDict).objs.size = some (PySem.W.instObj C hh.objs.size) := Heap.get?_push_size _ rfl
    rwa [Heap.size_push] at this
  have t1 : PySem.W.Looks (model X.prog X.w) ((hh.push PySem.W.emptyDict).push (PySem.W.instObj C hh.objs.size)) (typeOf (.ref (hh.objs.size + 1))) (.ref C) := (PySem.W.Looks.ld gi).andThen .now
  have t2 : PySem.W.Looks (model X.prog X.w) ((hh.push PySem.W.emptyDict).push (PySem.W.instObj C hh.objs.size)) (isInstance (.ref (hh.objs.size + 1)) (.type "object")) true := t1.andThen (Y.top.keeps fun b o e => Heap.get?_push_of_some _ (Heap.get?_push_of_some _ e))
  refine codeAny_call_builtin PySem.W.oi_plain PySem.W.entry_oi (@PySem.W.check_slot (model X.prog X.w) _ _ _ "object.__init__" "object" "__init__" (.ref (hh.objs.size + 1)) [] [] _ PySem.W.oi_kind PySem.W.oi_split t2 (PySem.W.oi_args (.ref (hh.objs.size + 1))) ?_)
  show wpAny _ _ (Builtin.«object.__init__» ⟨[.ref (hh.objs.size + 1)], []⟩) _ _ _
  rw [PySem.W.oi_run]
  exact wpAny_pure (And.intro rfl ⟨.ref (hh.objs.size + 1), _, I2, rfl, hq⟩)
end
section
variable {X : Cx} {C : Addr} {x : Str} {p pos : Pos} {e : Expr} {es : List Expr} {t : TA} {k : Nat} {ps : List Str} {sp : Sp} {ds : List Value} {dvs : List V}
theorem px_make (M : MkCl X.K C) (D : MDefX X.prog X.w X.K X.mg X.base C "__init__" k ps ds sp) (hd : Vals dvs ds) (hr : Room (k + 1) X.A) (hm : X.mg x = some (.ref C)) (ha : PA X.nox (e :: es) t) (hg : Gl X x := by rfl) (hdb : (x == ("__debug__" : Str)) = false := by decide)
    (he : starEach (e :: es) X.env = (false, eval e X.env) :: starEach es X.env := by rfl) (hpl : (backTo pos (starEach es X.env)).any (·.1) = false := by rfl) :
    PX X (.Call (.Name x p) (e :: es) [] pos) (fun σ H Q E => t σ H fun vs H1 => ∀ x dx, H1 x = none → H1 dx = none → dx ≠ x → sp (.ref x :: (vs ++ dvs)) (upd (upd H1 dx (.own x)) x (.ins C dx [])) (fun v H2 => v = .non ∧ Q (.ref x) H2) E) := by
  obtain ⟨f, fd, me, hb, F⟩ := D
  intro pins s σ H Q E I h
  refine wpAny_Call_Name_kw (ld_glob I hg hm ?_ hdb)
  refine PySem.W.callWith_K (h₀ := X.base) I.ok.mod.kin M.kp (wpAny_mono (ha pos pins s σ H _ (I.wish _) h) (fun us s1 ⟨vs, H1, I1, r, q⟩ => ⟨I1.kIn, ?_⟩) fun _ _ z => False.elim z) he hpl
  have I1' : Inv X pins σ H1 s1 := I1.unwish
  have hq := q (s1.heap.objs.size + 1) s1.heap.objs.size (I1'.hok.fresh (Nat.le_succ _)) (I1'.hok.fresh (Nat.le_refl _)) (Nat.ne_of_lt (Nat.lt_succ_self _))
  have I2 := Inv.made (C := C) I1'
  have r2 : Vals (V.ref (s1.heap.objs.size + 1) :: (vs ++ dvs)) (Value.ref (s1.heap.objs.size + 1) :: (us ++ ds)) := .cons rfl (r.append hd)
  have hl : (Value.ref (s1.heap.objs.size + 1) :: us ++ ds).length = ps.length := by
    have e := r2.length
    rw [F.len _ _ _ _ hq] at e
    exact e.symm
  refine wpAny_call (make_map (f := f) I1'.kIn M.makes me.at_ (beq_iff_eq.mp me.fn) (codeAny_mono (F.run _ X.stack _ _ ⟨Value.ref (s1.heap.objs.size + 1) :: us, []⟩ (Value.ref (s1.heap.objs.size + 1) :: (us ++ ds)) _ _ E (hr.make C us [])
    (I2.env0.make C us []) (hb _ (Value.ref (s1.heap.objs.size + 1) :: us) I2.kIn hl) r2 hq) fun r s' hq' => ?_))
  cases r with
  | error e => exact ⟨_, _, I2, hq'⟩
  | ok fl =>
    cases fl with
    | ret u =>
      obtain ⟨v, H', I3, rv, ev, q3⟩ := I2.after hq'
      subst ev
      exact ⟨rv, ⟨V.ref (s1.heap.objs.size + 1), H', I3, rfl, q3⟩⟩
    | next => exact False.elim hq'
    | brk => exact False.elim hq'
    | cont => exact False.elim hq'
end
/-- over the keys of a known dict -/
theorem comp_keys {d : Addr} {ob : Obj} {kvs : List (Key × V)} {g : TG} {tt : TT} {te : TE} {D : Addr} {Q : Hp → Prop} {σ : St} {H : Hp} (Pv : Nat → List V → St → Hp → Prop) (h0 : Pv 0 [] σ H) (hl : ∀ i acc σ H, i ≤ kvs.length → Pv i acc σ H → H d = some (Fd ob kvs))
    (hs : ∀ i p acc σ H, kvs[i]? = some p → Pv i acc σ H → g (kV p.1) σ H fun σ2 H3 => tt σ2 H3 fun b H4 =>
      if b = true then te σ2 H4 fun y H5 => H5 D = some (.lst acc) ∧ acc.length < sizeLine ∧ Pv (i + 1) (acc ++ [y]) σ2 (upd H5 D (.lst (acc ++ [y]))) else Pv (i + 1) acc σ2 H4) (hd : ∀ acc σ H, Pv kvs.length acc σ H → Q H) :
    ∃ W : Nat → Nat → List V → St → Hp → Prop, (∃ m, W 0 m [] σ H) ∧ ∀ i m acc σ' H', W i m acc σ' H' → ((Itk d ob kvs).stop i H' ∧ Q H') ∨
      ((Itk d ob kvs).go i H' ∧ ∃ N : List V → St → Hp → Prop, (∀ acc' σ2 H4, N acc' σ2 H4 → ∃ m', m' < m ∧ W (i + 1) m' acc' σ2 H4) ∧ ∀ x H2, (Itk d ob kvs).yld i H' x H2 → g x σ' H2 fun σ2 H3 => tt σ2 H3 fun b H4 =>
        if b = true then te σ2 H4 fun y H5 => H5 D = some (.lst acc) ∧ acc.length < sizeLine ∧ N (acc ++ [y]) σ2 (upd H5 D (.lst (acc ++ [y]))) else N acc σ2 H4) := by
  refine ⟨fun i m acc σ H => m = kvs.length - i ∧ i ≤ kvs.length ∧ Pv i acc σ H, ⟨kvs.length, by simp, Nat.zero_le _, h0⟩, ?_⟩
  rintro i m acc σ H ⟨rfl, hi, p⟩
  have q := hl i acc σ H hi p
  by_cases hlt : i < kvs.length
  · refine .inr ⟨⟨q, hlt⟩, Pv (i + 1), fun acc' σ' H' p' => ⟨kvs.length - (i + 1), by omega, rfl, hlt, p'⟩, fun x H' y => ?_⟩
    obtain ⟨e, r, y, e2⟩ := y
    subst e e2
    exact hs i r acc σ _ y p
  · have e : i = kvs.length := by omega
    subst e
    exact .inl ⟨⟨q, Nat.le_refl _⟩, hd acc σ H p⟩
/-- over the values of a known dict -/
theorem for_vals {d : Addr} {ob : Obj} {kvs : List (Key × V)} {g : TG} {tb : TS} {D : Ends} {σ : St} {H : Hp} (Pv : Nat → St → Hp → Prop) (h0 : Pv 0 σ H) (hl : ∀ i σ H, i ≤ kvs.length → Pv i σ H → H d = some (Fd ob kvs))
    (hs : ∀ i p σ H, kvs[i]? = some p → Pv i σ H → g p.2 σ H fun σ2 H2 => tb { D with nx := Pv (i + 1), ct := Pv (i + 1), bk := D.nx } σ2 H2) (hd : ∀ σ H, Pv kvs.length σ H → D.nx σ H) :
    ∃ W : Nat → Nat → St → Hp → Prop, (∃ m, W 0 m σ H) ∧ ∀ i m σ H, W i m σ H →
      ((Itv d ob kvs).stop i H ∧ D.nx σ H) ∨ ((Itv d ob kvs).go i H ∧ ∃ N : St → Hp → Prop, (∀ σ' H', N σ' H' → ∃ m', m' < m ∧ W (i + 1) m' σ' H') ∧ ∀ x H', (Itv d ob kvs).yld i H x H' → g x σ H' fun σ2 H2 => tb { D with nx := N, ct := N, bk := D.nx } σ2 H2) := by
  refine ⟨fun i m σ H => m = kvs.length - i ∧ i ≤ kvs.length ∧ Pv i σ H, ⟨kvs.length, by simp, Nat.zero_le _, h0⟩, ?_⟩
  rintro i m σ H ⟨rfl, hi, p⟩
  have q := hl i σ H hi p
  by_cases hlt : i < kvs.length
  · refine .inr ⟨⟨q, hlt⟩, Pv (i + 1), fun σ' H' p' => ⟨kvs.length - (i + 1), by omega, rfl, hlt, p'⟩, fun x H' y => ?_⟩
    obtain ⟨e, r, y, e2⟩ := y
    subst e e2
    exact hs i r σ _ y p
  · have e : i = kvs.length := by omega
    subst e
    exact .inl ⟨⟨q, Nat.le_refl _⟩, hd σ H p⟩
def orB (l : List Nat) (b : Nat) : Nat := l.foldl (fun a r => a ||| 2 ^ r) b
theorem orB_bit : ∀ (l : List Nat) (b j : Nat), (orB l b).testBit j = (b.testBit j || decide (j ∈ l))
  | [], b, j => by simp [orB]
  | i :: l, b, j => by
    show (orB l (b ||| 2 ^ i)).testBit j = _
    rw [orB_bit l, Nat.testBit_or, Nat.testBit_two_pow]
    by_cases h : i = j
    · subst h; simp
    · have h2 : ¬ j = i := fun e => h e.symm
      simp [h, h2]
theorem orB_next {l : List Nat} {i r : Nat} (h : l[i]? = some r) : orB (l.take (i + 1)) 0 = orB (l.take i) 0 ||| 2 ^ r := by
  have : l.take (i + 1) = l.take i ++ [r] := by rw [List.take_succ, h]; rfl
  rw [this]
  unfold orB
  rw [List.foldl_append]
  rfl
def RunsK (P : Program) (w : World) (K : PySem.W.Frag) (mg : Str → Option Value) (base : Heap) (k : Nat) (f : Addr) (vs : List V) (H : Hp) (Q : VK) : Prop := ∀ (A : Around) (st : List Env) (s : Shared) (us : List Value), Room k A → Env0 P w K mg base A st s H → Vals vs us →
  codeAny (model P w) A (.call (.ref f) ⟨us, []⟩) (CR CX0 st P w H s Q E0) s
def tCallVK (P : Program) (w : World) (K : PySem.W.Frag) (mg : Str → Option Value) (base : Heap) (k i : Nat) (t : TA) : TE := fun σ H Q => ∃ f o fd, σ[i]? = some (some (.ref f)) ∧ o.data = .func fd ∧ t σ H fun vs H1 => H1 f = some (Fz o) ∧ RunsK P w K mg base k f vs H1 Q
section
variable {X : Cx} {P : Program} {w : World} {K : PySem.W.Frag} {mg : Str → Option Value} {base : Heap} {i k : Nat} {x : Str} {p pos : Pos} {e : Expr} {es : List Expr} {t : TA}
theorem pe_callVK (hX : X.prog = P ∧ X.w = w ∧ X.K = K ∧ X.mg = mg ∧ X.base = base) (hr : Room k X.A) (hN : X.N[i]? = some x) (hv : Vis X.env.scope x) (ha : PA X (e :: es) t) (hd : (x == ("__debug__" : Str)) = false := by decide) (hcd : (x == ("__classdict__" : Str)) = false := by decide)
    (he : starEach (e :: es) X.env = (false, eval e X.env) :: starEach es X.env := by rfl) : PE X (.Call (.Name x p) (e :: es) [] pos) (tCallVK P w K mg base k i t) := by
  obtain ⟨rfl, rfl, rfl, rfl, rfl⟩ := hX
  intro pins s σ H Q I h
  obtain ⟨f, o, fd, hf, hdat, h⟩ := h
  obtain ⟨m, hn, hl⟩ := I.loc
  obtain ⟨u, r, l⟩ := hl i x _ hN hf hv
  obtain rfl : u = .ref f := r
  have fin : wpAny (model X.prog X.w) X.A (callWith pos (.ref f) [] (backTo pos (starEach (e :: es) X.env)) (backToKw pos (keywordEach [] X.env))) (EP X pins σ Q) X.xe s := by
    refine PyProof.Rows.callWith_def (o := o) hdat (thn (ha pos pins s σ H _ I h) fun us s1 ⟨vs, H1, I1, rv, q1, q2⟩ => ⟨fz_get I1.hok q1, ?_⟩) he
    refine wpAny_call (codeAny_mono (q2 X.A X.stack s1 us hr I1.env0 rv) fun r s' hq => ?_)
    cases r with
    | error e => exact False.elim hq
    | ok fl =>
      cases fl with
      | ret u => exact I1.after hq
      | next => exact False.elim hq
      | brk => exact False.elim hq
      | cont => exact False.elim hq
  refine wpAny_Call_Name_kw ?_
  rcases l with ⟨hk, hm⟩ | ⟨hk, c, hc, hcell⟩
  · exact wpAny_Name (wpAny_loadName_local I.ok.kind hk hn hm fin) hd
  · rcases hk with hk | hk
    · exact wpAny_Name (wpAny_loadName_cell I.ok.kind hk hc hcell fin) hd
    · exact wpAny_Name (wpAny_loadName_free I.ok.kind hk hc hcell fin hcd) hd
end
end L2
namespace L2
open PySem PySem.Spec PyProof.Rows Mth
theorem sl_listK {X : Cx} {K : PySem.W.Frag} (hK : X.K = K) : SlR X (rSlL K) := by subst hK; exact sl_list
theorem KV.same {κ : Type} : ∀ {kvs : List (κ × V)} {vs us : List (κ × Value)}, KV kvs vs → KV kvs us → (∀ kv ∈ kvs, ∃ p, kv.2 = .ref p) → vs = us
  | [], _, _, .nil, .nil, _ => rfl
  | c :: kvs, _, _, .cons (b := b) r t, .cons (b := b') r' t', h => by
    obtain ⟨p, e⟩ := h c (by simp)
    have e1 : b = b' := by
      obtain ⟨b1, b2⟩ := b
      obtain ⟨c1, c2⟩ := b'
      obtain ⟨r1, r2⟩ := r
      obtain ⟨r3, r4⟩ := r'
      rw [e] at r2 r4
      have r2 : b2 = .ref p := r2
      have r4 : c2 = .ref p := r4
      rw [r2, r4, ← (show c.1 = b1 from r1), ← (show c.1 = c1 from r3)]
    rw [e1, KV.same t t' fun kv hk => h kv (by simp [hk])]
theorem KV.refs {κ : Type} : ∀ {kvs : List (κ × V)} {vs : List (κ × Value)}, KV kvs vs → (∀ kv ∈ kvs, ∃ p, kv.2 = .ref p) → ∀ q ∈ vs, ∃ p, q.2 = .ref p
  | _, _, .nil, _, q, hq => by simp at hq
  | c :: kvs, _, .cons (b := b) r t, h, q, hq => by
    rcases List.mem_cons.mp hq with rfl | hq
    · obtain ⟨p, e⟩ := h c (by simp)
      obtain ⟨_, r2⟩ := r
      rw [e] at r2
      exact ⟨p, r2⟩
    · exact KV.refs t (fun kv hk => h kv (by simp [hk])) q hq
theorem hits_same {κ : Type} [DecidableEq κ] {A : Around} {s : Shared} {kb : List (κ × Value)} : ∀ {ka : List (κ × Value)}, (∀ q ∈ ka, valueAt kb q.1 = some q.2 ∧ ∃ p, q.2 = .ref p) → PySem.W.KeqHits A s kb ka true
  | [], _ => .nil
  | (k, v) :: r, h => by
    obtain ⟨e, p, e2⟩ := h (k, v) (by simp)
    have e2 : v = .ref p := e2
    subst e2
    exact .hit (e := true) e (fun prog w Q E hq => by unfold PySem.eqBool; exact wpAny_holding (by rw [if_pos (by simp)]; exact wpAny_bind (wpAny_rule (wpAny_pure hq)))) (hits_same fun q hq => h q (by simp [hq]))
theorem valueAt_mem {κ : Type} [DecidableEq κ] : ∀ {kvs : List (κ × Value)} {q : κ × Value}, (kvs.map (·.1)).Nodup → q ∈ kvs → valueAt kvs q.1 = some q.2
  | c :: kvs, q, nd, h => by
    have nd' := List.nodup_cons.mp nd
    unfold valueAt
    rcases List.mem_cons.mp h with rfl | h
    · simp
    · have ne : ¬ c.1 = q.1 := fun z => nd'.1 (by show c.1 ∈ _; rw [z]; exact List.mem_map.mpr ⟨q, h, rfl⟩)
      rw [List.find?_cons_of_neg (by simpa using ne)]
      exact valueAt_mem nd'.2 h
def rNeDK : R2 := fun x y H Q => ∃ a b kvs, x = .ref a ∧ y = .ref b ∧ H a = some (.dK kvs) ∧ H b = some (.dK kvs) ∧ (∀ kv ∈ kvs, ∃ p, kv.2 = .ref p) ∧ Q (.bl false) H
theorem op_neDK {X : Cx} (hu : X.A.units + 64 < cLine) : OpR X (compareOp .NotEq) rNeDK := by
  intro pins s σ H x y v u Q I rx ry h
  obtain ⟨a, b, kvs, rfl, rfl, ha, hb, hr, q⟩ := h
  cases rx
  cases ry
  obtain ⟨_, ya, vs, ra, da⟩ := dk_of I.hok ha
  obtain ⟨_, yb, us, rb, db⟩ := dk_of I.hok hb
  obtain rfl := ra.same rb hr
  have nd : (vs.map (·.1)).Nodup := by obtain ⟨_, _, _, _, _, _, _, _, nd⟩ := id da; exact nd
  refine PySem.W.keq_ne (r := true) ya yb da db (by omega) (fun _ => hits_same fun q hq => ⟨valueAt_mem nd hq, ra.refs hr q hq⟩) ?_
  rw [beq_self_eq_true]
  exact ⟨.bl false, H, I, rfl, q⟩
end L2


namespace K32
open PySem PySem.Spec PyProof.Rows L2 Mth
seal PE PS PSs PPs PA PG PGs PT PIf PI
def top (i : Nat) : Stmt := PySem.Challenge.pw_stoke_k32_plain_keepers.main.body.getD i (.Pass ⟨0, 0, 0, 0⟩)
abbrev s_has_room : Stmt := top 1
theorem sc_has_room : FnScope ["bits", "room"] ["bits", "room"] (defScope s_has_room) := ⟨rfl, rfl, rfl, by decide +kernel, rfl, by decide +kernel, by decide +kernel⟩
abbrev s_with_room : Stmt := top 2
theorem sc_with_room : FnScope ["bits", "room"] ["bits", "room"] (defScope s_with_room) := ⟨rfl, rfl, rfl, by decide +kernel, rfl, by decide +kernel, by decide +kernel⟩
abbrev s_bits_of : Stmt := top 3
theorem sc_bits_of : FnScope ["rooms", "bits", "room"] ["rooms"] (defScope s_bits_of) := ⟨rfl, rfl, rfl, by decide +kernel, rfl, by decide +kernel, by decide +kernel⟩
abbrev s_NoRoom___init__ : Stmt := inClass (top 25) 0
theorem sc_NoRoom___init__ : FnScope ["self", "room"] ["self", "room"] (defScope s_NoRoom___init__) := ⟨rfl, rfl, rfl, by decide +kernel, rfl, by decide +kernel, by decide +kernel⟩
abbrev s_NoShare___init__ : Stmt := inClass (top 26) 0
theorem sc_NoShare___init__ : FnScope ["self", "room"] ["self", "room"] (defScope s_NoShare___init__) := ⟨rfl, rfl, rfl, by decide +kernel, rfl, by decide +kernel, by decide +kernel⟩
abbrev s_NoTurn___init__ : Stmt := inClass (top 27) 0
theorem sc_NoTurn___init__ : FnScope ["self", "room", "turn"] ["self", "room", "turn"] (defScope s_NoTurn___init__) := ⟨rfl, rfl, rfl, by decide +kernel, rfl, by decide +kernel, by decide +kernel⟩
abbrev s_NoBand___init__ : Stmt := inClass (top 28) 0
theorem sc_NoBand___init__ : FnScope ["self", "room", "turn"] ["self", "room", "turn"] (defScope s_NoBand___init__) := ⟨rfl, rfl, rfl, by decide +kernel, rfl, by decide +kernel, by decide +kernel⟩
abbrev s_Keeper_minds : Stmt := inClass (top 30) 0
theorem sc_Keeper_minds : FnScope ["self"] ["self"] (defScope s_Keeper_minds) := ⟨rfl, rfl, rfl, by decide +kernel, rfl, by decide +kernel, by decide +kernel⟩
abbrev s_Keeper_size : Stmt := inClass (top 30) 1
theorem sc_Keeper_size : FnScope ["self"] ["self"] (defScope s_Keeper_size) := ⟨rfl, rfl, rfl, by decide +kernel, rfl, by decide +kernel, by decide +kernel⟩
abbrev s_Keeper_wish : Stmt := inClass (top 30) 2
theorem sc_Keeper_wish : FnScope ["self", "mind", "state"] ["self", "mind", "state"] (defScope s_Keeper_wish) := ⟨rfl, rfl, rfl, by decide +kernel, rfl, by decide +kernel, by decide +kernel⟩
abbrev s_Keeper_after : Stmt := inClass (top 30) 3
theorem sc_Keeper_after : FnScope ["self", "mind", "state"] ["self", "mind", "state"] (defScope s_Keeper_after) := ⟨rfl, rfl, rfl, by decide +kernel, rfl, by decide +kernel, by decide +kernel⟩
abbrev s_Ruled___init__ : Stmt := inClass (top 31) 0
theorem sc_Ruled___init__ : FnScope ["self", "rows"] ["self", "rows"] (defScope s_Ruled___init__) := ⟨rfl, rfl, rfl, by decide +kernel, rfl, by decide +kernel, by decide +kernel⟩
abbrev s_Ruled_wish : Stmt := inClass (top 31) 1
theorem sc_Ruled_wish : FnScope ["self", "mind", "state"] ["self", "mind", "state"] (defScope s_Ruled_wish) := ⟨rfl, rfl, rfl, by decide +kernel, rfl, by decide +kernel, by decide +kernel⟩
abbrev s_Sills___init__ : Stmt := inClass (top 32) 0
theorem sc_Sills___init__ : FnScope ["self", "sills", "low", "high"] ["self", "sills"] (defScope s_Sills___init__) := ⟨rfl, rfl, rfl, by decide +kernel, rfl, by decide +kernel, by decide +kernel⟩
abbrev s_Sills_wish : Stmt := inClass (top 32) 1
theorem sc_Sills_wish : FnScope ["self", "mind", "state"] ["self", "mind", "state"] (defScope s_Sills_wish) := ⟨rfl, rfl, rfl, by decide +kernel, rfl, by decide +kernel, by decide +kernel⟩
abbrev s_Sills_is_wished : Stmt := inClass (top 32) 2
theorem sc_Sills_is_wished : FnScope ["self", "room", "state", "low", "high"] ["self", "room", "state"] (defScope s_Sills_is_wished) := ⟨rfl, rfl, rfl, by decide +kernel, rfl, by decide +kernel, by decide +kernel⟩
abbrev s_colder : Stmt := top 34
theorem sc_colder : FnScope ["room", "band"] ["room", "band"] (defScope s_colder) := ⟨rfl, rfl, rfl, by decide +kernel, rfl, by decide +kernel, by decide +kernel⟩
abbrev s_burns : Stmt := top 35
theorem sc_burns : FnScope ["room"] ["room"] (defScope s_burns) := ⟨rfl, rfl, rfl, by decide +kernel, rfl, by decide +kernel, by decide +kernel⟩
abbrev s_rested : Stmt := top 36
theorem sc_rested : FnScope ["room"] ["room"] (defScope s_rested) := ⟨rfl, rfl, rfl, by decide +kernel, rfl, by decide +kernel, by decide +kernel⟩
abbrev s_stocked : Stmt := top 37
theorem sc_stocked : FnScope ["wood"] ["wood"] (defScope s_stocked) := ⟨rfl, rfl, rfl, by decide +kernel, rfl, by decide +kernel, by decide +kernel⟩
abbrev s_law_cell_at : Stmt := top 39
theorem sc_law_cell_at : FnScope ["_law_script", "_law_k"] ["_law_script", "_law_k"] (defScope s_law_cell_at) := ⟨rfl, rfl, rfl, by decide +kernel, rfl, by decide +kernel, by decide +kernel⟩
abbrev s_law_whole : Stmt := top 40
theorem sc_law_whole : FnScope ["_law_found"] ["_law_found"] (defScope s_law_whole) := ⟨rfl, rfl, rfl, by decide +kernel, rfl, by decide +kernel, by decide +kernel⟩
abbrev s_law_stream : Stmt := top 41
theorem sc_law_stream : FnScope ["_law_cell", "_law_many", "_law_found", "_law_number", "_law_k"] ["_law_cell", "_law_many"] (defScope s_law_stream) := ⟨rfl, rfl, rfl, by decide +kernel, rfl, by decide +kernel, by decide +kernel⟩
abbrev s_law_in_bits : Stmt := top 42
theorem sc_law_in_bits : FnScope ["_law_bits_here", "_law_room", "_law_k"] ["_law_bits_here", "_law_room"] (defScope s_law_in_bits) := ⟨rfl, rfl, rfl, by decide +kernel, rfl, by decide +kernel, by decide +kernel⟩
abbrev s_law_state : Stmt := top 43
theorem sc_law_state : FnScope ["_law_xs", "_law_rooms", "_law_bands", "_law_waits", "_law_failed"] ["_law_xs", "_law_rooms"] (defScope s_law_state) := ⟨rfl, rfl, rfl, by decide +kernel, rfl, by decide +kernel, by decide +kernel⟩
abbrev s_law_leaf : Stmt := top 44
theorem sc_law_leaf : FnScope ["_law_xs", "_law_rooms", "_law_room", "_law_far"] ["_law_xs", "_law_rooms"] (defScope s_law_leaf) := ⟨rfl, rfl, rfl, by decide +kernel, rfl, by decide +kernel, by decide +kernel⟩
abbrev s_law_made_leaf : Stmt := top 45
theorem sc_law_made_leaf : FnScope ["_law_leaf_here"] ["_law_leaf_here"] (defScope s_law_made_leaf) := ⟨rfl, rfl, rfl, by decide +kernel, rfl, by decide +kernel, by decide +kernel⟩
abbrev s_law_holds : Stmt := top 46
theorem sc_law_holds : FnScope ["_law_leaf_here", "_law_state_here"] ["_law_leaf_here", "_law_state_here"] (defScope s_law_holds) := ⟨rfl, rfl, rfl, by decide +kernel, rfl, by decide +kernel, by decide +kernel⟩
abbrev s_law_bits : Stmt := top 47
theorem sc_law_bits : FnScope ["_law_rooms", "_law_bits_here", "_law_room"] ["_law_rooms"] (defScope s_law_bits) := ⟨rfl, rfl, rfl, by decide +kernel, rfl, by decide +kernel, by decide +kernel⟩
abbrev s_law_is_plain : Stmt := top 48
theorem sc_law_is_plain : FnScope ["_law_keeper", "_law_states", "_law_due", "_law_k", "_law_found", "_law_wanted"] ["_law_keeper", "_law_states", "_law_due"] (defScope s_law_is_plain) := ⟨rfl, rfl, rfl, by decide +kernel, rfl, by decide +kernel, by decide +kernel⟩
abbrev s_law_ruled : Stmt := top 49
theorem sc_law_ruled : FnScope ["_law_cell", "_law_rooms", "_law_states", "_law_xs", "_law_leaves", "_law_where", "_law_rows", "_law_keeper", "_law_due", "_law_state_here"] ["_law_cell", "_law_rooms", "_law_states"] (defScope s_law_ruled) := ⟨rfl, rfl, rfl, by decide +kernel, rfl, by decide +kernel, by decide +kernel⟩
abbrev s_law_sill : Stmt := top 50
theorem sc_law_sill : FnScope ["_law_xs", "_law_low"] ["_law_xs"] (defScope s_law_sill) := ⟨rfl, rfl, rfl, by decide +kernel, rfl, by decide +kernel, by decide +kernel⟩
abbrev s_law_refused : Stmt := top 51
theorem sc_law_refused : FnScope ["_law_sills_here", "_law_own", "e"] ["_law_sills_here"] (defScope s_law_refused) := ⟨rfl, rfl, rfl, by decide +kernel, rfl, by decide +kernel, by decide +kernel⟩
abbrev s_law_by_sills : Stmt := top 52
theorem sc_law_by_sills : FnScope ["_law_sills_here", "_law_state_here", "_law_wished", "_law_room", "_law_low", "_law_high"] ["_law_sills_here", "_law_state_here"] (defScope s_law_by_sills) := ⟨rfl, rfl, rfl, by decide +kernel, rfl, by decide +kernel, by decide +kernel⟩
abbrev s_law_sills : Stmt := top 53
theorem sc_law_sills : FnScope ["_law_cell", "_law_rooms", "_law_states", "_law_xs", "_law_sills_here", "_law_k", "_law_bad", "_law_wrong", "_law_handed", "_law_keeper"] ["_law_cell", "_law_rooms", "_law_states"] (defScope s_law_sills) := ⟨rfl, rfl, rfl, by decide +kernel, rfl, by decide +kernel, by decide +kernel⟩
abbrev s_law : Stmt := top 54
theorem sc_law : FnScope ["_law_script", "_law_k", "_law_xs", "_law_rooms", "_law_states"] ["_law_script"] (defScope s_law) := ⟨rfl, rfl, rfl, by decide +kernel, rfl, by decide +kernel, by decide +kernel⟩
structure Ads where
  Keeper : Addr
  Ruled : Addr
  Sills : Addr
  StokeError : Addr
  Ended : Addr
  Full : Addr
  NoBand : Addr
  NoFailing : Addr
  NoHold : Addr
  NoKeeper : Addr
  NoLine : Addr
  NoMarks : Addr
  NoName : Addr
  NoNumber : Addr
  NoOrder : Addr
  NoRoom : Addr
  NoShare : Addr
  NoSky : Addr
  NoState : Addr
  NoStove : Addr
  NoText : Addr
  NoTurn : Addr
  NotKept : Addr
  NotOut : Addr
  Shared : Addr
  TooMany : Addr
  Twice : Addr
  T_colder : Addr
  T_burns : Addr
  T_rested : Addr
  T_stocked : Addr
structure Txt (K : PySem.W.Frag) (mg : Str → Option Value) (A : Ads) : Prop where
  m_Keeper : mg "Keeper" = some (.ref A.Keeper)
  m_Ruled : mg "Ruled" = some (.ref A.Ruled)
  m_Sills : mg "Sills" = some (.ref A.Sills)
  m_StokeError : mg "StokeError" = some (.ref A.StokeError)
  m_Ended : mg "Ended" = some (.ref A.Ended)
  m_Full : mg "Full" = some (.ref A.Full)
  m_NoBand : mg "NoBand" = some (.ref A.NoBand)
  m_NoFailing : mg "NoFailing" = some (.ref A.NoFailing)
  m_NoHold : mg "NoHold" = some (.ref A.NoHold)
  m_NoKeeper : mg "NoKeeper" = some (.ref A.NoKeeper)
  m_NoLine : mg "NoLine" = some (.ref A.NoLine)
  m_NoMarks : mg "NoMarks" = some (.ref A.NoMarks)
  m_NoName : mg "NoName" = some (.ref A.NoName)
  m_NoNumber : mg "NoNumber" = some (.ref A.NoNumber)
  m_NoOrder : mg "NoOrder" = some (.ref A.NoOrder)
  m_NoRoom : mg "NoRoom" = some (.ref A.NoRoom)
  m_NoShare : mg "NoShare" = some (.ref A.NoShare)
  m_NoSky : mg "NoSky" = some (.ref A.NoSky)
  m_NoState : mg "NoState" = some (.ref A.NoState)
  m_NoStove : mg "NoStove" = some (.ref A.NoStove)
  m_NoText : mg "NoText" = some (.ref A.NoText)
  m_NoTurn : mg "NoTurn" = some (.ref A.NoTurn)
  m_NotKept : mg "NotKept" = some (.ref A.NotKept)
  m_NotOut : mg "NotOut" = some (.ref A.NotOut)
  m_Shared : mg "Shared" = some (.ref A.Shared)
  m_TooMany : mg "TooMany" = some (.ref A.TooMany)
  m_Twice : mg "Twice" = some (.ref A.Twice)
  x_NoKeeper : PySem.W.excIn K A.NoKeeper [.type "ValueError", .type "Exception", .type "BaseException", .type "object"] "ValueError.__new__" = true
  xga_NoKeeper : PySem.W.findIn K (.ref A.NoKeeper) "__getattribute__" = some (some (.builtin "BaseException.__getattribute__"))
  xgt_NoKeeper : PySem.W.findIn K (.ref A.NoKeeper) "__getattr__" = some none
  xcl_NoKeeper : PySem.W.findIn K (.ref A.NoKeeper) "__class__" = some (some (.builtin "object.__class__"))
  xmo_NoKeeper : PySem.W.mroIn K A.NoKeeper (.type "object") = some true
  xmb_NoKeeper : PySem.W.mroIn K A.NoKeeper (.type "BaseException") = some true
  xis_NoKeeper : PySem.W.isClsIn K A.NoKeeper = true
  gs : PySem.W.specialIn K (.builtin "object.__class__") "__get__" = some (some (.builtin "getset_descriptor.__get__"))
  tk : PySem.W.takesIn K (.builtin "object.__class__") = some true
  ex : PySem.W.exmOne K (.ref A.NoKeeper) (.ref A.StokeError) = some true
  k0 : PySem.W.kitAny K (.ref A.NoKeeper) [.ref A.Ended, .ref A.Full, .ref A.NoBand, .ref A.NoFailing, .ref A.NoHold, .ref A.NoLine, .ref A.NoMarks, .ref A.NoName, .ref A.NoNumber, .ref A.NoOrder, .ref A.NoRoom] = some false
  k2 : PySem.W.kitAny K (.ref A.NoKeeper) [.ref A.NoShare, .ref A.NoSky, .ref A.NoState, .ref A.NoStove, .ref A.NoText, .ref A.NoTurn, .ref A.NotKept, .ref A.NotOut, .ref A.Shared, .ref A.TooMany, .ref A.Twice] = some false
  k1 : PySem.W.kitOne K (.ref A.NoKeeper) (.type "ValueError") = some true
  k3 : PySem.W.kitOne K (.ref A.NoKeeper) (.ref A.NoKeeper) = some true
  in_Keeper : PySem.W.findIn K (.ref A.Keeper) "__init__" = some (some (.builtin "object.__init__"))
  ic_Keeper : PySem.W.findIn K (.ref A.Keeper) "__class__" = some (some (.builtin "object.__class__"))
  mo_Keeper : PySem.W.mroIn K A.Keeper (.type "object") = some true
  kk_Keeper : PySem.W.kitOne K (.ref A.Keeper) (.ref A.Keeper) = some true
  ic_Ruled : PySem.W.findIn K (.ref A.Ruled) "__class__" = some (some (.builtin "object.__class__"))
  mo_Ruled : PySem.W.mroIn K A.Ruled (.type "object") = some true
  kk_Ruled : PySem.W.kitOne K (.ref A.Ruled) (.ref A.Keeper) = some true
  ic_Sills : PySem.W.findIn K (.ref A.Sills) "__class__" = some (some (.builtin "object.__class__"))
  mo_Sills : PySem.W.mroIn K A.Sills (.type "object") = some true
  kk_Sills : PySem.W.kitOne K (.ref A.Sills) (.ref A.Keeper) = some true
  cl_Keeper : Cls K A.Keeper
  mk_Keeper : MkCl K A.Keeper
  e_Keeper_minds : HasM K A.Keeper "minds" "Keeper.minds" s_Keeper_minds .none
  e_Keeper_size : HasM K A.Keeper "size" "Keeper.size" s_Keeper_size .none
  e_Keeper_wish : HasM K A.Keeper "wish" "Keeper.wish" s_Keeper_wish .none
  e_Keeper_after : HasM K A.Keeper "after" "Keeper.after" s_Keeper_after .none
  cl_Ruled : Cls K A.Ruled
  mk_Ruled : MkCl K A.Ruled
  na_Ruled_rows : NoAttr K A.Ruled "rows"
  e_Ruled___init__ : HasM K A.Ruled "__init__" "Ruled.__init__" s_Ruled___init__ .none
  e_Ruled_wish : HasM K A.Ruled "wish" "Ruled.wish" s_Ruled_wish .none
  e_Ruled_minds : HasM K A.Ruled "minds" "Keeper.minds" s_Keeper_minds .none
  e_Ruled_size : HasM K A.Ruled "size" "Keeper.size" s_Keeper_size .none
  e_Ruled_after : HasM K A.Ruled "after" "Keeper.after" s_Keeper_after .none
  cl_Sills : Cls K A.Sills
  mk_Sills : MkCl K A.Sills
  na_Sills_sills : NoAttr K A.Sills "sills"
  e_Sills___init__ : HasM K A.Sills "__init__" "Sills.__init__" s_Sills___init__ .none
  e_Sills_wish : HasM K A.Sills "wish" "Sills.wish" s_Sills_wish .none
  e_Sills_is_wished : HasM K A.Sills "is_wished" "Sills.is_wished" s_Sills_is_wished .none
  e_Sills_minds : HasM K A.Sills "minds" "Keeper.minds" s_Keeper_minds .none
  e_Sills_size : HasM K A.Sills "size" "Keeper.size" s_Keeper_size .none
  e_Sills_after : HasM K A.Sills "after" "Keeper.after" s_Keeper_after .none
  nd : ([A.T_colder, A.T_burns, A.T_rested, A.T_stocked] : List Addr).Nodup
  d_has_room : Has K mg "has_room" s_has_room
  d_with_room : Has K mg "with_room" s_with_room
  d_bits_of : Has K mg "bits_of" s_bits_of
  d_colder : HasMk K mg "colder" s_colder A.T_colder
  d_burns : HasMk K mg "burns" s_burns A.T_burns
  d_rested : HasMk K mg "rested" s_rested A.T_rested
  d_stocked : HasMk K mg "stocked" s_stocked A.T_stocked
  d_law_cell_at : Has K mg "_law_cell_at" s_law_cell_at
  d_law_whole : Has K mg "_law_whole" s_law_whole
  d_law_stream : Has K mg "_law_stream" s_law_stream
  d_law_in_bits : Has K mg "_law_in_bits" s_law_in_bits
  d_law_state : Has K mg "_law_state" s_law_state
  d_law_leaf : Has K mg "_law_leaf" s_law_leaf
  d_law_made_leaf : Has K mg "_law_made_leaf" s_law_made_leaf
  d_law_holds : Has K mg "_law_holds" s_law_holds
  d_law_bits : Has K mg "_law_bits" s_law_bits
  d_law_is_plain : Has K mg "_law_is_plain" s_law_is_plain
  d_law_ruled : Has K mg "_law_ruled" s_law_ruled
  d_law_sill : Has K mg "_law_sill" s_law_sill
  d_law_refused : Has K mg "_law_refused" s_law_refused
  d_law_by_sills : Has K mg "_law_by_sills" s_law_by_sills
  d_law_sills : Has K mg "_law_sills" s_law_sills
  d_law : Has K mg "law" s_law
  n_ValueError : mg "ValueError" = none
  n_bool : mg "bool" = none
  n_dict : mg "dict" = none
  n_int : mg "int" = none
  n_isinstance : mg "isinstance" = none
  n_len : mg "len" = none
  n_list : mg "list" = none
  n_range : mg "range" = none
  n_tuple : mg "tuple" = none
theorem txt_mk {K : PySem.W.Frag} {h : Heap} {mg : Str → Option Value} (X : K.In h) (G : h.Ns mainGlobals mg)
    {c_Keeper : Addr}
    {c_Ruled : Addr}
    {c_Sills : Addr}
    {c_StokeError : Addr}
    {c_Ended : Addr}
    {c_Full : Addr}
    {c_NoBand : Addr}
    {c_NoFailing : Addr}
    {c_NoHold : Addr}
    {c_NoKeeper : Addr}
    {c_NoLine : Addr}
    {c_NoMarks : Addr}
    {c_NoName : Addr}
    {c_NoNumber : Addr}
    {c_NoOrder : Addr}
    {c_NoRoom : Addr}
    {c_NoShare : Addr}
    {c_NoSky : Addr}
    {c_NoState : Addr}
    {c_NoStove : Addr}
    {c_NoText : Addr}
    {c_NoTurn : Addr}
    {c_NotKept : Addr}
    {c_NotOut : Addr}
    {c_Shared : Addr}
    {c_TooMany : Addr}
    {c_Twice : Addr}
    {f_Keeper_minds : Addr} {od_Keeper_minds an_Keeper_minds : Option Addr} {sl_Keeper_minds : Array (Option Value)} {oc_Keeper_minds kV_Keeper_minds dc_Keeper_minds pm_Keeper_minds cd_Keeper_minds ct_Keeper_minds : Value}
    {f_Keeper_size : Addr} {od_Keeper_size an_Keeper_size : Option Addr} {sl_Keeper_size : Array (Option Value)} {oc_Keeper_size kV_Keeper_size dc_Keeper_size pm_Keeper_size cd_Keeper_size ct_Keeper_size : Value}
    {f_Keeper_wish : Addr} {od_Keeper_wish an_Keeper_wish : Option Addr} {sl_Keeper_wish : Array (Option Value)} {oc_Keeper_wish kV_Keeper_wish dc_Keeper_wish pm_Keeper_wish cd_Keeper_wish ct_Keeper_wish : Value}
    {f_Keeper_after : Addr} {od_Keeper_after an_Keeper_after : Option Addr} {sl_Keeper_after : Array (Option Value)} {oc_Keeper_after kV_Keeper_after dc_Keeper_after pm_Keeper_after cd_Keeper_after ct_Keeper_after : Value}
    {f_Ruled___init__ : Addr} {od_Ruled___init__ an_Ruled___init__ : Option Addr} {sl_Ruled___init__ : Array (Option Value)} {oc_Ruled___init__ kV_Ruled___init__ dc_Ruled___init__ pm_Ruled___init__ cd_Ruled___init__ ct_Ruled___init__ : Value}
    {f_Ruled_wish : Addr} {od_Ruled_wish an_Ruled_wish : Option Addr} {sl_Ruled_wish : Array (Option Value)} {oc_Ruled_wish kV_Ruled_wish dc_Ruled_wish pm_Ruled_wish cd_Ruled_wish ct_Ruled_wish : Value}
    {f_Ruled_minds : Addr} {od_Ruled_minds an_Ruled_minds : Option Addr} {sl_Ruled_minds : Array (Option Value)} {oc_Ruled_minds kV_Ruled_minds dc_Ruled_minds pm_Ruled_minds cd_Ruled_minds ct_Ruled_minds : Value}
    {f_Ruled_size : Addr} {od_Ruled_size an_Ruled_size : Option Addr} {sl_Ruled_size : Array (Option Value)} {oc_Ruled_size kV_Ruled_size dc_Ruled_size pm_Ruled_size cd_Ruled_size ct_Ruled_size : Value}
    {f_Ruled_after : Addr} {od_Ruled_after an_Ruled_after : Option Addr} {sl_Ruled_after : Array (Option Value)} {oc_Ruled_after kV_Ruled_after dc_Ruled_after pm_Ruled_after cd_Ruled_after ct_Ruled_after : Value}
    {f_Sills___init__ : Addr} {od_Sills___init__ an_Sills___init__ : Option Addr} {sl_Sills___init__ : Array (Option Value)} {oc_Sills___init__ kV_Sills___init__ dc_Sills___init__ pm_Sills___init__ cd_Sills___init__ ct_Sills___init__ : Value}
    {f_Sills_wish : Addr} {od_Sills_wish an_Sills_wish : Option Addr} {sl_Sills_wish : Array (Option Value)} {oc_Sills_wish kV_Sills_wish dc_Sills_wish pm_Sills_wish cd_Sills_wish ct_Sills_wish : Value}
    {f_Sills_is_wished : Addr} {od_Sills_is_wished an_Sills_is_wished : Option Addr} {sl_Sills_is_wished : Array (Option Value)} {oc_Sills_is_wished kV_Sills_is_wished dc_Sills_is_wished pm_Sills_is_wished cd_Sills_is_wished ct_Sills_is_wished : Value}
    {f_Sills_minds : Addr} {od_Sills_minds an_Sills_minds : Option Addr} {sl_Sills_minds : Array (Option Value)} {oc_Sills_minds kV_Sills_minds dc_Sills_minds pm_Sills_minds cd_Sills_minds ct_Sills_minds : Value}
    {f_Sills_size : Addr} {od_Sills_size an_Sills_size : Option Addr} {sl_Sills_size : Array (Option Value)} {oc_Sills_size kV_Sills_size dc_Sills_size pm_Sills_size cd_Sills_size ct_Sills_size : Value}
    {f_Sills_after : Addr} {od_Sills_after an_Sills_after : Option Addr} {sl_Sills_after : Array (Option Value)} {oc_Sills_after kV_Sills_after dc_Sills_after pm_Sills_after cd_Sills_after ct_Sills_after : Value}
    {f_has_room : Addr} {od_has_room an_has_room : Option Addr} {sl_has_room : Array (Option Value)} {oc_has_room kV_has_room dc_has_room pm_has_room cd_has_room ct_has_room : Value}
    {f_with_room : Addr} {od_with_room an_with_room : Option Addr} {sl_with_room : Array (Option Value)} {oc_with_room kV_with_room dc_with_room pm_with_room cd_with_room ct_with_room : Value}
    {f_bits_of : Addr} {od_bits_of an_bits_of : Option Addr} {sl_bits_of : Array (Option Value)} {oc_bits_of kV_bits_of dc_bits_of pm_bits_of cd_bits_of ct_bits_of : Value}
    {f_colder T_colder cc_colder : Addr} {od_colder an_colder hd_colder : Option Addr} {sl_colder hs_colder : Array (Option Value)} {hv_colder : Array Value} {oc_colder kV_colder dc_colder pm_colder ct_colder : Value}
    {f_burns T_burns cc_burns : Addr} {od_burns an_burns hd_burns : Option Addr} {sl_burns hs_burns : Array (Option Value)} {hv_burns : Array Value} {oc_burns kV_burns dc_burns pm_burns ct_burns : Value}
    {f_rested T_rested cc_rested : Addr} {od_rested an_rested hd_rested : Option Addr} {sl_rested hs_rested : Array (Option Value)} {hv_rested : Array Value} {oc_rested kV_rested dc_rested pm_rested ct_rested : Value}
    {f_stocked T_stocked cc_stocked : Addr} {od_stocked an_stocked hd_stocked : Option Addr} {sl_stocked hs_stocked : Array (Option Value)} {hv_stocked : Array Value} {oc_stocked kV_stocked dc_stocked pm_stocked ct_stocked : Value}
    {f_law_cell_at : Addr} {od_law_cell_at an_law_cell_at : Option Addr} {sl_law_cell_at : Array (Option Value)} {oc_law_cell_at kV_law_cell_at dc_law_cell_at pm_law_cell_at cd_law_cell_at ct_law_cell_at : Value}
    {f_law_whole : Addr} {od_law_whole an_law_whole : Option Addr} {sl_law_whole : Array (Option Value)} {oc_law_whole kV_law_whole dc_law_whole pm_law_whole cd_law_whole ct_law_whole : Value}
    {f_law_stream : Addr} {od_law_stream an_law_stream : Option Addr} {sl_law_stream : Array (Option Value)} {oc_law_stream kV_law_stream dc_law_stream pm_law_stream cd_law_stream ct_law_stream : Value}
    {f_law_in_bits : Addr} {od_law_in_bits an_law_in_bits : Option Addr} {sl_law_in_bits : Array (Option Value)} {oc_law_in_bits kV_law_in_bits dc_law_in_bits pm_law_in_bits cd_law_in_bits ct_law_in_bits : Value}
    {f_law_state : Addr} {od_law_state an_law_state : Option Addr} {sl_law_state : Array (Option Value)} {oc_law_state kV_law_state dc_law_state pm_law_state cd_law_state ct_law_state : Value}
    {f_law_leaf : Addr} {od_law_leaf an_law_leaf : Option Addr} {sl_law_leaf : Array (Option Value)} {oc_law_leaf kV_law_leaf dc_law_leaf pm_law_leaf cd_law_leaf ct_law_leaf : Value}
    {f_law_made_leaf : Addr} {od_law_made_leaf an_law_made_leaf : Option Addr} {sl_law_made_leaf : Array (Option Value)} {oc_law_made_leaf kV_law_made_leaf dc_law_made_leaf pm_law_made_leaf cd_law_made_leaf ct_law_made_leaf : Value}
    {f_law_holds : Addr} {od_law_holds an_law_holds : Option Addr} {sl_law_holds : Array (Option Value)} {oc_law_holds kV_law_holds dc_law_holds pm_law_holds cd_law_holds ct_law_holds : Value}
    {f_law_bits : Addr} {od_law_bits an_law_bits : Option Addr} {sl_law_bits : Array (Option Value)} {oc_law_bits kV_law_bits dc_law_bits pm_law_bits cd_law_bits ct_law_bits : Value}
    {f_law_is_plain : Addr} {od_law_is_plain an_law_is_plain : Option Addr} {sl_law_is_plain : Array (Option Value)} {oc_law_is_plain kV_law_is_plain dc_law_is_plain pm_law_is_plain cd_law_is_plain ct_law_is_plain : Value}
    {f_law_ruled : Addr} {od_law_ruled an_law_ruled : Option Addr} {sl_law_ruled : Array (Option Value)} {oc_law_ruled kV_law_ruled dc_law_ruled pm_law_ruled cd_law_ruled ct_law_ruled : Value}
    {f_law_sill : Addr} {od_law_sill an_law_sill : Option Addr} {sl_law_sill : Array (Option Value)} {oc_law_sill kV_law_sill dc_law_sill pm_law_sill cd_law_sill ct_law_sill : Value}
    {f_law_refused : Addr} {od_law_refused an_law_refused : Option Addr} {sl_law_refused : Array (Option Value)} {oc_law_refused kV_law_refused dc_law_refused pm_law_refused cd_law_refused ct_law_refused : Value}
    {f_law_by_sills : Addr} {od_law_by_sills an_law_by_sills : Option Addr} {sl_law_by_sills : Array (Option Value)} {oc_law_by_sills kV_law_by_sills dc_law_by_sills pm_law_by_sills cd_law_by_sills ct_law_by_sills : Value}
    {f_law_sills : Addr} {od_law_sills an_law_sills : Option Addr} {sl_law_sills : Array (Option Value)} {oc_law_sills kV_law_sills dc_law_sills pm_law_sills cd_law_sills ct_law_sills : Value}
    {f_law : Addr} {od_law an_law : Option Addr} {sl_law : Array (Option Value)} {oc_law kV_law dc_law pm_law cd_law ct_law : Value}
    (y_Keeper : PySem.W.nsIn K mainGlobals "Keeper" = some (some (.ref c_Keeper)))
    (y_Ruled : PySem.W.nsIn K mainGlobals "Ruled" = some (some (.ref c_Ruled)))
    (y_Sills : PySem.W.nsIn K mainGlobals "Sills" = some (some (.ref c_Sills)))
    (y_StokeError : PySem.W.nsIn K mainGlobals "StokeError" = some (some (.ref c_StokeError)))
    (y_Ended : PySem.W.nsIn K mainGlobals "Ended" = some (some (.ref c_Ended)))
    (y_Full : PySem.W.nsIn K mainGlobals "Full" = some (some (.ref c_Full)))
    (y_NoBand : PySem.W.nsIn K mainGlobals "NoBand" = some (some (.ref c_NoBand)))
    (y_NoFailing : PySem.W.nsIn K mainGlobals "NoFailing" = some (some (.ref c_NoFailing)))
    (y_NoHold : PySem.W.nsIn K mainGlobals "NoHold" = some (some (.ref c_NoHold)))
    (y_NoKeeper : PySem.W.nsIn K mainGlobals "NoKeeper" = some (some (.ref c_NoKeeper)))
    (y_NoLine : PySem.W.nsIn K mainGlobals "NoLine" = some (some (.ref c_NoLine)))
    (y_NoMarks : PySem.W.nsIn K mainGlobals "NoMarks" = some (some (.ref c_NoMarks)))
    (y_NoName : PySem.W.nsIn K mainGlobals "NoName" = some (some (.ref c_NoName)))
    (y_NoNumber : PySem.W.nsIn K mainGlobals "NoNumber" = some (some (.ref c_NoNumber)))
    (y_NoOrder : PySem.W.nsIn K mainGlobals "NoOrder" = some (some (.ref c_NoOrder)))
    (y_NoRoom : PySem.W.nsIn K mainGlobals "NoRoom" = some (some (.ref c_NoRoom)))
    (y_NoShare : PySem.W.nsIn K mainGlobals "NoShare" = some (some (.ref c_NoShare)))
    (y_NoSky : PySem.W.nsIn K mainGlobals "NoSky" = some (some (.ref c_NoSky)))
    (y_NoState : PySem.W.nsIn K mainGlobals "NoState" = some (some (.ref c_NoState)))
    (y_NoStove : PySem.W.nsIn K mainGlobals "NoStove" = some (some (.ref c_NoStove)))
    (y_NoText : PySem.W.nsIn K mainGlobals "NoText" = some (some (.ref c_NoText)))
    (y_NoTurn : PySem.W.nsIn K mainGlobals "NoTurn" = some (some (.ref c_NoTurn)))
    (y_NotKept : PySem.W.nsIn K mainGlobals "NotKept" = some (some (.ref c_NotKept)))
    (y_NotOut : PySem.W.nsIn K mainGlobals "NotOut" = some (some (.ref c_NotOut)))
    (y_Shared : PySem.W.nsIn K mainGlobals "Shared" = some (some (.ref c_Shared)))
    (y_TooMany : PySem.W.nsIn K mainGlobals "TooMany" = some (some (.ref c_TooMany)))
    (y_Twice : PySem.W.nsIn K mainGlobals "Twice" = some (some (.ref c_Twice)))
    (y_x_NoKeeper : PySem.W.excIn K c_NoKeeper [.type "ValueError", .type "Exception", .type "BaseException", .type "object"] "ValueError.__new__" = true)
    (y_xga_NoKeeper : PySem.W.findIn K (.ref c_NoKeeper) "__getattribute__" = some (some (.builtin "BaseException.__getattribute__")))
    (y_xgt_NoKeeper : PySem.W.findIn K (.ref c_NoKeeper) "__getattr__" = some none)
    (y_xcl_NoKeeper : PySem.W.findIn K (.ref c_NoKeeper) "__class__" = some (some (.builtin "object.__class__")))
    (y_xmo_NoKeeper : PySem.W.mroIn K c_NoKeeper (.type "object") = some true)
    (y_xmb_NoKeeper : PySem.W.mroIn K c_NoKeeper (.type "BaseException") = some true)
    (y_xis_NoKeeper : PySem.W.isClsIn K c_NoKeeper = true)
    (y_gs : PySem.W.specialIn K (.builtin "object.__class__") "__get__" = some (some (.builtin "getset_descriptor.__get__")))
    (y_tk : PySem.W.takesIn K (.builtin "object.__class__") = some true)
    (y_ex : PySem.W.exmOne K (.ref c_NoKeeper) (.ref c_StokeError) = some true)
    (y_k0 : PySem.W.kitAny K (.ref c_NoKeeper) [.ref c_Ended, .ref c_Full, .ref c_NoBand, .ref c_NoFailing, .ref c_NoHold, .ref c_NoLine, .ref c_NoMarks, .ref c_NoName, .ref c_NoNumber, .ref c_NoOrder, .ref c_NoRoom] = some false)
    (y_k2 : PySem.W.kitAny K (.ref c_NoKeeper) [.ref c_NoShare, .ref c_NoSky, .ref c_NoState, .ref c_NoStove, .ref c_NoText, .ref c_NoTurn, .ref c_NotKept, .ref c_NotOut, .ref c_Shared, .ref c_TooMany, .ref c_Twice] = some false)
    (y_k1 : PySem.W.kitOne K (.ref c_NoKeeper) (.type "ValueError") = some true)
    (y_k3 : PySem.W.kitOne K (.ref c_NoKeeper) (.ref c_NoKeeper) = some true)
    (y_in_Keeper : PySem.W.findIn K (.ref c_Keeper) "__init__" = some (some (.builtin "object.__init__")))
    (y_ic_Keeper : PySem.W.findIn K (.ref c_Keeper) "__class__" = some (some (.builtin "object.__class__")))
    (y_mo_Keeper : PySem.W.mroIn K c_Keeper (.type "object") = some true)
    (y_kk_Keeper : PySem.W.kitOne K (.ref c_Keeper) (.ref c_Keeper) = some true)
    (y_ic_Ruled : PySem.W.findIn K (.ref c_Ruled) "__class__" = some (some (.builtin "object.__class__")))
    (y_mo_Ruled : PySem.W.mroIn K c_Ruled (.type "object") = some true)
    (y_kk_Ruled : PySem.W.kitOne K (.ref c_Ruled) (.ref c_Keeper) = some true)
    (y_ic_Sills : PySem.W.findIn K (.ref c_Sills) "__class__" = some (some (.builtin "object.__class__")))
    (y_mo_Sills : PySem.W.mroIn K c_Sills (.type "object") = some true)
    (y_kk_Sills : PySem.W.kitOne K (.ref c_Sills) (.ref c_Keeper) = some true)
    (pg_Keeper : PySem.W.plainGet K c_Keeper Str.empty = true)
    (hd_Keeper : PySem.W.hasDictIn K c_Keeper = true)
    (po_Keeper : PySem.W.plainOver K c_Keeper = true)
    (sa_Keeper : PySem.W.findIn K (.ref c_Keeper) "__setattr__" = some (some (.builtin "object.__setattr__")))
    (mk_Keeper : PySem.W.makesIn K c_Keeper = true)
    (kc_Keeper : PySem.W.keepIn K (.ref c_Keeper) = true)
    (at_Keeper_minds : PySem.W.findIn K (.ref c_Keeper) "minds" = some (some (.ref f_Keeper_minds)))
    (fn_Keeper_minds : PySem.W.isFn K (.ref f_Keeper_minds) = true)
    (l_Keeper_minds : K.lookup f_Keeper_minds = some ⟨oc_Keeper_minds, od_Keeper_minds, .func (PySem.W.fnOf "minds" "Keeper.minds" (defArgs s_Keeper_minds) (defBody s_Keeper_minds) (defScope s_Keeper_minds) .none kV_Keeper_minds dc_Keeper_minds pm_Keeper_minds an_Keeper_minds cd_Keeper_minds ct_Keeper_minds), sl_Keeper_minds⟩)
    (co_Keeper_minds : PySem.W.codeIn K cd_Keeper_minds "Keeper.minds" = true)
    (k_Keeper_minds : PySem.W.keepIn K (.ref f_Keeper_minds) = true)
    (at_Keeper_size : PySem.W.findIn K (.ref c_Keeper) "size" = some (some (.ref f_Keeper_size)))
    (fn_Keeper_size : PySem.W.isFn K (.ref f_Keeper_size) = true)
    (l_Keeper_size : K.lookup f_Keeper_size = some ⟨oc_Keeper_size, od_Keeper_size, .func (PySem.W.fnOf "size" "Keeper.size" (defArgs s_Keeper_size) (defBody s_Keeper_size) (defScope s_Keeper_size) .none kV_Keeper_size dc_Keeper_size pm_Keeper_size an_Keeper_size cd_Keeper_size ct_Keeper_size), sl_Keeper_size⟩)
    (co_Keeper_size : PySem.W.codeIn K cd_Keeper_size "Keeper.size" = true)
    (k_Keeper_size : PySem.W.keepIn K (.ref f_Keeper_size) = true)
    (at_Keeper_wish : PySem.W.findIn K (.ref c_Keeper) "wish" = some (some (.ref f_Keeper_wish)))
    (fn_Keeper_wish : PySem.W.isFn K (.ref f_Keeper_wish) = true)
    (l_Keeper_wish : K.lookup f_Keeper_wish = some ⟨oc_Keeper_wish, od_Keeper_wish, .func (PySem.W.fnOf "wish" "Keeper.wish" (defArgs s_Keeper_wish) (defBody s_Keeper_wish) (defScope s_Keeper_wish) .none kV_Keeper_wish dc_Keeper_wish pm_Keeper_wish an_Keeper_wish cd_Keeper_wish ct_Keeper_wish), sl_Keeper_wish⟩)
    (co_Keeper_wish : PySem.W.codeIn K cd_Keeper_wish "Keeper.wish" = true)
    (k_Keeper_wish : PySem.W.keepIn K (.ref f_Keeper_wish) = true)
    (at_Keeper_after : PySem.W.findIn K (.ref c_Keeper) "after" = some (some (.ref f_Keeper_after)))
    (fn_Keeper_after : PySem.W.isFn K (.ref f_Keeper_after) = true)
    (l_Keeper_after : K.lookup f_Keeper_after = some ⟨oc_Keeper_after, od_Keeper_after, .func (PySem.W.fnOf "after" "Keeper.after" (defArgs s_Keeper_after) (defBody s_Keeper_after) (defScope s_Keeper_after) .none kV_Keeper_after dc_Keeper_after pm_Keeper_after an_Keeper_after cd_Keeper_after ct_Keeper_after), sl_Keeper_after⟩)
    (co_Keeper_after : PySem.W.codeIn K cd_Keeper_after "Keeper.after" = true)
    (k_Keeper_after : PySem.W.keepIn K (.ref f_Keeper_after) = true)
    (pg_Ruled : PySem.W.plainGet K c_Ruled Str.empty = true)
    (hd_Ruled : PySem.W.hasDictIn K c_Ruled = true)
    (po_Ruled : PySem.W.plainOver K c_Ruled = true)
    (sa_Ruled : PySem.W.findIn K (.ref c_Ruled) "__setattr__" = some (some (.builtin "object.__setattr__")))
    (mk_Ruled : PySem.W.makesIn K c_Ruled = true)
    (kc_Ruled : PySem.W.keepIn K (.ref c_Ruled) = true)
    (na_Ruled_rows : PySem.W.findIn K (.ref c_Ruled) "rows" = some none)
    (at_Ruled___init__ : PySem.W.findIn K (.ref c_Ruled) "__init__" = some (some (.ref f_Ruled___init__)))
    (fn_Ruled___init__ : PySem.W.isFn K (.ref f_Ruled___init__) = true)
    (l_Ruled___init__ : K.lookup f_Ruled___init__ = some ⟨oc_Ruled___init__, od_Ruled___init__, .func (PySem.W.fnOf "__init__" "Ruled.__init__" (defArgs s_Ruled___init__) (defBody s_Ruled___init__) (defScope s_Ruled___init__) .none kV_Ruled___init__ dc_Ruled___init__ pm_Ruled___init__ an_Ruled___init__ cd_Ruled___init__ ct_Ruled___init__), sl_Ruled___init__⟩)
    (co_Ruled___init__ : PySem.W.codeIn K cd_Ruled___init__ "Ruled.__init__" = true)
    (k_Ruled___init__ : PySem.W.keepIn K (.ref f_Ruled___init__) = true)
    (at_Ruled_wish : PySem.W.findIn K (.ref c_Ruled) "wish" = some (some (.ref f_Ruled_wish)))
    (fn_Ruled_wish : PySem.W.isFn K (.ref f_Ruled_wish) = true)
    (l_Ruled_wish : K.lookup f_Ruled_wish = some ⟨oc_Ruled_wish, od_Ruled_wish, .func (PySem.W.fnOf "wish" "Ruled.wish" (defArgs s_Ruled_wish) (defBody s_Ruled_wish) (defScope s_Ruled_wish) .none kV_Ruled_wish dc_Ruled_wish pm_Ruled_wish an_Ruled_wish cd_Ruled_wish ct_Ruled_wish), sl_Ruled_wish⟩)
    (co_Ruled_wish : PySem.W.codeIn K cd_Ruled_wish "Ruled.wish" = true)
    (k_Ruled_wish : PySem.W.keepIn K (.ref f_Ruled_wish) = true)
    (at_Ruled_minds : PySem.W.findIn K (.ref c_Ruled) "minds" = some (some (.ref f_Ruled_minds)))
    (fn_Ruled_minds : PySem.W.isFn K (.ref f_Ruled_minds) = true)
    (l_Ruled_minds : K.lookup f_Ruled_minds = some ⟨oc_Ruled_minds, od_Ruled_minds, .func (PySem.W.fnOf "minds" "Keeper.minds" (defArgs s_Keeper_minds) (defBody s_Keeper_minds) (defScope s_Keeper_minds) .none kV_Ruled_minds dc_Ruled_minds pm_Ruled_minds an_Ruled_minds cd_Ruled_minds ct_Ruled_minds), sl_Ruled_minds⟩)
    (co_Ruled_minds : PySem.W.codeIn K cd_Ruled_minds "Keeper.minds" = true)
    (k_Ruled_minds : PySem.W.keepIn K (.ref f_Ruled_minds) = true)
    (at_Ruled_size : PySem.W.findIn K (.ref c_Ruled) "size" = some (some (.ref f_Ruled_size)))
    (fn_Ruled_size : PySem.W.isFn K (.ref f_Ruled_size) = true)
    (l_Ruled_size : K.lookup f_Ruled_size = some ⟨oc_Ruled_size, od_Ruled_size, .func (PySem.W.fnOf "size" "Keeper.size" (defArgs s_Keeper_size) (defBody s_Keeper_size) (defScope s_Keeper_size) .none kV_Ruled_size dc_Ruled_size pm_Ruled_size an_Ruled_size cd_Ruled_size ct_Ruled_size), sl_Ruled_size⟩)
    (co_Ruled_size : PySem.W.codeIn K cd_Ruled_size "Keeper.size" = true)
    (k_Ruled_size : PySem.W.keepIn K (.ref f_Ruled_size) = true)
    (at_Ruled_after : PySem.W.findIn K (.ref c_Ruled) "after" = some (some (.ref f_Ruled_after)))
    (fn_Ruled_after : PySem.W.isFn K (.ref f_Ruled_after) = true)
    (l_Ruled_after : K.lookup f_Ruled_after = some ⟨oc_Ruled_after, od_Ruled_after, .func (PySem.W.fnOf "after" "Keeper.after" (defArgs s_Keeper_after) (defBody s_Keeper_after) (defScope s_Keeper_after) .none kV_Ruled_after dc_Ruled_after pm_Ruled_after an_Ruled_after cd_Ruled_after ct_Ruled_after), sl_Ruled_after⟩)
    (co_Ruled_after : PySem.W.codeIn K cd_Ruled_after "Keeper.after" = true)
    (k_Ruled_after : PySem.W.keepIn K (.ref f_Ruled_after) = true)
    (pg_Sills : PySem.W.plainGet K c_Sills Str.empty = true)
    (hd_Sills : PySem.W.hasDictIn K c_Sills = true)
    (po_Sills : PySem.W.plainOver K c_Sills = true)
    (sa_Sills : PySem.W.findIn K (.ref c_Sills) "__setattr__" = some (some (.builtin "object.__setattr__")))
    (mk_Sills : PySem.W.makesIn K c_Sills = true)
    (kc_Sills : PySem.W.keepIn K (.ref c_Sills) = true)
    (na_Sills_sills : PySem.W.findIn K (.ref c_Sills) "sills" = some none)
    (at_Sills___init__ : PySem.W.findIn K (.ref c_Sills) "__init__" = some (some (.ref f_Sills___init__)))
    (fn_Sills___init__ : PySem.W.isFn K (.ref f_Sills___init__) = true)
    (l_Sills___init__ : K.lookup f_Sills___init__ = some ⟨oc_Sills___init__, od_Sills___init__, .func (PySem.W.fnOf "__init__" "Sills.__init__" (defArgs s_Sills___init__) (defBody s_Sills___init__) (defScope s_Sills___init__) .none kV_Sills___init__ dc_Sills___init__ pm_Sills___init__ an_Sills___init__ cd_Sills___init__ ct_Sills___init__), sl_Sills___init__⟩)
    (co_Sills___init__ : PySem.W.codeIn K cd_Sills___init__ "Sills.__init__" = true)
    (k_Sills___init__ : PySem.W.keepIn K (.ref f_Sills___init__) = true)
    (at_Sills_wish : PySem.W.findIn K (.ref c_Sills) "wish" = some (some (.ref f_Sills_wish)))
    (fn_Sills_wish : PySem.W.isFn K (.ref f_Sills_wish) = true)
    (l_Sills_wish : K.lookup f_Sills_wish = some ⟨oc_Sills_wish, od_Sills_wish, .func (PySem.W.fnOf "wish" "Sills.wish" (defArgs s_Sills_wish) (defBody s_Sills_wish) (defScope s_Sills_wish) .none kV_Sills_wish dc_Sills_wish pm_Sills_wish an_Sills_wish cd_Sills_wish ct_Sills_wish), sl_Sills_wish⟩)
    (co_Sills_wish : PySem.W.codeIn K cd_Sills_wish "Sills.wish" = true)
    (k_Sills_wish : PySem.W.keepIn K (.ref f_Sills_wish) = true)
    (at_Sills_is_wished : PySem.W.findIn K (.ref c_Sills) "is_wished" = some (some (.ref f_Sills_is_wished)))
    (fn_Sills_is_wished : PySem.W.isFn K (.ref f_Sills_is_wished) = true)
    (l_Sills_is_wished : K.lookup f_Sills_is_wished = some ⟨oc_Sills_is_wished, od_Sills_is_wished, .func (PySem.W.fnOf "is_wished" "Sills.is_wished" (defArgs s_Sills_is_wished) (defBody s_Sills_is_wished) (defScope s_Sills_is_wished) .none kV_Sills_is_wished dc_Sills_is_wished pm_Sills_is_wished an_Sills_is_wished cd_Sills_is_wished ct_Sills_is_wished), sl_Sills_is_wished⟩)
    (co_Sills_is_wished : PySem.W.codeIn K cd_Sills_is_wished "Sills.is_wished" = true)
    (k_Sills_is_wished : PySem.W.keepIn K (.ref f_Sills_is_wished) = true)
    (at_Sills_minds : PySem.W.findIn K (.ref c_Sills) "minds" = some (some (.ref f_Sills_minds)))
    (fn_Sills_minds : PySem.W.isFn K (.ref f_Sills_minds) = true)
    (l_Sills_minds : K.lookup f_Sills_minds = some ⟨oc_Sills_minds, od_Sills_minds, .func (PySem.W.fnOf "minds" "Keeper.minds" (defArgs s_Keeper_minds) (defBody s_Keeper_minds) (defScope s_Keeper_minds) .none kV_Sills_minds dc_Sills_minds pm_Sills_minds an_Sills_minds cd_Sills_minds ct_Sills_minds), sl_Sills_minds⟩)
    (co_Sills_minds : PySem.W.codeIn K cd_Sills_minds "Keeper.minds" = true)
    (k_Sills_minds : PySem.W.keepIn K (.ref f_Sills_minds) = true)
    (at_Sills_size : PySem.W.findIn K (.ref c_Sills) "size" = some (some (.ref f_Sills_size)))
    (fn_Sills_size : PySem.W.isFn K (.ref f_Sills_size) = true)
    (l_Sills_size : K.lookup f_Sills_size = some ⟨oc_Sills_size, od_Sills_size, .func (PySem.W.fnOf "size" "Keeper.size" (defArgs s_Keeper_size) (defBody s_Keeper_size) (defScope s_Keeper_size) .none kV_Sills_size dc_Sills_size pm_Sills_size an_Sills_size cd_Sills_size ct_Sills_size), sl_Sills_size⟩)
    (co_Sills_size : PySem.W.codeIn K cd_Sills_size "Keeper.size" = true)
    (k_Sills_size : PySem.W.keepIn K (.ref f_Sills_size) = true)
    (at_Sills_after : PySem.W.findIn K (.ref c_Sills) "after" = some (some (.ref f_Sills_after)))
    (fn_Sills_after : PySem.W.isFn K (.ref f_Sills_after) = true)
    (l_Sills_after : K.lookup f_Sills_after = some ⟨oc_Sills_after, od_Sills_after, .func (PySem.W.fnOf "after" "Keeper.after" (defArgs s_Keeper_after) (defBody s_Keeper_after) (defScope s_Keeper_after) .none kV_Sills_after dc_Sills_after pm_Sills_after an_Sills_after cd_Sills_after ct_Sills_after), sl_Sills_after⟩)
    (co_Sills_after : PySem.W.codeIn K cd_Sills_after "Keeper.after" = true)
    (k_Sills_after : PySem.W.keepIn K (.ref f_Sills_after) = true)
    (a_has_room : PySem.W.nsIn K mainGlobals "has_room" = some (some (.ref f_has_room)))
    (l_has_room : K.lookup f_has_room = some ⟨oc_has_room, od_has_room, .func (PySem.W.fnOf "has_room" "has_room" (defArgs s_has_room) (defBody s_has_room) (defScope s_has_room) .none kV_has_room dc_has_room pm_has_room an_has_room cd_has_room ct_has_room), sl_has_room⟩)
    (co_has_room : PySem.W.codeIn K cd_has_room "has_room" = true)
    (k_has_room : PySem.W.keepIn K (.ref f_has_room) = true)
    (a_with_room : PySem.W.nsIn K mainGlobals "with_room" = some (some (.ref f_with_room)))
    (l_with_room : K.lookup f_with_room = some ⟨oc_with_room, od_with_room, .func (PySem.W.fnOf "with_room" "with_room" (defArgs s_with_room) (defBody s_with_room) (defScope s_with_room) .none kV_with_room dc_with_room pm_with_room an_with_room cd_with_room ct_with_room), sl_with_room⟩)
    (co_with_room : PySem.W.codeIn K cd_with_room "with_room" = true)
    (k_with_room : PySem.W.keepIn K (.ref f_with_room) = true)
    (a_bits_of : PySem.W.nsIn K mainGlobals "bits_of" = some (some (.ref f_bits_of)))
    (l_bits_of : K.lookup f_bits_of = some ⟨oc_bits_of, od_bits_of, .func (PySem.W.fnOf "bits_of" "bits_of" (defArgs s_bits_of) (defBody s_bits_of) (defScope s_bits_of) .none kV_bits_of dc_bits_of pm_bits_of an_bits_of cd_bits_of ct_bits_of), sl_bits_of⟩)
    (co_bits_of : PySem.W.codeIn K cd_bits_of "bits_of" = true)
    (k_bits_of : PySem.W.keepIn K (.ref f_bits_of) = true)
    (a_colder : PySem.W.nsIn K mainGlobals "colder" = some (some (.ref f_colder)))
    (l_colder : K.lookup f_colder = some ⟨oc_colder, od_colder, .func (PySem.W.fnOf "colder" "colder" (defArgs s_colder) (defBody s_colder) (defScope s_colder) .none kV_colder dc_colder pm_colder an_colder (.ref cc_colder) ct_colder), sl_colder⟩)
    (co_colder : PySem.W.codeIn K (.ref cc_colder) "colder" = true)
    (k_colder : PySem.W.keepIn K (.ref f_colder) = true)
    (hl_colder : K.lookup cc_colder = some ⟨.type "code", hd_colder, .fields hv_colder, hs_colder⟩)
    (hp_colder : hv_colder[11]? = some (.ref T_colder))
    (hh_colder : PySem.W.codeHdIn K cc_colder T_colder = true)
    (a_burns : PySem.W.nsIn K mainGlobals "burns" = some (some (.ref f_burns)))
    (l_burns : K.lookup f_burns = some ⟨oc_burns, od_burns, .func (PySem.W.fnOf "burns" "burns" (defArgs s_burns) (defBody s_burns) (defScope s_burns) .none kV_burns dc_burns pm_burns an_burns (.ref cc_burns) ct_burns), sl_burns⟩)
    (co_burns : PySem.W.codeIn K (.ref cc_burns) "burns" = true)
    (k_burns : PySem.W.keepIn K (.ref f_burns) = true)
    (hl_burns : K.lookup cc_burns = some ⟨.type "code", hd_burns, .fields hv_burns, hs_burns⟩)
    (hp_burns : hv_burns[11]? = some (.ref T_burns))
    (hh_burns : PySem.W.codeHdIn K cc_burns T_burns = true)
    (a_rested : PySem.W.nsIn K mainGlobals "rested" = some (some (.ref f_rested)))
    (l_rested : K.lookup f_rested = some ⟨oc_rested, od_rested, .func (PySem.W.fnOf "rested" "rested" (defArgs s_rested) (defBody s_rested) (defScope s_rested) .none kV_rested dc_rested pm_rested an_rested (.ref cc_rested) ct_rested), sl_rested⟩)
    (co_rested : PySem.W.codeIn K (.ref cc_rested) "rested" = true)
    (k_rested : PySem.W.keepIn K (.ref f_rested) = true)
    (hl_rested : K.lookup cc_rested = some ⟨.type "code", hd_rested, .fields hv_rested, hs_rested⟩)
    (hp_rested : hv_rested[11]? = some (.ref T_rested))
    (hh_rested : PySem.W.codeHdIn K cc_rested T_rested = true)
    (a_stocked : PySem.W.nsIn K mainGlobals "stocked" = some (some (.ref f_stocked)))
    (l_stocked : K.lookup f_stocked = some ⟨oc_stocked, od_stocked, .func (PySem.W.fnOf "stocked" "stocked" (defArgs s_stocked) (defBody s_stocked) (defScope s_stocked) .none kV_stocked dc_stocked pm_stocked an_stocked (.ref cc_stocked) ct_stocked), sl_stocked⟩)
    (co_stocked : PySem.W.codeIn K (.ref cc_stocked) "stocked" = true)
    (k_stocked : PySem.W.keepIn K (.ref f_stocked) = true)
    (hl_stocked : K.lookup cc_stocked = some ⟨.type "code", hd_stocked, .fields hv_stocked, hs_stocked⟩)
    (hp_stocked : hv_stocked[11]? = some (.ref T_stocked))
    (hh_stocked : PySem.W.codeHdIn K cc_stocked T_stocked = true)
    (a_law_cell_at : PySem.W.nsIn K mainGlobals "_law_cell_at" = some (some (.ref f_law_cell_at)))
    (l_law_cell_at : K.lookup f_law_cell_at = some ⟨oc_law_cell_at, od_law_cell_at, .func (PySem.W.fnOf "_law_cell_at" "_law_cell_at" (defArgs s_law_cell_at) (defBody s_law_cell_at) (defScope s_law_cell_at) .none kV_law_cell_at dc_law_cell_at pm_law_cell_at an_law_cell_at cd_law_cell_at ct_law_cell_at), sl_law_cell_at⟩)
    (co_law_cell_at : PySem.W.codeIn K cd_law_cell_at "_law_cell_at" = true)
    (k_law_cell_at : PySem.W.keepIn K (.ref f_law_cell_at) = true)
    (a_law_whole : PySem.W.nsIn K mainGlobals "_law_whole" = some (some (.ref f_law_whole)))
    (l_law_whole : K.lookup f_law_whole = some ⟨oc_law_whole, od_law_whole, .func (PySem.W.fnOf "_law_whole" "_law_whole" (defArgs s_law_whole) (defBody s_law_whole) (defScope s_law_whole) .none kV_law_whole dc_law_whole pm_law_whole an_law_whole cd_law_whole ct_law_whole), sl_law_whole⟩)
    (co_law_whole : PySem.W.codeIn K cd_law_whole "_law_whole" = true)
    (k_law_whole : PySem.W.keepIn K (.ref f_law_whole) = true)
    (a_law_stream : PySem.W.nsIn K mainGlobals "_law_stream" = some (some (.ref f_law_stream)))
    (l_law_stream : K.lookup f_law_stream = some ⟨oc_law_stream, od_law_stream, .func (PySem.W.fnOf "_law_stream" "_law_stream" (defArgs s_law_stream) (defBody s_law_stream) (defScope s_law_stream) .none kV_law_stream dc_law_stream pm_law_stream an_law_stream cd_law_stream ct_law_stream), sl_law_stream⟩)
    (co_law_stream : PySem.W.codeIn K cd_law_stream "_law_stream" = true)
    (k_law_stream : PySem.W.keepIn K (.ref f_law_stream) = true)
    (a_law_in_bits : PySem.W.nsIn K mainGlobals "_law_in_bits" = some (some (.ref f_law_in_bits)))
    (l_law_in_bits : K.lookup f_law_in_bits = some ⟨oc_law_in_bits, od_law_in_bits, .func (PySem.W.fnOf "_law_in_bits" "_law_in_bits" (defArgs s_law_in_bits) (defBody s_law_in_bits) (defScope s_law_in_bits) .none kV_law_in_bits dc_law_in_bits pm_law_in_bits an_law_in_bits cd_law_in_bits ct_law_in_bits), sl_law_in_bits⟩)
    (co_law_in_bits : PySem.W.codeIn K cd_law_in_bits "_law_in_bits" = true)
    (k_law_in_bits : PySem.W.keepIn K (.ref f_law_in_bits) = true)
    (a_law_state : PySem.W.nsIn K mainGlobals "_law_state" = some (some (.ref f_law_state)))
    (l_law_state : K.lookup f_law_state = some ⟨oc_law_state, od_law_state, .func (PySem.W.fnOf "_law_state" "_law_state" (defArgs s_law_state) (defBody s_law_state) (defScope s_law_state) .none kV_law_state dc_law_state pm_law_state an_law_state cd_law_state ct_law_state), sl_law_state⟩)
    (co_law_state : PySem.W.codeIn K cd_law_state "_law_state" = true)
    (k_law_state : PySem.W.keepIn K (.ref f_law_state) = true)
    (a_law_leaf : PySem.W.nsIn K mainGlobals "_law_leaf" = some (some (.ref f_law_leaf)))
    (l_law_leaf : K.lookup f_law_leaf = some ⟨oc_law_leaf, od_law_leaf, .func (PySem.W.fnOf "_law_leaf" "_law_leaf" (defArgs s_law_leaf) (defBody s_law_leaf) (defScope s_law_leaf) .none kV_law_leaf dc_law_leaf pm_law_leaf an_law_leaf cd_law_leaf ct_law_leaf), sl_law_leaf⟩)
    (co_law_leaf : PySem.W.codeIn K cd_law_leaf "_law_leaf" = true)
    (k_law_leaf : PySem.W.keepIn K (.ref f_law_leaf) = true)
    (a_law_made_leaf : PySem.W.nsIn K mainGlobals "_law_made_leaf" = some (some (.ref f_law_made_leaf)))
    (l_law_made_leaf : K.lookup f_law_made_leaf = some ⟨oc_law_made_leaf, od_law_made_leaf, .func (PySem.W.fnOf "_law_made_leaf" "_law_made_leaf" (defArgs s_law_made_leaf) (defBody s_law_made_leaf) (defScope s_law_made_leaf) .none kV_law_made_leaf dc_law_made_leaf pm_law_made_leaf an_law_made_leaf cd_law_made_leaf ct_law_made_leaf), sl_law_made_leaf⟩)
    (co_law_made_leaf : PySem.W.codeIn K cd_law_made_leaf "_law_made_leaf" = true)
    (k_law_made_leaf : PySem.W.keepIn K (.ref f_law_made_leaf) = true)
    (a_law_holds : PySem.W.nsIn K mainGlobals "_law_holds" = some (some (.ref f_law_holds)))
    (l_law_holds : K.lookup f_law_holds = some ⟨oc_law_holds, od_law_holds, .func (PySem.W.fnOf "_law_holds" "_law_holds" (defArgs s_law_holds) (defBody s_law_holds) (defScope s_law_holds) .none kV_law_holds dc_law_holds pm_law_holds an_law_holds cd_law_holds ct_law_holds), sl_law_holds⟩)
    (co_law_holds : PySem.W.codeIn K cd_law_holds "_law_holds" = true)
    (k_law_holds : PySem.W.keepIn K (.ref f_law_holds) = true)
    (a_law_bits : PySem.W.nsIn K mainGlobals "_law_bits" = some (some (.ref f_law_bits)))
    (l_law_bits : K.lookup f_law_bits = some ⟨oc_law_bits, od_law_bits, .func (PySem.W.fnOf "_law_bits" "_law_bits" (defArgs s_law_bits) (defBody s_law_bits) (defScope s_law_bits) .none kV_law_bits dc_law_bits pm_law_bits an_law_bits cd_law_bits ct_law_bits), sl_law_bits⟩)
    (co_law_bits : PySem.W.codeIn K cd_law_bits "_law_bits" = true)
    (k_law_bits : PySem.W.keepIn K (.ref f_law_bits) = true)
    (a_law_is_plain : PySem.W.nsIn K mainGlobals "_law_is_plain" = some (some (.ref f_law_is_plain)))
    (l_law_is_plain : K.lookup f_law_is_plain = some ⟨oc_law_is_plain, od_law_is_plain, .func (PySem.W.fnOf "_law_is_plain" "_law_is_plain" (defArgs s_law_is_plain) (defBody s_law_is_plain) (defScope s_law_is_plain) .none kV_law_is_plain dc_law_is_plain pm_law_is_plain an_law_is_plain cd_law_is_plain ct_law_is_plain), sl_law_is_plain⟩)
    (co_law_is_plain : PySem.W.codeIn K cd_law_is_plain "_law_is_plain" = true)
    (k_law_is_plain : PySem.W.keepIn K (.ref f_law_is_plain) = true)
    (a_law_ruled : PySem.W.nsIn K mainGlobals "_law_ruled" = some (some (.ref f_law_ruled)))
    (l_law_ruled : K.lookup f_law_ruled = some ⟨oc_law_ruled, od_law_ruled, .func (PySem.W.fnOf "_law_ruled" "_law_ruled" (defArgs s_law_ruled) (defBody s_law_ruled) (defScope s_law_ruled) .none kV_law_ruled dc_law_ruled pm_law_ruled an_law_ruled cd_law_ruled ct_law_ruled), sl_law_ruled⟩)
    (co_law_ruled : PySem.W.codeIn K cd_law_ruled "_law_ruled" = true)
    (k_law_ruled : PySem.W.keepIn K (.ref f_law_ruled) = true)
    (a_law_sill : PySem.W.nsIn K mainGlobals "_law_sill" = some (some (.ref f_law_sill)))
    (l_law_sill : K.lookup f_law_sill = some ⟨oc_law_sill, od_law_sill, .func (PySem.W.fnOf "_law_sill" "_law_sill" (defArgs s_law_sill) (defBody s_law_sill) (defScope s_law_sill) .none kV_law_sill dc_law_sill pm_law_sill an_law_sill cd_law_sill ct_law_sill), sl_law_sill⟩)
    (co_law_sill : PySem.W.codeIn K cd_law_sill "_law_sill" = true)
    (k_law_sill : PySem.W.keepIn K (.ref f_law_sill) = true)
    (a_law_refused : PySem.W.nsIn K mainGlobals "_law_refused" = some (some (.ref f_law_refused)))
    (l_law_refused : K.lookup f_law_refused = some ⟨oc_law_refused, od_law_refused, .func (PySem.W.fnOf "_law_refused" "_law_refused" (defArgs s_law_refused) (defBody s_law_refused) (defScope s_law_refused) .none kV_law_refused dc_law_refused pm_law_refused an_law_refused cd_law_refused ct_law_refused), sl_law_refused⟩)
    (co_law_refused : PySem.W.codeIn K cd_law_refused "_law_refused" = true)
    (k_law_refused : PySem.W.keepIn K (.ref f_law_refused) = true)
    (a_law_by_sills : PySem.W.nsIn K mainGlobals "_law_by_sills" = some (some (.ref f_law_by_sills)))
    (l_law_by_sills : K.lookup f_law_by_sills = some ⟨oc_law_by_sills, od_law_by_sills, .func (PySem.W.fnOf "_law_by_sills" "_law_by_sills" (defArgs s_law_by_sills) (defBody s_law_by_sills) (defScope s_law_by_sills) .none kV_law_by_sills dc_law_by_sills pm_law_by_sills an_law_by_sills cd_law_by_sills ct_law_by_sills), sl_law_by_sills⟩)
    (co_law_by_sills : PySem.W.codeIn K cd_law_by_sills "_law_by_sills" = true)
    (k_law_by_sills : PySem.W.keepIn K (.ref f_law_by_sills) = true)
    (a_law_sills : PySem.W.nsIn K mainGlobals "_law_sills" = some (some (.ref f_law_sills)))
    (l_law_sills : K.lookup f_law_sills = some ⟨oc_law_sills, od_law_sills, .func (PySem.W.fnOf "_law_sills" "_law_sills" (defArgs s_law_sills) (defBody s_law_sills) (defScope s_law_sills) .none kV_law_sills dc_law_sills pm_law_sills an_law_sills cd_law_sills ct_law_sills), sl_law_sills⟩)
    (co_law_sills : PySem.W.codeIn K cd_law_sills "_law_sills" = true)
    (k_law_sills : PySem.W.keepIn K (.ref f_law_sills) = true)
    (a_law : PySem.W.nsIn K mainGlobals "law" = some (some (.ref f_law)))
    (l_law : K.lookup f_law = some ⟨oc_law, od_law, .func (PySem.W.fnOf "law" "law" (defArgs s_law) (defBody s_law) (defScope s_law) .none kV_law dc_law pm_law an_law cd_law ct_law), sl_law⟩)
    (co_law : PySem.W.codeIn K cd_law "law" = true)
    (k_law : PySem.W.keepIn K (.ref f_law) = true)
    (z_ValueError : PySem.W.nsIn K mainGlobals "ValueError" = some none)
    (z_bool : PySem.W.nsIn K mainGlobals "bool" = some none)
    (z_dict : PySem.W.nsIn K mainGlobals "dict" = some none)
    (z_int : PySem.W.nsIn K mainGlobals "int" = some none)
    (z_isinstance : PySem.W.nsIn K mainGlobals "isinstance" = some none)
    (z_len : PySem.W.nsIn K mainGlobals "len" = some none)
    (z_list : PySem.W.nsIn K mainGlobals "list" = some none)
    (z_range : PySem.W.nsIn K mainGlobals "range" = some none)
    (z_tuple : PySem.W.nsIn K mainGlobals "tuple" = some none)
    (nd : ([T_colder, T_burns, T_rested, T_stocked] : List Addr).Nodup)
    : Txt K mg ⟨c_Keeper, c_Ruled, c_Sills, c_StokeError, c_Ended, c_Full, c_NoBand, c_NoFailing, c_NoHold, c_NoKeeper, c_NoLine, c_NoMarks, c_NoName, c_NoNumber, c_NoOrder, c_NoRoom, c_NoShare, c_NoSky, c_NoState, c_NoStove, c_NoText, c_NoTurn, c_NotKept, c_NotOut, c_Shared, c_TooMany, c_Twice, T_colder, T_burns, T_rested, T_stocked⟩ :=
  ⟨PySem.W.mg_of X G y_Keeper,
    PySem.W.mg_of X G y_Ruled,
    PySem.W.mg_of X G y_Sills,
    PySem.W.mg_of X G y_StokeError,
    PySem.W.mg_of X G y_Ended,
    PySem.W.mg_of X G y_Full,
    PySem.W.mg_of X G y_NoBand,
    PySem.W.mg_of X G y_NoFailing,
    PySem.W.mg_of X G y_NoHold,
    PySem.W.mg_of X G y_NoKeeper,
    PySem.W.mg_of X G y_NoLine,
    PySem.W.mg_of X G y_NoMarks,
    PySem.W.mg_of X G y_NoName,
    PySem.W.mg_of X G y_NoNumber,
    PySem.W.mg_of X G y_NoOrder,
    PySem.W.mg_of X G y_NoRoom,
    PySem.W.mg_of X G y_NoShare,
    PySem.W.mg_of X G y_NoSky,
    PySem.W.mg_of X G y_NoState,
    PySem.W.mg_of X G y_NoStove,
    PySem.W.mg_of X G y_NoText,
    PySem.W.mg_of X G y_NoTurn,
    PySem.W.mg_of X G y_NotKept,
    PySem.W.mg_of X G y_NotOut,
    PySem.W.mg_of X G y_Shared,
    PySem.W.mg_of X G y_TooMany,
    PySem.W.mg_of X G y_Twice,
    y_x_NoKeeper,
    y_xga_NoKeeper,
    y_xgt_NoKeeper,
    y_xcl_NoKeeper,
    y_xmo_NoKeeper,
    y_xmb_NoKeeper,
    y_xis_NoKeeper,
    y_gs,
    y_tk,
    y_ex,
    y_k0,
    y_k2,
    y_k1,
    y_k3,
    y_in_Keeper,
    y_ic_Keeper,
    y_mo_Keeper,
    y_kk_Keeper,
    y_ic_Ruled,
    y_mo_Ruled,
    y_kk_Ruled,
    y_ic_Sills,
    y_mo_Sills,
    y_kk_Sills,
    ⟨pg_Keeper, hd_Keeper, po_Keeper, sa_Keeper⟩,
    ⟨mk_Keeper, kc_Keeper⟩,
    ⟨f_Keeper_minds, _, ⟨at_Keeper_minds, fn_Keeper_minds, k_Keeper_minds⟩, fund_mk (st := s_Keeper_minds) l_Keeper_minds co_Keeper_minds k_Keeper_minds⟩,
    ⟨f_Keeper_size, _, ⟨at_Keeper_size, fn_Keeper_size, k_Keeper_size⟩, fund_mk (st := s_Keeper_size) l_Keeper_size co_Keeper_size k_Keeper_size⟩,
    ⟨f_Keeper_wish, _, ⟨at_Keeper_wish, fn_Keeper_wish, k_Keeper_wish⟩, fund_mk (st := s_Keeper_wish) l_Keeper_wish co_Keeper_wish k_Keeper_wish⟩,
    ⟨f_Keeper_after, _, ⟨at_Keeper_after, fn_Keeper_after, k_Keeper_after⟩, fund_mk (st := s_Keeper_after) l_Keeper_after co_Keeper_after k_Keeper_after⟩,
    ⟨pg_Ruled, hd_Ruled, po_Ruled, sa_Ruled⟩,
    ⟨mk_Ruled, kc_Ruled⟩,
    na_Ruled_rows,
    ⟨f_Ruled___init__, _, ⟨at_Ruled___init__, fn_Ruled___init__, k_Ruled___init__⟩, fund_mk (st := s_Ruled___init__) l_Ruled___init__ co_Ruled___init__ k_Ruled___init__⟩,
    ⟨f_Ruled_wish, _, ⟨at_Ruled_wish, fn_Ruled_wish, k_Ruled_wish⟩, fund_mk (st := s_Ruled_wish) l_Ruled_wish co_Ruled_wish k_Ruled_wish⟩,
    ⟨f_Ruled_minds, _, ⟨at_Ruled_minds, fn_Ruled_minds, k_Ruled_minds⟩, fund_mk (st := s_Keeper_minds) l_Ruled_minds co_Ruled_minds k_Ruled_minds⟩,
    ⟨f_Ruled_size, _, ⟨at_Ruled_size, fn_Ruled_size, k_Ruled_size⟩, fund_mk (st := s_Keeper_size) l_Ruled_size co_Ruled_size k_Ruled_size⟩,
    ⟨f_Ruled_after, _, ⟨at_Ruled_after, fn_Ruled_after, k_Ruled_after⟩, fund_mk (st := s_Keeper_after) l_Ruled_after co_Ruled_after k_Ruled_after⟩,
    ⟨pg_Sills, hd_Sills, po_Sills, sa_Sills⟩,
    ⟨mk_Sills, kc_Sills⟩,
    na_Sills_sills,
    ⟨f_Sills___init__, _, ⟨at_Sills___init__, fn_Sills___init__, k_Sills___init__⟩, fund_mk (st := s_Sills___init__) l_Sills___init__ co_Sills___init__ k_Sills___init__⟩,
    ⟨f_Sills_wish, _, ⟨at_Sills_wish, fn_Sills_wish, k_Sills_wish⟩, fund_mk (st := s_Sills_wish) l_Sills_wish co_Sills_wish k_Sills_wish⟩,
    ⟨f_Sills_is_wished, _, ⟨at_Sills_is_wished, fn_Sills_is_wished, k_Sills_is_wished⟩, fund_mk (st := s_Sills_is_wished) l_Sills_is_wished co_Sills_is_wished k_Sills_is_wished⟩,
    ⟨f_Sills_minds, _, ⟨at_Sills_minds, fn_Sills_minds, k_Sills_minds⟩, fund_mk (st := s_Keeper_minds) l_Sills_minds co_Sills_minds k_Sills_minds⟩,
    ⟨f_Sills_size, _, ⟨at_Sills_size, fn_Sills_size, k_Sills_size⟩, fund_mk (st := s_Keeper_size) l_Sills_size co_Sills_size k_Sills_size⟩,
    ⟨f_Sills_after, _, ⟨at_Sills_after, fn_Sills_after, k_Sills_after⟩, fund_mk (st := s_Keeper_after) l_Sills_after co_Sills_after k_Sills_after⟩,
    nd,
    ⟨f_has_room, _, PySem.W.mg_of X G a_has_room, fun_mk (st := s_has_room) l_has_room co_has_room k_has_room⟩,
    ⟨f_with_room, _, PySem.W.mg_of X G a_with_room, fun_mk (st := s_with_room) l_with_room co_with_room k_with_room⟩,
    ⟨f_bits_of, _, PySem.W.mg_of X G a_bits_of, fun_mk (st := s_bits_of) l_bits_of co_bits_of k_bits_of⟩,
    ⟨f_colder, cc_colder, _, _, _, _, _, _, _, _, PySem.W.mg_of X G a_colder, l_colder, co_colder, k_colder, hh_colder⟩,
    ⟨f_burns, cc_burns, _, _, _, _, _, _, _, _, PySem.W.mg_of X G a_burns, l_burns, co_burns, k_burns, hh_burns⟩,
    ⟨f_rested, cc_rested, _, _, _, _, _, _, _, _, PySem.W.mg_of X G a_rested, l_rested, co_rested, k_rested, hh_rested⟩,
    ⟨f_stocked, cc_stocked, _, _, _, _, _, _, _, _, PySem.W.mg_of X G a_stocked, l_stocked, co_stocked, k_stocked, hh_stocked⟩,
    ⟨f_law_cell_at, _, PySem.W.mg_of X G a_law_cell_at, fun_mk (st := s_law_cell_at) l_law_cell_at co_law_cell_at k_law_cell_at⟩,
    ⟨f_law_whole, _, PySem.W.mg_of X G a_law_whole, fun_mk (st := s_law_whole) l_law_whole co_law_whole k_law_whole⟩,
    ⟨f_law_stream, _, PySem.W.mg_of X G a_law_stream, fun_mk (st := s_law_stream) l_law_stream co_law_stream k_law_stream⟩,
    ⟨f_law_in_bits, _, PySem.W.mg_of X G a_law_in_bits, fun_mk (st := s_law_in_bits) l_law_in_bits co_law_in_bits k_law_in_bits⟩,
    ⟨f_law_state, _, PySem.W.mg_of X G a_law_state, fun_mk (st := s_law_state) l_law_state co_law_state k_law_state⟩,
    ⟨f_law_leaf, _, PySem.W.mg_of X G a_law_leaf, fun_mk (st := s_law_leaf) l_law_leaf co_law_leaf k_law_leaf⟩,
    ⟨f_law_made_leaf, _, PySem.W.mg_of X G a_law_made_leaf, fun_mk (st := s_law_made_leaf) l_law_made_leaf co_law_made_leaf k_law_made_leaf⟩,
    ⟨f_law_holds, _, PySem.W.mg_of X G a_law_holds, fun_mk (st := s_law_holds) l_law_holds co_law_holds k_law_holds⟩,
    ⟨f_law_bits, _, PySem.W.mg_of X G a_law_bits, fun_mk (st := s_law_bits) l_law_bits co_law_bits k_law_bits⟩,
    ⟨f_law_is_plain, _, PySem.W.mg_of X G a_law_is_plain, fun_mk (st := s_law_is_plain) l_law_is_plain co_law_is_plain k_law_is_plain⟩,
    ⟨f_law_ruled, _, PySem.W.mg_of X G a_law_ruled, fun_mk (st := s_law_ruled) l_law_ruled co_law_ruled k_law_ruled⟩,
    ⟨f_law_sill, _, PySem.W.mg_of X G a_law_sill, fun_mk (st := s_law_sill) l_law_sill co_law_sill k_law_sill⟩,
    ⟨f_law_refused, _, PySem.W.mg_of X G a_law_refused, fun_mk (st := s_law_refused) l_law_refused co_law_refused k_law_refused⟩,
    ⟨f_law_by_sills, _, PySem.W.mg_of X G a_law_by_sills, fun_mk (st := s_law_by_sills) l_law_by_sills co_law_by_sills k_law_by_sills⟩,
    ⟨f_law_sills, _, PySem.W.mg_of X G a_law_sills, fun_mk (st := s_law_sills) l_law_sills co_law_sills k_law_sills⟩,
    ⟨f_law, _, PySem.W.mg_of X G a_law, fun_mk (st := s_law) l_law co_law k_law⟩,
    PySem.W.mg_none_of X G z_ValueError,
    PySem.W.mg_none_of X G z_bool,
    PySem.W.mg_none_of X G z_dict,
    PySem.W.mg_none_of X G z_int,
    PySem.W.mg_none_of X G z_isinstance,
    PySem.W.mg_none_of X G z_len,
    PySem.W.mg_none_of X G z_list,
    PySem.W.mg_none_of X G z_range,
    PySem.W.mg_none_of X G z_tuple⟩
section
variable {P : Program} {w : World} {K : PySem.W.Frag} {mg : Str → Option Value} {base : Heap} {Ad : Ads}
theorem ok_has_room (T : Txt K mg Ad) : Def P w K mg base "has_room" 1 ["bits", "room"] sp_has_room := by
  refine T.d_has_room.def sc_has_room (fun vs H Q E h => ?_) (fun _ _ _ _ _ _ us hl => match us, hl with | [_, _], _ => rfl) (fun f cdv A outer s H vs Q E hr h => ?_)
  · obtain ⟨n, r, rfl, _⟩ := h
    rfl
  · obtain ⟨n, r, rfl, k⟩ := h
    refine ⟨_, (pss_one (ps_ret (pe_cmpR op_eq (pe_op op_modL (pe_op op_shrL (pv 0) (pv 1)) pe_int) pe_int (nomark _)))), ?_⟩
    refine ⟨_, rfl, _, rfl, _, _, rfl, rfl, Int.natCast_nonneg _, fun s es => ⟨_, _, rfl, rfl, by decide, fun m _ _ em => ⟨rfl, ?_⟩⟩⟩
    rw [shr_odd n r es em]
    exact k
theorem ok_with_room (T : Txt K mg Ad) : Def P w K mg base "with_room" 1 ["bits", "room"] sp_with_room := by
  refine T.d_with_room.def sc_with_room (fun vs H Q E h => ?_) (fun _ _ _ _ _ _ us hl => match us, hl with | [_, _], _ => rfl) (fun f cdv A outer s H vs Q E hr h => ?_)
  · obtain ⟨n, r, rfl, _⟩ := h
    rfl
  · obtain ⟨n, r, rfl, hr1, k⟩ := h
    refine ⟨_, (pss_one (ps_ret (pe_op op_orL (pv 0) (pe_op op_shlL pe_int (pv 1))))), ?_⟩
    refine ⟨_, rfl, _, rfl, _, _, rfl, rfl, ⟨Int.natCast_nonneg _, by omega, by decide⟩, fun s es => ⟨_, _, rfl, rfl, fun m em => ?_⟩⟩
    have e1 : s = ((2 ^ r : Nat) : Int) := by rw [es, Int.toNat_natCast, Int.one_mul, Int.natCast_pow]; rfl
    rw [em, e1, bitOr_nat]
    exact k
def tabsOf (A : Ads) : List Addr := [A.T_colder, A.T_burns, A.T_rested, A.T_stocked]
theorem tabs_hd (T : Txt K mg Ad) : ∀ t ∈ tabsOf Ad, ∃ c, PySem.W.codeHdIn K c t = true := by
  have of : ∀ {x : Str} {st : Stmt} {t : Addr}, HasMk K mg x st t → ∃ c, PySem.W.codeHdIn K c t = true := fun h => by
    obtain ⟨_, cd, _, _, _, _, _, _, _, _, _, _, _, _, h⟩ := h
    exact ⟨cd, h⟩
  intro t ht
  unfold tabsOf at ht
  simp only [List.mem_cons, List.not_mem_nil, or_false] at ht
  rcases ht with rfl | rfl | rfl | rfl
  · exact of T.d_colder
  · exact of T.d_burns
  · exact of T.d_rested
  · exact of T.d_stocked
def TT (A : Ads) : List (Addr × Pos × Str) := [(A.T_colder, lamPos s_colder, "colder" ++ ".<locals>." ++ "<lambda>"), (A.T_burns, lamPos s_burns, "burns" ++ ".<locals>." ++ "<lambda>"), (A.T_rested, lamPos s_rested, "rested" ++ ".<locals>." ++ "<lambda>"), (A.T_stocked, lamPos s_stocked, "stocked" ++ ".<locals>." ++ "<lambda>")]
abbrev spM (A : Ads) (x : Str) (st : Stmt) (ps : List Str) : Sp := spMk (TT A) (x ++ ".<locals>." ++ "<lambda>") (lamArgs st) (lamBody st) (lamScope st) ps
theorem ok_colder (T : Txt K mg Ad) (B : Bs K mg base) : Def P w K mg base "colder" 1 ["room", "band"] (spM Ad "colder" s_colder ["room", "band"]) :=
  T.d_colder.def (clo := fun L => [("room", L + 1), ("band", L + 1 + 1)]) B rfl sc_colder (by decide +kernel) (by simp [TT]) (fun e he q => nodup_fst (l := TT Ad) T.nd he (by simp [TT]) q) (fun _ _ _ => rfl) (fun _ _ _ => rfl)
    (fun L y c h => by
      rcases List.mem_cons.mp h with h | h
      · cases h; rfl
      · cases List.mem_singleton.mp h; rfl)
    (fun L y h => by
      rcases List.mem_cons.mp h with rfl | h
      · exact ⟨_, rfl⟩
      · cases List.mem_singleton.mp h; exact ⟨_, rfl⟩) (fun _ _ _ _ _ _ us hl => match us, hl with | [_, _], _ => rfl)
theorem ok_burns (T : Txt K mg Ad) (B : Bs K mg base) : Def P w K mg base "burns" 2 ["room"] (spM Ad "burns" s_burns ["room"]) :=
  T.d_burns.def (clo := fun L => [("room", L + 1)]) B rfl sc_burns (by decide +kernel) (by simp [TT]) (fun e he q => nodup_fst (l := TT Ad) T.nd he (by simp [TT]) q) (fun _ _ _ => rfl) (fun _ _ _ => rfl)
    (fun L y c h => by cases List.mem_singleton.mp h; rfl) (fun L y h => by cases List.mem_singleton.mp h; exact ⟨_, rfl⟩) (fun _ _ _ _ _ _ us hl => match us, hl with | [_], _ => rfl)
theorem ok_rested (T : Txt K mg Ad) (B : Bs K mg base) : Def P w K mg base "rested" 1 ["room"] (spM Ad "rested" s_rested ["room"]) :=
  T.d_rested.def (clo := fun L => [("room", L + 1)]) B rfl sc_rested (by decide +kernel) (by simp [TT]) (fun e he q => nodup_fst (l := TT Ad) T.nd he (by simp [TT]) q) (fun _ _ _ => rfl) (fun _ _ _ => rfl)
    (fun L y c h => by cases List.mem_singleton.mp h; rfl) (fun L y h => by cases List.mem_singleton.mp h; exact ⟨_, rfl⟩) (fun _ _ _ _ _ _ us hl => match us, hl with | [_], _ => rfl)
theorem ok_stocked (T : Txt K mg Ad) (B : Bs K mg base) : Def P w K mg base "stocked" 1 ["wood"] (spM Ad "stocked" s_stocked ["wood"]) :=
  T.d_stocked.def (clo := fun L => [("wood", L + 1)]) B rfl sc_stocked (by decide +kernel) (by simp [TT]) (fun e he q => nodup_fst (l := TT Ad) T.nd he (by simp [TT]) q) (fun _ _ _ => rfl) (fun _ _ _ => rfl)
    (fun L y c h => by cases List.mem_singleton.mp h; rfl) (fun L y h => by cases List.mem_singleton.mp h; exact ⟨_, rfl⟩) (fun _ _ _ _ _ _ us hl => match us, hl with | [_], _ => rfl)
/-- a condition, as it was put together -/
inductive Cd where
  | colder (r : Nat) (b : Int) | burns (r : Nat) | rested (r : Nat) | stocked (n : Int)
def Cd.dep : Cd → Nat
  | _ => 1
/-- its rooms are there -/
def Cd.Ok (n : Nat) : Cd → Prop
  | .colder r _ => r < n
  | .burns r => r < n
  | .rested r => r < n
  | .stocked _ => True
def Cd.val (bs ws : List Int) (bu : Nat) (hp : Int) : Cd → Bool
  | .colder r b => decide (bs.getD r 0 < b)
  | .burns r => bu.testBit r
  | .rested r => decide (ws.getD r 0 = 0)
  | .stocked n => decide (n ≤ hp)
def LamAt (H : Hp) (f : Addr) (x : Str) (st : Stmt) (cl : List (Str × Addr)) (ps : List Str) (vs : List V) : Prop := Lam H f (x ++ ".<locals>." ++ "<lambda>") (lamArgs st) (lamBody st) (lamScope st) cl ps vs
/-- the function at f is the condition -/
def IsC (H : Hp) : Cd → Addr → Prop
  | .colder r b, f => ∃ cl, LamAt H f "colder" s_colder cl ["room", "band"] [natV r, .int b]
  | .burns r, f => ∃ cl, LamAt H f "burns" s_burns cl ["room"] [natV r]
  | .rested r, f => ∃ cl, LamAt H f "rested" s_rested cl ["room"] [natV r]
  | .stocked n, f => ∃ cl, LamAt H f "stocked" s_stocked cl ["wood"] [.int n]
theorem IsC.obj {H : Hp} : ∀ {t : Cd} {f : Addr}, IsC H t f → ∃ o fd, H f = some (Fz o) ∧ o.data = .func fd
  | .colder _ _, _, ⟨_, L⟩ => Lam.obj L
  | .burns _, _, ⟨_, L⟩ => Lam.obj L
  | .rested _, _, ⟨_, L⟩ => Lam.obj L
  | .stocked _, _, ⟨_, L⟩ => Lam.obj L
theorem IsC.mono {H H' : Hp} : ∀ {t : Cd} {f : Addr}, IsC H t f → (∀ b o, b ≤ f → H b = some (Fz o) → H' b = some (Fz o)) → IsC H' t f
  | .colder _ _, _, ⟨cl, L⟩, h => ⟨cl, Lam.mono L h⟩
  | .burns _, _, ⟨cl, L⟩, h => ⟨cl, Lam.mono L h⟩
  | .rested _, _, ⟨cl, L⟩, h => ⟨cl, Lam.mono L h⟩
  | .stocked _, _, ⟨cl, L⟩, h => ⟨cl, Lam.mono L h⟩
theorem IsC.gr {H H' : Hp} {t : Cd} {f : Addr} (h : IsC H t f) (g : Gr H H') : IsC H' t f := h.mono fun _ _ _ e => g.fz e
theorem IsC.wo {H : Hp} {t : Cd} {f : Addr} {cl : List (Str × Addr)} (h : IsC H t f) (hc : ∀ y c, (y, c) ∈ cl → f < c) : IsC (wo H (cl.map (·.2))) t f := h.mono fun b o hb e => by
  rw [wo_out]
  · exact e
  · intro hm
    obtain ⟨⟨y, c⟩, m, rfl⟩ := List.mem_map.mp hm
    exact absurd (Nat.lt_of_le_of_lt hb (hc y c m)) (Nat.lt_irrefl _)
theorem free_of {sc : Scope} {fr : List Str} (h : ∀ p ∈ sc.names, p.2 = .free → p.1 ∈ fr) : ∀ y, sc.names.lookup y = some .free → y ∈ fr := fun y e => h (y, .free) (PySem.mem_of_lookup e) rfl
theorem ls_colder : LamScope "state" ["room", "band"] (lamScope s_colder) := ⟨rfl, rfl, rfl, rfl, by decide +kernel, by decide +kernel, free_of (by decide +kernel)⟩
theorem ls_burns : LamScope "state" ["room"] (lamScope s_burns) := ⟨rfl, rfl, rfl, rfl, by decide +kernel, by decide +kernel, free_of (by decide +kernel)⟩
theorem ls_rested : LamScope "state" ["room"] (lamScope s_rested) := ⟨rfl, rfl, rfl, rfl, by decide +kernel, by decide +kernel, free_of (by decide +kernel)⟩
theorem ls_stocked : LamScope "state" ["wood"] (lamScope s_stocked) := ⟨rfl, rfl, rfl, rfl, by decide +kernel, by decide +kernel, free_of (by decide +kernel)⟩
theorem stAt_wo {H : Hp} {ps : Addr} {bs ws fs : List Int} {bu hp : Int} {cs : List Addr} (h : StAt H ps bs ws fs bu hp) (hc : ∀ c ∈ cs, ∃ o, H c = some (Fz o)) : StAt (wo H cs) ps bs ws fs bu hp := by
  obtain ⟨pb, pw, pf, h1, h2, h3, h4⟩ := h
  exact ⟨pb, pw, pf, wo_keep hc h1 tup_nfz, wo_keep hc h2 tup_nfz, wo_keep hc h3 tup_nfz, wo_keep hc h4 tup_nfz⟩
theorem at_int {l : List Int} {r n : Nat} (hl : l.length = n) (h : r < n) : atI (l.map V.int) (r : Int) = some (.int (l.getD r 0)) := by
  have h' : r < l.length := by omega
  rw [List.getD_eq_getElem?_getD, get_nat h']
  exact atI_nat (by rw [List.getElem?_map, get_nat h']; rfl)
theorem call_C (T : Txt K mg Ad) {bs ws fs : List Int} {bu : Nat} {hp : Int} {n : Nat} (lb : bs.length = n) (lw : ws.length = n) : ∀ (t : Cd) {H : Hp} {f ps : Addr} {A : Around} {outer : List Env} {s : Shared} {u : Value}, IsC H t f → t.Ok n → StAt H ps bs ws fs (bu : Int) hp → Room (t.dep + 1) A → Env0 P w K mg base A outer s H → RelV (.ref ps) u →
    codeAny (model P w) A (.call (.ref f) ⟨[u], []⟩) (CR CX0 outer P w H s (fun v H' => v = .bl (t.val bs ws bu hp) ∧ Same H H') E0) s
  | .colder r b, H, f, ps, A, outer, s, u, ⟨cl, L⟩, ok, st, hr, e0, ru => by
    refine run_lam (k := 1) hr e0 L ls_colder (fun _ _ _ _ _ => rfl) ru fun c' hr => ⟨_, (pe_cmpR op_lt (pe_ix ix_any (pe_ix ix_any (pv 0) pe_int (fun _ _ => rfl)) (pv 1) (fun _ _ => rfl)) (pv 2) (nomark _)), ?_⟩
    obtain ⟨pb, pw, pf, h1, h2, h3, h4⟩ := stAt_wo st (Lam.cs L)
    have ok : r < n := ok
    exact ⟨_, rfl, _, _, _, _, rfl, rfl, .inr (SqT.of h1), rfl, _, rfl, _, _, _, _, rfl, rfl, .inr (SqT.of h2), at_int lb ok, _, rfl, _, _, rfl, rfl, rfl, wi_same (Same.refl _)⟩
  | .burns r, H, f, ps, A, outer, s, u, ⟨cl, L⟩, ok, st, hr, e0, ru => by
    refine run_lam (k := 1) hr e0 L ls_burns (fun _ _ _ _ _ => rfl) ru fun c' hr => ⟨_, (pe_callD (ok_has_room T) (hr.mono (by decide)) (pa_cons (pe_ix ix_any (pv 0) pe_int (fun _ _ => rfl)) (pa_cons (pv 1) pa_nil))), ?_⟩
    obtain ⟨pb, pw, pf, h1, h2, h3, h4⟩ := stAt_wo st (Lam.cs L)
    exact ⟨_, rfl, _, _, _, _, rfl, rfl, .inr (SqT.of h1), rfl, _, rfl, bu, r, rfl, rfl, wi_same (Same.refl _)⟩
  | .rested r, H, f, ps, A, outer, s, u, ⟨cl, L⟩, ok, st, hr, e0, ru => by
    refine run_lam (k := 1) hr e0 L ls_rested (fun _ _ _ _ _ => rfl) ru fun c' hr => ⟨_, (pe_cmpR op_eq (pe_ix ix_any (pe_ix ix_any (pv 0) pe_int (fun _ _ => rfl)) (pv 1) (fun _ _ => rfl)) pe_int (nomark _)), ?_⟩
    obtain ⟨pb, pw, pf, h1, h2, h3, h4⟩ := stAt_wo st (Lam.cs L)
    have ok : r < n := ok
    exact ⟨_, rfl, _, _, _, _, rfl, rfl, .inr (SqT.of h1), rfl, _, rfl, _, _, _, _, rfl, rfl, .inr (SqT.of h3), at_int lw ok, rfl, congrArg V.bl (dec_int.trans rfl), wi_same (Same.refl _)⟩
  | .stocked r, H, f, ps, A, outer, s, u, ⟨cl, L⟩, ok, st, hr, e0, ru => by
    refine run_lam (k := 1) hr e0 L ls_stocked (fun _ _ _ _ _ => rfl) ru fun c' hr => ⟨_, (pe_cmpR op_ge (pe_ix ix_any (pv 0) pe_int (fun _ _ => rfl)) (pv 1) (nomark _)), ?_⟩
    obtain ⟨pb, pw, pf, h1, h2, h3, h4⟩ := stAt_wo st (Lam.cs L)
    exact ⟨_, rfl, _, _, _, _, rfl, rfl, .inr (SqT.of h1), rfl, _, rfl, _, _, rfl, rfl, rfl, wi_same (Same.refl _)⟩

theorem ok_law_cell_at (T : Txt K mg Ad) : Def P w K mg base "_law_cell_at" 1 ["_law_script", "_law_k"] (sp_cell_at K) := by
  refine T.d_law_cell_at.def sc_law_cell_at (fun vs H Q E h => ?_) (fun _ _ _ _ _ _ us hl => match us, hl with | [_, _], _ => rfl) (fun f cdv A outer s H vs Q E hr h => ?_)
  · obtain ⟨a, ns, z, rfl, _⟩ := h
    rfl
  · obtain ⟨a, ns, z, rfl, hS, hz, k⟩ := h
    refine ⟨_, (pss_cons (ps_if (pt_cmpR op_lt (pv 1) (pe_callB call_lenL (by rfl) T.n_len bt_len (pa_cons (pv 0) pa_nil)) (nomark _)) (pss_one (ps_ret (pe_ix ix_any (pv 0) (pv 1) (fun _ _ => rfl)))) pss_nil)
      (pss_one (ps_ret pe_int))), ?_⟩
    refine ⟨_, rfl, _, rfl, _, _, rfl, .inl hS, fun n en => ⟨_, _, rfl, rfl, _, rfl, ?_⟩⟩
    rw [List.length_map] at en
    refine ite3 (fun h => ?_) (fun h => ?_)
    · have hl : z.toNat < ns.length := by omega
      have e : (ns.map V.int)[z.toNat]? = some (.int (ns[z.toNat]'hl)) := by simp [hl]
      have e2 := atI_nat e
      rw [Int.toNat_of_nonneg hz] at e2
      refine ⟨_, rfl, _, rfl, _, _, _, _, rfl, rfl, .inl hS, e2, k _ (.inl (List.getElem_mem hl))⟩
    · exact k 0 (.inr rfl)

theorem ok_law_stream (T : Txt K mg Ad) : Def P w K mg base "_law_stream" 1 ["_law_cell", "_law_many"] sp_stream := by
  refine T.d_law_stream.def sc_law_stream (fun vs H Q E h => ?_) (fun _ _ _ _ _ _ us hl => match us, hl with | [_, _], _ => rfl) (fun f cdv A outer s H vs Q E hr h => ?_)
  · obtain ⟨c, m, rfl, _⟩ := h
    rfl
  · obtain ⟨c, m, rfl, hm, k⟩ := h
    refine ⟨_, (pss_cons (ps_set (i := 2) sc_law_stream.nd rfl (by first | exact Or.inl rfl | exact Or.inr rfl) (pe_lst pa_nil))
      (pss_cons (ps_set (i := 3) sc_law_stream.nd rfl (by first | exact Or.inl rfl | exact Or.inr rfl) (pe_op op_addL (pe_op op_modL (pv 0) pe_int) pe_int))
      (pss_cons (ps_for PassesOwn.never rfl (pi_range1 rfl T.n_range (pa_cons (pe_op op_addL (pv 1) pe_int) pa_nil)) (pg_name (i := 4) sc_law_stream.nd rfl (by first | exact Or.inl rfl | exact Or.inr rfl)) (pss_cons (ps_set (i := 3) sc_law_stream.nd rfl (by first | exact Or.inl rfl | exact Or.inr rfl) (pe_op op_modL (pe_op op_addL (pe_op op_addL (pe_op op_mulL (pv 3) pe_int) (pe_op op_mulL (pe_op op_mulL pe_int (pv 4)) (pv 4))) pe_int) pe_int))
      (pss_one (ps_expr (pe_bm PySem.F.plainAttrs_list PySem.F.slot_list_append PySem.F.type_list_append mt_append (pv 2) (pa_cons (pe_op op_fdivL (pv 3) pe_int) pa_nil))))))
      (pss_one (ps_ret (pe_slice sl_list (pv 2) (po_some pe_int) po_none)))))), ?_⟩
    refine ⟨sz0, fun pf hpf => ?_⟩
    refine ⟨_, rfl, _, _, rfl, rfl, by decide, fun q q0 q1 eq => ⟨_, _, rfl, rfl, fun nu enu => ?_⟩⟩
    refine ⟨_, rfl, _, _, rfl, rfl, fun y ey => ⟨_, rfl, by omega, by omega, ?_⟩⟩
    obtain rfl : y = ((m + 2 : Nat) : Int) := by rw [ey]; push_cast; rfl
    refine for_range (lo := 0) (n := m + 2) (fun i σ H' => Same H H' ∧ (∃ ns : List Int, H' pf = some (.lst (ns.map V.int)) ∧ ns.length = i ∧ ∀ z ∈ ns, 0 ≤ z ∧ z < 2 ^ 31) ∧ ∃ nu v, 0 ≤ nu ∧ nu ≤ 2147483647 ∧ σ = [some (.int c), some (natV m), some (.ref pf), some (.int nu), v])
      ⟨same_upd hpf, ⟨[], upd_same, rfl, nofun⟩, nu, none, by omega, by omega, rfl⟩ ?_ ?_
    · rintro i σ H' hi ⟨s1, ⟨ns, hp, ln, bn⟩, nu, v, n0, n1, rfl⟩
      refine ⟨_, rfl, _, _, rfl, rfl, ⟨31, 16, (show nu.natAbs < 2 ^ 31 by omega), bdd, by decide⟩, fun y1 e1 => ?_⟩
      refine ⟨_, rfl, _, _, rfl, rfl, ⟨13, 7, bdd, (show Int.natAbs _ < 2 ^ 7 by omega), by decide⟩, fun y2 e2 => ?_⟩
      have e2 : y2 = 7919 * (0 + (i : Int)) := e2
      refine ⟨_, rfl, _, _, rfl, rfl, ⟨20, 7, (show Int.natAbs _ < 2 ^ 20 by omega), (show Int.natAbs _ < 2 ^ 7 by omega), by decide⟩, fun y3 e3 => ⟨_, _, rfl, rfl, fun y4 e4 => ⟨_, _, rfl, rfl, fun y5 e5 => ⟨_, _, rfl, rfl, by decide, fun y6 g0 g1 e6 => ?_⟩⟩⟩⟩
      refine ⟨_, rfl, .inl ⟨rfl, _, SqL.of hp⟩, _, rfl, _, _, rfl, rfl, ⟨by decide, bdd⟩, fun y7 e7 => ?_⟩
      rw [Int.fdiv_eq_ediv_of_nonneg _ (by decide)] at e7
      have e7 : y7 = y6 / 3 := e7
      refine ⟨pf, _, _, rfl, rfl, hp, small1000 (by rw [List.length_map]; omega), s1.put hpf, ⟨ns ++ [y7], by rw [List.map_append]; exact upd_same, by rw [List.length_append, ln]; rfl, fun z hz => ?_⟩, y6, _, g0, by omega, rfl⟩
      rcases List.mem_append.mp hz with h | h
      · exact bn z h
      · rw [List.mem_singleton.mp h]; omega
    · rintro σ H' ⟨s1, ⟨ns, hp, ln, bn⟩, nu, v, n0, n1, rfl⟩
      refine ⟨_, rfl, 2, rfl, pf, _, rfl, SqL.of hp, fun p2 hp2 => ?_⟩
      rw [cut2 ln]
      exact k p2 (ns.drop 2) _ (s1.trans (same_upd hp2)) upd_same (by rw [List.length_drop]; omega) (fun z hz => bn z (List.mem_of_mem_drop hz))
theorem ok_law_whole (T : Txt K mg Ad) : Def P w K mg base "_law_whole" 1 ["_law_found"] sp_whole := by
  refine T.d_law_whole.def sc_law_whole (fun vs H Q E h => ?_) (fun _ _ _ _ _ _ us hl => match us, hl with | [_], _ => rfl) (fun f cdv A outer s H vs Q E hr h => ?_)
  · obtain ⟨z, rfl, _⟩ := h
    rfl
  · obtain ⟨z, rfl, k⟩ := h
    refine ⟨_, (pss_one (ps_ret (pe_and (pe_callB call_isinst (by rfl) T.n_isinstance bt_isinstance (pa_cons (pv 0) (pa_cons (pe_bltn (v := V.ty "int") rfl T.n_int bt_int rfl) pa_nil))) (pe_one (pe_not (pe_callB call_isinst (by rfl) T.n_isinstance bt_isinstance (pa_cons (pv 0) (pa_cons (pe_bltn (v := V.ty "bool") rfl T.n_bool bt_bool rfl) pa_nil)))))))), ?_⟩
    exact ⟨_, rfl, _, _, _, _, _, rfl, .int z, rfl, rfl, _, rfl, iteT ⟨_, rfl, _, _, _, _, _, rfl, .int z, rfl, kit_int_bool K, _, rfl, k⟩⟩
theorem ok_law_state (T : Txt K mg Ad) : Def P w K mg base "_law_state" 1 ["_law_xs", "_law_rooms"] (sp_state K) := by
  refine T.d_law_state.def sc_law_state (fun vs H Q E h => ?_) (fun _ _ _ _ _ _ us hl => match us, hl with | [_, _], _ => rfl) (fun f cdv A outer s H vs Q E hr h => ?_)
  · obtain ⟨p, ns, r, rfl, _⟩ := h
    rfl
  · obtain ⟨p, ns, r, rfl, hp, l6, bn, r1, r4, k⟩ := h
    refine ⟨_, (pss_cons (ps_set (i := 2) sc_law_state.nd rfl (by first | exact Or.inl rfl | exact Or.inr rfl) (pe_callTy call_tuple_of (by rfl) T.n_tuple bt_tuple (pa_cons (pe_lc ["_law_k"] ["_law_xs"] [0] (.cons ⟨rfl, rfl, .inl rfl⟩ .nil) rfl (pi_range1 rfl T.n_range (pa_cons (pv 1) pa_nil)) (fun _ _ _ _ _ => (pg_name (i := 0) (show (["_law_k", "_law_xs"] : List Str).Nodup by decide +kernel) rfl (by first | exact Or.inl rfl | exact Or.inr rfl))) (fun _ _ _ _ _ => pif_nil) (fun _ _ _ _ _ => (pe_op op_modL (pe_ix (ix_anyK (K := K) rfl) (pv 1) (pv 0) (fun _ _ => rfl)) pe_int)) rfl (by decide +kernel) (by decide +kernel) (by decide +kernel)) pa_nil)))
      (pss_cons (ps_set (i := 3) sc_law_state.nd rfl (by first | exact Or.inl rfl | exact Or.inr rfl) (pe_callTy call_tuple_of (by rfl) T.n_tuple bt_tuple (pa_cons (pe_lc ["_law_k"] ["_law_xs"] [0] (.cons ⟨rfl, rfl, .inl rfl⟩ .nil) rfl (pi_range1 rfl T.n_range (pa_cons (pv 1) pa_nil)) (fun _ _ _ _ _ => (pg_name (i := 0) (show (["_law_k", "_law_xs"] : List Str).Nodup by decide +kernel) rfl (by first | exact Or.inl rfl | exact Or.inr rfl))) (fun _ _ _ _ _ => pif_nil) (fun _ _ _ _ _ => (pe_op op_modL (pe_op op_fdivL (pe_ix (ix_anyK (K := K) rfl) (pv 1) (pv 0) (fun _ _ => rfl)) pe_int) pe_int)) rfl (by decide +kernel) (by decide +kernel) (by decide +kernel)) pa_nil)))
      (pss_cons (ps_set (i := 4) sc_law_state.nd rfl (by first | exact Or.inl rfl | exact Or.inr rfl) (pe_callTy call_tuple_of (by rfl) T.n_tuple bt_tuple (pa_cons (pe_lc ["_law_k"] ["_law_xs"] [0] (.cons ⟨rfl, rfl, .inl rfl⟩ .nil) rfl (pi_range1 rfl T.n_range (pa_cons (pv 1) pa_nil)) (fun _ _ _ _ _ => (pg_name (i := 0) (show (["_law_k", "_law_xs"] : List Str).Nodup by decide +kernel) rfl (by first | exact Or.inl rfl | exact Or.inr rfl))) (fun _ _ _ _ _ => pif_nil) (fun _ _ _ _ _ => (pe_op op_modL (pe_op op_fdivL (pe_ix (ix_anyK (K := K) rfl) (pv 1) (pv 0) (fun _ _ => rfl)) pe_int) pe_int)) rfl (by decide +kernel) (by decide +kernel) (by decide +kernel)) pa_nil)))
      (pss_one (ps_ret (pe_tup (pa_cons (pv 2) (pa_cons (pe_op op_modL (pe_op op_modL (pe_ix ix_any (pv 0) pe_int (fun _ _ => rfl)) pe_int) (pe_ix ix_any (pe_lst (pa_cons pe_int (pa_cons pe_int (pa_cons pe_int (pa_cons pe_int pa_nil))))) (pe_op op_subL (pv 1) pe_int) (fun _ _ => rfl))) (pa_cons (pv 3) (pa_cons (pv 4) (pa_cons (pe_op op_modL (pe_ix ix_any (pv 0) pe_int (fun _ _ => rfl)) pe_int) pa_nil))))))))))), ?_⟩
    have at_ : ∀ {j : Nat}, j < ns.length → atI (ns.map V.int) (0 + (j : Int)) = some (.int (ns.getD j 0)) := fun {j} h => by
      rw [Int.zero_add, List.getD_eq_getElem?_getD, get_nat h]; exact atI_nat (ints_get h)
    have bd : ∀ {j : Nat}, j < ns.length → 0 ≤ ns.getD j 0 ∧ ns.getD j 0 < 2 ^ 31 := fun {j} h => by
      rw [List.getD_eq_getElem?_getD, get_nat h]; exact bn _ (List.getElem_mem h)
    refine ⟨_, rfl, _, rfl, by omega, by omega, fun D1 hD1 => ?_⟩
    refine comp_range (lo := 0) (n := r) (fun i acc σ H' => Same H H' ∧ H' D1 = some (.lst acc) ∧ (∃ bs : List Int, acc = bs.map V.int ∧ bs.length = i ∧ ∀ z ∈ bs, 0 ≤ z ∧ z ≤ 6) ∧ ∃ v, σ = [v, some (.ref p)])
      ⟨same_upd hD1, upd_same, ⟨[], rfl, rfl, nofun⟩, none, rfl⟩ ?_ ?_
    · rintro i acc σ H' hi ⟨s1, hD, ⟨bs, rfl, lb, bb⟩, v, rfl⟩
      refine ⟨_, rfl, _, rfl, p, _, _, _, rfl, rfl, .inl (s1.seq hp), at_ (by omega), _, _, rfl, rfl, by decide, fun y g0 g1 ey => ?_⟩
      refine ⟨hD, small1000 (by rw [List.length_map]; omega), s1.put hD1, upd_same, ⟨bs ++ [y], by rw [List.map_append]; rfl, by rw [List.length_append, lb]; rfl, fun z hz => ?_⟩, _, rfl⟩
      rcases List.mem_append.mp hz with h | h
      · exact bb z h
      · rw [List.mem_singleton.mp h]; omega
    · rintro acc σ H1 ⟨s1, hD, ⟨bs, rfl, lb, bb⟩, v, rfl⟩
      refine ⟨D1, _, rfl, .inl ⟨SqL.of hD, fun pb hpb => ?_⟩⟩
      have t1 := s1.trans (same_upd (o := .tup (bs.map V.int)) hpb)
      have kb : (upd H1 pb (.tup (bs.map V.int))) pb = some (.tup (bs.map V.int)) := upd_same
      generalize upd H1 pb (.tup (bs.map V.int)) = H2 at t1 kb ⊢
      refine ⟨_, rfl, _, rfl, by omega, by omega, fun D2 hD2 => ?_⟩
      refine comp_range (lo := 0) (n := r) (fun i acc σ H' => Same H2 H' ∧ H' D2 = some (.lst acc) ∧ (∃ bs : List Int, acc = bs.map V.int ∧ bs.length = i) ∧ ∃ v, σ = [v, some (.ref p)])
        ⟨same_upd hD2, upd_same, ⟨[], rfl, rfl⟩, none, rfl⟩ ?_ ?_
      · rintro i acc σ H' hi ⟨s1, hD, ⟨bs, rfl, lb⟩, v, rfl⟩
        refine ⟨_, rfl, _, rfl, p, _, _, _, rfl, rfl, .inl ((t1.trans s1).seq hp), at_ (by omega), _, _, rfl, rfl, ⟨by decide, bdd⟩, fun y0 ey0 => ⟨_, _, rfl, rfl, by decide, fun y g0 g1 ey => ?_⟩⟩
        exact ⟨hD, small1000 (by rw [List.length_map]; omega), s1.put hD2, upd_same, ⟨bs ++ [y], by rw [List.map_append]; rfl, by rw [List.length_append, lb]; rfl⟩, _, rfl⟩
      · rintro acc σ H3 ⟨s3, hD, ⟨us, rfl, lu⟩, v, rfl⟩
        refine ⟨D2, _, rfl, .inl ⟨SqL.of hD, fun pw hpw => ?_⟩⟩
        have t3 := s3.trans (same_upd (o := .tup (us.map V.int)) hpw)
        have ku : (upd H3 pw (.tup (us.map V.int))) pw = some (.tup (us.map V.int)) := upd_same
        generalize upd H3 pw (.tup (us.map V.int)) = H4 at t3 ku ⊢
        refine ⟨_, rfl, _, rfl, by omega, by omega, fun D3 hD3 => ?_⟩
        refine comp_range (lo := 0) (n := r) (fun i acc σ H' => Same H4 H' ∧ H' D3 = some (.lst acc) ∧ (∃ bs : List Int, acc = bs.map V.int ∧ bs.length = i) ∧ ∃ v, σ = [v, some (.ref p)])
          ⟨same_upd hD3, upd_same, ⟨[], rfl, rfl⟩, none, rfl⟩ ?_ ?_
        · rintro i acc σ H' hi ⟨s1, hD, ⟨bs, rfl, lb⟩, v, rfl⟩
          refine ⟨_, rfl, _, rfl, p, _, _, _, rfl, rfl, .inl (((t1.trans t3).trans s1).seq hp), at_ (by omega), _, _, rfl, rfl, ⟨by decide, bdd⟩, fun y0 ey0 => ⟨_, _, rfl, rfl, by decide, fun y g0 g1 ey => ?_⟩⟩
          exact ⟨hD, small1000 (by rw [List.length_map]; omega), s1.put hD3, upd_same, ⟨bs ++ [y], by rw [List.map_append]; rfl, by rw [List.length_append, lb]; rfl⟩, _, rfl⟩
        · rintro acc σ H5 ⟨s5, hD, ⟨fs, rfl, lf⟩, v, rfl⟩
          refine ⟨D3, _, rfl, .inl ⟨SqL.of hD, fun pf hpf => ?_⟩⟩
          have t5 := s5.trans (same_upd (o := .tup (fs.map V.int)) hpf)
          have kf : (upd H5 pf (.tup (fs.map V.int))) pf = some (.tup (fs.map V.int)) := upd_same
          generalize upd H5 pf (.tup (fs.map V.int)) = H6 at t5 kf ⊢
          have T6 := (t1.trans t3).trans t5
          have hp6 := T6.seq hp
          have b4 := bd (j := 4) (by omega)
          have b5 := bd (j := 5) (by omega)
          have a4 : atI (ns.map V.int) 4 = some (.int (ns.getD 4 0)) := at_ (j := 4) (by omega)
          have a5 : atI (ns.map V.int) 5 = some (.int (ns.getD 5 0)) := at_ (j := 5) (by omega)
          refine ⟨_, rfl, _, rfl, p, _, _, _, rfl, rfl, .inl hp6, a4, _, _, rfl, rfl, by decide, fun y1 g0 g1 e1 => ⟨sz4, fun pl hpl => ?_⟩⟩
          have t7 := T6.trans (same_upd (o := .lst [.int 2, .int 4, .int 8, .int 16]) hpl)
          refine ⟨_, rfl, _, _, rfl, rfl, fun y2 e2 => ?_⟩
          have e2 : y2 = (r : Int) - 1 := e2
          obtain ⟨z, hz, ez⟩ := atI_ints (ns := [2, 4, 8, 16]) (r := y2) (by omega) (by show y2 < 4; omega)
          have hz : z = 2 ∨ z = 4 ∨ z = 8 ∨ z = 16 := by simpa using hz
          refine ⟨pl, _, _, _, rfl, rfl, .inl (SqL.of upd_same), ez, _, _, rfl, rfl, by omega, fun y3 h0 h1 e3 => ?_⟩
          refine ⟨_, rfl, _, rfl, _, rfl, p, _, _, _, rfl, rfl, .inl (t7.seq hp), a5, _, _, rfl, rfl, by decide, fun y4 i0 i1 e4 => ⟨Nat.le_of_ble_eq_true rfl, fun ps hps => ?_⟩⟩
          have t8 := same_upd (o := .tup [.ref pb, .int y3, .ref pw, .ref pf, .int y4]) hps
          have t78 := (same_upd (o := .lst [.int 2, .int 4, .int 8, .int 16]) hpl).trans t8
          exact k ps bs us fs y3 y4 _ (t7.trans t8) ⟨pb, pw, pf, upd_same, t78 _ _ (t5 _ _ (t3 _ _ kb)), t78 _ _ (t5 _ _ ku), t78 _ _ kf⟩ lb lu lf bb h0 (by omega) i0 (by omega)

def sp_in_bits : Sp := fun vs H Q _ => ∃ n r : Nat, vs = [natV n, natV r] ∧ r ≤ 4 ∧ Q (.bl (n.testBit r)) H
theorem ok_law_in_bits (T : Txt K mg Ad) : Def P w K mg base "_law_in_bits" 1 ["_law_bits_here", "_law_room"] sp_in_bits := by
  refine T.d_law_in_bits.def sc_law_in_bits (fun vs H Q E h => ?_) (fun _ _ _ _ _ _ us hl => match us, hl with | [_, _], _ => rfl) (fun f cdv A outer s H vs Q E hr h => ?_)
  · obtain ⟨n, r, rfl, _⟩ := h
    rfl
  · obtain ⟨n, r, rfl, r4, k⟩ := h
    refine ⟨_, (pss_cons (ps_for PassesOwn.never rfl (pi_range1 rfl T.n_range (pa_cons (pv 1) pa_nil)) (pg_name (i := 2) sc_law_in_bits.nd rfl (by first | exact Or.inl rfl | exact Or.inr rfl)) (pss_one (ps_set (i := 0) sc_law_in_bits.nd rfl (by first | exact Or.inl rfl | exact Or.inr rfl) (pe_op op_fdivL (pv 0) pe_int))))
      (pss_one (ps_ret (pe_cmpR op_eq (pe_op op_modL (pv 0) pe_int) pe_int (nomark _))))), ?_⟩
    refine ⟨_, rfl, _, rfl, by omega, by omega, ?_⟩
    refine for_range (lo := 0) (n := r) (fun i σ H' => H' = H ∧ ∃ v, σ = [some (natV (n / 2 ^ i)), some (natV r), v]) ⟨rfl, none, by rw [Nat.pow_zero, Nat.div_one]; rfl⟩ ?_ ?_
    · rintro i σ H' hi ⟨rfl, v, rfl⟩
      refine ⟨_, rfl, _, _, rfl, rfl, ⟨by decide, bdd⟩, fun y ey => ?_⟩
      have : y = ((n / 2 ^ (i + 1) : Nat) : Int) := by
        rw [ey, Nat.pow_succ, ← Nat.div_div_eq_div_mul]
        rw [Int.fdiv_eq_ediv_of_nonneg _ (by decide)]
        push_cast; rfl
      rw [this]
      exact ⟨rfl, _, rfl⟩
    · rintro σ H' ⟨rfl, v, rfl⟩
      refine ⟨_, rfl, _, _, rfl, rfl, by decide, fun y y0 y1 ey => ⟨rfl, ?_⟩⟩
      have : decide (V.int y = V.int 1) = n.testBit r := by
        rw [dec_int, Nat.testBit_eq_decide_div_mod_eq]
        show decide (y = 1) = _
        rw [decide_eq_decide]
        omega
      rw [this]; exact k
theorem ifT {p : Prop} [Decidable p] {A B : Prop} (h : p) (x : A) : if decide p = true then A else B := by rw [if_pos (decide_eq_true h)]; exact x
theorem ifF {p : Prop} [Decidable p] {A B : Prop} (h : ¬ p) (x : B) : if decide p = true then A else B := by rw [if_neg (by rw [decide_eq_false h]; exact Bool.false_ne_true)]; exact x
theorem ifE {p : Prop} [Decidable p] {A B : Prop} (h1 : p → A) (h2 : ¬ p → B) : if decide p = true then A else B := by
  by_cases h : p
  · exact ifT h (h1 h)
  · exact ifF h (h2 h)
/-- how the law writes a leaf -/
def Cd.lf : Cd → Option (List V)
  | .colder r b => some [.str "colder", natV r, .int b]
  | .burns r => some [.str "burns", natV r, .int 0]
  | .rested r => some [.str "rested", natV r, .int 0]
  | .stocked n => some [.str "stocked", .int 0, .int n]
def LeafAt (H : Hp) (p : Addr) (t : Cd) : Prop := ∃ xs, t.lf = some xs ∧ H p = some (.tup xs)
theorem LeafAt.gr {H H' : Hp} {p : Addr} {t : Cd} (h : LeafAt H p t) (g : Gr H H') : LeafAt H' p t := by
  obtain ⟨xs, a, b⟩ := h
  exact ⟨xs, a, g.tup b⟩
theorem Cd.dep_lf {t : Cd} {xs : List V} (h : t.lf = some xs) : t.dep = 1 := by
  cases t <;> first | rfl | cases h
def sp_made_leaf (A : Ads) : Sp := fun vs H Q _ => ∃ p t, vs = [.ref p] ∧ LeafAt H p t ∧ TabOk (TT A) H ∧ ∀ f H', Gr H H' → TabOk (TT A) H' → IsC H' t f → Q (.ref f) H'
theorem ok_law_made_leaf (T : Txt K mg Ad) (B : Bs K mg base) : Def P w K mg base "_law_made_leaf" 3 ["_law_leaf_here"] (sp_made_leaf Ad) := by
  refine T.d_law_made_leaf.def sc_law_made_leaf (fun vs H Q E h => ?_) (fun _ _ _ _ _ _ us hl => match us, hl with | [_], _ => rfl) (fun f cdv A outer s H vs Q E hr h => ?_)
  · obtain ⟨p, t, rfl, _⟩ := h
    rfl
  · obtain ⟨p, t, rfl, ⟨xs, ex, hp⟩, tab, k⟩ := h
    refine ⟨_, (pss_cons (ps_if (pt_cmpR op_eq (pe_ix ix_any (pv 0) pe_int (fun _ _ => rfl)) pe_str (nomark _)) (pss_one (ps_ret (pe_callD (ok_colder T B) (hr.mono (by decide)) (pa_cons (pe_ix ix_any (pv 0) pe_int (fun _ _ => rfl)) (pa_cons (pe_ix ix_any (pv 0) pe_int (fun _ _ => rfl)) pa_nil))))) pss_nil)
      (pss_cons (ps_if (pt_cmpR op_eq (pe_ix ix_any (pv 0) pe_int (fun _ _ => rfl)) pe_str (nomark _)) (pss_one (ps_ret (pe_callD (ok_burns T B) (hr.mono (by decide)) (pa_cons (pe_ix ix_any (pv 0) pe_int (fun _ _ => rfl)) pa_nil)))) pss_nil)
      (pss_cons (ps_if (pt_cmpR op_eq (pe_ix ix_any (pv 0) pe_int (fun _ _ => rfl)) pe_str (nomark _)) (pss_one (ps_ret (pe_callD (ok_rested T B) (hr.mono (by decide)) (pa_cons (pe_ix ix_any (pv 0) pe_int (fun _ _ => rfl)) pa_nil)))) pss_nil)
      (pss_one (ps_ret (pe_callD (ok_stocked T B) (hr.mono (by decide)) (pa_cons (pe_ix ix_any (pv 0) pe_int (fun _ _ => rfl)) pa_nil))))))), ?_⟩
    cases t with
    | colder r b =>
      cases ex
      refine ⟨_, rfl, _, _, _, _, rfl, rfl, .inr (SqT.of hp), rfl, rfl, _, rfl, ifT rfl ?_⟩
      exact ⟨_, rfl, _, _, _, _, rfl, rfl, .inr (SqT.of hp), rfl, _, rfl, _, _, _, _, rfl, rfl, .inr (SqT.of hp), rfl, rfl, tab, fun f cl H' g tb L _ _ => k f H' g tb ⟨cl, L⟩⟩
    | burns r =>
      cases ex
      refine ⟨_, rfl, _, _, _, _, rfl, rfl, .inr (SqT.of hp), rfl, rfl, _, rfl, ifF (by decide +kernel) ?_⟩
      refine ⟨_, rfl, _, _, _, _, rfl, rfl, .inr (SqT.of hp), rfl, rfl, _, rfl, ifT rfl ?_⟩
      exact ⟨_, rfl, _, _, _, _, rfl, rfl, .inr (SqT.of hp), rfl, rfl, tab, fun f cl H' g tb L _ _ => k f H' g tb ⟨cl, L⟩⟩
    | rested r =>
      cases ex
      refine ⟨_, rfl, _, _, _, _, rfl, rfl, .inr (SqT.of hp), rfl, rfl, _, rfl, ifF (by decide +kernel) ?_⟩
      refine ⟨_, rfl, _, _, _, _, rfl, rfl, .inr (SqT.of hp), rfl, rfl, _, rfl, ifF (by decide +kernel) ?_⟩
      refine ⟨_, rfl, _, _, _, _, rfl, rfl, .inr (SqT.of hp), rfl, rfl, _, rfl, ifT rfl ?_⟩
      exact ⟨_, rfl, _, _, _, _, rfl, rfl, .inr (SqT.of hp), rfl, rfl, tab, fun f cl H' g tb L _ _ => k f H' g tb ⟨cl, L⟩⟩
    | stocked r =>
      cases ex
      refine ⟨_, rfl, _, _, _, _, rfl, rfl, .inr (SqT.of hp), rfl, rfl, _, rfl, ifF (by decide +kernel) ?_⟩
      refine ⟨_, rfl, _, _, _, _, rfl, rfl, .inr (SqT.of hp), rfl, rfl, _, rfl, ifF (by decide +kernel) ?_⟩
      refine ⟨_, rfl, _, _, _, _, rfl, rfl, .inr (SqT.of hp), rfl, rfl, _, rfl, ifF (by decide +kernel) ?_⟩
      exact ⟨_, rfl, _, _, _, _, rfl, rfl, .inr (SqT.of hp), rfl, rfl, tab, fun f cl H' g tb L _ _ => k f H' g tb ⟨cl, L⟩⟩
def sp_holds : Sp := fun vs H Q _ => ∃ p ps t, ∃ bs ws fs : List Int, ∃ bu : Nat, ∃ hp, ∃ n : Nat, vs = [.ref p, .ref ps] ∧ LeafAt H p t ∧ StAt H ps bs ws fs (bu : Int) hp ∧ bs.length = n ∧ ws.length = n ∧ n ≤ 4 ∧ t.Ok n ∧ Q (.bl (t.val bs ws bu hp)) H
theorem ok_law_holds (T : Txt K mg Ad) : Def P w K mg base "_law_holds" 2 ["_law_leaf_here", "_law_state_here"] sp_holds := by
  refine T.d_law_holds.def sc_law_holds (fun vs H Q E h => ?_) (fun _ _ _ _ _ _ us hl => match us, hl with | [_, _], _ => rfl) (fun f cdv A outer s H vs Q E hr h => ?_)
  · obtain ⟨p, ps, t, bs, ws, fs, bu, hp, n, rfl, _⟩ := h
    rfl
  · obtain ⟨p, ps, t, bs, ws, fs, bu, hp, n, rfl, ⟨xs, ex, hl⟩, ⟨pb, pw, pf, h1, h2, h3, h4⟩, lb, lw, n4, ok, k⟩ := h
    refine ⟨_, (pss_cons (ps_if (pt_cmpR op_eq (pe_ix ix_any (pv 0) pe_int (fun _ _ => rfl)) pe_str (nomark _)) (pss_one (ps_ret (pe_cmpR op_lt (pe_ix ix_any (pe_ix ix_any (pv 1) pe_int (fun _ _ => rfl)) (pe_ix ix_any (pv 0) pe_int (fun _ _ => rfl)) (fun _ _ => rfl)) (pe_ix ix_any (pv 0) pe_int (fun _ _ => rfl)) (nomark _)))) pss_nil)
      (pss_cons (ps_if (pt_cmpR op_eq (pe_ix ix_any (pv 0) pe_int (fun _ _ => rfl)) pe_str (nomark _)) (pss_one (ps_ret (pe_callD (ok_law_in_bits T) (hr.mono (by decide)) (pa_cons (pe_ix ix_any (pv 1) pe_int (fun _ _ => rfl)) (pa_cons (pe_ix ix_any (pv 0) pe_int (fun _ _ => rfl)) pa_nil))))) pss_nil)
      (pss_cons (ps_if (pt_cmpR op_eq (pe_ix ix_any (pv 0) pe_int (fun _ _ => rfl)) pe_str (nomark _)) (pss_one (ps_ret (pe_cmpR op_eq (pe_ix ix_any (pe_ix ix_any (pv 1) pe_int (fun _ _ => rfl)) (pe_ix ix_any (pv 0) pe_int (fun _ _ => rfl)) (fun _ _ => rfl)) pe_int (nomark _)))) pss_nil)
      (pss_one (ps_ret (pe_cmpR op_ge (pe_ix ix_any (pv 1) pe_int (fun _ _ => rfl)) (pe_ix ix_any (pv 0) pe_int (fun _ _ => rfl)) (nomark _))))))), ?_⟩
    cases t with
    | colder r b =>
      cases ex
      have ok : r < n := ok
      refine ⟨_, rfl, _, _, _, _, rfl, rfl, .inr (SqT.of hl), rfl, rfl, _, rfl, ifT rfl ?_⟩
      exact ⟨_, rfl, _, _, _, _, rfl, rfl, .inr (SqT.of h1), rfl, _, rfl, _, _, _, _, rfl, rfl, .inr (SqT.of hl), rfl, _, _, _, _, rfl, rfl, .inr (SqT.of h2), at_int lb ok, _, rfl, _, _, _, _, rfl, rfl, .inr (SqT.of hl), rfl, _, _, rfl, rfl, k⟩
    | burns r =>
      cases ex
      have ok : r < n := ok
      refine ⟨_, rfl, _, _, _, _, rfl, rfl, .inr (SqT.of hl), rfl, rfl, _, rfl, ifF (by decide +kernel) ?_⟩
      refine ⟨_, rfl, _, _, _, _, rfl, rfl, .inr (SqT.of hl), rfl, rfl, _, rfl, ifT rfl ?_⟩
      exact ⟨_, rfl, _, _, _, _, rfl, rfl, .inr (SqT.of h1), rfl, _, rfl, _, _, _, _, rfl, rfl, .inr (SqT.of hl), rfl, bu, r, rfl, by omega, k⟩
    | rested r =>
      cases ex
      have ok : r < n := ok
      refine ⟨_, rfl, _, _, _, _, rfl, rfl, .inr (SqT.of hl), rfl, rfl, _, rfl, ifF (by decide +kernel) ?_⟩
      refine ⟨_, rfl, _, _, _, _, rfl, rfl, .inr (SqT.of hl), rfl, rfl, _, rfl, ifF (by decide +kernel) ?_⟩
      refine ⟨_, rfl, _, _, _, _, rfl, rfl, .inr (SqT.of hl), rfl, rfl, _, rfl, ifT rfl ?_⟩
      refine ⟨_, rfl, _, _, _, _, rfl, rfl, .inr (SqT.of h1), rfl, _, rfl, _, _, _, _, rfl, rfl, .inr (SqT.of hl), rfl, _, _, _, _, rfl, rfl, .inr (SqT.of h3), at_int lw ok, rfl, ?_⟩
      have : decide (V.int (ws.getD r 0) = V.int 0) = Cd.val bs ws bu hp (.rested r) := dec_int.trans rfl
      rw [this]; exact k
    | stocked r =>
      cases ex
      refine ⟨_, rfl, _, _, _, _, rfl, rfl, .inr (SqT.of hl), rfl, rfl, _, rfl, ifF (by decide +kernel) ?_⟩
      refine ⟨_, rfl, _, _, _, _, rfl, rfl, .inr (SqT.of hl), rfl, rfl, _, rfl, ifF (by decide +kernel) ?_⟩
      refine ⟨_, rfl, _, _, _, _, rfl, rfl, .inr (SqT.of hl), rfl, rfl, _, rfl, ifF (by decide +kernel) ?_⟩
      exact ⟨_, rfl, _, _, _, _, rfl, rfl, .inr (SqT.of h1), rfl, _, rfl, _, _, _, _, rfl, rfl, .inr (SqT.of hl), rfl, _, _, rfl, rfl, k⟩
def sp_leaf (K : PySem.W.Frag) : Sp := fun vs H Q _ => ∃ p, ∃ ns : List Int, ∃ r : Nat, vs = [.ref p, natV r] ∧ SqL K H p (ns.map V.int) ∧ 4 ≤ ns.length ∧ (∀ z ∈ ns, 0 ≤ z ∧ z < 2 ^ 31) ∧ 1 ≤ r ∧ r ≤ 4 ∧ ∀ pl t H', Same H H' → LeafAt H' pl t → t.Ok r → Q (.ref pl) H'
theorem ok_law_leaf (T : Txt K mg Ad) : Def P w K mg base "_law_leaf" 1 ["_law_xs", "_law_rooms"] (sp_leaf K) := by
  refine T.d_law_leaf.def sc_law_leaf (fun vs H Q E h => ?_) (fun _ _ _ _ _ _ us hl => match us, hl with | [_, _], _ => rfl) (fun f cdv A outer s H vs Q E hr h => ?_)
  · obtain ⟨p, ns, r, rfl, _⟩ := h
    rfl
  · obtain ⟨p, ns, r, rfl, hS, l4, bn, r1, r4, k⟩ := h
    refine ⟨_, (pss_cons (ps_set (i := 2) sc_law_leaf.nd rfl (by first | exact Or.inl rfl | exact Or.inr rfl) (pe_op op_modL (pe_ix ix_any (pv 0) pe_int (fun _ _ => rfl)) (pv 1)))
      (pss_cons (ps_set (i := 3) sc_law_leaf.nd rfl (by first | exact Or.inl rfl | exact Or.inr rfl) (pe_op op_modL (pe_op op_mulL (pe_ix ix_any (pv 0) pe_int (fun _ _ => rfl)) (pe_op op_addL (pe_op op_powL pe_int pe_int) pe_int)) (pe_op op_powL pe_int pe_int)))
      (pss_cons (ps_if (pt_cmpR op_eq (pe_op op_modL (pe_ix ix_any (pv 0) pe_int (fun _ _ => rfl)) pe_int) pe_int (nomark _)) (pss_one (ps_ret (pe_tup (pa_cons pe_str (pa_cons (pv 2) (pa_cons (pe_op op_subL (pe_ix ix_any (pe_lst (pa_cons (pe_op op_modL (pe_ix ix_any (pv 0) pe_int (fun _ _ => rfl)) pe_int) (pa_cons (pe_op op_modL (pe_ix ix_any (pv 0) pe_int (fun _ _ => rfl)) pe_int) (pa_cons (pv 3) pa_nil)))) (pe_op op_modL (pe_ix ix_any (pv 0) pe_int (fun _ _ => rfl)) pe_int) (fun _ _ => rfl)) (pe_op op_modL (pe_op op_fdivL (pe_ix ix_any (pv 0) pe_int (fun _ _ => rfl)) pe_int) pe_int)) pa_nil)))))) pss_nil)
      (pss_cons (ps_if (pt_cmpR op_eq (pe_op op_modL (pe_ix ix_any (pv 0) pe_int (fun _ _ => rfl)) pe_int) pe_int (nomark _)) (pss_one (ps_ret (pe_tup (pa_cons pe_str (pa_cons (pv 2) (pa_cons pe_int pa_nil)))))) pss_nil)
      (pss_cons (ps_if (pt_cmpR op_eq (pe_op op_modL (pe_ix ix_any (pv 0) pe_int (fun _ _ => rfl)) pe_int) pe_int (nomark _)) (pss_one (ps_ret (pe_tup (pa_cons pe_str (pa_cons (pv 2) (pa_cons pe_int pa_nil)))))) pss_nil)
      (pss_one (ps_ret (pe_tup (pa_cons pe_str (pa_cons pe_int (pa_cons (pe_op op_subL (pe_ix ix_any (pe_lst (pa_cons (pe_op op_modL (pe_ix ix_any (pv 0) pe_int (fun _ _ => rfl)) pe_int) (pa_cons (pe_op op_modL (pe_ix ix_any (pv 0) pe_int (fun _ _ => rfl)) pe_int) (pa_cons (pv 3) pa_nil)))) (pe_op op_modL (pe_ix ix_any (pv 0) pe_int (fun _ _ => rfl)) pe_int) (fun _ _ => rfl)) (pe_op op_modL (pe_op op_fdivL (pe_ix ix_any (pv 0) pe_int (fun _ _ => rfl)) pe_int) pe_int)) pa_nil))))))))))), ?_⟩
    have at_ : ∀ {j : Nat}, j < ns.length → atI (ns.map V.int) (j : Int) = some (.int (ns.getD j 0)) := fun {j} h => at_int rfl h
    have bd : ∀ {j : Nat}, j < ns.length → 0 ≤ ns.getD j 0 ∧ ns.getD j 0 < 2 ^ 31 := fun {j} h => by
      rw [List.getD_eq_getElem?_getD, get_nat h]; exact bn _ (List.getElem_mem h)
    have a0 := at_ (j := 0) (by omega)
    have a1 := at_ (j := 1) (by omega)
    have a2 := at_ (j := 2) (by omega)
    have a3 := at_ (j := 3) (by omega)
    have b0 := bd (j := 0) (by omega)
    have b1 := bd (j := 1) (by omega)
    have b2 := bd (j := 2) (by omega)
    have b3 := bd (j := 3) (by omega)
    generalize ns.getD 0 0 = x0 at a0 b0
    generalize ns.getD 1 0 = x1 at a1 b1
    generalize ns.getD 2 0 = x2 at a2 b2
    generalize ns.getD 3 0 = x3 at a3 b3
    refine ⟨_, rfl, _, _, _, _, rfl, rfl, .inl hS, a1, _, rfl, _, _, rfl, rfl, by omega, fun rm rm0 rm1 erm => ?_⟩
    obtain ⟨rn, rfl⟩ : ∃ rn : Nat, rm = (rn : Int) := ⟨rm.toNat, by omega⟩
    have rnr : rn < r := by omega
    refine ⟨_, rfl, _, _, _, _, rfl, rfl, .inl hS, a3, _, _, rfl, rfl, ⟨by decide, by decide, by decide⟩, fun y1 e1 => ⟨_, _, rfl, rfl, fun y2 e2 => ?_⟩⟩
    have e1 : y1 = 10000000000000000000000000000000000000000000000000 := e1
    refine ⟨_, _, rfl, rfl, ⟨31, 163, (show x3.natAbs < 2 ^ 31 by omega), (show y2.natAbs < 2 ^ 163 by omega), by decide⟩, fun y3 e3 => ?_⟩
    refine ⟨_, _, rfl, rfl, ⟨by decide, by decide, by decide⟩, fun y4 e4 => ?_⟩
    have e4 : y4 = 100000000000000000000000000000000000000000000000000000000000 := e4
    refine ⟨_, _, rfl, rfl, by omega, fun far f0 f1 ef => ?_⟩
    refine ⟨_, rfl, _, _, _, _, rfl, rfl, .inl hS, a0, _, _, rfl, rfl, by decide, fun w0 _ _ ew0 => ⟨rfl, _, rfl, ifE (fun _ => ?_) fun _ => ?_⟩⟩
    · skip
      refine ⟨_, rfl, _, rfl, _, _, _, _, rfl, rfl, .inl hS, a3, _, _, rfl, rfl, by decide, fun g1 _ _ eg1 => ⟨_, rfl, _, _, _, _, rfl, rfl, .inl hS, a3, _, _, rfl, rfl, by decide, fun g2 _ _ eg2 => ⟨_, rfl, sz3, fun pl hpl => ?_⟩⟩⟩
      have hS1 := (same_upd (o := .lst [.int g1, .int g2, .int far]) hpl).seq hS
      refine ⟨_, rfl, _, _, _, _, rfl, rfl, .inl hS1, a2, _, _, rfl, rfl, by decide, fun g3 g30 g31 eg3 => ?_⟩
      obtain ⟨z, _, ez⟩ := atI_ints (ns := [g1, g2, far]) g30 (by show g3 < 3; omega)
      refine ⟨pl, _, _, _, rfl, rfl, .inl (SqL.of upd_same), ez, _, rfl, _, _, _, _, rfl, rfl, .inl hS1, a2, _, _, rfl, rfl, ⟨by decide, bdd⟩, fun q1 eq1 => ⟨_, _, rfl, rfl, by decide, fun q2 q20 q21 eq2 => ⟨_, _, rfl, rfl, fun d ed => ⟨sz3, fun p2 hp2 => ?_⟩⟩⟩⟩
      exact k p2 (.colder rn d) _ ((same_upd hpl).trans (same_upd hp2)) ⟨_, rfl, upd_same⟩ rnr
    refine ⟨_, rfl, _, _, _, _, rfl, rfl, .inl hS, a0, _, _, rfl, rfl, by decide, fun w0 _ _ ew0 => ⟨rfl, _, rfl, ifE (fun _ => ?_) fun _ => ?_⟩⟩
    · exact ⟨_, rfl, sz3, fun p2 hp2 => k p2 (.burns rn) _ (same_upd hp2) ⟨_, rfl, upd_same⟩ rnr⟩
    refine ⟨_, rfl, _, _, _, _, rfl, rfl, .inl hS, a0, _, _, rfl, rfl, by decide, fun w0 _ _ ew0 => ⟨rfl, _, rfl, ifE (fun _ => ?_) fun _ => ?_⟩⟩
    · exact ⟨_, rfl, sz3, fun p2 hp2 => k p2 (.rested rn) _ (same_upd hp2) ⟨_, rfl, upd_same⟩ rnr⟩
    · skip
      refine ⟨_, rfl, _, _, _, _, rfl, rfl, .inl hS, a3, _, _, rfl, rfl, by decide, fun g1 _ _ eg1 => ⟨_, rfl, _, _, _, _, rfl, rfl, .inl hS, a3, _, _, rfl, rfl, by decide, fun g2 _ _ eg2 => ⟨_, rfl, sz3, fun pl hpl => ?_⟩⟩⟩
      have hS1 := (same_upd (o := .lst [.int g1, .int g2, .int far]) hpl).seq hS
      refine ⟨_, rfl, _, _, _, _, rfl, rfl, .inl hS1, a2, _, _, rfl, rfl, by decide, fun g3 g30 g31 eg3 => ?_⟩
      obtain ⟨z, _, ez⟩ := atI_ints (ns := [g1, g2, far]) g30 (by show g3 < 3; omega)
      refine ⟨pl, _, _, _, rfl, rfl, .inl (SqL.of upd_same), ez, _, rfl, _, _, _, _, rfl, rfl, .inl hS1, a2, _, _, rfl, rfl, ⟨by decide, bdd⟩, fun q1 eq1 => ⟨_, _, rfl, rfl, by decide, fun q2 q20 q21 eq2 => ⟨_, _, rfl, rfl, fun d ed => ⟨sz3, fun p2 hp2 => ?_⟩⟩⟩⟩
      exact k p2 (.stocked d) _ ((same_upd hpl).trans (same_upd hp2)) ⟨_, rfl, upd_same⟩ trivial

def sp_bits_of (K : PySem.W.Frag) : Sp := fun vs H Q _ => ∃ p l, vs = [.ref p] ∧ SqL K H p (l.map natV) ∧ (∀ r ∈ l, r ≤ 1000) ∧ Q (natV (orB l 0)) H
theorem ok_bits_of (T : Txt K mg Ad) : Def P w K mg base "bits_of" 2 ["rooms"] (sp_bits_of K) := by
  refine T.d_bits_of.def sc_bits_of (fun vs H Q E h => ?_) (fun _ _ _ _ _ _ us hl => match us, hl with | [_], _ => rfl) (fun f cdv A outer s H vs Q E hr h => ?_)
  · obtain ⟨p, l, rfl, _⟩ := h
    rfl
  · obtain ⟨p, l, rfl, hp, hl, k⟩ := h
    refine ⟨_, (pss_cons (ps_set (i := 1) sc_bits_of.nd rfl (by first | exact Or.inl rfl | exact Or.inr rfl) pe_int)
      (pss_cons (ps_for PassesOwn.never rfl (pi_list (pv 0)) (pg_name (i := 2) sc_bits_of.nd rfl (by first | exact Or.inl rfl | exact Or.inr rfl)) (pss_one (ps_set (i := 1) sc_bits_of.nd rfl (by first | exact Or.inl rfl | exact Or.inr rfl) (pe_callD (ok_with_room T) (hr.mono (by decide)) (pa_cons (pv 1) (pa_cons (pv 2) pa_nil))))))
      (pss_one (ps_ret (pv 1))))), ?_⟩
    refine ⟨_, rfl, p, rfl, ⟨_, hp⟩, ?_⟩
    refine for_list (K := K) (a := p) (xs := l.map natV) (fun i σ H' => H' = H ∧ ∃ v, σ = [some (.ref p), some (natV (orB (l.take i) 0)), v]) ⟨rfl, none, rfl⟩ (fun i σ H' _ e => by rw [e.1]; exact hp) ?_ ?_
    · rintro i x σ H' hx ⟨rfl, v, rfl⟩
      obtain ⟨r, er, rfl⟩ := get_natV hx
      exact ⟨_, rfl, _, rfl, _, r, rfl, hl r (List.mem_of_getElem? er), rfl, _, by rw [orB_next er]; rfl⟩
    · rintro σ H' ⟨rfl, v, rfl⟩
      rw [List.length_map, List.take_length]
      exact ⟨_, rfl, k⟩
def sp_one1 : Sp := fun vs H Q _ => ∃ v, vs = [v] ∧ Q (.int 1) H
def sp_nil3 : Sp := fun vs H Q _ => ∃ a b c, vs = [a, b, c] ∧ Q (.int 0) H
theorem okm_Keeper_minds (T : Txt K mg Ad) : MDef P w K mg base Ad.Keeper "minds" 1 ["self"] [] sp_one1 := by
  refine T.e_Keeper_minds.mdef sc_Keeper_minds (fun vs H Q E h => ?_) (fun _ _ _ _ _ _ us hl => match us, hl with | [_], _ => rfl) (fun f cdv A outer s H vs Q E hr h => ?_)
  · obtain ⟨v, rfl, _⟩ := h
    rfl
  · obtain ⟨v, rfl, k⟩ := h
    exact ⟨_, (pss_one (ps_ret pe_int)), k⟩
theorem okm_Keeper_size (T : Txt K mg Ad) : MDef P w K mg base Ad.Keeper "size" 1 ["self"] [] sp_one1 := by
  refine T.e_Keeper_size.mdef sc_Keeper_size (fun vs H Q E h => ?_) (fun _ _ _ _ _ _ us hl => match us, hl with | [_], _ => rfl) (fun f cdv A outer s H vs Q E hr h => ?_)
  · obtain ⟨v, rfl, _⟩ := h
    rfl
  · obtain ⟨v, rfl, k⟩ := h
    exact ⟨_, (pss_one (ps_ret pe_int)), k⟩
theorem okm_Keeper_wish (T : Txt K mg Ad) : MDef P w K mg base Ad.Keeper "wish" 1 ["self", "mind", "state"] [] sp_nil3 := by
  refine T.e_Keeper_wish.mdef sc_Keeper_wish (fun vs H Q E h => ?_) (fun _ _ _ _ _ _ us hl => match us, hl with | [_, _, _], _ => rfl) (fun f cdv A outer s H vs Q E hr h => ?_)
  · obtain ⟨a, b, c, rfl, _⟩ := h
    rfl
  · obtain ⟨a, b, c, rfl, k⟩ := h
    exact ⟨_, (pss_one (ps_ret pe_int)), k⟩
theorem okm_Keeper_after (T : Txt K mg Ad) : MDef P w K mg base Ad.Keeper "after" 1 ["self", "mind", "state"] [] sp_nil3 := by
  refine T.e_Keeper_after.mdef sc_Keeper_after (fun vs H Q E h => ?_) (fun _ _ _ _ _ _ us hl => match us, hl with | [_, _, _], _ => rfl) (fun f cdv A outer s H vs Q E hr h => ?_)
  · obtain ⟨a, b, c, rfl, _⟩ := h
    rfl
  · obtain ⟨a, b, c, rfl, k⟩ := h
    exact ⟨_, (pss_one (ps_ret pe_int)), k⟩
theorem okm_Ruled_minds (T : Txt K mg Ad) : MDef P w K mg base Ad.Ruled "minds" 1 ["self"] [] sp_one1 := by
  refine T.e_Ruled_minds.mdef sc_Keeper_minds (fun vs H Q E h => ?_) (fun _ _ _ _ _ _ us hl => match us, hl with | [_], _ => rfl) (fun f cdv A outer s H vs Q E hr h => ?_)
  · obtain ⟨v, rfl, _⟩ := h
    rfl
  · obtain ⟨v, rfl, k⟩ := h
    exact ⟨_, (pss_one (ps_ret pe_int)), k⟩
theorem okm_Ruled_size (T : Txt K mg Ad) : MDef P w K mg base Ad.Ruled "size" 1 ["self"] [] sp_one1 := by
  refine T.e_Ruled_size.mdef sc_Keeper_size (fun vs H Q E h => ?_) (fun _ _ _ _ _ _ us hl => match us, hl with | [_], _ => rfl) (fun f cdv A outer s H vs Q E hr h => ?_)
  · obtain ⟨v, rfl, _⟩ := h
    rfl
  · obtain ⟨v, rfl, k⟩ := h
    exact ⟨_, (pss_one (ps_ret pe_int)), k⟩
theorem okm_Ruled_after (T : Txt K mg Ad) : MDef P w K mg base Ad.Ruled "after" 1 ["self", "mind", "state"] [] sp_nil3 := by
  refine T.e_Ruled_after.mdef sc_Keeper_after (fun vs H Q E h => ?_) (fun _ _ _ _ _ _ us hl => match us, hl with | [_, _, _], _ => rfl) (fun f cdv A outer s H vs Q E hr h => ?_)
  · obtain ⟨a, b, c, rfl, _⟩ := h
    rfl
  · obtain ⟨a, b, c, rfl, k⟩ := h
    exact ⟨_, (pss_one (ps_ret pe_int)), k⟩
theorem okm_Sills_minds (T : Txt K mg Ad) : MDef P w K mg base Ad.Sills "minds" 1 ["self"] [] sp_one1 := by
  refine T.e_Sills_minds.mdef sc_Keeper_minds (fun vs H Q E h => ?_) (fun _ _ _ _ _ _ us hl => match us, hl with | [_], _ => rfl) (fun f cdv A outer s H vs Q E hr h => ?_)
  · obtain ⟨v, rfl, _⟩ := h
    rfl
  · obtain ⟨v, rfl, k⟩ := h
    exact ⟨_, (pss_one (ps_ret pe_int)), k⟩
theorem okm_Sills_size (T : Txt K mg Ad) : MDef P w K mg base Ad.Sills "size" 1 ["self"] [] sp_one1 := by
  refine T.e_Sills_size.mdef sc_Keeper_size (fun vs H Q E h => ?_) (fun _ _ _ _ _ _ us hl => match us, hl with | [_], _ => rfl) (fun f cdv A outer s H vs Q E hr h => ?_)
  · obtain ⟨v, rfl, _⟩ := h
    rfl
  · obtain ⟨v, rfl, k⟩ := h
    exact ⟨_, (pss_one (ps_ret pe_int)), k⟩
theorem okm_Sills_after (T : Txt K mg Ad) : MDef P w K mg base Ad.Sills "after" 1 ["self", "mind", "state"] [] sp_nil3 := by
  refine T.e_Sills_after.mdef sc_Keeper_after (fun vs H Q E h => ?_) (fun _ _ _ _ _ _ us hl => match us, hl with | [_, _, _], _ => rfl) (fun f cdv A outer s H vs Q E hr h => ?_)
  · obtain ⟨a, b, c, rfl, _⟩ := h
    rfl
  · obtain ⟨a, b, c, rfl, k⟩ := h
    exact ⟨_, (pss_one (ps_ret pe_int)), k⟩
/-- the rows at ts -/
def Rows (H : Hp) (ts : List Addr) (rows : List (Nat × Cd)) : Prop := ts.length = rows.length ∧ ∀ (i : Nat) (t : Addr) (rc : Nat × Cd), ts[i]? = some t → rows[i]? = some rc → ∃ f, H t = some (.tup [natV rc.1, .ref f]) ∧ IsC H rc.2 f
theorem Rows.gr {H H' : Hp} {ts : List Addr} {rows : List (Nat × Cd)} (h : Rows H ts rows) (g : Gr H H') : Rows H' ts rows :=
  ⟨h.1, fun i t rc a b => by obtain ⟨f, e, c⟩ := h.2 i t rc a b; exact ⟨f, g.tup e, c.gr g⟩⟩
def RuAt (C : Addr) (H : Hp) (a : Addr) (rows : List (Nat × Cd)) : Prop := ∃ dx pr ts, H a = some (.ins C dx [("rows", .ref pr)]) ∧ H dx = some (.own a) ∧ H pr = some (.lst (ts.map V.ref)) ∧ Rows H ts rows
def sp_rinit (C : Addr) (K : PySem.W.Frag) : Sp := fun vs H Q _ => ∃ x dx p xs, vs = [.ref x, .ref p] ∧ H x = some (.ins C dx []) ∧ H dx = some (.own x) ∧ SqL K H p xs ∧
  ∀ pr H', (∀ b o, H b = some o → b ≠ x → H' b = some o) → H' x = some (.ins C dx [("rows", .ref pr)]) → H pr = none → H' pr = some (.lst xs) → Q .non H'
theorem okm_Ruled___init__ (T : Txt K mg Ad) : MDef P w K mg base Ad.Ruled "__init__" 1 ["self", "rows"] [] (sp_rinit Ad.Ruled K) := by
  refine T.e_Ruled___init__.mdef sc_Ruled___init__ (fun vs H Q E h => ?_) (fun _ _ _ _ _ _ us hl => match us, hl with | [_, _], _ => rfl) (fun f cdv A outer s H vs Q E hr h => ?_)
  · obtain ⟨x, dx, p, xs, rfl, _⟩ := h
    rfl
  · obtain ⟨x, dx, p, xs, rfl, hx, hdx, hp, k⟩ := h
    refine ⟨_, (pss_one (ps_fld (pv 0) (pe_callTy call_list_of (by rfl) T.n_list bt_list (pa_cons (pv 1) pa_nil)) rfl)), ?_⟩
    refine ⟨_, rfl, p, _, rfl, .inl hp, fun pr hpr => ?_⟩
    have hxp : x ≠ pr := ne_of_none hx hpr
    refine ⟨_, rfl, x, _, dx, _, rfl, by rw [upd_ne hxp]; exact hx, T.cl_Ruled, T.na_Ruled_rows, lt1000 rfl, k pr _ (fun b o hb n => ?_) upd_same hpr ?_⟩
    · rw [upd_ne n, upd_ne (ne_of_none hb hpr)]; exact hb
    · rw [upd_ne hxp.symm]; exact upd_same
def rwish (rows : List (Nat × Cd)) (bs ws : List Int) (bu : Nat) (hp : Int) : List Nat := (rows.filter fun rc => rc.2.val bs ws bu hp).map (·.1)
def sp_rwish (C : Addr) : Sp := fun vs H Q _ => ∃ a m ps rows, ∃ bs ws fs : List Int, ∃ bu : Nat, ∃ hp, ∃ n : Nat, vs = [.ref a, m, .ref ps] ∧ RuAt C H a rows ∧ StAt H ps bs ws fs (bu : Int) hp ∧ bs.length = n ∧ ws.length = n ∧ n ≤ 4 ∧
  rows.length ≤ 10 ∧ (∀ rc ∈ rows, rc.1 < n ∧ rc.2.Ok n) ∧ ∀ H', Same H H' → Q (natV (orB (rwish rows bs ws bu hp) 0)) H'
theorem rwish_next {rows : List (Nat × Cd)} {bs ws : List Int} {bu : Nat} {hp : Int} {i : Nat} {rc : Nat × Cd} (h : rows[i]? = some rc) : (rwish (rows.take (i + 1)) bs ws bu hp).map natV = (rwish (rows.take i) bs ws bu hp).map natV ++ (if rc.2.val bs ws bu hp = true then [natV rc.1] else []) := by
  have : rows.take (i + 1) = rows.take i ++ [rc] := by rw [List.take_succ, h]; rfl
  unfold rwish
  rw [this, List.filter_append, List.map_append, List.map_append]
  by_cases q : rc.2.val bs ws bu hp = true <;> simp [q]
theorem okm_Ruled_wish (T : Txt K mg Ad) : MDef P w K mg base Ad.Ruled "wish" 5 ["self", "mind", "state"] [] (sp_rwish Ad.Ruled) := by
  refine T.e_Ruled_wish.mdef sc_Ruled_wish (fun vs H Q E h => ?_) (fun _ _ _ _ _ _ us hl => match us, hl with | [_, _, _], _ => rfl) (fun f cdv A outer s H vs Q E hr h => ?_)
  · obtain ⟨a, m, ps, rows, bs, ws, fs, bu, hp, n, rfl, _⟩ := h
    rfl
  · obtain ⟨a, m, ps, rows, bs, ws, fs, bu, hp, n, rfl, ⟨dx, pr, ts, ha, hdx, hpr, hrw⟩, sa, lb, lw, n4, l10, ok, k⟩ := h
    refine ⟨_, (pss_one (ps_ret (pe_callD (ok_bits_of T) (hr.mono (by decide)) (pa_cons (pe_lc ["room", "condition"] ["state"] [2] (.cons ⟨rfl, rfl, .inl rfl⟩ .nil) rfl (pi_list (pe_fld (pv 0) rfl)) (fun _ _ _ _ _ => (pg_tupK (K := K) (n := 2) rfl rfl (pgs_cons (pg_name (i := 0) (show (["room", "condition", "state"] : List Str).Nodup by decide +kernel) rfl (by first | exact Or.inl rfl | exact Or.inr rfl)) (pgs_cons (pg_name (i := 1) (show (["room", "condition", "state"] : List Str).Nodup by decide +kernel) rfl (by first | exact Or.inl rfl | exact Or.inr rfl)) pgs_nil)))) (fun _ _ _ _ _ => (pif_one (pt_val (pe_callVK (P := P) (w := w) (K := K) (mg := mg) (base := base) (k := 4) (i := 1) ⟨rfl, rfl, rfl, rfl, rfl⟩ hr rfl (by first | exact Or.inl rfl | exact Or.inr (Or.inl rfl) | exact Or.inr (Or.inr rfl)) (pa_cons (pv 2) pa_nil))))) (fun _ _ _ _ _ => (pv 0)) rfl (by decide +kernel) (by decide +kernel) (by decide +kernel)) pa_nil)))), ?_⟩
    refine ⟨_, rfl, a, _, dx, _, _, rfl, ha, T.cl_Ruled, T.na_Ruled_rows, rfl, pr, rfl, ⟨_, SqL.of hpr⟩, fun D hD => ?_⟩
    have t0 := same_upd (o := .lst []) hD
    refine comp_list (K := K) (a := pr) (xs := ts.map V.ref) (fun i acc σ H' => Same H H' ∧ H' D = some (.lst acc) ∧ acc = (rwish (rows.take i) bs ws bu hp).map natV ∧ ∃ v1 v2 : Option V, σ = [v1, v2, some (.ref ps)])
      ⟨t0, upd_same, rfl, none, none, rfl⟩ (fun i acc σ H' _ e => SqL.of (e.1 _ _ hpr)) ?_ ?_
    · rintro i x acc σ H' hx ⟨s1, hD1, rfl, v1, v2, rfl⟩
      obtain ⟨t, ht, rfl⟩ : ∃ t, ts[i]? = some t ∧ x = .ref t := by
        rw [List.getElem?_map] at hx
        cases e : ts[i]? with
        | none => rw [e] at hx; cases hx
        | some t => rw [e] at hx; cases hx; exact ⟨t, rfl, rfl⟩
      have hi : i < rows.length := by
        rw [← hrw.1]
        exact (List.getElem?_eq_some_iff.mp ht).1
      obtain ⟨rc, hrc⟩ : ∃ rc, rows[i]? = some rc := ⟨_, List.getElem?_eq_getElem hi⟩
      obtain ⟨fc, htp, hC⟩ := hrw.2 i t rc ht hrc
      obtain ⟨okr, okc⟩ := ok rc (List.mem_of_getElem? hrc)
      have hC' := hC.gr (.of s1)
      obtain ⟨o1, fd1, e1, d1⟩ := hC'.obj
      refine ⟨t, _, rfl, SqT.of (s1 _ _ htp), rfl, _, _, rfl, _, _, rfl, rfl, ?_⟩
      refine ⟨fc, o1, fd1, rfl, d1, ⟨_, rfl, e1, fun A' st' s' us hr' e0' rv => ?_⟩⟩
      match us, rv with
      | [u'], .cons ru' .nil =>
        refine codeAny_mono (call_C T lb lw rc.2 hC' okc (sa.same s1) (hr'.mono (by show 1 + 1 ≤ 4; decide)) e0' ru') fun r s2 h => CR.mono (fun v H1 hv2 => ?_) h
        obtain ⟨rfl, sm⟩ := hv2
        have s2 := s1.trans sm
        have ln : ((rwish (rows.take i) bs ws bu hp).map natV).length ≤ 10 := by
          unfold rwish
          rw [List.length_map, List.length_map]
          exact Nat.le_trans (List.length_filter_le _ _) (by rw [List.length_take]; omega)
        have nx := rwish_next (bs := bs) (ws := ws) (bu := bu) (hp := hp) hrc
        refine ⟨_, rfl, ?_⟩
        cases q : rc.2.val bs ws bu hp with
        | true =>
          rw [q, if_pos rfl] at nx
          refine iteT ⟨_, rfl, sm _ _ hD1, small1000 (by omega), s2.put hD, upd_same, nx.symm, _, _, rfl⟩
        | false =>
          rw [q, if_neg Bool.false_ne_true, List.append_nil] at nx
          refine iteF ⟨s2, sm _ _ hD1, nx.symm, _, _, rfl⟩
    · rintro acc σ H' ⟨s1, hD1, rfl, v1, v2, rfl⟩
      rw [List.length_map, hrw.1, List.take_length] at hD1
      refine ⟨D, _, rfl, SqL.of hD1, fun r hr => ?_, k H' s1⟩
      obtain ⟨rc, hm, rfl⟩ := List.mem_map.mp hr
      have := (ok rc (List.mem_filter.mp hm).1).1
      omega
def pairsV (H : Hp) (kvs : List (Key × V)) (S : List (Nat × Int × Int)) : Prop := kvs.length = S.length ∧ ∀ (i : Nat) (kv : Key × V) (r : Nat × Int × Int), kvs[i]? = some kv → S[i]? = some r → kv.1 = .inl (r.1 : Int) ∧ ∃ p, kv.2 = .ref p ∧ H p = some (.tup [.int r.2.1, .int r.2.2])
theorem pairsV.gr {H H' : Hp} {kvs : List (Key × V)} {S : List (Nat × Int × Int)} (h : pairsV H kvs S) (g : ∀ b xs, H b = some (.tup xs) → H' b = some (.tup xs)) : pairsV H' kvs S :=
  ⟨h.1, fun i kv r a b => by obtain ⟨e, p, e2, hp⟩ := h.2 i kv r a b; exact ⟨e, p, e2, g _ _ hp⟩⟩
theorem upd_id {H : Hp} {a : Addr} {o : HO} (h : H a = some o) : upd H a o = H := by
  funext b; unfold upd; split
  · subst_vars; exact h.symm
  · rfl
/-- the dict of sills at d -/
def SlD (H : Hp) (d : Addr) (kvs : List (Key × V)) (S : List (Nat × Int × Int)) : Prop := H d = some (.dK kvs) ∧ pairsV H kvs S
def sp_sinit (C : Addr) : Sp := fun vs H Q _ => ∃ x dx p kvs S, vs = [.ref x, .ref p] ∧ H x = some (.ins C dx []) ∧ H dx = some (.own x) ∧ SlD H p kvs S ∧ (∀ r ∈ S, r.2.1 ≤ r.2.2) ∧
  ∀ pd H', (∀ b o, H b = some o → b ≠ x → H' b = some o) → H' x = some (.ins C dx [("sills", .ref pd)]) → H pd = none → H' pd = some (.dK kvs) → Q .non H'
theorem okm_Sills___init__ (T : Txt K mg Ad) : MDef P w K mg base Ad.Sills "__init__" 1 ["self", "sills"] [] (sp_sinit Ad.Sills) := by
  refine T.e_Sills___init__.mdef sc_Sills___init__ (fun vs H Q E h => ?_) (fun _ _ _ _ _ _ us hl => match us, hl with | [_, _], _ => rfl) (fun f cdv A outer s H vs Q E hr h => ?_)
  · obtain ⟨x, dx, p, kvs, S, rfl, _⟩ := h
    rfl
  · obtain ⟨x, dx, p, kvs, S, rfl, hx, hdx, ⟨hp, hv⟩, ok, k⟩ := h
    refine ⟨_, (pss_cons (ps_thaw (ps_for PassesOwn.never rfl (pi_vals (pv 1)) (pg_tupK (K := K) (n := 2) rfl rfl (pgs_cons (pg_name (i := 2) sc_Sills___init__.nd rfl (by first | exact Or.inl rfl | exact Or.inr rfl)) (pgs_cons (pg_name (i := 3) sc_Sills___init__.nd rfl (by first | exact Or.inl rfl | exact Or.inr rfl)) pgs_nil))) (pss_one (ps_if (pt_cmpR op_gt (pv 2) (pv 3) (nomark _)) (pss_one ps_never) pss_nil))))
      (pss_one (ps_fld (pv 0) (pe_callTy call_dict_ofK (by rfl) T.n_dict bt_dict (pa_cons (pv 1) pa_nil)) rfl))), ?_⟩
    refine ⟨p, kvs, hp, fun ob => ⟨_, rfl, p, ob, kvs, rfl, upd_same, ?_⟩⟩
    refine for_vals (fun i σ H' => H' = upd H p (Fd ob kvs) ∧ ∃ v1 v2 : Option V, σ = [some (.ref x), some (.ref p), v1, v2]) ⟨rfl, none, none, rfl⟩ (fun i σ H' _ e => by rw [e.1]; exact upd_same) ?_ ?_
    · rintro i kv σ H' hk ⟨rfl, v1, v2, rfl⟩
      obtain ⟨r, hr2⟩ : ∃ r, S[i]? = some r := ⟨_, List.getElem?_eq_getElem (by rw [← hv.1]; exact (List.getElem?_eq_some_iff.mp hk).1)⟩
      obtain ⟨e, t, e2, ht⟩ := hv.2 i kv r hk hr2
      have := ok r (List.mem_of_getElem? hr2)
      have tp : t ≠ p := ne_of ht hp nofun
      refine ⟨t, _, e2, SqT.of (by rw [upd_ne tp]; exact ht), rfl, _, _, rfl, _, _, rfl, rfl, ?_⟩
      refine ⟨_, rfl, _, rfl, _, _, rfl, rfl, _, rfl, iteN (by omega) ⟨rfl, _, _, rfl⟩⟩
    · rintro σ H' ⟨rfl, v1, v2, rfl⟩
      refine ⟨upd_same, ?_⟩
      rw [upd_upd, upd_id hp]
      refine ⟨_, rfl, p, kvs, rfl, .inl hp, fun pd hpd => ?_⟩
      have hxp : x ≠ pd := ne_of_none hx hpd
      refine ⟨_, rfl, x, _, dx, _, rfl, by rw [upd_ne hxp]; exact hx, T.cl_Sills, T.na_Sills_sills, lt1000 rfl, k pd _ (fun b o hb n => ?_) upd_same hpd ?_⟩
      · rw [upd_ne n, upd_ne (ne_of_none hb hpd)]; exact hb
      · rw [upd_ne hxp.symm]; exact upd_same
def sp_sinitX (C N : Addr) : Sp := fun vs H Q E => ∃ x dx p kvs S, vs = [.ref x, .ref p] ∧ H x = some (.ins C dx []) ∧ H dx = some (.own x) ∧ SlD H p kvs S ∧ (∃ r ∈ S, r.2.2 < r.2.1) ∧
  ∀ H', (∀ b o, H b = some o → b ≠ x → b ≠ p → H' b = some o) → E (.ref N) none H'
theorem okx_Sills___init__ (T : Txt K mg Ad) : MDefX P w K mg base Ad.Sills "__init__" 1 ["self", "sills"] [] (sp_sinitX Ad.Sills Ad.NoKeeper) := by
  refine T.e_Sills___init__.mdefX sc_Sills___init__ (fun vs H Q E h => ?_) (fun _ _ _ _ _ _ us hl => match us, hl with | [_, _], _ => rfl) (fun f cdv A outer s H vs Q E hr h => ?_)
  · obtain ⟨x, dx, p, kvs, S, rfl, _⟩ := h
    rfl
  · obtain ⟨x, dx, p, kvs, S, rfl, hx, hdx, ⟨hp, hv⟩, ⟨bad, hb, hlt⟩, k⟩ := h
    refine ⟨_, (pss_cons (ps_thaw (ps_for PassesOwn.leaving rfl (pi_vals (pv 1)) (pg_tupK (K := K) (n := 2) rfl rfl (pgs_cons (pg_name (i := 2) sc_Sills___init__.nd rfl (by first | exact Or.inl rfl | exact Or.inr rfl)) (pgs_cons (pg_name (i := 3) sc_Sills___init__.nd rfl (by first | exact Or.inl rfl | exact Or.inr rfl)) pgs_nil))) (pss_one (ps_if (pt_cmpR op_gt (pv 2) (pv 3) (nomark _)) (pss_one (ps_raise rfl PySem.F.excBase_ValueError T.m_NoKeeper T.x_NoKeeper (thr_of fun _ _ _ z => z) (pa_cons pe_str pa_nil))) pss_nil))))
      (pss_one (ps_fld (pv 0) (pe_callTy call_dict_ofK (by rfl) T.n_dict bt_dict (pa_cons (pv 1) pa_nil)) rfl))), ?_⟩
    refine ⟨p, kvs, hp, fun ob => ⟨_, rfl, p, ob, kvs, rfl, upd_same, ?_⟩⟩
    refine for_vals (fun i σ H' => H' = upd H p (Fd ob kvs) ∧ (∀ r ∈ S.take i, r.2.1 ≤ r.2.2) ∧ ∃ v1 v2 : Option V, σ = [some (.ref x), some (.ref p), v1, v2]) ⟨rfl, by simp, none, none, rfl⟩ (fun i σ H' _ e => by rw [e.1]; exact upd_same) ?_ ?_
    · rintro i kv σ H' hk ⟨rfl, al, v1, v2, rfl⟩
      obtain ⟨r, hr2⟩ : ∃ r, S[i]? = some r := ⟨_, List.getElem?_eq_getElem (by rw [← hv.1]; exact (List.getElem?_eq_some_iff.mp hk).1)⟩
      obtain ⟨e, t, e2, ht⟩ := hv.2 i kv r hk hr2
      have tp : t ≠ p := ne_of ht hp nofun
      refine ⟨t, _, e2, SqT.of (by rw [upd_ne tp]; exact ht), rfl, _, _, rfl, _, _, rfl, rfl, ?_⟩
      refine ⟨_, rfl, _, rfl, _, _, rfl, rfl, _, rfl, ite3 (fun _ => ?_) fun hn => ⟨rfl, fun r' hr' => ?_, _, _, rfl⟩⟩
      · exact ⟨sz1, k _ fun b o hb n1 n2 => by rw [upd_ne n2]; exact hb⟩
      · have : S.take (i + 1) = S.take i ++ [r] := by rw [List.take_succ, hr2]; rfl
        rw [this] at hr'
        rcases List.mem_append.mp hr' with h | h
        · exact al r' h
        · rw [List.mem_singleton.mp h]; omega
    · rintro σ H' ⟨rfl, al, v1, v2, rfl⟩
      rw [hv.1, List.take_length] at al
      have := al bad hb
      omega
def sillV (lo hi : Int) (bs : List Int) (bu r : Nat) : Bool := decide (bs.getD r 0 < if bu.testBit r = true then hi else lo)
def sp_iswished (C : Addr) : Sp := fun vs H Q _ => ∃ a dx pd kvs, ∃ r : Nat, ∃ p ps lo hi, ∃ bs ws fs : List Int, ∃ bu : Nat, ∃ hp, ∃ n : Nat, vs = [.ref a, natV r, .ref ps] ∧ H a = some (.ins C dx [("sills", .ref pd)]) ∧ Rd H pd (.dK kvs) ∧ valV kvs (.inl (r : Int)) = some (.ref p) ∧ H p = some (.tup [.int lo, .int hi]) ∧
  StAt H ps bs ws fs (bu : Int) hp ∧ bs.length = n ∧ r < n ∧ n ≤ 4 ∧ Q (.bl (sillV lo hi bs bu r)) H
theorem okm_Sills_is_wished (T : Txt K mg Ad) : MDef P w K mg base Ad.Sills "is_wished" 2 ["self", "room", "state"] [] (sp_iswished Ad.Sills) := by
  refine T.e_Sills_is_wished.mdef sc_Sills_is_wished (fun vs H Q E h => ?_) (fun _ _ _ _ _ _ us hl => match us, hl with | [_, _, _], _ => rfl) (fun f cdv A outer s H vs Q E hr h => ?_)
  · obtain ⟨a, dx, pd, kvs, r, p, ps, lo, hi, bs, ws, fs, bu, hp, n, rfl, _⟩ := h
    rfl
  · obtain ⟨a, dx, pd, kvs, r, p, ps, lo, hi, bs, ws, fs, bu, hp, n, rfl, ha, hpd, hv, hpp, ⟨pb, pw, pf, h1, h2, h3, h4⟩, lb, rn, n4, k⟩ := h
    refine ⟨_, (pss_cons (ps_asg (pe_dget (hu_of hr) (pe_fld (pv 0) rfl) (pv 1) (fun _ _ => rfl)) (pg_tupK (K := K) (n := 2) rfl rfl (pgs_cons (pg_name (i := 3) sc_Sills_is_wished.nd rfl (by first | exact Or.inl rfl | exact Or.inr rfl)) (pgs_cons (pg_name (i := 4) sc_Sills_is_wished.nd rfl (by first | exact Or.inl rfl | exact Or.inr rfl)) pgs_nil))))
      (pss_one (ps_ret (pe_cmpR op_lt (pe_ix ix_any (pe_ix ix_any (pv 2) pe_int (fun _ _ => rfl)) (pv 1) (fun _ _ => rfl)) (pe_ifExp (pt_val (pe_callD (ok_has_room T) (hr.mono (by decide)) (pa_cons (pe_ix ix_any (pv 2) pe_int (fun _ _ => rfl)) (pa_cons (pv 1) pa_nil)))) (pv 4) (pv 3)) (nomark _))))), ?_⟩
    refine ⟨_, rfl, a, _, dx, _, _, rfl, ha, T.cl_Sills, T.na_Sills_sills, rfl, _, rfl, pd, _, rfl, .inl ⟨kvs, .inl r, hpd, rfl, hv.symm⟩, ?_⟩
    refine ⟨p, _, rfl, SqT.of hpp, rfl, _, _, rfl, _, _, rfl, rfl, ?_⟩
    refine ⟨_, rfl, _, _, _, _, rfl, rfl, .inr (SqT.of h1), rfl, _, rfl, _, _, _, _, rfl, rfl, .inr (SqT.of h2), at_int lb rn, ?_⟩
    refine ⟨_, rfl, _, _, _, _, rfl, rfl, .inr (SqT.of h1), rfl, _, rfl, bu, r, rfl, _, rfl, ?_⟩
    unfold sillV at k
    cases q : bu.testBit r with
    | true => rw [q, if_pos rfl] at k; exact iteT ⟨_, rfl, _, _, rfl, rfl, k⟩
    | false => rw [q, if_neg Bool.false_ne_true] at k; exact iteF ⟨_, rfl, _, _, rfl, rfl, k⟩
/-- what the sills wish -/
def swish (S : List (Nat × Int × Int)) (bs : List Int) (bu : Nat) : List Nat := (S.filter fun r => sillV r.2.1 r.2.2 bs bu r.1).map (·.1)
def SlAt (C : Addr) (H : Hp) (a : Addr) (kvs : List (Key × V)) (S : List (Nat × Int × Int)) : Prop := ∃ dx pd, H a = some (.ins C dx [("sills", .ref pd)]) ∧ H dx = some (.own a) ∧ SlD H pd kvs S
theorem swish_next {S : List (Nat × Int × Int)} {bs : List Int} {bu i : Nat} {r : Nat × Int × Int} (h : S[i]? = some r) : (swish (S.take (i + 1)) bs bu).map natV = (swish (S.take i) bs bu).map natV ++ (if sillV r.2.1 r.2.2 bs bu r.1 = true then [natV r.1] else []) := by
  have : S.take (i + 1) = S.take i ++ [r] := by rw [List.take_succ, h]; rfl
  unfold swish
  rw [this, List.filter_append, List.map_append, List.map_append]
  by_cases q : sillV r.2.1 r.2.2 bs bu r.1 = true <;> simp [q]
theorem val_at : ∀ {kvs : List (Key × V)} {i : Nat} {kv : Key × V}, (kvs.map (·.1)).Nodup → kvs[i]? = some kv → valV kvs kv.1 = some kv.2
  | c :: kvs, 0, kv, _, e => by cases e; simp [valV]
  | c :: kvs, i + 1, kv, nd, e => by
    have e : kvs[i]? = some kv := e
    have nd' := List.nodup_cons.mp nd
    have ne : ¬ c.1 = kv.1 := fun z => nd'.1 (by show c.1 ∈ _; rw [z]; exact List.mem_map.mpr ⟨kv, List.mem_of_getElem? e, rfl⟩)
    have := val_at nd'.2 e
    unfold valV at this ⊢
    rw [List.find?_cons_of_neg (by simpa using ne)]
    exact this
def sp_swish (C : Addr) : Sp := fun vs H Q _ => ∃ a m ps kvs S, ∃ bs ws fs : List Int, ∃ bu : Nat, ∃ hp, ∃ n : Nat, vs = [.ref a, m, .ref ps] ∧ SlAt C H a kvs S ∧ (kvs.map (·.1)).Nodup ∧ StAt H ps bs ws fs (bu : Int) hp ∧ bs.length = n ∧ n ≤ 4 ∧
  S.length ≤ 10 ∧ (∀ r ∈ S, r.1 < n) ∧ ∀ H', Same H H' → Q (natV (orB (swish S bs bu) 0)) H'
theorem okm_Sills_wish (T : Txt K mg Ad) : MDef P w K mg base Ad.Sills "wish" 5 ["self", "mind", "state"] [] (sp_swish Ad.Sills) := by
  refine T.e_Sills_wish.mdef sc_Sills_wish (fun vs H Q E h => ?_) (fun _ _ _ _ _ _ us hl => match us, hl with | [_, _, _], _ => rfl) (fun f cdv A outer s H vs Q E hr h => ?_)
  · obtain ⟨a, m, ps, kvs, S, bs, ws, fs, bu, hp, n, rfl, _⟩ := h
    rfl
  · obtain ⟨a, m, ps, kvs, S, bs, ws, fs, bu, hp, n, rfl, ⟨dx, pd, ha, hdx, hpd, hv⟩, nd, sa, lb, n4, l10, ok, k⟩ := h
    refine ⟨_, (pss_one (ps_ret (pe_callD (ok_bits_of T) (hr.mono (by decide)) (pa_cons (pe_thaw (pe_lc ["room"] ["state", "self"] [2, 0] (.cons ⟨rfl, rfl, .inl rfl⟩ (.cons ⟨rfl, rfl, .inl rfl⟩ .nil)) rfl (pi_keys (pe_fld (pv 0) rfl)) (fun _ _ _ _ _ => (pg_name (i := 0) (show (["room", "state", "self"] : List Str).Nodup by decide +kernel) rfl (by first | exact Or.inl rfl | exact Or.inr rfl))) (fun _ _ _ _ _ => (pif_one (pt_val (pe_dyn (P := P) (w := w) (K := K) (mg := mg) (base := base) (k := 4) ⟨rfl, rfl, rfl, rfl, rfl⟩ (pv 2) hr (pa_cons (pv 0) (pa_cons (pv 1) pa_nil)))))) (fun _ _ _ _ _ => (pv 0)) rfl (by decide +kernel) (by decide +kernel) (by decide +kernel))) pa_nil)))), ?_⟩
    have na : a ≠ pd := ne_of ha hpd nofun
    refine ⟨pd, kvs, hpd, fun ob => ⟨_, rfl, a, _, dx, _, _, rfl, by rw [upd_ne na]; exact ha, T.cl_Sills, T.na_Sills_sills, rfl, pd, ob, kvs, rfl, upd_same, fun D hD => ?_⟩⟩
    have s0 := same_upd (o := .lst []) hD
    have tp : ∀ b xs, H b = some (.tup xs) → upd H pd (Fd ob kvs) b = some (.tup xs) := fun b xs e => by rw [upd_ne (ne_of e hpd nofun)]; exact e
    refine comp_keys (d := pd) (ob := ob) (kvs := kvs) (fun i acc σ H' => Same (upd H pd (Fd ob kvs)) H' ∧ H' D = some (.lst acc) ∧ acc = (swish (S.take i) bs bu).map natV ∧ ∃ v1 : Option V, σ = [v1, some (.ref ps), some (.ref a)])
      ⟨s0, upd_same, rfl, none, rfl⟩ (fun i acc σ H' _ e => e.1 _ _ upd_same) ?_ ?_
    · rintro i kv acc σ H' hk ⟨s1, hD1, rfl, v1, rfl⟩
      obtain ⟨r, hr2⟩ : ∃ r, S[i]? = some r := ⟨_, List.getElem?_eq_getElem (by rw [← hv.1]; exact (List.getElem?_eq_some_iff.mp hk).1)⟩
      obtain ⟨e, t, e2, ht⟩ := hv.2 i kv r hk hr2
      have okr := ok r (List.mem_of_getElem? hr2)
      have vk := val_at nd hk
      rw [e, e2] at vk
      have sa' : StAt H' ps bs ws fs (bu : Int) hp := by
        obtain ⟨pb, pw, pf, h1, h2, h3, h4⟩ := sa
        exact ⟨pb, pw, pf, s1 _ _ (tp _ _ h1), s1 _ _ (tp _ _ h2), s1 _ _ (tp _ _ h3), s1 _ _ (tp _ _ h4)⟩
      have ha' : H' a = some (.ins Ad.Sills dx [("sills", .ref pd)]) := s1 _ _ (by rw [upd_ne na]; exact ha)
      have nx := swish_next (bs := bs) (bu := bu) hr2
      have ln : ((swish (S.take i) bs bu).map natV).length ≤ 10 := by
        unfold swish
        rw [List.length_map, List.length_map]
        exact Nat.le_trans (List.length_filter_le _ _) (by rw [List.length_take]; omega)
      rw [e]
      refine ⟨_, rfl, Ad.Sills, a, dx, _, _, _, rfl, ha', rfl, T.cl_Sills, (okm_Sills_is_wished T).mono (by decide), _, rfl, _, rfl, a, dx, pd, kvs, r.1, t, ps, r.2.1, r.2.2, bs, ws, fs, bu, hp, n, rfl, ha', .inr ⟨ob, s1 _ _ upd_same⟩, vk, s1 _ _ (tp _ _ ht), sa', lb, okr, n4, _, rfl, ?_⟩
      cases q : sillV r.2.1 r.2.2 bs bu r.1 with
      | true =>
        rw [q, if_pos rfl] at nx
        exact iteT ⟨_, rfl, hD1, small1000 (by omega), s1.put hD, upd_same, nx.symm, _, rfl⟩
      | false =>
        rw [q, if_neg Bool.false_ne_true, List.append_nil] at nx
        exact iteF ⟨s1, hD1, nx.symm, _, rfl⟩
    · rintro acc σ H' ⟨s1, hD1, rfl, v1, rfl⟩
      rw [hv.1, List.take_length] at hD1
      have nD : D ≠ pd := fun z => by rw [z, upd_same] at hD; cases hD
      refine ⟨s1 _ _ upd_same, D, _, rfl, SqL.of (by rw [upd_ne nD]; exact hD1), fun r hr => ?_, k _ fun b o hb => ?_⟩
      · obtain ⟨x, hm, rfl⟩ := List.mem_map.mp hr
        have := ok x (List.mem_filter.mp hm).1
        omega
      · by_cases hb2 : b = pd
        · subst hb2; rw [upd_same, ← hpd, hb]
        · rw [upd_ne hb2]; exact s1 _ _ (by rw [upd_ne hb2]; exact hb)

def bitsTo (l : List Nat) : Nat → Nat
  | 0 => 0
  | i + 1 => bitsTo l i + (if i ∈ l then 2 ^ i else 0)
theorem bitsTo_4 {l : List Nat} (h : ∀ r ∈ l, r < 4) : bitsTo l 4 = orB l 0 := by
  apply Nat.eq_of_testBit_eq
  intro j
  rw [orB_bit]
  show (0 + (if 0 ∈ l then 2 ^ 0 else 0) + (if 1 ∈ l then 2 ^ 1 else 0) + (if 2 ∈ l then 2 ^ 2 else 0) + (if 3 ∈ l then 2 ^ 3 else 0)).testBit j = _
  rcases Nat.lt_or_ge j 4 with q | q
  · match j, q with
    | 0, _ => by_cases a : 0 ∈ l <;> by_cases b : 1 ∈ l <;> by_cases c : 2 ∈ l <;> by_cases d : 3 ∈ l <;> simp [a, b, c, d] <;> decide
    | 1, _ => by_cases a : 0 ∈ l <;> by_cases b : 1 ∈ l <;> by_cases c : 2 ∈ l <;> by_cases d : 3 ∈ l <;> simp [a, b, c, d] <;> decide
    | 2, _ => by_cases a : 0 ∈ l <;> by_cases b : 1 ∈ l <;> by_cases c : 2 ∈ l <;> by_cases d : 3 ∈ l <;> simp [a, b, c, d] <;> decide
    | 3, _ => by_cases a : 0 ∈ l <;> by_cases b : 1 ∈ l <;> by_cases c : 2 ∈ l <;> by_cases d : 3 ∈ l <;> simp [a, b, c, d] <;> decide
  · have n : ¬ j ∈ l := fun m => absurd (h j m) (by omega)
    rw [decide_eq_false n, Nat.zero_testBit]
    refine Nat.testBit_lt_two_pow (Nat.lt_of_lt_of_le (m := 2 ^ 4) ?_ (Nat.pow_le_pow_right (by decide) q))
    by_cases a : 0 ∈ l <;> by_cases b : 1 ∈ l <;> by_cases c : 2 ∈ l <;> by_cases d : 3 ∈ l <;> simp [a, b, c, d]
def sp_lbits (K : PySem.W.Frag) : Sp := fun vs H Q _ => ∃ p l, vs = [.ref p] ∧ SqL K H p (l.map natV) ∧ (∀ r ∈ l, r < 4) ∧ ∀ H', Same H H' → Q (natV (orB l 0)) H'
theorem flat_nat (l : List Nat) : (l.map natV).all flatV = true := by
  rw [List.all_eq_true]
  intro x hx
  obtain ⟨w, _, rfl⟩ := List.mem_map.mp hx
  rfl
theorem ok_law_bits (T : Txt K mg Ad) : Def P w K mg base "_law_bits" 1 ["_law_rooms"] (sp_lbits K) := by
  refine T.d_law_bits.def sc_law_bits (fun vs H Q E h => ?_) (fun _ _ _ _ _ _ us hl => match us, hl with | [_], _ => rfl) (fun f cdv A outer s H vs Q E hr h => ?_)
  · obtain ⟨p, l, rfl, _⟩ := h
    rfl
  · obtain ⟨p, l, rfl, hp, h4, k⟩ := h
    refine ⟨_, (pss_cons (ps_set (i := 1) sc_law_bits.nd rfl (by first | exact Or.inl rfl | exact Or.inr rfl) pe_int)
      (pss_cons (ps_for PassesOwn.never rfl (pi_range1 rfl T.n_range (pa_cons pe_int pa_nil)) (pg_name (i := 2) sc_law_bits.nd rfl (by first | exact Or.inl rfl | exact Or.inr rfl)) (pss_one (ps_if (pt_cmpR op_in_seq (pv 2) (pv 0) (by with_unfolding_all rfl)) (pss_one (ps_set (i := 1) sc_law_bits.nd rfl (by first | exact Or.inl rfl | exact Or.inr rfl) (pe_op op_addL (pv 1) (pe_ix ix_any (pe_lst (pa_cons pe_int (pa_cons pe_int (pa_cons pe_int (pa_cons pe_int pa_nil))))) (pv 2) (fun _ _ => rfl))))) pss_nil)))
      (pss_one (ps_ret (pv 1))))), ?_⟩
    refine ⟨4, rfl, by decide, by decide, ?_⟩
    refine for_range (lo := 0) (n := 4) (fun i σ H' => Same H H' ∧ ∃ v, σ = [some (.ref p), some (natV (bitsTo l i)), v]) ⟨Same.refl _, none, rfl⟩ ?_ ?_
    · rintro i σ H' hi ⟨s1, v, rfl⟩
      refine ⟨_, rfl, _, rfl, p, _, rfl, .inl (s1.seq hp), rfl, flat_nat l, _, rfl, ?_⟩
      have ev : inV (.int (0 + (i : Int))) (l.map natV) = decide (i ∈ l) := by rw [Int.zero_add]; exact inV_nat i l
      show if inV (.int (0 + (i : Int))) (l.map natV) = true then _ else _
      rw [ev]
      refine ite3 (fun hm => ?_) fun hm => ⟨s1, _, by rw [show bitsTo l (i + 1) = bitsTo l i from by show bitsTo l i + _ = _; rw [if_neg hm]; rfl]; rfl⟩
      refine ⟨_, rfl, sz4, fun pl hpl => ⟨_, rfl, ?_⟩⟩
      obtain ⟨z, ez, zz⟩ : ∃ z : Int, atI [V.int 1, .int 2, .int 4, .int 8] (0 + (i : Int)) = some (.int z) ∧ z = ((2 ^ i : Nat) : Int) := by
        match i, hi with
        | 0, _ => exact ⟨1, rfl, rfl⟩
        | 1, _ => exact ⟨2, rfl, rfl⟩
        | 2, _ => exact ⟨4, rfl, rfl⟩
        | 3, _ => exact ⟨8, rfl, rfl⟩
      refine ⟨pl, _, _, _, rfl, rfl, .inl (SqL.of upd_same), ez, _, _, rfl, rfl, fun y ey => ⟨s1.trans (same_upd hpl), some (.int (0 + (i : Int))), ?_⟩⟩
      have : y = ((bitsTo l (i + 1) : Nat) : Int) := by
        rw [ey, zz]
        show _ = ((bitsTo l i + (if i ∈ l then 2 ^ i else 0) : Nat) : Int)
        rw [if_pos hm]; push_cast; rfl
      rw [this]; rfl
    · rintro σ H' ⟨s1, v, rfl⟩
      refine ⟨_, rfl, ?_⟩
      rw [bitsTo_4 h4]
      exact k H' s1
def sp_sill (K : PySem.W.Frag) : Sp := fun vs H Q _ => ∃ p, ∃ ns : List Int, vs = [.ref p] ∧ SqL K H p (ns.map V.int) ∧ 3 ≤ ns.length ∧ (∀ z ∈ ns, 0 ≤ z ∧ z < 2 ^ 31) ∧ ∀ q H' lo hi, Same H H' → H' q = some (.tup [.int lo, .int hi]) → lo ≤ hi → Q (.ref q) H'
theorem ok_law_sill (T : Txt K mg Ad) : Def P w K mg base "_law_sill" 1 ["_law_xs"] (sp_sill K) := by
  refine T.d_law_sill.def sc_law_sill (fun vs H Q E h => ?_) (fun _ _ _ _ _ _ us hl => match us, hl with | [_], _ => rfl) (fun f cdv A outer s H vs Q E hr h => ?_)
  · obtain ⟨p, ns, rfl, _⟩ := h
    rfl
  · obtain ⟨p, ns, rfl, hS, l3, bn, k⟩ := h
    refine ⟨_, (pss_cons (ps_set (i := 1) sc_law_sill.nd rfl (by first | exact Or.inl rfl | exact Or.inr rfl) (pe_ix ix_any (pe_lst (pa_cons (pe_op op_modL (pe_ix ix_any (pv 0) pe_int (fun _ _ => rfl)) pe_int) (pa_cons (pe_op op_modL (pe_op op_mulL (pe_ix ix_any (pv 0) pe_int (fun _ _ => rfl)) (pe_op op_addL (pe_op op_powL pe_int pe_int) pe_int)) (pe_op op_powL pe_int pe_int)) (pa_cons (pe_op op_subL pe_int (pe_op op_modL (pe_ix ix_any (pv 0) pe_int (fun _ _ => rfl)) pe_int)) pa_nil)))) (pe_op op_modL (pe_ix ix_any (pv 0) pe_int (fun _ _ => rfl)) pe_int) (fun _ _ => rfl)))
      (pss_one (ps_ret (pe_tup (pa_cons (pv 1) (pa_cons (pe_op op_addL (pv 1) (pe_op op_modL (pe_ix ix_any (pv 0) pe_int (fun _ _ => rfl)) pe_int)) pa_nil)))))), ?_⟩
    have at_ : ∀ {j : Nat}, j < ns.length → atI (ns.map V.int) (j : Int) = some (.int (ns.getD j 0)) := fun {j} h => at_int rfl h
    have bd : ∀ {j : Nat}, j < ns.length → 0 ≤ ns.getD j 0 ∧ ns.getD j 0 < 2 ^ 31 := fun {j} h => by
      rw [List.getD_eq_getElem?_getD, get_nat h]; exact bn _ (List.getElem_mem h)
    have a0 := at_ (j := 0) (by omega)
    have a1 := at_ (j := 1) (by omega)
    have a2 := at_ (j := 2) (by omega)
    have b0 := bd (j := 0) (by omega)
    have b1 := bd (j := 1) (by omega)
    have b2 := bd (j := 2) (by omega)
    generalize ns.getD 0 0 = x0 at a0 b0
    generalize ns.getD 1 0 = x1 at a1 b1
    generalize ns.getD 2 0 = x2 at a2 b2
    refine ⟨_, rfl, _, _, _, _, rfl, rfl, .inl hS, a0, _, _, rfl, rfl, by decide, fun g1 _ _ _ => ?_⟩
    refine ⟨_, rfl, _, _, _, _, rfl, rfl, .inl hS, a0, _, _, rfl, rfl, ⟨by decide, by decide, by decide⟩, fun y1 e1 => ⟨_, _, rfl, rfl, fun y2 e2 => ?_⟩⟩
    have e1 : y1 = 10000000000000000000000000000000000000000000000000 := e1
    refine ⟨_, _, rfl, rfl, ⟨31, 163, (show x0.natAbs < 2 ^ 31 by omega), (show y2.natAbs < 2 ^ 163 by omega), by decide⟩, fun y3 e3 => ?_⟩
    refine ⟨_, _, rfl, rfl, ⟨by decide, by decide, by decide⟩, fun y4 e4 => ?_⟩
    have e4 : y4 = 100000000000000000000000000000000000000000000000000000000000 := e4
    refine ⟨_, _, rfl, rfl, by omega, fun far f0 f1 ef => ?_⟩
    refine ⟨_, rfl, _, _, _, _, rfl, rfl, .inl hS, a0, _, _, rfl, rfl, by decide, fun g2 _ _ _ => ⟨_, _, rfl, rfl, fun g3 _ => ⟨sz3, fun pl hpl => ?_⟩⟩⟩
    have t1 := same_upd (o := .lst [.int g1, .int far, .int g3]) hpl
    have hS1 := t1.seq hS
    refine ⟨_, rfl, _, _, _, _, rfl, rfl, .inl hS1, a1, _, _, rfl, rfl, by decide, fun g4 g40 g41 eg4 => ?_⟩
    obtain ⟨z, _, ez⟩ := atI_ints (ns := [g1, far, g3]) g40 (by show g4 < 3; omega)
    refine ⟨pl, _, _, _, rfl, rfl, .inl (SqL.of upd_same), ez, ?_⟩
    refine ⟨_, rfl, _, rfl, _, rfl, _, _, _, _, rfl, rfl, .inl hS1, a2, _, _, rfl, rfl, by decide, fun g5 g50 _ _ => ⟨_, _, rfl, rfl, fun y5 e5 => ⟨sz2, fun q hq => ?_⟩⟩⟩
    exact k q _ z y5 (t1.trans (same_upd hq)) upd_same (by omega)

theorem sub11 {C1 C2 C3 C4 C5 C6 C7 C8 C9 C10 C11 : Addr} {x : V} (hx : x ∈ [V.ref C1, V.ref C2, V.ref C3, V.ref C4, V.ref C5, V.ref C6, V.ref C7, V.ref C8, V.ref C9, V.ref C10, V.ref C11]) : ∃ C, x = .ref C := by
  simp only [List.mem_cons, List.not_mem_nil, or_false] at hx
  rcases hx with rfl | rfl | rfl | rfl | rfl | rfl | rfl | rfl | rfl | rfl | rfl <;> exact ⟨_, rfl⟩
theorem exc_NoKeeper (T : Txt K mg Ad) : ExcCl K Ad.NoKeeper := ⟨T.xga_NoKeeper, T.xgt_NoKeeper, T.xcl_NoKeeper, T.gs, T.tk, T.xmo_NoKeeper, T.xmb_NoKeeper, T.xis_NoKeeper⟩
def sp_refused32 : Sp := fun vs H Q _ => ∃ p kvs S, vs = [.ref p] ∧ SlD H p kvs S ∧ (∃ r ∈ S, r.2.2 < r.2.1) ∧ ∀ H', (∀ b o, H b = some o → b ≠ p → H' b = some o) → Q (.bl true) H'
theorem ok_law_refused (T : Txt K mg Ad) : Def P w K mg base "_law_refused" 3 ["_law_sills_here"] sp_refused32 := by
  refine T.d_law_refused.def sc_law_refused (fun vs H Q E h => ?_) (fun _ _ _ _ _ _ us hl => match us, hl with | [_], _ => rfl) (fun f cdv A outer s H vs Q E hr h => ?_)
  · obtain ⟨p, kvs, S, rfl, _⟩ := h
    rfl
  · obtain ⟨p, kvs, S, rfl, ⟨hp, hv⟩, bad, k⟩ := h
    refine ⟨_, (pss_cons (ps_set (i := 1) sc_law_refused.nd rfl (by first | exact Or.inl rfl | exact Or.inr rfl) pe_bl)
      (pss_cons (ps_try (i := 2) rfl rfl sc_law_refused.nd rfl rfl T.m_StokeError (psx_expr (px_make T.mk_Sills (okx_Sills___init__ T) .nil (hr.mono (by decide)) T.m_Sills (pa_cons (pv 0) pa_nil))) (fun _ _ _ hcl => (pss_cons (ps_set (i := 1) sc_law_refused.nd rfl (by first | exact Or.inl rfl | exact Or.inr rfl) (pe_and (pe_callB (call_isE K rfl (List.mem_append_right _ (List.mem_singleton.mpr rfl)) hcl) (by rfl) T.n_isinstance bt_isinstance (pa_cons (pv 2) (pa_cons (pe_glob (v := V.ref _) rfl T.m_NoKeeper rfl) pa_nil))) (pe_one (pe_callB (call_isE K rfl (List.mem_append_right _ (List.mem_singleton.mpr rfl)) hcl) (by rfl) T.n_isinstance bt_isinstance (pa_cons (pv 2) (pa_cons (pe_bltn (v := V.ty "ValueError") rfl T.n_ValueError bt_ValueError rfl) pa_nil))))))
      (pss_cons (ps_cut (ps_if (pt_val (pe_callB (call_isE K rfl (List.mem_append_right _ (List.mem_singleton.mpr rfl)) hcl) (by rfl) T.n_isinstance bt_isinstance (pa_cons (pv 2) (pa_cons (pe_tup (pa_cons (pe_glob (v := V.ref _) rfl T.m_Ended rfl) (pa_cons (pe_glob (v := V.ref _) rfl T.m_Full rfl) (pa_cons (pe_glob (v := V.ref _) rfl T.m_NoBand rfl) (pa_cons (pe_glob (v := V.ref _) rfl T.m_NoFailing rfl) (pa_cons (pe_glob (v := V.ref _) rfl T.m_NoHold rfl) (pa_cons (pe_glob (v := V.ref _) rfl T.m_NoLine rfl) (pa_cons (pe_glob (v := V.ref _) rfl T.m_NoMarks rfl) (pa_cons (pe_glob (v := V.ref _) rfl T.m_NoName rfl) (pa_cons (pe_glob (v := V.ref _) rfl T.m_NoNumber rfl) (pa_cons (pe_glob (v := V.ref _) rfl T.m_NoOrder rfl) (pa_cons (pe_glob (v := V.ref _) rfl T.m_NoRoom rfl) pa_nil)))))))))))) pa_nil)))) (pss_one (ps_set (i := 1) sc_law_refused.nd rfl (by first | exact Or.inl rfl | exact Or.inr rfl) pe_bl)) pss_nil))
      (pss_one (ps_if (pt_val (pe_callB (call_isE K rfl (List.mem_append_right _ (List.mem_singleton.mpr rfl)) hcl) (by rfl) T.n_isinstance bt_isinstance (pa_cons (pv 2) (pa_cons (pe_tup (pa_cons (pe_glob (v := V.ref _) rfl T.m_NoShare rfl) (pa_cons (pe_glob (v := V.ref _) rfl T.m_NoSky rfl) (pa_cons (pe_glob (v := V.ref _) rfl T.m_NoState rfl) (pa_cons (pe_glob (v := V.ref _) rfl T.m_NoStove rfl) (pa_cons (pe_glob (v := V.ref _) rfl T.m_NoText rfl) (pa_cons (pe_glob (v := V.ref _) rfl T.m_NoTurn rfl) (pa_cons (pe_glob (v := V.ref _) rfl T.m_NotKept rfl) (pa_cons (pe_glob (v := V.ref _) rfl T.m_NotOut rfl) (pa_cons (pe_glob (v := V.ref _) rfl T.m_Shared rfl) (pa_cons (pe_glob (v := V.ref _) rfl T.m_TooMany rfl) (pa_cons (pe_glob (v := V.ref _) rfl T.m_Twice rfl) pa_nil)))))))))))) pa_nil)))) (pss_one (ps_set (i := 1) sc_law_refused.nd rfl (by first | exact Or.inl rfl | exact Or.inr rfl) pe_bl)) pss_nil))))))
      (pss_one (ps_ret (pv 1))))), ?_⟩
    refine ⟨_, rfl, fun x dx fx fdx nx => ?_⟩
    have fx' : upd H dx (.own x) x = none := by rw [upd_ne nx.symm]; exact fx
    have s0 : Same H (upd (upd H dx (.own x)) x (.ins Ad.Sills dx [])) := (same_upd fdx).trans (same_upd fx')
    refine ⟨x, dx, p, kvs, S, rfl, upd_same, by rw [upd_ne nx]; exact upd_same, ⟨s0 _ _ hp, hv.gr fun b xs e => s0 _ _ e⟩, bad, fun H1 k1 => ⟨T.ex, fun e he => ?_⟩⟩
    have k2 : ∀ b o, H b = some o → b ≠ p → H1 b = some o := fun b o hb n => k1 b o (s0 _ _ hb) (ne_of_none hb fx) n
    refine ⟨_, rfl, _, _, _, rfl, rfl, exc_NoKeeper T, IsE.one (b := true) rfl T.k3, _, rfl, iteT ?_⟩
    refine ⟨_, rfl, _, _, _, rfl, rfl, exc_NoKeeper T, IsE.one (b := true) rfl T.k1, ?_⟩
    refine ⟨fun σ' H' => σ' = [some (.ref p), some (.bl true), some (.ref e)] ∧ ∀ b o, H b = some o → b ≠ p → H' b = some o, ⟨_, rfl, (by show 11 ≤ sizeLine; decide), fun pt hpt => ⟨_, _, _, rfl, rfl, exc_NoKeeper T, IsE.many upd_same (fun x hx => ?_) T.k0, _, rfl, iteF ⟨rfl, fun b o hb n => same_upd hpt _ _ (k2 b o hb n)⟩⟩⟩, ?_⟩
    · obtain ⟨C, rfl⟩ := sub11 hx
      rfl
    rintro σ' H' ⟨rfl, k3⟩
    refine ⟨_, rfl, (by show 11 ≤ sizeLine; decide), fun pt2 hpt2 => ⟨_, _, _, rfl, rfl, exc_NoKeeper T, IsE.many upd_same (fun x hx => ?_) T.k2, _, rfl, iteF ?_⟩⟩
    · obtain ⟨C, rfl⟩ := sub11 hx
      rfl
    exact ⟨_, rfl, k _ fun b o hb n => same_upd hpt2 _ _ (k3 b o hb n)⟩
/-- a state's numbers -/
structure Sv where
  bs : List Int
  ws : List Int
  bu : Nat
  hp : Int
def Cd.on (t : Cd) (S : Sv) : Bool := t.val S.bs S.ws S.bu S.hp
def StS (H : Hp) (n : Nat) (ps : Addr) (S : Sv) : Prop := ∃ fs : List Int, StAt H ps S.bs S.ws fs (S.bu : Int) S.hp ∧ S.bs.length = n ∧ S.ws.length = n
theorem StS.gr {H H' : Hp} {n : Nat} {ps : Addr} {S : Sv} (h : StS H n ps S) (g : Gr H H') : StS H' n ps S := by
  obtain ⟨fs, ⟨pb, pw, pf, h1, h2, h3, h4⟩, l⟩ := h
  exact ⟨fs, ⟨pb, pw, pf, g.tup h1, g.tup h2, g.tup h3, g.tup h4⟩, l⟩
/-- the three states -/
structure Sts (H : Hp) (n : Nat) (p : Addr) (S0 S1 S2 : Sv) : Prop where
  ex : ∃ a0 a1 a2, H p = some (.lst [.ref a0, .ref a1, .ref a2]) ∧ StS H n a0 S0 ∧ StS H n a1 S1 ∧ StS H n a2 S2
theorem Sts.gr {H H' : Hp} {n : Nat} {p : Addr} {S0 S1 S2 : Sv} (h : Sts H n p S0 S1 S2) (g : Gr H H') : Sts H' n p S0 S1 S2 := by
  obtain ⟨a0, a1, a2, h1, h2, h3, h4⟩ := h.ex
  exact ⟨a0, a1, a2, g.lst h1, h2.gr g, h3.gr g, h4.gr g⟩
/-- a keeper of one mind, of class C, that wishes wi -/
structure KpAt (P : Program) (w : World) (K : PySem.W.Frag) (mg : Str → Option Value) (base : Heap) (Kp : Addr) (H : Hp) (a : Addr) (n : Nat) (wv : Sv → Nat) (C dx : Addr) (fs : List (Str × V)) (sp : Sp) : Prop where
  at_ : H a = some (.ins C dx fs)
  l1 : fs.lookup ("wish" : Str) = none
  l2 : fs.lookup ("after" : Str) = none
  l3 : fs.lookup ("minds" : Str) = none
  l4 : fs.lookup ("size" : Str) = none
  cl : Cls K C
  ty : ∀ {H' : Hp}, H' a = some (.ins C dx fs) → TyOf K H' (.ref a) (.ref C)
  kk : PySem.W.kitOne K (.ref C) (.ref Kp) = some true
  mi : MDef P w K mg base C "minds" 1 ["self"] [] sp_one1
  si : MDef P w K mg base C "size" 1 ["self"] [] sp_one1
  af : MDef P w K mg base C "after" 1 ["self", "mind", "state"] [] sp_nil3
  wi : MDef P w K mg base C "wish" 5 ["self", "mind", "state"] [] sp
  wh : ∀ {H' : Hp} {ps : Addr} {S : Sv} {Q : VK}, Same H H' → StS H' n ps S → (∀ H'', Same H' H'' → Q (natV (wv S)) H'') → sp [.ref a, .int 0, .ref ps] H' Q E0
def sp_plain (P : Program) (w : World) (K : PySem.W.Frag) (mg : Str → Option Value) (base : Heap) (Kp : Addr) : Sp := fun vs H Q _ => ∃ a pst pd n, ∃ wi : Sv → Nat, ∃ C dx fs sp S0 S1 S2, vs = [.ref a, .ref pst, .ref pd] ∧ KpAt P w K mg base Kp H a n wi C dx fs sp ∧ Sts H n pst S0 S1 S2 ∧ H pd = some (.lst [natV (wi S0), natV (wi S1), natV (wi S2)]) ∧ ∀ H', Same H H' → Q (.bl true) H'
theorem ok_law_is_plain (T : Txt K mg Ad) : Def P w K mg base "_law_is_plain" 8 ["_law_keeper", "_law_states", "_law_due"] (sp_plain P w K mg base Ad.Keeper) := by
  refine T.d_law_is_plain.def sc_law_is_plain (fun vs H Q E h => ?_) (fun _ _ _ _ _ _ us hl => match us, hl with | [_, _, _], _ => rfl) (fun f cdv A outer s H vs Q E hr h => ?_)
  · obtain ⟨a, pst, pd, n, wi, C, dx, fs, sp, S0, S1, S2, rfl, _⟩ := h
    rfl
  · obtain ⟨a, pst, pd, n, wi, C, dx, fs, sp, S0, S1, S2, rfl, kp, hst, hpd, k⟩ := h
    refine ⟨_, (pss_cons (ps_if (pt_not (pt_val (pe_callB call_isinst (by rfl) T.n_isinstance bt_isinstance (pa_cons (pv 0) (pa_cons (pe_glob (v := V.ref _) rfl T.m_Keeper rfl) pa_nil))))) (pss_one (ps_ret pe_bl)) pss_nil)
      (pss_cons (ps_for PassesOwn.never rfl (pi_list (pe_lst (pa_cons pe_int (pa_cons pe_int (pa_cons pe_int (pa_cons pe_int pa_nil)))))) (pg_name (i := 3) sc_law_is_plain.nd rfl (by first | exact Or.inl rfl | exact Or.inr rfl)) (pss_one (ps_for PassesOwn.never rfl (pi_list (pe_lst (pa_cons (pe_tup (pa_cons (pe_dyn (P := P) (w := w) (K := K) (mg := mg) (base := base) (k := 7) ⟨rfl, rfl, rfl, rfl, rfl⟩ (pv 0) hr (pa_cons pe_int (pa_cons (pe_ix ix_any (pv 1) (pv 3) (fun _ _ => rfl)) pa_nil))) (pa_cons (pe_ix ix_any (pv 2) (pv 3) (fun _ _ => rfl)) pa_nil))) (pa_cons (pe_tup (pa_cons (pe_dyn (P := P) (w := w) (K := K) (mg := mg) (base := base) (k := 7) ⟨rfl, rfl, rfl, rfl, rfl⟩ (pv 0) hr (pa_cons pe_int (pa_cons (pe_ix ix_any (pv 1) (pv 3) (fun _ _ => rfl)) pa_nil))) (pa_cons pe_int pa_nil))) pa_nil)))) (pg_tupK (K := K) (n := 2) rfl rfl (pgs_cons (pg_name (i := 4) sc_law_is_plain.nd rfl (by first | exact Or.inl rfl | exact Or.inr rfl)) (pgs_cons (pg_name (i := 5) sc_law_is_plain.nd rfl (by first | exact Or.inl rfl | exact Or.inr rfl)) pgs_nil))) (pss_one (ps_if (PW.pt (pw_or (pt_not (pt_val (pe_callD (ok_law_whole T) (hr.mono (by decide)) (pa_cons (pv 4) pa_nil)))) (pw_or1 (pt_cmpR op_ne (pv 4) (pv 5) (nomark _))))) (pss_one (ps_ret pe_bl)) pss_nil)))))
      (pss_cons (ps_for PassesOwn.never rfl (pi_list (pe_lst (pa_cons (pe_dyn0 (P := P) (w := w) (K := K) (mg := mg) (base := base) (k := 7) ⟨rfl, rfl, rfl, rfl, rfl⟩ (pv 0) hr) (pa_cons (pe_dyn0 (P := P) (w := w) (K := K) (mg := mg) (base := base) (k := 7) ⟨rfl, rfl, rfl, rfl, rfl⟩ (pv 0) hr) pa_nil)))) (pg_name (i := 4) sc_law_is_plain.nd rfl (by first | exact Or.inl rfl | exact Or.inr rfl)) (pss_one (ps_if (PW.pt (pw_or (pt_not (pt_val (pe_callD (ok_law_whole T) (hr.mono (by decide)) (pa_cons (pv 4) pa_nil)))) (pw_or1 (pt_cmpR op_ne (pv 4) pe_int (nomark _))))) (pss_one (ps_ret pe_bl)) pss_nil)))
      (pss_one (ps_ret pe_bl))))), ?_⟩
    refine cut fun R0 k0 => ⟨_, rfl, _, _, _, _, _, rfl, kp.ty kp.at_, rfl, kp.kk, _, rfl, iteF (k0 _ _ ?_)⟩
    refine cut fun R1 k1 => ⟨sz4, fun pl hpl => ⟨pl, rfl, ⟨_, SqL.of upd_same⟩, ?_⟩⟩
    have s0 := same_upd (o := .lst [.int 0, .int 1, .int 2, .int 0]) hpl
    refine for_list (K := K) (a := pl) (xs := [.int 0, .int 1, .int 2, .int 0]) (fun i σ H' => Same H H' ∧ H' pl = some (.lst [.int 0, .int 1, .int 2, .int 0]) ∧ ∃ v3 v4 v5 : Option V, σ = [some (.ref a), some (.ref pst), some (.ref pd), v3, v4, v5])
      ⟨s0, upd_same, none, none, none, rfl⟩ (fun i σ H' _ e => SqL.of e.2.1) ?_ ?_
    · rintro i x σ H1 hx ⟨s1, hl1, v3, v4, v5, rfl⟩
      obtain ⟨a0, a1, a2, hps, h0, h1, h2⟩ := (hst.gr (.of s1)).ex
      obtain ⟨ai, S, j, rfl, ea, ed, hS⟩ : ∃ ai S j, x = .int j ∧ atI [V.ref a0, V.ref a1, V.ref a2] j = some (.ref ai) ∧ atI [natV (wi S0), natV (wi S1), natV (wi S2)] j = some (natV (wi S)) ∧ StS H1 n ai S := by
        match i, hx with
        | 0, hx => exact ⟨a0, S0, 0, (Option.some.inj hx).symm, rfl, rfl, h0⟩
        | 1, hx => exact ⟨a1, S1, 1, (Option.some.inj hx).symm, rfl, rfl, h1⟩
        | 2, hx => exact ⟨a2, S2, 2, (Option.some.inj hx).symm, rfl, rfl, h2⟩
        | 3, hx => exact ⟨a0, S0, 0, (Option.some.inj hx).symm, rfl, rfl, h0⟩
      refine ⟨_, rfl, C, a, dx, fs, _, _, rfl, s1 _ _ kp.at_, kp.l1, kp.cl, kp.wi.mono (by decide), _, rfl, _, rfl, pst, _, _, _, rfl, rfl, .inl (SqL.of hps), ea, kp.wh s1 hS fun H2 s2 => ?_⟩
      have s12 := s1.trans s2
      refine ⟨_, rfl, _, rfl, pd, _, _, _, rfl, rfl, .inl (SqL.of (s12 _ _ hpd)), ed, sz2, fun t1 ht1 => ?_⟩
      have s3 := same_upd (o := .tup [natV (wi S), natV (wi S)]) ht1
      have k3 : (upd H2 t1 (.tup [natV (wi S), natV (wi S)])) t1 = some (.tup [natV (wi S), natV (wi S)]) := upd_same
      generalize upd H2 t1 (.tup [natV (wi S), natV (wi S)]) = H3 at s3 k3 ⊢
      have s13 := s12.trans s3
      refine ⟨_, rfl, C, a, dx, fs, _, _, rfl, s13 _ _ kp.at_, kp.l2, kp.cl, kp.af.mono (by decide), _, rfl, _, rfl, pst, _, _, _, rfl, rfl, .inl (SqL.of ((s2.trans s3) _ _ hps)), ea, _, _, _, rfl, sz2, fun t2 ht2 => ?_⟩
      have s4 := same_upd (o := .tup [.int 0, .int 0]) ht2
      have k4 : (upd H3 t2 (.tup [.int 0, .int 0])) t2 = some (.tup [.int 0, .int 0]) := upd_same
      generalize upd H3 t2 (.tup [.int 0, .int 0]) = H4 at s4 k4 ⊢
      refine ⟨sz2, fun p2 hp2 => ⟨p2, rfl, ⟨_, SqL.of upd_same⟩, ?_⟩⟩
      have s5 := same_upd (o := .lst [.ref t1, .ref t2]) hp2
      have k5 : (upd H4 p2 (.lst [.ref t1, .ref t2])) p2 = some (.lst [.ref t1, .ref t2]) := upd_same
      generalize upd H4 p2 (.lst [.ref t1, .ref t2]) = H5 at s5 k5 ⊢
      have S15 := (s2.trans s3).trans (s4.trans s5)
      refine for_list (K := K) (a := p2) (xs := [.ref t1, .ref t2]) (fun i σ H' => H' = H5 ∧ ∃ v4 v5 : Option V, σ = [some (.ref a), some (.ref pst), some (.ref pd), some (.int j), v4, v5])
        ⟨rfl, _, _, rfl⟩ (fun i σ H' _ e => by rw [e.1]; exact SqL.of k5) ?_ ?_
      · rintro i' y σ H' hy ⟨rfl, v4, v5, rfl⟩
        obtain ⟨t, z, rfl, ht⟩ : ∃ t z, y = .ref t ∧ H' t = some (.tup [natV z, natV z]) := by
          match i', hy with
          | 0, hy => exact ⟨t1, wi S, (Option.some.inj hy).symm, s5 _ _ (s4 _ _ k3)⟩
          | 1, hy => exact ⟨t2, 0, (Option.some.inj hy).symm, s5 _ _ k4⟩
        refine ⟨t, _, rfl, SqT.of ht, rfl, _, _, rfl, _, _, rfl, rfl, ?_⟩
        exact ⟨_, rfl, _, rfl, _, rfl, iteF ⟨_, rfl, _, rfl, rfl, _, rfl, iteNS rfl ⟨rfl, _, _, rfl⟩⟩⟩
      · rintro σ H' ⟨rfl, v4, v5, rfl⟩
        exact ⟨s1.trans S15, S15 _ _ hl1, _, _, _, rfl⟩
    · rintro σ H1 ⟨s1, hl1, v3, v4, v5, rfl⟩
      refine k1 _ _ ?_
      refine ⟨_, rfl, C, a, dx, fs, _, _, rfl, s1 _ _ kp.at_, kp.l3, kp.cl, kp.mi.mono (by decide), _, rfl, ?_⟩
      refine ⟨_, rfl, C, a, dx, fs, _, _, rfl, s1 _ _ kp.at_, kp.l4, kp.cl, kp.si.mono (by decide), _, rfl, sz2, fun p2 hp2 => ⟨p2, rfl, ⟨_, SqL.of upd_same⟩, ?_⟩⟩
      have s2 := same_upd (o := .lst [.int 1, .int 1]) hp2
      refine for_list (K := K) (a := p2) (xs := [.int 1, .int 1]) (fun i σ H' => H' = upd H1 p2 (.lst [.int 1, .int 1]) ∧ ∃ v3 v4 v5 : Option V, σ = [some (.ref a), some (.ref pst), some (.ref pd), v3, v4, v5])
        ⟨rfl, _, _, _, rfl⟩ (fun i σ H' _ e => by rw [e.1]; exact SqL.of upd_same) ?_ ?_
      · rintro i' y σ H' hy ⟨rfl, v3, v4, v5, rfl⟩
        obtain rfl : y = .int 1 := by
          match i', hy with
          | 0, hy => exact (Option.some.inj hy).symm
          | 1, hy => exact (Option.some.inj hy).symm
        exact ⟨_, rfl, _, rfl, _, rfl, iteF ⟨_, rfl, rfl, _, rfl, iteNS rfl ⟨rfl, _, _, _, rfl⟩⟩⟩
      · rintro σ H' ⟨rfl, v3, v4, v5, rfl⟩
        exact k _ (s1.trans s2)
def sp_by (K : PySem.W.Frag) : Sp := fun vs H Q _ => ∃ pd kvs S ps n sv, vs = [.ref pd, .ref ps] ∧ SlD H pd kvs S ∧ (kvs.map (·.1)).Nodup ∧ StS H n ps sv ∧ n ≤ 4 ∧ S.length ≤ 10 ∧ (∀ r ∈ S, r.1 < n ∧ r.2.1 ≤ r.2.2) ∧ ∀ H', Same H H' → Q (natV (orB (swish S sv.bs sv.bu) 0)) H'
theorem swish_mem {S : List (Nat × Int × Int)} {bs : List Int} {bu r : Nat} (h : r ∈ swish S bs bu) : ∃ x ∈ S, x.1 = r := by
  obtain ⟨x, hm, rfl⟩ := List.mem_map.mp h
  exact ⟨x, (List.mem_filter.mp hm).1, rfl⟩
theorem swish_len {S : List (Nat × Int × Int)} {bs : List Int} {bu i : Nat} (h : S.length ≤ 10) : ((swish (S.take i) bs bu).map natV).length ≤ 10 := by
  unfold swish
  rw [List.length_map, List.length_map]
  exact Nat.le_trans (List.length_filter_le _ _) (by rw [List.length_take]; omega)
theorem ok_law_by_sills (T : Txt K mg Ad) : Def P w K mg base "_law_by_sills" 2 ["_law_sills_here", "_law_state_here"] (sp_by K) := by
  refine T.d_law_by_sills.def sc_law_by_sills (fun vs H Q E h => ?_) (fun _ _ _ _ _ _ us hl => match us, hl with | [_, _], _ => rfl) (fun f cdv A outer s H vs Q E hr h => ?_)
  · obtain ⟨pd, kvs, S, ps, n, sv, rfl, _⟩ := h
    rfl
  · obtain ⟨pd, kvs, S, ps, n, sv, rfl, ⟨hpd, hv⟩, nd, ⟨fs, ⟨pb, pu, pf, h1, h2, h3, h4⟩, lb, lw⟩, n4, l10, ok, k⟩ := h
    refine ⟨_, (pss_cons (ps_set (i := 2) sc_law_by_sills.nd rfl (by first | exact Or.inl rfl | exact Or.inr rfl) (pe_lst pa_nil))
      (pss_cons (ps_for PassesOwn.never rfl (pi_list (pe_callTy (call_list_ofD rfl) (by rfl) T.n_list bt_list (pa_cons (pv 0) pa_nil))) (pg_name (i := 3) sc_law_by_sills.nd rfl (by first | exact Or.inl rfl | exact Or.inr rfl)) (pss_cons (ps_asg (pe_dget (hu_of hr) (pv 0) (pv 3) (fun _ _ => rfl)) (pg_tupK (K := K) (n := 2) rfl rfl (pgs_cons (pg_name (i := 4) sc_law_by_sills.nd rfl (by first | exact Or.inl rfl | exact Or.inr rfl)) (pgs_cons (pg_name (i := 5) sc_law_by_sills.nd rfl (by first | exact Or.inl rfl | exact Or.inr rfl)) pgs_nil))))
      (pss_one (ps_if (PW.pt (pw_or (pt_cmpR op_lt (pe_ix ix_any (pe_ix ix_any (pv 1) pe_int (fun _ _ => rfl)) (pv 3) (fun _ _ => rfl)) (pv 4) (nomark _)) (pw_or1 (PW.pt (pw_and (pt_cmpR op_lt (pe_ix ix_any (pe_ix ix_any (pv 1) pe_int (fun _ _ => rfl)) (pv 3) (fun _ _ => rfl)) (pv 5) (nomark _)) (pw_and1 (pt_val (pe_callD (ok_law_in_bits T) (hr.mono (by decide)) (pa_cons (pe_ix ix_any (pv 1) pe_int (fun _ _ => rfl)) (pa_cons (pv 3) pa_nil)))))))))) (pss_one (ps_expr (pe_bm PySem.F.plainAttrs_list PySem.F.slot_list_append PySem.F.type_list_append mt_append (pv 2) (pa_cons (pv 3) pa_nil)))) pss_nil))))
      (pss_one (ps_ret (pe_callD (ok_law_bits T) (hr.mono (by decide)) (pa_cons (pv 2) pa_nil)))))), ?_⟩
    refine ⟨sz0, fun pw hpw => ?_⟩
    have s0 := same_upd (o := .lst []) hpw
    refine ⟨_, rfl, pd, kvs, rfl, .inl (s0 _ _ hpd), fun pl hpl => ⟨pl, rfl, ⟨_, SqL.of upd_same⟩, ?_⟩⟩
    have s1 := s0.trans (same_upd (o := .lst (kvs.map fun kv => kV kv.1)) hpl)
    have npw : pw ≠ pl := fun z => by rw [← z, upd_same] at hpl; cases hpl
    refine for_list (K := K) (a := pl) (xs := kvs.map fun kv => kV kv.1) (fun i σ H' => Same H H' ∧ H' pl = some (.lst (kvs.map fun kv => kV kv.1)) ∧ H' pw = some (.lst ((swish (S.take i) sv.bs sv.bu).map natV)) ∧ ∃ v3 v4 v5 : Option V, σ = [some (.ref pd), some (.ref ps), some (.ref pw), v3, v4, v5])
      ⟨s1, upd_same, by rw [upd_ne npw]; exact upd_same, none, none, none, rfl⟩ (fun i σ H' _ e => SqL.of e.2.1) ?_ ?_
    · rintro i x σ H1 hx ⟨s1, hl1, hw1, v3, v4, v5, rfl⟩
      obtain ⟨kv, hk, rfl⟩ : ∃ kv, kvs[i]? = some kv ∧ x = kV kv.1 := by
        rw [List.getElem?_map] at hx
        cases e : kvs[i]? with
        | none => rw [e] at hx; cases hx
        | some t => rw [e] at hx; cases hx; exact ⟨t, rfl, rfl⟩
      obtain ⟨r, hr2⟩ : ∃ r, S[i]? = some r := ⟨_, List.getElem?_eq_getElem (by rw [← hv.1]; exact (List.getElem?_eq_some_iff.mp hk).1)⟩
      obtain ⟨e, t, e2, ht⟩ := hv.2 i kv r hk hr2
      obtain ⟨okr, lh⟩ := ok r (List.mem_of_getElem? hr2)
      have vk := val_at nd hk
      rw [e, e2] at vk
      have nx := swish_next (bs := sv.bs) (bu := sv.bu) hr2
      have ln := swish_len (bs := sv.bs) (bu := sv.bu) (i := i) l10
      rw [e]
      refine ⟨_, rfl, _, rfl, pd, _, rfl, .inl ⟨kvs, .inl r.1, .inl (s1 _ _ hpd), rfl, vk.symm⟩, ?_⟩
      refine ⟨t, _, rfl, SqT.of (s1 _ _ ht), rfl, _, _, rfl, _, _, rfl, rfl, ?_⟩
      have gb : atI (sv.bs.map V.int) (r.1 : Int) = some (.int (sv.bs.getD r.1 0)) := at_int lb okr
      have fin1 : sillV r.2.1 r.2.2 sv.bs sv.bu r.1 = true → (Same H (upd H1 pw (.lst ((swish (S.take i) sv.bs sv.bu).map natV ++ [natV r.1]))) ∧ (upd H1 pw (.lst ((swish (S.take i) sv.bs sv.bu).map natV ++ [natV r.1]))) pl = some (.lst (kvs.map fun kv => kV kv.1)) ∧
          (upd H1 pw (.lst ((swish (S.take i) sv.bs sv.bu).map natV ++ [natV r.1]))) pw = some (.lst ((swish (S.take (i + 1)) sv.bs sv.bu).map natV))) := fun q => by
        rw [q, if_pos rfl] at nx
        exact ⟨s1.put hpw, by rw [upd_ne npw.symm]; exact hl1, by rw [nx]; exact upd_same⟩
      have fin0 : sillV r.2.1 r.2.2 sv.bs sv.bu r.1 = false → H1 pw = some (.lst ((swish (S.take (i + 1)) sv.bs sv.bu).map natV)) := fun q => by
        rw [q, if_neg Bool.false_ne_true, List.append_nil] at nx
        rw [nx]; exact hw1
      unfold sillV at fin1 fin0
      refine ⟨_, rfl, _, _, _, _, rfl, rfl, .inr (SqT.of (s1 _ _ h1)), rfl, _, rfl, pb, _, _, _, rfl, rfl, .inr (SqT.of (s1 _ _ h2)), gb, _, rfl, _, _, rfl, rfl, _, rfl, ite3 (fun q1 => ?_) fun q1 => ?_⟩
      · obtain ⟨f1, f2, f3⟩ := fin1 (decide_eq_true (by split <;> omega))
        exact iteT ⟨_, rfl, .inl ⟨rfl, _, SqL.of hw1⟩, _, rfl, pw, _, _, rfl, rfl, hw1, small1000 (by omega), f1, f2, f3, _, _, _, rfl⟩
      · refine ⟨_, rfl, _, _, _, _, rfl, rfl, .inr (SqT.of (s1 _ _ h1)), rfl, _, rfl, pb, _, _, _, rfl, rfl, .inr (SqT.of (s1 _ _ h2)), gb, _, rfl, _, _, rfl, rfl, _, rfl, ite3 (fun q2 => ?_) fun q2 => ?_⟩
        · refine ⟨_, rfl, _, _, _, _, rfl, rfl, .inr (SqT.of (s1 _ _ h1)), rfl, _, rfl, sv.bu, r.1, rfl, by omega, _, rfl, ?_⟩
          cases q3 : sv.bu.testBit r.1 with
          | true =>
            obtain ⟨f1, f2, f3⟩ := fin1 (decide_eq_true (by rw [if_pos q3]; exact q2))
            exact iteT ⟨_, rfl, .inl ⟨rfl, _, SqL.of hw1⟩, _, rfl, pw, _, _, rfl, rfl, hw1, small1000 (by omega), f1, f2, f3, _, _, _, rfl⟩
          | false =>
            exact iteF ⟨s1, hl1, fin0 (decide_eq_false (by rw [q3, if_neg Bool.false_ne_true]; exact q1)), _, _, _, rfl⟩
        · exact iteF ⟨s1, hl1, fin0 (decide_eq_false (by split <;> omega)), _, _, _, rfl⟩
    · rintro σ H1 ⟨s1, hl1, hw1, v3, v4, v5, rfl⟩
      rw [List.length_map, hv.1, List.take_length] at hw1
      refine ⟨_, rfl, pw, _, rfl, SqL.of hw1, fun r hr => ?_, fun H' s' => k H' (s1.trans s')⟩
      obtain ⟨x, hx, rfl⟩ := swish_mem hr
      have := (ok x hx).1
      omega

theorem Gr.put {H H' : Hp} {D : Addr} {o : HO} (g : Gr H H') (h : H D = none) : Gr H (upd H' D o) := fun b ob e nt => by rw [upd_ne (ne_of_none e h)]; exact g b ob e nt
theorem LeafAt.tups {H H' : Hp} {p : Addr} {t : Cd} (h : LeafAt H p t) (g : ∀ b xs, H b = some (.tup xs) → H' b = some (.tup xs)) : LeafAt H' p t := by
  obtain ⟨xs, a, b⟩ := h
  exact ⟨xs, a, g _ _ b⟩
theorem lst_tups {H : Hp} {D : Addr} {acc : List V} {o : HO} (h : H D = some (.lst acc)) : ∀ b xs, H b = some (.tup xs) → upd H D o b = some (.tup xs) := fun b xs e => by
  rw [upd_ne (fun z => by rw [z, h] at e; cases e)]; exact e
theorem lst_fz {H : Hp} {D : Addr} {acc : List V} {o : HO} (h : H D = some (.lst acc)) : ∀ b u, H b = some (Fz u) → upd H D o b = some (Fz u) := fun b u e => by
  rw [upd_ne (fun z => by rw [z, h] at e; unfold Fz at e; cases e)]; exact e
theorem tabOk_upd {A : Ads} {H : Hp} {p : Addr} {xs : List V} {o : HO} (hp : H p = some (.lst xs)) (h : TabOk (TT A) H) : TabOk (TT A) (upd H p o) := fun e he => by
  have ne : ∀ {b : Addr} {u : HO}, H b = some u → (∀ xs, u ≠ .lst xs) → upd H p o b = some u := fun {b u} e n => by
    rw [upd_ne (fun z => by rw [z, hp] at e; cases e; exact n xs rfl)]; exact e
  rcases h e he with q | ⟨c, oc, vs, t, q1, q2, q3, q4⟩
  · exact .inl (ne q nofun)
  · exact .inr ⟨c, oc, vs, t, ne q1 nofun, ne q2 (fun xs z => by unfold Fz at z; cases z), q3, q4⟩
theorem gr_seq {H H' : Hp} {a : Addr} {xs : List V} (g : Gr H H') (h : SqL K H a xs) : SqL K H' a xs := by
  rcases h with (h | ⟨o, h⟩) | h
  · exact .inl (.inl (g _ _ h nofun))
  · exact .inl (.inr ⟨o, g _ _ h nofun⟩)
  · exact .inr h
theorem cut_from {ns : List Int} {k : Nat} (h : k ≤ ns.length) : cutV (ns.map V.int) (some (k : Int)) none = (ns.drop k).map V.int := by
  rw [cutV_ints]
  unfold cutI
  have e : HT.sIx ns.length 0 (some (k : Int)) = k := by
    unfold HT.sIx
    simp
    rw [if_neg (by omega)]
    omega
  rw [e]
  have e2 : HT.sIx ns.length ns.length none = ns.length := rfl
  rw [e2, List.take_of_length_le (by rw [List.length_drop]; omega)]
/-- some of the rows at ts -/
def RowsTo (H : Hp) (ts : List Addr) (rows : List (Nat × Cd)) : Prop := ∀ (i : Nat) (t : Addr) (rc : Nat × Cd), ts[i]? = some t → rows[i]? = some rc → ∃ f, H t = some (.tup [natV rc.1, .ref f]) ∧ IsC H rc.2 f
theorem RowsTo.mono {H H' : Hp} {ts : List Addr} {rows : List (Nat × Cd)} (h : RowsTo H ts rows) (g1 : ∀ b xs, H b = some (.tup xs) → H' b = some (.tup xs)) (g2 : ∀ b u, H b = some (Fz u) → H' b = some (Fz u)) : RowsTo H' ts rows :=
  fun i t rc a b => by obtain ⟨f, e, c⟩ := h i t rc a b; exact ⟨f, g1 _ _ e, c.mono fun b o _ e => g2 b o e⟩
theorem RowsTo.gr {H H' : Hp} {ts : List Addr} {rows : List (Nat × Cd)} (h : RowsTo H ts rows) (g : Gr H H') : RowsTo H' ts rows := h.mono (fun _ _ e => g.tup e) fun _ _ e => g.fz e
theorem RowsTo.put {H : Hp} {ts : List Addr} {rows : List (Nat × Cd)} {t f : Addr} {rc : Nat × Cd} (h : RowsTo H ts rows) (hr : rows[ts.length]? = some rc) (ht : H t = some (.tup [natV rc.1, .ref f])) (hc : IsC H rc.2 f) : RowsTo H (ts ++ [t]) rows := fun i t' rc' a b => by
  rcases Nat.lt_trichotomy i ts.length with q | q | q
  · rw [List.getElem?_append_left q] at a
    exact h i t' rc' a b
  · subst q
    rw [List.getElem?_append_right (Nat.le_refl _), Nat.sub_self] at a
    cases a
    rw [hr] at b
    cases b
    exact ⟨f, ht, hc⟩
  · rw [List.getElem?_append_right (by omega)] at a
    rw [List.getElem?_eq_none (by show 1 ≤ _; omega)] at a
    cases a
theorem KpAt.same {Kp : Addr} {H H1 : Hp} {a n : Nat} {wv : Sv → Nat} {C dx : Addr} {fs : List (Str × V)} {sp : Sp} (h : KpAt P w K mg base Kp H a n wv C dx fs sp) (s : Same H H1) : KpAt P w K mg base Kp H1 a n wv C dx fs sp :=
  ⟨s _ _ h.at_, h.l1, h.l2, h.l3, h.l4, h.cl, h.ty, h.kk, h.mi, h.si, h.af, h.wi, fun s1 hS k => h.wh (s.trans s1) hS k⟩
def wishR (rows : List (Nat × Cd)) (S : Sv) : Nat := orB (rwish rows S.bs S.ws S.bu S.hp) 0
theorem kp_ruled (T : Txt K mg Ad) {H : Hp} {a n : Nat} {rows : List (Nat × Cd)} {dx pr : Addr} {ts : List Addr} (ha : H a = some (.ins Ad.Ruled dx [("rows", .ref pr)])) (hd : H dx = some (.own a)) (hp : H pr = some (.lst (ts.map V.ref))) (hr : Rows H ts rows) (l10 : rows.length ≤ 10) (n4 : n ≤ 4) (ok : ∀ rc ∈ rows, rc.1 < n ∧ rc.2.Ok n) :
    KpAt P w K mg base Ad.Keeper H a n (wishR rows) Ad.Ruled dx [("rows", .ref pr)] (sp_rwish Ad.Ruled) where
  at_ := ha
  l1 := rfl
  l2 := rfl
  l3 := rfl
  l4 := rfl
  cl := T.cl_Ruled
  ty := fun e => .ins e T.cl_Ruled T.ic_Ruled T.gs T.tk T.mo_Ruled
  kk := T.kk_Ruled
  mi := okm_Ruled_minds T
  si := okm_Ruled_size T
  af := okm_Ruled_after T
  wi := okm_Ruled_wish T
  wh := fun {H' ps S Q} s1 hS k => by
    obtain ⟨fs, st, lb, lw⟩ := hS
    exact ⟨a, _, ps, rows, S.bs, S.ws, fs, S.bu, S.hp, n, rfl, ⟨dx, pr, ts, s1 _ _ ha, s1 _ _ hd, s1 _ _ hp, hr.gr (.of s1)⟩, st, lb, lw, n4, l10, ok, k⟩
def sp_ruled (A : Ads) : Sp := fun vs H Q _ => ∃ c : Int, ∃ n pst S0 S1 S2, vs = [.int c, natV n, .ref pst] ∧ 1 ≤ n ∧ n ≤ 4 ∧ Sts H n pst S0 S1 S2 ∧ TabOk (TT A) H ∧ ∀ H', Gr H H' → TabOk (TT A) H' → Q (.bl true) H'
set_option maxHeartbeats 2000000 in
theorem ok_law_ruled (T : Txt K mg Ad) (B : Bs K mg base) : Def P w K mg base "_law_ruled" 9 ["_law_cell", "_law_rooms", "_law_states"] (sp_ruled Ad) := by
  refine T.d_law_ruled.def sc_law_ruled (fun vs H Q E h => ?_) (fun _ _ _ _ _ _ us hl => match us, hl with | [_, _, _], _ => rfl) (fun f cdv A outer s H vs Q E hr h => ?_)
  · obtain ⟨c, n, pst, S0, S1, S2, rfl, _⟩ := h
    rfl
  · obtain ⟨c, n, pst, S0, S1, S2, rfl, n1, n4, hst, tab, k⟩ := h
    refine ⟨_, (pss_cons (ps_set (i := 3) sc_law_ruled.nd rfl (by first | exact Or.inl rfl | exact Or.inr rfl) (pe_callD (ok_law_stream T) (hr.mono (by decide)) (pa_cons (pv 0) (pa_cons pe_int pa_nil))))
      (pss_cons (ps_set (i := 4) sc_law_ruled.nd rfl (by first | exact Or.inl rfl | exact Or.inr rfl) (pe_lc ["_law_k"] ["_law_rooms", "_law_xs"] [1, 3] (.cons ⟨rfl, rfl, .inl rfl⟩ (.cons ⟨rfl, rfl, .inl rfl⟩ .nil)) rfl (pi_range1 rfl T.n_range (pa_cons (pe_op op_modL (pe_ix ix_any (pv 3) pe_int (fun _ _ => rfl)) pe_int) pa_nil)) (fun _ _ _ _ _ => (pg_name (i := 0) (show (["_law_k", "_law_rooms", "_law_xs"] : List Str).Nodup by decide +kernel) rfl (by first | exact Or.inl rfl | exact Or.inr rfl))) (fun _ _ _ _ _ => pif_nil) (fun _ _ _ _ _ => (pe_callD (ok_law_leaf T) (hr.mono (by decide)) (pa_cons (pe_slice (sl_listK (K := K) rfl) (pv 2) (po_some (pe_op op_addL (pe_op op_mulL pe_int (pv 0)) pe_int)) po_none) (pa_cons (pv 1) pa_nil)))) rfl (by decide +kernel) (by decide +kernel) (by decide +kernel)))
      (pss_cons (ps_set (i := 5) sc_law_ruled.nd rfl (by first | exact Or.inl rfl | exact Or.inr rfl) (pe_lc ["_law_k"] ["_law_rooms", "_law_xs"] [1, 3] (.cons ⟨rfl, rfl, .inl rfl⟩ (.cons ⟨rfl, rfl, .inl rfl⟩ .nil)) rfl (pi_range1 rfl T.n_range (pa_cons (pe_op op_modL (pe_ix ix_any (pv 3) pe_int (fun _ _ => rfl)) pe_int) pa_nil)) (fun _ _ _ _ _ => (pg_name (i := 0) (show (["_law_k", "_law_rooms", "_law_xs"] : List Str).Nodup by decide +kernel) rfl (by first | exact Or.inl rfl | exact Or.inr rfl))) (fun _ _ _ _ _ => pif_nil) (fun _ _ _ _ _ => (pe_op op_modL (pe_ix (ix_anyK (K := K) rfl) (pv 2) (pe_op op_addL (pe_op op_mulL pe_int (pv 0)) pe_int) (fun _ _ => rfl)) (pv 1))) rfl (by decide +kernel) (by decide +kernel) (by decide +kernel)))
      (pss_cons (ps_lc (yi := 6) ["_law_k"] ["_law_where", "_law_leaves"] [5, 4] (.cons ⟨rfl, rfl, .inl rfl⟩ (.cons ⟨rfl, rfl, .inl rfl⟩ .nil)) rfl (pi_range1 rfl T.n_range (pa_cons (pe_callB call_lenL (by rfl) T.n_len bt_len (pa_cons (pv 4) pa_nil)) pa_nil)) (fun _ _ _ _ _ => (pg_name (i := 0) (show (["_law_k", "_law_where", "_law_leaves"] : List Str).Nodup by decide +kernel) rfl (by first | exact Or.inl rfl | exact Or.inr rfl))) (fun _ _ _ _ _ => pif_nil) (fun _ _ _ _ _ => (pe_tup (pa_cons (pe_ix (ix_anyK (K := K) rfl) (pv 1) (pv 0) (fun _ _ => rfl)) (pa_cons (pe_callD (ok_law_made_leaf T B) (hr.mono (by decide)) (pa_cons (pe_ix (ix_anyK (K := K) rfl) (pv 2) (pv 0) (fun _ _ => rfl)) pa_nil)) pa_nil)))) rfl (by decide +kernel) (by decide +kernel) (by decide +kernel) sc_law_ruled.nd rfl (by first | exact Or.inl rfl | exact Or.inr rfl) rfl)
      (pss_cons (ps_set (i := 7) sc_law_ruled.nd rfl (by first | exact Or.inl rfl | exact Or.inr rfl) (pe_makeD T.mk_Ruled (okm_Ruled___init__ T) .nil (hr.mono (by decide)) T.m_Ruled (pa_cons (pv 6) pa_nil)))
      (pss_cons (ps_expr (pe_bm0 PySem.F.plainAttrs_list PySem.F.slot_list_clear PySem.F.type_list_clear mt_clearL (pv 6)))
      (pss_cons (ps_set (i := 8) sc_law_ruled.nd rfl (by first | exact Or.inl rfl | exact Or.inr rfl) (pe_lst pa_nil))
      (pss_cons (ps_for PassesOwn.never rfl (pi_list (pv 2)) (pg_name (i := 9) sc_law_ruled.nd rfl (by first | exact Or.inl rfl | exact Or.inr rfl)) (pss_one (ps_expr (pe_bm PySem.F.plainAttrs_list PySem.F.slot_list_append PySem.F.type_list_append mt_append (pv 8) (pa_cons (pe_callD (ok_law_bits T) (hr.mono (by decide)) (pa_cons (pe_lc ["_law_k"] ["_law_where", "_law_state_here", "_law_leaves"] [5, 9, 4] (.cons ⟨rfl, rfl, .inl rfl⟩ (.cons ⟨rfl, rfl, .inl rfl⟩ (.cons ⟨rfl, rfl, .inl rfl⟩ .nil))) rfl (pi_range1 rfl T.n_range (pa_cons (pe_callB call_lenL (by rfl) T.n_len bt_len (pa_cons (pv 4) pa_nil)) pa_nil)) (fun _ _ _ _ _ => (pg_name (i := 0) (show (["_law_k", "_law_where", "_law_state_here", "_law_leaves"] : List Str).Nodup by decide +kernel) rfl (by first | exact Or.inl rfl | exact Or.inr rfl))) (fun _ _ _ _ _ => (pif_one (pt_val (pe_callD (ok_law_holds T) (hr.mono (by decide)) (pa_cons (pe_ix (ix_anyK (K := K) rfl) (pv 3) (pv 0) (fun _ _ => rfl)) (pa_cons (pv 2) pa_nil)))))) (fun _ _ _ _ _ => (pe_ix (ix_anyK (K := K) rfl) (pv 1) (pv 0) (fun _ _ => rfl))) rfl (by decide +kernel) (by decide +kernel) (by decide +kernel)) pa_nil)) pa_nil)))))
      (pss_one (ps_ret (pe_callD (ok_law_is_plain T) (hr.mono (by decide)) (pa_cons (pv 7) (pa_cons (pv 2) (pa_cons (pv 8) pa_nil)))))))))))))), ?_⟩
    refine cut fun R1 k1 => ⟨_, rfl, c, 26, rfl, by decide, fun px xs H1 s1 hx lx bx => k1 _ _ ?_⟩
    have at_ : ∀ {j : Nat}, j < 26 → atI (xs.map V.int) (j : Int) = some (.int (xs.getD j 0)) := fun {j} h => at_int lx h
    have a0 : atI (xs.map V.int) 0 = some (.int (xs.getD 0 0)) := at_ (j := 0) (by decide)
    obtain ⟨m, em, m6⟩ : ∃ m : Nat, xs.getD 0 0 % 6 = (m : Int) ∧ m < 6 := ⟨(xs.getD 0 0 % 6).toNat, by omega, by omega⟩
    refine cut fun R2 k2 => ⟨_, rfl, px, _, _, _, rfl, rfl, .inl (SqL.of hx), a0, _, _, rfl, rfl, by decide, fun y y0 y1 ey => ?_⟩
    obtain rfl : y = (m : Int) := ey.trans em
    refine ⟨_, rfl, by omega, by omega, fun D hD => ?_⟩
    refine comp_range (lo := 0) (n := m) (fun i acc σ H' => Same H1 H' ∧ H' D = some (.lst acc) ∧ (∃ lv : List (Addr × Cd), acc = lv.map (fun x => V.ref x.1) ∧ lv.length = i ∧ ∀ x ∈ lv, LeafAt H' x.1 x.2 ∧ x.2.Ok n) ∧ ∃ v, σ = [v, some (natV n), some (.ref px)])
      ⟨same_upd hD, upd_same, ⟨[], rfl, rfl, nofun⟩, none, rfl⟩ ?_ ?_
    · rintro i acc σ H' hi ⟨sm, hD', ⟨lv, rfl, ll, hl⟩, v, rfl⟩
      refine ⟨_, rfl, _, rfl, _, _, rfl, rfl, ⟨3, 3, bdd, (show Int.natAbs _ < 2 ^ 3 by omega), by decide⟩, fun q1 e1 => ⟨_, _, rfl, rfl, fun q2 e2 => ?_⟩⟩
      obtain rfl : q2 = ((5 * i + 1 : Nat) : Int) := by rw [e2, e1]; push_cast; omega
      refine ⟨_, rfl, px, _, rfl, SqL.of (sm _ _ hx), fun p2 hp2 => ?_⟩
      rw [cut_from (by omega)]
      have s2 := same_upd (o := .lst ((xs.drop (5 * i + 1)).map V.int)) hp2
      refine ⟨_, rfl, p2, _, n, rfl, SqL.of upd_same, by rw [List.length_drop]; omega, fun z hz => bx z (List.mem_of_mem_drop hz), n1, n4, fun pl t H2 s3 hlf tok => ?_⟩
      have s23 := s2.trans s3
      have hD2 := s23 _ _ hD'
      refine ⟨hD2, small1000 (by rw [List.length_map]; omega), (sm.trans s23).put hD, upd_same, ⟨lv ++ [(pl, t)], by rw [List.map_append]; rfl, by rw [List.length_append, ll]; rfl, fun x hx => ?_⟩, _, rfl⟩
      rcases List.mem_append.mp hx with h | h
      · exact ⟨((hl x h).1.gr (.of s23)).tups (lst_tups hD2), (hl x h).2⟩
      · rw [List.mem_singleton.mp h]
        exact ⟨hlf.tups (lst_tups hD2), tok⟩
    · rintro acc σ H2 ⟨s2, hD2, ⟨lv, rfl, ll, hl⟩, v, rfl⟩
      refine k2 _ _ ?_
      have S12 := s1.trans s2
      have hx2 := s2 _ _ hx
      refine cut fun R3 k3 => ⟨_, rfl, px, _, _, _, rfl, rfl, .inl (SqL.of hx2), a0, _, _, rfl, rfl, by decide, fun y y0 y1 ey => ?_⟩
      obtain rfl : y = (m : Int) := ey.trans em
      refine ⟨_, rfl, by omega, by omega, fun D2 hDw => ?_⟩
      refine comp_range (lo := 0) (n := m) (fun i acc σ H' => Same H2 H' ∧ H' D2 = some (.lst acc) ∧ (∃ wr : List Nat, acc = wr.map natV ∧ wr.length = i ∧ ∀ r ∈ wr, r < n) ∧ ∃ v, σ = [v, some (natV n), some (.ref px)])
        ⟨same_upd hDw, upd_same, ⟨[], rfl, rfl, nofun⟩, none, rfl⟩ ?_ ?_
      · rintro i acc σ H' hi ⟨sm, hD', ⟨wr, rfl, lw, hw⟩, v, rfl⟩
        refine ⟨_, rfl, _, rfl, _, _, rfl, rfl, ⟨3, 3, bdd, (show Int.natAbs _ < 2 ^ 3 by omega), by decide⟩, fun q1 e1 => ⟨_, _, rfl, rfl, fun q2 e2 => ?_⟩⟩
        obtain rfl : q2 = ((5 * i + 5 : Nat) : Int) := by rw [e2, e1]; push_cast; omega
        refine ⟨px, _, _, _, rfl, rfl, .inl (SqL.of (sm _ _ hx2)), at_ (by omega), _, rfl, _, _, rfl, rfl, by omega, fun y g0 g1 ey => ?_⟩
        obtain ⟨r, rfl⟩ : ∃ r : Nat, y = (r : Int) := ⟨y.toNat, by omega⟩
        refine ⟨hD', small1000 (by rw [List.length_map]; omega), sm.put hDw, upd_same, ⟨wr ++ [r], by rw [List.map_append]; rfl, by rw [List.length_append, lw]; rfl, fun x hx => ?_⟩, _, rfl⟩
        rcases List.mem_append.mp hx with h | h
        · exact hw x h
        · rw [List.mem_singleton.mp h]; omega
      · rintro acc σ H3 ⟨s3, hw3, ⟨wr, rfl, lw, hw⟩, v, rfl⟩
        refine k3 _ _ ?_
        have hD3 := s3 _ _ hD2
        have hl3 : ∀ x ∈ lv, LeafAt H3 x.1 x.2 ∧ x.2.Ok n := fun x h => ⟨(hl x h).1.gr (.of s3), (hl x h).2⟩
        have S13 := S12.trans s3
        have tab3 := tabOk_of tab S13
        have hst3 := hst.gr (.of S13)
        clear hl hD2 hx2 hx bx lx at_ a0 em k1 k2 k3 s1 s2 s3 S12
        refine cut fun R4 k4 => ⟨_, rfl, D, _, rfl, .inl (SqL.of hD3), fun y ey => ⟨_, rfl, ?_, ?_, fun D3 hDr => ?_⟩⟩
        · rw [List.length_map] at ey; omega
        · rw [List.length_map] at ey; omega
        obtain rfl : y = (m : Int) := by rw [ey, List.length_map, ll]
        have lz : (wr.zip (lv.map (·.2))).length = m := by rw [List.length_zip, List.length_map]; omega
        refine comp_range (lo := 0) (n := m) (fun i acc σ H' => Gr H3 H' ∧ TabOk (TT Ad) H' ∧ H' D3 = some (.lst acc) ∧ (∃ ts : List Addr, acc = ts.map V.ref ∧ ts.length = i ∧ RowsTo H' ts (wr.zip (lv.map (·.2)))) ∧ ∃ v, σ = [v, some (.ref D2), some (.ref D)])
          ⟨.of (same_upd hDr), tabOk_of tab3 (same_upd hDr), upd_same, ⟨[], rfl, rfl, nofun⟩, none, rfl⟩ ?_ ?_
        · rintro i acc σ H' hi ⟨gm, tb, hD', ⟨ts, rfl, lt, ht⟩, v, rfl⟩
          obtain ⟨r, er⟩ : ∃ r, wr[i]? = some r := ⟨_, List.getElem?_eq_getElem (by omega)⟩
          obtain ⟨⟨pl, t⟩, el⟩ : ∃ x, lv[i]? = some x := ⟨_, List.getElem?_eq_getElem (by omega)⟩
          have az : (wr.zip (lv.map (·.2)))[ts.length]? = some (r, t) := by
            rw [lt, List.getElem?_zip_eq_some, List.getElem?_map, el]; exact ⟨er, rfl⟩
          have i1 : atI (wr.map natV) (0 + (i : Int)) = some (natV r) := by rw [Int.zero_add]; exact atI_nat (by rw [List.getElem?_map, er]; rfl)
          have i2 : atI (lv.map fun x => V.ref x.1) (0 + (i : Int)) = some (.ref pl) := by rw [Int.zero_add]; exact atI_nat (by rw [List.getElem?_map, el]; rfl)
          obtain ⟨hlf, tok⟩ := hl3 _ (List.mem_of_getElem? el)
          refine ⟨_, rfl, _, rfl, D2, _, _, _, rfl, rfl, .inl (SqL.of (gm.lst hw3)), i1, _, rfl, _, rfl, D, _, _, _, rfl, rfl, .inl (SqL.of (gm.lst hD3)), i2, pl, t, rfl, hlf.gr gm, tb, fun fc H4 g4 tb4 hC => ⟨sz2, fun pt hpt => ?_⟩⟩
          have s5 := same_upd (o := .tup [natV r, .ref fc]) hpt
          have k5 : (upd H4 pt (.tup [natV r, .ref fc])) pt = some (.tup [natV r, .ref fc]) := upd_same
          generalize upd H4 pt (.tup [natV r, .ref fc]) = H5 at s5 k5 ⊢
          have g45 := g4.trans (.of s5)
          have hD5 := g45.lst hD'
          refine ⟨hD5, small1000 (by rw [List.length_map]; omega), Gr.put (gm.trans g45) hDr, tabOk_upd hD5 (tabOk_of tb4 s5), upd_same, ⟨ts ++ [pt], by rw [List.map_append]; rfl, by rw [List.length_append, lt]; rfl, ?_⟩, _, rfl⟩
          exact ((ht.gr g45).put az k5 (hC.gr (.of s5))).mono (lst_tups hD5) (lst_fz hD5)
        · rintro acc σ H4 ⟨g4, tab4, hD4, ⟨ts, rfl, lt, ht⟩, v, rfl⟩
          refine k4 _ _ ?_
          have hw4 := g4.lst hw3
          have hl4 : ∀ x ∈ lv, LeafAt H4 x.1 x.2 ∧ x.2.Ok n := fun x h => ⟨(hl3 x h).1.gr g4, (hl3 x h).2⟩
          have hv4 := g4.lst hD3
          have hst4 := hst3.gr g4
          have G4 : Gr H H4 := (Gr.of S13).trans g4
          have okr : ∀ rc ∈ wr.zip (lv.map (·.2)), rc.1 < n ∧ rc.2.Ok n := fun rc h => by
            obtain ⟨a, b⟩ := List.of_mem_zip h
            obtain ⟨x, hx, e⟩ := List.mem_map.mp b
            exact ⟨hw _ a, e ▸ (hl4 x hx).2⟩
          have nD : ∀ {b : Addr} {o : HO}, H3 b = some o → b ≠ D3 := fun {b o} e => ne_of_none e hDr
          have er : ∀ i, i < m → ∃ pl t r, wr[i]? = some r ∧ lv[i]? = some (pl, t) ∧ (wr.zip (lv.map (·.2)))[i]? = some (r, t) := fun i hi => by
            obtain ⟨r, er⟩ : ∃ r, wr[i]? = some r := ⟨_, List.getElem?_eq_getElem (by omega)⟩
            obtain ⟨⟨pl, t⟩, el⟩ : ∃ x, lv[i]? = some x := ⟨_, List.getElem?_eq_getElem (by omega)⟩
            exact ⟨pl, t, r, er, el, by rw [List.getElem?_zip_eq_some, List.getElem?_map, el]; exact ⟨er, rfl⟩⟩
          generalize wr.zip (lv.map (·.2)) = rows at ht lz okr er
          have nw : D2 ≠ D3 := nD hw3
          have nl : D ≠ D3 := nD hD3
          have nH : H D3 = none := by
            cases e : H D3 with
            | none => rfl
            | some o => rw [S13 _ _ e] at hDr; cases hDr
          clear hl3 tab3 hst3 hw3 hD3 S13 g4 k4 nD hDr
          refine cut fun R5 k5 => ⟨_, rfl, fun x dx fx fdx nx => ?_⟩
          have fx' : upd H4 dx (.own x) x = none := by rw [upd_ne nx.symm]; exact fx
          have s0 : Same H4 (upd (upd H4 dx (.own x)) x (.ins Ad.Ruled dx [])) := (same_upd fdx).trans (same_upd fx')
          refine ⟨x, dx, D3, _, rfl, upd_same, by rw [upd_ne nx]; exact upd_same, SqL.of (s0 _ _ hD4), fun pr H5 q1 q2 q3 q4 => ⟨rfl, k5 _ _ ?_⟩⟩
          have s5 : Same H4 H5 := fun b o e => q1 b o (s0 _ _ e) (ne_of_none e fx)
          have d5 : H5 dx = some (.own x) := q1 dx _ (by rw [upd_ne nx]; exact upd_same) nx
          have hD5 := s5 _ _ hD4
          have npr : pr ≠ D3 := fun z => by rw [z, s0 _ _ hD4] at q3; cases q3
          refine cut fun R6 k6 => ⟨_, rfl, .inl ⟨rfl, _, SqL.of hD5⟩, D3, _, rfl, rfl, hD5, k6 _ _ ?_⟩
          have G6 : Gr H (upd H5 D3 (.lst [])) := Gr.put (G4.trans (.of s5)) nH
          have tab6 : TabOk (TT Ad) (upd H5 D3 (.lst [])) := tabOk_upd hD5 (tabOk_of tab4 s5)
          have hx6 : (upd H5 D3 (.lst [])) x = some (.ins Ad.Ruled dx [("rows", .ref pr)]) := by rw [upd_ne (fun z => by rw [← z, fx] at hD4; cases hD4)]; exact q2
          have hd6 : (upd H5 D3 (.lst [])) dx = some (.own x) := by rw [upd_ne (fun z => by rw [← z, fdx] at hD4; cases hD4)]; exact d5
          have hr6 : (upd H5 D3 (.lst [])) pr = some (.lst (ts.map V.ref)) := by rw [upd_ne npr]; exact q4
          have ht6 : Rows (upd H5 D3 (.lst [])) ts rows := ⟨by omega, ((ht.gr (.of s5)).mono (lst_tups hD5) (lst_fz hD5))⟩
          have hw6 : (upd H5 D3 (.lst [])) D2 = some (.lst (wr.map natV)) := by rw [upd_ne nw]; exact s5 _ _ hw4
          have hv6 : (upd H5 D3 (.lst [])) D = some (.lst (lv.map fun x => V.ref x.1)) := by rw [upd_ne nl]; exact s5 _ _ hv4
          have hl6 : ∀ y ∈ lv, LeafAt (upd H5 D3 (.lst [])) y.1 y.2 ∧ y.2.Ok n := fun y h => ⟨((hl4 y h).1.gr (.of s5)).tups (lst_tups hD5), (hl4 y h).2⟩
          generalize upd H5 D3 (.lst []) = H6 at G6 tab6 hx6 hd6 hr6 ht6 hw6 hv6 hl6 ⊢
          have hst6 := hst.gr G6
          clear q1 q2 q3 q4 s0 s5 d5 hD5 npr hl4 hv4 hst4 hw4 tab4 G4 hst tab k5 k6 ht hD4 fx fdx fx' nx
          have kp : KpAt P w K mg base Ad.Keeper H6 x n (wishR rows) Ad.Ruled dx [("rows", .ref pr)] (sp_rwish Ad.Ruled) := kp_ruled T hx6 hd6 hr6 ht6 (by omega) n4 okr
          obtain ⟨a0, a1, a2, hps, st0, st1, st2⟩ := hst6.ex
          refine cut fun R7 k7 => ⟨sz0, fun pd hpd => k7 _ _ ?_⟩
          have s7 := same_upd (o := .lst []) hpd
          refine cut fun R8 k8 => ⟨_, rfl, pst, rfl, ⟨_, SqL.of (s7 _ _ hps)⟩, ?_⟩
          refine for_list (K := K) (a := pst) (xs := [.ref a0, .ref a1, .ref a2]) (fun i σ H' => Same H6 H' ∧ H' pd = some (.lst (([S0, S1, S2].take i).map fun S => natV (wishR rows S))) ∧ ∃ v9 : Option V, σ = [some (.int c), some (natV n), some (.ref pst), some (.ref px), some (.ref D), some (.ref D2), some (.ref D3), some (.ref x), some (.ref pd), v9])
            ⟨s7, upd_same, none, rfl⟩ (fun i σ H' _ e => SqL.of (e.1 _ _ hps)) ?_ ?_
          · rintro i y σ H' hy ⟨sm, hd', v9, rfl⟩
            obtain ⟨ai, S, rfl, ⟨fs, sa, lb, lw'⟩, nxt⟩ : ∃ ai S, y = .ref ai ∧ StS H6 n ai S ∧ [S0, S1, S2].take (i + 1) = [S0, S1, S2].take i ++ [S] := by
              match i, hy with
              | 0, hy => exact ⟨a0, S0, (Option.some.inj hy).symm, st0, rfl⟩
              | 1, hy => exact ⟨a1, S1, (Option.some.inj hy).symm, st1, rfl⟩
              | 2, hy => exact ⟨a2, S2, (Option.some.inj hy).symm, st2, rfl⟩
            refine ⟨_, rfl, .inl ⟨rfl, _, SqL.of hd'⟩, _, rfl, D, _, rfl, .inl (SqL.of (sm _ _ hv6)), fun y ey => ⟨_, rfl, ?_, ?_, fun D4 hD4 => ?_⟩⟩
            · rw [List.length_map] at ey; omega
            · rw [List.length_map] at ey; omega
            obtain rfl : y = (m : Int) := by rw [ey, List.length_map, ll]
            refine comp_range (lo := 0) (n := m) (fun j acc σ H'' => Same H' H'' ∧ H'' D4 = some (.lst acc) ∧ acc = (rwish (rows.take j) S.bs S.ws S.bu S.hp).map natV ∧ ∃ v, σ = [v, some (.ref D2), some (.ref ai), some (.ref D)])
              ⟨same_upd hD4, upd_same, rfl, none, rfl⟩ ?_ ?_
            · rintro j acc σ H'' hj ⟨sj, hDj, rfl, v, rfl⟩
              obtain ⟨pl, t, r, e1, e2, e3⟩ := er j hj
              have smj := sm.trans sj
              have i1 : atI (wr.map natV) (0 + (j : Int)) = some (natV r) := by rw [Int.zero_add]; exact atI_nat (by rw [List.getElem?_map, e1]; rfl)
              have i2 : atI (lv.map fun x => V.ref x.1) (0 + (j : Int)) = some (.ref pl) := by rw [Int.zero_add]; exact atI_nat (by rw [List.getElem?_map, e2]; rfl)
              obtain ⟨hlf, tok⟩ := hl6 _ (List.mem_of_getElem? e2)
              have nx := rwish_next (bs := S.bs) (ws := S.ws) (bu := S.bu) (hp := S.hp) e3
              have ln : ((rwish (rows.take j) S.bs S.ws S.bu S.hp).map natV).length ≤ 10 := by
                unfold rwish
                rw [List.length_map, List.length_map]
                exact Nat.le_trans (List.length_filter_le _ _) (by rw [List.length_take]; omega)
              refine ⟨_, rfl, _, rfl, D, _, _, _, rfl, rfl, .inl (SqL.of (smj _ _ hv6)), i2, _, rfl, pl, ai, t, S.bs, S.ws, fs, S.bu, S.hp, n, rfl, hlf.gr (.of smj), sa.same smj, lb, lw', n4, tok, _, rfl, ?_⟩
              cases q : t.val S.bs S.ws S.bu S.hp with
              | true =>
                rw [q, if_pos rfl] at nx
                exact iteT ⟨_, rfl, _, rfl, D2, _, _, _, rfl, rfl, .inl (SqL.of (smj _ _ hw6)), i1, hDj, small1000 (by omega), sj.put hD4, upd_same, nx.symm, _, rfl⟩
              | false =>
                rw [q, if_neg Bool.false_ne_true, List.append_nil] at nx
                exact iteF ⟨sj, hDj, nx.symm, _, rfl⟩
            · rintro acc σ H'' ⟨sj, hDj, rfl, v, rfl⟩
              rw [← lz, List.take_length] at hDj
              refine ⟨D4, _, rfl, SqL.of hDj, fun r hr => ?_, fun H3' s3' => ?_⟩
              · obtain ⟨rc, hm, rfl⟩ := List.mem_map.mp hr
                have := (okr rc (List.mem_filter.mp hm).1).1
                omega
              · have S3 := sj.trans s3'
                have hd3 := S3 _ _ hd'
                refine ⟨pd, _, _, rfl, rfl, hd3, small1000 (by rw [List.length_map, List.length_take]; show min i 3 ≤ 1000; omega), (sm.trans S3).put hpd, ?_, _, rfl⟩
                rw [nxt, List.map_append]
                exact upd_same
          · rintro σ H' ⟨sm, hd', v9, rfl⟩
            refine k8 _ _ ?_
            exact ⟨_, rfl, _, rfl, _, rfl, x, pst, pd, n, wishR rows, Ad.Ruled, dx, _, _, S0, S1, S2, rfl, kp.same sm, hst6.gr (.of sm), hd', fun H'' s'' => k H'' (G6.trans (.of (sm.trans s''))) (tabOk_of tab6 (sm.trans s''))⟩

theorem nd_put {κ : Type} [DecidableEq κ] {kvs : List (κ × V)} {k : κ} (v : V) (hn : (kvs.map (·.1)).Nodup) : ((putK kvs k v).map (·.1)).Nodup := by
  cases e : valV kvs k with
  | none => exact nd_putK v hn e
  | some u =>
    unfold putK
    split
    · rw [List.map_map]
      have : ((fun x : κ × V => x.1) ∘ fun kv : κ × V => if kv.1 = k then (kv.1, v) else kv) = (fun x => x.1) := by
        funext kv
        show (if kv.1 = k then (kv.1, v) else kv).1 = kv.1
        split <;> rfl
      rw [this]; exact hn
    · rename_i h
      exact absurd (by
        unfold valV at e
        obtain ⟨x, hx, _⟩ := Option.map_eq_some_iff.mp e
        have q2 := List.find?_some hx
        exact List.any_eq_true.mpr ⟨x, List.mem_of_find?_eq_some hx, q2⟩) h
theorem pairs_put {H : Hp} {kvs : List (Key × V)} {S : List (Nat × Int × Int)} {r : Nat} {p : Addr} {lo hi : Int} (h : pairsV H kvs S) (hp : H p = some (.tup [.int lo, .int hi])) :
    ∃ S', pairsV H (putK kvs (.inl (r : Int)) (.ref p)) S' ∧ (r, lo, hi) ∈ S' ∧ (∀ x ∈ S', x ∈ S ∨ x = (r, lo, hi)) ∧ S'.length ≤ S.length + 1 := by
  obtain ⟨hl, hv⟩ := h
  unfold putK
  split
  · rename_i ha
    refine ⟨S.map fun x => if x.1 = r then (r, lo, hi) else x, ⟨by rw [List.length_map, List.length_map]; exact hl, fun i kv x a b => ?_⟩, ?_, fun x hx => ?_, by rw [List.length_map]; omega⟩
    · rw [List.getElem?_map] at a b
      obtain ⟨kv', ea, rfl⟩ := Option.map_eq_some_iff.mp a
      obtain ⟨x', eb, rfl⟩ := Option.map_eq_some_iff.mp b
      obtain ⟨e1, q, e2, e3⟩ := hv i kv' x' ea eb
      by_cases c : x'.1 = r
      · rw [if_pos c, if_pos (by rw [e1, c])]
        exact ⟨by rw [e1, c], p, rfl, hp⟩
      · rw [if_neg c, if_neg (by rw [e1]; intro z; exact c (by have := Sum.inl.inj z; omega))]
        exact ⟨e1, q, e2, e3⟩
    · obtain ⟨kv, hm, hk⟩ := List.any_eq_true.mp ha
      obtain ⟨i, hi', rfl⟩ := List.getElem_of_mem hm
      obtain ⟨x, ex⟩ : ∃ x, S[i]? = some x := ⟨_, List.getElem?_eq_getElem (by omega)⟩
      obtain ⟨e1, _⟩ := hv i _ x (List.getElem?_eq_getElem hi') ex
      have c : x.1 = r := by
        have := of_decide_eq_true hk
        rw [e1] at this
        have := Sum.inl.inj this
        omega
      exact List.mem_map.mpr ⟨x, List.mem_of_getElem? ex, if_pos c⟩
    · obtain ⟨y, hy, rfl⟩ := List.mem_map.mp hx
      split
      · exact .inr rfl
      · exact .inl hy
  · refine ⟨S ++ [(r, lo, hi)], ⟨by rw [List.length_append, List.length_append, hl]; rfl, fun i kv x a b => ?_⟩, by simp, fun x hx => ?_, by rw [List.length_append]; exact Nat.le_refl _⟩
    · rcases Nat.lt_or_ge i kvs.length with q | q
      · rw [List.getElem?_append_left q] at a
        rw [List.getElem?_append_left (by omega)] at b
        exact hv i kv x a b
      · rw [List.getElem?_append_right q] at a
        rw [List.getElem?_append_right (by omega), ← hl] at b
        cases e : i - kvs.length with
        | zero => rw [e] at a b; cases a; cases b; exact ⟨rfl, p, rfl, hp⟩
        | succ j => rw [e] at a; cases a
    · rcases List.mem_append.mp hx with h | h
      · exact .inl h
      · exact .inr (List.mem_singleton.mp h)
theorem dk_tups {H : Hp} {D : Addr} {kvs : List (Key × V)} {o : HO} (h : H D = some (.dK kvs)) : ∀ b xs, H b = some (.tup xs) → upd H D o b = some (.tup xs) := fun b xs e => by
  rw [upd_ne (fun z => by rw [z, h] at e; cases e)]; exact e
def wishS (S : List (Nat × Int × Int)) (sv : Sv) : Nat := orB (swish S sv.bs sv.bu) 0
theorem kp_sills (T : Txt K mg Ad) {H : Hp} {a n : Nat} {kvs : List (Key × V)} {S : List (Nat × Int × Int)} {dx pd : Addr} (ha : H a = some (.ins Ad.Sills dx [("sills", .ref pd)])) (hd : H dx = some (.own a)) (hp : SlD H pd kvs S) (nd : (kvs.map (·.1)).Nodup) (l10 : S.length ≤ 10) (n4 : n ≤ 4) (ok : ∀ r ∈ S, r.1 < n) :
    KpAt P w K mg base Ad.Keeper H a n (wishS S) Ad.Sills dx [("sills", .ref pd)] (sp_swish Ad.Sills) where
  at_ := ha
  l1 := rfl
  l2 := rfl
  l3 := rfl
  l4 := rfl
  cl := T.cl_Sills
  ty := fun e => .ins e T.cl_Sills T.ic_Sills T.gs T.tk T.mo_Sills
  kk := T.kk_Sills
  mi := okm_Sills_minds T
  si := okm_Sills_size T
  af := okm_Sills_after T
  wi := okm_Sills_wish T
  wh := fun {H' ps sv Q} s1 hS k => by
    obtain ⟨fs, st, lb, lw⟩ := hS
    exact ⟨a, _, ps, kvs, S, sv.bs, sv.ws, fs, sv.bu, sv.hp, n, rfl, ⟨dx, pd, s1 _ _ ha, s1 _ _ hd, s1 _ _ hp.1, hp.2.gr fun b xs e => s1 _ _ e⟩, nd, st, lb, n4, l10, ok, k⟩
def sp_sills : Sp := fun vs H Q _ => ∃ c : Int, ∃ n pst S0 S1 S2, vs = [.int c, natV n, .ref pst] ∧ 1 ≤ n ∧ n ≤ 4 ∧ Sts H n pst S0 S1 S2 ∧ ∀ H', Same H H' → Q (.bl true) H'
set_option maxHeartbeats 2000000 in
theorem ok_law_sills (T : Txt K mg Ad) : Def P w K mg base "_law_sills" 9 ["_law_cell", "_law_rooms", "_law_states"] sp_sills := by
  refine T.d_law_sills.def sc_law_sills (fun vs H Q E h => ?_) (fun _ _ _ _ _ _ us hl => match us, hl with | [_, _, _], _ => rfl) (fun f cdv A outer s H vs Q E hr h => ?_)
  · obtain ⟨c, n, pst, S0, S1, S2, rfl, _⟩ := h
    rfl
  · obtain ⟨c, n, pst, S0, S1, S2, rfl, n1, n4, hst, k⟩ := h
    refine ⟨_, (pss_cons (ps_set (i := 3) sc_law_sills.nd rfl (by first | exact Or.inl rfl | exact Or.inr rfl) (pe_callD (ok_law_stream T) (hr.mono (by decide)) (pa_cons (pv 0) (pa_cons pe_int pa_nil))))
      (pss_cons (ps_set (i := 4) sc_law_sills.nd rfl (by first | exact Or.inl rfl | exact Or.inr rfl) pe_dnewK)
      (pss_cons (ps_for PassesOwn.never rfl (pi_range1 rfl T.n_range (pa_cons (pv 1) pa_nil)) (pg_name (i := 5) sc_law_sills.nd rfl (by first | exact Or.inl rfl | exact Or.inr rfl)) (pss_one (ps_if (pt_cmpR op_gt (pe_op op_modL (pe_ix ix_any (pv 3) (pv 5) (fun _ _ => rfl)) pe_int) pe_int (nomark _)) (pss_one (ps_dput (hu_of hr) (pv 4) (pe_op op_modL (pe_op op_addL (pv 5) (pe_ix ix_any (pv 3) pe_int (fun _ _ => rfl))) (pv 1)) (pe_callD (ok_law_sill T) (hr.mono (by decide)) (pa_cons (pe_slice sl_list (pv 3) (po_some (pe_op op_addL pe_int (pe_op op_mulL pe_int (pv 5)))) po_none) pa_nil)) rfl)) pss_nil)))
      (pss_cons (ps_cut (ps_if (PW.pt (pw_and (pt_cmpR op_eq (pe_op op_modL (pe_ix ix_any (pv 3) pe_int (fun _ _ => rfl)) pe_int) pe_int (nomark _)) (pw_and1 (pt_cmpR op_gt (pe_callB call_lenD (by rfl) T.n_len bt_len (pa_cons (pv 4) pa_nil)) pe_int (nomark _))))) (pss_cons (ps_set (i := 6) sc_law_sills.nd rfl (by first | exact Or.inl rfl | exact Or.inr rfl) (pe_ix ix_any (pe_callTy (call_list_ofD rfl) (by rfl) T.n_list bt_list (pa_cons (pv 4) pa_nil)) (pe_op op_modL (pe_ix ix_any (pv 3) pe_int (fun _ _ => rfl)) (pe_callB call_lenD (by rfl) T.n_len bt_len (pa_cons (pv 4) pa_nil))) (fun _ _ => rfl)))
      (pss_cons (ps_set (i := 7) sc_law_sills.nd rfl (by first | exact Or.inl rfl | exact Or.inr rfl) (pe_callTy call_dict_ofK (by rfl) T.n_dict bt_dict (pa_cons (pv 4) pa_nil)))
      (pss_cons (ps_dput (hu_of hr) (pv 7) (pv 6) (pe_tup (pa_cons (pe_op op_addL (pe_op op_addL (pe_ix ix_any (pe_dget (hu_of hr) (pv 4) (pv 6) (fun _ _ => rfl)) pe_int (fun _ _ => rfl)) pe_int) (pe_op op_modL (pe_ix ix_any (pv 3) pe_int (fun _ _ => rfl)) pe_int)) (pa_cons (pe_ix ix_any (pe_dget (hu_of hr) (pv 4) (pv 6) (fun _ _ => rfl)) pe_int (fun _ _ => rfl)) pa_nil))) rfl)
      (pss_one (ps_if (pt_not (pt_val (pe_callD (ok_law_refused T) (hr.mono (by decide)) (pa_cons (pv 7) pa_nil)))) (pss_one (ps_ret pe_bl)) pss_nil))))) pss_nil))
      (pss_cons (ps_set (i := 8) sc_law_sills.nd rfl (by first | exact Or.inl rfl | exact Or.inr rfl) (pe_callTy call_dict_ofK (by rfl) T.n_dict bt_dict (pa_cons (pv 4) pa_nil)))
      (pss_cons (ps_set (i := 9) sc_law_sills.nd rfl (by first | exact Or.inl rfl | exact Or.inr rfl) (pe_makeD T.mk_Sills (okm_Sills___init__ T) .nil (hr.mono (by decide)) T.m_Sills (pa_cons (pv 8) pa_nil)))
      (pss_cons (ps_if (pt_cmpR (op_neDK hr.units) (pv 8) (pv 4) (nomark _)) (pss_one (ps_ret pe_bl)) pss_nil)
      (pss_cons (ps_expr (pe_bm0 PySem.F.plainAttrs_dict PySem.F.slot_dict_clear PySem.F.type_dict_clear mt_clearD (pv 8)))
      (pss_one (ps_ret (pe_callD (ok_law_is_plain T) (hr.mono (by decide)) (pa_cons (pv 9) (pa_cons (pv 2) (pa_cons (pe_lc ["_law_state_here"] ["_law_sills_here"] [4] (.cons ⟨rfl, rfl, .inl rfl⟩ .nil) rfl (pi_list (pv 2)) (fun _ _ _ _ _ => (pg_name (i := 0) (show (["_law_state_here", "_law_sills_here"] : List Str).Nodup by decide +kernel) rfl (by first | exact Or.inl rfl | exact Or.inr rfl))) (fun _ _ _ _ _ => pif_nil) (fun _ _ _ _ _ => (pe_callD (ok_law_by_sills T) (hr.mono (by decide)) (pa_cons (pv 1) (pa_cons (pv 0) pa_nil)))) rfl (by decide +kernel) (by decide +kernel) (by decide +kernel)) pa_nil)))))))))))))), ?_⟩
    refine cut fun R1 k1 => ⟨_, rfl, c, 20, rfl, by decide, fun px xs H1 s1 hx lx bx => k1 _ _ ?_⟩
    have at_ : ∀ {j : Nat}, j < 20 → atI (xs.map V.int) (j : Int) = some (.int (xs.getD j 0)) := fun {j} h => at_int lx h
    refine cut fun R2 k2 => fun pd hpd => k2 _ _ ?_
    have s2 := same_upd (o := .dK []) hpd
    refine cut fun R3 k3 => ⟨_, rfl, _, rfl, by omega, by omega, ?_⟩
    refine for_range (lo := 0) (n := n) (fun i σ H' => Same H1 H' ∧ (∃ kvs S, H' pd = some (.dK kvs) ∧ pairsV H' kvs S ∧ (kvs.map (·.1)).Nodup ∧ S.length ≤ i ∧ ∀ r ∈ S, r.1 < n ∧ r.2.1 ≤ r.2.2) ∧ ∃ v5 : Option V, σ = [some (.int c), some (natV n), some (.ref pst), some (.ref px), some (.ref pd), v5, none, none, none, none])
      ⟨s2, ⟨[], [], upd_same, ⟨rfl, fun i kv x a => by cases a⟩, by simp, Nat.le_refl _, nofun⟩, none, rfl⟩ ?_ ?_
    · rintro i σ H' hi ⟨sm, ⟨kvs, S, hd, hv, nd, ln, ok⟩, v5, rfl⟩
      have ai : atI (xs.map V.int) (0 + (i : Int)) = some (.int (xs.getD i 0)) := by rw [Int.zero_add]; exact at_ (by omega)
      refine ⟨_, rfl, _, rfl, px, _, _, _, rfl, rfl, .inl (SqL.of (sm _ _ hx)), ai, _, _, rfl, rfl, by decide, fun y y0 y1 ey => ⟨_, _, rfl, rfl, _, rfl, ite3 (fun q => ?_) fun q => ?_⟩⟩
      · refine ⟨_, rfl, _, rfl, _, _, rfl, rfl, ⟨2, 2, bdd, (show Int.natAbs _ < 2 ^ 2 by omega), by decide⟩, fun q1 e1 => ⟨_, _, rfl, rfl, fun q2 e2 => ?_⟩⟩
        obtain rfl : q2 = ((5 + 3 * i : Nat) : Int) := by rw [e2, e1]; push_cast; omega
        refine ⟨_, rfl, px, _, rfl, SqL.of (sm _ _ hx), fun p2 hp2 => ?_⟩
        rw [cut_from (by omega)]
        have s3 := same_upd (o := .lst ((xs.drop (5 + 3 * i)).map V.int)) hp2
        refine ⟨p2, _, rfl, SqL.of upd_same, by rw [List.length_drop]; omega, fun z hz => bx z (List.mem_of_mem_drop hz), fun t H3 lo hi s4 ht lh => ?_⟩
        have s34 := s3.trans s4
        have S3 := sm.trans s34
        have a4 : atI (xs.map V.int) 4 = some (.int (xs.getD 4 0)) := at_ (j := 4) (by decide)
        refine ⟨_, rfl, _, rfl, _, rfl, px, _, _, _, rfl, rfl, .inl (SqL.of (S3 _ _ hx)), a4, _, _, rfl, rfl, fun q3 e3 => ⟨_, rfl, _, _, rfl, rfl, by omega, fun q4 g0 g1 e4 => ?_⟩⟩
        obtain ⟨r, rfl⟩ : ∃ r : Nat, q4 = (r : Int) := ⟨q4.toNat, by omega⟩
        have hd3 := s34 _ _ hd
        have hv3 := hv.gr fun b xs e => s34 _ _ e
        obtain ⟨S', hv', mm, sub, ln'⟩ := pairs_put (r := r) hv3 ht
        refine ⟨pd, _, rfl, DPut.k (k := .inl (r : Int)) hd3 (small1000 (by rw [hv.1]; omega)), S3.put hpd, ⟨_, S', upd_same, hv'.gr (dk_tups hd3), nd_put _ nd, by omega, fun x hx => ?_⟩, _, rfl⟩
        rcases sub x hx with h | h
        · exact ok x h
        · rw [h]; exact ⟨by omega, lh⟩
      · exact ⟨sm, ⟨kvs, S, hd, hv, nd, by omega, ok⟩, _, rfl⟩
    · rintro σ H2 ⟨s2, ⟨kvs, S, hd, hv, nd, ln, ok⟩, v5, rfl⟩
      refine k3 _ _ ?_
      have S12 := s1.trans s2
      have hx2 := s2 _ _ hx
      have hlen : kvs.length ≤ 4 := by rw [hv.1]; omega
      clear hx s1 s2 hpd k1 k2 k3
      refine cut fun R4 k4 => ⟨fun σ' H' => (∃ v6 v7, σ' = [some (.int c), some (natV n), some (.ref pst), some (.ref px), some (.ref pd), v5, v6, v7, none, none]) ∧ Same H2 H', ?_, ?_⟩
      · have a18 : atI (xs.map V.int) 18 = some (.int (xs.getD 18 0)) := at_ (j := 18) (by decide)
        have a19 : atI (xs.map V.int) 19 = some (.int (xs.getD 19 0)) := at_ (j := 19) (by decide)
        have a17 : atI (xs.map V.int) 17 = some (.int (xs.getD 17 0)) := at_ (j := 17) (by decide)
        refine ⟨_, rfl, px, _, _, _, rfl, rfl, .inl (SqL.of hx2), a18, _, _, rfl, rfl, by decide, fun y y0 y1 ey => ⟨rfl, _, rfl, ite3 (fun q => ?_) fun q => ?_⟩⟩
        · refine ⟨_, rfl, pd, kvs, rfl, hd, _, _, rfl, rfl, _, rfl, ite3 (fun q2 => ?_) fun q2 => ?_⟩
          · have q2 : (0 : Int) < (kvs.length : Int) := q2
            refine ⟨_, rfl, pd, kvs, rfl, .inl hd, fun pl hpl => ?_⟩
            have s3 := same_upd (o := .lst (kvs.map fun kv => kV kv.1)) hpl
            refine ⟨_, rfl, px, _, _, _, rfl, rfl, .inl (SqL.of (s3 _ _ hx2)), a19, _, rfl, pd, kvs, rfl, s3 _ _ hd, _, _, rfl, rfl, q2, fun y2 g0 g1 e2 => ?_⟩
            obtain ⟨j, rfl⟩ : ∃ j : Nat, y2 = (j : Int) := ⟨y2.toNat, by omega⟩
            obtain ⟨kv, hk⟩ : ∃ kv, kvs[j]? = some kv := ⟨_, List.getElem?_eq_getElem (by omega)⟩
            obtain ⟨r, hr2⟩ : ∃ r, S[j]? = some r := ⟨_, List.getElem?_eq_getElem (by rw [← hv.1]; omega)⟩
            obtain ⟨e, t, e3, ht⟩ := hv.2 j kv r hk hr2
            have vk := val_at nd hk
            rw [e, e3] at vk
            have al : atI (kvs.map fun kv => kV kv.1) (j : Int) = some (natV r.1) := by rw [atI_nat (by rw [List.getElem?_map, hk]; rfl)]; show some (kV kv.1) = _; rw [e]; rfl
            refine ⟨pl, _, _, _, rfl, rfl, .inl (SqL.of upd_same), al, ?_⟩
            refine ⟨_, rfl, pd, kvs, rfl, .inl (s3 _ _ hd), fun pw hpw => ?_⟩
            have s4 := s3.trans (same_upd (o := .dK kvs) hpw)
            have k4w : (upd (upd H2 pl (.lst (kvs.map fun kv => kV kv.1))) pw (.dK kvs)) pw = some (.dK kvs) := upd_same
            have fw : H2 pw = none := by
              cases z : H2 pw with
              | none => rfl
              | some o => rw [s3 _ _ z] at hpw; cases hpw
            generalize upd (upd H2 pl (.lst (kvs.map fun kv => kV kv.1))) pw (.dK kvs) = H4 at s4 k4w ⊢
            refine ⟨_, rfl, _, rfl, pd, _, rfl, .inl ⟨kvs, .inl r.1, .inl (s4 _ _ hd), rfl, vk.symm⟩, ?_⟩
            have ht4 := s4 _ _ ht
            refine ⟨t, _, _, _, rfl, rfl, .inr (SqT.of ht4), rfl, _, _, rfl, rfl, fun z1 ez1 => ?_⟩
            refine ⟨_, rfl, px, _, _, _, rfl, rfl, .inl (SqL.of (s4 _ _ hx2)), a17, _, _, rfl, rfl, by decide, fun z2 h0 h1 ez2 => ⟨_, _, rfl, rfl, fun z3 ez3 => ?_⟩⟩
            refine ⟨_, rfl, _, rfl, pd, _, rfl, .inl ⟨kvs, .inl r.1, .inl (s4 _ _ hd), rfl, vk.symm⟩, t, _, _, _, rfl, rfl, .inr (SqT.of ht4), rfl, sz2, fun pt hpt => ?_⟩
            have s5 := same_upd (o := .tup [.int z3, .int r.2.2]) hpt
            have ht5 : (upd H4 pt (.tup [.int z3, .int r.2.2])) pt = some (.tup [.int z3, .int r.2.2]) := upd_same
            generalize upd H4 pt (.tup [.int z3, .int r.2.2]) = H5 at s5 ht5 ⊢
            have S25 := s4.trans s5
            have hw5 := s5 _ _ k4w
            obtain ⟨S', hv', mm, sub, ln'⟩ := pairs_put (r := r.1) (hv.gr fun b xs e => S25 _ _ e) ht5
            refine ⟨_, rfl, _, rfl, pw, _, rfl, DPut.k (k := .inl (r.1 : Int)) hw5 (small1000 (by omega)), ?_⟩
            refine ⟨_, rfl, pw, _, S', rfl, ⟨upd_same, hv'.gr (dk_tups hw5)⟩, ⟨_, mm, by show r.2.2 < z3; omega⟩, fun H' k' => ⟨_, rfl, iteF ⟨⟨_, _, rfl⟩, fun b o hb => k' b o ?_ (ne_of_none hb fw)⟩⟩⟩
            rw [upd_ne (ne_of_none hb fw)]
            exact S25 _ _ hb
          · exact ⟨⟨_, _, rfl⟩, Same.refl _⟩
        · exact ⟨⟨_, _, rfl⟩, Same.refl _⟩
      · rintro σ' H3 ⟨⟨v6, v7, rfl⟩, s3⟩
        refine k4 _ _ ?_
        have hd3 := s3 _ _ hd
        have hv3 := hv.gr fun b xs e => s3 _ _ e
        have S13 := S12.trans s3
        clear hd hv s3 S12 hx2 k4
        refine cut fun R5 k5 => ⟨_, rfl, pd, kvs, rfl, .inl hd3, fun ph hph => k5 _ _ ?_⟩
        have s4 := same_upd (o := .dK kvs) hph
        have fh : H ph = none := by
          cases z : H ph with
          | none => rfl
          | some o => rw [S13 _ _ z] at hph; cases hph
        have nph : pd ≠ ph := ne_of_none hd3 hph
        have hh4 : (upd H3 ph (.dK kvs)) ph = some (.dK kvs) := upd_same
        have tp4 : ∀ b xs, H3 b = some (.tup xs) → upd H3 ph (.dK kvs) b = some (.tup xs) := fun b xs e => s4 _ _ e
        generalize upd H3 ph (.dK kvs) = H4 at s4 hh4 tp4 ⊢
        refine cut fun R6 k6 => ⟨_, rfl, fun x dx fx fdx nx => ?_⟩
        have fx' : upd H4 dx (.own x) x = none := by rw [upd_ne nx.symm]; exact fx
        have s0 : Same H4 (upd (upd H4 dx (.own x)) x (.ins Ad.Sills dx [])) := (same_upd fdx).trans (same_upd fx')
        refine ⟨x, dx, ph, kvs, S, rfl, upd_same, by rw [upd_ne nx]; exact upd_same, ⟨s0 _ _ hh4, hv3.gr fun b xs e => s0 _ _ (tp4 _ _ e)⟩, fun r h => (ok r h).2, fun pk H5 q1 q2 q3 q4 => ⟨rfl, k6 _ _ ?_⟩⟩
        have s5 : Same H4 H5 := fun b o e => q1 b o (s0 _ _ e) (ne_of_none e fx)
        have d5 : H5 dx = some (.own x) := q1 dx _ (by rw [upd_ne nx]; exact upd_same) nx
        have hh5 := s5 _ _ hh4
        have hd5 := s5 _ _ (s4 _ _ hd3)
        have npk : pk ≠ ph := fun z => by rw [z, s0 _ _ hh4] at q3; cases q3
        have refs : ∀ kv ∈ kvs, ∃ p, kv.2 = .ref p := fun kv hm => by
          obtain ⟨i, hi, rfl⟩ := List.getElem_of_mem hm
          obtain ⟨_, p, e, _⟩ := hv3.2 i _ _ (List.getElem?_eq_getElem hi) (List.getElem?_eq_getElem (show i < S.length by rw [← hv3.1]; exact hi))
          exact ⟨p, e⟩
        refine cut fun R7 k7 => ⟨_, rfl, _, rfl, ph, pd, kvs, rfl, rfl, hh5, hd5, refs, _, rfl, iteF (k7 _ _ ?_)⟩
        refine cut fun R8 k8 => ⟨_, rfl, .inr (.inr (.inl ⟨rfl, .inl ⟨_, hh5⟩⟩)), ph, _, rfl, rfl, hh5, k8 _ _ ?_⟩
        have S6 : Same H (upd H5 ph (.dK [])) := ((S13.trans s4).trans s5).put fh
        have hx6 : (upd H5 ph (.dK [])) x = some (.ins Ad.Sills dx [("sills", .ref pk)]) := by rw [upd_ne (fun z => by rw [← z, fx] at hh4; cases hh4)]; exact q2
        have hd6 : (upd H5 ph (.dK [])) dx = some (.own x) := by rw [upd_ne (fun z => by rw [← z, fdx] at hh4; cases hh4)]; exact d5
        have hk6 : (upd H5 ph (.dK [])) pk = some (.dK kvs) := by rw [upd_ne npk]; exact q4
        have hp6 : (upd H5 ph (.dK [])) pd = some (.dK kvs) := by rw [upd_ne nph]; exact hd5
        have hv6 : pairsV (upd H5 ph (.dK [])) kvs S := hv3.gr fun b xs e => dk_tups hh5 _ _ (s5 _ _ (tp4 _ _ e))
        generalize upd H5 ph (.dK []) = H6 at S6 hx6 hd6 hk6 hp6 hv6 ⊢
        have hst6 := hst.gr (.of S6)
        have kp : KpAt P w K mg base Ad.Keeper H6 x n (wishS S) Ad.Sills dx [("sills", .ref pk)] (sp_swish Ad.Sills) := kp_sills T hx6 hd6 ⟨hk6, hv6⟩ nd (by omega) n4 fun r h => (ok r h).1
        obtain ⟨a0, a1, a2, hps, st0, st1, st2⟩ := hst6.ex
        refine ⟨_, rfl, _, rfl, _, rfl, pst, rfl, ⟨_, SqL.of hps⟩, fun D hD => ?_⟩
        refine comp_list (K := K) (a := pst) (xs := [.ref a0, .ref a1, .ref a2]) (fun i acc σ H' => Same H6 H' ∧ H' D = some (.lst acc) ∧ acc = (([S0, S1, S2].take i).map fun sv => natV (wishS S sv)) ∧ ∃ v : Option V, σ = [v, some (.ref pd)])
          ⟨same_upd hD, upd_same, rfl, none, rfl⟩ (fun i acc σ H' _ e => SqL.of (e.1 _ _ hps)) ?_ ?_
        · rintro i y acc σ H' hy ⟨sm, hD', rfl, v, rfl⟩
          obtain ⟨ai, sv, rfl, hS, nxt⟩ : ∃ ai sv, y = .ref ai ∧ StS H6 n ai sv ∧ [S0, S1, S2].take (i + 1) = [S0, S1, S2].take i ++ [sv] := by
            match i, hy with
            | 0, hy => exact ⟨a0, S0, (Option.some.inj hy).symm, st0, rfl⟩
            | 1, hy => exact ⟨a1, S1, (Option.some.inj hy).symm, st1, rfl⟩
            | 2, hy => exact ⟨a2, S2, (Option.some.inj hy).symm, st2, rfl⟩
          refine ⟨_, rfl, _, rfl, pd, kvs, S, ai, n, sv, rfl, ⟨sm _ _ hp6, hv6.gr fun b xs e => sm _ _ e⟩, nd, hS.gr (.of sm), n4, by omega, ok, fun H'' s'' => ?_⟩
          refine ⟨s'' _ _ hD', small1000 (by rw [List.length_map, List.length_take]; show min i 3 ≤ 1000; omega), (sm.trans s'').put hD, upd_same, by rw [nxt, List.map_append]; rfl, _, rfl⟩
        · rintro acc σ H' ⟨sm, hD', rfl, v, rfl⟩
          exact ⟨x, pst, D, n, wishS S, Ad.Sills, dx, _, _, S0, S1, S2, rfl, kp.same sm, hst6.gr (.of sm), hD', fun H'' s'' => k H'' (S6.trans (sm.trans s''))⟩

theorem tabOk_start {H : Hp} (h : ∀ t ∈ tabsOf Ad, H t = some (.tbl #[])) : TabOk (TT Ad) H := fun e he => .inl (h e.1 (List.mem_map.mpr ⟨e, he, rfl⟩ : e.1 ∈ (TT Ad).map (·.1)))
theorem stAt_tups {H H' : Hp} {ps : Addr} {bs ws fs : List Int} {bu hp : Int} (h : StAt H ps bs ws fs bu hp) (g : ∀ b xs, H b = some (.tup xs) → H' b = some (.tup xs)) : StAt H' ps bs ws fs bu hp := by
  obtain ⟨pb, pw, pf, h1, h2, h3, h4⟩ := h
  exact ⟨pb, pw, pf, g _ _ h1, g _ _ h2, g _ _ h3, g _ _ h4⟩
theorem sts_of {H : Hp} {n : Nat} {ps : Addr} {bs ws fs : List Int} {bu hp : Int} (h : StAt H ps bs ws fs bu hp) (h0 : 0 ≤ bu) (lb : bs.length = n) (lw : ws.length = n) : ∃ S, StS H n ps S := by
  obtain ⟨b, rfl⟩ : ∃ b : Nat, bu = (b : Int) := ⟨bu.toNat, by omega⟩
  exact ⟨⟨bs, ws, b, hp⟩, fs, h, lb, lw⟩
theorem kp_keeper (T : Txt K mg Ad) {H : Hp} {a n : Nat} {dx : Addr} (ha : H a = some (.ins Ad.Keeper dx [])) :
    KpAt P w K mg base Ad.Keeper H a n (fun _ => 0) Ad.Keeper dx [] sp_nil3 where
  at_ := ha
  l1 := rfl
  l2 := rfl
  l3 := rfl
  l4 := rfl
  cl := T.cl_Keeper
  ty := fun e => .ins e T.cl_Keeper T.ic_Keeper T.gs T.tk T.mo_Keeper
  kk := T.kk_Keeper
  mi := okm_Keeper_minds T
  si := okm_Keeper_size T
  af := okm_Keeper_after T
  wi := (okm_Keeper_wish T).mono (by decide)
  wh := fun {H' ps S Q} s1 hS k => ⟨_, _, _, rfl, k H' (Same.refl _)⟩
set_option maxHeartbeats 2000000 in
theorem ok_law {f : Addr} {fd : FuncData} (F : Fun K "law" "law" s_law f fd) (T : Txt K mg Ad) (B : Bs K mg base) : FnOk P w K mg base CX0 10 f fd ["_law_script"] (sp_lawT K (tabsOf Ad)) := by
  refine F.ok sc_law (fun vs H Q E h => ?_) (fun cdv A outer s H vs Q E hr h => ?_)
  · obtain ⟨a, ns, rfl, _⟩ := h
    rfl
  · obtain ⟨a, ns, rfl, hS, hlen, hbits, hT, k⟩ := h
    have tab := tabOk_start hT
    refine ⟨_, (pss_cons (ps_for PassesOwn.never rfl (pi_range1 rfl T.n_range (pa_cons (pe_op op_addL pe_int (pe_op op_fdivL (pe_callB call_lenL (by rfl) T.n_len bt_len (pa_cons (pe_slice sl_list (pv 0) po_none (po_some pe_int)) pa_nil)) pe_int)) pa_nil)) (pg_name (i := 1) sc_law.nd rfl (by first | exact Or.inl rfl | exact Or.inr rfl)) (pss_cons (ps_set (i := 2) sc_law.nd rfl (by first | exact Or.inl rfl | exact Or.inr rfl) (pe_callD (ok_law_stream T) (hr.mono (by decide)) (pa_cons (pe_callD (ok_law_cell_at T) (hr.mono (by decide)) (pa_cons (pv 0) (pa_cons (pe_op op_mulL pe_int (pv 1)) pa_nil))) (pa_cons pe_int pa_nil))))
      (pss_cons (ps_set (i := 3) sc_law.nd rfl (by first | exact Or.inl rfl | exact Or.inr rfl) (pe_op op_addL pe_int (pe_op op_modL (pe_ix ix_any (pv 2) pe_int (fun _ _ => rfl)) pe_int)))
      (pss_cons (ps_lc (yi := 4) ["_law_j"] ["_law_rooms", "_law_script", "_law_k"] [3, 0, 1] (.cons ⟨rfl, rfl, .inl rfl⟩ (.cons ⟨rfl, rfl, .inl rfl⟩ (.cons ⟨rfl, rfl, .inl rfl⟩ .nil))) rfl (pi_range1 rfl T.n_range (pa_cons pe_int pa_nil)) (fun _ _ _ _ _ => (pg_name (i := 0) (show (["_law_j", "_law_rooms", "_law_script", "_law_k"] : List Str).Nodup by decide +kernel) rfl (by first | exact Or.inl rfl | exact Or.inr rfl))) (fun _ _ _ _ _ => pif_nil) (fun _ _ _ _ _ => (pe_callD (ok_law_state T) (hr.mono (by decide)) (pa_cons (pe_callD (ok_law_stream T) (hr.mono (by decide)) (pa_cons (pe_op op_addL (pe_op op_addL (pe_callD (ok_law_cell_at T) (hr.mono (by decide)) (pa_cons (pv 2) (pa_cons (pe_op op_mulL pe_int (pv 3)) pa_nil))) (pe_op op_mulL (pv 0) (pv 0))) pe_int) (pa_cons pe_int pa_nil))) (pa_cons (pv 1) pa_nil)))) rfl (by decide +kernel) (by decide +kernel) (by decide +kernel) sc_law.nd rfl (by first | exact Or.inl rfl | exact Or.inr rfl) rfl)
      (pss_cons (ps_if (pt_not (pt_val (pe_callD (ok_law_is_plain T) (hr.mono (by decide)) (pa_cons (pe_makeN ⟨T.mk_Keeper.makes, T.in_Keeper, T.mk_Keeper.kp⟩ T.m_Keeper) (pa_cons (pv 4) (pa_cons (pe_lst (pa_cons pe_int (pa_cons pe_int (pa_cons pe_int pa_nil)))) pa_nil)))))) (pss_one (ps_ret pe_bl)) pss_nil)
      (pss_cons (ps_if (pt_not (pt_val (pe_callD (ok_law_ruled T B) (hr.mono (by decide)) (pa_cons (pe_callD (ok_law_cell_at T) (hr.mono (by decide)) (pa_cons (pv 0) (pa_cons (pe_op op_addL (pe_op op_mulL pe_int (pv 1)) pe_int) pa_nil))) (pa_cons (pv 3) (pa_cons (pv 4) pa_nil)))))) (pss_one (ps_ret pe_bl)) pss_nil)
      (pss_one (ps_if (pt_not (pt_val (pe_callD (ok_law_sills T) (hr.mono (by decide)) (pa_cons (pe_callD (ok_law_cell_at T) (hr.mono (by decide)) (pa_cons (pv 0) (pa_cons (pe_op op_addL (pe_op op_mulL pe_int (pv 1)) pe_int) pa_nil))) (pa_cons (pv 3) (pa_cons (pv 4) pa_nil)))))) (pss_one (ps_ret pe_bl)) pss_nil))))))))
      (pss_one (ps_ret pe_bl))), ?_⟩
    refine cut fun R1 k1 => ⟨_, rfl, 59, rfl, a, _, rfl, hS, fun ps hps => ⟨_, _, rfl, .inl (SqL.of upd_same), fun c ec => ⟨_, _, rfl, rfl, ⟨by decide, bdd⟩, fun d ed => ⟨_, _, rfl, rfl, fun e ee => ?_⟩⟩⟩⟩
    have hc : c ≤ 63 := by
      have := cutV_length (ns.map V.int) none (some 59)
      rw [List.length_map] at this
      omega
    have hc0 : 0 ≤ c := by omega
    rw [Int.fdiv_eq_ediv_of_nonneg c (by decide)] at ed
    have t0 := same_upd (o := .lst (cutV (ns.map V.int) none (some 59))) hps
    refine ⟨e, rfl, by omega, by omega, for_range (lo := 0) (n := e.toNat) (fun i σ H' => Gr H H' ∧ TabOk (TT Ad) H' ∧ ∃ v1 v2 v3 v4 : Option V, σ = [some (.ref a), v1, v2, v3, v4]) ⟨.of t0, tabOk_of tab t0, none, none, none, none, rfl⟩ ?_ ?_⟩
    · rintro i σ H1 hi ⟨g1, tb1, v1, v2, v3, v4, rfl⟩
      have hS1 := gr_seq g1 hS
      have bk : Bd 100 (0 + (i : Int)) := bdS 100 (by omega) (by omega)
      refine cut fun R2 k2 => ⟨_, rfl, _, rfl, _, _, rfl, rfl, ⟨2, 100, bdd, bk, by decide⟩, fun m1 em1 => ⟨a, ns, m1, rfl, hS1, by omega, fun z1 _ => ⟨z1, 2, rfl, by decide, fun px xs H2 s2 hx lx bx => k2 _ _ ?_⟩⟩⟩
      have ax : atI (xs.map V.int) 0 = some (.int (xs.getD 0 0)) := at_int (r := 0) lx (by decide)
      refine cut fun R3 k3 => ⟨_, rfl, px, _, _, _, rfl, rfl, .inl (SqL.of hx), ax, _, _, rfl, rfl, by decide, fun y y0 y1 ey => ⟨_, _, rfl, rfl, fun m em => k3 _ _ ?_⟩⟩
      obtain ⟨n, rfl⟩ : ∃ n : Nat, m = (n : Int) := ⟨m.toNat, by omega⟩
      have n1 : 1 ≤ n := by omega
      have n4 : n ≤ 4 := by omega
      refine cut fun R4 k4 => ⟨3, rfl, by omega, by omega, fun D hD => ?_⟩
      refine comp_range (lo := 0) (n := 3) (fun j acc σ H' => Same H2 H' ∧ H' D = some (.lst acc) ∧ (acc.length = j ∧ ∀ x ∈ acc, ∃ p S, x = .ref p ∧ StS H' n p S) ∧ ∃ v, σ = [v, some (natV n), some (.ref a), some (.int (0 + (i : Int)))])
        ⟨same_upd hD, upd_same, ⟨rfl, nofun⟩, none, rfl⟩ ?_ ?_
      · rintro j acc σ H' hj ⟨sm, hD', ⟨la, ba⟩, v, rfl⟩
        have bj : Bd 2 (0 + (j : Int)) := by show Int.natAbs _ < 2 ^ 2; omega
        refine ⟨_, rfl, _, rfl, _, _, rfl, rfl, ⟨2, 100, bdd, bk, by decide⟩, fun m2 em2 => ⟨a, ns, m2, rfl, (s2.trans sm).seq hS1, by omega, fun z2 _ => ?_⟩⟩
        refine ⟨_, rfl, _, rfl, _, _, rfl, rfl, ⟨2, 2, bj, bj, by decide⟩, fun q1 eq1 => ⟨_, _, rfl, rfl, fun q2 eq2 => ⟨_, _, rfl, rfl, fun q3 eq3 => ⟨q3, 8, rfl, by decide, fun pz zs H6 s7 hz lz bz => ?_⟩⟩⟩⟩
        refine ⟨_, rfl, pz, zs, n, rfl, SqL.of hz, by omega, bz, n1, n4, fun ps bs us fs bu hp H7 s8 st lb lu _ _ bu0 _ _ _ => ?_⟩
        have hD7 := s8 _ _ (s7 _ _ hD')
        obtain ⟨S, hS'⟩ := sts_of st bu0 lb lu
        refine ⟨hD7, small1000 (by omega), ((sm.trans s7).trans s8).put hD, upd_same, ⟨by rw [List.length_append, la]; rfl, fun x hx => ?_⟩, _, rfl⟩
        have stk : ∀ {p S}, StS H7 n p S → StS (upd H7 D (.lst (acc ++ [V.ref ps]))) n p S := fun ⟨fs, st, l⟩ => ⟨fs, stAt_tups st (lst_tups hD7), l⟩
        rcases List.mem_append.mp hx with h | h
        · obtain ⟨p', S', rfl, st'⟩ := ba x h
          exact ⟨p', S', rfl, stk (st'.gr (.of (s7.trans s8)))⟩
        · rw [List.mem_singleton.mp h]
          exact ⟨ps, S, rfl, stk hS'⟩
      · rintro acc σ H3 ⟨sm, hD', ⟨la, ba⟩, v, rfl⟩
        refine k4 _ _ ?_
        obtain ⟨x1, x2, x3, rfl⟩ : ∃ x1 x2 x3, acc = [x1, x2, x3] := by
          match acc, la with
          | [x, y, z], _ => exact ⟨x, y, z, rfl⟩
        obtain ⟨a0, S0, rfl, st0⟩ := ba x1 (by simp)
        obtain ⟨a1, S1, rfl, st1⟩ := ba x2 (by simp)
        obtain ⟨a2, S2, rfl, st2⟩ := ba x3 (by simp)
        have sts : Sts H3 n D S0 S1 S2 := ⟨a0, a1, a2, hD', st0, st1, st2⟩
        have s13 := s2.trans sm
        have tb3 := tabOk_of tb1 s13
        have g3 := g1.trans (.of s13)
        clear s2 sm ba st0 st1 st2 hx k2 k3 k4
        refine cut fun R5 k5 => fun x dx fx fdx nx => ⟨_, rfl, sz3, fun pz hpz => ?_⟩
        have fx' : upd H3 dx (.own x) x = none := by rw [upd_ne nx.symm]; exact fx
        have s0 : Same H3 (upd (upd H3 dx (.own x)) x (.ins Ad.Keeper dx [])) := (same_upd fdx).trans (same_upd fx')
        have s4 := same_upd (o := .lst [.int 0, .int 0, .int 0]) hpz
        have S4 := s0.trans s4
        refine ⟨x, D, pz, n, fun _ => 0, Ad.Keeper, dx, _, _, S0, S1, S2, rfl, kp_keeper T (s4 _ _ upd_same), sts.gr (.of S4), upd_same, fun H5 s5 => ⟨_, rfl, iteF (k5 _ _ ?_)⟩⟩
        have S5 := S4.trans s5
        have hS5 := gr_seq (g3.trans (.of S5)) hS
        refine cut fun R6 k6 => ⟨_, rfl, _, rfl, _, _, rfl, rfl, ⟨2, 100, bdd, bk, by decide⟩, fun q1 e1 => ⟨_, _, rfl, rfl, fun q2 e2 => ⟨a, ns, q2, rfl, hS5, by omega, fun z2 _ => ?_⟩⟩⟩
        refine ⟨_, rfl, _, rfl, z2, n, D, S0, S1, S2, rfl, n1, n4, sts.gr (.of S5), tabOk_of tb3 S5, fun H6 g6 tb6 => ⟨_, rfl, iteF (k6 _ _ ?_)⟩⟩
        have G6 := (Gr.of S5).trans g6
        have hS6 := gr_seq (g3.trans G6) hS
        refine ⟨_, rfl, _, rfl, _, _, rfl, rfl, ⟨2, 100, bdd, bk, by decide⟩, fun q3 e3 => ⟨_, _, rfl, rfl, fun q4 e4 => ⟨a, ns, q4, rfl, hS6, by omega, fun z3 _ => ?_⟩⟩⟩
        exact ⟨_, rfl, _, rfl, z3, n, D, S0, S1, S2, rfl, n1, n4, sts.gr G6, fun H7 s7 => ⟨_, rfl, iteF ⟨(g3.trans G6).trans (.of s7), tabOk_of tb6 s7, _, _, _, _, rfl⟩⟩⟩
    · rintro σ H1 ⟨g1, tb1, v1, v2, v3, v4, rfl⟩
      exact k1 _ _ (k H1)

end
theorem walk {l : PySem.W.OpenLaw} {q : Program} {loose : List Str} {XP : (Str → Option Value) → Heap → Prop} {YP : World → Heap → Prop} {d : DefRec} {K : Params → PySem.W.Frag} {ts : List Addr} (hn : l.most = some 63) (hdf : d.params.defaults = []) (hname : d.name = "law")
    (hY : ∀ (w : World) (h : Heap), YP w h → (K w.params).In h) (hY2 : ∀ (w : World) (h : Heap), YP w h → ∀ T ∈ ts, h.get? T = some (PySem.W.tabObj #[])) (hK : ∀ w : World, PySem.W.noTabs (K w.params) = true)
    (F : ∀ (w : World) (mg : Str → Option Value) (h : Heap), (K w.params).In h → h.Ns mainGlobals mg → ∃ A, Txt (K w.params) mg A ∧ ∀ T ∈ [A.T_colder, A.T_burns, A.T_rested, A.T_stocked], T ∈ ts) :
    PySem.W.WalkO q loose XP YP l.row.toRowW d [] (fun f vs => PySem.call f vs) :=
  L2.walk_ofT (k := 10) (x := "_law_script") hn hdf ⟨rfl, by decide, by decide⟩ hY hK
    (fun w mg fa h Y KX G hmg => by
      obtain ⟨A, T, hin⟩ := F w mg h KX G
      obtain ⟨f, fd, hm, Fd⟩ := id T.d_law
      rw [hname] at hmg
      have e := hmg.symm.trans hm
      cases e
      exact ⟨fd, tabsOf A, Fd.binds1 (fun _ _ _ _ _ _ _ => rfl), fun t ht => ⟨hY2 w h Y t (hin t ht), tabs_hd T t ht⟩, fun base kb _ bm => ok_law Fd T ⟨kb, bm⟩⟩)
end K32
def PySem.W.Fast.tw128215811784358952 : Nat := 0
def PySem.W.Fast.tw12918981617753585456 : Nat := 0
def PySem.W.Fast.tw16585194787068760368 : Nat := 0
def PySem.W.Fast.tw17951229379056984207 : Nat := 0
def PySem.W.Fast.tw11849205961381906032 : Nat := 0
def PySem.W.Fast.tw14873896955078533845 : Nat := 0
def PySem.W.Fast.tw4674670264371545839 : Nat := 0
def PySem.W.Fast.tw14645790525593621237 : Nat := 0
def PySem.W.Fast.tw12460930662749627423 : Nat := 0
def PySem.W.Fast.tw14418626360447721011 : Nat := 0
def PySem.W.Fast.tw4306752661616444074 : Nat := 0
def PySem.W.Fast.tw16648510780201637653 : Nat := 0
def PySem.W.Fast.tw18198184258090624604 : Nat := 0
def PySem.W.Fast.tw2461580108593085429 : Nat := 0
def PySem.W.Fast.tw2411969687502964623 : Nat := 0
def PySem.W.Fast.tw17406122557390196259 : Nat := 0
def PySem.W.Fast.tw18436189409250462649 : Nat := 0
def PySem.W.Fast.tw13364229503369063064 : Nat := 0
def PySem.W.Fast.tw10678246343322829503 : Nat := 0
def PySem.W.Fast.tw6925393171091131931 : Nat := 0
def PySem.W.Fast.tw2400748193486054523 : Nat := 0
def PySem.W.Fast.tw8724564927786225493 : Nat := 0
def PySem.W.Fast.tw6152792881365105529 : Nat := 0
def PySem.W.Fast.tw9867177671602017250 : Nat := 0
def PySem.W.Fast.tw17510769038581333204 : Nat := 0
def PySem.W.Fast.tw16756346776656159353 : Nat := 0
def PySem.W.Fast.tw8873827278549137725 : Nat := 0
def PySem.W.Fast.tw12717989375460294443 : Nat := 0
def PySem.W.Fast.tw10193714807491007518 : Nat := 0
def PySem.W.Fast.tw3630194122830726493 : Nat := 0
def PySem.W.Fast.tw13883692568255776280 : Nat := 0
def PySem.W.Fast.tw4212420380931420015 : Nat := 0
def PySem.W.Fast.tw2695064804360972667 : Nat := 0
def PySem.W.Fast.tw15647008500785707326 : Nat := 0
def PySem.W.Fast.tw106788770423526097 : Nat := 0
def PySem.W.Fast.tw5117732190935492899 : Nat := 0
def PySem.W.Fast.tw522202050709591775 : Nat := 0
def PySem.W.Fast.tw2267529949549222738 : Nat := 0
def PySem.W.Fast.tw2298986618484994925 : Nat := 0
def PySem.W.Fast.tw2697424502113268194 : Nat := 0
def PySem.W.Fast.tw5454106154501268101 : Nat := 0
def PySem.W.Fast.tw7541775508828056844 : Nat := 0
def PySem.W.Fast.tw3969589774008528501 : Nat := 0
def PySem.W.Fast.tw10719870096635344651 : Nat := 0
def PySem.W.Fast.tw2429558122175802885 : Nat := 0
def PySem.W.Fast.tw11017094513723590237 : Nat := 0
def PySem.W.Fast.tw12406748254555152153 : Nat := 0
def PySem.W.Fast.tw682700911498750945 : Nat := 0
def PySem.W.Fast.tw18203593166348247857 : Nat := 0
def PySem.W.Fast.tw9159039509255746491 : Nat := 0
def PySem.W.Fast.tw10867492367477316013 : Nat := 0
def PySem.W.Fast.tw4975312714697294897 : Nat := 0
def PySem.W.Fast.tw15317003955407477173 : Nat := 0
def PySem.W.Fast.tw13433815283377398031 : Nat := 0
def PySem.W.Fast.tw5579999649836725765 : Nat := 0
def PySem.W.Fast.tw8161523368992769455 : Nat := 0
def PySem.W.Fast.tw6063719919783756268 : Nat := 0
def PySem.W.Fast.tw6811593562830694876 : Nat := 0
def PySem.W.Fast.tw11706339140486045061 : Nat := 0
def PySem.W.Fast.tw7800101150440429386 : Nat := 0
def PySem.W.Fast.tw4682745409223761318 : Nat := 0
def PySem.W.Fast.tw7624849078393565439 : Nat := 0
def PySem.W.Fast.tw12684985704754971690 : Nat := 0
def PySem.W.Fast.tw15037876029933746994 : Nat := 0
def PySem.W.Fast.tw14796951090105304263 : Nat := 0
def PySem.W.Fast.tw16505144320675717581 : Nat := 0
def PySem.W.Fast.tw1443438659147289998 : Nat := 0
def PySem.W.Fast.tw12821923175689110785 : Nat := 0
def PySem.W.Fast.tw6894618131375520559 : Nat := 0
def PySem.W.Fast.tw3576299167803592296 : Nat := 0
def PySem.W.Fast.tw6700995588273553235 : Nat := 0
def PySem.W.Fast.tw15341055853082572320 : Nat := 0
def PySem.W.Fast.tw9247164313694979064 : Nat := 0
def PySem.W.Fast.tw27691518944057832 : Nat := 0
def PySem.W.Fast.tw17415415370150397810 : Nat := 0
def PySem.W.Fast.tw14808611781774431217 : Nat := 0
open PySem PySem.W PyProof.Rows
set_option maxRecDepth 100000 in
set_option maxHeartbeats 0 in
theorem PySem.Challenge.cw_stoke_k32_plain_keepers_holds : PySem.Challenge.rw_stoke_k32_plain_keepers.Holds := by
  w_on; o_law; k_head; (case hw => w_witness2)
  k_fill
  refine K32.walk (l := PySem.Challenge.rw_stoke_k32_plain_keepers) rfl rfl rfl (fun w h Y => PySem.W.km_in_of Y) (fun w h Y => PySem.W.km_tabs_of Y) (fun w => by kernel_rfl) ?F
  case F =>
    intro w mg h KX G
    refine' ⟨_, K32.txt_mk KX G ?y_Keeper ?y_Ruled ?y_Sills ?y_StokeError ?y_Ended ?y_Full ?y_NoBand ?y_NoFailing ?y_NoHold ?y_NoKeeper ?y_NoLine ?y_NoMarks ?y_NoName ?y_NoNumber ?y_NoOrder ?y_NoRoom ?y_NoShare ?y_NoSky ?y_NoState ?y_NoStove ?y_NoText ?y_NoTurn ?y_NotKept ?y_NotOut ?y_Shared ?y_TooMany ?y_Twice ?y_x_NoKeeper ?y_xga_NoKeeper ?y_xgt_NoKeeper ?y_xcl_NoKeeper ?y_xmo_NoKeeper ?y_xmb_NoKeeper ?y_xis_NoKeeper ?y_gs ?y_tk ?y_ex ?y_k0 ?y_k2 ?y_k1 ?y_k3 ?y_in_Keeper ?y_ic_Keeper ?y_mo_Keeper ?y_kk_Keeper ?y_ic_Ruled ?y_mo_Ruled ?y_kk_Ruled ?y_ic_Sills ?y_mo_Sills ?y_kk_Sills ?pg_Keeper ?hd_Keeper ?po_Keeper ?sa_Keeper ?mk_Keeper ?kc_Keeper ?at_Keeper_minds ?fn_Keeper_minds ?l_Keeper_minds ?co_Keeper_minds ?k_Keeper_minds ?at_Keeper_size ?fn_Keeper_size ?l_Keeper_size ?co_Keeper_size ?k_Keeper_size ?at_Keeper_wish ?fn_Keeper_wish ?l_Keeper_wish ?co_Keeper_wish ?k_Keeper_wish ?at_Keeper_after ?fn_Keeper_after ?l_Keeper_after ?co_Keeper_after ?k_Keeper_after ?pg_Ruled ?hd_Ruled ?po_Ruled ?sa_Ruled ?mk_Ruled ?kc_Ruled ?na_Ruled_rows ?at_Ruled___init__ ?fn_Ruled___init__ ?l_Ruled___init__ ?co_Ruled___init__ ?k_Ruled___init__ ?at_Ruled_wish ?fn_Ruled_wish ?l_Ruled_wish ?co_Ruled_wish ?k_Ruled_wish ?at_Ruled_minds ?fn_Ruled_minds ?l_Ruled_minds ?co_Ruled_minds ?k_Ruled_minds ?at_Ruled_size ?fn_Ruled_size ?l_Ruled_size ?co_Ruled_size ?k_Ruled_size ?at_Ruled_after ?fn_Ruled_after ?l_Ruled_after ?co_Ruled_after ?k_Ruled_after ?pg_Sills ?hd_Sills ?po_Sills ?sa_Sills ?mk_Sills ?kc_Sills ?na_Sills_sills ?at_Sills___init__ ?fn_Sills___init__ ?l_Sills___init__ ?co_Sills___init__ ?k_Sills___init__ ?at_Sills_wish ?fn_Sills_wish ?l_Sills_wish ?co_Sills_wish ?k_Sills_wish ?at_Sills_is_wished ?fn_Sills_is_wished ?l_Sills_is_wished ?co_Sills_is_wished ?k_Sills_is_wished ?at_Sills_minds ?fn_Sills_minds ?l_Sills_minds ?co_Sills_minds ?k_Sills_minds ?at_Sills_size ?fn_Sills_size ?l_Sills_size ?co_Sills_size ?k_Sills_size ?at_Sills_after ?fn_Sills_after ?l_Sills_after ?co_Sills_after ?k_Sills_after ?a_has_room ?l_has_room ?co_has_room ?k_has_room ?a_with_room ?l_with_room ?co_with_room ?k_with_room ?a_bits_of ?l_bits_of ?co_bits_of ?k_bits_of ?a_colder ?l_colder ?co_colder ?k_colder ?hl_colder ?hp_colder ?hh_colder ?a_burns ?l_burns ?co_burns ?k_burns ?hl_burns ?hp_burns ?hh_burns ?a_rested ?l_rested ?co_rested ?k_rested ?hl_rested ?hp_rested ?hh_rested ?a_stocked ?l_stocked ?co_stocked ?k_stocked ?hl_stocked ?hp_stocked ?hh_stocked ?a_law_cell_at ?l_law_cell_at ?co_law_cell_at ?k_law_cell_at ?a_law_whole ?l_law_whole ?co_law_whole ?k_law_whole ?a_law_stream ?l_law_stream ?co_law_stream ?k_law_stream ?a_law_in_bits ?l_law_in_bits ?co_law_in_bits ?k_law_in_bits ?a_law_state ?l_law_state ?co_law_state ?k_law_state ?a_law_leaf ?l_law_leaf ?co_law_leaf ?k_law_leaf ?a_law_made_leaf ?l_law_made_leaf ?co_law_made_leaf ?k_law_made_leaf ?a_law_holds ?l_law_holds ?co_law_holds ?k_law_holds ?a_law_bits ?l_law_bits ?co_law_bits ?k_law_bits ?a_law_is_plain ?l_law_is_plain ?co_law_is_plain ?k_law_is_plain ?a_law_ruled ?l_law_ruled ?co_law_ruled ?k_law_ruled ?a_law_sill ?l_law_sill ?co_law_sill ?k_law_sill ?a_law_refused ?l_law_refused ?co_law_refused ?k_law_refused ?a_law_by_sills ?l_law_by_sills ?co_law_by_sills ?k_law_by_sills ?a_law_sills ?l_law_sills ?co_law_sills ?k_law_sills ?a_law ?l_law ?co_law ?k_law ?z_ValueError ?z_bool ?z_dict ?z_int ?z_isinstance ?z_len ?z_list ?z_range ?z_tuple ?nd, ?tin⟩
    (case y_Keeper => k_is)
    (case y_Ruled => k_is)
    (case y_Sills => k_is)
    (case y_StokeError => k_is)
    (case y_Ended => k_is)
    (case y_Full => k_is)
    (case y_NoBand => k_is)
    (case y_NoFailing => k_is)
    (case y_NoHold => k_is)
    (case y_NoKeeper => k_is)
    (case y_NoLine => k_is)
    (case y_NoMarks => k_is)
    (case y_NoName => k_is)
    (case y_NoNumber => k_is)
    (case y_NoOrder => k_is)
    (case y_NoRoom => k_is)
    (case y_NoShare => k_is)
    (case y_NoSky => k_is)
    (case y_NoState => k_is)
    (case y_NoStove => k_is)
    (case y_NoText => k_is)
    (case y_NoTurn => k_is)
    (case y_NotKept => k_is)
    (case y_NotOut => k_is)
    (case y_Shared => k_is)
    (case y_TooMany => k_is)
    (case y_Twice => k_is)
    (case y_x_NoKeeper => k_exc)
    (case y_xga_NoKeeper => k_is)
    (case y_xgt_NoKeeper => k_is)
    (case y_xcl_NoKeeper => k_is)
    (case y_xmo_NoKeeper => k_is)
    (case y_xmb_NoKeeper => k_is)
    (case y_xis_NoKeeper => k_is)
    (case y_gs => k_is)
    (case y_tk => k_is)
    (case y_ex => kts_exm)
    (case y_k0 => kit_is)
    (case y_k2 => kit_is)
    (case y_k1 => kit_is)
    (case y_k3 => kit_is)
    (case y_in_Keeper => k_is)
    (case y_ic_Keeper => k_is)
    (case y_mo_Keeper => k_is)
    (case y_kk_Keeper => kit_is)
    (case y_ic_Ruled => k_is)
    (case y_mo_Ruled => k_is)
    (case y_kk_Ruled => kit_is)
    (case y_ic_Sills => k_is)
    (case y_mo_Sills => k_is)
    (case y_kk_Sills => kit_is)
    (case pg_Keeper => k_is)
    (case hd_Keeper => k_is)
    (case po_Keeper => k_is)
    (case sa_Keeper => k_is)
    (case mk_Keeper => k_is)
    (case kc_Keeper => k_is)
    (case at_Keeper_minds => k_is)
    (case fn_Keeper_minds => k_is)
    (case l_Keeper_minds => k_is)
    (case co_Keeper_minds => k_is)
    (case k_Keeper_minds => k_is)
    (case at_Keeper_size => k_is)
    (case fn_Keeper_size => k_is)
    (case l_Keeper_size => k_is)
    (case co_Keeper_size => k_is)
    (case k_Keeper_size => k_is)
    (case at_Keeper_wish => k_is)
    (case fn_Keeper_wish => k_is)
    (case l_Keeper_wish => k_is)
    (case co_Keeper_wish => k_is)
    (case k_Keeper_wish => k_is)
    (case at_Keeper_after => k_is)
    (case fn_Keeper_after => k_is)
    (case l_Keeper_after => k_is)
    (case co_Keeper_after => k_is)
    (case k_Keeper_after => k_is)
    (case pg_Ruled => k_is)
    (case hd_Ruled => k_is)
    (case po_Ruled => k_is)
    (case sa_Ruled => k_is)
    (case mk_Ruled => k_is)
    (case kc_Ruled => k_is)
    (case na_Ruled_rows => k_is)
    (case at_Ruled___init__ => k_is)
    (case fn_Ruled___init__ => k_is)
    (case l_Ruled___init__ => k_is)
    (case co_Ruled___init__ => k_is)
    (case k_Ruled___init__ => k_is)
    (case at_Ruled_wish => k_is)
    (case fn_Ruled_wish => k_is)
    (case l_Ruled_wish => k_is)
    (case co_Ruled_wish => k_is)
    (case k_Ruled_wish => k_is)
    (case at_Ruled_minds => k_is)
    (case fn_Ruled_minds => k_is)
    (case l_Ruled_minds => k_is)
    (case co_Ruled_minds => k_is)
    (case k_Ruled_minds => k_is)
    (case at_Ruled_size => k_is)
    (case fn_Ruled_size => k_is)
    (case l_Ruled_size => k_is)
    (case co_Ruled_size => k_is)
    (case k_Ruled_size => k_is)
    (case at_Ruled_after => k_is)
    (case fn_Ruled_after => k_is)
    (case l_Ruled_after => k_is)
    (case co_Ruled_after => k_is)
    (case k_Ruled_after => k_is)
    (case pg_Sills => k_is)
    (case hd_Sills => k_is)
    (case po_Sills => k_is)
    (case sa_Sills => k_is)
    (case mk_Sills => k_is)
    (case kc_Sills => k_is)
    (case na_Sills_sills => k_is)
    (case at_Sills___init__ => k_is)
    (case fn_Sills___init__ => k_is)
    (case l_Sills___init__ => k_is)
    (case co_Sills___init__ => k_is)
    (case k_Sills___init__ => k_is)
    (case at_Sills_wish => k_is)
    (case fn_Sills_wish => k_is)
    (case l_Sills_wish => k_is)
    (case co_Sills_wish => k_is)
    (case k_Sills_wish => k_is)
    (case at_Sills_is_wished => k_is)
    (case fn_Sills_is_wished => k_is)
    (case l_Sills_is_wished => k_is)
    (case co_Sills_is_wished => k_is)
    (case k_Sills_is_wished => k_is)
    (case at_Sills_minds => k_is)
    (case fn_Sills_minds => k_is)
    (case l_Sills_minds => k_is)
    (case co_Sills_minds => k_is)
    (case k_Sills_minds => k_is)
    (case at_Sills_size => k_is)
    (case fn_Sills_size => k_is)
    (case l_Sills_size => k_is)
    (case co_Sills_size => k_is)
    (case k_Sills_size => k_is)
    (case at_Sills_after => k_is)
    (case fn_Sills_after => k_is)
    (case l_Sills_after => k_is)
    (case co_Sills_after => k_is)
    (case k_Sills_after => k_is)
    (case a_has_room => k_is)
    (case l_has_room => k_is)
    (case co_has_room => k_is)
    (case k_has_room => k_is)
    (case a_with_room => k_is)
    (case l_with_room => k_is)
    (case co_with_room => k_is)
    (case k_with_room => k_is)
    (case a_bits_of => k_is)
    (case l_bits_of => k_is)
    (case co_bits_of => k_is)
    (case k_bits_of => k_is)
    (case a_colder => k_is)
    (case l_colder => k_is)
    (case co_colder => k_is)
    (case k_colder => k_is)
    (case hl_colder => k_is)
    (case hp_colder => exact rfl)
    (case hh_colder => kernel_rfl)
    (case a_burns => k_is)
    (case l_burns => k_is)
    (case co_burns => k_is)
    (case k_burns => k_is)
    (case hl_burns => k_is)
    (case hp_burns => exact rfl)
    (case hh_burns => kernel_rfl)
    (case a_rested => k_is)
    (case l_rested => k_is)
    (case co_rested => k_is)
    (case k_rested => k_is)
    (case hl_rested => k_is)
    (case hp_rested => exact rfl)
    (case hh_rested => kernel_rfl)
    (case a_stocked => k_is)
    (case l_stocked => k_is)
    (case co_stocked => k_is)
    (case k_stocked => k_is)
    (case hl_stocked => k_is)
    (case hp_stocked => exact rfl)
    (case hh_stocked => kernel_rfl)
    (case a_law_cell_at => k_is)
    (case l_law_cell_at => k_is)
    (case co_law_cell_at => k_is)
    (case k_law_cell_at => k_is)
    (case a_law_whole => k_is)
    (case l_law_whole => k_is)
    (case co_law_whole => k_is)
    (case k_law_whole => k_is)
    (case a_law_stream => k_is)
    (case l_law_stream => k_is)
    (case co_law_stream => k_is)
    (case k_law_stream => k_is)
    (case a_law_in_bits => k_is)
    (case l_law_in_bits => k_is)
    (case co_law_in_bits => k_is)
    (case k_law_in_bits => k_is)
    (case a_law_state => k_is)
    (case l_law_state => k_is)
    (case co_law_state => k_is)
    (case k_law_state => k_is)
    (case a_law_leaf => k_is)
    (case l_law_leaf => k_is)
    (case co_law_leaf => k_is)
    (case k_law_leaf => k_is)
    (case a_law_made_leaf => k_is)
    (case l_law_made_leaf => k_is)
    (case co_law_made_leaf => k_is)
    (case k_law_made_leaf => k_is)
    (case a_law_holds => k_is)
    (case l_law_holds => k_is)
    (case co_law_holds => k_is)
    (case k_law_holds => k_is)
    (case a_law_bits => k_is)
    (case l_law_bits => k_is)
    (case co_law_bits => k_is)
    (case k_law_bits => k_is)
    (case a_law_is_plain => k_is)
    (case l_law_is_plain => k_is)
    (case co_law_is_plain => k_is)
    (case k_law_is_plain => k_is)
    (case a_law_ruled => k_is)
    (case l_law_ruled => k_is)
    (case co_law_ruled => k_is)
    (case k_law_ruled => k_is)
    (case a_law_sill => k_is)
    (case l_law_sill => k_is)
    (case co_law_sill => k_is)
    (case k_law_sill => k_is)
    (case a_law_refused => k_is)
    (case l_law_refused => k_is)
    (case co_law_refused => k_is)
    (case k_law_refused => k_is)
    (case a_law_by_sills => k_is)
    (case l_law_by_sills => k_is)
    (case co_law_by_sills => k_is)
    (case k_law_by_sills => k_is)
    (case a_law_sills => k_is)
    (case l_law_sills => k_is)
    (case co_law_sills => k_is)
    (case k_law_sills => k_is)
    (case a_law => k_is)
    (case l_law => k_is)
    (case co_law => k_is)
    (case k_law => k_is)
    (case z_ValueError => k_is)
    (case z_bool => k_is)
    (case z_dict => k_is)
    (case z_int => k_is)
    (case z_isinstance => k_is)
    (case z_len => k_is)
    (case z_list => k_is)
    (case z_range => k_is)
    (case z_tuple => k_is)
    (case nd => decide)
    (case tin => decide)

