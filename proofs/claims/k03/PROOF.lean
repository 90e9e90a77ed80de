import PyProof.Rows.All
import Wide.All
import OpenK.AllK
import Wide.FinOn
import Lean
import PyProof.EqAt
import PyProof.EqKinds
import PyProof.TupleCall
import PySem.Challenge.RW_stoke_k03_bits
set_option Elab.async false
set_option linter.all false
set_option maxRecDepth 100000
namespace L2
open PySem PySem.Spec PyProof.Rows

/-- a key: an int or a str -/
abbrev Key := Sum Int Str
def keyIs : Key → Value → Bool
  | .inl k, v => Value.isInt k v
  | .inr x, v => Value.isStrOf x v
def keyH (w : World) : Key → Int
  | .inl k => hashInt k
  | .inr x => hashStr w x
theorem keyIs_shape : ∀ {k : Key} {v : Value}, keyIs k v = true → (∃ i t, k = Sum.inl i ∧ v = Value.int i t) ∨ (∃ x t, k = Sum.inr x ∧ v = Value.str x t)
  | .inl i, v, h => by
    obtain ⟨t, e⟩ := Value.isInt_shape (k := i) (v := v) h
    exact .inl ⟨i, t, rfl, e⟩
  | .inr x, v, h => by
    obtain ⟨t, e⟩ := Value.isStrOf_shape (x := x) (v := v) h
    exact .inr ⟨x, t, rfl, e⟩
theorem key_ll (a b : Int) : decide ((Sum.inl a : Key) = Sum.inl b) = (a == b) := by
  by_cases e : a = b
  · subst e; simp
  · have h : ¬ (Sum.inl a : Key) = Sum.inl b := fun q => e (Sum.inl.inj q)
    rw [decide_eq_false h]
    exact (beq_eq_false_iff_ne.mpr e).symm
theorem key_rr (a b : Str) : decide ((Sum.inr a : Key) = Sum.inr b) = decide (a = b) := by
  by_cases e : a = b
  · subst e; simp
  · have h : ¬ (Sum.inr a : Key) = Sum.inr b := fun q => e (Sum.inr.inj q)
    rw [decide_eq_false h, decide_eq_false e]
theorem key_lr (a : Int) (b : Str) : decide ((Sum.inl a : Key) = Sum.inr b) = false := decide_eq_false (fun q => nomatch q)
theorem key_rl (a : Str) (b : Int) : decide ((Sum.inr a : Key) = Sum.inl b) = false := decide_eq_false (fun q => nomatch q)

def mixKind (prog : Program) (w : World) : PySem.KeyKind prog w Key where
  is := keyIs
  hash := keyH w
  inj := fun v a b ha hb => by
    rcases keyIs_shape ha with ⟨i, t, rfl, rfl⟩ | ⟨x, t, rfl, rfl⟩
    · rcases keyIs_shape hb with ⟨j, u, rfl, e⟩ | ⟨y, u, rfl, e⟩
      · injection e with e1 _; rw [e1]
      · exact nomatch e
    · rcases keyIs_shape hb with ⟨j, u, rfl, e⟩ | ⟨y, u, rfl, e⟩
      · exact nomatch e
      · injection e with e1 _; rw [e1]
  byValue := fun k v h => by
    rcases keyIs_shape h with ⟨i, t, rfl, rfl⟩ | ⟨x, t, rfl, rfl⟩ <;> rfl
  pyHash := fun hv h => by
    rcases keyIs_shape hv with ⟨i, t, rfl, rfl⟩ | ⟨x, t, rfl, rfl⟩
    · exact wpAny_pyHash_int h
    · exact wpAny_pyHash_str h
  eqBool := fun hu hv h => by
    rcases keyIs_shape hu with ⟨i, t, rfl, rfl⟩ | ⟨x, t, rfl, rfl⟩
    · rcases keyIs_shape hv with ⟨j, u, rfl, rfl⟩ | ⟨y, u, rfl, rfl⟩
      · rw [key_ll] at h; exact wpAny_eqBool_int h
      · rw [key_lr] at h; exact SeqAt.EqAt.int_str i t y u _ _ _ _ h
    · rcases keyIs_shape hv with ⟨j, u, rfl, rfl⟩ | ⟨y, u, rfl, rfl⟩
      · rw [key_rl] at h; exact SeqAt.EqAt.str_int x t j u _ _ _ _ h
      · rw [key_rr] at h; exact wpAny_eqBool_str h
  «strs» := fun k x t v h => by
    rcases keyIs_shape h with ⟨i, u, rfl, e⟩ | ⟨y, u, rfl, e⟩
    · exact nomatch e
    · injection e with e1 _
      subst e1
      cases v <;> rfl

end L2

namespace L2
open PySem PySem.Spec PyProof.Rows

/-- a value, without the heap -/
inductive V where
  | non | bl (b : Bool) | int (i : Int) | str (x : Str) | byt (b : Array UInt8) | flt (b : UInt64) | ref (a : Addr) | ty (n : String)
  deriving DecidableEq

def RelV : V → Value → Prop
  | .non, u => u = Value.none
  | .bl b, u => u = Value.bool b
  | .int i, u => ∃ t, u = Value.int i t
  | .str x, u => ∃ t, u = Value.str x t
  | .byt b, u => ∃ t, u = Value.bytes b t
  | .flt b, u => ∃ t, u = Value.float b t
  | .ref a, u => u = Value.ref a
  | .ty n, u => u = Value.type n

abbrev Vals : List V → List Value → Prop := Paired RelV
theorem Vals.length {xs : List V} {us : List Value} (r : Vals xs us) : xs.length = us.length := Paired.length r
theorem Vals.get : ∀ {xs : List V} {us : List Value} {i : Nat} {x : V}, Vals xs us → xs[i]? = some x → ∃ u, us[i]? = some u ∧ RelV x u
  | _, _, _, _, .nil, e => by simp at e
  | _, _, 0, _, .cons r _, e => by simp at e; subst e; exact ⟨_, rfl, r⟩
  | _, _, i + 1, x, .cons _ t, e => by
    obtain ⟨u, h1, h2⟩ := Vals.get (i := i) (x := x) t (by simpa using e)
    exact ⟨u, by simpa using h1, h2⟩
theorem Vals.set {x : V} {u : Value} (r : RelV x u) : ∀ {xs : List V} {us : List Value} (i : Nat), Vals xs us → Vals (xs.set i x) (us.set i u)
  | _, _, _, .nil => .nil
  | _, _, 0, .cons _ t => .cons r t
  | _, _, i + 1, .cons q t => .cons q (Vals.set r i t)
theorem Vals.append : ∀ {xs ys : List V} {us ws : List Value}, Vals xs us → Vals ys ws → Vals (xs ++ ys) (us ++ ws)
  | _, _, _, _, .nil, s => s
  | _, _, _, _, .cons r t, s => .cons r (Vals.append t s)
theorem Vals.take : ∀ {xs : List V} {us : List Value} (n : Nat), Vals xs us → Vals (xs.take n) (us.take n)
  | _, _, 0, _ => .nil
  | _, _, _ + 1, .nil => .nil
  | _, _, n + 1, .cons r t => .cons r (Vals.take n t)
theorem Vals.drop : ∀ {xs : List V} {us : List Value} (n : Nat), Vals xs us → Vals (xs.drop n) (us.drop n)
  | _, _, 0, r => r
  | _, _, _ + 1, .nil => .nil
  | _, _, n + 1, .cons _ t => Vals.drop n t
def RelO : Option V → Option Value → Prop
  | some v, some u => RelV v u
  | none, none => True
  | _, _ => False
def KV {κ : Type} : List (κ × V) → List (κ × Value) → Prop := Paired fun (p : κ × V) (q : κ × Value) => p.1 = q.1 ∧ RelV p.2 q.2

/-- a key of a dict (00_mix): an int or a text -/
def kV : Key → V
  | .inl i => .int i
  | .inr x => .str x

/-- what stands at a tracked address -/
inductive HO where
  /-- a list -/
  | lst (xs : List V)
  /-- a tuple (never changes) -/
  | tup (xs : List V)
  /-- a dict whose keys are ints and texts; one whose keys are tuples of ints and texts (the empty one is both) -/
  | dK (kvs : List (Key × V)) | dT (kvs : List (List Key × V))
  /-- a set of ints: its members, its size -/
  | set (S : Int → Bool) (n : Nat)
  /-- an instance of the class at C, its dict at dx, its attributes -/
  | ins (C dx : Addr) (fs : List (Str × V))
  /-- the dict of the instance at x -/
  | own (x : Addr)
  /-- the dict of an exception -/
  | xd (fs : List (Str × V))
  /-- a bound method, f of x -/
  | met (f x : Addr)
  /-- a range object lo, lo + 1, .. below hi -/
  | rng (lo hi : Int)
  /-- a thing that is known to the object (the script; a dict while a loop walks it): read, never written while it is so -/
  | frz (o : Obj) (u : HO)
  /-- a code object's table -/
  | tbl (ps : Array Value)
  /-- any other thing, by what is true of its one object (a def of one's own: SetO a S n := HO.ext fun h => ..) -/
  | ext (φ : Heap → Prop)

abbrev Hp := Addr → Option HO
def upd (H : Hp) (a : Addr) (o : HO) : Hp := fun b => if b = a then some o else H b
theorem upd_same {H : Hp} {a : Addr} {o : HO} : upd H a o a = some o := by unfold upd; rw [if_pos rfl]
theorem upd_ne {H : Hp} {a b : Addr} {o : HO} (h : b ≠ a) : upd H a o b = H b := by unfold upd; rw [if_neg h]
theorem upd_upd {H : Hp} {a : Addr} {o u : HO} : upd (upd H a o) a u = upd H a u := by
  funext b; unfold upd; split <;> rfl
theorem ne_of_none {H : Hp} {a b : Addr} {o : HO} (h : H a = some o) (h' : H b = none) : a ≠ b := by
  intro e; subst e; rw [h] at h'; cases h'

section
variable (P : Program) (w : World)
def ObjOk (H : Hp) (h : Heap) (a : Addr) : HO → Prop
  | .lst xs => xs.length ≤ sizeLine ∧ ∃ (its : List Value) (n : Nat), Vals xs its ∧ h.get? a = some { cls := .type "list", data := .seq its.toArray n }
  | .tup xs => xs.length ≤ sizeLine ∧ ∃ its : List Value, Vals xs its ∧ IsTup h a its.toArray
  | .dK kvs => kvs.length ≤ sizeLine ∧ (a == sysModules) = false ∧ ∃ vs, KV kvs vs ∧ h.DictOf (mixKind P w) a vs
  | .dT kvs => kvs.length ≤ sizeLine ∧ (a == sysModules) = false ∧ ∃ xs : List (List Key × Addr × Value),
      Paired (fun (p : List Key × V) (q : List Key × Addr × Value) => p.1 = q.1 ∧ H q.2.1 = some (.tup (p.1.map kV)) ∧ RelV p.2 q.2.2) kvs xs ∧
      ∃ o es ep, h.get? a = some o ∧ o.ExactDict ∧ o.data = .dict es ep ∧ es.toList = xs.map (entryOfKey (tupleKind (mixKind P w))) ∧ (xs.map (·.1)).Nodup
  | .set S n => h.SetOf (intKind P w) a S n
  | .ins C dx fs => H dx = some (.own a) ∧ fs.length ≤ 1000 ∧ dx ≠ a ∧ h.get? a = some (PySem.W.instObj C dx) ∧
      ∃ mA, h.Ns1 dx mA ∧ (∀ f, RelO (fs.lookup f) (mA f)) ∧ PySem.Within mA (fs.map (·.1))
  | .own _ => ∃ o, h.get? a = some o
  | .xd fs => ∃ mA, h.Ns1 a mA ∧ ∀ f, RelO (fs.lookup f) (mA f)
  | .rng lo hi => ∃ t u v, h.get? a = some { cls := .type "range", data := .fields #[.int lo t, .int hi u, .int 1 v] }
  | .frz o u => h.get? a = some o ∧ ObjOk H h a u
  | .tbl ps => h.get? a = some { cls := .none, data := .fields ps }
  | .met f x => h.get? a = some (PySem.W.methodObj (.ref f) (.ref x))
  | .ext φ => φ h ∧ (∃ o, h.get? a = some o) ∧ ∀ h1 h2 : Heap, φ h1 → (∀ o, h1.get? a = some o → h2.get? a = some o) → φ h2
/-- the abstract heap is held -/
def HOk (H : Hp) (h : Heap) : Prop := ∀ a o, H a = some o → ObjOk P w H h a o
end

section
variable {P : Program} {w : World} {H H' : Hp} {h h' : Heap} {a : Addr} {o : HO}
theorem ObjOk.lt (x : ObjOk P w H h a o) : a < h.objs.size := by
  cases o with
  | lst xs => obtain ⟨_, _, _, _, e⟩ := x; exact Heap.lt_size e
  | tup xs => obtain ⟨_, _, _, p⟩ := x; exact p.lt
  | dK kvs => obtain ⟨_, _, _, _, o, _, _, e, _⟩ := x; exact Heap.lt_size e
  | dT kvs => obtain ⟨_, _, _, _, o, _, _, e, _⟩ := x; exact Heap.lt_size e
  | set S n => obtain ⟨o, _, _, _, e, _⟩ := x; exact Heap.lt_size e
  | ins C dx fs => obtain ⟨_, _, _, e, _⟩ := x; exact Heap.lt_size e
  | own y => obtain ⟨_, e⟩ := x; exact Heap.lt_size e
  | xd fs => obtain ⟨_, ⟨_, _, _, e, _⟩, _⟩ := x; exact Heap.lt_size e
  | rng lo hi => obtain ⟨_, _, _, e⟩ := x; exact Heap.lt_size e
  | frz ob u => obtain ⟨e, _⟩ := x; exact Heap.lt_size e
  | tbl ps => exact Heap.lt_size (show h.get? a = some _ from x)
  | met f y => exact Heap.lt_size (show h.get? a = some _ from x)
  | ext φ => obtain ⟨_, ⟨_, e⟩, _⟩ := x; exact Heap.lt_size e
theorem Paired.mapP {α β : Type} {F G : α → β → Prop} : ∀ {l₁ : List α} {l₂ : List β}, Paired F l₁ l₂ → (∀ a b, F a b → G a b) → Paired G l₁ l₂
  | _, _, .nil, _ => .nil
  | _, _, .cons r t, f => .cons (f _ _ r) (Paired.mapP t f)
/-- what an object's description leans on: its own object, its own dict, the tuples -/
theorem ObjOk.stay (x : ObjOk P w H h a o) (k : ∀ b u, (b = a ∨ H b = some (.own a)) → h.get? b = some u → h'.get? b = some u)
    (ho : ∀ b, H b = some (.own a) → H' b = some (.own a)) (ht : ∀ b xs, H b = some (.tup xs) → H' b = some (.tup xs)) : ObjOk P w H' h' a o := by
  induction o with
  | lst xs => obtain ⟨z, its, n, r, e⟩ := x; exact ⟨z, its, n, r, k _ _ (.inl rfl) e⟩
  | tup xs => obtain ⟨z, its, r, ob, e, c⟩ := x; exact ⟨z, its, r, ob, k _ _ (.inl rfl) e, c⟩
  | dK kvs => obtain ⟨z, y, vs, r, ob, es, ep, e, c⟩ := x; exact ⟨z, y, vs, r, ob, es, ep, k _ _ (.inl rfl) e, c⟩
  | dT kvs =>
    obtain ⟨z, y, xs, r, ob, es, ep, e, c⟩ := x
    exact ⟨z, y, xs, Paired.mapP r fun p q z => ⟨z.1, ht _ _ z.2.1, z.2.2⟩, ob, es, ep, k _ _ (.inl rfl) e, c⟩
  | set S n => obtain ⟨ob, es, ep, t, e, c⟩ := x; exact ⟨ob, es, ep, t, k _ _ (.inl rfl) e, c⟩
  | ins C dx fs =>
    obtain ⟨d, z, ne, e, mA, ⟨od, es, ep, e2, c⟩, r⟩ := x
    exact ⟨ho _ d, z, ne, k _ _ (.inl rfl) e, mA, ⟨od, es, ep, k _ _ (.inr d) e2, c⟩, r⟩
  | own y => obtain ⟨ob, e⟩ := x; exact ⟨ob, k _ _ (.inl rfl) e⟩
  | xd fs => obtain ⟨mA, ⟨od, es, ep, e, c⟩, r⟩ := x; exact ⟨mA, ⟨od, es, ep, k _ _ (.inl rfl) e, c⟩, r⟩
  | rng lo hi => obtain ⟨t, u, v, e⟩ := x; exact ⟨t, u, v, k _ _ (.inl rfl) e⟩
  | frz ob u ih => obtain ⟨e, q⟩ := x; exact ⟨k _ _ (.inl rfl) e, ih q⟩
  | tbl ps =>
    have e : h.get? a = some { cls := .none, data := .fields ps } := x
    show h'.get? a = some { cls := .none, data := .fields ps }
    exact k a _ (.inl rfl) e
  | met f y =>
    have e : h.get? a = some (PySem.W.methodObj (.ref f) (.ref y)) := x
    show h'.get? a = some (PySem.W.methodObj (.ref f) (.ref y))
    exact k a _ (.inl rfl) e
  | ext φ => obtain ⟨p, ⟨o, e⟩, st⟩ := x; exact ⟨st _ _ p fun o q => k _ _ (.inl rfl) q, ⟨o, k _ _ (.inl rfl) e⟩, st⟩
theorem HOk.lt (x : HOk P w H h) (e : H a = some o) : a < h.objs.size := (x a o e).lt
theorem HOk.fresh (x : HOk P w H h) (e : h.objs.size ≤ a) : H a = none := by
  cases q : H a with
  | none => rfl
  | some u => exact absurd (Nat.lt_of_lt_of_le (x.lt q) e) (Nat.lt_irrefl _)
/-- every object of the heap is kept -/
theorem HOk.kept (x : HOk P w H h) (k : ∀ b u, h.get? b = some u → h'.get? b = some u) : HOk P w H h' := fun a o e =>
  (x a o e).stay (fun b u _ q => k b u q) (fun _ q => q) fun _ _ q => q
/-- a new object is laid and tracked -/
theorem HOk.laid (x : HOk P w H h) (k : ∀ b u, h.get? b = some u → h'.get? b = some u) (hp : h.objs.size ≤ a) (new : ObjOk P w (upd H a o) h' a o) : HOk P w (upd H a o) h' := fun b u e => by
  have hn := x.fresh hp
  by_cases hb : b = a
  · subst hb; rw [upd_same] at e; cases e; exact new
  · rw [upd_ne hb] at e
    exact (x b u e).stay (fun c v _ q => k c v q) (fun c q => by rw [upd_ne (ne_of_none q hn)]; exact q) fun c xs q => by rw [upd_ne (ne_of_none q hn)]; exact q
end

/-- what may be read as u: it is u, or a known u -/
def Rd (H : Hp) (a : Addr) (u : HO) : Prop := H a = some u ∨ ∃ o, H a = some (.frz o u)
theorem Rd.of {H : Hp} {a : Addr} {u : HO} (h : H a = some u) : Rd H a u := .inl h
theorem Rd.ok {P : Program} {w : World} {H : Hp} {h : Heap} {a : Addr} {u : HO} (r : Rd H a u) (x : HOk P w H h) : ObjOk P w H h a u := by
  rcases r with r | ⟨o, r⟩
  · exact x a u r
  · obtain ⟨_, q⟩ := x a _ r
    exact q
/-- what may be written -/
def Mut : Option HO → Prop
  | some (.lst _) => True
  | some (.dK _) => True
  | some (.dT _) => True
  | some (.set _ _) => True
  | some (.ins _ _ _) => True
  | some (.ext _) => True
  | _ => False
section
variable {P : Program} {w : World} {H : Hp} {h h' : Heap} {x e : Addr} {o' : HO}
/-- the object at e is changed: x itself, or the dict of the instance x -/
theorem HOk.write (ok : HOk P w H h) (mu : Mut (H x)) (he : e = x ∨ H e = some (.own x)) (k : ∀ b u, b ≠ e → h.get? b = some u → h'.get? b = some u) (heo : ∃ u, h'.get? e = some u)
    (new : ObjOk P w (upd H x o') h' x o') : HOk P w (upd H x o') h' := fun b u q => by
  have nown : ∀ c y, H c = some (.own y) → c ≠ x := fun c y r z => by subst z; rw [r] at mu; exact mu
  have ntup : ∀ c xs, H c = some (.tup xs) → c ≠ x := fun c xs r z => by subst z; rw [r] at mu; exact mu
  by_cases hb : b = x
  · subst hb; rw [upd_same] at q; cases q; exact new
  · rw [upd_ne hb] at q
    by_cases hbe : b = e
    · have q' : H b = some (.own x) := by
        rcases he with z | z
        · exact absurd (hbe.trans z) hb
        · rw [hbe]; exact z
      rw [q] at q'; cases q'
      obtain ⟨v, hv⟩ := heo
      exact ⟨v, by rw [hbe]; exact hv⟩
    · refine (ok b u q).stay (fun c v hc r => k c v ?_ r) (fun c r => by rw [upd_ne (nown c b r)]; exact r) fun c xs r => by rw [upd_ne (ntup c xs r)]; exact r
      rcases hc with rfl | hc
      · exact hbe
      · rintro rfl
        rcases he with z | z
        · exact nown c b hc z
        · rw [hc] at z; cases z; exact hb rfl
end

structure Un (fs ex : List Addr) (H H' : Hp) (h h' : Heap) : Prop where
  keep : ∀ b o, h.get? b = some o → H b = none → b ∉ fs → b ∉ ex → h'.get? b = some o
  slot : ∀ b o, h.get? b = some o → H b = none → b ∈ fs → b ∉ ex → ∃ sl, h'.get? b = some { o with slots := sl }
  free : ∀ b o, h.get? b = some o → H b = none → b ∉ ex → H' b = none
  there : ∀ b o, h.get? b = some o → b ∉ ex → ∃ o', h'.get? b = some o'
  tups : ∀ b xs, H b = some (.tup xs) → H' b = some (.tup xs)
  frzs : ∀ b o u, H b = some (.frz o u) → H' b = some (.frz o u)
  tbls : ∀ b ps, H b = some (.tbl ps) → ∃ more, H' b = some (.tbl (ps ++ more))
section
variable {fs fs' ex ex' : List Addr} {H H1 H2 : Hp} {h h1 h2 h' : Heap} {a x e : Addr} {o : HO}
theorem Un.any (u : Un fs ex H H1 h h1) {b : Addr} {ob : Obj} (q : h.get? b = some ob) (n : H b = none) (hx : b ∉ ex) : ∃ sl, h1.get? b = some { ob with slots := sl } := by
  by_cases hb : b ∈ fs
  · exact u.slot b ob q n hb hx
  · exact ⟨ob.slots, u.keep b ob q n hb hx⟩
theorem Un.trans (a : Un fs ex H H1 h h1) (b : Un fs ex H1 H2 h1 h2) : Un fs ex H H2 h h2 where
  keep := fun c ob q n hc hx => b.keep c ob (a.keep c ob q n hc hx) (a.free c ob q n hx) hc hx
  slot := fun c ob q n hc hx => by
    obtain ⟨sl, e1⟩ := a.slot c ob q n hc hx
    obtain ⟨sl', e2⟩ := b.slot c _ e1 (a.free c ob q n hx) hc hx
    exact ⟨sl', e2⟩
  free := fun c ob q n hx => by
    obtain ⟨o', e1⟩ := a.there c ob q hx
    exact b.free c o' e1 (a.free c ob q n hx) hx
  there := fun c ob q hx => by
    obtain ⟨o', e1⟩ := a.there c ob q hx
    exact b.there c o' e1 hx
  tups := fun c xs q => b.tups c xs (a.tups c xs q)
  frzs := fun c ob xs q => b.frzs c ob xs (a.frzs c ob xs q)
  tbls := fun c ps q => by
    obtain ⟨m1, e1⟩ := a.tbls c ps q
    obtain ⟨m2, e2⟩ := b.tbls c _ e1
    exact ⟨m1 ++ m2, by rw [e2, Array.append_assoc]⟩
theorem Un.kept (k : ∀ b u, h.get? b = some u → h'.get? b = some u) : Un fs ex H H h h' :=
  ⟨fun b ob q _ _ _ => k b ob q, fun b ob q _ _ _ => ⟨ob.slots, k b ob q⟩, fun _ _ _ n _ => n, fun b ob q _ => ⟨ob, k b ob q⟩, fun _ _ q => q, fun _ _ _ q => q, fun _ ps q => ⟨#[], by rw [q]; simp⟩⟩
theorem Un.refl : Un fs ex H H h h := Un.kept fun _ _ q => q
theorem Un.laid (k : ∀ b u, h.get? b = some u → h'.get? b = some u) (hp : h.objs.size ≤ a) (hn : H a = none) : Un fs ex H (upd H a o) h h' where
  keep := fun b u q _ _ _ => k b u q
  slot := fun b u q _ _ _ => ⟨u.slots, k b u q⟩
  free := fun b u q n _ => by rw [upd_ne (Nat.ne_of_lt (Nat.lt_of_lt_of_le (Heap.lt_size q) hp))]; exact n
  there := fun b u q _ => ⟨u, k b u q⟩
  tups := fun b xs q => by rw [upd_ne (ne_of_none q hn)]; exact q
  frzs := fun b u xs q => by rw [upd_ne (ne_of_none q hn)]; exact q
  tbls := fun b ps q => ⟨#[], by rw [upd_ne (ne_of_none q hn), q]; simp⟩
theorem Un.write (mu : Mut (H x)) (he : e = x ∨ H e = some (.own x)) (k : ∀ b u, b ≠ e → h.get? b = some u → h'.get? b = some u) (heo : ∃ u, h'.get? e = some u) : Un fs ex H (upd H x o) h h' := by
  have hx : ∀ b, H b = none → b ≠ x := fun b n z => by subst z; rw [n] at mu; exact mu
  have hb : ∀ b, H b = none → b ≠ e := fun b n z => by
    subst z
    rcases he with r | r
    · exact hx b n r
    · rw [n] at r; cases r
  have hm : ∀ b u, H b = some u → ¬ Mut (some u) → b ≠ x := fun b u q nm z => by subst z; rw [q] at mu; exact nm mu
  refine ⟨fun b u q n _ _ => k b u (hb b n) q, fun b u q n _ _ => ⟨u.slots, k b u (hb b n) q⟩, fun b u q n _ => by rw [upd_ne (hx b n)]; exact n, fun b u q _ => ?_,
    fun b xs q => by rw [upd_ne (hm b _ q fun z => z)]; exact q, fun b u xs q => by rw [upd_ne (hm b _ q fun z => z)]; exact q, fun b ps q => ⟨#[], by rw [upd_ne (hm b _ q fun z => z), q]; simp⟩⟩
  by_cases hbe : b = e
  · subst hbe; exact heo
  · exact ⟨u, k b u hbe q⟩
theorem Un.mono (u : Un fs ex H H1 h h1) (hs : ∀ b ∈ fs, b ∈ fs') (hx : ∀ b ∈ ex, b ∈ ex') : Un fs' ex' H H1 h h1 :=
  ⟨fun b ob q n hb he => u.keep b ob q n (fun z => hb (hs b z)) fun z => he (hx b z), fun _ _ q n _ he => u.any q n fun z => he (hx _ z), fun b ob q n he => u.free b ob q n fun z => he (hx b z), fun b ob q he => u.there b ob q fun z => he (hx b z), u.tups, u.frzs, u.tbls⟩
end

def trk (h : Heap) (H : Hp) : List Addr := (List.range h.objs.size).filter fun a => (H a).isSome
def hidT (h : Heap) (H : Hp) : Heap := PySem.W.hideAll h (trk h H)
theorem hidT_size (h : Heap) (H : Hp) : (hidT h H).objs.size = h.objs.size := PySem.W.hideAll_size _ _
theorem hidT_get {h : Heap} {H : Hp} {b : Addr} {o : Obj} (e : h.get? b = some o) (n : H b = none) : (hidT h H).get? b = some o :=
  PySem.W.hideAll_get _ e fun hm => by
    have q : (H b).isSome = true := (List.mem_filter.mp hm).2
    rw [n] at q; simp at q
theorem of_hidT {h : Heap} {H : Hp} {b : Addr} {o : Obj} (e : (hidT h H).get? b = some o) : h.get? b = some o ∧ H b = none := by
  have e' : h.get? b = some o := PySem.W.of_hideAll (trk h H) e
  refine ⟨e', ?_⟩
  cases q : H b with
  | none => rfl
  | some x =>
    have hm : b ∈ trk h H := List.mem_filter.mpr ⟨List.mem_range.mpr (Heap.lt_size e'), by simp [q]⟩
    have z : (hidT h H).get? b = none := PySem.W.hideAll_none (trk h H) hm
    rw [z] at e; cases e

def allNews (g h : Heap) (L : Addr) : List (Addr × Obj) := (List.range h.objs.size).filterMap fun a => if a = L ∨ (g.get? a).isSome = true then none else (h.get? a).map fun o => (a, o)
def rest (g h : Heap) (L d : Addr) : List (Addr × Obj) := (allNews g h L).filter fun p => decide (p.1 ≠ d)
end L2

namespace L2
open PySem PySem.Spec PyProof.Rows

/-- the module's facts, over the base: the heap at the law's entry without what is tracked there -/
structure Mod (K : PySem.W.Frag) (mg : Str → Option Value) (base : Heap) : Prop where
  kin : K.In base
  glob : base.Ns mainGlobals mg
  blt : ∃ mb, base.Ns builtinsNs mb ∧ ∀ x : Str, x ≠ "__name__" → mb x = bootBuiltins x
  nolimit : base.NoLimit

/-- the context: a def's body (or a comprehension's block) running. base: fixed through the whole law; s₀, H₀: the entry; outer: the frames whose slots others may change (a def's callers); stack: all frames that run;
   ex: iterators that were made ahead of the entry and are walked here (a comprehension's); fn: the names whose cells were made at the entry (a def: all; a comprehension's block: its own); calm: not within an except suite; pn: pins that every state bears; xe: what is wanted of an exception that leaves the code -/
structure Cx where
  prog : Program
  w : World
  K : PySem.W.Frag
  mg : Str → Option Value
  base : Heap
  A : Around
  N : List Str
  s₀ : Shared
  H₀ : Hp
  env : Env
  outer : List Env
  stack : List Env
  ex : List Addr
  fn : Str → Bool
  calm : Bool
  pn : List (Addr × Obj)
  xe : Value → Shared → Prop
/-- the callers' frames -/
def frs (l : List Env) : List Addr := l.filterMap (·.frame)
abbrev Cx.fs (X : Cx) : List Addr := frs X.outer

def Vis (sc : Scope) (x : Str) : Prop := sc.names.lookup x = some .local ∨ sc.names.lookup x = some .cell ∨ sc.names.lookup x = some .free
def Loc (sc : Scope) (x : Str) : Prop := sc.names.lookup x = some .local ∨ sc.names.lookup x = some .cell
def Look (env : Env) (h : Heap) (m : Str → Option Value) (x : Str) (u : Value) : Prop :=
  (env.kindOf x = some .local ∧ m x = some u) ∨ ((env.kindOf x = some .cell ∨ env.kindOf x = some .free) ∧ ∃ c, env.cells.lookup x = some c ∧ h.IsCell c (some u))

structure Cx.Ok (X : Cx) : Prop where
  mod : Mod X.K X.mg X.base
  kind : X.env.scope.kind = .function
  glob : X.env.globals = mainGlobals
  blt : X.env.builtins = builtinsNs
  above : X.s₀.heap.objs.size ≤ X.env.locals
  inj : ∀ x y c, X.env.cells.lookup x = some c → X.env.cells.lookup y = some c → x = y
  has : ∀ x, (X.env.kindOf x = some .cell ∨ X.env.kindOf x = some .free) → ∃ c, X.env.cells.lookup x = some c
  cab : ∀ x c, X.fn x = true → X.env.cells.lookup x = some c → X.s₀.heap.objs.size ≤ c
  hd : X.calm = true → X.A.handled = none
  frames : X.A.frames = some X.stack
  stk : X.stack = X.outer ∨ (X.stack = X.env :: X.outer ∧ X.env.frame = some X.env.locals)
  exf : ∀ b ∈ X.ex, b ≠ X.env.locals ∧ ∀ x c, X.env.cells.lookup x = some c → c ≠ b
  bs : ∀ b o, X.base.get? b = some o → X.s₀.heap.get? b = some o ∧ X.H₀ b = none
  bsz : X.base.objs.size ≤ X.s₀.heap.objs.size
  noex : ∀ b o, X.base.get? b = some o → b ∉ X.ex
  exfs : ∀ b ∈ X.ex, b ∉ X.fs
  funs : X.s₀.heap.FunFrames X.base X.outer
  frf : ∀ b ∈ X.fs, X.H₀ b = none

structure Inv (X : Cx) (pins : List (Addr × Obj)) (σ : List (Option V)) (H : Hp) (s : Shared) : Prop where
  ok : X.Ok
  os : s.os = X.s₀.os
  bare : AllBare s.gens
  base : Un X.fs X.ex X.H₀ H X.s₀.heap s.heap
  loc : ∃ m, s.heap.Ns X.env.locals m ∧ ∀ (i : Nat) (x : Str) (v : V), X.N[i]? = some x → σ[i]? = some (some v) → Vis X.env.scope x → ∃ u, RelV v u ∧ Look X.env s.heap m x u
  cell : ∀ x c, X.env.cells.lookup x = some c → ∃ v, s.heap.IsCell c v
  free : H X.env.locals = none
  freeC : ∀ x c, X.env.cells.lookup x = some c → H c = none
  pin : ∀ p ∈ X.pn ++ pins, s.heap.get? p.1 = some p.2 ∧ H p.1 = none ∧ p.1 ≠ X.env.locals ∧ p.1 ∉ X.fs ∧ ∀ v, p.2.data ≠ .cell v
  hok : HOk X.prog X.w H s.heap
  len : σ.length = X.N.length

section
variable {X : Cx} {pins : List (Addr × Obj)} {σ : List (Option V)} {H H' : Hp} {s : Shared} {h' : Heap}

theorem Cx.Ok.nofr (ok : X.Ok) {b : Addr} {o : Obj} (e : X.base.get? b = some o) : b ∉ X.fs := fun hb => by
  have := (ok.funs.mem hb).1
  rw [e] at this; cases this
theorem Inv.bs (I : Inv X pins σ H s) : ∀ b o, X.base.get? b = some o → s.heap.get? b = some o ∧ H b = none := fun b o e =>
  ⟨I.base.keep b o (I.ok.bs b o e).1 (I.ok.bs b o e).2 (I.ok.nofr e) (I.ok.noex b o e), I.base.free b o (I.ok.bs b o e).1 (I.ok.bs b o e).2 (I.ok.noex b o e)⟩
theorem Inv.bk (I : Inv X pins σ H s) : ∀ b o, X.base.get? b = some o → s.heap.get? b = some o := fun b o e => (I.bs b o e).1
theorem Inv.mod (I : Inv X pins σ H s) : Mod X.K X.mg X.base := I.ok.mod
theorem Inv.kIn (I : Inv X pins σ H s) : X.K.In s.heap := I.ok.mod.kin.keeps I.bk
theorem Inv.nolimit (I : Inv X pins σ H s) : s.heap.NoLimit := I.ok.mod.nolimit.keeps I.bk
/-- the frame over the base: for OpenK's rules (K.In X.base is I.mod.kin) -/
theorem Inv.fr (I : Inv X pins σ H s) : ∃ m, Fr X.base X.env.locals s.heap m :=
  let ⟨m, hn, _⟩ := I.loc
  ⟨m, hn, I.bk, Nat.le_trans I.ok.bsz I.ok.above⟩
theorem Inv.lt (I : Inv X pins σ H s) : X.env.locals < s.heap.objs.size := let ⟨_, hn, _⟩ := I.loc; hn.lt
theorem Inv.sz (I : Inv X pins σ H s) : X.s₀.heap.objs.size ≤ s.heap.objs.size := Nat.le_trans I.ok.above (Nat.le_of_lt I.lt)
theorem Inv.nofs (I : Inv X pins σ H s) {a : Addr} (h : s.heap.objs.size ≤ a) : a ∉ X.fs := fun hb => by
  obtain ⟨_, o, ho, _⟩ := I.ok.funs.mem hb
  exact absurd (Nat.lt_of_lt_of_le (Heap.lt_size ho) (Nat.le_trans I.sz h)) (Nat.lt_irrefl _)
theorem Inv.cne (I : Inv X pins σ H s) : ∀ x c, X.env.cells.lookup x = some c → c ≠ X.env.locals := fun x c e z => by
  obtain ⟨v, o, ho, hd⟩ := I.cell x c e
  obtain ⟨m, ⟨o', es, ep, ho', hd', _⟩, _⟩ := I.loc
  rw [z, ho'] at ho; cases ho; rw [hd'] at hd; cases hd
theorem Inv.funs (I : Inv X pins σ H s) : s.heap.FunFrames X.base X.outer := by
  have all : ∀ (l : List Env), (∀ b ∈ frs l, b ∈ X.fs) → X.s₀.heap.FunFrames X.base l → s.heap.FunFrames X.base l := by
    intro l
    induction l with
    | nil => intro _ _; trivial
    | cons env r ih =>
      intro hs hl
      obtain ⟨hk, ⟨L, o, hf, hn, ho, hd⟩, hr⟩ := hl
      have hL : L ∈ X.fs := hs L (by unfold frs; rw [List.filterMap_cons, hf]; exact List.mem_cons_self)
      obtain ⟨sl, e⟩ := I.base.slot L o ho (I.ok.frf L hL) hL fun z => I.ok.exfs L z hL
      exact ⟨hk, ⟨L, _, hf, hn, e, hd⟩, ih (fun b hb => hs b (by unfold frs; rw [List.filterMap_cons, hf]; exact List.mem_cons_of_mem _ hb)) hr⟩
  exact all X.outer (fun _ hb => hb) I.ok.funs

/-- the frames that run, for a call -/
theorem Inv.stack (I : Inv X pins σ H s) : s.heap.FunFrames X.base X.stack := by
  rcases I.ok.stk with e | ⟨e, hf⟩
  · rw [e]; exact I.funs
  · rw [e]
    obtain ⟨m, hn, _⟩ := I.loc
    refine .cons (by rw [I.ok.kind]; decide) hf hn ?_ I.funs
    exact Heap.get?_none_of_le (Nat.le_trans I.ok.bsz I.ok.above)
theorem Inv.stkSub (I : Inv X pins σ H s) : ∀ b ∈ frs X.stack, b ∈ X.env.locals :: X.fs := fun b hb => by
  rcases I.ok.stk with e | ⟨e, hf⟩
  · rw [e] at hb; exact List.mem_cons_of_mem _ hb
  · rw [e] at hb
    unfold frs at hb
    rw [List.filterMap_cons, hf] at hb
    exact hb
theorem Inv.stkFree (I : Inv X pins σ H s) : ∀ b ∈ frs X.stack, H b = none := fun b hb => by
  rcases List.mem_cons.mp (I.stkSub b hb) with e | hb
  · rw [e]; exact I.free
  · obtain ⟨_, o, ho, _⟩ := I.ok.funs.mem hb
    exact I.base.free b o ho (I.ok.frf b hb) fun z => I.ok.exfs b z hb

/-- THE STEP: the untracked objects but the frame and the records at ch are kept (the callers' frames up to slots), the frame's map is kept, the new abstract heap is held -/
theorem Inv.step {g' : Array GenState} {t' : Nat} {d' : Drawn} {ch : List Addr} (I : Inv X pins σ H s)
    (hch : ∀ b ∈ ch, (b ∈ X.ex ∨ X.s₀.heap.objs.size ≤ b) ∧ b ≠ X.env.locals ∧ (∀ x c, X.env.cells.lookup x = some c → c ≠ b) ∧ ∀ p ∈ X.pn ++ pins, p.1 ≠ b)
    (keep : ∀ b o, b ≠ X.env.locals → b ∉ X.fs → b ∉ ch → s.heap.get? b = some o → H b = none → h'.get? b = some o)
    (slot : ∀ b o, b ≠ X.env.locals → b ∈ X.fs → b ∉ ch → s.heap.get? b = some o → H b = none → ∃ sl, h'.get? b = some { o with slots := sl }) (free : ∀ b o, b ∉ ch → s.heap.get? b = some o → H b = none → H' b = none)
    (there : ∀ b o, b ∉ ch → s.heap.get? b = some o → ∃ o', h'.get? b = some o')
    (tups : ∀ b xs, H b = some (.tup xs) → H' b = some (.tup xs)) (frzs : ∀ b o u, H b = some (.frz o u) → H' b = some (.frz o u)) (tbls : ∀ b ps, H b = some (.tbl ps) → ∃ more, H' b = some (.tbl (ps ++ more)))
    (ns : ∀ m, s.heap.Ns X.env.locals m → h'.Ns X.env.locals m) (hok : HOk X.prog X.w H' h') (hg : AllBare g') :
    Inv X pins σ H' { s with heap := h', gens := g', drawn := d', toks := t' } := by
  have neL : ∀ b o, X.s₀.heap.get? b = some o → b ≠ X.env.locals := fun b o e => Nat.ne_of_lt (Nat.lt_of_lt_of_le (Heap.lt_size e) I.ok.above)
  have neC : ∀ b o, X.s₀.heap.get? b = some o → b ∉ X.ex → b ∉ ch := fun b o e hx hb => by
    rcases (hch b hb).1 with z | z
    · exact hx z
    · exact absurd (Nat.lt_of_lt_of_le (Heap.lt_size e) z) (Nat.lt_irrefl _)
  have cellK : ∀ x c, X.env.cells.lookup x = some c → ∀ v, s.heap.IsCell c v → h'.IsCell c v := fun x c e v ⟨o, ho, hd⟩ => by
    have nch : c ∉ ch := fun z => (hch c z).2.2.1 x c e rfl
    by_cases hc : c ∈ X.fs
    · obtain ⟨sl, q⟩ := slot c o (I.cne x c e) hc nch ho (I.freeC x c e)
      exact ⟨_, q, hd⟩
    · exact ⟨o, keep c o (I.cne x c e) hc nch ho (I.freeC x c e), hd⟩
  refine ⟨I.ok, I.os, hg, ⟨fun b o e n hb hx => ?_, fun b o e n hb hx => ?_, fun b o e n hx => ?_, fun b o e hx => ?_, fun b xs e => tups b xs (I.base.tups b xs e), fun b o xs e => frzs b o xs (I.base.frzs b o xs e), fun b ps e => ?_⟩, ?_, fun x c e => ?_, ?_, fun x c e => ?_, fun p hp => ?_, hok, I.len⟩
  · exact keep b o (neL b o e) hb (neC b o e hx) (I.base.keep b o e n hb hx) (I.base.free b o e n hx)
  · obtain ⟨sl, e1⟩ := I.base.slot b o e n hb hx
    obtain ⟨sl', e2⟩ := slot b _ (neL b o e) hb (neC b o e hx) e1 (I.base.free b o e n hx)
    exact ⟨sl', e2⟩
  · obtain ⟨o', e1⟩ := I.base.there b o e hx
    exact free b o' (neC b o e hx) e1 (I.base.free b o e n hx)
  · obtain ⟨o', e1⟩ := I.base.there b o e hx
    exact there b o' (neC b o e hx) e1
  · obtain ⟨m1, e1⟩ := I.base.tbls b ps e
    obtain ⟨m2, e2⟩ := tbls b _ e1
    exact ⟨m1 ++ m2, by rw [e2, Array.append_assoc]⟩
  · obtain ⟨m, hn, hl⟩ := I.loc
    refine ⟨m, ns m hn, fun i x v e1 e2 e3 => ?_⟩
    obtain ⟨u, r, l⟩ := hl i x v e1 e2 e3
    refine ⟨u, r, ?_⟩
    rcases l with l | ⟨k, c, e, z⟩
    · exact .inl l
    · exact .inr ⟨k, c, e, cellK x c e _ z⟩
  · obtain ⟨v, z⟩ := I.cell x c e
    exact ⟨v, cellK x c e v z⟩
  · obtain ⟨m, ⟨o, _, _, ho, _⟩, _⟩ := I.loc
    exact free _ o (fun z => (hch _ z).2.1 rfl) ho I.free
  · obtain ⟨v, o, ho, hd⟩ := I.cell x c e
    exact free c o (fun z => (hch c z).2.2.1 x c e rfl) ho (I.freeC x c e)
  · obtain ⟨e, n, ne, nf, d⟩ := I.pin p hp
    have nch : p.1 ∉ ch := fun z => (hch p.1 z).2.2.2 p hp rfl
    exact ⟨keep p.1 p.2 ne nf nch e n, free p.1 p.2 nch e n, ne, nf, d⟩
/-- .. where the frame's own object is kept too -/
theorem Inv.un {t' : Nat} (I : Inv X pins σ H s) (u : Un X.fs [] H H' s.heap h') (hok : HOk X.prog X.w H' h') : Inv X pins σ H' { s with heap := h', toks := t' } := by
  obtain ⟨m, ⟨o, es, ep, ho, r⟩, _⟩ := id I.loc
  obtain ⟨sl, hL⟩ := u.any ho I.free (by simp)
  exact I.step (g' := s.gens) (d' := s.drawn) (ch := []) (fun _ z => nomatch z) (fun b o _ hb _ e n => u.keep b o e n hb (by simp)) (fun b o _ hb _ e n => u.slot b o e n hb (by simp)) (fun b o _ e n => u.free b o e n (by simp)) (fun b o _ e => u.there b o e (by simp)) u.tups u.frzs u.tbls (fun m' hm => by
    obtain ⟨o', es', ep', ho', r'⟩ := hm
    rw [ho] at ho'; cases ho'
    exact ⟨_, es', ep', hL, r'⟩) hok I.bare
/-- behind a call (or a comprehension's block): the slots of this frame may have changed too, the records at ch may have turned -/
theorem Inv.call {g' : Array GenState} {t' : Nat} {d' : Drawn} {ch : List Addr} (I : Inv X pins σ H s) (u : Un (frs X.stack) ch H H' s.heap h') (hok : HOk X.prog X.w H' h') (hg : AllBare g')
    (hch : ∀ b ∈ ch, (b ∈ X.ex ∨ X.s₀.heap.objs.size ≤ b) ∧ b ≠ X.env.locals ∧ (∀ x c, X.env.cells.lookup x = some c → c ≠ b) ∧ ∀ p ∈ X.pn ++ pins, p.1 ≠ b) :
    Inv X pins σ H' { s with heap := h', gens := g', drawn := d', toks := t' } := by
  obtain ⟨m, ⟨o, es, ep, ho, r⟩, _⟩ := id I.loc
  obtain ⟨sl, hL⟩ := u.any ho I.free fun z => (hch _ z).2.1 rfl
  exact I.step (ch := ch) hch (fun b o hL hb hc e n => u.keep b o e n (fun z => (List.mem_cons.mp (I.stkSub b z)).elim hL hb) hc) (fun b o _ _ hc e n => u.any e n hc) (fun b o hc e n => u.free b o e n hc) (fun b o hc e => u.there b o e hc) u.tups u.frzs u.tbls (fun m' hm => by
    obtain ⟨o', es', ep', ho', r'⟩ := hm
    rw [ho] at ho'; cases ho'
    exact ⟨_, es', ep', hL, r'⟩) hok hg
/-- an untracked record of ours (an iterator) has turned -/
theorem Inv.turned {t' : Nat} {it : Addr} (I : Inv X pins σ H s) (k : ∀ b o, b ≠ it → s.heap.get? b = some o → h'.get? b = some o) (hn : H it = none) (hL : it ≠ X.env.locals)
    (h1 : it ∈ X.ex ∨ X.s₀.heap.objs.size ≤ it) (h2 : ∀ x c, X.env.cells.lookup x = some c → c ≠ it) (h3 : ∀ p ∈ X.pn ++ pins, p.1 ≠ it) : Inv X pins σ H { s with heap := h', toks := t' } := by
  have nit : ∀ b u, H b = some u → b ≠ it := fun b u e z => by rw [z, hn] at e; cases e
  refine I.step (g' := s.gens) (d' := s.drawn) (ch := [it]) (fun b hb => ?_) (fun b o _ _ hc e _ => k b o (fun z => hc (by simp [z])) e) (fun b o _ _ hc e _ => ⟨o.slots, k b o (fun z => hc (by simp [z])) e⟩) (fun _ _ _ _ n => n)
    (fun b o hc e => ⟨o, k b o (fun z => hc (by simp [z])) e⟩) (fun _ _ e => e) (fun _ _ _ e => e) (fun b ps e => ⟨#[], by rw [e]; simp⟩) (fun m hm => ?_) (fun b u e => ?_) I.bare
  · have e : b = it := by simpa using hb
    subst e
    exact ⟨h1, hL, h2, h3⟩
  · obtain ⟨o, es, ep, ho, r⟩ := hm
    exact ⟨o, es, ep, k _ o (Ne.symm hL) ho, r⟩
  · refine (I.hok b u e).stay (fun c v hc q => k c v ?_ q) (fun _ q => q) fun _ _ q => q
    rcases hc with z | z
    · rw [z]; exact nit b u e
    · exact nit c _ z
theorem Inv.tok (I : Inv X pins σ H s) (t : Nat) : Inv X pins σ H { s with toks := t } := I.un (h' := s.heap) (t' := t) Un.refl I.hok
/-- all objects kept -/
theorem Inv.kept {t' : Nat} (I : Inv X pins σ H s) (k : ∀ b u, s.heap.get? b = some u → h'.get? b = some u) : Inv X pins σ H { s with heap := h', toks := t' } := I.un (Un.kept k) (I.hok.kept k)
/-- a new object laid and tracked -/
theorem Inv.laid {a : Addr} {o : HO} {t' : Nat} (I : Inv X pins σ H s) (k : ∀ b u, s.heap.get? b = some u → h'.get? b = some u) (hp : s.heap.objs.size ≤ a) (new : ObjOk X.prog X.w (upd H a o) h' a o) :
    Inv X pins σ (upd H a o) { s with heap := h', toks := t' } := I.un (Un.laid k hp (I.hok.fresh hp)) (I.hok.laid k hp new)
/-- an object written -/
theorem Inv.write {x e : Addr} {o : HO} {t' : Nat} (I : Inv X pins σ H s) (mu : Mut (H x)) (he : e = x ∨ H e = some (.own x)) (k : ∀ b u, b ≠ e → s.heap.get? b = some u → h'.get? b = some u) (heo : ∃ u, h'.get? e = some u)
    (new : ObjOk X.prog X.w (upd H x o) h' x o) : Inv X pins σ (upd H x o) { s with heap := h', toks := t' } := I.un (Un.write mu he k heo) (I.hok.write mu he k heo new)
theorem Inv.pins_of {pins' : List (Addr × Obj)} (I : Inv X pins σ H s) (h : ∀ p ∈ pins', s.heap.get? p.1 = some p.2 ∧ H p.1 = none ∧ p.1 ≠ X.env.locals ∧ p.1 ∉ X.fs ∧ ∀ v, p.2.data ≠ .cell v) : Inv X pins' σ H s :=
  ⟨I.ok, I.os, I.bare, I.base, I.loc, I.cell, I.free, I.freeC, fun p hp => (List.mem_append.mp hp).elim (fun z => I.pin p (List.mem_append_left _ z)) (h p), I.hok, I.len⟩

theorem nodup_ix {N : List Str} (hN : N.Nodup) {i j : Nat} {x : Str} (a : N[i]? = some x) (b : N[j]? = some x) : i = j := by
  obtain ⟨h1, e1⟩ := List.getElem?_eq_some_iff.mp a
  obtain ⟨h2, e2⟩ := List.getElem?_eq_some_iff.mp b
  exact (List.getElem_inj hN).mp (e1.trans e2.symm)

/-- a name is stored; what changed -/
theorem store_ok2 {M : Model} {A : Around} {E : Value → Shared → Prop} {i : Nat} {x : Str} {v : V} {u : Value} {Q : Unit → Shared → Prop} (I : Inv X pins σ H s) (hN : X.N.Nodup) (hi : X.N[i]? = some x) (hx : Loc X.env.scope x) (r : RelV v u)
    (h : ∀ s', Inv X pins (σ.set i (some v)) H s' → (∃ a, Heap.SameBut a s.heap s'.heap ∧ (a = X.env.locals ∨ X.env.cells.lookup x = some a)) → Q () s') (hf : X.fn x = true ∨ X.env.scope.names.lookup x = some .local := by first | exact .inl rfl | exact .inr rfl | assumption) : wpAny M A (storeName X.env x u) Q E s := by
  obtain ⟨m, hn, hl⟩ := id I.loc
  have hcls : (X.env.scope.kind == .class || (X.env.scope.kind == .module && X.env.locals != X.env.globals)) = false := by rw [I.ok.kind]; rfl
  have hiσ : i < σ.length := by rw [I.len]; exact (List.getElem?_eq_some_iff.mp hi).1
  have cne := I.cne
  have tracked : ∀ {a : Addr} {h' : Heap}, (∃ o, s.heap.get? a = some o ∧ H a = none) → Heap.SameBut a s.heap h' → HOk X.prog X.w H h' := fun {a h'} ha hs b ob e => by
    obtain ⟨_, _, hfree⟩ := ha
    refine (I.hok b ob e).stay (fun c w' hc q => (hs.2 c ?_).trans q) (fun _ q => q) fun _ _ q => q
    rintro rfl
    rcases hc with rfl | hc
    · rw [hfree] at e; cases e
    · rw [hfree] at hc; cases hc
  rcases hx with hk | hk
  · refine wpAny_storeName_local hk hn (fun h' hn' hs => ?_) hcls
    obtain ⟨oL, _, _, hoL, _⟩ := id hn
    refine h _ ⟨I.ok, I.os, I.bare, ⟨fun b o e n hb hx => ?_, fun b o e n hb hx => ?_, I.base.free, fun b o e hx => ?_, I.base.tups, I.base.frzs, I.base.tbls⟩, ⟨_, hn', fun j y v' e1 e2 e3 => ?_⟩, fun y c e => ?_, I.free, I.freeC, fun p hp => ?_, tracked ⟨oL, hoL, I.free⟩ hs, by simpa using I.len⟩ ⟨_, hs, .inl rfl⟩
    · exact (hs.2 b (Nat.ne_of_lt (Nat.lt_of_lt_of_le (Heap.lt_size e) I.ok.above))).trans (I.base.keep b o e n hb hx)
    · obtain ⟨sl, e1⟩ := I.base.slot b o e n hb hx
      exact ⟨sl, (hs.2 b (Nat.ne_of_lt (Nat.lt_of_lt_of_le (Heap.lt_size e) I.ok.above))).trans e1⟩
    · obtain ⟨o', e1⟩ := I.base.there b o e hx
      exact ⟨o', (hs.2 b (Nat.ne_of_lt (Nat.lt_of_lt_of_le (Heap.lt_size e) I.ok.above))).trans e1⟩
    · by_cases hj : j = i
      · subst hj
        rw [hi] at e1; cases e1
        rw [List.getElem?_set_self hiσ] at e2
        cases e2
        exact ⟨u, r, .inl ⟨hk, by simp⟩⟩
      · rw [List.getElem?_set_ne (Ne.symm hj)] at e2
        obtain ⟨u', r', q⟩ := hl j y v' e1 e2 e3
        refine ⟨u', r', ?_⟩
        rcases q with ⟨k, e⟩ | ⟨k, c, e, z⟩
        · refine .inl ⟨k, ?_⟩
          have : y ≠ x := fun e => hj (nodup_ix hN e1 (e ▸ hi))
          simp [this, e]
        · exact .inr ⟨k, c, e, z.sameBut hs (cne y c e)⟩
    · obtain ⟨w', z⟩ := I.cell y c e
      exact ⟨w', z.sameBut hs (cne y c e)⟩
    · obtain ⟨e, n, ne, nf, d⟩ := I.pin p hp
      exact ⟨(hs.2 p.1 ne).trans e, n, ne, nf, d⟩
  · have hfn : X.fn x = true := by
      rcases hf with z | z
      · exact z
      · rw [z] at hk; cases hk
    obtain ⟨c, hc⟩ := I.ok.has x (.inl hk)
    obtain ⟨w', z⟩ := I.cell x c hc
    refine wpAny_storeName_cell I.ok.kind hk hc z (fun h' hc' hs => ?_)
    obtain ⟨oc, hoc, hocd⟩ := id z
    refine h { s with heap := h' } ⟨I.ok, I.os, I.bare, ⟨fun b o e n hb hx => ?_, fun b o e n hb hx => ?_, I.base.free, fun b o e hx => ?_, I.base.tups, I.base.frzs, I.base.tbls⟩, ⟨m, hn.sameBut hs (Ne.symm (cne x c hc)), fun j y v' e1 e2 e3 => ?_⟩, fun y c' e => ?_, I.free, I.freeC, fun p hp => ?_, tracked ⟨oc, hoc, I.freeC x c hc⟩ hs, by simpa using I.len⟩ ⟨c, hs, .inr hc⟩
    · exact (hs.2 b (Nat.ne_of_lt (Nat.lt_of_lt_of_le (Heap.lt_size e) (I.ok.cab x c hfn hc)))).trans (I.base.keep b o e n hb hx)
    · obtain ⟨sl, e1⟩ := I.base.slot b o e n hb hx
      exact ⟨sl, (hs.2 b (Nat.ne_of_lt (Nat.lt_of_lt_of_le (Heap.lt_size e) (I.ok.cab x c hfn hc)))).trans e1⟩
    · obtain ⟨o', e1⟩ := I.base.there b o e hx
      exact ⟨o', (hs.2 b (Nat.ne_of_lt (Nat.lt_of_lt_of_le (Heap.lt_size e) (I.ok.cab x c hfn hc)))).trans e1⟩
    · by_cases hj : j = i
      · subst hj
        rw [hi] at e1; cases e1
        rw [List.getElem?_set_self hiσ] at e2
        cases e2
        exact ⟨u, r, .inr ⟨.inl hk, c, hc, hc'⟩⟩
      · rw [List.getElem?_set_ne (Ne.symm hj)] at e2
        obtain ⟨u', r', q⟩ := hl j y v' e1 e2 e3
        refine ⟨u', r', ?_⟩
        rcases q with q | ⟨k, c', e, z'⟩
        · exact .inl q
        · refine .inr ⟨k, c', e, z'.sameBut hs ?_⟩
          rintro rfl
          exact hj (nodup_ix hN e1 (I.ok.inj _ _ _ e hc ▸ hi))
    · by_cases hcc : c' = c
      · subst hcc; exact ⟨_, hc'⟩
      · obtain ⟨w2, z2⟩ := I.cell y c' e
        exact ⟨w2, z2.sameBut hs hcc⟩
    · obtain ⟨e, n, ne, nf, d⟩ := I.pin p hp
      refine ⟨(hs.2 p.1 ?_).trans e, n, ne, nf, d⟩
      intro q
      rw [q, hoc] at e
      have q' : oc = p.2 := Option.some.inj e
      exact d w' (by rw [← q']; exact hocd)
theorem store_ok {M : Model} {A : Around} {E : Value → Shared → Prop} {i : Nat} {x : Str} {v : V} {u : Value} {Q : Unit → Shared → Prop} (I : Inv X pins σ H s) (hN : X.N.Nodup) (hi : X.N[i]? = some x) (hx : Loc X.env.scope x) (r : RelV v u)
    (h : ∀ s', Inv X pins (σ.set i (some v)) H s' → Q () s') (hf : X.fn x = true ∨ X.env.scope.names.lookup x = some .local := by first | exact .inl rfl | exact .inr rfl | assumption) : wpAny M A (storeName X.env x u) Q E s :=
  store_ok2 I hN hi hx r (fun s' I' _ => h s' I') hf
/-- behind a call or a block, the state as it is -/
theorem Inv.call' {s' : Shared} {ch : List Addr} (I : Inv X pins σ H s) (ho : s'.os = s.os) (u : Un (frs X.stack) ch H H' s.heap s'.heap) (hok : HOk X.prog X.w H' s'.heap) (hg : AllBare s'.gens)
    (hch : ∀ b ∈ ch, (b ∈ X.ex ∨ X.s₀.heap.objs.size ≤ b) ∧ b ≠ X.env.locals ∧ (∀ x c, X.env.cells.lookup x = some c → c ≠ b) ∧ ∀ p ∈ X.pn ++ pins, p.1 ≠ b) : Inv X pins σ H' s' := by
  obtain ⟨h', g', d', t', o'⟩ := s'
  have e : o' = s.os := ho
  subst e
  exact I.call (g' := g') (t' := t') (d' := d') u hok hg hch
end

/-- an exception: its class, its own dict's address (where it has one), the abstract heap behind it -/
abbrev XK := Value → Option Addr → Hp → Prop
abbrev St := List (Option V)
abbrev VK := V → Hp → Prop
/-- an expression's reading; a test's; an argument list's -/
abbrev TE := St → Hp → VK → Prop
abbrev TT := St → Hp → (Bool → Hp → Prop) → Prop
abbrev TA := St → Hp → (List V → Hp → Prop) → Prop
/-- what is wanted behind a statement -/
structure Ends where
  nx : St → Hp → Prop
  rt : VK
  bk : St → Hp → Prop := fun _ _ => False
  ct : St → Hp → Prop := fun _ _ => False
abbrev TS := Ends → St → Hp → Prop

def EP (X : Cx) (pins : List (Addr × Obj)) (σ : St) (Q : VK) (u : Value) (s' : Shared) : Prop := ∃ v H', Inv X pins σ H' s' ∧ RelV v u ∧ Q v H'
def TP (X : Cx) (pins : List (Addr × Obj)) (σ : St) (Q : Bool → Hp → Prop) (b : Bool) (s' : Shared) : Prop := ∃ H', Inv X pins σ H' s' ∧ Q b H'
def AP (X : Cx) (pins : List (Addr × Obj)) (σ : St) (Q : List V → Hp → Prop) (us : List Value) (s' : Shared) : Prop := ∃ vs H', Inv X pins σ H' s' ∧ Vals vs us ∧ Q vs H'
def SP (X : Cx) (pins : List (Addr × Obj)) (D : Ends) (f : Flow) (s' : Shared) : Prop :=
  match f with
  | .next => ∃ σ' H', Inv X pins σ' H' s' ∧ D.nx σ' H'
  | .brk => ∃ σ' H', Inv X pins σ' H' s' ∧ D.bk σ' H'
  | .cont => ∃ σ' H', Inv X pins σ' H' s' ∧ D.ct σ' H'
  | .ret u => ∃ v σ' H', Inv X pins σ' H' s' ∧ RelV v u ∧ D.rt v H'

def PE (X : Cx) (e : Expr) (t : TE) : Prop :=
  ∀ (pins : List (Addr × Obj)) (s : Shared) (σ : St) (H : Hp) (Q : VK), Inv X pins σ H s → t σ H Q → wpAny (model X.prog X.w) X.A (eval e X.env) (EP X pins σ Q) X.xe s
def PT (X : Cx) (e : Expr) (t : TT) : Prop :=
  ∀ (pins : List (Addr × Obj)) (s : Shared) (σ : St) (H : Hp) (Q : Bool → Hp → Prop), Inv X pins σ H s → t σ H Q → wpAny (model X.prog X.w) X.A (isTrue e X.env (eval e X.env)) (TP X pins σ Q) X.xe s
/-- a test whatever its 'whole' is (and, or) -/
def PW (X : Cx) (e : Expr) (t : TT) : Prop :=
  ∀ (whole : Sem Value) (pins : List (Addr × Obj)) (s : Shared) (σ : St) (H : Hp) (Q : Bool → Hp → Prop), Inv X pins σ H s → t σ H Q → wpAny (model X.prog X.w) X.A (isTrue e X.env whole) (TP X pins σ Q) X.xe s
theorem PW.pt {X : Cx} {e : Expr} {t : TT} (h : PW X e t) : PT X e t := h _
/-- an argument list (no star), from the left -/
def PA (X : Cx) (es : List Expr) (t : TA) : Prop :=
  ∀ (pos : Pos) (pins : List (Addr × Obj)) (s : Shared) (σ : St) (H : Hp) (Q : List V → Hp → Prop), Inv X pins σ H s → t σ H Q → wpAny (model X.prog X.w) X.A (spliced (backTo pos (starEach es X.env))) (AP X pins σ Q) X.xe s
def PS (X : Cx) (st : Stmt) (t : TS) : Prop :=
  ∀ (pins : List (Addr × Obj)) (s : Shared) (σ : St) (H : Hp) (D : Ends), Inv X pins σ H s → t D σ H → wpAny (model X.prog X.w) X.A (exec st X.env) (SP X pins D) X.xe s
def PSs (X : Cx) (st : List Stmt) (t : TS) : Prop :=
  ∀ (pins : List (Addr × Obj)) (s : Shared) (σ : St) (H : Hp) (D : Ends), Inv X pins σ H s → t D σ H → wpAny (model X.prog X.w) X.A (execs st X.env) (SP X pins D) X.xe s
/-- weaken the end -/
theorem thn {α : Type} {t : Sem α} {Q Q' : α → Shared → Prop} {M : Model} {A : Around} {E : Value → Shared → Prop} {s : Shared} (h : wpAny M A t Q E s) (hQ : ∀ a s, Q a s → Q' a s) : wpAny M A t Q' E s := wpAny_mono h hQ fun _ _ x => x
end L2

namespace L2
open PySem PySem.Spec PyProof.Rows
section
variable {X : Cx}

def tVar (i : Nat) : TE := fun σ H Q => ∃ v, σ[i]? = some (some v) ∧ Q v H
def tC (v : V) : TE := fun _ H Q => Q v H
theorem pe_var {i : Nat} {x : Str} {pos : Pos} (hN : X.N[i]? = some x) (hv : Vis X.env.scope x) (hd : (x == ("__debug__" : Str)) = false := by decide) (hcd : (x == ("__classdict__" : Str)) = false := by decide) : PE X (.Name x pos) (tVar i) := by
  intro pins s σ H Q I h
  obtain ⟨v, e, h⟩ := h
  obtain ⟨m, hn, hl⟩ := I.loc
  obtain ⟨u, r, l⟩ := hl i x v hN e hv
  have fin : EP X pins σ Q u s := ⟨v, H, I, r, h⟩
  rcases l with ⟨hk, hm⟩ | ⟨hk, c, hc, hcell⟩
  · exact wpAny_Name (wpAny_loadName_local I.ok.kind hk hn hm fin) hd
  · rcases hk with hk | hk
    · exact wpAny_Name (wpAny_loadName_cell I.ok.kind hk hc hcell fin) hd
    · exact wpAny_Name (wpAny_loadName_free I.ok.kind hk hc hcell fin hcd) hd
theorem pe_int {i j pos} : PE X (.Constant (.int i) j pos) (tC (.int i)) := fun _ _ _ H _ I h => wpAny_Constant_int ⟨.int i, H, I.tok _, ⟨_, rfl⟩, h⟩
theorem pe_bl {b j pos} : PE X (.Constant (.bool b) j pos) (tC (.bl b)) := fun _ _ _ H _ I h => Constant_bool ⟨.bl b, H, I, rfl, h⟩
/-- a global name of the def -/
def Gl (X : Cx) (x : Str) : Prop := X.env.kindOf x = some .globalImplicit
theorem ld_glob {E : Value → Shared → Prop} {pins : List (Addr × Obj)} {s : Shared} {σ : St} {H : Hp} {x : Str} {u : Value} {pos : Pos} {Q : Value → Shared → Prop} (I : Inv X pins σ H s) (hg : Gl X x) (hm : X.mg x = some u) (h : Q u s)
    (hd : (x == ("__debug__" : Str)) = false := by decide) : wpAny (model X.prog X.w) X.A (eval (.Name x pos) X.env) Q E s :=
  Calls.Name_function_global I.ok.kind hg (Calls.loadGlobal_global (by rw [I.ok.glob]; exact I.mod.glob.keeps I.bk) hm h) hd
theorem ld_blt {E : Value → Shared → Prop} {pins : List (Addr × Obj)} {s : Shared} {σ : St} {H : Hp} {x : Str} {u : Value} {pos : Pos} {Q : Value → Shared → Prop} (I : Inv X pins σ H s) (hg : Gl X x) (hm : X.mg x = none) (hv : bootBuiltins x = some u) (h : Q u s)
    (hn : x ≠ "__name__" := by decide) (hd : (x == ("__debug__" : Str)) = false := by decide) : wpAny (model X.prog X.w) X.A (eval (.Name x pos) X.env) Q E s := by
  obtain ⟨mb, h1, h2⟩ := I.mod.blt
  exact Calls.Name_function_global I.ok.kind hg (Calls.loadGlobal_builtin (by rw [I.ok.glob]; exact I.mod.glob.keeps I.bk) hm (by rw [I.ok.blt]; exact h1.keeps I.bk) ((h2 x hn).trans hv) h) hd
theorem pe_bltn {x : Str} {v : V} {u : Value} {pos : Pos} (hg : Gl X x) (hm : X.mg x = none) (hv : bootBuiltins x = some u) (r : RelV v u) (hn : x ≠ "__name__" := by decide) (hd : (x == ("__debug__" : Str)) = false := by decide) : PE X (.Name x pos) (tC v) :=
  fun _ _ _ H _ I h => ld_blt I hg hm hv ⟨v, H, I, r, h⟩ hn hd

/-- two ints -/
def t2I (ta tb : TE) (k : Int → Int → Hp → Prop) : St → Hp → Prop := fun σ H => ta σ H fun x H1 => tb σ H1 fun y H2 => ∃ i j, x = .int i ∧ y = .int j ∧ k i j H2
def tAdd (ta tb : TE) : TE := fun σ H Q => t2I ta tb (fun i j H2 => Q (.int (i + j)) H2) σ H
def tSub (ta tb : TE) : TE := fun σ H Q => t2I ta tb (fun i j H2 => Q (.int (i - j)) H2) σ H
/-- the left factor below 2^64 -/
def tMul (ta tb : TE) : TE := fun σ H Q => t2I ta tb (fun i j H2 => (-(2 ^ 64) < i ∧ i < 2 ^ 64) ∧ Q (.int (i * j)) H2) σ H
variable {a b : Expr} {ta tb : TE} {pos : Pos}
def PC (X : Cx) (op : CmpOp) (a b : Expr) (t : TE) : Prop :=
  ∀ (pins : List (Addr × Obj)) (s : Shared) (σ : St) (H : Hp) (Q : VK), Inv X pins σ H s → t σ H Q →
    wpAny (model X.prog X.w) X.A (eval a X.env) (fun v s₁ => wpAny (model X.prog X.w) X.A (eval b X.env) (fun u s₂ => wpAny (model X.prog X.w) X.A (compareOp op v u) (EP X pins σ Q) X.xe s₂) X.xe s₁) X.xe s
def tCmp (p : Int → Int → Bool) (ta tb : TE) : TE := fun σ H Q => t2I ta tb (fun i j H2 => Q (.bl (p i j)) H2) σ H
abbrev tLt : TE → TE → TE := tCmp fun i j => decide (i < j)
abbrev tLe : TE → TE → TE := tCmp fun i j => decide (i ≤ j)
abbrev tGt : TE → TE → TE := tCmp fun i j => decide (j < i)
abbrev tGe : TE → TE → TE := tCmp fun i j => decide (j ≤ i)
abbrev tEqI : TE → TE → TE := tCmp fun i j => decide (i = j)
abbrev tNeI : TE → TE → TE := tCmp fun i j => !decide (i = j)
/-- is None -/
def tIsN (ta : TE) : TE := fun σ H Q => ta σ H fun x H1 => Q (.bl (decide (x = .non))) H1
def tNotN (ta : TE) : TE := fun σ H Q => ta σ H fun x H1 => Q (.bl (!decide (x = .non))) H1
/-- a comparison as a value, as a test -/
def tB (t : TE) : TT := fun σ H Q => t σ H fun x H1 => ∃ c, x = .bl c ∧ Q c H1
/-- an expression whose value is a bool, as a test -/
theorem pt_val {e : Expr} {t : TE} (h : PE X e t) (he : ∀ whole, isTrue e X.env whole = (do let v ← whole; standAt e.pos; holding [v] (truthy v)) := by intro _; rfl) : PT X e (tB t) := by
  intro pins s σ H Q I hw
  refine isTrue_plain (thn (h pins s σ H _ I hw) fun v s1 ⟨x, H1, I1, r1, q1⟩ => ?_) (he _)
  obtain ⟨d, rfl, q⟩ := q1
  cases r1
  exact wpAny_truthy_bool ⟨H1, I1, q⟩

variable {tA tB' : TT} {rest : List Expr}
def tAnd (t u : TT) : TT := fun σ H Q => t σ H fun c H1 => if c = true then u σ H1 Q else Q false H1
def tOr (t u : TT) : TT := fun σ H Q => t σ H fun c H1 => if c = true then Q true H1 else u σ H1 Q
def tNot (t : TT) : TT := fun σ H Q => t σ H fun c H1 => Q (!c) H1
theorem pw_or1 (ha : PT X a tA) : PW X (.BoolOp .Or [a] pos) tA := by
  intro wh pins s σ H Q I h
  refine isTrue_or (thn (ha pins s σ H Q I h) fun c s1 e => ?_)
  cases c with
  | false => exact isTrue_or_nil e
  | true => exact e
theorem pw_or (ha : PT X a tA) (hb : PW X (.BoolOp .Or (b :: rest) pos) tB') : PW X (.BoolOp .Or (a :: b :: rest) pos) (tOr tA tB') := by
  intro wh pins s σ H Q I h
  refine isTrue_or (thn (ha pins s σ H _ I h) fun c s1 ⟨H1, I1, q1⟩ => ?_)
  cases c with
  | true => exact ⟨H1, I1, q1⟩
  | false => exact hb wh pins s1 σ H1 Q I1 q1
theorem pt_not (ha : PT X a tA) : PT X (.UnaryOp .Not a pos) (tNot tA) := by
  intro pins s σ H Q I h
  exact isTrue_not (ha pins s σ H (fun c H1 => Q (!c) H1) I h)
/-- .. as values (bools) -/
def tAndV (ta tb : TE) : TE := fun σ H Q => ta σ H fun x H1 => ∃ c, x = .bl c ∧ if c = true then tb σ H1 Q else Q (.bl false) H1
def tOrV (ta tb : TE) : TE := fun σ H Q => ta σ H fun x H1 => ∃ c, x = .bl c ∧ if c = true then Q (.bl true) H1 else tb σ H1 Q
def tNotV (ta : TE) : TE := fun σ H Q => ta σ H fun x H1 => ∃ c, x = .bl c ∧ Q (.bl (!c)) H1
theorem pe_one {op} {t : TE} (h : PE X a t) : PE X (.BoolOp op [a] pos) t := fun pins s σ H Q I hw => BoolOp_one (h pins s σ H Q I hw)
theorem pe_and (ha : PE X a ta) (hb : PE X (.BoolOp .And (b :: rest) pos) tb) : PE X (.BoolOp .And (a :: b :: rest) pos) (tAndV ta tb) := by
  intro pins s σ H Q I h
  refine BoolOp_and (thn (ha pins s σ H _ I h) fun v s1 ⟨x, H1, I1, r1, q1⟩ => ?_)
  obtain ⟨c, rfl, q1⟩ := q1
  cases r1
  refine wpAny_truthy_bool ?_
  cases c with
  | true => exact hb pins s1 σ H1 Q I1 q1
  | false => exact ⟨.bl false, H1, I1, rfl, q1⟩
theorem pe_not (ha : PE X a ta) : PE X (.UnaryOp .Not a pos) (tNotV ta) := by
  intro pins s σ H Q I h
  refine UnaryOp_ (thn (ha pins s σ H _ I h) fun v s1 ⟨x, H1, I1, r1, q1⟩ => ?_)
  obtain ⟨c, rfl, q1⟩ := q1
  cases r1
  exact not_of (wpAny_truthy_bool ⟨.bl (!c), H1, I1, rfl, q1⟩)
/-- a if t else b -/
def tIf (t : TT) (ta tb : TE) : TE := fun σ H Q => t σ H fun c H1 => if c = true then ta σ H1 Q else tb σ H1 Q
end
end L2

namespace L2
open PySem PySem.Spec PyProof.Rows

def SqL (K : PySem.W.Frag) (H : Hp) (a : Addr) (xs : List V) : Prop :=
  Rd H a (.lst xs) ∨
    ∃ (o : Obj) (its : Array Value) (n : Nat), K.lookup a = some o ∧ o.cls = .type "list" ∧ o.dict = none ∧ o.data = .seq its n ∧ its.size ≤ sizeLine ∧ Vals xs its.toList
def SqT (K : PySem.W.Frag) (H : Hp) (a : Addr) (xs : List V) : Prop :=
  Rd H a (.tup xs) ∨
    ∃ (o : Obj) (its : Array Value) (n : Nat), K.lookup a = some o ∧ o.cls = .type "tuple" ∧ o.data = .seq its n ∧ its.size ≤ sizeLine ∧ Vals xs its.toList
def absV : Value → Option V
  | .none => some .non
  | .bool b => some (.bl b)
  | .int i _ => some (.int i)
  | .str x _ => some (.str x)
  | .bytes b _ => some (.byt b)
  | .float b _ => some (.flt b)
  | .ref a => some (.ref a)
  | .type n => some (.ty n)
  | _ => none
theorem RelV.abs {x : V} {u : Value} (r : RelV x u) : absV u = some x := by
  cases x with
  | non => cases r; rfl
  | bl _ => cases r; rfl
  | int _ => obtain ⟨t, rfl⟩ := r; rfl
  | str _ => obtain ⟨t, rfl⟩ := r; rfl
  | byt _ => obtain ⟨t, rfl⟩ := r; rfl
  | flt _ => obtain ⟨t, rfl⟩ := r; rfl
  | ref _ => cases r; rfl
  | ty _ => cases r; rfl
theorem RelV.inj {x y : V} {u : Value} (r : RelV x u) (q : RelV y u) : x = y := Option.some.inj (r.abs.symm.trans q.abs)
theorem Vals.inj : ∀ {xs ys : List V} {us : List Value}, Vals xs us → Vals ys us → xs = ys
  | _, _, _, .nil, .nil => rfl
  | _, _, _, .cons r t, .cons r' t' => by rw [r.inj r', Vals.inj t t']
section
variable {X : Cx} {pins : List (Addr × Obj)} {σ : St} {H : Hp} {s : Shared} {a : Addr} {xs ys : List V}
theorem SqL.of {K : PySem.W.Frag} (h : H a = some (.lst xs)) : SqL K H a xs := .inl (.inl h)
theorem SqT.of {K : PySem.W.Frag} (h : H a = some (.tup xs)) : SqT K H a xs := .inl (.inl h)
theorem Inv.list (I : Inv X pins σ H s) (h : SqL X.K H a xs) : ∃ its : List Value, Vals xs its ∧ PlainL s.heap a its.toArray ∧ xs.length ≤ sizeLine := by
  rcases h with h | ⟨o, its, n, hk, hc, hd, hs, hz, r⟩
  · obtain ⟨z, its, n, r, e⟩ := h.ok I.hok
    exact ⟨its, r, ⟨_, n, e, rfl, rfl, rfl⟩, z⟩
  · refine ⟨its.toList, r, ⟨o, n, I.kIn a o hk, hc, hd, by simpa using hs⟩, ?_⟩
    have e := r.length
    simp only [Array.length_toList] at e
    omega
theorem Inv.tuple (I : Inv X pins σ H s) (h : SqT X.K H a xs) : ∃ its : List Value, Vals xs its ∧ IsTup s.heap a its.toArray ∧ xs.length ≤ sizeLine := by
  rcases h with h | ⟨o, its, n, hk, hc, hs, hz, r⟩
  · obtain ⟨z, its, r, p⟩ := h.ok I.hok
    exact ⟨its, r, p, z⟩
  · refine ⟨its.toList, r, ⟨o, I.kIn a o hk, hc, n, by simpa using hs⟩, ?_⟩
    have e := r.length
    simp only [Array.length_toList] at e
    omega
theorem Inv.list_inj (I : Inv X pins σ H s) (h : SqL X.K H a xs) (h' : SqL X.K H a ys) : xs = ys := by
  obtain ⟨its, r, ⟨o, n, e, _, _, d⟩, _⟩ := I.list h
  obtain ⟨its', r', ⟨o', n', e', _, _, d'⟩, _⟩ := I.list h'
  rw [e] at e'; cases e'
  rw [d] at d'
  injection d' with d1 _
  have : its = its' := by simpa using congrArg Array.toList d1
  subst this
  exact r.inj r'
end

abbrev Cx.wish (X : Cx) (E : Value → Shared → Prop) : Cx := { X with xe := E }
/-- no exception leaves -/
abbrev Cx.nox (X : Cx) : Cx := X.wish fun _ _ => False
theorem Cx.Ok.wish {X : Cx} (ok : X.Ok) (E : Value → Shared → Prop) : (X.wish E).Ok :=
  ⟨ok.mod, ok.kind, ok.glob, ok.blt, ok.above, ok.inj, ok.has, ok.cab, ok.hd, ok.frames, ok.stk, ok.exf, ok.bs, ok.bsz, ok.noex, ok.exfs, ok.funs, ok.frf⟩
theorem Cx.Ok.unwish {X : Cx} {E : Value → Shared → Prop} (ok : (X.wish E).Ok) : X.Ok :=
  ⟨ok.mod, ok.kind, ok.glob, ok.blt, ok.above, ok.inj, ok.has, ok.cab, ok.hd, ok.frames, ok.stk, ok.exf, ok.bs, ok.bsz, ok.noex, ok.exfs, ok.funs, ok.frf⟩
section
variable {X : Cx} {pins : List (Addr × Obj)} {σ : St} {H : Hp} {s : Shared} {E : Value → Shared → Prop}
theorem Inv.wish (I : Inv X pins σ H s) (E : Value → Shared → Prop) : Inv (X.wish E) pins σ H s := ⟨I.ok.wish E, I.os, I.bare, I.base, I.loc, I.cell, I.free, I.freeC, I.pin, I.hok, I.len⟩
theorem Inv.unwish (I : Inv (X.wish E) pins σ H s) : Inv X pins σ H s := ⟨I.ok.unwish, I.os, I.bare, I.base, I.loc, I.cell, I.free, I.freeC, I.pin, I.hok, I.len⟩
theorem SP.unwish {D : Ends} {f : Flow} {s' : Shared} (h : SP (X.wish E) pins D f s') : SP X pins D f s' := by
  cases f with
  | next => obtain ⟨σ', H', I, q⟩ := h; exact ⟨σ', H', I.unwish, q⟩
  | brk => obtain ⟨σ', H', I, q⟩ := h; exact ⟨σ', H', I.unwish, q⟩
  | cont => obtain ⟨σ', H', I, q⟩ := h; exact ⟨σ', H', I.unwish, q⟩
  | ret u => obtain ⟨v, σ', H', I, r, q⟩ := h; exact ⟨v, σ', H', I.unwish, r, q⟩
theorem PE.nox {e : Expr} {t : TE} (h : PE X.nox e t) : PE X e t := fun pins s σ H Q I hw =>
  wpAny_mono (h pins s σ H Q (I.wish _) hw) (fun _ _ ⟨v, H', I', r, q⟩ => ⟨v, H', I'.unwish, r, q⟩) fun _ _ z => False.elim z
theorem PT.nox {e : Expr} {t : TT} (h : PT X.nox e t) : PT X e t := fun pins s σ H Q I hw =>
  wpAny_mono (h pins s σ H Q (I.wish _) hw) (fun _ _ ⟨H', I', q⟩ => ⟨H', I'.unwish, q⟩) fun _ _ z => False.elim z
theorem PSs.nox {st : List Stmt} {t : TS} (h : PSs X.nox st t) : PSs X st t := fun pins s σ H D I hw =>
  wpAny_mono (h pins s σ H D (I.wish _) hw) (fun _ _ q => q.unwish) fun _ _ z => False.elim z
end

section
variable {X : Cx} {st : Stmt} {rest : List Stmt} {t u : TS} {e : Expr} {te : TE} {pos : Pos}
def tNext : TS := fun D σ H => D.nx σ H
def tSeq (t u : TS) : TS := fun D σ H => t { D with nx := u D } σ H
theorem pss_nil : PSs X [] tNext := fun _ _ σ H _ I h => wpAny_execs_nil ⟨σ, H, I, h⟩
theorem pss_cons (h1 : PS X st t) (h2 : PSs X rest u) : PSs X (st :: rest) (tSeq t u) := by
  intro pins s σ H D I h
  refine wpAny_execs_cons (thn (h1 pins s σ H { D with nx := u D } I h) fun f s1 q => ?_)
  cases f with
  | next =>
    obtain ⟨σ', H', I', q⟩ := q
    exact h2 pins s1 σ' H' D I' q
  | ret v => exact q
  | brk => exact q
  | cont => exact q
theorem pss_one (h1 : PS X st t) : PSs X [st] t := by
  intro pins s σ H D I h
  refine wpAny_execs_cons (thn (h1 pins s σ H D I h) fun f s1 q => ?_)
  cases f with
  | next => exact wpAny_execs_nil q
  | ret v => exact q
  | brk => exact q
  | cont => exact q
def tBreak : TS := fun D σ H => D.bk σ H
def tCont : TS := fun D σ H => D.ct σ H
/-- in a def's body nothing is shown -/
theorem Inv.quiet {pins : List (Addr × Obj)} {σ : St} {H : Hp} {s : Shared} (I : Inv X pins σ H s) : interactive X.env = false := by simp [interactive, I.ok.kind]
/-- an expression whose value is dropped -/
def tDrop (te : TE) : TS := fun D σ H => te σ H fun _ H1 => D.nx σ H1
theorem ps_expr (he : PE X e te) (hs : swapsWith e none pos.line X.env = pure false := by rfl) : PS X (.Expr e pos) (tDrop te) := by
  intro pins s σ H D I h
  exact wpAny_Expr_any (thn (he pins s σ H _ I h) fun v s1 ⟨x, H1, I1, r1, q1⟩ => ⟨σ, H1, I1, q1⟩) I.quiet hs
def tRet (te : TE) : TS := fun D σ H => te σ H D.rt
theorem ps_ret (he : PE X e te) : PS X (.Return (some e) pos) (tRet te) := by
  intro pins s σ H D I h
  exact wpAny_Return_some (thn (he pins s σ H _ I h) fun v s1 ⟨x, H1, I1, r1, q1⟩ => ⟨x, σ, H1, I1, r1, q1⟩)
def tRetN : TS := fun D _ H => D.rt .non H
def tIfS (c : TT) (t u : TS) : TS := fun D σ H => c σ H fun b H1 => if b = true then t D σ H1 else u D σ H1
theorem ps_if {c : Expr} {a b : List Stmt} {tc : TT} (hc : PT X c tc) (ha : PSs X a t) (hb : PSs X b u) : PS X (.If c a b pos) (tIfS tc t u) := by
  intro pins s σ H D I h
  refine wpAny_If (thn (hc pins s σ H _ I h) fun d s1 ⟨H1, I1, q1⟩ => ?_)
  cases d with
  | true => exact ha pins s1 σ H1 D I1 q1
  | false => exact hb pins s1 σ H1 D I1 q1
/-- code that the proof never comes to -/
def tNever : TS := fun _ _ _ => False
end

abbrev TG := V → St → Hp → (St → Hp → Prop) → Prop
abbrev TGs := List V → St → Hp → (St → Hp → Prop) → Prop
def PG (X : Cx) (target : Expr) (t : TG) : Prop :=
  ∀ (pins : List (Addr × Obj)) (s : Shared) (σ : St) (H : Hp) (v : V) (u : Value) (Q : St → Hp → Prop), Inv X pins σ H s → RelV v u → t v σ H Q →
    wpAny (model X.prog X.w) X.A (assign target X.env u) (fun _ s' => ∃ σ' H', Inv X pins σ' H' s' ∧ Q σ' H') X.xe s
/-- several targets, one after another -/
def PGs (X : Cx) (ts : List Expr) (t : TGs) : Prop :=
  ∀ (pins : List (Addr × Obj)) (s : Shared) (σ : St) (H : Hp) (vs : List V) (us : List Value) (Q : St → Hp → Prop), Inv X pins σ H s → Vals vs us → t vs σ H Q →
    wpAny (model X.prog X.w) X.A (assignInOrder ((assignEach ts X.env).map (·.2)) us) (fun _ s' => ∃ σ' H', Inv X pins σ' H' s' ∧ Q σ' H') X.xe s
/-- o[i] = v, by values -/
abbrev TSet := V → V → V → Hp → (Hp → Prop) → Prop
def PSet (X : Cx) (t : TSet) : Prop :=
  ∀ (pins : List (Addr × Obj)) (s : Shared) (σ : St) (H : Hp) (o i v : V) (ov iv u : Value) (Q : Hp → Prop), Inv X pins σ H s → RelV o ov → RelV i iv → RelV v u → t o i v H Q →
    wpAny (model X.prog X.w) X.A (setItem ov iv u) (fun _ s' => ∃ H', Inv X pins σ H' s' ∧ Q H') X.xe s
/-- a op= b, by values -/
abbrev TIp := V → V → Hp → VK → Prop
def PIp (X : Cx) (op : Operator) (t : TIp) : Prop :=
  ∀ (pins : List (Addr × Obj)) (s : Shared) (σ : St) (H : Hp) (x y : V) (v u : Value) (Q : VK), Inv X pins σ H s → RelV x v → RelV y u → t x y H Q →
    wpAny (model X.prog X.w) X.A (inplaceOp op v u) (EP X pins σ Q) X.xe s
section
variable {X : Cx} {pos : Pos}
def gName (i : Nat) : TG := fun v σ H Q => Q (σ.set i (some v)) H
theorem pg_name {i : Nat} {x : Str} (hN : X.N.Nodup) (hi : X.N[i]? = some x) (hx : Loc X.env.scope x) (hf : X.fn x = true ∨ X.env.scope.names.lookup x = some .local := by first | exact .inl rfl | exact .inr rfl | assumption) : PG X (.Name x pos) (gName i) := by
  intro pins s σ H v u Q I r h
  exact wpAny_assign_Name (store_ok I hN hi hx r (fun s' I' => ⟨_, H, I', h⟩) hf)
def gNil : TGs := fun vs σ H Q => vs = [] ∧ Q σ H
def gCons (t : TG) (u : TGs) : TGs := fun vs σ H Q => ∃ v r, vs = v :: r ∧ t v σ H fun σ' H' => u r σ' H' Q
/-- (a, b, ..) = a tuple of that length -/
def gTup (K : PySem.W.Frag) (n : Nat) (t : TGs) : TG := fun v σ H Q => ∃ a xs, v = .ref a ∧ SqT K H a xs ∧ xs.length = n ∧ t xs σ H Q
/-- o[i] = .. -/
def gSub (to ti : TE) (t : TSet) : TG := fun v σ H Q => to σ H fun o H1 => ti σ H1 fun i H2 => t o i v H2 fun H3 => Q σ H3
/-- target = value -/
def tAsg (te : TE) (g : TG) : TS := fun D σ H => te σ H fun x H1 => g x σ H1 D.nx
/-- name = value -/
theorem ps_set {i : Nat} {x : Str} {e : Expr} {te : TE} {pos' : Pos} (hN : X.N.Nodup) (hi : X.N[i]? = some x) (hx : Loc X.env.scope x) (he : PE X e te) (hs : swapsWith e (some (.Name x pos')) pos.line X.env = pure false := by rfl) (hf : X.fn x = true ∨ X.env.scope.names.lookup x = some .local := by first | exact .inl rfl | exact .inr rfl | assumption) :
    PS X (.Assign [.Name x pos'] e pos) (tAsg te (gName i)) := by
  intro pins s σ H D I h
  refine wpAny_Assign_Name (thn (he pins s σ H _ I h) fun v s1 ⟨y, H1, I1, r1, q1⟩ => ?_) hs
  exact store_ok I1 hN hi hx r1 (fun s2 I2 => ⟨_, H1, I2, q1⟩) hf
/-- a, b = x, y with plain local names: stored from the right; the pair itself is not tracked (the opening rows as in PyProof/Rows/TupAssign.lean:23) -/
def tPar (i j : Nat) (ta : TA) : TS := fun D σ H => ta σ H fun vs H1 => ∃ v w, vs = [v, w] ∧ D.nx ((σ.set i (some v)).set j (some w)) H1
/-- name op= e -/
def tAug (i : Nat) (te : TE) (ti : TIp) : TS := fun D σ H => ∃ x, σ[i]? = some (some x) ∧ te σ H fun y H1 => ti x y H1 fun z H2 => D.nx (σ.set i (some z)) H2
/-- o[i] op= e -/
def tAugS (to ti te : TE) (tget : V → V → Hp → VK → Prop) (tip : TIp) (tset : TSet) : TS := fun D σ H => to σ H fun o H1 => ti σ H1 fun i H2 => tget o i H2 fun x H3 => te σ H3 fun y H4 => tip x y H4 fun z H5 => tset o i z H5 fun H6 => D.nx σ H6
/-- o[i], by values -/
def PGet (X : Cx) (t : V → V → Hp → VK → Prop) : Prop :=
  ∀ (pins : List (Addr × Obj)) (s : Shared) (σ : St) (H : Hp) (o i : V) (ov iv : Value) (Q : VK), Inv X pins σ H s → RelV o ov → RelV i iv → t o i H Q →
    wpAny (model X.prog X.w) X.A (getItem ov iv) (EP X pins σ Q) X.xe s
/-- ints -/
def ipI (f : Int → Int → Int) : TIp := fun x y H Q => ∃ i j, x = .int i ∧ y = .int j ∧ Q (.int (f i j)) H
end

section
variable {X : Cx} {pos : Pos}
/-- the invariant W with its measure -/
def tWhile (c : TT) (tb : TS) : TS := fun D σ H => ∃ W : Nat → St → Hp → Prop, (∃ m, W m σ H) ∧ ∀ m σ H, W m σ H →
  c σ H fun b H1 => if b = true then ∃ N : St → Hp → Prop, (∀ σ' H', N σ' H' → ∃ m', m' < m ∧ W m' σ' H') ∧ tb { D with nx := N, ct := N, bk := D.nx } σ H1 else D.nx σ H1
end

/-- at turn i: it yields x (the heap may grow), or it stops -/
structure It where
  go : Nat → Hp → Prop
  yld : Nat → Hp → V → Hp → Prop
  stop : Nat → Hp → Prop
/-- the iterator's own objects may turn: they are not the frame's, not pinned, younger than the entry (or a comprehension's own) -/
def FpOk (X : Cx) (pins : List (Addr × Obj)) (H : Hp) (b : Addr) : Prop :=
  H b = none ∧ b ≠ X.env.locals ∧ b ∉ X.fs ∧ (b ∈ X.ex ∨ X.s₀.heap.objs.size ≤ b) ∧ (∀ x c, X.env.cells.lookup x = some c → c ≠ b) ∧ ∀ p ∈ X.pn ++ pins, p.1 ≠ b
theorem Inv.fpOk {X : Cx} {pins : List (Addr × Obj)} {σ : St} {H H' : Hp} {s : Shared} {b : Addr} (I : Inv X pins σ H s) (hb : s.heap.objs.size ≤ b) (hn : H' b = none) : FpOk X pins H' b := by
  refine ⟨hn, Nat.ne_of_gt (Nat.lt_of_lt_of_le I.lt hb), I.nofs hb, .inr (Nat.le_trans I.sz hb), fun x c e z => ?_, fun p hp z => ?_⟩
  · obtain ⟨v, q⟩ := I.cell x c e
    exact absurd (Nat.lt_of_lt_of_le q.lt (by rw [z]; exact hb)) (Nat.lt_irrefl _)
  · exact absurd (Nat.lt_of_lt_of_le (Heap.lt_size (I.pin p hp).1) (by rw [z]; exact hb)) (Nat.lt_irrefl _)
structure Turn (P : Program) (w : World) (K : PySem.W.Frag) (tg : Expr) (J : It) (fp : List Addr) (it : Addr) (tn : Nat → Heap → Prop) : Prop where
  mem : it ∈ fp
  obj : ∀ i h, tn i h → ∀ b ∈ fp, ∃ o, h.get? b = some o ∧ ∀ v, o.data ≠ .cell v
  keep : ∀ i h h', tn i h → (∀ b ∈ fp, ∀ o, h.get? b = some o → h'.get? b = some o) → tn i h'
  item : ∀ (X : Cx), X.prog = P → X.w = w → X.K = K → X.calm = true → ∀ (i : Nat) (pins : List (Addr × Obj)) (s : Shared) (σ : St) (H : Hp) (E : Value → Shared → Prop), Inv X pins σ H s → (∀ b ∈ fp, FpOk X pins H b) → tn i s.heap → J.go i H →
    wpAny (model P w) X.A (pyNext (.ref it)) (fun r s1 => ∃ u, r = some u ∧
      wpAny (model P w) X.A (letOwnedTupleGo tg (.ref it) u) (fun _ s2 => ∃ x H', Inv X pins σ H' s2 ∧ RelV x u ∧ J.yld i H x H' ∧ tn (i + 1) s2.heap ∧ ∀ b ∈ fp, H' b = none) E s1) E s
  done : ∀ (X : Cx), X.prog = P → X.w = w → X.K = K → X.calm = true → ∀ (i : Nat) (pins : List (Addr × Obj)) (s : Shared) (σ : St) (H : Hp) (E : Value → Shared → Prop), Inv X pins σ H s → (∀ b ∈ fp, FpOk X pins H b) → tn i s.heap → J.stop i H →
    wpAny (model P w) X.A (pyNext (.ref it)) (fun r s1 => r = none ∧ Inv X pins σ H s1) E s
  self : ∀ (A : Around) (i : Nat) (s : Shared) (Q : Value → Shared → Prop) (E : Value → Shared → Prop), tn i s.heap → Q (.ref it) s → wpAny (model P w) A (pyIter (.ref it)) Q E s
abbrev TI := St → Hp → (It → Hp → Prop) → Prop
/-- an iterator has come -/
def PIE (X : Cx) (pins : List (Addr × Obj)) (σ : St) (tg : Expr) (R : It → Hp → Prop) (itv : Value) (s2 : Shared) : Prop :=
  ∃ (it : Addr) (fp : List Addr) (tn : Nat → Heap → Prop) (J : It) (H' : Hp), itv = .ref it ∧ Inv X pins σ H' s2 ∧ Turn X.prog X.w X.K tg J fp it tn ∧ tn 0 s2.heap ∧ (∀ b ∈ fp, FpOk X pins H' b) ∧ R J H'
def PI (X : Cx) (tg iter : Expr) (wi : TI) : Prop :=
  ∀ (pins : List (Addr × Obj)) (s : Shared) (σ : St) (H : Hp) (R : It → Hp → Prop), Inv X pins σ H s → wi σ H R →
    wpAny (model X.prog X.w) X.A (eval iter X.env) (fun v s1 => wpAny (model X.prog X.w) X.A (pyIter v) (PIE X pins σ tg R) X.xe s1) X.xe s

/-- the step ahead of the store is nothing for an iterator that keeps no tuple -/
theorem go_of {M : Model} {A : Around} {E : Value → Shared → Prop} {s : Shared} {tg : Expr} {it : Addr} {u : Value} {o : Obj} {n : String} {vs : Array Value} {Q : Unit → Shared → Prop} (ho : s.heap.get? it = some o) (hc : o.cls = .type n) (hd : o.data = .fields vs)
    (hn : ["enumerate", "zip", "dict_itemiterator", "dict_reverseitemiterator", "odict_iterator", "itertools.zip_longest", "itertools.pairwise"].contains n = false) (hQ : Q () s) : wpAny M A (letOwnedTupleGo tg (.ref it) u) Q E s := by
  unfold letOwnedTupleGo
  cases tg <;> first
    | exact wpAny_pure hQ
    | (cases u <;> first
        | exact wpAny_pure hQ
        | (refine wpAny_bind (wpAny_load ho ?_)
           rw [hc, hd]
           show wpAny M A (if (["enumerate", "zip", "dict_itemiterator", "dict_reverseitemiterator", "odict_iterator", "itertools.zip_longest", "itertools.pairwise"].contains n && vs[0]? == some (rawInt _)) = true then _ else _) Q E s
           rw [if_neg (by intro h; rw [hn, Bool.false_and] at h; cases h)]
           exact wpAny_pure hQ))

/-- the list at a, as it stands at each turn (a loop may append to it) -/
def Itl (K : PySem.W.Frag) (a : Addr) : It :=
  ⟨fun i H => ∃ xs x, SqL K H a xs ∧ xs[i]? = some x, fun i H x H' => H' = H ∧ ∀ xs, SqL K H a xs → xs[i]? = some x, fun i H => ∃ xs, SqL K H a xs ∧ xs.length ≤ i⟩
def Itt (K : PySem.W.Frag) (a : Addr) : It :=
  ⟨fun i H => ∃ xs x, SqT K H a xs ∧ xs[i]? = some x, fun i H x H' => H' = H ∧ ∀ xs, SqT K H a xs → xs[i]? = some x, fun i H => ∃ xs, SqT K H a xs ∧ xs.length ≤ i⟩
/-- lo, lo + 1, .. (n of them) -/
def Itr (lo : Int) (n : Nat) : It := ⟨fun i _ => i < n, fun i H x H' => H' = H ∧ x = .int (lo + i), fun i _ => n ≤ i⟩
theorem turn_list {P : Program} {w : World} {K : PySem.W.Frag} {tg : Expr} (a it : Addr) : Turn P w K tg (Itl K a) [it] it (fun i h => h.IsListIter it a i) where
  mem := by simp
  obj := fun i h st b hb => by
    have e : b = it := by simpa using hb
    subst e
    obtain ⟨o, e, c, d⟩ := st
    exact ⟨o, e, fun v z => by rw [d] at z; cases z⟩
  keep := fun i h h' st k => st.at fun o e => k it (by simp) o e
  item := by
    intro X hP hw hK hc i pins s σ H E I hf st hg
    subst hP hw hK
    obtain ⟨xs, x, hq, hx⟩ := hg
    obtain ⟨its, rv, p, hz⟩ := I.list hq
    obtain ⟨u, hu, ru⟩ := rv.get hx
    obtain ⟨f0, f1, f2, f3, f4, f5⟩ := hf it (by simp)
    refine wpAny_pyNext_list_item st p.isList (x := u) (by simpa using hu) fun h' st' sb => ?_
    have I1 : Inv X pins σ H { s with heap := h' } := I.turned (t' := s.toks) (fun b o hb e => (sb.2 b hb).trans e) f0 f1 f3 f4 f5
    obtain ⟨o, e, c, d⟩ := id st'
    exact ⟨u, rfl, go_of (s := { s with heap := h' }) e c d (by decide) ⟨x, H, I1, ru, ⟨rfl, fun ys hy => by rw [I.list_inj hy hq]; exact hx⟩, st', fun b hb => (hf b hb).1⟩⟩
  done := by
    intro X hP hw hK hc i pins s σ H E I hf st hg
    subst hP hw hK
    obtain ⟨xs, hq, hx⟩ := hg
    obtain ⟨its, rv, p, hz⟩ := I.list hq
    obtain ⟨f0, f1, f2, f3, f4, f5⟩ := hf it (by simp)
    have hl := rv.length
    exact wpAny_pyNext_list_end (I.ok.hd hc) st p.isList (by simp; omega) fun h' eb => ⟨rfl, I.turned (t' := s.toks) (fun b o hb e => eb b o hb e) f0 f1 f3 f4 f5⟩
  self := fun _ _ _ _ _ st h => wpAny_pyIter_listiter st h
theorem turn_range {P : Program} {w : World} {K : PySem.W.Frag} {tg : Expr} (it : Addr) (lo : Int) (n : Nat) : Turn P w K tg (Itr lo n) [it] it (fun i h => IsRangeIter h it (lo + (i : Nat) * 1) ((n : Int) - (i : Nat)) 1) where
  mem := by simp
  obj := fun i h st b hb => by
    have e : b = it := by simpa using hb
    subst e
    exact ⟨_, st, fun v z => by
      have z' : Data.fields _ = Data.cell v := z
      cases z'⟩
  keep := fun i h h' st k => k it (by simp) _ st
  item := by
    intro X hP hw hK hc i pins s σ H E I hf st hg
    subst hP hw hK
    obtain ⟨f0, f1, f2, f3, f4, f5⟩ := hf it (by simp)
    have W := Walks.range (prog := X.prog) (w := X.w) (I.ok.hd hc) it lo 1 n
    refine W.item i s _ _ hg st fun v h' tk hv st' kk => ?_
    obtain ⟨t, rfl⟩ := hv
    have I1 : Inv X pins σ H { s with heap := h', toks := tk } := I.turned (fun b o hb e => kk b o (by simpa using hb) e) f0 f1 f3 f4 f5
    refine ⟨_, rfl, go_of (s := { s with heap := h', toks := tk }) (n := "range_iterator") st' rfl rfl (by decide) ⟨.int (lo + i), H, I1, ⟨t, ?_⟩, ⟨rfl, rfl⟩, st', fun b hb => (hf b hb).1⟩⟩
    rw [Int.mul_one]
  done := by
    intro X hP hw hK hc i pins s σ H E I hf st hg
    subst hP hw hK
    obtain ⟨f0, f1, f2, f3, f4, f5⟩ := hf it (by simp)
    exact wpAny_pyNext_range_end (I.ok.hd hc) st (by have : n ≤ i := hg; omega) fun h' eb => ⟨rfl, I.turned (t' := s.toks) (fun b o hb e => eb b o hb e) f0 f1 f3 f4 f5⟩
  self := fun _ _ _ _ _ st h => wpAny_pyIter_rangeiter st h
end L2

namespace L2
open PySem PySem.Spec PyProof.Rows
section
variable {X : Cx} {tg : Expr}
def iList (K : PySem.W.Frag) (tl : TE) : TI := fun σ H R => tl σ H fun x H1 => ∃ a, x = .ref a ∧ (∃ xs, SqL K H1 a xs) ∧ R (Itl K a) H1
def iTup (K : PySem.W.Frag) (tl : TE) : TI := fun σ H R => tl σ H fun x H1 => ∃ a, x = .ref a ∧ (∃ xs, SqT K H1 a xs) ∧ R (Itt K a) H1
theorem pi_list {l : Expr} {tl : TE} (hl : PE X l tl) : PI X tg l (iList X.K tl) := by
  intro pins s σ H R I h
  refine thn (hl pins s σ H _ I h) fun v s1 ⟨x, H1, I1, r1, q1⟩ => ?_
  obtain ⟨a, e, ⟨xs, hq⟩, q⟩ := q1
  subst e
  cases r1
  obtain ⟨its, rv, p, hz⟩ := I1.list hq
  refine wpAny_pyIter_list p.isList ?_
  refine ⟨s1.heap.objs.size, [s1.heap.objs.size], _, _, H1, rfl, I1.kept (t' := s1.toks) fun b o e => Heap.get?_push_of_some _ e, turn_list a _, ⟨_, Heap.get?_push_size _ rfl, rfl, rfl⟩, fun b hb => ?_, q⟩
  have e : b = s1.heap.objs.size := by simpa using hb
  subst e
  exact I1.fpOk (Nat.le_refl _) (I1.hok.fresh (Nat.le_refl _))
/-- a range object just made, walked -/
theorem range_it {pins : List (Addr × Obj)} {σ : St} {H : Hp} {s : Shared} {R : It → Hp → Prop} {E : Value → Shared → Prop} {lo hi : Int} {t u v : Tok} {tk : Nat} (I : Inv X pins σ H s) (h1 : -(2 ^ 62) ≤ lo) (h2 : lo < 2 ^ 62) (h3 : -(2 ^ 62) ≤ hi) (h4 : hi < 2 ^ 62)
    (q : R (Itr lo (hi - lo).toNat) H) : wpAny (model X.prog X.w) X.A (pyIter (.ref s.heap.objs.size)) (PIE X pins σ tg R) E { s with heap := s.heap.push { cls := .type "range", data := .fields #[.int lo t, .int hi u, .int 1 v] }, toks := tk } := by
  refine wpAny_pyIter_range (IsRange.new ..) (small_one h1 h2 h3 h4) ?_
  have I1 : Inv X pins σ H { s with heap := s.heap.push { cls := .type "range", data := .fields #[.int lo t, .int hi u, .int 1 v] }, toks := tk } := I.kept fun b o e => Heap.get?_push_of_some _ e
  refine ⟨(s.heap.push { cls := .type "range", data := .fields #[.int lo t, .int hi u, .int 1 v] }).objs.size, [(s.heap.push { cls := .type "range", data := .fields #[.int lo t, .int hi u, .int 1 v] }).objs.size], _, _, H, rfl,
    I1.kept (t' := tk) fun b o e => Heap.get?_push_of_some _ e, turn_range _ lo (hi - lo).toNat, ?_, fun b hb => ?_, q⟩
  · have e1 : lo + ((0 : Nat) : Int) * 1 = lo := by simp
    have e2 : (((hi - lo).toNat : Nat) : Int) - ((0 : Nat) : Int) = Builtin.Range.rangeSize lo hi 1 := by rw [rangeSize_one]; split <;> omega
    show IsRangeIter _ _ (lo + ((0 : Nat) : Int) * 1) ((((hi - lo).toNat : Nat) : Int) - ((0 : Nat) : Int)) 1
    rw [e1, e2]
    exact Heap.get?_push_size _ rfl
  · have e : b = (s.heap.push { cls := .type "range", data := .fields #[.int lo t, .int hi u, .int 1 v] }).objs.size := by simpa using hb
    subst e
    exact I1.fpOk (Nat.le_refl _) (I1.hok.fresh (Nat.le_refl _))
def iRng1 (ta : TA) : TI := fun σ H R => ta σ H fun vs H1 => ∃ j : Int, vs = [.int j] ∧ -(2 ^ 62) ≤ j ∧ j < 2 ^ 62 ∧ R (Itr 0 j.toNat) H1
def iRng2 (ta : TA) : TI := fun σ H R => ta σ H fun vs H1 => ∃ i j : Int, vs = [.int i, .int j] ∧ (-(2 ^ 62) ≤ i ∧ i < 2 ^ 62 ∧ -(2 ^ 62) ≤ j ∧ j < 2 ^ 62) ∧ R (Itr i (j - i).toNat) H1
theorem pi_range1 {a : Expr} {ta : TA} {p pos : Pos} (hg : Gl X "range") (hm : X.mg "range" = none) (ha : PA X [a] ta) (hs : starEach [a] X.env = [(false, eval a X.env)] := by rfl) : PI X tg (.Call (.Name "range" p) [a] [] pos) (iRng1 ta) := by
  intro pins s σ H R I h
  refine Call_ (ld_blt I hg hm boot_range (PyProof.Rows.callWith_type1 (thn (ha pos pins s σ H _ I h) fun us s1 ⟨vs, H1, I1, r1, q1⟩ => ?_) hs rfl))
  obtain ⟨j, e, q1, q2, q⟩ := q1
  subst e
  cases r1 with
  | cons r rr =>
    cases rr
    obtain ⟨t, rfl⟩ := r
    exact call_range_1 (range_it I1 (by omega) (by omega) q1 q2 (by simpa using q))
/-- W: the invariant by the turn and a measure; N: what the body is to reach -/
def tFor (wi : TI) (g : TG) (tb : TS) : TS := fun D σ H => wi σ H fun J H1 => ∃ W : Nat → Nat → St → Hp → Prop, (∃ m, W 0 m σ H1) ∧ ∀ i m σ H, W i m σ H →
  (J.stop i H ∧ D.nx σ H) ∨ (J.go i H ∧ ∃ N : St → Hp → Prop, (∀ σ' H', N σ' H' → ∃ m', m' < m ∧ W (i + 1) m' σ' H') ∧ ∀ x H', J.yld i H x H' → g x σ H' fun σ2 H2 => tb { D with nx := N, ct := N, bk := D.nx } σ2 H2)
/-- the records at fp as they stand -/
def pinsAt (fp : List Addr) (h : Heap) : List (Addr × Obj) := fp.filterMap fun b => (h.get? b).map fun o => (b, o)
theorem mem_pinsAt {fp : List Addr} {h : Heap} {b : Addr} {o : Obj} (hb : b ∈ fp) (e : h.get? b = some o) : (b, o) ∈ pinsAt fp h := List.mem_filterMap.mpr ⟨b, hb, by rw [e]; rfl⟩
theorem of_pinsAt {fp : List Addr} {h : Heap} {p : Addr × Obj} (hp : p ∈ pinsAt fp h) : p.1 ∈ fp ∧ h.get? p.1 = some p.2 := by
  obtain ⟨b, hb, e⟩ := List.mem_filterMap.mp hp
  cases q : h.get? b with
  | none => rw [q] at e; cases e
  | some o =>
    rw [q] at e
    have e' : (b, o) = p := Option.some.inj e
    subst e'
    exact ⟨hb, q⟩
theorem Inv.pinned {pins : List (Addr × Obj)} {σ : St} {H : Hp} {s : Shared} {fp : List Addr} (I : Inv X pins σ H s) (hf : ∀ b ∈ fp, FpOk X pins H b) (ho : ∀ b ∈ fp, ∃ o, s.heap.get? b = some o ∧ ∀ v, o.data ≠ .cell v) : Inv X (pins ++ pinsAt fp s.heap) σ H s :=
  I.pins_of fun p hp => (List.mem_append.mp hp).elim (fun z => I.pin p (List.mem_append_right _ z)) fun z => by
    obtain ⟨hb, e⟩ := of_pinsAt z
    obtain ⟨f0, f1, f2, _⟩ := hf p.1 hb
    obtain ⟨o, e', d⟩ := ho p.1 hb
    rw [e] at e'; cases e'
    exact ⟨e, f0, f1, f2, d⟩
theorem Inv.unpinned {pins pl : List (Addr × Obj)} {σ : St} {H : Hp} {s : Shared} (I : Inv X (pins ++ pl) σ H s) : Inv X pins σ H s := I.pins_of fun p hp => I.pin p (List.mem_append_right _ (List.mem_append_left _ hp))
theorem ps_for {iter : Expr} {body : List Stmt} {wi : TI} {g : TG} {tb : TS} {pos : Pos} (hp : PassesOwn (model X.prog X.w) X.A X.env X.xe) (hc : X.calm = true) (hi : PI X tg iter wi) (hg : PG X tg g) (hb : PSs X body tb)
    (hs : ∀ x, foldedSetIterable iter X.env x = pure x := by intro _; rfl) : PS X (.For tg iter body [] pos) (tFor wi g tb) := by
  intro pins s σ H D I h
  refine wpAny_For (thn (hi pins s σ H _ I h) fun v s1 h1 => thn h1 fun itv s2 h2 => ?_) hs
  obtain ⟨it, fp, tn, J, H2, e, I2, T, st2, f2, W, ⟨m0, w0⟩, turn⟩ := h2
  subst e
  -- what stays true of the iterator's objects through the loop
  have stat : ∀ {H' : Hp}, (∀ b ∈ fp, H' b = none) → ∀ b ∈ fp, FpOk X pins H' b := fun hn b hb => ⟨hn b hb, (f2 b hb).2⟩
  refine codeAny_forLoop_any (fun n s' => ∃ i σ' H', Inv X pins σ' H' s' ∧ tn i s'.heap ∧ (∀ b ∈ fp, H' b = none) ∧ W i n σ' H') ?_ m0 ⟨0, σ, H2, I2, st2, fun b hb => (f2 b hb).1, w0⟩
  rintro n s3 ⟨i, σ3, H3, I3, st3, fr3, w3⟩
  rcases turn i n σ3 H3 w3 with ⟨stop, qn⟩ | ⟨go, N, hN, step⟩
  · refine wpAny_passesOwn hp (thn (T.done X rfl rfl rfl hc i pins s3 σ3 H3 X.xe I3 (stat fr3) st3 stop) fun r s4 ⟨hr, I4⟩ => ?_)
    subst hr
    exact wpAny_execs_nil ⟨σ3, H3, I4, qn⟩
  · refine wpAny_passesOwn hp (thn (T.item X rfl rfl rfl hc i pins s3 σ3 H3 X.xe I3 (stat fr3) st3 go) fun r s4 ⟨u, hr, h4⟩ => ?_)
    subst hr
    refine wpAny_passesOwn hp (thn h4 fun _ s5 ⟨x, H5, I5, r5, y5, st5, fr5⟩ => ?_)
    have I5' := I5.pinned (stat fr5) (T.obj _ _ st5)
    refine wpAny_passesOwn hp (thn (hg _ s5 σ3 H5 x u _ I5' r5 (step x H5 y5)) fun _ s6 ⟨σ6, H6, I6, q6⟩ => ?_)
    refine wpAny_passesOwn hp (thn (hb _ s6 σ6 H6 _ I6 q6) fun f s7 q7 => ?_)
    have again : ∀ {σ7 : St} {H7 : Hp}, Inv X (pins ++ pinsAt fp s5.heap) σ7 H7 s7 → N σ7 H7 → ∃ m, m < n ∧ ∃ i σ' H', Inv X pins σ' H' s7 ∧ tn i s7.heap ∧ (∀ b ∈ fp, H' b = none) ∧ W i m σ' H' := fun {σ7 H7} I7 n7 => by
      obtain ⟨m', hm, w7⟩ := hN σ7 H7 n7
      refine ⟨m', hm, i + 1, σ7, H7, I7.unpinned, T.keep _ _ _ st5 fun b hb o e => (I7.pin (b, o) (List.mem_append_right _ (List.mem_append_right _ (mem_pinsAt hb e)))).1, fun b hb => ?_, w7⟩
      obtain ⟨o, e, d⟩ := T.obj _ _ st5 b hb
      exact (I7.pin (b, o) (List.mem_append_right _ (List.mem_append_right _ (mem_pinsAt hb e)))).2.1
    cases f with
    | next => obtain ⟨σ7, H7, I7, n7⟩ := q7; exact again I7 n7
    | cont => obtain ⟨σ7, H7, I7, n7⟩ := q7; exact again I7 n7
    | brk => obtain ⟨σ7, H7, I7, q7⟩ := q7; exact ⟨σ7, H7, I7.unpinned, q7⟩
    | ret v => obtain ⟨x7, σ7, H7, I7, r7, q7⟩ := q7; exact ⟨x7, σ7, H7, I7.unpinned, r7, q7⟩
end

/-- over a list that the body leaves as it is -/
theorem for_list {K : PySem.W.Frag} {a : Addr} {xs : List V} {g : TG} {tb : TS} {D : Ends} {σ : St} {H : Hp} (Pv : Nat → St → Hp → Prop) (h0 : Pv 0 σ H) (hl : ∀ i σ H, i ≤ xs.length → Pv i σ H → SqL K H a xs)
    (hs : ∀ i x σ H, xs[i]? = some x → Pv i σ H → g x σ H fun σ2 H2 => tb { D with nx := Pv (i + 1), ct := Pv (i + 1), bk := D.nx } σ2 H2) (hd : ∀ σ H, Pv xs.length σ H → D.nx σ H) :
    ∃ W : Nat → Nat → St → Hp → Prop, (∃ m, W 0 m σ H) ∧ ∀ i m σ H, W i m σ H →
      ((Itl K a).stop i H ∧ D.nx σ H) ∨ ((Itl K a).go i H ∧ ∃ N : St → Hp → Prop, (∀ σ' H', N σ' H' → ∃ m', m' < m ∧ W (i + 1) m' σ' H') ∧ ∀ x H', (Itl K a).yld i H x H' → g x σ H' fun σ2 H2 => tb { D with nx := N, ct := N, bk := D.nx } σ2 H2) := by
  refine ⟨fun i m σ H => m = xs.length - i ∧ i ≤ xs.length ∧ Pv i σ H, ⟨xs.length, by simp, Nat.zero_le _, h0⟩, ?_⟩
  rintro i m σ H ⟨rfl, hi, p⟩
  have q := hl i σ H hi p
  by_cases hlt : i < xs.length
  · refine .inr ⟨⟨xs, xs[i], q, by simp [hlt]⟩, Pv (i + 1), fun σ' H' p' => ⟨xs.length - (i + 1), by omega, rfl, hlt, p'⟩, fun x H' y => ?_⟩
    obtain ⟨e, y⟩ := y
    subst e
    exact hs i x σ _ (y xs q) p
  · have e : i = xs.length := by omega
    subst e
    exact .inl ⟨⟨xs, q, Nat.le_refl _⟩, hd σ H p⟩
theorem for_range {lo : Int} {n : Nat} {g : TG} {tb : TS} {D : Ends} {σ : St} {H : Hp} (Pv : Nat → St → Hp → Prop) (h0 : Pv 0 σ H)
    (hs : ∀ i σ H, i < n → Pv i σ H → g (.int (lo + i)) σ H fun σ2 H2 => tb { D with nx := Pv (i + 1), ct := Pv (i + 1), bk := D.nx } σ2 H2) (hd : ∀ σ H, Pv n σ H → D.nx σ H) :
    ∃ W : Nat → Nat → St → Hp → Prop, (∃ m, W 0 m σ H) ∧ ∀ i m σ H, W i m σ H →
      ((Itr lo n).stop i H ∧ D.nx σ H) ∨ ((Itr lo n).go i H ∧ ∃ N : St → Hp → Prop, (∀ σ' H', N σ' H' → ∃ m', m' < m ∧ W (i + 1) m' σ' H') ∧ ∀ x H', (Itr lo n).yld i H x H' → g x σ H' fun σ2 H2 => tb { D with nx := N, ct := N, bk := D.nx } σ2 H2) := by
  refine ⟨fun i m σ H => m = n - i ∧ i ≤ n ∧ Pv i σ H, ⟨n, by simp, Nat.zero_le _, h0⟩, ?_⟩
  rintro i m σ H ⟨rfl, hi, p⟩
  by_cases hlt : i < n
  · refine .inr ⟨hlt, Pv (i + 1), fun σ' H' p' => ⟨n - (i + 1), by omega, rfl, hlt, p'⟩, fun x H' y => ?_⟩
    obtain ⟨e, y⟩ := y
    subst e y
    exact hs i σ _ hlt p
  · have e : i = n := by omega
    subst e
    exact .inl ⟨Nat.le_refl _, hd σ H p⟩
end L2

namespace L2
open PySem PySem.Spec PyProof.Rows

abbrev R2 := V → V → Hp → VK → Prop
/-- a two-place operation on values: f is binaryOp op, inplaceOp op or compareOp op -/
def OpR (X : Cx) (f : Value → Value → Sem Value) (r : R2) : Prop :=
  ∀ (pins : List (Addr × Obj)) (s : Shared) (σ : St) (H : Hp) (x y : V) (v u : Value) (Q : VK), Inv X pins σ H s → RelV x v → RelV y u → r x y H Q →
    wpAny (model X.prog X.w) X.A (f v u) (EP X pins σ Q) X.xe s
/-- a one-place operation -/
def UnR (X : Cx) (f : Value → Sem Value) (r : V → Hp → VK → Prop) : Prop :=
  ∀ (pins : List (Addr × Obj)) (s : Shared) (σ : St) (H : Hp) (x : V) (v : Value) (Q : VK), Inv X pins σ H s → RelV x v → r x H Q →
    wpAny (model X.prog X.w) X.A (f v) (EP X pins σ Q) X.xe s
/-- a call of a value that is known (a builtin, a type) with values -/
def CallR (X : Cx) (f : Value) (r : List V → Hp → VK → Prop) : Prop :=
  ∀ (pins : List (Addr × Obj)) (s : Shared) (σ : St) (H : Hp) (xs : List V) (us : List Value) (Q : VK), Inv X pins σ H s → Vals xs us → r xs H Q →
    wpAny (model X.prog X.w) X.A (call f us) (EP X pins σ Q) X.xe s
/-- a value's truth -/
def TruR (X : Cx) (r : V → Hp → (Bool → Hp → Prop) → Prop) : Prop :=
  ∀ (pins : List (Addr × Obj)) (s : Shared) (σ : St) (H : Hp) (x : V) (v : Value) (Q : Bool → Hp → Prop), Inv X pins σ H s → RelV x v → r x H Q →
    wpAny (model X.prog X.w) X.A (truthy v) (TP X pins σ Q) X.xe s

def tOp (r : R2) (ta tb : TE) : TE := fun σ H Q => ta σ H fun x H1 => tb σ H1 fun y H2 => r x y H2 Q
def tUn (r : V → Hp → VK → Prop) (ta : TE) : TE := fun σ H Q => ta σ H fun x H1 => r x H1 Q
/-- ints in, under C, and a value out -/
def rI (C : Int → Int → Prop) (g : Int → Int → V) : R2 := fun x y H Q => ∃ i j, x = .int i ∧ y = .int j ∧ C i j ∧ Q (g i j) H
def rI0 (g : Int → Int → V) : R2 := fun x y H Q => ∃ i j, x = .int i ∧ y = .int j ∧ Q (g i j) H
def rU (g : Int → V) : V → Hp → VK → Prop := fun x H Q => ∃ i, x = .int i ∧ Q (g i) H

section
variable {X : Cx} {a b c : Expr} {ta tb tc : TE} {pos : Pos}

theorem binT (ha : PE X a ta) (hb : PE X b tb) {pins : List (Addr × Obj)} {s : Shared} {σ : St} {H : Hp} {R : V → V → Hp → Prop} (I : Inv X pins σ H s)
    (h : ta σ H fun x H1 => tb σ H1 fun y H2 => R x y H2) {Q : Value → Shared → Prop} {f : Value → Value → Sem Value}
    (hf : ∀ v u s2 x y H2, Inv X pins σ H2 s2 → RelV x v → RelV y u → R x y H2 → wpAny (model X.prog X.w) X.A (f v u) Q X.xe s2) :
    wpAny (model X.prog X.w) X.A (eval a X.env) (fun v s₁ => wpAny (model X.prog X.w) X.A (eval b X.env) (fun u s₂ => wpAny (model X.prog X.w) X.A (f v u) Q X.xe s₂) X.xe s₁) X.xe s := by
  refine thn (ha pins s σ H _ I h) fun v s1 ⟨x, H1, I1, r1, q1⟩ => ?_
  refine thn (hb pins s1 σ H1 _ I1 q1) fun u s2 ⟨y, H2, I2, r2, q2⟩ => ?_
  exact hf v u s2 x y H2 I2 r1 r2 q2

theorem pe_op {op : Operator} {r : R2} (ho : OpR X (binaryOp op) r) (ha : PE X a ta) (hb : PE X b tb) : PE X (.BinOp a op b pos) (tOp r ta tb) := by
  intro pins s σ H Q I h
  exact wpAny_BinOp (binT ha hb I h fun v u s2 x y H2 I2 rx ry q => ho pins s2 σ H2 x y v u Q I2 rx ry q)
theorem opI {f : Value → Value → Sem Value} {C : Int → Int → Prop} {g : Int → Int → Int}
    (rule : ∀ (i j : Int) (t u : Tok) (s : Shared) (Q : Value → Shared → Prop) (E : Value → Shared → Prop), C i j → Q (.int (g i j) s.toks) { s with toks := s.toks + 1 } → wpAny (model X.prog X.w) X.A (f (.int i t) (.int j u)) Q E s) :
    OpR X f (rI C fun i j => .int (g i j)) := by
  intro pins s σ H x y v u Q I rx ry h
  obtain ⟨i, j, rfl, rfl, hc, q⟩ := h
  obtain ⟨t, rfl⟩ := rx
  obtain ⟨t', rfl⟩ := ry
  exact rule i j t t' s _ _ hc ⟨.int (g i j), H, I.tok _, ⟨_, rfl⟩, q⟩
theorem opI0 {f : Value → Value → Sem Value} {g : Int → Int → Int}
    (rule : ∀ (i j : Int) (t u : Tok) (s : Shared) (Q : Value → Shared → Prop) (E : Value → Shared → Prop), Q (.int (g i j) s.toks) { s with toks := s.toks + 1 } → wpAny (model X.prog X.w) X.A (f (.int i t) (.int j u)) Q E s) :
    OpR X f (rI0 fun i j => .int (g i j)) := by
  intro pins s σ H x y v u Q I rx ry h
  obtain ⟨i, j, rfl, rfl, q⟩ := h
  obtain ⟨t, rfl⟩ := rx
  obtain ⟨t', rfl⟩ := ry
  exact rule i j t t' s _ _ ⟨.int (g i j), H, I.tok _, ⟨_, rfl⟩, q⟩
theorem opB0 {f : Value → Value → Sem Value} {g : Int → Int → Bool}
    (rule : ∀ (i j : Int) (t u : Tok) (s : Shared) (Q : Value → Shared → Prop) (E : Value → Shared → Prop), Q (.bool (g i j)) s → wpAny (model X.prog X.w) X.A (f (.int i t) (.int j u)) Q E s) :
    OpR X f (rI0 fun i j => .bl (g i j)) := by
  intro pins s σ H x y v u Q I rx ry h
  obtain ⟨i, j, rfl, rfl, q⟩ := h
  obtain ⟨t, rfl⟩ := rx
  obtain ⟨t', rfl⟩ := ry
  exact rule i j t t' s _ _ ⟨.bl (g i j), H, I, rfl, q⟩

def CDiv (i j : Int) : Prop := 0 < j ∧ j < 1073741824
def CDivN (i j : Int) : Prop := j ≠ 0 ∧ j.natAbs < 1073741824
def CPow (i j : Int) : Prop := 0 ≤ j ∧ j ≤ 1000000 ∧ i.natAbs < 2 ^ 64
def CMul (i j : Int) : Prop := (-(2 ^ 64) < i ∧ i < 2 ^ 64) ∨ (-(2 ^ 64) < j ∧ j < 2 ^ 64)
theorem CMul.ok {i j : Int} (h : CMul i j) : IntMulOk i j := by
  rcases h with ⟨h1, h2⟩ | ⟨h1, h2⟩
  · exact .of_left (intBits_le_64 h1 h2)
  · exact .of_right (intBits_le_64 h1 h2)
theorem two_pow_nn (k : Nat) : (0 : Int) ≤ 2 ^ k := by
  rw [two_pow_cast]
  exact Int.natCast_nonneg _

theorem op_add : OpR X (binaryOp .Add) (rI0 fun i j => .int (i + j)) := opI0 fun _ _ _ _ _ _ _ q => add_int q
theorem op_sub : OpR X (binaryOp .Sub) (rI0 fun i j => .int (i - j)) := opI0 fun _ _ _ _ _ _ _ q => sub_int q
/-- % by a positive divisor of any size -/
theorem op_mod : OpR X (binaryOp .Mod) (rI (fun _ j => 0 < j) fun i j => .int (i % j)) := opI fun i j _ _ _ _ _ hc q => by
  have h1 : (0 : Int) < j := hc
  exact mod_int' (by omega) (by rw [Int.fmod_eq_emod_of_nonneg i (by omega)]; exact q)
theorem op_pow : OpR X (binaryOp .Pow) (rI CPow fun i j => .int (i ^ j.toNat)) := opI fun _ _ _ _ _ _ _ hc q => pow_int_small hc.1 hc.2.1 hc.2.2 q
theorem op_shl : OpR X (binaryOp .LShift) (rI CPow fun i j => .int (i * 2 ^ j.toNat)) := opI fun _ _ _ _ _ _ _ hc q => lshift_int_small hc.1 hc.2.1 hc.2.2 q
theorem op_shr : OpR X (binaryOp .RShift) (rI (fun _ j => 0 ≤ j) fun i j => .int (i / 2 ^ j.toNat)) := opI fun i j _ _ _ _ _ hc q =>
  rshift_int hc (by rw [Int.fdiv_eq_ediv_of_nonneg i (two_pow_nn _)]; exact q)
theorem op_or : OpR X (binaryOp .BitOr) (rI0 fun i j => .int (Builtin.bitOr i j)) := opI0 fun _ _ _ _ _ _ _ q => or_int q
end

/-- the scalars that == tells apart as data does -/
def scal : V → V → Bool
  | .non, .non => true | .non, .int _ => true | .int _, .non => true | .non, .bl _ => true | .bl _, .non => true | .non, .str _ => true | .str _, .non => true
  | .int _, .int _ => true | .bl _, .bl _ => true | .str _, .str _ => true | .byt _, .byt _ => true
  | .int _, .str _ => true | .str _, .int _ => true | .bl _, .str _ => true | .str _, .bl _ => true
  | _, _ => false
def rEq : R2 := fun x y H Q => scal x y = true ∧ Q (.bl (decide (x = y))) H
def rNe : R2 := fun x y H Q => scal x y = true ∧ Q (.bl (!decide (x = y))) H

theorem dec_int {i j : Int} : decide (V.int i = V.int j) = (i == j) := by
  rw [Bool.eq_iff_iff]
  simp
theorem dec_bl {i j : Bool} : decide (V.bl i = V.bl j) = (i == j) := by
  rw [Bool.eq_iff_iff]
  simp
theorem dec_str {i j : Str} : decide (V.str i = V.str j) = (i == j) := by
  rw [Bool.eq_iff_iff]
  simp
theorem dec_byt {i j : Array UInt8} : decide (V.byt i = V.byt j) = (i.toList == j.toList) := by
  rw [Bool.eq_iff_iff]
  cases i
  cases j
  simp

section
variable {X : Cx} {a b c : Expr} {ta tb tc : TE} {pos : Pos}
theorem fin_bl {pins : List (Addr × Obj)} {σ : St} {H : Hp} {s : Shared} {Q : VK} {k k' : Bool} (I : Inv X pins σ H s) (q : Q (.bl k) H) (e : k = k') : EP X pins σ Q (.bool k') s := by
  subst e
  exact ⟨.bl k, H, I, rfl, q⟩
theorem op_eq : OpR X (compareOp .Eq) rEq := by
  intro pins s σ H x y v u Q I rx ry h
  obtain ⟨hs, q⟩ := h
  cases x with
  | non =>
    cases rx
    cases y with
    | non => cases ry; exact PySem.EqNone.eq_none_none (fin_bl I q (by simp))
    | bl j => cases ry; exact PySem.EqNone.eq_none_bool (fin_bl I q (by simp))
    | int j => obtain ⟨t', rfl⟩ := ry; exact PySem.EqNone.eq_none_int (fin_bl I q (by simp))
    | str j => obtain ⟨t', rfl⟩ := ry; exact PySem.EqNone.eq_none_str (fin_bl I q (by simp))
    | _ => exact absurd (show false = true from hs) Bool.false_ne_true
  | bl i =>
    cases rx
    cases y with
    | non => cases ry; exact PySem.EqNone.eq_bool_none (fin_bl I q (by simp))
    | bl j => cases ry; exact eq_bool (fin_bl I q dec_bl)
    | str j => obtain ⟨t', rfl⟩ := ry; exact PySem.EqMixed.eq_bool_str (fin_bl I q (by simp))
    | _ => exact absurd (show false = true from hs) Bool.false_ne_true
  | int i =>
    obtain ⟨t, rfl⟩ := rx
    cases y with
    | non => cases ry; exact PySem.EqNone.eq_int_none (fin_bl I q (by simp))
    | int j => obtain ⟨t', rfl⟩ := ry; exact eq_int (fin_bl I q dec_int)
    | str j => obtain ⟨t', rfl⟩ := ry; exact PySem.EqMixed.eq_int_str (fin_bl I q (by simp))
    | _ => exact absurd (show false = true from hs) Bool.false_ne_true
  | str i =>
    obtain ⟨t, rfl⟩ := rx
    cases y with
    | non => cases ry; exact PySem.EqNone.eq_str_none (fin_bl I q (by simp))
    | bl j => cases ry; exact PySem.EqMixed.eq_str_bool (fin_bl I q (by simp))
    | int j => obtain ⟨t', rfl⟩ := ry; exact PySem.EqMixed.eq_str_int (fin_bl I q (by simp))
    | str j => obtain ⟨t', rfl⟩ := ry; exact eq_str (fin_bl I q dec_str)
    | _ => exact absurd (show false = true from hs) Bool.false_ne_true
  | byt i =>
    obtain ⟨t, rfl⟩ := rx
    cases y with
    | byt j => obtain ⟨t', rfl⟩ := ry; exact PySem.W.eq_bytes (fin_bl I q dec_byt)
    | _ => exact absurd (show false = true from hs) Bool.false_ne_true
  | _ => cases y <;> exact absurd (show false = true from hs) Bool.false_ne_true
theorem op_ne : OpR X (compareOp .NotEq) rNe := by
  intro pins s σ H x y v u Q I rx ry h
  obtain ⟨hs, q⟩ := h
  cases x with
  | non =>
    cases rx
    cases y with
    | non => cases ry; exact PySem.EqNone.ne_none_none (fin_bl I q (by simp))
    | bl j => cases ry; exact PySem.EqNone.ne_none_bool (fin_bl I q (by simp))
    | int j => obtain ⟨t', rfl⟩ := ry; exact PySem.EqNone.ne_none_int (fin_bl I q (by simp))
    | str j => obtain ⟨t', rfl⟩ := ry; exact PySem.EqNone.ne_none_str (fin_bl I q (by simp))
    | _ => exact absurd (show false = true from hs) Bool.false_ne_true
  | bl i =>
    cases rx
    cases y with
    | non => cases ry; exact PySem.EqNone.ne_bool_none (fin_bl I q (by simp))
    | bl j => cases ry; exact ne_bool (fin_bl I q (congrArg not dec_bl))
    | str j => obtain ⟨t', rfl⟩ := ry; exact PySem.EqMixed.ne_bool_str (fin_bl I q (by simp))
    | _ => exact absurd (show false = true from hs) Bool.false_ne_true
  | int i =>
    obtain ⟨t, rfl⟩ := rx
    cases y with
    | non => cases ry; exact PySem.EqNone.ne_int_none (fin_bl I q (by simp))
    | int j => obtain ⟨t', rfl⟩ := ry; exact ne_int (fin_bl I q (congrArg not dec_int))
    | str j => obtain ⟨t', rfl⟩ := ry; exact PySem.EqMixed.ne_int_str (fin_bl I q (by simp))
    | _ => exact absurd (show false = true from hs) Bool.false_ne_true
  | str i =>
    obtain ⟨t, rfl⟩ := rx
    cases y with
    | non => cases ry; exact PySem.EqNone.ne_str_none (fin_bl I q (by simp))
    | bl j => cases ry; exact PySem.EqMixed.ne_str_bool (fin_bl I q (by simp))
    | int j => obtain ⟨t', rfl⟩ := ry; exact PySem.EqMixed.ne_str_int (fin_bl I q (by simp))
    | str j => obtain ⟨t', rfl⟩ := ry; exact ne_str (fin_bl I q (congrArg not dec_str))
    | _ => exact absurd (show false = true from hs) Bool.false_ne_true
  | byt i =>
    obtain ⟨t, rfl⟩ := rx
    cases y with
    | byt j => obtain ⟨t', rfl⟩ := ry; exact PySem.W.ne_bytes (fin_bl I q (congrArg not dec_byt))
    | _ => exact absurd (show false = true from hs) Bool.false_ne_true
  | _ => cases y <;> exact absurd (show false = true from hs) Bool.false_ne_true

theorem op_lt : OpR X (compareOp .Lt) (rI0 fun i j => .bl (decide (i < j))) := opB0 fun _ _ _ _ _ _ _ q => lt_int q
theorem op_ge : OpR X (compareOp .GtE) (rI0 fun i j => .bl (decide (j ≤ i))) := opB0 fun _ _ _ _ _ _ _ q => ge_int q
/-- is, is not of two objects that are tracked lists or instances -/
def isObj : HO → Bool
  | .lst _ => true
  | .ins _ _ _ => true
  | _ => false
/-- two rules for one operation: by cases -/
theorem OpR.or {f : Value → Value → Sem Value} {r r' : R2} (h : OpR X f r) (h' : OpR X f r') : OpR X f (fun x y H Q => r x y H Q ∨ r' x y H Q) := by
  intro pins s σ H x y v u Q I rx ry q
  rcases q with q | q
  · exact h pins s σ H x y v u Q I rx ry q
  · exact h' pins s σ H x y v u Q I rx ry q

theorem nomark (b : Expr) {op : CmpOp} (h : op ≠ .In := by decide) (h2 : op ≠ .NotIn := by decide) : behindInMarks op b = false := by
  have e1 : (op == CmpOp.In) = false := by cases op <;> first | rfl | exact absurd rfl h
  have e2 : (op == CmpOp.NotIn) = false := by cases op <;> first | rfl | exact absurd rfl h2
  cases b <;> simp [behindInMarks, e1, e2]
/-- a comparison as a value; hm: nomark b, or (for in, not in) by with_unfolding_all rfl -/
theorem pe_cmpR {op : CmpOp} {r : R2} (ho : OpR X (compareOp op) r) (ha : PE X a ta) (hb : PE X b tb) (hm : behindInMarks op b = false) : PE X (.Compare a [op] [b] pos) (tOp r ta tb) := by
  intro pins s σ H Q I h
  exact wpAny_Compare1 (binT ha hb I h fun v u s2 x y H2 I2 rx ry q => ho pins s2 σ H2 x y v u Q I2 rx ry q) hm
/-- a reading of a value as a test -/
def tTest (t : TE) : TT := fun σ H Q => t σ H fun x H' => ∃ k, x = .bl k ∧ Q k H'
theorem pt_cmpR {op : CmpOp} {r : R2} (ho : OpR X (compareOp op) r) (ha : PE X a ta) (hb : PE X b tb) (hm : behindInMarks op b = false) : PT X (.Compare a [op] [b] pos) (tTest (tOp r ta tb)) := by
  intro pins s σ H Q I h
  refine wpAny_isTrue_Compare1 (thn (ha pins s σ H _ I h) fun v s1 ⟨x, H1, I1, r1, q1⟩ => thn (hb pins s1 σ H1 _ I1 q1) fun u s2 ⟨y, H2, I2, r2, q2⟩ =>
    thn (ho pins s2 σ H2 x y v u _ I2 r1 r2 q2) fun c s3 ⟨z, H3, I3, r3, k, e, q3⟩ => ?_) hm
  subst e
  cases r3
  exact wpAny_truthy_bool ⟨H3, I3, q3⟩
/-- a op1 b op2 c -/
def tChain (r r' : R2) (ta tb tc : TE) : TE := fun σ H Q => ta σ H fun x H1 => tb σ H1 fun y H2 => r x y H2 fun z H3 => ∃ k, z = .bl k ∧
  (if k = true then tc σ H3 fun w' H4 => r' y w' H4 Q else Q (.bl false) H3)
/-- a value's truth by the abstract heap -/
def TruV (K : PySem.W.Frag) (x : V) (H : Hp) (k : Bool) : Prop :=
  match x with
  | .non => k = false
  | .bl b => k = b
  | .int i => k = (i != 0)
  | .str y => y.length ≤ sizeLine ∧ k = ((y.length : Int) != 0)
  | .byt y => y.size ≤ sizeLine ∧ k = ((y.size : Int) != 0)
  | .ref p => (∃ xs, SqL K H p xs ∧ k = !xs.isEmpty) ∨ (∃ xs, SqT K H p xs ∧ k = !xs.isEmpty) ∨ ∃ kvs, H p = some (.dK kvs) ∧ k = !kvs.isEmpty
  | _ => False
theorem line63 : (sizeLine : Nat) < 2 ^ 63 := by rw [sizeLine_eq]; decide
def PlainIxT (b : Expr) : Prop := ∀ o i, subscripted b false o i = operate [o, i] (getItem o i)
theorem vals1 {x : V} {us : List Value} (r : Vals [x] us) : ∃ u, us = [u] ∧ RelV x u := by
  cases r with
  | cons r1 r2 => cases r2; exact ⟨_, rfl, r1⟩
theorem vals2 {x y : V} {us : List Value} (r : Vals [x, y] us) : ∃ u w', us = [u, w'] ∧ RelV x u ∧ RelV y w' := by
  cases r with
  | cons r1 r2 =>
    cases r2 with
    | cons r3 r4 => cases r4; exact ⟨_, _, rfl, r1, r3⟩
/-- len of a str, a bytes, a list, a tuple -/
def LenV (K : PySem.W.Frag) (x : V) (H : Hp) (n : Nat) : Prop :=
  match x with
  | .str y => y.length ≤ sizeLine ∧ n = y.length
  | .byt y => y.size ≤ sizeLine ∧ n = y.size
  | .ref p => (∃ xs, SqL K H p xs ∧ n = xs.length) ∨ ∃ xs, SqT K H p xs ∧ n = xs.length
  | _ => False
end
end L2

namespace L2
open PySem PySem.Spec PyProof.Rows

structure ObjM (h : Heap) (x dx C : Addr) (mA : Str → Option Value) : Prop where
  obj : h.get? x = some (PySem.W.instObj C dx)
  ns : h.Ns1 dx mA
  ne : dx ≠ x

theorem lookIn_ns {h : Heap} {dx : Addr} {mA : Str → Option Value} (n : h.Ns1 dx mA) : ∃ od, h.get? dx = some od ∧ ∀ name, PySem.W.lookIn name od = some (mA name) := by
  obtain ⟨o, es, ep, ho, hd, hk, _, hm⟩ := n
  refine ⟨o, ho, fun name => ?_⟩
  have e := hm name
  unfold nsFind findBy at e
  rw [← Array.find?_toList] at e
  unfold PySem.W.lookIn
  rw [hd]
  dsimp only
  split
  · rename_i y q
    rw [q] at e
    exact congrArg some e
  · rename_i q
    rw [q] at e
    have a : es.toList.any (·.refKey) = false := by
      rw [List.any_eq_false]
      intro y hy
      obtain ⟨z, t, hkey⟩ := hk y (Array.mem_toList_iff.mp hy)
      simp [DictEntry.refKey, hkey]
    have a' : ¬ es.toList.any (·.refKey) = true := by rw [a]; exact Bool.false_ne_true
    rw [if_neg a']
    exact congrArg some e

theorem ObjM.look {h : Heap} {x dx C : Addr} {mA : Str → Option Value} (I : ObjM h x dx C mA) : ∃ od, PySem.W.InstAt h x (PySem.W.instObj C dx) C (some od) ∧ ∀ name, PySem.W.lookIn name od = some (mA name) :=
  let ⟨od, ho, hl⟩ := lookIn_ns I.ns
  ⟨od, ⟨I.obj, rfl, rfl, ho⟩, hl⟩

section
variable {prog : Program} {w : World} {A : Around} {E : Value → Shared → Prop} {s : Shared} {K : PySem.W.Frag} {x dx C f : Addr} {mA : Str → Option Value} {name : Str} {v : Value}

end

def putF (f : Str) (v : V) : List (Str × V) → List (Str × V)
  | [] => [(f, v)]
  | (g, x) :: r => if g = f then (g, v) :: r else (g, x) :: putF f v r
section
variable {P : Program} {w : World} {H H' : Hp} {h h' : Heap} {a C dx : Addr} {fs fs' : List (Str × V)}
theorem ins_get (hok : HOk P w H h) (e : H a = some (.ins C dx fs)) : ∃ mA, ObjM h a dx C mA ∧ (∀ f, RelO (fs.lookup f) (mA f)) ∧ PySem.Within mA (fs.map (·.1)) ∧ fs.length ≤ 1000 ∧ H dx = some (.own a) := by
  obtain ⟨d, z, ne, ob, mA, n, r, q⟩ := (show ObjOk P w H h a (.ins C dx fs) from hok a _ e)
  exact ⟨mA, ⟨ob, n, ne⟩, r, q, z, d⟩
end

structure Cls (K : PySem.W.Frag) (C : Addr) : Prop where
  pg : PySem.W.plainGet K C Str.empty = true
  hd : PySem.W.hasDictIn K C = true
  po : PySem.W.plainOver K C = true
  sa : PySem.W.findIn K (.ref C) "__setattr__" = some (some (.builtin "object.__setattr__"))
theorem Cls.get {K : PySem.W.Frag} {C : Addr} (c : Cls K C) (f : Str) : PySem.W.plainGet K C f = true := c.pg
/-- no class of it has the name -/
def NoAttr (K : PySem.W.Frag) (C : Addr) (f : Str) : Prop := PySem.W.findIn K (.ref C) f = some none
/-- a constant of the class -/
structure Con (K : PySem.W.Frag) (C : Addr) (f : Str) (v : V) (u : Value) : Prop where
  at_ : PySem.W.findIn K (.ref C) f = some (some u)
  rel : RelV v u
  get : PySem.W.specialIn K u "__get__" = some none
  cp : PySem.W.copiedNames.contains f = false
/-- a method: a plain def of the class or of one above it -/
structure Meth (K : PySem.W.Frag) (C : Addr) (m : Str) (f : Addr) : Prop where
  at_ : PySem.W.findIn K (.ref C) m = some (some (.ref f))
  fn : PySem.W.isFn K (.ref f) = true
  kp : PySem.W.keepIn K (.ref f) = true

section
variable {X : Cx} {pins : List (Addr × Obj)} {σ : St} {H : Hp} {s : Shared} {a C dx : Addr} {fs : List (Str × V)} {f : Str} {v : V} {A : Around} {E : Value → Shared → Prop}

/-- a new instance, tracked, without attributes -/
theorem Inv.made (I : Inv X pins σ H s) : Inv X pins σ (upd (upd H s.heap.objs.size (.own (s.heap.objs.size + 1))) (s.heap.objs.size + 1) (.ins C s.heap.objs.size []))
    { s with heap := (s.heap.push PySem.W.emptyDict).push (PySem.W.instObj C s.heap.objs.size) } := by
  have e1 : (s.heap.push PySem.W.emptyDict).get? s.heap.objs.size = some PySem.W.emptyDict := Heap.get?_push_size s.heap rfl
  have e2 : ((s.heap.push PySem.W.emptyDict).push (PySem.W.instObj C s.heap.objs.size)).get? (s.heap.objs.size + 1) = some (PySem.W.instObj C s.heap.objs.size) := by
    have := Heap.get?_push_size (s.heap.push PySem.W.emptyDict) (o := PySem.W.instObj C s.heap.objs.size) rfl
    rwa [Heap.size_push] at this
  have e3 : (s.heap.push PySem.W.emptyDict).Ns s.heap.objs.size (fun _ => none) := ⟨PySem.W.emptyDict, #[], _, e1, rfl, (fun e he => absurd he (by simp)), fun _ => rfl⟩
  have I1 := I.laid (a := s.heap.objs.size) (o := .own (s.heap.objs.size + 1)) (h' := s.heap.push PySem.W.emptyDict) (t' := s.toks) (fun b u q => Heap.get?_push_of_some _ q) (Nat.le_refl _) ⟨_, e1⟩
  refine I1.laid (a := s.heap.objs.size + 1) (o := .ins C s.heap.objs.size []) (t' := s.toks) (fun b u q => Heap.get?_push_of_some _ q) (Nat.le_of_eq (Heap.size_push _ _)) ?_
  have ne : s.heap.objs.size ≠ s.heap.objs.size + 1 := Nat.ne_of_lt (Nat.lt_succ_self _)
  refine ⟨by rw [upd_ne ne, upd_same], Nat.zero_le _, ne, e2, fun _ => none, (Heap.Ns1.of_empty e3).at fun o q => Heap.get?_push_of_some _ q, fun _ => True.intro, fun y hy => absurd rfl hy⟩

end

/-- e.f, an attribute of the instance -/
def tFld (K : PySem.W.Frag) (ta : TE) (f : Str) : TE := fun σ H Q => ta σ H fun x H1 => ∃ a C dx fs v, x = .ref a ∧ H1 a = some (.ins C dx fs) ∧ Cls K C ∧ NoAttr K C f ∧ fs.lookup f = some v ∧ Q v H1
/-- e.f, a constant of the class -/
def tCon (K : PySem.W.Frag) (ta : TE) (f : Str) : TE := fun σ H Q => ta σ H fun x H1 => ∃ a C dx fs v u, x = .ref a ∧ H1 a = some (.ins C dx fs) ∧ Cls K C ∧ Con K C f v u ∧ fs.lookup f = none ∧ Q v H1
/-- e.f = value -/
def sFld (K : PySem.W.Frag) (ta tv : TE) (f : Str) : TS := fun D σ H => tv σ H fun y H1 => ta σ H1 fun x H2 => ∃ a C dx fs, x = .ref a ∧ H2 a = some (.ins C dx fs) ∧ Cls K C ∧ NoAttr K C f ∧ fs.length < 1000 ∧
  D.nx σ (upd H2 a (.ins C dx (putF f y fs)))
/-- an augmented operator on two values -/
def InOp (X : Cx) (op : Operator) (rd : V → V → Hp → VK → Prop) : Prop :=
  ∀ (pins : List (Addr × Obj)) (s : Shared) (σ : St) (H : Hp) (x y : V) (u v : Value) (Q : VK), Inv X pins σ H s → RelV x u → RelV y v → rd x y H Q → wpAny (model X.prog X.w) X.A (inplaceOp op u v) (EP X pins σ Q) X.xe s
/-- e.f op= value -/
def sFldAug (K : PySem.W.Frag) (ta tv : TE) (rd : V → V → Hp → VK → Prop) (f : Str) : TS := fun D σ H => ta σ H fun x H1 => ∃ a C dx fs v, x = .ref a ∧ H1 a = some (.ins C dx fs) ∧ Cls K C ∧ NoAttr K C f ∧ fs.lookup f = some v ∧
  tv σ H1 fun y H2 => rd v y H2 fun z H3 => ∃ dx' fs', H3 a = some (.ins C dx' fs') ∧ fs'.length < 1000 ∧ D.nx σ (upd H3 a (.ins C dx' (putF f z fs')))

section
variable {X : Cx} {o e value : Expr} {f : Str} {pos pos' tpos : Pos} {ta tv : TE}
def rAdd : V → V → Hp → VK → Prop := fun x y H Q => ∃ i j, x = .int i ∧ y = .int j ∧ Q (.int (i + j)) H
def rSub : V → V → Hp → VK → Prop := fun x y H Q => ∃ i j, x = .int i ∧ y = .int j ∧ Q (.int (i - j)) H
end

section
variable {X : Cx} {pins : List (Addr × Obj)} {σ : St} {H : Hp} {s : Shared} {A : Around} {E : Value → Shared → Prop} {Q : Value → Shared → Prop} {c : Value} {b : Bool}
/-- the type of a value, as the fragment's deciders take it; for an instance its class -/
inductive TyOf (K : PySem.W.Frag) (H : Hp) : V → Value → Prop where
  | non : TyOf K H .non (.type "NoneType")
  | bl (x : Bool) : TyOf K H (.bl x) (.type "bool")
  | int (i : Int) : TyOf K H (.int i) (.type "int")
  | str (x : Str) : TyOf K H (.str x) (.type "str")
  | flt (x : UInt64) : TyOf K H (.flt x) (.type "float")
  | lst {a : Addr} {xs : List V} (e : H a = some (.lst xs)) : TyOf K H (.ref a) (.type "list")
  | frz {a : Addr} {o : Obj} {xs : List V} (e : H a = some (.frz o (.lst xs))) : TyOf K H (.ref a) (.type "list")
  | tup {a : Addr} {xs : List V} (e : H a = some (.tup xs)) : TyOf K H (.ref a) (.type "tuple")
  | dK {a : Addr} {kvs : List (Key × V)} (e : H a = some (.dK kvs)) : TyOf K H (.ref a) (.type "dict")
  | dT {a : Addr} {kvs : List (List Key × V)} (e : H a = some (.dT kvs)) : TyOf K H (.ref a) (.type "dict")
  | ins {a C dx : Addr} {fs : List (Str × V)} (e : H a = some (.ins C dx fs)) (cl : Cls K C) (ha : PySem.W.findIn K (.ref C) "__class__" = some (some (.builtin "object.__class__")))
      (hn : PySem.W.specialIn K (.builtin "object.__class__") "__get__" = some (some (.builtin "getset_descriptor.__get__"))) (htk : PySem.W.takesIn K (.builtin "object.__class__") = some true)
      (hm : PySem.W.mroIn K C (.type "object") = some true) : TyOf K H (.ref a) (.ref C)
/-- isinstance(x, c) for one class c, a built-in or an own one: kitOne's answer -/
theorem isinst_ok {x : V} {u t : Value} (I : Inv X pins σ H s) (rx : RelV x u) (ty : TyOf X.K H x t) (e : PySem.W.kitOne X.K t c = some b) (h : ∀ tk, Q (.bool b) { s with toks := tk }) :
    wpAny (model X.prog X.w) A (call (.builtin "isinstance") [u, c]) Q E s := by
  cases ty with
  | non => cases (show u = Value.none from rx); exact PySem.W.kia_one PySem.W.kitx_none I.kIn True.intro e (fun z => nomatch z) h
  | bl y => cases (show u = Value.bool y from rx); exact PySem.W.kia_one PySem.W.kitx_bool I.kIn True.intro e (fun z => nomatch z) h
  | int i => obtain ⟨t, q⟩ := (show ∃ t, u = Value.int i t from rx); cases q; exact PySem.W.kia_one PySem.W.kitx_int I.kIn True.intro e (fun z => nomatch z) h
  | str y => obtain ⟨t, q⟩ := (show ∃ t, u = Value.str y t from rx); cases q; exact PySem.W.kia_one PySem.W.kitx_str I.kIn True.intro e (fun z => nomatch z) h
  | flt y => obtain ⟨t, q⟩ := (show ∃ t, u = Value.float y t from rx); cases q; exact PySem.W.kia_one PySem.W.kitx_float I.kIn True.intro e (fun z => nomatch z) h
  | @lst a xs ea =>
    cases (show u = Value.ref a from rx)
    obtain ⟨_, _, n, _, h1⟩ := (show ObjOk X.prog X.w H s.heap a (.lst xs) from I.hok a _ ea)
    exact PySem.W.kia_one PySem.W.kitx_list I.kIn ⟨_, h1, rfl⟩ e (fun z => nomatch z) h
  | @frz a ob xs ea =>
    cases (show u = Value.ref a from rx)
    obtain ⟨_, _, _, n, _, h1⟩ := (show ObjOk X.prog X.w H s.heap a (.frz ob (.lst xs)) from I.hok a _ ea)
    exact PySem.W.kia_one PySem.W.kitx_list I.kIn ⟨_, h1, rfl⟩ e (fun z => nomatch z) h
  | @tup a xs ea =>
    cases (show u = Value.ref a from rx)
    obtain ⟨_, _, _, p⟩ := (show ObjOk X.prog X.w H s.heap a (.tup xs) from I.hok a _ ea)
    obtain ⟨o, h1, h2, _⟩ := p
    exact PySem.W.kia_one PySem.W.kitx_tuple I.kIn ⟨o, h1, h2⟩ e (fun z => nomatch z) h
  | @dK a kvs ea =>
    cases (show u = Value.ref a from rx)
    obtain ⟨_, _, vs, _, p⟩ := (show ObjOk X.prog X.w H s.heap a (.dK kvs) from I.hok a _ ea)
    obtain ⟨o, es, ep, h1, h2, _⟩ := p
    exact PySem.W.kia_one PySem.W.kitx_dict I.kIn ⟨o, h1, h2.1⟩ e (fun z => nomatch z) h
  | @dT a kvs ea =>
    cases (show u = Value.ref a from rx)
    obtain ⟨_, _, xs, _, o, es, ep, h1, h2, _⟩ := (show ObjOk X.prog X.w H s.heap a (.dT kvs) from I.hok a _ ea)
    exact PySem.W.kia_one PySem.W.kitx_dict I.kIn ⟨o, h1, h2.1⟩ e (fun z => nomatch z) h
  | @ins a C dx fs ea cl ha hn htk hm =>
    cases (show u = Value.ref a from rx)
    obtain ⟨mA, O, _⟩ := ins_get I.hok ea
    obtain ⟨od, J, _⟩ := O.look
    exact PySem.W.kia_one (PySem.W.kitx_own (cl.get _) cl.hd ha hn htk hm) I.kIn J e (fun z => nomatch z) h
end
end L2

namespace L2
open PySem PySem.Spec PyProof.Rows

structure Room (k : Nat) (A : Around) : Prop where
  hd : A.handled = none
  dp : A.depth + 3 * k + 5 < recursionLimit
  un : A.units + 16 * k + 200 < cLine
theorem Room.mono {j k : Nat} {A : Around} (r : Room k A) (h : j ≤ k) : Room j A := ⟨r.hd, by have := r.dp; omega, by have := r.un; omega⟩
theorem Room.deeper {k : Nat} {A : Around} (r : Room (k + 1) A) (env : Env) : Room k (A.deeper env) :=
  ⟨r.hd, by have := r.dp; show A.depth + 1 + 3 * k + 5 < _; omega, by have := r.un; show A.units + 3 + 16 * k + 200 < _; omega⟩
theorem Room.in1 {k : Nat} {A : Around} (r : Room (k + 1) A) : Room k A.in1 :=
  ⟨r.hd, by have := r.dp; show A.depth + 3 * k + 5 < _; omega, by have := r.un; show A.units + 1 + 16 * k + 200 < _; omega⟩
theorem Room.depth {k : Nat} {A : Around} (r : Room k A) : A.depth < recursionLimit := by have := r.dp; omega
theorem Room.units {k : Nat} {A : Around} (r : Room k A) : A.units + 64 < cLine := by have := r.un; omega
def tNil : TA := fun _ H Q => Q [] H
def tCons (ta : TE) (tr : TA) : TA := fun σ H Q => ta σ H fun x H1 => tr σ H1 fun xs H2 => Q (x :: xs) H2
section
variable {X : Cx} {e : Expr} {es : List Expr} {te : TE} {t : TA} {pos : Pos}
theorem pa_nil : PA X [] tNil := fun _ _ _ _ H Q I h => Calls.spliced_nil ⟨[], H, I, .nil, h⟩
theorem pa_cons (ha : PE X e te) (hr : PA X es t) (hs : starEach (e :: es) X.env = (false, eval e X.env) :: starEach es X.env := by rfl) : PA X (e :: es) (tCons te t) := by
  intro pos pins s σ H Q I h
  rw [hs]
  show wpAny _ _ (spliced ((false, eval e X.env) :: backTo pos (starEach es X.env))) _ _ s
  refine Calls.spliced_cons (thn (ha pins s σ H _ I h) fun u s1 ⟨x, H1, I1, r1, q1⟩ => ?_)
  exact thn (hr pos pins s1 σ H1 _ I1 q1) fun us s2 ⟨xs, H2, I2, r2, q2⟩ => ⟨x :: xs, H2, I2, .cons r1 r2, q2⟩

/-- a tuple, a list of written items -/
def tTup (t : TA) : TE := fun σ H Q => t σ H fun xs H1 => xs.length ≤ sizeLine ∧ ∀ p, H1 p = none → Q (.ref p) (upd H1 p (.tup xs))
def tLst (t : TA) : TE := fun σ H Q => t σ H fun xs H1 => xs.length ≤ sizeLine ∧ ∀ p, H1 p = none → Q (.ref p) (upd H1 p (.lst xs))
theorem pe_lst (h : PA X es t) : PE X (.List es pos) (tLst t) := by
  intro pins s σ H Q I hq
  refine wpAny_List_spliced (thn (h pos pins s σ H _ I hq) fun us s1 ⟨xs, H1, I1, r, z, q⟩ => ⟨by rw [← r.length]; exact z, ?_⟩)
  have hf : H1 s1.heap.objs.size = none := I1.hok.fresh (Nat.le_refl _)
  refine ⟨.ref s1.heap.objs.size, upd H1 s1.heap.objs.size (.lst xs), I1.laid (t' := s1.toks) (fun b u e => Heap.get?_push_of_some _ e) (Nat.le_refl _) ?_, rfl, q _ hf⟩
  exact ⟨z, us, 0, r, Heap.get?_push_size _ rfl⟩
end

/-- a def's promise: the bound arguments in the parameters' order, the heap, the wanted end, the wanted exception -/
abbrev Sp := List V → Hp → VK → XK → Prop
/-- how an exception lies behind a call (file 08 gives it): the callers' frames, abstract heap and state ahead of the call, the wish, the exception, the state -/
abbrev CXT := List Env → Hp → Shared → XK → Value → Shared → Prop

/-- the state at a call -/
structure Env0 (P : Program) (w : World) (K : PySem.W.Frag) (mg : Str → Option Value) (base : Heap) (A : Around) (outer : List Env) (s : Shared) (H : Hp) : Prop where
  frames : A.frames = some outer
  mod : Mod K mg base
  bs : ∀ b o, base.get? b = some o → s.heap.get? b = some o ∧ H b = none
  bsz : base.objs.size ≤ s.heap.objs.size
  funs : s.heap.FunFrames base outer
  frf : ∀ b ∈ frs outer, H b = none
  hok : HOk P w H s.heap
  bare : AllBare s.gens
/-- a call's end -/
def CE (outer : List Env) (P : Program) (w : World) (H : Hp) (s : Shared) (Q : VK) (u : Value) (s' : Shared) : Prop :=
  ∃ v H', s'.os = s.os ∧ AllBare s'.gens ∧ Un (frs outer) [] H H' s.heap s'.heap ∧ HOk P w H' s'.heap ∧ RelV v u ∧ Q v H'
def CR (CX : CXT) (outer : List Env) (P : Program) (w : World) (H : Hp) (s : Shared) (Q : VK) (E : XK) (r : Result) (s' : Shared) : Prop :=
  match r with
  | .ok (.ret u) => CE outer P w H s Q u s'
  | .ok _ => False
  | .error e => CX outer H s E e s'
structure FnOk (P : Program) (w : World) (K : PySem.W.Frag) (mg : Str → Option Value) (base : Heap) (CX : CXT) (k : Nat) (f : Addr) (fd : FuncData) (ps : List Str) (sp : Sp) : Prop where
  len : ∀ vs H Q E, sp vs H Q E → vs.length = ps.length
  run : ∀ (A : Around) (outer : List Env) (s : Shared) (H : Hp) (args : Args) (us : List Value) (vs : List V) (Q : VK) (E : XK), Room k A → Env0 P w K mg base A outer s H → BindsTo s fd args (ps.zip us) → Vals vs us → sp vs H Q E →
    codeAny (model P w) A (.call (.ref f) args) (CR CX outer P w H s Q E) s
theorem FnOk.mono {P : Program} {w : World} {K : PySem.W.Frag} {mg : Str → Option Value} {base : Heap} {CX : CXT} {j k : Nat} {f : Addr} {fd : FuncData} {ps : List Str} {sp : Sp} (F : FnOk P w K mg base CX j f fd ps sp) (h : j ≤ k) :
    FnOk P w K mg base CX k f fd ps sp := ⟨F.len, fun A outer s H args us vs Q E hr => F.run A outer s H args us vs Q E (hr.mono h)⟩
/-- a weaker promise -/
theorem FnOk.imp {P : Program} {w : World} {K : PySem.W.Frag} {mg : Str → Option Value} {base : Heap} {CX : CXT} {k : Nat} {f : Addr} {fd : FuncData} {ps : List Str} {sp sp' : Sp} (F : FnOk P w K mg base CX k f fd ps sp)
    (h : ∀ vs H Q E, sp' vs H Q E → sp vs H Q E) : FnOk P w K mg base CX k f fd ps sp' :=
  ⟨fun vs H Q E q => F.len vs H Q E (h _ _ _ _ q), fun A outer s H args us vs Q E hr he hb hv hs => F.run A outer s H args us vs Q E hr he hb hv (h _ _ _ _ hs)⟩

theorem Env0.in1 {P : Program} {w : World} {K : PySem.W.Frag} {mg : Str → Option Value} {base : Heap} {A : Around} {outer : List Env} {s : Shared} {H : Hp} (e : Env0 P w K mg base A outer s H) :
    Env0 P w K mg base A.in1 outer s H := ⟨e.frames, e.mod, e.bs, e.bsz, e.funs, e.frf, e.hok, e.bare⟩

section
variable {X : Cx} {pins : List (Addr × Obj)} {σ : St} {H : Hp} {s s' : Shared}
/-- from a body: what a callee wants -/
theorem Inv.env0 (I : Inv X pins σ H s) : Env0 X.prog X.w X.K X.mg X.base X.A X.stack s H :=
  ⟨I.ok.frames, I.ok.mod, I.bs, Nat.le_trans I.ok.bsz I.sz, I.stack, I.stkFree, I.hok, I.bare⟩
/-- behind a call -/
theorem Inv.after {Q : VK} {u : Value} (I : Inv X pins σ H s) (h : CE X.stack X.prog X.w H s Q u s') : EP X pins σ Q u s' := by
  obtain ⟨v, H', os, bare, un, hok, r, q⟩ := h
  obtain ⟨hh, g, d, t, os'⟩ := s'
  obtain rfl : os' = s.os := os
  exact ⟨v, H', I.call (h' := hh) (g' := g) (d' := d) (t' := t) (ch := []) un hok bare (fun b z => absurd z (by simp)), r, q⟩
end

/-- f(..): the written arguments, then the defaults dvs; E: what is wanted of an exception -/
def tCall (sp : Sp) (dvs : List V) (E : XK) (t : TA) : TE := fun σ H Q => t σ H fun vs H1 => sp (vs ++ dvs) H1 Q E
/-- o.m(..) of an instance of the class at C -/
def tMeth (C : Addr) (m : Str) (sp : Sp) (dvs : List V) (E : XK) (ta : TE) (t : TA) : TE := fun σ H Q => ta σ H fun x H1 => ∃ a dx fs, x = .ref a ∧ H1 a = some (.ins C dx fs) ∧ fs.lookup m = none ∧
  t σ H1 fun vs H2 => sp (x :: (vs ++ dvs)) H2 Q E
/-- C(..): a new instance and its dict, then __init__ -/
def tMake (C : Addr) (sp : Sp) (dvs : List V) (E : XK) (t : TA) : TE := fun σ H Q => t σ H fun vs H1 => ∀ x dx, H1 x = none → H1 dx = none → dx ≠ x →
  sp (.ref x :: (vs ++ dvs)) (upd (upd H1 dx (.own x)) x (.ins C dx [])) (fun v H2 => v = .non ∧ Q (.ref x) H2) E

/-- how the parameters are bound: us the positional arguments, kw the keywords' values by name, ds the defaults that fill up -/
def Binds (K : PySem.W.Frag) (fd : FuncData) (ps : List Str) (ds : List Value) : Prop :=
  ∀ (s : Shared) (us : List Value), K.In s.heap → (us ++ ds).length = ps.length → BindsTo s fd ⟨us, []⟩ (ps.zip (us ++ ds))
/-- every parameter is given -/
theorem Binds.all {K : PySem.W.Frag} {fd : FuncData} {ps : List Str} (h : ∀ us : List Value, us.length = ps.length → bindArgs fd ⟨us, []⟩ = pure (ps.zip us)) : Binds K fd ps [] := fun s us _ hl => by
  rw [List.append_nil] at hl ⊢
  exact .of_eq (h us hl)

/-- an exception of a callee reaches what this body wants of exceptions -/
def Passes (CX : CXT) (X : Cx) (E : XK) : Prop := ∀ (pins : List (Addr × Obj)) (σ : St) (H : Hp) (s : Shared) (e : Value) (s' : Shared), Inv X pins σ H s → CX X.stack H s E e s' → X.xe e s'

section
variable {X : Cx} {CX : CXT} {k : Nat} {f C : Addr} {fd : FuncData} {ps : List Str} {sp : Sp} {dvs : List V} {ds : List Value} {E : XK} {x m : Str} {p pos apos : Pos} {e o : Expr} {es : List Expr} {ta : TE} {t : TA}

/-- the callee runs -/
theorem run_fn {pins : List (Addr × Obj)} {σ : St} {H : Hp} {s : Shared} {Q : VK} {us : List Value} {vs : List V} (F : FnOk X.prog X.w X.K X.mg X.base CX k f fd ps sp) (hr : Room k X.A) (hb : Binds X.K fd ps ds) (hd : Vals dvs ds) (hx : Passes CX X E)
    (I : Inv X pins σ H s) (r : Vals vs us) (h : sp (vs ++ dvs) H Q E) : wpAny (model X.prog X.w) X.A (call (.ref f) us) (EP X pins σ Q) X.xe s := by
  have r2 : Vals (vs ++ dvs) (us ++ ds) := r.append hd
  have hl : (us ++ ds).length = ps.length := by rw [← r2.length]; exact F.len _ _ _ _ h
  refine wpAny_call (codeAny_mono (F.run X.A X.stack s H ⟨us, []⟩ (us ++ ds) (vs ++ dvs) Q E hr I.env0 (hb s us I.kIn hl) r2 h) fun r s' hq => ?_)
  cases r with
  | error e => exact hx pins σ H s e s' I hq
  | ok fl =>
    cases fl with
    | ret u => exact I.after hq
    | next => exact False.elim hq
    | brk => exact False.elim hq
    | cont => exact False.elim hq

theorem pe_call (F : FnOk X.prog X.w X.K X.mg X.base CX k f fd ps sp) (hr : Room k X.A) (hg : Gl X x) (hm : X.mg x = some (.ref f)) (hk : PySem.W.keepIn X.K (.ref f) = true) (hb : Binds X.K fd ps ds) (hd : Vals dvs ds) (hx : Passes CX X E)
    (ha : PA X (e :: es) t) (hdb : (x == ("__debug__" : Str)) = false := by decide) (he : starEach (e :: es) X.env = (false, eval e X.env) :: starEach es X.env := by rfl) (hpl : (backTo pos (starEach es X.env)).any (·.1) = false := by rfl) :
    PE X (.Call (.Name x p) (e :: es) [] pos) (tCall sp dvs E t) := by
  intro pins s σ H Q I h
  refine wpAny_Call_Name_kw (ld_glob I hg hm ?_ hdb)
  refine PySem.W.callWith_K (h₀ := X.base) I.ok.mod.kin hk (thn (ha pos pins s σ H _ I h) fun us s1 ⟨vs, H1, I1, r, q⟩ => ⟨I1.kIn, ?_⟩) he hpl
  exact run_fn F hr hb hd hx I1 r q
/-- what a class must have to be made -/
structure Mk (K : PySem.W.Frag) (C f : Addr) : Prop where
  makes : PySem.W.makesIn K C = true
  init : PySem.W.findIn K (.ref C) "__init__" = some (some (.ref f))
  fn : PySem.W.isFn K (.ref f) = true
  kp : PySem.W.keepIn K (.ref C) = true

end

/-- the values of the keywords, from the left -/
def PK (X : Cx) (kws : List Keyword) (t : TA) : Prop :=
  ∀ (pos : Pos) (pins : List (Addr × Obj)) (s : Shared) (σ : St) (H : Hp) (Q : List V → Hp → Prop), Inv X pins σ H s → t σ H Q → wpAny (model X.prog X.w) X.A (evalAll ((backToKw pos (keywordEach kws X.env)).map (·.2))) (AP X pins σ Q) X.xe s
section
variable {X : Cx} {CX : CXT} {k : Nat} {f C : Addr} {fd : FuncData} {ps ks : List Str} {sp : Sp} {E : XK} {x m : Str} {p pos apos kpos : Pos} {e o : Expr} {es : List Expr} {kws : List Keyword} {te ta : TE} {t tk : TA} {nm : Option Str}
/-- how a call with keywords binds: g puts the positional values us and the keywords' values ws (names ks) in the parameters' order, defaults among them -/
structure KBinds (K : PySem.W.Frag) (fd : FuncData) (ps ks : List Str) (g : List Value → List Value → List Value) (gV : List V → List V → List V) : Prop where
  to : ∀ (s : Shared) (us ws : List Value), K.In s.heap → (g us ws).length = ps.length → BindsTo s fd ⟨us, ks.zip ws⟩ (ps.zip (g us ws))
  rel : ∀ {vs : List V} {us : List Value} {zs : List V} {ws : List Value}, Vals vs us → Vals zs ws → Vals (gV vs zs) (g us ws)
def tCallK (sp : Sp) (gV : List V → List V → List V) (E : XK) (t tk : TA) : TE := fun σ H Q => t σ H fun vs H1 => tk σ H1 fun zs H2 => sp (gV vs zs) H2 Q E
variable {g : List Value → List Value → List Value} {gV : List V → List V → List V}
end

/-- names: the parameters first -/
structure FnScope (N P : List Str) (sc : Scope) : Prop where
  kind : sc.kind = .function
  co : sc.isCoroutine = false
  gen : sc.isGenerator = false
  nd : N.Nodup
  pre : N.take P.length = P
  par : ∀ x ∈ P, sc.names.lookup x = some .local ∨ sc.names.lookup x = some .cell
  nofree : ∀ y ∈ sc.names, y.2 ≠ .free

theorem bindL_out {kindOf : Str → Option NameKind} {x : Str} : ∀ {binds : List (Str × Value)} {m : Str → Option Value}, (∀ v, (x, v) ∉ binds) → bindL kindOf binds m x = m x
  | [], _, _ => rfl
  | (n, v) :: r, m, h => by
    unfold bindL
    rw [bindL_out fun w hw => h w (List.mem_cons_of_mem _ hw)]
    split
    · have : x ≠ n := by rintro rfl; exact h v List.mem_cons_self
      simp [this]
    · rfl
theorem bindC_out {kindOf : Str → Option NameKind} {x : Str} : ∀ {binds : List (Str × Value)} {m : Str → Option Value}, (∀ v, (x, v) ∉ binds) → bindC kindOf binds m x = m x
  | [], _, _ => rfl
  | (n, v) :: r, m, h => by
    unfold bindC
    rw [bindC_out fun w hw => h w (List.mem_cons_of_mem _ hw)]
    split
    · rfl
    · have : x ≠ n := by rintro rfl; exact h v List.mem_cons_self
      simp [this]
theorem bindL_get {kindOf : Str → Option NameKind} {x : Str} {v : Value} : ∀ {P : List Str} {vs : List Value} {i : Nat} {m : Str → Option Value}, P.Nodup → P[i]? = some x → vs[i]? = some v → kindOf x = some .local →
    bindL kindOf (P.zip vs) m x = some v
  | [], _, _, _, _, h, _, _ => by simp at h
  | _ :: _, [], _, _, _, _, h, _ => by simp at h
  | p :: P, w :: vs, 0, m, nd, h1, h2, hk => by
    simp at h1 h2; subst h1; subst h2
    show bindL kindOf ((p, w) :: P.zip vs) m p = _
    unfold bindL
    rw [bindL_out fun v hv => (List.nodup_cons.mp nd).1 (List.of_mem_zip hv).1, if_pos hk]
    simp
  | p :: P, w :: vs, i + 1, m, nd, h1, h2, hk => by
    show bindL kindOf ((p, w) :: P.zip vs) m x = _
    unfold bindL
    exact bindL_get (i := i) (List.nodup_cons.mp nd).2 (by simpa using h1) (by simpa using h2) hk
theorem bindC_get {kindOf : Str → Option NameKind} {x : Str} {v : Value} : ∀ {P : List Str} {vs : List Value} {i : Nat} {m : Str → Option Value}, P.Nodup → P[i]? = some x → vs[i]? = some v → kindOf x ≠ some .local →
    bindC kindOf (P.zip vs) m x = some v
  | [], _, _, _, _, h, _, _ => by simp at h
  | _ :: _, [], _, _, _, _, h, _ => by simp at h
  | p :: P, w :: vs, 0, m, nd, h1, h2, hk => by
    simp at h1 h2; subst h1; subst h2
    show bindC kindOf ((p, w) :: P.zip vs) m p = _
    unfold bindC
    rw [bindC_out fun v hv => (List.nodup_cons.mp nd).1 (List.of_mem_zip hv).1, if_neg hk]
    simp
  | p :: P, w :: vs, i + 1, m, nd, h1, h2, hk => by
    show bindC kindOf ((p, w) :: P.zip vs) m x = _
    unfold bindC
    exact bindC_get (i := i) (List.nodup_cons.mp nd).2 (by simpa using h1) (by simpa using h2) hk

/-- the names' values at the entry -/
def start (N : List Str) (vs : List V) : St := vs.map some ++ List.replicate (N.length - vs.length) none

/-- the context of a def's body, at its entry; an exception leaves the frame, then lies as CX says -/
def cxOf (CX : CXT) (P : Program) (w : World) (K : PySem.W.Frag) (mg : Str → Option Value) (base : Heap) (N : List Str) (qual : Str) (scope : Scope) (f : Addr) (cd : Value) (A : Around) (outer : List Env) (s : Shared) (H : Hp) (E : XK) : Cx where
  prog := P
  w := w
  K := K
  mg := mg
  base := base
  A := A.deeper (envOfC qual scope s.heap.objs.size f cd)
  N := N
  s₀ := s
  H₀ := H
  env := envOfC qual scope s.heap.objs.size f cd
  outer := outer
  stack := envOfC qual scope s.heap.objs.size f cd :: outer
  ex := []
  calm := true
  fn := fun _ => true
  pn := []
  xe := fun e s' => wpAny (model P w) (A.deeper (envOfC qual scope s.heap.objs.size f cd)) (leaving (envOfC qual scope s.heap.objs.size f cd) e) (fun _ s'' => CX outer H s E e s'') (fun e' s'' => CX outer H s E e' s'') s'

theorem cell_has {sc : Scope} {n : Nat} {x : Str} (h : sc.names.lookup x = some .cell) : ∃ c, (cellsFrom n sc.names []).lookup x = some c := by
  have q := PySem.W.cellsFrom_some sc.names n [] (.inl h)
  exact Option.isSome_iff_exists.mp q

theorem inv_start {CX : CXT} {P : Program} {w : World} {K : PySem.W.Frag} {mg : Str → Option Value} {base : Heap} {N ps : List Str} {qual : Str} {scope : Scope} {f : Addr} {cd : Value} {A : Around} {outer : List Env} {s s1 : Shared} {H : Hp} {E : XK} {us : List Value} {vs : List V}
    (S : FnScope N ps scope) (hd : A.handled = none) (e0 : Env0 P w K mg base A outer s H) (hl : vs.length = ps.length) (r : Vals vs us)
    (x : InCallC s s.heap.objs.size (bindL (envOfC qual scope s.heap.objs.size f cd).kindOf (ps.zip us) fun _ => none) (cellsFrom (s.heap.objs.size + 1) scope.names []) (bindC (envOfC qual scope s.heap.objs.size f cd).kindOf (ps.zip us) fun _ => none) s1) :
    Inv (cxOf CX P w K mg base N qual scope f cd A outer s H E) [] (start N vs) H s1 := by
  have hpl : ps.length ≤ N.length := by have := congrArg List.length S.pre; rw [List.length_take] at this; omega
  obtain ⟨h1, tk, rfl, hk⟩ := x.done
  have noA : ∀ b : Addr, b ∉ (cxOf CX P w K mg base N qual scope f cd A outer s H E).ex := fun b z => absurd (show b ∈ ([] : List Addr) from z) (by simp)
  refine ⟨⟨e0.mod, S.kind, rfl, rfl, Nat.le_refl _, fun y z c h1 h2 => ?_, fun y hy => ?_, fun y c _ h => ?_, fun _ => hd, Around.frames_deeper e0.frames, .inr ⟨rfl, rfl⟩, fun b z => absurd z (noA b), e0.bs, e0.bsz, fun b _ _ => noA b, fun b z => absurd z (noA b), e0.funs, e0.frf⟩,
    rfl, e0.bare, Un.kept hk, ⟨_, x.toInCall.ns, fun i y v h1 h2 h3 => ?_⟩, fun y c h => ⟨_, x.cell y c h⟩, e0.hok.fresh (Nat.le_refl _), fun y c h => ?_, fun p hp => absurd (show p ∈ ([] : List (Addr × Obj)) from hp) (by simp), e0.hok.kept hk, ?_⟩
  · exact name_of_addr x.apart (PySem.mem_of_lookup h1) (PySem.mem_of_lookup h2)
  · have hy : scope.names.lookup y = some .cell ∨ scope.names.lookup y = some .free := hy
    rcases hy with hy | hy
    · exact cell_has hy
    · exact absurd rfl (S.nofree _ (PySem.mem_of_lookup hy))
  · exact Nat.le_of_lt (x.above y c (PySem.mem_of_lookup h))
  · have hi : i < vs.length := by
      unfold start at h2
      by_cases hi : i < vs.length
      · exact hi
      · rw [List.getElem?_append_right (by simpa using hi)] at h2
        rw [List.getElem?_replicate] at h2
        split at h2 <;> cases h2
    have ha : vs[i]? = some v := by
      unfold start at h2
      rw [List.getElem?_append_left (by simpa using hi), List.getElem?_map] at h2
      cases e : vs[i]? with
      | none => rw [e] at h2; cases h2
      | some a => rw [e] at h2; cases h2; rfl
    obtain ⟨u, hu, rv⟩ := r.get ha
    have hp : ps[i]? = some y := by
      rw [← S.pre, List.getElem?_take_of_lt (by omega)]; exact h1
    have ndP : ps.Nodup := by rw [← S.pre]; exact S.nd.sublist (List.take_sublist _ _)
    refine ⟨u, rv, ?_⟩
    rcases S.par y (List.mem_of_getElem? hp) with k | k
    · exact .inl ⟨k, bindL_get ndP hp hu k⟩
    · obtain ⟨c, e⟩ := cell_has (n := s.heap.objs.size + 1) k
      refine .inr ⟨.inl k, c, e, ?_⟩
      have q := x.cell y c e
      rw [bindC_get ndP hp hu (by show scope.names.lookup y ≠ _; rw [k]; decide)] at q
      exact q
  · exact e0.hok.fresh (Nat.le_of_lt (x.above y c (PySem.mem_of_lookup h)))
  · unfold start
    show _ = N.length
    rw [List.length_append, List.length_map, List.length_replicate]
    omega

/-- THE RULE: a def (or a method) of the text, by its body. The body's reading t is chosen for each entry; it is run at the parameters' values -/
theorem fn_of {CX : CXT} {P : Program} {w : World} {K : PySem.W.Frag} {mg : Str → Option Value} {base : Heap} {k : Nat} {f : Addr} {name qual : Str} {params : Arguments} {body : List Stmt} {scope : Scope} {dV kV doc pm cdv ct oc : Value} {an od : Option Addr}
    {osl : Array (Option Value)} {N ps : List Str} {sp : Sp} (lk : K.lookup f = some ⟨oc, od, .func (PySem.W.fnOf name qual params body scope dV kV doc pm an cdv ct), osl⟩) (hcd : PySem.W.codeIn K cdv qual = true) (S : FnScope N ps scope)
    (len : ∀ vs H Q E, sp vs H Q E → vs.length = ps.length)
    (hbody : ∀ (A : Around) (outer : List Env) (s : Shared) (H : Hp) (vs : List V) (Q : VK) (E : XK), Room k (A.deeper (envOfC qual scope s.heap.objs.size f cdv)) → sp vs H Q E →
      ∃ t, PSs (cxOf CX P w K mg base N qual scope f cdv A outer s H E) body t ∧ t { nx := fun _ H' => Q .non H', rt := Q } (start N vs) H) :
    FnOk P w K mg base CX (k + 1) f (PySem.W.fnOf name qual params body scope dV kV doc pm an cdv ct) ps sp := by
  refine ⟨len, fun A outer s H args us vs Q E hr e0 hb r hsp => ?_⟩
  have hl := len _ _ _ _ hsp
  have KX : K.In s.heap := e0.mod.kin.keeps fun b o e => (e0.bs b o e).1
  have lim : s.heap.NoLimit := e0.mod.nolimit.keeps fun b o e => (e0.bs b o e).1
  have hkind : ∀ y ∈ ps.zip us, scope.names.lookup y.1 = some .local ∨ (scope.names.lookup y.1 = some .cell ∧ ((cellsFrom (s.heap.objs.size + 1) scope.names []).lookup y.1).isSome = true) := fun ⟨n, v⟩ hy => by
    rcases S.par n (List.of_mem_zip hy).1 with q | q
    · exact .inl q
    · exact .inr ⟨q, PySem.W.cellsFrom_some _ _ _ (.inl q)⟩
  refine codeAny_call_function hr.depth (KX _ _ lk) rfl S.co S.gen rfl (PySem.W.codeRec_of KX hcd) (hb _ _ _ _ ?_)
  refine wpAny_newFunctionEnv_cells S.kind hkind fun env he s1 x => ?_
  subst he
  refine ⟨lim.keeps x.toInCall.keep, codeAny_func ?_⟩
  obtain ⟨t, ht, hq⟩ := hbody A outer s H vs Q E (hr.deeper _) hsp
  have I : Inv (cxOf CX P w K mg base N qual scope f cdv A outer s H E) [] (start N vs) H s1 := inv_start S hr.hd e0 hl r x
  refine wpAny_mono (ht [] s1 (start N vs) H _ I hq) (fun fl s' hs => ?_) fun e s' hs => hs
  have fin : ∀ {σ' : St} {H' : Hp} {v : V} {u : Value}, Inv (cxOf CX P w K mg base N qual scope f cdv A outer s H E) [] σ' H' s' → RelV v u → Q v H' → CE outer P w H s Q u s' :=
    fun {σ' H' v u} J rv q => ⟨v, H', J.os, J.bare, J.base, J.hok, rv, q⟩
  cases fl with
  | ret u =>
    obtain ⟨v, σ', H', J, rv, q⟩ := hs
    exact fin J rv q
  | next =>
    obtain ⟨σ', H', J, q⟩ := hs
    exact fin (v := V.non) (u := Value.none) J rfl q
  | brk =>
    obtain ⟨_, _, _, q⟩ := hs
    exact False.elim q
  | cont =>
    obtain ⟨_, _, _, q⟩ := hs
    exact False.elim q
end L2

namespace L2
open PySem PySem.Spec PyProof.Rows
section
variable {X : Cx} {x : Str} {p pos : Pos} {e : Expr} {es : List Expr} {t : TA} {id T : String} {r : List V → Hp → VK → Prop}

def tCB (r : List V → Hp → VK → Prop) (t : TA) : TE := fun σ H Q => t σ H fun vs H1 => r vs H1 Q
/-- f(e, ..), f a built-in function -/
theorem pe_callB (hc : CallR X (.builtin id) r) (hg : Gl X x) (hm : X.mg x = none) (hv : bootBuiltins x = some (.builtin id)) (ha : PA X (e :: es) t) (hn : x ≠ "__name__" := by decide) (hdb : (x == ("__debug__" : Str)) = false := by decide)
    (he : starEach (e :: es) X.env = (false, eval e X.env) :: starEach es X.env := by rfl) (hpl : (backTo pos (starEach es X.env)).any (·.1) = false := by rfl) : PE X (.Call (.Name x p) (e :: es) [] pos) (tCB r t) := by
  intro pins s σ H Q I h
  refine wpAny_Call_Name_kw (ld_blt I hg hm hv ?_ hn hdb)
  exact PyProof.Rows.callWith_builtin1 (thn (ha pos pins s σ H _ I h) fun us s1 ⟨vs, H1, I1, r1, q1⟩ => hc pins s1 σ H1 vs us Q I1 r1 q1) he hpl
/-- T(e, ..), T a built-in type -/
theorem pe_callTy (hc : CallR X (.type T) r) (hg : Gl X x) (hm : X.mg x = none) (hv : bootBuiltins x = some (.type T)) (ha : PA X (e :: es) t) (hn : x ≠ "__name__" := by decide) (hdb : (x == ("__debug__" : Str)) = false := by decide)
    (he : starEach (e :: es) X.env = (false, eval e X.env) :: starEach es X.env := by rfl) (hpl : (backTo pos (starEach es X.env)).any (·.1) = false := by rfl) : PE X (.Call (.Name x p) (e :: es) [] pos) (tCB r t) := by
  intro pins s σ H Q I h
  refine wpAny_Call_Name_kw (ld_blt I hg hm hv ?_ hn hdb)
  exact PyProof.Rows.callWith_type1 (thn (ha pos pins s σ H _ I h) fun us s1 ⟨vs, H1, I1, r1, q1⟩ => hc pins s1 σ H1 vs us Q I1 r1 q1) he hpl
end
end L2

namespace HT
open PySem PyProof.Rows

/-- t < u of tuples of ints -/
def lexLt : List Int → List Int → Bool
  | [], [] => false
  | [], _ :: _ => true
  | _ :: _, [] => false
  | x :: xs, y :: ys => if x = y then lexLt xs ys else decide (x < y)
section
open PySem.SeqAt
open PySem.AutoSeq1 (wpAny_loadPart')
open PySem.MeetsSeq PySem.MeetsSeq2 PySem.MeetsSeq3

end

section
variable {prog : Program} {w : World} {A : Around} {E : Value → Shared → Prop} {s : Shared}

/-- a slice's bound as a place among n (d where it is left out) -/
def sIx (n d : Nat) : Option Int → Nat
  | none => d
  | some v => if v < 0 then (v + (n : Int)).toNat else min v.toNat n
end
end HT

namespace L2
open PySem PySem.Spec PyProof.Rows

abbrev TO := St → Hp → (Option Int → Hp → Prop) → Prop
/-- a slice's part (left out, or an int) -/
def PO (X : Cx) (e : Option Expr) (t : TO) : Prop :=
  ∀ (pins : List (Addr × Obj)) (s : Shared) (σ : St) (H : Hp) (Q : Option Int → Hp → Prop), Inv X pins σ H s → t σ H Q →
    wpAny (model X.prog X.w) X.A (evalPart e X.env) (fun u s' => ∃ o H', Inv X pins σ H' s' ∧ IsPart u o ∧ Q o H') X.xe s
def tNoPart : TO := fun _ H Q => Q none H
def tPart (t : TE) : TO := fun σ H Q => t σ H fun x H1 => ∃ i, x = .int i ∧ Q (some i) H1

section
variable {X : Cx} {e : Expr} {te : TE} {lo hi : Option Expr} {tl th : TO} {pos p2 : Pos}

theorem po_none : PO X none tNoPart := by
  intro pins s σ H Q I h
  rw [evalPart_none]
  exact wpAny_pure ⟨none, H, I, .none, h⟩
theorem po_some (h : PE X e te) : PO X (some e) (tPart te) := by
  intro pins s σ H Q I hw
  rw [evalPart_some]
  refine thn (h pins s σ H _ I hw) fun u s1 ⟨x, H1, I1, r1, q1⟩ => ?_
  obtain ⟨i, rfl, q⟩ := q1
  obtain ⟨t, rfl⟩ := r1
  exact ⟨some i, H1, I1, .int i t, q⟩

/-- what a slice of a value is, by values: the slice object stands at sl -/
def SlR (X : Cx) (r : V → Option Int → Option Int → Hp → VK → Prop) : Prop :=
  ∀ (pins : List (Addr × Obj)) (s : Shared) (σ : St) (H : Hp) (x : V) (v vl vu : Value) (lo hi : Option Int) (sl : Addr) (Q : VK), Inv X pins σ H s → RelV x v → s.heap.IsSliceOf sl vl vu .none → IsPart vl lo → IsPart vu hi → r x lo hi H Q →
    ∃ T id, typeLookup (.type T) "__getitem__" = pure (some (.builtin id)) ∧ s.TypeIs v T ∧ wpAny (model X.prog X.w) X.A (getItem v (.ref sl)) (EP X pins σ Q) X.xe s
theorem SlR.or {r r' : V → Option Int → Option Int → Hp → VK → Prop} (h : SlR X r) (h' : SlR X r') : SlR X (fun x lo hi H Q => r x lo hi H Q ∨ r' x lo hi H Q) := by
  intro pins s σ H x v vl vu lo hi sl Q I rx hs pl pu q
  rcases q with q | q
  · exact h pins s σ H x v vl vu lo hi sl Q I rx hs pl pu q
  · exact h' pins s σ H x v vl vu lo hi sl Q I rx hs pl pu q
def tSl (r : V → Option Int → Option Int → Hp → VK → Prop) (te : TE) (tl th : TO) : TE := fun σ H Q => te σ H fun x H1 => tl σ H1 fun l H2 => th σ H2 fun u H3 => r x l u H3 Q
/-- a[lo:hi], any a -/
theorem pe_slice {r : V → Option Int → Option Int → Hp → VK → Prop} (hr : SlR X r) (he : PE X e te) (hl : PO X lo tl) (hu : PO X hi th) : PE X (.Subscript e (.Slice lo hi none p2) pos) (tSl r te tl th) := by
  intro pins s σ H Q I h
  refine Subscript_ (thn (he pins s σ H _ I h) fun v s1 ⟨x, H1, I1, r1, q1⟩ => ?_)
  refine wpAny_Slice (thn (hl pins s1 σ H1 _ I1 q1) fun vl s2 ⟨l, H2, I2, pl, q2⟩ => thn (hu pins s2 σ H2 _ I2 q2) fun vu s3 ⟨u, H3, I3, pu, q3⟩ => ?_)
  rw [evalPart_none]
  refine wpAny_pure ?_
  have I4 : Inv X pins σ H3 { s3 with heap := s3.heap.push { cls := .type "slice", data := .fields #[vl, vu, .none] } } := I3.kept (t' := s3.toks) fun b ob q => Heap.get?_push_of_some _ q
  obtain ⟨T, id, hT, ht, hg⟩ := hr pins { s3 with heap := s3.heap.push { cls := .type "slice", data := .fields #[vl, vu, .none] } } σ H3 x v vl vu l u s3.heap.objs.size Q I4 r1 (Heap.IsSliceOf.new ..) pl pu q3
  show wpAny (model X.prog X.w) X.A (subscriptTail e (.Slice lo hi none p2) v (.ref s3.heap.objs.size)) (EP X pins σ Q) X.xe { s3 with heap := s3.heap.push { cls := .type "slice", data := .fields #[vl, vu, .none] } }
  exact tail_any (ops := [.ref s3.heap.objs.size, v]) ht hT hg (by with_unfolding_all rfl)

/-- the items of xs[lo:hi] -/
def cutV (xs : List V) (lo hi : Option Int) : List V := (xs.drop (HT.sIx xs.length 0 lo)).take (HT.sIx xs.length xs.length hi - HT.sIx xs.length 0 lo)
theorem cutV_length (xs : List V) (lo hi : Option Int) : (cutV xs lo hi).length ≤ xs.length := by
  unfold cutV
  rw [List.length_take, List.length_drop]
  omega
/-- t[lo:hi], not the whole of it (the whole would be t itself) -/
def rSlT (K : PySem.W.Frag) : V → Option Int → Option Int → Hp → VK → Prop := fun x lo hi H Q => ∃ a xs, x = .ref a ∧ SqT K H a xs ∧
  ¬ (HT.sIx xs.length 0 lo = 0 ∧ HT.sIx xs.length xs.length hi = xs.length) ∧ ∀ p, H p = none → Q (.ref p) (upd H p (.tup (cutV xs lo hi)))
def rLtT (K : PySem.W.Frag) : R2 := fun x y H Q => ∃ a b ns ms, x = .ref a ∧ y = .ref b ∧ SqT K H a (ns.map V.int) ∧ SqT K H b (ms.map V.int) ∧ Q (.bl (HT.lexLt ns ms)) H
/-- t + u, t not empty: u empty gives t itself -/
def rCatT (K : PySem.W.Frag) : R2 := fun x y H Q => ∃ a b xs ys, x = .ref a ∧ y = .ref b ∧ SqT K H a xs ∧ SqT K H b ys ∧ xs ≠ [] ∧ xs.length + ys.length ≤ sizeLine ∧
  (ys = [] → Q (.ref a) H) ∧ (ys ≠ [] → ∀ p, H p = none → Q (.ref p) (upd H p (.tup (xs ++ ys))))
end
end L2

namespace L2
open PySem PySem.Spec PyProof.Rows

/-- the place that an index of any sign means -/
def ixN (n : Nat) (i : Int) : Option Nat := if 0 ≤ i then (if i < n then some i.toNat else none) else if -(n : Int) ≤ i then some (i + n).toNat else none
def atI {α : Type} (xs : List α) (i : Int) : Option α := (ixN xs.length i).bind fun j => xs[j]?
theorem ixN_seq {n : Nat} {i : Int} {j : Nat} (h : ixN n i = some j) : seqIndex? i n = some j ∧ j < n ∧ -(n : Int) ≤ i ∧ i < n := by
  unfold ixN at h
  by_cases h0 : 0 ≤ i
  · rw [if_pos h0] at h
    by_cases h1 : i < n
    · rw [if_pos h1] at h
      have e : i.toNat = j := Option.some.inj h
      exact ⟨by rw [seqIndex_of h0 h1, e], by omega, by omega, h1⟩
    · rw [if_neg h1] at h; cases h
  · rw [if_neg h0] at h
    by_cases h1 : -(n : Int) ≤ i
    · rw [if_pos h1] at h
      have e : (i + n).toNat = j := Option.some.inj h
      exact ⟨by rw [seqIndex_neg (by omega) h1, e], by omega, h1, by omega⟩
    · rw [if_neg h1] at h; cases h
theorem atI_get {α : Type} {xs : List α} {i : Int} {v : α} (h : atI xs i = some v) : ∃ j, seqIndex? i xs.length = some j ∧ xs[j]? = some v ∧ j < xs.length ∧ -(xs.length : Int) ≤ i ∧ i < xs.length := by
  unfold atI at h
  cases e : ixN xs.length i with
  | none => rw [e] at h; cases h
  | some j =>
    rw [e] at h
    obtain ⟨h1, h2, h3, h4⟩ := ixN_seq e
    exact ⟨j, h1, h, h2, h3, h4⟩
theorem atI_nat {α : Type} {xs : List α} {j : Nat} {v : α} (h : xs[j]? = some v) : atI xs (j : Int) = some v := by
  have hj : j < xs.length := (List.getElem?_eq_some_iff.mp h).1
  have e : ixN xs.length (j : Int) = some j := by
    unfold ixN
    rw [if_pos (by omega), if_pos (by omega)]; simp
  unfold atI; rw [e]; exact h
/-- what stands as an index of a plain subscript -/
def PlainIx (b : Expr) : Prop := ∀ o i, subscripted b false o i = operate [o, i] (getItem o i)
/-- a subscript by values -/
def IxR (X : Cx) (r : R2) : Prop :=
  ∀ (value slice : Expr) (pins : List (Addr × Obj)) (s : Shared) (σ : St) (H : Hp) (x y : V) (v u : Value) (Q : VK), Inv X pins σ H s → RelV x v → RelV y u → r x y H Q →
    subscripted slice false v u = operate [v, u] (getItem v u) → wpAny (model X.prog X.w) X.A (subscriptTail value slice v u) (EP X pins σ Q) X.xe s
/-- a call of a builtin's method by values: the receiver, the arguments -/
def MtR (X : Cx) (id : String) (r : V → List V → Hp → VK → Prop) : Prop :=
  ∀ (pins : List (Addr × Obj)) (s : Shared) (σ : St) (H : Hp) (x : V) (xs : List V) (v : Value) (us : List Value) (Q : VK), Inv X pins σ H s → RelV x v → Vals xs us → r x xs H Q →
    wpAny (model X.prog X.w) X.A (call (.builtin id) (v :: us)) (EP X pins σ Q) X.xe s
section
variable {X : Cx} {a b : Expr} {ta tb : TE} {pos : Pos}
theorem IxR.or {r r' : R2} (h : IxR X r) (h' : IxR X r') : IxR X (fun x y H Q => r x y H Q ∨ r' x y H Q) := by
  intro value slice pins s σ H x y v u Q I rx ry q hs
  rcases q with q | q
  · exact h value slice pins s σ H x y v u Q I rx ry q hs
  · exact h' value slice pins s σ H x y v u Q I rx ry q hs
theorem MtR.or {id : String} {r r' : V → List V → Hp → VK → Prop} (h : MtR X id r) (h' : MtR X id r') : MtR X id (fun x xs H Q => r x xs H Q ∨ r' x xs H Q) := by
  intro pins s σ H x xs v us Q I rx rs q
  rcases q with q | q
  · exact h pins s σ H x xs v us Q I rx rs q
  · exact h' pins s σ H x xs v us Q I rx rs q
/-- a[b] -/
theorem pe_ix {r : R2} (hr : IxR X r) (ha : PE X a ta) (hb : PE X b tb) (hs : PlainIx b) : PE X (.Subscript a b pos) (tOp r ta tb) := by
  intro pins s σ H Q I h
  exact Subscript_ (binT ha hb I h fun v u s2 x y H2 I2 rx ry q => hr a b pins s2 σ H2 x y v u Q I2 rx ry q (hs _ _))

def rIxL (K : PySem.W.Frag) : R2 := fun x y H Q => ∃ p xs i v, x = .ref p ∧ y = .int i ∧ SqL K H p xs ∧ atI xs i = some v ∧ Q v H
def rIxT (K : PySem.W.Frag) : R2 := fun x y H Q => ∃ p xs i v, x = .ref p ∧ y = .int i ∧ SqT K H p xs ∧ atI xs i = some v ∧ Q v H
def rIxS : R2 := fun x y H Q => ∃ z i c, x = .str z ∧ y = .int i ∧ z.length ≤ sizeLine ∧ atI z.cps.toList i = some c ∧ Q (.str ⟨#[c]⟩) H
theorem ix_list : IxR X (rIxL X.K) := by
  intro value slice pins s σ H x y v u Q I rx ry h hs
  obtain ⟨p, xs, i, z, rfl, rfl, hq, he, q⟩ := h
  cases rx
  obtain ⟨t, rfl⟩ := ry
  obtain ⟨its, r, pl, hz⟩ := I.list hq
  obtain ⟨j, h1, h2, h3, h4, h5⟩ := atI_get he
  obtain ⟨w, ew, rw'⟩ := r.get h2
  have hl := r.length
  have hn := line63
  have fin : EP X pins σ Q w s := ⟨z, H, I, rw', q⟩
  by_cases h0 : 0 ≤ i
  · have hj : i.toNat = j := by
      rw [seqIndex_of h0 h5] at h1
      exact Option.some.inj h1
    exact item_listR pl.isList h0 (by omega) (by rw [hj]; simpa using ew) fin hs
  · have hj : (i + (its.toArray.size : Int)).toNat = j := by
      rw [seqIndex_neg (by omega) h4] at h1
      rw [List.size_toArray, ← hl]
      exact Option.some.inj h1
    exact subscriptTail_builtinR (x := w) pl.isList.typeIs slot_list_getitem.lookup
      (wpAny_getItem_list_neg (Q := fun r s' => r = w ∧ EP X pins σ Q r s') pl.isList (by omega) (by rw [List.size_toArray] <;> omega) (by omega) (by rw [hj]; simpa using ew) ⟨rfl, fin⟩) hs
theorem ix_tup : IxR X (rIxT X.K) := by
  intro value slice pins s σ H x y v u Q I rx ry h hs
  obtain ⟨p, xs, i, z, rfl, rfl, hq, he, q⟩ := h
  cases rx
  obtain ⟨t, rfl⟩ := ry
  obtain ⟨its, r, pl, hz⟩ := I.tuple hq
  obtain ⟨j, h1, h2, h3, h4, h5⟩ := atI_get he
  obtain ⟨w, ew, rw'⟩ := r.get h2
  have hl := r.length
  have hn := line63
  have fin : EP X pins σ Q w s := ⟨z, H, I, rw', q⟩
  exact subscriptTail_builtinR (x := w) pl.typeIs slot_tuple_getitem.lookup
    (getItem_tuple (j := j) (Q := fun r s' => r = w ∧ EP X pins σ Q r s') pl (by omega) (by omega) (by rw [List.size_toArray, ← hl]; exact h1) (by simpa using ew) ⟨rfl, fin⟩) hs
/-- list, tuple or str -/
def rIx (K : PySem.W.Frag) : R2 := fun x y H Q => rIxL K x y H Q ∨ rIxT K x y H Q ∨ rIxS x y H Q
theorem Inv.lst {pins : List (Addr × Obj)} {σ : St} {H : Hp} {s : Shared} {p : Addr} {xs : List V} (I : Inv X pins σ H s) (h : H p = some (.lst xs)) :
    ∃ (its : List Value) (n : Nat), Vals xs its ∧ s.heap.get? p = some { cls := .type "list", data := .seq its.toArray n } ∧ xs.length ≤ sizeLine := by
  obtain ⟨z, its, n, r, e⟩ := I.hok p _ h
  exact ⟨its, n, r, e, z⟩
def rSetL : V → V → V → Hp → (Hp → Prop) → Prop := fun o i v H Q => ∃ p xs k j, o = .ref p ∧ i = .int k ∧ H p = some (.lst xs) ∧ ixN xs.length k = some j ∧ Q (upd H p (.lst (xs.set j v)))
theorem slice_bounds (lo hi : Option Int) (n : Nat) : (sliceBounds lo hi none n).1 = ((HT.sIx n 0 lo : Nat) : Int) ∧ (sliceBounds lo hi none n).2.1 = ((HT.sIx n n hi : Nat) : Int) ∧ (sliceBounds lo hi none n).2.2 = 1 := by
  refine ⟨?_, ?_, rfl⟩
  · cases lo with
    | none => simp [sliceBounds, HT.sIx]
    | some i =>
      simp only [sliceBounds, HT.sIx, Option.getD_none, show (1 : Int) > 0 by decide, if_true]
      by_cases h : i < 0
      · simp only [h, if_true] <;> omega
      · simp only [h, if_false] <;> omega
  · cases hi with
    | none => simp [sliceBounds, HT.sIx]
    | some i =>
      simp only [sliceBounds, HT.sIx, Option.getD_none, show (1 : Int) > 0 by decide, if_true]
      by_cases h : i < 0
      · simp only [h, if_true] <;> omega
      · simp only [h, if_false] <;> omega
theorem slicePick_cut (its : List Value) (lo hi : Option Int) : slicePick its.toArray lo hi none = ((its.drop (HT.sIx its.length 0 lo)).take (HT.sIx its.length its.length hi - HT.sIx its.length 0 lo)).toArray := by
  obtain ⟨h1, h2, h3⟩ := slice_bounds lo hi its.toArray.size
  unfold slicePick
  rw [h1, h2, h3]
  simp only [sliceRange_one, pick_run, List.size_toArray] <;> rfl
/-- xs[lo:hi] of a list: a new list -/
def rSlL (K : PySem.W.Frag) : V → Option Int → Option Int → Hp → VK → Prop := fun x lo hi H Q => ∃ a xs, x = .ref a ∧ SqL K H a xs ∧ ∀ p, H p = none → Q (.ref p) (upd H p (.lst (cutV xs lo hi)))
theorem sl_list : SlR X (rSlL X.K) := by
  intro pins s σ H x v vl vu lo hi sl Q I rx hs pl pu h
  obtain ⟨a, xs, rfl, hx, q⟩ := h
  cases rx
  obtain ⟨its, r, ht, hz⟩ := I.list hx
  have hlen := r.length
  refine ⟨"list", _, slot_list_getitem.lookup, ht.isList.typeIs, ?_⟩
  refine wpAny_getItem_list_slice ht.isList hs pl pu .none (by simp) ?_ (by rw [List.size_toArray] <;> omega)
  rw [slicePick_cut, ← hlen]
  refine ⟨.ref s.heap.objs.size, _, I.laid (t' := s.toks) (o := .lst (cutV xs lo hi)) (fun b ob q => Heap.get?_push_of_some _ q) (Nat.le_refl _) ?_, rfl, q _ (I.hok.fresh (Nat.le_refl _))⟩
  exact ⟨Nat.le_trans (cutV_length xs lo hi) hz, _, 0, (r.drop (HT.sIx xs.length 0 lo)).take (HT.sIx xs.length xs.length hi - HT.sIx xs.length 0 lo), Heap.get?_push_size _ rfl⟩

def flatV : V → Bool
  | .non => true
  | .bl _ => true
  | .int _ => true
  | .str _ => true
  | _ => false
/-- == of flat values -/
def eqV : V → V → Bool
  | .non, .non => true
  | .bl a, .bl b => a == b
  | .bl a, .int b => (if a then 1 else 0) == b
  | .int a, .bl b => a == (if b then 1 else 0)
  | .int a, .int b => a == b
  | .str a, .str b => a == b
  | _, _ => false
theorem eqAt_V {A : Around} {s : Shared} {y x : V} {u v : Value} (ry : RelV y u) (rx : RelV x v) (fy : flatV y = true) (fx : flatV x = true) : SeqAt.EqAt A s u v (eqV y x) := by
  cases y with
  | non =>
    cases ry
    cases x with
    | non => cases rx; exact SeqAt.EqAt.same _
    | bl b => cases rx; exact SeqAt.EqAt.none_bool b
    | int b => obtain ⟨t, rfl⟩ := rx; exact SeqAt.EqAt.none_int b t
    | str b => obtain ⟨t, rfl⟩ := rx; exact SeqAt.EqAt.none_str b t
    | _ => exact absurd (show false = true from fx) Bool.false_ne_true
  | bl a =>
    cases ry
    cases x with
    | non => cases rx; exact SeqAt.EqAt.bool_none a
    | bl b => cases rx; exact SeqAt.EqAt.bool_bool a b
    | int b => obtain ⟨t, rfl⟩ := rx; exact SeqAt.EqAt.bool_int a b t
    | str b => obtain ⟨t, rfl⟩ := rx; exact SeqAt.EqAt.bool_str a b t
    | _ => exact absurd (show false = true from fx) Bool.false_ne_true
  | int a =>
    obtain ⟨t', rfl⟩ := ry
    cases x with
    | non => cases rx; exact SeqAt.EqAt.int_none a t'
    | bl b => cases rx; exact SeqAt.EqAt.int_bool a t' b
    | int b => obtain ⟨t, rfl⟩ := rx; exact SeqAt.EqAt.int_int a t' b t
    | str b => obtain ⟨t, rfl⟩ := rx; exact SeqAt.EqAt.int_str a t' b t
    | _ => exact absurd (show false = true from fx) Bool.false_ne_true
  | str a =>
    obtain ⟨t', rfl⟩ := ry
    cases x with
    | non => cases rx; exact SeqAt.EqAt.str_none a t'
    | bl b => cases rx; exact SeqAt.EqAt.str_bool a t' b
    | int b => obtain ⟨t, rfl⟩ := rx; exact SeqAt.EqAt.str_int a t' b t
    | str b => obtain ⟨t, rfl⟩ := rx; exact SeqAt.EqAt.str_str a t' b t
    | _ => exact absurd (show false = true from fx) Bool.false_ne_true
  | _ => exact absurd (show false = true from fy) Bool.false_ne_true
/-- the items' answers, read off the values (a value's own answer does not lean on its token) -/
def eqU (x : V) (u : Value) : Bool := match u with
  | .none => eqV .non x
  | .bool b => eqV (.bl b) x
  | .int i _ => eqV (.int i) x
  | .str z _ => eqV (.str z) x
  | _ => false
theorem eqU_of {x y : V} {u : Value} (r : RelV y u) (f : flatV y = true) : eqU x u = eqV y x := by
  cases y with
  | non => cases r; rfl
  | bl b => cases r; rfl
  | int i => obtain ⟨t, rfl⟩ := r; rfl
  | str z => obtain ⟨t, rfl⟩ := r; rfl
  | _ => exact absurd (show false = true from f) Bool.false_ne_true
theorem any_eqU {x : V} : ∀ {xs : List V} {us : List Value}, Vals xs us → xs.all flatV = true → us.any (eqU x) = xs.any fun y => eqV y x
  | _, _, .nil, _ => rfl
  | y :: xs, u :: us, .cons r t, f => by
    rw [List.all_cons, Bool.and_eq_true] at f
    rw [List.any_cons, List.any_cons, eqU_of r f.1, any_eqU t f.2]
theorem mem_eqAt {A : Around} {s : Shared} {x : V} {v : Value} (rx : RelV x v) (fx : flatV x = true) : ∀ {xs : List V} {us : List Value}, Vals xs us → xs.all flatV = true → ∀ u ∈ us, SeqAt.EqAt A s u v (eqU x u)
  | _, _, .nil, _ => fun u hu => by cases hu
  | y :: xs, u :: us, .cons r t, f => fun u' hu => by
    rw [List.all_cons, Bool.and_eq_true] at f
    rcases List.mem_cons.mp hu with rfl | hu
    · rw [eqU_of r f.1]; exact eqAt_V r rx f.1 fx
    · exact mem_eqAt rx fx t f.2 u' hu
def inV (x : V) (xs : List V) : Bool := xs.any fun y => eqV y x
/-- x in a list or tuple of flat items -/
def rIn (K : PySem.W.Frag) (neg : Bool) : R2 := fun x y H Q => ∃ p xs, y = .ref p ∧ (SqL K H p xs ∨ SqT K H p xs) ∧ flatV x = true ∧ xs.all flatV = true ∧ Q (.bl (if neg then !inV x xs else inV x xs)) H
theorem op_in_seq : OpR X (compareOp .In) (rIn X.K false) := by
  intro pins s σ H x y v u Q I rx ry h
  obtain ⟨p, xs, rfl, hq, fx, fs, q⟩ := h
  cases ry
  rcases hq with hq | hq
  · obtain ⟨its, r, pl, hz⟩ := I.list hq
    refine SeqAt.in_listAt (eqU x) pl.isList (fun w hw => mem_eqAt rx fx r fs w (by simpa using hw)) ⟨.bl _, H, I, rfl, ?_⟩
    rw [show its.toArray.any (eqU x) = its.any (eqU x) by simp, any_eqU r fs]
    exact q
  · obtain ⟨its, r, pl, hz⟩ := I.tuple hq
    refine SeqAt.in_tupleAt (eqU x) pl (fun w hw => mem_eqAt rx fx r fs w (by simpa using hw)) ⟨.bl _, H, I, rfl, ?_⟩
    rw [show its.toArray.any (eqU x) = its.any (eqU x) by simp, any_eqU r fs]
    exact q
theorem call_len_seq : CallR X (.builtin "len") (fun xs H Q => ∃ p ys, xs = [.ref p] ∧ (SqL X.K H p ys ∨ SqT X.K H p ys) ∧ Q (.int ys.length) H) := by
  intro pins s σ H xs us Q I r h
  obtain ⟨p, ys, rfl, hq, q⟩ := h
  obtain ⟨u, rfl, rx⟩ := vals1 r
  cases rx
  have hn := line63
  rcases hq with hq | hq
  · obtain ⟨its, r', pl, hz⟩ := I.list hq
    have hlen := r'.length
    exact Calls.call_len_list pl.isList (by simp only [List.size_toArray] <;> omega) ⟨.int ys.length, H, I.tok _, ⟨s.toks + 1, by rw [List.size_toArray, hlen]⟩, q⟩
  · obtain ⟨its, r', pl, hz⟩ := I.tuple hq
    have hlen := r'.length
    exact len_tuple pl (by simp only [List.size_toArray] <;> omega) ⟨.int ys.length, H, I.tok _, ⟨s.toks + 1, by rw [List.size_toArray, hlen]⟩, q⟩
theorem CallR.or {f : Value} {r r' : List V → Hp → VK → Prop} (h : CallR X f r) (h' : CallR X f r') : CallR X f (fun xs H Q => r xs H Q ∨ r' xs H Q) := by
  intro pins s σ H xs us Q I rs q
  rcases q with q | q
  · exact h pins s σ H xs us Q I rs q
  · exact h' pins s σ H xs us Q I rs q
theorem call_list_of : CallR X (.type "list") (fun xs H Q => ∃ p ys, xs = [.ref p] ∧ (SqL X.K H p ys ∨ SqT X.K H p ys) ∧ ∀ l, H l = none → Q (.ref l) (upd H l (.lst ys))) := by
  intro pins s σ H xs us Q I r h
  obtain ⟨p, ys, rfl, hq, q⟩ := h
  obtain ⟨u, rfl, rx⟩ := vals1 r
  cases rx
  have fin : ∀ (its : List Value), Vals ys its → ys.length ≤ sizeLine → ∀ (h' : Heap) (c' : Nat), (∀ b o', s.heap.get? b = some o' → h'.get? b = some o') →
      h'.get? s.heap.objs.size = some { cls := .type "list", dict := none, data := .seq its.toArray c', slots := #[] } → EP X pins σ Q (.ref s.heap.objs.size) { s with heap := h' } := fun its r' hz h' c' kp e =>
    ⟨.ref s.heap.objs.size, _, I.laid (t' := s.toks) kp (Nat.le_refl _) (show ObjOk X.prog X.w _ h' _ (.lst ys) from ⟨hz, its, c', r', e⟩), rfl, q _ (I.hok.fresh (Nat.le_refl _))⟩
  rcases hq with hq | hq
  · obtain ⟨its, r', pl, hz⟩ := I.list hq
    have hlen := r'.length
    obtain ⟨o, ho, hc, n, hd⟩ := pl.isList
    exact call_list_seq p (.inl rfl) ho hc hd (fun h' c' kp e => fin its r' hz h' c' kp e) (by simp only [List.size_toArray] <;> omega)
  · obtain ⟨its, r', pl, hz⟩ := I.tuple hq
    have hlen := r'.length
    obtain ⟨o, ho, hc, n, hd⟩ := pl
    exact call_list_seq p (.inr rfl) ho hc hd (fun h' c' kp e => fin its r' hz h' c' kp e) (by simp only [List.size_toArray] <;> omega)
/-- the value is of that builtin type -/
def tyV (K : PySem.W.Frag) (T : String) (x : V) (H : Hp) : Prop := match x with
  | .str _ => T = "str"
  | .int _ => T = "int"
  | .ref p => (T = "list" ∧ ∃ xs, SqL K H p xs) ∨ (T = "tuple" ∧ ∃ o, K.lookup p = some o ∧ o.cls = .type "tuple" ∧ o.dict = none) ∨
      (T = "dict" ∧ ((∃ kvs, H p = some (.dK kvs)) ∨ ∃ kvs, H p = some (.dT kvs))) ∨ (T = "set" ∧ ∃ S n, H p = some (.set S n))
  | _ => False
theorem tyV_is {pins : List (Addr × Obj)} {σ : St} {H : Hp} {s : Shared} {T : String} {x : V} {v : Value} (I : Inv X pins σ H s) (r : RelV x v) (ty : tyV X.K T x H) :
    s.TypeIs v T ∧ ∀ a, v = .ref a → ∃ ob, s.heap.get? a = some ob ∧ ob.dict = none := by
  cases x with
  | str z =>
    obtain ⟨t, rfl⟩ := r
    cases (show T = "str" from ty)
    exact ⟨typeIs_str s z t, fun _ e => nomatch e⟩
  | int i =>
    obtain ⟨t, rfl⟩ := r
    cases (show T = "int" from ty)
    exact ⟨typeIs_int s i t, fun _ e => nomatch e⟩
  | ref p =>
    cases r
    rcases ty with ⟨rfl, xs, hq⟩ | ⟨rfl, o, hk, hc, hd⟩ | ⟨rfl, hk⟩ | ⟨rfl, S, n, hk⟩
    · obtain ⟨its, _, pl, _⟩ := I.list hq
      refine ⟨pl.isList.typeIs, fun a e => ?_⟩
      cases e
      obtain ⟨o, n, e, c, hd, _⟩ := pl
      exact ⟨o, e, hd⟩
    · refine ⟨⟨o, I.kIn p o hk, hc⟩, fun a e => ?_⟩
      cases e
      exact ⟨o, I.kIn _ o hk, hd⟩
    · have z : ∃ o, s.heap.get? p = some o ∧ o.ExactDict := by
        rcases hk with ⟨kvs, hk⟩ | ⟨kvs, hk⟩
        · obtain ⟨_, _, _, _, o, _, _, e, ex, _⟩ := I.hok p _ hk
          exact ⟨o, e, ex⟩
        · obtain ⟨_, _, _, _, o, _, _, e, ex, _⟩ := I.hok p _ hk
          exact ⟨o, e, ex⟩
      obtain ⟨o, e, ex⟩ := z
      refine ⟨⟨o, e, ex.1⟩, fun a e2 => ?_⟩
      cases e2
      exact ⟨o, e, ex.2.1⟩
    · obtain ⟨o, _, _, _, e, ex, _⟩ := I.hok p _ hk
      refine ⟨⟨o, e, ex.1⟩, fun a e2 => ?_⟩
      cases e2
      exact ⟨o, e, ex.2.1⟩
  | _ => exact False.elim ty
def tBM0 (K : PySem.W.Frag) (T : String) (r : V → List V → Hp → VK → Prop) (to : TE) : TE := fun σ H Q => to σ H fun x H1 => tyV K T x H1 ∧ r x [] H1 Q
def tBM (K : PySem.W.Frag) (T : String) (r : V → List V → Hp → VK → Prop) (to : TE) (t : TA) : TE := fun σ H Q => to σ H fun x H1 => tyV K T x H1 ∧ t σ H1 fun xs H2 => r x xs H2 Q
variable {o e : Expr} {es : List Expr} {to : TE} {t : TA} {name : Str} {apos cpos : Pos} {T id : String} {r : V → List V → Hp → VK → Prop}
theorem pe_bm0 (pa : PlainAttrs T) (slot : Slot T name id) (hty : typeOf (.builtin id) = pure (.type "method_descriptor")) (hm : MtR X id r) (ho : PE X o to)
    (hbase : attributeBase o name X.env (eval o X.env) = eval o X.env := by rfl) (hline : (apos.endLine == cpos.line) = true := by rfl) : PE X (.Call (.Attribute o name apos) [] [] cpos) (tBM0 X.K T r to) := by
  intro pins s σ H Q I h
  refine wpAny_Call_method0_late hbase hline (thn (ho pins s σ H _ I h) fun v s1 ⟨x, H1, I1, r1, ty, q1⟩ => ?_)
  obtain ⟨h1, h2⟩ := tyV_is I1 r1 ty
  exact ⟨T, id, pa, slot, hty, h1, h2, Calls.callWith_builtin rfl (PySem.evalArgs_none (hm pins s1 σ H1 x [] v [] Q I1 r1 .nil q1))⟩
theorem pe_bm (pa : PlainAttrs T) (slot : Slot T name id) (hty : typeOf (.builtin id) = pure (.type "method_descriptor")) (hm : MtR X id r) (ho : PE X o to) (ha : PA X (e :: es) t)
    (hbase : attributeBase o name X.env (eval o X.env) = eval o X.env := by rfl)
    (hfew : ((backTo cpos (starEach (e :: es) X.env)).all (fun x => !x.1) && (backToKw cpos (keywordEach [] X.env)).all (fun x => x.1.isSome)
      && decide ((e :: es).length + ([] : List Keyword).length + (if ([] : List Keyword).isEmpty then 0 else 1) < 30)) = true := by rfl)
    (hline : (apos.endLine == cpos.line) = true := by rfl) (hs : starEach (e :: es) X.env = (false, eval e X.env) :: starEach es X.env := by rfl) (hplain : (backTo cpos (starEach es X.env)).any (·.1) = false := by rfl) :
    PE X (.Call (.Attribute o name apos) (e :: es) [] cpos) (tBM X.K T r to t) := by
  intro pins s σ H Q I h
  refine wpAny_Call_method_late hbase hfew hline rfl (thn (ho pins s σ H _ I h) fun v s1 ⟨x, H1, I1, r1, ty, q1⟩ => ?_)
  obtain ⟨h1, h2⟩ := tyV_is I1 r1 ty
  refine ⟨T, id, pa, slot, hty, h1, h2, ?_⟩
  have hA := ha cpos pins s1 σ H1 _ I1 q1
  rw [hs] at hA ⊢
  refine Calls.callWith_builtin (by show (false || (backTo cpos (starEach es X.env)).any (·.1)) = false; rw [hplain] <;> rfl) (Calls.evalArgs_plain ?_)
  exact thn hA fun us s2 ⟨vs, H2, I2, r2, q2⟩ => hm pins s2 σ H2 x vs v us Q I2 r1 r2 q2
end
end L2

namespace L2
open PySem PySem.Spec PyProof.Rows

def MtM (X : Cx) (id : String) (r : V → List V → Hp → VK → Prop) : Prop :=
  ∀ (pins : List (Addr × Obj)) (s : Shared) (σ : St) (H : Hp) (x : V) (xs : List V) (v : Value) (us : List Value) (Q : VK), Inv X pins σ H s → RelV x v → Vals xs us → r x xs H Q →
    wpAny (model X.prog X.w) X.A (call (.builtin id) (v :: us)) (EP X pins σ Q) X.xe s

theorem Vals.one : ∀ {x : V} {us : List Value}, Vals [x] us → ∃ u, us = [u] ∧ RelV x u
  | _, _, .cons r .nil => ⟨_, rfl, r⟩
theorem Vals.two : ∀ {x y : V} {us : List Value}, Vals [x, y] us → ∃ u v, us = [u, v] ∧ RelV x u ∧ RelV y v
  | _, _, _, .cons r (.cons q .nil) => ⟨_, _, rfl, r, q⟩
theorem Vals.zero : ∀ {us : List Value}, Vals [] us → us = []
  | _, .nil => rfl
theorem Vals.dropLast {xs : List V} {us : List Value} (h : Vals xs us) : Vals xs.dropLast us.dropLast := by
  induction h with
  | nil => exact .nil
  | cons r t ih =>
    cases t with
    | nil => exact .nil
    | cons q t' => exact .cons r ih
theorem Vals.eraseIdx : ∀ {xs : List V} {us : List Value} (i : Nat), Vals xs us → Vals (xs.eraseIdx i) (us.eraseIdx i)
  | _, _, _, .nil => .nil
  | _, _, 0, .cons _ t => t
  | _, _, i + 1, .cons r t => .cons r (Vals.eraseIdx i t)
theorem Vals.reverse {xs : List V} {us : List Value} (h : Vals xs us) : Vals xs.reverse us.reverse := by
  induction h with
  | nil => exact .nil
  | cons r t ih => rw [List.reverse_cons, List.reverse_cons]; exact Vals.append ih (.cons r .nil)
section
variable {X : Cx} {pins : List (Addr × Obj)} {σ : St} {H : Hp} {s : Shared} {l b : Addr} {xs ys zs : List V}

theorem Inv.lset {its its' : List Value} {n : Nat} {f : Array Value → Array Value} {t' : Nat} (I : Inv X pins σ H s) (hH : H l = some (.lst xs))
    (e : s.heap.get? l = some { cls := .type "list", data := .seq its.toArray n }) (hf : f its.toArray = its'.toArray) (hv : Vals ys its') (hz : ys.length ≤ sizeLine) :
    Inv X pins σ (upd H l (.lst ys)) { s with heap := s.heap.update l (Obj.mapSeq f), toks := t' } := by
  have q := PySem.IsL.update e f
  rw [hf] at q
  refine I.write (x := l) (e := l) (by rw [hH]; exact trivial) (.inl rfl) (fun b' u hb hu => (Heap.get?_update_other s.heap (Obj.mapSeq f) (Ne.symm hb)).trans hu) ⟨_, q⟩ ?_
  exact ⟨hz, its', _, hv, q⟩
theorem Inv.lnew {its : List Value} {t' : Nat} (I : Inv X pins σ H s) (hv : Vals ys its) (hz : ys.length ≤ sizeLine) :
    Inv X pins σ (upd H s.heap.objs.size (.lst ys)) { s with heap := s.heap.push { cls := .type "list", data := .seq its.toArray }, toks := t' } :=
  I.laid (fun _ _ q => Heap.get?_push_of_some _ q) (Nat.le_refl _) ⟨hz, its, 0, hv, Heap.get?_push_size _ rfl⟩
theorem Inv.fresh (I : Inv X pins σ H s) : H s.heap.objs.size = none := I.hok.fresh (Nat.le_refl _)
theorem Inv.lstM (I : Inv X pins σ H s) (hH : H l = some (.lst xs)) : xs.length ≤ sizeLine ∧ ∃ (its : List Value) (n : Nat), Vals xs its ∧ xs.length = its.length ∧ s.heap.get? l = some { cls := .type "list", data := .seq its.toArray n } := by
  obtain ⟨z, its, n, r, e⟩ := I.hok l _ hH
  exact ⟨z, its, n, r, r.length, e⟩

end

section
variable {X : Cx}

def rAppend : V → List V → Hp → VK → Prop := fun x vs H Q => ∃ l xs y, x = .ref l ∧ vs = [y] ∧ H l = some (.lst xs) ∧ xs.length < sizeLine ∧ Q .non (upd H l (.lst (xs ++ [y])))
theorem mt_append : MtM X "list.append" rAppend := by
  intro pins s σ H x vs v us Q I rx rv h
  obtain ⟨l, xs, y, rfl, rfl, hH, hz, q⟩ := h
  cases rx
  obtain ⟨u, rfl, ru⟩ := rv.one
  obtain ⟨z, its, n, r, hl, e⟩ := I.lstM hH
  refine call_meets F.slot_list_append ⟨_, e, rfl⟩ F.entry_list_append (F.args_list_append_2 _ _) (PySem.list_append l its.toArray n u (by rw [List.size_toArray]; omega)) ⟨e, ?_⟩
  refine ⟨.non, _, I.lset (its' := its ++ [u]) hH e (by simp) (r.append (.cons ru .nil)) ?_, rfl, q⟩
  rw [List.length_append, List.length_singleton]
  omega

def rExtend : V → List V → Hp → VK → Prop := fun x vs H Q => ∃ l b xs zs, x = .ref l ∧ vs = [.ref b] ∧ H l = some (.lst xs) ∧ H b = some (.lst zs) ∧ xs.length + zs.length ≤ sizeLine ∧ Q .non (upd H l (.lst (xs ++ zs)))
def rPop : V → List V → Hp → VK → Prop := fun x vs H Q => ∃ l xs y, x = .ref l ∧ vs = [] ∧ H l = some (.lst xs) ∧ xs[xs.length - 1]? = some y ∧ Q y (upd H l (.lst xs.dropLast))
def rPopAt : V → List V → Hp → VK → Prop := fun x vs H Q => ∃ l xs i k y, x = .ref l ∧ vs = [.int i] ∧ H l = some (.lst xs) ∧ -(2 ^ 63) ≤ i ∧ i < 2 ^ 63 ∧ seqIndex? i xs.length = some k ∧ xs[k]? = some y ∧ Q y (upd H l (.lst (xs.eraseIdx k)))
def rReverse : V → List V → Hp → VK → Prop := fun x vs H Q => ∃ l xs, x = .ref l ∧ vs = [] ∧ H l = some (.lst xs) ∧ Q .non (upd H l (.lst xs.reverse))
def rClear : V → List V → Hp → VK → Prop := fun x vs H Q => ∃ l xs, x = .ref l ∧ vs = [] ∧ H l = some (.lst xs) ∧ Q .non (upd H l (.lst []))
def rCat : R2 := fun x y H Q => ∃ l b xs zs, x = .ref l ∧ y = .ref b ∧ H l = some (.lst xs) ∧ H b = some (.lst zs) ∧ xs.length + zs.length ≤ sizeLine ∧ ∀ p, H p = none → Q (.ref p) (upd H p (.lst (xs ++ zs)))
theorem op_cat : OpR X (binaryOp .Add) rCat := by
  intro pins s σ H x y v u Q I rx ry h
  obtain ⟨l, b, xs, zs, rfl, rfl, hH, hB, hz, q⟩ := h
  cases rx
  cases ry
  obtain ⟨z, its, n, r, hl, e⟩ := I.lstM hH
  obtain ⟨z2, its2, n2, r2, hl2, e2⟩ := I.lstM hB
  refine PySem.P.add_list e e2 ?_ (by rw [List.size_toArray, List.size_toArray]; omega)
  have ea : its.toArray ++ its2.toArray = (its ++ its2).toArray := by simp
  rw [ea]
  exact ⟨.ref _, _, I.lnew (t' := s.toks) (r.append r2) (by rw [List.length_append]; omega), rfl, q _ I.fresh⟩
/-- a list times an int (a negative one is nothing) -/
def rRep : R2 := fun x y H Q => ∃ l k xs, x = .ref l ∧ y = .int k ∧ H l = some (.lst xs) ∧ -(2 ^ 63) ≤ k ∧ k < 2 ^ 63 ∧ xs.length * k.toNat ≤ sizeLine ∧
  ∀ p, H p = none → Q (.ref p) (upd H p (.lst (List.replicate k.toNat xs).flatten))
end

section
variable {prog : Program} {w : World} {A : Around} {E : Value → Shared → Prop} {s : Shared}
end

section
variable {X : Cx}
end
end L2

namespace L2
open PySem PySem.Spec PyProof.Rows

section
variable {κ : Type} [DecidableEq κ]
def valV (kvs : List (κ × V)) (k : κ) : Option V := (kvs.find? fun kv => decide (kv.1 = k)).map (·.2)
/-- in its place, or at the end -/
def putK (kvs : List (κ × V)) (k : κ) (v : V) : List (κ × V) :=
  if (kvs.any fun kv => decide (kv.1 = k)) = true then kvs.map (fun kv => if kv.1 = k then (kv.1, v) else kv) else kvs ++ [(k, v)]
def dropK (kvs : List (κ × V)) (k : κ) : List (κ × V) := kvs.filter fun kv => decide (kv.1 ≠ k)

theorem valV_pos {p : κ × V} {r : List (κ × V)} {k : κ} (e : p.1 = k) : valV (p :: r) k = some p.2 := by simp [valV, List.find?_cons, e]
theorem valV_neg {p : κ × V} {r : List (κ × V)} {k : κ} (e : ¬ p.1 = k) : valV (p :: r) k = valV r k := by simp [valV, List.find?_cons, e]
theorem valV_any (k : κ) : ∀ kvs : List (κ × V), (kvs.any fun kv => decide (kv.1 = k)) = (valV kvs k).isSome
  | [] => rfl
  | p :: r => by
    rw [List.any_cons]
    by_cases e : p.1 = k
    · simp only [valV_pos e, decide_eq_true e, Bool.true_or, Option.isSome_some]
    · rw [valV_neg e, decide_eq_false e, Bool.false_or]; exact valV_any k r
theorem valV_map (k j : κ) (y : V) : ∀ kvs : List (κ × V), valV (kvs.map fun kv => if kv.1 = k then (kv.1, y) else kv) j = (valV kvs j).map fun x => if j = k then y else x
  | [] => rfl
  | p :: r => by
    have ih := valV_map k j y r
    rw [List.map_cons]
    by_cases h : p.1 = k
    · rw [if_pos h]
      by_cases e : p.1 = j
      · rw [valV_pos (p := (p.1, y)) e, valV_pos e, Option.map_some, if_pos (e.symm.trans h)]
      · rw [valV_neg (p := (p.1, y)) e, valV_neg e, ih]
    · rw [if_neg h]
      by_cases e : p.1 = j
      · rw [valV_pos (p := p) e, valV_pos e, Option.map_some, if_neg (fun z => h (e.trans z))]
      · rw [valV_neg (p := p) e, valV_neg e, ih]
theorem valV_snoc (k j : κ) (y : V) : ∀ kvs : List (κ × V), valV kvs k = none → valV (kvs ++ [(k, y)]) j = if j = k then some y else valV kvs j
  | [], _ => by
    by_cases e : k = j
    · rw [if_pos e.symm]; exact valV_pos (p := (k, y)) e
    · rw [if_neg (fun z => e z.symm)]; exact valV_neg (p := (k, y)) e
  | p :: r, hn => by
    rw [List.cons_append]
    have hk : ¬ p.1 = k := fun z => by rw [valV_pos z] at hn; cases hn
    rw [valV_neg hk] at hn
    have ih := valV_snoc k j y r hn
    by_cases e : p.1 = j
    · rw [valV_pos e, valV_pos e, if_neg (fun z => hk (e.trans z))]
    · rw [valV_neg e, valV_neg e, ih]
theorem valV_put (kvs : List (κ × V)) (k j : κ) (y : V) : valV (putK kvs k y) j = if j = k then some y else valV kvs j := by
  unfold putK
  by_cases a : (kvs.any fun kv => decide (kv.1 = k)) = true
  · rw [if_pos a, valV_map]
    rw [valV_any] at a
    by_cases e : j = k
    · obtain ⟨x, hx⟩ := Option.isSome_iff_exists.mp a
      rw [if_pos e, e, hx, Option.map_some, if_pos rfl]
    · rw [if_neg e]
      cases valV kvs j with
      | none => rfl
      | some x => rw [Option.map_some, if_neg e]
  · rw [if_neg a]
    refine valV_snoc k j y kvs ?_
    rw [valV_any] at a
    cases q : valV kvs k with
    | none => rfl
    | some x => rw [q] at a; exact (a rfl).elim
theorem putK_new {kvs : List (κ × V)} {k : κ} (v : V) (h : valV kvs k = none) : putK kvs k v = kvs ++ [(k, v)] := by
  unfold putK
  rw [valV_any, h]
  exact if_neg (by decide)

theorem RelO.isSome_eq {o : Option V} {u : Option Value} (r : RelO o u) : o.isSome = u.isSome := by
  cases o with
  | none => cases u with
    | none => rfl
    | some _ => exact (show False from r).elim
  | some _ => cases u with
    | none => exact (show False from r).elim
    | some _ => rfl
theorem RelO.getD {o : Option V} {u : Option Value} {d : V} {d' : Value} (r : RelO o u) (rd : RelV d d') : RelV (o.getD d) (u.getD d') := by
  cases o with
  | none => cases u with
    | none => exact rd
    | some _ => exact (show False from r).elim
  | some _ => cases u with
    | none => exact (show False from r).elim
    | some _ => exact r

/-- raw tables of the same keys -/
theorem KV.val {kvs : List (κ × V)} {vs : List (κ × Value)} (r : KV kvs vs) (k : κ) : RelO (valV kvs k) (valueAt vs k) := by
  unfold KV at r
  induction r with
  | nil => exact True.intro
  | @cons p q ps qs h t ih =>
    obtain ⟨h1, h2⟩ := h
    by_cases e : p.1 = k
    · have e' : q.1 = k := h1.symm.trans e
      have b : valueAt (q :: qs) k = some q.2 := by simp [valueAt, List.find?_cons, e']
      rw [valV_pos e, b]; exact h2
    · have e' : ¬ q.1 = k := fun z => e (h1.trans z)
      have b : valueAt (q :: qs) k = valueAt qs k := by simp [valueAt, List.find?_cons, e']
      rw [valV_neg e, b]; exact ih
theorem KV.any {kvs : List (κ × V)} {vs : List (κ × Value)} (r : KV kvs vs) (k : κ) : (kvs.any fun kv => decide (kv.1 = k)) = vs.any fun kv => decide (kv.1 = k) := by
  unfold KV at r
  induction r with
  | nil => rfl
  | cons h t ih => rw [List.any_cons, List.any_cons, ih, h.1]
theorem KV.repl {kvs : List (κ × V)} {vs : List (κ × Value)} (r : KV kvs vs) (k : κ) {y : V} {u : Value} (ry : RelV y u) :
    KV (kvs.map fun kv => if kv.1 = k then (kv.1, y) else kv) (vs.map fun kv => if kv.1 = k then (kv.1, u) else kv) := by
  unfold KV at r ⊢
  induction r with
  | nil => exact .nil
  | @cons p q ps qs h t ih =>
    rw [List.map_cons, List.map_cons]
    refine .cons ?_ ih
    obtain ⟨h1, h2⟩ := h
    by_cases e : p.1 = k
    · rw [if_pos e, if_pos (h1.symm.trans e)]; exact ⟨h1, ry⟩
    · rw [if_neg e, if_neg (fun z => e (h1.trans z))]; exact ⟨h1, h2⟩
theorem KV.put {kvs : List (κ × V)} {vs : List (κ × Value)} (r : KV kvs vs) (k : κ) {y : V} {u : Value} (ry : RelV y u) : KV (putK kvs k y) (stored vs k u) := by
  unfold putK stored
  rw [r.any k]
  by_cases e : (vs.any fun kv => decide (kv.1 = k)) = true
  · rw [if_pos e, if_pos e]; exact r.repl k ry
  · rw [if_neg e, if_neg e]; exact Paired.snoc r ⟨rfl, ry⟩
theorem KV.drop {kvs : List (κ × V)} {vs : List (κ × Value)} (r : KV kvs vs) (k : κ) : KV (dropK kvs k) (without vs k) := by
  unfold KV at r ⊢
  unfold dropK without
  induction r with
  | nil => exact .nil
  | @cons p q ps qs h t ih =>
    obtain ⟨h1, h2⟩ := h
    rw [List.filter_cons, List.filter_cons]
    by_cases e : p.1 = k
    · have a : ¬ decide (p.1 ≠ k) = true := by simp [e]
      have b : ¬ decide (q.1 ≠ k) = true := by simp [h1.symm.trans e]
      rw [if_neg a, if_neg b]; exact ih
    · have e' : ¬ q.1 = k := fun z => e (h1.trans z)
      have a : decide (p.1 ≠ k) = true := by simp [e]
      have b : decide (q.1 ≠ k) = true := by simp [e']
      rw [if_pos a, if_pos b]; exact .cons ⟨h1, h2⟩ ih
theorem KV.keys {kvs : List (κ × V)} {vs : List (κ × Value)} (r : KV kvs vs) : kvs.map (·.1) = vs.map (·.1) := by
  unfold KV at r
  induction r with
  | nil => rfl
  | cons h t ih => rw [List.map_cons, List.map_cons, ih, h.1]
theorem KV.length {kvs : List (κ × V)} {vs : List (κ × Value)} (r : KV kvs vs) : kvs.length = vs.length := Paired.length r
end


/-- raw entries of a dict with tuple keys -/
abbrev KT (H : Hp) : List (List Key × V) → List (List Key × Addr × Value) → Prop := Paired fun p q => p.1 = q.1 ∧ H q.2.1 = some (.tup (p.1.map kV)) ∧ RelV p.2 q.2.2
theorem KT.val {H : Hp} {kvs : List (List Key × V)} {xs : List (List Key × Addr × Value)} (r : KT H kvs xs) (k : List Key) : RelO (valV kvs k) ((atKey xs k).map (·.2)) := by
  induction r with
  | nil => exact True.intro
  | @cons p q ps qs h t ih =>
    obtain ⟨h1, _, h2⟩ := h
    by_cases e : p.1 = k
    · have e' : q.1 = k := h1.symm.trans e
      have b : atKey (q :: qs) k = some q.2 := by simp [atKey, List.find?_cons, e']
      rw [valV_pos e, b]; exact h2
    · have e' : ¬ q.1 = k := fun z => e (h1.trans z)
      have b : atKey (q :: qs) k = atKey qs k := by simp [atKey, List.find?_cons, e']
      rw [valV_neg e, b]; exact ih
theorem KT.repl {H : Hp} {kvs : List (List Key × V)} {xs : List (List Key × Addr × Value)} (r : KT H kvs xs) (k : List Key) {y : V} {u : Value} (ry : RelV y u) :
    KT H (kvs.map fun kv => if kv.1 = k then (kv.1, y) else kv) (xs.map (putAt k u)) := by
  induction r with
  | nil => exact .nil
  | @cons p q ps qs h t ih =>
    rw [List.map_cons, List.map_cons]
    refine .cons ?_ ih
    obtain ⟨h1, h2, h3⟩ := h
    unfold putAt
    by_cases e : p.1 = k
    · rw [if_pos e, if_pos (h1.symm.trans e)]; exact ⟨h1, h2, ry⟩
    · rw [if_neg e, if_neg (fun z => e (h1.trans z))]; exact ⟨h1, h2, h3⟩
theorem KT.put {H : Hp} {kvs : List (List Key × V)} {xs : List (List Key × Addr × Value)} (r : KT H kvs xs) (k : List Key) {b : Addr} {y : V} {u : Value} (hb : H b = some (.tup (k.map kV))) (ry : RelV y u) :
    KT H (putK kvs k y) (storedH xs k b u) := by
  have e : (kvs.any fun kv => decide (kv.1 = k)) = (atKey xs k).isSome := by
    rw [valV_any, (r.val k).isSome_eq, Option.isSome_map]
  unfold putK storedH
  rw [e]
  by_cases q : (atKey xs k).isSome = true
  · rw [if_pos q, if_pos q]; exact r.repl k ry
  · rw [if_neg q, if_neg q]; exact Paired.snoc r ⟨rfl, hb, ry⟩
theorem KT.keeps {H H' : Hp} {kvs : List (List Key × V)} {xs : List (List Key × Addr × Value)} (r : KT H kvs xs) (ht : ∀ b ys, H b = some (.tup ys) → H' b = some (.tup ys)) : KT H' kvs xs :=
  Paired.mapP r fun _ _ z => ⟨z.1, ht _ _ z.2.1, z.2.2⟩

section
variable {P : Program} {w : World} {H : Hp} {h : Heap} {a : Addr}
end

/-- what the dict at a holds at the key y -/
def DGet (H : Hp) (a : Addr) (y : V) (r : Option V) : Prop :=
  (∃ kvs k, Rd H a (.dK kvs) ∧ y = kV k ∧ r = valV kvs k) ∨ ∃ kvs k b, Rd H a (.dT kvs) ∧ y = .ref b ∧ H b = some (.tup (k.map kV)) ∧ r = valV kvs k
/-- the heap behind a[y] = v -/
def DPut (H : Hp) (a : Addr) (y v : V) (H' : Hp) : Prop :=
  (∃ kvs k, H a = some (.dK kvs) ∧ y = kV k ∧ kvs.length < sizeLine ∧ H' = upd H a (.dK (putK kvs k v))) ∨
  ∃ kvs k b, H a = some (.dT kvs) ∧ y = .ref b ∧ H b = some (.tup (k.map kV)) ∧ kvs.length < sizeLine ∧ H' = upd H a (.dT (putK kvs k v))
theorem DGet.k {H : Hp} {a : Addr} {kvs : List (Key × V)} {k : Key} (e : H a = some (.dK kvs)) : DGet H a (kV k) (valV kvs k) := .inl ⟨kvs, k, .inl e, rfl, rfl⟩
theorem DGet.t {H : Hp} {a b : Addr} {kvs : List (List Key × V)} {k : List Key} (e : H a = some (.dT kvs)) (eb : H b = some (.tup (k.map kV))) : DGet H a (.ref b) (valV kvs k) := .inr ⟨kvs, k, b, .inl e, rfl, eb, rfl⟩
theorem DPut.k {H : Hp} {a : Addr} {kvs : List (Key × V)} {k : Key} {v : V} (e : H a = some (.dK kvs)) (hl : kvs.length < sizeLine) : DPut H a (kV k) v (upd H a (.dK (putK kvs k v))) := .inl ⟨kvs, k, e, rfl, hl, rfl⟩
theorem DPut.t {H : Hp} {a b : Addr} {kvs : List (List Key × V)} {k : List Key} {v : V} (e : H a = some (.dT kvs)) (eb : H b = some (.tup (k.map kV))) (hl : kvs.length < sizeLine) :
    DPut H a (.ref b) v (upd H a (.dT (putK kvs k v))) := .inr ⟨kvs, k, b, e, rfl, eb, hl, rfl⟩


section
variable {X : Cx} {pins : List (Addr × Obj)} {σ : St} {H : Hp} {s : Shared} {a : Addr} {y v : V} {u r : Value} {o : Option V} {A : Around} {E : Value → Shared → Prop}

end

section
variable {X : Cx} {pins : List (Addr × Obj)} {σ : St} {H : Hp} {s : Shared} {a : Addr} {kvs : List (Key × V)} {k : Key} {u : Value} {A : Around} {E : Value → Shared → Prop}
end


/-- the element of a subscription, not a slice -/
def NoSl (i : Expr) : Prop := ∀ ov iv, subscripted i false ov iv = operate [ov, iv] (getItem ov iv)
/-- d[y] -/
def tDGet (td ty : TE) : TE := fun σ H Q => td σ H fun x H1 => ty σ H1 fun y H2 => ∃ a v, x = .ref a ∧ DGet H2 a y (some v) ∧ Q v H2
/-- y in d, y not in d -/
def tDIn (ty td : TE) : TE := fun σ H Q => ty σ H fun y H1 => td σ H1 fun x H2 => ∃ a o, x = .ref a ∧ DGet H2 a y o ∧ Q (.bl o.isSome) H2
def tDNotIn (ty td : TE) : TE := fun σ H Q => ty σ H fun y H1 => td σ H1 fun x H2 => ∃ a o, x = .ref a ∧ DGet H2 a y o ∧ Q (.bl (!o.isSome)) H2
/-- d[y] = v -/
def sDPut (td ty tv : TE) : TS := fun D σ H => tv σ H fun v H1 => td σ H1 fun x H2 => ty σ H2 fun y H3 => ∃ a H4, x = .ref a ∧ DPut H3 a y v H4 ∧ D.nx σ H4
/-- d[y] op= v -/
def sDAug (td ty tv : TE) (rd : V → V → Hp → VK → Prop) : TS := fun D σ H => td σ H fun x H1 => ty σ H1 fun y H2 => ∃ a v, x = .ref a ∧ DGet H2 a y (some v) ∧
  tv σ H2 fun y2 H3 => rd v y2 H3 fun z H4 => ∃ H5, DPut H4 a y z H5 ∧ D.nx σ H5
/-- del d[y] -/
def sDDel (td ty : TE) : TS := fun D σ H => td σ H fun x H1 => ty σ H1 fun y H2 => ∃ a kvs k, x = .ref a ∧ H2 a = some (.dK kvs) ∧ y = kV k ∧ (valV kvs k).isSome = true ∧ D.nx σ (upd H2 a (.dK (dropK kvs k)))

section
variable {X : Cx} {o i e value : Expr} {pos pos' tpos : Pos} {td ty tv : TE}
end


/-- {}, to be a dict of the kind that is wanted -/
def tDNewK : TE := fun _ H Q => ∀ p, H p = none → Q (.ref p) (upd H p (.dK []))
def tDNewT : TE := fun _ H Q => ∀ p, H p = none → Q (.ref p) (upd H p (.dT []))
section
variable {X : Cx} {pos : Pos}
end

/-- the pairs of a display, from the left -/
def tPairs : List (TE × TE) → St → Hp → (List (V × V) → Hp → Prop) → Prop
  | [], _, H, Q => Q [] H
  | (tk, tv) :: r, σ, H, Q => tk σ H fun x H1 => tv σ H1 fun y H2 => tPairs r σ H2 fun ps H3 => Q ((x, y) :: ps) H3
abbrev VV : List (V × V) → List (Value × Value) → Prop := Paired fun p q => RelV p.1 q.1 ∧ RelV p.2 q.2
def PPs (X : Cx) (pos : Pos) (keys : List (Option Expr)) (values : List Expr) (trs : List (TE × TE)) : Prop :=
  ∀ (pins : List (Addr × Obj)) (s : Shared) (σ : St) (H : Hp) (Q : List (V × V) → Hp → Prop), Inv X pins σ H s → tPairs trs σ H Q →
    wpAny (model X.prog X.w) X.A (evalPairs (pairTrees keys values X.env pos)) (fun vs s' => ∃ ps H', Inv X pins σ H' s' ∧ VV ps vs ∧ Q ps H') X.xe s
def mergeK (kvs more : List (Key × V)) : List (Key × V) := more.foldl (fun acc kv => putK acc kv.1 kv.2) kvs
/-- {k: v, ..} with keys ints and texts; the new dict stands empty while the pairs are made -/
def tDisp (trs : List (TE × TE)) : TE := fun σ H Q => ∀ p, H p = none → tPairs trs σ (upd H p (.dK [])) fun ps H2 => H2 p = some (.dK []) ∧ ∃ kvs : List (Key × V), ps = kvs.map (fun kv => (kV kv.1, kv.2)) ∧ kvs.length ≤ 15 ∧ Q (.ref p) (upd H2 p (.dK (mergeK [] kvs)))
/-- a method call o.m(e) of a built-in, with one argument: what must be seen of the text -/
structure M1 (X : Cx) (o : Expr) (m : Str) (apos : Pos) (e : Expr) (cpos : Pos) : Prop where
  base : attributeBase o m X.env (eval o X.env) = eval o X.env
  few : ((backTo cpos (starEach [e] X.env)).all (fun x => !x.1) && (backToKw cpos (keywordEach [] X.env)).all (fun x => x.1.isSome)
    && decide (([e] : List Expr).length + ([] : List Keyword).length + (if ([] : List Keyword).isEmpty then 0 else 1) < 30)) = true
  line : (apos.endLine == cpos.line) = true
  trees : backTo cpos (starEach [e] X.env) = [(false, eval e X.env)]
structure M2 (X : Cx) (o : Expr) (m : Str) (apos : Pos) (e f : Expr) (cpos : Pos) : Prop where
  base : attributeBase o m X.env (eval o X.env) = eval o X.env
  few : ((backTo cpos (starEach [e, f] X.env)).all (fun x => !x.1) && (backToKw cpos (keywordEach [] X.env)).all (fun x => x.1.isSome)
    && decide (([e, f] : List Expr).length + ([] : List Keyword).length + (if ([] : List Keyword).isEmpty then 0 else 1) < 30)) = true
  line : (apos.endLine == cpos.line) = true
  trees : backTo cpos (starEach [e, f] X.env) = [(false, eval e X.env), (false, eval f X.env)]

/-- a is a dict, whatever its keys -/
def IsD (H : Hp) (a : Addr) : Prop := (∃ kvs, Rd H a (.dK kvs)) ∨ ∃ kvs, Rd H a (.dT kvs)
section
variable {X : Cx} {pins : List (Addr × Obj)} {σ : St} {H : Hp} {s : Shared} {a : Addr} {y d : V} {u r : Value} {o : Option V} {A : Around} {E : Value → Shared → Prop}
end

def tDGet1 (td ty : TE) : TE := fun σ H Q => td σ H fun x H1 => ∃ a, x = .ref a ∧ IsD H1 a ∧ ty σ H1 fun y H2 => ∃ o, DGet H2 a y o ∧ Q (o.getD .non) H2
def tDGet2 (td ty tx : TE) : TE := fun σ H Q => td σ H fun x H1 => ∃ a, x = .ref a ∧ IsD H1 a ∧ ty σ H1 fun y H2 => tx σ H2 fun z H3 => ∃ o, DGet H3 a y o ∧ Q (o.getD z) H3
/-- d.pop(k): there; d.pop(k, x): there or not -/
def tDPop1 (td ty : TE) : TE := fun σ H Q => td σ H fun x H1 => ∃ a, x = .ref a ∧ IsD H1 a ∧ ty σ H1 fun y H2 => ∃ kvs k v, H2 a = some (.dK kvs) ∧ y = kV k ∧ valV kvs k = some v ∧ Q v (upd H2 a (.dK (dropK kvs k)))
def tDPop2 (td ty tx : TE) : TE := fun σ H Q => td σ H fun x H1 => ∃ a, x = .ref a ∧ IsD H1 a ∧ ty σ H1 fun y H2 => tx σ H2 fun z H3 => ∃ kvs k, H3 a = some (.dK kvs) ∧ y = kV k ∧
  (∀ v, valV kvs k = some v → Q v (upd H3 a (.dK (dropK kvs k)))) ∧ (valV kvs k = none → Q z H3)
section
variable {X : Cx} {o e f : Expr} {apos cpos : Pos} {td ty tx : TE}
end

section
variable {X : Cx} {pins : List (Addr × Obj)} {σ : St} {H : Hp} {s : Shared} {a : Addr} {kvs : List (Key × V)} {A : Around} {E : Value → Shared → Prop}
end


section
variable {X : Cx} {pins : List (Addr × Obj)} {σ : St} {H : Hp} {s : Shared} {a : Addr} {y : V} {u : Value} {A : Around} {E : Value → Shared → Prop}
end
end L2

namespace Att
open PySem PySem.W PySem.Calls PyProof.Rows

theorem ints_of_wellAll {P : Params} {h : Heap} : ∀ (ns : List Int) (vs : List Value), WellAll P h vs (ns.map WData.int) → IntsAre vs ns := by
  intro ns
  induction ns with
  | nil =>
    intro vs w
    rw [List.map_nil] at w
    cases w
    exact .nil
  | cons n ns ih =>
    intro vs w
    rw [List.map_cons] at w
    cases w with
    | cons a b =>
      cases a
      exact .cons _ _ (ih _ b)

theorem script_of {l : OpenLaw} {n : Nat} (hn : l.most = some n) {P : Params} {h : Heap} {args : List WData} {vals : List Value}
    (hpre : l.row.toRowW.claim.pre args = true) (hwl : WellAll P h vals args) :
    ∃ a vs ns, vals = [Value.ref a] ∧ args = [WData.list (ns.map WData.int)] ∧ h.get? a = some { cls := .type "list", data := .seq vs.toArray } ∧ IntsAre vs ns ∧ ns.length ≤ n := by
  have hsh : WShape.hasAll [] args [.list .int] = true := (pre_splitW hpre).1
  have hc : l.pre.holds [] { args := args } = true := (pre_splitW hpre).2
  obtain ⟨d, r, rfl, h1, h2⟩ := hasAllW_cons hsh
  obtain rfl := hasAllW_nil h2
  obtain ⟨xs, rfl, h3⟩ := hasW_list h1
  obtain ⟨ns, rfl⟩ := items_int h3
  have hlen : ns.length ≤ n := by
    unfold OpenLaw.pre at hc
    have h4 : (WTm.not (.lt (.lit (.int (n : Int))) (.len (.arg 0)))).holds [] { args := [.list (ns.map .int)] } = true := by
      have h4 := (holds_andW hc).1
      rw [hn] at h4
      exact h4
    have h5 := condW_of h4 (w_not (w_lt w_lit (w_len_list (w_arg rfl))))
    rw [List.length_map] at h5
    refine Nat.le_of_not_lt fun q => ?_
    have q' : (n : Int) < ((ns.length : Nat) : Int) := by omega
    first
      | (rw [decide_eq_true q'] at h5; exact absurd h5 (by decide))
      | (simp at h5; omega)
  cases hwl with
  | cons w1 w2 =>
    cases w2
    cases w1 with
    | list ho hall => exact ⟨_, _, ns, rfl, rfl, ho, ints_of_wellAll ns _ hall, hlen⟩

theorem post_true (l : OpenLaw) (args : List WData) : l.row.toRowW.claim.post args (.bool true) args = true :=
  postW_of (r := l.row.toRowW) (X := (true == true))
    (show WShape.has [] (.bool true) .bool = true by first | rfl | decide | simp [WShape.has, WShape.arms, WShape.armsAll])
    (show (WTm.eq .res (.lit (.bool true))).value [] { args := args, res := some (.bool true), after := args } = some (.bool (true == true)) from w_eq_bool (w_res rfl) w_lit) rfl

theorem attach {l : OpenLaw} {n : Nat} {q : Program} {loose : List Str} {XP : (Str → Option Value) → Heap → Prop} {YP : World → Heap → Prop} {d : DefRec} {x : Str}
    (hn : l.most = some n) (hdf : d.params.defaults = [])
    (hbind : ∀ pm cd doc v : Value, bindArgs (docDef d.name d.params d.body d.scope pm cd doc) ⟨[v], []⟩ = pure [(x, v)])
    (hx : d.scope.names.lookup x = some .local ∨ d.scope.names.lookup x = some .cell)
    (hk : d.scope.kind = .function) (hco : d.scope.isCoroutine = false) (hgen : d.scope.isGenerator = false)
    (body : ∀ (w : World) (s₀ s₁ s : Shared) (mg mb : Str → Option Value) (fa : Addr) (o : Obj) (pm cd doc : Value) (a : Addr) (vs : List Value) (ns : List Int),
      Ground q loose [] XP w s₀ mg mb s₁.heap → YP w s₁.heap →
      s₁.heap.get? fa = some o → o.data = .func (docDef d.name d.params d.body d.scope pm cd doc) → s₁.heap.CodeRec cd d.name → mg d.name = some (.ref fa) →
      s₁.heap.get? a = some { cls := .type "list", data := .seq vs.toArray } → IntsAre vs ns → ns.length ≤ n →
      s.gens = #[] → s.os = s₁.os →
      Fr s₁.heap s₁.heap.objs.size s.heap (bindL (envOfC d.name d.scope s₁.heap.objs.size fa cd).kindOf [(x, .ref a)] fun _ => none) →
      Cl s₁.heap.objs.size (cellsFrom (s₁.heap.objs.size + 1) d.scope.names []) s.heap (bindC (envOfC d.name d.scope s₁.heap.objs.size fa cd).kindOf [(x, .ref a)] fun _ => none) →
      wpAny (model l.prog w) (callerA.deeper (envOfC d.name d.scope s₁.heap.objs.size fa cd)) (execs d.body (envOfC d.name d.scope s₁.heap.objs.size fa cd))
        (fun f s' => f = .ret (.bool true) ∧ OldK s₁.heap s'.heap ∧ s'.os = s₁.os ∧ AllBare s'.gens) (fun _ _ => False) s) :
    WalkO q loose XP YP l.row.toRowW d [] (fun f vs => PySem.call f vs) := by
  intro w s₀ s₁ mg mb G Y fa o pm cd doc dV kV ho hd hcd hD hmg hg args vals as hpre hlay hrd hwl hlo
  obtain rfl : dV = .none := Dflts.none hD hdf
  obtain rfl : kV = .none := Dflts.noKw hD
  obtain ⟨a, vs, ns, rfl, rfl, hobj, hints, hlen⟩ := script_of hn hpre hwl
  refine enter_call ?_
  refine call_cells_ret (o := o) (by rw [depth_caller]; decide) ho (fd_plain hd) G.T.nolimit hcd (hbind pm cd doc (.ref a)) (fun y hy => ?_) (fun h₁ tk F X => ?_) hco hgen hk
  · obtain rfl : y = (x, Value.ref a) := List.mem_singleton.mp hy
    rcases hx with e | e
    · exact .inl e
    · exact .inr ⟨e, cellsFrom_some _ _ _ (.inl e)⟩
  · refine wpAny_mono (body w s₀ s₁ { s₁ with heap := h₁, toks := tk } mg mb fa o pm cd doc a vs ns G Y ho (fd_plain hd) hcd hmg hobj hints hlen hg rfl F X) (fun f s' hq => ?_) (fun _ _ hq => hq)
    obtain ⟨rfl, h2, h3, h4⟩ := hq
    exact ⟨.inl ⟨.bool true, .bool true, [], rfl, fun _ => rfl, .bool true, post_true l _, fun _ => ⟨List.Pairwise.nil, fun _ hm => (nomatch hm)⟩⟩, h2, h3, h4⟩

section
variable {prog : Program} {w : World} {A : Around} {E : Value → Shared → Prop} {s : Shared} {K : Frag}

def noObjs (h : Heap) : Heap := { h with objs := #[] }
def ledger (h : Heap) (L d : Addr) : List (Addr × Obj) := (List.range h.objs.size).filterMap fun a => if a = L ∨ a = d then none else (h.get? a).map fun o => (a, o)
end
end Att

namespace L2
open PySem PySem.Spec PyProof.Rows

theorem vals_ints : ∀ {vs : List Value} {ns : List Int}, IntsAre vs ns → Vals (ns.map V.int) vs
  | _, _, .nil => .nil
  | _, _, .cons n t h => .cons ⟨t, rfl⟩ (vals_ints h)

/-- nothing is tracked but the script, known to the object (or it is an object of the module) -/
def Only (H : Hp) : Prop := ∀ b, H b = none ∨ ∃ o xs, H b = some (.frz o (.lst xs))

/-- THE HEAD: the law's promise, at the heap behind the top. F, the promise of the law's def, may use that base is part of the heap (so K.In base, base.Ns mainGlobals mg stand in Mod) -/
theorem law_call {P : Program} {w : World} {K : PySem.W.Frag} {mg mb : Str → Option Value} {CX : CXT} {k : Nat} {fa a : Addr} {fd : FuncData} {x : Str} {sp : Sp} {s₁ : Shared} {vs : List Value} {ns : List Int}
    (KX : K.In s₁.heap) (hns : s₁.heap.Ns mainGlobals mg) (hb : s₁.heap.Ns builtinsNs mb) (hbb : ∀ x : Str, x ≠ "__name__" → mb x = bootBuiltins x) (hlim : s₁.heap.NoLimit) (hg : s₁.gens = #[])
    (ha : s₁.heap.get? a = some { cls := .type "list", data := .seq vs.toArray }) (hi : IntsAre vs ns) (hl : ns.length ≤ sizeLine) (hr : Room k callerA)
    (F : ∀ base : Heap, K.In base → base.Ns mainGlobals mg → FnOk P w K mg base CX k fa fd [x] sp) (hbind : ∀ (s : Shared) (u : Value), BindsTo s fd ⟨[u], []⟩ [(x, u)])
    (hsp : ∀ H : Hp, Only H → SqL K H a (ns.map V.int) → sp [.ref a] H (fun v _ => v = .bl true) fun _ _ _ => False)
    (hCX : ∀ H e s', CX [] H s₁ (fun _ _ _ => False) e s' → False) :
    codeAny (model P w) callerA (.call (.ref fa) ⟨[.ref a], []⟩) (fun r s' => r = .ok (.ret (.bool true)) ∧ OldK s₁.heap s'.heap ∧ s'.os = s₁.os ∧ AllBare s'.gens) s₁ := by
  have rv := vals_ints hi
  have lenV := hi.length
  -- from an abstract heap in which nothing but the script may be tracked
  have core : ∀ H : Hp, Only H → SqL K H a (ns.map V.int) → HOk P w H s₁.heap → (∀ b, H b ≠ none → b = a) → (H a ≠ none → K.lookup a = none) →
      codeAny (model P w) callerA (.call (.ref fa) ⟨[.ref a], []⟩) (fun r s' => r = .ok (.ret (.bool true)) ∧ OldK s₁.heap s'.heap ∧ s'.os = s₁.os ∧ AllBare s'.gens) s₁ := by
    intro H hO hS hok hA hK
    have base_of : ∀ {b : Addr} {o : Obj}, s₁.heap.get? b = some o → H b = none → (hidT s₁.heap H).get? b = some o := fun e n => hidT_get e n
    have noA : ∀ {b : Addr} {o : Obj} {es : Array DictEntry} {ep : Nat}, s₁.heap.get? b = some o → o.data = .dict es ep → H b = none := fun {b o es ep} e d => by
      cases q : H b with
      | none => rfl
      | some u =>
        have e' : b = a := hA b (by rw [q]; simp)
        subst e'
        rw [ha] at e; cases e
        have d' : Data.seq vs.toArray _ = Data.dict es ep := d
        cases d'
    have nsK : ∀ {b : Addr} {m : Str → Option Value}, s₁.heap.Ns b m → (hidT s₁.heap H).Ns b m := fun {b m} ⟨o, es, ep, e, d, r⟩ => ⟨o, es, ep, base_of e (noA e d), d, r⟩
    have hKb : K.In (hidT s₁.heap H) := fun b o e => base_of (KX b o e) (by
      cases q : H b with
      | none => rfl
      | some u =>
        have e' : b = a := hA b (by rw [q]; simp)
        subst e'
        rw [hK (by rw [q]; simp)] at e; cases e)
    have hM : Mod K mg (hidT s₁.heap H) := ⟨hKb, nsK hns, ⟨mb, nsK hb, hbb⟩, let ⟨mc, h1, h2⟩ := hlim; ⟨mc, nsK h1, h2⟩⟩
    have e0 : Env0 P w K mg (hidT s₁.heap H) callerA [] s₁ H := ⟨rfl, hM, fun b o e => of_hidT e, Nat.le_of_eq (hidT_size _ _), trivial, fun b hb => absurd (show b ∈ ([] : List Addr) from hb) (by simp), hok, .of_eq hg⟩
    refine codeAny_mono ((F _ hKb (nsK hns)).run callerA [] s₁ H ⟨[.ref a], []⟩ [.ref a] [.ref a] _ _ hr e0 (hbind s₁ (.ref a)) (.cons rfl .nil) (hsp H hO hS)) fun r s' h => ?_
    cases r with
    | error e => exact (hCX H e s' h).elim
    | ok fl =>
      cases fl with
      | next => exact False.elim h
      | brk => exact False.elim h
      | cont => exact False.elim h
      | ret u =>
        obtain ⟨v, H', os, bare, un, hok', r', q⟩ := h
        have q' : v = .bl true := q
        subst q'
        obtain rfl : u = Value.bool true := r'
        refine ⟨rfl, OldK.of_keep fun b o e => ?_, os, bare⟩
        cases q : H b with
        | none => exact un.keep b o e q (by intro z; exact absurd (show b ∈ ([] : List Addr) from z) (by simp)) (by simp)
        | some u =>
          rcases hO b with z | ⟨ob, xs, z⟩
          · rw [q] at z; cases z
          · have z2 := un.frzs b ob _ z
            obtain ⟨e1, _⟩ := hok b _ z
            obtain ⟨e2, _⟩ := hok' b _ z2
            rw [e] at e1; cases e1
            exact e2
  cases hk : K.lookup a with
  | some o =>
    -- the script is one of the module's own objects
    have e := KX a o hk
    rw [ha] at e
    cases e
    refine core (fun _ => none) (fun _ => .inl rfl) (.inr ⟨_, vs.toArray, _, hk, rfl, rfl, rfl, by rw [List.size_toArray, lenV]; exact hl, by simpa using rv⟩) (fun b u z => by have z' : (none : Option HO) = some u := z; cases z') (fun b z => absurd rfl z) fun z => absurd rfl z
  | none =>
    refine core (fun b => if b = a then some (.frz { cls := .type "list", data := .seq vs.toArray } (.lst (ns.map V.int))) else none) (fun b => ?_) (.inl (.inr ⟨{ cls := .type "list", data := .seq vs.toArray }, if_pos rfl⟩)) (fun b u z => ?_) (fun b z => ?_) fun _ => hk
    · by_cases hb : b = a
      · exact .inr ⟨_, _, if_pos hb⟩
      · exact .inl (if_neg hb)
    · by_cases hb : b = a
      · have z' := (if_pos hb).symm.trans z
        cases z'
        subst hb
        exact ⟨ha, by rw [List.length_map]; exact hl, vs, _, rv, ha⟩
      · have z' := (if_neg hb).symm.trans z
        cases z'
    · by_cases hb : b = a
      · exact hb
      · exact absurd (if_neg hb) z
end L2

namespace L2
open PySem PySem.Spec PyProof.Rows

abbrev KOf {K : PySem.W.Frag} {h : Heap} (_ : K.In h) : PySem.W.Frag := K

end L2


namespace L2
open PySem PySem.Spec PyProof.Rows

/-- the j-th statement of a class's body -/
def inClass (s : Stmt) (j : Nat) : Stmt := match s with
  | .ClassDef _ _ _ body _ _ _ _ _ _ _ => body.getD j (.Pass ⟨0, 0, 0, 0⟩)
  | _ => .Pass ⟨0, 0, 0, 0⟩
def defArgs (s : Stmt) : Arguments := match s with
  | .FunctionDef _ a _ _ _ _ _ _ _ _ => a
  | _ => { posonlyargs := [], args := [], vararg := none, kwonlyargs := [], kw_defaults := [], kwarg := none, defaults := [] }
def defBody (s : Stmt) : List Stmt := match s with
  | .FunctionDef _ _ b _ _ _ _ _ _ _ => b
  | _ => []
def defScope (s : Stmt) : Scope := match s with
  | .FunctionDef _ _ _ _ _ _ sc _ _ _ => sc
  | _ => { kind := .function, names := [], isGenerator := false, isCoroutine := false }

abbrev CX0 : CXT := fun _ _ _ _ _ _ => False
abbrev E0 : XK := fun _ _ _ => False
theorem pass0 {X : Cx} : Passes CX0 X E0 := fun _ _ _ _ _ _ _ h => h.elim

structure Fun (K : PySem.W.Frag) (x qual : Str) (st : Stmt) (f : Addr) (fd : FuncData) : Prop where
  ex : ∃ (oc : Value) (od : Option Addr) (kV doc pm : Value) (an : Option Addr) (cdv ct : Value) (osl : Array (Option Value)),
    fd = PySem.W.fnOf x qual (defArgs st) (defBody st) (defScope st) .none kV doc pm an cdv ct ∧ K.lookup f = some ⟨oc, od, .func fd, osl⟩ ∧ PySem.W.codeIn K cdv qual = true
  kp : PySem.W.keepIn K (.ref f) = true
section
variable {P : Program} {w : World} {K : PySem.W.Frag} {mg : Str → Option Value} {base : Heap}
/-- THE RULE for a def: its body as a term of rules, and the reading of that term -/
theorem Fun.ok {x qual : Str} {st : Stmt} {f : Addr} {fd : FuncData} {N ps : List Str} {k : Nat} {sp : Sp} (F : Fun K x qual st f fd) (S : FnScope N ps (defScope st)) (len : ∀ vs H Q E, sp vs H Q E → vs.length = ps.length)
    (hbody : ∀ (cdv : Value) (A : Around) (outer : List Env) (s : Shared) (H : Hp) (vs : List V) (Q : VK) (E : XK), Room k (A.deeper (envOfC qual (defScope st) s.heap.objs.size f cdv)) → sp vs H Q E →
      ∃ t, PSs (cxOf CX0 P w K mg base N qual (defScope st) f cdv A outer s H E).nox (defBody st) t ∧ t { nx := fun _ H' => Q .non H', rt := Q } (start N vs) H) : FnOk P w K mg base CX0 (k + 1) f fd ps sp := by
  obtain ⟨oc, od, kV, doc, pm, an, cdv, ct, osl, rfl, lk, hcd⟩ := F.ex
  refine fn_of lk hcd S len fun A outer s H vs Q E hr hsp => ?_
  obtain ⟨t, h, q⟩ := hbody cdv A outer s H vs Q E hr hsp
  exact ⟨t, h.nox, q⟩
/-- how its arguments bind (no defaults): h is «fun _ _ _ _ _ _ us hl => match us, hl with | [_, _], _ => rfl», one _ a parameter -/
theorem Fun.binds {x qual : Str} {st : Stmt} {f : Addr} {fd : FuncData} {ps : List Str} (F : Fun K x qual st f fd)
    (h : ∀ (kV doc pm : Value) (an : Option Addr) (cdv ct : Value) (us : List Value), us.length = ps.length → bindArgs (PySem.W.fnOf x qual (defArgs st) (defBody st) (defScope st) .none kV doc pm an cdv ct) ⟨us, []⟩ = pure (ps.zip us)) : Binds K fd ps [] := by
  obtain ⟨oc, od, kV, doc, pm, an, cdv, ct, osl, rfl, lk, hcd⟩ := F.ex
  exact .all (h kV doc pm an cdv ct)
theorem fun_mk {x qual : Str} {st : Stmt} {f : Addr} {oc : Value} {od an : Option Addr} {osl : Array (Option Value)} {kV doc pm cdv ct : Value} (l : K.lookup f = some ⟨oc, od, .func (PySem.W.fnOf x qual (defArgs st) (defBody st) (defScope st) .none kV doc pm an cdv ct), osl⟩)
    (c : PySem.W.codeIn K cdv qual = true) (k : PySem.W.keepIn K (.ref f) = true) : Fun K x qual st f (PySem.W.fnOf x qual (defArgs st) (defBody st) (defScope st) .none kV doc pm an cdv ct) := ⟨⟨oc, od, kV, doc, pm, an, cdv, ct, osl, rfl, l, c⟩, k⟩
end
theorem small1000 {n : Nat} (h : n ≤ 1000) : n < sizeLine := Nat.lt_of_le_of_lt h (by decide)

section
variable {X : Cx}
theorem pv (i : Nat) {x : Str} {pos : Pos} (hN : X.N[i]? = some x := by rfl) (hv : Vis X.env.scope x := by first | exact Or.inl rfl | exact Or.inr (Or.inl rfl) | exact Or.inr (Or.inr rfl)) (hd : (x == ("__debug__" : Str)) = false := by decide)
    (hcd : (x == ("__classdict__" : Str)) = false := by decide) : PE X (.Name x pos) (tVar i) := pe_var hN hv hd hcd
end

theorem iteF {A B : Prop} (h : B) : if false = true then A else B := by
  rw [if_neg Bool.false_ne_true]
  exact h
theorem iteT {A B : Prop} (h : A) : if true = true then A else B := by
  rw [if_pos rfl]
  exact h
theorem iteNS {c A B : Prop} [Decidable c] (hc : c) (h : B) : if (!decide c) = true then A else B := by
  rw [decide_eq_true hc]
  exact iteF h

/-- all that was tracked is as it was -/
def Same (H H' : Hp) : Prop := ∀ b o, H b = some o → H' b = some o
theorem Same.refl (H : Hp) : Same H H := fun _ _ h => h
theorem Same.trans {H H1 H2 : Hp} (a : Same H H1) (b : Same H1 H2) : Same H H2 := fun c o h => b c o (a c o h)
theorem Same.free {H H' : Hp} (e : Same H H') {l : Addr} (h : H' l = Option.none) : H l = Option.none := by
  cases q : H l with
  | none => rfl
  | some o =>
    rw [e l o q] at h
    cases h
theorem Same.seq {K : PySem.W.Frag} {H H' : Hp} {a : Addr} {xs : List V} (e : Same H H') (h : SqL K H a xs) : SqL K H' a xs := by
  rcases h with (h | ⟨o, h⟩) | h
  · exact .inl (.inl (e _ _ h))
  · exact .inl (.inr ⟨o, e _ _ h⟩)
  · exact .inr h

end L2

namespace L2
open PySem PySem.Spec PyProof.Rows
section
variable {X : Cx}
end
end L2
namespace L2
open PySem PySem.Spec PyProof.Rows
section
variable {κ : Type} [DecidableEq κ]
theorem valV_not {kvs : List (κ × V)} {k : κ} (h : valV kvs k = none) : ¬ k ∈ kvs.map (·.1) := by
  intro m
  obtain ⟨p, hp, e⟩ := List.mem_map.mp m
  have q : (kvs.any fun kv => decide (kv.1 = k)) = true := List.any_eq_true.mpr ⟨p, hp, decide_eq_true e⟩
  rw [valV_any, h] at q
  exact absurd q (by simp)
theorem nd_snoc : ∀ {l : List κ} {k : κ}, l.Nodup → ¬ k ∈ l → (l ++ [k]).Nodup
  | [], k, _, _ => by simp
  | a :: r, k, h, hk => by
    obtain ⟨h1, h2⟩ := List.nodup_cons.mp h
    show (a :: (r ++ [k])).Nodup
    refine List.nodup_cons.mpr ⟨fun m => ?_, nd_snoc h2 fun m => hk (List.mem_cons.mpr (Or.inr m))⟩
    rcases List.mem_append.mp m with q | q
    · exact h1 q
    · exact hk (List.mem_cons.mpr (Or.inl (List.mem_singleton.mp q).symm))
theorem nd_putK {kvs : List (κ × V)} {k : κ} (v : V) (hn : (kvs.map (·.1)).Nodup) (h : valV kvs k = none) : ((putK kvs k v).map (·.1)).Nodup := by
  rw [putK_new v h, List.map_append]
  exact nd_snoc hn (valV_not h)
end
end L2

namespace Mth
theorem pos_right {a b : Int} (ha : 0 < a) (h : 0 < a * b) : 0 < b := by
  rcases (by omega : 0 < b ∨ b ≤ 0) with q | q
  · exact q
  · have := Int.mul_nonneg (Int.le_of_lt ha) (by omega : 0 ≤ -b)
    rw [Int.mul_neg] at this
    omega
/-- what a fraction made of t and b (not 0) is -/
structure Fr (t b q r : Int) : Prop where
  pos : 0 < r
  cross : q * b = t * r
  cop : Int.gcd q r = 1
  topLe : q.natAbs ≤ t.natAbs
  botLe : r.natAbs ≤ b.natAbs
theorem abs_le_mul {c q : Int} (hc : 0 < c) : q.natAbs ≤ (c * q).natAbs := by
  rw [Int.natAbs_mul]
  exact Nat.le_mul_of_pos_left _ (by omega)
theorem fr_of {t b c : Int} (hb : b ≠ 0) (hc : c = ((Int.gcd t b : Nat) : Int)) : 0 < c ∧ c ≤ b.natAbs ∧ (0 < b → Fr t b (t.fdiv c) (b.fdiv c)) ∧ (b < 0 → Fr t b (t.fdiv (-c)) (b.fdiv (-c))) := by
  have hp : 0 < Int.gcd t b := Int.gcd_pos_iff.mpr (.inr hb)
  have c0 : 0 < c := by omega
  have d1 : c ∣ t := hc ▸ Int.gcd_dvd_left t b
  have d2 : c ∣ b := hc ▸ Int.gcd_dvd_right t b
  obtain ⟨q, hq⟩ := d1
  obtain ⟨r, hr⟩ := d2
  have hr0 : r ≠ 0 := by rintro rfl; rw [Int.mul_zero] at hr; exact hb hr
  have hle : c ≤ b.natAbs := by
    rw [hr, Int.natAbs_mul]
    have : c.natAbs * 1 ≤ c.natAbs * r.natAbs := Nat.mul_le_mul_left _ (by omega)
    omega
  have e1 : t.fdiv c = q := by rw [hq, Int.mul_fdiv_cancel_left _ (by omega)]
  have e2 : b.fdiv c = r := by rw [hr, Int.mul_fdiv_cancel_left _ (by omega)]
  have e3 : t.fdiv (-c) = -q := by rw [show t = -c * -q by rw [hq, Int.neg_mul_neg], Int.mul_fdiv_cancel_left _ (by omega)]
  have e4 : b.fdiv (-c) = -r := by rw [show b = -c * -r by rw [hr, Int.neg_mul_neg], Int.mul_fdiv_cancel_left _ (by omega)]
  have hg : Int.gcd q r = 1 := by
    have h1 : Int.gcd (c * q) (c * r) = c.natAbs * Int.gcd q r := Int.gcd_mul_left c q r
    rw [← hq, ← hr] at h1
    have h3 : c.natAbs = Int.gcd t b := by omega
    rw [h3] at h1
    have h2 : Int.gcd t b * Int.gcd q r = Int.gcd t b * 1 := by rw [← h1, Nat.mul_one]
    exact Nat.eq_of_mul_eq_mul_left hp h2
  have l1 : q.natAbs ≤ t.natAbs := hq ▸ abs_le_mul c0
  have l2 : r.natAbs ≤ b.natAbs := hr ▸ abs_le_mul c0
  refine ⟨c0, hle, fun b0 => ?_, fun b0 => ?_⟩
  · rw [e1, e2]
    exact ⟨pos_right c0 (hr ▸ b0), by rw [hq, hr, Int.mul_assoc, Int.mul_left_comm], hg, l1, l2⟩
  · rw [e3, e4]
    refine ⟨pos_right c0 (by rw [Int.mul_neg, ← hr]; omega), ?_, by rw [Int.gcd_neg, Int.neg_gcd]; exact hg, by omega, by omega⟩
    rw [hq, hr, Int.neg_mul, Int.mul_neg, Int.mul_assoc, Int.mul_left_comm]
/-- below 2 ^ n -/
def Bd (n : Nat) (x : Int) : Prop := x.natAbs < 2 ^ n
theorem Bd.mono {m n : Nat} {x : Int} (h : Bd m x) (l : m ≤ n) : Bd n x := Nat.lt_of_lt_of_le h (Nat.pow_le_pow_right (by decide) l)
theorem Bd.mul {m n : Nat} {x y : Int} (h : Bd m x) (k : Bd n y) : Bd (m + n) (x * y) := by
  unfold Bd at *
  rw [Int.natAbs_mul, Nat.pow_add]
  exact Nat.mul_lt_mul'' h k
theorem Bd.add {m : Nat} {x y : Int} (h : Bd m x) (k : Bd m y) : Bd (m + 1) (x + y) := by
  unfold Bd at *
  rw [Nat.pow_succ]
  have := Int.natAbs_add_le x y
  omega
theorem Bd.neg {m : Nat} {x : Int} (h : Bd m x) : Bd m (-x) := by unfold Bd at *; rw [Int.natAbs_neg]; exact h
theorem Bd.sub {m : Nat} {x y : Int} (h : Bd m x) (k : Bd m y) : Bd (m + 1) (x - y) := by rw [Int.sub_eq_add_neg]; exact h.add k.neg
theorem Bd.le {m : Nat} {x y : Int} (h : Bd m y) (k : x.natAbs ≤ y.natAbs) : Bd m x := Nat.lt_of_le_of_lt k h
theorem Bd.abs {m : Nat} {x : Int} (h : Bd m x) : Bd m (x.natAbs : Int) := by unfold Bd at *; simpa using h
theorem Bd.log {n : Nat} {x : Int} (h : Bd n x) (hn : 0 < n) : x.natAbs.log2 < n := by
  by_cases h0 : x.natAbs = 0
  · rw [h0]; simpa using hn
  · exact (Nat.log2_lt h0).mpr h
theorem Fr.bdq {t b q r : Int} {n : Nat} (h : Fr t b q r) (k : Bd n t) : Bd n q := k.le h.topLe
theorem Fr.bdr {t b q r : Int} {n : Nat} (h : Fr t b q r) (k : Bd n b) : Bd n r := k.le h.botLe
end Mth
namespace Bit
/-- the rooms of bits, rising -/
def rooms (n : Nat) : List Nat := (List.range 61).filter n.testBit
theorem mem_rooms {n k : Nat} : k ∈ rooms n ↔ k < 61 ∧ n.testBit k = true := by
  unfold rooms; rw [List.mem_filter, List.mem_range]
theorem rooms_sorted (n : Nat) : (rooms n).Pairwise (· < ·) := (List.pairwise_lt_range).filter _
theorem bit_small {n m k : Nat} (h : n < 2 ^ m) (hk : m ≤ k) : n.testBit k = false := Nat.testBit_lt_two_pow (Nat.lt_of_lt_of_le h (Nat.pow_le_pow_right (by decide) hk))
theorem rooms_upto {n m : Nat} (h : n < 2 ^ m) (hm : m ≤ 61) : (List.range m).filter n.testBit = rooms n := by
  unfold rooms
  obtain ⟨d, hd⟩ : ∃ d, 61 = m + d := ⟨61 - m, by omega⟩
  have e61 : List.range 61 = List.range (m + d) := by rw [hd]
  rw [e61, List.range_add, List.filter_append]
  have : (List.map (m + ·) (List.range d)).filter n.testBit = [] := by
    rw [List.filter_eq_nil_iff]
    intro a ha
    obtain ⟨b, _, rfl⟩ := List.mem_map.mp ha
    rw [bit_small h (by omega)]
    exact Bool.false_ne_true
  rw [this, List.append_nil]
/-- bits of a list of rooms -/
def sumOf (l : List Nat) : Nat := l.foldl (fun n r => n ||| 2 ^ r) 0
theorem bit_fold : ∀ (l : List Nat) (a k : Nat), (l.foldl (fun n r => n ||| 2 ^ r) a).testBit k = (a.testBit k || decide (k ∈ l))
  | [], a, k => by simp
  | r :: l, a, k => by
    rw [List.foldl_cons, bit_fold l, Nat.testBit_or, Nat.testBit_two_pow, Bool.or_assoc]
    congr 1
    by_cases h : r = k
    · subst h; simp
    · have : decide (k ∈ r :: l) = decide (k ∈ l) := by simp [Ne.symm h]
      rw [this]; simp [h]
theorem bit_sumOf (l : List Nat) (k : Nat) : (sumOf l).testBit k = decide (k ∈ l) := by
  unfold sumOf; rw [bit_fold]; simp
theorem sumOf_lt {l : List Nat} {m : Nat} (h : ∀ r ∈ l, r < m) : sumOf l < 2 ^ m := by
  refine Nat.lt_pow_two_of_testBit _ fun i hi => ?_
  rw [bit_sumOf]
  exact decide_eq_false fun q => absurd (h i q) (by omega)
theorem rooms_sumOf {l : List Nat} (h : ∀ r ∈ l, r < 61) (hs : l.Pairwise (· < ·)) : rooms (sumOf l) = l := by
  have hsub : ∀ k, k ∈ rooms (sumOf l) ↔ k ∈ l := fun k => by
    rw [mem_rooms, bit_sumOf]
    constructor
    · rintro ⟨_, q⟩; exact of_decide_eq_true q
    · intro q; exact ⟨h k q, decide_eq_true q⟩
  have uniq : ∀ (a b : List Nat), a.Pairwise (· < ·) → b.Pairwise (· < ·) → (∀ k, k ∈ a ↔ k ∈ b) → a = b := by
    intro a
    induction a with
    | nil =>
      intro b _ _ hm
      cases b with
      | nil => rfl
      | cons y b => exact absurd ((hm y).mpr List.mem_cons_self) (by simp)
    | cons x a ih =>
      intro b ha hb hm
      cases b with
      | nil => exact absurd ((hm x).mp List.mem_cons_self) (by simp)
      | cons y b =>
        obtain ⟨ha1, ha2⟩ := List.pairwise_cons.mp ha
        obtain ⟨hb1, hb2⟩ := List.pairwise_cons.mp hb
        have exy : x = y := by
          rcases List.mem_cons.mp ((hm x).mp List.mem_cons_self) with q | q
          · exact q
          · rcases List.mem_cons.mp ((hm y).mpr List.mem_cons_self) with q2 | q2
            · exact q2.symm
            · have := hb1 x q; have := ha1 y q2; omega
        subst exy
        rw [ih b ha2 hb2 fun k => ?_]
        constructor
        · intro q
          rcases List.mem_cons.mp ((hm k).mp (List.mem_cons_of_mem _ q)) with z | z
          · subst z; exact absurd (ha1 k q) (Nat.lt_irrefl _)
          · exact z
        · intro q
          rcases List.mem_cons.mp ((hm k).mpr (List.mem_cons_of_mem _ q)) with z | z
          · subst z; exact absurd (hb1 k q) (Nat.lt_irrefl _)
          · exact z
  exact uniq _ _ (rooms_sorted _) hs hsub
/-- the parts, as the program makes them -/
def parts (l : List Nat) : List Nat := l.foldl (fun ps r => ps ++ ps.map (· ||| 2 ^ r)) [0]
structure Ok (ps l : List Nat) : Prop where
  len : ps.length = 2 ^ l.length
  first : ps[0]? = some 0
  last : ps[ps.length - 1]? = some (sumOf l)
  rise : ps.Pairwise (· < ·)
  sub : ∀ p ∈ ps, ∀ k, p.testBit k = true → k ∈ l
theorem sub_le {p n : Nat} (h : p &&& n = p) : p ≤ n := by rw [← h]; exact Nat.and_le_right
/-- a room that is not there is put in by adding -/
theorem add_or {n r : Nat} (h : n.testBit r = false) : n + 2 ^ r = n ||| 2 ^ r := by
  have e : n &&& 2 ^ r = 0 := Nat.eq_of_testBit_eq fun k => by
    rw [Nat.testBit_and, Nat.testBit_two_pow, Nat.zero_testBit]
    by_cases hk : r = k
    · subst hk; rw [h]; rfl
    · simp [hk]
  have l1 : n < 2 ^ (n + r + 1) := Nat.lt_of_lt_of_le Nat.lt_two_pow_self (Nat.pow_le_pow_right (by decide) (by omega))
  have l2 : 2 ^ r < 2 ^ (n + r + 1) := Nat.pow_lt_pow_right (by decide) (by omega)
  have l3 : n + 2 ^ r < 2 ^ (n + r + 2) := by
    have : 2 ^ (n + r + 2) = 2 ^ (n + r + 1) * 2 := Nat.pow_succ ..
    omega
  have m1 : n < 2 ^ (n + r + 2) := Nat.lt_of_le_of_lt (Nat.le_add_right n (2 ^ r)) l3
  have m2 : 2 ^ r < 2 ^ (n + r + 2) := Nat.lt_of_le_of_lt (Nat.le_add_left (2 ^ r) n) l3
  have q := BitVec.add_eq_or_of_and_eq_zero (BitVec.ofNat (n + r + 2) n) (BitVec.ofNat (n + r + 2) (2 ^ r)) (by
    apply BitVec.eq_of_toNat_eq
    rw [BitVec.toNat_and, BitVec.toNat_ofNat, BitVec.toNat_ofNat, Nat.mod_eq_of_lt m1, Nat.mod_eq_of_lt m2, e]
    simp)
  have q2 := congrArg BitVec.toNat q
  rw [BitVec.toNat_add, BitVec.toNat_or, BitVec.toNat_ofNat, BitVec.toNat_ofNat, Nat.mod_eq_of_lt m1, Nat.mod_eq_of_lt m2, Nat.mod_eq_of_lt l3] at q2
  exact q2
end Bit
namespace L2
open PySem PySem.Spec PyProof.Rows Mth

theorem bt_len : bootBuiltins "len" = some (.builtin "len") := by decide +kernel
theorem bt_isinstance : bootBuiltins "isinstance" = some (.builtin "isinstance") := by decide +kernel
theorem bt_list : bootBuiltins "list" = some (.type "list") := by decide +kernel
theorem bt_int : bootBuiltins "int" = some (.type "int") := by decide +kernel
theorem bt_bool : bootBuiltins "bool" = some (.type "bool") := by decide +kernel

theorem bd_bits {n : Nat} {x : Int} (h : Bd n x) : Builtin.Int.intBits x ≤ n := PySem.intBits_le_iff.mpr h
theorem bits_bd {n : Nat} {x : Int} (h : Builtin.Int.intBits x ≤ n) : Bd n x := PySem.intBits_le_iff.mp h

section
variable {X : Cx}
def CMulB (i j : Int) : Prop := ∃ m n, Bd m i ∧ Bd n j ∧ m + n ≤ 100000000
def CDivB (_ j : Int) : Prop := j ≠ 0 ∧ Bd 8999 j
theorem op_mulB : OpR X (binaryOp .Mult) (rI CMulB fun i j => .int (i * j)) := opI fun _ _ _ _ _ _ _ hc q => by
  obtain ⟨m, n, h1, h2, h3⟩ := hc
  exact mul_int q (IntMulOk.of_le (bd_bits h1) (bd_bits h2) (by omega))
theorem op_fdivB : OpR X (binaryOp .FloorDiv) (rI CDivB fun i j => .int (i.fdiv j)) := opI fun _ _ _ _ _ _ _ hc q => by
  have h2 : Bd 8999 _ := hc.2
  exact floordiv_int hc.1 q (.inl (PyProof.noPylong_of_log2 (Nat.lt_of_lt_of_le (h2.log (by decide)) (by decide))))
/-- xs[i] of a list or a tuple -/
def rIxA (K : PySem.W.Frag) : R2 := fun x y H Q => ∃ p xs i v, x = .ref p ∧ y = .int i ∧ (SqL K H p xs ∨ SqT K H p xs) ∧ atI xs i = some v ∧ Q v H
theorem ix_any : IxR X (rIxA X.K) := by
  intro value slice pins s σ H x y v u Q I rx ry h hs
  obtain ⟨p, xs, i, w, e1, e2, hq, e3, q⟩ := h
  rcases hq with hq | hq
  · exact ix_list value slice pins s σ H x y v u Q I rx ry ⟨p, xs, i, w, e1, e2, hq, e3, q⟩ hs
  · exact ix_tup value slice pins s σ H x y v u Q I rx ry ⟨p, xs, i, w, e1, e2, hq, e3, q⟩ hs
/-- isinstance(x, c), c one class -/
theorem call_isinst : CallR X (.builtin "isinstance") (fun xs H Q => ∃ x c t cv b, xs = [x, c] ∧ TyOf X.K H x t ∧ RelV c cv ∧ PySem.W.kitOne X.K t cv = some b ∧ Q (.bl b) H) := by
  intro pins s σ H xs us Q I r h
  obtain ⟨x, c, t, cv, b, rfl, ty, rc, e, q⟩ := h
  obtain ⟨u, w', rfl, r1, r2⟩ := vals2 r
  have : w' = cv := by
    cases c with
    | non => cases r2; cases rc; rfl
    | bl b => cases r2; cases rc; rfl
    | ref a => cases r2; cases rc; rfl
    | ty n => cases r2; cases rc; rfl
    | int i => exact absurd e (by obtain ⟨k, rfl⟩ := rc; intro z; unfold PySem.W.kitOne PySem.W.kitCls at z; cases ty <;> simp at z)
    | str i => exact absurd e (by obtain ⟨k, rfl⟩ := rc; intro z; unfold PySem.W.kitOne PySem.W.kitCls at z; cases ty <;> simp at z)
    | byt i => exact absurd e (by obtain ⟨k, rfl⟩ := rc; intro z; unfold PySem.W.kitOne PySem.W.kitCls at z; cases ty <;> simp at z)
    | flt i => exact absurd e (by obtain ⟨k, rfl⟩ := rc; intro z; unfold PySem.W.kitOne PySem.W.kitCls at z; cases ty <;> simp at z)
  subst this
  exact isinst_ok I r1 ty e fun tk => ⟨.bl b, H, I.tok _, rfl, q⟩
end

def Has (K : PySem.W.Frag) (mg : Str → Option Value) (x : Str) (st : Stmt) : Prop := ∃ f fd, mg x = some (.ref f) ∧ Fun K x x st f fd
def Def (P : Program) (w : World) (K : PySem.W.Frag) (mg : Str → Option Value) (base : Heap) (x : Str) (k : Nat) (ps : List Str) (sp : Sp) : Prop :=
  ∃ f fd, mg x = some (.ref f) ∧ PySem.W.keepIn K (.ref f) = true ∧ Binds K fd ps [] ∧ FnOk P w K mg base CX0 k f fd ps sp
section
variable {P : Program} {w : World} {K : PySem.W.Frag} {mg : Str → Option Value} {base : Heap}
theorem Has.def {x : Str} {st : Stmt} {N ps : List Str} {k : Nat} {sp : Sp} (h : Has K mg x st) (S : FnScope N ps (defScope st)) (len : ∀ vs H Q E, sp vs H Q E → vs.length = ps.length)
    (hb : ∀ (kV doc pm : Value) (an : Option Addr) (cdv ct : Value) (us : List Value), us.length = ps.length → bindArgs (PySem.W.fnOf x x (defArgs st) (defBody st) (defScope st) .none kV doc pm an cdv ct) ⟨us, []⟩ = pure (ps.zip us))
    (hbody : ∀ (f : Addr) (cdv : Value) (A : Around) (outer : List Env) (s : Shared) (H : Hp) (vs : List V) (Q : VK) (E : XK), Room k (A.deeper (envOfC x (defScope st) s.heap.objs.size f cdv)) → sp vs H Q E →
      ∃ t, PSs (cxOf CX0 P w K mg base N x (defScope st) f cdv A outer s H E).nox (defBody st) t ∧ t { nx := fun _ H' => Q .non H', rt := Q } (start N vs) H) : Def P w K mg base x (k + 1) ps sp := by
  obtain ⟨f, fd, hm, F⟩ := h
  exact ⟨f, fd, hm, F.kp, F.binds hb, F.ok S len fun cdv A outer s H vs Q E hr hs => hbody f cdv A outer s H vs Q E hr hs⟩
theorem Def.mono {x : Str} {j k : Nat} {ps : List Str} {sp : Sp} (D : Def P w K mg base x j ps sp) (h : j ≤ k) : Def P w K mg base x k ps sp :=
  let ⟨f, fd, a, b, c, d⟩ := D; ⟨f, fd, a, b, c, d.mono h⟩
theorem Fun.binds1 {x qual : Str} {st : Stmt} {f : Addr} {fd : FuncData} {p : Str} (F : Fun K x qual st f fd)
    (h : ∀ (kV doc pm : Value) (an : Option Addr) (cdv ct : Value) (u : Value), bindArgs (PySem.W.fnOf x qual (defArgs st) (defBody st) (defScope st) .none kV doc pm an cdv ct) ⟨[u], []⟩ = pure [(p, u)]) (s : Shared) (u : Value) : BindsTo s fd ⟨[u], []⟩ [(p, u)] := by
  obtain ⟨oc, od, kV, doc, pm, an, cdv, ct, osl, rfl, lk, hcd⟩ := F.ex
  exact .of_eq (h kV doc pm an cdv ct u)
end
section
variable {X : Cx} {x : Str} {p pos : Pos} {e : Expr} {es : List Expr} {t : TA} {k : Nat} {ps : List Str} {sp : Sp}
theorem pe_callD (D : Def X.prog X.w X.K X.mg X.base x k ps sp) (hr : Room k X.A) (ha : PA X (e :: es) t) (hg : Gl X x := by rfl) (hdb : (x == ("__debug__" : Str)) = false := by decide)
    (he : starEach (e :: es) X.env = (false, eval e X.env) :: starEach es X.env := by rfl) (hpl : (backTo pos (starEach es X.env)).any (·.1) = false := by rfl) : PE X (.Call (.Name x p) (e :: es) [] pos) (tCall sp [] E0 t) := by
  obtain ⟨f, fd, hm, hk, hb, F⟩ := D
  exact pe_call F hr hg hm hk hb .nil pass0 ha hdb he hpl
end

theorem weight_int {n : Int} {m : Nat} (h : (PySem.W.WData.int n).weight ≤ m) : Bd m n := by
  refine bits_bd ?_
  simpa only [PySem.W.WData.weight, Builtin.Int.intBits] using h
end L2
namespace Att
open PySem PySem.W PySem.Calls PyProof.Rows Mth
theorem attach_callB {l : OpenLaw} {n : Nat} {q : Program} {loose : List Str} {XP : (Str → Option Value) → Heap → Prop} {YP : World → Heap → Prop} {d : DefRec}
    (hn : l.most = some n) (hdf : d.params.defaults = [])
    (call : ∀ (w : World) (s₀ s₁ : Shared) (mg mb : Str → Option Value) (fa : Addr) (o : Obj) (pm cd doc : Value) (a : Addr) (vs : List Value) (ns : List Int),
      Ground q loose [] XP w s₀ mg mb s₁.heap → YP w s₁.heap →
      s₁.heap.get? fa = some o → o.data = .func (docDef d.name d.params d.body d.scope pm cd doc) → s₁.heap.CodeRec cd d.name → mg d.name = some (.ref fa) →
      s₁.heap.get? a = some { cls := .type "list", data := .seq vs.toArray } → IntsAre vs ns → ns.length ≤ n → (∀ z ∈ ns, Bd 1048576 z) → s₁.gens = #[] →
      codeAny (model l.prog w) callerA (.call (.ref fa) ⟨[.ref a], []⟩) (fun r s' => r = .ok (.ret (.bool true)) ∧ OldK s₁.heap s'.heap ∧ s'.os = s₁.os ∧ AllBare s'.gens) s₁) :
    WalkO q loose XP YP l.row.toRowW d [] (fun f vs => PySem.call f vs) := by
  intro w s₀ s₁ mg mb G Y fa o pm cd doc dV kV ho hd hcd hD hmg hg args vals as hpre hlay hrd hwl hlo
  obtain rfl : dV = .none := Dflts.none hD hdf
  obtain rfl : kV = .none := Dflts.noKw hD
  obtain ⟨a, vs, ns, rfl, rfl, hobj, hints, hlen⟩ := script_of hn hpre hwl
  have hbits : ∀ z ∈ ns, Bd 1048576 z := fun z hz => by
    have h1 := layableW_arg hlay _ (List.mem_singleton.mpr rfl)
    have h2 := layableW_item h1 (.int z) (List.mem_map.mpr ⟨z, hz, rfl⟩)
    exact L2.weight_int (Nat.le_trans (layableW_iff.mp h2).2.2 (by decide))
  refine enter_call (codeAny_mono (call w s₀ s₁ mg mb fa o pm cd doc a vs ns G Y ho (fd_plain hd) hcd hmg hobj hints hlen hbits hg) fun r s' hq => ?_)
  obtain ⟨rfl, h2, h3, h4⟩ := hq
  exact ⟨.inl ⟨.bool true, .bool true, [], rfl, fun _ => rfl, .bool true, post_true l _, fun _ => ⟨List.Pairwise.nil, fun _ hm => (nomatch hm)⟩⟩, h2, h3, h4⟩
end Att
namespace L2
open PySem PySem.Spec PyProof.Rows Mth
/-- law's promise: a list of at most 63 ints (each below 2 ^ 2 ^ 20) is handed in, True comes out -/
def sp_law (K : PySem.W.Frag) : Sp := fun vs H Q _ => ∃ (a : Addr) (ns : List Int), vs = [.ref a] ∧ SqL K H a (ns.map V.int) ∧ ns.length ≤ 63 ∧ (∀ z ∈ ns, Bd 1048576 z) ∧ ∀ H', Q (.bl true) H'
theorem walk_ofB {l : PySem.W.OpenLaw} {k : Nat} {q : Program} {loose : List Str} {XP : (Str → Option Value) → Heap → Prop} {YP : World → Heap → Prop} {d : DefRec} {K : Params → PySem.W.Frag} {x : Str}
    (hn : l.most = some 63) (hdf : d.params.defaults = []) (hr : Room k callerA)
    (hY : ∀ (w : World) (h : Heap), YP w h → (K w.params).In h)
    (F : ∀ (w : World) (mg : Str → Option Value) (fa : Addr) (h : Heap), (K w.params).In h → h.Ns mainGlobals mg → mg d.name = some (.ref fa) →
      ∃ fd : FuncData, (∀ (s : Shared) (u : Value), BindsTo s fd ⟨[u], []⟩ [(x, u)]) ∧
        ∀ base : Heap, (K w.params).In base → base.Ns mainGlobals mg → FnOk l.prog w (K w.params) mg base CX0 k fa fd [x] (sp_law (K w.params))) :
    PySem.W.WalkO q loose XP YP l.row.toRowW d [] (fun f vs => PySem.call f vs) := by
  refine Att.attach_callB hn hdf fun w s₀ s₁ mg mb fa o pm cd doc a vs ns G Y ho hd hcd hmg hobj hints hlen hbits hg => ?_
  have KX := hY w _ Y
  obtain ⟨fd, hb, hF⟩ := F w mg fa _ KX G.T.g hmg
  exact law_call KX G.T.g G.T.b G.T.builtins G.T.nolimit hg hobj hints (Nat.le_trans hlen (by decide)) hr hF hb (fun H hO hS => ⟨a, ns, rfl, hS, hlen, hbits, fun _ => rfl⟩) fun H e s' z => z
section
variable {X : Cx}
def rAddL : R2 := fun x y H Q => ∃ i j, x = .int i ∧ y = .int j ∧ ∀ r : Int, r = i + j → Q (.int r) H
def rSubL : R2 := fun x y H Q => ∃ i j, x = .int i ∧ y = .int j ∧ ∀ r : Int, r = i - j → Q (.int r) H
def rMulL : R2 := fun x y H Q => ∃ i j, x = .int i ∧ y = .int j ∧ CMulB i j ∧ ∀ r : Int, r = i * j → Q (.int r) H
def rDivL : R2 := fun x y H Q => ∃ i j, x = .int i ∧ y = .int j ∧ CDivB i j ∧ ∀ r : Int, r = i.fdiv j → Q (.int r) H
def rPowL : R2 := fun x y H Q => ∃ i j, x = .int i ∧ y = .int j ∧ CPow i j ∧ ∀ r : Int, r = i ^ j.toNat → Q (.int r) H
def rShlL : R2 := fun x y H Q => ∃ i j, x = .int i ∧ y = .int j ∧ CPow i j ∧ ∀ r : Int, r = i * 2 ^ j.toNat → Q (.int r) H
def rShrL : R2 := fun x y H Q => ∃ i j, x = .int i ∧ y = .int j ∧ 0 ≤ j ∧ ∀ r : Int, r = i / 2 ^ j.toNat → Q (.int r) H
def rOrL : R2 := fun x y H Q => ∃ i j, x = .int i ∧ y = .int j ∧ ∀ r : Int, r = Builtin.bitOr i j → Q (.int r) H
def rAndL : R2 := fun x y H Q => ∃ i j, x = .int i ∧ y = .int j ∧ ∀ r : Int, r = Builtin.bitAnd i j → Q (.int r) H
def rLM : R2 := fun x y H Q => ∃ i j, x = .int i ∧ y = .int j ∧ 0 < j ∧ ∀ r : Int, 0 ≤ r → r < j → r = i % j → Q (.int r) H
theorem op_addL : OpR X (binaryOp .Add) rAddL := fun pins s σ H x y v u Q I rx ry ⟨i, j, e1, e2, q⟩ => op_add pins s σ H x y v u Q I rx ry ⟨i, j, e1, e2, q _ rfl⟩
theorem op_subL : OpR X (binaryOp .Sub) rSubL := fun pins s σ H x y v u Q I rx ry ⟨i, j, e1, e2, q⟩ => op_sub pins s σ H x y v u Q I rx ry ⟨i, j, e1, e2, q _ rfl⟩
theorem op_mulL : OpR X (binaryOp .Mult) rMulL := fun pins s σ H x y v u Q I rx ry ⟨i, j, e1, e2, c, q⟩ => op_mulB pins s σ H x y v u Q I rx ry ⟨i, j, e1, e2, c, q _ rfl⟩
theorem op_fdivL : OpR X (binaryOp .FloorDiv) rDivL := fun pins s σ H x y v u Q I rx ry ⟨i, j, e1, e2, c, q⟩ => op_fdivB pins s σ H x y v u Q I rx ry ⟨i, j, e1, e2, c, q _ rfl⟩
theorem op_powL : OpR X (binaryOp .Pow) rPowL := fun pins s σ H x y v u Q I rx ry ⟨i, j, e1, e2, c, q⟩ => op_pow pins s σ H x y v u Q I rx ry ⟨i, j, e1, e2, c, q _ rfl⟩
theorem op_shlL : OpR X (binaryOp .LShift) rShlL := fun pins s σ H x y v u Q I rx ry ⟨i, j, e1, e2, c, q⟩ => op_shl pins s σ H x y v u Q I rx ry ⟨i, j, e1, e2, c, q _ rfl⟩
theorem op_shrL : OpR X (binaryOp .RShift) rShrL := fun pins s σ H x y v u Q I rx ry ⟨i, j, e1, e2, c, q⟩ => op_shr pins s σ H x y v u Q I rx ry ⟨i, j, e1, e2, c, q _ rfl⟩
theorem op_orL : OpR X (binaryOp .BitOr) rOrL := fun pins s σ H x y v u Q I rx ry ⟨i, j, e1, e2, q⟩ => op_or pins s σ H x y v u Q I rx ry ⟨i, j, e1, e2, q _ rfl⟩
theorem op_modL : OpR X (binaryOp .Mod) rLM := fun pins s σ H x y v u Q I rx ry ⟨i, j, e1, e2, c, q⟩ =>
  op_mod pins s σ H x y v u Q I rx ry ⟨i, j, e1, e2, c, q _ (Int.emod_nonneg _ (by omega)) (Int.emod_lt_of_pos _ c) rfl⟩
theorem call_lenL : CallR X (.builtin "len") (fun xs H Q => ∃ p ys, xs = [.ref p] ∧ (SqL X.K H p ys ∨ SqT X.K H p ys) ∧ ∀ r : Int, r = ys.length → Q (.int r) H) :=
  fun pins s σ H xs us Q I r ⟨p, ys, e, hq, q⟩ => call_len_seq pins s σ H xs us Q I r ⟨p, ys, e, hq, q _ rfl⟩
def tCut (t : TS) : TS := fun D σ H => ∃ P : St → Hp → Prop, t { D with nx := P } σ H ∧ ∀ σ' H', P σ' H' → D.nx σ' H'
theorem ps_cut {st : Stmt} {t : TS} (h : PS X st t) : PS X st (tCut t) := by
  intro pins s σ H D I hw
  obtain ⟨P, h1, h2⟩ := hw
  refine thn (h pins s σ H { D with nx := P } I h1) fun f s1 q => ?_
  cases f with
  | next =>
    obtain ⟨σ', H', I', q⟩ := q
    exact ⟨σ', H', I', h2 σ' H' q⟩
  | ret v => exact q
  | brk => exact q
  | cont => exact q
end
theorem iteN {c A B : Prop} [Decidable c] (hc : ¬ c) (h : B) : if decide c = true then A else B := by
  rw [decide_eq_false hc]; exact iteF h
theorem ite4 {c A B : Prop} [Decidable c] (h1 : ¬ c → A) (h2 : c → B) : if (!decide c) = true then A else B := by
  by_cases h : c
  · exact iteNS h (h2 h)
  · rw [decide_eq_false h]; exact iteT (h1 h)
theorem blT {c : Prop} [Decidable c] (h : c) {Q : VK} {H : Hp} (q : Q (.bl true) H) : Q (.bl (decide c)) H := by rw [decide_eq_true h]; exact q
theorem int_inj {a b : Int} : V.int a = V.int b ↔ a = b := ⟨fun e => by cases e; rfl, fun e => by rw [e]⟩
theorem same_upd {H : Hp} {p : Addr} {o : HO} (h : H p = none) : Same H (upd H p o) := fun b u e => by rw [upd_ne (ne_of_none e h)]; exact e
theorem Same.tup {K : PySem.W.Frag} {H H' : Hp} {a : Addr} {xs : List V} (e : Same H H') (h : SqT K H a xs) : SqT K H' a xs := by
  rcases h with (h | ⟨o, h⟩) | h
  · exact .inl (.inl (e _ _ h))
  · exact .inl (.inr ⟨o, e _ _ h⟩)
  · exact .inr h
theorem bdS {x : Int} (n : Nat) (lo : -(2 ^ 100) < x) (hi : x < 2 ^ 100) (h : 100 ≤ n := by decide) : Bd n x := by
  have : Bd 100 x := by unfold Bd; omega
  exact this.mono h
theorem kit_int_bool (K : PySem.W.Frag) : PySem.W.kitOne K (.type "int") (.type "bool") = some false := by
  show (if PySem.W.kitMeta "bool" = true then ((PySem.fastBuiltinMro "int").map (·.contains (Value.type "bool"))) else none) = some false
  decide +kernel
theorem sz2 {x y : V} : [x, y].length ≤ sizeLine := by show 2 ≤ sizeLine; decide
def sp_gcd : Sp := fun vs H Q _ => ∃ a b : Int, vs = [.int a, .int b] ∧ ∀ r : Int, r = ((Int.gcd a b : Nat) : Int) → Q (.int r) H
def sp_fraction : Sp := fun vs H Q _ => ∃ t b : Int, vs = [.int t, .int b] ∧ b ≠ 0 ∧ Bd 4000 b ∧ ∀ q r p H', Fr t b q r → Same H H' → H' p = some (.tup [.int q, .int r]) → Q (.ref p) H'
def sp_arith (f : Int → Int → Int → Int → Int) (K : PySem.W.Frag) : Sp := fun vs H Q _ => ∃ p1 p2 a b c d, vs = [.ref p1, .ref p2] ∧ SqT K H p1 [.int a, .int b] ∧ SqT K H p2 [.int c, .int d] ∧ 0 < b ∧ 0 < d ∧
  Bd 1000 a ∧ Bd 1000 b ∧ Bd 1000 c ∧ Bd 1000 d ∧ ∀ q r p H', Fr (f a b c d) (b * d) q r → Same H H' → H' p = some (.tup [.int q, .int r]) → Q (.ref p) H'
def sp_under (K : PySem.W.Frag) : Sp := fun vs H Q _ => ∃ p1 p2 a b c d, vs = [.ref p1, .ref p2] ∧ SqT K H p1 [.int a, .int b] ∧ SqT K H p2 [.int c, .int d] ∧
  Bd 1000 a ∧ Bd 1000 b ∧ Bd 1000 c ∧ Bd 1000 d ∧ Q (.bl (decide (a * d < c * b))) H
def sp_cell_at (K : PySem.W.Frag) : Sp := fun vs H Q _ => ∃ (a : Addr) (ns : List Int) (k : Int), vs = [.ref a, .int k] ∧ SqL K H a (ns.map V.int) ∧ 0 ≤ k ∧ ∀ z, (z ∈ ns ∨ z = 0) → Q (.int z) H
def sp_number_by : Sp := fun vs H Q _ => ∃ c : Int, vs = [.int c] ∧ ∀ n, Bd 110 n → Q (.int n) H
def sp_ratio : Sp := fun vs H Q _ => ∃ t b : Int, vs = [.int t, .int b] ∧ 0 < b ∧ Bd 4000 b ∧ ∀ q r p H', Fr t b q r → Same H H' → H' p = some (.tup [.int q, .int r]) → Q (.ref p) H'
end L2
namespace L2
open PySem PySem.Spec PyProof.Rows Mth

/-- the comprehension's block: its own frame's names N', the closure cl -/
def cxComp (X : Cx) (N' : List Str) (scope : Scope) (cl : List (Str × Addr)) (C : Addr) (s : Shared) (H : Hp) (ex : List Addr) : Cx :=
  { X with N := N', env := compEnvC scope cl C X.env, s₀ := s, H₀ := H, outer := X.stack, ex := ex, fn := fun _ => false, pn := [], xe := fun _ _ => False }

theorem Un.same_but {fs ex : List Addr} {H H' : Hp} {h h' h'' : Heap} {C : Addr} (u : Un fs ex H H' h h') (sb : Heap.SameBut C h' h'') (hC : h.get? C = none) : Un fs ex H H' h h'' := by
  have ne : ∀ b o, h.get? b = some o → b ≠ C := fun b o e z => by rw [z, hC] at e; cases e
  exact ⟨fun b o e n hb hx => sb.extBut b o (ne b o e) (u.keep b o e n hb hx), fun b o e n hb hx => by
      obtain ⟨sl, q⟩ := u.slot b o e n hb hx
      exact ⟨sl, sb.extBut b _ (ne b o e) q⟩, u.free, fun b o e hx => by
      obtain ⟨o', q⟩ := u.there b o e hx
      exact ⟨o', sb.extBut b o' (ne b o e) q⟩, u.tups, u.frzs, u.tbls⟩
theorem HOk.same_but {P : Program} {w : World} {H : Hp} {h h' : Heap} {C : Addr} (x : HOk P w H h) (sb : Heap.SameBut C h h') (hn : H C = none) : HOk P w H h' := fun a o e =>
  (x a o e).stay (fun b u hb q => sb.extBut b u (fun z => by
    subst z
    rcases hb with z | z
    · rw [z, e] at hn; cases hn
    · rw [z] at hn; cases hn) q) (fun _ q => q) fun _ _ q => q

/-- the tests of a comprehension -/
def PIf (X : Cx) (ifs : List Expr) (tt : TT) : Prop :=
  ∀ (pins : List (Addr × Obj)) (s : Shared) (σ : St) (H : Hp) (Q : Bool → Hp → Prop), Inv X pins σ H s → tt σ H Q →
    wpAny (model X.prog X.w) X.A (forIn ifs true fun c r => if r = true then do let ok ← isTrue c X.env (eval c X.env); pure (ForInStep.yield ok) else pure (ForInStep.yield r)) (TP X pins σ Q) X.xe s
def tYes : TT := fun _ H Q => Q true H
theorem pif_one {X : Cx} {c : Expr} {tt : TT} (hc : PT X c tt) : PIf X [c] tt := fun pins s σ H Q I h => wpAny_tests_one (hc pins s σ H Q I h)

def closL (env : Env) : List (Str × NameKind) → List (Str × Addr) → List (Str × Addr)
  | [], acc => acc
  | y :: r, acc => closL env r (if (y.2 == NameKind.free) = true then (y.1, (env.cells.lookup y.1).getD 0) :: acc else acc)
theorem clos_go (env : Env) : ∀ (names : List (Str × NameKind)) (acc : List (Str × Addr)), (∀ y ∈ names, y.2 = .free → ∃ c, env.cells.lookup y.1 = some c) →
    (forIn names acc fun x __s => if (x.snd == NameKind.free) = true then do
        let __do_lift ← cellOf env x.fst
        pure (ForInStep.yield ((x.fst, __do_lift) :: __s))
      else pure (ForInStep.yield __s)) = (pure (closL env names acc) : Sem _)
  | [], acc, _ => rfl
  | y :: r, acc, h => by
    rw [List.forIn_cons]
    by_cases hk : (y.2 == NameKind.free) = true
    · obtain ⟨c, e⟩ := h y List.mem_cons_self (beq_iff_eq.mp hk)
      rw [if_pos hk]
      have ec : cellOf env y.1 = pure c := by unfold cellOf; rw [e]
      rw [ec]
      simp only [pure_bind]
      rw [clos_go env r _ fun z hz => h z (List.mem_cons_of_mem _ hz)]
      simp only [closL, hk, if_true, e, Option.getD_some]
    · rw [if_neg hk]
      simp only [pure_bind]
      rw [clos_go env r _ fun z hz => h z (List.mem_cons_of_mem _ hz)]
      simp only [closL, hk, if_false]
      rfl
theorem clos_eq {scope : Scope} {env : Env} (h : ∀ y ∈ scope.names, y.2 = .free → ∃ c, env.cells.lookup y.1 = some c) : closureFor scope env = pure (closL env scope.names []) := by
  simp only [closureFor]
  rw [clos_go env scope.names [] h]
  simp only [pure_bind]
theorem closL_sub {env : Env} : ∀ {names : List (Str × NameKind)} {acc : List (Str × Addr)}, (∀ y ∈ names, y.2 = .free → ∃ c, env.cells.lookup y.1 = some c) → (∀ x c, acc.lookup x = some c → env.cells.lookup x = some c) →
    ∀ x c, (closL env names acc).lookup x = some c → env.cells.lookup x = some c
  | [], _, _, ha, x, c, e => ha x c e
  | y :: r, acc, h, ha, x, c, e => by
    refine closL_sub (names := r) (fun z hz => h z (List.mem_cons_of_mem _ hz)) ?_ x c e
    intro x c e
    by_cases hk : (y.2 == NameKind.free) = true
    · rw [if_pos hk] at e
      obtain ⟨c', e'⟩ := h y List.mem_cons_self (beq_iff_eq.mp hk)
      rw [e', Option.getD_some, List.lookup_cons] at e
      cases q : x == y.1 with
      | true => rw [q] at e; cases e; rw [beq_iff_eq.mp q]; exact e'
      | false => rw [q] at e; exact ha x c e
    · rw [if_neg hk] at e; exact ha x c e
theorem closL_acc {env : Env} : ∀ {names : List (Str × NameKind)} {acc : List (Str × Addr)} {x : Str}, (∃ c, acc.lookup x = some c) → ∃ c, (closL env names acc).lookup x = some c
  | [], _, _, h => h
  | y :: r, acc, x, ⟨c, h⟩ => by
    refine closL_acc (names := r) ?_
    by_cases hk : (y.2 == NameKind.free) = true
    · rw [if_pos hk, List.lookup_cons]
      cases q : x == y.1 with
      | true => exact ⟨_, rfl⟩
      | false => exact ⟨c, h⟩
    · rw [if_neg hk]; exact ⟨c, h⟩
theorem closL_has {env : Env} : ∀ {names : List (Str × NameKind)} {acc : List (Str × Addr)} {y : Str × NameKind}, y ∈ names → y.2 = .free → ∃ c, (closL env names acc).lookup y.1 = some c
  | z :: r, acc, y, hm, hk => by
    rcases List.mem_cons.mp hm with rfl | hm
    · refine closL_acc (names := r) ?_
      rw [if_pos (beq_iff_eq.mpr hk), List.lookup_cons]
      simp
    · exact closL_has (names := r) hm hk
theorem relabel_of {scope : Scope} {env : Env} {x : Str} {k : NameKind} (h : (relabel scope env).names.lookup x = some k) (hk : k = .cell ∨ k = .free) (hcell : ∀ y ∈ scope.names, y.2 ≠ .cell) : (x, NameKind.free) ∈ scope.names := by
  have hm := PySem.mem_of_lookup h
  obtain ⟨⟨n, k0⟩, h1, h2⟩ := List.mem_map.mp hm
  dsimp only at h2
  split at h2
  · rename_i hc
    cases h2
    have : (k0 == NameKind.free) = true := by
      simp only [Bool.and_eq_true] at hc
      exact hc.1.1
    rw [beq_iff_eq.mp this] at h1
    exact h1
  · cases h2
    rcases hk with rfl | rfl
    · exact absurd rfl (hcell _ h1)
    · exact h1
theorem lookup_relabel_free {env : Env} : ∀ {names : List (Str × NameKind)} {x : Str}, names.lookup x = some .free →
    (names.map fun (n, k) => if (k == NameKind.free && env.scope.kind == .function && env.kindOf n == some .cell) then (n, NameKind.cell) else (n, k)).lookup x = some .cell ∨
    (names.map fun (n, k) => if (k == NameKind.free && env.scope.kind == .function && env.kindOf n == some .cell) then (n, NameKind.cell) else (n, k)).lookup x = some .free
  | [], _, h => by simp at h
  | (n, k) :: r, x, h => by
    have ih := @lookup_relabel_free env r x
    show List.lookup x ((if (k == NameKind.free && env.scope.kind == .function && env.kindOf n == some .cell) = true then (n, NameKind.cell) else (n, k)) :: _) = _ ∨ List.lookup x ((if (k == NameKind.free && env.scope.kind == .function && env.kindOf n == some .cell) = true then (n, NameKind.cell) else (n, k)) :: _) = _
    cases hx : x == n with
    | true =>
      simp only [List.lookup_cons, hx] at h
      cases h
      by_cases hc : (NameKind.free == NameKind.free && env.scope.kind == .function && env.kindOf n == some .cell) = true
      · rw [if_pos hc]; simp [List.lookup_cons, hx]
      · rw [if_neg hc]; simp [List.lookup_cons, hx]
    | false =>
      simp only [List.lookup_cons, hx] at h
      by_cases hc : (k == NameKind.free && env.scope.kind == .function && env.kindOf n == some .cell) = true
      · rw [if_pos hc]; simp only [List.lookup_cons, hx]; exact ih h
      · rw [if_neg hc]; simp only [List.lookup_cons, hx]; exact ih h
section
variable {prog : Program} {w : World} {A : Around} {E : Value → Shared → Prop} {R : Result → Shared → Prop} {s : Shared}
theorem compLoop_go {elt target iter : Expr} {ifs : List Expr} {scope : Scope} {pos : Pos} {it acc : Value} {env : Env} (I : Nat → Shared → Prop)
    (turn : ∀ n s, I n s → wpAny (model prog w) A (pyNext it) (fun r s₁ => match r with
      | none => R (.ok .next) s₁
      | some v => wpAny (model prog w) A (letOwnedTupleGo target it v) (fun _ s₁ => wpAny (model prog w) A (assign target env v) (fun _ s₂ =>
          wpAny (model prog w) A (forIn ifs true fun c r => if r = true then do let ok ← isTrue c env (eval c env); pure (ForInStep.yield ok) else pure (ForInStep.yield r)) (fun ok s₃ =>
            if ok = true then wpAny (model prog w) A (eval elt env) (fun x s₄ =>
              wpAny (model prog w) A (call (.builtin "list.append") [acc, x]) (fun _ s₅ => ∃ m, m < n ∧ I m s₅) (notedBy (model prog w) A env fun e s' => R (.error e) s') s₄) (notedBy (model prog w) A env fun e s' => R (.error e) s') s₃
            else ∃ m, m < n ∧ I m s₃) (notedBy (model prog w) A env fun e s' => R (.error e) s') s₂) (notedBy (model prog w) A env fun e s' => R (.error e) s') s₁) (notedBy (model prog w) A env fun e s' => R (.error e) s') s₁) (notedBy (model prog w) A env fun e s' => R (.error e) s') s)
    (n : Nat) (h : I n s) :
    codeAny (model prog w) A (.compLoop (.ListComp elt [⟨target, iter, ifs, 0⟩] scope pos) 0 it acc env) R s := by
  refine codeAny_loop rfl I (fun n s hI => ?_) n h
  show wpAny _ A ((compTurn (.ListComp elt [⟨target, iter, ifs, 0⟩] scope pos) 0 it acc env).onRaise (fun x => do noteFrame x env; theTreesLotGoes x)) _ _ s
  refine wpAny_noted ?_
  rw [compTurn_list]
  refine wpAny_bind (wpAny_standAt (wpAny_bind (wpAny_mono (turn n s hI) (fun r s₁ h₁ => ?_) fun _ _ h' => h')))
  cases r with
  | none => exact wpAny_pure h₁
  | some v =>
    refine wpAny_bind (wpAny_mono h₁ (fun _ s₁' h₁' => ?_) fun _ _ h' => h')
    refine wpAny_bind (wpAny_mono h₁' (fun _ s₂ h₂ => wpAny_bind (wpAny_mono h₂ (fun ok s₃ h₃ => ?_) fun _ _ h' => h')) fun _ _ h' => h')
    cases ok with
    | false => exact wpAny_pure ⟨rfl, h₃⟩
    | true =>
      exact wpAny_bind (wpAny_bind (wpAny_mono h₃ (fun x s₄ h₄ => wpAny_bind (wpAny_mono h₄ (fun _ s₅ h₅ => wpAny_pure (wpAny_pure ⟨rfl, h₅⟩)) fun _ _ h' => h')) fun _ _ h' => h'))
end
section
variable {X : Cx}
/-- readings: the turn's names come first, then the names of the frame that it reads (their slots) -/
def tComp (wi : TI) (g : TG) (tt : TT) (te : TE) (nt : Nat) (sl : List Nat) : TE := fun σ H Q => wi σ H fun J H1 => ∀ D, H1 D = none →
  ∃ W : Nat → Nat → List V → St → Hp → Prop, (∃ m, W 0 m [] (List.replicate nt none ++ sl.map fun j => (σ[j]?).join) (upd H1 D (.lst []))) ∧
    ∀ i m acc σ' H', W i m acc σ' H' →
      (J.stop i H' ∧ Q (.ref D) H') ∨
      (J.go i H' ∧ ∃ N : List V → St → Hp → Prop, (∀ acc' σ2 H4, N acc' σ2 H4 → ∃ m', m' < m ∧ W (i + 1) m' acc' σ2 H4) ∧ ∀ x H2, J.yld i H' x H2 → g x σ' H2 fun σ2 H3 => tt σ2 H3 fun b H4 =>
        if b = true then te σ2 H4 fun y H5 => H5 D = some (.lst acc) ∧ acc.length < sizeLine ∧ N (acc ++ [y]) σ2 (upd H5 D (.lst (acc ++ [y])))
        else N acc σ2 H4)

theorem pe_comp {elt tg iter : Expr} {ifs : List Expr} {scope : Scope} {pos : Pos} {wi : TI} {g : TG} {tt : TT} {te : TE} {N' : List Str} {nt : Nat} {sl : List Nat}
    (hc : X.calm = true) (hi : PI X tg iter wi) (hg : ∀ cl C s H ex, PG (cxComp X N' scope cl C s H ex) tg g) (ht : ∀ cl C s H ex, PIf (cxComp X N' scope cl C s H ex) ifs tt) (he : ∀ cl C s H ex, PE (cxComp X N' scope cl C s H ex) elt te)
    (hN' : N'.length = nt + sl.length) (hsl : ∀ k j : Nat, sl[k]? = some j → ∃ x, N'[nt + k]? = some x ∧ X.N[j]? = some x ∧ scope.names.lookup x = some .free)
    (hk : scope.kind = .function) (hcell : ∀ y ∈ scope.names, y.2 ≠ .cell) (hnames : ∀ y ∈ scope.names, y.2 = .local → scope.names.lookup y.1 = some .local)
    (hfree : ∀ y ∈ scope.names, y.2 = .free → X.env.kindOf y.1 = some .cell ∨ X.env.kindOf y.1 = some .free)
    (hs : ∀ x, foldedSetIterable iter X.env x = pure x := by intro _; rfl) :
    PE X (.ListComp elt [⟨tg, iter, ifs, 0⟩] scope pos) (tComp wi g tt te nt sl) := by
  intro pins s σ H Q I h
  have hcl : ∀ y ∈ scope.names, y.2 = .free → ∃ c, X.env.cells.lookup y.1 = some c := fun y hy hf => I.ok.has y.1 (hfree y hy hf)
  have csub := closL_sub (env := X.env) (names := scope.names) (acc := []) hcl (fun x c e => by simp at e)
  rw [eval_ListComp]
  refine wpAny_comprehension_free (use := none) (cl := closL X.env scope.names []) rfl hs (clos_eq hcl) hk hnames (thn (hi pins s σ H _ I h) fun v s1 h1 => thn h1 fun itv s2 h2 => ?_)
  obtain ⟨it, fp, tn, J, H2, rfl, I2, T, st2, f2, q⟩ := h2
  have nD : H2 s2.heap.objs.size = none := I2.hok.fresh (Nat.le_refl _)
  obtain ⟨W, ⟨m0, w0⟩, turn⟩ := q s2.heap.objs.size nD
  refine wpAny_newObj_type ?_ (by show 0 ≤ sizeLine; exact Nat.zero_le _)
  have I3 : Inv X pins σ (upd H2 s2.heap.objs.size (.lst [])) { s2 with heap := s2.heap.push { cls := .type "list", data := .seq ([] : List Value).toArray } } :=
    I2.laid (t' := s2.toks) (fun b u e => Heap.get?_push_of_some _ e) (Nat.le_refl _) ⟨Nat.zero_le _, [], 0, .nil, Heap.get?_push_size _ rfl⟩
  generalize hs3 : ({ s2 with heap := s2.heap.push { cls := .type "list", data := .seq ([] : List Value).toArray } } : Shared) = s3 at I3 ⊢
  have hle : s2.heap.objs.size ≤ s3.heap.objs.size := by rw [← hs3]; show _ ≤ (Heap.push _ _).objs.size; rw [Heap.size_push]; exact Nat.le_succ _
  have hkeep23 : ∀ b o, s2.heap.get? b = some o → s3.heap.get? b = some o := fun b o e => by rw [← hs3]; exact Heap.get?_push_of_some _ e
  refine wpAny_newFunctionEnv hcell (by intro y hy; simp at hy) (fun h₁ hns hsb => ?_) hk
  have keep1 : ∀ b o, s3.heap.get? b = some o → h₁.get? b = some o := fun b o e => hsb.extBut b o (Nat.ne_of_lt (Heap.lt_size e)) (Heap.get?_push_of_some _ e)
  have nC : (upd H2 s2.heap.objs.size (.lst [])) s3.heap.objs.size = none := I3.hok.fresh (Nat.le_refl _)
  have frC : s3.heap.get? s3.heap.objs.size = none := Heap.get?_none_of_le (Nat.le_refl _)
  -- the iterator's objects
  have fpIn : ∀ b ∈ fp, b < s2.heap.objs.size := fun b hb => by
    obtain ⟨o, e, _⟩ := T.obj _ _ st2 b hb
    exact Heap.lt_size e
  have fpC : ∀ b ∈ fp, b ≠ s3.heap.objs.size := fun b hb => Nat.ne_of_lt (Nat.lt_of_lt_of_le (fpIn b hb) hle)
  have fpD : ∀ b ∈ fp, b ≠ s2.heap.objs.size := fun b hb => Nat.ne_of_lt (fpIn b hb)
  have fpS : ∀ b ∈ fp, b ∉ frs X.stack := fun b hb hm => by
    rcases List.mem_cons.mp (I2.stkSub b hm) with z | z
    · exact (f2 b hb).2.1 z
    · exact (f2 b hb).2.2.1 z
  have csub' : ∀ x c, (closL X.env scope.names []).lookup x = some c → X.env.cells.lookup x = some c := csub
  have hch : ∀ b ∈ fp, (b ∈ X.ex ∨ X.s₀.heap.objs.size ≤ b) ∧ b ≠ X.env.locals ∧ (∀ x c, X.env.cells.lookup x = some c → c ≠ b) ∧ ∀ p ∈ X.pn ++ pins, p.1 ≠ b := fun b hb =>
    ⟨(f2 b hb).2.2.2.1, (f2 b hb).2.1, (f2 b hb).2.2.2.2.1, (f2 b hb).2.2.2.2.2⟩
  -- the block's context
  have ok' : (cxComp X N' scope (closL X.env scope.names []) s3.heap.objs.size s3 (upd H2 s2.heap.objs.size (.lst [])) fp).Ok := by
    refine ⟨I3.ok.mod, hk, I3.ok.glob, I3.ok.blt, Nat.le_refl _, fun x y c h1 h2 => I3.ok.inj x y c (csub x c h1) (csub y c h2), fun x hx => ?_, (fun x c hf => nomatch hf), I3.ok.hd, I3.ok.frames, .inl rfl, fun b hb => ⟨fpC b hb, fun x c e => (hch b hb).2.2.1 x c (csub x c e)⟩,
      I3.bs, Nat.le_trans I3.ok.bsz I3.sz, fun b o e hb => ?_, fpS, I3.stack, I3.stkFree⟩
    · have hm : (x, NameKind.free) ∈ scope.names := by
        rcases hx with hx | hx
        · exact relabel_of hx (.inl rfl) hcell
        · exact relabel_of hx (.inr rfl) hcell
      exact closL_has hm rfl
    · rcases (hch b hb).1 with z | z
      · exact I3.ok.noex b o e z
      · exact absurd (Nat.lt_of_lt_of_le (Heap.lt_size (I3.ok.bs b o e).1) z) (Nat.lt_irrefl _)
  have I4 : Inv (cxComp X N' scope (closL X.env scope.names []) s3.heap.objs.size s3 (upd H2 s2.heap.objs.size (.lst [])) fp) [] (List.replicate nt none ++ sl.map fun j => (σ[j]?).join) (upd H2 s2.heap.objs.size (.lst []))
      { s3 with heap := h₁, toks := s3.toks + ([] : List (Str × Value)).length } := by
    refine ⟨ok', rfl, I3.bare, Un.kept keep1, ⟨_, hns, fun i x v e1 e2 e3 => ?_⟩, fun x c e => ?_, nC, fun x c e => I3.freeC x c (csub x c e), fun p hp => absurd hp (by simp [cxComp]), I3.hok.kept keep1, ?_⟩
    · by_cases hi : i < nt
      · rw [List.getElem?_append_left (by simpa using hi), List.getElem?_replicate] at e2
        split at e2 <;> cases e2
      · rw [List.getElem?_append_right (by simpa using hi), List.length_replicate, List.getElem?_map] at e2
        cases ej : sl[i - nt]? with
        | none => rw [ej] at e2; cases e2
        | some j =>
          rw [ej] at e2
          have e2' : (σ[j]?).join = some v := Option.some.inj e2
          have eσ : σ[j]? = some (some v) := by
            cases q : σ[j]? with
            | none => rw [q] at e2'; cases e2'
            | some o => rw [q] at e2'; cases e2'; rfl
          obtain ⟨y, n1, n2, n3⟩ := hsl _ j ej
          have : nt + (i - nt) = i := by omega
          rw [this] at n1
          have exy : y = x := Option.some.inj (n1.symm.trans e1)
          subst exy
          have hm : (y, NameKind.free) ∈ scope.names := PySem.mem_of_lookup n3
          have hkx := hfree _ hm rfl
          obtain ⟨m, hn, hl⟩ := I3.loc
          have vis : Vis X.env.scope y := by
            rcases hkx with z | z
            · exact .inr (.inl z)
            · exact .inr (.inr z)
          obtain ⟨u, r, l⟩ := hl j y v n2 eσ vis
          refine ⟨u, r, .inr ⟨lookup_relabel_free n3, ?_⟩⟩
          obtain ⟨c, ec⟩ := closL_has (env := X.env) (acc := []) hm rfl
          refine ⟨c, ec, ?_⟩
          rcases l with ⟨k1, _⟩ | ⟨_, c', e', hcell'⟩
          · rcases hkx with z | z
            · rw [show X.env.kindOf y = some .local from k1] at z; cases z
            · rw [show X.env.kindOf y = some .local from k1] at z; cases z
          · have ecc : c = c' := Option.some.inj ((csub y c ec).symm.trans e')
            subst ecc
            obtain ⟨o, ho, hd⟩ := hcell'
            exact ⟨o, keep1 c o ho, hd⟩
    · obtain ⟨v, o, ho, hd⟩ := I3.cell x c (csub x c e)
      exact ⟨v, o, keep1 c o ho, hd⟩
    · show _ = N'.length
      rw [hN', List.length_append, List.length_replicate, List.length_map]
  have st4 : tn 0 h₁ := T.keep _ _ _ st2 fun b hb o e => keep1 b o (hkeep23 b o e)
  have fpok : ∀ {pl : List (Addr × Obj)} {H' : Hp}, pl = [] → (∀ b ∈ fp, H' b = none) → ∀ b ∈ fp, FpOk (cxComp X N' scope (closL X.env scope.names []) s3.heap.objs.size s3 (upd H2 s2.heap.objs.size (.lst [])) fp) pl H' b := fun {pl H'} hpl hn b hb => by
    subst hpl
    exact ⟨hn b hb, fpC b hb, fpS b hb, .inl hb, fun x c e => (hch b hb).2.2.1 x c (csub x c e), fun p hp => absurd hp (by simp [cxComp])⟩
  have fr4 : ∀ b ∈ fp, (upd H2 s2.heap.objs.size (.lst [])) b = none := fun b hb => by rw [upd_ne (fpD b hb)]; exact (f2 b hb).1
  have loop : codeAny (model X.prog X.w) X.A (.compLoop (.ListComp elt [⟨tg, iter, ifs, 0⟩] scope pos) 0 (.ref it) (.ref s2.heap.objs.size) (compEnvC scope (closL X.env scope.names []) s3.heap.objs.size X.env))
      (compPost (model X.prog X.w) X.A X.xe none (EP X pins σ Q) (.ref s2.heap.objs.size) s3.heap.objs.size) { s3 with heap := h₁, toks := s3.toks + ([] : List (Str × Value)).length } := by
    refine compLoop_go (fun n s' => ∃ i acc σ' H', Inv (cxComp X N' scope (closL X.env scope.names []) s3.heap.objs.size s3 (upd H2 s2.heap.objs.size (.lst [])) fp) [] σ' H' s' ∧ tn i s'.heap ∧ (∀ b ∈ fp, H' b = none) ∧ W i n acc σ' H') ?_ m0 ⟨0, [], _, _, I4, st4, fr4, w0⟩
    rintro n s5 ⟨i, acc, σ5, H5, I5, st5, fr5, w5⟩
    rcases turn i n acc σ5 H5 w5 with ⟨stop, qn⟩ | ⟨go, N, hN, step⟩
    · refine thn (T.done (cxComp X N' scope (closL X.env scope.names []) s3.heap.objs.size s3 (upd H2 s2.heap.objs.size (.lst [])) fp) rfl rfl rfl hc i [] s5 σ5 H5 _ I5 (fpok rfl fr5) st5 stop) fun r s6 ⟨hr, I6⟩ => ?_
      subst hr
      obtain ⟨m, hn, _⟩ := id I6.loc
      refine ⟨m, hn, fun h' sb => ⟨.ref s2.heap.objs.size, H5, ?_, rfl, qn⟩⟩
      exact I3.call' (s' := { s6 with heap := h' }) I6.os (I6.base.same_but sb frC) (I6.hok.same_but sb I6.free) I6.bare hch
    · refine thn (T.item (cxComp X N' scope (closL X.env scope.names []) s3.heap.objs.size s3 (upd H2 s2.heap.objs.size (.lst [])) fp) rfl rfl rfl hc i [] s5 σ5 H5 _ I5 (fpok rfl fr5) st5 go) fun r s6 ⟨u, hr, h6⟩ => ?_
      subst hr
      refine thn h6 fun _ s7 ⟨x, H7, I7, r7, y7, st7, fr7⟩ => ?_
      have I7' := I7.pinned (fpok rfl fr7) (T.obj _ _ st7)
      have again : ∀ {s8 : Shared} {σ8 : St} {H8 : Hp} {acc' : List V}, Inv (cxComp X N' scope (closL X.env scope.names []) s3.heap.objs.size s3 (upd H2 s2.heap.objs.size (.lst [])) fp) ([] ++ pinsAt fp s7.heap) σ8 H8 s8 → (∃ m', m' < n ∧ W (i + 1) m' acc' σ8 H8) →
          ∃ m, m < n ∧ ∃ i acc σ' H', Inv (cxComp X N' scope (closL X.env scope.names []) s3.heap.objs.size s3 (upd H2 s2.heap.objs.size (.lst [])) fp) [] σ' H' s8 ∧ tn i s8.heap ∧ (∀ b ∈ fp, H' b = none) ∧ W i m acc σ' H' := fun {s8 σ8 H8 acc'} I8 ⟨m', hm, w8⟩ => by
        refine ⟨m', hm, i + 1, acc', σ8, H8, I8.unpinned, T.keep _ _ _ st7 fun b hb o e => (I8.pin (b, o) (List.mem_append_right _ (List.mem_append_right _ (mem_pinsAt hb e)))).1, fun b hb => ?_, w8⟩
        obtain ⟨o, e, d⟩ := T.obj _ _ st7 b hb
        exact (I8.pin (b, o) (List.mem_append_right _ (List.mem_append_right _ (mem_pinsAt hb e)))).2.1
      refine wpAny_mono (hg _ _ _ _ _ _ s7 σ5 H7 x u _ I7' r7 (step x H7 y7)) (fun _ s8 ⟨σ8, H8, I8, q8⟩ => ?_) fun _ _ z => False.elim z
      refine wpAny_mono (ht _ _ _ _ _ _ s8 σ8 H8 _ I8 q8) (fun ok s9 ⟨H9, I9, q9⟩ => ?_) fun _ _ z => False.elim z
      cases ok with
      | false =>
        rw [if_neg Bool.false_ne_true] at q9 ⊢
        exact again I9 (hN _ _ _ q9)
      | true =>
        rw [if_pos rfl] at q9 ⊢
        refine wpAny_mono (he _ _ _ _ _ _ s9 σ8 H9 _ I9 q9) (fun y s10 ⟨yv, H10, I10, r10, hD, hz, q10⟩ => ?_) fun _ _ z => False.elim z
        refine wpAny_mono (mt_append (X := (cxComp X N' scope (closL X.env scope.names []) s3.heap.objs.size s3 (upd H2 s2.heap.objs.size (.lst [])) fp)) _ s10 σ8 H10 (.ref s2.heap.objs.size) [yv] (.ref s2.heap.objs.size) [y] (fun _ H11 => N (acc ++ [yv]) σ8 H11) I10 rfl (.cons r10 .nil) ⟨_, acc, yv, rfl, rfl, hD, hz, q10⟩) (fun _ s11 ⟨v11, H11, I11, r11, q11⟩ => ?_) fun _ _ z => False.elim z
        exact again I11 (hN _ _ _ q11)
  exact codeAny_compStart_list loop (T.self _ 0 _ _ _ st4 loop)

/-- the same, the names by themselves: tn the turn's, fr the frame's that it reads, at the slots sl -/
theorem pe_lc {elt tg iter : Expr} {ifs : List Expr} {scope : Scope} {pos : Pos} {wi : TI} {g : TG} {tt : TT} {te : TE} (tn fr : List Str) (sl : List Nat)
    (hp : Paired (fun (j : Nat) (x : Str) => X.N[j]? = some x ∧ scope.names.lookup x = some .free ∧ (X.env.kindOf x = some .cell ∨ X.env.kindOf x = some .free)) sl fr)
    (hc : X.calm = true) (hi : PI X tg iter wi) (hg : ∀ cl C s H ex, PG (cxComp X (tn ++ fr) scope cl C s H ex) tg g) (ht : ∀ cl C s H ex, PIf (cxComp X (tn ++ fr) scope cl C s H ex) ifs tt) (he : ∀ cl C s H ex, PE (cxComp X (tn ++ fr) scope cl C s H ex) elt te)
    (hk : scope.kind = .function) (hcell : ∀ y ∈ scope.names, y.2 ≠ .cell) (hnames : ∀ y ∈ scope.names, y.2 = .local → scope.names.lookup y.1 = some .local)
    (hfree : ∀ y ∈ scope.names, y.2 = .free → y.1 ∈ fr)
    (hs : ∀ x, foldedSetIterable iter X.env x = pure x := by intro _; rfl) :
    PE X (.ListComp elt [⟨tg, iter, ifs, 0⟩] scope pos) (tComp wi g tt te tn.length sl) := by
  have key : ∀ {sl : List Nat} {fr : List Str}, Paired (fun (j : Nat) (x : Str) => X.N[j]? = some x ∧ scope.names.lookup x = some .free ∧ (X.env.kindOf x = some .cell ∨ X.env.kindOf x = some .free)) sl fr →
      (∀ k j : Nat, sl[k]? = some j → ∃ x, fr[k]? = some x ∧ X.N[j]? = some x ∧ scope.names.lookup x = some .free) ∧ ∀ x ∈ fr, X.env.kindOf x = some .cell ∨ X.env.kindOf x = some .free := by
    intro sl fr hp
    induction hp with
    | nil => exact ⟨fun k j h => by simp at h, fun x hx => by simp at hx⟩
    | cons r t ih =>
      refine ⟨fun k j h => ?_, fun x hx => ?_⟩
      · cases k with
        | zero =>
          have e : _ = j := Option.some.inj h
          subst e
          exact ⟨_, rfl, r.1, r.2.1⟩
        | succ k => exact ih.1 k j (by simpa using h)
      · rcases List.mem_cons.mp hx with z | z
        · rw [z]; exact r.2.2
        · exact ih.2 x z
  refine pe_comp (N' := tn ++ fr) hc hi hg ht he (by rw [List.length_append, hp.length]) (fun k j h => ?_) hk hcell hnames (fun y hy hf => (key hp).2 _ (hfree y hy hf)) hs
  obtain ⟨x, e1, e2⟩ := (key hp).1 k j h
  exact ⟨x, by rw [List.getElem?_append_right (Nat.le_add_right _ _), Nat.add_sub_cancel_left]; exact e1, e2⟩
end
/-- over a range -/
theorem comp_range {lo : Int} {n : Nat} {g : TG} {tt : TT} {te : TE} {D : Addr} {Q : Hp → Prop} {σ : St} {H : Hp} (Pv : Nat → List V → St → Hp → Prop) (h0 : Pv 0 [] σ H)
    (hs : ∀ i acc σ H, i < n → Pv i acc σ H → g (.int (lo + i)) σ H fun σ2 H3 => tt σ2 H3 fun b H4 =>
      if b = true then te σ2 H4 fun y H5 => H5 D = some (.lst acc) ∧ acc.length < sizeLine ∧ Pv (i + 1) (acc ++ [y]) σ2 (upd H5 D (.lst (acc ++ [y]))) else Pv (i + 1) acc σ2 H4) (hd : ∀ acc σ H, Pv n acc σ H → Q H) :
    ∃ W : Nat → Nat → List V → St → Hp → Prop, (∃ m, W 0 m [] σ H) ∧ ∀ i m acc σ' H', W i m acc σ' H' → ((Itr lo n).stop i H' ∧ Q H') ∨
      ((Itr lo n).go i H' ∧ ∃ N : List V → St → Hp → Prop, (∀ acc' σ2 H4, N acc' σ2 H4 → ∃ m', m' < m ∧ W (i + 1) m' acc' σ2 H4) ∧ ∀ x H2, (Itr lo n).yld i H' x H2 → g x σ' H2 fun σ2 H3 => tt σ2 H3 fun b H4 =>
        if b = true then te σ2 H4 fun y H5 => H5 D = some (.lst acc) ∧ acc.length < sizeLine ∧ N (acc ++ [y]) σ2 (upd H5 D (.lst (acc ++ [y]))) else N acc σ2 H4) := by
  refine ⟨fun i m acc σ H => m = n - i ∧ i ≤ n ∧ Pv i acc σ H, ⟨n, by simp, Nat.zero_le _, h0⟩, ?_⟩
  rintro i m acc σ H ⟨rfl, hi, p⟩
  by_cases hlt : i < n
  · refine .inr ⟨hlt, Pv (i + 1), fun acc' σ' H' p' => ⟨n - (i + 1), by omega, rfl, hlt, p'⟩, fun x H' y => ?_⟩
    obtain ⟨e, y⟩ := y
    subst e y
    exact hs i acc σ _ hlt p
  · have e : i = n := by omega
    subst e
    exact .inl ⟨Nat.le_refl _, hd acc σ H p⟩
/-- over a list that the turns leave as it is -/
theorem comp_list {K : PySem.W.Frag} {a : Addr} {xs : List V} {g : TG} {tt : TT} {te : TE} {D : Addr} {Q : Hp → Prop} {σ : St} {H : Hp} (Pv : Nat → List V → St → Hp → Prop) (h0 : Pv 0 [] σ H) (hl : ∀ i acc σ H, i ≤ xs.length → Pv i acc σ H → SqL K H a xs)
    (hs : ∀ i x acc σ H, xs[i]? = some x → Pv i acc σ H → g x σ H fun σ2 H3 => tt σ2 H3 fun b H4 =>
      if b = true then te σ2 H4 fun y H5 => H5 D = some (.lst acc) ∧ acc.length < sizeLine ∧ Pv (i + 1) (acc ++ [y]) σ2 (upd H5 D (.lst (acc ++ [y]))) else Pv (i + 1) acc σ2 H4) (hd : ∀ acc σ H, Pv xs.length acc σ H → Q H) :
    ∃ W : Nat → Nat → List V → St → Hp → Prop, (∃ m, W 0 m [] σ H) ∧ ∀ i m acc σ' H', W i m acc σ' H' → ((Itl K a).stop i H' ∧ Q H') ∨
      ((Itl K a).go i H' ∧ ∃ N : List V → St → Hp → Prop, (∀ acc' σ2 H4, N acc' σ2 H4 → ∃ m', m' < m ∧ W (i + 1) m' acc' σ2 H4) ∧ ∀ x H2, (Itl K a).yld i H' x H2 → g x σ' H2 fun σ2 H3 => tt σ2 H3 fun b H4 =>
        if b = true then te σ2 H4 fun y H5 => H5 D = some (.lst acc) ∧ acc.length < sizeLine ∧ N (acc ++ [y]) σ2 (upd H5 D (.lst (acc ++ [y]))) else N acc σ2 H4) := by
  refine ⟨fun i m acc σ H => m = xs.length - i ∧ i ≤ xs.length ∧ Pv i acc σ H, ⟨xs.length, by simp, Nat.zero_le _, h0⟩, ?_⟩
  rintro i m acc σ H ⟨rfl, hi, p⟩
  have q := hl i acc σ H hi p
  by_cases hlt : i < xs.length
  · refine .inr ⟨⟨xs, xs[i], q, by simp [hlt]⟩, Pv (i + 1), fun acc' σ' H' p' => ⟨xs.length - (i + 1), by omega, rfl, hlt, p'⟩, fun x H' y => ?_⟩
    obtain ⟨e, y⟩ := y
    subst e
    exact hs i x acc σ _ (y xs q) p
  · have e : i = xs.length := by omega
    subst e
    exact .inl ⟨⟨xs, q, Nat.le_refl _⟩, hd acc σ H p⟩
section
variable {X : Cx}
def rBitLen : V → List V → Hp → VK → Prop := fun x vs H Q => ∃ i : Int, x = .int i ∧ vs = [] ∧ ∀ b : Int, b = ((Builtin.Int.intBits i : Nat) : Int) → Q (.int b) H
theorem mt_bitlen : MtR X "int.bit_length" rBitLen := by
  intro pins s σ H x vs v us Q I rx rv h
  obtain ⟨i, rfl, rfl, q⟩ := h
  obtain ⟨t, rfl⟩ := rx
  obtain rfl := Vals.zero rv
  exact call_int_bit_length ⟨.int _, H, I.tok _, ⟨_, rfl⟩, q _ rfl⟩
theorem bitOr_nat (a b : Nat) : Builtin.bitOr (a : Int) (b : Int) = ((a ||| b : Nat) : Int) := by
  have d1 : decide (0 ≤ Builtin.bitNot (a : Int)) = false := decide_eq_false (by unfold Builtin.bitNot; omega)
  have d2 : decide (0 ≤ Builtin.bitNot (b : Int)) = false := decide_eq_false (by unfold Builtin.bitNot; omega)
  have n1 : (Builtin.bitNot (Builtin.bitNot (a : Int))).toNat = a := by unfold Builtin.bitNot; omega
  have n2 : (Builtin.bitNot (Builtin.bitNot (b : Int))).toNat = b := by unfold Builtin.bitNot; omega
  unfold Builtin.bitOr Builtin.bitAnd
  rw [d1, d2]
  dsimp only
  rw [n1, n2]
  unfold Builtin.bitNot
  omega
end
def natV (k : Nat) : V := .int (k : Int)
def sp_has_room : Sp := fun vs H Q _ => ∃ n r : Nat, vs = [natV n, natV r] ∧ Q (.bl (n.testBit r)) H
def sp_with_room : Sp := fun vs H Q _ => ∃ n r : Nat, vs = [natV n, natV r] ∧ r ≤ 1000 ∧ Q (natV (n ||| 2 ^ r)) H
def sp_members : Sp := fun vs H Q _ => ∃ n : Nat, vs = [natV n] ∧ n < 2 ^ 61 ∧ ∀ p H', H p = none → Same H H' → H' p = some (.lst ((Bit.rooms n).map natV)) → Q (.ref p) H'
def sp_subsets : Sp := fun vs H Q _ => ∃ n : Nat, vs = [natV n] ∧ n < 2 ^ 61 ∧ (Bit.rooms n).length ≤ 8 ∧ ∀ p H', H p = none → Same H H' → H' p = some (.lst ((Bit.parts (Bit.rooms n)).map natV)) → Q (.ref p) H'
theorem rooms_len (n : Nat) : (Bit.rooms n).length ≤ 61 := by
  have := List.length_filter_le n.testBit (List.range 61)
  rw [List.length_range] at this
  exact this
theorem shr_odd (n r : Nat) {s m : Int} (es : s = (n : Int) / 2 ^ ((r : Int)).toNat) (em : m = s % 2) : decide (V.int m = V.int 1) = n.testBit r := by
  rw [Nat.testBit_eq_decide_div_mod_eq]
  have e1 : s = ((n / 2 ^ r : Nat) : Int) := by
    rw [es, Int.toNat_natCast]
    have : ((2 : Int) ^ r) = ((2 ^ r : Nat) : Int) := by rw [Int.natCast_pow]; rfl
    rw [this, ← Int.natCast_ediv]
  have e2 : m = ((n / 2 ^ r % 2 : Nat) : Int) := by rw [em, e1]; exact (Int.natCast_emod _ _).symm
  have e3 : (V.int m = V.int 1) ↔ (n / 2 ^ r % 2 = 1) := by rw [int_inj, e2]; omega
  exact decide_eq_decide.mpr e3
theorem inV_nat (r : Nat) : ∀ l : List Nat, inV (natV r) (l.map natV) = decide (r ∈ l)
  | [] => rfl
  | a :: l => by
    have ih := inV_nat r l
    unfold inV at ih ⊢
    rw [List.map_cons, List.any_cons, ih]
    have e : eqV (natV a) (natV r) = decide (r = a) := by
      show ((a : Int) == (r : Int)) = _
      rw [Bool.eq_iff_iff, beq_iff_eq, decide_eq_true_eq]; omega
    rw [e]
    by_cases h : r = a
    · simp [h]
    · by_cases h2 : r ∈ l <;> simp [h, h2]
theorem flat_nat (l : List Nat) : (l.map natV).all flatV = true := by
  rw [List.all_eq_true]
  intro x hx
  obtain ⟨k, _, rfl⟩ := List.mem_map.mp hx
  rfl
theorem get_natV {l : List Nat} {i : Nat} {x : V} (h : (l.map natV)[i]? = some x) : ∃ k, l[i]? = some k ∧ x = natV k := by
  rw [List.getElem?_map] at h
  cases e : l[i]? with
  | none => rw [e] at h; cases h
  | some k => rw [e] at h; exact ⟨k, rfl, (Option.some.inj h).symm⟩
end L2
namespace L2
open PySem PySem.Spec PyProof.Rows Mth

/-- an exception flies: from the state s (H) of the one who called, to s' (H'); outer: the frames that it has still to pass -/
structure Fly (P : Program) (w : World) (outer : List Env) (H : Hp) (s : Shared) (cls : Value) (x : Addr) (H' : Hp) (s' : Shared) : Prop where
  os : s'.os = s.os
  bare : AllBare s'.gens
  un : Un (frs outer) [] H H' s.heap s'.heap
  hok : HOk P w H' s'.heap
  fly : ∃ a0 B, Heap.FlyingW B outer x cls a0 s'.heap ∧ (∀ b o, s.heap.get? b = some o → b ∉ frs outer → ∀ o', s'.heap.get? b = some o' → B.get? b = some o') ∧ ∀ b u, H' b = some u → ∃ o, B.get? b = some o
def CX1 (P : Program) (w : World) : CXT := fun outer H s E e s' => ∃ x cls H', e = .ref x ∧ Fly P w outer H s cls x H' s' ∧ E cls none H'

theorem hok_of {P : Program} {w : World} {H : Hp} {h h' B : Heap} (x : HOk P w H h) (hB : ∀ b o, B.get? b = some o → h'.get? b = some o) (hb : ∀ b o, B.get? b = some o → h.get? b = some o) (tk : ∀ b u, H b = some u → ∃ o, B.get? b = some o) : HOk P w H h' := fun a o e =>
  (x a o e).stay (fun b u hb' q => by
    have : ∃ u', H b = some u' := by
      rcases hb' with z | z
      · exact ⟨o, by rw [z]; exact e⟩
      · exact ⟨_, z⟩
    obtain ⟨u', hu'⟩ := this
    obtain ⟨ob, hob⟩ := tk b u' hu'
    have := hb b ob hob
    rw [q] at this
    cases this
    exact hB b u hob) (fun _ q => q) fun _ _ q => q

/-- a fresh exception leaves the body as it is wanted -/
def Thr (X : Cx) (E : XK) : Prop := ∀ (pins : List (Addr × Obj)) (σ : St) (H : Hp) (s : Shared) (h' : Heap) (x : Addr) (cls : Value) (args : List Value), Inv X pins σ H s → Heap.MadeExcOf s.heap h' x cls args → E cls none H → X.xe (.ref x) { s with heap := h' }
section
variable {P : Program} {w : World} {K : PySem.W.Frag} {mg : Str → Option Value} {base : Heap} {N : List Str} {qual : Str} {scope : Scope} {f : Addr} {cd : Value} {A : Around} {outer : List Env} {s₀ : Shared} {H₀ : Hp} {E E' : XK}
end
section
variable {X : Cx}
/-- raise C(e, ..) -/
def tRaise (C : Addr) (E : XK) (t : TA) : TS := fun _ σ H => t σ H fun vs H1 => vs.length ≤ sizeLine ∧ E (.ref C) none H1
end
section
variable {P : Program} {w : World} {K : PySem.W.Frag} {mg : Str → Option Value} {base : Heap}
def DefX (P : Program) (w : World) (K : PySem.W.Frag) (mg : Str → Option Value) (base : Heap) (x : Str) (k : Nat) (ps : List Str) (sp : Sp) : Prop :=
  ∃ f fd, mg x = some (.ref f) ∧ PySem.W.keepIn K (.ref f) = true ∧ Binds K fd ps [] ∧ FnOk P w K mg base (CX1 P w) k f fd ps sp
end
def PX (X : Cx) (e : Expr) (t : St → Hp → VK → XK → Prop) : Prop :=
  ∀ (pins : List (Addr × Obj)) (s : Shared) (σ : St) (H : Hp) (Q : VK) (E : XK), Inv X pins σ H s → t σ H Q E →
    wpAny (model X.prog X.w) X.A (eval e X.env) (EP X pins σ Q) (fun ex s' => ∃ H1 s1, Inv X pins σ H1 s1 ∧ CX1 X.prog X.w X.stack H1 s1 E ex s') s
section
variable {X : Cx} {x : Str} {p pos : Pos} {e : Expr} {es : List Expr} {t : TA} {k : Nat} {ps : List Str} {sp : Sp}
end
end L2
namespace L2
open PySem PySem.Spec PyProof.Rows Mth

/-- Fly, its ground B told -/
structure FlyB (P : Program) (w : World) (outer : List Env) (H : Hp) (s : Shared) (cls : Value) (x : Addr) (H' : Hp) (a0 : Value) (B : Heap) (s' : Shared) : Prop where
  os : s'.os = s.os
  bare : AllBare s'.gens
  un : Un (frs outer) [] H H' s.heap s'.heap
  hok : HOk P w H' s'.heap
  fl : Heap.FlyingW B outer x cls a0 s'.heap
  st : ∀ b o, s.heap.get? b = some o → b ∉ frs outer → ∀ o', s'.heap.get? b = some o' → B.get? b = some o'
  tk : ∀ b u, H' b = some u → ∃ o, B.get? b = some o
theorem Fly.b {P : Program} {w : World} {outer : List Env} {H H' : Hp} {s s' : Shared} {cls : Value} {x : Addr} (F : Fly P w outer H s cls x H' s') : ∃ a0 B, FlyB P w outer H s cls x H' a0 B s' :=
  let ⟨a0, B, fl, hB, tk⟩ := F.fly; ⟨a0, B, F.os, F.bare, F.un, F.hok, fl, hB, tk⟩
section
variable {P : Program} {w : World} {outer : List Env} {H H' : Hp} {s s' : Shared} {cls a0 : Value} {x : Addr} {B : Heap}
theorem FlyB.fin (F : FlyB P w outer H s cls x H' a0 B s') : ∀ b ∈ frs outer, ∃ o, s'.heap.get? b = some o ∧ ∀ vs, o.data ≠ .fields vs := fun b hb => (F.fl.2.2.1.mem hb).2
theorem FlyB.moved {h2 : Heap} {t2 : Nat} (F : FlyB P w outer H s cls x H' a0 B s') (fl2 : Heap.FlyingW B outer x cls a0 h2) (up : s'.heap.UpToSlots h2) : FlyB P w outer H s cls x H' a0 B { s' with heap := h2, toks := t2 } := by
  have th : ∀ b o, s.heap.get? b = some o → b ∉ frs outer → ∃ o', B.get? b = some o' ∧ h2.get? b = some o' := fun b o e hb => by
    obtain ⟨o1, e1⟩ := F.un.there b o e (by simp)
    have q := F.st b o e hb o1 e1
    exact ⟨o1, q, fl2.1 b o1 q⟩
  refine ⟨F.os, F.bare, ⟨fun b o e n hb hx => ?_, fun b o e n hb hx => ?_, F.un.free, fun b o e hx => ?_, F.un.tups, F.un.frzs, F.un.tbls⟩, hok_of F.hok fl2.1 F.fl.1 F.tk, fl2, fun b o e hb o' e' => ?_, F.tk⟩
  · exact fl2.1 b o (F.st b o e hb o (F.un.keep b o e n hb hx))
  · obtain ⟨sl, e1⟩ := F.un.slot b o e n hb hx
    obtain ⟨o1, e3, hd⟩ := F.fin b hb
    rw [e1] at e3
    cases e3
    obtain ⟨sl2, e4⟩ := up b _ e1 hd
    exact ⟨sl2, e4⟩
  · by_cases hb : b ∈ frs outer
    · obtain ⟨o1, e3, hd⟩ := F.fin b hb
      obtain ⟨sl2, e4⟩ := up b _ e3 hd
      exact ⟨_, e4⟩
    · obtain ⟨o', _, e4⟩ := th b o e hb
      exact ⟨o', e4⟩
  · obtain ⟨o1, q, e4⟩ := th b o e hb
    have e4' : h2.get? b = some o' := e'
    rw [e4] at e4'
    cases e4'
    exact q
theorem FlyB.none (F : FlyB P w outer H s cls x H' a0 B s') : H' x = none := by
  cases q : H' x with
  | none => rfl
  | some u =>
    obtain ⟨o, e⟩ := F.tk x u q
    rw [F.fl.2.1] at e
    cases e
theorem FlyB.obj (F : FlyB P w outer H s cls x H' a0 B s') : ∃ oe vs, s'.heap.get? x = some oe ∧ oe.cls = cls ∧ oe.data = .fields vs :=
  let ⟨oe, vs, e, c, d, _⟩ := F.fl.first; ⟨oe, vs, e, c, d⟩
theorem FlyB.nofr (F : FlyB P w outer H s cls x H' a0 B s') : x ∉ frs outer := fun z => by
  obtain ⟨o, e, hd⟩ := F.fin x z
  obtain ⟨oe, vs, e', _, d⟩ := F.obj
  rw [e] at e'
  cases e'
  exact hd vs d
end

/-- within an except suite: the exception at e, its object oe -/
def Cx.held (X : Cx) (e : Addr) (oe : Obj) : Cx := { X with A := X.A.mark (some (.ref e)), calm := false, pn := X.pn ++ [(e, oe)], xe := fun _ _ => False }
theorem Cx.Ok.held {X : Cx} (ok : X.Ok) (e : Addr) (oe : Obj) : (X.held e oe).Ok :=
  ⟨ok.mod, ok.kind, ok.glob, ok.blt, ok.above, ok.inj, ok.has, ok.cab, (fun z => nomatch z), ok.frames, ok.stk, ok.exf, ok.bs, ok.bsz, ok.noex, ok.exfs, ok.funs, ok.frf⟩
section
variable {X : Cx} {pins : List (Addr × Obj)} {σ : St} {H H' : Hp} {s s' : Shared} {cls a0 : Value} {e : Addr} {oe : Obj} {B : Heap}
theorem Inv.held {vs : Array Value} (I : Inv X pins σ H s) (he : s.heap.get? e = some oe) (hd : oe.data = .fields vs) (hn : H e = none) : Inv (X.held e oe) pins σ H s := by
  refine ⟨I.ok.held e oe, I.os, I.bare, I.base, I.loc, I.cell, I.free, I.freeC, fun p hp => ?_, I.hok, I.len⟩
  rcases List.mem_append.mp hp with hp | hp
  · rcases List.mem_append.mp hp with hp | hp
    · exact I.pin p (List.mem_append_left _ hp)
    · have ep : p = (e, oe) := by simpa using hp
      subst ep
      refine ⟨he, hn, fun z => ?_, fun z => ?_, fun v z => ?_⟩
      · obtain ⟨m, ⟨o, es, ep, ho, hod, _⟩, _⟩ := I.loc
        have z' : e = X.env.locals := z
        rw [z', ho] at he
        cases he
        rw [hod] at hd
        cases hd
      · obtain ⟨_, o, ho, hnf⟩ := I.funs.mem z
        have ho' : s.heap.get? e = some o := ho
        rw [he] at ho'
        cases ho'
        exact hnf vs hd
      · have z' : oe.data = .cell v := z
        rw [hd] at z'
        cases z'
  · exact I.pin p (List.mem_append_right _ hp)
end

/-- a block; E: what is wanted of an exception, by the frame's values at its place -/
def PSx (X : Cx) (st : List Stmt) (t : (St → XK) → TS) : Prop :=
  ∀ (pins : List (Addr × Obj)) (s : Shared) (σ : St) (H : Hp) (D : Ends) (E : St → XK), Inv X pins σ H s → t E D σ H →
    wpAny (model X.prog X.w) X.A (execs st X.env) (SP X pins D) (fun ex s' => ∃ σ1 H1 s1, Inv X pins σ1 H1 s1 ∧ CX1 X.prog X.w X.stack H1 s1 (E σ1) ex s') s
section
variable {X : Cx} {pos : Pos}
def Ends.unset (D : Ends) (i : Nat) : Ends := ⟨fun σ H => D.nx (σ.set i none) H, D.rt, fun σ H => D.bk (σ.set i none) H, fun σ H => D.ct (σ.set i none) H⟩
def tTry (K : PySem.W.Frag) (c : Value) (i : Nat) (t : (St → XK) → TS) (ts : Value → Addr → TS) : TS := fun D σ H =>
  t (fun σ1 cls _ H1 => PySem.W.exmOne K cls c = some true ∧ ∀ e, H1 e = none → ts cls e (D.unset i) (σ1.set i (some (.ref e))) H1) D σ H
end

/-- an own exception's class, as far as isinstance looks at it -/
structure ExcCl (K : PySem.W.Frag) (C : Addr) : Prop where
  ga : PySem.W.findIn K (.ref C) "__getattribute__" = some (some (.builtin "BaseException.__getattribute__"))
  gt : PySem.W.findIn K (.ref C) "__getattr__" = some none
  cl : PySem.W.findIn K (.ref C) "__class__" = some (some (.builtin "object.__class__"))
  gs : PySem.W.specialIn K (.builtin "object.__class__") "__get__" = some (some (.builtin "getset_descriptor.__get__"))
  tk : PySem.W.takesIn K (.builtin "object.__class__") = some true
  mo : PySem.W.mroIn K C (.type "object") = some true
  mb : PySem.W.mroIn K C (.type "BaseException") = some true
  is : (PySem.W.clsIn K C).isSome = true
section
open PySem.Builtin PySem.Builtin.ObjectAttr PySem.Builtin.Getset_descriptor
variable {K : PySem.W.Frag} {C e : Addr}
variable {prog : Program} {w : World} {A : Around} {s : Shared} {oe : Obj}
end
/-- a class as a value -/
def clsV : V → Bool
  | .ref _ => true
  | .ty _ => true
  | _ => false
def vOf : V → Value
  | .ref a => .ref a
  | .ty n => .type n
  | _ => .none
/-- what isinstance(e, c) answers, e an exception of the own class at C -/
inductive IsE (K : PySem.W.Frag) (C : Addr) (H : Hp) : V → Bool → Prop where
  | one {c : V} {b : Bool} (hc : clsV c = true) (h : PySem.W.kitOne K (.ref C) (vOf c) = some b) : IsE K C H c b
  | many {p : Addr} {cs : List V} {b : Bool} (hp : H p = some (.tup cs)) (hc : ∀ x ∈ cs, clsV x = true) (h : PySem.W.kitAny K (.ref C) (cs.map vOf) = some b) : IsE K C H (.ref p) b
section
variable {X : Cx}
end
end L2
namespace L2
open PySem PySem.Spec PyProof.Rows Mth

section
variable {X : Cx} {x : Str} {pos : Pos}
end
/-- a tuple of the module -/
def KTup (K : PySem.W.Frag) (a : Addr) (xs : List V) : Prop :=
  ∃ (o : Obj) (its : Array Value) (n : Nat), K.lookup a = some o ∧ o.cls = .type "tuple" ∧ o.data = .seq its n ∧ its.size ≤ sizeLine ∧ Vals xs its.toList
theorem KTup.at {K : PySem.W.Frag} {a : Addr} {xs : List V} (h : KTup K a xs) (H : Hp) : SqT K H a xs := .inr h
/-- the defaults of a def -/
def DfIs (K : PySem.W.Frag) (T : Addr) (dvs : List V) : Prop := ∃ o n items, K.lookup T = some o ∧ o.data = .seq items n ∧ Vals dvs items.toList
structure FunD (K : PySem.W.Frag) (x qual : Str) (st : Stmt) (dV : Value) (f : Addr) (fd : FuncData) : Prop where
  ex : ∃ (oc : Value) (od : Option Addr) (kV doc pm : Value) (an : Option Addr) (cdv ct : Value) (osl : Array (Option Value)),
    fd = PySem.W.fnOf x qual (defArgs st) (defBody st) (defScope st) dV kV doc pm an cdv ct ∧ K.lookup f = some ⟨oc, od, .func fd, osl⟩ ∧ PySem.W.codeIn K cdv qual = true
  kp : PySem.W.keepIn K (.ref f) = true
/-- a tuple of defaults -/
def Dflt (K : PySem.W.Frag) (dV : Value) (items : List Value) : Prop := (dV = .none ∧ items = []) ∨ ∃ T o n, dV = .ref T ∧ K.lookup T = some o ∧ o.data = .seq items.toArray n
section
variable {P : Program} {w : World} {K : PySem.W.Frag} {mg : Str → Option Value} {base : Heap} {x qual m : Str} {st : Stmt} {dV : Value} {f C : Addr} {fd : FuncData} {N ps : List Str} {k : Nat} {sp : Sp} {ds : List Value}
theorem FunD.ok (F : FunD K x qual st dV f fd) (S : FnScope N ps (defScope st)) (len : ∀ vs H Q E, sp vs H Q E → vs.length = ps.length)
    (hbody : ∀ (cdv : Value) (A : Around) (outer : List Env) (s : Shared) (H : Hp) (vs : List V) (Q : VK) (E : XK), Room k (A.deeper (envOfC qual (defScope st) s.heap.objs.size f cdv)) → sp vs H Q E →
      ∃ t, PSs (cxOf CX0 P w K mg base N qual (defScope st) f cdv A outer s H E).nox (defBody st) t ∧ t { nx := fun _ H' => Q .non H', rt := Q } (start N vs) H) : FnOk P w K mg base CX0 (k + 1) f fd ps sp := by
  obtain ⟨oc, od, kV, doc, pm, an, cdv, ct, osl, rfl, lk, hcd⟩ := F.ex
  refine fn_of lk hcd S len fun A outer s H vs Q E hr hsp => ?_
  obtain ⟨t, h, q⟩ := hbody cdv A outer s H vs Q E hr hsp
  exact ⟨t, h.nox, q⟩
/-- how its arguments bind: us are given, ds are the defaults that fill up -/
theorem FunD.binds {T : Addr} {o : Obj} {n : Nat} {items : Array Value} (F : FunD K x qual st (.ref T) f fd) (hT : K.lookup T = some o) (ho : o.data = .seq items n)
    (h : ∀ (kV doc pm : Value) (an : Option Addr) (cdv ct : Value) (us : List Value), (us ++ ds).length = ps.length → ∃ k, bindArgs (PySem.W.fnOf x qual (defArgs st) (defBody st) (defScope st) (.ref T) kV doc pm an cdv ct) ⟨us, []⟩ = seqItems? (.ref T) >>= k ∧ k (some items) = pure (ps.zip (us ++ ds))) : Binds K fd ps ds := by
  obtain ⟨oc, od, kV, doc, pm, an, cdv, ct, osl, rfl, lk, hcd⟩ := F.ex
  intro s us X hl
  obtain ⟨k, h1, h2⟩ := h kV doc pm an cdv ct us hl
  exact PySem.W.binds_K X rfl hT ho h1 h2
/-- a method of the text -/
def HasM (K : PySem.W.Frag) (C : Addr) (m qual : Str) (st : Stmt) (dV : Value) : Prop := ∃ f fd, Meth K C m f ∧ FunD K m qual st dV f fd
def MDef (P : Program) (w : World) (K : PySem.W.Frag) (mg : Str → Option Value) (base : Heap) (C : Addr) (m : Str) (k : Nat) (ps : List Str) (ds : List Value) (sp : Sp) : Prop :=
  ∃ f fd, Meth K C m f ∧ Binds K fd ps ds ∧ FnOk P w K mg base CX0 k f fd ps sp
/-- a class that is made by its __init__ -/
structure MkCl (K : PySem.W.Frag) (C : Addr) : Prop where
  makes : PySem.W.makesIn K C = true
  kp : PySem.W.keepIn K (.ref C) = true
/-- a def by its name, with defaults -/
def HasD (K : PySem.W.Frag) (mg : Str → Option Value) (x : Str) (st : Stmt) (dV : Value) : Prop := ∃ f fd, mg x = some (.ref f) ∧ FunD K x x st dV f fd
def DefD (P : Program) (w : World) (K : PySem.W.Frag) (mg : Str → Option Value) (base : Heap) (x : Str) (k : Nat) (ps : List Str) (ds : List Value) (sp : Sp) : Prop :=
  ∃ f fd, mg x = some (.ref f) ∧ PySem.W.keepIn K (.ref f) = true ∧ Binds K fd ps ds ∧ FnOk P w K mg base CX0 k f fd ps sp
end
section
variable {X : Cx} {C : Addr} {m x : Str} {p pos apos : Pos} {e o : Expr} {es : List Expr} {ta : TE} {t : TA} {k : Nat} {ps : List Str} {sp : Sp} {ds : List Value} {dvs : List V}
end
end L2
namespace L2
open PySem PySem.Spec PyProof.Rows Mth

section
variable {X : Cx} {pins : List (Addr × Obj)} {σ : St} {H : Hp} {s : Shared} {h' : Heap} {ch : List Addr}
end

/-- two lists side by side: a new pair each turn -/
def Itz (K : PySem.W.Frag) (a b : Addr) : It :=
  ⟨fun i H => ∃ xs ys x y, SqL K H a xs ∧ SqL K H b ys ∧ xs[i]? = some x ∧ ys[i]? = some y,
   fun i H v H' => ∃ p x y, H p = none ∧ v = .ref p ∧ H' = upd H p (.tup [x, y]) ∧ (∀ xs, SqL K H a xs → xs[i]? = some x) ∧ ∀ ys, SqL K H b ys → ys[i]? = some y,
   fun i H => ∃ xs ys, SqL K H a xs ∧ SqL K H b ys ∧ (xs.length ≤ i ∨ ys.length ≤ i)⟩
def ZipSt (z TI TO i1 i2 a b : Addr) (i : Nat) (h : Heap) : Prop := IsZip h z TI TO .none ∧ IsPair h TI (.ref i1) (.ref i2) ∧ (∃ u v, IsPair h TO u v) ∧ h.IsListIter i1 a i ∧ h.IsListIter i2 b i
theorem ZipSt.obj {z TI TO i1 i2 a b : Addr} {i : Nat} {h : Heap} (st : ZipSt z TI TO i1 i2 a b i h) : ∀ c ∈ [z, TI, TO, i1, i2], ∃ o, h.get? c = some o ∧ ∀ v, o.data ≠ .cell v := fun c hc => by
  obtain ⟨hz, hTI, ⟨u, v, hTO⟩, ⟨o1, e1, _, d1⟩, ⟨o2, e2, _, d2⟩⟩ := st
  simp only [List.mem_cons, List.not_mem_nil, or_false] at hc
  rcases hc with rfl | rfl | rfl | rfl | rfl
  · exact ⟨_, hz, fun v q => by cases q⟩
  · exact ⟨_, hTI, fun v q => by cases q⟩
  · exact ⟨_, hTO, fun v q => by cases q⟩
  · exact ⟨o1, e1, fun v q => by rw [d1] at q; cases q⟩
  · exact ⟨o2, e2, fun v q => by rw [d2] at q; cases q⟩
section
variable {X : Cx}
def iZip (K : PySem.W.Frag) (ta : TA) : TI := fun σ H R => ta σ H fun vs H1 => ∃ a b, vs = [.ref a, .ref b] ∧ (∃ xs, SqL K H1 a xs) ∧ (∃ ys, SqL K H1 b ys) ∧ R (Itz K a b) H1
end
end L2
namespace L2
open PySem PySem.Spec PyProof.Rows Mth

mutual
/-- the value v tells d -/
def Dn (K : PySem.W.Frag) (H : Hp) : PyData → V → Prop
  | .none, v => v = .non
  | .bool b, v => v = .bl b
  | .int i, v => v = .int i
  | .str x, v => v = .str x
  | .list ds, v => ∃ a xs, v = .ref a ∧ SqL K H a xs ∧ DnA K H ds xs
  | .tuple ds, v => ∃ a xs, v = .ref a ∧ SqT K H a xs ∧ DnA K H ds xs
  | .dict _, _ => False
def DnA (K : PySem.W.Frag) (H : Hp) : List PyData → List V → Prop
  | [], xs => xs = []
  | d :: ds, xs => ∃ x r, xs = x :: r ∧ Dn K H d x ∧ DnA K H ds r
end
/-- no list within -/
def flatD : PyData → Bool
  | .list _ => false
  | .dict _ => false
  | .tuple ds => ds.attach.all fun ⟨d, _⟩ => flatD d
  | _ => true
theorem flatD_tuple {ds : List PyData} : flatD (.tuple ds) = true ↔ ∀ d ∈ ds, flatD d = true := by
  rw [flatD, List.all_eq_true]
  constructor
  · intro h d hd
    exact h ⟨d, hd⟩ (List.mem_attach ..)
  · intro h x _
    exact h x.1 x.2
/-- the tuples stay -/
def TStay (K : PySem.W.Frag) (H H' : Hp) : Prop := ∀ a xs, SqT K H a xs → SqT K H' a xs
theorem TStay.refl {K : PySem.W.Frag} (H : Hp) : TStay K H H := fun _ _ h => h
theorem TStay.trans {K : PySem.W.Frag} {H H1 H2 : Hp} (a : TStay K H H1) (b : TStay K H1 H2) : TStay K H H2 := fun c xs h => b c xs (a c xs h)
theorem Same.ts {K : PySem.W.Frag} {H H' : Hp} (s : Same H H') : TStay K H H' := fun _ _ h => s.tup h
/-- an object that is no tuple is written -/
def noTup : HO → Bool
  | .tup _ => false
  | .frz _ _ => false
  | _ => true
theorem ts_upd {K : PySem.W.Frag} {H : Hp} {a : Addr} {o o' : HO} (h : H a = some o) (n : noTup o = true) : TStay K H (upd H a o') := fun b xs q => by
  have ne : ∀ u, H b = some u → noTup u = false → b ≠ a := fun u e z y => by
    subst y
    rw [h] at e
    cases e
    rw [n] at z
    cases z
  rcases q with (q | ⟨ob, q⟩) | q
  · exact .inl (.inl (by rw [upd_ne (ne _ q rfl)]; exact q))
  · exact .inl (.inr ⟨ob, by rw [upd_ne (ne _ q rfl)]; exact q⟩)
  · exact .inr q
section
variable {K : PySem.W.Frag} {H H' : Hp}
mutual
theorem Dn.same (s : Same H H') : ∀ (d : PyData) {v : V}, Dn K H d v → Dn K H' d v
  | .none, _, h => by rw [Dn] at h ⊢; exact h
  | .bool _, _, h => by rw [Dn] at h ⊢; exact h
  | .int _, _, h => by rw [Dn] at h ⊢; exact h
  | .str _, _, h => by rw [Dn] at h ⊢; exact h
  | .list ds, _, h => by
    rw [Dn] at h ⊢
    obtain ⟨a, xs, e, q, r⟩ := h
    exact ⟨a, xs, e, s.seq q, DnA.same s ds r⟩
  | .tuple ds, _, h => by
    rw [Dn] at h ⊢
    obtain ⟨a, xs, e, q, r⟩ := h
    exact ⟨a, xs, e, s.tup q, DnA.same s ds r⟩
  | .dict _, _, h => by rw [Dn] at h; exact h.elim
theorem DnA.same (s : Same H H') : ∀ (ds : List PyData) {xs : List V}, DnA K H ds xs → DnA K H' ds xs
  | [], _, h => by rw [DnA] at h ⊢; exact h
  | d :: ds, _, h => by
    rw [DnA] at h ⊢
    obtain ⟨x, r, e, q, t⟩ := h
    exact ⟨x, r, e, Dn.same s d q, DnA.same s ds t⟩
end
mutual
theorem Dn.ts (s : TStay K H H') : ∀ (d : PyData) {v : V}, flatD d = true → Dn K H d v → Dn K H' d v
  | .none, _, _, h => by rw [Dn] at h ⊢; exact h
  | .bool _, _, _, h => by rw [Dn] at h ⊢; exact h
  | .int _, _, _, h => by rw [Dn] at h ⊢; exact h
  | .str _, _, _, h => by rw [Dn] at h ⊢; exact h
  | .list ds, _, f, _ => by rw [flatD] at f; cases f
  | .tuple ds, _, f, h => by
    rw [Dn] at h ⊢
    obtain ⟨a, xs, e, q, r⟩ := h
    exact ⟨a, xs, e, s _ _ q, DnA.ts s ds (flatD_tuple.mp f) r⟩
  | .dict _, _, _, h => by rw [Dn] at h; exact h.elim
theorem DnA.ts (s : TStay K H H') : ∀ (ds : List PyData) {xs : List V}, (∀ d ∈ ds, flatD d = true) → DnA K H ds xs → DnA K H' ds xs
  | [], _, _, h => by rw [DnA] at h ⊢; exact h
  | d :: ds, _, f, h => by
    rw [DnA] at h ⊢
    obtain ⟨x, r, e, q, t⟩ := h
    exact ⟨x, r, e, Dn.ts s d (f d List.mem_cons_self) q, DnA.ts s ds (fun d hd => f d (List.mem_cons_of_mem _ hd)) t⟩
end
theorem DnA.length : ∀ {ds : List PyData} {xs : List V}, DnA K H ds xs → xs.length = ds.length
  | [], _, h => by rw [DnA] at h; rw [h]; rfl
  | d :: ds, _, h => by
    rw [DnA] at h
    obtain ⟨x, r, rfl, _, t⟩ := h
    rw [List.length_cons, List.length_cons, DnA.length t]
theorem DnA.get : ∀ {ds : List PyData} {xs : List V} {i : Nat} {d : PyData}, DnA K H ds xs → ds[i]? = some d → ∃ x, xs[i]? = some x ∧ Dn K H d x
  | [], _, _, _, _, e => by simp at e
  | _ :: _, _, 0, _, h, e => by
    rw [DnA] at h
    obtain ⟨x, r, rfl, q, t⟩ := h
    simp at e
    subst e
    exact ⟨x, rfl, q⟩
  | _ :: ds, _, i + 1, d, h, e => by
    rw [DnA] at h
    obtain ⟨x, r, rfl, q, t⟩ := h
    obtain ⟨y, e1, e2⟩ := DnA.get (i := i) t (by simpa using e)
    exact ⟨y, by simpa using e1, e2⟩
theorem DnA.snoc : ∀ {ds : List PyData} {xs : List V} {d : PyData} {x : V}, DnA K H ds xs → Dn K H d x → DnA K H (ds ++ [d]) (xs ++ [x])
  | [], _, d, x, h, q => by
    rw [DnA] at h
    subst h
    exact ⟨x, [], rfl, q, rfl⟩
  | _ :: ds, _, d, x, h, q => by
    rw [DnA] at h
    obtain ⟨y, r, rfl, q', t⟩ := h
    exact ⟨y, r ++ [x], rfl, q', DnA.snoc t q⟩
theorem DnA.set : ∀ {ds : List PyData} {xs : List V} {i : Nat} {d : PyData} {x : V}, DnA K H ds xs → Dn K H d x → DnA K H (ds.set i d) (xs.set i x)
  | [], _, _, _, _, h, _ => by
    rw [DnA] at h
    subst h
    exact rfl
  | _ :: _, _, 0, d, x, h, q => by
    rw [DnA] at h
    obtain ⟨y, r, rfl, q', t⟩ := h
    exact ⟨x, r, rfl, q, t⟩
  | _ :: ds, _, i + 1, d, x, h, q => by
    rw [DnA] at h
    obtain ⟨y, r, rfl, q', t⟩ := h
    exact ⟨y, r.set i x, rfl, q', DnA.set t q⟩
theorem dn_nil : DnA K H [] [] := rfl
theorem dn_cons {d : PyData} {ds : List PyData} {x : V} {xs : List V} (a : Dn K H d x) (b : DnA K H ds xs) : DnA K H (d :: ds) (x :: xs) := ⟨x, xs, rfl, a, b⟩
theorem dn_int {i : Int} : Dn K H (.int i) (.int i) := rfl
theorem dn_tup {a : Addr} {xs : List V} {ds : List PyData} (h : SqT K H a xs) (r : DnA K H ds xs) : Dn K H (.tuple ds) (.ref a) := ⟨a, xs, rfl, h, r⟩
theorem dn_lst {a : Addr} {xs : List V} {ds : List PyData} (h : SqL K H a xs) (r : DnA K H ds xs) : Dn K H (.list ds) (.ref a) := ⟨a, xs, rfl, h, r⟩
/-- a fraction -/
abbrev frD (f : Int × Int) : PyData := .tuple [.int f.1, .int f.2]
theorem dn_fr {p : Addr} {f : Int × Int} (h : SqT K H p [.int f.1, .int f.2]) : Dn K H (frD f) (.ref p) := dn_tup h (dn_cons dn_int (dn_cons dn_int dn_nil))
theorem Dn.fr {v : V} {f : Int × Int} (h : Dn K H (frD f) v) : ∃ p, v = .ref p ∧ SqT K H p [.int f.1, .int f.2] := by
  obtain ⟨p, xs, e, q, x, r, e1, e2, y, r2, e3, e4, e5⟩ := h
  have e2 : x = V.int f.1 := e2
  have e4 : y = V.int f.2 := e4
  have e5 : r2 = [] := e5
  subst e1 e2 e3 e4 e5
  exact ⟨p, e, q⟩
theorem flat_fr (f : Int × Int) : flatD (frD f) = true := by simp [frD, flatD]
end
section
variable {X : Cx} {pins : List (Addr × Obj)} {σ : St} {H : Hp} {s : Shared}
mutual
theorem Inv.reads (I : Inv X pins σ H s) : ∀ (d : PyData) {v : V} {u : Value}, Dn X.K H d v → RelV v u → ∃ as, Reads s.heap u d as
  | .none, _, _, h, r => by
    have h : _ = V.non := h
    subst h
    obtain rfl := (show _ = Value.none from r)
    exact ⟨_, .none⟩
  | .bool b, _, _, h, r => by
    have h : _ = V.bl b := h
    subst h
    obtain rfl := (show _ = Value.bool b from r)
    exact ⟨_, .bool b⟩
  | .int i, _, _, h, r => by
    have h : _ = V.int i := h
    subst h
    obtain ⟨t, rfl⟩ := r
    exact ⟨_, .int i t⟩
  | .str x, _, _, h, r => by
    have h : _ = V.str x := h
    subst h
    obtain ⟨t, rfl⟩ := r
    exact ⟨_, .str x t⟩
  | .list ds, _, _, h, r => by
    obtain ⟨a, xs, rfl, q, t⟩ := h
    obtain rfl := (show _ = Value.ref a from r)
    obtain ⟨its, rv, p, _⟩ := I.list q
    obtain ⟨o, ho, hc, n, hd⟩ := p.isList
    obtain ⟨as, ra⟩ := Inv.readsAll I ds t rv
    exact ⟨_, .list ho hc hd (by simpa using ra)⟩
  | .tuple ds, _, _, h, r => by
    obtain ⟨a, xs, rfl, q, t⟩ := h
    obtain rfl := (show _ = Value.ref a from r)
    obtain ⟨its, rv, p, _⟩ := I.tuple q
    obtain ⟨o, ho, hc, n, hd⟩ := p
    obtain ⟨as, ra⟩ := Inv.readsAll I ds t rv
    exact ⟨_, .tuple ho hc hd (by simpa using ra)⟩
  | .dict _, _, _, h, _ => (show False from h).elim
theorem Inv.readsAll (I : Inv X pins σ H s) : ∀ (ds : List PyData) {xs : List V} {us : List Value}, DnA X.K H ds xs → Vals xs us → ∃ as, ReadsAll s.heap us ds as
  | [], _, _, h, r => by
    have h : _ = [] := h
    subst h
    obtain rfl := Vals.zero r
    exact ⟨_, .nil⟩
  | d :: ds, _, _, h, r => by
    obtain ⟨x, t, rfl, q, qt⟩ := h
    cases r with
    | cons r1 r2 =>
      obtain ⟨as, ra⟩ := Inv.reads I d q r1
      obtain ⟨bs, rb⟩ := Inv.readsAll I ds qt r2
      exact ⟨_, .cons ra rb⟩
end
def rEqD (K : PySem.W.Frag) : R2 := fun x y H Q => ∃ d e, Dn K H d x ∧ Dn K H e y ∧ SeqAt.shaped d = true ∧ SeqAt.shaped e = true ∧ Q (.bl (PyData.eqv d e)) H
def rNeD (K : PySem.W.Frag) : R2 := fun x y H Q => ∃ d e, Dn K H d x ∧ Dn K H e y ∧ SeqAt.shaped d = true ∧ SeqAt.shaped e = true ∧ Q (.bl (!PyData.eqv d e)) H
theorem op_eqD (hu : X.A.units + 64 < cLine) : OpR X (compareOp .Eq) (rEqD X.K) := by
  intro pins s σ H x y v u Q I rx ry h
  obtain ⟨d, e, h1, h2, s1, s2, q⟩ := h
  obtain ⟨as, r1⟩ := I.reads d h1 rx
  obtain ⟨bs, r2⟩ := I.reads e h2 ry
  exact eq_dataH r1 r2 s1 s2 hu ⟨.bl _, H, I, rfl, q⟩
theorem op_neD (hu : X.A.units + 64 < cLine) : OpR X (compareOp .NotEq) (rNeD X.K) := by
  intro pins s σ H x y v u Q I rx ry h
  obtain ⟨d, e, h1, h2, s1, s2, q⟩ := h
  obtain ⟨as, r1⟩ := I.reads d h1 rx
  obtain ⟨bs, r2⟩ := I.reads e h2 ry
  exact ne_dataH r1 r2 s1 s2 hu ⟨.bl _, H, I, rfl, q⟩
end
end L2
namespace L2
open PySem PySem.Spec PyProof.Rows Mth
section
variable {P : Program} {w : World} {K : PySem.W.Frag} {mg : Str → Option Value} {base : Heap} {x qual m : Str} {st : Stmt} {dV : Value} {f C : Addr} {fd : FuncData} {N ps : List Str} {k : Nat} {sp : Sp} {ds : List Value} {dvs : List V}
def MOk (P : Program) (w : World) (K : PySem.W.Frag) (mg : Str → Option Value) (base : Heap) (C : Addr) (m qual : Str) (st : Stmt) (dV : Value) (k : Nat) (ps : List Str) (sp : Sp) : Prop :=
  ∃ f fd, Meth K C m f ∧ FunD K m qual st dV f fd ∧ FnOk P w K mg base CX0 k f fd ps sp
def MDefE (P : Program) (w : World) (K : PySem.W.Frag) (mg : Str → Option Value) (base : Heap) (C : Addr) (m : Str) (k : Nat) (ps : List Str) (dvs : List V) (sp : Sp) : Prop :=
  ∃ ds, Vals dvs ds ∧ MDef P w K mg base C m k ps ds sp
def DOk (P : Program) (w : World) (K : PySem.W.Frag) (mg : Str → Option Value) (base : Heap) (x : Str) (st : Stmt) (dV : Value) (k : Nat) (ps : List Str) (sp : Sp) : Prop :=
  ∃ f fd, mg x = some (.ref f) ∧ FunD K x x st dV f fd ∧ FnOk P w K mg base CX0 k f fd ps sp
def DefE (P : Program) (w : World) (K : PySem.W.Frag) (mg : Str → Option Value) (base : Heap) (x : Str) (k : Nat) (ps : List Str) (dvs : List V) (sp : Sp) : Prop :=
  ∃ ds, Vals dvs ds ∧ DefD P w K mg base x k ps ds sp
end
section
variable {X : Cx} {C : Addr} {m x : Str} {p pos apos : Pos} {e o : Expr} {es : List Expr} {ta : TE} {t : TA} {k : Nat} {ps : List Str} {sp : Sp} {dvs : List V}
end
end L2
namespace L2
open PySem PySem.Spec PyProof.Rows Mth
end L2
namespace PySem
open Sem (wp)
section
variable {prog : Program} {w : World} {K : Type} [DecidableEq K] {knd : KeyKind prog w K} {A : Around} {E : Value → Shared → Prop} {s : Shared}
end
end PySem
namespace L2
open PySem PySem.Spec PyProof.Rows Mth
section
variable {X : Cx} {pins : List (Addr × Obj)} {σ : St} {H : Hp} {s : Shared} {a : Addr} {kvs : List (List Key × V)} {A : Around} {E : Value → Shared → Prop}
end
end L2
namespace L2
open PySem PySem.Spec PyProof.Rows Mth
section
variable {X : Cx}
end
end L2
namespace L2
open PySem PySem.Spec PyProof.Rows Mth
abbrev Fra := Int × Int
structure HoldM where
  most : Int
  cap : Int
  load : Int
  rows : List (List Fra)
  flows : Int → Int → Option Fra
  skies : List (Fra × Fra × Fra)
  stoves : List (Option (Fra × Int × Int × Int))
abbrev skyD (s : Fra × Fra × Fra) : PyData := .tuple [frD s.1, frD s.2.1, frD s.2.2]
abbrev stoveD : Option (Fra × Int × Int × Int) → PyData
  | none => .none
  | some s => .tuple [frD s.1, .int s.2.1, .int s.2.2.1, .int s.2.2.2]
abbrev rowD (r : List Fra) : PyData := .tuple (r.map frD)
def hfs (m : HoldM) (pm pf ps pt : Addr) : List (Str × V) :=
  [("most", .int m.most), ("cap", .int m.cap), ("load", .int m.load), ("mark_rows", .ref pm), ("flows", .ref pf), ("skies", .ref ps), ("stoves", .ref pt)]
section
variable (m : HoldM) (pm pf ps pt : Addr)
end
def FlowIs (K : PySem.W.Frag) (H : Hp) : Option Fra → Option V → Prop
  | none, none => True
  | some f, some v => Dn K H (frD f) v
  | _, _ => False
abbrev fkey (i j : Int) : List Key := [.inl i, .inl j]
/-- keys of flows: pairs of room numbers, each once -/
def FKeys (kvs : List (List Key × V)) : Prop := (kvs.map (·.1)).Nodup ∧ ∀ p ∈ kvs, ∃ i j : Nat, i < 4 ∧ j < 4 ∧ p.1 = fkey i j
end L2
namespace Mth
/-- a fraction in lowest terms -/
def nf (t b : Int) : Int × Int := (t.fdiv (Int.gcd t b : Nat), b.fdiv (Int.gcd t b : Nat))
theorem dvd_cop {r q s : Int} (h : r ∣ q * s) (c : Int.gcd q r = 1) : r ∣ s := by
  have h1 : r.natAbs ∣ q.natAbs * s.natAbs := by rw [← Int.natAbs_mul]; exact Int.natAbs_dvd_natAbs.mpr h
  have h2 : Nat.Coprime r.natAbs q.natAbs := by rw [Nat.coprime_comm]; exact c
  exact Int.natAbs_dvd_natAbs.mp (Nat.Coprime.dvd_of_dvd_mul_left h2 h1)
theorem Fr.uniq {t b q r q' r' : Int} (hb : b ≠ 0) (h : Fr t b q r) (k : Fr t b q' r') : q = q' ∧ r = r' := by
  have e : q * r' = q' * r := by
    have e1 : (q * r') * b = (q' * r) * b := by
      have a1 := h.cross
      have a2 := k.cross
      calc (q * r') * b = (q * b) * r' := by rw [Int.mul_right_comm]
        _ = (t * r) * r' := by rw [a1]
        _ = (t * r') * r := by rw [Int.mul_right_comm]
        _ = (q' * b) * r := by rw [a2]
        _ = (q' * r) * b := by rw [Int.mul_right_comm]
    exact Int.eq_of_mul_eq_mul_right hb e1
  have d1 : r ∣ r' := by
    have : r ∣ q * r' := ⟨q', by rw [e, Int.mul_comm]⟩
    exact dvd_cop this h.cop
  have d2 : r' ∣ r := by
    have : r' ∣ q' * r := ⟨q, by rw [← e, Int.mul_comm]⟩
    exact dvd_cop this k.cop
  have er : r = r' := Int.dvd_antisymm (Int.le_of_lt h.pos) (Int.le_of_lt k.pos) d1 d2
  subst er
  exact ⟨Int.eq_of_mul_eq_mul_right (Int.ne_of_gt h.pos) e, rfl⟩
theorem nf_fr {t b : Int} (hb : 0 < b) : Fr t b (nf t b).1 (nf t b).2 := (fr_of (Int.ne_of_gt hb) rfl).2.2.1 hb
theorem Fr.nf {t b q r : Int} (hb : 0 < b) (h : Fr t b q r) : (q, r) = nf t b := by
  obtain ⟨e1, e2⟩ := h.uniq (Int.ne_of_gt hb) (nf_fr hb)
  rw [e1, e2]
def plusM (x y : Int × Int) : Int × Int := nf (x.1 * y.2 + y.1 * x.2) (x.2 * y.2)
def minusM (x y : Int × Int) : Int × Int := nf (x.1 * y.2 - y.1 * x.2) (x.2 * y.2)
def underM (x y : Int × Int) : Bool := decide (x.1 * y.2 < y.1 * x.2)
/-- top and bottom below 2 ^ n, the bottom above nought -/
structure OkF (n : Nat) (f : Int × Int) : Prop where
  t : Bd n f.1
  b : Bd n f.2
  p : 0 < f.2
theorem OkF.mono {m n : Nat} {f : Int × Int} (h : OkF m f) (l : m ≤ n) : OkF n f := ⟨h.t.mono l, h.b.mono l, h.p⟩
theorem OkF.minus {m n : Nat} {x y : Int × Int} (h : OkF m x) (k : OkF n y) : OkF (m + n + 1) (minusM x y) := by
  have F := nf_fr (t := x.1 * y.2 - y.1 * x.2) (b := x.2 * y.2) (Int.mul_pos h.p k.p)
  have b1 : Bd (m + n) (x.1 * y.2) := h.t.mul k.b
  have b2 : Bd (m + n) (y.1 * x.2) := by rw [Nat.add_comm]; exact k.t.mul h.b
  exact ⟨F.bdq (b1.sub b2), F.bdr ((h.b.mul k.b).mono (Nat.le_succ _)), F.pos⟩
theorem ok01 : OkF 100 (0, 1) := ⟨(by decide : (_ : Int).natAbs < _), (by decide : (_ : Int).natAbs < _), by decide⟩
theorem ok11 : OkF 100 (1, 1) := ⟨(by decide : (_ : Int).natAbs < _), (by decide : (_ : Int).natAbs < _), by decide⟩
end Mth
namespace L2
open PySem PySem.Spec PyProof.Rows Mth
structure HoldM.Wf (m : HoldM) : Prop where
  rows : ∀ r ∈ m.rows, ∀ f ∈ r, OkF 100 f
  len : ∀ r ∈ m.rows, 2 ≤ r.length ∧ r.length ≤ 7
  flows : ∀ i j f, m.flows i j = some f → OkF 100 f
  skies : ∀ s ∈ m.skies, OkF 100 s.1 ∧ OkF 100 s.2.1 ∧ OkF 100 s.2.2
  stoves : ∀ x, some x ∈ m.stoves → OkF 100 x.1
/-- a hold at a: its own objects fp -/
structure HoldAt (K : PySem.W.Frag) (C : Addr) (H : Hp) (a : Addr) (fp : List Addr) (m : HoldM) : Prop where
  ex : ∃ dx pm pf ps pt vm vs vt kvs, fp = [a, dx, pm, pf, ps, pt] ∧ H a = some (.ins C dx (hfs m pm pf ps pt)) ∧ H dx = some (.own a) ∧ H pm = some (.lst vm) ∧ H pf = some (.dT kvs) ∧ H ps = some (.lst vs) ∧ H pt = some (.lst vt) ∧
    pm ≠ ps ∧ pm ≠ pt ∧ ps ≠ pt ∧ DnA K H (m.rows.map rowD) vm ∧ DnA K H (m.skies.map skyD) vs ∧ DnA K H (m.stoves.map stoveD) vt ∧ (∀ i j, FlowIs K H (m.flows i j) (valV kvs (fkey i j))) ∧ FKeys kvs
  sk : m.skies.length = m.rows.length
  st : m.stoves.length = m.rows.length
  mx : m.rows.length ≤ 4
  wf : m.Wf
def But (fp : List Addr) (H H' : Hp) : Prop := ∀ b o, H b = some o → b ∉ fp → H' b = some o
def HoldM.flow (m : HoldM) (i j : Nat) : Fra := (m.flows i j).getD (0, 1)
def HoldM.skyS (m : HoldM) (i : Nat) : Fra := ((m.skies[i]?).map (·.1)).getD (0, 1)
def HoldM.ownTo (m : HoldM) (i n : Nat) : Fra := (List.range n).foldl (fun acc j => minusM acc (m.flow i j)) (minusM (1, 1) (m.skyS i))
def HoldM.own (m : HoldM) (i : Nat) : Fra := m.ownTo i m.rows.length
def HoldM.share (m : HoldM) (i j : Nat) : Fra := if i = j then m.own i else m.flow i j
theorem HoldM.Wf.flow {m : HoldM} (w : m.Wf) (i j : Nat) : OkF 100 (m.flow i j) := by
  unfold HoldM.flow
  cases e : m.flows i j with
  | none => exact ok01
  | some f => exact w.flows i j f e
theorem HoldM.Wf.skyS {m : HoldM} (w : m.Wf) (i : Nat) : OkF 100 (m.skyS i) := by
  unfold HoldM.skyS
  cases e : m.skies[i]? with
  | none => exact ok01
  | some f => exact (w.skies f (List.mem_of_getElem? e)).1
theorem HoldM.ownTo_succ (m : HoldM) (i n : Nat) : m.ownTo i (n + 1) = minusM (m.ownTo i n) (m.flow i n) := by
  unfold HoldM.ownTo
  rw [List.range_succ, List.foldl_append]; rfl
theorem HoldM.Wf.ownTo {m : HoldM} (w : m.Wf) (i : Nat) : ∀ n, OkF (201 + 101 * n) (m.ownTo i n)
  | 0 => (ok11.minus (w.skyS i)).mono (by decide)
  | n + 1 => by
    rw [HoldM.ownTo_succ]
    exact ((w.ownTo i n).minus (w.flow i n)).mono (by omega)
section
variable {K : PySem.W.Frag} {H : Hp} {v : V}
theorem Dn.sky {s : Fra × Fra × Fra} (h : Dn K H (skyD s) v) : ∃ p v1 v2 v3, v = .ref p ∧ SqT K H p [v1, v2, v3] ∧ Dn K H (frD s.1) v1 ∧ Dn K H (frD s.2.1) v2 ∧ Dn K H (frD s.2.2) v3 := by
  obtain ⟨p, xs, e, q, x1, r1, e1, d1, x2, r2, e2, d2, x3, r3, e3, d3, e4⟩ := h
  have e4 : r3 = [] := e4
  subst e1 e2 e3 e4
  exact ⟨p, x1, x2, x3, e, q, d1, d2, d3⟩
theorem flat_sky (s : Fra × Fra × Fra) : flatD (skyD s) = true := by simp [skyD, frD, flatD]
theorem flat_stove (s : Option (Fra × Int × Int × Int)) : flatD (stoveD s) = true := by cases s <;> simp [stoveD, frD, flatD]
theorem flat_row (r : List Fra) : flatD (rowD r) = true := flatD_tuple.mpr fun d hd => by
  obtain ⟨f, _, rfl⟩ := List.mem_map.mp hd
  exact flat_fr f
theorem KTup.fr {a : Addr} {f : Fra} (h : KTup K a [.int f.1, .int f.2]) : Dn K H (frD f) (.ref a) := dn_fr (h.at H)
end
def sp_upto : Sp := fun vs H Q _ => ∃ n g : Int, vs = [.int n, .int g] ∧ Q (.bl (decide (0 ≤ n ∧ n ≤ g))) H
section
variable (K : PySem.W.Frag) (C : Addr)
def sp_many : Sp := fun vs H Q _ => ∃ a fp m, vs = [.ref a] ∧ HoldAt K C H a fp m ∧ Q (natV m.rows.length) H
def sp_look_for : Sp := fun vs H Q _ => ∃ a fp m, ∃ i : Nat, vs = [.ref a, natV i] ∧ HoldAt K C H a fp m ∧ i < m.rows.length ∧ Q .non H
def sp_sky : Sp := fun vs H Q _ => ∃ a fp m, ∃ i : Nat, ∃ s, vs = [.ref a, natV i] ∧ HoldAt K C H a fp m ∧ m.skies[i]? = some s ∧ ∀ v, Dn K H (skyD s) v → Q v H
def sp_stove : Sp := fun vs H Q _ => ∃ a fp m, ∃ i : Nat, ∃ s, vs = [.ref a, natV i] ∧ HoldAt K C H a fp m ∧ m.stoves[i]? = some s ∧ ∀ v, Dn K H (stoveD s) v → Q v H
def sp_marks : Sp := fun vs H Q _ => ∃ a fp m, ∃ i : Nat, ∃ r, vs = [.ref a, natV i] ∧ HoldAt K C H a fp m ∧ m.rows[i]? = some r ∧ ∀ p xs, H p = none → DnA K H (r.map frD) xs → Q (.ref p) (upd H p (.lst xs))
def sp_own : Sp := fun vs H Q _ => ∃ a fp m, ∃ i : Nat, vs = [.ref a, natV i] ∧ HoldAt K C H a fp m ∧ i < m.rows.length ∧ ∀ v H', Same H H' → Dn K H' (frD (m.own i)) v → Q v H'
def sp_share : Sp := fun vs H Q _ => ∃ a fp m, ∃ i j : Nat, vs = [.ref a, natV i, natV j] ∧ HoldAt K C H a fp m ∧ i < m.rows.length ∧ j < m.rows.length ∧ ∀ v H', Same H H' → Dn K H' (frD (m.share i j)) v → Q v H'
end
theorem HoldAt.same {K : PySem.W.Frag} {C : Addr} {H H' : Hp} {a : Addr} {fp : List Addr} {m : HoldM} (s : Same H H') (h : HoldAt K C H a fp m) : HoldAt K C H' a fp m := by
  obtain ⟨⟨dx, pm, pf, ps, pt, vm, vs, vt, kvs, e, ha, hdx, hpm, hpf, hps, hpt, n1, n2, n3, dm, ds, dt, df, fk⟩, q1, q2, q3, q4⟩ := h
  refine ⟨⟨dx, pm, pf, ps, pt, vm, vs, vt, kvs, e, s _ _ ha, s _ _ hdx, s _ _ hpm, s _ _ hpf, s _ _ hps, s _ _ hpt, n1, n2, n3, DnA.same s _ dm, DnA.same s _ ds, DnA.same s _ dt, fun i j => ?_, fk⟩, q1, q2, q3, q4⟩
  have := df i j
  revert this
  cases m.flows i j <;> cases valV kvs (fkey i j) <;> intro q
  · exact q
  · exact q
  · exact q
  · exact Dn.same s _ q
end L2
namespace L2
open PySem PySem.Spec PyProof.Rows Mth
theorem sz1 {x : V} : [x].length ≤ sizeLine := by show 1 ≤ sizeLine; decide
theorem nodup_len {α : Type} [DecidableEq α] : ∀ (l L : List α), l.Nodup → (∀ x ∈ l, x ∈ L) → l.length ≤ L.length
  | [], _, _, _ => Nat.zero_le _
  | x :: l, L, hn, hs => by
    obtain ⟨h1, h2⟩ := List.nodup_cons.mp hn
    have hx := hs x List.mem_cons_self
    have := nodup_len l (L.erase x) h2 fun y hy => (List.mem_erase_of_ne (fun e => h1 (by rw [← e]; exact hy))).mpr (hs y (List.mem_cons_of_mem _ hy))
    rw [List.length_erase_of_mem hx] at this
    have hp := List.length_pos_of_mem hx
    rw [List.length_cons]
    omega
def allKeys : List (List Key) := (List.range 4).flatMap fun (i : Nat) => (List.range 4).map fun (j : Nat) => fkey (i : Int) (j : Int)
theorem FKeys.len {kvs : List (List Key × V)} (h : FKeys kvs) : kvs.length ≤ 16 := by
  have := nodup_len (kvs.map (·.1)) allKeys h.1 fun x hx => by
    obtain ⟨p, hp, rfl⟩ := List.mem_map.mp hx
    obtain ⟨i, j, hi, hj, e⟩ := h.2 p hp
    rw [e]
    exact List.mem_flatMap.mpr ⟨i, List.mem_range.mpr hi, List.mem_map.mpr ⟨j, List.mem_range.mpr hj, rfl⟩⟩
  rw [List.length_map] at this
  exact Nat.le_trans this (by decide)
theorem FKeys.put {kvs : List (List Key × V)} (h : FKeys kvs) {i j : Nat} (hi : i < 4) (hj : j < 4) (v : V) : FKeys (putK kvs (fkey i j) v) := by
  refine ⟨?_, fun p hp => ?_⟩
  · cases e : valV kvs (fkey i j) with
    | none => exact nd_putK v h.1 e
    | some y =>
      have hc : (kvs.any fun kv => decide (kv.1 = fkey i j)) = true := by
        unfold valV at e
        cases q : kvs.find? fun kv => decide (kv.1 = fkey i j) with
        | none => rw [q] at e; cases e
        | some z => have q2 := List.find?_some q; exact List.any_eq_true.mpr ⟨z, List.mem_of_find?_eq_some q, q2⟩
      unfold putK
      rw [if_pos hc, List.map_map]
      have : ((fun x : List Key × V => x.1) ∘ fun kv : List Key × V => if kv.1 = fkey i j then (kv.1, v) else kv) = fun x => x.1 := by
        funext x
        show (if x.1 = fkey i j then (x.1, v) else x).1 = x.1
        split <;> rfl
      rw [this]
      exact h.1
  · unfold putK at hp
    split at hp
    · obtain ⟨z, hz, rfl⟩ := List.mem_map.mp hp
      obtain ⟨a, b, ha, hb, e⟩ := h.2 z hz
      refine ⟨a, b, ha, hb, ?_⟩
      split <;> exact e
    · rcases List.mem_append.mp hp with hp | hp
      · exact h.2 p hp
      · have : p = (fkey i j, v) := by simpa using hp
        subst this
        exact ⟨i, j, hi, hj, rfl⟩
theorem fkey_inj {i j i' j' : Int} (h : fkey i j = fkey i' j') : i = i' ∧ j = j' := by
  simp only [fkey, List.cons.injEq, Sum.inl.injEq, and_true] at h
  exact h
def HoldM.setFlow (m : HoldM) (i j : Nat) (f : Fra) : HoldM := { m with flows := fun a b => if a = (i : Int) ∧ b = (j : Int) then some f else m.flows a b }
def HoldM.setSky (m : HoldM) (i : Nat) (s : Fra × Fra × Fra) : HoldM := { m with skies := m.skies.set i s }
def HoldM.setStove (m : HoldM) (i : Nat) (s : Fra × Int × Int × Int) : HoldM := { m with stoves := m.stoves.set i (some s) }
def HoldM.addRoom (m : HoldM) (r : List Fra) : HoldM := { m with rows := m.rows ++ [r], skies := m.skies ++ [((0, 1), (0, 1), (0, 1))], stoves := m.stoves ++ [none] }
def HoldM.new (most cap load : Int) : HoldM := ⟨most, cap, load, [], fun _ _ => none, [], []⟩
/-- a deed on a hold: its own objects and new ones alone are changed, the tuples stay -/
structure Deed (K : PySem.W.Frag) (C : Addr) (H : Hp) (a : Addr) (fp : List Addr) (m' : HoldM) (H' : Hp) (fp' : List Addr) : Prop where
  at_ : HoldAt K C H' a fp' m'
  but : But fp H H'
  ts : TStay K H H'
  own : ∀ b ∈ fp', b ∈ fp ∨ H b = none
theorem FlowIs.ts {K : PySem.W.Frag} {H H' : Hp} (s : TStay K H H') : ∀ {o : Option Fra} {v : Option V}, FlowIs K H o v → FlowIs K H' o v
  | none, none, _ => trivial
  | some f, some v, h => Dn.ts s _ (flat_fr f) h
  | none, some _, h => h
  | some _, none, h => h
theorem rows_ts {K : PySem.W.Frag} {H H' : Hp} {rs : List (List Fra)} {xs : List V} (s : TStay K H H') (h : DnA K H (rs.map rowD) xs) : DnA K H' (rs.map rowD) xs := DnA.ts s _ (fun d hd => by obtain ⟨r, _, rfl⟩ := List.mem_map.mp hd; exact flat_row r) h
theorem skies_ts {K : PySem.W.Frag} {H H' : Hp} {rs : List (Fra × Fra × Fra)} {xs : List V} (s : TStay K H H') (h : DnA K H (rs.map skyD) xs) : DnA K H' (rs.map skyD) xs := DnA.ts s _ (fun d hd => by obtain ⟨r, _, rfl⟩ := List.mem_map.mp hd; exact flat_sky r) h
theorem stoves_ts {K : PySem.W.Frag} {H H' : Hp} {rs : List (Option (Fra × Int × Int × Int))} {xs : List V} (s : TStay K H H') (h : DnA K H (rs.map stoveD) xs) : DnA K H' (rs.map stoveD) xs := DnA.ts s _ (fun d hd => by obtain ⟨r, _, rfl⟩ := List.mem_map.mp hd; exact flat_stove r) h
def risingM (r : List Fra) : Bool := (List.zipWith underM r r.tail).all id
def bandsM (rs : List (List Fra)) : Int := rs.foldl (fun p r => p * ((r.length : Int) - 1)) 1
section
variable (K : PySem.W.Frag) (C : Addr)
def sp_fits : Sp := fun vs H Q _ => ∃ a fp m, ∃ i : Nat, ∃ v1 v2 f g, vs = [.ref a, natV i, v1, v2] ∧ HoldAt K C H a fp m ∧ i < m.rows.length ∧ Dn K H (frD f) v1 ∧ Dn K H (frD g) v2 ∧ OkF 100 f ∧ OkF 100 g ∧
  0 ≤ f.1 ∧ underM (plusM (m.own i) g) f = false ∧ ∀ H', Same H H' → Q .non H'
def sp_put_flow : Sp := fun vs H Q _ => ∃ a fp m, ∃ i j : Nat, ∃ v f, vs = [.ref a, natV i, natV j, v] ∧ HoldAt K C H a fp m ∧ i < m.rows.length ∧ j < m.rows.length ∧ i ≠ j ∧ Dn K H (frD f) v ∧ OkF 100 f ∧
  0 ≤ f.1 ∧ underM (plusM (m.own i) (m.flow i j)) f = false ∧ ∀ H' fp', Deed K C H a fp (m.setFlow i j f) H' fp' → Q .non H'
def sp_put_sky : Sp := fun vs H Q _ => ∃ a fp m, ∃ i : Nat, ∃ v1 v2 v3 f lo hi, vs = [.ref a, natV i, v1, v2, v3] ∧ HoldAt K C H a fp m ∧ i < m.rows.length ∧ Dn K H (frD f) v1 ∧ Dn K H (frD lo) v2 ∧ Dn K H (frD hi) v3 ∧
  OkF 100 f ∧ OkF 100 lo ∧ OkF 100 hi ∧ underM hi lo = false ∧ 0 ≤ f.1 ∧ underM (plusM (m.own i) (m.skyS i)) f = false ∧ ∀ H' fp', Deed K C H a fp (m.setSky i (f, lo, hi)) H' fp' → Q .non H'
def sp_put_stove : Sp := fun vs H Q _ => ∃ a fp m, ∃ i : Nat, ∃ v f, ∃ w st fl : Int, vs = [.ref a, natV i, v, .int w, .int st, .int fl] ∧ HoldAt K C H a fp m ∧ i < m.rows.length ∧ Dn K H (frD f) v ∧ OkF 100 f ∧ 0 ≤ f.1 ∧
  (0 ≤ w ∧ w ≤ 9) ∧ (0 ≤ st ∧ st ≤ 3) ∧ (0 ≤ fl ∧ fl ≤ 3) ∧ ∀ H' fp', Deed K C H a fp (m.setStove i (f, w, st, fl)) H' fp' → Q .non H'
def sp_rising : Sp := fun vs H Q _ => ∃ p xs r, vs = [.ref p] ∧ SqL K H p xs ∧ DnA K H (r.map frD) xs ∧ (∀ f ∈ r, OkF 100 f) ∧ r.length ≤ 7 ∧ ∀ H', Same H H' → Q (.bl (risingM r)) H'
def sp_bands : Sp := fun vs H Q _ => ∃ p xs rs, vs = [.ref p] ∧ SqL K H p xs ∧ DnA K H (rs.map rowD) xs ∧ rs.length ≤ 5 ∧ (∀ r ∈ rs, 1 ≤ r.length ∧ r.length ≤ 7) ∧ Q (.int (bandsM rs)) H
def sp_put_room : Sp := fun vs H Q _ => ∃ a fp m p xs r, vs = [.ref a, .ref p] ∧ HoldAt K C H a fp m ∧ m.rows.length < 4 ∧ SqL K H p xs ∧ DnA K H (r.map frD) xs ∧ (∀ f ∈ r, OkF 100 f) ∧ 2 ≤ r.length ∧ r.length ≤ 7 ∧ risingM r = true ∧ bandsM (m.rows ++ [r]) ≤ 400 ∧
  ∀ H' fp', Deed K C H a fp (m.addRoom r) H' fp' → Q (natV m.rows.length) H'
def sp_init : Sp := fun vs H Q _ => ∃ x dx, ∃ most cap load : Int, vs = [.ref x, .int most, .int cap, .int load] ∧ H x = some (.ins C dx []) ∧ H dx = some (.own x) ∧ (0 ≤ most ∧ most ≤ 4) ∧ (0 ≤ cap ∧ cap ≤ 30) ∧ (0 ≤ load ∧ load ≤ 30) ∧
  ∀ H' fp', Deed K C H x [x, dx] (HoldM.new most cap load) H' fp' → Q .non H'
end
end L2
namespace L2
open PySem PySem.Spec PyProof.Rows Mth
theorem ne_obj {H : Hp} {a b : Addr} {o u : HO} (h : H a = some o) (k : H b = some u) (n : o ≠ u) : a ≠ b := fun e => by
  subst e
  rw [h] at k
  exact n (Option.some.inj k)
theorem But.same {fp : List Addr} {H H' : Hp} (s : Same H H') : But fp H H' := fun b o h _ => s b o h
theorem But.upd {fp : List Addr} {H H' : Hp} {p : Addr} {o : HO} (b : But fp H H') (hp : p ∈ fp) : But fp H (upd H' p o) := fun c u h n => by
  rw [upd_ne (fun e => n (by rw [e]; exact hp))]
  exact b c u h n
section
variable {K : PySem.W.Frag} {C : Addr} {H H1 : Hp} {a : Addr} {fp : List Addr} {m : HoldM}
end
end L2
namespace L2
open PySem PySem.Spec PyProof.Rows Mth
theorem Same.put {H H' : Hp} {D : Addr} {o : HO} (s : Same H H') (h : H D = none) : Same H (upd H' D o) := fun b u e => by
  rw [upd_ne (ne_of_none e h)]
  exact s b u e
end L2
namespace L2
open PySem PySem.Spec PyProof.Rows Mth
section
variable {K : PySem.W.Frag} {C : Addr} {H H1 : Hp} {a : Addr} {fp : List Addr} {m : HoldM}
end
end L2
namespace L2
open PySem PySem.Spec PyProof.Rows Mth
/-- but for x all stays, and x is an instance -/
structure ButX (K : PySem.W.Frag) (C x dx : Addr) (H H' : Hp) (fs : List (Str × V)) : Prop where
  st : ∀ b o, H b = some o → b ≠ x → H' b = some o
  ts : TStay K H H'
  at_ : H' x = some (.ins C dx fs)
section
variable {K : PySem.W.Frag} {C x dx : Addr} {H H' : Hp} {fs fs' : List (Str × V)}
theorem ButX.start (h : H x = some (.ins C dx fs)) : ButX K C x dx H H fs := ⟨fun _ _ h _ => h, TStay.refl _, h⟩
theorem ButX.put (B : ButX K C x dx H H' fs) : ButX K C x dx H (upd H' x (.ins C dx fs')) fs' := ⟨fun b o h n => by rw [upd_ne n]; exact B.st b o h n, B.ts.trans (ts_upd B.at_ rfl), upd_same⟩
theorem ButX.new {p : Addr} {o : HO} (B : ButX K C x dx H H' fs) (hp : H' p = none) : ButX K C x dx H (upd H' p o) fs := ⟨fun b u h n => by rw [upd_ne (ne_of_none (B.st b u h n) hp)]; exact B.st b u h n, B.ts.trans (Same.ts (same_upd hp)), by rw [upd_ne (ne_of_none B.at_ hp)]; exact B.at_⟩
theorem ButX.keep {b : Addr} {o u : HO} (B : ButX K C x dx H H' fs) (h : H' b = some o) (n : b ≠ x) : (upd H' x u) b = some o := by rw [upd_ne n]; exact h
theorem ButX.none {p : Addr} (B : ButX K C x dx H H' fs) (hp : H' p = none) : H p = Option.none := by
  cases e : H p with
  | none => rfl
  | some o =>
    by_cases q : p = x
    · rw [q, B.at_] at hp; cases hp
    · rw [B.st p o e q] at hp; cases hp
theorem ButX.ne {p : Addr} (B : ButX K C x dx H H' fs) (hp : H' p = Option.none) : p ≠ x := fun q => by rw [q, B.at_] at hp; cases hp
end
end L2
namespace L2
open PySem PySem.Spec PyProof.Rows Mth
def hpair (i j : Int) : Int := reduceHash (Builtin.Tuple.tupleHashOf [hashInt i, hashInt j])
theorem hpair_fin : ∀ i j i' j' : Fin 4, hpair (i.val : Int) (j.val : Int) = hpair (i'.val : Int) (j'.val : Int) → i = i' ∧ j = j' := by decide +kernel
theorem hpair_inj (i : Nat) (hi : i < 4) (j : Nat) (hj : j < 4) (i' : Nat) (hi' : i' < 4) (j' : Nat) (hj' : j' < 4) (h : hpair (i : Int) (j : Int) = hpair (i' : Int) (j' : Int)) : i = i' ∧ j = j' := by
  obtain ⟨a, b⟩ := hpair_fin ⟨i, hi⟩ ⟨j, hj⟩ ⟨i', hi'⟩ ⟨j', hj'⟩ h
  exact ⟨congrArg Fin.val a, congrArg Fin.val b⟩
theorem FKeys.hash {P : Program} {w : World} {kvs : List (List Key × V)} (h : FKeys kvs) : (kvs.map fun kv => tupleKeyHash (mixKind P w) kv.1).Nodup := by
  have h1 := List.pairwise_map.mp h.1
  refine List.pairwise_map.mpr (h1.imp_of_mem fun {a b} ha hb n e => ?_)
  obtain ⟨i, j, hi, hj, e1⟩ := h.2 a ha
  obtain ⟨i', j', hi', hj', e2⟩ := h.2 b hb
  rw [e1, e2] at e
  obtain ⟨z1, z2⟩ := hpair_inj i hi j hj i' hi' j' hj' e
  exact n (by rw [e1, e2, z1, z2])
def optV : Option Int → V
  | none => .non
  | some n => .int n
def HoldM.with (m : HoldM) (x y z : Option Int) : HoldM := { m with most := x.getD m.most, cap := y.getD m.cap, load := z.getD m.load }
def HoldM.Bds (m : HoldM) : Prop := (0 ≤ m.most ∧ m.most ≤ 4) ∧ (0 ≤ m.cap ∧ m.cap ≤ 30) ∧ (0 ≤ m.load ∧ m.load ≤ 30)
def sp_like (K : PySem.W.Frag) (C : Addr) : Sp := fun vs H Q _ => ∃ a fp m x y z, vs = [.ref a, optV x, optV y, optV z] ∧ HoldAt K C H a fp m ∧ (m.with x y z).Bds ∧
  ∀ b H' fp', Same H H' → HoldAt K C H' b fp' (m.with x y z) → (∀ c ∈ fp', H c = none) → Q (.ref b) H'
end L2
namespace L2
open PySem PySem.Spec PyProof.Rows Mth
def sp_pick : Sp := fun vs H Q _ => ∃ c k n : Int, vs = [.int c, .int k, .int n] ∧ 0 ≤ k ∧ k ≤ 1000 ∧ 0 < n ∧ ∀ r, 0 ≤ r → r < n → Q (.int r) H
structure ScM where
  a : Int
  b : Int
  t : Int
  d : Int
structure ScM.Ok (s : ScM) : Prop where
  a0 : 1 ≤ s.a
  a1 : s.a ≤ 10 ^ 9
  b0 : 1 ≤ s.b
  b1 : s.b ≤ 10 ^ 9
  t0 : -(10 ^ 9) ≤ s.t
  t1 : s.t ≤ 10 ^ 9
  d0 : 1 ≤ s.d
  d1 : s.d ≤ 10 ^ 9
abbrev ScM.vs (s : ScM) : List V := [.int s.a, .int s.b, .int s.t, .int s.d]
def sp_scale : Sp := fun vs H Q _ => ∃ c : Int, vs = [.int c] ∧ ∀ p H' (s : ScM), s.Ok → Same H H' → H' p = some (.tup s.vs) → Q (.ref p) H'
/-- num by parts, scaled and moved -/
def warmT (num parts : Int) (s : ScM) : Int := num * s.a * s.d + parts * s.t * s.b
def warmB (parts : Int) (s : ScM) : Int := parts * s.b * s.d
def warmM (num parts : Int) (s : ScM) : Fra := nf (warmT num parts s) (warmB parts s)
def sp_warm (K : PySem.W.Frag) : Sp := fun vs H Q _ => ∃ num parts p, ∃ s : ScM, vs = [.int num, .int parts, .ref p] ∧ SqT K H p s.vs ∧ s.Ok ∧ Bd 30 num ∧ 0 < parts ∧ Bd 30 parts ∧
  ∀ q H', Same H H' → H' q = some (.tup [.int (warmM num parts s).1, .int (warmM num parts s).2]) → Q (.ref q) H'
theorem bd30 {x : Int} (h0 : -(10 ^ 9) ≤ x) (h1 : x ≤ 10 ^ 9) : Bd 30 x := by show x.natAbs < 2 ^ 30; omega
section
variable {s : ScM}
theorem ScM.Ok.bd (h : s.Ok) : Bd 30 s.d := bd30 (by have := h.d0; omega) h.d1
end
abbrev stoveI (z : Int × Int × Int × Int) : List V := [.int z.1, .int z.2.1, .int z.2.2.1, .int z.2.2.2]
structure StI (z : Int × Int × Int × Int) : Prop where
  h : 0 ≤ z.1 ∧ z.1 ≤ 25
  w : 0 ≤ z.2.1 ∧ z.2.1 ≤ 9
  s : 0 ≤ z.2.2.1 ∧ z.2.2.1 ≤ 3
  f : 0 ≤ z.2.2.2 ∧ z.2.2.2 ≤ 3
def sp_stove_by : Sp := fun vs H Q _ => ∃ a b c : Int, ∃ i : Nat, vs = [.int a, .int b, .int c, natV i] ∧ i < 4 ∧ Q .non H ∧ ∀ p z, StI z → H p = none → Q (.ref p) (upd H p (.tup (stoveI z)))
end L2
namespace L2
open PySem PySem.Spec PyProof.Rows Mth
def cutH (H : Hp) (L : List Addr) : Hp := fun b => if b ∈ L then none else H b
section
variable {K : PySem.W.Frag} {H H' : Hp} {L : List Addr} {a : Addr} {o : HO}
theorem cut_upd (h : a ∈ L) : cutH (upd H a o) L = cutH H L := by
  funext b
  unfold cutH
  split
  · rfl
  · rename_i n
    rw [upd_ne (fun e => n (by rw [e]; exact h))]
theorem same_cut (s : Same H H') : Same (cutH H L) (cutH H' L) := fun b u h => by
  unfold cutH at h ⊢
  split at h
  · cases h
  · rename_i n
    rw [if_neg n]
    exact s b u h
/-- none of L is a tuple -/
def NoTups (H : Hp) (L : List Addr) : Prop := ∀ b ∈ L, ∃ o, H b = some o ∧ noTup o = true
end
structure ToldM where
  marks : List (List Int)
  sky : List (Int × Int × Int)
  stoves : List (Option (Int × Int × Int × Int))
  flows : Nat → Nat → Option Int
  scale : ScM
  bounds : Int × Int × Int
abbrev skyI (z : Int × Int × Int) : PyData := .tuple [.int z.1, .int z.2.1, .int z.2.2]
abbrev stI : Option (Int × Int × Int × Int) → PyData
  | none => .none
  | some z => .tuple [.int z.1, .int z.2.1, .int z.2.2.1, .int z.2.2.2]
abbrev rowI (l : List Int) : PyData := .list (l.map PyData.int)
def toldKV (pm ps pt pf psc pb : Addr) : List (Key × V) :=
  [(.inr "marks", .ref pm), (.inr "sky", .ref ps), (.inr "stoves", .ref pt), (.inr "flows", .ref pf), (.inr "scale", .ref psc), (.inr "bounds", .ref pb)]
section
variable (pm ps pt pf psc pb : Addr)
end
/-- the objects of what is told -/
structure TC (K : PySem.W.Frag) (H : Hp) (p pm ps pt pf psc pb : Addr) (vm vs vt : List V) (kvs : List (List Key × V)) (m : ToldM) : Prop where
  hp : H p = some (.dK (toldKV pm ps pt pf psc pb))
  hpm : H pm = some (.lst vm)
  hps : H ps = some (.lst vs)
  hpt : H pt = some (.lst vt)
  hpf : H pf = some (.dT kvs)
  n1 : pm ≠ ps
  n2 : pm ≠ pt
  n3 : ps ≠ pt
  dm : DnA K (cutH H [p, pm, ps, pt, pf]) (m.marks.map rowI) vm
  ds : DnA K (cutH H [p, pm, ps, pt, pf]) (m.sky.map skyI) vs
  dt : DnA K (cutH H [p, pm, ps, pt, pf]) (m.stoves.map stI) vt
  df : ∀ i j : Nat, i < 4 → j < 4 → valV kvs (fkey i j) = (m.flows i j).map V.int
  fk : FKeys kvs
  sc : SqT K (cutH H [p, pm, ps, pt, pf]) psc m.scale.vs
  bo : SqT K (cutH H [p, pm, ps, pt, pf]) pb [.int m.bounds.1, .int m.bounds.2.1, .int m.bounds.2.2]
section
variable {K : PySem.W.Frag} {H H' : Hp} {p pm ps pt pf psc pb : Addr} {vm vs vt : List V} {kvs : List (List Key × V)} {m : ToldM}
theorem TC.same (c : TC K H p pm ps pt pf psc pb vm vs vt kvs m) (s : Same H H') : TC K H' p pm ps pt pf psc pb vm vs vt kvs m :=
  ⟨s _ _ c.hp, s _ _ c.hpm, s _ _ c.hps, s _ _ c.hpt, s _ _ c.hpf, c.n1, c.n2, c.n3, DnA.same (same_cut s) _ c.dm, DnA.same (same_cut s) _ c.ds, DnA.same (same_cut s) _ c.dt, c.df, c.fk, (same_cut s).tup c.sc, (same_cut s).tup c.bo⟩
def ToldM.setFlow (m : ToldM) (i j : Nat) (k : Int) : ToldM := { m with flows := fun a b => if a = i ∧ b = j then some k else m.flows a b }
theorem TC.setFlow (c : TC K H p pm ps pt pf psc pb vm vs vt kvs m) {i j : Nat} {k : Int} (hi : i < 4) (hj : j < 4) :
    TC K (upd H pf (.dT (putK kvs (fkey i j) (.int k)))) p pm ps pt pf psc pb vm vs vt (putK kvs (fkey i j) (.int k)) (m.setFlow i j k) := by
  have e : cutH (upd H pf (.dT (putK kvs (fkey i j) (.int k)))) [p, pm, ps, pt, pf] = cutH H [p, pm, ps, pt, pf] := cut_upd (by simp)
  refine ⟨by rw [upd_ne (ne_obj c.hp c.hpf nofun)]; exact c.hp, by rw [upd_ne (ne_obj c.hpm c.hpf nofun)]; exact c.hpm, by rw [upd_ne (ne_obj c.hps c.hpf nofun)]; exact c.hps, by rw [upd_ne (ne_obj c.hpt c.hpf nofun)]; exact c.hpt, upd_same, c.n1, c.n2, c.n3, by rw [e]; exact c.dm, by rw [e]; exact c.ds, by rw [e]; exact c.dt, fun a b ha hb => ?_, c.fk.put hi hj _, by rw [e]; exact c.sc, by rw [e]; exact c.bo⟩
  rw [valV_put]
  show _ = (if a = i ∧ b = j then some k else m.flows a b).map V.int
  by_cases z : a = i ∧ b = j
  · rw [if_pos z, if_pos (by rw [z.1, z.2])]; rfl
  · rw [if_neg z, if_neg (fun y => z (by have := fkey_inj y; omega))]
    exact c.df a b ha hb
end
def risingI (l : List Int) : Prop := ∀ i x y, l[i]? = some x → l[i + 1]? = some y → x < y
structure RowOk (n : Nat) (l : List Int) : Prop where
  two : 2 ≤ l.length
  most : l.length ≤ if n ≤ 2 then 7 else 5
  ris : risingI l
  bd : ∀ x ∈ l, -200 ≤ x ∧ x ≤ 200
structure ToldM.Ok (n i : Nat) (m : ToldM) : Prop where
  lm : m.marks.length = i
  ls : m.sky.length = i
  lt : m.stoves.length = i
  rows : ∀ l ∈ m.marks, RowOk n l
  sky : ∀ z ∈ m.sky, (0 ≤ z.1 ∧ z.1 ≤ 3) ∧ (-30 ≤ z.2.1 ∧ z.2.1 ≤ 30) ∧ z.2.1 ≤ z.2.2 ∧ z.2.2 ≤ z.2.1 + 30
  stoves : ∀ z, some z ∈ m.stoves → StI z
  flows : ∀ a b, a < i → b < n → a ≠ b → ∃ k, m.flows a b = some k ∧ 0 ≤ k ∧ k ≤ 3
  scale : m.scale.Ok
  bounds : (0 ≤ m.bounds.1 ∧ m.bounds.1 ≤ 4) ∧ (0 ≤ m.bounds.2.1 ∧ m.bounds.2.1 ≤ 30) ∧ (0 ≤ m.bounds.2.2 ∧ m.bounds.2.2 ≤ 30)
def ToldAt (K : PySem.W.Frag) (H : Hp) (p : Addr) (m : ToldM) : Prop := ∃ pm ps pt pf psc pb vm vs vt kvs, TC K H p pm ps pt pf psc pb vm vs vt kvs m
theorem ToldAt.same {K : PySem.W.Frag} {H H' : Hp} {p : Addr} {m : ToldM} (h : ToldAt K H p m) (s : Same H H') : ToldAt K H' p m := by
  obtain ⟨pm, ps, pt, pf, psc, pb, vm, vs, vt, kvs, c⟩ := h
  exact ⟨pm, ps, pt, pf, psc, pb, vm, vs, vt, kvs, c.same s⟩
def sp_drawn (K : PySem.W.Frag) : Sp := fun vs H Q _ => ∃ a, ∃ ns : List Int, vs = [.ref a] ∧ SqL K H a (ns.map V.int) ∧ ∀ p H' m n, 1 ≤ n → n ≤ 4 → ToldM.Ok n n m → Same H H' → ToldAt K H' p m → Q (.ref p) H'
end L2
namespace L2
open PySem PySem.Spec PyProof.Rows Mth
section
variable {H : Hp} {p pm ps pt pf psc pb : Addr}
end
theorem ToldM.Ok.marks {n i : Nat} {m : ToldM} {l : List Int} {z : Int × Int × Int} {t : Option (Int × Int × Int × Int)} {fl : Nat → Nat → Option Int} (h : m.Ok n i) (hl : RowOk n l)
    (hz : (0 ≤ z.1 ∧ z.1 ≤ 3) ∧ (-30 ≤ z.2.1 ∧ z.2.1 ≤ 30) ∧ z.2.1 ≤ z.2.2 ∧ z.2.2 ≤ z.2.1 + 30) (ht : ∀ y, t = some y → StI y) (hf : ∀ a b, a < i + 1 → b < n → a ≠ b → ∃ k, fl a b = some k ∧ 0 ≤ k ∧ k ≤ 3) :
    ToldM.Ok n (i + 1) { m with marks := m.marks ++ [l], sky := m.sky ++ [z], stoves := m.stoves ++ [t], flows := fl } := by
  refine ⟨?_, ?_, ?_, fun x hx => ?_, fun x hx => ?_, fun x hx => ?_, hf, h.scale, h.bounds⟩
  · show (m.marks ++ [l]).length = _
    rw [List.length_append, h.lm]; rfl
  · show (m.sky ++ [z]).length = _
    rw [List.length_append, h.ls]; rfl
  · show (m.stoves ++ [t]).length = _
    rw [List.length_append, h.lt]; rfl
  · rcases List.mem_append.mp hx with q | q
    · exact h.rows x q
    · rw [List.mem_singleton.mp q]; exact hl
  · rcases List.mem_append.mp hx with q | q
    · exact h.sky x q
    · rw [List.mem_singleton.mp q]; exact hz
  · rcases List.mem_append.mp hx with q | q
    · exact h.stoves x q
    · exact ht x (List.mem_singleton.mp q).symm
end L2
namespace L2
open PySem PySem.Spec PyProof.Rows Mth
/-- a stove told, or none -/
def StV (H : Hp) (t : Option (Int × Int × Int × Int)) (x : V) (H' : Hp) : Prop := (t = none ∧ x = .non ∧ H' = H) ∨ ∃ p z, t = some z ∧ x = .ref p ∧ H p = none ∧ StI z ∧ H' = upd H p (.tup (stoveI z))
theorem StV.same {H H' : Hp} {t : Option (Int × Int × Int × Int)} {x : V} (h : StV H t x H') : Same H H' := by
  rcases h with ⟨_, _, rfl⟩ | ⟨p, z, _, _, hp, _, rfl⟩
  · exact Same.refl _
  · exact same_upd hp
theorem StV.ok {H H' : Hp} {t : Option (Int × Int × Int × Int)} {x : V} (h : StV H t x H') : ∀ y, t = some y → StI y := by
  rcases h with ⟨rfl, _, _⟩ | ⟨p, z, rfl, _, hp, hz, _⟩
  · exact nofun
  · intro y e; cases e; exact hz
end L2
namespace L2
open PySem PySem.Spec PyProof.Rows Mth
end L2
namespace Mth
/-- f is k by W -/
def Ov (W k : Int) (f : Int × Int) : Prop := f.1 * W = k * f.2 ∧ 0 < f.2
theorem Ov.nf {W k : Int} (h : 0 < W) : Ov W k (nf k W) := by
  have F := nf_fr (t := k) h
  exact ⟨F.cross, F.pos⟩
theorem ov_one {W : Int} : Ov W W (1, 1) := ⟨by show 1 * W = W * 1; omega, by decide⟩
theorem ov_zero {W : Int} : Ov W 0 (0, 1) := ⟨by show 0 * W = 0 * 1; omega, by decide⟩
theorem Ov.minus {W a b : Int} {x y : Int × Int} (h : Ov W a x) (k : Ov W b y) : Ov W (a - b) (minusM x y) := by
  have F := nf_fr (t := x.1 * y.2 - y.1 * x.2) (b := x.2 * y.2) (Int.mul_pos h.2 k.2)
  refine ⟨?_, F.pos⟩
  have c := F.cross
  have hx := h.1
  have hy := k.1
  have pp : 0 < x.2 * y.2 := Int.mul_pos h.2 k.2
  show (Mth.nf (x.1 * y.2 - y.1 * x.2) (x.2 * y.2)).1 * W = (a - b) * (Mth.nf (x.1 * y.2 - y.1 * x.2) (x.2 * y.2)).2
  generalize (Mth.nf (x.1 * y.2 - y.1 * x.2) (x.2 * y.2)).1 = q at c ⊢
  generalize (Mth.nf (x.1 * y.2 - y.1 * x.2) (x.2 * y.2)).2 = r at c ⊢
  refine Int.eq_of_mul_eq_mul_right (Int.ne_of_gt pp) ?_
  have e1 : x.1 * y.2 * W = a * (x.2 * y.2) := by rw [Int.mul_right_comm, hx, Int.mul_assoc]
  have e2 : y.1 * x.2 * W = b * (x.2 * y.2) := by rw [Int.mul_right_comm, hy, Int.mul_assoc, Int.mul_comm y.2]
  calc q * W * (x.2 * y.2) = (q * (x.2 * y.2)) * W := by rw [Int.mul_right_comm]
    _ = (x.1 * y.2 - y.1 * x.2) * r * W := by rw [c]
    _ = ((x.1 * y.2 - y.1 * x.2) * W) * r := by rw [Int.mul_right_comm]
    _ = (a * (x.2 * y.2) - b * (x.2 * y.2)) * r := by rw [Int.sub_mul, e1, e2]
    _ = (a - b) * r * (x.2 * y.2) := by rw [← Int.sub_mul, Int.mul_right_comm]
theorem Ov.under {W a b : Int} {x y : Int × Int} (hW : 0 < W) (h : Ov W a x) (k : Ov W b y) : underM x y = decide (a < b) := by
  unfold underM
  refine decide_eq_decide.mpr ?_
  have pp : 0 < x.2 * y.2 := Int.mul_pos h.2 k.2
  have e1 : x.1 * y.2 * W = a * (x.2 * y.2) := by rw [Int.mul_right_comm, h.1, Int.mul_assoc]
  have e2 : y.1 * x.2 * W = b * (x.2 * y.2) := by rw [Int.mul_right_comm, k.1, Int.mul_assoc, Int.mul_comm y.2]
  constructor
  · intro l
    have := Int.mul_lt_mul_of_pos_right l hW
    rw [e1, e2] at this
    exact Int.lt_of_mul_lt_mul_right this (Int.le_of_lt pp)
  · intro l
    have := Int.mul_lt_mul_of_pos_right l pp
    rw [← e1, ← e2] at this
    exact Int.lt_of_mul_lt_mul_right this (Int.le_of_lt hW)
end Mth
namespace L2
open PySem PySem.Spec PyProof.Rows Mth
def sumF (fl : Nat → Nat → Int) (i : Nat) : Nat → Int
  | 0 => 0
  | t + 1 => sumF fl i t + fl i t
/-- the shares of a hold, over W -/
structure ShOk (W : Int) (sk : Nat → Int) (fl : Nat → Nat → Int) (m : HoldM) : Prop where
  sky : ∀ i, Ov W (sk i) (m.skyS i)
  flow : ∀ i j, Ov W (fl i j) (m.flow i j)
theorem ShOk.ownTo {W : Int} {sk : Nat → Int} {fl : Nat → Nat → Int} {m : HoldM} (h : ShOk W sk fl m) (i : Nat) : ∀ t, Ov W (W - sk i - sumF fl i t) (m.ownTo i t)
  | 0 => by
    have := (ov_one (W := W)).minus (h.sky i)
    have e : W - sk i - sumF fl i 0 = W - sk i := by show W - sk i - 0 = _; omega
    rw [e]
    exact this
  | t + 1 => by
    rw [HoldM.ownTo_succ]
    have := (h.ownTo i t).minus (h.flow i t)
    have e : W - sk i - sumF fl i (t + 1) = W - sk i - sumF fl i t - fl i t := by show W - sk i - (sumF fl i t + fl i t) = _; omega
    rw [e]
    exact this
theorem ShOk.own {W : Int} {sk : Nat → Int} {fl : Nat → Nat → Int} {m : HoldM} (h : ShOk W sk fl m) (i : Nat) : Ov W (W - sk i - sumF fl i m.rows.length) (m.own i) := h.ownTo i _
theorem flow_setFlow {m : HoldM} {i j a b : Nat} {f : Fra} : (m.setFlow i j f).flow a b = if a = i ∧ b = j then f else m.flow a b := by
  unfold HoldM.flow HoldM.setFlow
  by_cases e : a = i ∧ b = j
  · rw [if_pos e]
    show ((if (a : Int) = (i : Int) ∧ (b : Int) = (j : Int) then some f else m.flows a b)).getD (0, 1) = f
    rw [if_pos (by omega)]; rfl
  · rw [if_neg e]
    show ((if (a : Int) = (i : Int) ∧ (b : Int) = (j : Int) then some f else m.flows a b)).getD (0, 1) = _
    rw [if_neg (by omega)]
theorem ShOk.setFlow {W k : Int} {sk : Nat → Int} {fl : Nat → Nat → Int} {m : HoldM} {f : Fra} {i j : Nat} (h : ShOk W sk fl m) (hf : Ov W k f) : ShOk W sk (fun a b => if a = i ∧ b = j then k else fl a b) (m.setFlow i j f) := by
  refine ⟨fun a => h.sky a, fun a b => ?_⟩
  rw [flow_setFlow]
  by_cases e : a = i ∧ b = j
  · simp only [if_pos e]; exact hf
  · simp only [if_neg e]; exact h.flow a b
theorem skyS_setSky {m : HoldM} {i a : Nat} {z : Fra × Fra × Fra} (hi : i < m.skies.length) : (m.setSky i z).skyS a = if a = i then z.1 else m.skyS a := by
  unfold HoldM.skyS HoldM.setSky
  by_cases e : a = i
  · subst e
    rw [if_pos rfl]
    show (((m.skies.set a z)[a]?).map (·.1)).getD (0, 1) = _
    rw [List.getElem?_set_self hi]; rfl
  · rw [if_neg e]
    show (((m.skies.set i z)[a]?).map (·.1)).getD (0, 1) = _
    rw [List.getElem?_set_ne (fun x => e x.symm)]
theorem ShOk.setSky {W k : Int} {sk : Nat → Int} {fl : Nat → Nat → Int} {m : HoldM} {z : Fra × Fra × Fra} {i : Nat} (h : ShOk W sk fl m) (hi : i < m.skies.length) (hf : Ov W k z.1) : ShOk W (fun a => if a = i then k else sk a) fl (m.setSky i z) := by
  refine ⟨fun a => ?_, fun a b => h.flow a b⟩
  rw [skyS_setSky hi]
  by_cases e : a = i
  · simp only [if_pos e]; exact hf
  · simp only [if_neg e]; exact h.sky a
theorem ShOk.new {W : Int} {most cap load : Int} : ShOk W (fun _ => 0) (fun _ _ => 0) (HoldM.new most cap load) := ⟨fun _ => ov_zero, fun _ _ => ov_zero⟩
theorem ShOk.addRoom {W : Int} {sk : Nat → Int} {fl : Nat → Nat → Int} {m : HoldM} {r : List Fra} (h : ShOk W sk fl m) (hs : ∀ i, m.skies.length ≤ i → sk i = 0) : ShOk W sk fl (m.addRoom r) := by
  refine ⟨fun a => ?_, fun a b => h.flow a b⟩
  by_cases e : a < m.skies.length
  · have : (m.addRoom r).skyS a = m.skyS a := by
      show (((m.skies ++ [((0, 1), (0, 1), (0, 1))])[a]?).map (·.1)).getD (0, 1) = ((m.skies[a]?).map (·.1)).getD (0, 1)
      rw [List.getElem?_append_left e]
    rw [this]
    exact h.sky a
  · have : (m.addRoom r).skyS a = (0, 1) := by
      show (((m.skies ++ [((0, 1), (0, 1), (0, 1))])[a]?).map (·.1)).getD (0, 1) = (0, 1)
      rw [List.getElem?_append_right (by omega)]
      cases q : a - m.skies.length with
      | zero => rfl
      | succ n => rfl
    rw [this, hs a (by omega)]
    exact ov_zero
theorem ShOk.setStove {W : Int} {sk : Nat → Int} {fl : Nat → Nat → Int} {m : HoldM} {i : Nat} {z : Fra × Int × Int × Int} (h : ShOk W sk fl m) : ShOk W sk fl (m.setStove i z) := ⟨fun a => h.sky a, fun a b => h.flow a b⟩
end L2
namespace L2
open PySem PySem.Spec PyProof.Rows Mth
def ToldM.row (tm : ToldM) (l : List Int) : List Fra := l.map fun x => warmM x 1 tm.scale
def ToldM.m1 (tm : ToldM) (k : Nat) : HoldM := ((tm.marks.take k).map tm.row).foldl HoldM.addRoom (HoldM.new tm.bounds.1 tm.bounds.2.1 tm.bounds.2.2)
def ToldM.skyAt (tm : ToldM) (z : Int × Int × Int) : Fra × Fra × Fra := (nf z.1 12, warmM z.2.1 1 tm.scale, warmM z.2.2 1 tm.scale)
def ToldM.stoveAt (tm : ToldM) (z : Int × Int × Int × Int) : Fra × Int × Int × Int := (nf (z.1 * tm.scale.a) tm.scale.b, z.2.1, z.2.2.1, z.2.2.2)
def ToldM.skyStep (tm : ToldM) (m : HoldM) (i : Nat) : HoldM := match tm.sky[i]? with | some z => m.setSky i (tm.skyAt z) | none => m
def ToldM.stoveStep (tm : ToldM) (m : HoldM) (i : Nat) : HoldM := match tm.stoves[i]? with | some (some z) => m.setStove i (tm.stoveAt z) | _ => m
def ToldM.flowStep (tm : ToldM) (i : Nat) (m : HoldM) (j : Nat) : HoldM := if j = i then m else match tm.flows i j with | some k => m.setFlow i j (nf k 12) | none => m
def ToldM.flowsTo (tm : ToldM) (i : Nat) (m : HoldM) (j : Nat) : HoldM := (List.range j).foldl (tm.flowStep i) m
def ToldM.roomStep (tm : ToldM) (n : Nat) (m : HoldM) (i : Nat) : HoldM := tm.flowsTo i (tm.stoveStep (tm.skyStep m i) i) n
def ToldM.m2 (tm : ToldM) (n k : Nat) : HoldM := (List.range k).foldl (tm.roomStep n) (tm.m1 n)
theorem Deed.keep {K : PySem.W.Frag} {C : Addr} {H0 H H' : Hp} {a : Addr} {fp fp' : List Addr} {m' : HoldM} (S : Same H0 H) (n : ∀ b ∈ fp, H0 b = none) (D : Deed K C H a fp m' H' fp') : Same H0 H' ∧ ∀ b ∈ fp', H0 b = none := by
  refine ⟨fun b o h => D.but b o (S b o h) fun q => ?_, fun b hb => ?_⟩
  · rw [n b q] at h; cases h
  · rcases D.own b hb with q | q
    · exact n b q
    · exact S.free q
/-- rows and bounds stay -/
structure Kp (m m' : HoldM) : Prop where
  rows : m'.rows = m.rows
  most : m'.most = m.most
  cap : m'.cap = m.cap
  load : m'.load = m.load
theorem Kp.refl (m : HoldM) : Kp m m := ⟨rfl, rfl, rfl, rfl⟩
theorem Kp.trans {m m1 m2 : HoldM} (a : Kp m m1) (b : Kp m1 m2) : Kp m m2 := ⟨b.rows.trans a.rows, b.most.trans a.most, b.cap.trans a.cap, b.load.trans a.load⟩
end L2
namespace L2
open PySem PySem.Spec PyProof.Rows Mth
end L2
namespace L2
open PySem PySem.Spec PyProof.Rows Mth
structure SF (sk : Nat → Int) (fl : Nat → Nat → Int) : Prop where
  hsk : ∀ a, 0 ≤ sk a ∧ sk a ≤ 3
  hfl : ∀ a b, 0 ≤ fl a b ∧ fl a b ≤ 3
  hno : ∀ a, fl a a = 0
/-- a hold whose shares are twelfths, at most three each -/
def Tw (m : HoldM) : Prop := ∃ sk fl, ShOk 12 sk fl m ∧ SF sk fl
theorem Tw.sky {m : HoldM} {i : Nat} {z : Fra × Fra × Fra} {k : Int} (h : Tw m) (hi : i < m.skies.length) (hf : Ov 12 k z.1) (k0 : 0 ≤ k) (k3 : k ≤ 3) : Tw (m.setSky i z) := by
  obtain ⟨sk, fl, S, F⟩ := h
  refine ⟨_, _, S.setSky hi hf, ⟨fun a => ?_, F.hfl, F.hno⟩⟩
  show 0 ≤ (if a = i then k else sk a) ∧ (if a = i then k else sk a) ≤ 3
  split
  · exact ⟨k0, k3⟩
  · exact F.hsk a
theorem Tw.flow {m : HoldM} {i j : Nat} {f : Fra} {k : Int} (h : Tw m) (hij : i ≠ j) (hf : Ov 12 k f) (k0 : 0 ≤ k) (k3 : k ≤ 3) : Tw (m.setFlow i j f) := by
  obtain ⟨sk, fl, S, F⟩ := h
  refine ⟨_, _, S.setFlow hf, ⟨F.hsk, fun a b => ?_, fun a => ?_⟩⟩
  · show 0 ≤ (if a = i ∧ b = j then k else fl a b) ∧ (if a = i ∧ b = j then k else fl a b) ≤ 3
    split
    · exact ⟨k0, k3⟩
    · exact F.hfl a b
  · show (if a = i ∧ a = j then k else fl a a) = 0
    rw [if_neg (by omega)]
    exact F.hno a
theorem Tw.stove {m : HoldM} {i : Nat} {z : Fra × Int × Int × Int} (h : Tw m) : Tw (m.setStove i z) := by
  obtain ⟨sk, fl, S, F⟩ := h
  exact ⟨sk, fl, S.setStove, F⟩
end L2
namespace L2
open PySem PySem.Spec PyProof.Rows Mth
def seenRoom (m : HoldM) (i : Nat) : List PyData :=
  [.tuple [.list (((m.rows[i]?).getD []).map frD), skyD ((m.skies[i]?).getD ((0, 1), (0, 1), (0, 1))), stoveD ((m.stoves[i]?).getD none)], .list ((List.range m.rows.length).map fun j => frD (m.share i j))]
def seenTo (m : HoldM) (k : Nat) : List PyData := .int m.rows.length :: (List.range k).flatMap (seenRoom m)
def seenD (m : HoldM) : PyData := .list (seenTo m m.rows.length)
/-- what is seen, told by objects that are none of L -/
def sp_seen (K : PySem.W.Frag) (C : Addr) : Sp := fun vs H Q _ => ∃ a fp m L, vs = [.ref a] ∧ HoldAt K C H a fp m ∧ NoTups H L ∧ ∀ v H', Same H H' → Dn K (cutH H' L) (seenD m) v → Q v H'
def sp_bounds (K : PySem.W.Frag) (C : Addr) : Sp := fun vs H Q _ => ∃ a fp m, vs = [.ref a] ∧ HoldAt K C H a fp m ∧ ∀ p, H p = none → Q (.ref p) (upd H p (.tup [.int m.most, .int m.cap, .int m.load]))
end L2
namespace L2
open PySem PySem.Spec PyProof.Rows Mth
theorem NoTups.same {H H' : Hp} {L : List Addr} (h : NoTups H L) (s : Same H H') : NoTups H' L := fun b hb => by
  obtain ⟨o, e, n⟩ := h b hb
  exact ⟨o, s _ _ e, n⟩
end L2
namespace L2
open PySem PySem.Spec PyProof.Rows Mth
section
variable {K : PySem.W.Frag} {C : Addr} {H H1 H2 : Hp} {a : Addr} {fp fp1 fp2 : List Addr} {m1 m2 : HoldM}
theorem Deed.trans (D1 : Deed K C H a fp m1 H1 fp1) (D2 : Deed K C H1 a fp1 m2 H2 fp2) : Deed K C H a fp m2 H2 fp2 := by
  refine ⟨D2.at_, fun b o h n => D2.but b o (D1.but b o h n) fun q => ?_, D1.ts.trans D2.ts, fun b hb => ?_⟩
  · rcases D1.own b q with z | z
    · exact n z
    · rw [z] at h; cases h
  · rcases D2.own b hb with q | q
    · exact D1.own b q
    · by_cases z : b ∈ fp
      · exact .inl z
      · refine .inr ?_
        cases e : H b with
        | none => rfl
        | some o => rw [D1.but b o e z] at q; cases q
theorem Deed.pre (s : Same H H1) (D : Deed K C H1 a fp m2 H2 fp2) : Deed K C H a fp m2 H2 fp2 :=
  ⟨D.at_, fun b o h n => D.but b o (s b o h) n, (Same.ts s).trans D.ts, fun b hb => (D.own b hb).elim .inl fun q => .inr (s.free q)⟩
end
def sp_changed (K : PySem.W.Frag) (C : Addr) : Sp := fun vs H Q _ => ∃ a fp m, ∃ c : Int, vs = [.ref a, .int c] ∧ HoldAt K C H a fp m ∧ Tw m ∧ 1 ≤ m.rows.length ∧ bandsM m.rows ≤ 400 ∧
  ∀ H' fp' m', m'.most = m.most → m'.cap = m.cap → m'.load = m.load → Deed K C H a fp m' H' fp' → Q .non H'
end L2
namespace L2
open PySem PySem.Spec PyProof.Rows Mth
end L2
namespace L2
open PySem PySem.Spec PyProof.Rows Mth
def sp_built (K : PySem.W.Frag) (C : Addr) : Sp := fun vs H Q _ => ∃ p, ∃ tm : ToldM, ∃ n : Nat, vs = [.ref p] ∧ ToldAt K H p tm ∧ tm.Ok n n ∧ 1 ≤ n ∧ n ≤ 4 ∧
  ∀ a H' fp, Same H H' → HoldAt K C H' a fp (tm.m2 n n) → (∀ b ∈ fp, H b = none) → (tm.m2 n n).rows.length = n → Tw (tm.m2 n n) → Q (.ref a) H'
end L2
namespace L2
open PySem PySem.Spec PyProof.Rows Mth
/-- whole numbers, truths and None in lists and tuples, n deep at most -/
def plD : Nat → PyData → Prop
  | _, .none => True
  | _, .bool _ => True
  | _, .int _ => True
  | n + 1, .list ds => ∀ d ∈ ds, plD n d
  | n + 1, .tuple ds => ∀ d ∈ ds, plD n d
  | _, _ => False
theorem plD_all {n : Nat} (h : ∀ d, plD n d → PyData.eqv d d = true ∧ d.canLay0 = true ∧ d.depth ≤ n) : ∀ ds : List PyData, (∀ d ∈ ds, plD n d) → PyData.eqvAll ds ds = true ∧ PyData.canLayAll0 ds = true ∧ PyData.depthAll ds ≤ n
  | [], _ => by simp [PyData.eqvAll, PyData.canLayAll0, PyData.depthAll]
  | d :: ds, k => by
    obtain ⟨a, b, c⟩ := h d (k d List.mem_cons_self)
    obtain ⟨a', b', c'⟩ := plD_all h ds (fun e he => k e (List.mem_cons_of_mem _ he))
    simp only [PyData.eqvAll, PyData.canLayAll0, PyData.depthAll, a, b, a', b', Bool.and_self, true_and]
    omega
theorem plD_all3 : ∀ (n : Nat) (d : PyData), plD n d → PyData.eqv d d = true ∧ d.canLay0 = true ∧ d.depth ≤ n
  | n, .none, _ => by simp [PyData.eqv, PyData.canLay0, PyData.depth]
  | n, .bool b, _ => by simp [PyData.eqv, PyData.canLay0, PyData.depth]
  | n, .int i, _ => by simp [PyData.eqv, PyData.canLay0, PyData.depth]
  | n + 1, .list ds, h => by
    obtain ⟨a, b, c⟩ := plD_all (plD_all3 n) ds h
    simp only [PyData.eqv, PyData.canLay0, PyData.depth, a, b, true_and]
    omega
  | n + 1, .tuple ds, h => by
    obtain ⟨a, b, c⟩ := plD_all (plD_all3 n) ds h
    simp only [PyData.eqv, PyData.canLay0, PyData.depth, a, b, true_and]
    omega
  | 0, .list _, h => h.elim
  | 0, .tuple _, h => h.elim
  | 0, .str _, h => h.elim
  | _ + 1, .str _, h => h.elim
  | 0, .dict _, h => h.elim
  | _ + 1, .dict _, h => h.elim
theorem plD_shaped {n : Nat} {d : PyData} (h : plD n d) (hn : n ≤ 64) : SeqAt.shaped d = true := by
  obtain ⟨_, b, c⟩ := plD_all3 n d h
  unfold SeqAt.shaped
  rw [b, decide_eq_true (Nat.le_trans c hn)]; rfl
theorem plD_refl {n : Nat} {d : PyData} (h : plD n d) : PyData.eqv d d = true := (plD_all3 n d h).1
/-- the same data on both sides -/
theorem neD_refl {K : PySem.W.Frag} {H : Hp} {x y : V} {d : PyData} {n : Nat} {Q : VK} (hx : Dn K H d x) (hy : Dn K H d y) (p : plD n d) (hn : n ≤ 64) (q : Q (.bl false) H) : rNeD K x y H Q :=
  ⟨d, d, hx, hy, plD_shaped p hn, plD_shaped p hn, by rw [plD_refl p]; exact q⟩
theorem eqD_refl {K : PySem.W.Frag} {H : Hp} {x y : V} {d : PyData} {n : Nat} {Q : VK} (hx : Dn K H d x) (hy : Dn K H d y) (p : plD n d) (hn : n ≤ 64) (q : Q (.bl true) H) : rEqD K x y H Q :=
  ⟨d, d, hx, hy, plD_shaped p hn, plD_shaped p hn, by rw [plD_refl p]; exact q⟩
end L2
namespace L2
open PySem PySem.Spec PyProof.Rows Mth
section
variable {K : PySem.W.Frag} {C : Addr} {H H1 H' : Hp} {a b : Addr} {fp fp' fpb L M : List Addr} {m m' mb : HoldM}
/-- its own objects are there, and no tuples -/
theorem HoldAt.notups (h : HoldAt K C H a fp m) : NoTups H fp := by
  obtain ⟨⟨dx, pm, pf, ps, pt, vm, vs, vt, kvs, rfl, ha, hdx, hpm, hpf, hps, hpt, _⟩, _⟩ := h
  intro c hc
  simp only [List.mem_cons, List.not_mem_nil, or_false] at hc
  rcases hc with rfl | rfl | rfl | rfl | rfl | rfl
  · exact ⟨_, ha, rfl⟩
  · exact ⟨_, hdx, rfl⟩
  · exact ⟨_, hpm, rfl⟩
  · exact ⟨_, hpf, rfl⟩
  · exact ⟨_, hps, rfl⟩
  · exact ⟨_, hpt, rfl⟩
theorem HoldAt.mem (h : HoldAt K C H a fp m) : a ∈ fp := by
  obtain ⟨⟨dx, pm, pf, ps, pt, vm, vs, vt, kvs, rfl, _⟩, _⟩ := h
  exact List.mem_cons_self
/-- a hold made later has none of what was there -/
theorem HoldAt.apart (h : HoldAt K C H a fp m) (n : ∀ c ∈ fpb, H c = none) : ∀ c ∈ fp, c ∉ fpb := fun c hc hb => by
  obtain ⟨o, e, _⟩ := h.notups c hc
  rw [n c hb] at e
  cases e
theorem But.mono (b : But L H H') (h : ∀ c ∈ L, c ∈ M) : But M H H' := fun c o e n => b c o e fun z => n (h c z)
/-- a deed on one hold leaves another one -/
theorem Deed.other (D : Deed K C H a fp m' H' fp') (h : HoldAt K C H b fpb mb) (dis : ∀ c ∈ fpb, c ∉ fp) : HoldAt K C H' b fpb mb := by
  obtain ⟨⟨dx, pm, pf, ps, pt, vm, vs, vt, kvs, rfl, ha, hdx, hpm, hpf, hps, hpt, n1, n2, n3, dm, ds, dt, df, fk⟩, q1, q2, q3, q4⟩ := h
  have g : ∀ {c o}, H c = some o → c ∈ [b, dx, pm, pf, ps, pt] → H' c = some o := fun e hc => D.but _ _ e (dis _ hc)
  exact ⟨⟨dx, pm, pf, ps, pt, vm, vs, vt, kvs, rfl, g ha (by simp), g hdx (by simp), g hpm (by simp), g hpf (by simp), g hps (by simp), g hpt (by simp), n1, n2, n3, rows_ts D.ts dm, skies_ts D.ts ds, stoves_ts D.ts dt, fun i j => (df i j).ts D.ts, fk⟩, q1, q2, q3, q4⟩
end
end L2
namespace L2
open PySem PySem.Spec PyProof.Rows Mth
theorem Tw.with {m : HoldM} {x y z : Option Int} (h : Tw m) : Tw (m.with x y z) := by
  obtain ⟨sk, fl, S, F⟩ := h
  exact ⟨sk, fl, ⟨S.sky, S.flow⟩, F⟩
end L2
namespace L2
open PySem PySem.Spec PyProof.Rows Mth
section
variable {X : Cx}
end
end L2
namespace L2
open PySem PySem.Spec PyProof.Rows Mth
end L2
namespace L2
open PySem PySem.Spec PyProof.Rows Mth
def touchP (r : List Fra) (f g : Fra) (b : Nat) : Bool := (!underM g (r.getD b (0, 1))) && !underM (r.getD (b + 1) (0, 1)) f
def touchTo (r : List Fra) (f g : Fra) (n : Nat) : List Nat := (List.range n).filter (touchP r f g)
def touchM (r : List Fra) (f g : Fra) : List Nat := touchTo r f g (r.length - 1)
def withinM (r : List Fra) (f g : Fra) : Bool := (!underM f (r.getD 0 (0, 1))) && !underM (r.getD (r.length - 1) (0, 1)) g
def sp_touched (K : PySem.W.Frag) (C : Addr) : Sp := fun vs H Q _ => ∃ a fp m, ∃ i : Nat, ∃ r v1 v2 f g, vs = [.ref a, natV i, v1, v2] ∧ HoldAt K C H a fp m ∧ m.rows[i]? = some r ∧ Dn K H (frD f) v1 ∧ Dn K H (frD g) v2 ∧ OkF 1000 f ∧ OkF 1000 g ∧
  ∀ p H', Same H H' → H' p = some (.lst ((touchM r f g).map natV)) → Q (.ref p) H'
def sp_within (K : PySem.W.Frag) (C : Addr) : Sp := fun vs H Q _ => ∃ a fp m, ∃ i : Nat, ∃ r v1 v2 f g, vs = [.ref a, natV i, v1, v2] ∧ HoldAt K C H a fp m ∧ m.rows[i]? = some r ∧ Dn K H (frD f) v1 ∧ Dn K H (frD g) v2 ∧ OkF 1000 f ∧ OkF 1000 g ∧
  ∀ H', Same H H' → Q (.bl (withinM r f g)) H'
end L2
namespace L2
open PySem PySem.Spec PyProof.Rows Mth
end L2
namespace L2
open PySem PySem.Spec PyProof.Rows Mth
end L2
namespace L2
open PySem PySem.Spec PyProof.Rows Mth
def natD (n : Nat) : PyData := .int (n : Int)
theorem dnA_nats {K : PySem.W.Frag} {H : Hp} : ∀ l : List Nat, DnA K H (l.map natD) (l.map natV)
  | [] => dn_nil
  | n :: l => dn_cons rfl (dnA_nats l)
theorem dn_nats {K : PySem.W.Frag} {H : Hp} {p : Addr} {l : List Nat} (h : SqL K H p (l.map natV)) : Dn K H (.list (l.map natD)) (.ref p) := dn_lst h (dnA_nats l)
theorem pl_nats {n : Nat} {l : List Nat} : plD (n + 1) (.list (l.map natD)) := by
  intro d hd
  obtain ⟨i, _, rfl⟩ := List.mem_map.mp hd
  cases n <;> exact trivial
theorem sz0 : ([] : List V).length ≤ sizeLine := Nat.zero_le _
end L2
namespace L2
open PySem PySem.Spec PyProof.Rows Mth
def cutI (ns : List Int) (lo hi : Option Int) : List Int := (ns.drop (HT.sIx ns.length 0 lo)).take (HT.sIx ns.length ns.length hi - HT.sIx ns.length 0 lo)
end L2
namespace L2
open PySem PySem.Spec PyProof.Rows Mth
/-- o.m(..), whatever class o is of -/
def tDyn (P : Program) (w : World) (K : PySem.W.Frag) (mg : Str → Option Value) (base : Heap) (m : Str) (k : Nat) (ta : TE) (t : TA) : TE := fun σ H Q => ta σ H fun x H1 =>
  ∃ C a dx fs ps sp, x = .ref a ∧ H1 a = some (.ins C dx fs) ∧ fs.lookup m = none ∧ Cls K C ∧ MDef P w K mg base C m k ps [] sp ∧ t σ H1 fun vs H2 => sp (.ref a :: (vs ++ [])) H2 Q E0
section
variable {X : Cx} {P : Program} {w : World} {K : PySem.W.Frag} {mg : Str → Option Value} {base : Heap} {m x : Str} {p pos apos : Pos} {e o : Expr} {es : List Expr} {ta : TE} {t : TA} {k : Nat}
/-- a def of the class at C, read off the class -/
structure ClsFn (K : PySem.W.Frag) (C : Addr) (m : Str) (f : Addr) : Prop where
  ga : PySem.W.specialIn K (.ref C) "__getattribute__" = some (some (.builtin "type.__getattribute__"))
  rd : ∃ mc, PySem.W.readsIn K C mc = true ∧ PySem.W.findCls K (.ref C) mc m = some (.val (.ref f))
  kp : PySem.W.keepIn K (.ref f) = true
end
/-- a def that is read off its class -/
def CDef (P : Program) (w : World) (K : PySem.W.Frag) (mg : Str → Option Value) (base : Heap) (C : Addr) (m : Str) (k : Nat) (ps : List Str) (sp : Sp) : Prop :=
  ∃ f fd, ClsFn K C m f ∧ Binds K fd ps [] ∧ FnOk P w K mg base CX0 k f fd ps sp
theorem MDef.mono {P : Program} {w : World} {K : PySem.W.Frag} {mg : Str → Option Value} {base : Heap} {C : Addr} {m : Str} {j k : Nat} {ps : List Str} {ds : List Value} {sp : Sp} (h : MDef P w K mg base C m j ps ds sp) (hk : j ≤ k) : MDef P w K mg base C m k ps ds sp := by
  obtain ⟨f, fd, M, B, F⟩ := h
  exact ⟨f, fd, M, B, F.mono hk⟩
end L2
namespace L2
open PySem PySem.Spec PyProof.Rows Mth
end L2
namespace L2
open PySem PySem.Spec PyProof.Rows Mth
end L2
namespace L2
open PySem PySem.Spec PyProof.Rows Mth
section
variable {P : Program} {w : World} {A : Around} {E : Value → Shared → Prop} {s : Shared}
end
section
variable {P : Program} {w : World} {A : Around} {E : Value → Shared → Prop} {s : Shared}
end
/-- a sequence with its places: a new pair each turn -/
def Itn (sq : Hp → Addr → List V → Prop) (a : Addr) : It :=
  ⟨fun i H => ∃ xs x, sq H a xs ∧ xs[i]? = some x,
   fun i H v H' => ∃ p x, H p = none ∧ v = .ref p ∧ H' = upd H p (.tup [natV i, x]) ∧ ∀ xs, sq H a xs → xs[i]? = some x,
   fun i H => ∃ xs, sq H a xs ∧ xs.length = i⟩
def EnL (e j a : Addr) (i : Nat) (h : Heap) : Prop := (∃ old, IsEnum h e j i old) ∧ h.IsListIter j a i
def EnT (e j a : Addr) (i : Nat) (h : Heap) : Prop := (∃ old, IsEnum h e j i old) ∧ h.IsTupleIter j a i
end L2
namespace L2
open PySem PySem.Spec PyProof.Rows Mth
section
variable {X : Cx}
def iEnL (K : PySem.W.Frag) (ta : TA) : TI := fun σ H R => ta σ H fun vs H1 => ∃ a, vs = [.ref a] ∧ (∃ xs, SqL K H1 a xs) ∧ R (Itn (SqL K) a) H1
def iEnT (K : PySem.W.Frag) (ta : TA) : TI := fun σ H R => ta σ H fun vs H1 => ∃ a, vs = [.ref a] ∧ (∃ xs, SqT K H1 a xs) ∧ R (Itn (SqT K) a) H1
end
end L2
namespace Ord
open Bit
/-- what the document allows, of an order -/
structure LawOk (n : Nat) (has : Nat → Bool) (wd : Nat → Int) (wt : Nat → Bool) (b : Nat) (most heap : Int) (o : Nat) : Prop where
  has : ∀ r ∈ rooms o, r < n ∧ has r = true
  stay : ∀ r, r < n → wt r = true → o.testBit r = b.testBit r
  most : ((rooms o).length : Int) ≤ most
  wood : ((rooms o).map wd).sum ≤ heap
def setOf (n : Nat) (p : Nat → Bool) : Nat := sumOf ((List.range n).filter p)
structure ProgOk (n : Nat) (has : Nat → Bool) (wd : Nat → Int) (wt : Nat → Bool) (b : Nat) (most heap : Int) (o : Nat) : Prop where
  stay : o &&& setOf n wt = b &&& setOf n wt
  most : ((rooms o).length : Int) ≤ most
  wood : ((rooms (o &&& setOf n has)).map wd).sum ≤ heap
section
variable {n : Nat} {has : Nat → Bool} {wd : Nat → Int} {wt : Nat → Bool} {b : Nat} {most heap : Int} {o : Nat}
end
end Ord
namespace L2
open PySem PySem.Spec PyProof.Rows Mth
section
variable {prog : Program} {w : World} {A : Around} {E : Value → Shared → Prop} {s : Shared}
end
section
variable {X : Cx}
/-- xs[i:] of a tuple, i from 1 on -/
def rSlF (K : PySem.W.Frag) : V → Option Int → Option Int → Hp → VK → Prop := fun x lo hi H Q => ∃ a xs, ∃ i : Nat, x = .ref a ∧ SqT K H a xs ∧ lo = some (i : Int) ∧ hi = none ∧ 1 ≤ i ∧ i ≤ xs.length ∧ ∀ p, H p = none → Q (.ref p) (upd H p (.tup (xs.drop i)))
/-- xs[:j] of a tuple, less than all -/
def rSlU (K : PySem.W.Frag) : V → Option Int → Option Int → Hp → VK → Prop := fun x lo hi H Q => ∃ a xs, ∃ j : Nat, x = .ref a ∧ SqT K H a xs ∧ lo = none ∧ hi = some (j : Int) ∧ j < xs.length ∧ ∀ p, H p = none → Q (.ref p) (upd H p (.tup (xs.take j)))
theorem ints_of : ∀ {ns : List Int} {its : List Value}, Vals (ns.map V.int) its → IntsAre its ns
  | [], _, .nil => .nil
  | _ :: _, _, .cons ⟨t, e⟩ r => by subst e; exact .cons _ _ (ints_of r)
theorem vals_of : ∀ {ns : List Int} {its : List Value}, IntsAre its ns → Vals (ns.map V.int) its
  | [], _, .nil => .nil
  | _ :: _, _, .cons _ _ r => .cons ⟨_, rfl⟩ (vals_of r)
end
end L2
namespace L2
open PySem PySem.Spec PyProof.Rows Mth

/-- the places rise, no slot is a dummy -/
def Good (t : SetTable) : Prop := t.place.toList.Pairwise (· < ·) ∧ t.dummies = #[]

theorem below_go {xs : Array Nat} {j : Nat} (hr : xs.toList.Pairwise (· < ·)) : ∀ (fuel lo hi : Nat), hi - lo ≤ fuel → lo ≤ hi → hi ≤ xs.size →
    (∀ i (h : i < xs.size), i < lo → xs[i] < j) → (∀ i (h : i < xs.size), hi ≤ i → j ≤ xs[i]) →
    SetTable.below.go xs j fuel lo hi ≤ xs.size ∧ (∀ i (h : i < xs.size), i < SetTable.below.go xs j fuel lo hi → xs[i] < j) ∧ ∀ i (h : i < xs.size), SetTable.below.go xs j fuel lo hi ≤ i → j ≤ xs[i] := by
  have mono : ∀ a b (ha : a < xs.size) (hb : b < xs.size), a < b → xs[a] < xs[b] := fun a b ha hb ab => by
    have := List.pairwise_iff_getElem.mp hr a b (by simpa using ha) (by simpa using hb) ab
    simpa using this
  intro fuel
  induction fuel with
  | zero =>
    intro lo hi h1 h2 h3 h4 h5
    have : lo = hi := by omega
    subst this
    exact ⟨h3, h4, h5⟩
  | succ fuel ih =>
    intro lo hi h1 h2 h3 h4 h5
    unfold SetTable.below.go
    by_cases hlt : lo < hi
    · rw [if_pos hlt]
      have hm : (lo + hi) / 2 < xs.size := by omega
      have hg : xs.getD ((lo + hi) / 2) j = xs[(lo + hi) / 2] := by simp [Array.getD, hm]
      dsimp only
      rw [hg]
      by_cases hc : xs[(lo + hi) / 2] < j
      · rw [if_pos hc]
        refine ih _ _ (by omega) (by omega) h3 (fun i hi' hl => ?_) h5
        by_cases e : i = (lo + hi) / 2
        · subst e; exact hc
        · exact Nat.lt_trans (mono i _ hi' hm (by omega)) hc
      · rw [if_neg hc]
        refine ih _ _ (by omega) (by omega) (by omega) h4 fun i hi' hl => ?_
        by_cases e : i = (lo + hi) / 2
        · subst e; omega
        · have := mono _ i hm hi' (by omega); omega
    · rw [if_neg hlt]
      have : lo = hi := by omega
      subst this
      exact ⟨h3, h4, h5⟩
theorem below_spec {xs : Array Nat} (j : Nat) (hr : xs.toList.Pairwise (· < ·)) :
    SetTable.below xs j ≤ xs.size ∧ (∀ i (h : i < xs.size), i < SetTable.below xs j → xs[i] < j) ∧ ∀ i (h : i < xs.size), SetTable.below xs j ≤ i → j ≤ xs[i] :=
  below_go hr _ _ _ (by omega) (by omega) (Nat.le_refl _) (fun i h z => by omega) fun i h z => by omega
theorem insertAt_list {α : Type} (xs : Array α) (p : Nat) (x : α) : (SetTable.insertAt xs p x).toList = xs.toList.take p ++ x :: xs.toList.drop p := by
  unfold SetTable.insertAt
  simp [List.take_of_length_le]
theorem put_rising {xs : Array Nat} {j : Nat} (hr : xs.toList.Pairwise (· < ·)) (hn : xs[SetTable.below xs j]? ≠ some j) : (SetTable.insertAt xs (SetTable.below xs j) j).toList.Pairwise (· < ·) := by
  obtain ⟨b1, b2, b3⟩ := below_spec j hr
  rw [insertAt_list]
  have hall := hr
  rw [← List.take_append_drop (SetTable.below xs j) xs.toList, List.pairwise_append] at hall
  obtain ⟨p1, p2, p3⟩ := hall
  have q2 : ∀ y ∈ xs.toList.drop (SetTable.below xs j), j < y := by
    intro y hy
    obtain ⟨i, hi, rfl⟩ := List.getElem_of_mem hy
    rw [List.length_drop, Array.length_toList] at hi
    rw [List.getElem_drop, Array.getElem_toList]
    have h1 := b3 (SetTable.below xs j + i) (by omega) (by omega)
    rcases Nat.lt_or_ge j xs[SetTable.below xs j + i] with h | h
    · exact h
    · exfalso
      have e : xs[SetTable.below xs j + i] = j := by omega
      by_cases z : i = 0
      · subst z
        exact hn (by rw [Array.getElem?_eq_getElem (by omega)]; simpa using e)
      · have h0 := b3 (SetTable.below xs j) (by omega) (Nat.le_refl _)
        have := List.pairwise_iff_getElem.mp hr (SetTable.below xs j) (SetTable.below xs j + i) (by simp; omega) (by simp; omega) (by omega)
        simp only [Array.getElem_toList] at this
        omega
  have q1 : ∀ y ∈ xs.toList.take (SetTable.below xs j), y < j := by
    intro y hy
    obtain ⟨i, hi, rfl⟩ := List.getElem_of_mem hy
    rw [List.length_take, Array.length_toList] at hi
    rw [List.getElem_take, Array.getElem_toList]
    exact b2 i (by omega) (by omega)
  refine List.pairwise_append.mpr ⟨p1, List.pairwise_cons.mpr ⟨q2, p2⟩, fun a ha b hb => ?_⟩
  rcases List.mem_cons.mp hb with rfl | hb
  · exact q1 a ha
  · exact Nat.lt_trans (q1 a ha) (q2 b hb)
theorem has_nil (j : Nat) : SetTable.has #[] j = false := by
  unfold SetTable.has
  simp
theorem probe_empty {t : SetTable} {hashAt : Nat → Int} {h : Int} (hd : t.dummies = #[]) : ∀ (fuel : Nat) (p : SetTable.Probe) (j : Nat) (d : Option Nat), SetTable.probe.go t hashAt h fuel p = some (.empty j d) → t.slot j = .empty ∧ d = p.dummy
  | 0, p, j, d, e => by simp [SetTable.probe.go] at e
  | fuel + 1, p, j, d, e => by
    unfold SetTable.probe.go at e
    have nd : t.slot p.j ≠ .dummy := by
      unfold SetTable.slot
      rw [hd, has_nil]
      dsimp only
      split <;> simp
    have ad : ∀ q : SetTable.Probe, (t.advance q).dummy = q.dummy := fun q => by unfold SetTable.advance; split <;> rfl
    cases hs : t.slot p.j with
    | empty =>
      rw [hs] at e
      simp only [Option.some.injEq, SetTable.Met.empty.injEq] at e
      obtain ⟨rfl, rfl⟩ := e
      exact ⟨hs, rfl⟩
    | dummy => exact absurd hs nd
    | live i =>
      rw [hs] at e
      dsimp only at e
      split at e
      · simp at e
      · obtain ⟨a, b⟩ := probe_empty hd fuel _ j d e
        exact ⟨a, by rw [b, ad]⟩
theorem Good.freeSlot {t : SetTable} {h : Int} {j : Nat} {w : Bool} (g : Good t) (e : t.freeSlot h = some (j, w)) : t.place[SetTable.below t.place j]? ≠ some j := by
  unfold SetTable.freeSlot at e
  split at e
  · rename_i j' d hp
    obtain ⟨a, b⟩ := probe_empty g.2 _ _ _ _ hp
    have : d = none := b
    subst this
    simp only [Option.getD_none, Option.isSome_none, Option.some.injEq, Prod.mk.injEq] at e
    obtain ⟨rfl, _⟩ := e
    unfold SetTable.slot at a
    dsimp only at a
    split at a
    · cases a
    · rename_i z
      intro q
      rw [q] at z
      exact z (by simp)
  · cases e
theorem Good.standIn {t : SetTable} {n : Nat} : Good (t.standIn n) := by
  refine ⟨?_, rfl⟩
  show (Array.range n).toList.Pairwise (· < ·)
  rw [Array.toList_range]
  exact List.pairwise_lt_range
theorem Good.orStandIn {t : SetTable} {n : Nat} (g : Good t) : Good (t.orStandIn n) := by
  unfold SetTable.orStandIn
  split
  · exact g
  · exact .standIn
theorem Good.put {t : SetTable} {j : Nat} (g : Good t) (hn : t.place[SetTable.below t.place j]? ≠ some j) : Good (t.put j).1 := by
  refine ⟨put_rising g.1 hn, ?_⟩
  show (if SetTable.has t.dummies j then _ else t.dummies) = #[]
  rw [g.2, has_nil]
  rfl
theorem Good.layNew {t : SetTable} {es : Array (Int × Value)} {h : Int} {x : Value} (g : Good t) : Good (layNew t es h x).2.1 ∧ (PySem.layNew t es h x).2.1.led = t.led := by
  unfold PySem.layNew
  cases e : t.freeSlot h with
  | none => exact ⟨.standIn, rfl⟩
  | some p =>
    obtain ⟨j, w⟩ := p
    refine ⟨(g.put (g.freeSlot e)).orStandIn, ?_⟩
    dsimp only
    unfold SetTable.orStandIn
    split <;> rfl
theorem Good.relayAll {t : SetTable} {es : Array (Int × Value)} {n : Nat} : Good (relayAll t es n).2.1 ∧ (PySem.relayAll t es n).2.1.led = t.led := by
  unfold PySem.relayAll
  cases e : t.relaid (es.map (·.1)) n with
  | none => exact ⟨.standIn, rfl⟩
  | some p =>
    obtain ⟨t', order⟩ := p
    dsimp only
    split
    · unfold SetTable.relaid SetTable.laid at e
      cases q : SetTable.layClean (SetTable.sizeAbove n - 1) (es.map (·.1)) with
      | none => rw [q] at e; cases e
      | some owner =>
        rw [q] at e
        simp only [Option.bind_eq_bind, Option.bind_some, Option.pure_def, Option.some.injEq, Prod.mk.injEq] at e
        obtain ⟨rfl, _⟩ := e
        refine ⟨⟨?_, rfl⟩, rfl⟩
        dsimp only
        rw [List.pairwise_map, List.pairwise_filterMap]
        refine List.Pairwise.imp ?_ List.pairwise_lt_range
        intro a b ab x hx y hy
        cases ha : owner.getD a none with
        | none => rw [ha] at hx; cases hx
        | some u =>
          cases hb : owner.getD b none with
          | none => rw [hb] at hy; cases hy
          | some v =>
            rw [ha] at hx
            rw [hb] at hy
            simp only [Option.map_some, Option.some.injEq] at hx hy
            subst hx hy
            exact ab
    · exact ⟨.standIn, rfl⟩

/-- the set at a holds the ints ks; its table is good -/
def SG (P : Program) (w : World) (h : Heap) (a : Addr) (ks : List Int) (led : Bool) : Prop :=
  ∃ o es ep t, h.get? a = some o ∧ o.ExactSet ∧ o.data = .set es ep t ∧ ElemsOf (intKind P w) es.toList ∧ (∀ k, k ∈ ks ↔ ∃ e ∈ es.toList, (intKind P w).is k e.2 = true) ∧ es.size = ks.length ∧ ks.Nodup ∧ es.size < scanBound ∧ t.fits es.size = true ∧ Good t ∧ t.led = led
def addI (ks : List Int) (k : Int) : List Int := if k ∈ ks then ks else ks ++ [k]
theorem addI_nodup {ks : List Int} {k : Int} (h : ks.Nodup) : (addI ks k).Nodup := by
  unfold addI
  split
  · exact h
  · rename_i z
    refine List.nodup_append.mpr ⟨h, by simp, fun a ha b hb e => ?_⟩
    rw [List.mem_singleton] at hb
    subst hb e
    exact z ha
theorem addI_mem {ks : List Int} {k k' : Int} : k' ∈ addI ks k ↔ k' ∈ ks ∨ k' = k := by
  unfold addI
  split
  · rename_i z
    exact ⟨.inl, fun h => h.elim id fun e => e ▸ z⟩
  · simp
section
variable {P : Program} {w : World} {A : Around} {E : Value → Shared → Prop} {s : Shared}
theorem SG.store {h : Heap} {a : Addr} {o : Obj} {es es' : Array (Int × Value)} {ep : Nat} {t t' : SetTable} {ks : List Int} {led : Bool} (ho : h.get? a = some o) (hex : o.ExactSet) (hd : o.data = .set es ep t)
    (el : ElemsOf (intKind P w) es'.toList) (me : ∀ k, k ∈ ks ↔ ∃ e ∈ es'.toList, (intKind P w).is k e.2 = true) (sz : es'.size = ks.length) (nd : ks.Nodup) (sb : es'.size < scanBound) (fi : t'.fits es'.size = true) (g : Good t') (le : t'.led = led) :
    (h.update a (Obj.putSet es' t')).get? a = some { o with data := .set es' (ep + 1) t' } ∧ SG P w (h.update a (Obj.putSet es' t')) a ks led := by
  have e1 : (h.update a (Obj.putSet es' t')).get? a = some { o with data := .set es' (ep + 1) t' } := by
    have := Heap.get?_update_self (Obj.putSet es' t') ho (by rw [putSet_of es' t' hd]; rfl)
    rw [putSet_of es' t' hd] at this
    exact this
  exact ⟨e1, _, es', ep + 1, t', e1, hex, rfl, el, me, sz, nd, sb, fi, g, le⟩
theorem SG.add {a : Addr} {ks : List Int} {led : Bool} {k : Int} {x : Value} {Q : Bool → Shared → Prop} (hS : SG P w s.heap a ks led) (hx : (intKind P w).is k x = true) (hsc : x.scannable = true) (room : ks.length + 1 < scanBound)
    (h : ∀ h' b, Heap.SameBut a s.heap h' → SG P w h' a (addI ks k) led → Q b { s with heap := h' }) : wpAny (model P w) A (setAddHashed a x ((intKind P w).hash k)) Q E s := by
  obtain ⟨o, es, ep, t, ho, hex, hd, el, me, sz, nd, sb, fi, g, le⟩ := hS
  unfold setAddHashed setAddHashedIn
  refine wpAny_holding (wpAny_bind (wpAny_setState_of ho hd fi ?_))
  dsimp only
  rw [byScan_of hsc sb el, if_pos rfl]
  unfold setAddByScan
  refine wpAny_bind (wpAny_bind (wpAny_rule (wpAny_bind (wpAny_setScan_of hx ho hd fi el ?_))))
  cases hr : List.findIdx? (fun e => (intKind P w).is k e.2) es.toList with
  | some j =>
    obtain ⟨hj, hpj, _⟩ := List.findIdx?_eq_some_iff_getElem.mp hr
    have hk : k ∈ ks := (me k).mpr ⟨_, List.getElem_mem hj, hpj⟩
    have := h s.heap false (Heap.SameBut.refl a s.heap) (by unfold addI; rw [if_pos hk]; exact ⟨o, es, ep, t, ho, hex, hd, el, me, sz, nd, sb, fi, g, le⟩)
    exact wpAny_pure (wpAny_pure this)
  | none =>
    have hk : k ∉ ks := fun hk => by
      obtain ⟨e, he, hp⟩ := (me k).mp hk
      have := List.findIdx?_eq_none_iff.mp hr e he
      rw [hp] at this
      cases this
    have gw : ∀ (b : Bool) {s₁ : Shared} {Q' : Unit → Shared → Prop}, Q' () s₁ → wpAny (model P w) A (match b with | true => rule "set.scan.the-table-gave-way" | false => pure ()) Q' E s₁ := fun b s₁ Q' q => by
      cases b
      · exact wpAny_pure q
      · exact wpAny_rule q
    have pm := layNew_perm t es ((intKind P w).hash k) x
    have f1 := layNew_fits t es ((intKind P w).hash k) x
    obtain ⟨g1, l1⟩ := g.layNew (es := es) (h := (intKind P w).hash k) (x := x)
    dsimp only
    generalize layNew t es ((intKind P w).hash k) x = L at pm f1 g1 l1 ⊢
    obtain ⟨es1, t1, wd, gave⟩ := L
    dsimp only at pm f1 g1 l1 ⊢
    rw [Array.toList_push] at pm
    have el1 : ElemsOf (intKind P w) es1.toList := (el.push hx hsc).perm pm
    have sz1 : es1.size = (addI ks k).length := by
      rw [← Array.length_toList, pm.length_eq, List.length_append, Array.length_toList, sz]
      unfold addI
      rw [if_neg hk, List.length_append]
      rfl
    have me1 : ∀ k', k' ∈ addI ks k ↔ ∃ e ∈ es1.toList, (intKind P w).is k' e.2 = true := fun k' => by
      rw [addI_mem, me k']
      constructor
      · rintro (⟨e, he, hp⟩ | rfl)
        · exact ⟨e, pm.mem_iff.mpr (List.mem_append_left _ he), hp⟩
        · exact ⟨_, pm.mem_iff.mpr (List.mem_append_right _ (List.mem_singleton.mpr rfl)), hx⟩
      · rintro ⟨e, he, hp⟩
        rcases List.mem_append.mp (pm.mem_iff.mp he) with z | z
        · exact .inl ⟨e, z, hp⟩
        · rw [List.mem_singleton] at z
          subst z
          exact .inr ((intKind P w).inj x k' k hp hx)
    have sb1 : es1.size < scanBound := by
      rw [sz1]
      unfold addI
      rw [if_neg hk, List.length_append]
      exact room
    have tail : ∀ t2 : SetTable, t2.fits es1.size = true → Good t2 → t2.led = led → ∀ R : Option Bool → Shared → Prop, (∀ h', Heap.SameBut a s.heap h' → SG P w h' a (addI ks k) led → R (some true) { s with heap := h' }) →
        wpAny (model P w) A (do
          storeSet a es1 t2
          if (!wd && t2.tooFull) = true then do
              (match (relayAll t2 es1 (SetTable.grown es1.size)).2.2 with | true => rule "set.scan.the-table-gave-way" | false => pure ())
              storeSet a (relayAll t2 es1 (SetTable.grown es1.size)).1 (relayAll t2 es1 (SetTable.grown es1.size)).2.1
              pure (some true)
            else pure (some true)) R E s := by
      intro t2 f2 g2 l2 R hR
      obtain ⟨o1, S1⟩ := SG.store (P := P) (w := w) ho hex hd el1 me1 sz1 (addI_nodup nd) sb1 f2 g2 l2
      have b1 := Heap.SameBut.update s.heap a (Obj.putSet es1 t2)
      refine wpAny_bind (wpAny_storeSet_of ho hd ?_ (fits_of_scanBound sb1))
      split
      · have pm2 := relayAll_perm t2 es1 (SetTable.grown es1.size)
        have f3 := relayAll_fits t2 es1 (SetTable.grown es1.size)
        obtain ⟨g3, l3⟩ := Good.relayAll (t := t2) (es := es1) (n := SetTable.grown es1.size)
        generalize relayAll t2 es1 (SetTable.grown es1.size) = L at pm2 f3 g3 l3 ⊢
        obtain ⟨es2, t3, gave2⟩ := L
        dsimp only at pm2 f3 g3 l3 ⊢
        have sz2 : es2.size = es1.size := by rw [← Array.length_toList, pm2.length_eq, Array.length_toList]
        refine wpAny_bind (gw _ (wpAny_bind (wpAny_storeSet_of o1 rfl ?_ (fits_of_scanBound (by rw [sz2]; exact sb1)))))
        obtain ⟨_, S2⟩ := SG.store (P := P) (w := w) o1 hex rfl (el1.perm pm2) (fun k' => (me1 k').trans ⟨fun ⟨e, he, q⟩ => ⟨e, pm2.mem_iff.mpr he, q⟩, fun ⟨e, he, q⟩ => ⟨e, pm2.mem_iff.mp he, q⟩⟩) (sz2.trans sz1) (addI_nodup nd) (by rw [sz2]; exact sb1) f3 g3 (l3.trans l2)
        exact wpAny_pure (hR _ (b1.trans (Heap.SameBut.update _ a _)) S2)
      · exact wpAny_pure (hR _ b1 S1)
    refine wpAny_bind (gw _ ?_)
    split
    · refine wpAny_bind ?_
      rw [hashByValue_scannable 8 hsc]
      refine wpAny_pure ?_
      refine tail _ ?_ ?_ ?_ _ fun h' sb S' => wpAny_pure (h h' true sb S')
      · split
        · exact f1
        · exact SetTable.fits_plain_off f1
      · split
        · exact g1
        · exact g1
      · split
        · exact l1.trans le
        · exact l1.trans le
    · refine wpAny_bind (wpAny_pure ?_)
      rw [if_pos rfl]
      exact tail _ f1 g1 (l1.trans le) _ fun h' sb S' => wpAny_pure (h h' true sb S')
end
end L2
namespace L2
open PySem PySem.Spec PyProof.Rows Mth

/-- whether a set is led: the world's own setting -/
def ledW (w : World) : Bool := !(w.params.followText "set-order")
def dedI (ns : List Int) : List Int := ns.foldl addI []
theorem dedI_snoc (ns : List Int) (k : Int) : dedI (ns ++ [k]) = addI (dedI ns) k := by
  unfold dedI
  rw [List.foldl_append]
  rfl
theorem dedI_le : ∀ (ns : List Int) (acc : List Int), (ns.foldl addI acc).length ≤ acc.length + ns.length
  | [], acc => by simp
  | n :: ns, acc => by
    have h1 := dedI_le ns (addI acc n)
    have h2 : (addI acc n).length ≤ acc.length + 1 := by
      unfold addI
      split
      · omega
      · simp
    simp only [List.foldl_cons, List.length_cons]
    omega
theorem dedI_mem : ∀ (ns : List Int) (acc : List Int) (k : Int), k ∈ ns.foldl addI acc ↔ k ∈ acc ∨ k ∈ ns
  | [], acc, k => by simp
  | n :: ns, acc, k => by
    rw [List.foldl_cons, dedI_mem ns, addI_mem, List.mem_cons]
    exact ⟨fun h => h.elim (fun h => h.elim .inl fun e => .inr (.inl e)) fun h => .inr (.inr h), fun h => h.elim (fun h => .inl (.inl h)) fun h => h.elim (fun e => .inl (.inr e)) .inr⟩
theorem dedI_nodup : ∀ (ns : List Int) (acc : List Int), acc.Nodup → (ns.foldl addI acc).Nodup
  | [], _, h => h
  | _ :: ns, _, h => dedI_nodup ns _ (addI_nodup h)
section
variable {P : Program} {w : World} {A : Around} {R : Result → Shared → Prop} {I : Addr} {fp wr : List Addr} {G : Array GenState → Array GenState → Prop} {Pi : Nat → Value → Prop} {St : Nat → Shared → Prop}
theorem SG.stay {h h' : Heap} {a : Addr} {ks : List Int} {led : Bool} (x : SG P w h a ks led) (k : ∀ o, h.get? a = some o → h'.get? a = some o) : SG P w h' a ks led :=
  let ⟨o, es, ep, t, ho, r⟩ := x; ⟨o, es, ep, t, k o ho, r⟩
theorem SG.loop {ns : List Int} {led : Bool} (W : WalksS P w A.in1 I fp wr G ns.length Pi St) (S : Addr) (hSf : S ∉ fp) (hval : ∀ i v, Pi i v → ∃ k t, ns[i]? = some k ∧ v = .int k t) (hb : ns.length + 1 < scanBound) :
    ∀ (k i : Nat) (s : Shared), ns.length - i = k → i ≤ ns.length → St i s → SG P w s.heap S (dedI (ns.take i)) led →
      (∀ s', Moved (S :: wr) G s s' → SG P w s'.heap S (dedI ns) led → R (.ok (.ret .none)) s') →
      codeAny (model P w) A (.builtin "set.update.loop" ⟨[.ref S, .ref I], []⟩) R s := by
  have hSw : S ∉ wr := fun h => hSf (W.sub _ h)
  intro k
  induction k with
  | zero =>
    intro i s hk hi hst hS hR
    obtain rfl : i = ns.length := by omega
    refine codeAny_builtin F.entry_set_update_loop ?_
    rw [Around.under_plainId F.plain_set_update_loop _]
    show wpAny _ A.in1 (pyNext (.ref I) >>= _) _ _ s
    refine wpAny_bind (W.done s _ _ hst fun s' hm => ?_)
    refine wpAny_pure (hR s' (hm.mono fun b hb => List.mem_cons_of_mem _ hb) ?_)
    rw [List.take_length] at hS
    exact hS.stay fun o e => hm.heap S o hSw e
  | succ k ih =>
    intro i s hk hi hst hS hR
    have hlt : i < ns.length := by omega
    refine codeAny_builtin F.entry_set_update_loop ?_
    rw [Around.under_plainId F.plain_set_update_loop _]
    show wpAny _ A.in1 (pyNext (.ref I) >>= _) _ _ s
    refine wpAny_bind (W.item i s _ _ hlt hst fun v s' hP hst' hm => ?_)
    obtain ⟨n, t, en, rfl⟩ := hval i v hP
    have hS' := hS.stay fun o e => hm.heap S o hSw e
    show wpAny _ A.in1 (holding [Value.int n t] (setAdd S (.int n t)) >>= _) _ _ s'
    refine wpAny_bind (wpAny_holding ?_)
    unfold setAdd
    refine wpAny_holding (wpAny_bind ((intKind P w).pyHash (k := n) (intKind_is _ _ _ _) ?_))
    have hle := dedI_le (ns.take i) []
    rw [List.length_take, List.length_nil] at hle
    refine SG.add (s := { s' with toks := s'.toks + 1 }) hS' (intKind_is _ _ _ _) rfl (by unfold dedI; omega) fun h' b hsb hS2 => ?_
    have hS3 : SG P w h' S (dedI (ns.take (i + 1))) led := by
      rw [List.take_succ, en]
      show SG P w h' S (dedI (ns.take i ++ [n])) led
      rw [dedI_snoc]
      exact hS2
    refine wpAny_pure ⟨plainId_quiet F.plain_set_update_loop _, ih (i + 1) _ (by omega) hlt (W.frame _ s' _ _ hst' (Nat.le_succ _) fun b hb o e => ?_) hS3 fun s'' hm'' hS'' => ?_⟩
    · rw [hsb.2 b (fun h : b = S => hSf (by rw [← h]; exact hb))]; exact e
    · refine hR s'' (Moved.trans W.gtrans ((hm.mono fun b hb => List.mem_cons_of_mem _ hb).then_heap (Nat.le_succ _) fun b o hb e => ?_) hm'') hS''
      rw [hsb.2 b (fun h : b = S => hb (by rw [h]; exact List.mem_cons_self))]; exact e
end
section
variable {P : Program} {w : World} {A : Around} {E : Value → Shared → Prop} {s : Shared}
def freshSet (w : World) : Obj := { cls := .type "set", dict := none, data := .set #[] 0 (.fresh 0 0 (ledW w)) }
theorem set_new (a : Value) {Q₁ : Value → Shared → Prop} (h : Q₁ (.ref s.heap.objs.size) { s with heap := s.heap.push (freshSet w) }) :
    codeAny (model P w) A (.call (.builtin "set.__new__") ⟨[.type "set", a], []⟩) (wants Q₁ E) s := by
  refine codeAny_of_tree ?_
  show wpAny _ A.in1 (do checkBuiltinCall "set.__new__" ⟨[.type "set", a], []⟩; again (.builtin "set.__new__" ⟨[.type "set", a], []⟩)) _ _ s
  refine wpAny_bind (wpAny_of_eq (PySem.F.newCall_set_1 a) (wpAny_pure ⟨plainId_quiet PySem.F.plain_set_new _, codeAny_builtin PySem.F.entry_set_new ?_⟩))
  rw [Around.under_plainId PySem.F.plain_set_new _]
  unfold Builtin.«set.__new__» Builtin.Frozenset.newClass
  have hsub := PySem.sub_set_self
  obtain ⟨hp, g, d, tk, os⟩ := s
  dsimp only
  wp_walk
  refine wpAny_askSetting (wpAny_pure ?_)
  dsimp only
  simp only [newObj]
  refine wpAny_bind (wpAny_alloc (wpAny_pure ?_))
  exact wpAny_pure h
theorem SG.fresh {h : Heap} {a : Addr} (e : h.get? a = some (freshSet w)) : SG P w h a [] (ledW w) :=
  ⟨_, #[], 0, _, e, ⟨rfl, rfl, rfl⟩, rfl, fun e he => by simp at he, fun k => by simp, rfl, .nil, by decide, rfl, ⟨.nil, rfl⟩, rfl⟩
set_option maxRecDepth 100000 in
set_option maxHeartbeats 3200000 in
theorem call_setL {l : Addr} {items : Array Value} {ns : List Int} {Q : Value → Shared → Prop} (hh : A.handled = none) (hl : s.heap.IsList l items) (hi : IntsAre items.toList ns) (hb : ns.length + 1 < scanBound)
    (h : ∀ (h' : Heap) (tk : Nat), s.toks ≤ tk → SG P w h' s.heap.objs.size (dedI ns) (ledW w) → (∀ b o, s.heap.get? b = some o → h'.get? b = some o) → Q (.ref s.heap.objs.size) { s with heap := h', toks := tk }) :
    wpAny (model P w) A (call (.type "set") [.ref l]) Q E s := by
  have hlen : items.size = ns.length := by rw [← Array.length_toList]; exact hi.length
  obtain ⟨c, tl, hmro⟩ := PySem.F.called_set.mro
  have hmade := PySem.F.called_set.made
  have hsub := PySem.F.called_set.sub
  refine wpAny_call (codeAny_of_tree ?_)
  show wpAny _ _ (callAny (.type "set") _) _ _ _
  refine wpAny_pure ⟨Code.quiet_builtin _ (by decide +kernel), codeAny_builtin PySem.F.entry_type_call ?_⟩
  rw [Around.under_plain (weight_type_call_type "set" [.ref l] []) rfl]
  have h1 := PySem.F.called_set.notType
  have h2 := PySem.F.called_set.canCreate
  have hct := PySem.F.typeCall_set_1 (.ref l)
  repeat (any_goals (first | assumption | wp_step))
  refine codeAny_mono (set_new (.ref l) (E := E) (Q₁ := fun obj s₁ => obj = .ref s.heap.objs.size ∧ s₁ = { s with heap := s.heap.push (freshSet w) }) ⟨rfl, rfl⟩) fun r s₁ hr => ?_
  cases r with
  | error e => exact hr
  | ok fl =>
    cases fl with
    | ret obj =>
      obtain ⟨rfl, rfl⟩ := hr
      have hS : (s.heap.push (freshSet w)).get? s.heap.objs.size = some (freshSet w) := Heap.get?_push_size _ rfl
      have hT : Shared.TypeIs { s with heap := s.heap.push (freshSet w) } (.ref s.heap.objs.size) "set" := ⟨_, hS, rfl⟩
      have hli := PySem.F.called_set.init.lookup
      have hbi := PySem.F.called_set.init.bind (.ref s.heap.objs.size)
      repeat (any_goals (first | assumption | wp_step))
      refine codeAny_mono (codeAny_call_builtin (R := wants (fun r s₂ => r = .none ∧ ∃ h' tk, s₂ = { s with heap := h', toks := tk } ∧ s.toks ≤ tk ∧ SG P w h' s.heap.objs.size (dedI ns) (ledW w) ∧
          (∀ b o, s.heap.get? b = some o → h'.get? b = some o)) E) PySem.F.called_set.init.plain PySem.F.entry_set_init (check_set_init_1 hT ?_)) fun r₂ s₂ hr₂ => ?_
      · obtain ⟨ol, hol, hcl, nl, hdl⟩ := hl
        obtain ⟨ocls, odict, odata, oslots⟩ := ol
        simp only at hcl hdl
        subst hcl; subst hdl
        have hol' : (s.heap.push (freshSet w)).get? l = some { cls := .type "list", dict := odict, data := .seq items nl, slots := oslots } := Heap.get?_push_of_some _ hol
        have hsls := PySem.F.sub_list_set
        have hslf := PySem.F.sub_list_frozenset
        have hne : (Value.type "list" == Value.type "dict") = false := by decide
        have hl1 : (s.heap.push (freshSet w)).IsList l items := ⟨_, hol', rfl, nl, rfl⟩
        unfold Builtin.«set.__init__» noKeywords Builtin.Frozenset.updateFrom
        generalize hPI : pyIter = PI
        unfold freshSet at *
        wp_walk
        subst hPI
        refine wpAny_pyIter_list hl1 ?_
        refine wpAny_bind (wpAny_runValue ?_)
        have hlS : l < s.heap.objs.size := Heap.lt_size hol
        have hh3 : A.in1.in1.in1.handled = none := by simp [hh]
        have hneI : l ≠ (s.heap.push (freshSet w)).objs.size := by
          rw [Heap.size_push]; exact Nat.ne_of_lt (Nat.lt_succ_of_lt hlS)
        have hSf : s.heap.objs.size ∉ [(s.heap.push (freshSet w)).objs.size, l] := by
          rw [Heap.size_push]; simp only [List.mem_cons, List.not_mem_nil, or_false, not_or]
          exact ⟨Nat.ne_of_lt (Nat.lt_succ_self _), Nat.ne_of_gt hlS⟩
        have W := (Walks.list (prog := P) (w := w) hh3 _ l hneI items).toS
        rw [hlen] at W
        refine SG.loop (ns := ns) (led := ledW w) W s.heap.objs.size hSf (fun i v hv => ?_) hb (ns.length - 0) 0 _ (by omega) (Nat.zero_le _)
          ⟨⟨_, Heap.get?_push_size _ rfl, rfl, rfl⟩, (hl1.push _)⟩ ?hS0 ?hR
        · have hv' : items.toList[i]? = some v := by rw [Array.getElem?_toList]; exact hv
          obtain ⟨t, rfl⟩ := hi.int_at i v hv'
          have lt : i < ns.length := by
            have := (List.getElem?_eq_some_iff.mp hv').1
            rw [Array.length_toList, hlen] at this
            exact this
          exact ⟨_, t, by rw [List.getElem?_eq_getElem lt, List.getD_eq_getElem?_getD, List.getElem?_eq_getElem lt]; rfl, rfl⟩
        case hS0 => exact SG.fresh (Heap.get?_push_of_some _ hS)
        case hR =>
          intro s' hm hS'
          obtain ⟨h', g', d', tk', os'⟩ := s'
          have eg : g' = s.gens := hm.gens
          have ed : d' = s.drawn := hm.drawn
          have eo : os' = s.os := hm.os
          subst eg; subst ed; subst eo
          show wpAny _ _ _ _ _ _
          refine wpAny_pure ?_
          show wpAny _ _ (ret Value.none) _ _ _
          refine wpAny_pure ⟨rfl, h', tk', rfl, hm.toks, hS', fun b o e => ?_⟩
          have hb := Heap.lt_size e
          have hb1 : b ≠ s.heap.objs.size := Nat.ne_of_lt hb
          have hb2 : b ≠ (s.heap.push (freshSet w)).objs.size := by
            rw [Heap.size_push]; exact Nat.ne_of_lt (Nat.lt_succ_of_lt hb)
          exact hm.heap b o (by simp only [List.mem_cons, List.not_mem_nil, or_false, not_or]; exact ⟨hb1, hb2⟩) (Heap.get?_push_of_some _ (Heap.get?_push_of_some _ e))
      · cases r₂ with
        | error e => exact hr₂
        | ok fl₂ =>
          cases fl₂ with
          | ret r =>
            obtain ⟨rfl, h', tk, rfl, htk, hS', hk'⟩ := hr₂
            repeat (any_goals (first | assumption | wp_step))
            exact h _ _ htk hS' hk'
          | _ => exact hr₂.elim
    | _ => exact hr.elim
end
end L2
namespace L2
open PySem PySem.Spec PyProof.Rows Mth

theorem slot_si_next : Slot "set_iterator" "__next__" "set_iterator.__next__" :=
  .of (owner := "set_iterator") (n := "__next__") (by rw [typeLookup_type, builtinLookup_eq_fast]; kernel_rfl) (by decide +kernel) (by decide +kernel) (by decide +kernel)
    (by first | exact .inl (by decide +kernel) | exact .inr (by decide +kernel)) (by rw [isSubtype_type]; kernel_rfl)
theorem entry_si_next : entryFor table "set_iterator.__next__" = some Builtin.«set_iterator.__next__» := entryFor_of_tree (by kernel_rfl)
theorem args_si_next (a : Value) : argsOk "set_iterator.__next__" ⟨[a], []⟩ := by unfold argsOk; kernel_rfl
theorem slot_si_iter : Slot "set_iterator" "__iter__" "set_iterator.__iter__" :=
  .of (owner := "set_iterator") (n := "__iter__") (by rw [typeLookup_type, builtinLookup_eq_fast]; kernel_rfl) (by decide +kernel) (by decide +kernel) (by decide +kernel)
    (by first | exact .inl (by decide +kernel) | exact .inr (by decide +kernel)) (by rw [isSubtype_type]; kernel_rfl)
theorem entry_si_iter : entryFor table "set_iterator.__iter__" = some Builtin.«dict_keyiterator.__iter__» := entryFor_alias (id' := "dict_keyiterator.__iter__") (by kernel_rfl) rfl (by decide +kernel) (by kernel_rfl)
theorem args_si_iter (a : Value) : argsOk "set_iterator.__iter__" ⟨[a], []⟩ := by unfold argsOk; kernel_rfl
theorem entry_set_iter : entryFor table "set.__iter__" = some Builtin.«frozenset.__iter__» := entryFor_alias (id' := "frozenset.__iter__") (by kernel_rfl) rfl (by decide +kernel) (by kernel_rfl)
def itO (f : Value) (i a n ep : Nat) : Obj := { cls := .type "set_iterator", data := .fields #[f, rawInt i, .ref a, rawInt n, rawInt ep] }
section
variable {P : Program} {w : World} {A : Around} {E : Value → Shared → Prop} {s : Shared} {a I : Addr} {o : Obj} {es : Array (Int × Value)} {ep : Nat} {t : SetTable}
theorem byText_is {Q : Bool → Shared → Prop} (h : Q (!ledW w) s) : wpAny (model P w) A setsByText Q E s := by
  unfold setsByText
  refine wpAny_bind (wpAny_askSetting (wpAny_pure ?_))
  have : (model P w).w.params.followText "set-order" = !ledW w := by unfold ledW; simp; rfl
  rw [show (model P w).w.params.followText "set-order" = !ledW w from this]
  exact h
theorem next_plain {slot given ep0 : Nat} {Q : Option (Value × Nat) → Shared → Prop} (ho : s.heap.get? a = some o) (hd : o.data = .set es ep t) (hf : t.fits es.size = true) (hb : ledW w = true) (hp : (!t.plain && decide (es.size > 1)) = false) (hl : t.led = true)
    (h : Q (match es[SetTable.below t.place slot]?, t.place[SetTable.below t.place slot]? with | some (_, x), some j => some (x, j + 1) | _, _ => none) s) : wpAny (model P w) A (setNext a slot given ep0) Q E s := by
  unfold setNext
  refine wpAny_bind (wpAny_setState_of ho hd hf ?_)
  dsimp only
  refine wpAny_bind (byText_is ?_)
  rw [hb]
  rw [if_neg (by decide)]
  show wpAny _ _ (if (!t.plain && decide (es.size > 1)) = true then _ else _) _ _ _
  rw [hp, if_neg (by decide)]
  show wpAny _ _ ((if (!t.led && !es.isEmpty) = true then unsupported "set:maker-not-led" else pure ()) >>= _) _ _ _
  rw [hl]
  exact wpAny_bind (wpAny_pure (wpAny_pure h))
theorem walk_text {Q : Array (Int × Value) → Shared → Prop} (ho : s.heap.get? a = some o) (hd : o.data = .set es ep t) (hf : t.fits es.size = true) (hb : ledW w = false)
    (h : Q (pickOrder (w.params.setOrder a ep) es) s) : wpAny (model P w) A (setWalk a) Q E s := by
  unfold setWalk
  refine wpAny_bind (wpAny_setState_of ho hd hf ?_)
  dsimp only
  refine wpAny_bind (byText_is ?_)
  rw [hb]
  rw [if_pos (by decide)]
  exact wpAny_bind (wpAny_askSetting (wpAny_pure h))
theorem next_text {slot given : Nat} {Q : Option (Value × Nat) → Shared → Prop} (ho : s.heap.get? a = some o) (hd : o.data = .set es ep t) (hf : t.fits es.size = true) (hb : ledW w = false)
    (h : Q ((pickOrder (w.params.setOrder a ep) es)[given]?.map fun e => (e.2, slot)) s) : wpAny (model P w) A (setNext a slot given ep) Q E s := by
  unfold setNext
  refine wpAny_bind (wpAny_setState_of ho hd hf ?_)
  dsimp only
  refine wpAny_bind (byText_is ?_)
  rw [hb, if_pos (by decide)]
  simp only [bne_self_eq_false, Bool.false_eq_true, ↓reduceIte]
  exact wpAny_bind (walk_text ho hd hf hb (wpAny_pure h))
theorem drawn_is {Q : Bool → Shared → Prop} (ho : s.heap.get? a = some o) (hd : o.data = .set es ep t) (hf : t.fits es.size = true) (h : Q (ledW w && (!t.plain && decide (es.size > 1))) s) : wpAny (model P w) A (setDrawn a) Q E s := by
  unfold setDrawn
  refine wpAny_bind (wpAny_setState_of ho hd hf ?_)
  dsimp only
  refine wpAny_bind (byText_is (wpAny_pure ?_))
  rw [Bool.not_not]
  exact h
theorem next_drawn {place : Nat} {e : Int × Value} {Q : Value → Shared → Prop} (ho : s.heap.get? a = some o) (hd : o.data = .set es ep t) (hf : t.fits es.size = true) (he : es[place]? = some e) (h : Q e.2 s) : wpAny (model P w) A (setNextDrawn a place ep) Q E s := by
  unfold setNextDrawn
  refine wpAny_bind (wpAny_setState_of ho hd hf ?_)
  dsimp only
  rw [if_neg (by simp)]
  rw [he]
  exact wpAny_pure h
end
theorem choose_any {src : Source} {P : Program} {w : World} {A : Around} {E : Value → Shared → Prop} {n : Nat} {s : Shared} {Q : Nat → Shared → Prop} (hn : n ≠ 0) (h : ∀ i d, i < n → Q i { s with drawn := d }) : wpAny (model P w) A (choose src n) Q E s := by
  intro Γ p hΓ
  unfold choose
  rw [Sem.wp_choose]
  refine ⟨hn, ?_⟩
  rw [Sem.wp_pure]
  exact h _ _ (Nat.mod_lt _ (Nat.pos_of_ne_zero hn))
theorem cons_erase {α : Type} : ∀ (l : List α) (i : Nat) (h : i < l.length), (l[i] :: l.eraseIdx i).Perm l
  | x :: xs, 0, _ => .refl _
  | x :: xs, i + 1, h => (List.Perm.swap _ _ _).trans (.cons x (cons_erase xs i (by simpa using h)))
/-- what drawOrder draws is the list, in some order -/
theorem draw_order {α : Type} {P : Program} {w : World} {A : Around} {E : Value → Shared → Prop} : ∀ (n : Nat) (xs : List α) (s : Shared) {Q : List α → Shared → Prop}, xs.length = n → (∀ ys d, ys.Perm xs → Q ys { s with drawn := d }) → wpAny (model P w) A (drawOrder n xs) Q E s
  | 0, [], s, Q, _, h => by unfold drawOrder; exact wpAny_pure (h [] s.drawn .nil)
  | n + 1, [], s, Q, e, h => by simp at e
  | n + 1, x :: xs, s, Q, e, h => by
    unfold drawOrder
    refine wpAny_bind (choose_any (by simp) fun i d hi => ?_)
    rw [List.getElem?_eq_getElem hi]
    dsimp only
    refine wpAny_bind (draw_order n _ _ (by rw [List.length_eraseIdx, if_pos hi]; omega) fun ys d' hp => wpAny_pure (h _ d' ?_))
    exact (List.Perm.cons _ hp).trans (cons_erase _ _ hi)
theorem pick_perm {α : Type} (next : Nat → Nat) : ∀ (fuel k : Nat) (left : List α) (out : Array α), left.length = fuel → (pickOrder.go next fuel k left out).toList.Perm (out.toList ++ left)
  | 0, k, left, out, e => by
    have : left = [] := List.length_eq_zero_iff.mp e
    subst this
    simp [pickOrder.go]
  | fuel + 1, k, left, out, e => by
    unfold pickOrder.go
    have hi : next k % left.length < left.length := Nat.mod_lt _ (by omega)
    rw [List.getElem?_eq_getElem hi]
    dsimp only
    refine (pick_perm next fuel (k + 1) _ _ (by rw [List.length_eraseIdx, if_pos hi]; omega)).trans ?_
    rw [Array.toList_push, List.append_assoc]
    exact List.Perm.append_left _ (cons_erase _ _ hi)
theorem pickOrder_perm {α : Type} (next : Nat → Nat) (xs : Array α) : (pickOrder next xs).toList.Perm xs.toList := by
  have := pick_perm next xs.size 0 xs.toList #[] (by simp)
  unfold pickOrder
  simpa using this
section
variable {P : Program} {w : World} {A : Around} {E : Value → Shared → Prop} {s : Shared} {a I : Addr} {o : Obj} {es : Array (Int × Value)} {ep : Nat} {t : SetTable}
theorem itO_type {f : Value} {i n : Nat} (hI : s.heap.get? I = some (itO f i a n ep)) : s.TypeIs (.ref I) "set_iterator" := ⟨_, hI, rfl⟩
/-- the iterator steps: its first field is a slot -/
theorem si_item {slot nx i : Nat} {x : Value} {Q : Option Value → Shared → Prop} (hI : s.heap.get? I = some (itO (rawInt slot) i a es.size ep)) (ho : s.heap.get? a = some o) (hd : o.data = .set es ep t) (hf : t.fits es.size = true)
    (hN : ∀ (A' : Around) (E' : Value → Shared → Prop) (Q' : Option (Value × Nat) → Shared → Prop), Q' (some (x, nx)) s → wpAny (model P w) A' (setNext a slot i ep) Q' E' s)
    (hQ : ∀ h', Heap.SameBut I s.heap h' → h'.get? I = some (itO (rawInt nx) (i + 1) a es.size ep) → Q (some x) { s with heap := h' }) : wpAny (model P w) A (pyNext (.ref I)) Q E s := by
  unfold pyNext
  refine wpAny_bind (wpAny_attempt (wpAny_callSpecial?_slot (name := Str.ofString "__next__") (itO_type hI) slot_si_next (wpAny_call_entry slot_si_next (itO_type hI) entry_si_next ?_ (args_si_next _))))
  unfold Builtin.«set_iterator.__next__» slotArgs
  simp only [List.isEmpty_nil, Bool.not_true, Bool.false_eq_true, ↓reduceIte, bind_assoc, List.length_nil, bne_self_eq_false]
  refine wpAny_bind (wpAny_pure ?_)
  refine wpAny_bind (wpAny_fieldsOf hI rfl ?_)
  show wpAny _ _ (setEntries a >>= _) _ _ _
  refine wpAny_bind (wpAny_setEntries_of ho hd hf ?_)
  rw [if_neg (by simp)]
  show wpAny _ _ (setNext a (Int.toNat slot) (Int.toNat i) (Int.toNat ep) >>= _) _ _ _
  simp only [Int.toNat_natCast]
  refine wpAny_bind (hN _ _ _ ?_)
  dsimp only
  have hI1 : (s.heap.update I (Obj.mapFields (·.setIfInBounds 0 (rawInt nx)))).get? I = some (itO (rawInt nx) i a es.size ep) := by
    rw [Heap.get?_update_self _ hI rfl]
    rfl
  refine wpAny_bind (wpAny_setField hI rfl (by simp) (wpAny_bind (wpAny_setField hI1 rfl (by simp) (wpAny_pure ⟨x, rfl, wpAny_pure (hQ _ ((Heap.SameBut.update ..).trans (Heap.SameBut.update ..)) ?_)⟩))))
  rw [Heap.get?_update_self _ hI1 rfl]
  rfl
/-- the same, where the first field is the drawn order -/
theorem si_itemD {l i place : Nat} {ps : List Nat} {e : Int × Value} {Q : Option Value → Shared → Prop} (hI : s.heap.get? I = some (itO (.ref l) i a es.size ep)) (ho : s.heap.get? a = some o) (hd : o.data = .set es ep t) (hf : t.fits es.size = true)
    (hl : s.heap.get? l = some { cls := .type "tuple", data := .seq (ps.map fun (i : Nat) => rawInt i).toArray }) (hp : ps[i]? = some place) (he : es[place]? = some e)
    (hQ : ∀ h', Heap.SameBut I s.heap h' → h'.get? I = some (itO (.ref l) (i + 1) a es.size ep) → Q (some e.2) { s with heap := h' }) : wpAny (model P w) A (pyNext (.ref I)) Q E s := by
  unfold pyNext
  refine wpAny_bind (wpAny_attempt (wpAny_callSpecial?_slot (name := Str.ofString "__next__") (itO_type hI) slot_si_next (wpAny_call_entry slot_si_next (itO_type hI) entry_si_next ?_ (args_si_next _))))
  unfold Builtin.«set_iterator.__next__» slotArgs
  simp only [List.isEmpty_nil, Bool.not_true, Bool.false_eq_true, ↓reduceIte, bind_assoc, List.length_nil, bne_self_eq_false]
  refine wpAny_bind (wpAny_pure ?_)
  refine wpAny_bind (wpAny_fieldsOf hI rfl ?_)
  show wpAny _ _ (setEntries a >>= _) _ _ _
  refine wpAny_bind (wpAny_setEntries_of ho hd hf ?_)
  rw [if_neg (by simp)]
  show wpAny _ _ (seqItems? (.ref l) >>= _) _ _ _
  refine wpAny_bind (wpAny_seqItems hl rfl ?_)
  dsimp only
  have hpi : (ps.map fun (i : Nat) => rawInt i).toArray[Int.toNat (i : Int)]? = some (rawInt place) := by
    rw [Int.toNat_natCast, List.getElem?_toArray, List.getElem?_map, hp]
    rfl
  rw [hpi]
  show wpAny _ _ (setNextDrawn a (Int.toNat place) (Int.toNat ep) >>= _) _ _ _
  simp only [Int.toNat_natCast]
  refine wpAny_bind (next_drawn ho hd hf he ?_)
  refine wpAny_bind (wpAny_setField hI rfl (by simp) (wpAny_pure ⟨_, rfl, wpAny_pure (hQ _ (Heap.SameBut.update ..) ?_)⟩))
  rw [Heap.get?_update_self _ hI rfl]
  rfl
end
end L2
namespace L2
open PySem PySem.Spec PyProof.Rows Mth
section
variable {P : Program} {w : World} {A : Around} {E : Value → Shared → Prop} {s : Shared} {a I : Addr} {o : Obj} {es : Array (Int × Value)} {ep : Nat} {t : SetTable}
theorem si_end {slot i : Nat} {Q : Option Value → Shared → Prop} (hh : A.handled = none) (hI : s.heap.get? I = some (itO (rawInt slot) i a es.size ep)) (ho : s.heap.get? a = some o) (hd : o.data = .set es ep t) (hf : t.fits es.size = true)
    (hN : ∀ (A' : Around) (E' : Value → Shared → Prop) (Q' : Option (Value × Nat) → Shared → Prop), Q' none s → wpAny (model P w) A' (setNext a slot i ep) Q' E' s)
    (hQ : ∀ h', Heap.ExtBut I s.heap h' → Q none { s with heap := h' }) : wpAny (model P w) A (pyNext (.ref I)) Q E s := by
  unfold pyNext
  refine wpAny_bind (wpAny_attempt (wpAny_callSpecial?_slot (name := Str.ofString "__next__") (itO_type hI) slot_si_next (wpAny_call_entry slot_si_next (itO_type hI) entry_si_next ?_ (args_si_next _))))
  unfold Builtin.«set_iterator.__next__» slotArgs
  simp only [List.isEmpty_nil, Bool.not_true, Bool.false_eq_true, ↓reduceIte, bind_assoc, List.length_nil, bne_self_eq_false]
  refine wpAny_bind (wpAny_pure ?_)
  refine wpAny_bind (wpAny_fieldsOf hI rfl ?_)
  show wpAny _ _ (setEntries a >>= _) _ _ _
  refine wpAny_bind (wpAny_setEntries_of ho hd hf ?_)
  rw [if_neg (by simp)]
  show wpAny _ _ (setNext a (Int.toNat slot) (Int.toNat i) (Int.toNat ep) >>= _) _ _ _
  simp only [Int.toNat_natCast]
  refine wpAny_bind (hN _ _ _ ?_)
  dsimp only
  refine wpAny_bind (wpAny_setField hI rfl (by simp) ?_)
  show wpAny _ _ (newExc (.type "StopIteration") [] >>= _) _ _ _
  refine wpAny_bind ?_
  simp only [newExc, newTuple]
  refine wpAny_bind (wpAny_newObj_type ?_ (by size_fits))
  refine wpAny_bind (m := firstArgMember _ _) (wpAny_of_eq (a := Value.none) (by first | rfl | (simp only [firstArgMember]; rfl)) ?_)
  refine wpAny_newObj_type ?_ (by size_fits)
  simp only [raiseNew]
  refine wpAny_bind (wpAny_handled ?_)
  rw [show A.in1.handled = none from hh]
  refine wpAny_bind (wpAny_pure (wpAny_throw ?_))
  refine wpAny_bind (wpAny_isInstance (T := "StopIteration") (b := true) ⟨_, Heap.get?_push_size _ rfl, rfl⟩ isSubtype_stop ?_)
  exact wpAny_pure (hQ _ (((Heap.SameBut.update ..).extBut.push _).push _))
theorem si_endD {l i : Nat} {ps : List Nat} {Q : Option Value → Shared → Prop} (hh : A.handled = none) (hI : s.heap.get? I = some (itO (.ref l) i a es.size ep)) (ho : s.heap.get? a = some o) (hd : o.data = .set es ep t) (hf : t.fits es.size = true)
    (hl : s.heap.get? l = some { cls := .type "tuple", data := .seq (ps.map fun (i : Nat) => rawInt i).toArray }) (hp : ps[i]? = none)
    (hQ : ∀ h', Heap.ExtBut I s.heap h' → Q none { s with heap := h' }) : wpAny (model P w) A (pyNext (.ref I)) Q E s := by
  unfold pyNext
  refine wpAny_bind (wpAny_attempt (wpAny_callSpecial?_slot (name := Str.ofString "__next__") (itO_type hI) slot_si_next (wpAny_call_entry slot_si_next (itO_type hI) entry_si_next ?_ (args_si_next _))))
  unfold Builtin.«set_iterator.__next__» slotArgs
  simp only [List.isEmpty_nil, Bool.not_true, Bool.false_eq_true, ↓reduceIte, bind_assoc, List.length_nil, bne_self_eq_false]
  refine wpAny_bind (wpAny_pure ?_)
  refine wpAny_bind (wpAny_fieldsOf hI rfl ?_)
  show wpAny _ _ (setEntries a >>= _) _ _ _
  refine wpAny_bind (wpAny_setEntries_of ho hd hf ?_)
  rw [if_neg (by simp)]
  show wpAny _ _ (seqItems? (.ref l) >>= _) _ _ _
  refine wpAny_bind (wpAny_seqItems hl rfl ?_)
  dsimp only
  have hpi : (ps.map fun (i : Nat) => rawInt i).toArray[Int.toNat (i : Int)]? = none := by
    rw [Int.toNat_natCast, List.getElem?_toArray, List.getElem?_map, hp]
    rfl
  rw [hpi]
  dsimp only
  have hI1 : (s.heap.update I (Obj.mapFields (·.setIfInBounds 0 (rawInt 0)))).get? I = some (itO (rawInt 0) i a es.size ep) := by
    rw [Heap.get?_update_self _ hI rfl]
    rfl
  refine wpAny_bind (wpAny_setField hI rfl (by simp) ?_)
  refine wpAny_bind (wpAny_setField hI1 rfl (by simp) ?_)
  show wpAny _ _ (newExc (.type "StopIteration") [] >>= _) _ _ _
  refine wpAny_bind ?_
  simp only [newExc, newTuple]
  refine wpAny_bind (wpAny_newObj_type ?_ (by size_fits))
  refine wpAny_bind (m := firstArgMember _ _) (wpAny_of_eq (a := Value.none) (by first | rfl | (simp only [firstArgMember]; rfl)) ?_)
  refine wpAny_newObj_type ?_ (by size_fits)
  simp only [raiseNew]
  refine wpAny_bind (wpAny_handled ?_)
  rw [show A.in1.handled = none from hh]
  refine wpAny_bind (wpAny_pure (wpAny_throw ?_))
  refine wpAny_bind (wpAny_isInstance (T := "StopIteration") (b := true) ⟨_, Heap.get?_push_size _ rfl, rfl⟩ isSubtype_stop ?_)
  exact wpAny_pure (hQ _ ((((Heap.SameBut.update ..).trans (Heap.SameBut.update ..)).extBut.push _).push _))
theorem si_self {f : Value} {i n : Nat} {Q : Value → Shared → Prop} (hI : s.heap.get? I = some (itO f i a n ep)) (h : Q (.ref I) s) : wpAny (model P w) A (pyIter (.ref I)) Q E s := by
  refine wpAny_pyIter_slot (itO_type hI) slot_si_iter (wpAny_call_entry slot_si_iter (itO_type hI) entry_si_iter ?_ (args_si_iter _))
  unfold Builtin.«dict_keyiterator.__iter__»
  first
    | (show wpAny _ _ (ret (.ref I)) _ _ s
       exact wpAny_pure ⟨_, rfl, "set_iterator", _, itO_type hI, slot_si_next.lookup, h⟩)
    | (unfold slotArgs
       simp only [List.isEmpty_nil, Bool.not_true, Bool.false_eq_true, ↓reduceIte, bind_assoc, List.length_nil, bne_self_eq_false]
       refine wpAny_bind (wpAny_pure ?_)
       exact wpAny_pure ⟨_, rfl, "set_iterator", _, itO_type hI, slot_si_next.lookup, h⟩)
theorem walks_int (hh : A.handled = none) {slots : Nat → Nat} {ys : List Value} (hne : a ≠ I) (hd : o.data = .set es ep t) (hf : t.fits es.size = true) (hl : ys.length = es.size)
    (hN : ∀ (i : Nat) (s : Shared) (A' : Around) (E' : Value → Shared → Prop) (Q' : Option (Value × Nat) → Shared → Prop), i ≤ es.size → s.heap.get? a = some o → Q' (ys[i]?.map fun v => (v, slots (i + 1))) s → wpAny (model P w) A' (setNext a (slots i) i ep) Q' E' s) :
    Walks P w A I [I, a] [I] es.size (fun i v => ys[i]? = some v) (fun i h => h.get? I = some (itO (rawInt (slots i)) i a es.size ep) ∧ h.get? a = some o) where
  sub := fun b hb => by simp at hb; simp [hb]
  frame := fun i h h' st hk => ⟨hk I (by simp) _ st.1, hk a (by simp) _ st.2⟩
  item := fun i s Q E hi st hQ => by
    have hi' : i < ys.length := by omega
    refine si_item (x := ys[i]) (nx := slots (i + 1)) st.1 st.2 hd hf (fun A' E' Q' q => hN i s A' E' Q' (by omega) st.2 (by rw [List.getElem?_eq_getElem hi']; exact q)) fun h' sb hI' => ?_
    exact hQ _ h' s.toks (List.getElem?_eq_getElem hi') ⟨hI', (sb.2 a hne).trans st.2⟩ fun b o' hb e => sb.extBut b o' (fun z => hb (by simp [z])) e
  done := fun s Q E st hQ => si_end hh st.1 st.2 hd hf (fun A' E' Q' q => hN _ s A' E' Q' (Nat.le_refl _) st.2 (by rw [List.getElem?_eq_none (by omega)]; exact q)) fun h' he => hQ h' s.toks fun b o' hb e => he b o' (fun z => hb (by simp [z])) e
  self := fun i s Q E st hQ => si_self st.1 hQ
theorem walks_drawn (hh : A.handled = none) {ps : List Nat} {l : Addr} (hne : a ≠ I) (hnl : l ≠ I) (hd : o.data = .set es ep t) (hf : t.fits es.size = true) (hp : ps.Perm (List.range es.size)) :
    Walks P w A I [I, a, l] [I] es.size (fun i v => (ps.map fun p => (es.getD p (0, .none)).2)[i]? = some v)
      (fun i h => h.get? I = some (itO (.ref l) i a es.size ep) ∧ h.get? a = some o ∧ h.get? l = some { cls := .type "tuple", data := .seq (ps.map fun (i : Nat) => rawInt i).toArray }) where
  sub := fun b hb => by simp at hb; simp [hb]
  frame := fun i h h' st hk => ⟨hk I (by simp) _ st.1, hk a (by simp) _ st.2.1, hk l (by simp) _ st.2.2⟩
  item := fun i s Q E hi st hQ => by
    have hlen := hp.length_eq
    rw [List.length_range] at hlen
    have hi' : i < ps.length := by omega
    have hm : ps[i] < es.size := List.mem_range.mp (hp.mem_iff.mp (List.getElem_mem hi'))
    refine si_itemD (e := es[ps[i]]) (place := ps[i]) st.1 st.2.1 hd hf st.2.2 (List.getElem?_eq_getElem hi') (Array.getElem?_eq_getElem hm) fun h' sb hI' => ?_
    refine hQ _ h' s.toks ?_ ⟨hI', (sb.2 a hne).trans st.2.1, (sb.2 l hnl).trans st.2.2⟩ fun b o' hb e => sb.extBut b o' (fun z => hb (by simp [z])) e
    rw [List.getElem?_map, List.getElem?_eq_getElem hi']
    simp [Array.getD, hm]
  done := fun s Q E st hQ => by
    have hlen := hp.length_eq
    rw [List.length_range] at hlen
    exact si_endD hh st.1 st.2.1 hd hf st.2.2 (List.getElem?_eq_none (by omega)) fun h' he => hQ h' s.toks fun b o' hb e => he b o' (fun z => hb (by simp [z])) e
  self := fun i s Q E st hQ => si_self st.1 hQ
end
end L2
namespace L2
open PySem PySem.Spec PyProof.Rows Mth
def slotsP (place : Array Nat) (i : Nat) : Nat := if i = 0 then 0 else place.getD (i - 1) 0 + 1
theorem below_slots {place : Array Nat} (hr : place.toList.Pairwise (· < ·)) {i : Nat} (hi : i ≤ place.size) : SetTable.below place (slotsP place i) = i := by
  obtain ⟨b1, b2, b3⟩ := below_spec (slotsP place i) hr
  have mono : ∀ a b (ha : a < place.size) (hb : b < place.size), a < b → place[a] < place[b] := fun a b ha hb ab => by
    have := List.pairwise_iff_getElem.mp hr a b (by simpa using ha) (by simpa using hb) ab
    simpa using this
  by_cases z : i = 0
  · subst z
    have e : slotsP place 0 = 0 := rfl
    rw [e] at b1 b2 b3 ⊢
    rcases Nat.eq_zero_or_pos (SetTable.below place 0) with h | h
    · exact h
    · have := b2 0 (by omega) h
      omega
  · have hg : slotsP place i = place[i - 1]'(by omega) + 1 := by
      unfold slotsP
      rw [if_neg z]
      have : i - 1 < place.size := by omega
      simp [Array.getD, this]
    rw [hg] at b1 b2 b3 ⊢
    rcases Nat.lt_trichotomy (SetTable.below place (place[i - 1]'(by omega) + 1)) i with h | h | h
    · have := b3 (i - 1) (by omega) (by omega)
      omega
    · exact h
    · have h1 := b2 i (by omega) h
      have h2 := mono (i - 1) i (by omega) (by omega) (by omega)
      omega
section
variable {P : Program} {w : World} {A : Around} {E : Value → Shared → Prop} {s : Shared} {a I : Addr} {o : Obj} {es : Array (Int × Value)} {ep : Nat} {t : SetTable}
/-- the iterator of a set, made: how it walks -/
def WK (P : Program) (w : World) (A : Around) (a : Addr) (es : Array (Int × Value)) (s : Shared) (v : Value) (s1 : Shared) : Prop :=
  ∃ (I : Addr) (fp : List Addr) (ys : List Value) (St : Nat → Heap → Prop), v = .ref I ∧ Walks P w A I fp [I] es.size (fun i v => ys[i]? = some v) St ∧ St 0 s1.heap ∧ ys.length = es.size ∧ ys.Perm (es.toList.map (·.2)) ∧
    (∀ b ∈ fp, b < s1.heap.objs.size ∧ (b = a ∨ s.heap.objs.size ≤ b)) ∧ s.heap.objs.size ≤ I ∧ (∀ b ob, s.heap.get? b = some ob → s1.heap.get? b = some ob) ∧ s1.gens = s.gens ∧ s1.os = s.os ∧ s1.toks = s.toks
theorem range_map_perm {ps : List Nat} (hp : ps.Perm (List.range es.size)) : (ps.map fun p => (es.getD p (0, .none)).2).Perm (es.toList.map (·.2)) := by
  refine (hp.map _).trans (List.Perm.of_eq ?_)
  apply List.ext_getElem
  · simp
  · intro i h1 h2
    simp only [List.length_map, List.length_range] at h1
    simp [Array.getD, h1]
theorem iter_set {A' : Around} (hh : A'.handled = none) (ho : s.heap.get? a = some o) (hex : o.ExactSet) (hd : o.data = .set es ep t) (hf : t.fits es.size = true) (hg : Good t) (hl : t.led = ledW w) (hn : es.size < scanBound) {Q : Value → Shared → Prop}
    (hQ : ∀ v s1, WK P w A' a es s v s1 → Q v s1) : wpAny (model P w) A (pyIter (.ref a)) Q E s := by
  have hT : s.TypeIs (.ref a) "set" := ⟨o, ho, hex.1⟩
  have hlt := Heap.lt_size ho
  have hps : t.place.size = es.size := by
    simp only [SetTable.fits, Bool.and_eq_true, beq_iff_eq] at hf
    exact hf.1
  refine wpAny_pyIter_slot hT PySem.F.slot_set_iter (wpAny_call_entry PySem.F.slot_set_iter hT entry_set_iter ?_ (PySem.F.args_set_iter_1 _))
  unfold Builtin.«frozenset.__iter__» Builtin.Frozenset.slot0 slotArgs Builtin.Frozenset.sizeOf Builtin.Frozenset.addrOf
  simp only [List.isEmpty_nil, Bool.not_true, Bool.false_eq_true, ↓reduceIte, bind_assoc, List.length_nil, bne_self_eq_false]
  refine wpAny_bind (wpAny_pure ?_)
  refine wpAny_bind (wpAny_pure ?_)
  refine wpAny_bind (wpAny_setEntries_of ho hd hf ?_)
  refine wpAny_bind (wpAny_pure ?_)
  refine wpAny_bind (drawn_is ho hd hf ?_)
  cases hm : (ledW w && (!t.plain && decide (es.size > 1))) with
  | true =>
    rw [if_pos rfl]
    refine wpAny_bind (draw_order es.size (List.range es.size) _ (by simp) fun ps d hp => ?_)
    have hlen := hp.length_eq
    rw [List.length_range] at hlen
    refine wpAny_bind (wpAny_newTuple ?_ (by rw [List.length_map, hlen]; exact fits_of_scanBound hn))
    have ho1 : (s.heap.push { cls := .type "tuple", data := .seq (ps.map fun (i : Nat) => rawInt i).toArray }).get? a = some o := Heap.get?_push_of_some _ ho
    refine wpAny_bind (wpAny_setEpoch_of ho1 hd hf ?_)
    refine wpAny_bind (wpAny_newObj_type (wpAny_pure ⟨_, rfl, "set_iterator", _, ⟨_, Heap.get?_push_size _ rfl, rfl⟩, slot_si_next.lookup, hQ _ _ ?_⟩))
    refine ⟨_, _, _, _, rfl, walks_drawn hh (a := a) (o := o) (l := s.heap.objs.size) (ps := ps) ?_ ?_ hd hf hp, ⟨Heap.get?_push_size _ rfl, Heap.get?_push_of_some _ ho1, Heap.get?_push_of_some _ (Heap.get?_push_size _ rfl)⟩, ?_, range_map_perm hp, ?_, ?_, fun b ob e => Heap.get?_push_of_some _ (Heap.get?_push_of_some _ e), rfl, rfl, rfl⟩
    · show a ≠ (s.heap.push _).objs.size
      rw [Heap.size_push]
      exact Nat.ne_of_lt (Nat.lt_succ_of_lt hlt)
    · show s.heap.objs.size ≠ (s.heap.push _).objs.size
      rw [Heap.size_push]
      exact Nat.ne_of_lt (Nat.lt_succ_self _)
    · rw [List.length_map, hlen]
    · intro b hb
      simp only [List.mem_cons, List.not_mem_nil, or_false] at hb
      show b < ((s.heap.push _).push _).objs.size ∧ (b = a ∨ s.heap.objs.size ≤ b)
      rw [Heap.size_push, Heap.size_push]
      rcases hb with z | z | z
      · have z : b = (s.heap.push _).objs.size := z
        rw [Heap.size_push] at z
        rw [z]
        exact ⟨Nat.lt_succ_self _, .inr (Nat.le_succ _)⟩
      · rw [z]
        exact ⟨Nat.lt_succ_of_lt (Nat.lt_succ_of_lt hlt), .inl rfl⟩
      · rw [z]
        exact ⟨Nat.lt_succ_of_lt (Nat.lt_succ_self _), .inr (Nat.le_refl _)⟩
    · show s.heap.objs.size ≤ (s.heap.push _).objs.size
      rw [Heap.size_push]
      exact Nat.le_succ _
  | false =>
    rw [if_neg (by decide)]
    refine wpAny_bind (wpAny_pure ?_)
    refine wpAny_bind (wpAny_setEpoch_of ho hd hf ?_)
    refine wpAny_bind (wpAny_newObj_type (wpAny_pure ⟨_, rfl, "set_iterator", _, ⟨_, Heap.get?_push_size _ rfl, rfl⟩, slot_si_next.lookup, hQ _ _ ?_⟩))
    have rest : ∀ b ∈ [s.heap.objs.size, a], b < (s.heap.push (itO (rawInt 0) 0 a es.size ep)).objs.size ∧ (b = a ∨ s.heap.objs.size ≤ b) := by
      intro b hb
      simp only [List.mem_cons, List.not_mem_nil, or_false] at hb
      rw [Heap.size_push]
      rcases hb with z | z
      · rw [z]
        exact ⟨Nat.lt_succ_self _, .inr (Nat.le_refl _)⟩
      · rw [z]
        exact ⟨Nat.lt_succ_of_lt hlt, .inl rfl⟩
    cases hb : ledW w with
    | false =>
      have hpk := pickOrder_perm (w.params.setOrder a ep) es
      have hlp := hpk.length_eq
      refine ⟨_, _, _, _, rfl, walks_int hh (a := a) (o := o) (slots := fun _ => 0) (ys := (pickOrder (w.params.setOrder a ep) es).toList.map (·.2)) (Nat.ne_of_lt hlt) hd hf (by rw [List.length_map, hlp, Array.length_toList]) (fun i s' A' E' Q' hi ho' q => ?_), ⟨Heap.get?_push_size _ rfl, Heap.get?_push_of_some _ ho⟩, by rw [List.length_map, hlp, Array.length_toList], hpk.map _, rest, Nat.le_refl _, fun b ob e => Heap.get?_push_of_some _ e, rfl, rfl, rfl⟩
      refine next_text ho' hd hf hb ?_
      rw [List.getElem?_map, Array.getElem?_toList, Option.map_map] at q
      exact q
    | true =>
      rw [hb, Bool.true_and] at hm
      refine ⟨_, _, _, _, rfl, walks_int hh (a := a) (o := o) (slots := slotsP t.place) (ys := es.toList.map (·.2)) (Nat.ne_of_lt hlt) hd hf (by simp) (fun i s' A' E' Q' hi ho' q => ?_), ⟨Heap.get?_push_size _ rfl, Heap.get?_push_of_some _ ho⟩, by simp, .refl _, rest, Nat.le_refl _, fun b ob e => Heap.get?_push_of_some _ e, rfl, rfl, rfl⟩
      refine next_plain ho' hd hf hb hm (hl.trans hb) ?_
      rw [below_slots hg.1 (by omega)]
      rw [List.getElem?_map, Array.getElem?_toList] at q
      by_cases hi' : i < es.size
      · rw [Array.getElem?_eq_getElem hi'] at q ⊢
        rw [Array.getElem?_eq_getElem (show i < t.place.size by omega)]
        have e2 : slotsP t.place (i + 1) = t.place[i]'(by omega) + 1 := by
          unfold slotsP
          rw [if_neg (by omega)]
          have : i < t.place.size := by omega
          simp [Array.getD, this]
        rw [e2] at q
        exact q
      · rw [Array.getElem?_eq_none (by omega)] at q ⊢
        exact q
theorem nolen_set : typeLookup (.type "set") "__len__" = pure (some (.builtin "set.__len__")) := PySem.F.slot_set_len.lookup
theorem split_set_len : splitId "set.__len__" = some ("set", "__len__") := by decide +kernel
end
end L2
namespace L2
open PySem PySem.Spec PyProof.Rows Mth
section
variable {P : Program} {w : World} {A : Around} {E : Value → Shared → Prop} {s : Shared} {a I : Addr} {o : Obj} {es : Array (Int × Value)} {ep : Nat} {t : SetTable}
theorem collect_set (hh : A.handled = none) (ho : s.heap.get? a = some o) (hex : o.ExactSet) (hd : o.data = .set es ep t) (hf : t.fits es.size = true) (hg : Good t) (hl : t.led = ledW w) (hn : es.size < scanBound) {Q : List Value → Shared → Prop}
    (hQ : ∀ s' ys, (∀ b ob, s.heap.get? b = some ob → s'.heap.get? b = some ob) → s'.gens = s.gens → s'.os = s.os → s.toks ≤ s'.toks → s.heap.objs.size ≤ s'.heap.objs.size → ys.Perm (es.toList.map (·.2)) → Q ys s') : wpAny (model P w) A (collect (.ref a)) Q E s := by
  have hlt := Heap.lt_size ho
  unfold collect
  refine wpAny_bind (wpAny_runValue (codeAny_builtin PySem.F.entry_proto_collect ?_))
  rw [Around.under_plainId PySem.F.plain_proto_collect _]
  show wpAny _ A.in1 (newList [] >>= fun l => again (.builtin "list.__iadd__" ⟨[l, .ref a], []⟩)) _ _ s
  refine wpAny_bind (wpAny_newObj_type ?_)
  refine wpAny_pure ⟨plainId_quiet PySem.F.plain_list_iadd _, codeAny_builtin PySem.F.entry_list_iadd ?_⟩
  rw [Around.under_plainId PySem.F.plain_list_iadd _]
  have ho1 : (s.heap.push { cls := .type "list", data := .seq ([] : List Value).toArray }).get? a = some o := Heap.get?_push_of_some _ ho
  have hS₁ : (s.heap.push { cls := .type "list", data := .seq ([] : List Value).toArray }).get? s.heap.objs.size = some { cls := .type "list", data := .seq ([] : List Value).toArray } := Heap.get?_push_size _ rfl
  have hSa : s.heap.objs.size ≠ a := Nat.ne_of_gt hlt
  have h1 : Builtin.List.listSameRef (.ref s.heap.objs.size) (.ref a) = false := by simp [Builtin.List.listSameRef, hSa]
  show wpAny _ A.in1 (Builtin.List.listExtendWith (.ref s.heap.objs.size) (.ref a) (.ref s.heap.objs.size)) _ _ _
  unfold Builtin.List.listExtendWith
  refine wpAny_bind (wpAny_typeOf (T := "set") ⟨o, ho1, hex.1⟩ ?_)
  rw [if_neg (by rw [h1]; decide)]
  refine wpAny_bind (iter_set (A' := A.in1) (by simp [hh]) ho1 hex hd hf hg hl hn fun v s1 wk => ?_)
  obtain ⟨I, fp, ys, St, rfl, W, st, hyl, hperm, hfp, hI, hk, hgens, hos, htoks⟩ := wk
  have ho2 := hk a o ho1
  have hT : s1.TypeIs (.ref a) "set" := ⟨o, ho2, hex.1⟩
  have hS2 := hk _ _ hS₁
  have hSf : s.heap.objs.size ∉ fp := fun hm => by
    rcases (hfp _ hm).2 with z | z
    · exact hSa z
    · have z : (s.heap.push _).objs.size ≤ s.heap.objs.size := z
      rw [Heap.size_push] at z
      exact absurd z (Nat.not_succ_le_self _)
  refine wpAny_bind (wpAny_holding ?_)
  unfold Builtin.List.listLengthHint
  refine wpAny_bind (wpAny_specialOf hT nolen_set ?_)
  generalize hid : ("set.__len__" : String) = id0
  dsimp only
  rw [show splitId id0 = some ("set", "__len__") from by subst hid; exact split_set_len]
  subst hid
  dsimp only
  refine wpAny_bind (wpAny_isInstance (b := true) hT PySem.sub_set_self ?_)
  rw [if_neg (by decide)]
  rw [if_pos (by decide +kernel)]
  refine wpAny_bind (wpAny_typeOf hT ?_)
  refine wpAny_pure ?_
  rw [if_pos (by decide +kernel)]
  refine wpAny_bind (wpAny_rule ?_)
  refine wpAny_bind ?_
  show wpAny _ A.in1 (updateSeq s.heap.objs.size (·.push .none) >>= fun _ => updateSeq s.heap.objs.size (·.pop)) _ _ _
  refine wpAny_bind (wpAny_updateSeq hS2 rfl ?_)
  have hS3 := Heap.get?_update_self (Obj.mapSeq (·.push Value.none)) hS2 rfl
  refine wpAny_updateSeq hS3 rfl ?_
  have hS4 := Heap.get?_update_self (Obj.mapSeq (·.pop)) hS3 rfl
  have oth : ∀ b ob, b ≠ s.heap.objs.size → s1.heap.get? b = some ob → ((s1.heap.update s.heap.objs.size (Obj.mapSeq (·.push Value.none))).update s.heap.objs.size (Obj.mapSeq (·.pop))).get? b = some ob :=
    fun b ob hb e => (Heap.get?_update_other _ _ (Ne.symm hb)).trans ((Heap.get?_update_other _ _ (Ne.symm hb)).trans e)
  refine wpAny_pure ⟨plainId_quiet PySem.F.plain_extend_loop _, codeAny_extend_loopS W.toS (fits_of_scanBound hn) _ hSf _ es.size 0 _ _ _ rfl (Nat.zero_le _)
    (W.frame 0 s1.heap _ st fun b hb ob e => oth b ob (fun h => hSf (h ▸ hb)) e) hS4 (ItemsOf.nil _) fun s' acc' c' hm hS' hacc => ?_⟩
  show wpAny _ A (load s.heap.objs.size >>= _) _ _ s'
  refine wpAny_bind (wpAny_load hS' ?_)
  refine wpAny_pure (hQ s' _ (fun b ob e => ?_) (hm.gens.trans hgens) (hm.os.trans hos) (by have := hm.toks; have e1 : s1.toks = s.toks := htoks; exact e1 ▸ this) (Nat.le_of_lt (Heap.lt_size hS')) ?_)
  · have hb := Heap.lt_size e
    have ne : b ≠ s.heap.objs.size := Nat.ne_of_lt hb
    have hI' : s.heap.objs.size + 1 ≤ I := by
      have hI : (s.heap.push _).objs.size ≤ I := hI
      rw [Heap.size_push] at hI
      exact hI
    refine hm.heap b ob (fun z => ?_) (oth b ob ne (hk b ob (Heap.get?_push_of_some _ e)))
    rcases List.mem_cons.mp z with z | z
    · exact ne z
    · have z : b = I := by simpa using z
      rw [z] at hb
      exact absurd (Nat.lt_of_lt_of_le hb (Nat.le_of_succ_le hI')) (Nat.lt_irrefl _)
  · have : acc'.toList = ys := by
      apply List.ext_getElem?
      intro j
      rw [Array.getElem?_toList]
      by_cases hj : j < acc'.size
      · rw [hacc.2 j _ (Array.getElem?_eq_getElem hj)]
        exact Array.getElem?_eq_getElem hj
      · rw [Array.getElem?_eq_none (by omega), List.getElem?_eq_none (by rw [hyl, ← hacc.1]; omega)]
    rw [this]
    exact hperm
end
end L2
namespace L2
open PySem PySem.Spec PyProof.Rows Mth
section
variable {P : Program} {w : World} {A : Around} {E : Value → Shared → Prop} {s : Shared} {a : Addr}
/-- what stands in a set, as ints -/
theorem elems_ints : ∀ {l : List (Int × Value)}, ElemsOf (intKind P w) l → ∃ ns, IntsAre (l.map (·.2)) ns
  | [], _ => ⟨[], .nil⟩
  | e :: l, h => by
    obtain ⟨ns, r⟩ := elems_ints h.tail
    obtain ⟨⟨k, hk, _⟩, _⟩ := h.head
    obtain ⟨tk, hv⟩ := Value.isInt_shape hk
    exact ⟨k :: ns, by rw [List.map_cons, hv]; exact .cons k tk r⟩
theorem ints_perm {vs us : List Value} (p : us.Perm vs) : ∀ {ns : List Int}, IntsAre vs ns → ∃ ms, IntsAre us ms ∧ ms.Perm ns := by
  induction p with
  | nil => intro ns h; exact ⟨ns, h, .refl _⟩
  | cons x _ ih =>
    intro ns h
    cases h with
    | cons n tk r =>
      obtain ⟨ms, a, b⟩ := ih r
      exact ⟨_, .cons n tk a, b.cons n⟩
  | swap x y l =>
    intro ns h
    cases h with
    | cons n tk r =>
      cases r with
      | cons m tk' r => exact ⟨_, .cons m tk' (.cons n tk r), .swap _ _ _⟩
  | trans _ _ ih1 ih2 =>
    intro ns h
    obtain ⟨ms, a, b⟩ := ih2 h
    obtain ⟨ks, c, d⟩ := ih1 a
    exact ⟨ks, c, d.trans b⟩
theorem ints_mem {k : Int} : ∀ {vs : List Value} {ns : List Int}, IntsAre vs ns → (k ∈ ns ↔ ∃ v ∈ vs, (intKind P w).is k v = true)
  | _, _, .nil => by simp
  | _, _, .cons n tk r => by
    rw [List.mem_cons, ints_mem r]
    have e : (intKind P w).is k (.int n tk) = true ↔ k = n := ⟨fun h => (intKind P w).inj _ k n h (intKind_is _ _ _ _), fun h => h ▸ intKind_is _ _ _ _⟩
    constructor
    · rintro (h | ⟨v, hv, h⟩)
      · exact ⟨_, List.mem_cons_self, e.mpr h⟩
      · exact ⟨v, List.mem_cons_of_mem _ hv, h⟩
    · rintro ⟨v, hv, h⟩
      rcases List.mem_cons.mp hv with rfl | hv
      · exact .inl (e.mp h)
      · exact .inr ⟨v, hv, h⟩
theorem perm_of_mem : ∀ {ks ns : List Int}, ks.Nodup → (∀ k, k ∈ ks → k ∈ ns) → ns.length = ks.length → ns.Perm ks
  | [], ns, _, _, hl => by
    have : ns = [] := List.length_eq_zero_iff.mp hl
    subst this
    exact .refl _
  | k :: ks, ns, nd, hm, hl => by
    obtain ⟨n1, n2⟩ := List.nodup_cons.mp nd
    have hk := hm k List.mem_cons_self
    refine (List.perm_cons_erase hk).trans ((perm_of_mem n2 (fun x hx => ?_) ?_).cons k)
    · exact (List.mem_erase_of_ne (fun e : x = k => n1 (e ▸ hx))).mpr (hm x (List.mem_cons_of_mem _ hx))
    · rw [List.length_erase_of_mem hk, hl, List.length_cons]
      rfl
set_option maxHeartbeats 2000000 in
theorem sorted_set {ks : List Int} {Q : Value → Shared → Prop} (hh : A.handled = none) (hS : SG P w s.heap a ks (ledW w)) (h64 : ks.length < 64)
    (h : ∀ (s' : Shared) (q : Addr) (out : List Value) (e : Nat) (ms : List Int), (∀ b ob, s.heap.get? b = some ob → s'.heap.get? b = some ob) → s'.gens = s.gens → s'.os = s.os → s.toks ≤ s'.toks → s.heap.objs.size ≤ q →
      s'.heap.get? q = some (seqObj "list" out.toArray e) → IntsAre out ms → ms.Perm ks → ms.Pairwise (· ≤ ·) → Q (.ref q) s') : wpAny (model P w) A (call (.builtin "sorted") [.ref a]) Q E s := by
  obtain ⟨o, es, ep, t, ho, hex, hd, el, me, sz, nd, sb, fi, g, le⟩ := hS
  refine Calls.call_function_entry kind_sorted plain_sorted entry_sorted (args_sorted1 _) ?_
  unfold Builtin.«sorted»
  refine wpAny_bind (m := checkCount "sorted" 1 1 _) (wpAny_pure ?_)
  refine wpAny_bind (collect_set (by simp [hh]) ho hex hd fi g le sb fun s' ys hk hgens hos htoks hle hperm => ?_)
  obtain ⟨ns, hns⟩ := elems_ints el
  obtain ⟨ms, hms, hmp⟩ := ints_perm hperm hns
  have hlen : ys.length = ks.length := by rw [hperm.length_eq, List.length_map, Array.length_toList, sz]
  have hnk : ns.Perm ks := perm_of_mem nd (fun k hk' => by
    rw [ints_mem (P := P) (w := w) hns]
    obtain ⟨e, he, hp⟩ := (me k).mp hk'
    exact ⟨_, List.mem_map_of_mem he, hp⟩) (by rw [← hns.length, List.length_map, Array.length_toList, sz])
  refine wpAny_bind (wpAny_newList ?_ (by rw [hlen]; exact fits_of_scanBound (by rw [← sz]; exact sb)))
  have hoL : (s'.heap.push (seqObj "list" ys.toArray 0)).get? s'.heap.objs.size = some (seqObj "list" ys.toArray 0) := Heap.get?_push_size _ rfl
  refine wpAny_bind (wpAny_holding (wpAny_call_entry slot_list_sort ⟨_, hoL, rfl⟩ entry_list_sort (list_sort_tree hoL hms (by omega) fun out ns' a1 a2 a3 => ⟨_, rfl, ?_⟩) (args_list_sort _)))
  obtain ⟨e, he⟩ := sortedHeap_at (out := out) hoL
  refine wpAny_pure ⟨_, rfl, h _ _ out.toList e ns' (fun b ob q => ?_) hgens hos htoks hle (by simpa using he) a1 (a2.trans (hmp.trans hnk)) a3⟩
  have q1 := hk b ob q
  have lt := Heap.lt_size q1
  show (sortedHeap _ _ _ _).get? b = some ob
  rw [sortedHeap_old (Nat.ne_of_lt lt) (by rw [Heap.size_push]; exact Nat.lt_succ_of_lt lt)]
  exact Heap.get?_push_of_some _ q1
end
theorem bt_set : bootBuiltins "set" = some (.type "set") := by decide +kernel
/-- a set of ints, tracked -/
def SetO (P : Program) (w : World) (a : Addr) (ks : List Int) : HO := .ext fun h => SG P w h a ks (ledW w)
section
variable {X : Cx} {pins : List (Addr × Obj)} {σ : St} {H : Hp} {s : Shared}
theorem Inv.drawn (I : Inv X pins σ H s) (d : Drawn) : Inv X pins σ H { s with drawn := d } := ⟨I.ok, I.os, I.bare, I.base, I.loc, I.cell, I.free, I.freeC, I.pin, I.hok, I.len⟩
/-- set(a list of ints) -/
theorem call_setR (hc : X.calm = true) : CallR X (.type "set") (fun xs H Q => ∃ (p : Addr) (ns : List Int), xs = [.ref p] ∧ SqL X.K H p (ns.map V.int) ∧ ns.length < 1000 ∧ ∀ q, H q = none → Q (.ref q) (upd H q (SetO X.prog X.w q (dedI ns)))) := by
  intro pins s σ H xs us Q I r h
  obtain ⟨p, ns, rfl, hq, h64, q⟩ := h
  obtain ⟨u, rfl, r1⟩ := vals1 r
  obtain rfl : u = Value.ref p := r1
  obtain ⟨its, rv, pl, hz⟩ := I.list hq
  refine call_setL (I.ok.hd hc) pl.isList (by simpa using ints_of rv) (by unfold scanBound; omega) fun h' tk ht hS hk => ?_
  refine ⟨.ref s.heap.objs.size, _, I.laid (t' := tk) (o := SetO X.prog X.w s.heap.objs.size (dedI ns)) hk (Nat.le_refl _) ?_, rfl, q _ (I.hok.fresh (Nat.le_refl _))⟩
  refine ⟨hS, ?_, fun h1 h2 x k => x.stay k⟩
  obtain ⟨o, _, _, _, e, _⟩ := hS
  exact ⟨o, e⟩
/-- sorted(a set of ints), a new list -/
theorem call_sortedS (hc : X.calm = true) : CallR X (.builtin "sorted") (fun xs H Q => ∃ (p : Addr) (ks : List Int), xs = [.ref p] ∧ H p = some (SetO X.prog X.w p ks) ∧ ks.length < 64 ∧ ∀ q (ms : List Int), H q = none → ms.Perm ks → ms.Pairwise (· ≤ ·) → Q (.ref q) (upd H q (.lst (ms.map V.int)))) := by
  intro pins s σ H xs us Q I r h
  obtain ⟨p, ks, rfl, hp, h64, q⟩ := h
  obtain ⟨u, rfl, r1⟩ := vals1 r
  obtain rfl : u = Value.ref p := r1
  have hS : SG X.prog X.w s.heap p ks (ledW X.w) := (I.hok p _ hp).1
  refine sorted_set (I.ok.hd hc) hS h64 fun s' b out e ms k hg ho ht hle hq hi hpm hso => ?_
  obtain ⟨h', g', d', tk', os'⟩ := s'
  have hg : g' = s.gens := hg
  have ho : os' = s.os := ho
  subst hg ho
  have J := (I.laid (a := b) (t' := tk') (o := .lst (ms.map V.int)) (h' := h') k hle (by
    have := hpm.length_eq
    exact ⟨by rw [List.length_map]; exact Nat.le_of_lt (small1000 (by omega)), out, e, vals_of hi, hq⟩)).drawn d'
  exact ⟨.ref b, _, J, rfl, q b ms (I.hok.fresh hle) hpm hso⟩
end
end L2
namespace L2
open PySem PySem.Spec PyProof.Rows Mth
theorem sorted_rooms {N : Nat} {ns : List Nat} {ms : List Int} (hb : ∀ k, N.testBit k = decide (k ∈ ns)) (h61 : ∀ r ∈ ns, r < 61) (hp : ms.Perm (dedI (ns.map fun (r : Nat) => (r : Int)))) (hs : ms.Pairwise (· ≤ ·)) : ms = (Bit.rooms N).map fun (r : Nat) => (r : Int) := by
  have hmem : ∀ k, k ∈ ms ↔ ∃ r ∈ ns, ((r : Nat) : Int) = k := fun k => by
    rw [hp.mem_iff]
    unfold dedI
    rw [dedI_mem]
    simp
  have hnd : ms.Nodup := hp.nodup_iff.mpr (dedI_nodup _ _ .nil)
  have e1 : ms = (ms.map Int.toNat).map fun (r : Nat) => (r : Int) := by
    rw [List.map_map]
    conv => lhs; rw [← List.map_id ms]
    refine List.map_congr_left fun x hx => ?_
    obtain ⟨r, _, rfl⟩ := (hmem x).mp hx
    simp
  have hl : (ms.map Int.toNat).Pairwise (· < ·) := by
    rw [List.pairwise_map]
    refine (hs.and hnd).imp_of_mem ?_
    intro a b ha hb' ⟨h1, h2⟩
    obtain ⟨r, _, rfl⟩ := (hmem a).mp ha
    obtain ⟨q, _, rfl⟩ := (hmem b).mp hb'
    have : (r : Int) ≠ q := h2
    simp only [Int.toNat_natCast]
    omega
  have hm2 : ∀ k, k ∈ ms.map Int.toNat ↔ k ∈ ns := fun k => by
    rw [List.mem_map]
    constructor
    · rintro ⟨x, hx, rfl⟩
      obtain ⟨r, hr, rfl⟩ := (hmem x).mp hx
      simpa using hr
    · intro hk
      exact ⟨k, (hmem _).mpr ⟨k, hk, rfl⟩, by simp⟩
  have hN : Bit.sumOf (ms.map Int.toNat) = N := by
    refine Nat.eq_of_testBit_eq fun k => ?_
    rw [Bit.bit_sumOf, hb]
    exact decide_eq_decide.mpr (hm2 k)
  have := Bit.rooms_sumOf (l := ms.map Int.toNat) (fun r hr => h61 r ((hm2 r).mp hr)) hl
  rw [hN] at this
  rw [this]
  exact e1
def woR (n r : Nat) : Nat := if n.testBit r = true then n - 2 ^ r else n
theorem woR_xor {n r : Nat} (h : n.testBit r = true) : n - 2 ^ r = n ^^^ 2 ^ r := by
  have h1 : (n ^^^ 2 ^ r).testBit r = false := by
    rw [Nat.testBit_xor, h, Nat.testBit_two_pow_self]
    rfl
  have h2 := Bit.add_or h1
  have h3 : (n ^^^ 2 ^ r) ||| 2 ^ r = n := by
    refine Nat.eq_of_testBit_eq fun k => ?_
    rw [Nat.testBit_or, Nat.testBit_xor]
    by_cases e : r = k
    · subst e
      rw [Nat.testBit_two_pow_self, h]
      rfl
    · rw [Nat.testBit_two_pow_of_ne e]
      simp
  omega
theorem woR_bit (n r k : Nat) : (woR n r).testBit k = (n.testBit k && !decide (k = r)) := by
  unfold woR
  by_cases h : n.testBit r = true
  · rw [if_pos h, woR_xor h, Nat.testBit_xor]
    by_cases e : r = k
    · subst e
      rw [Nat.testBit_two_pow_self, h]
      simp
    · rw [Nat.testBit_two_pow_of_ne e]
      simp [Ne.symm e]
  · rw [if_neg h]
    by_cases e : k = r
    · subst e
      simpa using h
    · simp [e]
theorem woR_le (n r : Nat) : woR n r ≤ n := by
  unfold woR
  split
  · exact Nat.sub_le _ _
  · exact Nat.le_refl _
theorem woR_rooms (n r : Nat) : Bit.rooms (woR n r) = (Bit.rooms n).filter (fun k => !decide (k = r)) := by
  unfold Bit.rooms
  rw [List.filter_filter]
  refine List.filter_congr fun k _ => ?_
  rw [woR_bit, Bool.and_comm]
theorem or_lt {n r : Nat} (hn : n < 2 ^ 61) (hr : r < 61) : n ||| 2 ^ r < 2 ^ 61 := Nat.or_lt_two_pow hn (Nat.pow_lt_pow_right (by decide) hr)
theorem or_bits {n r : Nat} (hn : n < 2 ^ 61) (hr : r < 61) (k : Nat) : (n ||| 2 ^ r).testBit k = decide (k ∈ Bit.rooms n ++ [r]) := by
  have e0 : (k ∈ Bit.rooms n ++ [r]) ↔ ((k < 61 ∧ n.testBit k = true) ∨ k = r) := by rw [List.mem_append, Bit.mem_rooms, List.mem_singleton]
  rw [Bool.eq_iff_iff, decide_eq_true_iff, e0, Nat.testBit_or, Bool.or_eq_true, Nat.testBit_two_pow, decide_eq_true_iff]
  constructor
  · rintro (h | h)
    · refine .inl ⟨?_, h⟩
      rcases Nat.lt_or_ge k 61 with z | z
      · exact z
      · rw [Bit.bit_small hn z] at h
        cases h
    · exact .inr h.symm
  · rintro (h | h)
    · exact .inl h.2
    · exact .inr h.symm
theorem bt_sorted : bootBuiltins "sorted" = some (.builtin "sorted") := boot_sorted
end L2


namespace K03
open PySem PySem.Spec PyProof.Rows L2 Mth
def top (i : Nat) : Stmt := PySem.Challenge.pw_stoke_k03_bits.main.body.getD i (.Pass ⟨0, 0, 0, 0⟩)
abbrev s_has_room : Stmt := top 1
theorem sc_has_room : FnScope ["bits", "room"] ["bits", "room"] (defScope s_has_room) := ⟨rfl, rfl, rfl, by decide +kernel, rfl, by decide +kernel, by decide +kernel⟩
abbrev s_with_room : Stmt := top 2
theorem sc_with_room : FnScope ["bits", "room"] ["bits", "room"] (defScope s_with_room) := ⟨rfl, rfl, rfl, by decide +kernel, rfl, by decide +kernel, by decide +kernel⟩
abbrev s_without_room : Stmt := top 3
theorem sc_without_room : FnScope ["bits", "room"] ["bits", "room"] (defScope s_without_room) := ⟨rfl, rfl, rfl, by decide +kernel, rfl, by decide +kernel, by decide +kernel⟩
abbrev s_how_many : Stmt := top 4
theorem sc_how_many : FnScope ["bits"] ["bits"] (defScope s_how_many) := ⟨rfl, rfl, rfl, by decide +kernel, rfl, by decide +kernel, by decide +kernel⟩
abbrev s_members : Stmt := top 5
theorem sc_members : FnScope ["bits"] ["bits"] (defScope s_members) := ⟨rfl, rfl, rfl, by decide +kernel, rfl, by decide +kernel, by decide +kernel⟩
abbrev s_bits_of : Stmt := top 6
theorem sc_bits_of : FnScope ["rooms", "bits", "room"] ["rooms"] (defScope s_bits_of) := ⟨rfl, rfl, rfl, by decide +kernel, rfl, by decide +kernel, by decide +kernel⟩
abbrev s_law_rooms : Stmt := top 8
theorem sc_law_rooms : FnScope ["_law_num", "_law_rooms_here", "_law_room"] ["_law_num"] (defScope s_law_rooms) := ⟨rfl, rfl, rfl, by decide +kernel, rfl, by decide +kernel, by decide +kernel⟩
abbrev s_law_whole : Stmt := top 9
theorem sc_law_whole : FnScope ["_law_num", "_law_due"] ["_law_num", "_law_due"] (defScope s_law_whole) := ⟨rfl, rfl, rfl, by decide +kernel, rfl, by decide +kernel, by decide +kernel⟩
abbrev s_law_right : Stmt := top 10
theorem sc_law_right : FnScope ["_law_num", "_law_room", "_law_rooms_here", "_law_found", "_law_said", "_law_wide", "_law_small"] ["_law_num", "_law_room"] (defScope s_law_right) := ⟨rfl, rfl, rfl, by decide +kernel, rfl, by decide +kernel, by decide +kernel⟩
abbrev s_law : Stmt := top 11
theorem sc_law : FnScope ["_law_script", "_law_some", "_law_rooms_here", "_law_k", "_law_num", "_law_room", "_law_handed", "_law_found"] ["_law_script"] (defScope s_law) := ⟨rfl, rfl, rfl, by decide +kernel, rfl, by decide +kernel, by decide +kernel⟩
structure Txt (K : PySem.W.Frag) (mg : Str → Option Value) : Prop where
  d_has_room : Has K mg "has_room" s_has_room
  d_with_room : Has K mg "with_room" s_with_room
  d_without_room : Has K mg "without_room" s_without_room
  d_how_many : Has K mg "how_many" s_how_many
  d_members : Has K mg "members" s_members
  d_bits_of : Has K mg "bits_of" s_bits_of
  d_law_rooms : Has K mg "_law_rooms" s_law_rooms
  d_law_whole : Has K mg "_law_whole" s_law_whole
  d_law_right : Has K mg "_law_right" s_law_right
  d_law : Has K mg "law" s_law
  n_abs : mg "abs" = none
  n_bool : mg "bool" = none
  n_int : mg "int" = none
  n_isinstance : mg "isinstance" = none
  n_len : mg "len" = none
  n_list : mg "list" = none
  n_range : mg "range" = none
  n_set : mg "set" = none
  n_sorted : mg "sorted" = none
theorem txt_mk {K : PySem.W.Frag} {h : Heap} {mg : Str → Option Value} (X : K.In h) (G : h.Ns mainGlobals mg)
    {f_has_room : Addr} {od_has_room an_has_room : Option Addr} {sl_has_room : Array (Option Value)} {oc_has_room kV_has_room dc_has_room pm_has_room cd_has_room ct_has_room : Value}
    {f_with_room : Addr} {od_with_room an_with_room : Option Addr} {sl_with_room : Array (Option Value)} {oc_with_room kV_with_room dc_with_room pm_with_room cd_with_room ct_with_room : Value}
    {f_without_room : Addr} {od_without_room an_without_room : Option Addr} {sl_without_room : Array (Option Value)} {oc_without_room kV_without_room dc_without_room pm_without_room cd_without_room ct_without_room : Value}
    {f_how_many : Addr} {od_how_many an_how_many : Option Addr} {sl_how_many : Array (Option Value)} {oc_how_many kV_how_many dc_how_many pm_how_many cd_how_many ct_how_many : Value}
    {f_members : Addr} {od_members an_members : Option Addr} {sl_members : Array (Option Value)} {oc_members kV_members dc_members pm_members cd_members ct_members : Value}
    {f_bits_of : Addr} {od_bits_of an_bits_of : Option Addr} {sl_bits_of : Array (Option Value)} {oc_bits_of kV_bits_of dc_bits_of pm_bits_of cd_bits_of ct_bits_of : Value}
    {f_law_rooms : Addr} {od_law_rooms an_law_rooms : Option Addr} {sl_law_rooms : Array (Option Value)} {oc_law_rooms kV_law_rooms dc_law_rooms pm_law_rooms cd_law_rooms ct_law_rooms : Value}
    {f_law_whole : Addr} {od_law_whole an_law_whole : Option Addr} {sl_law_whole : Array (Option Value)} {oc_law_whole kV_law_whole dc_law_whole pm_law_whole cd_law_whole ct_law_whole : Value}
    {f_law_right : Addr} {od_law_right an_law_right : Option Addr} {sl_law_right : Array (Option Value)} {oc_law_right kV_law_right dc_law_right pm_law_right cd_law_right ct_law_right : Value}
    {f_law : Addr} {od_law an_law : Option Addr} {sl_law : Array (Option Value)} {oc_law kV_law dc_law pm_law cd_law ct_law : Value}
    (a_has_room : PySem.W.nsIn K mainGlobals "has_room" = some (some (.ref f_has_room)))
    (l_has_room : K.lookup f_has_room = some ⟨oc_has_room, od_has_room, .func (PySem.W.fnOf "has_room" "has_room" (defArgs s_has_room) (defBody s_has_room) (defScope s_has_room) .none kV_has_room dc_has_room pm_has_room an_has_room cd_has_room ct_has_room), sl_has_room⟩)
    (co_has_room : PySem.W.codeIn K cd_has_room "has_room" = true)
    (k_has_room : PySem.W.keepIn K (.ref f_has_room) = true)
    (a_with_room : PySem.W.nsIn K mainGlobals "with_room" = some (some (.ref f_with_room)))
    (l_with_room : K.lookup f_with_room = some ⟨oc_with_room, od_with_room, .func (PySem.W.fnOf "with_room" "with_room" (defArgs s_with_room) (defBody s_with_room) (defScope s_with_room) .none kV_with_room dc_with_room pm_with_room an_with_room cd_with_room ct_with_room), sl_with_room⟩)
    (co_with_room : PySem.W.codeIn K cd_with_room "with_room" = true)
    (k_with_room : PySem.W.keepIn K (.ref f_with_room) = true)
    (a_without_room : PySem.W.nsIn K mainGlobals "without_room" = some (some (.ref f_without_room)))
    (l_without_room : K.lookup f_without_room = some ⟨oc_without_room, od_without_room, .func (PySem.W.fnOf "without_room" "without_room" (defArgs s_without_room) (defBody s_without_room) (defScope s_without_room) .none kV_without_room dc_without_room pm_without_room an_without_room cd_without_room ct_without_room), sl_without_room⟩)
    (co_without_room : PySem.W.codeIn K cd_without_room "without_room" = true)
    (k_without_room : PySem.W.keepIn K (.ref f_without_room) = true)
    (a_how_many : PySem.W.nsIn K mainGlobals "how_many" = some (some (.ref f_how_many)))
    (l_how_many : K.lookup f_how_many = some ⟨oc_how_many, od_how_many, .func (PySem.W.fnOf "how_many" "how_many" (defArgs s_how_many) (defBody s_how_many) (defScope s_how_many) .none kV_how_many dc_how_many pm_how_many an_how_many cd_how_many ct_how_many), sl_how_many⟩)
    (co_how_many : PySem.W.codeIn K cd_how_many "how_many" = true)
    (k_how_many : PySem.W.keepIn K (.ref f_how_many) = true)
    (a_members : PySem.W.nsIn K mainGlobals "members" = some (some (.ref f_members)))
    (l_members : K.lookup f_members = some ⟨oc_members, od_members, .func (PySem.W.fnOf "members" "members" (defArgs s_members) (defBody s_members) (defScope s_members) .none kV_members dc_members pm_members an_members cd_members ct_members), sl_members⟩)
    (co_members : PySem.W.codeIn K cd_members "members" = true)
    (k_members : PySem.W.keepIn K (.ref f_members) = true)
    (a_bits_of : PySem.W.nsIn K mainGlobals "bits_of" = some (some (.ref f_bits_of)))
    (l_bits_of : K.lookup f_bits_of = some ⟨oc_bits_of, od_bits_of, .func (PySem.W.fnOf "bits_of" "bits_of" (defArgs s_bits_of) (defBody s_bits_of) (defScope s_bits_of) .none kV_bits_of dc_bits_of pm_bits_of an_bits_of cd_bits_of ct_bits_of), sl_bits_of⟩)
    (co_bits_of : PySem.W.codeIn K cd_bits_of "bits_of" = true)
    (k_bits_of : PySem.W.keepIn K (.ref f_bits_of) = true)
    (a_law_rooms : PySem.W.nsIn K mainGlobals "_law_rooms" = some (some (.ref f_law_rooms)))
    (l_law_rooms : K.lookup f_law_rooms = some ⟨oc_law_rooms, od_law_rooms, .func (PySem.W.fnOf "_law_rooms" "_law_rooms" (defArgs s_law_rooms) (defBody s_law_rooms) (defScope s_law_rooms) .none kV_law_rooms dc_law_rooms pm_law_rooms an_law_rooms cd_law_rooms ct_law_rooms), sl_law_rooms⟩)
    (co_law_rooms : PySem.W.codeIn K cd_law_rooms "_law_rooms" = true)
    (k_law_rooms : PySem.W.keepIn K (.ref f_law_rooms) = true)
    (a_law_whole : PySem.W.nsIn K mainGlobals "_law_whole" = some (some (.ref f_law_whole)))
    (l_law_whole : K.lookup f_law_whole = some ⟨oc_law_whole, od_law_whole, .func (PySem.W.fnOf "_law_whole" "_law_whole" (defArgs s_law_whole) (defBody s_law_whole) (defScope s_law_whole) .none kV_law_whole dc_law_whole pm_law_whole an_law_whole cd_law_whole ct_law_whole), sl_law_whole⟩)
    (co_law_whole : PySem.W.codeIn K cd_law_whole "_law_whole" = true)
    (k_law_whole : PySem.W.keepIn K (.ref f_law_whole) = true)
    (a_law_right : PySem.W.nsIn K mainGlobals "_law_right" = some (some (.ref f_law_right)))
    (l_law_right : K.lookup f_law_right = some ⟨oc_law_right, od_law_right, .func (PySem.W.fnOf "_law_right" "_law_right" (defArgs s_law_right) (defBody s_law_right) (defScope s_law_right) .none kV_law_right dc_law_right pm_law_right an_law_right cd_law_right ct_law_right), sl_law_right⟩)
    (co_law_right : PySem.W.codeIn K cd_law_right "_law_right" = true)
    (k_law_right : PySem.W.keepIn K (.ref f_law_right) = true)
    (a_law : PySem.W.nsIn K mainGlobals "law" = some (some (.ref f_law)))
    (l_law : K.lookup f_law = some ⟨oc_law, od_law, .func (PySem.W.fnOf "law" "law" (defArgs s_law) (defBody s_law) (defScope s_law) .none kV_law dc_law pm_law an_law cd_law ct_law), sl_law⟩)
    (co_law : PySem.W.codeIn K cd_law "law" = true)
    (k_law : PySem.W.keepIn K (.ref f_law) = true)
    (z_abs : PySem.W.nsIn K mainGlobals "abs" = some none)
    (z_bool : PySem.W.nsIn K mainGlobals "bool" = some none)
    (z_int : PySem.W.nsIn K mainGlobals "int" = some none)
    (z_isinstance : PySem.W.nsIn K mainGlobals "isinstance" = some none)
    (z_len : PySem.W.nsIn K mainGlobals "len" = some none)
    (z_list : PySem.W.nsIn K mainGlobals "list" = some none)
    (z_range : PySem.W.nsIn K mainGlobals "range" = some none)
    (z_set : PySem.W.nsIn K mainGlobals "set" = some none)
    (z_sorted : PySem.W.nsIn K mainGlobals "sorted" = some none)
    : Txt K mg :=
  ⟨⟨f_has_room, _, PySem.W.mg_of X G a_has_room, fun_mk (st := s_has_room) l_has_room co_has_room k_has_room⟩,
    ⟨f_with_room, _, PySem.W.mg_of X G a_with_room, fun_mk (st := s_with_room) l_with_room co_with_room k_with_room⟩,
    ⟨f_without_room, _, PySem.W.mg_of X G a_without_room, fun_mk (st := s_without_room) l_without_room co_without_room k_without_room⟩,
    ⟨f_how_many, _, PySem.W.mg_of X G a_how_many, fun_mk (st := s_how_many) l_how_many co_how_many k_how_many⟩,
    ⟨f_members, _, PySem.W.mg_of X G a_members, fun_mk (st := s_members) l_members co_members k_members⟩,
    ⟨f_bits_of, _, PySem.W.mg_of X G a_bits_of, fun_mk (st := s_bits_of) l_bits_of co_bits_of k_bits_of⟩,
    ⟨f_law_rooms, _, PySem.W.mg_of X G a_law_rooms, fun_mk (st := s_law_rooms) l_law_rooms co_law_rooms k_law_rooms⟩,
    ⟨f_law_whole, _, PySem.W.mg_of X G a_law_whole, fun_mk (st := s_law_whole) l_law_whole co_law_whole k_law_whole⟩,
    ⟨f_law_right, _, PySem.W.mg_of X G a_law_right, fun_mk (st := s_law_right) l_law_right co_law_right k_law_right⟩,
    ⟨f_law, _, PySem.W.mg_of X G a_law, fun_mk (st := s_law) l_law co_law k_law⟩,
    PySem.W.mg_none_of X G z_abs,
    PySem.W.mg_none_of X G z_bool,
    PySem.W.mg_none_of X G z_int,
    PySem.W.mg_none_of X G z_isinstance,
    PySem.W.mg_none_of X G z_len,
    PySem.W.mg_none_of X G z_list,
    PySem.W.mg_none_of X G z_range,
    PySem.W.mg_none_of X G z_set,
    PySem.W.mg_none_of X G z_sorted⟩
section
variable {P : Program} {w : World} {K : PySem.W.Frag} {mg : Str → Option Value} {base : Heap}
theorem ok_has_room (T : Txt K mg) : Def P w K mg base "has_room" 1 ["bits", "room"] sp_has_room := by
  refine T.d_has_room.def sc_has_room (fun vs H Q E h => ?_) (fun _ _ _ _ _ _ us hl => match us, hl with | [_, _], _ => rfl) (fun f cdv A outer s H vs Q E hr h => ?_)
  · obtain ⟨n, r, rfl, _⟩ := h
    rfl
  · obtain ⟨n, r, rfl, k⟩ := h
    refine ⟨_, (pss_one (ps_ret (pe_cmpR op_eq (pe_op op_modL (pe_op op_shrL (pv 0) (pv 1)) pe_int) pe_int (nomark _)))), ?_⟩
    refine ⟨_, rfl, _, rfl, _, _, rfl, rfl, Int.natCast_nonneg _, fun s es => ⟨_, _, rfl, rfl, by decide, fun m _ _ em => ⟨rfl, ?_⟩⟩⟩
    rw [shr_odd n r es em]
    exact k
theorem ok_with_room (T : Txt K mg) : Def P w K mg base "with_room" 1 ["bits", "room"] sp_with_room := by
  refine T.d_with_room.def sc_with_room (fun vs H Q E h => ?_) (fun _ _ _ _ _ _ us hl => match us, hl with | [_, _], _ => rfl) (fun f cdv A outer s H vs Q E hr h => ?_)
  · obtain ⟨n, r, rfl, _⟩ := h
    rfl
  · obtain ⟨n, r, rfl, hr1, k⟩ := h
    refine ⟨_, (pss_one (ps_ret (pe_op op_orL (pv 0) (pe_op op_shlL pe_int (pv 1))))), ?_⟩
    refine ⟨_, rfl, _, rfl, _, _, rfl, rfl, ⟨Int.natCast_nonneg _, by omega, by decide⟩, fun s es => ⟨_, _, rfl, rfl, fun m em => ?_⟩⟩
    have e1 : s = ((2 ^ r : Nat) : Int) := by rw [es, Int.toNat_natCast, Int.one_mul, Int.natCast_pow]; rfl
    rw [em, e1, bitOr_nat]
    exact k
theorem ok_members (T : Txt K mg) : Def P w K mg base "members" 2 ["bits"] sp_members := by
  refine T.d_members.def sc_members (fun vs H Q E h => ?_) (fun _ _ _ _ _ _ us hl => match us, hl with | [_], _ => rfl) (fun f cdv A outer s H vs Q E hr h => ?_)
  · obtain ⟨n, rfl, _⟩ := h
    rfl
  · obtain ⟨n, rfl, hn, k⟩ := h
    refine ⟨_, (pss_one (ps_ret (pe_lc ["room"] ["bits"] [0] (.cons ⟨rfl, rfl, .inl rfl⟩ .nil) rfl (pi_range1 rfl T.n_range (pa_cons (pe_bm0 PySem.F.plainAttrs_int PySem.F.slot_int_bit_length PySem.F.type_int_bit_length mt_bitlen (pv 0)) pa_nil)) (fun _ _ _ _ _ => (pg_name (i := 0) (show (["room", "bits"] : List Str).Nodup by decide +kernel) rfl (by first | exact Or.inl rfl | exact Or.inr rfl))) (fun _ _ _ _ _ => (pif_one (pt_val (pe_callD (ok_has_room T) (hr.mono (by decide)) (pa_cons (pv 1) (pa_cons (pv 0) pa_nil)))))) (fun _ _ _ _ _ => (pv 0)) rfl (by decide +kernel) (by decide +kernel) (by decide +kernel)))), ?_⟩
    refine ⟨_, rfl, rfl, _, rfl, rfl, fun b eb => ?_⟩
    have hb : Builtin.Int.intBits (n : Int) ≤ 61 := PySem.intBits_le_iff.mpr (by simpa using hn)
    have hb2 : n < 2 ^ Builtin.Int.intBits (n : Int) := by
      have := PySem.intBits_le_iff.mp (Nat.le_refl (Builtin.Int.intBits (n : Int)))
      simpa using this
    have eN : b.toNat = Builtin.Int.intBits (n : Int) := by omega
    refine ⟨b, rfl, by omega, by omega, fun D hD => ?_⟩
    refine comp_range (fun i acc σ H' => H' = upd H D (.lst acc) ∧ acc = ((List.range i).filter n.testBit).map natV ∧ ∃ v, σ = [v, some (natV n)]) ⟨rfl, rfl, none, rfl⟩ ?_ ?_
    · rintro i acc σ H' hi ⟨rfl, rfl, v, rfl⟩
      refine ⟨_, rfl, _, rfl, n, i, (by show [_, _] = [_, _]; rw [Int.zero_add]; rfl), _, rfl, ?_⟩
      have er : ((List.range (i + 1)).filter n.testBit).map natV = ((List.range i).filter n.testBit).map natV ++ (if n.testBit i = true then [natV i] else []) := by
        rw [List.range_succ, List.filter_append, List.map_append]
        by_cases q : n.testBit i = true <;> simp [q]
      by_cases q : n.testBit i = true
      · rw [q]
        refine iteT ⟨_, rfl, upd_same, ?_, ?_, ?_, _, rfl⟩
        · have := List.length_filter_le n.testBit (List.range i)
          rw [List.length_range] at this
          rw [List.length_map]
          exact small1000 (by omega)
        · rw [upd_upd]
        · rw [er, if_pos q, Int.zero_add]; rfl
      · rw [Bool.not_eq_true] at q
        rw [q]
        refine iteF ⟨rfl, ?_, _, rfl⟩
        rw [er, q]; simp
    · rintro acc σ H' ⟨rfl, rfl, v, rfl⟩
      refine k D _ hD (same_upd hD) ?_
      rw [upd_same, eN, Bit.rooms_upto hb2 hb]

def sp_rooms : Sp := fun vs H Q _ => ∃ n : Nat, vs = [natV n] ∧ ∀ p H', H p = none → Same H H' → H' p = some (.lst ((Bit.rooms n).map natV)) → Q (.ref p) H'
def sp_hm : Sp := fun vs H Q _ => ∃ n : Nat, vs = [natV n] ∧ n < 2 ^ 61 ∧ ∀ H', Same H H' → Q (natV (Bit.rooms n).length) H'
def sp_bof (K : PySem.W.Frag) : Sp := fun vs H Q _ => ∃ p l, vs = [.ref p] ∧ SqL K H p (l.map natV) ∧ (∀ r ∈ l, r ≤ 1000) ∧ Q (natV (Bit.sumOf l)) H
def sp_wo : Sp := fun vs H Q _ => ∃ n r : Nat, vs = [natV n, natV r] ∧ r ≤ 1000 ∧ Q (natV (woR n r)) H
def sp_whole2 : Sp := fun vs H Q _ => ∃ z : Int, vs = [.int z, .int z] ∧ Q (.bl true) H
theorem ok_how_many (T : Txt K mg) : Def P w K mg base "how_many" 3 ["bits"] sp_hm := by
  refine T.d_how_many.def sc_how_many (fun vs H Q E h => ?_) (fun _ _ _ _ _ _ us hl => match us, hl with | [_], _ => rfl) (fun f cdv A outer s H vs Q E hr h => ?_)
  · obtain ⟨n, rfl, _⟩ := h
    rfl
  · obtain ⟨n, rfl, hn, k⟩ := h
    refine ⟨_, (pss_one (ps_ret (pe_callB call_lenL (by rfl) T.n_len bt_len (pa_cons (pe_callD (ok_members T) (hr.mono (by decide)) (pa_cons (pv 0) pa_nil)) pa_nil)))), ?_⟩
    refine ⟨_, rfl, n, rfl, hn, fun pm Hm hpm sm km => ⟨pm, _, rfl, .inl (SqL.of km), fun y ey => ?_⟩⟩
    rw [List.length_map] at ey
    rw [ey]
    exact k Hm sm
theorem ok_without_room (T : Txt K mg) : Def P w K mg base "without_room" 2 ["bits", "room"] sp_wo := by
  refine T.d_without_room.def sc_without_room (fun vs H Q E h => ?_) (fun _ _ _ _ _ _ us hl => match us, hl with | [_, _], _ => rfl) (fun f cdv A outer s H vs Q E hr h => ?_)
  · obtain ⟨n, r, rfl, _⟩ := h
    rfl
  · obtain ⟨n, r, rfl, hr1, k⟩ := h
    refine ⟨_, (pss_cons (ps_if (pt_val (pe_callD (ok_has_room T) (hr.mono (by decide)) (pa_cons (pv 0) (pa_cons (pv 1) pa_nil)))) (pss_one (ps_ret (pe_op op_subL (pv 0) (pe_op op_shlL pe_int (pv 1))))) pss_nil)
      (pss_one (ps_ret (pv 0)))), ?_⟩
    refine ⟨_, rfl, _, rfl, n, r, rfl, _, rfl, ?_⟩
    unfold woR at k
    by_cases q : n.testBit r = true
    · rw [q]
      rw [if_pos q] at k
      refine iteT ⟨_, rfl, _, rfl, _, _, rfl, rfl, ⟨Int.natCast_nonneg _, by omega, by decide⟩, fun s es => ⟨_, _, rfl, rfl, fun m em => ?_⟩⟩
      have e1 : s = ((2 ^ r : Nat) : Int) := by rw [es, Int.toNat_natCast, Int.one_mul, Int.natCast_pow]; rfl
      have e2 : m = ((n - 2 ^ r : Nat) : Int) := by
        have : 2 ^ r ≤ n := Nat.ge_two_pow_of_testBit q
        rw [em, e1]
        omega
      rw [e2]
      exact k
    · rw [Bool.not_eq_true] at q
      rw [q] at k ⊢
      exact iteF ⟨_, rfl, k⟩
theorem ok_bits_of (T : Txt K mg) : Def P w K mg base "bits_of" 2 ["rooms"] (sp_bof K) := by
  refine T.d_bits_of.def sc_bits_of (fun vs H Q E h => ?_) (fun _ _ _ _ _ _ us hl => match us, hl with | [_], _ => rfl) (fun f cdv A outer s H vs Q E hr h => ?_)
  · obtain ⟨p, l, rfl, _⟩ := h
    rfl
  · obtain ⟨p, l, rfl, hp, hl, k⟩ := h
    refine ⟨_, (pss_cons (ps_set (i := 1) sc_bits_of.nd rfl (by first | exact Or.inl rfl | exact Or.inr rfl) pe_int)
      (pss_cons (ps_for PassesOwn.never rfl (pi_list (pv 0)) (pg_name (i := 2) sc_bits_of.nd rfl (by first | exact Or.inl rfl | exact Or.inr rfl)) (pss_one (ps_set (i := 1) sc_bits_of.nd rfl (by first | exact Or.inl rfl | exact Or.inr rfl) (pe_callD (ok_with_room T) (hr.mono (by decide)) (pa_cons (pv 1) (pa_cons (pv 2) pa_nil))))))
      (pss_one (ps_ret (pv 1))))), ?_⟩
    refine ⟨_, rfl, p, rfl, ⟨_, hp⟩, ?_⟩
    refine for_list (K := K) (a := p) (xs := l.map natV) (fun i σ H' => H' = H ∧ ∃ v, σ = [some (.ref p), some (natV (Bit.sumOf (l.take i))), v]) ⟨rfl, none, rfl⟩ (fun i σ H' _ e => by rw [e.1]; exact hp) ?_ ?_
    · rintro i x σ H' hx ⟨rfl, v, rfl⟩
      obtain ⟨r, er, rfl⟩ := get_natV hx
      refine ⟨_, rfl, _, rfl, _, r, rfl, hl r (List.mem_of_getElem? er), rfl, some (natV r), ?_⟩
      rw [List.take_succ, er]
      unfold Bit.sumOf
      rw [List.foldl_append]
      rfl
    · rintro σ H' ⟨rfl, v, rfl⟩
      rw [List.length_map, List.take_length]
      exact ⟨_, rfl, k⟩
theorem ok_law_whole (T : Txt K mg) : Def P w K mg base "_law_whole" 1 ["_law_num", "_law_due"] sp_whole2 := by
  refine T.d_law_whole.def sc_law_whole (fun vs H Q E h => ?_) (fun _ _ _ _ _ _ us hl => match us, hl with | [_, _], _ => rfl) (fun f cdv A outer s H vs Q E hr h => ?_)
  · obtain ⟨z, rfl, _⟩ := h
    rfl
  · obtain ⟨z, rfl, k⟩ := h
    refine ⟨_, (pss_one (ps_ret (pe_and (pe_callB call_isinst (by rfl) T.n_isinstance bt_isinstance (pa_cons (pv 0) (pa_cons (pe_bltn (v := V.ty "int") rfl T.n_int bt_int rfl) pa_nil))) (pe_and (pe_not (pe_callB call_isinst (by rfl) T.n_isinstance bt_isinstance (pa_cons (pv 0) (pa_cons (pe_bltn (v := V.ty "bool") rfl T.n_bool bt_bool rfl) pa_nil)))) (pe_one (pe_cmpR op_eq (pv 0) (pv 1) (nomark _))))))), ?_⟩
    refine ⟨_, rfl, _, _, _, _, _, rfl, .int z, rfl, rfl, _, rfl, iteT ?_⟩
    refine ⟨_, rfl, _, _, _, _, _, rfl, .int z, rfl, kit_int_bool K, ?_⟩
    exact ⟨_, rfl, _, rfl, iteT ⟨_, rfl, _, rfl, rfl, blT rfl k⟩⟩

theorem ok_law_rooms (T : Txt K mg) : Def P w K mg base "_law_rooms" 1 ["_law_num"] sp_rooms := by
  refine T.d_law_rooms.def sc_law_rooms (fun vs H Q E h => ?_) (fun _ _ _ _ _ _ us hl => match us, hl with | [_], _ => rfl) (fun f cdv A outer s H vs Q E hr h => ?_)
  · obtain ⟨n, rfl, _⟩ := h
    rfl
  · obtain ⟨n, rfl, k⟩ := h
    refine ⟨_, (pss_cons (ps_set (i := 1) sc_law_rooms.nd rfl (by first | exact Or.inl rfl | exact Or.inr rfl) (pe_lst pa_nil))
      (pss_cons (ps_for PassesOwn.never rfl (pi_range1 rfl T.n_range (pa_cons pe_int pa_nil)) (pg_name (i := 2) sc_law_rooms.nd rfl (by first | exact Or.inl rfl | exact Or.inr rfl)) (pss_cons (ps_cut (ps_if (pt_cmpR op_eq (pe_op op_modL (pv 0) pe_int) pe_int (nomark _)) (pss_one (ps_expr (pe_bm PySem.F.plainAttrs_list PySem.F.slot_list_append PySem.F.type_list_append mt_append (pv 1) (pa_cons (pv 2) pa_nil)))) pss_nil))
      (pss_one (ps_set (i := 0) sc_law_rooms.nd rfl (by first | exact Or.inl rfl | exact Or.inr rfl) (pe_op op_fdivL (pv 0) pe_int)))))
      (pss_one (ps_ret (pv 1))))), ?_⟩
    refine ⟨(by show 0 ≤ sizeLine; decide), fun p0 hp0 => ⟨_, rfl, by decide, by decide, ?_⟩⟩
    refine for_range (lo := 0) (n := 61) (fun i σ H' => H' = upd H p0 (.lst (((List.range i).filter n.testBit).map natV)) ∧ ∃ v, σ = [some (natV (n / 2 ^ i)), some (.ref p0), v]) ⟨rfl, none, by rw [Nat.pow_zero, Nat.div_one]; rfl⟩ ?_ ?_
    · rintro i σ H' hi ⟨rfl, v, rfl⟩
      have er : ((List.range (i + 1)).filter n.testBit).map natV = ((List.range i).filter n.testBit).map natV ++ (if n.testBit i = true then [natV i] else []) := by
        rw [List.range_succ, List.filter_append, List.map_append]
        by_cases q : n.testBit i = true <;> simp [q]
      refine ⟨fun σ' H2 => H2 = upd H p0 (.lst (((List.range (i + 1)).filter n.testBit).map natV)) ∧ σ' = [some (natV (n / 2 ^ i)), some (.ref p0), some (.int (0 + (i : Int)))], ?_, ?_⟩
      · refine ⟨_, rfl, _, _, rfl, rfl, by decide, fun m _ _ em => ⟨rfl, _, rfl, ?_⟩⟩
        have eb : decide (V.int m = V.int 1) = n.testBit i := by
          rw [Nat.testBit_eq_decide_div_mod_eq]
          have e2 : m = ((n / 2 ^ i % 2 : Nat) : Int) := by rw [em]; exact (Int.natCast_emod _ _).symm
          have e3 : (V.int m = V.int 1) ↔ (n / 2 ^ i % 2 = 1) := by rw [int_inj, e2]; omega
          exact decide_eq_decide.mpr e3
        rw [eb]
        by_cases q : n.testBit i = true
        · rw [q]
          refine iteT ⟨_, rfl, .inl ⟨rfl, _, SqL.of upd_same⟩, _, rfl, _, _, _, rfl, rfl, upd_same, ?_, ?_, rfl⟩
          · have := List.length_filter_le n.testBit (List.range i)
            rw [List.length_range] at this
            rw [List.length_map]
            exact small1000 (by omega)
          · rw [upd_upd, er, if_pos q, Int.zero_add]; rfl
        · rw [Bool.not_eq_true] at q
          rw [q]
          refine iteF ⟨?_, rfl⟩
          rw [er, q]; simp
      · rintro σ' H2 ⟨rfl, rfl⟩
        refine ⟨_, rfl, _, _, rfl, rfl, ⟨by decide, bdS 8999 (by decide) (by decide)⟩, fun d ed => ⟨rfl, some (.int (0 + (i : Int))), ?_⟩⟩
        have e2 : d = ((n / 2 ^ (i + 1) : Nat) : Int) := by
          rw [ed, Int.fdiv_eq_ediv_of_nonneg _ (by decide), Nat.pow_succ, ← Nat.div_div_eq_div_mul]
          exact (Int.natCast_ediv _ _).symm
        rw [e2]; rfl
    · rintro σ H' ⟨rfl, v, rfl⟩
      exact ⟨_, rfl, k p0 _ hp0 (same_upd hp0) upd_same⟩

theorem pow61 : (2 : Int) ^ (61 : Int).toNat = ((2 ^ 61 : Nat) : Int) := by decide +kernel
def sp_right3 : Sp := fun vs H Q _ => ∃ n r : Nat, vs = [natV n, natV r] ∧ n < 2 ^ 61 ∧ r < 61 ∧ ∀ H', Same H H' → Q (.bl true) H'
theorem ok_law_right (T : Txt K mg) : Def P w K mg base "_law_right" 4 ["_law_num", "_law_room"] sp_right3 := by
  refine T.d_law_right.def sc_law_right (fun vs H Q E h => ?_) (fun _ _ _ _ _ _ us hl => match us, hl with | [_, _], _ => rfl) (fun f cdv A outer s H vs Q E hr h => ?_)
  · obtain ⟨n, r, rfl, _⟩ := h
    rfl
  · obtain ⟨n, r, rfl, hn, hr61, k⟩ := h
    refine ⟨_, (pss_cons (ps_set (i := 2) sc_law_right.nd rfl (by first | exact Or.inl rfl | exact Or.inr rfl) (pe_callD (ok_law_rooms T) (hr.mono (by decide)) (pa_cons (pv 0) pa_nil)))
      (pss_cons (ps_set (i := 3) sc_law_right.nd rfl (by first | exact Or.inl rfl | exact Or.inr rfl) (pe_callD (ok_members T) (hr.mono (by decide)) (pa_cons (pv 0) pa_nil)))
      (pss_cons (ps_if (PW.pt (pw_or (pt_not (pt_val (pe_callB call_isinst (by rfl) T.n_isinstance bt_isinstance (pa_cons (pv 3) (pa_cons (pe_bltn (v := V.ty "list") rfl T.n_list bt_list rfl) pa_nil))))) (pw_or (pt_cmpR (op_neD hr.units) (pv 3) (pv 2) (nomark _)) (pw_or1 (pt_not (pt_val (pe_callD (ok_law_whole T) (hr.mono (by decide)) (pa_cons (pe_callD (ok_how_many T) (hr.mono (by decide)) (pa_cons (pv 0) pa_nil)) (pa_cons (pe_callB call_lenL (by rfl) T.n_len bt_len (pa_cons (pv 2) pa_nil)) pa_nil))))))))) (pss_one (ps_ret pe_bl)) pss_nil)
      (pss_cons (ps_set (i := 4) sc_law_right.nd rfl (by first | exact Or.inl rfl | exact Or.inr rfl) (pe_callD (ok_has_room T) (hr.mono (by decide)) (pa_cons (pv 0) (pa_cons (pv 1) pa_nil))))
      (pss_cons (ps_if (PW.pt (pw_or (pt_not (pt_val (pe_callB call_isinst (by rfl) T.n_isinstance bt_isinstance (pa_cons (pv 4) (pa_cons (pe_bltn (v := V.ty "bool") rfl T.n_bool bt_bool rfl) pa_nil))))) (pw_or1 (pt_cmpR op_ne (pv 4) (pe_cmpR op_in_seq (pv 1) (pv 2) (by with_unfolding_all rfl)) (nomark _))))) (pss_one (ps_ret pe_bl)) pss_nil)
      (pss_cons (ps_set (i := 5) sc_law_right.nd rfl (by first | exact Or.inl rfl | exact Or.inr rfl) (pe_callD (ok_with_room T) (hr.mono (by decide)) (pa_cons (pv 0) (pa_cons (pv 1) pa_nil))))
      (pss_cons (ps_set (i := 6) sc_law_right.nd rfl (by first | exact Or.inl rfl | exact Or.inr rfl) (pe_callD (ok_without_room T) (hr.mono (by decide)) (pa_cons (pv 0) (pa_cons (pv 1) pa_nil))))
      (pss_cons (ps_if (PW.pt (pw_or (pt_not (pt_val (pe_callD (ok_law_whole T) (hr.mono (by decide)) (pa_cons (pv 5) (pa_cons (pv 5) pa_nil))))) (pw_or (pt_not (pt_val (pe_callD (ok_law_whole T) (hr.mono (by decide)) (pa_cons (pv 6) (pa_cons (pv 6) pa_nil))))) (pw_or (pt_cmpR op_lt (pv 5) pe_int (nomark _)) (pw_or1 (pt_cmpR op_lt (pv 6) pe_int (nomark _))))))) (pss_one (ps_ret pe_bl)) pss_nil)
      (pss_cons (ps_if (PW.pt (pw_or (pt_cmpR op_ge (pv 5) (pe_op op_powL pe_int pe_int) (nomark _)) (pw_or (pt_cmpR op_ge (pv 6) (pe_op op_powL pe_int pe_int) (nomark _)) (pw_or1 (pt_cmpR (op_neD hr.units) (pe_callD (ok_law_rooms T) (hr.mono (by decide)) (pa_cons (pv 5) pa_nil)) (pe_callB (call_sortedS rfl) (by rfl) T.n_sorted bt_sorted (pa_cons (pe_callTy (call_setR rfl) (by rfl) T.n_set bt_set (pa_cons (pe_op op_cat (pv 2) (pe_lst (pa_cons (pv 1) pa_nil))) pa_nil)) pa_nil)) (nomark _)))))) (pss_one (ps_ret pe_bl)) pss_nil)
      (pss_one (ps_ret (pe_cmpR (op_eqD hr.units) (pe_callD (ok_law_rooms T) (hr.mono (by decide)) (pa_cons (pv 6) pa_nil)) (pe_lc ["_law_one"] ["_law_room"] [1] (.cons ⟨rfl, rfl, .inl rfl⟩ .nil) rfl (pi_list (pv 2)) (fun _ _ _ _ _ => (pg_name (i := 0) (show (["_law_one", "_law_room"] : List Str).Nodup by decide +kernel) rfl (by first | exact Or.inl rfl | exact Or.inr rfl))) (fun _ _ _ _ _ => (pif_one (pt_cmpR op_ne (pv 0) (pv 1) (nomark _)))) (fun _ _ _ _ _ => (pv 0)) rfl (by decide +kernel) (by decide +kernel) (by decide +kernel)) (nomark _))))))))))))), ?_⟩
    refine ⟨_, rfl, n, rfl, fun p1 H1 hp1 s1 k1 => ?_⟩
    refine ⟨_, rfl, n, rfl, hn, fun p2 H2 hp2 s2 k2 => ?_⟩
    have k1' := s2 _ _ k1
    refine ⟨_, rfl, _, _, _, _, _, rfl, .lst k2, rfl, rfl, _, rfl, iteF ?_⟩
    refine ⟨_, rfl, _, rfl, neD_refl (n := 1) (dn_nats (SqL.of k2)) (dn_nats (SqL.of k1')) pl_nats (by decide) ⟨_, rfl, iteF ?_⟩⟩
    refine ⟨_, rfl, n, rfl, hn, fun H3 s3 => ⟨_, rfl, _, _, rfl, .inl (SqL.of (s3 _ _ k1')), fun m em => ?_⟩⟩
    rw [List.length_map] at em
    subst em
    refine ⟨_, rfl, _, rfl, iteF ?_⟩
    have k3 := s3 _ _ k1'
    -- said
    refine ⟨_, rfl, _, rfl, n, r, rfl, ?_⟩
    refine ⟨_, rfl, _, _, _, _, _, rfl, .bl _, rfl, rfl, _, rfl, iteF ?_⟩
    refine ⟨_, rfl, _, rfl, _, rfl, p1, _, rfl, .inl (SqL.of k3), rfl, flat_nat _, rfl, ?_⟩
    have ein : inV (natV r) ((Bit.rooms n).map natV) = n.testBit r := by
      rw [inV_nat]
      by_cases q : n.testBit r = true
      · rw [q]; exact decide_eq_true (Bit.mem_rooms.mpr ⟨hr61, q⟩)
      · rw [Bool.not_eq_true] at q
        rw [q]
        refine decide_eq_false fun z => ?_
        have := (Bit.mem_rooms.mp z).2
        rw [q] at this
        cases this
    rw [if_neg (by decide), ein]
    refine ⟨_, rfl, iteNS rfl ?_⟩
    -- wide, small
    refine ⟨_, rfl, _, rfl, n, r, rfl, by omega, ?_⟩
    refine ⟨_, rfl, _, rfl, n, r, rfl, by omega, ?_⟩
    refine ⟨_, rfl, _, rfl, _, rfl, _, rfl, iteF ?_⟩
    refine ⟨_, rfl, _, rfl, _, rfl, _, rfl, iteF ?_⟩
    refine ⟨_, rfl, _, _, rfl, rfl, _, rfl, iteN (by omega) ?_⟩
    refine ⟨_, rfl, _, _, rfl, rfl, _, rfl, iteN (by omega) ?_⟩
    have hw : n ||| 2 ^ r < 2 ^ 61 := or_lt hn hr61
    have hsm : woR n r < 2 ^ 61 := Nat.lt_of_le_of_lt (woR_le n r) hn
    refine ⟨_, rfl, _, _, rfl, rfl, ⟨by decide, by decide, by decide⟩, fun c1 e1 => ⟨_, _, rfl, rfl, _, rfl, iteN ?_ ?_⟩⟩
    · rw [e1, pow61]; omega
    refine ⟨_, rfl, _, _, rfl, rfl, ⟨by decide, by decide, by decide⟩, fun c2 e2 => ⟨_, _, rfl, rfl, _, rfl, iteN ?_ ?_⟩⟩
    · rw [e2, pow61]; omega
    refine ⟨_, rfl, n ||| 2 ^ r, rfl, fun p4 H4 hp4 s4 k4 => ?_⟩
    have k41 := s4 _ _ k3
    refine ⟨_, rfl, _, rfl, (by show 1 ≤ sizeLine; decide), fun p5 hp5 => ?_⟩
    have s5 := same_upd (o := .lst [natV r]) hp5
    have hlen := rooms_len n
    have el : (Bit.rooms n).map natV ++ [natV r] = ((Bit.rooms n ++ [r]).map fun (r : Nat) => (r : Int)).map V.int := by
      rw [List.map_map, List.map_append]
      rfl
    refine ⟨p1, p5, _, _, rfl, rfl, s5 _ _ k41, upd_same, (by rw [List.length_map]; exact Nat.le_of_lt (small1000 (by show (Bit.rooms n).length + 1 ≤ 1000; omega))), fun p6 hp6 => ?_⟩
    have s6 := same_upd (o := .lst ((Bit.rooms n).map natV ++ [natV r])) hp6
    refine ⟨p6, (Bit.rooms n ++ [r]).map fun (r : Nat) => (r : Int), rfl, SqL.of (by rw [upd_same, el]), (by rw [List.length_map, List.length_append]; show (Bit.rooms n).length + 1 < 1000; omega), fun p7 hp7 => ?_⟩
    have hdl := dedI_le ((Bit.rooms n ++ [r]).map fun (r : Nat) => (r : Int)) []
    rw [List.length_map, List.length_append, List.length_nil, List.length_singleton] at hdl
    refine ⟨p7, _, rfl, upd_same, (by unfold dedI; omega), fun p8 ms hp8 hpm hso => ?_⟩
    have ems := sorted_rooms (or_bits hn hr61) (fun q hq => by
      rcases List.mem_append.mp hq with z | z
      · exact (Bit.mem_rooms.mp z).1
      · rw [List.mem_singleton] at z; omega) hpm hso
    subst ems
    generalize hH8 : upd (upd (upd (upd H4 p5 (.lst [natV r])) p6 (.lst ((Bit.rooms n).map natV ++ [natV r]))) p7 _) p8 _ = H8
    have S8 : Same H4 H8 := by
      rw [← hH8]
      exact ((s5.trans s6).trans (same_upd hp7)).trans (same_upd hp8)
    have k8 : H8 p8 = some (.lst ((Bit.rooms (n ||| 2 ^ r)).map natV)) := by
      rw [← hH8, upd_same, List.map_map]
      rfl
    refine neD_refl (n := 1) (dn_nats (SqL.of (S8 _ _ k4))) (dn_nats (SqL.of k8)) pl_nats (by decide) ⟨_, rfl, iteF ?_⟩
    -- return
    refine ⟨_, rfl, woR n r, rfl, fun p9 H9 hp9 s9 k9 => ?_⟩
    have k91 := s9 _ _ (S8 _ _ k41)
    refine ⟨_, rfl, p1, rfl, ⟨_, SqL.of k91⟩, fun D hD => ?_⟩
    refine comp_list (K := K) (a := p1) (xs := (Bit.rooms n).map natV) (fun j acc σ H' => Same H9 H' ∧ H' D = some (.lst acc) ∧ acc = (((Bit.rooms n).take j).filter (fun k => !decide (k = r))).map natV ∧ ∃ v, σ = [v, some (natV r)])
      ⟨same_upd hD, upd_same, rfl, none, rfl⟩ (fun j acc σ H' _ e => SqL.of (e.1 _ _ k91)) ?_ ?_
    · rintro j x acc σ H' hx ⟨s10, hD10, rfl, v, rfl⟩
      obtain ⟨b, hb, rfl⟩ := get_natV hx
      refine ⟨_, rfl, _, rfl, rfl, _, rfl, ?_⟩
      have er : (((Bit.rooms n).take (j + 1)).filter (fun k => !decide (k = r))).map natV = (((Bit.rooms n).take j).filter (fun k => !decide (k = r))).map natV ++ (if b = r then [] else [natV b]) := by
        rw [List.take_succ, hb, List.filter_append, List.map_append]
        by_cases q : b = r <;> simp [q]
      refine ite4 (fun h => ?_) (fun h => ?_)
      · have hbr : b ≠ r := fun z => h (by rw [z])
        refine ⟨_, rfl, hD10, ?_, s10.put hD, upd_same, ?_, _, rfl⟩
        · rw [List.length_map]
          refine small1000 ?_
          have h1 := List.length_filter_le (fun k => !decide (k = r)) ((Bit.rooms n).take j)
          rw [List.length_take] at h1
          omega
        · rw [er, if_neg hbr]
      · have hbr : b = r := by
          have h' : ((b : Int)) = (r : Int) := by injection h
          omega
        refine ⟨s10, hD10, ?_, _, rfl⟩
        rw [er, if_pos hbr, List.append_nil]
    · rintro acc σ H10 ⟨s10, hD10, rfl, v10, rfl⟩
      rw [List.length_map, List.take_length, ← woR_rooms] at hD10
      refine eqD_refl (n := 1) (dn_nats (SqL.of (s10 _ _ k9))) (dn_nats (SqL.of hD10)) pl_nats (by decide) (k H10 ?_)
      exact (((((s1.trans s2).trans s3).trans s4).trans S8).trans s9).trans s10

theorem ok_law {f : Addr} {fd : FuncData} (F : Fun K "law" "law" s_law f fd) (T : Txt K mg) : FnOk P w K mg base CX0 5 f fd ["_law_script"] (sp_law K) := by
  refine F.ok sc_law (fun vs H Q E h => ?_) (fun cdv A outer s H vs Q E hr h => ?_)
  · obtain ⟨a, ns, rfl, _⟩ := h
    rfl
  · obtain ⟨a, ns, rfl, hS, hlen, hbits, k⟩ := h
    refine ⟨_, (pss_cons (ps_set (i := 1) sc_law.nd rfl (by first | exact Or.inl rfl | exact Or.inr rfl) (pe_op op_cat (pe_lst (pa_cons pe_int (pa_cons pe_int pa_nil))) (pe_slice sl_list (pv 0) po_none (po_some pe_int))))
      (pss_cons (ps_set (i := 2) sc_law.nd rfl (by first | exact Or.inl rfl | exact Or.inr rfl) (pe_lst pa_nil))
      (pss_cons (ps_for PassesOwn.never rfl (pi_range1 rfl T.n_range (pa_cons (pe_callB call_lenL (by rfl) T.n_len bt_len (pa_cons (pv 1) pa_nil)) pa_nil)) (pg_name (i := 3) sc_law.nd rfl (by first | exact Or.inl rfl | exact Or.inr rfl)) (pss_cons (ps_set (i := 4) sc_law.nd rfl (by first | exact Or.inl rfl | exact Or.inr rfl) (pe_op op_modL (pe_ix ix_any (pv 1) (pv 3) (fun _ _ => rfl)) (pe_op op_powL pe_int pe_int)))
      (pss_cons (ps_set (i := 5) sc_law.nd rfl (by first | exact Or.inl rfl | exact Or.inr rfl) (pe_op op_modL (pe_op op_modL (pe_op op_mulL (pe_op op_addL (pe_op op_modL (pe_ix ix_any (pv 1) (pv 3) (fun _ _ => rfl)) pe_int) pe_int) (pe_op op_addL (pe_op op_mulL (pv 3) (pv 3)) pe_int)) pe_int) pe_int))
      (pss_cons (ps_if (pt_not (pt_val (pe_callD (ok_law_right T) (hr.mono (by decide)) (pa_cons (pv 4) (pa_cons (pv 5) pa_nil))))) (pss_one (ps_ret pe_bl)) pss_nil)
      (pss_one (ps_expr (pe_bm PySem.F.plainAttrs_list PySem.F.slot_list_append PySem.F.type_list_append mt_append (pv 2) (pa_cons (pe_ix ix_any (pe_lst (pa_cons (pv 5) (pa_cons (pe_op op_modL (pv 5) pe_int) pa_nil))) (pe_op op_modL (pv 3) pe_int) (fun _ _ => rfl)) pa_nil))))))))
      (pss_cons (ps_set (i := 6) sc_law.nd rfl (by first | exact Or.inl rfl | exact Or.inr rfl) (pe_callTy call_list_of (by rfl) T.n_list bt_list (pa_cons (pv 2) pa_nil)))
      (pss_cons (ps_set (i := 7) sc_law.nd rfl (by first | exact Or.inl rfl | exact Or.inr rfl) (pe_callD (ok_bits_of T) (hr.mono (by decide)) (pa_cons (pv 6) pa_nil)))
      (pss_cons (ps_if (PW.pt (pw_or (pt_not (pt_val (pe_callD (ok_law_whole T) (hr.mono (by decide)) (pa_cons (pv 7) (pa_cons (pv 7) pa_nil))))) (pw_or (pt_cmpR op_lt (pv 7) pe_int (nomark _)) (pw_or (pt_cmpR op_ge (pv 7) (pe_op op_powL pe_int pe_int) (nomark _)) (pw_or1 (pt_cmpR (op_neD hr.units) (pe_callD (ok_law_rooms T) (hr.mono (by decide)) (pa_cons (pv 7) pa_nil)) (pe_callB (call_sortedS rfl) (by rfl) T.n_sorted bt_sorted (pa_cons (pe_callTy (call_setR rfl) (by rfl) T.n_set bt_set (pa_cons (pv 2) pa_nil)) pa_nil)) (nomark _))))))) (pss_one (ps_ret pe_bl)) pss_nil)
      (pss_one (ps_ret (pe_and (pe_cmpR (op_eqD hr.units) (pv 6) (pv 2) (nomark _)) (pe_one (pe_callD (ok_law_whole T) (hr.mono (by decide)) (pa_cons (pe_callD (ok_bits_of T) (hr.mono (by decide)) (pa_cons (pe_lst pa_nil) pa_nil)) (pa_cons pe_int pa_nil))))))))))))), ?_⟩
    refine ⟨(by show 2 ≤ sizeLine; decide), fun p1 hp1 => ?_⟩
    have sa := same_upd (o := .lst [.int 0, .int 5]) hp1
    refine ⟨_, rfl, _, rfl, _, _, rfl, sa.seq hS, fun p2 hp2 => ?_⟩
    have sb := same_upd (o := .lst (cutV (ns.map V.int) none (some 40))) hp2
    have hcut := cutV_length (ns.map V.int) none (some 40)
    rw [List.length_map] at hcut
    have hcut2 : (cutV (ns.map V.int) none (some 40)).length ≤ 40 := by
      unfold cutV HT.sIx
      simp only [List.length_take]
      refine Nat.le_trans (Nat.min_le_left _ _) ?_
      refine Nat.le_trans (Nat.sub_le _ _) ?_
      split <;> omega
    have hints : ∀ x ∈ cutV (ns.map V.int) none (some 40), ∃ z : Int, x = V.int z := fun x hx => by
      have := List.mem_of_mem_drop (List.mem_of_mem_take hx)
      obtain ⟨z, _, rfl⟩ := List.mem_map.mp this
      exact ⟨z, rfl⟩
    generalize cutV (ns.map V.int) none (some 40) = cs at *
    refine ⟨p1, p2, _, _, rfl, rfl, sb _ _ upd_same, upd_same, (by show 2 + cs.length ≤ sizeLine; exact Nat.le_of_lt (small1000 (by omega))), fun p3 hp3 => ?_⟩
    -- rooms_here = []
    refine ⟨(by show 0 ≤ sizeLine; decide), fun p4 hp4 => ?_⟩
    refine ⟨_, rfl, _, _, rfl, .inl (SqL.of (same_upd hp4 _ _ upd_same)), fun m em => ⟨m, rfl, ?_, ?_, ?_⟩⟩
    · omega
    · rw [List.length_append] at em; simp only [List.length_cons, List.length_nil] at em; omega
    have hn3 := ne_of_none (H := upd (upd (upd H p1 (.lst [.int 0, .int 5])) p2 (.lst cs)) p3 (.lst ([.int 0, .int 5] ++ cs))) upd_same hp4
    generalize hH : upd (upd (upd H p1 (.lst [.int 0, .int 5])) p2 (.lst cs)) p3 (.lst ([.int 0, .int 5] ++ cs)) = H3 at *
    have k3 : H3 p3 = some (.lst ([.int 0, .int 5] ++ cs)) := by rw [← hH]; exact upd_same
    have all3 : ∀ x ∈ ([.int 0, .int 5] ++ cs : List V), ∃ z : Int, x = V.int z := fun x hx => by
      rcases List.mem_append.mp hx with q | q
      · rcases List.mem_cons.mp q with q | q
        · exact ⟨0, q⟩
        · exact ⟨5, by simpa using q⟩
      · exact hints x q
    have hl3 : ([.int 0, .int 5] ++ cs : List V).length ≤ 42 := by rw [List.length_append]; simp only [List.length_cons, List.length_nil]; omega
    generalize ([.int 0, .int 5] ++ cs : List V) = xs at *
    refine for_range (lo := 0) (n := m.toNat) (fun i σ H' => Same H3 H' ∧ ∃ (l : List Nat) (v1 v2 v3 v4 v5 : Option V), l.length = i ∧ (∀ r ∈ l, r < 61) ∧ H' p4 = some (.lst (l.map natV)) ∧ σ = [some (.ref a), some (.ref p3), some (.ref p4), v1, v2, v3, v4, v5]) ⟨same_upd hp4, [], none, none, none, none, none, rfl, nofun, upd_same, rfl⟩ ?_ ?_
    · rintro i σ H' hi ⟨s1, l, v1, v2, v3, v4, v5, hl, h61, hp, rfl⟩
      have hi2 : i < xs.length := by omega
      obtain ⟨z, ez⟩ := all3 xs[i] (List.getElem_mem hi2)
      have e1 : xs[i]? = some (V.int z) := by rw [List.getElem?_eq_getElem hi2, ez]
      refine ⟨_, rfl, _, rfl, _, _, _, _, rfl, rfl, .inl (SqL.of (s1 _ _ k3)), (by rw [Int.zero_add]; exact atI_nat e1), _, _, rfl, rfl, ⟨by decide, by decide, by decide⟩, fun c1 ec => ?_⟩
      rw [pow61] at ec
      subst ec
      refine ⟨_, _, rfl, rfl, by decide, fun nn nn0 nn1 _ => ?_⟩
      obtain ⟨n, rfl⟩ := Int.eq_ofNat_of_zero_le nn0
      refine ⟨_, rfl, _, rfl, _, _, _, _, rfl, rfl, .inl (SqL.of (s1 _ _ k3)), (by rw [Int.zero_add]; exact atI_nat e1), _, _, rfl, rfl, by decide, fun m1 m10 m11 _ => ⟨_, _, rfl, rfl, fun m2 em2 => ?_⟩⟩
      refine ⟨_, rfl, _, rfl, _, _, rfl, rfl, ⟨100, 100, bdS 100 (by omega) (by omega), bdS 100 (by omega) (by omega), by decide⟩, fun q1 eq1 => ⟨_, _, rfl, rfl, fun q2 eq2 => ?_⟩⟩
      have bq : Bd 200 q1 := eq1 ▸ ((bdS 100 (by omega) (by omega) : Bd 100 (0 + (i : Int))).mul (bdS 100 (by omega) (by omega) : Bd 100 (0 + (i : Int))))
      refine ⟨_, _, rfl, rfl, ⟨100, 300, bdS 100 (by omega) (by omega), eq2 ▸ (bq.add (bdS 200 (by decide) (by decide))).mono (by decide), by decide⟩, fun q3 eq3 => ⟨_, _, rfl, rfl, by decide, fun q4 q40 q41 _ => ⟨_, _, rfl, rfl, by decide, fun rr rr0 rr1 _ => ?_⟩⟩⟩
      obtain ⟨r, rfl⟩ := Int.eq_ofNat_of_zero_le rr0
      refine ⟨_, rfl, _, rfl, n, r, rfl, by omega, by omega, fun H5 s5 => ⟨_, rfl, iteF ?_⟩⟩
      have hp5 := s5 _ _ hp
      refine ⟨_, rfl, .inl ⟨rfl, _, SqL.of hp5⟩, _, rfl, _, rfl, _, _, rfl, rfl, by decide, fun tt t0 t1 et => ⟨(by show 2 ≤ sizeLine; decide), fun p5 hp5n => ⟨_, rfl, _, _, rfl, rfl, by decide, fun kk kk0 kk1 _ => ?_⟩⟩⟩
      obtain ⟨t, rfl⟩ := Int.eq_ofNat_of_zero_le t0
      have nep : p4 ≠ p5 := ne_of_none hp5 hp5n
      have fin : ∀ x : Nat, x < 61 → Same H3 (upd (upd H5 p5 (.lst [natV r, natV t])) p4 (.lst (l.map natV ++ [natV x]))) ∧ ∃ (l' : List Nat) (u1 u2 u3 u4 u5 : Option V), l'.length = i + 1 ∧ (∀ r ∈ l', r < 61) ∧ upd (upd H5 p5 (.lst [natV r, natV t])) p4 (.lst (l.map natV ++ [natV x])) p4 = some (.lst (l'.map natV)) ∧
          ([some (.ref a), some (.ref p3), some (.ref p4), some (.int (0 + (i : Int))), some (natV n), some (natV r), v4, v5] : List (Option V)) = [some (.ref a), some (.ref p3), some (.ref p4), u1, u2, u3, u4, u5] := fun x hx => by
        refine ⟨((s1.trans s5).trans (same_upd hp5n)).put hp4, l ++ [x], _, _, _, _, _, by rw [List.length_append, hl]; rfl, fun q hq => ?_, by rw [upd_same, List.map_append]; rfl, rfl⟩
        rcases List.mem_append.mp hq with z | z
        · exact h61 q z
        · rw [List.mem_singleton] at z; omega
      have hsz : (l.map natV).length < sizeLine := by rw [List.length_map]; exact small1000 (by omega)
      rcases (by omega : kk = 0 ∨ kk = 1) with rfl | rfl
      · exact ⟨_, _, _, _, rfl, rfl, .inl (SqL.of upd_same), atI_nat (j := 0) rfl, _, _, _, rfl, rfl, by rw [upd_ne nep]; exact hp5, hsz, fin r (by omega)⟩
      · exact ⟨_, _, _, _, rfl, rfl, .inl (SqL.of upd_same), atI_nat (j := 1) rfl, _, _, _, rfl, rfl, by rw [upd_ne nep]; exact hp5, hsz, fin t (by omega)⟩
    · rintro σ H' ⟨s1, l, v1, v2, v3, v4, v5, hl, h61, hp, rfl⟩
      have hl42 : l.length ≤ 42 := by omega
      refine ⟨_, rfl, p4, _, rfl, .inl (SqL.of hp), fun p5 hp5 => ?_⟩
      have s5 := same_upd (o := .lst (l.map natV)) hp5
      have hp' := s5 _ _ hp
      refine ⟨_, rfl, p5, l, rfl, SqL.of upd_same, fun r hr => by have := h61 r hr; omega, ?_⟩
      refine ⟨_, rfl, _, rfl, _, rfl, _, rfl, iteF ?_⟩
      refine ⟨_, rfl, _, _, rfl, rfl, _, rfl, iteN (by omega) ?_⟩
      have hsum := Bit.sumOf_lt h61
      refine ⟨_, rfl, _, _, rfl, rfl, ⟨by decide, by decide, by decide⟩, fun c1 e1 => ⟨_, _, rfl, rfl, _, rfl, iteN ?_ ?_⟩⟩
      · rw [e1, pow61]; omega
      refine ⟨_, rfl, Bit.sumOf l, rfl, fun p6 H6 hp6 s6 k6 => ?_⟩
      have el : l.map natV = (l.map fun (r : Nat) => (r : Int)).map V.int := by
        rw [List.map_map]
        rfl
      refine ⟨_, rfl, p4, l.map fun (r : Nat) => (r : Int), rfl, SqL.of (by rw [← el]; exact s6 _ _ hp'), (by rw [List.length_map]; omega), fun p7 hp7 => ?_⟩
      have hdl := dedI_le (l.map fun (r : Nat) => (r : Int)) []
      rw [List.length_map, List.length_nil] at hdl
      refine ⟨p7, _, rfl, upd_same, (by unfold dedI; omega), fun p8 ms hp8 hpm hso => ?_⟩
      have ems := sorted_rooms (Bit.bit_sumOf l) h61 hpm hso
      subst ems
      generalize hH8 : upd (upd H6 p7 _) p8 _ = H8
      have S8 : Same H6 H8 := by
        rw [← hH8]
        exact (same_upd hp7).trans (same_upd hp8)
      have k8 : H8 p8 = some (.lst ((Bit.rooms (Bit.sumOf l)).map natV)) := by
        rw [← hH8, upd_same, List.map_map]
        rfl
      refine neD_refl (n := 1) (dn_nats (SqL.of (S8 _ _ k6))) (dn_nats (SqL.of k8)) pl_nats (by decide) ⟨_, rfl, iteF ?_⟩
      refine ⟨_, rfl, _, rfl, eqD_refl (n := 1) (dn_nats (SqL.of (S8 _ _ (s6 _ _ upd_same)))) (dn_nats (SqL.of (S8 _ _ (s6 _ _ hp')))) pl_nats (by decide) ⟨_, rfl, iteT ?_⟩⟩
      exact ⟨sz0, fun p9 hp9 => ⟨p9, [], rfl, SqL.of upd_same, nofun, 0, rfl, k _⟩⟩

end
theorem walk {l : PySem.W.OpenLaw} {q : Program} {loose : List Str} {XP : (Str → Option Value) → Heap → Prop} {YP : World → Heap → Prop} {d : DefRec} {K : Params → PySem.W.Frag} (hn : l.most = some 63) (hdf : d.params.defaults = []) (hname : d.name = "law")
    (hY : ∀ (w : World) (h : Heap), YP w h → (K w.params).In h)
    (F : ∀ (w : World) (mg : Str → Option Value) (h : Heap), (K w.params).In h → h.Ns mainGlobals mg → Txt (K w.params) mg) :
    PySem.W.WalkO q loose XP YP l.row.toRowW d [] (fun f vs => PySem.call f vs) :=
  L2.walk_ofB (k := 5) (x := "_law_script") hn hdf ⟨rfl, by decide, by decide⟩ hY
    (fun w mg fa h KX G hmg => by
      have T := F w mg h KX G
      obtain ⟨f, fd, hm, Fd⟩ := id T.d_law
      rw [hname] at hmg
      have e := hmg.symm.trans hm
      cases e
      exact ⟨fd, Fd.binds1 (fun _ _ _ _ _ _ _ => rfl), fun base _ _ => ok_law Fd T⟩)
end K03
open PySem PySem.W PyProof.Rows
set_option maxRecDepth 100000 in
set_option maxHeartbeats 0 in
theorem PySem.Challenge.cw_stoke_k03_bits_holds : PySem.Challenge.rw_stoke_k03_bits.Holds := by
  w_on; o_law; k_head; (case hw => w_witness2)
  k_fill
  refine K03.walk (l := PySem.Challenge.rw_stoke_k03_bits) rfl rfl rfl (fun w h Y => PySem.W.kIn_of Y) ?F
  case F =>
    intro w mg h KX G
    refine' K03.txt_mk KX G ?a_has_room ?l_has_room ?co_has_room ?k_has_room ?a_with_room ?l_with_room ?co_with_room ?k_with_room ?a_without_room ?l_without_room ?co_without_room ?k_without_room ?a_how_many ?l_how_many ?co_how_many ?k_how_many ?a_members ?l_members ?co_members ?k_members ?a_bits_of ?l_bits_of ?co_bits_of ?k_bits_of ?a_law_rooms ?l_law_rooms ?co_law_rooms ?k_law_rooms ?a_law_whole ?l_law_whole ?co_law_whole ?k_law_whole ?a_law_right ?l_law_right ?co_law_right ?k_law_right ?a_law ?l_law ?co_law ?k_law ?z_abs ?z_bool ?z_int ?z_isinstance ?z_len ?z_list ?z_range ?z_set ?z_sorted
    (case a_has_room => k_is)
    (case l_has_room => k_is)
    (case co_has_room => k_is)
    (case k_has_room => k_is)
    (case a_with_room => k_is)
    (case l_with_room => k_is)
    (case co_with_room => k_is)
    (case k_with_room => k_is)
    (case a_without_room => k_is)
    (case l_without_room => k_is)
    (case co_without_room => k_is)
    (case k_without_room => k_is)
    (case a_how_many => k_is)
    (case l_how_many => k_is)
    (case co_how_many => k_is)
    (case k_how_many => k_is)
    (case a_members => k_is)
    (case l_members => k_is)
    (case co_members => k_is)
    (case k_members => k_is)
    (case a_bits_of => k_is)
    (case l_bits_of => k_is)
    (case co_bits_of => k_is)
    (case k_bits_of => k_is)
    (case a_law_rooms => k_is)
    (case l_law_rooms => k_is)
    (case co_law_rooms => k_is)
    (case k_law_rooms => k_is)
    (case a_law_whole => k_is)
    (case l_law_whole => k_is)
    (case co_law_whole => k_is)
    (case k_law_whole => k_is)
    (case a_law_right => k_is)
    (case l_law_right => k_is)
    (case co_law_right => k_is)
    (case k_law_right => k_is)
    (case a_law => k_is)
    (case l_law => k_is)
    (case co_law => k_is)
    (case k_law => k_is)
    (case z_abs => k_is)
    (case z_bool => k_is)
    (case z_int => k_is)
    (case z_isinstance => k_is)
    (case z_len => k_is)
    (case z_list => k_is)
    (case z_range => k_is)
    (case z_set => k_is)
    (case z_sorted => k_is)

