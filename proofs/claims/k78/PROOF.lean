import PyProof.Rows.All
import Wide.All
import OpenK.AllK
import Wide.FinOn
import Lean
import PyProof.EqAt
import PyProof.EqKinds
import PyProof.TupleCall
import PySem.Challenge.RW_stoke_k78_bits_written
set_option Elab.async false
set_option linter.all false
set_option maxRecDepth 100000
namespace L2
open PySem PySem.Spec PyProof.Rows

/-- a key: an int or a str -/
abbrev Key := Sum Int Str
def keyIs : Key → Value → Bool
  | .inl k, v => Value.isInt k v
  | .inr x, v => Value.isStrOf x v
def keyH (w : World) : Key → Int
  | .inl k => hashInt k
  | .inr x => hashStr w x
theorem keyIs_shape : ∀ {k : Key} {v : Value}, keyIs k v = true → (∃ i t, k = Sum.inl i ∧ v = Value.int i t) ∨ (∃ x t, k = Sum.inr x ∧ v = Value.str x t)
  | .inl i, v, h => by
    obtain ⟨t, e⟩ := Value.isInt_shape (k := i) (v := v) h
    exact .inl ⟨i, t, rfl, e⟩
  | .inr x, v, h => by
    obtain ⟨t, e⟩ := Value.isStrOf_shape (x := x) (v := v) h
    exact .inr ⟨x, t, rfl, e⟩
theorem key_ll (a b : Int) : decide ((Sum.inl a : Key) = Sum.inl b) = (a == b) := by
  by_cases e : a = b
  · subst e; simp
  · have h : ¬ (Sum.inl a : Key) = Sum.inl b := fun q => e (Sum.inl.inj q)
    rw [decide_eq_false h]
    exact (beq_eq_false_iff_ne.mpr e).symm
theorem key_rr (a b : Str) : decide ((Sum.inr a : Key) = Sum.inr b) = decide (a = b) := by
  by_cases e : a = b
  · subst e; simp
  · have h : ¬ (Sum.inr a : Key) = Sum.inr b := fun q => e (Sum.inr.inj q)
    rw [decide_eq_false h, decide_eq_false e]
theorem key_lr (a : Int) (b : Str) : decide ((Sum.inl a : Key) = Sum.inr b) = false := decide_eq_false (fun q => nomatch q)
theorem key_rl (a : Str) (b : Int) : decide ((Sum.inr a : Key) = Sum.inl b) = false := decide_eq_false (fun q => nomatch q)

def mixKind (prog : Program) (w : World) : PySem.KeyKind prog w Key where
  is := keyIs
  hash := keyH w
  inj := fun v a b ha hb => by
    rcases keyIs_shape ha with ⟨i, t, rfl, rfl⟩ | ⟨x, t, rfl, rfl⟩
    · rcases keyIs_shape hb with ⟨j, u, rfl, e⟩ | ⟨y, u, rfl, e⟩
      · injection e with e1 _; rw [e1]
      · exact nomatch e
    · rcases keyIs_shape hb with ⟨j, u, rfl, e⟩ | ⟨y, u, rfl, e⟩
      · exact nomatch e
      · injection e with e1 _; rw [e1]
  byValue := fun k v h => by
    rcases keyIs_shape h with ⟨i, t, rfl, rfl⟩ | ⟨x, t, rfl, rfl⟩ <;> rfl
  pyHash := fun hv h => by
    rcases keyIs_shape hv with ⟨i, t, rfl, rfl⟩ | ⟨x, t, rfl, rfl⟩
    · exact wpAny_pyHash_int h
    · exact wpAny_pyHash_str h
  eqBool := fun hu hv h => by
    rcases keyIs_shape hu with ⟨i, t, rfl, rfl⟩ | ⟨x, t, rfl, rfl⟩
    · rcases keyIs_shape hv with ⟨j, u, rfl, rfl⟩ | ⟨y, u, rfl, rfl⟩
      · rw [key_ll] at h; exact wpAny_eqBool_int h
      · rw [key_lr] at h; exact SeqAt.EqAt.int_str i t y u _ _ _ _ h
    · rcases keyIs_shape hv with ⟨j, u, rfl, rfl⟩ | ⟨y, u, rfl, rfl⟩
      · rw [key_rl] at h; exact SeqAt.EqAt.str_int x t j u _ _ _ _ h
      · rw [key_rr] at h; exact wpAny_eqBool_str h
  «strs» := fun k x t v h => by
    rcases keyIs_shape h with ⟨i, u, rfl, e⟩ | ⟨y, u, rfl, e⟩
    · exact nomatch e
    · injection e with e1 _
      subst e1
      cases v <;> rfl

end L2

namespace L2
open PySem PySem.Spec PyProof.Rows

/-- a value, without the heap -/
inductive V where
  | non | bl (b : Bool) | int (i : Int) | str (x : Str) | byt (b : Array UInt8) | flt (b : UInt64) | ref (a : Addr) | ty (n : String)
  deriving DecidableEq

def RelV : V → Value → Prop
  | .non, u => u = Value.none
  | .bl b, u => u = Value.bool b
  | .int i, u => ∃ t, u = Value.int i t
  | .str x, u => ∃ t, u = Value.str x t
  | .byt b, u => ∃ t, u = Value.bytes b t
  | .flt b, u => ∃ t, u = Value.float b t
  | .ref a, u => u = Value.ref a
  | .ty n, u => u = Value.type n

abbrev Vals : List V → List Value → Prop := Paired RelV
theorem Vals.length {xs : List V} {us : List Value} (r : Vals xs us) : xs.length = us.length := Paired.length r
theorem Vals.get : ∀ {xs : List V} {us : List Value} {i : Nat} {x : V}, Vals xs us → xs[i]? = some x → ∃ u, us[i]? = some u ∧ RelV x u
  | _, _, _, _, .nil, e => by simp at e
  | _, _, 0, _, .cons r _, e => by simp at e; subst e; exact ⟨_, rfl, r⟩
  | _, _, i + 1, x, .cons _ t, e => by
    obtain ⟨u, h1, h2⟩ := Vals.get (i := i) (x := x) t (by simpa using e)
    exact ⟨u, by simpa using h1, h2⟩
theorem Vals.set {x : V} {u : Value} (r : RelV x u) : ∀ {xs : List V} {us : List Value} (i : Nat), Vals xs us → Vals (xs.set i x) (us.set i u)
  | _, _, _, .nil => .nil
  | _, _, 0, .cons _ t => .cons r t
  | _, _, i + 1, .cons q t => .cons q (Vals.set r i t)
theorem Vals.append : ∀ {xs ys : List V} {us ws : List Value}, Vals xs us → Vals ys ws → Vals (xs ++ ys) (us ++ ws)
  | _, _, _, _, .nil, s => s
  | _, _, _, _, .cons r t, s => .cons r (Vals.append t s)
theorem Vals.take : ∀ {xs : List V} {us : List Value} (n : Nat), Vals xs us → Vals (xs.take n) (us.take n)
  | _, _, 0, _ => .nil
  | _, _, _ + 1, .nil => .nil
  | _, _, n + 1, .cons r t => .cons r (Vals.take n t)
theorem Vals.drop : ∀ {xs : List V} {us : List Value} (n : Nat), Vals xs us → Vals (xs.drop n) (us.drop n)
  | _, _, 0, r => r
  | _, _, _ + 1, .nil => .nil
  | _, _, n + 1, .cons _ t => Vals.drop n t
def RelO : Option V → Option Value → Prop
  | some v, some u => RelV v u
  | none, none => True
  | _, _ => False
def KV {κ : Type} : List (κ × V) → List (κ × Value) → Prop := Paired fun (p : κ × V) (q : κ × Value) => p.1 = q.1 ∧ RelV p.2 q.2

/-- a key of a dict (00_mix): an int or a text -/
def kV : Key → V
  | .inl i => .int i
  | .inr x => .str x

/-- what stands at a tracked address -/
inductive HO where
  /-- a list -/
  | lst (xs : List V)
  /-- a tuple (never changes) -/
  | tup (xs : List V)
  /-- a dict whose keys are ints and texts; one whose keys are tuples of ints and texts (the empty one is both) -/
  | dK (kvs : List (Key × V)) | dT (kvs : List (List Key × V))
  /-- a set of ints: its members, its size -/
  | set (S : Int → Bool) (n : Nat)
  /-- an instance of the class at C, its dict at dx, its attributes -/
  | ins (C dx : Addr) (fs : List (Str × V))
  /-- the dict of the instance at x -/
  | own (x : Addr)
  /-- the dict of an exception -/
  | xd (fs : List (Str × V))
  /-- a bound method, f of x -/
  | met (f x : Addr)
  /-- a range object lo, lo + 1, .. below hi -/
  | rng (lo hi : Int)
  /-- a thing that is known to the object (the script; a dict while a loop walks it): read, never written while it is so -/
  | frz (o : Obj) (u : HO)
  /-- a code object's table -/
  | tbl (ps : Array Value)
  /-- any other thing, by what is true of its one object (a def of one's own: SetO a S n := HO.ext fun h => ..) -/
  | ext (φ : Heap → Prop)

abbrev Hp := Addr → Option HO
def upd (H : Hp) (a : Addr) (o : HO) : Hp := fun b => if b = a then some o else H b
theorem upd_same {H : Hp} {a : Addr} {o : HO} : upd H a o a = some o := by unfold upd; rw [if_pos rfl]
theorem upd_ne {H : Hp} {a b : Addr} {o : HO} (h : b ≠ a) : upd H a o b = H b := by unfold upd; rw [if_neg h]
theorem upd_upd {H : Hp} {a : Addr} {o u : HO} : upd (upd H a o) a u = upd H a u := by
  funext b; unfold upd; split <;> rfl
theorem ne_of_none {H : Hp} {a b : Addr} {o : HO} (h : H a = some o) (h' : H b = none) : a ≠ b := by
  intro e; subst e; rw [h] at h'; cases h'

section
variable (P : Program) (w : World)
def ObjOk (H : Hp) (h : Heap) (a : Addr) : HO → Prop
  | .lst xs => xs.length ≤ sizeLine ∧ ∃ (its : List Value) (n : Nat), Vals xs its ∧ h.get? a = some { cls := .type "list", data := .seq its.toArray n }
  | .tup xs => xs.length ≤ sizeLine ∧ ∃ its : List Value, Vals xs its ∧ IsTup h a its.toArray
  | .dK kvs => kvs.length ≤ sizeLine ∧ (a == sysModules) = false ∧ ∃ vs, KV kvs vs ∧ h.DictOf (mixKind P w) a vs
  | .dT kvs => kvs.length ≤ sizeLine ∧ (a == sysModules) = false ∧ ∃ xs : List (List Key × Addr × Value),
      Paired (fun (p : List Key × V) (q : List Key × Addr × Value) => p.1 = q.1 ∧ H q.2.1 = some (.tup (p.1.map kV)) ∧ RelV p.2 q.2.2) kvs xs ∧
      ∃ o es ep, h.get? a = some o ∧ o.ExactDict ∧ o.data = .dict es ep ∧ es.toList = xs.map (entryOfKey (tupleKind (mixKind P w))) ∧ (xs.map (·.1)).Nodup
  | .set S n => h.SetOf (intKind P w) a S n
  | .ins C dx fs => H dx = some (.own a) ∧ fs.length ≤ 1000 ∧ dx ≠ a ∧ h.get? a = some (PySem.W.instObj C dx) ∧
      ∃ mA, h.Ns1 dx mA ∧ (∀ f, RelO (fs.lookup f) (mA f)) ∧ PySem.Within mA (fs.map (·.1))
  | .own _ => ∃ o, h.get? a = some o
  | .xd fs => ∃ mA, h.Ns1 a mA ∧ ∀ f, RelO (fs.lookup f) (mA f)
  | .rng lo hi => ∃ t u v, h.get? a = some { cls := .type "range", data := .fields #[.int lo t, .int hi u, .int 1 v] }
  | .frz o u => h.get? a = some o ∧ ObjOk H h a u
  | .tbl ps => h.get? a = some { cls := .none, data := .fields ps }
  | .met f x => h.get? a = some (PySem.W.methodObj (.ref f) (.ref x))
  | .ext φ => φ h ∧ (∃ o, h.get? a = some o) ∧ ∀ h1 h2 : Heap, φ h1 → (∀ o, h1.get? a = some o → h2.get? a = some o) → φ h2
/-- the abstract heap is held -/
def HOk (H : Hp) (h : Heap) : Prop := ∀ a o, H a = some o → ObjOk P w H h a o
end

section
variable {P : Program} {w : World} {H H' : Hp} {h h' : Heap} {a : Addr} {o : HO}
theorem ObjOk.lt (x : ObjOk P w H h a o) : a < h.objs.size := by
  cases o with
  | lst xs => obtain ⟨_, _, _, _, e⟩ := x; exact Heap.lt_size e
  | tup xs => obtain ⟨_, _, _, p⟩ := x; exact p.lt
  | dK kvs => obtain ⟨_, _, _, _, o, _, _, e, _⟩ := x; exact Heap.lt_size e
  | dT kvs => obtain ⟨_, _, _, _, o, _, _, e, _⟩ := x; exact Heap.lt_size e
  | set S n => obtain ⟨o, _, _, _, e, _⟩ := x; exact Heap.lt_size e
  | ins C dx fs => obtain ⟨_, _, _, e, _⟩ := x; exact Heap.lt_size e
  | own y => obtain ⟨_, e⟩ := x; exact Heap.lt_size e
  | xd fs => obtain ⟨_, ⟨_, _, _, e, _⟩, _⟩ := x; exact Heap.lt_size e
  | rng lo hi => obtain ⟨_, _, _, e⟩ := x; exact Heap.lt_size e
  | frz ob u => obtain ⟨e, _⟩ := x; exact Heap.lt_size e
  | tbl ps => exact Heap.lt_size (show h.get? a = some _ from x)
  | met f y => exact Heap.lt_size (show h.get? a = some _ from x)
  | ext φ => obtain ⟨_, ⟨_, e⟩, _⟩ := x; exact Heap.lt_size e
theorem Paired.mapP {α β : Type} {F G : α → β → Prop} : ∀ {l₁ : List α} {l₂ : List β}, Paired F l₁ l₂ → (∀ a b, F a b → G a b) → Paired G l₁ l₂
  | _, _, .nil, _ => .nil
  | _, _, .cons r t, f => .cons (f _ _ r) (Paired.mapP t f)
/-- what an object's description leans on: its own object, its own dict, the tuples -/
theorem ObjOk.stay (x : ObjOk P w H h a o) (k : ∀ b u, (b = a ∨ H b = some (.own a)) → h.get? b = some u → h'.get? b = some u)
    (ho : ∀ b, H b = some (.own a) → H' b = some (.own a)) (ht : ∀ b xs, H b = some (.tup xs) → H' b = some (.tup xs)) : ObjOk P w H' h' a o := by
  induction o with
  | lst xs => obtain ⟨z, its, n, r, e⟩ := x; exact ⟨z, its, n, r, k _ _ (.inl rfl) e⟩
  | tup xs => obtain ⟨z, its, r, ob, e, c⟩ := x; exact ⟨z, its, r, ob, k _ _ (.inl rfl) e, c⟩
  | dK kvs => obtain ⟨z, y, vs, r, ob, es, ep, e, c⟩ := x; exact ⟨z, y, vs, r, ob, es, ep, k _ _ (.inl rfl) e, c⟩
  | dT kvs =>
    obtain ⟨z, y, xs, r, ob, es, ep, e, c⟩ := x
    exact ⟨z, y, xs, Paired.mapP r fun p q z => ⟨z.1, ht _ _ z.2.1, z.2.2⟩, ob, es, ep, k _ _ (.inl rfl) e, c⟩
  | set S n => obtain ⟨ob, es, ep, t, e, c⟩ := x; exact ⟨ob, es, ep, t, k _ _ (.inl rfl) e, c⟩
  | ins C dx fs =>
    obtain ⟨d, z, ne, e, mA, ⟨od, es, ep, e2, c⟩, r⟩ := x
    exact ⟨ho _ d, z, ne, k _ _ (.inl rfl) e, mA, ⟨od, es, ep, k _ _ (.inr d) e2, c⟩, r⟩
  | own y => obtain ⟨ob, e⟩ := x; exact ⟨ob, k _ _ (.inl rfl) e⟩
  | xd fs => obtain ⟨mA, ⟨od, es, ep, e, c⟩, r⟩ := x; exact ⟨mA, ⟨od, es, ep, k _ _ (.inl rfl) e, c⟩, r⟩
  | rng lo hi => obtain ⟨t, u, v, e⟩ := x; exact ⟨t, u, v, k _ _ (.inl rfl) e⟩
  | frz ob u ih => obtain ⟨e, q⟩ := x; exact ⟨k _ _ (.inl rfl) e, ih q⟩
  | tbl ps =>
    have e : h.get? a = some { cls := .none, data := .fields ps } := x
    show h'.get? a = some { cls := .none, data := .fields ps }
    exact k a _ (.inl rfl) e
  | met f y =>
    have e : h.get? a = some (PySem.W.methodObj (.ref f) (.ref y)) := x
    show h'.get? a = some (PySem.W.methodObj (.ref f) (.ref y))
    exact k a _ (.inl rfl) e
  | ext φ => obtain ⟨p, ⟨o, e⟩, st⟩ := x; exact ⟨st _ _ p fun o q => k _ _ (.inl rfl) q, ⟨o, k _ _ (.inl rfl) e⟩, st⟩
theorem HOk.lt (x : HOk P w H h) (e : H a = some o) : a < h.objs.size := (x a o e).lt
theorem HOk.fresh (x : HOk P w H h) (e : h.objs.size ≤ a) : H a = none := by
  cases q : H a with
  | none => rfl
  | some u => exact absurd (Nat.lt_of_lt_of_le (x.lt q) e) (Nat.lt_irrefl _)
/-- every object of the heap is kept -/
theorem HOk.kept (x : HOk P w H h) (k : ∀ b u, h.get? b = some u → h'.get? b = some u) : HOk P w H h' := fun a o e =>
  (x a o e).stay (fun b u _ q => k b u q) (fun _ q => q) fun _ _ q => q
/-- a new object is laid and tracked -/
theorem HOk.laid (x : HOk P w H h) (k : ∀ b u, h.get? b = some u → h'.get? b = some u) (hp : h.objs.size ≤ a) (new : ObjOk P w (upd H a o) h' a o) : HOk P w (upd H a o) h' := fun b u e => by
  have hn := x.fresh hp
  by_cases hb : b = a
  · subst hb; rw [upd_same] at e; cases e; exact new
  · rw [upd_ne hb] at e
    exact (x b u e).stay (fun c v _ q => k c v q) (fun c q => by rw [upd_ne (ne_of_none q hn)]; exact q) fun c xs q => by rw [upd_ne (ne_of_none q hn)]; exact q
end

/-- what may be read as u: it is u, or a known u -/
def Rd (H : Hp) (a : Addr) (u : HO) : Prop := H a = some u ∨ ∃ o, H a = some (.frz o u)
theorem Rd.of {H : Hp} {a : Addr} {u : HO} (h : H a = some u) : Rd H a u := .inl h
theorem Rd.ok {P : Program} {w : World} {H : Hp} {h : Heap} {a : Addr} {u : HO} (r : Rd H a u) (x : HOk P w H h) : ObjOk P w H h a u := by
  rcases r with r | ⟨o, r⟩
  · exact x a u r
  · obtain ⟨_, q⟩ := x a _ r
    exact q
/-- what may be written -/
def Mut : Option HO → Prop
  | some (.lst _) => True
  | some (.dK _) => True
  | some (.dT _) => True
  | some (.set _ _) => True
  | some (.ins _ _ _) => True
  | some (.ext _) => True
  | _ => False
section
variable {P : Program} {w : World} {H : Hp} {h h' : Heap} {x e : Addr} {o' : HO}
/-- the object at e is changed: x itself, or the dict of the instance x -/
theorem HOk.write (ok : HOk P w H h) (mu : Mut (H x)) (he : e = x ∨ H e = some (.own x)) (k : ∀ b u, b ≠ e → h.get? b = some u → h'.get? b = some u) (heo : ∃ u, h'.get? e = some u)
    (new : ObjOk P w (upd H x o') h' x o') : HOk P w (upd H x o') h' := fun b u q => by
  have nown : ∀ c y, H c = some (.own y) → c ≠ x := fun c y r z => by subst z; rw [r] at mu; exact mu
  have ntup : ∀ c xs, H c = some (.tup xs) → c ≠ x := fun c xs r z => by subst z; rw [r] at mu; exact mu
  by_cases hb : b = x
  · subst hb; rw [upd_same] at q; cases q; exact new
  · rw [upd_ne hb] at q
    by_cases hbe : b = e
    · have q' : H b = some (.own x) := by
        rcases he with z | z
        · exact absurd (hbe.trans z) hb
        · rw [hbe]; exact z
      rw [q] at q'; cases q'
      obtain ⟨v, hv⟩ := heo
      exact ⟨v, by rw [hbe]; exact hv⟩
    · refine (ok b u q).stay (fun c v hc r => k c v ?_ r) (fun c r => by rw [upd_ne (nown c b r)]; exact r) fun c xs r => by rw [upd_ne (ntup c xs r)]; exact r
      rcases hc with rfl | hc
      · exact hbe
      · rintro rfl
        rcases he with z | z
        · exact nown c b hc z
        · rw [hc] at z; cases z; exact hb rfl
end

structure Un (fs ex : List Addr) (H H' : Hp) (h h' : Heap) : Prop where
  keep : ∀ b o, h.get? b = some o → H b = none → b ∉ fs → b ∉ ex → h'.get? b = some o
  slot : ∀ b o, h.get? b = some o → H b = none → b ∈ fs → b ∉ ex → ∃ sl, h'.get? b = some { o with slots := sl }
  free : ∀ b o, h.get? b = some o → H b = none → b ∉ ex → H' b = none
  there : ∀ b o, h.get? b = some o → b ∉ ex → ∃ o', h'.get? b = some o'
  tups : ∀ b xs, H b = some (.tup xs) → H' b = some (.tup xs)
  frzs : ∀ b o u, H b = some (.frz o u) → H' b = some (.frz o u)
  tbls : ∀ b ps, H b = some (.tbl ps) → ∃ more, H' b = some (.tbl (ps ++ more))
section
variable {fs fs' ex ex' : List Addr} {H H1 H2 : Hp} {h h1 h2 h' : Heap} {a x e : Addr} {o : HO}
theorem Un.any (u : Un fs ex H H1 h h1) {b : Addr} {ob : Obj} (q : h.get? b = some ob) (n : H b = none) (hx : b ∉ ex) : ∃ sl, h1.get? b = some { ob with slots := sl } := by
  by_cases hb : b ∈ fs
  · exact u.slot b ob q n hb hx
  · exact ⟨ob.slots, u.keep b ob q n hb hx⟩
theorem Un.trans (a : Un fs ex H H1 h h1) (b : Un fs ex H1 H2 h1 h2) : Un fs ex H H2 h h2 where
  keep := fun c ob q n hc hx => b.keep c ob (a.keep c ob q n hc hx) (a.free c ob q n hx) hc hx
  slot := fun c ob q n hc hx => by
    obtain ⟨sl, e1⟩ := a.slot c ob q n hc hx
    obtain ⟨sl', e2⟩ := b.slot c _ e1 (a.free c ob q n hx) hc hx
    exact ⟨sl', e2⟩
  free := fun c ob q n hx => by
    obtain ⟨o', e1⟩ := a.there c ob q hx
    exact b.free c o' e1 (a.free c ob q n hx) hx
  there := fun c ob q hx => by
    obtain ⟨o', e1⟩ := a.there c ob q hx
    exact b.there c o' e1 hx
  tups := fun c xs q => b.tups c xs (a.tups c xs q)
  frzs := fun c ob xs q => b.frzs c ob xs (a.frzs c ob xs q)
  tbls := fun c ps q => by
    obtain ⟨m1, e1⟩ := a.tbls c ps q
    obtain ⟨m2, e2⟩ := b.tbls c _ e1
    exact ⟨m1 ++ m2, by rw [e2, Array.append_assoc]⟩
theorem Un.kept (k : ∀ b u, h.get? b = some u → h'.get? b = some u) : Un fs ex H H h h' :=
  ⟨fun b ob q _ _ _ => k b ob q, fun b ob q _ _ _ => ⟨ob.slots, k b ob q⟩, fun _ _ _ n _ => n, fun b ob q _ => ⟨ob, k b ob q⟩, fun _ _ q => q, fun _ _ _ q => q, fun _ ps q => ⟨#[], by rw [q]; simp⟩⟩
theorem Un.refl : Un fs ex H H h h := Un.kept fun _ _ q => q
theorem Un.laid (k : ∀ b u, h.get? b = some u → h'.get? b = some u) (hp : h.objs.size ≤ a) (hn : H a = none) : Un fs ex H (upd H a o) h h' where
  keep := fun b u q _ _ _ => k b u q
  slot := fun b u q _ _ _ => ⟨u.slots, k b u q⟩
  free := fun b u q n _ => by rw [upd_ne (Nat.ne_of_lt (Nat.lt_of_lt_of_le (Heap.lt_size q) hp))]; exact n
  there := fun b u q _ => ⟨u, k b u q⟩
  tups := fun b xs q => by rw [upd_ne (ne_of_none q hn)]; exact q
  frzs := fun b u xs q => by rw [upd_ne (ne_of_none q hn)]; exact q
  tbls := fun b ps q => ⟨#[], by rw [upd_ne (ne_of_none q hn), q]; simp⟩
theorem Un.write (mu : Mut (H x)) (he : e = x ∨ H e = some (.own x)) (k : ∀ b u, b ≠ e → h.get? b = some u → h'.get? b = some u) (heo : ∃ u, h'.get? e = some u) : Un fs ex H (upd H x o) h h' := by
  have hx : ∀ b, H b = none → b ≠ x := fun b n z => by subst z; rw [n] at mu; exact mu
  have hb : ∀ b, H b = none → b ≠ e := fun b n z => by
    subst z
    rcases he with r | r
    · exact hx b n r
    · rw [n] at r; cases r
  have hm : ∀ b u, H b = some u → ¬ Mut (some u) → b ≠ x := fun b u q nm z => by subst z; rw [q] at mu; exact nm mu
  refine ⟨fun b u q n _ _ => k b u (hb b n) q, fun b u q n _ _ => ⟨u.slots, k b u (hb b n) q⟩, fun b u q n _ => by rw [upd_ne (hx b n)]; exact n, fun b u q _ => ?_,
    fun b xs q => by rw [upd_ne (hm b _ q fun z => z)]; exact q, fun b u xs q => by rw [upd_ne (hm b _ q fun z => z)]; exact q, fun b ps q => ⟨#[], by rw [upd_ne (hm b _ q fun z => z), q]; simp⟩⟩
  by_cases hbe : b = e
  · subst hbe; exact heo
  · exact ⟨u, k b u hbe q⟩
theorem Un.mono (u : Un fs ex H H1 h h1) (hs : ∀ b ∈ fs, b ∈ fs') (hx : ∀ b ∈ ex, b ∈ ex') : Un fs' ex' H H1 h h1 :=
  ⟨fun b ob q n hb he => u.keep b ob q n (fun z => hb (hs b z)) fun z => he (hx b z), fun _ _ q n _ he => u.any q n fun z => he (hx _ z), fun b ob q n he => u.free b ob q n fun z => he (hx b z), fun b ob q he => u.there b ob q fun z => he (hx b z), u.tups, u.frzs, u.tbls⟩
end

def trk (h : Heap) (H : Hp) : List Addr := (List.range h.objs.size).filter fun a => (H a).isSome
def hidT (h : Heap) (H : Hp) : Heap := PySem.W.hideAll h (trk h H)
theorem hidT_size (h : Heap) (H : Hp) : (hidT h H).objs.size = h.objs.size := PySem.W.hideAll_size _ _
theorem hidT_get {h : Heap} {H : Hp} {b : Addr} {o : Obj} (e : h.get? b = some o) (n : H b = none) : (hidT h H).get? b = some o :=
  PySem.W.hideAll_get _ e fun hm => by
    have q : (H b).isSome = true := (List.mem_filter.mp hm).2
    rw [n] at q; simp at q
theorem of_hidT {h : Heap} {H : Hp} {b : Addr} {o : Obj} (e : (hidT h H).get? b = some o) : h.get? b = some o ∧ H b = none := by
  have e' : h.get? b = some o := PySem.W.of_hideAll (trk h H) e
  refine ⟨e', ?_⟩
  cases q : H b with
  | none => rfl
  | some x =>
    have hm : b ∈ trk h H := List.mem_filter.mpr ⟨List.mem_range.mpr (Heap.lt_size e'), by simp [q]⟩
    have z : (hidT h H).get? b = none := PySem.W.hideAll_none (trk h H) hm
    rw [z] at e; cases e

def allNews (g h : Heap) (L : Addr) : List (Addr × Obj) := (List.range h.objs.size).filterMap fun a => if a = L ∨ (g.get? a).isSome = true then none else (h.get? a).map fun o => (a, o)
def rest (g h : Heap) (L d : Addr) : List (Addr × Obj) := (allNews g h L).filter fun p => decide (p.1 ≠ d)
end L2

namespace L2
open PySem PySem.Spec PyProof.Rows

/-- the module's facts, over the base: the heap at the law's entry without what is tracked there -/
structure Mod (K : PySem.W.Frag) (mg : Str → Option Value) (base : Heap) : Prop where
  kin : K.In base
  glob : base.Ns mainGlobals mg
  blt : ∃ mb, base.Ns builtinsNs mb ∧ ∀ x : Str, x ≠ "__name__" → mb x = bootBuiltins x
  nolimit : base.NoLimit

/-- the context: a def's body (or a comprehension's block) running. base: fixed through the whole law; s₀, H₀: the entry; outer: the frames whose slots others may change (a def's callers); stack: all frames that run;
   ex: iterators that were made ahead of the entry and are walked here (a comprehension's); fn: the names whose cells were made at the entry (a def: all; a comprehension's block: its own); calm: not within an except suite; pn: pins that every state bears; xe: what is wanted of an exception that leaves the code -/
structure Cx where
  prog : Program
  w : World
  K : PySem.W.Frag
  mg : Str → Option Value
  base : Heap
  A : Around
  N : List Str
  s₀ : Shared
  H₀ : Hp
  env : Env
  outer : List Env
  stack : List Env
  ex : List Addr
  fn : Str → Bool
  calm : Bool
  pn : List (Addr × Obj)
  xe : Value → Shared → Prop
/-- the callers' frames -/
def frs (l : List Env) : List Addr := l.filterMap (·.frame)
abbrev Cx.fs (X : Cx) : List Addr := frs X.outer

def Vis (sc : Scope) (x : Str) : Prop := sc.names.lookup x = some .local ∨ sc.names.lookup x = some .cell ∨ sc.names.lookup x = some .free
def Loc (sc : Scope) (x : Str) : Prop := sc.names.lookup x = some .local ∨ sc.names.lookup x = some .cell
def Look (env : Env) (h : Heap) (m : Str → Option Value) (x : Str) (u : Value) : Prop :=
  (env.kindOf x = some .local ∧ m x = some u) ∨ ((env.kindOf x = some .cell ∨ env.kindOf x = some .free) ∧ ∃ c, env.cells.lookup x = some c ∧ h.IsCell c (some u))

structure Cx.Ok (X : Cx) : Prop where
  mod : Mod X.K X.mg X.base
  kind : X.env.scope.kind = .function
  glob : X.env.globals = mainGlobals
  blt : X.env.builtins = builtinsNs
  above : X.s₀.heap.objs.size ≤ X.env.locals
  inj : ∀ x y c, X.env.cells.lookup x = some c → X.env.cells.lookup y = some c → x = y
  has : ∀ x, (X.env.kindOf x = some .cell ∨ X.env.kindOf x = some .free) → ∃ c, X.env.cells.lookup x = some c
  cab : ∀ x c, X.fn x = true → X.env.cells.lookup x = some c → X.s₀.heap.objs.size ≤ c
  hd : X.calm = true → X.A.handled = none
  frames : X.A.frames = some X.stack
  stk : X.stack = X.outer ∨ (X.stack = X.env :: X.outer ∧ X.env.frame = some X.env.locals)
  exf : ∀ b ∈ X.ex, b ≠ X.env.locals ∧ ∀ x c, X.env.cells.lookup x = some c → c ≠ b
  bs : ∀ b o, X.base.get? b = some o → X.s₀.heap.get? b = some o ∧ X.H₀ b = none
  bsz : X.base.objs.size ≤ X.s₀.heap.objs.size
  noex : ∀ b o, X.base.get? b = some o → b ∉ X.ex
  exfs : ∀ b ∈ X.ex, b ∉ X.fs
  funs : X.s₀.heap.FunFrames X.base X.outer
  frf : ∀ b ∈ X.fs, X.H₀ b = none

structure Inv (X : Cx) (pins : List (Addr × Obj)) (σ : List (Option V)) (H : Hp) (s : Shared) : Prop where
  ok : X.Ok
  os : s.os = X.s₀.os
  bare : AllBare s.gens
  base : Un X.fs X.ex X.H₀ H X.s₀.heap s.heap
  loc : ∃ m, s.heap.Ns X.env.locals m ∧ ∀ (i : Nat) (x : Str) (v : V), X.N[i]? = some x → σ[i]? = some (some v) → Vis X.env.scope x → ∃ u, RelV v u ∧ Look X.env s.heap m x u
  cell : ∀ x c, X.env.cells.lookup x = some c → ∃ v, s.heap.IsCell c v
  free : H X.env.locals = none
  freeC : ∀ x c, X.env.cells.lookup x = some c → H c = none
  pin : ∀ p ∈ X.pn ++ pins, s.heap.get? p.1 = some p.2 ∧ H p.1 = none ∧ p.1 ≠ X.env.locals ∧ p.1 ∉ X.fs ∧ ∀ v, p.2.data ≠ .cell v
  hok : HOk X.prog X.w H s.heap
  len : σ.length = X.N.length

section
variable {X : Cx} {pins : List (Addr × Obj)} {σ : List (Option V)} {H H' : Hp} {s : Shared} {h' : Heap}

theorem Cx.Ok.nofr (ok : X.Ok) {b : Addr} {o : Obj} (e : X.base.get? b = some o) : b ∉ X.fs := fun hb => by
  have := (ok.funs.mem hb).1
  rw [e] at this; cases this
theorem Inv.bs (I : Inv X pins σ H s) : ∀ b o, X.base.get? b = some o → s.heap.get? b = some o ∧ H b = none := fun b o e =>
  ⟨I.base.keep b o (I.ok.bs b o e).1 (I.ok.bs b o e).2 (I.ok.nofr e) (I.ok.noex b o e), I.base.free b o (I.ok.bs b o e).1 (I.ok.bs b o e).2 (I.ok.noex b o e)⟩
theorem Inv.bk (I : Inv X pins σ H s) : ∀ b o, X.base.get? b = some o → s.heap.get? b = some o := fun b o e => (I.bs b o e).1
theorem Inv.mod (I : Inv X pins σ H s) : Mod X.K X.mg X.base := I.ok.mod
theorem Inv.kIn (I : Inv X pins σ H s) : X.K.In s.heap := I.ok.mod.kin.keeps I.bk
theorem Inv.nolimit (I : Inv X pins σ H s) : s.heap.NoLimit := I.ok.mod.nolimit.keeps I.bk
/-- the frame over the base: for OpenK's rules (K.In X.base is I.mod.kin) -/
theorem Inv.fr (I : Inv X pins σ H s) : ∃ m, Fr X.base X.env.locals s.heap m :=
  let ⟨m, hn, _⟩ := I.loc
  ⟨m, hn, I.bk, Nat.le_trans I.ok.bsz I.ok.above⟩
theorem Inv.lt (I : Inv X pins σ H s) : X.env.locals < s.heap.objs.size := let ⟨_, hn, _⟩ := I.loc; hn.lt
theorem Inv.sz (I : Inv X pins σ H s) : X.s₀.heap.objs.size ≤ s.heap.objs.size := Nat.le_trans I.ok.above (Nat.le_of_lt I.lt)
theorem Inv.nofs (I : Inv X pins σ H s) {a : Addr} (h : s.heap.objs.size ≤ a) : a ∉ X.fs := fun hb => by
  obtain ⟨_, o, ho, _⟩ := I.ok.funs.mem hb
  exact absurd (Nat.lt_of_lt_of_le (Heap.lt_size ho) (Nat.le_trans I.sz h)) (Nat.lt_irrefl _)
theorem Inv.cne (I : Inv X pins σ H s) : ∀ x c, X.env.cells.lookup x = some c → c ≠ X.env.locals := fun x c e z => by
  obtain ⟨v, o, ho, hd⟩ := I.cell x c e
  obtain ⟨m, ⟨o', es, ep, ho', hd', _⟩, _⟩ := I.loc
  rw [z, ho'] at ho; cases ho; rw [hd'] at hd; cases hd
theorem Inv.funs (I : Inv X pins σ H s) : s.heap.FunFrames X.base X.outer := by
  have all : ∀ (l : List Env), (∀ b ∈ frs l, b ∈ X.fs) → X.s₀.heap.FunFrames X.base l → s.heap.FunFrames X.base l := by
    intro l
    induction l with
    | nil => intro _ _; trivial
    | cons env r ih =>
      intro hs hl
      obtain ⟨hk, ⟨L, o, hf, hn, ho, hd⟩, hr⟩ := hl
      have hL : L ∈ X.fs := hs L (by unfold frs; rw [List.filterMap_cons, hf]; exact List.mem_cons_self)
      obtain ⟨sl, e⟩ := I.base.slot L o ho (I.ok.frf L hL) hL fun z => I.ok.exfs L z hL
      exact ⟨hk, ⟨L, _, hf, hn, e, hd⟩, ih (fun b hb => hs b (by unfold frs; rw [List.filterMap_cons, hf]; exact List.mem_cons_of_mem _ hb)) hr⟩
  exact all X.outer (fun _ hb => hb) I.ok.funs

/-- the frames that run, for a call -/
theorem Inv.stack (I : Inv X pins σ H s) : s.heap.FunFrames X.base X.stack := by
  rcases I.ok.stk with e | ⟨e, hf⟩
  · rw [e]; exact I.funs
  · rw [e]
    obtain ⟨m, hn, _⟩ := I.loc
    refine .cons (by rw [I.ok.kind]; decide) hf hn ?_ I.funs
    exact Heap.get?_none_of_le (Nat.le_trans I.ok.bsz I.ok.above)
theorem Inv.stkSub (I : Inv X pins σ H s) : ∀ b ∈ frs X.stack, b ∈ X.env.locals :: X.fs := fun b hb => by
  rcases I.ok.stk with e | ⟨e, hf⟩
  · rw [e] at hb; exact List.mem_cons_of_mem _ hb
  · rw [e] at hb
    unfold frs at hb
    rw [List.filterMap_cons, hf] at hb
    exact hb
theorem Inv.stkFree (I : Inv X pins σ H s) : ∀ b ∈ frs X.stack, H b = none := fun b hb => by
  rcases List.mem_cons.mp (I.stkSub b hb) with e | hb
  · rw [e]; exact I.free
  · obtain ⟨_, o, ho, _⟩ := I.ok.funs.mem hb
    exact I.base.free b o ho (I.ok.frf b hb) fun z => I.ok.exfs b z hb

/-- THE STEP: the untracked objects but the frame and the records at ch are kept (the callers' frames up to slots), the frame's map is kept, the new abstract heap is held -/
theorem Inv.step {g' : Array GenState} {t' : Nat} {d' : Drawn} {ch : List Addr} (I : Inv X pins σ H s)
    (hch : ∀ b ∈ ch, (b ∈ X.ex ∨ X.s₀.heap.objs.size ≤ b) ∧ b ≠ X.env.locals ∧ (∀ x c, X.env.cells.lookup x = some c → c ≠ b) ∧ ∀ p ∈ X.pn ++ pins, p.1 ≠ b)
    (keep : ∀ b o, b ≠ X.env.locals → b ∉ X.fs → b ∉ ch → s.heap.get? b = some o → H b = none → h'.get? b = some o)
    (slot : ∀ b o, b ≠ X.env.locals → b ∈ X.fs → b ∉ ch → s.heap.get? b = some o → H b = none → ∃ sl, h'.get? b = some { o with slots := sl }) (free : ∀ b o, b ∉ ch → s.heap.get? b = some o → H b = none → H' b = none)
    (there : ∀ b o, b ∉ ch → s.heap.get? b = some o → ∃ o', h'.get? b = some o')
    (tups : ∀ b xs, H b = some (.tup xs) → H' b = some (.tup xs)) (frzs : ∀ b o u, H b = some (.frz o u) → H' b = some (.frz o u)) (tbls : ∀ b ps, H b = some (.tbl ps) → ∃ more, H' b = some (.tbl (ps ++ more)))
    (ns : ∀ m, s.heap.Ns X.env.locals m → h'.Ns X.env.locals m) (hok : HOk X.prog X.w H' h') (hg : AllBare g') :
    Inv X pins σ H' { s with heap := h', gens := g', drawn := d', toks := t' } := by
  have neL : ∀ b o, X.s₀.heap.get? b = some o → b ≠ X.env.locals := fun b o e => Nat.ne_of_lt (Nat.lt_of_lt_of_le (Heap.lt_size e) I.ok.above)
  have neC : ∀ b o, X.s₀.heap.get? b = some o → b ∉ X.ex → b ∉ ch := fun b o e hx hb => by
    rcases (hch b hb).1 with z | z
    · exact hx z
    · exact absurd (Nat.lt_of_lt_of_le (Heap.lt_size e) z) (Nat.lt_irrefl _)
  have cellK : ∀ x c, X.env.cells.lookup x = some c → ∀ v, s.heap.IsCell c v → h'.IsCell c v := fun x c e v ⟨o, ho, hd⟩ => by
    have nch : c ∉ ch := fun z => (hch c z).2.2.1 x c e rfl
    by_cases hc : c ∈ X.fs
    · obtain ⟨sl, q⟩ := slot c o (I.cne x c e) hc nch ho (I.freeC x c e)
      exact ⟨_, q, hd⟩
    · exact ⟨o, keep c o (I.cne x c e) hc nch ho (I.freeC x c e), hd⟩
  refine ⟨I.ok, I.os, hg, ⟨fun b o e n hb hx => ?_, fun b o e n hb hx => ?_, fun b o e n hx => ?_, fun b o e hx => ?_, fun b xs e => tups b xs (I.base.tups b xs e), fun b o xs e => frzs b o xs (I.base.frzs b o xs e), fun b ps e => ?_⟩, ?_, fun x c e => ?_, ?_, fun x c e => ?_, fun p hp => ?_, hok, I.len⟩
  · exact keep b o (neL b o e) hb (neC b o e hx) (I.base.keep b o e n hb hx) (I.base.free b o e n hx)
  · obtain ⟨sl, e1⟩ := I.base.slot b o e n hb hx
    obtain ⟨sl', e2⟩ := slot b _ (neL b o e) hb (neC b o e hx) e1 (I.base.free b o e n hx)
    exact ⟨sl', e2⟩
  · obtain ⟨o', e1⟩ := I.base.there b o e hx
    exact free b o' (neC b o e hx) e1 (I.base.free b o e n hx)
  · obtain ⟨o', e1⟩ := I.base.there b o e hx
    exact there b o' (neC b o e hx) e1
  · obtain ⟨m1, e1⟩ := I.base.tbls b ps e
    obtain ⟨m2, e2⟩ := tbls b _ e1
    exact ⟨m1 ++ m2, by rw [e2, Array.append_assoc]⟩
  · obtain ⟨m, hn, hl⟩ := I.loc
    refine ⟨m, ns m hn, fun i x v e1 e2 e3 => ?_⟩
    obtain ⟨u, r, l⟩ := hl i x v e1 e2 e3
    refine ⟨u, r, ?_⟩
    rcases l with l | ⟨k, c, e, z⟩
    · exact .inl l
    · exact .inr ⟨k, c, e, cellK x c e _ z⟩
  · obtain ⟨v, z⟩ := I.cell x c e
    exact ⟨v, cellK x c e v z⟩
  · obtain ⟨m, ⟨o, _, _, ho, _⟩, _⟩ := I.loc
    exact free _ o (fun z => (hch _ z).2.1 rfl) ho I.free
  · obtain ⟨v, o, ho, hd⟩ := I.cell x c e
    exact free c o (fun z => (hch c z).2.2.1 x c e rfl) ho (I.freeC x c e)
  · obtain ⟨e, n, ne, nf, d⟩ := I.pin p hp
    have nch : p.1 ∉ ch := fun z => (hch p.1 z).2.2.2 p hp rfl
    exact ⟨keep p.1 p.2 ne nf nch e n, free p.1 p.2 nch e n, ne, nf, d⟩
/-- .. where the frame's own object is kept too -/
theorem Inv.un {t' : Nat} (I : Inv X pins σ H s) (u : Un X.fs [] H H' s.heap h') (hok : HOk X.prog X.w H' h') : Inv X pins σ H' { s with heap := h', toks := t' } := by
  obtain ⟨m, ⟨o, es, ep, ho, r⟩, _⟩ := id I.loc
  obtain ⟨sl, hL⟩ := u.any ho I.free (by simp)
  exact I.step (g' := s.gens) (d' := s.drawn) (ch := []) (fun _ z => nomatch z) (fun b o _ hb _ e n => u.keep b o e n hb (by simp)) (fun b o _ hb _ e n => u.slot b o e n hb (by simp)) (fun b o _ e n => u.free b o e n (by simp)) (fun b o _ e => u.there b o e (by simp)) u.tups u.frzs u.tbls (fun m' hm => by
    obtain ⟨o', es', ep', ho', r'⟩ := hm
    rw [ho] at ho'; cases ho'
    exact ⟨_, es', ep', hL, r'⟩) hok I.bare
/-- behind a call (or a comprehension's block): the slots of this frame may have changed too, the records at ch may have turned -/
theorem Inv.call {g' : Array GenState} {t' : Nat} {d' : Drawn} {ch : List Addr} (I : Inv X pins σ H s) (u : Un (frs X.stack) ch H H' s.heap h') (hok : HOk X.prog X.w H' h') (hg : AllBare g')
    (hch : ∀ b ∈ ch, (b ∈ X.ex ∨ X.s₀.heap.objs.size ≤ b) ∧ b ≠ X.env.locals ∧ (∀ x c, X.env.cells.lookup x = some c → c ≠ b) ∧ ∀ p ∈ X.pn ++ pins, p.1 ≠ b) :
    Inv X pins σ H' { s with heap := h', gens := g', drawn := d', toks := t' } := by
  obtain ⟨m, ⟨o, es, ep, ho, r⟩, _⟩ := id I.loc
  obtain ⟨sl, hL⟩ := u.any ho I.free fun z => (hch _ z).2.1 rfl
  exact I.step (ch := ch) hch (fun b o hL hb hc e n => u.keep b o e n (fun z => (List.mem_cons.mp (I.stkSub b z)).elim hL hb) hc) (fun b o _ _ hc e n => u.any e n hc) (fun b o hc e n => u.free b o e n hc) (fun b o hc e => u.there b o e hc) u.tups u.frzs u.tbls (fun m' hm => by
    obtain ⟨o', es', ep', ho', r'⟩ := hm
    rw [ho] at ho'; cases ho'
    exact ⟨_, es', ep', hL, r'⟩) hok hg
/-- an untracked record of ours (an iterator) has turned -/
theorem Inv.turned {t' : Nat} {it : Addr} (I : Inv X pins σ H s) (k : ∀ b o, b ≠ it → s.heap.get? b = some o → h'.get? b = some o) (hn : H it = none) (hL : it ≠ X.env.locals)
    (h1 : it ∈ X.ex ∨ X.s₀.heap.objs.size ≤ it) (h2 : ∀ x c, X.env.cells.lookup x = some c → c ≠ it) (h3 : ∀ p ∈ X.pn ++ pins, p.1 ≠ it) : Inv X pins σ H { s with heap := h', toks := t' } := by
  have nit : ∀ b u, H b = some u → b ≠ it := fun b u e z => by rw [z, hn] at e; cases e
  refine I.step (g' := s.gens) (d' := s.drawn) (ch := [it]) (fun b hb => ?_) (fun b o _ _ hc e _ => k b o (fun z => hc (by simp [z])) e) (fun b o _ _ hc e _ => ⟨o.slots, k b o (fun z => hc (by simp [z])) e⟩) (fun _ _ _ _ n => n)
    (fun b o hc e => ⟨o, k b o (fun z => hc (by simp [z])) e⟩) (fun _ _ e => e) (fun _ _ _ e => e) (fun b ps e => ⟨#[], by rw [e]; simp⟩) (fun m hm => ?_) (fun b u e => ?_) I.bare
  · have e : b = it := by simpa using hb
    subst e
    exact ⟨h1, hL, h2, h3⟩
  · obtain ⟨o, es, ep, ho, r⟩ := hm
    exact ⟨o, es, ep, k _ o (Ne.symm hL) ho, r⟩
  · refine (I.hok b u e).stay (fun c v hc q => k c v ?_ q) (fun _ q => q) fun _ _ q => q
    rcases hc with z | z
    · rw [z]; exact nit b u e
    · exact nit c _ z
theorem Inv.tok (I : Inv X pins σ H s) (t : Nat) : Inv X pins σ H { s with toks := t } := I.un (h' := s.heap) (t' := t) Un.refl I.hok
/-- all objects kept -/
theorem Inv.kept {t' : Nat} (I : Inv X pins σ H s) (k : ∀ b u, s.heap.get? b = some u → h'.get? b = some u) : Inv X pins σ H { s with heap := h', toks := t' } := I.un (Un.kept k) (I.hok.kept k)
/-- a new object laid and tracked -/
theorem Inv.laid {a : Addr} {o : HO} {t' : Nat} (I : Inv X pins σ H s) (k : ∀ b u, s.heap.get? b = some u → h'.get? b = some u) (hp : s.heap.objs.size ≤ a) (new : ObjOk X.prog X.w (upd H a o) h' a o) :
    Inv X pins σ (upd H a o) { s with heap := h', toks := t' } := I.un (Un.laid k hp (I.hok.fresh hp)) (I.hok.laid k hp new)
/-- an object written -/
theorem Inv.write {x e : Addr} {o : HO} {t' : Nat} (I : Inv X pins σ H s) (mu : Mut (H x)) (he : e = x ∨ H e = some (.own x)) (k : ∀ b u, b ≠ e → s.heap.get? b = some u → h'.get? b = some u) (heo : ∃ u, h'.get? e = some u)
    (new : ObjOk X.prog X.w (upd H x o) h' x o) : Inv X pins σ (upd H x o) { s with heap := h', toks := t' } := I.un (Un.write mu he k heo) (I.hok.write mu he k heo new)
theorem Inv.pins_of {pins' : List (Addr × Obj)} (I : Inv X pins σ H s) (h : ∀ p ∈ pins', s.heap.get? p.1 = some p.2 ∧ H p.1 = none ∧ p.1 ≠ X.env.locals ∧ p.1 ∉ X.fs ∧ ∀ v, p.2.data ≠ .cell v) : Inv X pins' σ H s :=
  ⟨I.ok, I.os, I.bare, I.base, I.loc, I.cell, I.free, I.freeC, fun p hp => (List.mem_append.mp hp).elim (fun z => I.pin p (List.mem_append_left _ z)) (h p), I.hok, I.len⟩

theorem nodup_ix {N : List Str} (hN : N.Nodup) {i j : Nat} {x : Str} (a : N[i]? = some x) (b : N[j]? = some x) : i = j := by
  obtain ⟨h1, e1⟩ := List.getElem?_eq_some_iff.mp a
  obtain ⟨h2, e2⟩ := List.getElem?_eq_some_iff.mp b
  exact (List.getElem_inj hN).mp (e1.trans e2.symm)

/-- a name is stored; what changed -/
theorem store_ok2 {M : Model} {A : Around} {E : Value → Shared → Prop} {i : Nat} {x : Str} {v : V} {u : Value} {Q : Unit → Shared → Prop} (I : Inv X pins σ H s) (hN : X.N.Nodup) (hi : X.N[i]? = some x) (hx : Loc X.env.scope x) (r : RelV v u)
    (h : ∀ s', Inv X pins (σ.set i (some v)) H s' → (∃ a, Heap.SameBut a s.heap s'.heap ∧ (a = X.env.locals ∨ X.env.cells.lookup x = some a)) → Q () s') (hf : X.fn x = true ∨ X.env.scope.names.lookup x = some .local := by first | exact .inl rfl | exact .inr rfl | assumption) : wpAny M A (storeName X.env x u) Q E s := by
  obtain ⟨m, hn, hl⟩ := id I.loc
  have hcls : (X.env.scope.kind == .class || (X.env.scope.kind == .module && X.env.locals != X.env.globals)) = false := by rw [I.ok.kind]; rfl
  have hiσ : i < σ.length := by rw [I.len]; exact (List.getElem?_eq_some_iff.mp hi).1
  have cne := I.cne
  have tracked : ∀ {a : Addr} {h' : Heap}, (∃ o, s.heap.get? a = some o ∧ H a = none) → Heap.SameBut a s.heap h' → HOk X.prog X.w H h' := fun {a h'} ha hs b ob e => by
    obtain ⟨_, _, hfree⟩ := ha
    refine (I.hok b ob e).stay (fun c w' hc q => (hs.2 c ?_).trans q) (fun _ q => q) fun _ _ q => q
    rintro rfl
    rcases hc with rfl | hc
    · rw [hfree] at e; cases e
    · rw [hfree] at hc; cases hc
  rcases hx with hk | hk
  · refine wpAny_storeName_local hk hn (fun h' hn' hs => ?_) hcls
    obtain ⟨oL, _, _, hoL, _⟩ := id hn
    refine h _ ⟨I.ok, I.os, I.bare, ⟨fun b o e n hb hx => ?_, fun b o e n hb hx => ?_, I.base.free, fun b o e hx => ?_, I.base.tups, I.base.frzs, I.base.tbls⟩, ⟨_, hn', fun j y v' e1 e2 e3 => ?_⟩, fun y c e => ?_, I.free, I.freeC, fun p hp => ?_, tracked ⟨oL, hoL, I.free⟩ hs, by simpa using I.len⟩ ⟨_, hs, .inl rfl⟩
    · exact (hs.2 b (Nat.ne_of_lt (Nat.lt_of_lt_of_le (Heap.lt_size e) I.ok.above))).trans (I.base.keep b o e n hb hx)
    · obtain ⟨sl, e1⟩ := I.base.slot b o e n hb hx
      exact ⟨sl, (hs.2 b (Nat.ne_of_lt (Nat.lt_of_lt_of_le (Heap.lt_size e) I.ok.above))).trans e1⟩
    · obtain ⟨o', e1⟩ := I.base.there b o e hx
      exact ⟨o', (hs.2 b (Nat.ne_of_lt (Nat.lt_of_lt_of_le (Heap.lt_size e) I.ok.above))).trans e1⟩
    · by_cases hj : j = i
      · subst hj
        rw [hi] at e1; cases e1
        rw [List.getElem?_set_self hiσ] at e2
        cases e2
        exact ⟨u, r, .inl ⟨hk, by simp⟩⟩
      · rw [List.getElem?_set_ne (Ne.symm hj)] at e2
        obtain ⟨u', r', q⟩ := hl j y v' e1 e2 e3
        refine ⟨u', r', ?_⟩
        rcases q with ⟨k, e⟩ | ⟨k, c, e, z⟩
        · refine .inl ⟨k, ?_⟩
          have : y ≠ x := fun e => hj (nodup_ix hN e1 (e ▸ hi))
          simp [this, e]
        · exact .inr ⟨k, c, e, z.sameBut hs (cne y c e)⟩
    · obtain ⟨w', z⟩ := I.cell y c e
      exact ⟨w', z.sameBut hs (cne y c e)⟩
    · obtain ⟨e, n, ne, nf, d⟩ := I.pin p hp
      exact ⟨(hs.2 p.1 ne).trans e, n, ne, nf, d⟩
  · have hfn : X.fn x = true := by
      rcases hf with z | z
      · exact z
      · rw [z] at hk; cases hk
    obtain ⟨c, hc⟩ := I.ok.has x (.inl hk)
    obtain ⟨w', z⟩ := I.cell x c hc
    refine wpAny_storeName_cell I.ok.kind hk hc z (fun h' hc' hs => ?_)
    obtain ⟨oc, hoc, hocd⟩ := id z
    refine h { s with heap := h' } ⟨I.ok, I.os, I.bare, ⟨fun b o e n hb hx => ?_, fun b o e n hb hx => ?_, I.base.free, fun b o e hx => ?_, I.base.tups, I.base.frzs, I.base.tbls⟩, ⟨m, hn.sameBut hs (Ne.symm (cne x c hc)), fun j y v' e1 e2 e3 => ?_⟩, fun y c' e => ?_, I.free, I.freeC, fun p hp => ?_, tracked ⟨oc, hoc, I.freeC x c hc⟩ hs, by simpa using I.len⟩ ⟨c, hs, .inr hc⟩
    · exact (hs.2 b (Nat.ne_of_lt (Nat.lt_of_lt_of_le (Heap.lt_size e) (I.ok.cab x c hfn hc)))).trans (I.base.keep b o e n hb hx)
    · obtain ⟨sl, e1⟩ := I.base.slot b o e n hb hx
      exact ⟨sl, (hs.2 b (Nat.ne_of_lt (Nat.lt_of_lt_of_le (Heap.lt_size e) (I.ok.cab x c hfn hc)))).trans e1⟩
    · obtain ⟨o', e1⟩ := I.base.there b o e hx
      exact ⟨o', (hs.2 b (Nat.ne_of_lt (Nat.lt_of_lt_of_le (Heap.lt_size e) (I.ok.cab x c hfn hc)))).trans e1⟩
    · by_cases hj : j = i
      · subst hj
        rw [hi] at e1; cases e1
        rw [List.getElem?_set_self hiσ] at e2
        cases e2
        exact ⟨u, r, .inr ⟨.inl hk, c, hc, hc'⟩⟩
      · rw [List.getElem?_set_ne (Ne.symm hj)] at e2
        obtain ⟨u', r', q⟩ := hl j y v' e1 e2 e3
        refine ⟨u', r', ?_⟩
        rcases q with q | ⟨k, c', e, z'⟩
        · exact .inl q
        · refine .inr ⟨k, c', e, z'.sameBut hs ?_⟩
          rintro rfl
          exact hj (nodup_ix hN e1 (I.ok.inj _ _ _ e hc ▸ hi))
    · by_cases hcc : c' = c
      · subst hcc; exact ⟨_, hc'⟩
      · obtain ⟨w2, z2⟩ := I.cell y c' e
        exact ⟨w2, z2.sameBut hs hcc⟩
    · obtain ⟨e, n, ne, nf, d⟩ := I.pin p hp
      refine ⟨(hs.2 p.1 ?_).trans e, n, ne, nf, d⟩
      intro q
      rw [q, hoc] at e
      have q' : oc = p.2 := Option.some.inj e
      exact d w' (by rw [← q']; exact hocd)
theorem store_ok {M : Model} {A : Around} {E : Value → Shared → Prop} {i : Nat} {x : Str} {v : V} {u : Value} {Q : Unit → Shared → Prop} (I : Inv X pins σ H s) (hN : X.N.Nodup) (hi : X.N[i]? = some x) (hx : Loc X.env.scope x) (r : RelV v u)
    (h : ∀ s', Inv X pins (σ.set i (some v)) H s' → Q () s') (hf : X.fn x = true ∨ X.env.scope.names.lookup x = some .local := by first | exact .inl rfl | exact .inr rfl | assumption) : wpAny M A (storeName X.env x u) Q E s :=
  store_ok2 I hN hi hx r (fun s' I' _ => h s' I') hf
/-- behind a call or a block, the state as it is -/
theorem Inv.call' {s' : Shared} {ch : List Addr} (I : Inv X pins σ H s) (ho : s'.os = s.os) (u : Un (frs X.stack) ch H H' s.heap s'.heap) (hok : HOk X.prog X.w H' s'.heap) (hg : AllBare s'.gens)
    (hch : ∀ b ∈ ch, (b ∈ X.ex ∨ X.s₀.heap.objs.size ≤ b) ∧ b ≠ X.env.locals ∧ (∀ x c, X.env.cells.lookup x = some c → c ≠ b) ∧ ∀ p ∈ X.pn ++ pins, p.1 ≠ b) : Inv X pins σ H' s' := by
  obtain ⟨h', g', d', t', o'⟩ := s'
  have e : o' = s.os := ho
  subst e
  exact I.call (g' := g') (t' := t') (d' := d') u hok hg hch
end

/-- an exception: its class, its own dict's address (where it has one), the abstract heap behind it -/
abbrev XK := Value → Option Addr → Hp → Prop
abbrev St := List (Option V)
abbrev VK := V → Hp → Prop
/-- an expression's reading; a test's; an argument list's -/
abbrev TE := St → Hp → VK → Prop
abbrev TT := St → Hp → (Bool → Hp → Prop) → Prop
abbrev TA := St → Hp → (List V → Hp → Prop) → Prop
/-- what is wanted behind a statement -/
structure Ends where
  nx : St → Hp → Prop
  rt : VK
  bk : St → Hp → Prop := fun _ _ => False
  ct : St → Hp → Prop := fun _ _ => False
abbrev TS := Ends → St → Hp → Prop

def EP (X : Cx) (pins : List (Addr × Obj)) (σ : St) (Q : VK) (u : Value) (s' : Shared) : Prop := ∃ v H', Inv X pins σ H' s' ∧ RelV v u ∧ Q v H'
def TP (X : Cx) (pins : List (Addr × Obj)) (σ : St) (Q : Bool → Hp → Prop) (b : Bool) (s' : Shared) : Prop := ∃ H', Inv X pins σ H' s' ∧ Q b H'
def AP (X : Cx) (pins : List (Addr × Obj)) (σ : St) (Q : List V → Hp → Prop) (us : List Value) (s' : Shared) : Prop := ∃ vs H', Inv X pins σ H' s' ∧ Vals vs us ∧ Q vs H'
def SP (X : Cx) (pins : List (Addr × Obj)) (D : Ends) (f : Flow) (s' : Shared) : Prop :=
  match f with
  | .next => ∃ σ' H', Inv X pins σ' H' s' ∧ D.nx σ' H'
  | .brk => ∃ σ' H', Inv X pins σ' H' s' ∧ D.bk σ' H'
  | .cont => ∃ σ' H', Inv X pins σ' H' s' ∧ D.ct σ' H'
  | .ret u => ∃ v σ' H', Inv X pins σ' H' s' ∧ RelV v u ∧ D.rt v H'

def PE (X : Cx) (e : Expr) (t : TE) : Prop :=
  ∀ (pins : List (Addr × Obj)) (s : Shared) (σ : St) (H : Hp) (Q : VK), Inv X pins σ H s → t σ H Q → wpAny (model X.prog X.w) X.A (eval e X.env) (EP X pins σ Q) X.xe s
def PT (X : Cx) (e : Expr) (t : TT) : Prop :=
  ∀ (pins : List (Addr × Obj)) (s : Shared) (σ : St) (H : Hp) (Q : Bool → Hp → Prop), Inv X pins σ H s → t σ H Q → wpAny (model X.prog X.w) X.A (isTrue e X.env (eval e X.env)) (TP X pins σ Q) X.xe s
/-- a test whatever its 'whole' is (and, or) -/
def PW (X : Cx) (e : Expr) (t : TT) : Prop :=
  ∀ (whole : Sem Value) (pins : List (Addr × Obj)) (s : Shared) (σ : St) (H : Hp) (Q : Bool → Hp → Prop), Inv X pins σ H s → t σ H Q → wpAny (model X.prog X.w) X.A (isTrue e X.env whole) (TP X pins σ Q) X.xe s
theorem PW.pt {X : Cx} {e : Expr} {t : TT} (h : PW X e t) : PT X e t := h _
/-- an argument list (no star), from the left -/
def PA (X : Cx) (es : List Expr) (t : TA) : Prop :=
  ∀ (pos : Pos) (pins : List (Addr × Obj)) (s : Shared) (σ : St) (H : Hp) (Q : List V → Hp → Prop), Inv X pins σ H s → t σ H Q → wpAny (model X.prog X.w) X.A (spliced (backTo pos (starEach es X.env))) (AP X pins σ Q) X.xe s
def PS (X : Cx) (st : Stmt) (t : TS) : Prop :=
  ∀ (pins : List (Addr × Obj)) (s : Shared) (σ : St) (H : Hp) (D : Ends), Inv X pins σ H s → t D σ H → wpAny (model X.prog X.w) X.A (exec st X.env) (SP X pins D) X.xe s
def PSs (X : Cx) (st : List Stmt) (t : TS) : Prop :=
  ∀ (pins : List (Addr × Obj)) (s : Shared) (σ : St) (H : Hp) (D : Ends), Inv X pins σ H s → t D σ H → wpAny (model X.prog X.w) X.A (execs st X.env) (SP X pins D) X.xe s
/-- weaken the end -/
theorem thn {α : Type} {t : Sem α} {Q Q' : α → Shared → Prop} {M : Model} {A : Around} {E : Value → Shared → Prop} {s : Shared} (h : wpAny M A t Q E s) (hQ : ∀ a s, Q a s → Q' a s) : wpAny M A t Q' E s := wpAny_mono h hQ fun _ _ x => x
end L2

namespace L2
open PySem PySem.Spec PyProof.Rows
section
variable {X : Cx}

def tVar (i : Nat) : TE := fun σ H Q => ∃ v, σ[i]? = some (some v) ∧ Q v H
def tC (v : V) : TE := fun _ H Q => Q v H
theorem pe_var {i : Nat} {x : Str} {pos : Pos} (hN : X.N[i]? = some x) (hv : Vis X.env.scope x) (hd : (x == ("__debug__" : Str)) = false := by decide) (hcd : (x == ("__classdict__" : Str)) = false := by decide) : PE X (.Name x pos) (tVar i) := by
  intro pins s σ H Q I h
  obtain ⟨v, e, h⟩ := h
  obtain ⟨m, hn, hl⟩ := I.loc
  obtain ⟨u, r, l⟩ := hl i x v hN e hv
  have fin : EP X pins σ Q u s := ⟨v, H, I, r, h⟩
  rcases l with ⟨hk, hm⟩ | ⟨hk, c, hc, hcell⟩
  · exact wpAny_Name (wpAny_loadName_local I.ok.kind hk hn hm fin) hd
  · rcases hk with hk | hk
    · exact wpAny_Name (wpAny_loadName_cell I.ok.kind hk hc hcell fin) hd
    · exact wpAny_Name (wpAny_loadName_free I.ok.kind hk hc hcell fin hcd) hd
theorem pe_int {i j pos} : PE X (.Constant (.int i) j pos) (tC (.int i)) := fun _ _ _ H _ I h => wpAny_Constant_int ⟨.int i, H, I.tok _, ⟨_, rfl⟩, h⟩
theorem pe_bl {b j pos} : PE X (.Constant (.bool b) j pos) (tC (.bl b)) := fun _ _ _ H _ I h => Constant_bool ⟨.bl b, H, I, rfl, h⟩
theorem pe_non {j pos} : PE X (.Constant .none j pos) (tC .non) := fun _ _ _ H _ I h => Constant_none ⟨.non, H, I, rfl, h⟩
theorem pe_str {x j pos} : PE X (.Constant (.str x) j pos) (tC (.str x)) := fun _ _ _ H _ I h => Calls.Constant_str ⟨.str x, H, I.tok _, ⟨_, rfl⟩, h⟩

/-- a global name of the def -/
def Gl (X : Cx) (x : Str) : Prop := X.env.kindOf x = some .globalImplicit
theorem ld_glob {E : Value → Shared → Prop} {pins : List (Addr × Obj)} {s : Shared} {σ : St} {H : Hp} {x : Str} {u : Value} {pos : Pos} {Q : Value → Shared → Prop} (I : Inv X pins σ H s) (hg : Gl X x) (hm : X.mg x = some u) (h : Q u s)
    (hd : (x == ("__debug__" : Str)) = false := by decide) : wpAny (model X.prog X.w) X.A (eval (.Name x pos) X.env) Q E s :=
  Calls.Name_function_global I.ok.kind hg (Calls.loadGlobal_global (by rw [I.ok.glob]; exact I.mod.glob.keeps I.bk) hm h) hd
theorem ld_blt {E : Value → Shared → Prop} {pins : List (Addr × Obj)} {s : Shared} {σ : St} {H : Hp} {x : Str} {u : Value} {pos : Pos} {Q : Value → Shared → Prop} (I : Inv X pins σ H s) (hg : Gl X x) (hm : X.mg x = none) (hv : bootBuiltins x = some u) (h : Q u s)
    (hn : x ≠ "__name__" := by decide) (hd : (x == ("__debug__" : Str)) = false := by decide) : wpAny (model X.prog X.w) X.A (eval (.Name x pos) X.env) Q E s := by
  obtain ⟨mb, h1, h2⟩ := I.mod.blt
  exact Calls.Name_function_global I.ok.kind hg (Calls.loadGlobal_builtin (by rw [I.ok.glob]; exact I.mod.glob.keeps I.bk) hm (by rw [I.ok.blt]; exact h1.keeps I.bk) ((h2 x hn).trans hv) h) hd
/-- a module's constant, a class, a function, as a value -/
theorem pe_glob {x : Str} {v : V} {u : Value} {pos : Pos} (hg : Gl X x) (hm : X.mg x = some u) (r : RelV v u) (hd : (x == ("__debug__" : Str)) = false := by decide) : PE X (.Name x pos) (tC v) :=
  fun _ _ _ H _ I h => ld_glob I hg hm ⟨v, H, I, r, h⟩ hd
theorem pe_bltn {x : Str} {v : V} {u : Value} {pos : Pos} (hg : Gl X x) (hm : X.mg x = none) (hv : bootBuiltins x = some u) (r : RelV v u) (hn : x ≠ "__name__" := by decide) (hd : (x == ("__debug__" : Str)) = false := by decide) : PE X (.Name x pos) (tC v) :=
  fun _ _ _ H _ I h => ld_blt I hg hm hv ⟨v, H, I, r, h⟩ hn hd

/-- two ints -/
def t2I (ta tb : TE) (k : Int → Int → Hp → Prop) : St → Hp → Prop := fun σ H => ta σ H fun x H1 => tb σ H1 fun y H2 => ∃ i j, x = .int i ∧ y = .int j ∧ k i j H2
def tAdd (ta tb : TE) : TE := fun σ H Q => t2I ta tb (fun i j H2 => Q (.int (i + j)) H2) σ H
def tSub (ta tb : TE) : TE := fun σ H Q => t2I ta tb (fun i j H2 => Q (.int (i - j)) H2) σ H
/-- the left factor below 2^64 -/
def tMul (ta tb : TE) : TE := fun σ H Q => t2I ta tb (fun i j H2 => (-(2 ^ 64) < i ∧ i < 2 ^ 64) ∧ Q (.int (i * j)) H2) σ H
variable {a b : Expr} {ta tb : TE} {pos : Pos}
def PC (X : Cx) (op : CmpOp) (a b : Expr) (t : TE) : Prop :=
  ∀ (pins : List (Addr × Obj)) (s : Shared) (σ : St) (H : Hp) (Q : VK), Inv X pins σ H s → t σ H Q →
    wpAny (model X.prog X.w) X.A (eval a X.env) (fun v s₁ => wpAny (model X.prog X.w) X.A (eval b X.env) (fun u s₂ => wpAny (model X.prog X.w) X.A (compareOp op v u) (EP X pins σ Q) X.xe s₂) X.xe s₁) X.xe s
def tCmp (p : Int → Int → Bool) (ta tb : TE) : TE := fun σ H Q => t2I ta tb (fun i j H2 => Q (.bl (p i j)) H2) σ H
abbrev tLt : TE → TE → TE := tCmp fun i j => decide (i < j)
abbrev tLe : TE → TE → TE := tCmp fun i j => decide (i ≤ j)
abbrev tGt : TE → TE → TE := tCmp fun i j => decide (j < i)
abbrev tGe : TE → TE → TE := tCmp fun i j => decide (j ≤ i)
abbrev tEqI : TE → TE → TE := tCmp fun i j => decide (i = j)
abbrev tNeI : TE → TE → TE := tCmp fun i j => !decide (i = j)
/-- is None -/
def tIsN (ta : TE) : TE := fun σ H Q => ta σ H fun x H1 => Q (.bl (decide (x = .non))) H1
def tNotN (ta : TE) : TE := fun σ H Q => ta σ H fun x H1 => Q (.bl (!decide (x = .non))) H1
/-- a comparison as a value, as a test -/
def tB (t : TE) : TT := fun σ H Q => t σ H fun x H1 => ∃ c, x = .bl c ∧ Q c H1
/-- an expression whose value is a bool, as a test -/
theorem pt_val {e : Expr} {t : TE} (h : PE X e t) (he : ∀ whole, isTrue e X.env whole = (do let v ← whole; standAt e.pos; holding [v] (truthy v)) := by intro _; rfl) : PT X e (tB t) := by
  intro pins s σ H Q I hw
  refine isTrue_plain (thn (h pins s σ H _ I hw) fun v s1 ⟨x, H1, I1, r1, q1⟩ => ?_) (he _)
  obtain ⟨d, rfl, q⟩ := q1
  cases r1
  exact wpAny_truthy_bool ⟨H1, I1, q⟩

variable {tA tB' : TT} {rest : List Expr}
def tAnd (t u : TT) : TT := fun σ H Q => t σ H fun c H1 => if c = true then u σ H1 Q else Q false H1
def tOr (t u : TT) : TT := fun σ H Q => t σ H fun c H1 => if c = true then Q true H1 else u σ H1 Q
def tNot (t : TT) : TT := fun σ H Q => t σ H fun c H1 => Q (!c) H1
theorem pw_or1 (ha : PT X a tA) : PW X (.BoolOp .Or [a] pos) tA := by
  intro wh pins s σ H Q I h
  refine isTrue_or (thn (ha pins s σ H Q I h) fun c s1 e => ?_)
  cases c with
  | false => exact isTrue_or_nil e
  | true => exact e
theorem pw_or (ha : PT X a tA) (hb : PW X (.BoolOp .Or (b :: rest) pos) tB') : PW X (.BoolOp .Or (a :: b :: rest) pos) (tOr tA tB') := by
  intro wh pins s σ H Q I h
  refine isTrue_or (thn (ha pins s σ H _ I h) fun c s1 ⟨H1, I1, q1⟩ => ?_)
  cases c with
  | true => exact ⟨H1, I1, q1⟩
  | false => exact hb wh pins s1 σ H1 Q I1 q1
theorem pt_not (ha : PT X a tA) : PT X (.UnaryOp .Not a pos) (tNot tA) := by
  intro pins s σ H Q I h
  exact isTrue_not (ha pins s σ H (fun c H1 => Q (!c) H1) I h)
/-- .. as values (bools) -/
def tAndV (ta tb : TE) : TE := fun σ H Q => ta σ H fun x H1 => ∃ c, x = .bl c ∧ if c = true then tb σ H1 Q else Q (.bl false) H1
def tOrV (ta tb : TE) : TE := fun σ H Q => ta σ H fun x H1 => ∃ c, x = .bl c ∧ if c = true then Q (.bl true) H1 else tb σ H1 Q
def tNotV (ta : TE) : TE := fun σ H Q => ta σ H fun x H1 => ∃ c, x = .bl c ∧ Q (.bl (!c)) H1
theorem pe_one {op} {t : TE} (h : PE X a t) : PE X (.BoolOp op [a] pos) t := fun pins s σ H Q I hw => BoolOp_one (h pins s σ H Q I hw)
theorem pe_and (ha : PE X a ta) (hb : PE X (.BoolOp .And (b :: rest) pos) tb) : PE X (.BoolOp .And (a :: b :: rest) pos) (tAndV ta tb) := by
  intro pins s σ H Q I h
  refine BoolOp_and (thn (ha pins s σ H _ I h) fun v s1 ⟨x, H1, I1, r1, q1⟩ => ?_)
  obtain ⟨c, rfl, q1⟩ := q1
  cases r1
  refine wpAny_truthy_bool ?_
  cases c with
  | true => exact hb pins s1 σ H1 Q I1 q1
  | false => exact ⟨.bl false, H1, I1, rfl, q1⟩
theorem pe_not (ha : PE X a ta) : PE X (.UnaryOp .Not a pos) (tNotV ta) := by
  intro pins s σ H Q I h
  refine UnaryOp_ (thn (ha pins s σ H _ I h) fun v s1 ⟨x, H1, I1, r1, q1⟩ => ?_)
  obtain ⟨c, rfl, q1⟩ := q1
  cases r1
  exact not_of (wpAny_truthy_bool ⟨.bl (!c), H1, I1, rfl, q1⟩)
/-- a if t else b -/
def tIf (t : TT) (ta tb : TE) : TE := fun σ H Q => t σ H fun c H1 => if c = true then ta σ H1 Q else tb σ H1 Q
theorem pe_ifExp {c : Expr} (hc : PT X c tA) (ha : PE X a ta) (hb : PE X b tb) : PE X (.IfExp c a b pos) (tIf tA ta tb) := by
  intro pins s σ H Q I h
  refine wpAny_IfExp (thn (hc pins s σ H _ I h) fun d s1 ⟨H1, I1, q1⟩ => ?_)
  cases d with
  | true => exact ha pins s1 σ H1 Q I1 q1
  | false => exact hb pins s1 σ H1 Q I1 q1
end
end L2

namespace L2
open PySem PySem.Spec PyProof.Rows

def SqL (K : PySem.W.Frag) (H : Hp) (a : Addr) (xs : List V) : Prop :=
  Rd H a (.lst xs) ∨
    ∃ (o : Obj) (its : Array Value) (n : Nat), K.lookup a = some o ∧ o.cls = .type "list" ∧ o.dict = none ∧ o.data = .seq its n ∧ its.size ≤ sizeLine ∧ Vals xs its.toList
def SqT (K : PySem.W.Frag) (H : Hp) (a : Addr) (xs : List V) : Prop :=
  Rd H a (.tup xs) ∨
    ∃ (o : Obj) (its : Array Value) (n : Nat), K.lookup a = some o ∧ o.cls = .type "tuple" ∧ o.data = .seq its n ∧ its.size ≤ sizeLine ∧ Vals xs its.toList
def absV : Value → Option V
  | .none => some .non
  | .bool b => some (.bl b)
  | .int i _ => some (.int i)
  | .str x _ => some (.str x)
  | .bytes b _ => some (.byt b)
  | .float b _ => some (.flt b)
  | .ref a => some (.ref a)
  | .type n => some (.ty n)
  | _ => none
theorem RelV.abs {x : V} {u : Value} (r : RelV x u) : absV u = some x := by
  cases x with
  | non => cases r; rfl
  | bl _ => cases r; rfl
  | int _ => obtain ⟨t, rfl⟩ := r; rfl
  | str _ => obtain ⟨t, rfl⟩ := r; rfl
  | byt _ => obtain ⟨t, rfl⟩ := r; rfl
  | flt _ => obtain ⟨t, rfl⟩ := r; rfl
  | ref _ => cases r; rfl
  | ty _ => cases r; rfl
theorem RelV.inj {x y : V} {u : Value} (r : RelV x u) (q : RelV y u) : x = y := Option.some.inj (r.abs.symm.trans q.abs)
theorem Vals.inj : ∀ {xs ys : List V} {us : List Value}, Vals xs us → Vals ys us → xs = ys
  | _, _, _, .nil, .nil => rfl
  | _, _, _, .cons r t, .cons r' t' => by rw [r.inj r', Vals.inj t t']
section
variable {X : Cx} {pins : List (Addr × Obj)} {σ : St} {H : Hp} {s : Shared} {a : Addr} {xs ys : List V}
theorem SqL.of {K : PySem.W.Frag} (h : H a = some (.lst xs)) : SqL K H a xs := .inl (.inl h)
theorem SqT.of {K : PySem.W.Frag} (h : H a = some (.tup xs)) : SqT K H a xs := .inl (.inl h)
theorem Inv.list (I : Inv X pins σ H s) (h : SqL X.K H a xs) : ∃ its : List Value, Vals xs its ∧ PlainL s.heap a its.toArray ∧ xs.length ≤ sizeLine := by
  rcases h with h | ⟨o, its, n, hk, hc, hd, hs, hz, r⟩
  · obtain ⟨z, its, n, r, e⟩ := h.ok I.hok
    exact ⟨its, r, ⟨_, n, e, rfl, rfl, rfl⟩, z⟩
  · refine ⟨its.toList, r, ⟨o, n, I.kIn a o hk, hc, hd, by simpa using hs⟩, ?_⟩
    have e := r.length
    simp only [Array.length_toList] at e
    omega
theorem Inv.tuple (I : Inv X pins σ H s) (h : SqT X.K H a xs) : ∃ its : List Value, Vals xs its ∧ IsTup s.heap a its.toArray ∧ xs.length ≤ sizeLine := by
  rcases h with h | ⟨o, its, n, hk, hc, hs, hz, r⟩
  · obtain ⟨z, its, r, p⟩ := h.ok I.hok
    exact ⟨its, r, p, z⟩
  · refine ⟨its.toList, r, ⟨o, I.kIn a o hk, hc, n, by simpa using hs⟩, ?_⟩
    have e := r.length
    simp only [Array.length_toList] at e
    omega
theorem Inv.list_inj (I : Inv X pins σ H s) (h : SqL X.K H a xs) (h' : SqL X.K H a ys) : xs = ys := by
  obtain ⟨its, r, ⟨o, n, e, _, _, d⟩, _⟩ := I.list h
  obtain ⟨its', r', ⟨o', n', e', _, _, d'⟩, _⟩ := I.list h'
  rw [e] at e'; cases e'
  rw [d] at d'
  injection d' with d1 _
  have : its = its' := by simpa using congrArg Array.toList d1
  subst this
  exact r.inj r'
end

abbrev Cx.wish (X : Cx) (E : Value → Shared → Prop) : Cx := { X with xe := E }
/-- no exception leaves -/
abbrev Cx.nox (X : Cx) : Cx := X.wish fun _ _ => False
theorem Cx.Ok.wish {X : Cx} (ok : X.Ok) (E : Value → Shared → Prop) : (X.wish E).Ok :=
  ⟨ok.mod, ok.kind, ok.glob, ok.blt, ok.above, ok.inj, ok.has, ok.cab, ok.hd, ok.frames, ok.stk, ok.exf, ok.bs, ok.bsz, ok.noex, ok.exfs, ok.funs, ok.frf⟩
theorem Cx.Ok.unwish {X : Cx} {E : Value → Shared → Prop} (ok : (X.wish E).Ok) : X.Ok :=
  ⟨ok.mod, ok.kind, ok.glob, ok.blt, ok.above, ok.inj, ok.has, ok.cab, ok.hd, ok.frames, ok.stk, ok.exf, ok.bs, ok.bsz, ok.noex, ok.exfs, ok.funs, ok.frf⟩
section
variable {X : Cx} {pins : List (Addr × Obj)} {σ : St} {H : Hp} {s : Shared} {E : Value → Shared → Prop}
theorem Inv.wish (I : Inv X pins σ H s) (E : Value → Shared → Prop) : Inv (X.wish E) pins σ H s := ⟨I.ok.wish E, I.os, I.bare, I.base, I.loc, I.cell, I.free, I.freeC, I.pin, I.hok, I.len⟩
theorem Inv.unwish (I : Inv (X.wish E) pins σ H s) : Inv X pins σ H s := ⟨I.ok.unwish, I.os, I.bare, I.base, I.loc, I.cell, I.free, I.freeC, I.pin, I.hok, I.len⟩
theorem SP.unwish {D : Ends} {f : Flow} {s' : Shared} (h : SP (X.wish E) pins D f s') : SP X pins D f s' := by
  cases f with
  | next => obtain ⟨σ', H', I, q⟩ := h; exact ⟨σ', H', I.unwish, q⟩
  | brk => obtain ⟨σ', H', I, q⟩ := h; exact ⟨σ', H', I.unwish, q⟩
  | cont => obtain ⟨σ', H', I, q⟩ := h; exact ⟨σ', H', I.unwish, q⟩
  | ret u => obtain ⟨v, σ', H', I, r, q⟩ := h; exact ⟨v, σ', H', I.unwish, r, q⟩
theorem PE.nox {e : Expr} {t : TE} (h : PE X.nox e t) : PE X e t := fun pins s σ H Q I hw =>
  wpAny_mono (h pins s σ H Q (I.wish _) hw) (fun _ _ ⟨v, H', I', r, q⟩ => ⟨v, H', I'.unwish, r, q⟩) fun _ _ z => False.elim z
theorem PT.nox {e : Expr} {t : TT} (h : PT X.nox e t) : PT X e t := fun pins s σ H Q I hw =>
  wpAny_mono (h pins s σ H Q (I.wish _) hw) (fun _ _ ⟨H', I', q⟩ => ⟨H', I'.unwish, q⟩) fun _ _ z => False.elim z
theorem PSs.nox {st : List Stmt} {t : TS} (h : PSs X.nox st t) : PSs X st t := fun pins s σ H D I hw =>
  wpAny_mono (h pins s σ H D (I.wish _) hw) (fun _ _ q => q.unwish) fun _ _ z => False.elim z
end

section
variable {X : Cx} {st : Stmt} {rest : List Stmt} {t u : TS} {e : Expr} {te : TE} {pos : Pos}
def tNext : TS := fun D σ H => D.nx σ H
def tSeq (t u : TS) : TS := fun D σ H => t { D with nx := u D } σ H
theorem pss_nil : PSs X [] tNext := fun _ _ σ H _ I h => wpAny_execs_nil ⟨σ, H, I, h⟩
theorem pss_cons (h1 : PS X st t) (h2 : PSs X rest u) : PSs X (st :: rest) (tSeq t u) := by
  intro pins s σ H D I h
  refine wpAny_execs_cons (thn (h1 pins s σ H { D with nx := u D } I h) fun f s1 q => ?_)
  cases f with
  | next =>
    obtain ⟨σ', H', I', q⟩ := q
    exact h2 pins s1 σ' H' D I' q
  | ret v => exact q
  | brk => exact q
  | cont => exact q
theorem pss_one (h1 : PS X st t) : PSs X [st] t := by
  intro pins s σ H D I h
  refine wpAny_execs_cons (thn (h1 pins s σ H D I h) fun f s1 q => ?_)
  cases f with
  | next => exact wpAny_execs_nil q
  | ret v => exact q
  | brk => exact q
  | cont => exact q
def tBreak : TS := fun D σ H => D.bk σ H
def tCont : TS := fun D σ H => D.ct σ H
/-- in a def's body nothing is shown -/
theorem Inv.quiet {pins : List (Addr × Obj)} {σ : St} {H : Hp} {s : Shared} (I : Inv X pins σ H s) : interactive X.env = false := by simp [interactive, I.ok.kind]
/-- an expression whose value is dropped -/
def tDrop (te : TE) : TS := fun D σ H => te σ H fun _ H1 => D.nx σ H1
theorem ps_expr (he : PE X e te) (hs : swapsWith e none pos.line X.env = pure false := by rfl) : PS X (.Expr e pos) (tDrop te) := by
  intro pins s σ H D I h
  exact wpAny_Expr_any (thn (he pins s σ H _ I h) fun v s1 ⟨x, H1, I1, r1, q1⟩ => ⟨σ, H1, I1, q1⟩) I.quiet hs
def tRet (te : TE) : TS := fun D σ H => te σ H D.rt
theorem ps_ret (he : PE X e te) : PS X (.Return (some e) pos) (tRet te) := by
  intro pins s σ H D I h
  exact wpAny_Return_some (thn (he pins s σ H _ I h) fun v s1 ⟨x, H1, I1, r1, q1⟩ => ⟨x, σ, H1, I1, r1, q1⟩)
def tRetN : TS := fun D _ H => D.rt .non H
def tIfS (c : TT) (t u : TS) : TS := fun D σ H => c σ H fun b H1 => if b = true then t D σ H1 else u D σ H1
theorem ps_if {c : Expr} {a b : List Stmt} {tc : TT} (hc : PT X c tc) (ha : PSs X a t) (hb : PSs X b u) : PS X (.If c a b pos) (tIfS tc t u) := by
  intro pins s σ H D I h
  refine wpAny_If (thn (hc pins s σ H _ I h) fun d s1 ⟨H1, I1, q1⟩ => ?_)
  cases d with
  | true => exact ha pins s1 σ H1 D I1 q1
  | false => exact hb pins s1 σ H1 D I1 q1
/-- code that the proof never comes to -/
def tNever : TS := fun _ _ _ => False
end

abbrev TG := V → St → Hp → (St → Hp → Prop) → Prop
abbrev TGs := List V → St → Hp → (St → Hp → Prop) → Prop
def PG (X : Cx) (target : Expr) (t : TG) : Prop :=
  ∀ (pins : List (Addr × Obj)) (s : Shared) (σ : St) (H : Hp) (v : V) (u : Value) (Q : St → Hp → Prop), Inv X pins σ H s → RelV v u → t v σ H Q →
    wpAny (model X.prog X.w) X.A (assign target X.env u) (fun _ s' => ∃ σ' H', Inv X pins σ' H' s' ∧ Q σ' H') X.xe s
/-- several targets, one after another -/
def PGs (X : Cx) (ts : List Expr) (t : TGs) : Prop :=
  ∀ (pins : List (Addr × Obj)) (s : Shared) (σ : St) (H : Hp) (vs : List V) (us : List Value) (Q : St → Hp → Prop), Inv X pins σ H s → Vals vs us → t vs σ H Q →
    wpAny (model X.prog X.w) X.A (assignInOrder ((assignEach ts X.env).map (·.2)) us) (fun _ s' => ∃ σ' H', Inv X pins σ' H' s' ∧ Q σ' H') X.xe s
/-- o[i] = v, by values -/
abbrev TSet := V → V → V → Hp → (Hp → Prop) → Prop
def PSet (X : Cx) (t : TSet) : Prop :=
  ∀ (pins : List (Addr × Obj)) (s : Shared) (σ : St) (H : Hp) (o i v : V) (ov iv u : Value) (Q : Hp → Prop), Inv X pins σ H s → RelV o ov → RelV i iv → RelV v u → t o i v H Q →
    wpAny (model X.prog X.w) X.A (setItem ov iv u) (fun _ s' => ∃ H', Inv X pins σ H' s' ∧ Q H') X.xe s
/-- a op= b, by values -/
abbrev TIp := V → V → Hp → VK → Prop
def PIp (X : Cx) (op : Operator) (t : TIp) : Prop :=
  ∀ (pins : List (Addr × Obj)) (s : Shared) (σ : St) (H : Hp) (x y : V) (v u : Value) (Q : VK), Inv X pins σ H s → RelV x v → RelV y u → t x y H Q →
    wpAny (model X.prog X.w) X.A (inplaceOp op v u) (EP X pins σ Q) X.xe s
section
variable {X : Cx} {pos : Pos}
def gName (i : Nat) : TG := fun v σ H Q => Q (σ.set i (some v)) H
theorem pg_name {i : Nat} {x : Str} (hN : X.N.Nodup) (hi : X.N[i]? = some x) (hx : Loc X.env.scope x) (hf : X.fn x = true ∨ X.env.scope.names.lookup x = some .local := by first | exact .inl rfl | exact .inr rfl | assumption) : PG X (.Name x pos) (gName i) := by
  intro pins s σ H v u Q I r h
  exact wpAny_assign_Name (store_ok I hN hi hx r (fun s' I' => ⟨_, H, I', h⟩) hf)
def gNil : TGs := fun vs σ H Q => vs = [] ∧ Q σ H
def gCons (t : TG) (u : TGs) : TGs := fun vs σ H Q => ∃ v r, vs = v :: r ∧ t v σ H fun σ' H' => u r σ' H' Q
theorem pgs_nil : PGs X [] gNil := by
  intro pins s σ H vs us Q I r h
  obtain ⟨e, h⟩ := h
  subst e
  cases r
  exact assignInOrder_nil ⟨σ, H, I, h⟩
theorem pgs_cons {e : Expr} {es : List Expr} {t : TG} {u : TGs} (h1 : PG X e t) (h2 : PGs X es u)
    (hs : (assignEach (e :: es) X.env).map (·.2) = assign e X.env :: (assignEach es X.env).map (·.2) := by rfl) : PGs X (e :: es) (gCons t u) := by
  intro pins s σ H vs us Q I r h
  obtain ⟨v, vr, e1, h⟩ := h
  subst e1
  cases r with
  | cons r rr =>
    rw [hs]
    refine assignInOrder_cons (thn (h1 pins s σ H _ _ _ I r h) fun _ s1 ⟨σ1, H1, I1, q1⟩ => ?_)
    exact h2 pins s1 σ1 H1 _ _ Q I1 rr q1
/-- (a, b, ..) = a tuple of that length -/
def gTup (K : PySem.W.Frag) (n : Nat) (t : TGs) : TG := fun v σ H Q => ∃ a xs, v = .ref a ∧ SqT K H a xs ∧ xs.length = n ∧ t xs σ H Q
theorem pg_tup {es : List Expr} {k : Nat} {t : TGs} {n : Nat} (hc : X.calm = true) (h : PGs X es t)
    (hn : (assignEach es X.env).length = n := by rfl) (hst : (assignEach es X.env).findIdx? (·.1) = none := by rfl) : PG X (.Tuple es k pos) (gTup X.K n t) := by
  intro pins s σ H v u Q I r hw
  obtain ⟨a, xs, e1, hq, hl, hw⟩ := hw
  subst e1
  cases r
  obtain ⟨its, rv, ht, hz⟩ := I.tuple hq
  refine assign_Tuple_tuple (I.ok.hd hc) ht (by simp [hn, ← hl, rv.length]) hst fun h' hx => ?_
  have I1 : Inv X pins σ H { s with heap := h' } := I.kept (t' := s.toks) fun b o e => hx b o (Nat.ne_of_lt (Heap.lt_size e)) e
  exact h pins _ σ H xs _ Q I1 (by simpa using rv) hw
/-- o[i] = .. -/
def gSub (to ti : TE) (t : TSet) : TG := fun v σ H Q => to σ H fun o H1 => ti σ H1 fun i H2 => t o i v H2 fun H3 => Q σ H3
/-- target = value -/
def tAsg (te : TE) (g : TG) : TS := fun D σ H => te σ H fun x H1 => g x σ H1 D.nx
/-- name = value -/
theorem ps_set {i : Nat} {x : Str} {e : Expr} {te : TE} {pos' : Pos} (hN : X.N.Nodup) (hi : X.N[i]? = some x) (hx : Loc X.env.scope x) (he : PE X e te) (hs : swapsWith e (some (.Name x pos')) pos.line X.env = pure false := by rfl) (hf : X.fn x = true ∨ X.env.scope.names.lookup x = some .local := by first | exact .inl rfl | exact .inr rfl | assumption) :
    PS X (.Assign [.Name x pos'] e pos) (tAsg te (gName i)) := by
  intro pins s σ H D I h
  refine wpAny_Assign_Name (thn (he pins s σ H _ I h) fun v s1 ⟨y, H1, I1, r1, q1⟩ => ?_) hs
  exact store_ok I1 hN hi hx r1 (fun s2 I2 => ⟨_, H1, I2, q1⟩) hf
/-- a, b = x, y with plain local names: stored from the right; the pair itself is not tracked (the opening rows as in PyProof/Rows/TupAssign.lean:23) -/
def tPar (i j : Nat) (ta : TA) : TS := fun D σ H => ta σ H fun vs H1 => ∃ v w, vs = [v, w] ∧ D.nx ((σ.set i (some v)).set j (some w)) H1
/-- name op= e -/
def tAug (i : Nat) (te : TE) (ti : TIp) : TS := fun D σ H => ∃ x, σ[i]? = some (some x) ∧ te σ H fun y H1 => ti x y H1 fun z H2 => D.nx (σ.set i (some z)) H2
/-- o[i] op= e -/
def tAugS (to ti te : TE) (tget : V → V → Hp → VK → Prop) (tip : TIp) (tset : TSet) : TS := fun D σ H => to σ H fun o H1 => ti σ H1 fun i H2 => tget o i H2 fun x H3 => te σ H3 fun y H4 => tip x y H4 fun z H5 => tset o i z H5 fun H6 => D.nx σ H6
/-- o[i], by values -/
def PGet (X : Cx) (t : V → V → Hp → VK → Prop) : Prop :=
  ∀ (pins : List (Addr × Obj)) (s : Shared) (σ : St) (H : Hp) (o i : V) (ov iv : Value) (Q : VK), Inv X pins σ H s → RelV o ov → RelV i iv → t o i H Q →
    wpAny (model X.prog X.w) X.A (getItem ov iv) (EP X pins σ Q) X.xe s
/-- ints -/
def ipI (f : Int → Int → Int) : TIp := fun x y H Q => ∃ i j, x = .int i ∧ y = .int j ∧ Q (.int (f i j)) H
end

section
variable {X : Cx} {pos : Pos}
/-- the invariant W with its measure -/
def tWhile (c : TT) (tb : TS) : TS := fun D σ H => ∃ W : Nat → St → Hp → Prop, (∃ m, W m σ H) ∧ ∀ m σ H, W m σ H →
  c σ H fun b H1 => if b = true then ∃ N : St → Hp → Prop, (∀ σ' H', N σ' H' → ∃ m', m' < m ∧ W m' σ' H') ∧ tb { D with nx := N, ct := N, bk := D.nx } σ H1 else D.nx σ H1
end

/-- at turn i: it yields x (the heap may grow), or it stops -/
structure It where
  go : Nat → Hp → Prop
  yld : Nat → Hp → V → Hp → Prop
  stop : Nat → Hp → Prop
/-- the iterator's own objects may turn: they are not the frame's, not pinned, younger than the entry (or a comprehension's own) -/
def FpOk (X : Cx) (pins : List (Addr × Obj)) (H : Hp) (b : Addr) : Prop :=
  H b = none ∧ b ≠ X.env.locals ∧ b ∉ X.fs ∧ (b ∈ X.ex ∨ X.s₀.heap.objs.size ≤ b) ∧ (∀ x c, X.env.cells.lookup x = some c → c ≠ b) ∧ ∀ p ∈ X.pn ++ pins, p.1 ≠ b
theorem Inv.fpOk {X : Cx} {pins : List (Addr × Obj)} {σ : St} {H H' : Hp} {s : Shared} {b : Addr} (I : Inv X pins σ H s) (hb : s.heap.objs.size ≤ b) (hn : H' b = none) : FpOk X pins H' b := by
  refine ⟨hn, Nat.ne_of_gt (Nat.lt_of_lt_of_le I.lt hb), I.nofs hb, .inr (Nat.le_trans I.sz hb), fun x c e z => ?_, fun p hp z => ?_⟩
  · obtain ⟨v, q⟩ := I.cell x c e
    exact absurd (Nat.lt_of_lt_of_le q.lt (by rw [z]; exact hb)) (Nat.lt_irrefl _)
  · exact absurd (Nat.lt_of_lt_of_le (Heap.lt_size (I.pin p hp).1) (by rw [z]; exact hb)) (Nat.lt_irrefl _)
structure Turn (P : Program) (w : World) (K : PySem.W.Frag) (tg : Expr) (J : It) (fp : List Addr) (it : Addr) (tn : Nat → Heap → Prop) : Prop where
  mem : it ∈ fp
  obj : ∀ i h, tn i h → ∀ b ∈ fp, ∃ o, h.get? b = some o ∧ ∀ v, o.data ≠ .cell v
  keep : ∀ i h h', tn i h → (∀ b ∈ fp, ∀ o, h.get? b = some o → h'.get? b = some o) → tn i h'
  item : ∀ (X : Cx), X.prog = P → X.w = w → X.K = K → X.calm = true → ∀ (i : Nat) (pins : List (Addr × Obj)) (s : Shared) (σ : St) (H : Hp) (E : Value → Shared → Prop), Inv X pins σ H s → (∀ b ∈ fp, FpOk X pins H b) → tn i s.heap → J.go i H →
    wpAny (model P w) X.A (pyNext (.ref it)) (fun r s1 => ∃ u, r = some u ∧
      wpAny (model P w) X.A (letOwnedTupleGo tg (.ref it) u) (fun _ s2 => ∃ x H', Inv X pins σ H' s2 ∧ RelV x u ∧ J.yld i H x H' ∧ tn (i + 1) s2.heap ∧ ∀ b ∈ fp, H' b = none) E s1) E s
  done : ∀ (X : Cx), X.prog = P → X.w = w → X.K = K → X.calm = true → ∀ (i : Nat) (pins : List (Addr × Obj)) (s : Shared) (σ : St) (H : Hp) (E : Value → Shared → Prop), Inv X pins σ H s → (∀ b ∈ fp, FpOk X pins H b) → tn i s.heap → J.stop i H →
    wpAny (model P w) X.A (pyNext (.ref it)) (fun r s1 => r = none ∧ Inv X pins σ H s1) E s
  self : ∀ (A : Around) (i : Nat) (s : Shared) (Q : Value → Shared → Prop) (E : Value → Shared → Prop), tn i s.heap → Q (.ref it) s → wpAny (model P w) A (pyIter (.ref it)) Q E s
abbrev TI := St → Hp → (It → Hp → Prop) → Prop
/-- an iterator has come -/
def PIE (X : Cx) (pins : List (Addr × Obj)) (σ : St) (tg : Expr) (R : It → Hp → Prop) (itv : Value) (s2 : Shared) : Prop :=
  ∃ (it : Addr) (fp : List Addr) (tn : Nat → Heap → Prop) (J : It) (H' : Hp), itv = .ref it ∧ Inv X pins σ H' s2 ∧ Turn X.prog X.w X.K tg J fp it tn ∧ tn 0 s2.heap ∧ (∀ b ∈ fp, FpOk X pins H' b) ∧ R J H'
def PI (X : Cx) (tg iter : Expr) (wi : TI) : Prop :=
  ∀ (pins : List (Addr × Obj)) (s : Shared) (σ : St) (H : Hp) (R : It → Hp → Prop), Inv X pins σ H s → wi σ H R →
    wpAny (model X.prog X.w) X.A (eval iter X.env) (fun v s1 => wpAny (model X.prog X.w) X.A (pyIter v) (PIE X pins σ tg R) X.xe s1) X.xe s

/-- the step ahead of the store is nothing for an iterator that keeps no tuple -/
theorem go_of {M : Model} {A : Around} {E : Value → Shared → Prop} {s : Shared} {tg : Expr} {it : Addr} {u : Value} {o : Obj} {n : String} {vs : Array Value} {Q : Unit → Shared → Prop} (ho : s.heap.get? it = some o) (hc : o.cls = .type n) (hd : o.data = .fields vs)
    (hn : ["enumerate", "zip", "dict_itemiterator", "dict_reverseitemiterator", "odict_iterator", "itertools.zip_longest", "itertools.pairwise"].contains n = false) (hQ : Q () s) : wpAny M A (letOwnedTupleGo tg (.ref it) u) Q E s := by
  unfold letOwnedTupleGo
  cases tg <;> first
    | exact wpAny_pure hQ
    | (cases u <;> first
        | exact wpAny_pure hQ
        | (refine wpAny_bind (wpAny_load ho ?_)
           rw [hc, hd]
           show wpAny M A (if (["enumerate", "zip", "dict_itemiterator", "dict_reverseitemiterator", "odict_iterator", "itertools.zip_longest", "itertools.pairwise"].contains n && vs[0]? == some (rawInt _)) = true then _ else _) Q E s
           rw [if_neg (by intro h; rw [hn, Bool.false_and] at h; cases h)]
           exact wpAny_pure hQ))

/-- the list at a, as it stands at each turn (a loop may append to it) -/
def Itl (K : PySem.W.Frag) (a : Addr) : It :=
  ⟨fun i H => ∃ xs x, SqL K H a xs ∧ xs[i]? = some x, fun i H x H' => H' = H ∧ ∀ xs, SqL K H a xs → xs[i]? = some x, fun i H => ∃ xs, SqL K H a xs ∧ xs.length ≤ i⟩
def Itt (K : PySem.W.Frag) (a : Addr) : It :=
  ⟨fun i H => ∃ xs x, SqT K H a xs ∧ xs[i]? = some x, fun i H x H' => H' = H ∧ ∀ xs, SqT K H a xs → xs[i]? = some x, fun i H => ∃ xs, SqT K H a xs ∧ xs.length ≤ i⟩
/-- lo, lo + 1, .. (n of them) -/
def Itr (lo : Int) (n : Nat) : It := ⟨fun i _ => i < n, fun i H x H' => H' = H ∧ x = .int (lo + i), fun i _ => n ≤ i⟩
theorem turn_list {P : Program} {w : World} {K : PySem.W.Frag} {tg : Expr} (a it : Addr) : Turn P w K tg (Itl K a) [it] it (fun i h => h.IsListIter it a i) where
  mem := by simp
  obj := fun i h st b hb => by
    have e : b = it := by simpa using hb
    subst e
    obtain ⟨o, e, c, d⟩ := st
    exact ⟨o, e, fun v z => by rw [d] at z; cases z⟩
  keep := fun i h h' st k => st.at fun o e => k it (by simp) o e
  item := by
    intro X hP hw hK hc i pins s σ H E I hf st hg
    subst hP hw hK
    obtain ⟨xs, x, hq, hx⟩ := hg
    obtain ⟨its, rv, p, hz⟩ := I.list hq
    obtain ⟨u, hu, ru⟩ := rv.get hx
    obtain ⟨f0, f1, f2, f3, f4, f5⟩ := hf it (by simp)
    refine wpAny_pyNext_list_item st p.isList (x := u) (by simpa using hu) fun h' st' sb => ?_
    have I1 : Inv X pins σ H { s with heap := h' } := I.turned (t' := s.toks) (fun b o hb e => (sb.2 b hb).trans e) f0 f1 f3 f4 f5
    obtain ⟨o, e, c, d⟩ := id st'
    exact ⟨u, rfl, go_of (s := { s with heap := h' }) e c d (by decide) ⟨x, H, I1, ru, ⟨rfl, fun ys hy => by rw [I.list_inj hy hq]; exact hx⟩, st', fun b hb => (hf b hb).1⟩⟩
  done := by
    intro X hP hw hK hc i pins s σ H E I hf st hg
    subst hP hw hK
    obtain ⟨xs, hq, hx⟩ := hg
    obtain ⟨its, rv, p, hz⟩ := I.list hq
    obtain ⟨f0, f1, f2, f3, f4, f5⟩ := hf it (by simp)
    have hl := rv.length
    exact wpAny_pyNext_list_end (I.ok.hd hc) st p.isList (by simp; omega) fun h' eb => ⟨rfl, I.turned (t' := s.toks) (fun b o hb e => eb b o hb e) f0 f1 f3 f4 f5⟩
  self := fun _ _ _ _ _ st h => wpAny_pyIter_listiter st h
theorem turn_range {P : Program} {w : World} {K : PySem.W.Frag} {tg : Expr} (it : Addr) (lo : Int) (n : Nat) : Turn P w K tg (Itr lo n) [it] it (fun i h => IsRangeIter h it (lo + (i : Nat) * 1) ((n : Int) - (i : Nat)) 1) where
  mem := by simp
  obj := fun i h st b hb => by
    have e : b = it := by simpa using hb
    subst e
    exact ⟨_, st, fun v z => by
      have z' : Data.fields _ = Data.cell v := z
      cases z'⟩
  keep := fun i h h' st k => k it (by simp) _ st
  item := by
    intro X hP hw hK hc i pins s σ H E I hf st hg
    subst hP hw hK
    obtain ⟨f0, f1, f2, f3, f4, f5⟩ := hf it (by simp)
    have W := Walks.range (prog := X.prog) (w := X.w) (I.ok.hd hc) it lo 1 n
    refine W.item i s _ _ hg st fun v h' tk hv st' kk => ?_
    obtain ⟨t, rfl⟩ := hv
    have I1 : Inv X pins σ H { s with heap := h', toks := tk } := I.turned (fun b o hb e => kk b o (by simpa using hb) e) f0 f1 f3 f4 f5
    refine ⟨_, rfl, go_of (s := { s with heap := h', toks := tk }) (n := "range_iterator") st' rfl rfl (by decide) ⟨.int (lo + i), H, I1, ⟨t, ?_⟩, ⟨rfl, rfl⟩, st', fun b hb => (hf b hb).1⟩⟩
    rw [Int.mul_one]
  done := by
    intro X hP hw hK hc i pins s σ H E I hf st hg
    subst hP hw hK
    obtain ⟨f0, f1, f2, f3, f4, f5⟩ := hf it (by simp)
    exact wpAny_pyNext_range_end (I.ok.hd hc) st (by have : n ≤ i := hg; omega) fun h' eb => ⟨rfl, I.turned (t' := s.toks) (fun b o hb e => eb b o hb e) f0 f1 f3 f4 f5⟩
  self := fun _ _ _ _ _ st h => wpAny_pyIter_rangeiter st h
end L2

namespace L2
open PySem PySem.Spec PyProof.Rows
section
variable {X : Cx} {tg : Expr}
def iList (K : PySem.W.Frag) (tl : TE) : TI := fun σ H R => tl σ H fun x H1 => ∃ a, x = .ref a ∧ (∃ xs, SqL K H1 a xs) ∧ R (Itl K a) H1
def iTup (K : PySem.W.Frag) (tl : TE) : TI := fun σ H R => tl σ H fun x H1 => ∃ a, x = .ref a ∧ (∃ xs, SqT K H1 a xs) ∧ R (Itt K a) H1
theorem pi_list {l : Expr} {tl : TE} (hl : PE X l tl) : PI X tg l (iList X.K tl) := by
  intro pins s σ H R I h
  refine thn (hl pins s σ H _ I h) fun v s1 ⟨x, H1, I1, r1, q1⟩ => ?_
  obtain ⟨a, e, ⟨xs, hq⟩, q⟩ := q1
  subst e
  cases r1
  obtain ⟨its, rv, p, hz⟩ := I1.list hq
  refine wpAny_pyIter_list p.isList ?_
  refine ⟨s1.heap.objs.size, [s1.heap.objs.size], _, _, H1, rfl, I1.kept (t' := s1.toks) fun b o e => Heap.get?_push_of_some _ e, turn_list a _, ⟨_, Heap.get?_push_size _ rfl, rfl, rfl⟩, fun b hb => ?_, q⟩
  have e : b = s1.heap.objs.size := by simpa using hb
  subst e
  exact I1.fpOk (Nat.le_refl _) (I1.hok.fresh (Nat.le_refl _))
/-- a range object just made, walked -/
theorem range_it {pins : List (Addr × Obj)} {σ : St} {H : Hp} {s : Shared} {R : It → Hp → Prop} {E : Value → Shared → Prop} {lo hi : Int} {t u v : Tok} {tk : Nat} (I : Inv X pins σ H s) (h1 : -(2 ^ 62) ≤ lo) (h2 : lo < 2 ^ 62) (h3 : -(2 ^ 62) ≤ hi) (h4 : hi < 2 ^ 62)
    (q : R (Itr lo (hi - lo).toNat) H) : wpAny (model X.prog X.w) X.A (pyIter (.ref s.heap.objs.size)) (PIE X pins σ tg R) E { s with heap := s.heap.push { cls := .type "range", data := .fields #[.int lo t, .int hi u, .int 1 v] }, toks := tk } := by
  refine wpAny_pyIter_range (IsRange.new ..) (small_one h1 h2 h3 h4) ?_
  have I1 : Inv X pins σ H { s with heap := s.heap.push { cls := .type "range", data := .fields #[.int lo t, .int hi u, .int 1 v] }, toks := tk } := I.kept fun b o e => Heap.get?_push_of_some _ e
  refine ⟨(s.heap.push { cls := .type "range", data := .fields #[.int lo t, .int hi u, .int 1 v] }).objs.size, [(s.heap.push { cls := .type "range", data := .fields #[.int lo t, .int hi u, .int 1 v] }).objs.size], _, _, H, rfl,
    I1.kept (t' := tk) fun b o e => Heap.get?_push_of_some _ e, turn_range _ lo (hi - lo).toNat, ?_, fun b hb => ?_, q⟩
  · have e1 : lo + ((0 : Nat) : Int) * 1 = lo := by simp
    have e2 : (((hi - lo).toNat : Nat) : Int) - ((0 : Nat) : Int) = Builtin.Range.rangeSize lo hi 1 := by rw [rangeSize_one]; split <;> omega
    show IsRangeIter _ _ (lo + ((0 : Nat) : Int) * 1) ((((hi - lo).toNat : Nat) : Int) - ((0 : Nat) : Int)) 1
    rw [e1, e2]
    exact Heap.get?_push_size _ rfl
  · have e : b = (s.heap.push { cls := .type "range", data := .fields #[.int lo t, .int hi u, .int 1 v] }).objs.size := by simpa using hb
    subst e
    exact I1.fpOk (Nat.le_refl _) (I1.hok.fresh (Nat.le_refl _))
def iRng1 (ta : TA) : TI := fun σ H R => ta σ H fun vs H1 => ∃ j : Int, vs = [.int j] ∧ -(2 ^ 62) ≤ j ∧ j < 2 ^ 62 ∧ R (Itr 0 j.toNat) H1
def iRng2 (ta : TA) : TI := fun σ H R => ta σ H fun vs H1 => ∃ i j : Int, vs = [.int i, .int j] ∧ (-(2 ^ 62) ≤ i ∧ i < 2 ^ 62 ∧ -(2 ^ 62) ≤ j ∧ j < 2 ^ 62) ∧ R (Itr i (j - i).toNat) H1
theorem pi_range1 {a : Expr} {ta : TA} {p pos : Pos} (hg : Gl X "range") (hm : X.mg "range" = none) (ha : PA X [a] ta) (hs : starEach [a] X.env = [(false, eval a X.env)] := by rfl) : PI X tg (.Call (.Name "range" p) [a] [] pos) (iRng1 ta) := by
  intro pins s σ H R I h
  refine Call_ (ld_blt I hg hm boot_range (PyProof.Rows.callWith_type1 (thn (ha pos pins s σ H _ I h) fun us s1 ⟨vs, H1, I1, r1, q1⟩ => ?_) hs rfl))
  obtain ⟨j, e, q1, q2, q⟩ := q1
  subst e
  cases r1 with
  | cons r rr =>
    cases rr
    obtain ⟨t, rfl⟩ := r
    exact call_range_1 (range_it I1 (by omega) (by omega) q1 q2 (by simpa using q))
/-- W: the invariant by the turn and a measure; N: what the body is to reach -/
def tFor (wi : TI) (g : TG) (tb : TS) : TS := fun D σ H => wi σ H fun J H1 => ∃ W : Nat → Nat → St → Hp → Prop, (∃ m, W 0 m σ H1) ∧ ∀ i m σ H, W i m σ H →
  (J.stop i H ∧ D.nx σ H) ∨ (J.go i H ∧ ∃ N : St → Hp → Prop, (∀ σ' H', N σ' H' → ∃ m', m' < m ∧ W (i + 1) m' σ' H') ∧ ∀ x H', J.yld i H x H' → g x σ H' fun σ2 H2 => tb { D with nx := N, ct := N, bk := D.nx } σ2 H2)
/-- the records at fp as they stand -/
def pinsAt (fp : List Addr) (h : Heap) : List (Addr × Obj) := fp.filterMap fun b => (h.get? b).map fun o => (b, o)
theorem mem_pinsAt {fp : List Addr} {h : Heap} {b : Addr} {o : Obj} (hb : b ∈ fp) (e : h.get? b = some o) : (b, o) ∈ pinsAt fp h := List.mem_filterMap.mpr ⟨b, hb, by rw [e]; rfl⟩
theorem of_pinsAt {fp : List Addr} {h : Heap} {p : Addr × Obj} (hp : p ∈ pinsAt fp h) : p.1 ∈ fp ∧ h.get? p.1 = some p.2 := by
  obtain ⟨b, hb, e⟩ := List.mem_filterMap.mp hp
  cases q : h.get? b with
  | none => rw [q] at e; cases e
  | some o =>
    rw [q] at e
    have e' : (b, o) = p := Option.some.inj e
    subst e'
    exact ⟨hb, q⟩
theorem Inv.pinned {pins : List (Addr × Obj)} {σ : St} {H : Hp} {s : Shared} {fp : List Addr} (I : Inv X pins σ H s) (hf : ∀ b ∈ fp, FpOk X pins H b) (ho : ∀ b ∈ fp, ∃ o, s.heap.get? b = some o ∧ ∀ v, o.data ≠ .cell v) : Inv X (pins ++ pinsAt fp s.heap) σ H s :=
  I.pins_of fun p hp => (List.mem_append.mp hp).elim (fun z => I.pin p (List.mem_append_right _ z)) fun z => by
    obtain ⟨hb, e⟩ := of_pinsAt z
    obtain ⟨f0, f1, f2, _⟩ := hf p.1 hb
    obtain ⟨o, e', d⟩ := ho p.1 hb
    rw [e] at e'; cases e'
    exact ⟨e, f0, f1, f2, d⟩
theorem Inv.unpinned {pins pl : List (Addr × Obj)} {σ : St} {H : Hp} {s : Shared} (I : Inv X (pins ++ pl) σ H s) : Inv X pins σ H s := I.pins_of fun p hp => I.pin p (List.mem_append_right _ (List.mem_append_left _ hp))
theorem ps_for {iter : Expr} {body : List Stmt} {wi : TI} {g : TG} {tb : TS} {pos : Pos} (hp : PassesOwn (model X.prog X.w) X.A X.env X.xe) (hc : X.calm = true) (hi : PI X tg iter wi) (hg : PG X tg g) (hb : PSs X body tb)
    (hs : ∀ x, foldedSetIterable iter X.env x = pure x := by intro _; rfl) : PS X (.For tg iter body [] pos) (tFor wi g tb) := by
  intro pins s σ H D I h
  refine wpAny_For (thn (hi pins s σ H _ I h) fun v s1 h1 => thn h1 fun itv s2 h2 => ?_) hs
  obtain ⟨it, fp, tn, J, H2, e, I2, T, st2, f2, W, ⟨m0, w0⟩, turn⟩ := h2
  subst e
  -- what stays true of the iterator's objects through the loop
  have stat : ∀ {H' : Hp}, (∀ b ∈ fp, H' b = none) → ∀ b ∈ fp, FpOk X pins H' b := fun hn b hb => ⟨hn b hb, (f2 b hb).2⟩
  refine codeAny_forLoop_any (fun n s' => ∃ i σ' H', Inv X pins σ' H' s' ∧ tn i s'.heap ∧ (∀ b ∈ fp, H' b = none) ∧ W i n σ' H') ?_ m0 ⟨0, σ, H2, I2, st2, fun b hb => (f2 b hb).1, w0⟩
  rintro n s3 ⟨i, σ3, H3, I3, st3, fr3, w3⟩
  rcases turn i n σ3 H3 w3 with ⟨stop, qn⟩ | ⟨go, N, hN, step⟩
  · refine wpAny_passesOwn hp (thn (T.done X rfl rfl rfl hc i pins s3 σ3 H3 X.xe I3 (stat fr3) st3 stop) fun r s4 ⟨hr, I4⟩ => ?_)
    subst hr
    exact wpAny_execs_nil ⟨σ3, H3, I4, qn⟩
  · refine wpAny_passesOwn hp (thn (T.item X rfl rfl rfl hc i pins s3 σ3 H3 X.xe I3 (stat fr3) st3 go) fun r s4 ⟨u, hr, h4⟩ => ?_)
    subst hr
    refine wpAny_passesOwn hp (thn h4 fun _ s5 ⟨x, H5, I5, r5, y5, st5, fr5⟩ => ?_)
    have I5' := I5.pinned (stat fr5) (T.obj _ _ st5)
    refine wpAny_passesOwn hp (thn (hg _ s5 σ3 H5 x u _ I5' r5 (step x H5 y5)) fun _ s6 ⟨σ6, H6, I6, q6⟩ => ?_)
    refine wpAny_passesOwn hp (thn (hb _ s6 σ6 H6 _ I6 q6) fun f s7 q7 => ?_)
    have again : ∀ {σ7 : St} {H7 : Hp}, Inv X (pins ++ pinsAt fp s5.heap) σ7 H7 s7 → N σ7 H7 → ∃ m, m < n ∧ ∃ i σ' H', Inv X pins σ' H' s7 ∧ tn i s7.heap ∧ (∀ b ∈ fp, H' b = none) ∧ W i m σ' H' := fun {σ7 H7} I7 n7 => by
      obtain ⟨m', hm, w7⟩ := hN σ7 H7 n7
      refine ⟨m', hm, i + 1, σ7, H7, I7.unpinned, T.keep _ _ _ st5 fun b hb o e => (I7.pin (b, o) (List.mem_append_right _ (List.mem_append_right _ (mem_pinsAt hb e)))).1, fun b hb => ?_, w7⟩
      obtain ⟨o, e, d⟩ := T.obj _ _ st5 b hb
      exact (I7.pin (b, o) (List.mem_append_right _ (List.mem_append_right _ (mem_pinsAt hb e)))).2.1
    cases f with
    | next => obtain ⟨σ7, H7, I7, n7⟩ := q7; exact again I7 n7
    | cont => obtain ⟨σ7, H7, I7, n7⟩ := q7; exact again I7 n7
    | brk => obtain ⟨σ7, H7, I7, q7⟩ := q7; exact ⟨σ7, H7, I7.unpinned, q7⟩
    | ret v => obtain ⟨x7, σ7, H7, I7, r7, q7⟩ := q7; exact ⟨x7, σ7, H7, I7.unpinned, r7, q7⟩
end

/-- over a list that the body leaves as it is -/
theorem for_list {K : PySem.W.Frag} {a : Addr} {xs : List V} {g : TG} {tb : TS} {D : Ends} {σ : St} {H : Hp} (Pv : Nat → St → Hp → Prop) (h0 : Pv 0 σ H) (hl : ∀ i σ H, i ≤ xs.length → Pv i σ H → SqL K H a xs)
    (hs : ∀ i x σ H, xs[i]? = some x → Pv i σ H → g x σ H fun σ2 H2 => tb { D with nx := Pv (i + 1), ct := Pv (i + 1), bk := D.nx } σ2 H2) (hd : ∀ σ H, Pv xs.length σ H → D.nx σ H) :
    ∃ W : Nat → Nat → St → Hp → Prop, (∃ m, W 0 m σ H) ∧ ∀ i m σ H, W i m σ H →
      ((Itl K a).stop i H ∧ D.nx σ H) ∨ ((Itl K a).go i H ∧ ∃ N : St → Hp → Prop, (∀ σ' H', N σ' H' → ∃ m', m' < m ∧ W (i + 1) m' σ' H') ∧ ∀ x H', (Itl K a).yld i H x H' → g x σ H' fun σ2 H2 => tb { D with nx := N, ct := N, bk := D.nx } σ2 H2) := by
  refine ⟨fun i m σ H => m = xs.length - i ∧ i ≤ xs.length ∧ Pv i σ H, ⟨xs.length, by simp, Nat.zero_le _, h0⟩, ?_⟩
  rintro i m σ H ⟨rfl, hi, p⟩
  have q := hl i σ H hi p
  by_cases hlt : i < xs.length
  · refine .inr ⟨⟨xs, xs[i], q, by simp [hlt]⟩, Pv (i + 1), fun σ' H' p' => ⟨xs.length - (i + 1), by omega, rfl, hlt, p'⟩, fun x H' y => ?_⟩
    obtain ⟨e, y⟩ := y
    subst e
    exact hs i x σ _ (y xs q) p
  · have e : i = xs.length := by omega
    subst e
    exact .inl ⟨⟨xs, q, Nat.le_refl _⟩, hd σ H p⟩
theorem for_range {lo : Int} {n : Nat} {g : TG} {tb : TS} {D : Ends} {σ : St} {H : Hp} (Pv : Nat → St → Hp → Prop) (h0 : Pv 0 σ H)
    (hs : ∀ i σ H, i < n → Pv i σ H → g (.int (lo + i)) σ H fun σ2 H2 => tb { D with nx := Pv (i + 1), ct := Pv (i + 1), bk := D.nx } σ2 H2) (hd : ∀ σ H, Pv n σ H → D.nx σ H) :
    ∃ W : Nat → Nat → St → Hp → Prop, (∃ m, W 0 m σ H) ∧ ∀ i m σ H, W i m σ H →
      ((Itr lo n).stop i H ∧ D.nx σ H) ∨ ((Itr lo n).go i H ∧ ∃ N : St → Hp → Prop, (∀ σ' H', N σ' H' → ∃ m', m' < m ∧ W (i + 1) m' σ' H') ∧ ∀ x H', (Itr lo n).yld i H x H' → g x σ H' fun σ2 H2 => tb { D with nx := N, ct := N, bk := D.nx } σ2 H2) := by
  refine ⟨fun i m σ H => m = n - i ∧ i ≤ n ∧ Pv i σ H, ⟨n, by simp, Nat.zero_le _, h0⟩, ?_⟩
  rintro i m σ H ⟨rfl, hi, p⟩
  by_cases hlt : i < n
  · refine .inr ⟨hlt, Pv (i + 1), fun σ' H' p' => ⟨n - (i + 1), by omega, rfl, hlt, p'⟩, fun x H' y => ?_⟩
    obtain ⟨e, y⟩ := y
    subst e y
    exact hs i σ _ hlt p
  · have e : i = n := by omega
    subst e
    exact .inl ⟨Nat.le_refl _, hd σ H p⟩
end L2

namespace L2
open PySem PySem.Spec PyProof.Rows

abbrev R2 := V → V → Hp → VK → Prop
/-- a two-place operation on values: f is binaryOp op, inplaceOp op or compareOp op -/
def OpR (X : Cx) (f : Value → Value → Sem Value) (r : R2) : Prop :=
  ∀ (pins : List (Addr × Obj)) (s : Shared) (σ : St) (H : Hp) (x y : V) (v u : Value) (Q : VK), Inv X pins σ H s → RelV x v → RelV y u → r x y H Q →
    wpAny (model X.prog X.w) X.A (f v u) (EP X pins σ Q) X.xe s
/-- a one-place operation -/
def UnR (X : Cx) (f : Value → Sem Value) (r : V → Hp → VK → Prop) : Prop :=
  ∀ (pins : List (Addr × Obj)) (s : Shared) (σ : St) (H : Hp) (x : V) (v : Value) (Q : VK), Inv X pins σ H s → RelV x v → r x H Q →
    wpAny (model X.prog X.w) X.A (f v) (EP X pins σ Q) X.xe s
/-- a call of a value that is known (a builtin, a type) with values -/
def CallR (X : Cx) (f : Value) (r : List V → Hp → VK → Prop) : Prop :=
  ∀ (pins : List (Addr × Obj)) (s : Shared) (σ : St) (H : Hp) (xs : List V) (us : List Value) (Q : VK), Inv X pins σ H s → Vals xs us → r xs H Q →
    wpAny (model X.prog X.w) X.A (call f us) (EP X pins σ Q) X.xe s
/-- a value's truth -/
def TruR (X : Cx) (r : V → Hp → (Bool → Hp → Prop) → Prop) : Prop :=
  ∀ (pins : List (Addr × Obj)) (s : Shared) (σ : St) (H : Hp) (x : V) (v : Value) (Q : Bool → Hp → Prop), Inv X pins σ H s → RelV x v → r x H Q →
    wpAny (model X.prog X.w) X.A (truthy v) (TP X pins σ Q) X.xe s

def tOp (r : R2) (ta tb : TE) : TE := fun σ H Q => ta σ H fun x H1 => tb σ H1 fun y H2 => r x y H2 Q
def tUn (r : V → Hp → VK → Prop) (ta : TE) : TE := fun σ H Q => ta σ H fun x H1 => r x H1 Q
/-- ints in, under C, and a value out -/
def rI (C : Int → Int → Prop) (g : Int → Int → V) : R2 := fun x y H Q => ∃ i j, x = .int i ∧ y = .int j ∧ C i j ∧ Q (g i j) H
def rI0 (g : Int → Int → V) : R2 := fun x y H Q => ∃ i j, x = .int i ∧ y = .int j ∧ Q (g i j) H
def rU (g : Int → V) : V → Hp → VK → Prop := fun x H Q => ∃ i, x = .int i ∧ Q (g i) H

section
variable {X : Cx} {a b c : Expr} {ta tb tc : TE} {pos : Pos}

theorem binT (ha : PE X a ta) (hb : PE X b tb) {pins : List (Addr × Obj)} {s : Shared} {σ : St} {H : Hp} {R : V → V → Hp → Prop} (I : Inv X pins σ H s)
    (h : ta σ H fun x H1 => tb σ H1 fun y H2 => R x y H2) {Q : Value → Shared → Prop} {f : Value → Value → Sem Value}
    (hf : ∀ v u s2 x y H2, Inv X pins σ H2 s2 → RelV x v → RelV y u → R x y H2 → wpAny (model X.prog X.w) X.A (f v u) Q X.xe s2) :
    wpAny (model X.prog X.w) X.A (eval a X.env) (fun v s₁ => wpAny (model X.prog X.w) X.A (eval b X.env) (fun u s₂ => wpAny (model X.prog X.w) X.A (f v u) Q X.xe s₂) X.xe s₁) X.xe s := by
  refine thn (ha pins s σ H _ I h) fun v s1 ⟨x, H1, I1, r1, q1⟩ => ?_
  refine thn (hb pins s1 σ H1 _ I1 q1) fun u s2 ⟨y, H2, I2, r2, q2⟩ => ?_
  exact hf v u s2 x y H2 I2 r1 r2 q2

theorem pe_op {op : Operator} {r : R2} (ho : OpR X (binaryOp op) r) (ha : PE X a ta) (hb : PE X b tb) : PE X (.BinOp a op b pos) (tOp r ta tb) := by
  intro pins s σ H Q I h
  exact wpAny_BinOp (binT ha hb I h fun v u s2 x y H2 I2 rx ry q => ho pins s2 σ H2 x y v u Q I2 rx ry q)
theorem pe_un {op : UnaryOp} {r : V → Hp → VK → Prop} (ho : UnR X (unaryOp op) r) (ha : PE X a ta) : PE X (.UnaryOp op a pos) (tUn r ta) := by
  intro pins s σ H Q I h
  exact UnaryOp_ (thn (ha pins s σ H _ I h) fun v s1 ⟨x, H1, I1, r1, q1⟩ => ho pins s1 σ H1 x v Q I1 r1 q1)
theorem opI {f : Value → Value → Sem Value} {C : Int → Int → Prop} {g : Int → Int → Int}
    (rule : ∀ (i j : Int) (t u : Tok) (s : Shared) (Q : Value → Shared → Prop) (E : Value → Shared → Prop), C i j → Q (.int (g i j) s.toks) { s with toks := s.toks + 1 } → wpAny (model X.prog X.w) X.A (f (.int i t) (.int j u)) Q E s) :
    OpR X f (rI C fun i j => .int (g i j)) := by
  intro pins s σ H x y v u Q I rx ry h
  obtain ⟨i, j, rfl, rfl, hc, q⟩ := h
  obtain ⟨t, rfl⟩ := rx
  obtain ⟨t', rfl⟩ := ry
  exact rule i j t t' s _ _ hc ⟨.int (g i j), H, I.tok _, ⟨_, rfl⟩, q⟩
theorem opI0 {f : Value → Value → Sem Value} {g : Int → Int → Int}
    (rule : ∀ (i j : Int) (t u : Tok) (s : Shared) (Q : Value → Shared → Prop) (E : Value → Shared → Prop), Q (.int (g i j) s.toks) { s with toks := s.toks + 1 } → wpAny (model X.prog X.w) X.A (f (.int i t) (.int j u)) Q E s) :
    OpR X f (rI0 fun i j => .int (g i j)) := by
  intro pins s σ H x y v u Q I rx ry h
  obtain ⟨i, j, rfl, rfl, q⟩ := h
  obtain ⟨t, rfl⟩ := rx
  obtain ⟨t', rfl⟩ := ry
  exact rule i j t t' s _ _ ⟨.int (g i j), H, I.tok _, ⟨_, rfl⟩, q⟩
theorem opB0 {f : Value → Value → Sem Value} {g : Int → Int → Bool}
    (rule : ∀ (i j : Int) (t u : Tok) (s : Shared) (Q : Value → Shared → Prop) (E : Value → Shared → Prop), Q (.bool (g i j)) s → wpAny (model X.prog X.w) X.A (f (.int i t) (.int j u)) Q E s) :
    OpR X f (rI0 fun i j => .bl (g i j)) := by
  intro pins s σ H x y v u Q I rx ry h
  obtain ⟨i, j, rfl, rfl, q⟩ := h
  obtain ⟨t, rfl⟩ := rx
  obtain ⟨t', rfl⟩ := ry
  exact rule i j t t' s _ _ ⟨.bl (g i j), H, I, rfl, q⟩

def CDiv (i j : Int) : Prop := 0 < j ∧ j < 1073741824
def CDivN (i j : Int) : Prop := j ≠ 0 ∧ j.natAbs < 1073741824
def CPow (i j : Int) : Prop := 0 ≤ j ∧ j ≤ 1000000 ∧ i.natAbs < 2 ^ 64
def CMul (i j : Int) : Prop := (-(2 ^ 64) < i ∧ i < 2 ^ 64) ∨ (-(2 ^ 64) < j ∧ j < 2 ^ 64)
theorem CMul.ok {i j : Int} (h : CMul i j) : IntMulOk i j := by
  rcases h with ⟨h1, h2⟩ | ⟨h1, h2⟩
  · exact .of_left (intBits_le_64 h1 h2)
  · exact .of_right (intBits_le_64 h1 h2)
theorem two_pow_nn (k : Nat) : (0 : Int) ≤ 2 ^ k := by
  rw [two_pow_cast]
  exact Int.natCast_nonneg _

theorem op_add : OpR X (binaryOp .Add) (rI0 fun i j => .int (i + j)) := opI0 fun _ _ _ _ _ _ _ q => add_int q
theorem op_sub : OpR X (binaryOp .Sub) (rI0 fun i j => .int (i - j)) := opI0 fun _ _ _ _ _ _ _ q => sub_int q
/-- % by a positive divisor of any size -/
theorem op_mod : OpR X (binaryOp .Mod) (rI (fun _ j => 0 < j) fun i j => .int (i % j)) := opI fun i j _ _ _ _ _ hc q => by
  have h1 : (0 : Int) < j := hc
  exact mod_int' (by omega) (by rw [Int.fmod_eq_emod_of_nonneg i (by omega)]; exact q)
theorem op_shl : OpR X (binaryOp .LShift) (rI CPow fun i j => .int (i * 2 ^ j.toNat)) := opI fun _ _ _ _ _ _ _ hc q => lshift_int_small hc.1 hc.2.1 hc.2.2 q
theorem op_shr : OpR X (binaryOp .RShift) (rI (fun _ j => 0 ≤ j) fun i j => .int (i / 2 ^ j.toNat)) := opI fun i j _ _ _ _ _ hc q =>
  rshift_int hc (by rw [Int.fdiv_eq_ediv_of_nonneg i (two_pow_nn _)]; exact q)
theorem op_or : OpR X (binaryOp .BitOr) (rI0 fun i j => .int (Builtin.bitOr i j)) := opI0 fun _ _ _ _ _ _ _ q => or_int q
theorem unI {f : Value → Sem Value} {g : Int → Int}
    (rule : ∀ (i : Int) (t : Tok) (s : Shared) (Q : Value → Shared → Prop) (E : Value → Shared → Prop), Q (.int (g i) s.toks) { s with toks := s.toks + 1 } → wpAny (model X.prog X.w) X.A (f (.int i t)) Q E s) :
    UnR X f (rU fun i => .int (g i)) := by
  intro pins s σ H x v Q I rx h
  obtain ⟨i, rfl, q⟩ := h
  obtain ⟨t, rfl⟩ := rx
  exact rule i t s _ _ ⟨.int (g i), H, I.tok _, ⟨_, rfl⟩, q⟩
theorem un_neg : UnR X (unaryOp .USub) (rU fun i => .int (-i)) := unI fun _ _ _ _ _ q => neg_int q
end

/-- the scalars that == tells apart as data does -/
def scal : V → V → Bool
  | .non, .non => true | .non, .int _ => true | .int _, .non => true | .non, .bl _ => true | .bl _, .non => true | .non, .str _ => true | .str _, .non => true
  | .int _, .int _ => true | .bl _, .bl _ => true | .str _, .str _ => true | .byt _, .byt _ => true
  | .int _, .str _ => true | .str _, .int _ => true | .bl _, .str _ => true | .str _, .bl _ => true
  | _, _ => false
def rEq : R2 := fun x y H Q => scal x y = true ∧ Q (.bl (decide (x = y))) H
def rNe : R2 := fun x y H Q => scal x y = true ∧ Q (.bl (!decide (x = y))) H

theorem dec_int {i j : Int} : decide (V.int i = V.int j) = (i == j) := by
  rw [Bool.eq_iff_iff]
  simp
theorem dec_bl {i j : Bool} : decide (V.bl i = V.bl j) = (i == j) := by
  rw [Bool.eq_iff_iff]
  simp
theorem dec_str {i j : Str} : decide (V.str i = V.str j) = (i == j) := by
  rw [Bool.eq_iff_iff]
  simp
theorem dec_byt {i j : Array UInt8} : decide (V.byt i = V.byt j) = (i.toList == j.toList) := by
  rw [Bool.eq_iff_iff]
  cases i
  cases j
  simp

section
variable {X : Cx} {a b c : Expr} {ta tb tc : TE} {pos : Pos}
theorem fin_bl {pins : List (Addr × Obj)} {σ : St} {H : Hp} {s : Shared} {Q : VK} {k k' : Bool} (I : Inv X pins σ H s) (q : Q (.bl k) H) (e : k = k') : EP X pins σ Q (.bool k') s := by
  subst e
  exact ⟨.bl k, H, I, rfl, q⟩
theorem op_eq : OpR X (compareOp .Eq) rEq := by
  intro pins s σ H x y v u Q I rx ry h
  obtain ⟨hs, q⟩ := h
  cases x with
  | non =>
    cases rx
    cases y with
    | non => cases ry; exact PySem.EqNone.eq_none_none (fin_bl I q (by simp))
    | bl j => cases ry; exact PySem.EqNone.eq_none_bool (fin_bl I q (by simp))
    | int j => obtain ⟨t', rfl⟩ := ry; exact PySem.EqNone.eq_none_int (fin_bl I q (by simp))
    | str j => obtain ⟨t', rfl⟩ := ry; exact PySem.EqNone.eq_none_str (fin_bl I q (by simp))
    | _ => exact absurd (show false = true from hs) Bool.false_ne_true
  | bl i =>
    cases rx
    cases y with
    | non => cases ry; exact PySem.EqNone.eq_bool_none (fin_bl I q (by simp))
    | bl j => cases ry; exact eq_bool (fin_bl I q dec_bl)
    | str j => obtain ⟨t', rfl⟩ := ry; exact PySem.EqMixed.eq_bool_str (fin_bl I q (by simp))
    | _ => exact absurd (show false = true from hs) Bool.false_ne_true
  | int i =>
    obtain ⟨t, rfl⟩ := rx
    cases y with
    | non => cases ry; exact PySem.EqNone.eq_int_none (fin_bl I q (by simp))
    | int j => obtain ⟨t', rfl⟩ := ry; exact eq_int (fin_bl I q dec_int)
    | str j => obtain ⟨t', rfl⟩ := ry; exact PySem.EqMixed.eq_int_str (fin_bl I q (by simp))
    | _ => exact absurd (show false = true from hs) Bool.false_ne_true
  | str i =>
    obtain ⟨t, rfl⟩ := rx
    cases y with
    | non => cases ry; exact PySem.EqNone.eq_str_none (fin_bl I q (by simp))
    | bl j => cases ry; exact PySem.EqMixed.eq_str_bool (fin_bl I q (by simp))
    | int j => obtain ⟨t', rfl⟩ := ry; exact PySem.EqMixed.eq_str_int (fin_bl I q (by simp))
    | str j => obtain ⟨t', rfl⟩ := ry; exact eq_str (fin_bl I q dec_str)
    | _ => exact absurd (show false = true from hs) Bool.false_ne_true
  | byt i =>
    obtain ⟨t, rfl⟩ := rx
    cases y with
    | byt j => obtain ⟨t', rfl⟩ := ry; exact PySem.W.eq_bytes (fin_bl I q dec_byt)
    | _ => exact absurd (show false = true from hs) Bool.false_ne_true
  | _ => cases y <;> exact absurd (show false = true from hs) Bool.false_ne_true
theorem op_ne : OpR X (compareOp .NotEq) rNe := by
  intro pins s σ H x y v u Q I rx ry h
  obtain ⟨hs, q⟩ := h
  cases x with
  | non =>
    cases rx
    cases y with
    | non => cases ry; exact PySem.EqNone.ne_none_none (fin_bl I q (by simp))
    | bl j => cases ry; exact PySem.EqNone.ne_none_bool (fin_bl I q (by simp))
    | int j => obtain ⟨t', rfl⟩ := ry; exact PySem.EqNone.ne_none_int (fin_bl I q (by simp))
    | str j => obtain ⟨t', rfl⟩ := ry; exact PySem.EqNone.ne_none_str (fin_bl I q (by simp))
    | _ => exact absurd (show false = true from hs) Bool.false_ne_true
  | bl i =>
    cases rx
    cases y with
    | non => cases ry; exact PySem.EqNone.ne_bool_none (fin_bl I q (by simp))
    | bl j => cases ry; exact ne_bool (fin_bl I q (congrArg not dec_bl))
    | str j => obtain ⟨t', rfl⟩ := ry; exact PySem.EqMixed.ne_bool_str (fin_bl I q (by simp))
    | _ => exact absurd (show false = true from hs) Bool.false_ne_true
  | int i =>
    obtain ⟨t, rfl⟩ := rx
    cases y with
    | non => cases ry; exact PySem.EqNone.ne_int_none (fin_bl I q (by simp))
    | int j => obtain ⟨t', rfl⟩ := ry; exact ne_int (fin_bl I q (congrArg not dec_int))
    | str j => obtain ⟨t', rfl⟩ := ry; exact PySem.EqMixed.ne_int_str (fin_bl I q (by simp))
    | _ => exact absurd (show false = true from hs) Bool.false_ne_true
  | str i =>
    obtain ⟨t, rfl⟩ := rx
    cases y with
    | non => cases ry; exact PySem.EqNone.ne_str_none (fin_bl I q (by simp))
    | bl j => cases ry; exact PySem.EqMixed.ne_str_bool (fin_bl I q (by simp))
    | int j => obtain ⟨t', rfl⟩ := ry; exact PySem.EqMixed.ne_str_int (fin_bl I q (by simp))
    | str j => obtain ⟨t', rfl⟩ := ry; exact ne_str (fin_bl I q (congrArg not dec_str))
    | _ => exact absurd (show false = true from hs) Bool.false_ne_true
  | byt i =>
    obtain ⟨t, rfl⟩ := rx
    cases y with
    | byt j => obtain ⟨t', rfl⟩ := ry; exact PySem.W.ne_bytes (fin_bl I q (congrArg not dec_byt))
    | _ => exact absurd (show false = true from hs) Bool.false_ne_true
  | _ => cases y <;> exact absurd (show false = true from hs) Bool.false_ne_true

theorem op_lt : OpR X (compareOp .Lt) (rI0 fun i j => .bl (decide (i < j))) := opB0 fun _ _ _ _ _ _ _ q => lt_int q
theorem op_le : OpR X (compareOp .LtE) (rI0 fun i j => .bl (decide (i ≤ j))) := opB0 fun _ _ _ _ _ _ _ q => le_int q
/-- is, is not of two objects that are tracked lists or instances -/
def isObj : HO → Bool
  | .lst _ => true
  | .ins _ _ _ => true
  | _ => false
/-- two rules for one operation: by cases -/
theorem OpR.or {f : Value → Value → Sem Value} {r r' : R2} (h : OpR X f r) (h' : OpR X f r') : OpR X f (fun x y H Q => r x y H Q ∨ r' x y H Q) := by
  intro pins s σ H x y v u Q I rx ry q
  rcases q with q | q
  · exact h pins s σ H x y v u Q I rx ry q
  · exact h' pins s σ H x y v u Q I rx ry q

theorem nomark (b : Expr) {op : CmpOp} (h : op ≠ .In := by decide) (h2 : op ≠ .NotIn := by decide) : behindInMarks op b = false := by
  have e1 : (op == CmpOp.In) = false := by cases op <;> first | rfl | exact absurd rfl h
  have e2 : (op == CmpOp.NotIn) = false := by cases op <;> first | rfl | exact absurd rfl h2
  cases b <;> simp [behindInMarks, e1, e2]
/-- a comparison as a value; hm: nomark b, or (for in, not in) by with_unfolding_all rfl -/
theorem pe_cmpR {op : CmpOp} {r : R2} (ho : OpR X (compareOp op) r) (ha : PE X a ta) (hb : PE X b tb) (hm : behindInMarks op b = false) : PE X (.Compare a [op] [b] pos) (tOp r ta tb) := by
  intro pins s σ H Q I h
  exact wpAny_Compare1 (binT ha hb I h fun v u s2 x y H2 I2 rx ry q => ho pins s2 σ H2 x y v u Q I2 rx ry q) hm
/-- a reading of a value as a test -/
def tTest (t : TE) : TT := fun σ H Q => t σ H fun x H' => ∃ k, x = .bl k ∧ Q k H'
theorem pt_cmpR {op : CmpOp} {r : R2} (ho : OpR X (compareOp op) r) (ha : PE X a ta) (hb : PE X b tb) (hm : behindInMarks op b = false) : PT X (.Compare a [op] [b] pos) (tTest (tOp r ta tb)) := by
  intro pins s σ H Q I h
  refine wpAny_isTrue_Compare1 (thn (ha pins s σ H _ I h) fun v s1 ⟨x, H1, I1, r1, q1⟩ => thn (hb pins s1 σ H1 _ I1 q1) fun u s2 ⟨y, H2, I2, r2, q2⟩ =>
    thn (ho pins s2 σ H2 x y v u _ I2 r1 r2 q2) fun c s3 ⟨z, H3, I3, r3, k, e, q3⟩ => ?_) hm
  subst e
  cases r3
  exact wpAny_truthy_bool ⟨H3, I3, q3⟩
/-- a op1 b op2 c -/
def tChain (r r' : R2) (ta tb tc : TE) : TE := fun σ H Q => ta σ H fun x H1 => tb σ H1 fun y H2 => r x y H2 fun z H3 => ∃ k, z = .bl k ∧
  (if k = true then tc σ H3 fun w' H4 => r' y w' H4 Q else Q (.bl false) H3)
/-- a value's truth by the abstract heap -/
def TruV (K : PySem.W.Frag) (x : V) (H : Hp) (k : Bool) : Prop :=
  match x with
  | .non => k = false
  | .bl b => k = b
  | .int i => k = (i != 0)
  | .str y => y.length ≤ sizeLine ∧ k = ((y.length : Int) != 0)
  | .byt y => y.size ≤ sizeLine ∧ k = ((y.size : Int) != 0)
  | .ref p => (∃ xs, SqL K H p xs ∧ k = !xs.isEmpty) ∨ (∃ xs, SqT K H p xs ∧ k = !xs.isEmpty) ∨ ∃ kvs, H p = some (.dK kvs) ∧ k = !kvs.isEmpty
  | _ => False
theorem line63 : (sizeLine : Nat) < 2 ^ 63 := by rw [sizeLine_eq]; decide
theorem op_add_str : OpR X (binaryOp .Add) (fun x y H Q => ∃ i j, x = .str i ∧ y = .str j ∧ i.length + j.length ≤ sizeLine ∧ Q (.str (i ++ j)) H) := by
  intro pins s σ H x y v u Q I rx ry h
  obtain ⟨i, j, rfl, rfl, hz, q⟩ := h
  obtain ⟨t, rfl⟩ := rx
  obtain ⟨t', rfl⟩ := ry
  exact add_str (fun t' tk => ⟨.str (i ++ j), H, I.tok _, ⟨_, rfl⟩, q⟩) hz
def PlainIxT (b : Expr) : Prop := ∀ o i, subscripted b false o i = operate [o, i] (getItem o i)
theorem vals1 {x : V} {us : List Value} (r : Vals [x] us) : ∃ u, us = [u] ∧ RelV x u := by
  cases r with
  | cons r1 r2 => cases r2; exact ⟨_, rfl, r1⟩
theorem vals2 {x y : V} {us : List Value} (r : Vals [x, y] us) : ∃ u w', us = [u, w'] ∧ RelV x u ∧ RelV y w' := by
  cases r with
  | cons r1 r2 =>
    cases r2 with
    | cons r3 r4 => cases r4; exact ⟨_, _, rfl, r1, r3⟩
/-- len of a str, a bytes, a list, a tuple -/
def LenV (K : PySem.W.Frag) (x : V) (H : Hp) (n : Nat) : Prop :=
  match x with
  | .str y => y.length ≤ sizeLine ∧ n = y.length
  | .byt y => y.size ≤ sizeLine ∧ n = y.size
  | .ref p => (∃ xs, SqL K H p xs ∧ n = xs.length) ∨ ∃ xs, SqT K H p xs ∧ n = xs.length
  | _ => False
end
end L2

namespace L2
open PySem PySem.Spec PyProof.Rows

structure ObjM (h : Heap) (x dx C : Addr) (mA : Str → Option Value) : Prop where
  obj : h.get? x = some (PySem.W.instObj C dx)
  ns : h.Ns1 dx mA
  ne : dx ≠ x

theorem lookIn_ns {h : Heap} {dx : Addr} {mA : Str → Option Value} (n : h.Ns1 dx mA) : ∃ od, h.get? dx = some od ∧ ∀ name, PySem.W.lookIn name od = some (mA name) := by
  obtain ⟨o, es, ep, ho, hd, hk, _, hm⟩ := n
  refine ⟨o, ho, fun name => ?_⟩
  have e := hm name
  unfold nsFind findBy at e
  rw [← Array.find?_toList] at e
  unfold PySem.W.lookIn
  rw [hd]
  dsimp only
  split
  · rename_i y q
    rw [q] at e
    exact congrArg some e
  · rename_i q
    rw [q] at e
    have a : es.toList.any (·.refKey) = false := by
      rw [List.any_eq_false]
      intro y hy
      obtain ⟨z, t, hkey⟩ := hk y (Array.mem_toList_iff.mp hy)
      simp [DictEntry.refKey, hkey]
    have a' : ¬ es.toList.any (·.refKey) = true := by rw [a]; exact Bool.false_ne_true
    rw [if_neg a']
    exact congrArg some e

theorem ObjM.look {h : Heap} {x dx C : Addr} {mA : Str → Option Value} (I : ObjM h x dx C mA) : ∃ od, PySem.W.InstAt h x (PySem.W.instObj C dx) C (some od) ∧ ∀ name, PySem.W.lookIn name od = some (mA name) :=
  let ⟨od, ho, hl⟩ := lookIn_ns I.ns
  ⟨od, ⟨I.obj, rfl, rfl, ho⟩, hl⟩

section
variable {prog : Program} {w : World} {A : Around} {E : Value → Shared → Prop} {s : Shared} {K : PySem.W.Frag} {x dx C f : Addr} {mA : Str → Option Value} {name : Str} {v : Value}

end

def putF (f : Str) (v : V) : List (Str × V) → List (Str × V)
  | [] => [(f, v)]
  | (g, x) :: r => if g = f then (g, v) :: r else (g, x) :: putF f v r
section
variable {P : Program} {w : World} {H H' : Hp} {h h' : Heap} {a C dx : Addr} {fs fs' : List (Str × V)}
theorem ins_get (hok : HOk P w H h) (e : H a = some (.ins C dx fs)) : ∃ mA, ObjM h a dx C mA ∧ (∀ f, RelO (fs.lookup f) (mA f)) ∧ PySem.Within mA (fs.map (·.1)) ∧ fs.length ≤ 1000 ∧ H dx = some (.own a) := by
  obtain ⟨d, z, ne, ob, mA, n, r, q⟩ := (show ObjOk P w H h a (.ins C dx fs) from hok a _ e)
  exact ⟨mA, ⟨ob, n, ne⟩, r, q, z, d⟩
end

structure Cls (K : PySem.W.Frag) (C : Addr) : Prop where
  pg : PySem.W.plainGet K C Str.empty = true
  hd : PySem.W.hasDictIn K C = true
  po : PySem.W.plainOver K C = true
  sa : PySem.W.findIn K (.ref C) "__setattr__" = some (some (.builtin "object.__setattr__"))
theorem Cls.get {K : PySem.W.Frag} {C : Addr} (c : Cls K C) (f : Str) : PySem.W.plainGet K C f = true := c.pg
/-- no class of it has the name -/
def NoAttr (K : PySem.W.Frag) (C : Addr) (f : Str) : Prop := PySem.W.findIn K (.ref C) f = some none
/-- a constant of the class -/
structure Con (K : PySem.W.Frag) (C : Addr) (f : Str) (v : V) (u : Value) : Prop where
  at_ : PySem.W.findIn K (.ref C) f = some (some u)
  rel : RelV v u
  get : PySem.W.specialIn K u "__get__" = some none
  cp : PySem.W.copiedNames.contains f = false
/-- a method: a plain def of the class or of one above it -/
structure Meth (K : PySem.W.Frag) (C : Addr) (m : Str) (f : Addr) : Prop where
  at_ : PySem.W.findIn K (.ref C) m = some (some (.ref f))
  fn : PySem.W.isFn K (.ref f) = true
  kp : PySem.W.keepIn K (.ref f) = true

section
variable {X : Cx} {pins : List (Addr × Obj)} {σ : St} {H : Hp} {s : Shared} {a C dx : Addr} {fs : List (Str × V)} {f : Str} {v : V} {A : Around} {E : Value → Shared → Prop}

/-- a new instance, tracked, without attributes -/
theorem Inv.made (I : Inv X pins σ H s) : Inv X pins σ (upd (upd H s.heap.objs.size (.own (s.heap.objs.size + 1))) (s.heap.objs.size + 1) (.ins C s.heap.objs.size []))
    { s with heap := (s.heap.push PySem.W.emptyDict).push (PySem.W.instObj C s.heap.objs.size) } := by
  have e1 : (s.heap.push PySem.W.emptyDict).get? s.heap.objs.size = some PySem.W.emptyDict := Heap.get?_push_size s.heap rfl
  have e2 : ((s.heap.push PySem.W.emptyDict).push (PySem.W.instObj C s.heap.objs.size)).get? (s.heap.objs.size + 1) = some (PySem.W.instObj C s.heap.objs.size) := by
    have := Heap.get?_push_size (s.heap.push PySem.W.emptyDict) (o := PySem.W.instObj C s.heap.objs.size) rfl
    rwa [Heap.size_push] at this
  have e3 : (s.heap.push PySem.W.emptyDict).Ns s.heap.objs.size (fun _ => none) := ⟨PySem.W.emptyDict, #[], _, e1, rfl, (fun e he => absurd he (by simp)), fun _ => rfl⟩
  have I1 := I.laid (a := s.heap.objs.size) (o := .own (s.heap.objs.size + 1)) (h' := s.heap.push PySem.W.emptyDict) (t' := s.toks) (fun b u q => Heap.get?_push_of_some _ q) (Nat.le_refl _) ⟨_, e1⟩
  refine I1.laid (a := s.heap.objs.size + 1) (o := .ins C s.heap.objs.size []) (t' := s.toks) (fun b u q => Heap.get?_push_of_some _ q) (Nat.le_of_eq (Heap.size_push _ _)) ?_
  have ne : s.heap.objs.size ≠ s.heap.objs.size + 1 := Nat.ne_of_lt (Nat.lt_succ_self _)
  refine ⟨by rw [upd_ne ne, upd_same], Nat.zero_le _, ne, e2, fun _ => none, (Heap.Ns1.of_empty e3).at fun o q => Heap.get?_push_of_some _ q, fun _ => True.intro, fun y hy => absurd rfl hy⟩

end

/-- e.f, an attribute of the instance -/
def tFld (K : PySem.W.Frag) (ta : TE) (f : Str) : TE := fun σ H Q => ta σ H fun x H1 => ∃ a C dx fs v, x = .ref a ∧ H1 a = some (.ins C dx fs) ∧ Cls K C ∧ NoAttr K C f ∧ fs.lookup f = some v ∧ Q v H1
/-- e.f, a constant of the class -/
def tCon (K : PySem.W.Frag) (ta : TE) (f : Str) : TE := fun σ H Q => ta σ H fun x H1 => ∃ a C dx fs v u, x = .ref a ∧ H1 a = some (.ins C dx fs) ∧ Cls K C ∧ Con K C f v u ∧ fs.lookup f = none ∧ Q v H1
/-- e.f = value -/
def sFld (K : PySem.W.Frag) (ta tv : TE) (f : Str) : TS := fun D σ H => tv σ H fun y H1 => ta σ H1 fun x H2 => ∃ a C dx fs, x = .ref a ∧ H2 a = some (.ins C dx fs) ∧ Cls K C ∧ NoAttr K C f ∧ fs.length < 1000 ∧
  D.nx σ (upd H2 a (.ins C dx (putF f y fs)))
/-- an augmented operator on two values -/
def InOp (X : Cx) (op : Operator) (rd : V → V → Hp → VK → Prop) : Prop :=
  ∀ (pins : List (Addr × Obj)) (s : Shared) (σ : St) (H : Hp) (x y : V) (u v : Value) (Q : VK), Inv X pins σ H s → RelV x u → RelV y v → rd x y H Q → wpAny (model X.prog X.w) X.A (inplaceOp op u v) (EP X pins σ Q) X.xe s
/-- e.f op= value -/
def sFldAug (K : PySem.W.Frag) (ta tv : TE) (rd : V → V → Hp → VK → Prop) (f : Str) : TS := fun D σ H => ta σ H fun x H1 => ∃ a C dx fs v, x = .ref a ∧ H1 a = some (.ins C dx fs) ∧ Cls K C ∧ NoAttr K C f ∧ fs.lookup f = some v ∧
  tv σ H1 fun y H2 => rd v y H2 fun z H3 => ∃ dx' fs', H3 a = some (.ins C dx' fs') ∧ fs'.length < 1000 ∧ D.nx σ (upd H3 a (.ins C dx' (putF f z fs')))

section
variable {X : Cx} {o e value : Expr} {f : Str} {pos pos' tpos : Pos} {ta tv : TE}
def rAdd : V → V → Hp → VK → Prop := fun x y H Q => ∃ i j, x = .int i ∧ y = .int j ∧ Q (.int (i + j)) H
def rSub : V → V → Hp → VK → Prop := fun x y H Q => ∃ i j, x = .int i ∧ y = .int j ∧ Q (.int (i - j)) H
end

section
variable {X : Cx} {pins : List (Addr × Obj)} {σ : St} {H : Hp} {s : Shared} {A : Around} {E : Value → Shared → Prop} {Q : Value → Shared → Prop} {c : Value} {b : Bool}
/-- the type of a value, as the fragment's deciders take it; for an instance its class -/
inductive TyOf (K : PySem.W.Frag) (H : Hp) : V → Value → Prop where
  | non : TyOf K H .non (.type "NoneType")
  | bl (x : Bool) : TyOf K H (.bl x) (.type "bool")
  | int (i : Int) : TyOf K H (.int i) (.type "int")
  | str (x : Str) : TyOf K H (.str x) (.type "str")
  | flt (x : UInt64) : TyOf K H (.flt x) (.type "float")
  | lst {a : Addr} {xs : List V} (e : H a = some (.lst xs)) : TyOf K H (.ref a) (.type "list")
  | frz {a : Addr} {o : Obj} {xs : List V} (e : H a = some (.frz o (.lst xs))) : TyOf K H (.ref a) (.type "list")
  | tup {a : Addr} {xs : List V} (e : H a = some (.tup xs)) : TyOf K H (.ref a) (.type "tuple")
  | dK {a : Addr} {kvs : List (Key × V)} (e : H a = some (.dK kvs)) : TyOf K H (.ref a) (.type "dict")
  | dT {a : Addr} {kvs : List (List Key × V)} (e : H a = some (.dT kvs)) : TyOf K H (.ref a) (.type "dict")
  | ins {a C dx : Addr} {fs : List (Str × V)} (e : H a = some (.ins C dx fs)) (cl : Cls K C) (ha : PySem.W.findIn K (.ref C) "__class__" = some (some (.builtin "object.__class__")))
      (hn : PySem.W.specialIn K (.builtin "object.__class__") "__get__" = some (some (.builtin "getset_descriptor.__get__"))) (htk : PySem.W.takesIn K (.builtin "object.__class__") = some true)
      (hm : PySem.W.mroIn K C (.type "object") = some true) : TyOf K H (.ref a) (.ref C)
/-- isinstance(x, c) for one class c, a built-in or an own one: kitOne's answer -/
theorem isinst_ok {x : V} {u t : Value} (I : Inv X pins σ H s) (rx : RelV x u) (ty : TyOf X.K H x t) (e : PySem.W.kitOne X.K t c = some b) (h : ∀ tk, Q (.bool b) { s with toks := tk }) :
    wpAny (model X.prog X.w) A (call (.builtin "isinstance") [u, c]) Q E s := by
  cases ty with
  | non => cases (show u = Value.none from rx); exact PySem.W.kia_one PySem.W.kitx_none I.kIn True.intro e (fun z => nomatch z) h
  | bl y => cases (show u = Value.bool y from rx); exact PySem.W.kia_one PySem.W.kitx_bool I.kIn True.intro e (fun z => nomatch z) h
  | int i => obtain ⟨t, q⟩ := (show ∃ t, u = Value.int i t from rx); cases q; exact PySem.W.kia_one PySem.W.kitx_int I.kIn True.intro e (fun z => nomatch z) h
  | str y => obtain ⟨t, q⟩ := (show ∃ t, u = Value.str y t from rx); cases q; exact PySem.W.kia_one PySem.W.kitx_str I.kIn True.intro e (fun z => nomatch z) h
  | flt y => obtain ⟨t, q⟩ := (show ∃ t, u = Value.float y t from rx); cases q; exact PySem.W.kia_one PySem.W.kitx_float I.kIn True.intro e (fun z => nomatch z) h
  | @lst a xs ea =>
    cases (show u = Value.ref a from rx)
    obtain ⟨_, _, n, _, h1⟩ := (show ObjOk X.prog X.w H s.heap a (.lst xs) from I.hok a _ ea)
    exact PySem.W.kia_one PySem.W.kitx_list I.kIn ⟨_, h1, rfl⟩ e (fun z => nomatch z) h
  | @frz a ob xs ea =>
    cases (show u = Value.ref a from rx)
    obtain ⟨_, _, _, n, _, h1⟩ := (show ObjOk X.prog X.w H s.heap a (.frz ob (.lst xs)) from I.hok a _ ea)
    exact PySem.W.kia_one PySem.W.kitx_list I.kIn ⟨_, h1, rfl⟩ e (fun z => nomatch z) h
  | @tup a xs ea =>
    cases (show u = Value.ref a from rx)
    obtain ⟨_, _, _, p⟩ := (show ObjOk X.prog X.w H s.heap a (.tup xs) from I.hok a _ ea)
    obtain ⟨o, h1, h2, _⟩ := p
    exact PySem.W.kia_one PySem.W.kitx_tuple I.kIn ⟨o, h1, h2⟩ e (fun z => nomatch z) h
  | @dK a kvs ea =>
    cases (show u = Value.ref a from rx)
    obtain ⟨_, _, vs, _, p⟩ := (show ObjOk X.prog X.w H s.heap a (.dK kvs) from I.hok a _ ea)
    obtain ⟨o, es, ep, h1, h2, _⟩ := p
    exact PySem.W.kia_one PySem.W.kitx_dict I.kIn ⟨o, h1, h2.1⟩ e (fun z => nomatch z) h
  | @dT a kvs ea =>
    cases (show u = Value.ref a from rx)
    obtain ⟨_, _, xs, _, o, es, ep, h1, h2, _⟩ := (show ObjOk X.prog X.w H s.heap a (.dT kvs) from I.hok a _ ea)
    exact PySem.W.kia_one PySem.W.kitx_dict I.kIn ⟨o, h1, h2.1⟩ e (fun z => nomatch z) h
  | @ins a C dx fs ea cl ha hn htk hm =>
    cases (show u = Value.ref a from rx)
    obtain ⟨mA, O, _⟩ := ins_get I.hok ea
    obtain ⟨od, J, _⟩ := O.look
    exact PySem.W.kia_one (PySem.W.kitx_own (cl.get _) cl.hd ha hn htk hm) I.kIn J e (fun z => nomatch z) h
end
end L2

namespace L2
open PySem PySem.Spec PyProof.Rows

structure Room (k : Nat) (A : Around) : Prop where
  hd : A.handled = none
  dp : A.depth + 3 * k + 5 < recursionLimit
  un : A.units + 16 * k + 200 < cLine
theorem Room.mono {j k : Nat} {A : Around} (r : Room k A) (h : j ≤ k) : Room j A := ⟨r.hd, by have := r.dp; omega, by have := r.un; omega⟩
theorem Room.deeper {k : Nat} {A : Around} (r : Room (k + 1) A) (env : Env) : Room k (A.deeper env) :=
  ⟨r.hd, by have := r.dp; show A.depth + 1 + 3 * k + 5 < _; omega, by have := r.un; show A.units + 3 + 16 * k + 200 < _; omega⟩
theorem Room.in1 {k : Nat} {A : Around} (r : Room (k + 1) A) : Room k A.in1 :=
  ⟨r.hd, by have := r.dp; show A.depth + 3 * k + 5 < _; omega, by have := r.un; show A.units + 1 + 16 * k + 200 < _; omega⟩
theorem Room.depth {k : Nat} {A : Around} (r : Room k A) : A.depth < recursionLimit := by have := r.dp; omega
theorem Room.units {k : Nat} {A : Around} (r : Room k A) : A.units + 64 < cLine := by have := r.un; omega
def tNil : TA := fun _ H Q => Q [] H
def tCons (ta : TE) (tr : TA) : TA := fun σ H Q => ta σ H fun x H1 => tr σ H1 fun xs H2 => Q (x :: xs) H2
section
variable {X : Cx} {e : Expr} {es : List Expr} {te : TE} {t : TA} {pos : Pos}
theorem pa_nil : PA X [] tNil := fun _ _ _ _ H Q I h => Calls.spliced_nil ⟨[], H, I, .nil, h⟩
theorem pa_cons (ha : PE X e te) (hr : PA X es t) (hs : starEach (e :: es) X.env = (false, eval e X.env) :: starEach es X.env := by rfl) : PA X (e :: es) (tCons te t) := by
  intro pos pins s σ H Q I h
  rw [hs]
  show wpAny _ _ (spliced ((false, eval e X.env) :: backTo pos (starEach es X.env))) _ _ s
  refine Calls.spliced_cons (thn (ha pins s σ H _ I h) fun u s1 ⟨x, H1, I1, r1, q1⟩ => ?_)
  exact thn (hr pos pins s1 σ H1 _ I1 q1) fun us s2 ⟨xs, H2, I2, r2, q2⟩ => ⟨x :: xs, H2, I2, .cons r1 r2, q2⟩

/-- a tuple, a list of written items -/
def tTup (t : TA) : TE := fun σ H Q => t σ H fun xs H1 => xs.length ≤ sizeLine ∧ ∀ p, H1 p = none → Q (.ref p) (upd H1 p (.tup xs))
def tLst (t : TA) : TE := fun σ H Q => t σ H fun xs H1 => xs.length ≤ sizeLine ∧ ∀ p, H1 p = none → Q (.ref p) (upd H1 p (.lst xs))
theorem pe_tup {x1} (h : PA X es t) : PE X (.Tuple es x1 pos) (tTup t) := by
  intro pins s σ H Q I hq
  refine wpAny_Tuple_spliced (thn (h pos pins s σ H _ I hq) fun us s1 ⟨xs, H1, I1, r, z, q⟩ => ⟨by rw [← r.length]; exact z, ?_⟩)
  have hf : H1 s1.heap.objs.size = none := I1.hok.fresh (Nat.le_refl _)
  refine ⟨.ref s1.heap.objs.size, upd H1 s1.heap.objs.size (.tup xs), I1.laid (t' := s1.toks) (fun b u e => Heap.get?_push_of_some _ e) (Nat.le_refl _) ?_, rfl, q _ hf⟩
  exact ⟨z, us, r, ⟨_, Heap.get?_push_size _ rfl, rfl, _, rfl⟩⟩
theorem pe_lst (h : PA X es t) : PE X (.List es pos) (tLst t) := by
  intro pins s σ H Q I hq
  refine wpAny_List_spliced (thn (h pos pins s σ H _ I hq) fun us s1 ⟨xs, H1, I1, r, z, q⟩ => ⟨by rw [← r.length]; exact z, ?_⟩)
  have hf : H1 s1.heap.objs.size = none := I1.hok.fresh (Nat.le_refl _)
  refine ⟨.ref s1.heap.objs.size, upd H1 s1.heap.objs.size (.lst xs), I1.laid (t' := s1.toks) (fun b u e => Heap.get?_push_of_some _ e) (Nat.le_refl _) ?_, rfl, q _ hf⟩
  exact ⟨z, us, 0, r, Heap.get?_push_size _ rfl⟩
end

/-- a def's promise: the bound arguments in the parameters' order, the heap, the wanted end, the wanted exception -/
abbrev Sp := List V → Hp → VK → XK → Prop
/-- how an exception lies behind a call (file 08 gives it): the callers' frames, abstract heap and state ahead of the call, the wish, the exception, the state -/
abbrev CXT := List Env → Hp → Shared → XK → Value → Shared → Prop

/-- the state at a call -/
structure Env0 (P : Program) (w : World) (K : PySem.W.Frag) (mg : Str → Option Value) (base : Heap) (A : Around) (outer : List Env) (s : Shared) (H : Hp) : Prop where
  frames : A.frames = some outer
  mod : Mod K mg base
  bs : ∀ b o, base.get? b = some o → s.heap.get? b = some o ∧ H b = none
  bsz : base.objs.size ≤ s.heap.objs.size
  funs : s.heap.FunFrames base outer
  frf : ∀ b ∈ frs outer, H b = none
  hok : HOk P w H s.heap
  bare : AllBare s.gens
/-- a call's end -/
def CE (outer : List Env) (P : Program) (w : World) (H : Hp) (s : Shared) (Q : VK) (u : Value) (s' : Shared) : Prop :=
  ∃ v H', s'.os = s.os ∧ AllBare s'.gens ∧ Un (frs outer) [] H H' s.heap s'.heap ∧ HOk P w H' s'.heap ∧ RelV v u ∧ Q v H'
def CR (CX : CXT) (outer : List Env) (P : Program) (w : World) (H : Hp) (s : Shared) (Q : VK) (E : XK) (r : Result) (s' : Shared) : Prop :=
  match r with
  | .ok (.ret u) => CE outer P w H s Q u s'
  | .ok _ => False
  | .error e => CX outer H s E e s'
structure FnOk (P : Program) (w : World) (K : PySem.W.Frag) (mg : Str → Option Value) (base : Heap) (CX : CXT) (k : Nat) (f : Addr) (fd : FuncData) (ps : List Str) (sp : Sp) : Prop where
  len : ∀ vs H Q E, sp vs H Q E → vs.length = ps.length
  run : ∀ (A : Around) (outer : List Env) (s : Shared) (H : Hp) (args : Args) (us : List Value) (vs : List V) (Q : VK) (E : XK), Room k A → Env0 P w K mg base A outer s H → BindsTo s fd args (ps.zip us) → Vals vs us → sp vs H Q E →
    codeAny (model P w) A (.call (.ref f) args) (CR CX outer P w H s Q E) s
theorem FnOk.mono {P : Program} {w : World} {K : PySem.W.Frag} {mg : Str → Option Value} {base : Heap} {CX : CXT} {j k : Nat} {f : Addr} {fd : FuncData} {ps : List Str} {sp : Sp} (F : FnOk P w K mg base CX j f fd ps sp) (h : j ≤ k) :
    FnOk P w K mg base CX k f fd ps sp := ⟨F.len, fun A outer s H args us vs Q E hr => F.run A outer s H args us vs Q E (hr.mono h)⟩
/-- a weaker promise -/
theorem FnOk.imp {P : Program} {w : World} {K : PySem.W.Frag} {mg : Str → Option Value} {base : Heap} {CX : CXT} {k : Nat} {f : Addr} {fd : FuncData} {ps : List Str} {sp sp' : Sp} (F : FnOk P w K mg base CX k f fd ps sp)
    (h : ∀ vs H Q E, sp' vs H Q E → sp vs H Q E) : FnOk P w K mg base CX k f fd ps sp' :=
  ⟨fun vs H Q E q => F.len vs H Q E (h _ _ _ _ q), fun A outer s H args us vs Q E hr he hb hv hs => F.run A outer s H args us vs Q E hr he hb hv (h _ _ _ _ hs)⟩

theorem Env0.in1 {P : Program} {w : World} {K : PySem.W.Frag} {mg : Str → Option Value} {base : Heap} {A : Around} {outer : List Env} {s : Shared} {H : Hp} (e : Env0 P w K mg base A outer s H) :
    Env0 P w K mg base A.in1 outer s H := ⟨e.frames, e.mod, e.bs, e.bsz, e.funs, e.frf, e.hok, e.bare⟩

section
variable {X : Cx} {pins : List (Addr × Obj)} {σ : St} {H : Hp} {s s' : Shared}
/-- from a body: what a callee wants -/
theorem Inv.env0 (I : Inv X pins σ H s) : Env0 X.prog X.w X.K X.mg X.base X.A X.stack s H :=
  ⟨I.ok.frames, I.ok.mod, I.bs, Nat.le_trans I.ok.bsz I.sz, I.stack, I.stkFree, I.hok, I.bare⟩
/-- behind a call -/
theorem Inv.after {Q : VK} {u : Value} (I : Inv X pins σ H s) (h : CE X.stack X.prog X.w H s Q u s') : EP X pins σ Q u s' := by
  obtain ⟨v, H', os, bare, un, hok, r, q⟩ := h
  obtain ⟨hh, g, d, t, os'⟩ := s'
  obtain rfl : os' = s.os := os
  exact ⟨v, H', I.call (h' := hh) (g' := g) (d' := d) (t' := t) (ch := []) un hok bare (fun b z => absurd z (by simp)), r, q⟩
end

/-- f(..): the written arguments, then the defaults dvs; E: what is wanted of an exception -/
def tCall (sp : Sp) (dvs : List V) (E : XK) (t : TA) : TE := fun σ H Q => t σ H fun vs H1 => sp (vs ++ dvs) H1 Q E
/-- o.m(..) of an instance of the class at C -/
def tMeth (C : Addr) (m : Str) (sp : Sp) (dvs : List V) (E : XK) (ta : TE) (t : TA) : TE := fun σ H Q => ta σ H fun x H1 => ∃ a dx fs, x = .ref a ∧ H1 a = some (.ins C dx fs) ∧ fs.lookup m = none ∧
  t σ H1 fun vs H2 => sp (x :: (vs ++ dvs)) H2 Q E
/-- C(..): a new instance and its dict, then __init__ -/
def tMake (C : Addr) (sp : Sp) (dvs : List V) (E : XK) (t : TA) : TE := fun σ H Q => t σ H fun vs H1 => ∀ x dx, H1 x = none → H1 dx = none → dx ≠ x →
  sp (.ref x :: (vs ++ dvs)) (upd (upd H1 dx (.own x)) x (.ins C dx [])) (fun v H2 => v = .non ∧ Q (.ref x) H2) E

/-- how the parameters are bound: us the positional arguments, kw the keywords' values by name, ds the defaults that fill up -/
def Binds (K : PySem.W.Frag) (fd : FuncData) (ps : List Str) (ds : List Value) : Prop :=
  ∀ (s : Shared) (us : List Value), K.In s.heap → (us ++ ds).length = ps.length → BindsTo s fd ⟨us, []⟩ (ps.zip (us ++ ds))
/-- every parameter is given -/
theorem Binds.all {K : PySem.W.Frag} {fd : FuncData} {ps : List Str} (h : ∀ us : List Value, us.length = ps.length → bindArgs fd ⟨us, []⟩ = pure (ps.zip us)) : Binds K fd ps [] := fun s us _ hl => by
  rw [List.append_nil] at hl ⊢
  exact .of_eq (h us hl)

/-- an exception of a callee reaches what this body wants of exceptions -/
def Passes (CX : CXT) (X : Cx) (E : XK) : Prop := ∀ (pins : List (Addr × Obj)) (σ : St) (H : Hp) (s : Shared) (e : Value) (s' : Shared), Inv X pins σ H s → CX X.stack H s E e s' → X.xe e s'

section
variable {X : Cx} {CX : CXT} {k : Nat} {f C : Addr} {fd : FuncData} {ps : List Str} {sp : Sp} {dvs : List V} {ds : List Value} {E : XK} {x m : Str} {p pos apos : Pos} {e o : Expr} {es : List Expr} {ta : TE} {t : TA}

/-- the callee runs -/
theorem run_fn {pins : List (Addr × Obj)} {σ : St} {H : Hp} {s : Shared} {Q : VK} {us : List Value} {vs : List V} (F : FnOk X.prog X.w X.K X.mg X.base CX k f fd ps sp) (hr : Room k X.A) (hb : Binds X.K fd ps ds) (hd : Vals dvs ds) (hx : Passes CX X E)
    (I : Inv X pins σ H s) (r : Vals vs us) (h : sp (vs ++ dvs) H Q E) : wpAny (model X.prog X.w) X.A (call (.ref f) us) (EP X pins σ Q) X.xe s := by
  have r2 : Vals (vs ++ dvs) (us ++ ds) := r.append hd
  have hl : (us ++ ds).length = ps.length := by rw [← r2.length]; exact F.len _ _ _ _ h
  refine wpAny_call (codeAny_mono (F.run X.A X.stack s H ⟨us, []⟩ (us ++ ds) (vs ++ dvs) Q E hr I.env0 (hb s us I.kIn hl) r2 h) fun r s' hq => ?_)
  cases r with
  | error e => exact hx pins σ H s e s' I hq
  | ok fl =>
    cases fl with
    | ret u => exact I.after hq
    | next => exact False.elim hq
    | brk => exact False.elim hq
    | cont => exact False.elim hq

theorem pe_call (F : FnOk X.prog X.w X.K X.mg X.base CX k f fd ps sp) (hr : Room k X.A) (hg : Gl X x) (hm : X.mg x = some (.ref f)) (hk : PySem.W.keepIn X.K (.ref f) = true) (hb : Binds X.K fd ps ds) (hd : Vals dvs ds) (hx : Passes CX X E)
    (ha : PA X (e :: es) t) (hdb : (x == ("__debug__" : Str)) = false := by decide) (he : starEach (e :: es) X.env = (false, eval e X.env) :: starEach es X.env := by rfl) (hpl : (backTo pos (starEach es X.env)).any (·.1) = false := by rfl) :
    PE X (.Call (.Name x p) (e :: es) [] pos) (tCall sp dvs E t) := by
  intro pins s σ H Q I h
  refine wpAny_Call_Name_kw (ld_glob I hg hm ?_ hdb)
  refine PySem.W.callWith_K (h₀ := X.base) I.ok.mod.kin hk (thn (ha pos pins s σ H _ I h) fun us s1 ⟨vs, H1, I1, r, q⟩ => ⟨I1.kIn, ?_⟩) he hpl
  exact run_fn F hr hb hd hx I1 r q
/-- what a class must have to be made -/
structure Mk (K : PySem.W.Frag) (C f : Addr) : Prop where
  makes : PySem.W.makesIn K C = true
  init : PySem.W.findIn K (.ref C) "__init__" = some (some (.ref f))
  fn : PySem.W.isFn K (.ref f) = true
  kp : PySem.W.keepIn K (.ref C) = true

end

/-- the values of the keywords, from the left -/
def PK (X : Cx) (kws : List Keyword) (t : TA) : Prop :=
  ∀ (pos : Pos) (pins : List (Addr × Obj)) (s : Shared) (σ : St) (H : Hp) (Q : List V → Hp → Prop), Inv X pins σ H s → t σ H Q → wpAny (model X.prog X.w) X.A (evalAll ((backToKw pos (keywordEach kws X.env)).map (·.2))) (AP X pins σ Q) X.xe s
section
variable {X : Cx} {CX : CXT} {k : Nat} {f C : Addr} {fd : FuncData} {ps ks : List Str} {sp : Sp} {E : XK} {x m : Str} {p pos apos kpos : Pos} {e o : Expr} {es : List Expr} {kws : List Keyword} {te ta : TE} {t tk : TA} {nm : Option Str}
/-- how a call with keywords binds: g puts the positional values us and the keywords' values ws (names ks) in the parameters' order, defaults among them -/
structure KBinds (K : PySem.W.Frag) (fd : FuncData) (ps ks : List Str) (g : List Value → List Value → List Value) (gV : List V → List V → List V) : Prop where
  to : ∀ (s : Shared) (us ws : List Value), K.In s.heap → (g us ws).length = ps.length → BindsTo s fd ⟨us, ks.zip ws⟩ (ps.zip (g us ws))
  rel : ∀ {vs : List V} {us : List Value} {zs : List V} {ws : List Value}, Vals vs us → Vals zs ws → Vals (gV vs zs) (g us ws)
def tCallK (sp : Sp) (gV : List V → List V → List V) (E : XK) (t tk : TA) : TE := fun σ H Q => t σ H fun vs H1 => tk σ H1 fun zs H2 => sp (gV vs zs) H2 Q E
variable {g : List Value → List Value → List Value} {gV : List V → List V → List V}
end

/-- names: the parameters first -/
structure FnScope (N P : List Str) (sc : Scope) : Prop where
  kind : sc.kind = .function
  co : sc.isCoroutine = false
  gen : sc.isGenerator = false
  nd : N.Nodup
  pre : N.take P.length = P
  par : ∀ x ∈ P, sc.names.lookup x = some .local ∨ sc.names.lookup x = some .cell
  nofree : ∀ y ∈ sc.names, y.2 ≠ .free

theorem bindL_out {kindOf : Str → Option NameKind} {x : Str} : ∀ {binds : List (Str × Value)} {m : Str → Option Value}, (∀ v, (x, v) ∉ binds) → bindL kindOf binds m x = m x
  | [], _, _ => rfl
  | (n, v) :: r, m, h => by
    unfold bindL
    rw [bindL_out fun w hw => h w (List.mem_cons_of_mem _ hw)]
    split
    · have : x ≠ n := by rintro rfl; exact h v List.mem_cons_self
      simp [this]
    · rfl
theorem bindC_out {kindOf : Str → Option NameKind} {x : Str} : ∀ {binds : List (Str × Value)} {m : Str → Option Value}, (∀ v, (x, v) ∉ binds) → bindC kindOf binds m x = m x
  | [], _, _ => rfl
  | (n, v) :: r, m, h => by
    unfold bindC
    rw [bindC_out fun w hw => h w (List.mem_cons_of_mem _ hw)]
    split
    · rfl
    · have : x ≠ n := by rintro rfl; exact h v List.mem_cons_self
      simp [this]
theorem bindL_get {kindOf : Str → Option NameKind} {x : Str} {v : Value} : ∀ {P : List Str} {vs : List Value} {i : Nat} {m : Str → Option Value}, P.Nodup → P[i]? = some x → vs[i]? = some v → kindOf x = some .local →
    bindL kindOf (P.zip vs) m x = some v
  | [], _, _, _, _, h, _, _ => by simp at h
  | _ :: _, [], _, _, _, _, h, _ => by simp at h
  | p :: P, w :: vs, 0, m, nd, h1, h2, hk => by
    simp at h1 h2; subst h1; subst h2
    show bindL kindOf ((p, w) :: P.zip vs) m p = _
    unfold bindL
    rw [bindL_out fun v hv => (List.nodup_cons.mp nd).1 (List.of_mem_zip hv).1, if_pos hk]
    simp
  | p :: P, w :: vs, i + 1, m, nd, h1, h2, hk => by
    show bindL kindOf ((p, w) :: P.zip vs) m x = _
    unfold bindL
    exact bindL_get (i := i) (List.nodup_cons.mp nd).2 (by simpa using h1) (by simpa using h2) hk
theorem bindC_get {kindOf : Str → Option NameKind} {x : Str} {v : Value} : ∀ {P : List Str} {vs : List Value} {i : Nat} {m : Str → Option Value}, P.Nodup → P[i]? = some x → vs[i]? = some v → kindOf x ≠ some .local →
    bindC kindOf (P.zip vs) m x = some v
  | [], _, _, _, _, h, _, _ => by simp at h
  | _ :: _, [], _, _, _, _, h, _ => by simp at h
  | p :: P, w :: vs, 0, m, nd, h1, h2, hk => by
    simp at h1 h2; subst h1; subst h2
    show bindC kindOf ((p, w) :: P.zip vs) m p = _
    unfold bindC
    rw [bindC_out fun v hv => (List.nodup_cons.mp nd).1 (List.of_mem_zip hv).1, if_neg hk]
    simp
  | p :: P, w :: vs, i + 1, m, nd, h1, h2, hk => by
    show bindC kindOf ((p, w) :: P.zip vs) m x = _
    unfold bindC
    exact bindC_get (i := i) (List.nodup_cons.mp nd).2 (by simpa using h1) (by simpa using h2) hk

/-- the names' values at the entry -/
def start (N : List Str) (vs : List V) : St := vs.map some ++ List.replicate (N.length - vs.length) none

/-- the context of a def's body, at its entry; an exception leaves the frame, then lies as CX says -/
def cxOf (CX : CXT) (P : Program) (w : World) (K : PySem.W.Frag) (mg : Str → Option Value) (base : Heap) (N : List Str) (qual : Str) (scope : Scope) (f : Addr) (cd : Value) (A : Around) (outer : List Env) (s : Shared) (H : Hp) (E : XK) : Cx where
  prog := P
  w := w
  K := K
  mg := mg
  base := base
  A := A.deeper (envOfC qual scope s.heap.objs.size f cd)
  N := N
  s₀ := s
  H₀ := H
  env := envOfC qual scope s.heap.objs.size f cd
  outer := outer
  stack := envOfC qual scope s.heap.objs.size f cd :: outer
  ex := []
  calm := true
  fn := fun _ => true
  pn := []
  xe := fun e s' => wpAny (model P w) (A.deeper (envOfC qual scope s.heap.objs.size f cd)) (leaving (envOfC qual scope s.heap.objs.size f cd) e) (fun _ s'' => CX outer H s E e s'') (fun e' s'' => CX outer H s E e' s'') s'

theorem cell_has {sc : Scope} {n : Nat} {x : Str} (h : sc.names.lookup x = some .cell) : ∃ c, (cellsFrom n sc.names []).lookup x = some c := by
  have q := PySem.W.cellsFrom_some sc.names n [] (.inl h)
  exact Option.isSome_iff_exists.mp q

theorem inv_start {CX : CXT} {P : Program} {w : World} {K : PySem.W.Frag} {mg : Str → Option Value} {base : Heap} {N ps : List Str} {qual : Str} {scope : Scope} {f : Addr} {cd : Value} {A : Around} {outer : List Env} {s s1 : Shared} {H : Hp} {E : XK} {us : List Value} {vs : List V}
    (S : FnScope N ps scope) (hd : A.handled = none) (e0 : Env0 P w K mg base A outer s H) (hl : vs.length = ps.length) (r : Vals vs us)
    (x : InCallC s s.heap.objs.size (bindL (envOfC qual scope s.heap.objs.size f cd).kindOf (ps.zip us) fun _ => none) (cellsFrom (s.heap.objs.size + 1) scope.names []) (bindC (envOfC qual scope s.heap.objs.size f cd).kindOf (ps.zip us) fun _ => none) s1) :
    Inv (cxOf CX P w K mg base N qual scope f cd A outer s H E) [] (start N vs) H s1 := by
  have hpl : ps.length ≤ N.length := by have := congrArg List.length S.pre; rw [List.length_take] at this; omega
  obtain ⟨h1, tk, rfl, hk⟩ := x.done
  have noA : ∀ b : Addr, b ∉ (cxOf CX P w K mg base N qual scope f cd A outer s H E).ex := fun b z => absurd (show b ∈ ([] : List Addr) from z) (by simp)
  refine ⟨⟨e0.mod, S.kind, rfl, rfl, Nat.le_refl _, fun y z c h1 h2 => ?_, fun y hy => ?_, fun y c _ h => ?_, fun _ => hd, Around.frames_deeper e0.frames, .inr ⟨rfl, rfl⟩, fun b z => absurd z (noA b), e0.bs, e0.bsz, fun b _ _ => noA b, fun b z => absurd z (noA b), e0.funs, e0.frf⟩,
    rfl, e0.bare, Un.kept hk, ⟨_, x.toInCall.ns, fun i y v h1 h2 h3 => ?_⟩, fun y c h => ⟨_, x.cell y c h⟩, e0.hok.fresh (Nat.le_refl _), fun y c h => ?_, fun p hp => absurd (show p ∈ ([] : List (Addr × Obj)) from hp) (by simp), e0.hok.kept hk, ?_⟩
  · exact name_of_addr x.apart (PySem.mem_of_lookup h1) (PySem.mem_of_lookup h2)
  · have hy : scope.names.lookup y = some .cell ∨ scope.names.lookup y = some .free := hy
    rcases hy with hy | hy
    · exact cell_has hy
    · exact absurd rfl (S.nofree _ (PySem.mem_of_lookup hy))
  · exact Nat.le_of_lt (x.above y c (PySem.mem_of_lookup h))
  · have hi : i < vs.length := by
      unfold start at h2
      by_cases hi : i < vs.length
      · exact hi
      · rw [List.getElem?_append_right (by simpa using hi)] at h2
        rw [List.getElem?_replicate] at h2
        split at h2 <;> cases h2
    have ha : vs[i]? = some v := by
      unfold start at h2
      rw [List.getElem?_append_left (by simpa using hi), List.getElem?_map] at h2
      cases e : vs[i]? with
      | none => rw [e] at h2; cases h2
      | some a => rw [e] at h2; cases h2; rfl
    obtain ⟨u, hu, rv⟩ := r.get ha
    have hp : ps[i]? = some y := by
      rw [← S.pre, List.getElem?_take_of_lt (by omega)]; exact h1
    have ndP : ps.Nodup := by rw [← S.pre]; exact S.nd.sublist (List.take_sublist _ _)
    refine ⟨u, rv, ?_⟩
    rcases S.par y (List.mem_of_getElem? hp) with k | k
    · exact .inl ⟨k, bindL_get ndP hp hu k⟩
    · obtain ⟨c, e⟩ := cell_has (n := s.heap.objs.size + 1) k
      refine .inr ⟨.inl k, c, e, ?_⟩
      have q := x.cell y c e
      rw [bindC_get ndP hp hu (by show scope.names.lookup y ≠ _; rw [k]; decide)] at q
      exact q
  · exact e0.hok.fresh (Nat.le_of_lt (x.above y c (PySem.mem_of_lookup h)))
  · unfold start
    show _ = N.length
    rw [List.length_append, List.length_map, List.length_replicate]
    omega

/-- THE RULE: a def (or a method) of the text, by its body. The body's reading t is chosen for each entry; it is run at the parameters' values -/
theorem fn_of {CX : CXT} {P : Program} {w : World} {K : PySem.W.Frag} {mg : Str → Option Value} {base : Heap} {k : Nat} {f : Addr} {name qual : Str} {params : Arguments} {body : List Stmt} {scope : Scope} {dV kV doc pm cdv ct oc : Value} {an od : Option Addr}
    {osl : Array (Option Value)} {N ps : List Str} {sp : Sp} (lk : K.lookup f = some ⟨oc, od, .func (PySem.W.fnOf name qual params body scope dV kV doc pm an cdv ct), osl⟩) (hcd : PySem.W.codeIn K cdv qual = true) (S : FnScope N ps scope)
    (len : ∀ vs H Q E, sp vs H Q E → vs.length = ps.length)
    (hbody : ∀ (A : Around) (outer : List Env) (s : Shared) (H : Hp) (vs : List V) (Q : VK) (E : XK), Room k (A.deeper (envOfC qual scope s.heap.objs.size f cdv)) → sp vs H Q E →
      ∃ t, PSs (cxOf CX P w K mg base N qual scope f cdv A outer s H E) body t ∧ t { nx := fun _ H' => Q .non H', rt := Q } (start N vs) H) :
    FnOk P w K mg base CX (k + 1) f (PySem.W.fnOf name qual params body scope dV kV doc pm an cdv ct) ps sp := by
  refine ⟨len, fun A outer s H args us vs Q E hr e0 hb r hsp => ?_⟩
  have hl := len _ _ _ _ hsp
  have KX : K.In s.heap := e0.mod.kin.keeps fun b o e => (e0.bs b o e).1
  have lim : s.heap.NoLimit := e0.mod.nolimit.keeps fun b o e => (e0.bs b o e).1
  have hkind : ∀ y ∈ ps.zip us, scope.names.lookup y.1 = some .local ∨ (scope.names.lookup y.1 = some .cell ∧ ((cellsFrom (s.heap.objs.size + 1) scope.names []).lookup y.1).isSome = true) := fun ⟨n, v⟩ hy => by
    rcases S.par n (List.of_mem_zip hy).1 with q | q
    · exact .inl q
    · exact .inr ⟨q, PySem.W.cellsFrom_some _ _ _ (.inl q)⟩
  refine codeAny_call_function hr.depth (KX _ _ lk) rfl S.co S.gen rfl (PySem.W.codeRec_of KX hcd) (hb _ _ _ _ ?_)
  refine wpAny_newFunctionEnv_cells S.kind hkind fun env he s1 x => ?_
  subst he
  refine ⟨lim.keeps x.toInCall.keep, codeAny_func ?_⟩
  obtain ⟨t, ht, hq⟩ := hbody A outer s H vs Q E (hr.deeper _) hsp
  have I : Inv (cxOf CX P w K mg base N qual scope f cdv A outer s H E) [] (start N vs) H s1 := inv_start S hr.hd e0 hl r x
  refine wpAny_mono (ht [] s1 (start N vs) H _ I hq) (fun fl s' hs => ?_) fun e s' hs => hs
  have fin : ∀ {σ' : St} {H' : Hp} {v : V} {u : Value}, Inv (cxOf CX P w K mg base N qual scope f cdv A outer s H E) [] σ' H' s' → RelV v u → Q v H' → CE outer P w H s Q u s' :=
    fun {σ' H' v u} J rv q => ⟨v, H', J.os, J.bare, J.base, J.hok, rv, q⟩
  cases fl with
  | ret u =>
    obtain ⟨v, σ', H', J, rv, q⟩ := hs
    exact fin J rv q
  | next =>
    obtain ⟨σ', H', J, q⟩ := hs
    exact fin (v := V.non) (u := Value.none) J rfl q
  | brk =>
    obtain ⟨_, _, _, q⟩ := hs
    exact False.elim q
  | cont =>
    obtain ⟨_, _, _, q⟩ := hs
    exact False.elim q
end L2

namespace L2
open PySem PySem.Spec PyProof.Rows
section
variable {X : Cx} {x : Str} {p pos : Pos} {e : Expr} {es : List Expr} {t : TA} {id T : String} {r : List V → Hp → VK → Prop}

def tCB (r : List V → Hp → VK → Prop) (t : TA) : TE := fun σ H Q => t σ H fun vs H1 => r vs H1 Q
/-- f(e, ..), f a built-in function -/
theorem pe_callB (hc : CallR X (.builtin id) r) (hg : Gl X x) (hm : X.mg x = none) (hv : bootBuiltins x = some (.builtin id)) (ha : PA X (e :: es) t) (hn : x ≠ "__name__" := by decide) (hdb : (x == ("__debug__" : Str)) = false := by decide)
    (he : starEach (e :: es) X.env = (false, eval e X.env) :: starEach es X.env := by rfl) (hpl : (backTo pos (starEach es X.env)).any (·.1) = false := by rfl) : PE X (.Call (.Name x p) (e :: es) [] pos) (tCB r t) := by
  intro pins s σ H Q I h
  refine wpAny_Call_Name_kw (ld_blt I hg hm hv ?_ hn hdb)
  exact PyProof.Rows.callWith_builtin1 (thn (ha pos pins s σ H _ I h) fun us s1 ⟨vs, H1, I1, r1, q1⟩ => hc pins s1 σ H1 vs us Q I1 r1 q1) he hpl
/-- T(e, ..), T a built-in type -/
theorem pe_callTy (hc : CallR X (.type T) r) (hg : Gl X x) (hm : X.mg x = none) (hv : bootBuiltins x = some (.type T)) (ha : PA X (e :: es) t) (hn : x ≠ "__name__" := by decide) (hdb : (x == ("__debug__" : Str)) = false := by decide)
    (he : starEach (e :: es) X.env = (false, eval e X.env) :: starEach es X.env := by rfl) (hpl : (backTo pos (starEach es X.env)).any (·.1) = false := by rfl) : PE X (.Call (.Name x p) (e :: es) [] pos) (tCB r t) := by
  intro pins s σ H Q I h
  refine wpAny_Call_Name_kw (ld_blt I hg hm hv ?_ hn hdb)
  exact PyProof.Rows.callWith_type1 (thn (ha pos pins s σ H _ I h) fun us s1 ⟨vs, H1, I1, r1, q1⟩ => hc pins s1 σ H1 vs us Q I1 r1 q1) he hpl
end
end L2

namespace HT
open PySem PyProof.Rows

/-- t < u of tuples of ints -/
def lexLt : List Int → List Int → Bool
  | [], [] => false
  | [], _ :: _ => true
  | _ :: _, [] => false
  | x :: xs, y :: ys => if x = y then lexLt xs ys else decide (x < y)
section
open PySem.SeqAt
open PySem.AutoSeq1 (wpAny_loadPart')
open PySem.MeetsSeq PySem.MeetsSeq2 PySem.MeetsSeq3

end

section
variable {prog : Program} {w : World} {A : Around} {E : Value → Shared → Prop} {s : Shared}

/-- a slice's bound as a place among n (d where it is left out) -/
def sIx (n d : Nat) : Option Int → Nat
  | none => d
  | some v => if v < 0 then (v + (n : Int)).toNat else min v.toNat n
theorem sIx_none (n d : Nat) : sIx n d none = d := rfl
theorem sIx_nat (n d k : Nat) : sIx n d (some (k : Int)) = min k n := by
  show (if (k : Int) < 0 then ((k : Int) + (n : Int)).toNat else min (k : Int).toNat n) = min k n
  rw [if_neg (by omega), Int.toNat_natCast]
end
end HT

namespace L2
open PySem PySem.Spec PyProof.Rows

abbrev TO := St → Hp → (Option Int → Hp → Prop) → Prop
/-- a slice's part (left out, or an int) -/
def PO (X : Cx) (e : Option Expr) (t : TO) : Prop :=
  ∀ (pins : List (Addr × Obj)) (s : Shared) (σ : St) (H : Hp) (Q : Option Int → Hp → Prop), Inv X pins σ H s → t σ H Q →
    wpAny (model X.prog X.w) X.A (evalPart e X.env) (fun u s' => ∃ o H', Inv X pins σ H' s' ∧ IsPart u o ∧ Q o H') X.xe s
def tNoPart : TO := fun _ H Q => Q none H
def tPart (t : TE) : TO := fun σ H Q => t σ H fun x H1 => ∃ i, x = .int i ∧ Q (some i) H1

section
variable {X : Cx} {e : Expr} {te : TE} {lo hi : Option Expr} {tl th : TO} {pos p2 : Pos}

theorem po_none : PO X none tNoPart := by
  intro pins s σ H Q I h
  rw [evalPart_none]
  exact wpAny_pure ⟨none, H, I, .none, h⟩
theorem po_some (h : PE X e te) : PO X (some e) (tPart te) := by
  intro pins s σ H Q I hw
  rw [evalPart_some]
  refine thn (h pins s σ H _ I hw) fun u s1 ⟨x, H1, I1, r1, q1⟩ => ?_
  obtain ⟨i, rfl, q⟩ := q1
  obtain ⟨t, rfl⟩ := r1
  exact ⟨some i, H1, I1, .int i t, q⟩

/-- what a slice of a value is, by values: the slice object stands at sl -/
def SlR (X : Cx) (r : V → Option Int → Option Int → Hp → VK → Prop) : Prop :=
  ∀ (pins : List (Addr × Obj)) (s : Shared) (σ : St) (H : Hp) (x : V) (v vl vu : Value) (lo hi : Option Int) (sl : Addr) (Q : VK), Inv X pins σ H s → RelV x v → s.heap.IsSliceOf sl vl vu .none → IsPart vl lo → IsPart vu hi → r x lo hi H Q →
    ∃ T id, typeLookup (.type T) "__getitem__" = pure (some (.builtin id)) ∧ s.TypeIs v T ∧ wpAny (model X.prog X.w) X.A (getItem v (.ref sl)) (EP X pins σ Q) X.xe s
theorem SlR.or {r r' : V → Option Int → Option Int → Hp → VK → Prop} (h : SlR X r) (h' : SlR X r') : SlR X (fun x lo hi H Q => r x lo hi H Q ∨ r' x lo hi H Q) := by
  intro pins s σ H x v vl vu lo hi sl Q I rx hs pl pu q
  rcases q with q | q
  · exact h pins s σ H x v vl vu lo hi sl Q I rx hs pl pu q
  · exact h' pins s σ H x v vl vu lo hi sl Q I rx hs pl pu q
def tSl (r : V → Option Int → Option Int → Hp → VK → Prop) (te : TE) (tl th : TO) : TE := fun σ H Q => te σ H fun x H1 => tl σ H1 fun l H2 => th σ H2 fun u H3 => r x l u H3 Q
/-- a[lo:hi], any a -/
theorem pe_slice {r : V → Option Int → Option Int → Hp → VK → Prop} (hr : SlR X r) (he : PE X e te) (hl : PO X lo tl) (hu : PO X hi th) : PE X (.Subscript e (.Slice lo hi none p2) pos) (tSl r te tl th) := by
  intro pins s σ H Q I h
  refine Subscript_ (thn (he pins s σ H _ I h) fun v s1 ⟨x, H1, I1, r1, q1⟩ => ?_)
  refine wpAny_Slice (thn (hl pins s1 σ H1 _ I1 q1) fun vl s2 ⟨l, H2, I2, pl, q2⟩ => thn (hu pins s2 σ H2 _ I2 q2) fun vu s3 ⟨u, H3, I3, pu, q3⟩ => ?_)
  rw [evalPart_none]
  refine wpAny_pure ?_
  have I4 : Inv X pins σ H3 { s3 with heap := s3.heap.push { cls := .type "slice", data := .fields #[vl, vu, .none] } } := I3.kept (t' := s3.toks) fun b ob q => Heap.get?_push_of_some _ q
  obtain ⟨T, id, hT, ht, hg⟩ := hr pins { s3 with heap := s3.heap.push { cls := .type "slice", data := .fields #[vl, vu, .none] } } σ H3 x v vl vu l u s3.heap.objs.size Q I4 r1 (Heap.IsSliceOf.new ..) pl pu q3
  show wpAny (model X.prog X.w) X.A (subscriptTail e (.Slice lo hi none p2) v (.ref s3.heap.objs.size)) (EP X pins σ Q) X.xe { s3 with heap := s3.heap.push { cls := .type "slice", data := .fields #[vl, vu, .none] } }
  exact tail_any (ops := [.ref s3.heap.objs.size, v]) ht hT hg (by with_unfolding_all rfl)

/-- the items of xs[lo:hi] -/
def cutV (xs : List V) (lo hi : Option Int) : List V := (xs.drop (HT.sIx xs.length 0 lo)).take (HT.sIx xs.length xs.length hi - HT.sIx xs.length 0 lo)
theorem cutV_length (xs : List V) (lo hi : Option Int) : (cutV xs lo hi).length ≤ xs.length := by
  unfold cutV
  rw [List.length_take, List.length_drop]
  omega
/-- t[lo:hi], not the whole of it (the whole would be t itself) -/
def rSlT (K : PySem.W.Frag) : V → Option Int → Option Int → Hp → VK → Prop := fun x lo hi H Q => ∃ a xs, x = .ref a ∧ SqT K H a xs ∧
  ¬ (HT.sIx xs.length 0 lo = 0 ∧ HT.sIx xs.length xs.length hi = xs.length) ∧ ∀ p, H p = none → Q (.ref p) (upd H p (.tup (cutV xs lo hi)))
def rLtT (K : PySem.W.Frag) : R2 := fun x y H Q => ∃ a b ns ms, x = .ref a ∧ y = .ref b ∧ SqT K H a (ns.map V.int) ∧ SqT K H b (ms.map V.int) ∧ Q (.bl (HT.lexLt ns ms)) H
/-- t + u, t not empty: u empty gives t itself -/
def rCatT (K : PySem.W.Frag) : R2 := fun x y H Q => ∃ a b xs ys, x = .ref a ∧ y = .ref b ∧ SqT K H a xs ∧ SqT K H b ys ∧ xs ≠ [] ∧ xs.length + ys.length ≤ sizeLine ∧
  (ys = [] → Q (.ref a) H) ∧ (ys ≠ [] → ∀ p, H p = none → Q (.ref p) (upd H p (.tup (xs ++ ys))))
end
end L2

namespace L2
open PySem PySem.Spec PyProof.Rows

/-- the place that an index of any sign means -/
def ixN (n : Nat) (i : Int) : Option Nat := if 0 ≤ i then (if i < n then some i.toNat else none) else if -(n : Int) ≤ i then some (i + n).toNat else none
def atI {α : Type} (xs : List α) (i : Int) : Option α := (ixN xs.length i).bind fun j => xs[j]?
theorem ixN_seq {n : Nat} {i : Int} {j : Nat} (h : ixN n i = some j) : seqIndex? i n = some j ∧ j < n ∧ -(n : Int) ≤ i ∧ i < n := by
  unfold ixN at h
  by_cases h0 : 0 ≤ i
  · rw [if_pos h0] at h
    by_cases h1 : i < n
    · rw [if_pos h1] at h
      have e : i.toNat = j := Option.some.inj h
      exact ⟨by rw [seqIndex_of h0 h1, e], by omega, by omega, h1⟩
    · rw [if_neg h1] at h; cases h
  · rw [if_neg h0] at h
    by_cases h1 : -(n : Int) ≤ i
    · rw [if_pos h1] at h
      have e : (i + n).toNat = j := Option.some.inj h
      exact ⟨by rw [seqIndex_neg (by omega) h1, e], by omega, h1, by omega⟩
    · rw [if_neg h1] at h; cases h
theorem atI_get {α : Type} {xs : List α} {i : Int} {v : α} (h : atI xs i = some v) : ∃ j, seqIndex? i xs.length = some j ∧ xs[j]? = some v ∧ j < xs.length ∧ -(xs.length : Int) ≤ i ∧ i < xs.length := by
  unfold atI at h
  cases e : ixN xs.length i with
  | none => rw [e] at h; cases h
  | some j =>
    rw [e] at h
    obtain ⟨h1, h2, h3, h4⟩ := ixN_seq e
    exact ⟨j, h1, h, h2, h3, h4⟩
theorem atI_nat {α : Type} {xs : List α} {j : Nat} {v : α} (h : xs[j]? = some v) : atI xs (j : Int) = some v := by
  have hj : j < xs.length := (List.getElem?_eq_some_iff.mp h).1
  have e : ixN xs.length (j : Int) = some j := by
    unfold ixN
    rw [if_pos (by omega), if_pos (by omega)]; simp
  unfold atI; rw [e]; exact h
/-- what stands as an index of a plain subscript -/
def PlainIx (b : Expr) : Prop := ∀ o i, subscripted b false o i = operate [o, i] (getItem o i)
/-- a subscript by values -/
def IxR (X : Cx) (r : R2) : Prop :=
  ∀ (value slice : Expr) (pins : List (Addr × Obj)) (s : Shared) (σ : St) (H : Hp) (x y : V) (v u : Value) (Q : VK), Inv X pins σ H s → RelV x v → RelV y u → r x y H Q →
    subscripted slice false v u = operate [v, u] (getItem v u) → wpAny (model X.prog X.w) X.A (subscriptTail value slice v u) (EP X pins σ Q) X.xe s
/-- a call of a builtin's method by values: the receiver, the arguments -/
def MtR (X : Cx) (id : String) (r : V → List V → Hp → VK → Prop) : Prop :=
  ∀ (pins : List (Addr × Obj)) (s : Shared) (σ : St) (H : Hp) (x : V) (xs : List V) (v : Value) (us : List Value) (Q : VK), Inv X pins σ H s → RelV x v → Vals xs us → r x xs H Q →
    wpAny (model X.prog X.w) X.A (call (.builtin id) (v :: us)) (EP X pins σ Q) X.xe s
section
variable {X : Cx} {a b : Expr} {ta tb : TE} {pos : Pos}
theorem IxR.or {r r' : R2} (h : IxR X r) (h' : IxR X r') : IxR X (fun x y H Q => r x y H Q ∨ r' x y H Q) := by
  intro value slice pins s σ H x y v u Q I rx ry q hs
  rcases q with q | q
  · exact h value slice pins s σ H x y v u Q I rx ry q hs
  · exact h' value slice pins s σ H x y v u Q I rx ry q hs
theorem MtR.or {id : String} {r r' : V → List V → Hp → VK → Prop} (h : MtR X id r) (h' : MtR X id r') : MtR X id (fun x xs H Q => r x xs H Q ∨ r' x xs H Q) := by
  intro pins s σ H x xs v us Q I rx rs q
  rcases q with q | q
  · exact h pins s σ H x xs v us Q I rx rs q
  · exact h' pins s σ H x xs v us Q I rx rs q
/-- a[b] -/
theorem pe_ix {r : R2} (hr : IxR X r) (ha : PE X a ta) (hb : PE X b tb) (hs : PlainIx b) : PE X (.Subscript a b pos) (tOp r ta tb) := by
  intro pins s σ H Q I h
  exact Subscript_ (binT ha hb I h fun v u s2 x y H2 I2 rx ry q => hr a b pins s2 σ H2 x y v u Q I2 rx ry q (hs _ _))

def rIxL (K : PySem.W.Frag) : R2 := fun x y H Q => ∃ p xs i v, x = .ref p ∧ y = .int i ∧ SqL K H p xs ∧ atI xs i = some v ∧ Q v H
def rIxT (K : PySem.W.Frag) : R2 := fun x y H Q => ∃ p xs i v, x = .ref p ∧ y = .int i ∧ SqT K H p xs ∧ atI xs i = some v ∧ Q v H
def rIxS : R2 := fun x y H Q => ∃ z i c, x = .str z ∧ y = .int i ∧ z.length ≤ sizeLine ∧ atI z.cps.toList i = some c ∧ Q (.str ⟨#[c]⟩) H
theorem ix_list : IxR X (rIxL X.K) := by
  intro value slice pins s σ H x y v u Q I rx ry h hs
  obtain ⟨p, xs, i, z, rfl, rfl, hq, he, q⟩ := h
  cases rx
  obtain ⟨t, rfl⟩ := ry
  obtain ⟨its, r, pl, hz⟩ := I.list hq
  obtain ⟨j, h1, h2, h3, h4, h5⟩ := atI_get he
  obtain ⟨w, ew, rw'⟩ := r.get h2
  have hl := r.length
  have hn := line63
  have fin : EP X pins σ Q w s := ⟨z, H, I, rw', q⟩
  by_cases h0 : 0 ≤ i
  · have hj : i.toNat = j := by
      rw [seqIndex_of h0 h5] at h1
      exact Option.some.inj h1
    exact item_listR pl.isList h0 (by omega) (by rw [hj]; simpa using ew) fin hs
  · have hj : (i + (its.toArray.size : Int)).toNat = j := by
      rw [seqIndex_neg (by omega) h4] at h1
      rw [List.size_toArray, ← hl]
      exact Option.some.inj h1
    exact subscriptTail_builtinR (x := w) pl.isList.typeIs slot_list_getitem.lookup
      (wpAny_getItem_list_neg (Q := fun r s' => r = w ∧ EP X pins σ Q r s') pl.isList (by omega) (by rw [List.size_toArray] <;> omega) (by omega) (by rw [hj]; simpa using ew) ⟨rfl, fin⟩) hs
theorem ix_tup : IxR X (rIxT X.K) := by
  intro value slice pins s σ H x y v u Q I rx ry h hs
  obtain ⟨p, xs, i, z, rfl, rfl, hq, he, q⟩ := h
  cases rx
  obtain ⟨t, rfl⟩ := ry
  obtain ⟨its, r, pl, hz⟩ := I.tuple hq
  obtain ⟨j, h1, h2, h3, h4, h5⟩ := atI_get he
  obtain ⟨w, ew, rw'⟩ := r.get h2
  have hl := r.length
  have hn := line63
  have fin : EP X pins σ Q w s := ⟨z, H, I, rw', q⟩
  exact subscriptTail_builtinR (x := w) pl.typeIs slot_tuple_getitem.lookup
    (getItem_tuple (j := j) (Q := fun r s' => r = w ∧ EP X pins σ Q r s') pl (by omega) (by omega) (by rw [List.size_toArray, ← hl]; exact h1) (by simpa using ew) ⟨rfl, fin⟩) hs
theorem ix_str : IxR X rIxS := by
  intro value slice pins s σ H x y v u Q I rx ry h hs
  obtain ⟨z, i, c, rfl, rfl, hz, he, q⟩ := h
  obtain ⟨t, rfl⟩ := rx
  obtain ⟨t', rfl⟩ := ry
  obtain ⟨j, h1, h2, h3, h4, h5⟩ := atI_get he
  have hl : z.cps.toList.length = z.length := by simp [Str.length]
  rw [hl] at h1 h4 h5
  have hn := line63
  exact tail_any (typeIs_str s z t) slot_str_getitem.lookup (getItem_str (c := c) (by
    have e1 : decide (i < -(2 ^ 63 : Int)) = false := decide_eq_false (by omega)
    have e2 : decide (i ≥ 2 ^ 63) = false := decide_eq_false (by omega)
    rw [e1, e2, Bool.or_false]) (by rw [h1]; simpa using h2) ⟨.str ⟨#[c]⟩, H, I.tok _, ⟨_, rfl⟩, q⟩) hs
/-- list, tuple or str -/
def rIx (K : PySem.W.Frag) : R2 := fun x y H Q => rIxL K x y H Q ∨ rIxT K x y H Q ∨ rIxS x y H Q
theorem Inv.lst {pins : List (Addr × Obj)} {σ : St} {H : Hp} {s : Shared} {p : Addr} {xs : List V} (I : Inv X pins σ H s) (h : H p = some (.lst xs)) :
    ∃ (its : List Value) (n : Nat), Vals xs its ∧ s.heap.get? p = some { cls := .type "list", data := .seq its.toArray n } ∧ xs.length ≤ sizeLine := by
  obtain ⟨z, its, n, r, e⟩ := I.hok p _ h
  exact ⟨its, n, r, e, z⟩
def rSetL : V → V → V → Hp → (Hp → Prop) → Prop := fun o i v H Q => ∃ p xs k j, o = .ref p ∧ i = .int k ∧ H p = some (.lst xs) ∧ ixN xs.length k = some j ∧ Q (upd H p (.lst (xs.set j v)))
theorem slice_bounds (lo hi : Option Int) (n : Nat) : (sliceBounds lo hi none n).1 = ((HT.sIx n 0 lo : Nat) : Int) ∧ (sliceBounds lo hi none n).2.1 = ((HT.sIx n n hi : Nat) : Int) ∧ (sliceBounds lo hi none n).2.2 = 1 := by
  refine ⟨?_, ?_, rfl⟩
  · cases lo with
    | none => simp [sliceBounds, HT.sIx]
    | some i =>
      simp only [sliceBounds, HT.sIx, Option.getD_none, show (1 : Int) > 0 by decide, if_true]
      by_cases h : i < 0
      · simp only [h, if_true] <;> omega
      · simp only [h, if_false] <;> omega
  · cases hi with
    | none => simp [sliceBounds, HT.sIx]
    | some i =>
      simp only [sliceBounds, HT.sIx, Option.getD_none, show (1 : Int) > 0 by decide, if_true]
      by_cases h : i < 0
      · simp only [h, if_true] <;> omega
      · simp only [h, if_false] <;> omega
theorem slicePick_cut (its : List Value) (lo hi : Option Int) : slicePick its.toArray lo hi none = ((its.drop (HT.sIx its.length 0 lo)).take (HT.sIx its.length its.length hi - HT.sIx its.length 0 lo)).toArray := by
  obtain ⟨h1, h2, h3⟩ := slice_bounds lo hi its.toArray.size
  unfold slicePick
  rw [h1, h2, h3]
  simp only [sliceRange_one, pick_run, List.size_toArray] <;> rfl
/-- xs[lo:hi] of a list: a new list -/
def rSlL (K : PySem.W.Frag) : V → Option Int → Option Int → Hp → VK → Prop := fun x lo hi H Q => ∃ a xs, x = .ref a ∧ SqL K H a xs ∧ ∀ p, H p = none → Q (.ref p) (upd H p (.lst (cutV xs lo hi)))
theorem sl_list : SlR X (rSlL X.K) := by
  intro pins s σ H x v vl vu lo hi sl Q I rx hs pl pu h
  obtain ⟨a, xs, rfl, hx, q⟩ := h
  cases rx
  obtain ⟨its, r, ht, hz⟩ := I.list hx
  have hlen := r.length
  refine ⟨"list", _, slot_list_getitem.lookup, ht.isList.typeIs, ?_⟩
  refine wpAny_getItem_list_slice ht.isList hs pl pu .none (by simp) ?_ (by rw [List.size_toArray] <;> omega)
  rw [slicePick_cut, ← hlen]
  refine ⟨.ref s.heap.objs.size, _, I.laid (t' := s.toks) (o := .lst (cutV xs lo hi)) (fun b ob q => Heap.get?_push_of_some _ q) (Nat.le_refl _) ?_, rfl, q _ (I.hok.fresh (Nat.le_refl _))⟩
  exact ⟨Nat.le_trans (cutV_length xs lo hi) hz, _, 0, (r.drop (HT.sIx xs.length 0 lo)).take (HT.sIx xs.length xs.length hi - HT.sIx xs.length 0 lo), Heap.get?_push_size _ rfl⟩

def flatV : V → Bool
  | .non => true
  | .bl _ => true
  | .int _ => true
  | .str _ => true
  | _ => false
/-- == of flat values -/
def eqV : V → V → Bool
  | .non, .non => true
  | .bl a, .bl b => a == b
  | .bl a, .int b => (if a then 1 else 0) == b
  | .int a, .bl b => a == (if b then 1 else 0)
  | .int a, .int b => a == b
  | .str a, .str b => a == b
  | _, _ => false
theorem eqAt_V {A : Around} {s : Shared} {y x : V} {u v : Value} (ry : RelV y u) (rx : RelV x v) (fy : flatV y = true) (fx : flatV x = true) : SeqAt.EqAt A s u v (eqV y x) := by
  cases y with
  | non =>
    cases ry
    cases x with
    | non => cases rx; exact SeqAt.EqAt.same _
    | bl b => cases rx; exact SeqAt.EqAt.none_bool b
    | int b => obtain ⟨t, rfl⟩ := rx; exact SeqAt.EqAt.none_int b t
    | str b => obtain ⟨t, rfl⟩ := rx; exact SeqAt.EqAt.none_str b t
    | _ => exact absurd (show false = true from fx) Bool.false_ne_true
  | bl a =>
    cases ry
    cases x with
    | non => cases rx; exact SeqAt.EqAt.bool_none a
    | bl b => cases rx; exact SeqAt.EqAt.bool_bool a b
    | int b => obtain ⟨t, rfl⟩ := rx; exact SeqAt.EqAt.bool_int a b t
    | str b => obtain ⟨t, rfl⟩ := rx; exact SeqAt.EqAt.bool_str a b t
    | _ => exact absurd (show false = true from fx) Bool.false_ne_true
  | int a =>
    obtain ⟨t', rfl⟩ := ry
    cases x with
    | non => cases rx; exact SeqAt.EqAt.int_none a t'
    | bl b => cases rx; exact SeqAt.EqAt.int_bool a t' b
    | int b => obtain ⟨t, rfl⟩ := rx; exact SeqAt.EqAt.int_int a t' b t
    | str b => obtain ⟨t, rfl⟩ := rx; exact SeqAt.EqAt.int_str a t' b t
    | _ => exact absurd (show false = true from fx) Bool.false_ne_true
  | str a =>
    obtain ⟨t', rfl⟩ := ry
    cases x with
    | non => cases rx; exact SeqAt.EqAt.str_none a t'
    | bl b => cases rx; exact SeqAt.EqAt.str_bool a t' b
    | int b => obtain ⟨t, rfl⟩ := rx; exact SeqAt.EqAt.str_int a t' b t
    | str b => obtain ⟨t, rfl⟩ := rx; exact SeqAt.EqAt.str_str a t' b t
    | _ => exact absurd (show false = true from fx) Bool.false_ne_true
  | _ => exact absurd (show false = true from fy) Bool.false_ne_true
/-- the items' answers, read off the values (a value's own answer does not lean on its token) -/
def eqU (x : V) (u : Value) : Bool := match u with
  | .none => eqV .non x
  | .bool b => eqV (.bl b) x
  | .int i _ => eqV (.int i) x
  | .str z _ => eqV (.str z) x
  | _ => false
theorem eqU_of {x y : V} {u : Value} (r : RelV y u) (f : flatV y = true) : eqU x u = eqV y x := by
  cases y with
  | non => cases r; rfl
  | bl b => cases r; rfl
  | int i => obtain ⟨t, rfl⟩ := r; rfl
  | str z => obtain ⟨t, rfl⟩ := r; rfl
  | _ => exact absurd (show false = true from f) Bool.false_ne_true
theorem any_eqU {x : V} : ∀ {xs : List V} {us : List Value}, Vals xs us → xs.all flatV = true → us.any (eqU x) = xs.any fun y => eqV y x
  | _, _, .nil, _ => rfl
  | y :: xs, u :: us, .cons r t, f => by
    rw [List.all_cons, Bool.and_eq_true] at f
    rw [List.any_cons, List.any_cons, eqU_of r f.1, any_eqU t f.2]
theorem mem_eqAt {A : Around} {s : Shared} {x : V} {v : Value} (rx : RelV x v) (fx : flatV x = true) : ∀ {xs : List V} {us : List Value}, Vals xs us → xs.all flatV = true → ∀ u ∈ us, SeqAt.EqAt A s u v (eqU x u)
  | _, _, .nil, _ => fun u hu => by cases hu
  | y :: xs, u :: us, .cons r t, f => fun u' hu => by
    rw [List.all_cons, Bool.and_eq_true] at f
    rcases List.mem_cons.mp hu with rfl | hu
    · rw [eqU_of r f.1]; exact eqAt_V r rx f.1 fx
    · exact mem_eqAt rx fx t f.2 u' hu
def inV (x : V) (xs : List V) : Bool := xs.any fun y => eqV y x
/-- x in a list or tuple of flat items -/
def rIn (K : PySem.W.Frag) (neg : Bool) : R2 := fun x y H Q => ∃ p xs, y = .ref p ∧ (SqL K H p xs ∨ SqT K H p xs) ∧ flatV x = true ∧ xs.all flatV = true ∧ Q (.bl (if neg then !inV x xs else inV x xs)) H
theorem op_in_seq : OpR X (compareOp .In) (rIn X.K false) := by
  intro pins s σ H x y v u Q I rx ry h
  obtain ⟨p, xs, rfl, hq, fx, fs, q⟩ := h
  cases ry
  rcases hq with hq | hq
  · obtain ⟨its, r, pl, hz⟩ := I.list hq
    refine SeqAt.in_listAt (eqU x) pl.isList (fun w hw => mem_eqAt rx fx r fs w (by simpa using hw)) ⟨.bl _, H, I, rfl, ?_⟩
    rw [show its.toArray.any (eqU x) = its.any (eqU x) by simp, any_eqU r fs]
    exact q
  · obtain ⟨its, r, pl, hz⟩ := I.tuple hq
    refine SeqAt.in_tupleAt (eqU x) pl (fun w hw => mem_eqAt rx fx r fs w (by simpa using hw)) ⟨.bl _, H, I, rfl, ?_⟩
    rw [show its.toArray.any (eqU x) = its.any (eqU x) by simp, any_eqU r fs]
    exact q
theorem call_len_seq : CallR X (.builtin "len") (fun xs H Q => ∃ p ys, xs = [.ref p] ∧ (SqL X.K H p ys ∨ SqT X.K H p ys) ∧ Q (.int ys.length) H) := by
  intro pins s σ H xs us Q I r h
  obtain ⟨p, ys, rfl, hq, q⟩ := h
  obtain ⟨u, rfl, rx⟩ := vals1 r
  cases rx
  have hn := line63
  rcases hq with hq | hq
  · obtain ⟨its, r', pl, hz⟩ := I.list hq
    have hlen := r'.length
    exact Calls.call_len_list pl.isList (by simp only [List.size_toArray] <;> omega) ⟨.int ys.length, H, I.tok _, ⟨s.toks + 1, by rw [List.size_toArray, hlen]⟩, q⟩
  · obtain ⟨its, r', pl, hz⟩ := I.tuple hq
    have hlen := r'.length
    exact len_tuple pl (by simp only [List.size_toArray] <;> omega) ⟨.int ys.length, H, I.tok _, ⟨s.toks + 1, by rw [List.size_toArray, hlen]⟩, q⟩
theorem CallR.or {f : Value} {r r' : List V → Hp → VK → Prop} (h : CallR X f r) (h' : CallR X f r') : CallR X f (fun xs H Q => r xs H Q ∨ r' xs H Q) := by
  intro pins s σ H xs us Q I rs q
  rcases q with q | q
  · exact h pins s σ H xs us Q I rs q
  · exact h' pins s σ H xs us Q I rs q
theorem call_list_of : CallR X (.type "list") (fun xs H Q => ∃ p ys, xs = [.ref p] ∧ (SqL X.K H p ys ∨ SqT X.K H p ys) ∧ ∀ l, H l = none → Q (.ref l) (upd H l (.lst ys))) := by
  intro pins s σ H xs us Q I r h
  obtain ⟨p, ys, rfl, hq, q⟩ := h
  obtain ⟨u, rfl, rx⟩ := vals1 r
  cases rx
  have fin : ∀ (its : List Value), Vals ys its → ys.length ≤ sizeLine → ∀ (h' : Heap) (c' : Nat), (∀ b o', s.heap.get? b = some o' → h'.get? b = some o') →
      h'.get? s.heap.objs.size = some { cls := .type "list", dict := none, data := .seq its.toArray c', slots := #[] } → EP X pins σ Q (.ref s.heap.objs.size) { s with heap := h' } := fun its r' hz h' c' kp e =>
    ⟨.ref s.heap.objs.size, _, I.laid (t' := s.toks) kp (Nat.le_refl _) (show ObjOk X.prog X.w _ h' _ (.lst ys) from ⟨hz, its, c', r', e⟩), rfl, q _ (I.hok.fresh (Nat.le_refl _))⟩
  rcases hq with hq | hq
  · obtain ⟨its, r', pl, hz⟩ := I.list hq
    have hlen := r'.length
    obtain ⟨o, ho, hc, n, hd⟩ := pl.isList
    exact call_list_seq p (.inl rfl) ho hc hd (fun h' c' kp e => fin its r' hz h' c' kp e) (by simp only [List.size_toArray] <;> omega)
  · obtain ⟨its, r', pl, hz⟩ := I.tuple hq
    have hlen := r'.length
    obtain ⟨o, ho, hc, n, hd⟩ := pl
    exact call_list_seq p (.inr rfl) ho hc hd (fun h' c' kp e => fin its r' hz h' c' kp e) (by simp only [List.size_toArray] <;> omega)
/-- the value is of that builtin type -/
def tyV (K : PySem.W.Frag) (T : String) (x : V) (H : Hp) : Prop := match x with
  | .str _ => T = "str"
  | .int _ => T = "int"
  | .ref p => (T = "list" ∧ ∃ xs, SqL K H p xs) ∨ (T = "tuple" ∧ ∃ o, K.lookup p = some o ∧ o.cls = .type "tuple" ∧ o.dict = none) ∨
      (T = "dict" ∧ ((∃ kvs, H p = some (.dK kvs)) ∨ ∃ kvs, H p = some (.dT kvs))) ∨ (T = "set" ∧ ∃ S n, H p = some (.set S n))
  | _ => False
theorem tyV_is {pins : List (Addr × Obj)} {σ : St} {H : Hp} {s : Shared} {T : String} {x : V} {v : Value} (I : Inv X pins σ H s) (r : RelV x v) (ty : tyV X.K T x H) :
    s.TypeIs v T ∧ ∀ a, v = .ref a → ∃ ob, s.heap.get? a = some ob ∧ ob.dict = none := by
  cases x with
  | str z =>
    obtain ⟨t, rfl⟩ := r
    cases (show T = "str" from ty)
    exact ⟨typeIs_str s z t, fun _ e => nomatch e⟩
  | int i =>
    obtain ⟨t, rfl⟩ := r
    cases (show T = "int" from ty)
    exact ⟨typeIs_int s i t, fun _ e => nomatch e⟩
  | ref p =>
    cases r
    rcases ty with ⟨rfl, xs, hq⟩ | ⟨rfl, o, hk, hc, hd⟩ | ⟨rfl, hk⟩ | ⟨rfl, S, n, hk⟩
    · obtain ⟨its, _, pl, _⟩ := I.list hq
      refine ⟨pl.isList.typeIs, fun a e => ?_⟩
      cases e
      obtain ⟨o, n, e, c, hd, _⟩ := pl
      exact ⟨o, e, hd⟩
    · refine ⟨⟨o, I.kIn p o hk, hc⟩, fun a e => ?_⟩
      cases e
      exact ⟨o, I.kIn _ o hk, hd⟩
    · have z : ∃ o, s.heap.get? p = some o ∧ o.ExactDict := by
        rcases hk with ⟨kvs, hk⟩ | ⟨kvs, hk⟩
        · obtain ⟨_, _, _, _, o, _, _, e, ex, _⟩ := I.hok p _ hk
          exact ⟨o, e, ex⟩
        · obtain ⟨_, _, _, _, o, _, _, e, ex, _⟩ := I.hok p _ hk
          exact ⟨o, e, ex⟩
      obtain ⟨o, e, ex⟩ := z
      refine ⟨⟨o, e, ex.1⟩, fun a e2 => ?_⟩
      cases e2
      exact ⟨o, e, ex.2.1⟩
    · obtain ⟨o, _, _, _, e, ex, _⟩ := I.hok p _ hk
      refine ⟨⟨o, e, ex.1⟩, fun a e2 => ?_⟩
      cases e2
      exact ⟨o, e, ex.2.1⟩
  | _ => exact False.elim ty
def tBM0 (K : PySem.W.Frag) (T : String) (r : V → List V → Hp → VK → Prop) (to : TE) : TE := fun σ H Q => to σ H fun x H1 => tyV K T x H1 ∧ r x [] H1 Q
def tBM (K : PySem.W.Frag) (T : String) (r : V → List V → Hp → VK → Prop) (to : TE) (t : TA) : TE := fun σ H Q => to σ H fun x H1 => tyV K T x H1 ∧ t σ H1 fun xs H2 => r x xs H2 Q
variable {o e : Expr} {es : List Expr} {to : TE} {t : TA} {name : Str} {apos cpos : Pos} {T id : String} {r : V → List V → Hp → VK → Prop}
theorem pe_bm0 (pa : PlainAttrs T) (slot : Slot T name id) (hty : typeOf (.builtin id) = pure (.type "method_descriptor")) (hm : MtR X id r) (ho : PE X o to)
    (hbase : attributeBase o name X.env (eval o X.env) = eval o X.env := by rfl) (hline : (apos.endLine == cpos.line) = true := by rfl) : PE X (.Call (.Attribute o name apos) [] [] cpos) (tBM0 X.K T r to) := by
  intro pins s σ H Q I h
  refine wpAny_Call_method0_late hbase hline (thn (ho pins s σ H _ I h) fun v s1 ⟨x, H1, I1, r1, ty, q1⟩ => ?_)
  obtain ⟨h1, h2⟩ := tyV_is I1 r1 ty
  exact ⟨T, id, pa, slot, hty, h1, h2, Calls.callWith_builtin rfl (PySem.evalArgs_none (hm pins s1 σ H1 x [] v [] Q I1 r1 .nil q1))⟩
theorem pe_bm (pa : PlainAttrs T) (slot : Slot T name id) (hty : typeOf (.builtin id) = pure (.type "method_descriptor")) (hm : MtR X id r) (ho : PE X o to) (ha : PA X (e :: es) t)
    (hbase : attributeBase o name X.env (eval o X.env) = eval o X.env := by rfl)
    (hfew : ((backTo cpos (starEach (e :: es) X.env)).all (fun x => !x.1) && (backToKw cpos (keywordEach [] X.env)).all (fun x => x.1.isSome)
      && decide ((e :: es).length + ([] : List Keyword).length + (if ([] : List Keyword).isEmpty then 0 else 1) < 30)) = true := by rfl)
    (hline : (apos.endLine == cpos.line) = true := by rfl) (hs : starEach (e :: es) X.env = (false, eval e X.env) :: starEach es X.env := by rfl) (hplain : (backTo cpos (starEach es X.env)).any (·.1) = false := by rfl) :
    PE X (.Call (.Attribute o name apos) (e :: es) [] cpos) (tBM X.K T r to t) := by
  intro pins s σ H Q I h
  refine wpAny_Call_method_late hbase hfew hline rfl (thn (ho pins s σ H _ I h) fun v s1 ⟨x, H1, I1, r1, ty, q1⟩ => ?_)
  obtain ⟨h1, h2⟩ := tyV_is I1 r1 ty
  refine ⟨T, id, pa, slot, hty, h1, h2, ?_⟩
  have hA := ha cpos pins s1 σ H1 _ I1 q1
  rw [hs] at hA ⊢
  refine Calls.callWith_builtin (by show (false || (backTo cpos (starEach es X.env)).any (·.1)) = false; rw [hplain] <;> rfl) (Calls.evalArgs_plain ?_)
  exact thn hA fun us s2 ⟨vs, H2, I2, r2, q2⟩ => hm pins s2 σ H2 x vs v us Q I2 r1 r2 q2
end
end L2

namespace L2
open PySem PySem.Spec PyProof.Rows

def MtM (X : Cx) (id : String) (r : V → List V → Hp → VK → Prop) : Prop :=
  ∀ (pins : List (Addr × Obj)) (s : Shared) (σ : St) (H : Hp) (x : V) (xs : List V) (v : Value) (us : List Value) (Q : VK), Inv X pins σ H s → RelV x v → Vals xs us → r x xs H Q →
    wpAny (model X.prog X.w) X.A (call (.builtin id) (v :: us)) (EP X pins σ Q) X.xe s

theorem Vals.one : ∀ {x : V} {us : List Value}, Vals [x] us → ∃ u, us = [u] ∧ RelV x u
  | _, _, .cons r .nil => ⟨_, rfl, r⟩
theorem Vals.two : ∀ {x y : V} {us : List Value}, Vals [x, y] us → ∃ u v, us = [u, v] ∧ RelV x u ∧ RelV y v
  | _, _, _, .cons r (.cons q .nil) => ⟨_, _, rfl, r, q⟩
theorem Vals.zero : ∀ {us : List Value}, Vals [] us → us = []
  | _, .nil => rfl
theorem Vals.dropLast {xs : List V} {us : List Value} (h : Vals xs us) : Vals xs.dropLast us.dropLast := by
  induction h with
  | nil => exact .nil
  | cons r t ih =>
    cases t with
    | nil => exact .nil
    | cons q t' => exact .cons r ih
theorem Vals.eraseIdx : ∀ {xs : List V} {us : List Value} (i : Nat), Vals xs us → Vals (xs.eraseIdx i) (us.eraseIdx i)
  | _, _, _, .nil => .nil
  | _, _, 0, .cons _ t => t
  | _, _, i + 1, .cons r t => .cons r (Vals.eraseIdx i t)
theorem Vals.reverse {xs : List V} {us : List Value} (h : Vals xs us) : Vals xs.reverse us.reverse := by
  induction h with
  | nil => exact .nil
  | cons r t ih => rw [List.reverse_cons, List.reverse_cons]; exact Vals.append ih (.cons r .nil)
section
variable {X : Cx} {pins : List (Addr × Obj)} {σ : St} {H : Hp} {s : Shared} {l b : Addr} {xs ys zs : List V}

theorem Inv.lset {its its' : List Value} {n : Nat} {f : Array Value → Array Value} {t' : Nat} (I : Inv X pins σ H s) (hH : H l = some (.lst xs))
    (e : s.heap.get? l = some { cls := .type "list", data := .seq its.toArray n }) (hf : f its.toArray = its'.toArray) (hv : Vals ys its') (hz : ys.length ≤ sizeLine) :
    Inv X pins σ (upd H l (.lst ys)) { s with heap := s.heap.update l (Obj.mapSeq f), toks := t' } := by
  have q := PySem.IsL.update e f
  rw [hf] at q
  refine I.write (x := l) (e := l) (by rw [hH]; exact trivial) (.inl rfl) (fun b' u hb hu => (Heap.get?_update_other s.heap (Obj.mapSeq f) (Ne.symm hb)).trans hu) ⟨_, q⟩ ?_
  exact ⟨hz, its', _, hv, q⟩
theorem Inv.lnew {its : List Value} {t' : Nat} (I : Inv X pins σ H s) (hv : Vals ys its) (hz : ys.length ≤ sizeLine) :
    Inv X pins σ (upd H s.heap.objs.size (.lst ys)) { s with heap := s.heap.push { cls := .type "list", data := .seq its.toArray }, toks := t' } :=
  I.laid (fun _ _ q => Heap.get?_push_of_some _ q) (Nat.le_refl _) ⟨hz, its, 0, hv, Heap.get?_push_size _ rfl⟩
theorem Inv.fresh (I : Inv X pins σ H s) : H s.heap.objs.size = none := I.hok.fresh (Nat.le_refl _)
theorem Inv.lstM (I : Inv X pins σ H s) (hH : H l = some (.lst xs)) : xs.length ≤ sizeLine ∧ ∃ (its : List Value) (n : Nat), Vals xs its ∧ xs.length = its.length ∧ s.heap.get? l = some { cls := .type "list", data := .seq its.toArray n } := by
  obtain ⟨z, its, n, r, e⟩ := I.hok l _ hH
  exact ⟨z, its, n, r, r.length, e⟩

end

section
variable {X : Cx}

def rAppend : V → List V → Hp → VK → Prop := fun x vs H Q => ∃ l xs y, x = .ref l ∧ vs = [y] ∧ H l = some (.lst xs) ∧ xs.length < sizeLine ∧ Q .non (upd H l (.lst (xs ++ [y])))
theorem mt_append : MtM X "list.append" rAppend := by
  intro pins s σ H x vs v us Q I rx rv h
  obtain ⟨l, xs, y, rfl, rfl, hH, hz, q⟩ := h
  cases rx
  obtain ⟨u, rfl, ru⟩ := rv.one
  obtain ⟨z, its, n, r, hl, e⟩ := I.lstM hH
  refine call_meets F.slot_list_append ⟨_, e, rfl⟩ F.entry_list_append (F.args_list_append_2 _ _) (PySem.list_append l its.toArray n u (by rw [List.size_toArray]; omega)) ⟨e, ?_⟩
  refine ⟨.non, _, I.lset (its' := its ++ [u]) hH e (by simp) (r.append (.cons ru .nil)) ?_, rfl, q⟩
  rw [List.length_append, List.length_singleton]
  omega

def rExtend : V → List V → Hp → VK → Prop := fun x vs H Q => ∃ l b xs zs, x = .ref l ∧ vs = [.ref b] ∧ H l = some (.lst xs) ∧ H b = some (.lst zs) ∧ xs.length + zs.length ≤ sizeLine ∧ Q .non (upd H l (.lst (xs ++ zs)))
def rPop : V → List V → Hp → VK → Prop := fun x vs H Q => ∃ l xs y, x = .ref l ∧ vs = [] ∧ H l = some (.lst xs) ∧ xs[xs.length - 1]? = some y ∧ Q y (upd H l (.lst xs.dropLast))
def rPopAt : V → List V → Hp → VK → Prop := fun x vs H Q => ∃ l xs i k y, x = .ref l ∧ vs = [.int i] ∧ H l = some (.lst xs) ∧ -(2 ^ 63) ≤ i ∧ i < 2 ^ 63 ∧ seqIndex? i xs.length = some k ∧ xs[k]? = some y ∧ Q y (upd H l (.lst (xs.eraseIdx k)))
def rReverse : V → List V → Hp → VK → Prop := fun x vs H Q => ∃ l xs, x = .ref l ∧ vs = [] ∧ H l = some (.lst xs) ∧ Q .non (upd H l (.lst xs.reverse))
def rClear : V → List V → Hp → VK → Prop := fun x vs H Q => ∃ l xs, x = .ref l ∧ vs = [] ∧ H l = some (.lst xs) ∧ Q .non (upd H l (.lst []))
def rCat : R2 := fun x y H Q => ∃ l b xs zs, x = .ref l ∧ y = .ref b ∧ H l = some (.lst xs) ∧ H b = some (.lst zs) ∧ xs.length + zs.length ≤ sizeLine ∧ ∀ p, H p = none → Q (.ref p) (upd H p (.lst (xs ++ zs)))
theorem op_cat : OpR X (binaryOp .Add) rCat := by
  intro pins s σ H x y v u Q I rx ry h
  obtain ⟨l, b, xs, zs, rfl, rfl, hH, hB, hz, q⟩ := h
  cases rx
  cases ry
  obtain ⟨z, its, n, r, hl, e⟩ := I.lstM hH
  obtain ⟨z2, its2, n2, r2, hl2, e2⟩ := I.lstM hB
  refine PySem.P.add_list e e2 ?_ (by rw [List.size_toArray, List.size_toArray]; omega)
  have ea : its.toArray ++ its2.toArray = (its ++ its2).toArray := by simp
  rw [ea]
  exact ⟨.ref _, _, I.lnew (t' := s.toks) (r.append r2) (by rw [List.length_append]; omega), rfl, q _ I.fresh⟩
/-- a list times an int (a negative one is nothing) -/
def rRep : R2 := fun x y H Q => ∃ l k xs, x = .ref l ∧ y = .int k ∧ H l = some (.lst xs) ∧ -(2 ^ 63) ≤ k ∧ k < 2 ^ 63 ∧ xs.length * k.toNat ≤ sizeLine ∧
  ∀ p, H p = none → Q (.ref p) (upd H p (.lst (List.replicate k.toNat xs).flatten))
end

section
variable {prog : Program} {w : World} {A : Around} {E : Value → Shared → Prop} {s : Shared}
end

section
variable {X : Cx}
end
end L2

namespace L2
open PySem PySem.Spec PyProof.Rows

section
variable {κ : Type} [DecidableEq κ]
def valV (kvs : List (κ × V)) (k : κ) : Option V := (kvs.find? fun kv => decide (kv.1 = k)).map (·.2)
/-- in its place, or at the end -/
def putK (kvs : List (κ × V)) (k : κ) (v : V) : List (κ × V) :=
  if (kvs.any fun kv => decide (kv.1 = k)) = true then kvs.map (fun kv => if kv.1 = k then (kv.1, v) else kv) else kvs ++ [(k, v)]
def dropK (kvs : List (κ × V)) (k : κ) : List (κ × V) := kvs.filter fun kv => decide (kv.1 ≠ k)

theorem valV_pos {p : κ × V} {r : List (κ × V)} {k : κ} (e : p.1 = k) : valV (p :: r) k = some p.2 := by simp [valV, List.find?_cons, e]
theorem valV_neg {p : κ × V} {r : List (κ × V)} {k : κ} (e : ¬ p.1 = k) : valV (p :: r) k = valV r k := by simp [valV, List.find?_cons, e]
theorem valV_any (k : κ) : ∀ kvs : List (κ × V), (kvs.any fun kv => decide (kv.1 = k)) = (valV kvs k).isSome
  | [] => rfl
  | p :: r => by
    rw [List.any_cons]
    by_cases e : p.1 = k
    · simp only [valV_pos e, decide_eq_true e, Bool.true_or, Option.isSome_some]
    · rw [valV_neg e, decide_eq_false e, Bool.false_or]; exact valV_any k r
theorem valV_map (k j : κ) (y : V) : ∀ kvs : List (κ × V), valV (kvs.map fun kv => if kv.1 = k then (kv.1, y) else kv) j = (valV kvs j).map fun x => if j = k then y else x
  | [] => rfl
  | p :: r => by
    have ih := valV_map k j y r
    rw [List.map_cons]
    by_cases h : p.1 = k
    · rw [if_pos h]
      by_cases e : p.1 = j
      · rw [valV_pos (p := (p.1, y)) e, valV_pos e, Option.map_some, if_pos (e.symm.trans h)]
      · rw [valV_neg (p := (p.1, y)) e, valV_neg e, ih]
    · rw [if_neg h]
      by_cases e : p.1 = j
      · rw [valV_pos (p := p) e, valV_pos e, Option.map_some, if_neg (fun z => h (e.trans z))]
      · rw [valV_neg (p := p) e, valV_neg e, ih]
theorem valV_snoc (k j : κ) (y : V) : ∀ kvs : List (κ × V), valV kvs k = none → valV (kvs ++ [(k, y)]) j = if j = k then some y else valV kvs j
  | [], _ => by
    by_cases e : k = j
    · rw [if_pos e.symm]; exact valV_pos (p := (k, y)) e
    · rw [if_neg (fun z => e z.symm)]; exact valV_neg (p := (k, y)) e
  | p :: r, hn => by
    rw [List.cons_append]
    have hk : ¬ p.1 = k := fun z => by rw [valV_pos z] at hn; cases hn
    rw [valV_neg hk] at hn
    have ih := valV_snoc k j y r hn
    by_cases e : p.1 = j
    · rw [valV_pos e, valV_pos e, if_neg (fun z => hk (e.trans z))]
    · rw [valV_neg e, valV_neg e, ih]
theorem valV_put (kvs : List (κ × V)) (k j : κ) (y : V) : valV (putK kvs k y) j = if j = k then some y else valV kvs j := by
  unfold putK
  by_cases a : (kvs.any fun kv => decide (kv.1 = k)) = true
  · rw [if_pos a, valV_map]
    rw [valV_any] at a
    by_cases e : j = k
    · obtain ⟨x, hx⟩ := Option.isSome_iff_exists.mp a
      rw [if_pos e, e, hx, Option.map_some, if_pos rfl]
    · rw [if_neg e]
      cases valV kvs j with
      | none => rfl
      | some x => rw [Option.map_some, if_neg e]
  · rw [if_neg a]
    refine valV_snoc k j y kvs ?_
    rw [valV_any] at a
    cases q : valV kvs k with
    | none => rfl
    | some x => rw [q] at a; exact (a rfl).elim
theorem putK_new {kvs : List (κ × V)} {k : κ} (v : V) (h : valV kvs k = none) : putK kvs k v = kvs ++ [(k, v)] := by
  unfold putK
  rw [valV_any, h]
  exact if_neg (by decide)

theorem RelO.isSome_eq {o : Option V} {u : Option Value} (r : RelO o u) : o.isSome = u.isSome := by
  cases o with
  | none => cases u with
    | none => rfl
    | some _ => exact (show False from r).elim
  | some _ => cases u with
    | none => exact (show False from r).elim
    | some _ => rfl
theorem RelO.getD {o : Option V} {u : Option Value} {d : V} {d' : Value} (r : RelO o u) (rd : RelV d d') : RelV (o.getD d) (u.getD d') := by
  cases o with
  | none => cases u with
    | none => exact rd
    | some _ => exact (show False from r).elim
  | some _ => cases u with
    | none => exact (show False from r).elim
    | some _ => exact r

/-- raw tables of the same keys -/
theorem KV.val {kvs : List (κ × V)} {vs : List (κ × Value)} (r : KV kvs vs) (k : κ) : RelO (valV kvs k) (valueAt vs k) := by
  unfold KV at r
  induction r with
  | nil => exact True.intro
  | @cons p q ps qs h t ih =>
    obtain ⟨h1, h2⟩ := h
    by_cases e : p.1 = k
    · have e' : q.1 = k := h1.symm.trans e
      have b : valueAt (q :: qs) k = some q.2 := by simp [valueAt, List.find?_cons, e']
      rw [valV_pos e, b]; exact h2
    · have e' : ¬ q.1 = k := fun z => e (h1.trans z)
      have b : valueAt (q :: qs) k = valueAt qs k := by simp [valueAt, List.find?_cons, e']
      rw [valV_neg e, b]; exact ih
theorem KV.any {kvs : List (κ × V)} {vs : List (κ × Value)} (r : KV kvs vs) (k : κ) : (kvs.any fun kv => decide (kv.1 = k)) = vs.any fun kv => decide (kv.1 = k) := by
  unfold KV at r
  induction r with
  | nil => rfl
  | cons h t ih => rw [List.any_cons, List.any_cons, ih, h.1]
theorem KV.repl {kvs : List (κ × V)} {vs : List (κ × Value)} (r : KV kvs vs) (k : κ) {y : V} {u : Value} (ry : RelV y u) :
    KV (kvs.map fun kv => if kv.1 = k then (kv.1, y) else kv) (vs.map fun kv => if kv.1 = k then (kv.1, u) else kv) := by
  unfold KV at r ⊢
  induction r with
  | nil => exact .nil
  | @cons p q ps qs h t ih =>
    rw [List.map_cons, List.map_cons]
    refine .cons ?_ ih
    obtain ⟨h1, h2⟩ := h
    by_cases e : p.1 = k
    · rw [if_pos e, if_pos (h1.symm.trans e)]; exact ⟨h1, ry⟩
    · rw [if_neg e, if_neg (fun z => e (h1.trans z))]; exact ⟨h1, h2⟩
theorem KV.put {kvs : List (κ × V)} {vs : List (κ × Value)} (r : KV kvs vs) (k : κ) {y : V} {u : Value} (ry : RelV y u) : KV (putK kvs k y) (stored vs k u) := by
  unfold putK stored
  rw [r.any k]
  by_cases e : (vs.any fun kv => decide (kv.1 = k)) = true
  · rw [if_pos e, if_pos e]; exact r.repl k ry
  · rw [if_neg e, if_neg e]; exact Paired.snoc r ⟨rfl, ry⟩
theorem KV.drop {kvs : List (κ × V)} {vs : List (κ × Value)} (r : KV kvs vs) (k : κ) : KV (dropK kvs k) (without vs k) := by
  unfold KV at r ⊢
  unfold dropK without
  induction r with
  | nil => exact .nil
  | @cons p q ps qs h t ih =>
    obtain ⟨h1, h2⟩ := h
    rw [List.filter_cons, List.filter_cons]
    by_cases e : p.1 = k
    · have a : ¬ decide (p.1 ≠ k) = true := by simp [e]
      have b : ¬ decide (q.1 ≠ k) = true := by simp [h1.symm.trans e]
      rw [if_neg a, if_neg b]; exact ih
    · have e' : ¬ q.1 = k := fun z => e (h1.trans z)
      have a : decide (p.1 ≠ k) = true := by simp [e]
      have b : decide (q.1 ≠ k) = true := by simp [e']
      rw [if_pos a, if_pos b]; exact .cons ⟨h1, h2⟩ ih
theorem KV.keys {kvs : List (κ × V)} {vs : List (κ × Value)} (r : KV kvs vs) : kvs.map (·.1) = vs.map (·.1) := by
  unfold KV at r
  induction r with
  | nil => rfl
  | cons h t ih => rw [List.map_cons, List.map_cons, ih, h.1]
theorem KV.length {kvs : List (κ × V)} {vs : List (κ × Value)} (r : KV kvs vs) : kvs.length = vs.length := Paired.length r
end


/-- raw entries of a dict with tuple keys -/
abbrev KT (H : Hp) : List (List Key × V) → List (List Key × Addr × Value) → Prop := Paired fun p q => p.1 = q.1 ∧ H q.2.1 = some (.tup (p.1.map kV)) ∧ RelV p.2 q.2.2
theorem KT.val {H : Hp} {kvs : List (List Key × V)} {xs : List (List Key × Addr × Value)} (r : KT H kvs xs) (k : List Key) : RelO (valV kvs k) ((atKey xs k).map (·.2)) := by
  induction r with
  | nil => exact True.intro
  | @cons p q ps qs h t ih =>
    obtain ⟨h1, _, h2⟩ := h
    by_cases e : p.1 = k
    · have e' : q.1 = k := h1.symm.trans e
      have b : atKey (q :: qs) k = some q.2 := by simp [atKey, List.find?_cons, e']
      rw [valV_pos e, b]; exact h2
    · have e' : ¬ q.1 = k := fun z => e (h1.trans z)
      have b : atKey (q :: qs) k = atKey qs k := by simp [atKey, List.find?_cons, e']
      rw [valV_neg e, b]; exact ih
theorem KT.repl {H : Hp} {kvs : List (List Key × V)} {xs : List (List Key × Addr × Value)} (r : KT H kvs xs) (k : List Key) {y : V} {u : Value} (ry : RelV y u) :
    KT H (kvs.map fun kv => if kv.1 = k then (kv.1, y) else kv) (xs.map (putAt k u)) := by
  induction r with
  | nil => exact .nil
  | @cons p q ps qs h t ih =>
    rw [List.map_cons, List.map_cons]
    refine .cons ?_ ih
    obtain ⟨h1, h2, h3⟩ := h
    unfold putAt
    by_cases e : p.1 = k
    · rw [if_pos e, if_pos (h1.symm.trans e)]; exact ⟨h1, h2, ry⟩
    · rw [if_neg e, if_neg (fun z => e (h1.trans z))]; exact ⟨h1, h2, h3⟩
theorem KT.put {H : Hp} {kvs : List (List Key × V)} {xs : List (List Key × Addr × Value)} (r : KT H kvs xs) (k : List Key) {b : Addr} {y : V} {u : Value} (hb : H b = some (.tup (k.map kV))) (ry : RelV y u) :
    KT H (putK kvs k y) (storedH xs k b u) := by
  have e : (kvs.any fun kv => decide (kv.1 = k)) = (atKey xs k).isSome := by
    rw [valV_any, (r.val k).isSome_eq, Option.isSome_map]
  unfold putK storedH
  rw [e]
  by_cases q : (atKey xs k).isSome = true
  · rw [if_pos q, if_pos q]; exact r.repl k ry
  · rw [if_neg q, if_neg q]; exact Paired.snoc r ⟨rfl, hb, ry⟩
theorem KT.keeps {H H' : Hp} {kvs : List (List Key × V)} {xs : List (List Key × Addr × Value)} (r : KT H kvs xs) (ht : ∀ b ys, H b = some (.tup ys) → H' b = some (.tup ys)) : KT H' kvs xs :=
  Paired.mapP r fun _ _ z => ⟨z.1, ht _ _ z.2.1, z.2.2⟩

section
variable {P : Program} {w : World} {H : Hp} {h : Heap} {a : Addr}
end

/-- what the dict at a holds at the key y -/
def DGet (H : Hp) (a : Addr) (y : V) (r : Option V) : Prop :=
  (∃ kvs k, Rd H a (.dK kvs) ∧ y = kV k ∧ r = valV kvs k) ∨ ∃ kvs k b, Rd H a (.dT kvs) ∧ y = .ref b ∧ H b = some (.tup (k.map kV)) ∧ r = valV kvs k
/-- the heap behind a[y] = v -/
def DPut (H : Hp) (a : Addr) (y v : V) (H' : Hp) : Prop :=
  (∃ kvs k, H a = some (.dK kvs) ∧ y = kV k ∧ kvs.length < sizeLine ∧ H' = upd H a (.dK (putK kvs k v))) ∨
  ∃ kvs k b, H a = some (.dT kvs) ∧ y = .ref b ∧ H b = some (.tup (k.map kV)) ∧ kvs.length < sizeLine ∧ H' = upd H a (.dT (putK kvs k v))
theorem DGet.k {H : Hp} {a : Addr} {kvs : List (Key × V)} {k : Key} (e : H a = some (.dK kvs)) : DGet H a (kV k) (valV kvs k) := .inl ⟨kvs, k, .inl e, rfl, rfl⟩
theorem DGet.t {H : Hp} {a b : Addr} {kvs : List (List Key × V)} {k : List Key} (e : H a = some (.dT kvs)) (eb : H b = some (.tup (k.map kV))) : DGet H a (.ref b) (valV kvs k) := .inr ⟨kvs, k, b, .inl e, rfl, eb, rfl⟩
theorem DPut.k {H : Hp} {a : Addr} {kvs : List (Key × V)} {k : Key} {v : V} (e : H a = some (.dK kvs)) (hl : kvs.length < sizeLine) : DPut H a (kV k) v (upd H a (.dK (putK kvs k v))) := .inl ⟨kvs, k, e, rfl, hl, rfl⟩
theorem DPut.t {H : Hp} {a b : Addr} {kvs : List (List Key × V)} {k : List Key} {v : V} (e : H a = some (.dT kvs)) (eb : H b = some (.tup (k.map kV))) (hl : kvs.length < sizeLine) :
    DPut H a (.ref b) v (upd H a (.dT (putK kvs k v))) := .inr ⟨kvs, k, b, e, rfl, eb, hl, rfl⟩


section
variable {X : Cx} {pins : List (Addr × Obj)} {σ : St} {H : Hp} {s : Shared} {a : Addr} {y v : V} {u r : Value} {o : Option V} {A : Around} {E : Value → Shared → Prop}

end

section
variable {X : Cx} {pins : List (Addr × Obj)} {σ : St} {H : Hp} {s : Shared} {a : Addr} {kvs : List (Key × V)} {k : Key} {u : Value} {A : Around} {E : Value → Shared → Prop}
end


/-- the element of a subscription, not a slice -/
def NoSl (i : Expr) : Prop := ∀ ov iv, subscripted i false ov iv = operate [ov, iv] (getItem ov iv)
/-- d[y] -/
def tDGet (td ty : TE) : TE := fun σ H Q => td σ H fun x H1 => ty σ H1 fun y H2 => ∃ a v, x = .ref a ∧ DGet H2 a y (some v) ∧ Q v H2
/-- y in d, y not in d -/
def tDIn (ty td : TE) : TE := fun σ H Q => ty σ H fun y H1 => td σ H1 fun x H2 => ∃ a o, x = .ref a ∧ DGet H2 a y o ∧ Q (.bl o.isSome) H2
def tDNotIn (ty td : TE) : TE := fun σ H Q => ty σ H fun y H1 => td σ H1 fun x H2 => ∃ a o, x = .ref a ∧ DGet H2 a y o ∧ Q (.bl (!o.isSome)) H2
/-- d[y] = v -/
def sDPut (td ty tv : TE) : TS := fun D σ H => tv σ H fun v H1 => td σ H1 fun x H2 => ty σ H2 fun y H3 => ∃ a H4, x = .ref a ∧ DPut H3 a y v H4 ∧ D.nx σ H4
/-- d[y] op= v -/
def sDAug (td ty tv : TE) (rd : V → V → Hp → VK → Prop) : TS := fun D σ H => td σ H fun x H1 => ty σ H1 fun y H2 => ∃ a v, x = .ref a ∧ DGet H2 a y (some v) ∧
  tv σ H2 fun y2 H3 => rd v y2 H3 fun z H4 => ∃ H5, DPut H4 a y z H5 ∧ D.nx σ H5
/-- del d[y] -/
def sDDel (td ty : TE) : TS := fun D σ H => td σ H fun x H1 => ty σ H1 fun y H2 => ∃ a kvs k, x = .ref a ∧ H2 a = some (.dK kvs) ∧ y = kV k ∧ (valV kvs k).isSome = true ∧ D.nx σ (upd H2 a (.dK (dropK kvs k)))

section
variable {X : Cx} {o i e value : Expr} {pos pos' tpos : Pos} {td ty tv : TE}
end


/-- {}, to be a dict of the kind that is wanted -/
def tDNewK : TE := fun _ H Q => ∀ p, H p = none → Q (.ref p) (upd H p (.dK []))
def tDNewT : TE := fun _ H Q => ∀ p, H p = none → Q (.ref p) (upd H p (.dT []))
section
variable {X : Cx} {pos : Pos}
end

/-- the pairs of a display, from the left -/
def tPairs : List (TE × TE) → St → Hp → (List (V × V) → Hp → Prop) → Prop
  | [], _, H, Q => Q [] H
  | (tk, tv) :: r, σ, H, Q => tk σ H fun x H1 => tv σ H1 fun y H2 => tPairs r σ H2 fun ps H3 => Q ((x, y) :: ps) H3
abbrev VV : List (V × V) → List (Value × Value) → Prop := Paired fun p q => RelV p.1 q.1 ∧ RelV p.2 q.2
def PPs (X : Cx) (pos : Pos) (keys : List (Option Expr)) (values : List Expr) (trs : List (TE × TE)) : Prop :=
  ∀ (pins : List (Addr × Obj)) (s : Shared) (σ : St) (H : Hp) (Q : List (V × V) → Hp → Prop), Inv X pins σ H s → tPairs trs σ H Q →
    wpAny (model X.prog X.w) X.A (evalPairs (pairTrees keys values X.env pos)) (fun vs s' => ∃ ps H', Inv X pins σ H' s' ∧ VV ps vs ∧ Q ps H') X.xe s
def mergeK (kvs more : List (Key × V)) : List (Key × V) := more.foldl (fun acc kv => putK acc kv.1 kv.2) kvs
/-- {k: v, ..} with keys ints and texts; the new dict stands empty while the pairs are made -/
def tDisp (trs : List (TE × TE)) : TE := fun σ H Q => ∀ p, H p = none → tPairs trs σ (upd H p (.dK [])) fun ps H2 => H2 p = some (.dK []) ∧ ∃ kvs : List (Key × V), ps = kvs.map (fun kv => (kV kv.1, kv.2)) ∧ kvs.length ≤ 15 ∧ Q (.ref p) (upd H2 p (.dK (mergeK [] kvs)))
/-- a method call o.m(e) of a built-in, with one argument: what must be seen of the text -/
structure M1 (X : Cx) (o : Expr) (m : Str) (apos : Pos) (e : Expr) (cpos : Pos) : Prop where
  base : attributeBase o m X.env (eval o X.env) = eval o X.env
  few : ((backTo cpos (starEach [e] X.env)).all (fun x => !x.1) && (backToKw cpos (keywordEach [] X.env)).all (fun x => x.1.isSome)
    && decide (([e] : List Expr).length + ([] : List Keyword).length + (if ([] : List Keyword).isEmpty then 0 else 1) < 30)) = true
  line : (apos.endLine == cpos.line) = true
  trees : backTo cpos (starEach [e] X.env) = [(false, eval e X.env)]
structure M2 (X : Cx) (o : Expr) (m : Str) (apos : Pos) (e f : Expr) (cpos : Pos) : Prop where
  base : attributeBase o m X.env (eval o X.env) = eval o X.env
  few : ((backTo cpos (starEach [e, f] X.env)).all (fun x => !x.1) && (backToKw cpos (keywordEach [] X.env)).all (fun x => x.1.isSome)
    && decide (([e, f] : List Expr).length + ([] : List Keyword).length + (if ([] : List Keyword).isEmpty then 0 else 1) < 30)) = true
  line : (apos.endLine == cpos.line) = true
  trees : backTo cpos (starEach [e, f] X.env) = [(false, eval e X.env), (false, eval f X.env)]

/-- a is a dict, whatever its keys -/
def IsD (H : Hp) (a : Addr) : Prop := (∃ kvs, Rd H a (.dK kvs)) ∨ ∃ kvs, Rd H a (.dT kvs)
section
variable {X : Cx} {pins : List (Addr × Obj)} {σ : St} {H : Hp} {s : Shared} {a : Addr} {y d : V} {u r : Value} {o : Option V} {A : Around} {E : Value → Shared → Prop}
end

def tDGet1 (td ty : TE) : TE := fun σ H Q => td σ H fun x H1 => ∃ a, x = .ref a ∧ IsD H1 a ∧ ty σ H1 fun y H2 => ∃ o, DGet H2 a y o ∧ Q (o.getD .non) H2
def tDGet2 (td ty tx : TE) : TE := fun σ H Q => td σ H fun x H1 => ∃ a, x = .ref a ∧ IsD H1 a ∧ ty σ H1 fun y H2 => tx σ H2 fun z H3 => ∃ o, DGet H3 a y o ∧ Q (o.getD z) H3
/-- d.pop(k): there; d.pop(k, x): there or not -/
def tDPop1 (td ty : TE) : TE := fun σ H Q => td σ H fun x H1 => ∃ a, x = .ref a ∧ IsD H1 a ∧ ty σ H1 fun y H2 => ∃ kvs k v, H2 a = some (.dK kvs) ∧ y = kV k ∧ valV kvs k = some v ∧ Q v (upd H2 a (.dK (dropK kvs k)))
def tDPop2 (td ty tx : TE) : TE := fun σ H Q => td σ H fun x H1 => ∃ a, x = .ref a ∧ IsD H1 a ∧ ty σ H1 fun y H2 => tx σ H2 fun z H3 => ∃ kvs k, H3 a = some (.dK kvs) ∧ y = kV k ∧
  (∀ v, valV kvs k = some v → Q v (upd H3 a (.dK (dropK kvs k)))) ∧ (valV kvs k = none → Q z H3)
section
variable {X : Cx} {o e f : Expr} {apos cpos : Pos} {td ty tx : TE}
end

section
variable {X : Cx} {pins : List (Addr × Obj)} {σ : St} {H : Hp} {s : Shared} {a : Addr} {kvs : List (Key × V)} {A : Around} {E : Value → Shared → Prop}
end


section
variable {X : Cx} {pins : List (Addr × Obj)} {σ : St} {H : Hp} {s : Shared} {a : Addr} {y : V} {u : Value} {A : Around} {E : Value → Shared → Prop}
end
end L2

namespace Att
open PySem PySem.W PySem.Calls PyProof.Rows

theorem ints_of_wellAll {P : Params} {h : Heap} : ∀ (ns : List Int) (vs : List Value), WellAll P h vs (ns.map WData.int) → IntsAre vs ns := by
  intro ns
  induction ns with
  | nil =>
    intro vs w
    rw [List.map_nil] at w
    cases w
    exact .nil
  | cons n ns ih =>
    intro vs w
    rw [List.map_cons] at w
    cases w with
    | cons a b =>
      cases a
      exact .cons _ _ (ih _ b)

theorem script_of {l : OpenLaw} {n : Nat} (hn : l.most = some n) {P : Params} {h : Heap} {args : List WData} {vals : List Value}
    (hpre : l.row.toRowW.claim.pre args = true) (hwl : WellAll P h vals args) :
    ∃ a vs ns, vals = [Value.ref a] ∧ args = [WData.list (ns.map WData.int)] ∧ h.get? a = some { cls := .type "list", data := .seq vs.toArray } ∧ IntsAre vs ns ∧ ns.length ≤ n := by
  have hsh : WShape.hasAll [] args [.list .int] = true := (pre_splitW hpre).1
  have hc : l.pre.holds [] { args := args } = true := (pre_splitW hpre).2
  obtain ⟨d, r, rfl, h1, h2⟩ := hasAllW_cons hsh
  obtain rfl := hasAllW_nil h2
  obtain ⟨xs, rfl, h3⟩ := hasW_list h1
  obtain ⟨ns, rfl⟩ := items_int h3
  have hlen : ns.length ≤ n := by
    unfold OpenLaw.pre at hc
    have h4 : (WTm.not (.lt (.lit (.int (n : Int))) (.len (.arg 0)))).holds [] { args := [.list (ns.map .int)] } = true := by
      have h4 := (holds_andW hc).1
      rw [hn] at h4
      exact h4
    have h5 := condW_of h4 (w_not (w_lt w_lit (w_len_list (w_arg rfl))))
    rw [List.length_map] at h5
    refine Nat.le_of_not_lt fun q => ?_
    have q' : (n : Int) < ((ns.length : Nat) : Int) := by omega
    first
      | (rw [decide_eq_true q'] at h5; exact absurd h5 (by decide))
      | (simp at h5; omega)
  cases hwl with
  | cons w1 w2 =>
    cases w2
    cases w1 with
    | list ho hall => exact ⟨_, _, ns, rfl, rfl, ho, ints_of_wellAll ns _ hall, hlen⟩

theorem post_true (l : OpenLaw) (args : List WData) : l.row.toRowW.claim.post args (.bool true) args = true :=
  postW_of (r := l.row.toRowW) (X := (true == true))
    (show WShape.has [] (.bool true) .bool = true by first | rfl | decide | simp [WShape.has, WShape.arms, WShape.armsAll])
    (show (WTm.eq .res (.lit (.bool true))).value [] { args := args, res := some (.bool true), after := args } = some (.bool (true == true)) from w_eq_bool (w_res rfl) w_lit) rfl

theorem attach {l : OpenLaw} {n : Nat} {q : Program} {loose : List Str} {XP : (Str → Option Value) → Heap → Prop} {YP : World → Heap → Prop} {d : DefRec} {x : Str}
    (hn : l.most = some n) (hdf : d.params.defaults = [])
    (hbind : ∀ pm cd doc v : Value, bindArgs (docDef d.name d.params d.body d.scope pm cd doc) ⟨[v], []⟩ = pure [(x, v)])
    (hx : d.scope.names.lookup x = some .local ∨ d.scope.names.lookup x = some .cell)
    (hk : d.scope.kind = .function) (hco : d.scope.isCoroutine = false) (hgen : d.scope.isGenerator = false)
    (body : ∀ (w : World) (s₀ s₁ s : Shared) (mg mb : Str → Option Value) (fa : Addr) (o : Obj) (pm cd doc : Value) (a : Addr) (vs : List Value) (ns : List Int),
      Ground q loose [] XP w s₀ mg mb s₁.heap → YP w s₁.heap →
      s₁.heap.get? fa = some o → o.data = .func (docDef d.name d.params d.body d.scope pm cd doc) → s₁.heap.CodeRec cd d.name → mg d.name = some (.ref fa) →
      s₁.heap.get? a = some { cls := .type "list", data := .seq vs.toArray } → IntsAre vs ns → ns.length ≤ n →
      s.gens = #[] → s.os = s₁.os →
      Fr s₁.heap s₁.heap.objs.size s.heap (bindL (envOfC d.name d.scope s₁.heap.objs.size fa cd).kindOf [(x, .ref a)] fun _ => none) →
      Cl s₁.heap.objs.size (cellsFrom (s₁.heap.objs.size + 1) d.scope.names []) s.heap (bindC (envOfC d.name d.scope s₁.heap.objs.size fa cd).kindOf [(x, .ref a)] fun _ => none) →
      wpAny (model l.prog w) (callerA.deeper (envOfC d.name d.scope s₁.heap.objs.size fa cd)) (execs d.body (envOfC d.name d.scope s₁.heap.objs.size fa cd))
        (fun f s' => f = .ret (.bool true) ∧ OldK s₁.heap s'.heap ∧ s'.os = s₁.os ∧ AllBare s'.gens) (fun _ _ => False) s) :
    WalkO q loose XP YP l.row.toRowW d [] (fun f vs => PySem.call f vs) := by
  intro w s₀ s₁ mg mb G Y fa o pm cd doc dV kV ho hd hcd hD hmg hg args vals as hpre hlay hrd hwl hlo
  obtain rfl : dV = .none := Dflts.none hD hdf
  obtain rfl : kV = .none := Dflts.noKw hD
  obtain ⟨a, vs, ns, rfl, rfl, hobj, hints, hlen⟩ := script_of hn hpre hwl
  refine enter_call ?_
  refine call_cells_ret (o := o) (by rw [depth_caller]; decide) ho (fd_plain hd) G.T.nolimit hcd (hbind pm cd doc (.ref a)) (fun y hy => ?_) (fun h₁ tk F X => ?_) hco hgen hk
  · obtain rfl : y = (x, Value.ref a) := List.mem_singleton.mp hy
    rcases hx with e | e
    · exact .inl e
    · exact .inr ⟨e, cellsFrom_some _ _ _ (.inl e)⟩
  · refine wpAny_mono (body w s₀ s₁ { s₁ with heap := h₁, toks := tk } mg mb fa o pm cd doc a vs ns G Y ho (fd_plain hd) hcd hmg hobj hints hlen hg rfl F X) (fun f s' hq => ?_) (fun _ _ hq => hq)
    obtain ⟨rfl, h2, h3, h4⟩ := hq
    exact ⟨.inl ⟨.bool true, .bool true, [], rfl, fun _ => rfl, .bool true, post_true l _, fun _ => ⟨List.Pairwise.nil, fun _ hm => (nomatch hm)⟩⟩, h2, h3, h4⟩

section
variable {prog : Program} {w : World} {A : Around} {E : Value → Shared → Prop} {s : Shared} {K : Frag}

def noObjs (h : Heap) : Heap := { h with objs := #[] }
def ledger (h : Heap) (L d : Addr) : List (Addr × Obj) := (List.range h.objs.size).filterMap fun a => if a = L ∨ a = d then none else (h.get? a).map fun o => (a, o)
end
end Att

namespace L2
open PySem PySem.Spec PyProof.Rows

theorem vals_ints : ∀ {vs : List Value} {ns : List Int}, IntsAre vs ns → Vals (ns.map V.int) vs
  | _, _, .nil => .nil
  | _, _, .cons n t h => .cons ⟨t, rfl⟩ (vals_ints h)

/-- nothing is tracked but the script, known to the object (or it is an object of the module) -/
def Only (H : Hp) : Prop := ∀ b, H b = none ∨ ∃ o xs, H b = some (.frz o (.lst xs))

/-- THE HEAD: the law's promise, at the heap behind the top. F, the promise of the law's def, may use that base is part of the heap (so K.In base, base.Ns mainGlobals mg stand in Mod) -/
theorem law_call {P : Program} {w : World} {K : PySem.W.Frag} {mg mb : Str → Option Value} {CX : CXT} {k : Nat} {fa a : Addr} {fd : FuncData} {x : Str} {sp : Sp} {s₁ : Shared} {vs : List Value} {ns : List Int}
    (KX : K.In s₁.heap) (hns : s₁.heap.Ns mainGlobals mg) (hb : s₁.heap.Ns builtinsNs mb) (hbb : ∀ x : Str, x ≠ "__name__" → mb x = bootBuiltins x) (hlim : s₁.heap.NoLimit) (hg : s₁.gens = #[])
    (ha : s₁.heap.get? a = some { cls := .type "list", data := .seq vs.toArray }) (hi : IntsAre vs ns) (hl : ns.length ≤ sizeLine) (hr : Room k callerA)
    (F : ∀ base : Heap, K.In base → base.Ns mainGlobals mg → FnOk P w K mg base CX k fa fd [x] sp) (hbind : ∀ (s : Shared) (u : Value), BindsTo s fd ⟨[u], []⟩ [(x, u)])
    (hsp : ∀ H : Hp, Only H → SqL K H a (ns.map V.int) → sp [.ref a] H (fun v _ => v = .bl true) fun _ _ _ => False)
    (hCX : ∀ H e s', CX [] H s₁ (fun _ _ _ => False) e s' → False) :
    codeAny (model P w) callerA (.call (.ref fa) ⟨[.ref a], []⟩) (fun r s' => r = .ok (.ret (.bool true)) ∧ OldK s₁.heap s'.heap ∧ s'.os = s₁.os ∧ AllBare s'.gens) s₁ := by
  have rv := vals_ints hi
  have lenV := hi.length
  -- from an abstract heap in which nothing but the script may be tracked
  have core : ∀ H : Hp, Only H → SqL K H a (ns.map V.int) → HOk P w H s₁.heap → (∀ b, H b ≠ none → b = a) → (H a ≠ none → K.lookup a = none) →
      codeAny (model P w) callerA (.call (.ref fa) ⟨[.ref a], []⟩) (fun r s' => r = .ok (.ret (.bool true)) ∧ OldK s₁.heap s'.heap ∧ s'.os = s₁.os ∧ AllBare s'.gens) s₁ := by
    intro H hO hS hok hA hK
    have base_of : ∀ {b : Addr} {o : Obj}, s₁.heap.get? b = some o → H b = none → (hidT s₁.heap H).get? b = some o := fun e n => hidT_get e n
    have noA : ∀ {b : Addr} {o : Obj} {es : Array DictEntry} {ep : Nat}, s₁.heap.get? b = some o → o.data = .dict es ep → H b = none := fun {b o es ep} e d => by
      cases q : H b with
      | none => rfl
      | some u =>
        have e' : b = a := hA b (by rw [q]; simp)
        subst e'
        rw [ha] at e; cases e
        have d' : Data.seq vs.toArray _ = Data.dict es ep := d
        cases d'
    have nsK : ∀ {b : Addr} {m : Str → Option Value}, s₁.heap.Ns b m → (hidT s₁.heap H).Ns b m := fun {b m} ⟨o, es, ep, e, d, r⟩ => ⟨o, es, ep, base_of e (noA e d), d, r⟩
    have hKb : K.In (hidT s₁.heap H) := fun b o e => base_of (KX b o e) (by
      cases q : H b with
      | none => rfl
      | some u =>
        have e' : b = a := hA b (by rw [q]; simp)
        subst e'
        rw [hK (by rw [q]; simp)] at e; cases e)
    have hM : Mod K mg (hidT s₁.heap H) := ⟨hKb, nsK hns, ⟨mb, nsK hb, hbb⟩, let ⟨mc, h1, h2⟩ := hlim; ⟨mc, nsK h1, h2⟩⟩
    have e0 : Env0 P w K mg (hidT s₁.heap H) callerA [] s₁ H := ⟨rfl, hM, fun b o e => of_hidT e, Nat.le_of_eq (hidT_size _ _), trivial, fun b hb => absurd (show b ∈ ([] : List Addr) from hb) (by simp), hok, .of_eq hg⟩
    refine codeAny_mono ((F _ hKb (nsK hns)).run callerA [] s₁ H ⟨[.ref a], []⟩ [.ref a] [.ref a] _ _ hr e0 (hbind s₁ (.ref a)) (.cons rfl .nil) (hsp H hO hS)) fun r s' h => ?_
    cases r with
    | error e => exact (hCX H e s' h).elim
    | ok fl =>
      cases fl with
      | next => exact False.elim h
      | brk => exact False.elim h
      | cont => exact False.elim h
      | ret u =>
        obtain ⟨v, H', os, bare, un, hok', r', q⟩ := h
        have q' : v = .bl true := q
        subst q'
        obtain rfl : u = Value.bool true := r'
        refine ⟨rfl, OldK.of_keep fun b o e => ?_, os, bare⟩
        cases q : H b with
        | none => exact un.keep b o e q (by intro z; exact absurd (show b ∈ ([] : List Addr) from z) (by simp)) (by simp)
        | some u =>
          rcases hO b with z | ⟨ob, xs, z⟩
          · rw [q] at z; cases z
          · have z2 := un.frzs b ob _ z
            obtain ⟨e1, _⟩ := hok b _ z
            obtain ⟨e2, _⟩ := hok' b _ z2
            rw [e] at e1; cases e1
            exact e2
  cases hk : K.lookup a with
  | some o =>
    -- the script is one of the module's own objects
    have e := KX a o hk
    rw [ha] at e
    cases e
    refine core (fun _ => none) (fun _ => .inl rfl) (.inr ⟨_, vs.toArray, _, hk, rfl, rfl, rfl, by rw [List.size_toArray, lenV]; exact hl, by simpa using rv⟩) (fun b u z => by have z' : (none : Option HO) = some u := z; cases z') (fun b z => absurd rfl z) fun z => absurd rfl z
  | none =>
    refine core (fun b => if b = a then some (.frz { cls := .type "list", data := .seq vs.toArray } (.lst (ns.map V.int))) else none) (fun b => ?_) (.inl (.inr ⟨{ cls := .type "list", data := .seq vs.toArray }, if_pos rfl⟩)) (fun b u z => ?_) (fun b z => ?_) fun _ => hk
    · by_cases hb : b = a
      · exact .inr ⟨_, _, if_pos hb⟩
      · exact .inl (if_neg hb)
    · by_cases hb : b = a
      · have z' := (if_pos hb).symm.trans z
        cases z'
        subst hb
        exact ⟨ha, by rw [List.length_map]; exact hl, vs, _, rv, ha⟩
      · have z' := (if_neg hb).symm.trans z
        cases z'
    · by_cases hb : b = a
      · exact hb
      · exact absurd (if_neg hb) z
end L2

namespace L2
open PySem PySem.Spec PyProof.Rows

abbrev KOf {K : PySem.W.Frag} {h : Heap} (_ : K.In h) : PySem.W.Frag := K

end L2


namespace L2
open PySem PySem.Spec PyProof.Rows

/-- the j-th statement of a class's body -/
def inClass (s : Stmt) (j : Nat) : Stmt := match s with
  | .ClassDef _ _ _ body _ _ _ _ _ _ _ => body.getD j (.Pass ⟨0, 0, 0, 0⟩)
  | _ => .Pass ⟨0, 0, 0, 0⟩
def defArgs (s : Stmt) : Arguments := match s with
  | .FunctionDef _ a _ _ _ _ _ _ _ _ => a
  | _ => { posonlyargs := [], args := [], vararg := none, kwonlyargs := [], kw_defaults := [], kwarg := none, defaults := [] }
def defBody (s : Stmt) : List Stmt := match s with
  | .FunctionDef _ _ b _ _ _ _ _ _ _ => b
  | _ => []
def defScope (s : Stmt) : Scope := match s with
  | .FunctionDef _ _ _ _ _ _ sc _ _ _ => sc
  | _ => { kind := .function, names := [], isGenerator := false, isCoroutine := false }

abbrev CX0 : CXT := fun _ _ _ _ _ _ => False
abbrev E0 : XK := fun _ _ _ => False
theorem pass0 {X : Cx} : Passes CX0 X E0 := fun _ _ _ _ _ _ _ h => h.elim

structure Fun (K : PySem.W.Frag) (x qual : Str) (st : Stmt) (f : Addr) (fd : FuncData) : Prop where
  ex : ∃ (oc : Value) (od : Option Addr) (kV doc pm : Value) (an : Option Addr) (cdv ct : Value) (osl : Array (Option Value)),
    fd = PySem.W.fnOf x qual (defArgs st) (defBody st) (defScope st) .none kV doc pm an cdv ct ∧ K.lookup f = some ⟨oc, od, .func fd, osl⟩ ∧ PySem.W.codeIn K cdv qual = true
  kp : PySem.W.keepIn K (.ref f) = true
section
variable {P : Program} {w : World} {K : PySem.W.Frag} {mg : Str → Option Value} {base : Heap}
/-- THE RULE for a def: its body as a term of rules, and the reading of that term -/
theorem Fun.ok {x qual : Str} {st : Stmt} {f : Addr} {fd : FuncData} {N ps : List Str} {k : Nat} {sp : Sp} (F : Fun K x qual st f fd) (S : FnScope N ps (defScope st)) (len : ∀ vs H Q E, sp vs H Q E → vs.length = ps.length)
    (hbody : ∀ (cdv : Value) (A : Around) (outer : List Env) (s : Shared) (H : Hp) (vs : List V) (Q : VK) (E : XK), Room k (A.deeper (envOfC qual (defScope st) s.heap.objs.size f cdv)) → sp vs H Q E →
      ∃ t, PSs (cxOf CX0 P w K mg base N qual (defScope st) f cdv A outer s H E).nox (defBody st) t ∧ t { nx := fun _ H' => Q .non H', rt := Q } (start N vs) H) : FnOk P w K mg base CX0 (k + 1) f fd ps sp := by
  obtain ⟨oc, od, kV, doc, pm, an, cdv, ct, osl, rfl, lk, hcd⟩ := F.ex
  refine fn_of lk hcd S len fun A outer s H vs Q E hr hsp => ?_
  obtain ⟨t, h, q⟩ := hbody cdv A outer s H vs Q E hr hsp
  exact ⟨t, h.nox, q⟩
/-- how its arguments bind (no defaults): h is «fun _ _ _ _ _ _ us hl => match us, hl with | [_, _], _ => rfl», one _ a parameter -/
theorem Fun.binds {x qual : Str} {st : Stmt} {f : Addr} {fd : FuncData} {ps : List Str} (F : Fun K x qual st f fd)
    (h : ∀ (kV doc pm : Value) (an : Option Addr) (cdv ct : Value) (us : List Value), us.length = ps.length → bindArgs (PySem.W.fnOf x qual (defArgs st) (defBody st) (defScope st) .none kV doc pm an cdv ct) ⟨us, []⟩ = pure (ps.zip us)) : Binds K fd ps [] := by
  obtain ⟨oc, od, kV, doc, pm, an, cdv, ct, osl, rfl, lk, hcd⟩ := F.ex
  exact .all (h kV doc pm an cdv ct)
theorem fun_mk {x qual : Str} {st : Stmt} {f : Addr} {oc : Value} {od an : Option Addr} {osl : Array (Option Value)} {kV doc pm cdv ct : Value} (l : K.lookup f = some ⟨oc, od, .func (PySem.W.fnOf x qual (defArgs st) (defBody st) (defScope st) .none kV doc pm an cdv ct), osl⟩)
    (c : PySem.W.codeIn K cdv qual = true) (k : PySem.W.keepIn K (.ref f) = true) : Fun K x qual st f (PySem.W.fnOf x qual (defArgs st) (defBody st) (defScope st) .none kV doc pm an cdv ct) := ⟨⟨oc, od, kV, doc, pm, an, cdv, ct, osl, rfl, l, c⟩, k⟩
end
theorem small1000 {n : Nat} (h : n ≤ 1000) : n < sizeLine := Nat.lt_of_le_of_lt h (by decide)

section
variable {X : Cx}
theorem pv (i : Nat) {x : Str} {pos : Pos} (hN : X.N[i]? = some x := by rfl) (hv : Vis X.env.scope x := by first | exact Or.inl rfl | exact Or.inr (Or.inl rfl) | exact Or.inr (Or.inr rfl)) (hd : (x == ("__debug__" : Str)) = false := by decide)
    (hcd : (x == ("__classdict__" : Str)) = false := by decide) : PE X (.Name x pos) (tVar i) := pe_var hN hv hd hcd
end

theorem iteF {A B : Prop} (h : B) : if false = true then A else B := by
  rw [if_neg Bool.false_ne_true]
  exact h
theorem iteT {A B : Prop} (h : A) : if true = true then A else B := by
  rw [if_pos rfl]
  exact h
theorem iteNS {c A B : Prop} [Decidable c] (hc : c) (h : B) : if (!decide c) = true then A else B := by
  rw [decide_eq_true hc]
  exact iteF h

/-- all that was tracked is as it was -/
def Same (H H' : Hp) : Prop := ∀ b o, H b = some o → H' b = some o
theorem Same.refl (H : Hp) : Same H H := fun _ _ h => h
theorem Same.trans {H H1 H2 : Hp} (a : Same H H1) (b : Same H1 H2) : Same H H2 := fun c o h => b c o (a c o h)
theorem Same.free {H H' : Hp} (e : Same H H') {l : Addr} (h : H' l = Option.none) : H l = Option.none := by
  cases q : H l with
  | none => rfl
  | some o =>
    rw [e l o q] at h
    cases h
theorem Same.seq {K : PySem.W.Frag} {H H' : Hp} {a : Addr} {xs : List V} (e : Same H H') (h : SqL K H a xs) : SqL K H' a xs := by
  rcases h with (h | ⟨o, h⟩) | h
  · exact .inl (.inl (e _ _ h))
  · exact .inl (.inr ⟨o, e _ _ h⟩)
  · exact .inr h

end L2

namespace L2
open PySem PySem.Spec PyProof.Rows
section
variable {X : Cx}
end
end L2
namespace L2
open PySem PySem.Spec PyProof.Rows
section
variable {κ : Type} [DecidableEq κ]
theorem valV_not {kvs : List (κ × V)} {k : κ} (h : valV kvs k = none) : ¬ k ∈ kvs.map (·.1) := by
  intro m
  obtain ⟨p, hp, e⟩ := List.mem_map.mp m
  have q : (kvs.any fun kv => decide (kv.1 = k)) = true := List.any_eq_true.mpr ⟨p, hp, decide_eq_true e⟩
  rw [valV_any, h] at q
  exact absurd q (by simp)
theorem nd_snoc : ∀ {l : List κ} {k : κ}, l.Nodup → ¬ k ∈ l → (l ++ [k]).Nodup
  | [], k, _, _ => by simp
  | a :: r, k, h, hk => by
    obtain ⟨h1, h2⟩ := List.nodup_cons.mp h
    show (a :: (r ++ [k])).Nodup
    refine List.nodup_cons.mpr ⟨fun m => ?_, nd_snoc h2 fun m => hk (List.mem_cons.mpr (Or.inr m))⟩
    rcases List.mem_append.mp m with q | q
    · exact h1 q
    · exact hk (List.mem_cons.mpr (Or.inl (List.mem_singleton.mp q).symm))
theorem nd_putK {kvs : List (κ × V)} {k : κ} (v : V) (hn : (kvs.map (·.1)).Nodup) (h : valV kvs k = none) : ((putK kvs k v).map (·.1)).Nodup := by
  rw [putK_new v h, List.map_append]
  exact nd_snoc hn (valV_not h)
end
end L2

namespace Mth
theorem pos_right {a b : Int} (ha : 0 < a) (h : 0 < a * b) : 0 < b := by
  rcases (by omega : 0 < b ∨ b ≤ 0) with q | q
  · exact q
  · have := Int.mul_nonneg (Int.le_of_lt ha) (by omega : 0 ≤ -b)
    rw [Int.mul_neg] at this
    omega
/-- what a fraction made of t and b (not 0) is -/
structure Fr (t b q r : Int) : Prop where
  pos : 0 < r
  cross : q * b = t * r
  cop : Int.gcd q r = 1
  topLe : q.natAbs ≤ t.natAbs
  botLe : r.natAbs ≤ b.natAbs
theorem abs_le_mul {c q : Int} (hc : 0 < c) : q.natAbs ≤ (c * q).natAbs := by
  rw [Int.natAbs_mul]
  exact Nat.le_mul_of_pos_left _ (by omega)
theorem fr_of {t b c : Int} (hb : b ≠ 0) (hc : c = ((Int.gcd t b : Nat) : Int)) : 0 < c ∧ c ≤ b.natAbs ∧ (0 < b → Fr t b (t.fdiv c) (b.fdiv c)) ∧ (b < 0 → Fr t b (t.fdiv (-c)) (b.fdiv (-c))) := by
  have hp : 0 < Int.gcd t b := Int.gcd_pos_iff.mpr (.inr hb)
  have c0 : 0 < c := by omega
  have d1 : c ∣ t := hc ▸ Int.gcd_dvd_left t b
  have d2 : c ∣ b := hc ▸ Int.gcd_dvd_right t b
  obtain ⟨q, hq⟩ := d1
  obtain ⟨r, hr⟩ := d2
  have hr0 : r ≠ 0 := by rintro rfl; rw [Int.mul_zero] at hr; exact hb hr
  have hle : c ≤ b.natAbs := by
    rw [hr, Int.natAbs_mul]
    have : c.natAbs * 1 ≤ c.natAbs * r.natAbs := Nat.mul_le_mul_left _ (by omega)
    omega
  have e1 : t.fdiv c = q := by rw [hq, Int.mul_fdiv_cancel_left _ (by omega)]
  have e2 : b.fdiv c = r := by rw [hr, Int.mul_fdiv_cancel_left _ (by omega)]
  have e3 : t.fdiv (-c) = -q := by rw [show t = -c * -q by rw [hq, Int.neg_mul_neg], Int.mul_fdiv_cancel_left _ (by omega)]
  have e4 : b.fdiv (-c) = -r := by rw [show b = -c * -r by rw [hr, Int.neg_mul_neg], Int.mul_fdiv_cancel_left _ (by omega)]
  have hg : Int.gcd q r = 1 := by
    have h1 : Int.gcd (c * q) (c * r) = c.natAbs * Int.gcd q r := Int.gcd_mul_left c q r
    rw [← hq, ← hr] at h1
    have h3 : c.natAbs = Int.gcd t b := by omega
    rw [h3] at h1
    have h2 : Int.gcd t b * Int.gcd q r = Int.gcd t b * 1 := by rw [← h1, Nat.mul_one]
    exact Nat.eq_of_mul_eq_mul_left hp h2
  have l1 : q.natAbs ≤ t.natAbs := hq ▸ abs_le_mul c0
  have l2 : r.natAbs ≤ b.natAbs := hr ▸ abs_le_mul c0
  refine ⟨c0, hle, fun b0 => ?_, fun b0 => ?_⟩
  · rw [e1, e2]
    exact ⟨pos_right c0 (hr ▸ b0), by rw [hq, hr, Int.mul_assoc, Int.mul_left_comm], hg, l1, l2⟩
  · rw [e3, e4]
    refine ⟨pos_right c0 (by rw [Int.mul_neg, ← hr]; omega), ?_, by rw [Int.gcd_neg, Int.neg_gcd]; exact hg, by omega, by omega⟩
    rw [hq, hr, Int.neg_mul, Int.mul_neg, Int.mul_assoc, Int.mul_left_comm]
/-- below 2 ^ n -/
def Bd (n : Nat) (x : Int) : Prop := x.natAbs < 2 ^ n
theorem Bd.mono {m n : Nat} {x : Int} (h : Bd m x) (l : m ≤ n) : Bd n x := Nat.lt_of_lt_of_le h (Nat.pow_le_pow_right (by decide) l)
theorem Bd.mul {m n : Nat} {x y : Int} (h : Bd m x) (k : Bd n y) : Bd (m + n) (x * y) := by
  unfold Bd at *
  rw [Int.natAbs_mul, Nat.pow_add]
  exact Nat.mul_lt_mul'' h k
theorem Bd.add {m : Nat} {x y : Int} (h : Bd m x) (k : Bd m y) : Bd (m + 1) (x + y) := by
  unfold Bd at *
  rw [Nat.pow_succ]
  have := Int.natAbs_add_le x y
  omega
theorem Bd.neg {m : Nat} {x : Int} (h : Bd m x) : Bd m (-x) := by unfold Bd at *; rw [Int.natAbs_neg]; exact h
theorem Bd.sub {m : Nat} {x y : Int} (h : Bd m x) (k : Bd m y) : Bd (m + 1) (x - y) := by rw [Int.sub_eq_add_neg]; exact h.add k.neg
theorem Bd.le {m : Nat} {x y : Int} (h : Bd m y) (k : x.natAbs ≤ y.natAbs) : Bd m x := Nat.lt_of_le_of_lt k h
theorem Bd.abs {m : Nat} {x : Int} (h : Bd m x) : Bd m (x.natAbs : Int) := by unfold Bd at *; simpa using h
theorem Bd.log {n : Nat} {x : Int} (h : Bd n x) (hn : 0 < n) : x.natAbs.log2 < n := by
  by_cases h0 : x.natAbs = 0
  · rw [h0]; simpa using hn
  · exact (Nat.log2_lt h0).mpr h
theorem Fr.bdq {t b q r : Int} {n : Nat} (h : Fr t b q r) (k : Bd n t) : Bd n q := k.le h.topLe
theorem Fr.bdr {t b q r : Int} {n : Nat} (h : Fr t b q r) (k : Bd n b) : Bd n r := k.le h.botLe
end Mth
namespace Bit
/-- the rooms of bits, rising -/
def rooms (n : Nat) : List Nat := (List.range 61).filter n.testBit
theorem mem_rooms {n k : Nat} : k ∈ rooms n ↔ k < 61 ∧ n.testBit k = true := by
  unfold rooms; rw [List.mem_filter, List.mem_range]
theorem bit_small {n m k : Nat} (h : n < 2 ^ m) (hk : m ≤ k) : n.testBit k = false := Nat.testBit_lt_two_pow (Nat.lt_of_lt_of_le h (Nat.pow_le_pow_right (by decide) hk))
theorem rooms_upto {n m : Nat} (h : n < 2 ^ m) (hm : m ≤ 61) : (List.range m).filter n.testBit = rooms n := by
  unfold rooms
  obtain ⟨d, hd⟩ : ∃ d, 61 = m + d := ⟨61 - m, by omega⟩
  have e61 : List.range 61 = List.range (m + d) := by rw [hd]
  rw [e61, List.range_add, List.filter_append]
  have : (List.map (m + ·) (List.range d)).filter n.testBit = [] := by
    rw [List.filter_eq_nil_iff]
    intro a ha
    obtain ⟨b, _, rfl⟩ := List.mem_map.mp ha
    rw [bit_small h (by omega)]
    exact Bool.false_ne_true
  rw [this, List.append_nil]
/-- bits of a list of rooms -/
def sumOf (l : List Nat) : Nat := l.foldl (fun n r => n ||| 2 ^ r) 0
/-- the parts, as the program makes them -/
def parts (l : List Nat) : List Nat := l.foldl (fun ps r => ps ++ ps.map (· ||| 2 ^ r)) [0]
structure Ok (ps l : List Nat) : Prop where
  len : ps.length = 2 ^ l.length
  first : ps[0]? = some 0
  last : ps[ps.length - 1]? = some (sumOf l)
  rise : ps.Pairwise (· < ·)
  sub : ∀ p ∈ ps, ∀ k, p.testBit k = true → k ∈ l
/-- a room that is not there is put in by adding -/
theorem add_or {n r : Nat} (h : n.testBit r = false) : n + 2 ^ r = n ||| 2 ^ r := by
  have e : n &&& 2 ^ r = 0 := Nat.eq_of_testBit_eq fun k => by
    rw [Nat.testBit_and, Nat.testBit_two_pow, Nat.zero_testBit]
    by_cases hk : r = k
    · subst hk; rw [h]; rfl
    · simp [hk]
  have l1 : n < 2 ^ (n + r + 1) := Nat.lt_of_lt_of_le Nat.lt_two_pow_self (Nat.pow_le_pow_right (by decide) (by omega))
  have l2 : 2 ^ r < 2 ^ (n + r + 1) := Nat.pow_lt_pow_right (by decide) (by omega)
  have l3 : n + 2 ^ r < 2 ^ (n + r + 2) := by
    have : 2 ^ (n + r + 2) = 2 ^ (n + r + 1) * 2 := Nat.pow_succ ..
    omega
  have m1 : n < 2 ^ (n + r + 2) := Nat.lt_of_le_of_lt (Nat.le_add_right n (2 ^ r)) l3
  have m2 : 2 ^ r < 2 ^ (n + r + 2) := Nat.lt_of_le_of_lt (Nat.le_add_left (2 ^ r) n) l3
  have q := BitVec.add_eq_or_of_and_eq_zero (BitVec.ofNat (n + r + 2) n) (BitVec.ofNat (n + r + 2) (2 ^ r)) (by
    apply BitVec.eq_of_toNat_eq
    rw [BitVec.toNat_and, BitVec.toNat_ofNat, BitVec.toNat_ofNat, Nat.mod_eq_of_lt m1, Nat.mod_eq_of_lt m2, e]
    simp)
  have q2 := congrArg BitVec.toNat q
  rw [BitVec.toNat_add, BitVec.toNat_or, BitVec.toNat_ofNat, BitVec.toNat_ofNat, Nat.mod_eq_of_lt m1, Nat.mod_eq_of_lt m2, Nat.mod_eq_of_lt l3] at q2
  exact q2
end Bit
namespace L2
open PySem PySem.Spec PyProof.Rows Mth

theorem bt_len : bootBuiltins "len" = some (.builtin "len") := by decide +kernel
theorem bt_isinstance : bootBuiltins "isinstance" = some (.builtin "isinstance") := by decide +kernel
theorem bt_all : bootBuiltins "all" = some (.builtin "all") := by decide +kernel
theorem bt_list : bootBuiltins "list" = some (.type "list") := by decide +kernel
theorem bt_int : bootBuiltins "int" = some (.type "int") := by decide +kernel
theorem bt_bool : bootBuiltins "bool" = some (.type "bool") := by decide +kernel

theorem bd_bits {n : Nat} {x : Int} (h : Bd n x) : Builtin.Int.intBits x ≤ n := PySem.intBits_le_iff.mpr h
theorem bits_bd {n : Nat} {x : Int} (h : Builtin.Int.intBits x ≤ n) : Bd n x := PySem.intBits_le_iff.mp h

section
variable {X : Cx}
def CMulB (i j : Int) : Prop := ∃ m n, Bd m i ∧ Bd n j ∧ m + n ≤ 100000000
def CDivB (_ j : Int) : Prop := j ≠ 0 ∧ Bd 8999 j
theorem op_mulB : OpR X (binaryOp .Mult) (rI CMulB fun i j => .int (i * j)) := opI fun _ _ _ _ _ _ _ hc q => by
  obtain ⟨m, n, h1, h2, h3⟩ := hc
  exact mul_int q (IntMulOk.of_le (bd_bits h1) (bd_bits h2) (by omega))
theorem op_fdivB : OpR X (binaryOp .FloorDiv) (rI CDivB fun i j => .int (i.fdiv j)) := opI fun _ _ _ _ _ _ _ hc q => by
  have h2 : Bd 8999 _ := hc.2
  exact floordiv_int hc.1 q (.inl (PyProof.noPylong_of_log2 (Nat.lt_of_lt_of_le (h2.log (by decide)) (by decide))))
/-- xs[i] of a list or a tuple -/
def rIxA (K : PySem.W.Frag) : R2 := fun x y H Q => ∃ p xs i v, x = .ref p ∧ y = .int i ∧ (SqL K H p xs ∨ SqT K H p xs) ∧ atI xs i = some v ∧ Q v H
theorem ix_any : IxR X (rIxA X.K) := by
  intro value slice pins s σ H x y v u Q I rx ry h hs
  obtain ⟨p, xs, i, w, e1, e2, hq, e3, q⟩ := h
  rcases hq with hq | hq
  · exact ix_list value slice pins s σ H x y v u Q I rx ry ⟨p, xs, i, w, e1, e2, hq, e3, q⟩ hs
  · exact ix_tup value slice pins s σ H x y v u Q I rx ry ⟨p, xs, i, w, e1, e2, hq, e3, q⟩ hs
/-- isinstance(x, c), c one class -/
theorem call_isinst : CallR X (.builtin "isinstance") (fun xs H Q => ∃ x c t cv b, xs = [x, c] ∧ TyOf X.K H x t ∧ RelV c cv ∧ PySem.W.kitOne X.K t cv = some b ∧ Q (.bl b) H) := by
  intro pins s σ H xs us Q I r h
  obtain ⟨x, c, t, cv, b, rfl, ty, rc, e, q⟩ := h
  obtain ⟨u, w', rfl, r1, r2⟩ := vals2 r
  have : w' = cv := by
    cases c with
    | non => cases r2; cases rc; rfl
    | bl b => cases r2; cases rc; rfl
    | ref a => cases r2; cases rc; rfl
    | ty n => cases r2; cases rc; rfl
    | int i => exact absurd e (by obtain ⟨k, rfl⟩ := rc; intro z; unfold PySem.W.kitOne PySem.W.kitCls at z; cases ty <;> simp at z)
    | str i => exact absurd e (by obtain ⟨k, rfl⟩ := rc; intro z; unfold PySem.W.kitOne PySem.W.kitCls at z; cases ty <;> simp at z)
    | byt i => exact absurd e (by obtain ⟨k, rfl⟩ := rc; intro z; unfold PySem.W.kitOne PySem.W.kitCls at z; cases ty <;> simp at z)
    | flt i => exact absurd e (by obtain ⟨k, rfl⟩ := rc; intro z; unfold PySem.W.kitOne PySem.W.kitCls at z; cases ty <;> simp at z)
  subst this
  exact isinst_ok I r1 ty e fun tk => ⟨.bl b, H, I.tok _, rfl, q⟩
end

def Has (K : PySem.W.Frag) (mg : Str → Option Value) (x : Str) (st : Stmt) : Prop := ∃ f fd, mg x = some (.ref f) ∧ Fun K x x st f fd
def Def (P : Program) (w : World) (K : PySem.W.Frag) (mg : Str → Option Value) (base : Heap) (x : Str) (k : Nat) (ps : List Str) (sp : Sp) : Prop :=
  ∃ f fd, mg x = some (.ref f) ∧ PySem.W.keepIn K (.ref f) = true ∧ Binds K fd ps [] ∧ FnOk P w K mg base CX0 k f fd ps sp
section
variable {P : Program} {w : World} {K : PySem.W.Frag} {mg : Str → Option Value} {base : Heap}
theorem Has.def {x : Str} {st : Stmt} {N ps : List Str} {k : Nat} {sp : Sp} (h : Has K mg x st) (S : FnScope N ps (defScope st)) (len : ∀ vs H Q E, sp vs H Q E → vs.length = ps.length)
    (hb : ∀ (kV doc pm : Value) (an : Option Addr) (cdv ct : Value) (us : List Value), us.length = ps.length → bindArgs (PySem.W.fnOf x x (defArgs st) (defBody st) (defScope st) .none kV doc pm an cdv ct) ⟨us, []⟩ = pure (ps.zip us))
    (hbody : ∀ (f : Addr) (cdv : Value) (A : Around) (outer : List Env) (s : Shared) (H : Hp) (vs : List V) (Q : VK) (E : XK), Room k (A.deeper (envOfC x (defScope st) s.heap.objs.size f cdv)) → sp vs H Q E →
      ∃ t, PSs (cxOf CX0 P w K mg base N x (defScope st) f cdv A outer s H E).nox (defBody st) t ∧ t { nx := fun _ H' => Q .non H', rt := Q } (start N vs) H) : Def P w K mg base x (k + 1) ps sp := by
  obtain ⟨f, fd, hm, F⟩ := h
  exact ⟨f, fd, hm, F.kp, F.binds hb, F.ok S len fun cdv A outer s H vs Q E hr hs => hbody f cdv A outer s H vs Q E hr hs⟩
theorem Def.mono {x : Str} {j k : Nat} {ps : List Str} {sp : Sp} (D : Def P w K mg base x j ps sp) (h : j ≤ k) : Def P w K mg base x k ps sp :=
  let ⟨f, fd, a, b, c, d⟩ := D; ⟨f, fd, a, b, c, d.mono h⟩
theorem Fun.binds1 {x qual : Str} {st : Stmt} {f : Addr} {fd : FuncData} {p : Str} (F : Fun K x qual st f fd)
    (h : ∀ (kV doc pm : Value) (an : Option Addr) (cdv ct : Value) (u : Value), bindArgs (PySem.W.fnOf x qual (defArgs st) (defBody st) (defScope st) .none kV doc pm an cdv ct) ⟨[u], []⟩ = pure [(p, u)]) (s : Shared) (u : Value) : BindsTo s fd ⟨[u], []⟩ [(p, u)] := by
  obtain ⟨oc, od, kV, doc, pm, an, cdv, ct, osl, rfl, lk, hcd⟩ := F.ex
  exact .of_eq (h kV doc pm an cdv ct u)
end
section
variable {X : Cx} {x : Str} {p pos : Pos} {e : Expr} {es : List Expr} {t : TA} {k : Nat} {ps : List Str} {sp : Sp}
theorem pe_callD (D : Def X.prog X.w X.K X.mg X.base x k ps sp) (hr : Room k X.A) (ha : PA X (e :: es) t) (hg : Gl X x := by rfl) (hdb : (x == ("__debug__" : Str)) = false := by decide)
    (he : starEach (e :: es) X.env = (false, eval e X.env) :: starEach es X.env := by rfl) (hpl : (backTo pos (starEach es X.env)).any (·.1) = false := by rfl) : PE X (.Call (.Name x p) (e :: es) [] pos) (tCall sp [] E0 t) := by
  obtain ⟨f, fd, hm, hk, hb, F⟩ := D
  exact pe_call F hr hg hm hk hb .nil pass0 ha hdb he hpl
end

theorem weight_int {n : Int} {m : Nat} (h : (PySem.W.WData.int n).weight ≤ m) : Bd m n := by
  refine bits_bd ?_
  simpa only [PySem.W.WData.weight, Builtin.Int.intBits] using h
end L2
namespace Att
open PySem PySem.W PySem.Calls PyProof.Rows Mth
theorem attach_callB {l : OpenLaw} {n : Nat} {q : Program} {loose : List Str} {XP : (Str → Option Value) → Heap → Prop} {YP : World → Heap → Prop} {d : DefRec}
    (hn : l.most = some n) (hdf : d.params.defaults = [])
    (call : ∀ (w : World) (s₀ s₁ : Shared) (mg mb : Str → Option Value) (fa : Addr) (o : Obj) (pm cd doc : Value) (a : Addr) (vs : List Value) (ns : List Int),
      Ground q loose [] XP w s₀ mg mb s₁.heap → YP w s₁.heap →
      s₁.heap.get? fa = some o → o.data = .func (docDef d.name d.params d.body d.scope pm cd doc) → s₁.heap.CodeRec cd d.name → mg d.name = some (.ref fa) →
      s₁.heap.get? a = some { cls := .type "list", data := .seq vs.toArray } → IntsAre vs ns → ns.length ≤ n → (∀ z ∈ ns, Bd 1048576 z) → s₁.gens = #[] →
      codeAny (model l.prog w) callerA (.call (.ref fa) ⟨[.ref a], []⟩) (fun r s' => r = .ok (.ret (.bool true)) ∧ OldK s₁.heap s'.heap ∧ s'.os = s₁.os ∧ AllBare s'.gens) s₁) :
    WalkO q loose XP YP l.row.toRowW d [] (fun f vs => PySem.call f vs) := by
  intro w s₀ s₁ mg mb G Y fa o pm cd doc dV kV ho hd hcd hD hmg hg args vals as hpre hlay hrd hwl hlo
  obtain rfl : dV = .none := Dflts.none hD hdf
  obtain rfl : kV = .none := Dflts.noKw hD
  obtain ⟨a, vs, ns, rfl, rfl, hobj, hints, hlen⟩ := script_of hn hpre hwl
  have hbits : ∀ z ∈ ns, Bd 1048576 z := fun z hz => by
    have h1 := layableW_arg hlay _ (List.mem_singleton.mpr rfl)
    have h2 := layableW_item h1 (.int z) (List.mem_map.mpr ⟨z, hz, rfl⟩)
    exact L2.weight_int (Nat.le_trans (layableW_iff.mp h2).2.2 (by decide))
  refine enter_call (codeAny_mono (call w s₀ s₁ mg mb fa o pm cd doc a vs ns G Y ho (fd_plain hd) hcd hmg hobj hints hlen hbits hg) fun r s' hq => ?_)
  obtain ⟨rfl, h2, h3, h4⟩ := hq
  exact ⟨.inl ⟨.bool true, .bool true, [], rfl, fun _ => rfl, .bool true, post_true l _, fun _ => ⟨List.Pairwise.nil, fun _ hm => (nomatch hm)⟩⟩, h2, h3, h4⟩
end Att
namespace L2
open PySem PySem.Spec PyProof.Rows Mth
/-- law's promise: a list of at most 63 ints (each below 2 ^ 2 ^ 20) is handed in, True comes out -/
def sp_law (K : PySem.W.Frag) : Sp := fun vs H Q _ => ∃ (a : Addr) (ns : List Int), vs = [.ref a] ∧ SqL K H a (ns.map V.int) ∧ ns.length ≤ 63 ∧ (∀ z ∈ ns, Bd 1048576 z) ∧ ∀ H', Q (.bl true) H'
theorem walk_ofB {l : PySem.W.OpenLaw} {k : Nat} {q : Program} {loose : List Str} {XP : (Str → Option Value) → Heap → Prop} {YP : World → Heap → Prop} {d : DefRec} {K : Params → PySem.W.Frag} {x : Str}
    (hn : l.most = some 63) (hdf : d.params.defaults = []) (hr : Room k callerA)
    (hY : ∀ (w : World) (h : Heap), YP w h → (K w.params).In h)
    (F : ∀ (w : World) (mg : Str → Option Value) (fa : Addr) (h : Heap), (K w.params).In h → h.Ns mainGlobals mg → mg d.name = some (.ref fa) →
      ∃ fd : FuncData, (∀ (s : Shared) (u : Value), BindsTo s fd ⟨[u], []⟩ [(x, u)]) ∧
        ∀ base : Heap, (K w.params).In base → base.Ns mainGlobals mg → FnOk l.prog w (K w.params) mg base CX0 k fa fd [x] (sp_law (K w.params))) :
    PySem.W.WalkO q loose XP YP l.row.toRowW d [] (fun f vs => PySem.call f vs) := by
  refine Att.attach_callB hn hdf fun w s₀ s₁ mg mb fa o pm cd doc a vs ns G Y ho hd hcd hmg hobj hints hlen hbits hg => ?_
  have KX := hY w _ Y
  obtain ⟨fd, hb, hF⟩ := F w mg fa _ KX G.T.g hmg
  exact law_call KX G.T.g G.T.b G.T.builtins G.T.nolimit hg hobj hints (Nat.le_trans hlen (by decide)) hr hF hb (fun H hO hS => ⟨a, ns, rfl, hS, hlen, hbits, fun _ => rfl⟩) fun H e s' z => z
section
variable {X : Cx}
def rAddL : R2 := fun x y H Q => ∃ i j, x = .int i ∧ y = .int j ∧ ∀ r : Int, r = i + j → Q (.int r) H
def rSubL : R2 := fun x y H Q => ∃ i j, x = .int i ∧ y = .int j ∧ ∀ r : Int, r = i - j → Q (.int r) H
def rMulL : R2 := fun x y H Q => ∃ i j, x = .int i ∧ y = .int j ∧ CMulB i j ∧ ∀ r : Int, r = i * j → Q (.int r) H
def rDivL : R2 := fun x y H Q => ∃ i j, x = .int i ∧ y = .int j ∧ CDivB i j ∧ ∀ r : Int, r = i.fdiv j → Q (.int r) H
def rPowL : R2 := fun x y H Q => ∃ i j, x = .int i ∧ y = .int j ∧ CPow i j ∧ ∀ r : Int, r = i ^ j.toNat → Q (.int r) H
def rShlL : R2 := fun x y H Q => ∃ i j, x = .int i ∧ y = .int j ∧ CPow i j ∧ ∀ r : Int, r = i * 2 ^ j.toNat → Q (.int r) H
def rShrL : R2 := fun x y H Q => ∃ i j, x = .int i ∧ y = .int j ∧ 0 ≤ j ∧ ∀ r : Int, r = i / 2 ^ j.toNat → Q (.int r) H
def rOrL : R2 := fun x y H Q => ∃ i j, x = .int i ∧ y = .int j ∧ ∀ r : Int, r = Builtin.bitOr i j → Q (.int r) H
def rAndL : R2 := fun x y H Q => ∃ i j, x = .int i ∧ y = .int j ∧ ∀ r : Int, r = Builtin.bitAnd i j → Q (.int r) H
def rLM : R2 := fun x y H Q => ∃ i j, x = .int i ∧ y = .int j ∧ 0 < j ∧ ∀ r : Int, 0 ≤ r → r < j → r = i % j → Q (.int r) H
theorem op_addL : OpR X (binaryOp .Add) rAddL := fun pins s σ H x y v u Q I rx ry ⟨i, j, e1, e2, q⟩ => op_add pins s σ H x y v u Q I rx ry ⟨i, j, e1, e2, q _ rfl⟩
theorem op_subL : OpR X (binaryOp .Sub) rSubL := fun pins s σ H x y v u Q I rx ry ⟨i, j, e1, e2, q⟩ => op_sub pins s σ H x y v u Q I rx ry ⟨i, j, e1, e2, q _ rfl⟩
theorem op_mulL : OpR X (binaryOp .Mult) rMulL := fun pins s σ H x y v u Q I rx ry ⟨i, j, e1, e2, c, q⟩ => op_mulB pins s σ H x y v u Q I rx ry ⟨i, j, e1, e2, c, q _ rfl⟩
theorem op_fdivL : OpR X (binaryOp .FloorDiv) rDivL := fun pins s σ H x y v u Q I rx ry ⟨i, j, e1, e2, c, q⟩ => op_fdivB pins s σ H x y v u Q I rx ry ⟨i, j, e1, e2, c, q _ rfl⟩
theorem op_shlL : OpR X (binaryOp .LShift) rShlL := fun pins s σ H x y v u Q I rx ry ⟨i, j, e1, e2, c, q⟩ => op_shl pins s σ H x y v u Q I rx ry ⟨i, j, e1, e2, c, q _ rfl⟩
theorem op_shrL : OpR X (binaryOp .RShift) rShrL := fun pins s σ H x y v u Q I rx ry ⟨i, j, e1, e2, c, q⟩ => op_shr pins s σ H x y v u Q I rx ry ⟨i, j, e1, e2, c, q _ rfl⟩
theorem op_orL : OpR X (binaryOp .BitOr) rOrL := fun pins s σ H x y v u Q I rx ry ⟨i, j, e1, e2, q⟩ => op_or pins s σ H x y v u Q I rx ry ⟨i, j, e1, e2, q _ rfl⟩
theorem op_modL : OpR X (binaryOp .Mod) rLM := fun pins s σ H x y v u Q I rx ry ⟨i, j, e1, e2, c, q⟩ =>
  op_mod pins s σ H x y v u Q I rx ry ⟨i, j, e1, e2, c, q _ (Int.emod_nonneg _ (by omega)) (Int.emod_lt_of_pos _ c) rfl⟩
theorem call_lenL : CallR X (.builtin "len") (fun xs H Q => ∃ p ys, xs = [.ref p] ∧ (SqL X.K H p ys ∨ SqT X.K H p ys) ∧ ∀ r : Int, r = ys.length → Q (.int r) H) :=
  fun pins s σ H xs us Q I r ⟨p, ys, e, hq, q⟩ => call_len_seq pins s σ H xs us Q I r ⟨p, ys, e, hq, q _ rfl⟩
def tCut (t : TS) : TS := fun D σ H => ∃ P : St → Hp → Prop, t { D with nx := P } σ H ∧ ∀ σ' H', P σ' H' → D.nx σ' H'
theorem ps_cut {st : Stmt} {t : TS} (h : PS X st t) : PS X st (tCut t) := by
  intro pins s σ H D I hw
  obtain ⟨P, h1, h2⟩ := hw
  refine thn (h pins s σ H { D with nx := P } I h1) fun f s1 q => ?_
  cases f with
  | next =>
    obtain ⟨σ', H', I', q⟩ := q
    exact ⟨σ', H', I', h2 σ' H' q⟩
  | ret v => exact q
  | brk => exact q
  | cont => exact q
end
theorem iteP {c A B : Prop} [Decidable c] (hc : c) (h : A) : if decide c = true then A else B := by
  rw [decide_eq_true hc]; exact iteT h
theorem iteN {c A B : Prop} [Decidable c] (hc : ¬ c) (h : B) : if decide c = true then A else B := by
  rw [decide_eq_false hc]; exact iteF h
theorem ite3 {c A B : Prop} [Decidable c] (h1 : c → A) (h2 : ¬ c → B) : if decide c = true then A else B := by
  by_cases h : c
  · exact iteP h (h1 h)
  · exact iteN h (h2 h)
theorem blT {c : Prop} [Decidable c] (h : c) {Q : VK} {H : Hp} (q : Q (.bl true) H) : Q (.bl (decide c)) H := by rw [decide_eq_true h]; exact q
theorem int_inj {a b : Int} : V.int a = V.int b ↔ a = b := ⟨fun e => by cases e; rfl, fun e => by rw [e]⟩
theorem same_upd {H : Hp} {p : Addr} {o : HO} (h : H p = none) : Same H (upd H p o) := fun b u e => by rw [upd_ne (ne_of_none e h)]; exact e
theorem Same.tup {K : PySem.W.Frag} {H H' : Hp} {a : Addr} {xs : List V} (e : Same H H') (h : SqT K H a xs) : SqT K H' a xs := by
  rcases h with (h | ⟨o, h⟩) | h
  · exact .inl (.inl (e _ _ h))
  · exact .inl (.inr ⟨o, e _ _ h⟩)
  · exact .inr h
theorem bdS {x : Int} (n : Nat) (lo : -(2 ^ 100) < x) (hi : x < 2 ^ 100) (h : 100 ≤ n := by decide) : Bd n x := by
  have : Bd 100 x := by unfold Bd; omega
  exact this.mono h
theorem kit_int_bool (K : PySem.W.Frag) : PySem.W.kitOne K (.type "int") (.type "bool") = some false := by
  show (if PySem.W.kitMeta "bool" = true then ((PySem.fastBuiltinMro "int").map (·.contains (Value.type "bool"))) else none) = some false
  decide +kernel
def sp_gcd : Sp := fun vs H Q _ => ∃ a b : Int, vs = [.int a, .int b] ∧ ∀ r : Int, r = ((Int.gcd a b : Nat) : Int) → Q (.int r) H
def sp_fraction : Sp := fun vs H Q _ => ∃ t b : Int, vs = [.int t, .int b] ∧ b ≠ 0 ∧ Bd 4000 b ∧ ∀ q r p H', Fr t b q r → Same H H' → H' p = some (.tup [.int q, .int r]) → Q (.ref p) H'
def sp_arith (f : Int → Int → Int → Int → Int) (K : PySem.W.Frag) : Sp := fun vs H Q _ => ∃ p1 p2 a b c d, vs = [.ref p1, .ref p2] ∧ SqT K H p1 [.int a, .int b] ∧ SqT K H p2 [.int c, .int d] ∧ 0 < b ∧ 0 < d ∧
  Bd 1000 a ∧ Bd 1000 b ∧ Bd 1000 c ∧ Bd 1000 d ∧ ∀ q r p H', Fr (f a b c d) (b * d) q r → Same H H' → H' p = some (.tup [.int q, .int r]) → Q (.ref p) H'
def sp_under (K : PySem.W.Frag) : Sp := fun vs H Q _ => ∃ p1 p2 a b c d, vs = [.ref p1, .ref p2] ∧ SqT K H p1 [.int a, .int b] ∧ SqT K H p2 [.int c, .int d] ∧
  Bd 1000 a ∧ Bd 1000 b ∧ Bd 1000 c ∧ Bd 1000 d ∧ Q (.bl (decide (a * d < c * b))) H
def sp_cell_at (K : PySem.W.Frag) : Sp := fun vs H Q _ => ∃ (a : Addr) (ns : List Int) (k : Int), vs = [.ref a, .int k] ∧ SqL K H a (ns.map V.int) ∧ 0 ≤ k ∧ ∀ z, (z ∈ ns ∨ z = 0) → Q (.int z) H
def sp_number_by : Sp := fun vs H Q _ => ∃ c : Int, vs = [.int c] ∧ ∀ n, Bd 110 n → Q (.int n) H
def sp_ratio : Sp := fun vs H Q _ => ∃ t b : Int, vs = [.int t, .int b] ∧ 0 < b ∧ Bd 4000 b ∧ ∀ q r p H', Fr t b q r → Same H H' → H' p = some (.tup [.int q, .int r]) → Q (.ref p) H'
end L2
namespace L2
open PySem PySem.Spec PyProof.Rows Mth

/-- the comprehension's block: its own frame's names N', the closure cl -/
def cxComp (X : Cx) (N' : List Str) (scope : Scope) (cl : List (Str × Addr)) (C : Addr) (s : Shared) (H : Hp) (ex : List Addr) : Cx :=
  { X with N := N', env := compEnvC scope cl C X.env, s₀ := s, H₀ := H, outer := X.stack, ex := ex, fn := fun _ => false, pn := [], xe := fun _ _ => False }

theorem Un.same_but {fs ex : List Addr} {H H' : Hp} {h h' h'' : Heap} {C : Addr} (u : Un fs ex H H' h h') (sb : Heap.SameBut C h' h'') (hC : h.get? C = none) : Un fs ex H H' h h'' := by
  have ne : ∀ b o, h.get? b = some o → b ≠ C := fun b o e z => by rw [z, hC] at e; cases e
  exact ⟨fun b o e n hb hx => sb.extBut b o (ne b o e) (u.keep b o e n hb hx), fun b o e n hb hx => by
      obtain ⟨sl, q⟩ := u.slot b o e n hb hx
      exact ⟨sl, sb.extBut b _ (ne b o e) q⟩, u.free, fun b o e hx => by
      obtain ⟨o', q⟩ := u.there b o e hx
      exact ⟨o', sb.extBut b o' (ne b o e) q⟩, u.tups, u.frzs, u.tbls⟩
theorem HOk.same_but {P : Program} {w : World} {H : Hp} {h h' : Heap} {C : Addr} (x : HOk P w H h) (sb : Heap.SameBut C h h') (hn : H C = none) : HOk P w H h' := fun a o e =>
  (x a o e).stay (fun b u hb q => sb.extBut b u (fun z => by
    subst z
    rcases hb with z | z
    · rw [z, e] at hn; cases hn
    · rw [z] at hn; cases hn) q) (fun _ q => q) fun _ _ q => q

/-- the tests of a comprehension -/
def PIf (X : Cx) (ifs : List Expr) (tt : TT) : Prop :=
  ∀ (pins : List (Addr × Obj)) (s : Shared) (σ : St) (H : Hp) (Q : Bool → Hp → Prop), Inv X pins σ H s → tt σ H Q →
    wpAny (model X.prog X.w) X.A (forIn ifs true fun c r => if r = true then do let ok ← isTrue c X.env (eval c X.env); pure (ForInStep.yield ok) else pure (ForInStep.yield r)) (TP X pins σ Q) X.xe s
def tYes : TT := fun _ H Q => Q true H
theorem pif_nil {X : Cx} : PIf X [] tYes := fun _ _ _ H _ I h => wpAny_tests_nil ⟨H, I, h⟩
theorem pif_one {X : Cx} {c : Expr} {tt : TT} (hc : PT X c tt) : PIf X [c] tt := fun pins s σ H Q I h => wpAny_tests_one (hc pins s σ H Q I h)

def closL (env : Env) : List (Str × NameKind) → List (Str × Addr) → List (Str × Addr)
  | [], acc => acc
  | y :: r, acc => closL env r (if (y.2 == NameKind.free) = true then (y.1, (env.cells.lookup y.1).getD 0) :: acc else acc)
theorem clos_go (env : Env) : ∀ (names : List (Str × NameKind)) (acc : List (Str × Addr)), (∀ y ∈ names, y.2 = .free → ∃ c, env.cells.lookup y.1 = some c) →
    (forIn names acc fun x __s => if (x.snd == NameKind.free) = true then do
        let __do_lift ← cellOf env x.fst
        pure (ForInStep.yield ((x.fst, __do_lift) :: __s))
      else pure (ForInStep.yield __s)) = (pure (closL env names acc) : Sem _)
  | [], acc, _ => rfl
  | y :: r, acc, h => by
    rw [List.forIn_cons]
    by_cases hk : (y.2 == NameKind.free) = true
    · obtain ⟨c, e⟩ := h y List.mem_cons_self (beq_iff_eq.mp hk)
      rw [if_pos hk]
      have ec : cellOf env y.1 = pure c := by unfold cellOf; rw [e]
      rw [ec]
      simp only [pure_bind]
      rw [clos_go env r _ fun z hz => h z (List.mem_cons_of_mem _ hz)]
      simp only [closL, hk, if_true, e, Option.getD_some]
    · rw [if_neg hk]
      simp only [pure_bind]
      rw [clos_go env r _ fun z hz => h z (List.mem_cons_of_mem _ hz)]
      simp only [closL, hk, if_false]
      rfl
theorem clos_eq {scope : Scope} {env : Env} (h : ∀ y ∈ scope.names, y.2 = .free → ∃ c, env.cells.lookup y.1 = some c) : closureFor scope env = pure (closL env scope.names []) := by
  simp only [closureFor]
  rw [clos_go env scope.names [] h]
  simp only [pure_bind]
theorem closL_sub {env : Env} : ∀ {names : List (Str × NameKind)} {acc : List (Str × Addr)}, (∀ y ∈ names, y.2 = .free → ∃ c, env.cells.lookup y.1 = some c) → (∀ x c, acc.lookup x = some c → env.cells.lookup x = some c) →
    ∀ x c, (closL env names acc).lookup x = some c → env.cells.lookup x = some c
  | [], _, _, ha, x, c, e => ha x c e
  | y :: r, acc, h, ha, x, c, e => by
    refine closL_sub (names := r) (fun z hz => h z (List.mem_cons_of_mem _ hz)) ?_ x c e
    intro x c e
    by_cases hk : (y.2 == NameKind.free) = true
    · rw [if_pos hk] at e
      obtain ⟨c', e'⟩ := h y List.mem_cons_self (beq_iff_eq.mp hk)
      rw [e', Option.getD_some, List.lookup_cons] at e
      cases q : x == y.1 with
      | true => rw [q] at e; cases e; rw [beq_iff_eq.mp q]; exact e'
      | false => rw [q] at e; exact ha x c e
    · rw [if_neg hk] at e; exact ha x c e
theorem closL_acc {env : Env} : ∀ {names : List (Str × NameKind)} {acc : List (Str × Addr)} {x : Str}, (∃ c, acc.lookup x = some c) → ∃ c, (closL env names acc).lookup x = some c
  | [], _, _, h => h
  | y :: r, acc, x, ⟨c, h⟩ => by
    refine closL_acc (names := r) ?_
    by_cases hk : (y.2 == NameKind.free) = true
    · rw [if_pos hk, List.lookup_cons]
      cases q : x == y.1 with
      | true => exact ⟨_, rfl⟩
      | false => exact ⟨c, h⟩
    · rw [if_neg hk]; exact ⟨c, h⟩
theorem closL_has {env : Env} : ∀ {names : List (Str × NameKind)} {acc : List (Str × Addr)} {y : Str × NameKind}, y ∈ names → y.2 = .free → ∃ c, (closL env names acc).lookup y.1 = some c
  | z :: r, acc, y, hm, hk => by
    rcases List.mem_cons.mp hm with rfl | hm
    · refine closL_acc (names := r) ?_
      rw [if_pos (beq_iff_eq.mpr hk), List.lookup_cons]
      simp
    · exact closL_has (names := r) hm hk
theorem relabel_of {scope : Scope} {env : Env} {x : Str} {k : NameKind} (h : (relabel scope env).names.lookup x = some k) (hk : k = .cell ∨ k = .free) (hcell : ∀ y ∈ scope.names, y.2 ≠ .cell) : (x, NameKind.free) ∈ scope.names := by
  have hm := PySem.mem_of_lookup h
  obtain ⟨⟨n, k0⟩, h1, h2⟩ := List.mem_map.mp hm
  dsimp only at h2
  split at h2
  · rename_i hc
    cases h2
    have : (k0 == NameKind.free) = true := by
      simp only [Bool.and_eq_true] at hc
      exact hc.1.1
    rw [beq_iff_eq.mp this] at h1
    exact h1
  · cases h2
    rcases hk with rfl | rfl
    · exact absurd rfl (hcell _ h1)
    · exact h1
theorem lookup_relabel_free {env : Env} : ∀ {names : List (Str × NameKind)} {x : Str}, names.lookup x = some .free →
    (names.map fun (n, k) => if (k == NameKind.free && env.scope.kind == .function && env.kindOf n == some .cell) then (n, NameKind.cell) else (n, k)).lookup x = some .cell ∨
    (names.map fun (n, k) => if (k == NameKind.free && env.scope.kind == .function && env.kindOf n == some .cell) then (n, NameKind.cell) else (n, k)).lookup x = some .free
  | [], _, h => by simp at h
  | (n, k) :: r, x, h => by
    have ih := @lookup_relabel_free env r x
    show List.lookup x ((if (k == NameKind.free && env.scope.kind == .function && env.kindOf n == some .cell) = true then (n, NameKind.cell) else (n, k)) :: _) = _ ∨ List.lookup x ((if (k == NameKind.free && env.scope.kind == .function && env.kindOf n == some .cell) = true then (n, NameKind.cell) else (n, k)) :: _) = _
    cases hx : x == n with
    | true =>
      simp only [List.lookup_cons, hx] at h
      cases h
      by_cases hc : (NameKind.free == NameKind.free && env.scope.kind == .function && env.kindOf n == some .cell) = true
      · rw [if_pos hc]; simp [List.lookup_cons, hx]
      · rw [if_neg hc]; simp [List.lookup_cons, hx]
    | false =>
      simp only [List.lookup_cons, hx] at h
      by_cases hc : (k == NameKind.free && env.scope.kind == .function && env.kindOf n == some .cell) = true
      · rw [if_pos hc]; simp only [List.lookup_cons, hx]; exact ih h
      · rw [if_neg hc]; simp only [List.lookup_cons, hx]; exact ih h
section
variable {prog : Program} {w : World} {A : Around} {E : Value → Shared → Prop} {R : Result → Shared → Prop} {s : Shared}
theorem compLoop_go {elt target iter : Expr} {ifs : List Expr} {scope : Scope} {pos : Pos} {it acc : Value} {env : Env} (I : Nat → Shared → Prop)
    (turn : ∀ n s, I n s → wpAny (model prog w) A (pyNext it) (fun r s₁ => match r with
      | none => R (.ok .next) s₁
      | some v => wpAny (model prog w) A (letOwnedTupleGo target it v) (fun _ s₁ => wpAny (model prog w) A (assign target env v) (fun _ s₂ =>
          wpAny (model prog w) A (forIn ifs true fun c r => if r = true then do let ok ← isTrue c env (eval c env); pure (ForInStep.yield ok) else pure (ForInStep.yield r)) (fun ok s₃ =>
            if ok = true then wpAny (model prog w) A (eval elt env) (fun x s₄ =>
              wpAny (model prog w) A (call (.builtin "list.append") [acc, x]) (fun _ s₅ => ∃ m, m < n ∧ I m s₅) (notedBy (model prog w) A env fun e s' => R (.error e) s') s₄) (notedBy (model prog w) A env fun e s' => R (.error e) s') s₃
            else ∃ m, m < n ∧ I m s₃) (notedBy (model prog w) A env fun e s' => R (.error e) s') s₂) (notedBy (model prog w) A env fun e s' => R (.error e) s') s₁) (notedBy (model prog w) A env fun e s' => R (.error e) s') s₁) (notedBy (model prog w) A env fun e s' => R (.error e) s') s)
    (n : Nat) (h : I n s) :
    codeAny (model prog w) A (.compLoop (.ListComp elt [⟨target, iter, ifs, 0⟩] scope pos) 0 it acc env) R s := by
  refine codeAny_loop rfl I (fun n s hI => ?_) n h
  show wpAny _ A ((compTurn (.ListComp elt [⟨target, iter, ifs, 0⟩] scope pos) 0 it acc env).onRaise (fun x => do noteFrame x env; theTreesLotGoes x)) _ _ s
  refine wpAny_noted ?_
  rw [compTurn_list]
  refine wpAny_bind (wpAny_standAt (wpAny_bind (wpAny_mono (turn n s hI) (fun r s₁ h₁ => ?_) fun _ _ h' => h')))
  cases r with
  | none => exact wpAny_pure h₁
  | some v =>
    refine wpAny_bind (wpAny_mono h₁ (fun _ s₁' h₁' => ?_) fun _ _ h' => h')
    refine wpAny_bind (wpAny_mono h₁' (fun _ s₂ h₂ => wpAny_bind (wpAny_mono h₂ (fun ok s₃ h₃ => ?_) fun _ _ h' => h')) fun _ _ h' => h')
    cases ok with
    | false => exact wpAny_pure ⟨rfl, h₃⟩
    | true =>
      exact wpAny_bind (wpAny_bind (wpAny_mono h₃ (fun x s₄ h₄ => wpAny_bind (wpAny_mono h₄ (fun _ s₅ h₅ => wpAny_pure (wpAny_pure ⟨rfl, h₅⟩)) fun _ _ h' => h')) fun _ _ h' => h'))
end
section
variable {X : Cx}
/-- readings: the turn's names come first, then the names of the frame that it reads (their slots) -/
def tComp (wi : TI) (g : TG) (tt : TT) (te : TE) (nt : Nat) (sl : List Nat) : TE := fun σ H Q => wi σ H fun J H1 => ∀ D, H1 D = none →
  ∃ W : Nat → Nat → List V → St → Hp → Prop, (∃ m, W 0 m [] (List.replicate nt none ++ sl.map fun j => (σ[j]?).join) (upd H1 D (.lst []))) ∧
    ∀ i m acc σ' H', W i m acc σ' H' →
      (J.stop i H' ∧ Q (.ref D) H') ∨
      (J.go i H' ∧ ∃ N : List V → St → Hp → Prop, (∀ acc' σ2 H4, N acc' σ2 H4 → ∃ m', m' < m ∧ W (i + 1) m' acc' σ2 H4) ∧ ∀ x H2, J.yld i H' x H2 → g x σ' H2 fun σ2 H3 => tt σ2 H3 fun b H4 =>
        if b = true then te σ2 H4 fun y H5 => H5 D = some (.lst acc) ∧ acc.length < sizeLine ∧ N (acc ++ [y]) σ2 (upd H5 D (.lst (acc ++ [y])))
        else N acc σ2 H4)

theorem pe_comp {elt tg iter : Expr} {ifs : List Expr} {scope : Scope} {pos : Pos} {wi : TI} {g : TG} {tt : TT} {te : TE} {N' : List Str} {nt : Nat} {sl : List Nat}
    (hc : X.calm = true) (hi : PI X tg iter wi) (hg : ∀ cl C s H ex, PG (cxComp X N' scope cl C s H ex) tg g) (ht : ∀ cl C s H ex, PIf (cxComp X N' scope cl C s H ex) ifs tt) (he : ∀ cl C s H ex, PE (cxComp X N' scope cl C s H ex) elt te)
    (hN' : N'.length = nt + sl.length) (hsl : ∀ k j : Nat, sl[k]? = some j → ∃ x, N'[nt + k]? = some x ∧ X.N[j]? = some x ∧ scope.names.lookup x = some .free)
    (hk : scope.kind = .function) (hcell : ∀ y ∈ scope.names, y.2 ≠ .cell) (hnames : ∀ y ∈ scope.names, y.2 = .local → scope.names.lookup y.1 = some .local)
    (hfree : ∀ y ∈ scope.names, y.2 = .free → X.env.kindOf y.1 = some .cell ∨ X.env.kindOf y.1 = some .free)
    (hs : ∀ x, foldedSetIterable iter X.env x = pure x := by intro _; rfl) :
    PE X (.ListComp elt [⟨tg, iter, ifs, 0⟩] scope pos) (tComp wi g tt te nt sl) := by
  intro pins s σ H Q I h
  have hcl : ∀ y ∈ scope.names, y.2 = .free → ∃ c, X.env.cells.lookup y.1 = some c := fun y hy hf => I.ok.has y.1 (hfree y hy hf)
  have csub := closL_sub (env := X.env) (names := scope.names) (acc := []) hcl (fun x c e => by simp at e)
  rw [eval_ListComp]
  refine wpAny_comprehension_free (use := none) (cl := closL X.env scope.names []) rfl hs (clos_eq hcl) hk hnames (thn (hi pins s σ H _ I h) fun v s1 h1 => thn h1 fun itv s2 h2 => ?_)
  obtain ⟨it, fp, tn, J, H2, rfl, I2, T, st2, f2, q⟩ := h2
  have nD : H2 s2.heap.objs.size = none := I2.hok.fresh (Nat.le_refl _)
  obtain ⟨W, ⟨m0, w0⟩, turn⟩ := q s2.heap.objs.size nD
  refine wpAny_newObj_type ?_ (by show 0 ≤ sizeLine; exact Nat.zero_le _)
  have I3 : Inv X pins σ (upd H2 s2.heap.objs.size (.lst [])) { s2 with heap := s2.heap.push { cls := .type "list", data := .seq ([] : List Value).toArray } } :=
    I2.laid (t' := s2.toks) (fun b u e => Heap.get?_push_of_some _ e) (Nat.le_refl _) ⟨Nat.zero_le _, [], 0, .nil, Heap.get?_push_size _ rfl⟩
  generalize hs3 : ({ s2 with heap := s2.heap.push { cls := .type "list", data := .seq ([] : List Value).toArray } } : Shared) = s3 at I3 ⊢
  have hle : s2.heap.objs.size ≤ s3.heap.objs.size := by rw [← hs3]; show _ ≤ (Heap.push _ _).objs.size; rw [Heap.size_push]; exact Nat.le_succ _
  have hkeep23 : ∀ b o, s2.heap.get? b = some o → s3.heap.get? b = some o := fun b o e => by rw [← hs3]; exact Heap.get?_push_of_some _ e
  refine wpAny_newFunctionEnv hcell (by intro y hy; simp at hy) (fun h₁ hns hsb => ?_) hk
  have keep1 : ∀ b o, s3.heap.get? b = some o → h₁.get? b = some o := fun b o e => hsb.extBut b o (Nat.ne_of_lt (Heap.lt_size e)) (Heap.get?_push_of_some _ e)
  have nC : (upd H2 s2.heap.objs.size (.lst [])) s3.heap.objs.size = none := I3.hok.fresh (Nat.le_refl _)
  have frC : s3.heap.get? s3.heap.objs.size = none := Heap.get?_none_of_le (Nat.le_refl _)
  -- the iterator's objects
  have fpIn : ∀ b ∈ fp, b < s2.heap.objs.size := fun b hb => by
    obtain ⟨o, e, _⟩ := T.obj _ _ st2 b hb
    exact Heap.lt_size e
  have fpC : ∀ b ∈ fp, b ≠ s3.heap.objs.size := fun b hb => Nat.ne_of_lt (Nat.lt_of_lt_of_le (fpIn b hb) hle)
  have fpD : ∀ b ∈ fp, b ≠ s2.heap.objs.size := fun b hb => Nat.ne_of_lt (fpIn b hb)
  have fpS : ∀ b ∈ fp, b ∉ frs X.stack := fun b hb hm => by
    rcases List.mem_cons.mp (I2.stkSub b hm) with z | z
    · exact (f2 b hb).2.1 z
    · exact (f2 b hb).2.2.1 z
  have csub' : ∀ x c, (closL X.env scope.names []).lookup x = some c → X.env.cells.lookup x = some c := csub
  have hch : ∀ b ∈ fp, (b ∈ X.ex ∨ X.s₀.heap.objs.size ≤ b) ∧ b ≠ X.env.locals ∧ (∀ x c, X.env.cells.lookup x = some c → c ≠ b) ∧ ∀ p ∈ X.pn ++ pins, p.1 ≠ b := fun b hb =>
    ⟨(f2 b hb).2.2.2.1, (f2 b hb).2.1, (f2 b hb).2.2.2.2.1, (f2 b hb).2.2.2.2.2⟩
  -- the block's context
  have ok' : (cxComp X N' scope (closL X.env scope.names []) s3.heap.objs.size s3 (upd H2 s2.heap.objs.size (.lst [])) fp).Ok := by
    refine ⟨I3.ok.mod, hk, I3.ok.glob, I3.ok.blt, Nat.le_refl _, fun x y c h1 h2 => I3.ok.inj x y c (csub x c h1) (csub y c h2), fun x hx => ?_, (fun x c hf => nomatch hf), I3.ok.hd, I3.ok.frames, .inl rfl, fun b hb => ⟨fpC b hb, fun x c e => (hch b hb).2.2.1 x c (csub x c e)⟩,
      I3.bs, Nat.le_trans I3.ok.bsz I3.sz, fun b o e hb => ?_, fpS, I3.stack, I3.stkFree⟩
    · have hm : (x, NameKind.free) ∈ scope.names := by
        rcases hx with hx | hx
        · exact relabel_of hx (.inl rfl) hcell
        · exact relabel_of hx (.inr rfl) hcell
      exact closL_has hm rfl
    · rcases (hch b hb).1 with z | z
      · exact I3.ok.noex b o e z
      · exact absurd (Nat.lt_of_lt_of_le (Heap.lt_size (I3.ok.bs b o e).1) z) (Nat.lt_irrefl _)
  have I4 : Inv (cxComp X N' scope (closL X.env scope.names []) s3.heap.objs.size s3 (upd H2 s2.heap.objs.size (.lst [])) fp) [] (List.replicate nt none ++ sl.map fun j => (σ[j]?).join) (upd H2 s2.heap.objs.size (.lst []))
      { s3 with heap := h₁, toks := s3.toks + ([] : List (Str × Value)).length } := by
    refine ⟨ok', rfl, I3.bare, Un.kept keep1, ⟨_, hns, fun i x v e1 e2 e3 => ?_⟩, fun x c e => ?_, nC, fun x c e => I3.freeC x c (csub x c e), fun p hp => absurd hp (by simp [cxComp]), I3.hok.kept keep1, ?_⟩
    · by_cases hi : i < nt
      · rw [List.getElem?_append_left (by simpa using hi), List.getElem?_replicate] at e2
        split at e2 <;> cases e2
      · rw [List.getElem?_append_right (by simpa using hi), List.length_replicate, List.getElem?_map] at e2
        cases ej : sl[i - nt]? with
        | none => rw [ej] at e2; cases e2
        | some j =>
          rw [ej] at e2
          have e2' : (σ[j]?).join = some v := Option.some.inj e2
          have eσ : σ[j]? = some (some v) := by
            cases q : σ[j]? with
            | none => rw [q] at e2'; cases e2'
            | some o => rw [q] at e2'; cases e2'; rfl
          obtain ⟨y, n1, n2, n3⟩ := hsl _ j ej
          have : nt + (i - nt) = i := by omega
          rw [this] at n1
          have exy : y = x := Option.some.inj (n1.symm.trans e1)
          subst exy
          have hm : (y, NameKind.free) ∈ scope.names := PySem.mem_of_lookup n3
          have hkx := hfree _ hm rfl
          obtain ⟨m, hn, hl⟩ := I3.loc
          have vis : Vis X.env.scope y := by
            rcases hkx with z | z
            · exact .inr (.inl z)
            · exact .inr (.inr z)
          obtain ⟨u, r, l⟩ := hl j y v n2 eσ vis
          refine ⟨u, r, .inr ⟨lookup_relabel_free n3, ?_⟩⟩
          obtain ⟨c, ec⟩ := closL_has (env := X.env) (acc := []) hm rfl
          refine ⟨c, ec, ?_⟩
          rcases l with ⟨k1, _⟩ | ⟨_, c', e', hcell'⟩
          · rcases hkx with z | z
            · rw [show X.env.kindOf y = some .local from k1] at z; cases z
            · rw [show X.env.kindOf y = some .local from k1] at z; cases z
          · have ecc : c = c' := Option.some.inj ((csub y c ec).symm.trans e')
            subst ecc
            obtain ⟨o, ho, hd⟩ := hcell'
            exact ⟨o, keep1 c o ho, hd⟩
    · obtain ⟨v, o, ho, hd⟩ := I3.cell x c (csub x c e)
      exact ⟨v, o, keep1 c o ho, hd⟩
    · show _ = N'.length
      rw [hN', List.length_append, List.length_replicate, List.length_map]
  have st4 : tn 0 h₁ := T.keep _ _ _ st2 fun b hb o e => keep1 b o (hkeep23 b o e)
  have fpok : ∀ {pl : List (Addr × Obj)} {H' : Hp}, pl = [] → (∀ b ∈ fp, H' b = none) → ∀ b ∈ fp, FpOk (cxComp X N' scope (closL X.env scope.names []) s3.heap.objs.size s3 (upd H2 s2.heap.objs.size (.lst [])) fp) pl H' b := fun {pl H'} hpl hn b hb => by
    subst hpl
    exact ⟨hn b hb, fpC b hb, fpS b hb, .inl hb, fun x c e => (hch b hb).2.2.1 x c (csub x c e), fun p hp => absurd hp (by simp [cxComp])⟩
  have fr4 : ∀ b ∈ fp, (upd H2 s2.heap.objs.size (.lst [])) b = none := fun b hb => by rw [upd_ne (fpD b hb)]; exact (f2 b hb).1
  have loop : codeAny (model X.prog X.w) X.A (.compLoop (.ListComp elt [⟨tg, iter, ifs, 0⟩] scope pos) 0 (.ref it) (.ref s2.heap.objs.size) (compEnvC scope (closL X.env scope.names []) s3.heap.objs.size X.env))
      (compPost (model X.prog X.w) X.A X.xe none (EP X pins σ Q) (.ref s2.heap.objs.size) s3.heap.objs.size) { s3 with heap := h₁, toks := s3.toks + ([] : List (Str × Value)).length } := by
    refine compLoop_go (fun n s' => ∃ i acc σ' H', Inv (cxComp X N' scope (closL X.env scope.names []) s3.heap.objs.size s3 (upd H2 s2.heap.objs.size (.lst [])) fp) [] σ' H' s' ∧ tn i s'.heap ∧ (∀ b ∈ fp, H' b = none) ∧ W i n acc σ' H') ?_ m0 ⟨0, [], _, _, I4, st4, fr4, w0⟩
    rintro n s5 ⟨i, acc, σ5, H5, I5, st5, fr5, w5⟩
    rcases turn i n acc σ5 H5 w5 with ⟨stop, qn⟩ | ⟨go, N, hN, step⟩
    · refine thn (T.done (cxComp X N' scope (closL X.env scope.names []) s3.heap.objs.size s3 (upd H2 s2.heap.objs.size (.lst [])) fp) rfl rfl rfl hc i [] s5 σ5 H5 _ I5 (fpok rfl fr5) st5 stop) fun r s6 ⟨hr, I6⟩ => ?_
      subst hr
      obtain ⟨m, hn, _⟩ := id I6.loc
      refine ⟨m, hn, fun h' sb => ⟨.ref s2.heap.objs.size, H5, ?_, rfl, qn⟩⟩
      exact I3.call' (s' := { s6 with heap := h' }) I6.os (I6.base.same_but sb frC) (I6.hok.same_but sb I6.free) I6.bare hch
    · refine thn (T.item (cxComp X N' scope (closL X.env scope.names []) s3.heap.objs.size s3 (upd H2 s2.heap.objs.size (.lst [])) fp) rfl rfl rfl hc i [] s5 σ5 H5 _ I5 (fpok rfl fr5) st5 go) fun r s6 ⟨u, hr, h6⟩ => ?_
      subst hr
      refine thn h6 fun _ s7 ⟨x, H7, I7, r7, y7, st7, fr7⟩ => ?_
      have I7' := I7.pinned (fpok rfl fr7) (T.obj _ _ st7)
      have again : ∀ {s8 : Shared} {σ8 : St} {H8 : Hp} {acc' : List V}, Inv (cxComp X N' scope (closL X.env scope.names []) s3.heap.objs.size s3 (upd H2 s2.heap.objs.size (.lst [])) fp) ([] ++ pinsAt fp s7.heap) σ8 H8 s8 → (∃ m', m' < n ∧ W (i + 1) m' acc' σ8 H8) →
          ∃ m, m < n ∧ ∃ i acc σ' H', Inv (cxComp X N' scope (closL X.env scope.names []) s3.heap.objs.size s3 (upd H2 s2.heap.objs.size (.lst [])) fp) [] σ' H' s8 ∧ tn i s8.heap ∧ (∀ b ∈ fp, H' b = none) ∧ W i m acc σ' H' := fun {s8 σ8 H8 acc'} I8 ⟨m', hm, w8⟩ => by
        refine ⟨m', hm, i + 1, acc', σ8, H8, I8.unpinned, T.keep _ _ _ st7 fun b hb o e => (I8.pin (b, o) (List.mem_append_right _ (List.mem_append_right _ (mem_pinsAt hb e)))).1, fun b hb => ?_, w8⟩
        obtain ⟨o, e, d⟩ := T.obj _ _ st7 b hb
        exact (I8.pin (b, o) (List.mem_append_right _ (List.mem_append_right _ (mem_pinsAt hb e)))).2.1
      refine wpAny_mono (hg _ _ _ _ _ _ s7 σ5 H7 x u _ I7' r7 (step x H7 y7)) (fun _ s8 ⟨σ8, H8, I8, q8⟩ => ?_) fun _ _ z => False.elim z
      refine wpAny_mono (ht _ _ _ _ _ _ s8 σ8 H8 _ I8 q8) (fun ok s9 ⟨H9, I9, q9⟩ => ?_) fun _ _ z => False.elim z
      cases ok with
      | false =>
        rw [if_neg Bool.false_ne_true] at q9 ⊢
        exact again I9 (hN _ _ _ q9)
      | true =>
        rw [if_pos rfl] at q9 ⊢
        refine wpAny_mono (he _ _ _ _ _ _ s9 σ8 H9 _ I9 q9) (fun y s10 ⟨yv, H10, I10, r10, hD, hz, q10⟩ => ?_) fun _ _ z => False.elim z
        refine wpAny_mono (mt_append (X := (cxComp X N' scope (closL X.env scope.names []) s3.heap.objs.size s3 (upd H2 s2.heap.objs.size (.lst [])) fp)) _ s10 σ8 H10 (.ref s2.heap.objs.size) [yv] (.ref s2.heap.objs.size) [y] (fun _ H11 => N (acc ++ [yv]) σ8 H11) I10 rfl (.cons r10 .nil) ⟨_, acc, yv, rfl, rfl, hD, hz, q10⟩) (fun _ s11 ⟨v11, H11, I11, r11, q11⟩ => ?_) fun _ _ z => False.elim z
        exact again I11 (hN _ _ _ q11)
  exact codeAny_compStart_list loop (T.self _ 0 _ _ _ st4 loop)

/-- the same, the names by themselves: tn the turn's, fr the frame's that it reads, at the slots sl -/
theorem pe_lc {elt tg iter : Expr} {ifs : List Expr} {scope : Scope} {pos : Pos} {wi : TI} {g : TG} {tt : TT} {te : TE} (tn fr : List Str) (sl : List Nat)
    (hp : Paired (fun (j : Nat) (x : Str) => X.N[j]? = some x ∧ scope.names.lookup x = some .free ∧ (X.env.kindOf x = some .cell ∨ X.env.kindOf x = some .free)) sl fr)
    (hc : X.calm = true) (hi : PI X tg iter wi) (hg : ∀ cl C s H ex, PG (cxComp X (tn ++ fr) scope cl C s H ex) tg g) (ht : ∀ cl C s H ex, PIf (cxComp X (tn ++ fr) scope cl C s H ex) ifs tt) (he : ∀ cl C s H ex, PE (cxComp X (tn ++ fr) scope cl C s H ex) elt te)
    (hk : scope.kind = .function) (hcell : ∀ y ∈ scope.names, y.2 ≠ .cell) (hnames : ∀ y ∈ scope.names, y.2 = .local → scope.names.lookup y.1 = some .local)
    (hfree : ∀ y ∈ scope.names, y.2 = .free → y.1 ∈ fr)
    (hs : ∀ x, foldedSetIterable iter X.env x = pure x := by intro _; rfl) :
    PE X (.ListComp elt [⟨tg, iter, ifs, 0⟩] scope pos) (tComp wi g tt te tn.length sl) := by
  have key : ∀ {sl : List Nat} {fr : List Str}, Paired (fun (j : Nat) (x : Str) => X.N[j]? = some x ∧ scope.names.lookup x = some .free ∧ (X.env.kindOf x = some .cell ∨ X.env.kindOf x = some .free)) sl fr →
      (∀ k j : Nat, sl[k]? = some j → ∃ x, fr[k]? = some x ∧ X.N[j]? = some x ∧ scope.names.lookup x = some .free) ∧ ∀ x ∈ fr, X.env.kindOf x = some .cell ∨ X.env.kindOf x = some .free := by
    intro sl fr hp
    induction hp with
    | nil => exact ⟨fun k j h => by simp at h, fun x hx => by simp at hx⟩
    | cons r t ih =>
      refine ⟨fun k j h => ?_, fun x hx => ?_⟩
      · cases k with
        | zero =>
          have e : _ = j := Option.some.inj h
          subst e
          exact ⟨_, rfl, r.1, r.2.1⟩
        | succ k => exact ih.1 k j (by simpa using h)
      · rcases List.mem_cons.mp hx with z | z
        · rw [z]; exact r.2.2
        · exact ih.2 x z
  refine pe_comp (N' := tn ++ fr) hc hi hg ht he (by rw [List.length_append, hp.length]) (fun k j h => ?_) hk hcell hnames (fun y hy hf => (key hp).2 _ (hfree y hy hf)) hs
  obtain ⟨x, e1, e2⟩ := (key hp).1 k j h
  exact ⟨x, by rw [List.getElem?_append_right (Nat.le_add_right _ _), Nat.add_sub_cancel_left]; exact e1, e2⟩
end
/-- over a range -/
theorem comp_range {lo : Int} {n : Nat} {g : TG} {tt : TT} {te : TE} {D : Addr} {Q : Hp → Prop} {σ : St} {H : Hp} (Pv : Nat → List V → St → Hp → Prop) (h0 : Pv 0 [] σ H)
    (hs : ∀ i acc σ H, i < n → Pv i acc σ H → g (.int (lo + i)) σ H fun σ2 H3 => tt σ2 H3 fun b H4 =>
      if b = true then te σ2 H4 fun y H5 => H5 D = some (.lst acc) ∧ acc.length < sizeLine ∧ Pv (i + 1) (acc ++ [y]) σ2 (upd H5 D (.lst (acc ++ [y]))) else Pv (i + 1) acc σ2 H4) (hd : ∀ acc σ H, Pv n acc σ H → Q H) :
    ∃ W : Nat → Nat → List V → St → Hp → Prop, (∃ m, W 0 m [] σ H) ∧ ∀ i m acc σ' H', W i m acc σ' H' → ((Itr lo n).stop i H' ∧ Q H') ∨
      ((Itr lo n).go i H' ∧ ∃ N : List V → St → Hp → Prop, (∀ acc' σ2 H4, N acc' σ2 H4 → ∃ m', m' < m ∧ W (i + 1) m' acc' σ2 H4) ∧ ∀ x H2, (Itr lo n).yld i H' x H2 → g x σ' H2 fun σ2 H3 => tt σ2 H3 fun b H4 =>
        if b = true then te σ2 H4 fun y H5 => H5 D = some (.lst acc) ∧ acc.length < sizeLine ∧ N (acc ++ [y]) σ2 (upd H5 D (.lst (acc ++ [y]))) else N acc σ2 H4) := by
  refine ⟨fun i m acc σ H => m = n - i ∧ i ≤ n ∧ Pv i acc σ H, ⟨n, by simp, Nat.zero_le _, h0⟩, ?_⟩
  rintro i m acc σ H ⟨rfl, hi, p⟩
  by_cases hlt : i < n
  · refine .inr ⟨hlt, Pv (i + 1), fun acc' σ' H' p' => ⟨n - (i + 1), by omega, rfl, hlt, p'⟩, fun x H' y => ?_⟩
    obtain ⟨e, y⟩ := y
    subst e y
    exact hs i acc σ _ hlt p
  · have e : i = n := by omega
    subst e
    exact .inl ⟨Nat.le_refl _, hd acc σ H p⟩
/-- over a list that the turns leave as it is -/
theorem comp_list {K : PySem.W.Frag} {a : Addr} {xs : List V} {g : TG} {tt : TT} {te : TE} {D : Addr} {Q : Hp → Prop} {σ : St} {H : Hp} (Pv : Nat → List V → St → Hp → Prop) (h0 : Pv 0 [] σ H) (hl : ∀ i acc σ H, i ≤ xs.length → Pv i acc σ H → SqL K H a xs)
    (hs : ∀ i x acc σ H, xs[i]? = some x → Pv i acc σ H → g x σ H fun σ2 H3 => tt σ2 H3 fun b H4 =>
      if b = true then te σ2 H4 fun y H5 => H5 D = some (.lst acc) ∧ acc.length < sizeLine ∧ Pv (i + 1) (acc ++ [y]) σ2 (upd H5 D (.lst (acc ++ [y]))) else Pv (i + 1) acc σ2 H4) (hd : ∀ acc σ H, Pv xs.length acc σ H → Q H) :
    ∃ W : Nat → Nat → List V → St → Hp → Prop, (∃ m, W 0 m [] σ H) ∧ ∀ i m acc σ' H', W i m acc σ' H' → ((Itl K a).stop i H' ∧ Q H') ∨
      ((Itl K a).go i H' ∧ ∃ N : List V → St → Hp → Prop, (∀ acc' σ2 H4, N acc' σ2 H4 → ∃ m', m' < m ∧ W (i + 1) m' acc' σ2 H4) ∧ ∀ x H2, (Itl K a).yld i H' x H2 → g x σ' H2 fun σ2 H3 => tt σ2 H3 fun b H4 =>
        if b = true then te σ2 H4 fun y H5 => H5 D = some (.lst acc) ∧ acc.length < sizeLine ∧ N (acc ++ [y]) σ2 (upd H5 D (.lst (acc ++ [y]))) else N acc σ2 H4) := by
  refine ⟨fun i m acc σ H => m = xs.length - i ∧ i ≤ xs.length ∧ Pv i acc σ H, ⟨xs.length, by simp, Nat.zero_le _, h0⟩, ?_⟩
  rintro i m acc σ H ⟨rfl, hi, p⟩
  have q := hl i acc σ H hi p
  by_cases hlt : i < xs.length
  · refine .inr ⟨⟨xs, xs[i], q, by simp [hlt]⟩, Pv (i + 1), fun acc' σ' H' p' => ⟨xs.length - (i + 1), by omega, rfl, hlt, p'⟩, fun x H' y => ?_⟩
    obtain ⟨e, y⟩ := y
    subst e
    exact hs i x acc σ _ (y xs q) p
  · have e : i = xs.length := by omega
    subst e
    exact .inl ⟨⟨xs, q, Nat.le_refl _⟩, hd acc σ H p⟩
section
variable {X : Cx}
def rBitLen : V → List V → Hp → VK → Prop := fun x vs H Q => ∃ i : Int, x = .int i ∧ vs = [] ∧ ∀ b : Int, b = ((Builtin.Int.intBits i : Nat) : Int) → Q (.int b) H
theorem mt_bitlen : MtR X "int.bit_length" rBitLen := by
  intro pins s σ H x vs v us Q I rx rv h
  obtain ⟨i, rfl, rfl, q⟩ := h
  obtain ⟨t, rfl⟩ := rx
  obtain rfl := Vals.zero rv
  exact call_int_bit_length ⟨.int _, H, I.tok _, ⟨_, rfl⟩, q _ rfl⟩
theorem bitOr_nat (a b : Nat) : Builtin.bitOr (a : Int) (b : Int) = ((a ||| b : Nat) : Int) := by
  have d1 : decide (0 ≤ Builtin.bitNot (a : Int)) = false := decide_eq_false (by unfold Builtin.bitNot; omega)
  have d2 : decide (0 ≤ Builtin.bitNot (b : Int)) = false := decide_eq_false (by unfold Builtin.bitNot; omega)
  have n1 : (Builtin.bitNot (Builtin.bitNot (a : Int))).toNat = a := by unfold Builtin.bitNot; omega
  have n2 : (Builtin.bitNot (Builtin.bitNot (b : Int))).toNat = b := by unfold Builtin.bitNot; omega
  unfold Builtin.bitOr Builtin.bitAnd
  rw [d1, d2]
  dsimp only
  rw [n1, n2]
  unfold Builtin.bitNot
  omega
end
def natV (k : Nat) : V := .int (k : Int)
def sp_has_room : Sp := fun vs H Q _ => ∃ n r : Nat, vs = [natV n, natV r] ∧ Q (.bl (n.testBit r)) H
def sp_with_room : Sp := fun vs H Q _ => ∃ n r : Nat, vs = [natV n, natV r] ∧ r ≤ 1000 ∧ Q (natV (n ||| 2 ^ r)) H
def sp_members : Sp := fun vs H Q _ => ∃ n : Nat, vs = [natV n] ∧ n < 2 ^ 61 ∧ ∀ p H', H p = none → Same H H' → H' p = some (.lst ((Bit.rooms n).map natV)) → Q (.ref p) H'
def sp_subsets : Sp := fun vs H Q _ => ∃ n : Nat, vs = [natV n] ∧ n < 2 ^ 61 ∧ (Bit.rooms n).length ≤ 8 ∧ ∀ p H', H p = none → Same H H' → H' p = some (.lst ((Bit.parts (Bit.rooms n)).map natV)) → Q (.ref p) H'
theorem rooms_len (n : Nat) : (Bit.rooms n).length ≤ 61 := by
  have := List.length_filter_le n.testBit (List.range 61)
  rw [List.length_range] at this
  exact this
theorem shr_odd (n r : Nat) {s m : Int} (es : s = (n : Int) / 2 ^ ((r : Int)).toNat) (em : m = s % 2) : decide (V.int m = V.int 1) = n.testBit r := by
  rw [Nat.testBit_eq_decide_div_mod_eq]
  have e1 : s = ((n / 2 ^ r : Nat) : Int) := by
    rw [es, Int.toNat_natCast]
    have : ((2 : Int) ^ r) = ((2 ^ r : Nat) : Int) := by rw [Int.natCast_pow]; rfl
    rw [this, ← Int.natCast_ediv]
  have e2 : m = ((n / 2 ^ r % 2 : Nat) : Int) := by rw [em, e1]; exact (Int.natCast_emod _ _).symm
  have e3 : (V.int m = V.int 1) ↔ (n / 2 ^ r % 2 = 1) := by rw [int_inj, e2]; omega
  exact decide_eq_decide.mpr e3
theorem take_next {α : Type} {l : List α} {i : Nat} {x : α} (h : l[i]? = some x) : l.take (i + 1) = l.take i ++ [x] := by
  rw [List.take_add_one, h]; rfl
theorem get_natV {l : List Nat} {i : Nat} {x : V} (h : (l.map natV)[i]? = some x) : ∃ k, l[i]? = some k ∧ x = natV k := by
  rw [List.getElem?_map] at h
  cases e : l[i]? with
  | none => rw [e] at h; cases h
  | some k => rw [e] at h; exact ⟨k, rfl, (Option.some.inj h).symm⟩
end L2
namespace L2
open PySem PySem.Spec PyProof.Rows Mth

theorem hide_get {h : Heap} {as : List Addr} {b : Addr} {o : Obj} (e : h.get? b = some o) (n : b ∉ as) : (PySem.W.hideAll h as).get? b = some o := PySem.W.hideAll_get _ e n
/-- an exception flies: from the state s (H) of the one who called, to s' (H'); outer: the frames that it has still to pass -/
structure Fly (P : Program) (w : World) (outer : List Env) (H : Hp) (s : Shared) (cls : Value) (x : Addr) (H' : Hp) (s' : Shared) : Prop where
  os : s'.os = s.os
  bare : AllBare s'.gens
  un : Un (frs outer) [] H H' s.heap s'.heap
  hok : HOk P w H' s'.heap
  fly : ∃ a0 B, Heap.FlyingW B outer x cls a0 s'.heap ∧ (∀ b o, s.heap.get? b = some o → b ∉ frs outer → ∀ o', s'.heap.get? b = some o' → B.get? b = some o') ∧ ∀ b u, H' b = some u → ∃ o, B.get? b = some o
def CX1 (P : Program) (w : World) : CXT := fun outer H s E e s' => ∃ x cls H', e = .ref x ∧ Fly P w outer H s cls x H' s' ∧ E cls none H'

theorem hok_of {P : Program} {w : World} {H : Hp} {h h' B : Heap} (x : HOk P w H h) (hB : ∀ b o, B.get? b = some o → h'.get? b = some o) (hb : ∀ b o, B.get? b = some o → h.get? b = some o) (tk : ∀ b u, H b = some u → ∃ o, B.get? b = some o) : HOk P w H h' := fun a o e =>
  (x a o e).stay (fun b u hb' q => by
    have : ∃ u', H b = some u' := by
      rcases hb' with z | z
      · exact ⟨o, by rw [z]; exact e⟩
      · exact ⟨_, z⟩
    obtain ⟨u', hu'⟩ := this
    obtain ⟨ob, hob⟩ := tk b u' hu'
    have := hb b ob hob
    rw [q] at this
    cases this
    exact hB b u hob) (fun _ q => q) fun _ _ q => q

/-- a fresh exception leaves the body as it is wanted -/
def Thr (X : Cx) (E : XK) : Prop := ∀ (pins : List (Addr × Obj)) (σ : St) (H : Hp) (s : Shared) (h' : Heap) (x : Addr) (cls : Value) (args : List Value), Inv X pins σ H s → Heap.MadeExcOf s.heap h' x cls args → E cls none H → X.xe (.ref x) { s with heap := h' }
section
variable {P : Program} {w : World} {K : PySem.W.Frag} {mg : Str → Option Value} {base : Heap} {N : List Str} {qual : Str} {scope : Scope} {f : Addr} {cd : Value} {A : Around} {outer : List Env} {s₀ : Shared} {H₀ : Hp} {E E' : XK}
theorem thr_of (hE : ∀ cls d H, E' cls d H → E cls d H) : Thr (cxOf (CX1 P w) P w K mg base N qual scope f cd A outer s₀ H₀ E) E' := by
  intro pins σ H s h' x cls args I hx he
  have L1 : (envOfC qual scope s₀.heap.objs.size f cd).frame = some s₀.heap.objs.size := rfl
  have fr := I.ok.frames
  have st := I.stack
  have hin : ∀ env ∈ (envOfC qual scope s₀.heap.objs.size f cd :: outer), ∀ b, env.frame = some b → b ∈ frs (envOfC qual scope s₀.heap.objs.size f cd :: outer) := fun env he b hb => List.mem_filterMap.mpr ⟨env, he, hb⟩
  refine wpAny_leaves_madeW (base := PySem.W.hideAll s.heap (frs (envOfC qual scope s₀.heap.objs.size f cd :: outer))) fr L1 (fun b o q => PySem.W.of_hideAll _ q) (PySem.W.funFrames_hide st hin) hx fun h2 t fl tup tn up => ?_
  have nofr : ∀ b o, s₀.heap.get? b = some o → b ∉ frs outer → b ∉ frs (envOfC qual scope s₀.heap.objs.size f cd :: outer) := fun b o e n hm => by
    rcases List.mem_cons.mp (show b ∈ s₀.heap.objs.size :: frs outer from hm) with z | z
    · exact absurd (Heap.lt_size e) (by rw [z]; exact Nat.lt_irrefl _)
    · exact n z
  have stay : ∀ b o, s.heap.get? b = some o → b ∉ frs (envOfC qual scope s₀.heap.objs.size f cd :: outer) → h2.get? b = some o := fun b o e n => fl.1 b o (hide_get e n)
  have fin : ∀ b ∈ frs outer, ∃ o, s.heap.get? b = some o ∧ ∀ vs, o.data ≠ .fields vs := fun b hb => (I.ok.funs.mem hb).2 |> fun ⟨o, e, hd⟩ => by
    obtain ⟨sl, e2⟩ := I.base.slot b o e (I.ok.frf b hb) hb (by intro z; exact absurd (show b ∈ ([] : List Addr) from z) (by simp))
    exact ⟨_, e2, hd⟩
  have tk : ∀ b u, H b = some u → ∃ o, (PySem.W.hideAll s.heap (frs (envOfC qual scope s₀.heap.objs.size f cd :: outer))).get? b = some o := fun b u e => by
    have nf : b ∉ frs (envOfC qual scope s₀.heap.objs.size f cd :: outer) := fun z => by rw [I.stkFree b z] at e; cases e
    have lt := I.hok.lt e
    cases q : s.heap.get? b with
    | none => 
      obtain ⟨o, ho⟩ : ∃ o, s.heap.get? b = some o := by
        have ok := I.hok b u e
        cases u with
        | lst xs => obtain ⟨_, _, _, _, e⟩ := ok; exact ⟨_, e⟩
        | tup xs => obtain ⟨_, _, _, o, e, _⟩ := ok; exact ⟨_, e⟩
        | dK kvs => obtain ⟨_, _, _, _, o, _, _, e, _⟩ := ok; exact ⟨_, e⟩
        | dT kvs => obtain ⟨_, _, _, _, o, _, _, e, _⟩ := ok; exact ⟨_, e⟩
        | set S n => obtain ⟨o, _, _, _, e, _⟩ := ok; exact ⟨_, e⟩
        | ins C dx fs => obtain ⟨_, _, _, e, _⟩ := ok; exact ⟨_, e⟩
        | own y => obtain ⟨_, e⟩ := ok; exact ⟨_, e⟩
        | xd fs => obtain ⟨_, ⟨_, _, _, e, _⟩, _⟩ := ok; exact ⟨_, e⟩
        | rng lo hi => obtain ⟨_, _, _, e⟩ := ok; exact ⟨_, e⟩
        | frz ob u => obtain ⟨e, _⟩ := ok; exact ⟨_, e⟩
        | tbl ps => exact ⟨_, ok⟩
        | met f y => exact ⟨_, ok⟩
        | ext φ => obtain ⟨_, ⟨_, e⟩, _⟩ := ok; exact ⟨_, e⟩
      rw [q] at ho; cases ho
    | some o => exact ⟨o, hide_get q nf⟩
  refine ⟨x, cls, H, rfl, ⟨I.os, I.bare, ?_, hok_of I.hok fl.1 (fun b o q => PySem.W.of_hideAll _ q) tk, _, _, fl, ?_, tk⟩, hE _ _ _ he⟩
  · refine ⟨fun b o e n hb _ => stay b o (I.base.keep b o e n hb (by simp [cxOf])) (nofr b o e hb), fun b o e n hb _ => ?_, fun b o e n _ => I.base.free b o e n (by simp [cxOf]), fun b o e _ => ?_, I.base.tups, I.base.frzs, I.base.tbls⟩
    · obtain ⟨sl, e1⟩ := I.base.slot b o e n hb (by simp [cxOf])
      obtain ⟨o1, e2, hd⟩ := fin b hb
      rw [e1] at e2
      cases e2
      obtain ⟨sl2, e3⟩ := up b _ (hx.keeps b _ e1) hd
      exact ⟨sl2, e3⟩
    · obtain ⟨o', e1⟩ := I.base.there b o e (by simp [cxOf])
      by_cases hb : b ∈ frs outer
      · obtain ⟨o1, e2, hd⟩ := fin b hb
        obtain ⟨sl2, e3⟩ := up b _ (hx.keeps b _ e2) hd
        exact ⟨_, e3⟩
      · exact ⟨o', stay b o' e1 (nofr b o e hb)⟩
  · intro b o e hb o' e'
    obtain ⟨o1, e1⟩ := I.base.there b o e (by simp [cxOf])
    have e2 := stay b o1 e1 (nofr b o e hb)
    rw [e2] at e'
    cases e'
    exact hide_get e1 (nofr b o e hb)
end
theorem exc_obj {K : PySem.W.Frag} {h : Heap} {C : Addr} {bmB : List Value} {newId : String} (X : K.In h) (q : PySem.W.excIn K C bmB newId = true) :
    ∃ bm N nm q bs hdct sn sub ab col dd k0 k1 k2 k3 k5 mN, h.get? C = some (excClassObj nm q C N bs bm hdct sn sub ab col dd k0 k1 k2 k3 k5 newId) ∧ h.Ns N mN ∧ mN "__init__" = none ∧ OwnTail h bmB bm := by
  unfold PySem.W.excIn at q
  split at q
  · rename_i dd cd sl ho
    split at q
    · rename_i C' bm k0 k1 k2 k3 n k5 hm hs
      simp only [Bool.and_eq_true, beq_iff_eq, Bool.not_eq_true'] at q
      obtain ⟨⟨⟨⟨⟨rfl, rfl⟩, hdel⟩, ht⟩, hok⟩, hni⟩ := q
      obtain ⟨nm, bs, mro, ns, qn, hd, sn, sub, ab, col, del⟩ := cd
      dsimp only at hm hdel hok hni
      subst hm hdel
      have hsl : sl = #[k0, k1, k2, k3, some (.builtin n), k5] := by
        obtain ⟨l⟩ := sl
        simp only at hs
        rw [hs]
      subst hsl
      exact ⟨bm, ns, nm, qn, bs, hd, sn, sub, ab, col, dd, k0, k1, k2, k3, k5, _, X _ _ ho, .of_isNs (PySem.W.isNs_of_in X hok), PySem.W.nsMap_none_of_in X hok hni, PySem.W.tail_of_in X ht⟩
    · cases q
  · cases q
section
variable {X : Cx}
/-- raise C(e, ..) -/
def tRaise (C : Addr) (E : XK) (t : TA) : TS := fun _ σ H => t σ H fun vs H1 => vs.length ≤ sizeLine ∧ E (.ref C) none H1
theorem ps_raise {c : Str} {C : Addr} {B initId : String} {bmB : List Value} {newId : String} {e₀ : Expr} {rest : List Expr} {np cpos pos : Pos} {t : TA} {E : XK} (hc : X.calm = true) (FB : ExcBaseFacts B newId initId bmB)
    (hm : X.mg c = some (.ref C)) (q : PySem.W.excIn X.K C bmB newId = true) (th : Thr X E) (ha : PA X (e₀ :: rest) t) (hg : Gl X c := by rfl) (hd : (c == ("__debug__" : Str)) = false := by decide)
    (he : starEach (e₀ :: rest) X.env = (false, eval e₀ X.env) :: starEach rest X.env := by rfl) (hplain : (backTo cpos (starEach rest X.env)).any (·.1) = false := by rfl) :
    PS X (.Raise (some (.Call (.Name c np) (e₀ :: rest) [] cpos)) none pos) (tRaise C E t) := by
  intro pins s σ H D I h
  obtain ⟨tl, N, nm, qn, bs, hdct, sn, sub, ab, col, dd, k0, k1, k2, k3, k5, mN, hC, hN, hni, T⟩ := exc_obj I.ok.mod.kin q
  refine wpAny_Raise_call_subT (C := C) (nm := nm) (q := qn) (N := N) (bs := bs) (bm := tl) (hdct := hdct) (sn := sn) (sub := sub) (ab := ab) (col := col) (dd := dd) (k0 := k0) (k1 := k1) (k2 := k2) (k3 := k3) (k5 := k5)
    FB (mN := mN) (T.hasType FB.hasBase) (I.ok.hd hc) (by rw [he]; show (false || (backTo cpos (starEach rest X.env)).any (·.1)) = false; rw [hplain]; rfl) hni (ld_glob I hg hm ⟨rfl, ?_⟩ hd)
  have hA := ha cpos pins s σ H _ I h
  rw [he] at hA ⊢
  refine Calls.evalArgs_plain (wpAny_mono hA (fun us s2 ⟨vs, H2, I2, r2, hz, q2⟩ => ⟨rfl, by rw [← r2.length]; exact hz, I2.bk _ _ hC, hN.keeps I2.bk, T.keeps I2.bk, fun h' x hx => ?_⟩) fun _ _ y => y)
  exact th pins σ H2 s2 h' x _ _ I2 hx q2
end
section
variable {P : Program} {w : World} {K : PySem.W.Frag} {mg : Str → Option Value} {base : Heap}
theorem Fun.okX {x qual : Str} {st : Stmt} {f : Addr} {fd : FuncData} {N ps : List Str} {k : Nat} {sp : Sp} (F : Fun K x qual st f fd) (S : FnScope N ps (defScope st)) (len : ∀ vs H Q E, sp vs H Q E → vs.length = ps.length)
    (hbody : ∀ (cdv : Value) (A : Around) (outer : List Env) (s : Shared) (H : Hp) (vs : List V) (Q : VK) (E : XK), Room k (A.deeper (envOfC qual (defScope st) s.heap.objs.size f cdv)) → sp vs H Q E →
      ∃ t, PSs (cxOf (CX1 P w) P w K mg base N qual (defScope st) f cdv A outer s H E) (defBody st) t ∧ t { nx := fun _ H' => Q .non H', rt := Q } (start N vs) H) : FnOk P w K mg base (CX1 P w) (k + 1) f fd ps sp := by
  obtain ⟨oc, od, kV, doc, pm, an, cdv, ct, osl, rfl, lk, hcd⟩ := F.ex
  exact fn_of lk hcd S len fun A outer s H vs Q E hr hsp => hbody cdv A outer s H vs Q E hr hsp
def DefX (P : Program) (w : World) (K : PySem.W.Frag) (mg : Str → Option Value) (base : Heap) (x : Str) (k : Nat) (ps : List Str) (sp : Sp) : Prop :=
  ∃ f fd, mg x = some (.ref f) ∧ PySem.W.keepIn K (.ref f) = true ∧ Binds K fd ps [] ∧ FnOk P w K mg base (CX1 P w) k f fd ps sp
theorem Has.defX {x : Str} {st : Stmt} {N ps : List Str} {k : Nat} {sp : Sp} (h : Has K mg x st) (S : FnScope N ps (defScope st)) (len : ∀ vs H Q E, sp vs H Q E → vs.length = ps.length)
    (hb : ∀ (kV doc pm : Value) (an : Option Addr) (cdv ct : Value) (us : List Value), us.length = ps.length → bindArgs (PySem.W.fnOf x x (defArgs st) (defBody st) (defScope st) .none kV doc pm an cdv ct) ⟨us, []⟩ = pure (ps.zip us))
    (hbody : ∀ (f : Addr) (cdv : Value) (A : Around) (outer : List Env) (s : Shared) (H : Hp) (vs : List V) (Q : VK) (E : XK), Room k (A.deeper (envOfC x (defScope st) s.heap.objs.size f cdv)) → sp vs H Q E →
      ∃ t, PSs (cxOf (CX1 P w) P w K mg base N x (defScope st) f cdv A outer s H E) (defBody st) t ∧ t { nx := fun _ H' => Q .non H', rt := Q } (start N vs) H) : DefX P w K mg base x (k + 1) ps sp := by
  obtain ⟨f, fd, hm, F⟩ := h
  exact ⟨f, fd, hm, F.kp, F.binds hb, F.okX S len fun cdv A outer s H vs Q E hr hs => hbody f cdv A outer s H vs Q E hr hs⟩
end
def PX (X : Cx) (e : Expr) (t : St → Hp → VK → XK → Prop) : Prop :=
  ∀ (pins : List (Addr × Obj)) (s : Shared) (σ : St) (H : Hp) (Q : VK) (E : XK), Inv X pins σ H s → t σ H Q E →
    wpAny (model X.prog X.w) X.A (eval e X.env) (EP X pins σ Q) (fun ex s' => ∃ H1 s1, Inv X pins σ H1 s1 ∧ CX1 X.prog X.w X.stack H1 s1 E ex s') s
section
variable {X : Cx} {x : Str} {p pos : Pos} {e : Expr} {es : List Expr} {t : TA} {k : Nat} {ps : List Str} {sp : Sp}
theorem px_callD (D : DefX X.prog X.w X.K X.mg X.base x k ps sp) (hr : Room k X.A) (ha : PA X.nox (e :: es) t) (hg : Gl X x := by rfl) (hdb : (x == ("__debug__" : Str)) = false := by decide)
    (he : starEach (e :: es) X.env = (false, eval e X.env) :: starEach es X.env := by rfl) (hpl : (backTo pos (starEach es X.env)).any (·.1) = false := by rfl) :
    PX X (.Call (.Name x p) (e :: es) [] pos) (fun σ H Q E => t σ H fun vs H1 => sp (vs ++ []) H1 Q E) := by
  obtain ⟨f, fd, hm, hk, hb, F⟩ := D
  intro pins s σ H Q E I h
  refine wpAny_Call_Name_kw (ld_glob I hg hm ?_ hdb)
  refine PySem.W.callWith_K (h₀ := X.base) I.ok.mod.kin hk (wpAny_mono (ha pos pins s σ H _ (I.wish _) h) (fun us s1 ⟨vs, H1, I1, r, q⟩ => ⟨I1.kIn, ?_⟩) fun _ _ z => False.elim z) he hpl
  have I1' : Inv X pins σ H1 s1 := I1.unwish
  have q : sp (vs ++ []) H1 Q E := q
  rw [List.append_nil] at q
  have hl : us.length = ps.length := by rw [← r.length]; exact F.len _ _ _ _ q
  refine wpAny_call (codeAny_mono (F.run X.A X.stack s1 H1 ⟨us, []⟩ us vs Q E hr I1'.env0 (by have := hb s1 us I1'.kIn (by rw [List.append_nil]; exact hl); rw [List.append_nil] at this; exact this) r q) fun r s' hq => ?_)
  cases r with
  | error e => exact ⟨H1, s1, I1', hq⟩
  | ok fl =>
    cases fl with
    | ret u => exact I1'.after hq
    | next => exact False.elim hq
    | brk => exact False.elim hq
    | cont => exact False.elim hq
end
end L2
namespace L2
open PySem PySem.Spec PyProof.Rows Mth

/-- Fly, its ground B told -/
structure FlyB (P : Program) (w : World) (outer : List Env) (H : Hp) (s : Shared) (cls : Value) (x : Addr) (H' : Hp) (a0 : Value) (B : Heap) (s' : Shared) : Prop where
  os : s'.os = s.os
  bare : AllBare s'.gens
  un : Un (frs outer) [] H H' s.heap s'.heap
  hok : HOk P w H' s'.heap
  fl : Heap.FlyingW B outer x cls a0 s'.heap
  st : ∀ b o, s.heap.get? b = some o → b ∉ frs outer → ∀ o', s'.heap.get? b = some o' → B.get? b = some o'
  tk : ∀ b u, H' b = some u → ∃ o, B.get? b = some o
theorem Fly.b {P : Program} {w : World} {outer : List Env} {H H' : Hp} {s s' : Shared} {cls : Value} {x : Addr} (F : Fly P w outer H s cls x H' s') : ∃ a0 B, FlyB P w outer H s cls x H' a0 B s' :=
  let ⟨a0, B, fl, hB, tk⟩ := F.fly; ⟨a0, B, F.os, F.bare, F.un, F.hok, fl, hB, tk⟩
section
variable {P : Program} {w : World} {outer : List Env} {H H' : Hp} {s s' : Shared} {cls a0 : Value} {x : Addr} {B : Heap}
theorem FlyB.fin (F : FlyB P w outer H s cls x H' a0 B s') : ∀ b ∈ frs outer, ∃ o, s'.heap.get? b = some o ∧ ∀ vs, o.data ≠ .fields vs := fun b hb => (F.fl.2.2.1.mem hb).2
theorem FlyB.moved {h2 : Heap} {t2 : Nat} (F : FlyB P w outer H s cls x H' a0 B s') (fl2 : Heap.FlyingW B outer x cls a0 h2) (up : s'.heap.UpToSlots h2) : FlyB P w outer H s cls x H' a0 B { s' with heap := h2, toks := t2 } := by
  have th : ∀ b o, s.heap.get? b = some o → b ∉ frs outer → ∃ o', B.get? b = some o' ∧ h2.get? b = some o' := fun b o e hb => by
    obtain ⟨o1, e1⟩ := F.un.there b o e (by simp)
    have q := F.st b o e hb o1 e1
    exact ⟨o1, q, fl2.1 b o1 q⟩
  refine ⟨F.os, F.bare, ⟨fun b o e n hb hx => ?_, fun b o e n hb hx => ?_, F.un.free, fun b o e hx => ?_, F.un.tups, F.un.frzs, F.un.tbls⟩, hok_of F.hok fl2.1 F.fl.1 F.tk, fl2, fun b o e hb o' e' => ?_, F.tk⟩
  · exact fl2.1 b o (F.st b o e hb o (F.un.keep b o e n hb hx))
  · obtain ⟨sl, e1⟩ := F.un.slot b o e n hb hx
    obtain ⟨o1, e3, hd⟩ := F.fin b hb
    rw [e1] at e3
    cases e3
    obtain ⟨sl2, e4⟩ := up b _ e1 hd
    exact ⟨sl2, e4⟩
  · by_cases hb : b ∈ frs outer
    · obtain ⟨o1, e3, hd⟩ := F.fin b hb
      obtain ⟨sl2, e4⟩ := up b _ e3 hd
      exact ⟨_, e4⟩
    · obtain ⟨o', _, e4⟩ := th b o e hb
      exact ⟨o', e4⟩
  · obtain ⟨o1, q, e4⟩ := th b o e hb
    have e4' : h2.get? b = some o' := e'
    rw [e4] at e4'
    cases e4'
    exact q
theorem FlyB.none (F : FlyB P w outer H s cls x H' a0 B s') : H' x = none := by
  cases q : H' x with
  | none => rfl
  | some u =>
    obtain ⟨o, e⟩ := F.tk x u q
    rw [F.fl.2.1] at e
    cases e
theorem FlyB.obj (F : FlyB P w outer H s cls x H' a0 B s') : ∃ oe vs, s'.heap.get? x = some oe ∧ oe.cls = cls ∧ oe.data = .fields vs :=
  let ⟨oe, vs, e, c, d, _⟩ := F.fl.first; ⟨oe, vs, e, c, d⟩
theorem FlyB.nofr (F : FlyB P w outer H s cls x H' a0 B s') : x ∉ frs outer := fun z => by
  obtain ⟨o, e, hd⟩ := F.fin x z
  obtain ⟨oe, vs, e', _, d⟩ := F.obj
  rw [e] at e'
  cases e'
  exact hd vs d
end

/-- within an except suite: the exception at e, its object oe -/
def Cx.held (X : Cx) (e : Addr) (oe : Obj) : Cx := { X with A := X.A.mark (some (.ref e)), calm := false, pn := X.pn ++ [(e, oe)], xe := fun _ _ => False }
theorem Cx.Ok.held {X : Cx} (ok : X.Ok) (e : Addr) (oe : Obj) : (X.held e oe).Ok :=
  ⟨ok.mod, ok.kind, ok.glob, ok.blt, ok.above, ok.inj, ok.has, ok.cab, (fun z => nomatch z), ok.frames, ok.stk, ok.exf, ok.bs, ok.bsz, ok.noex, ok.exfs, ok.funs, ok.frf⟩
section
variable {X : Cx} {pins : List (Addr × Obj)} {σ : St} {H H' : Hp} {s s' : Shared} {cls a0 : Value} {e : Addr} {oe : Obj} {B : Heap}
theorem Inv.caught (I : Inv X pins σ H s) (F : FlyB X.prog X.w X.stack H s cls e H' a0 B s') : Inv X pins σ H' s' :=
  I.call' (ch := []) F.os F.un F.hok F.bare (fun b z => absurd z (by simp))
theorem Inv.held {vs : Array Value} (I : Inv X pins σ H s) (he : s.heap.get? e = some oe) (hd : oe.data = .fields vs) (hn : H e = none) : Inv (X.held e oe) pins σ H s := by
  refine ⟨I.ok.held e oe, I.os, I.bare, I.base, I.loc, I.cell, I.free, I.freeC, fun p hp => ?_, I.hok, I.len⟩
  rcases List.mem_append.mp hp with hp | hp
  · rcases List.mem_append.mp hp with hp | hp
    · exact I.pin p (List.mem_append_left _ hp)
    · have ep : p = (e, oe) := by simpa using hp
      subst ep
      refine ⟨he, hn, fun z => ?_, fun z => ?_, fun v z => ?_⟩
      · obtain ⟨m, ⟨o, es, ep, ho, hod, _⟩, _⟩ := I.loc
        have z' : e = X.env.locals := z
        rw [z', ho] at he
        cases he
        rw [hod] at hd
        cases hd
      · obtain ⟨_, o, ho, hnf⟩ := I.funs.mem z
        have ho' : s.heap.get? e = some o := ho
        rw [he] at ho'
        cases ho'
        exact hnf vs hd
      · have z' : oe.data = .cell v := z
        rw [hd] at z'
        cases z'
  · exact I.pin p (List.mem_append_right _ hp)
theorem Inv.unheld (ok : X.Ok) (I : Inv (X.held e oe) pins σ H s) : Inv X pins σ H s :=
  ⟨ok, I.os, I.bare, I.base, I.loc, I.cell, I.free, I.freeC, fun p hp => I.pin p ((List.mem_append.mp hp).elim (fun z => List.mem_append_left _ (List.mem_append_left _ z)) fun z => List.mem_append_right _ z), I.hok, I.len⟩
/-- the name of an except clause goes behind its suite -/
theorem name_gone {A : Around} {E : Value → Shared → Prop} {i : Nat} {n : Str} {pos : Pos} {Q : Unit → Shared → Prop} (I : Inv X pins σ H s) (hN : X.N.Nodup) (hi : X.N[i]? = some n) (hl : X.env.scope.names.lookup n = some .local)
    (h : ∀ s', Inv X pins (σ.set i none) H s' → Q () s') : wpAny (model X.prog X.w) A (do bindName X.env n .none; unbindBehindTheSuite X.env n pos) Q E s := by
  obtain ⟨m, hn, hm⟩ := id I.loc
  refine wpAny_nameGoes_keeps hl hn (by rw [I.ok.kind]; rfl) fun h' v hn' hs => h _ ?_
  have cne := I.cne
  refine ⟨I.ok, I.os, I.bare, I.base.same_but hs (Heap.get?_none_of_le I.ok.above), ⟨_, hn', fun j y v' e1 e2 e3 => ?_⟩, fun y c q => ?_, I.free, I.freeC, fun p hp => ?_, I.hok.same_but hs I.free, by rw [List.length_set]; exact I.len⟩
  · by_cases hj : j = i
    · subst hj
      rw [List.getElem?_set] at e2
      simp only [if_true] at e2
      split at e2 <;> cases e2
    · rw [List.getElem?_set_ne (Ne.symm hj)] at e2
      obtain ⟨u', r', q⟩ := hm j y v' e1 e2 e3
      refine ⟨u', r', ?_⟩
      rcases q with ⟨k, q⟩ | ⟨k, c, q, z⟩
      · refine .inl ⟨k, ?_⟩
        have : y ≠ n := fun z => hj (nodup_ix hN e1 (z ▸ hi))
        show (if y = n then v else m y) = some u'
        rw [if_neg this]
        exact q
      · exact .inr ⟨k, c, q, z.sameBut hs (cne y c q)⟩
  · obtain ⟨w', z⟩ := I.cell y c q
    exact ⟨w', z.sameBut hs (cne y c q)⟩
  · obtain ⟨q, n', ne, nf, d⟩ := I.pin p hp
    exact ⟨(hs.2 p.1 ne).trans q, n', ne, nf, d⟩
end

/-- a block; E: what is wanted of an exception, by the frame's values at its place -/
def PSx (X : Cx) (st : List Stmt) (t : (St → XK) → TS) : Prop :=
  ∀ (pins : List (Addr × Obj)) (s : Shared) (σ : St) (H : Hp) (D : Ends) (E : St → XK), Inv X pins σ H s → t E D σ H →
    wpAny (model X.prog X.w) X.A (execs st X.env) (SP X pins D) (fun ex s' => ∃ σ1 H1 s1, Inv X pins σ1 H1 s1 ∧ CX1 X.prog X.w X.stack H1 s1 (E σ1) ex s') s
section
variable {X : Cx} {pos : Pos}
theorem psx_set {i : Nat} {x : Str} {e : Expr} {pos' : Pos} {t : St → Hp → VK → XK → Prop} (hN : X.N.Nodup) (hi : X.N[i]? = some x) (hx : Loc X.env.scope x) (he : PX X e t) (hs : swapsWith e (some (.Name x pos')) pos.line X.env = pure false := by rfl)
    (hf : X.fn x = true ∨ X.env.scope.names.lookup x = some .local := by first | exact .inl rfl | exact .inr rfl | assumption) : PSx X [.Assign [.Name x pos'] e pos] (fun E D σ H => t σ H (fun v H1 => D.nx (σ.set i (some v)) H1) (E σ)) := by
  intro pins s σ H D E I h
  refine wpAny_execs_cons (wpAny_Assign_Name (wpAny_mono (he pins s σ H _ _ I h) (fun v s1 q => ?_) fun ex s1 q => ?_) hs)
  · obtain ⟨y, H1, I1, r1, q1⟩ := q
    exact store_ok I1 hN hi hx r1 (fun s2 I2 => wpAny_execs_nil ⟨_, H1, I2, q1⟩) hf
  · obtain ⟨H1, s1, I1, c⟩ := q
    exact ⟨σ, H1, s1, I1, c⟩
def Ends.unset (D : Ends) (i : Nat) : Ends := ⟨fun σ H => D.nx (σ.set i none) H, D.rt, fun σ H => D.bk (σ.set i none) H, fun σ H => D.ct (σ.set i none) H⟩
def tTry (K : PySem.W.Frag) (c : Value) (i : Nat) (t : (St → XK) → TS) (ts : Value → Addr → TS) : TS := fun D σ H =>
  t (fun σ1 cls _ H1 => PySem.W.exmOne K cls c = some true ∧ ∀ e, H1 e = none → ts cls e (D.unset i) (σ1.set i (some (.ref e))) H1) D σ H
theorem ps_try {body : List Stmt} {c n : Str} {C : Addr} {np hpos : Pos} {b₀ : Stmt} {suite : List Stmt} {t : (St → XK) → TS} {ts : Value → Addr → TS} {i : Nat}
    (hst : X.stack = X.env :: X.outer) (hfr : X.env.frame = some X.env.locals) (hN : X.N.Nodup) (hi : X.N[i]? = some n) (hl : X.env.scope.names.lookup n = some .local)
    (hm : X.mg c = some (.ref C)) (hb : PSx X body t) (hs : ∀ cls e oe, oe.cls = cls → PSs (X.held e oe) (b₀ :: suite) (ts cls e)) (hg : Gl X c := by rfl) (hdb : (c == ("__debug__" : Str)) = false := by decide) :
    PS X (.Try body [.ExceptHandler (some (.Name c np)) (some n) (b₀ :: suite) hpos] [] [] pos) (tTry X.K (.ref C) i t ts) := by
  intro pins s σ H D I h
  refine wpAny_Try_except (wpAny_mono (hb pins s σ H D _ I h) (fun f s1 q => ?_) fun ex s1 hx => ?_)
  · cases f with
    | next => exact wpAny_execs_nil q
    | ret v => exact q
    | brk => exact q
    | cont => exact q
  · obtain ⟨σ1, H1, s0, I0, x, cls, H', rfl, F, hm', hk⟩ := hx
    obtain ⟨a0, B, FB⟩ := F.b
    have fr : X.A.frames = some (X.env :: X.outer) := hst ▸ I.ok.frames
    have fl' : Heap.FlyingW B (X.env :: X.outer) x cls a0 s1.heap := hst ▸ FB.fl
    refine wpAny_looks_onW fr hfr fl' fun h4 held up4 => ?_
    refine wpAny_landsW held fun h5 fl5 up5 => ?_
    have F5 := FB.moved (t2 := s1.toks) (hst ▸ fl5) (Heap.UpToSlots.trans up4 up5)
    have I5 := I0.caught F5
    obtain ⟨oe5, vs5, he5, hc5, hd5⟩ := F5.obj
    have J5 := I5.held he5 hd5 F5.none
    refine wpAny_handleBy_cons (codeAny_handlers_test (ld_glob (X := X.held x oe5) J5 hg hm ?_ hdb)) (by intro q; cases q)
    have LT : PySem.W.Looks (model X.prog X.w) h5 (typeOf (.ref x)) cls := hc5 ▸ (PySem.W.Looks.ld he5).andThen .now
    refine (PySem.W.exm_one J5.kIn LT hm') _ _ _ _ (fun _ _ q => q) ?_
    refine codeAny_handlers_suite_as ?_
    refine lands_againW fl5 fun h6 fl6 up6 => ?_
    have F6 := F5.moved (t2 := s1.toks) (hst ▸ fl6) up6
    have I6 := I0.caught F6
    obtain ⟨oe, vs, he, hc, hd⟩ := F6.obj
    have J6 := I6.held he hd F6.none
    refine store_ok (X := X.held x oe) (v := .ref x) J6 hN hi (.inl hl) rfl (fun s7 J7 => ?_) (.inr hl)
    refine wpAny_mono (hs cls x oe hc pins s7 _ H' (D.unset i) J7 (hk x F6.none)) (fun f s8 q => ?_) fun _ _ z => False.elim z
    have ok := I.ok
    cases f with
    | next =>
      obtain ⟨σ8, H8, J8, q8⟩ := q
      exact name_gone (J8.unheld ok) hN hi hl fun s9 I9 => ⟨_, H8, I9, q8⟩
    | brk =>
      obtain ⟨σ8, H8, J8, q8⟩ := q
      exact name_gone (J8.unheld ok) hN hi hl fun s9 I9 => ⟨_, H8, I9, q8⟩
    | cont =>
      obtain ⟨σ8, H8, J8, q8⟩ := q
      exact name_gone (J8.unheld ok) hN hi hl fun s9 I9 => ⟨_, H8, I9, q8⟩
    | ret v =>
      obtain ⟨v8, σ8, H8, J8, r8, q8⟩ := q
      exact name_gone (J8.unheld ok) hN hi hl fun s9 I9 => ⟨v8, _, H8, I9, r8, q8⟩
end

/-- an own exception's class, as far as isinstance looks at it -/
structure ExcCl (K : PySem.W.Frag) (C : Addr) : Prop where
  ga : PySem.W.findIn K (.ref C) "__getattribute__" = some (some (.builtin "BaseException.__getattribute__"))
  gt : PySem.W.findIn K (.ref C) "__getattr__" = some none
  cl : PySem.W.findIn K (.ref C) "__class__" = some (some (.builtin "object.__class__"))
  gs : PySem.W.specialIn K (.builtin "object.__class__") "__get__" = some (some (.builtin "getset_descriptor.__get__"))
  tk : PySem.W.takesIn K (.builtin "object.__class__") = some true
  mo : PySem.W.mroIn K C (.type "object") = some true
  mb : PySem.W.mroIn K C (.type "BaseException") = some true
  is : (PySem.W.clsIn K C).isSome = true
section
open PySem.Builtin PySem.Builtin.ObjectAttr PySem.Builtin.Getset_descriptor
variable {K : PySem.W.Frag} {C e : Addr}
theorem find_data {M : Model} {h : Heap} {name : Str} {a g : Value} (X : K.In h) (h1 : PySem.W.findIn K (.ref C) name = some (some a)) (h2 : PySem.W.specialIn K a "__get__" = some (some g)) (h3 : PySem.W.takesIn K a = some true) :
    PySem.W.Looks M h (find (.ref e) (.ref C) name) (.bind g a) := by
  have M1 := PySem.W.looks_findIn (M := M) X h1
  have M2 : PySem.W.Looks M h (getOf (some a)) (some g) := PySem.W.looks_specialIn X h2
  have M3 : PySem.W.Looks M h (dataDescriptor? (some a) (some g)) (some (g, a)) := (PySem.W.looks_takesIn (M := M) X h3).andThen .now
  exact M1.andThen (M2.andThen (M3.andThen (PySem.W.Looks.tag .now)))
variable {prog : Program} {w : World} {A : Around} {s : Shared} {oe : Obj}
theorem exc_descr {R : Result → Shared → Prop} {tp : Value} (X : K.In s.heap) (he : s.heap.get? e = some oe) (hc : oe.cls = .ref C) (hE : ExcCl K C) (h : R (.ok (.ret (.ref C))) s) :
    codeAny (model prog w) A (.call (.builtin "getset_descriptor.__get__") ⟨[.builtin "object.__class__", .ref e, tp], []⟩) R s := by
  obtain ⟨hp0, gn, dw, tt, os0⟩ := s
  have M0 : PySem.W.Looks (model prog w) hp0 (typeOf (.ref e)) (.ref C) := hc ▸ (PySem.W.Looks.ld he).andThen .now
  have M1 := PySem.W.looks_mroIn (M := model prog w) X hE.mo
  refine codeAny_call_builtin PySem.W.KF.slot_gs.plain PySem.W.KF.entry_gs (PySem.W.KF.slot_gs.check _ _ _ _ _ _ _ _ PySem.W.KF.type_class (PySem.W.KF.args_gs _ _ _) ?_)
  unfold PySem.Builtin.«getset_descriptor.__get__» descrGet
  rw [PySem.W.dga_obj]
  refine wpAny_bind (wpAny_pure ?_)
  unfold descrGetter descrCheckInstance descrNameAndClass PySem.isInstance
  simp only [PySem.W.KF.owner_class]
  repeat lk
  refine ⟨Code.quiet_builtin _ (by decide +kernel), codeAny_builtin PySem.W.KF.entry_class ?_⟩
  unfold PySem.Builtin.«object.__class__» PySem.shownTypeOf
  repeat lk
  exact h
theorem exc_ga {R : Result → Shared → Prop} {tk : Tok} (X : K.In s.heap) (he : s.heap.get? e = some oe) (hc : oe.cls = .ref C) (hE : ExcCl K C) (h : R (.ok (.ret (.ref C))) s) :
    codeAny (model prog w) A (.call (.builtin "BaseException.__getattribute__") ⟨[.ref e, .str "__class__" tk], []⟩) R s := by
  obtain ⟨hp0, gn, dw, tt, os0⟩ := s
  have M0 : PySem.W.Looks (model prog w) hp0 (typeOf (.ref e)) (.ref C) := hc ▸ (PySem.W.Looks.ld he).andThen .now
  have MB := PySem.W.looks_mroIn (M := model prog w) X hE.mb
  have MF := find_data (M := model prog w) (e := e) X hE.cl hE.gs hE.tk
  have ar := PySem.F.args_bexc_ga (.ref e) (.str "__class__" tk)
  refine codeAny_call_builtin PySem.F.excAttr_ValueError.ga.plain PySem.F.entry_bexc_ga ?_
  have hk : builtinKind "BaseException.__getattribute__" = some .slot := by decide +kernel
  have hsplit : splitId "BaseException.__getattribute__" = some ("BaseException", "__getattribute__") := by decide +kernel
  simp only [checkBuiltinCall, hk, hsplit]
  refine wpAny_bind ((M0.andThen MB).at ?_)
  simp only [Bool.not_true, Bool.false_eq_true, if_false]
  unfold argsOk at ar
  refine wpAny_of_eq (a := ()) ar ?_
  unfold PySem.Builtin.«object.__getattribute__»
  refine wpAny_bind (wpAny_of_eq (a := (Value.ref e, [Value.str "__class__" tk])) rfl ?_)
  dsimp only
  refine wpAny_bind (wpAny_of_eq (a := ("__class__" : Str)) rfl ?_)
  refine wpAny_bind (M0.at (wpAny_bind (MF.at ?_)))
  show wpAny _ _ (holding [_] (call _ [_, _, _]) >>= ret) _ _ _
  refine wpAny_bind (wpAny_holding (wpAny_call (exc_descr (s := ⟨hp0, gn, dw, tt, os0⟩) X he hc hE ?_)))
  exact wpAny_pure h
theorem kitx_exc (hE : ExcCl K C) : PySem.W.KitX K (.ref e) (.ref C) (fun h => ∃ oe, h.get? e = some oe ∧ oe.cls = .ref C) where
  ty := fun _ _ _ ⟨_, he, hc⟩ => hc ▸ (PySem.W.Looks.ld he).andThen .now
  it := fun _ _ X _ => by
    obtain ⟨cd, hcd⟩ := Option.isSome_iff_exists.mp hE.is
    unfold PySem.W.clsIn at hcd
    split at hcd
    · rename_i q1 q2 q3 q4 ho
      intro A1 Q1 E1 s1 keep q
      unfold isType loadHead
      exact wpAny_bind (wpAny_loadPart (keep _ _ (X _ _ ho)) (wpAny_pure q))
    · cases hcd
  ne := fun h tp dd its n sl X htp => by
    obtain ⟨cd, hcd⟩ := Option.isSome_iff_exists.mp hE.is
    refine Bool.eq_false_iff.mpr fun q => ?_
    have z : C = tp := Value.ref.inj (beq_iff_eq.mp q)
    subst z
    unfold PySem.W.clsIn at hcd
    split at hcd
    · rename_i q1 q2 q3 q4 ho
      have y := (X _ _ ho).symm.trans htp
      cases y
    · cases hcd
  ca := fun {prog w A E Q s} X hx k => by
    obtain ⟨oe, he, hc⟩ := hx
    obtain ⟨hp0, gn, dw, tt, os0⟩ := s
    have M0 : PySem.W.Looks (model prog w) hp0 (typeOf (.ref e)) (.ref C) := hc ▸ (PySem.W.Looks.ld he).andThen .now
    have M1 := PySem.W.looks_findIn (M := model prog w) X hE.ga
    have M2 := PySem.W.looks_findIn (M := model prog w) X hE.gt
    unfold getAttr? getAttrBy? getAttrBy
    refine wpAny_bind (wpAny_mkText (wpAny_bind (wpAny_attempt (wpAny_holding (wpAny_bind (M0.at (wpAny_bind (M1.at ?_))))))))
    show wpAny _ _ (getAttrByItsOwn _ _ _ _ _ _) _ _ _
    unfold getAttrByItsOwn
    refine wpAny_bind (m := hookBefore _) (M2.at ?_)
    refine wpAny_bind (wpAny_attempt (wpAny_holding ?_))
    show wpAny _ _ (boundAndCalled _ _ _) _ _ _
    unfold boundAndCalled
    refine wpAny_bind (wpAny_of_eq (PySem.F.excAttr_ValueError.ga.bind (.ref e)) ?_)
    refine wpAny_call (exc_ga (s := ⟨hp0, gn, dw, tt + 1, os0⟩) X he hc hE ?_)
    exact PySem.W.handed_on rfl (wpAny_pure k)
end
/-- a class as a value -/
def clsV : V → Bool
  | .ref _ => true
  | .ty _ => true
  | _ => false
def vOf : V → Value
  | .ref a => .ref a
  | .ty n => .type n
  | _ => .none
theorem relv_cls {c : V} {u : Value} (hc : clsV c = true) (r : RelV c u) : u = vOf c := by
  cases c <;> first | exact r | cases hc
theorem vals_cls : ∀ {cs : List V} {us : List Value}, Vals cs us → (∀ x ∈ cs, clsV x = true) → us = cs.map vOf
  | _, _, .nil, _ => rfl
  | _, _, .cons r t, h => by rw [List.map_cons, relv_cls (h _ List.mem_cons_self) r, vals_cls t fun x hx => h x (List.mem_cons_of_mem _ hx)]
/-- what isinstance(e, c) answers, e an exception of the own class at C -/
inductive IsE (K : PySem.W.Frag) (C : Addr) (H : Hp) : V → Bool → Prop where
  | one {c : V} {b : Bool} (hc : clsV c = true) (h : PySem.W.kitOne K (.ref C) (vOf c) = some b) : IsE K C H c b
  | many {p : Addr} {cs : List V} {b : Bool} (hp : H p = some (.tup cs)) (hc : ∀ x ∈ cs, clsV x = true) (h : PySem.W.kitAny K (.ref C) (cs.map vOf) = some b) : IsE K C H (.ref p) b
section
variable {X : Cx}
theorem call_isE {e : Addr} {oe : Obj} {cls : Value} (K : PySem.W.Frag) (hK : X.K = K) (hp : (e, oe) ∈ X.pn) (hc : oe.cls = cls) :
    CallR X (.builtin "isinstance") (fun xs H Q => ∃ c b C, xs = [.ref e, c] ∧ cls = .ref C ∧ ExcCl K C ∧ IsE K C H c b ∧ Q (.bl b) H) := by
  subst hK
  intro pins s σ H xs us Q I r h
  obtain ⟨c, b, C, rfl, ec, hE, is, q⟩ := h
  obtain ⟨u, w', rfl, r1, r2⟩ := vals2 r
  obtain rfl : u = Value.ref e := r1
  have he : s.heap.get? e = some oe := (I.pin (e, oe) (List.mem_append_left _ hp)).1
  have fin : ∀ tk, EP X pins σ Q (.bool b) { s with toks := tk } := fun tk => ⟨.bl b, H, I.tok _, rfl, q⟩
  cases is with
  | one hc' h1 =>
    rw [relv_cls hc' r2]
    exact PySem.W.kia_one (kitx_exc hE) I.kIn ⟨oe, he, hc.trans ec⟩ h1 (fun z => nomatch z) fin
  | @many p cs _ hp' hc' h1 =>
    obtain rfl : w' = Value.ref p := r2
    obtain ⟨_, its, rv, o, ho, hcl, n, hd⟩ := (show ObjOk X.prog X.w H s.heap p (.tup cs) from I.hok p _ hp')
    have ei := vals_cls rv hc'
    subst ei
    obtain ⟨o1, o2, o3, o4⟩ := o
    dsimp only at hcl hd
    subst hcl hd
    exact PySem.W.kia_tup (kitx_exc hE) I.kIn ⟨oe, he, hc.trans ec⟩ ho h1 (fun z => nomatch z) fin
end
theorem bt_ValueError : bootBuiltins "ValueError" = some (.type "ValueError") := by decide +kernel
end L2
namespace L2
open PySem PySem.Spec PyProof.Rows Mth

section
variable {X : Cx} {x : Str} {pos : Pos}
end
/-- a tuple of the module -/
def KTup (K : PySem.W.Frag) (a : Addr) (xs : List V) : Prop :=
  ∃ (o : Obj) (its : Array Value) (n : Nat), K.lookup a = some o ∧ o.cls = .type "tuple" ∧ o.data = .seq its n ∧ its.size ≤ sizeLine ∧ Vals xs its.toList
theorem KTup.at {K : PySem.W.Frag} {a : Addr} {xs : List V} (h : KTup K a xs) (H : Hp) : SqT K H a xs := .inr h
/-- the defaults of a def -/
def DfIs (K : PySem.W.Frag) (T : Addr) (dvs : List V) : Prop := ∃ o n items, K.lookup T = some o ∧ o.data = .seq items n ∧ Vals dvs items.toList
structure FunD (K : PySem.W.Frag) (x qual : Str) (st : Stmt) (dV : Value) (f : Addr) (fd : FuncData) : Prop where
  ex : ∃ (oc : Value) (od : Option Addr) (kV doc pm : Value) (an : Option Addr) (cdv ct : Value) (osl : Array (Option Value)),
    fd = PySem.W.fnOf x qual (defArgs st) (defBody st) (defScope st) dV kV doc pm an cdv ct ∧ K.lookup f = some ⟨oc, od, .func fd, osl⟩ ∧ PySem.W.codeIn K cdv qual = true
  kp : PySem.W.keepIn K (.ref f) = true
/-- a tuple of defaults -/
def Dflt (K : PySem.W.Frag) (dV : Value) (items : List Value) : Prop := (dV = .none ∧ items = []) ∨ ∃ T o n, dV = .ref T ∧ K.lookup T = some o ∧ o.data = .seq items.toArray n
section
variable {P : Program} {w : World} {K : PySem.W.Frag} {mg : Str → Option Value} {base : Heap} {x qual m : Str} {st : Stmt} {dV : Value} {f C : Addr} {fd : FuncData} {N ps : List Str} {k : Nat} {sp : Sp} {ds : List Value}
theorem FunD.ok (F : FunD K x qual st dV f fd) (S : FnScope N ps (defScope st)) (len : ∀ vs H Q E, sp vs H Q E → vs.length = ps.length)
    (hbody : ∀ (cdv : Value) (A : Around) (outer : List Env) (s : Shared) (H : Hp) (vs : List V) (Q : VK) (E : XK), Room k (A.deeper (envOfC qual (defScope st) s.heap.objs.size f cdv)) → sp vs H Q E →
      ∃ t, PSs (cxOf CX0 P w K mg base N qual (defScope st) f cdv A outer s H E).nox (defBody st) t ∧ t { nx := fun _ H' => Q .non H', rt := Q } (start N vs) H) : FnOk P w K mg base CX0 (k + 1) f fd ps sp := by
  obtain ⟨oc, od, kV, doc, pm, an, cdv, ct, osl, rfl, lk, hcd⟩ := F.ex
  refine fn_of lk hcd S len fun A outer s H vs Q E hr hsp => ?_
  obtain ⟨t, h, q⟩ := hbody cdv A outer s H vs Q E hr hsp
  exact ⟨t, h.nox, q⟩
/-- how its arguments bind: us are given, ds are the defaults that fill up -/
theorem FunD.binds {T : Addr} {o : Obj} {n : Nat} {items : Array Value} (F : FunD K x qual st (.ref T) f fd) (hT : K.lookup T = some o) (ho : o.data = .seq items n)
    (h : ∀ (kV doc pm : Value) (an : Option Addr) (cdv ct : Value) (us : List Value), (us ++ ds).length = ps.length → ∃ k, bindArgs (PySem.W.fnOf x qual (defArgs st) (defBody st) (defScope st) (.ref T) kV doc pm an cdv ct) ⟨us, []⟩ = seqItems? (.ref T) >>= k ∧ k (some items) = pure (ps.zip (us ++ ds))) : Binds K fd ps ds := by
  obtain ⟨oc, od, kV, doc, pm, an, cdv, ct, osl, rfl, lk, hcd⟩ := F.ex
  intro s us X hl
  obtain ⟨k, h1, h2⟩ := h kV doc pm an cdv ct us hl
  exact PySem.W.binds_K X rfl hT ho h1 h2
/-- a method of the text -/
def HasM (K : PySem.W.Frag) (C : Addr) (m qual : Str) (st : Stmt) (dV : Value) : Prop := ∃ f fd, Meth K C m f ∧ FunD K m qual st dV f fd
def MDef (P : Program) (w : World) (K : PySem.W.Frag) (mg : Str → Option Value) (base : Heap) (C : Addr) (m : Str) (k : Nat) (ps : List Str) (ds : List Value) (sp : Sp) : Prop :=
  ∃ f fd, Meth K C m f ∧ Binds K fd ps ds ∧ FnOk P w K mg base CX0 k f fd ps sp
/-- a class that is made by its __init__ -/
structure MkCl (K : PySem.W.Frag) (C : Addr) : Prop where
  makes : PySem.W.makesIn K C = true
  kp : PySem.W.keepIn K (.ref C) = true
/-- a def by its name, with defaults -/
def HasD (K : PySem.W.Frag) (mg : Str → Option Value) (x : Str) (st : Stmt) (dV : Value) : Prop := ∃ f fd, mg x = some (.ref f) ∧ FunD K x x st dV f fd
def DefD (P : Program) (w : World) (K : PySem.W.Frag) (mg : Str → Option Value) (base : Heap) (x : Str) (k : Nat) (ps : List Str) (ds : List Value) (sp : Sp) : Prop :=
  ∃ f fd, mg x = some (.ref f) ∧ PySem.W.keepIn K (.ref f) = true ∧ Binds K fd ps ds ∧ FnOk P w K mg base CX0 k f fd ps sp
end
section
variable {X : Cx} {C : Addr} {m x : Str} {p pos apos : Pos} {e o : Expr} {es : List Expr} {ta : TE} {t : TA} {k : Nat} {ps : List Str} {sp : Sp} {ds : List Value} {dvs : List V}
end
end L2
namespace L2
open PySem PySem.Spec PyProof.Rows Mth

section
variable {X : Cx} {pins : List (Addr × Obj)} {σ : St} {H : Hp} {s : Shared} {h' : Heap} {ch : List Addr}
/-- records of ours at ch have turned, and a new object is laid -/
theorem Inv.turnedL {a : Addr} {o : HO} {t' : Nat} (I : Inv X pins σ H s) (k : ∀ b u, b ∉ ch → s.heap.get? b = some u → h'.get? b = some u) (hf : ∀ b ∈ ch, FpOk X pins H b) (hp : s.heap.objs.size ≤ a)
    (new : ObjOk X.prog X.w (upd H a o) h' a o) : Inv X pins σ (upd H a o) { s with heap := h', toks := t' } := by
  have hn : H a = none := I.hok.fresh hp
  refine I.step (g' := s.gens) (d' := s.drawn) (ch := ch) (fun b hb => ⟨(hf b hb).2.2.2.1, (hf b hb).2.1, (hf b hb).2.2.2.2.1, (hf b hb).2.2.2.2.2⟩) (fun b u _ _ hc q _ => k b u hc q) (fun b u _ _ hc q _ => ⟨u.slots, k b u hc q⟩)
    (fun b u _ q n => by rw [upd_ne (Nat.ne_of_lt (Nat.lt_of_lt_of_le (Heap.lt_size q) hp))]; exact n) (fun b u hc q => ⟨u, k b u hc q⟩) (fun b xs q => by rw [upd_ne (ne_of_none q hn)]; exact q) (fun b u xs q => by rw [upd_ne (ne_of_none q hn)]; exact q)
    (fun b ps q => ⟨#[], by rw [upd_ne (ne_of_none q hn), q]; simp⟩) (fun m hm => ?_) (fun b u q => ?_) I.bare
  · obtain ⟨ob, es, ep, ho, r⟩ := hm
    exact ⟨ob, es, ep, k _ ob (fun z => (hf _ z).2.1 rfl) ho, r⟩
  · by_cases hb : b = a
    · subst hb
      rw [upd_same] at q
      cases q
      exact new
    · rw [upd_ne hb] at q
      refine (I.hok b u q).stay (fun c v hc z => k c v (fun y => ?_) z) (fun c z => by rw [upd_ne (ne_of_none z hn)]; exact z) fun c xs z => by rw [upd_ne (ne_of_none z hn)]; exact z
      have n := (hf c y).1
      rcases hc with rfl | hc
      · rw [n] at q; cases q
      · rw [n] at hc; cases hc
theorem Inv.turned0 {t' : Nat} (I : Inv X pins σ H s) (k : ∀ b u, b ∉ ch → s.heap.get? b = some u → h'.get? b = some u) (hf : ∀ b ∈ ch, FpOk X pins H b) : Inv X pins σ H { s with heap := h', toks := t' } := by
  refine I.step (g' := s.gens) (d' := s.drawn) (ch := ch) (fun b hb => ⟨(hf b hb).2.2.2.1, (hf b hb).2.1, (hf b hb).2.2.2.2.1, (hf b hb).2.2.2.2.2⟩) (fun b u _ _ hc q _ => k b u hc q) (fun b u _ _ hc q _ => ⟨u.slots, k b u hc q⟩)
    (fun _ _ _ _ n => n) (fun b u hc q => ⟨u, k b u hc q⟩) (fun _ _ q => q) (fun _ _ _ q => q) (fun b ps q => ⟨#[], by rw [q]; simp⟩) (fun m hm => ?_) (fun b u q => ?_) I.bare
  · obtain ⟨ob, es, ep, ho, r⟩ := hm
    exact ⟨ob, es, ep, k _ ob (fun z => (hf _ z).2.1 rfl) ho, r⟩
  · refine (I.hok b u q).stay (fun c v hc z => k c v (fun y => ?_) z) (fun _ z => z) fun _ _ z => z
    have n := (hf c y).1
    rcases hc with rfl | hc
    · rw [n] at q; cases q
    · rw [n] at hc; cases hc
end

/-- two lists side by side: a new pair each turn -/
def Itz (K : PySem.W.Frag) (a b : Addr) : It :=
  ⟨fun i H => ∃ xs ys x y, SqL K H a xs ∧ SqL K H b ys ∧ xs[i]? = some x ∧ ys[i]? = some y,
   fun i H v H' => ∃ p x y, H p = none ∧ v = .ref p ∧ H' = upd H p (.tup [x, y]) ∧ (∀ xs, SqL K H a xs → xs[i]? = some x) ∧ ∀ ys, SqL K H b ys → ys[i]? = some y,
   fun i H => ∃ xs ys, SqL K H a xs ∧ SqL K H b ys ∧ (xs.length ≤ i ∨ ys.length ≤ i)⟩
def ZipSt (z TI TO i1 i2 a b : Addr) (i : Nat) (h : Heap) : Prop := IsZip h z TI TO .none ∧ IsPair h TI (.ref i1) (.ref i2) ∧ (∃ u v, IsPair h TO u v) ∧ h.IsListIter i1 a i ∧ h.IsListIter i2 b i
theorem ZipSt.obj {z TI TO i1 i2 a b : Addr} {i : Nat} {h : Heap} (st : ZipSt z TI TO i1 i2 a b i h) : ∀ c ∈ [z, TI, TO, i1, i2], ∃ o, h.get? c = some o ∧ ∀ v, o.data ≠ .cell v := fun c hc => by
  obtain ⟨hz, hTI, ⟨u, v, hTO⟩, ⟨o1, e1, _, d1⟩, ⟨o2, e2, _, d2⟩⟩ := st
  simp only [List.mem_cons, List.not_mem_nil, or_false] at hc
  rcases hc with rfl | rfl | rfl | rfl | rfl
  · exact ⟨_, hz, fun v q => by cases q⟩
  · exact ⟨_, hTI, fun v q => by cases q⟩
  · exact ⟨_, hTO, fun v q => by cases q⟩
  · exact ⟨o1, e1, fun v q => by rw [d1] at q; cases q⟩
  · exact ⟨o2, e2, fun v q => by rw [d2] at q; cases q⟩
theorem turn_zip {P : Program} {w : World} {K : PySem.W.Frag} {elts : List Expr} {x1 : Nat} {tpos : Pos} {z TI TO i1 i2 a b : Addr} (D : ZipApart z TI TO i1 i2 a b) :
    Turn P w K (.Tuple elts x1 tpos) (Itz K a b) [z, TI, TO, i1, i2] z (ZipSt z TI TO i1 i2 a b) where
  mem := by simp
  obj := fun i h st => st.obj
  keep := fun i h h' st k => by
    obtain ⟨hz, hTI, ⟨u, v, hTO⟩, h1, h2⟩ := st
    exact ⟨k z (by simp) _ hz, k TI (by simp) _ hTI, ⟨u, v, k TO (by simp) _ hTO⟩, h1.at fun o e => k i1 (by simp) o e, h2.at fun o e => k i2 (by simp) o e⟩
  item := by
    intro X hP hw hK hc i pins s σ H E I hf st hg
    subst hP hw hK
    obtain ⟨xs, ys, x, y, hq1, hq2, hx, hy⟩ := hg
    obtain ⟨its1, rv1, p1, hz1⟩ := I.list hq1
    obtain ⟨its2, rv2, p2, hz2⟩ := I.list hq2
    obtain ⟨u1, hu1, ru1⟩ := rv1.get hx
    obtain ⟨u2, hu2, ru2⟩ := rv2.get hy
    have lt : ∀ c ∈ [z, TI, TO, i1, i2], c < s.heap.objs.size := fun c hc' => by
      obtain ⟨o, e, _⟩ := st.obj c hc'
      exact Heap.lt_size e
    obtain ⟨hz, hTI, ⟨u, v, hTO⟩, h1, h2⟩ := st
    refine wpAny_pyNext_zip_item D hz hTI hTO h1 h2 p1.isList p2.isList (x := u1) (y := u2) (by simpa using hu1) (by simpa using hu2) fun h' z1 z2 z3 z4 z5 z6 kk => ?_
    refine ⟨.ref s.heap.objs.size, rfl, wpAny_letOwnedTupleGo_zip (s := { s with heap := h' }) z1 fun h2' zz sb => ?_⟩
    have kAll : ∀ c o, c ∉ [z, TI, TO, i1, i2] → s.heap.get? c = some o → h2'.get? c = some o := fun c o hn e => by
      simp only [List.mem_cons, List.not_mem_nil, or_false, not_or] at hn
      exact sb.extBut _ _ hn.1 (kk c o hn.1 hn.2.2.1 hn.2.2.2.1 hn.2.2.2.2 e)
    have nz : s.heap.objs.size ≠ z := Nat.ne_of_gt (lt z (by simp))
    have n5 : IsPair h2' s.heap.objs.size u1 u2 := sb.extBut _ _ nz z5
    refine ⟨.ref s.heap.objs.size, upd H s.heap.objs.size (.tup [x, y]), I.turnedL (t' := s.toks) kAll hf (Nat.le_refl _) ⟨by show 2 ≤ sizeLine; decide, [u1, u2], .cons ru1 (.cons ru2 .nil), ⟨_, n5, rfl, _, rfl⟩⟩, rfl,
      ⟨_, x, y, I.hok.fresh (Nat.le_refl _), rfl, rfl, fun xs' h => by rw [I.list_inj h hq1]; exact hx, fun ys' h => by rw [I.list_inj h hq2]; exact hy⟩, ?_, fun c hc' => ?_⟩
    · exact ⟨zz, sb.extBut _ _ D.TIz (kk _ _ D.TIz D.TITO D.TIi1 D.TIi2 hTI), ⟨_, _, sb.extBut _ _ D.TOz z2⟩, z3.extBut sb.extBut D.i1z, z4.extBut sb.extBut D.i2z⟩
    · rw [upd_ne (Nat.ne_of_lt (lt c hc'))]
      exact (hf c hc').1
  done := by
    intro X hP hw hK hc i pins s σ H E I hf st hg
    subst hP hw hK
    obtain ⟨xs, ys, hq1, hq2, hl⟩ := hg
    obtain ⟨its1, rv1, p1, hz1⟩ := I.list hq1
    obtain ⟨its2, rv2, p2, hz2⟩ := I.list hq2
    have l1 := rv1.length
    have l2 := rv2.length
    obtain ⟨hz, hTI, ⟨u, v, hTO⟩, h1, h2⟩ := st
    have hend : its1.toArray[i]? = none ∨ its2.toArray[i]? = none := by
      rcases hl with h | h
      · exact .inl (by simp; omega)
      · exact .inr (by simp; omega)
    refine wpAny_pyNext_zip_end (I.ok.hd hc) D hz hTI hTO h1 h2 p1.isList p2.isList hend fun h' kk => ⟨rfl, I.turned0 (ch := [z, TI, TO, i1, i2]) (t' := s.toks) (fun c o hn e => ?_) hf⟩
    simp only [List.mem_cons, List.not_mem_nil, or_false, not_or] at hn
    exact kk c o hn.1 hn.2.2.1 hn.2.2.2.1 hn.2.2.2.2 e
  self := fun _ _ _ _ _ st h => wpAny_pyIter_zip st.1 h
theorem bt_zip : bootBuiltins "zip" = some (.type "zip") := by decide +kernel
section
variable {X : Cx}
def iZip (K : PySem.W.Frag) (ta : TA) : TI := fun σ H R => ta σ H fun vs H1 => ∃ a b, vs = [.ref a, .ref b] ∧ (∃ xs, SqL K H1 a xs) ∧ (∃ ys, SqL K H1 b ys) ∧ R (Itz K a b) H1
theorem pi_zip {a b : Expr} {ta : TA} {p pos tpos : Pos} {elts : List Expr} {x1 : Nat} (hg : Gl X "zip") (hm : X.mg "zip" = none) (ha : PA X [a, b] ta) (hs : starEach [a, b] X.env = [(false, eval a X.env), (false, eval b X.env)] := by rfl)
    (hs2 : starEach [b] X.env = [(false, eval b X.env)] := by rfl) : PI X (.Tuple elts x1 tpos) (.Call (.Name "zip" p) [a, b] [] pos) (iZip X.K ta) := by
  intro pins s σ H R I h
  refine Call_ (ld_blt I hg hm bt_zip (PyProof.Rows.callWith_type1 (thn (ha pos pins s σ H _ I h) fun us s1 ⟨vs, H1, I1, r1, q1⟩ => ?_) (by rw [hs, hs2]) (by rw [hs2]; rfl)))
  obtain ⟨a, b, e, ⟨xs, hq1⟩, ⟨ys, hq2⟩, q⟩ := q1
  subst e
  obtain ⟨u, v, rfl, r, r'⟩ := vals2 r1
  obtain rfl : u = Value.ref a := r
  obtain rfl : v = Value.ref b := r'
  obtain ⟨its1, rv1, p1, hz1⟩ := I1.list hq1
  obtain ⟨its2, rv2, p2, hz2⟩ := I1.list hq2
  refine call_zip_2 p1.isList p2.isList fun h' z1 z2 z3 z4 z5 z6 kk => ?_
  have la : a < s1.heap.objs.size := by obtain ⟨_, e, _⟩ := p1.isList; exact Heap.lt_size e
  have lb : b < s1.heap.objs.size := by obtain ⟨_, e, _⟩ := p2.isList; exact Heap.lt_size e
  refine wpAny_pyIter_zip z1 ?_
  refine ⟨s1.heap.objs.size + 4, [s1.heap.objs.size + 4, s1.heap.objs.size + 2, s1.heap.objs.size + 3, s1.heap.objs.size, s1.heap.objs.size + 1], _, _, H1, rfl, I1.kept (t' := s1.toks) kk, turn_zip (zipApart_new la lb), ⟨z1, z2, ⟨_, _, z3⟩, z4, z5⟩, fun c hc => ?_, q⟩
  have hle : s1.heap.objs.size ≤ c := by
    simp only [List.mem_cons, List.not_mem_nil, or_false] at hc
    rcases hc with rfl | rfl | rfl | rfl | rfl
    · exact Nat.le_add_right _ _
    · exact Nat.le_add_right _ _
    · exact Nat.le_add_right _ _
    · exact Nat.le_refl _
    · exact Nat.le_add_right _ _
  exact I1.fpOk hle (I1.hok.fresh hle)
end
/-- over a zip of two lists that the turns leave as they are -/
theorem comp_zip {K : PySem.W.Frag} {a b : Addr} {xs ys : List V} {g : TG} {tt : TT} {te : TE} {D : Addr} {Q : Hp → Prop} {σ : St} {H : Hp} (Pv : Nat → List V → St → Hp → Prop) (h0 : Pv 0 [] σ H)
    (hl : ∀ i acc σ H, i ≤ min xs.length ys.length → Pv i acc σ H → SqL K H a xs ∧ SqL K H b ys)
    (hs : ∀ i x y p acc σ H, xs[i]? = some x → ys[i]? = some y → H p = none → Pv i acc σ H → g (.ref p) σ (upd H p (.tup [x, y])) fun σ2 H3 => tt σ2 H3 fun k H4 =>
      if k = true then te σ2 H4 fun v H5 => H5 D = some (.lst acc) ∧ acc.length < sizeLine ∧ Pv (i + 1) (acc ++ [v]) σ2 (upd H5 D (.lst (acc ++ [v]))) else Pv (i + 1) acc σ2 H4) (hd : ∀ acc σ H, Pv (min xs.length ys.length) acc σ H → Q H) :
    ∃ W : Nat → Nat → List V → St → Hp → Prop, (∃ m, W 0 m [] σ H) ∧ ∀ i m acc σ' H', W i m acc σ' H' → ((Itz K a b).stop i H' ∧ Q H') ∨
      ((Itz K a b).go i H' ∧ ∃ N : List V → St → Hp → Prop, (∀ acc' σ2 H4, N acc' σ2 H4 → ∃ m', m' < m ∧ W (i + 1) m' acc' σ2 H4) ∧ ∀ x H2, (Itz K a b).yld i H' x H2 → g x σ' H2 fun σ2 H3 => tt σ2 H3 fun k H4 =>
        if k = true then te σ2 H4 fun y H5 => H5 D = some (.lst acc) ∧ acc.length < sizeLine ∧ N (acc ++ [y]) σ2 (upd H5 D (.lst (acc ++ [y]))) else N acc σ2 H4) := by
  refine ⟨fun i m acc σ H => m = min xs.length ys.length - i ∧ i ≤ min xs.length ys.length ∧ Pv i acc σ H, ⟨_, rfl, Nat.zero_le _, h0⟩, ?_⟩
  rintro i m acc σ H ⟨rfl, hi, p⟩
  obtain ⟨q1, q2⟩ := hl i acc σ H hi p
  by_cases hlt : i < min xs.length ys.length
  · have h1 : i < xs.length := by omega
    have h2 : i < ys.length := by omega
    refine .inr ⟨⟨xs, ys, xs[i], ys[i], q1, q2, by simp [h1], by simp [h2]⟩, Pv (i + 1), fun acc' σ' H' p' => ⟨min xs.length ys.length - (i + 1), by omega, rfl, hlt, p'⟩, fun v H' y => ?_⟩
    obtain ⟨pp, x, y, hn, rfl, rfl, e1, e2⟩ := y
    exact hs i x y pp acc σ H (e1 xs q1) (e2 ys q2) hn p
  · have e : i = min xs.length ys.length := by omega
    subst e
    exact .inl ⟨⟨xs, ys, q1, q2, by omega⟩, hd acc σ H p⟩
end L2
namespace L2
open PySem PySem.Spec PyProof.Rows Mth

mutual
/-- the value v tells d -/
def Dn (K : PySem.W.Frag) (H : Hp) : PyData → V → Prop
  | .none, v => v = .non
  | .bool b, v => v = .bl b
  | .int i, v => v = .int i
  | .str x, v => v = .str x
  | .list ds, v => ∃ a xs, v = .ref a ∧ SqL K H a xs ∧ DnA K H ds xs
  | .tuple ds, v => ∃ a xs, v = .ref a ∧ SqT K H a xs ∧ DnA K H ds xs
  | .dict _, _ => False
def DnA (K : PySem.W.Frag) (H : Hp) : List PyData → List V → Prop
  | [], xs => xs = []
  | d :: ds, xs => ∃ x r, xs = x :: r ∧ Dn K H d x ∧ DnA K H ds r
end
/-- no list within -/
def flatD : PyData → Bool
  | .list _ => false
  | .dict _ => false
  | .tuple ds => ds.attach.all fun ⟨d, _⟩ => flatD d
  | _ => true
theorem flatD_tuple {ds : List PyData} : flatD (.tuple ds) = true ↔ ∀ d ∈ ds, flatD d = true := by
  rw [flatD, List.all_eq_true]
  constructor
  · intro h d hd
    exact h ⟨d, hd⟩ (List.mem_attach ..)
  · intro h x _
    exact h x.1 x.2
/-- the tuples stay -/
def TStay (K : PySem.W.Frag) (H H' : Hp) : Prop := ∀ a xs, SqT K H a xs → SqT K H' a xs
theorem TStay.refl {K : PySem.W.Frag} (H : Hp) : TStay K H H := fun _ _ h => h
theorem TStay.trans {K : PySem.W.Frag} {H H1 H2 : Hp} (a : TStay K H H1) (b : TStay K H1 H2) : TStay K H H2 := fun c xs h => b c xs (a c xs h)
theorem Same.ts {K : PySem.W.Frag} {H H' : Hp} (s : Same H H') : TStay K H H' := fun _ _ h => s.tup h
/-- an object that is no tuple is written -/
def noTup : HO → Bool
  | .tup _ => false
  | .frz _ _ => false
  | _ => true
theorem ts_upd {K : PySem.W.Frag} {H : Hp} {a : Addr} {o o' : HO} (h : H a = some o) (n : noTup o = true) : TStay K H (upd H a o') := fun b xs q => by
  have ne : ∀ u, H b = some u → noTup u = false → b ≠ a := fun u e z y => by
    subst y
    rw [h] at e
    cases e
    rw [n] at z
    cases z
  rcases q with (q | ⟨ob, q⟩) | q
  · exact .inl (.inl (by rw [upd_ne (ne _ q rfl)]; exact q))
  · exact .inl (.inr ⟨ob, by rw [upd_ne (ne _ q rfl)]; exact q⟩)
  · exact .inr q
section
variable {K : PySem.W.Frag} {H H' : Hp}
mutual
theorem Dn.same (s : Same H H') : ∀ (d : PyData) {v : V}, Dn K H d v → Dn K H' d v
  | .none, _, h => by rw [Dn] at h ⊢; exact h
  | .bool _, _, h => by rw [Dn] at h ⊢; exact h
  | .int _, _, h => by rw [Dn] at h ⊢; exact h
  | .str _, _, h => by rw [Dn] at h ⊢; exact h
  | .list ds, _, h => by
    rw [Dn] at h ⊢
    obtain ⟨a, xs, e, q, r⟩ := h
    exact ⟨a, xs, e, s.seq q, DnA.same s ds r⟩
  | .tuple ds, _, h => by
    rw [Dn] at h ⊢
    obtain ⟨a, xs, e, q, r⟩ := h
    exact ⟨a, xs, e, s.tup q, DnA.same s ds r⟩
  | .dict _, _, h => by rw [Dn] at h; exact h.elim
theorem DnA.same (s : Same H H') : ∀ (ds : List PyData) {xs : List V}, DnA K H ds xs → DnA K H' ds xs
  | [], _, h => by rw [DnA] at h ⊢; exact h
  | d :: ds, _, h => by
    rw [DnA] at h ⊢
    obtain ⟨x, r, e, q, t⟩ := h
    exact ⟨x, r, e, Dn.same s d q, DnA.same s ds t⟩
end
mutual
theorem Dn.ts (s : TStay K H H') : ∀ (d : PyData) {v : V}, flatD d = true → Dn K H d v → Dn K H' d v
  | .none, _, _, h => by rw [Dn] at h ⊢; exact h
  | .bool _, _, _, h => by rw [Dn] at h ⊢; exact h
  | .int _, _, _, h => by rw [Dn] at h ⊢; exact h
  | .str _, _, _, h => by rw [Dn] at h ⊢; exact h
  | .list ds, _, f, _ => by rw [flatD] at f; cases f
  | .tuple ds, _, f, h => by
    rw [Dn] at h ⊢
    obtain ⟨a, xs, e, q, r⟩ := h
    exact ⟨a, xs, e, s _ _ q, DnA.ts s ds (flatD_tuple.mp f) r⟩
  | .dict _, _, _, h => by rw [Dn] at h; exact h.elim
theorem DnA.ts (s : TStay K H H') : ∀ (ds : List PyData) {xs : List V}, (∀ d ∈ ds, flatD d = true) → DnA K H ds xs → DnA K H' ds xs
  | [], _, _, h => by rw [DnA] at h ⊢; exact h
  | d :: ds, _, f, h => by
    rw [DnA] at h ⊢
    obtain ⟨x, r, e, q, t⟩ := h
    exact ⟨x, r, e, Dn.ts s d (f d List.mem_cons_self) q, DnA.ts s ds (fun d hd => f d (List.mem_cons_of_mem _ hd)) t⟩
end
theorem DnA.length : ∀ {ds : List PyData} {xs : List V}, DnA K H ds xs → xs.length = ds.length
  | [], _, h => by rw [DnA] at h; rw [h]; rfl
  | d :: ds, _, h => by
    rw [DnA] at h
    obtain ⟨x, r, rfl, _, t⟩ := h
    rw [List.length_cons, List.length_cons, DnA.length t]
theorem DnA.get : ∀ {ds : List PyData} {xs : List V} {i : Nat} {d : PyData}, DnA K H ds xs → ds[i]? = some d → ∃ x, xs[i]? = some x ∧ Dn K H d x
  | [], _, _, _, _, e => by simp at e
  | _ :: _, _, 0, _, h, e => by
    rw [DnA] at h
    obtain ⟨x, r, rfl, q, t⟩ := h
    simp at e
    subst e
    exact ⟨x, rfl, q⟩
  | _ :: ds, _, i + 1, d, h, e => by
    rw [DnA] at h
    obtain ⟨x, r, rfl, q, t⟩ := h
    obtain ⟨y, e1, e2⟩ := DnA.get (i := i) t (by simpa using e)
    exact ⟨y, by simpa using e1, e2⟩
theorem DnA.snoc : ∀ {ds : List PyData} {xs : List V} {d : PyData} {x : V}, DnA K H ds xs → Dn K H d x → DnA K H (ds ++ [d]) (xs ++ [x])
  | [], _, d, x, h, q => by
    rw [DnA] at h
    subst h
    exact ⟨x, [], rfl, q, rfl⟩
  | _ :: ds, _, d, x, h, q => by
    rw [DnA] at h
    obtain ⟨y, r, rfl, q', t⟩ := h
    exact ⟨y, r ++ [x], rfl, q', DnA.snoc t q⟩
theorem DnA.set : ∀ {ds : List PyData} {xs : List V} {i : Nat} {d : PyData} {x : V}, DnA K H ds xs → Dn K H d x → DnA K H (ds.set i d) (xs.set i x)
  | [], _, _, _, _, h, _ => by
    rw [DnA] at h
    subst h
    exact rfl
  | _ :: _, _, 0, d, x, h, q => by
    rw [DnA] at h
    obtain ⟨y, r, rfl, q', t⟩ := h
    exact ⟨x, r, rfl, q, t⟩
  | _ :: ds, _, i + 1, d, x, h, q => by
    rw [DnA] at h
    obtain ⟨y, r, rfl, q', t⟩ := h
    exact ⟨y, r.set i x, rfl, q', DnA.set t q⟩
theorem dn_nil : DnA K H [] [] := rfl
theorem dn_cons {d : PyData} {ds : List PyData} {x : V} {xs : List V} (a : Dn K H d x) (b : DnA K H ds xs) : DnA K H (d :: ds) (x :: xs) := ⟨x, xs, rfl, a, b⟩
theorem dn_int {i : Int} : Dn K H (.int i) (.int i) := rfl
theorem dn_bl {b : Bool} : Dn K H (.bool b) (.bl b) := rfl
theorem dn_tup {a : Addr} {xs : List V} {ds : List PyData} (h : SqT K H a xs) (r : DnA K H ds xs) : Dn K H (.tuple ds) (.ref a) := ⟨a, xs, rfl, h, r⟩
theorem dn_lst {a : Addr} {xs : List V} {ds : List PyData} (h : SqL K H a xs) (r : DnA K H ds xs) : Dn K H (.list ds) (.ref a) := ⟨a, xs, rfl, h, r⟩
/-- a fraction -/
abbrev frD (f : Int × Int) : PyData := .tuple [.int f.1, .int f.2]
theorem dn_fr {p : Addr} {f : Int × Int} (h : SqT K H p [.int f.1, .int f.2]) : Dn K H (frD f) (.ref p) := dn_tup h (dn_cons dn_int (dn_cons dn_int dn_nil))
theorem Dn.fr {v : V} {f : Int × Int} (h : Dn K H (frD f) v) : ∃ p, v = .ref p ∧ SqT K H p [.int f.1, .int f.2] := by
  obtain ⟨p, xs, e, q, x, r, e1, e2, y, r2, e3, e4, e5⟩ := h
  have e2 : x = V.int f.1 := e2
  have e4 : y = V.int f.2 := e4
  have e5 : r2 = [] := e5
  subst e1 e2 e3 e4 e5
  exact ⟨p, e, q⟩
theorem flat_fr (f : Int × Int) : flatD (frD f) = true := by simp [frD, flatD]
end
section
variable {X : Cx} {pins : List (Addr × Obj)} {σ : St} {H : Hp} {s : Shared}
mutual
theorem Inv.reads (I : Inv X pins σ H s) : ∀ (d : PyData) {v : V} {u : Value}, Dn X.K H d v → RelV v u → ∃ as, Reads s.heap u d as
  | .none, _, _, h, r => by
    have h : _ = V.non := h
    subst h
    obtain rfl := (show _ = Value.none from r)
    exact ⟨_, .none⟩
  | .bool b, _, _, h, r => by
    have h : _ = V.bl b := h
    subst h
    obtain rfl := (show _ = Value.bool b from r)
    exact ⟨_, .bool b⟩
  | .int i, _, _, h, r => by
    have h : _ = V.int i := h
    subst h
    obtain ⟨t, rfl⟩ := r
    exact ⟨_, .int i t⟩
  | .str x, _, _, h, r => by
    have h : _ = V.str x := h
    subst h
    obtain ⟨t, rfl⟩ := r
    exact ⟨_, .str x t⟩
  | .list ds, _, _, h, r => by
    obtain ⟨a, xs, rfl, q, t⟩ := h
    obtain rfl := (show _ = Value.ref a from r)
    obtain ⟨its, rv, p, _⟩ := I.list q
    obtain ⟨o, ho, hc, n, hd⟩ := p.isList
    obtain ⟨as, ra⟩ := Inv.readsAll I ds t rv
    exact ⟨_, .list ho hc hd (by simpa using ra)⟩
  | .tuple ds, _, _, h, r => by
    obtain ⟨a, xs, rfl, q, t⟩ := h
    obtain rfl := (show _ = Value.ref a from r)
    obtain ⟨its, rv, p, _⟩ := I.tuple q
    obtain ⟨o, ho, hc, n, hd⟩ := p
    obtain ⟨as, ra⟩ := Inv.readsAll I ds t rv
    exact ⟨_, .tuple ho hc hd (by simpa using ra)⟩
  | .dict _, _, _, h, _ => (show False from h).elim
theorem Inv.readsAll (I : Inv X pins σ H s) : ∀ (ds : List PyData) {xs : List V} {us : List Value}, DnA X.K H ds xs → Vals xs us → ∃ as, ReadsAll s.heap us ds as
  | [], _, _, h, r => by
    have h : _ = [] := h
    subst h
    obtain rfl := Vals.zero r
    exact ⟨_, .nil⟩
  | d :: ds, _, _, h, r => by
    obtain ⟨x, t, rfl, q, qt⟩ := h
    cases r with
    | cons r1 r2 =>
      obtain ⟨as, ra⟩ := Inv.reads I d q r1
      obtain ⟨bs, rb⟩ := Inv.readsAll I ds qt r2
      exact ⟨_, .cons ra rb⟩
end
def rEqD (K : PySem.W.Frag) : R2 := fun x y H Q => ∃ d e, Dn K H d x ∧ Dn K H e y ∧ SeqAt.shaped d = true ∧ SeqAt.shaped e = true ∧ Q (.bl (PyData.eqv d e)) H
def rNeD (K : PySem.W.Frag) : R2 := fun x y H Q => ∃ d e, Dn K H d x ∧ Dn K H e y ∧ SeqAt.shaped d = true ∧ SeqAt.shaped e = true ∧ Q (.bl (!PyData.eqv d e)) H
theorem op_eqD (hu : X.A.units + 64 < cLine) : OpR X (compareOp .Eq) (rEqD X.K) := by
  intro pins s σ H x y v u Q I rx ry h
  obtain ⟨d, e, h1, h2, s1, s2, q⟩ := h
  obtain ⟨as, r1⟩ := I.reads d h1 rx
  obtain ⟨bs, r2⟩ := I.reads e h2 ry
  exact eq_dataH r1 r2 s1 s2 hu ⟨.bl _, H, I, rfl, q⟩
/-- all(xs), any(xs) of a list of truths -/
theorem call_allB (hc : X.calm = true) : CallR X (.builtin "all") (fun xs H Q => ∃ (p : Addr) (bs : List Bool), xs = [.ref p] ∧ SqL X.K H p (bs.map V.bl) ∧ Q (.bl (bs.all id)) H) := by
  intro pins s σ H xs us Q I r h
  obtain ⟨p, bs, rfl, hq, q⟩ := h
  obtain ⟨u, rfl, r1⟩ : ∃ u, us = [u] ∧ RelV (.ref p) u := by
    cases r with
    | cons a b => cases b; exact ⟨_, rfl, a⟩
  obtain rfl : u = Value.ref p := r1
  obtain ⟨its, rv, pl, _⟩ := I.list hq
  have hl : p < s.heap.objs.size := by obtain ⟨_, e, _⟩ := pl.isList; exact Heap.lt_size e
  have hlen : its.length = bs.length := by rw [← rv.length, List.length_map]
  have hval : ∀ i v, its.toArray[i]? = some v → v = Value.bool (bs.getD i false) := fun i v e => by
    have e' : its[i]? = some v := by simpa using e
    have hi : i < bs.length := by rw [← hlen]; exact (List.getElem?_eq_some_iff.mp e').1
    obtain ⟨u, e2, r2⟩ := rv.get (i := i) (x := V.bl (bs[i])) (by simp [hi])
    rw [e'] at e2
    cases e2
    have r3 : v = Value.bool bs[i] := r2
    rw [r3]
    simp [hi]
  refine call_all_walk (wpAny_pyIter_list pl.isList ⟨s.heap.objs.size, _, _, _, _, _, fun i => bs.getD i false, rfl, Walks.list (by simpa using I.ok.hd hc) _ p (Nat.ne_of_lt hl) its.toArray, ⟨⟨_, Heap.get?_push_size _ rfl, rfl, rfl⟩, pl.isList.push _⟩, fun i v s' Q' E' hP hQ' => ?_, fun h' tk hk => ?_⟩)
  · rw [hval i v hP]
    exact wpAny_pure hQ'
  · have e : (List.range its.toArray.size).all (fun i => bs.getD i false) = bs.all id := by
      have : its.toArray.size = bs.length := by simpa using hlen
      rw [this, Bool.eq_iff_iff, List.all_eq_true, List.all_eq_true]
      constructor
      · intro h b hb
        obtain ⟨i, hi, rfl⟩ := List.getElem_of_mem hb
        have := h i (List.mem_range.mpr hi)
        simpa [hi] using this
      · intro h i hi
        have hi := List.mem_range.mp hi
        have := h _ (List.getElem_mem hi)
        simpa [hi] using this
    rw [e]
    exact ⟨.bl _, H, I.kept (t' := tk) fun b o z => hk b o (fun y => by
      have y : b = s.heap.objs.size := by simpa using y
      exact absurd (Heap.lt_size z) (by rw [y]; exact Nat.lt_irrefl _)) (Heap.get?_push_of_some _ z), rfl, q⟩
end
end L2
namespace L2
open PySem PySem.Spec PyProof.Rows Mth
section
variable {P : Program} {w : World} {K : PySem.W.Frag} {mg : Str → Option Value} {base : Heap} {x qual m : Str} {st : Stmt} {dV : Value} {f C : Addr} {fd : FuncData} {N ps : List Str} {k : Nat} {sp : Sp} {ds : List Value} {dvs : List V}
def MOk (P : Program) (w : World) (K : PySem.W.Frag) (mg : Str → Option Value) (base : Heap) (C : Addr) (m qual : Str) (st : Stmt) (dV : Value) (k : Nat) (ps : List Str) (sp : Sp) : Prop :=
  ∃ f fd, Meth K C m f ∧ FunD K m qual st dV f fd ∧ FnOk P w K mg base CX0 k f fd ps sp
def MDefE (P : Program) (w : World) (K : PySem.W.Frag) (mg : Str → Option Value) (base : Heap) (C : Addr) (m : Str) (k : Nat) (ps : List Str) (dvs : List V) (sp : Sp) : Prop :=
  ∃ ds, Vals dvs ds ∧ MDef P w K mg base C m k ps ds sp
def DOk (P : Program) (w : World) (K : PySem.W.Frag) (mg : Str → Option Value) (base : Heap) (x : Str) (st : Stmt) (dV : Value) (k : Nat) (ps : List Str) (sp : Sp) : Prop :=
  ∃ f fd, mg x = some (.ref f) ∧ FunD K x x st dV f fd ∧ FnOk P w K mg base CX0 k f fd ps sp
def DefE (P : Program) (w : World) (K : PySem.W.Frag) (mg : Str → Option Value) (base : Heap) (x : Str) (k : Nat) (ps : List Str) (dvs : List V) (sp : Sp) : Prop :=
  ∃ ds, Vals dvs ds ∧ DefD P w K mg base x k ps ds sp
end
section
variable {X : Cx} {C : Addr} {m x : Str} {p pos apos : Pos} {e o : Expr} {es : List Expr} {ta : TE} {t : TA} {k : Nat} {ps : List Str} {sp : Sp} {dvs : List V}
end
end L2
namespace L2
open PySem PySem.Spec PyProof.Rows Mth
theorem pg_tupK {X : Cx} {K : PySem.W.Frag} {es : List Expr} {k : Nat} {pos : Pos} {t : TGs} {n : Nat} (hK : X.K = K) (hc : X.calm = true) (h : PGs X es t)
    (hn : (assignEach es X.env).length = n := by rfl) (hst : (assignEach es X.env).findIdx? (·.1) = none := by rfl) : PG X (.Tuple es k pos) (gTup K n t) := by
  subst hK
  exact pg_tup hc h hn hst
end L2
namespace PySem
open Sem (wp)
section
variable {prog : Program} {w : World} {K : Type} [DecidableEq K] {knd : KeyKind prog w K} {A : Around} {E : Value → Shared → Prop} {s : Shared}
end
end PySem
namespace L2
open PySem PySem.Spec PyProof.Rows Mth
section
variable {X : Cx} {pins : List (Addr × Obj)} {σ : St} {H : Hp} {s : Shared} {a : Addr} {kvs : List (List Key × V)} {A : Around} {E : Value → Shared → Prop}
end
end L2
namespace L2
open PySem PySem.Spec PyProof.Rows Mth
section
variable {X : Cx}
theorem ps_comp {elt tg iter : Expr} {yi : Nat} {y : Str} {py spos : Pos} {ifs : List Expr} {scope : Scope} {pos : Pos} {wi : TI} {g : TG} {tt : TT} {te : TE} {N' : List Str} {nt : Nat} {sl : List Nat}
    (hc : X.calm = true) (hi : PI X tg iter wi) (hg : ∀ cl C s H ex, PG (cxComp X N' scope cl C s H ex) tg g) (ht : ∀ cl C s H ex, PIf (cxComp X N' scope cl C s H ex) ifs tt) (he : ∀ cl C s H ex, PE (cxComp X N' scope cl C s H ex) elt te)
    (hN' : N'.length = nt + sl.length) (hsl : ∀ k j : Nat, sl[k]? = some j → ∃ x, N'[nt + k]? = some x ∧ X.N[j]? = some x ∧ scope.names.lookup x = some .free)
    (hk : scope.kind = .function) (hcell : ∀ y ∈ scope.names, y.2 ≠ .cell) (hnames : ∀ y ∈ scope.names, y.2 = .local → scope.names.lookup y.1 = some .local)
    (hfree : ∀ y ∈ scope.names, y.2 = .free → X.env.kindOf y.1 = some .cell ∨ X.env.kindOf y.1 = some .free)
    (hN : X.N.Nodup) (hyi : X.N[yi]? = some y) (hy : Loc X.env.scope y) (hf : X.fn y = true ∨ X.env.scope.names.lookup y = some .local)
    (hsw : swapsWith (.ListComp elt [⟨tg, iter, ifs, 0⟩] scope pos) (some (.Name y py)) spos.line X.env = pure true)
    (hs : ∀ x, foldedSetIterable iter X.env x = pure x := by intro _; rfl) :
    PS X (.Assign [.Name y py] (.ListComp elt [⟨tg, iter, ifs, 0⟩] scope pos) spos) (tAsg (tComp wi g tt te nt sl) (gName yi)) := by
  intro pins s σ H DD I h
  have hcl : ∀ y ∈ scope.names, y.2 = .free → ∃ c, X.env.cells.lookup y.1 = some c := fun y hy hf => I.ok.has y.1 (hfree y hy hf)
  have csub := closL_sub (env := X.env) (names := scope.names) (acc := []) hcl (fun x c e => by simp at e)
  rw [exec_Assign_Name_used _ _ _ _ hsw]
  refine wpAny_bind (wpAny_standAt (wpAny_bind ?_))
  show wpAny _ X.A (do let _ ← comprehension (.ListComp elt [⟨tg, iter, ifs, 0⟩] scope pos) scope X.env _ (newList []) false (eval iter X.env) (some (assign (.Name y py) X.env))) _ _ s
  refine wpAny_bind (wpAny_mono (wpAny_comprehension_free (use := some (assign (.Name y py) X.env)) (Q := fun _ s' => SP X pins DD .next s') (cl := closL X.env scope.names []) rfl hs (clos_eq hcl) hk hnames (thn (hi pins s σ H _ I h) fun v s1 h1 => thn h1 fun itv s2 h2 => ?_))
    (fun _ s' hq => wpAny_pure (wpAny_pure hq)) fun _ _ e => e)
  obtain ⟨it, fp, tn, J, H2, rfl, I2, T, st2, f2, q⟩ := h2
  have nD : H2 s2.heap.objs.size = none := I2.hok.fresh (Nat.le_refl _)
  obtain ⟨W, ⟨m0, w0⟩, turn⟩ := q s2.heap.objs.size nD
  refine wpAny_newObj_type ?_ (by show 0 ≤ sizeLine; exact Nat.zero_le _)
  have I3 : Inv X pins σ (upd H2 s2.heap.objs.size (.lst [])) { s2 with heap := s2.heap.push { cls := .type "list", data := .seq ([] : List Value).toArray } } :=
    I2.laid (t' := s2.toks) (fun b u e => Heap.get?_push_of_some _ e) (Nat.le_refl _) ⟨Nat.zero_le _, [], 0, .nil, Heap.get?_push_size _ rfl⟩
  generalize hs3 : ({ s2 with heap := s2.heap.push { cls := .type "list", data := .seq ([] : List Value).toArray } } : Shared) = s3 at I3 ⊢
  have hle : s2.heap.objs.size ≤ s3.heap.objs.size := by rw [← hs3]; show _ ≤ (Heap.push _ _).objs.size; rw [Heap.size_push]; exact Nat.le_succ _
  have hkeep23 : ∀ b o, s2.heap.get? b = some o → s3.heap.get? b = some o := fun b o e => by rw [← hs3]; exact Heap.get?_push_of_some _ e
  refine wpAny_newFunctionEnv hcell (by intro y hy; simp at hy) (fun h₁ hns hsb => ?_) hk
  have keep1 : ∀ b o, s3.heap.get? b = some o → h₁.get? b = some o := fun b o e => hsb.extBut b o (Nat.ne_of_lt (Heap.lt_size e)) (Heap.get?_push_of_some _ e)
  have nC : (upd H2 s2.heap.objs.size (.lst [])) s3.heap.objs.size = none := I3.hok.fresh (Nat.le_refl _)
  have frC : s3.heap.get? s3.heap.objs.size = none := Heap.get?_none_of_le (Nat.le_refl _)
  -- the iterator's objects
  have fpIn : ∀ b ∈ fp, b < s2.heap.objs.size := fun b hb => by
    obtain ⟨o, e, _⟩ := T.obj _ _ st2 b hb
    exact Heap.lt_size e
  have fpC : ∀ b ∈ fp, b ≠ s3.heap.objs.size := fun b hb => Nat.ne_of_lt (Nat.lt_of_lt_of_le (fpIn b hb) hle)
  have fpD : ∀ b ∈ fp, b ≠ s2.heap.objs.size := fun b hb => Nat.ne_of_lt (fpIn b hb)
  have fpS : ∀ b ∈ fp, b ∉ frs X.stack := fun b hb hm => by
    rcases List.mem_cons.mp (I2.stkSub b hm) with z | z
    · exact (f2 b hb).2.1 z
    · exact (f2 b hb).2.2.1 z
  have csub' : ∀ x c, (closL X.env scope.names []).lookup x = some c → X.env.cells.lookup x = some c := csub
  have hch : ∀ b ∈ fp, (b ∈ X.ex ∨ X.s₀.heap.objs.size ≤ b) ∧ b ≠ X.env.locals ∧ (∀ x c, X.env.cells.lookup x = some c → c ≠ b) ∧ ∀ p ∈ X.pn ++ pins, p.1 ≠ b := fun b hb =>
    ⟨(f2 b hb).2.2.2.1, (f2 b hb).2.1, (f2 b hb).2.2.2.2.1, (f2 b hb).2.2.2.2.2⟩
  -- the block's context
  have ok' : (cxComp X N' scope (closL X.env scope.names []) s3.heap.objs.size s3 (upd H2 s2.heap.objs.size (.lst [])) fp).Ok := by
    refine ⟨I3.ok.mod, hk, I3.ok.glob, I3.ok.blt, Nat.le_refl _, fun x y c h1 h2 => I3.ok.inj x y c (csub x c h1) (csub y c h2), fun x hx => ?_, (fun x c hf => nomatch hf), I3.ok.hd, I3.ok.frames, .inl rfl, fun b hb => ⟨fpC b hb, fun x c e => (hch b hb).2.2.1 x c (csub x c e)⟩,
      I3.bs, Nat.le_trans I3.ok.bsz I3.sz, fun b o e hb => ?_, fpS, I3.stack, I3.stkFree⟩
    · have hm : (x, NameKind.free) ∈ scope.names := by
        rcases hx with hx | hx
        · exact relabel_of hx (.inl rfl) hcell
        · exact relabel_of hx (.inr rfl) hcell
      exact closL_has hm rfl
    · rcases (hch b hb).1 with z | z
      · exact I3.ok.noex b o e z
      · exact absurd (Nat.lt_of_lt_of_le (Heap.lt_size (I3.ok.bs b o e).1) z) (Nat.lt_irrefl _)
  have I4 : Inv (cxComp X N' scope (closL X.env scope.names []) s3.heap.objs.size s3 (upd H2 s2.heap.objs.size (.lst [])) fp) [] (List.replicate nt none ++ sl.map fun j => (σ[j]?).join) (upd H2 s2.heap.objs.size (.lst []))
      { s3 with heap := h₁, toks := s3.toks + ([] : List (Str × Value)).length } := by
    refine ⟨ok', rfl, I3.bare, Un.kept keep1, ⟨_, hns, fun i x v e1 e2 e3 => ?_⟩, fun x c e => ?_, nC, fun x c e => I3.freeC x c (csub x c e), fun p hp => absurd hp (by simp [cxComp]), I3.hok.kept keep1, ?_⟩
    · by_cases hi : i < nt
      · rw [List.getElem?_append_left (by simpa using hi), List.getElem?_replicate] at e2
        split at e2 <;> cases e2
      · rw [List.getElem?_append_right (by simpa using hi), List.length_replicate, List.getElem?_map] at e2
        cases ej : sl[i - nt]? with
        | none => rw [ej] at e2; cases e2
        | some j =>
          rw [ej] at e2
          have e2' : (σ[j]?).join = some v := Option.some.inj e2
          have eσ : σ[j]? = some (some v) := by
            cases q : σ[j]? with
            | none => rw [q] at e2'; cases e2'
            | some o => rw [q] at e2'; cases e2'; rfl
          obtain ⟨y, n1, n2, n3⟩ := hsl _ j ej
          have : nt + (i - nt) = i := by omega
          rw [this] at n1
          have exy : y = x := Option.some.inj (n1.symm.trans e1)
          subst exy
          have hm : (y, NameKind.free) ∈ scope.names := PySem.mem_of_lookup n3
          have hkx := hfree _ hm rfl
          obtain ⟨m, hn, hl⟩ := I3.loc
          have vis : Vis X.env.scope y := by
            rcases hkx with z | z
            · exact .inr (.inl z)
            · exact .inr (.inr z)
          obtain ⟨u, r, l⟩ := hl j y v n2 eσ vis
          refine ⟨u, r, .inr ⟨lookup_relabel_free n3, ?_⟩⟩
          obtain ⟨c, ec⟩ := closL_has (env := X.env) (acc := []) hm rfl
          refine ⟨c, ec, ?_⟩
          rcases l with ⟨k1, _⟩ | ⟨_, c', e', hcell'⟩
          · rcases hkx with z | z
            · rw [show X.env.kindOf y = some .local from k1] at z; cases z
            · rw [show X.env.kindOf y = some .local from k1] at z; cases z
          · have ecc : c = c' := Option.some.inj ((csub y c ec).symm.trans e')
            subst ecc
            obtain ⟨o, ho, hd⟩ := hcell'
            exact ⟨o, keep1 c o ho, hd⟩
    · obtain ⟨v, o, ho, hd⟩ := I3.cell x c (csub x c e)
      exact ⟨v, o, keep1 c o ho, hd⟩
    · show _ = N'.length
      rw [hN', List.length_append, List.length_replicate, List.length_map]
  have st4 : tn 0 h₁ := T.keep _ _ _ st2 fun b hb o e => keep1 b o (hkeep23 b o e)
  have fpok : ∀ {pl : List (Addr × Obj)} {H' : Hp}, pl = [] → (∀ b ∈ fp, H' b = none) → ∀ b ∈ fp, FpOk (cxComp X N' scope (closL X.env scope.names []) s3.heap.objs.size s3 (upd H2 s2.heap.objs.size (.lst [])) fp) pl H' b := fun {pl H'} hpl hn b hb => by
    subst hpl
    exact ⟨hn b hb, fpC b hb, fpS b hb, .inl hb, fun x c e => (hch b hb).2.2.1 x c (csub x c e), fun p hp => absurd hp (by simp [cxComp])⟩
  have fr4 : ∀ b ∈ fp, (upd H2 s2.heap.objs.size (.lst [])) b = none := fun b hb => by rw [upd_ne (fpD b hb)]; exact (f2 b hb).1
  have loop : codeAny (model X.prog X.w) X.A (.compLoop (.ListComp elt [⟨tg, iter, ifs, 0⟩] scope pos) 0 (.ref it) (.ref s2.heap.objs.size) (compEnvC scope (closL X.env scope.names []) s3.heap.objs.size X.env))
      (compPost (model X.prog X.w) X.A X.xe (some (assign (.Name y py) X.env)) (fun _ s' => SP X pins DD .next s') (.ref s2.heap.objs.size) s3.heap.objs.size) { s3 with heap := h₁, toks := s3.toks + ([] : List (Str × Value)).length } := by
    refine compLoop_go (fun n s' => ∃ i acc σ' H', Inv (cxComp X N' scope (closL X.env scope.names []) s3.heap.objs.size s3 (upd H2 s2.heap.objs.size (.lst [])) fp) [] σ' H' s' ∧ tn i s'.heap ∧ (∀ b ∈ fp, H' b = none) ∧ W i n acc σ' H') ?_ m0 ⟨0, [], _, _, I4, st4, fr4, w0⟩
    rintro n s5 ⟨i, acc, σ5, H5, I5, st5, fr5, w5⟩
    rcases turn i n acc σ5 H5 w5 with ⟨stop, qn⟩ | ⟨go, N, hN, step⟩
    · refine thn (T.done (cxComp X N' scope (closL X.env scope.names []) s3.heap.objs.size s3 (upd H2 s2.heap.objs.size (.lst [])) fp) rfl rfl rfl hc i [] s5 σ5 H5 _ I5 (fpok rfl fr5) st5 stop) fun r s6 ⟨hr, I6⟩ => ?_
      subst hr
      obtain ⟨m, hn, _⟩ := id I6.loc
      have J6 : Inv X pins σ H5 s6 := I3.call' (s' := s6) I6.os I6.base I6.hok I6.bare hch
      have fC : FpOk X pins H5 s3.heap.objs.size := I3.fpOk (Nat.le_refl _) I6.free
      refine wpAny_assign_Name (store_ok2 (v := .ref s2.heap.objs.size) J6 hN hyi hy rfl (fun s7 I7 ⟨a, sb7, ha⟩ => ?_) hf)
      have na : s3.heap.objs.size ≠ a := fun z => by
        rcases ha with q | q
        · exact fC.2.1 (z.trans q)
        · exact fC.2.2.2.2.1 _ a q z.symm
      refine ⟨m, ?_, fun h' sb => ?_⟩
      · obtain ⟨o, es, ep, ho, r⟩ := hn
        exact ⟨o, es, ep, (sb7.2 _ na).trans ho, r⟩
      · exact ⟨_, H5, I7.turned0 (ch := [s3.heap.objs.size]) (t' := s7.toks) (fun b u hb q => (sb.2 b (fun z => hb (List.mem_singleton.mpr z))).trans q) (fun b hb => by rw [List.mem_singleton.mp hb]; exact fC), qn⟩
    · refine thn (T.item (cxComp X N' scope (closL X.env scope.names []) s3.heap.objs.size s3 (upd H2 s2.heap.objs.size (.lst [])) fp) rfl rfl rfl hc i [] s5 σ5 H5 _ I5 (fpok rfl fr5) st5 go) fun r s6 ⟨u, hr, h6⟩ => ?_
      subst hr
      refine thn h6 fun _ s7 ⟨x, H7, I7, r7, y7, st7, fr7⟩ => ?_
      have I7' := I7.pinned (fpok rfl fr7) (T.obj _ _ st7)
      have again : ∀ {s8 : Shared} {σ8 : St} {H8 : Hp} {acc' : List V}, Inv (cxComp X N' scope (closL X.env scope.names []) s3.heap.objs.size s3 (upd H2 s2.heap.objs.size (.lst [])) fp) ([] ++ pinsAt fp s7.heap) σ8 H8 s8 → (∃ m', m' < n ∧ W (i + 1) m' acc' σ8 H8) →
          ∃ m, m < n ∧ ∃ i acc σ' H', Inv (cxComp X N' scope (closL X.env scope.names []) s3.heap.objs.size s3 (upd H2 s2.heap.objs.size (.lst [])) fp) [] σ' H' s8 ∧ tn i s8.heap ∧ (∀ b ∈ fp, H' b = none) ∧ W i m acc σ' H' := fun {s8 σ8 H8 acc'} I8 ⟨m', hm, w8⟩ => by
        refine ⟨m', hm, i + 1, acc', σ8, H8, I8.unpinned, T.keep _ _ _ st7 fun b hb o e => (I8.pin (b, o) (List.mem_append_right _ (List.mem_append_right _ (mem_pinsAt hb e)))).1, fun b hb => ?_, w8⟩
        obtain ⟨o, e, d⟩ := T.obj _ _ st7 b hb
        exact (I8.pin (b, o) (List.mem_append_right _ (List.mem_append_right _ (mem_pinsAt hb e)))).2.1
      refine wpAny_mono (hg _ _ _ _ _ _ s7 σ5 H7 x u _ I7' r7 (step x H7 y7)) (fun _ s8 ⟨σ8, H8, I8, q8⟩ => ?_) fun _ _ z => False.elim z
      refine wpAny_mono (ht _ _ _ _ _ _ s8 σ8 H8 _ I8 q8) (fun ok s9 ⟨H9, I9, q9⟩ => ?_) fun _ _ z => False.elim z
      cases ok with
      | false =>
        rw [if_neg Bool.false_ne_true] at q9 ⊢
        exact again I9 (hN _ _ _ q9)
      | true =>
        rw [if_pos rfl] at q9 ⊢
        refine wpAny_mono (he _ _ _ _ _ _ s9 σ8 H9 _ I9 q9) (fun y s10 ⟨yv, H10, I10, r10, hD, hz, q10⟩ => ?_) fun _ _ z => False.elim z
        refine wpAny_mono (mt_append (X := (cxComp X N' scope (closL X.env scope.names []) s3.heap.objs.size s3 (upd H2 s2.heap.objs.size (.lst [])) fp)) _ s10 σ8 H10 (.ref s2.heap.objs.size) [yv] (.ref s2.heap.objs.size) [y] (fun _ H11 => N (acc ++ [yv]) σ8 H11) I10 rfl (.cons r10 .nil) ⟨_, acc, yv, rfl, rfl, hD, hz, q10⟩) (fun _ s11 ⟨v11, H11, I11, r11, q11⟩ => ?_) fun _ _ z => False.elim z
        exact again I11 (hN _ _ _ q11)
  exact codeAny_compStart_list loop (T.self _ 0 _ _ _ st4 loop)

theorem ps_lc {elt tg iter : Expr} {yi : Nat} {y : Str} {py spos : Pos} {ifs : List Expr} {scope : Scope} {pos : Pos} {wi : TI} {g : TG} {tt : TT} {te : TE} (tn fr : List Str) (sl : List Nat)
    (hp : Paired (fun (j : Nat) (x : Str) => X.N[j]? = some x ∧ scope.names.lookup x = some .free ∧ (X.env.kindOf x = some .cell ∨ X.env.kindOf x = some .free)) sl fr)
    (hc : X.calm = true) (hi : PI X tg iter wi) (hg : ∀ cl C s H ex, PG (cxComp X (tn ++ fr) scope cl C s H ex) tg g) (ht : ∀ cl C s H ex, PIf (cxComp X (tn ++ fr) scope cl C s H ex) ifs tt) (he : ∀ cl C s H ex, PE (cxComp X (tn ++ fr) scope cl C s H ex) elt te)
    (hk : scope.kind = .function) (hcell : ∀ y ∈ scope.names, y.2 ≠ .cell) (hnames : ∀ y ∈ scope.names, y.2 = .local → scope.names.lookup y.1 = some .local)
    (hfree : ∀ y ∈ scope.names, y.2 = .free → y.1 ∈ fr)
    (hN : X.N.Nodup) (hyi : X.N[yi]? = some y) (hy : Loc X.env.scope y) (hsw : swapsWith (.ListComp elt [⟨tg, iter, ifs, 0⟩] scope pos) (some (.Name y py)) spos.line X.env = pure true)
    (hf : X.fn y = true ∨ X.env.scope.names.lookup y = some .local := by first | exact .inl rfl | exact .inr rfl | assumption)
    (hs : ∀ x, foldedSetIterable iter X.env x = pure x := by intro _; rfl) :
    PS X (.Assign [.Name y py] (.ListComp elt [⟨tg, iter, ifs, 0⟩] scope pos) spos) (tAsg (tComp wi g tt te tn.length sl) (gName yi)) := by
  have key : ∀ {sl : List Nat} {fr : List Str}, Paired (fun (j : Nat) (x : Str) => X.N[j]? = some x ∧ scope.names.lookup x = some .free ∧ (X.env.kindOf x = some .cell ∨ X.env.kindOf x = some .free)) sl fr →
      (∀ k j : Nat, sl[k]? = some j → ∃ x, fr[k]? = some x ∧ X.N[j]? = some x ∧ scope.names.lookup x = some .free) ∧ ∀ x ∈ fr, X.env.kindOf x = some .cell ∨ X.env.kindOf x = some .free := by
    intro sl fr hp
    induction hp with
    | nil => exact ⟨fun k j h => by simp at h, fun x hx => by simp at hx⟩
    | cons r t ih =>
      refine ⟨fun k j h => ?_, fun x hx => ?_⟩
      · cases k with
        | zero =>
          have e : _ = j := Option.some.inj h
          subst e
          exact ⟨_, rfl, r.1, r.2.1⟩
        | succ k => exact ih.1 k j (by simpa using h)
      · rcases List.mem_cons.mp hx with z | z
        · rw [z]; exact r.2.2
        · exact ih.2 x z
  refine ps_comp (N' := tn ++ fr) hc hi hg ht he (by rw [List.length_append, hp.length]) (fun k j h => ?_) hk hcell hnames (fun y hy hf => (key hp).2 _ (hfree y hy hf)) hN hyi hy hf hsw hs
  obtain ⟨x, e1, e2⟩ := (key hp).1 k j h
  exact ⟨x, by rw [List.getElem?_append_right (Nat.le_add_right _ _), Nat.add_sub_cancel_left]; exact e1, e2⟩
end
end L2
namespace L2
open PySem PySem.Spec PyProof.Rows Mth
abbrev Fra := Int × Int
structure HoldM where
  most : Int
  cap : Int
  load : Int
  rows : List (List Fra)
  flows : Int → Int → Option Fra
  skies : List (Fra × Fra × Fra)
  stoves : List (Option (Fra × Int × Int × Int))
abbrev skyD (s : Fra × Fra × Fra) : PyData := .tuple [frD s.1, frD s.2.1, frD s.2.2]
abbrev stoveD : Option (Fra × Int × Int × Int) → PyData
  | none => .none
  | some s => .tuple [frD s.1, .int s.2.1, .int s.2.2.1, .int s.2.2.2]
abbrev rowD (r : List Fra) : PyData := .tuple (r.map frD)
def hfs (m : HoldM) (pm pf ps pt : Addr) : List (Str × V) :=
  [("most", .int m.most), ("cap", .int m.cap), ("load", .int m.load), ("mark_rows", .ref pm), ("flows", .ref pf), ("skies", .ref ps), ("stoves", .ref pt)]
section
variable (m : HoldM) (pm pf ps pt : Addr)
end
def FlowIs (K : PySem.W.Frag) (H : Hp) : Option Fra → Option V → Prop
  | none, none => True
  | some f, some v => Dn K H (frD f) v
  | _, _ => False
abbrev fkey (i j : Int) : List Key := [.inl i, .inl j]
/-- keys of flows: pairs of room numbers, each once -/
def FKeys (kvs : List (List Key × V)) : Prop := (kvs.map (·.1)).Nodup ∧ ∀ p ∈ kvs, ∃ i j : Nat, i < 4 ∧ j < 4 ∧ p.1 = fkey i j
end L2
namespace Mth
/-- a fraction in lowest terms -/
def nf (t b : Int) : Int × Int := (t.fdiv (Int.gcd t b : Nat), b.fdiv (Int.gcd t b : Nat))
theorem dvd_cop {r q s : Int} (h : r ∣ q * s) (c : Int.gcd q r = 1) : r ∣ s := by
  have h1 : r.natAbs ∣ q.natAbs * s.natAbs := by rw [← Int.natAbs_mul]; exact Int.natAbs_dvd_natAbs.mpr h
  have h2 : Nat.Coprime r.natAbs q.natAbs := by rw [Nat.coprime_comm]; exact c
  exact Int.natAbs_dvd_natAbs.mp (Nat.Coprime.dvd_of_dvd_mul_left h2 h1)
theorem Fr.uniq {t b q r q' r' : Int} (hb : b ≠ 0) (h : Fr t b q r) (k : Fr t b q' r') : q = q' ∧ r = r' := by
  have e : q * r' = q' * r := by
    have e1 : (q * r') * b = (q' * r) * b := by
      have a1 := h.cross
      have a2 := k.cross
      calc (q * r') * b = (q * b) * r' := by rw [Int.mul_right_comm]
        _ = (t * r) * r' := by rw [a1]
        _ = (t * r') * r := by rw [Int.mul_right_comm]
        _ = (q' * b) * r := by rw [a2]
        _ = (q' * r) * b := by rw [Int.mul_right_comm]
    exact Int.eq_of_mul_eq_mul_right hb e1
  have d1 : r ∣ r' := by
    have : r ∣ q * r' := ⟨q', by rw [e, Int.mul_comm]⟩
    exact dvd_cop this h.cop
  have d2 : r' ∣ r := by
    have : r' ∣ q' * r := ⟨q, by rw [← e, Int.mul_comm]⟩
    exact dvd_cop this k.cop
  have er : r = r' := Int.dvd_antisymm (Int.le_of_lt h.pos) (Int.le_of_lt k.pos) d1 d2
  subst er
  exact ⟨Int.eq_of_mul_eq_mul_right (Int.ne_of_gt h.pos) e, rfl⟩
theorem nf_fr {t b : Int} (hb : 0 < b) : Fr t b (nf t b).1 (nf t b).2 := (fr_of (Int.ne_of_gt hb) rfl).2.2.1 hb
theorem Fr.nf {t b q r : Int} (hb : 0 < b) (h : Fr t b q r) : (q, r) = nf t b := by
  obtain ⟨e1, e2⟩ := h.uniq (Int.ne_of_gt hb) (nf_fr hb)
  rw [e1, e2]
def plusM (x y : Int × Int) : Int × Int := nf (x.1 * y.2 + y.1 * x.2) (x.2 * y.2)
def minusM (x y : Int × Int) : Int × Int := nf (x.1 * y.2 - y.1 * x.2) (x.2 * y.2)
def underM (x y : Int × Int) : Bool := decide (x.1 * y.2 < y.1 * x.2)
/-- top and bottom below 2 ^ n, the bottom above nought -/
structure OkF (n : Nat) (f : Int × Int) : Prop where
  t : Bd n f.1
  b : Bd n f.2
  p : 0 < f.2
theorem OkF.mono {m n : Nat} {f : Int × Int} (h : OkF m f) (l : m ≤ n) : OkF n f := ⟨h.t.mono l, h.b.mono l, h.p⟩
theorem OkF.minus {m n : Nat} {x y : Int × Int} (h : OkF m x) (k : OkF n y) : OkF (m + n + 1) (minusM x y) := by
  have F := nf_fr (t := x.1 * y.2 - y.1 * x.2) (b := x.2 * y.2) (Int.mul_pos h.p k.p)
  have b1 : Bd (m + n) (x.1 * y.2) := h.t.mul k.b
  have b2 : Bd (m + n) (y.1 * x.2) := by rw [Nat.add_comm]; exact k.t.mul h.b
  exact ⟨F.bdq (b1.sub b2), F.bdr ((h.b.mul k.b).mono (Nat.le_succ _)), F.pos⟩
theorem ok01 : OkF 100 (0, 1) := ⟨(by decide : (_ : Int).natAbs < _), (by decide : (_ : Int).natAbs < _), by decide⟩
theorem ok11 : OkF 100 (1, 1) := ⟨(by decide : (_ : Int).natAbs < _), (by decide : (_ : Int).natAbs < _), by decide⟩
end Mth
namespace L2
open PySem PySem.Spec PyProof.Rows Mth
structure HoldM.Wf (m : HoldM) : Prop where
  rows : ∀ r ∈ m.rows, ∀ f ∈ r, OkF 100 f
  len : ∀ r ∈ m.rows, 2 ≤ r.length ∧ r.length ≤ 7
  flows : ∀ i j f, m.flows i j = some f → OkF 100 f
  skies : ∀ s ∈ m.skies, OkF 100 s.1 ∧ OkF 100 s.2.1 ∧ OkF 100 s.2.2
  stoves : ∀ x, some x ∈ m.stoves → OkF 100 x.1
/-- a hold at a: its own objects fp -/
structure HoldAt (K : PySem.W.Frag) (C : Addr) (H : Hp) (a : Addr) (fp : List Addr) (m : HoldM) : Prop where
  ex : ∃ dx pm pf ps pt vm vs vt kvs, fp = [a, dx, pm, pf, ps, pt] ∧ H a = some (.ins C dx (hfs m pm pf ps pt)) ∧ H dx = some (.own a) ∧ H pm = some (.lst vm) ∧ H pf = some (.dT kvs) ∧ H ps = some (.lst vs) ∧ H pt = some (.lst vt) ∧
    pm ≠ ps ∧ pm ≠ pt ∧ ps ≠ pt ∧ DnA K H (m.rows.map rowD) vm ∧ DnA K H (m.skies.map skyD) vs ∧ DnA K H (m.stoves.map stoveD) vt ∧ (∀ i j, FlowIs K H (m.flows i j) (valV kvs (fkey i j))) ∧ FKeys kvs
  sk : m.skies.length = m.rows.length
  st : m.stoves.length = m.rows.length
  mx : m.rows.length ≤ 4
  wf : m.Wf
def But (fp : List Addr) (H H' : Hp) : Prop := ∀ b o, H b = some o → b ∉ fp → H' b = some o
def HoldM.flow (m : HoldM) (i j : Nat) : Fra := (m.flows i j).getD (0, 1)
def HoldM.skyS (m : HoldM) (i : Nat) : Fra := ((m.skies[i]?).map (·.1)).getD (0, 1)
def HoldM.ownTo (m : HoldM) (i n : Nat) : Fra := (List.range n).foldl (fun acc j => minusM acc (m.flow i j)) (minusM (1, 1) (m.skyS i))
def HoldM.own (m : HoldM) (i : Nat) : Fra := m.ownTo i m.rows.length
def HoldM.share (m : HoldM) (i j : Nat) : Fra := if i = j then m.own i else m.flow i j
theorem HoldM.Wf.flow {m : HoldM} (w : m.Wf) (i j : Nat) : OkF 100 (m.flow i j) := by
  unfold HoldM.flow
  cases e : m.flows i j with
  | none => exact ok01
  | some f => exact w.flows i j f e
theorem HoldM.Wf.skyS {m : HoldM} (w : m.Wf) (i : Nat) : OkF 100 (m.skyS i) := by
  unfold HoldM.skyS
  cases e : m.skies[i]? with
  | none => exact ok01
  | some f => exact (w.skies f (List.mem_of_getElem? e)).1
theorem HoldM.ownTo_succ (m : HoldM) (i n : Nat) : m.ownTo i (n + 1) = minusM (m.ownTo i n) (m.flow i n) := by
  unfold HoldM.ownTo
  rw [List.range_succ, List.foldl_append]; rfl
theorem HoldM.Wf.ownTo {m : HoldM} (w : m.Wf) (i : Nat) : ∀ n, OkF (201 + 101 * n) (m.ownTo i n)
  | 0 => (ok11.minus (w.skyS i)).mono (by decide)
  | n + 1 => by
    rw [HoldM.ownTo_succ]
    exact ((w.ownTo i n).minus (w.flow i n)).mono (by omega)
section
variable {K : PySem.W.Frag} {H : Hp} {v : V}
theorem Dn.sky {s : Fra × Fra × Fra} (h : Dn K H (skyD s) v) : ∃ p v1 v2 v3, v = .ref p ∧ SqT K H p [v1, v2, v3] ∧ Dn K H (frD s.1) v1 ∧ Dn K H (frD s.2.1) v2 ∧ Dn K H (frD s.2.2) v3 := by
  obtain ⟨p, xs, e, q, x1, r1, e1, d1, x2, r2, e2, d2, x3, r3, e3, d3, e4⟩ := h
  have e4 : r3 = [] := e4
  subst e1 e2 e3 e4
  exact ⟨p, x1, x2, x3, e, q, d1, d2, d3⟩
theorem flat_sky (s : Fra × Fra × Fra) : flatD (skyD s) = true := by simp [skyD, frD, flatD]
theorem flat_stove (s : Option (Fra × Int × Int × Int)) : flatD (stoveD s) = true := by cases s <;> simp [stoveD, frD, flatD]
theorem flat_row (r : List Fra) : flatD (rowD r) = true := flatD_tuple.mpr fun d hd => by
  obtain ⟨f, _, rfl⟩ := List.mem_map.mp hd
  exact flat_fr f
theorem KTup.fr {a : Addr} {f : Fra} (h : KTup K a [.int f.1, .int f.2]) : Dn K H (frD f) (.ref a) := dn_fr (h.at H)
end
def sp_upto : Sp := fun vs H Q _ => ∃ n g : Int, vs = [.int n, .int g] ∧ Q (.bl (decide (0 ≤ n ∧ n ≤ g))) H
section
variable (K : PySem.W.Frag) (C : Addr)
def sp_many : Sp := fun vs H Q _ => ∃ a fp m, vs = [.ref a] ∧ HoldAt K C H a fp m ∧ Q (natV m.rows.length) H
def sp_look_for : Sp := fun vs H Q _ => ∃ a fp m, ∃ i : Nat, vs = [.ref a, natV i] ∧ HoldAt K C H a fp m ∧ i < m.rows.length ∧ Q .non H
def sp_sky : Sp := fun vs H Q _ => ∃ a fp m, ∃ i : Nat, ∃ s, vs = [.ref a, natV i] ∧ HoldAt K C H a fp m ∧ m.skies[i]? = some s ∧ ∀ v, Dn K H (skyD s) v → Q v H
def sp_stove : Sp := fun vs H Q _ => ∃ a fp m, ∃ i : Nat, ∃ s, vs = [.ref a, natV i] ∧ HoldAt K C H a fp m ∧ m.stoves[i]? = some s ∧ ∀ v, Dn K H (stoveD s) v → Q v H
def sp_marks : Sp := fun vs H Q _ => ∃ a fp m, ∃ i : Nat, ∃ r, vs = [.ref a, natV i] ∧ HoldAt K C H a fp m ∧ m.rows[i]? = some r ∧ ∀ p xs, H p = none → DnA K H (r.map frD) xs → Q (.ref p) (upd H p (.lst xs))
def sp_own : Sp := fun vs H Q _ => ∃ a fp m, ∃ i : Nat, vs = [.ref a, natV i] ∧ HoldAt K C H a fp m ∧ i < m.rows.length ∧ ∀ v H', Same H H' → Dn K H' (frD (m.own i)) v → Q v H'
def sp_share : Sp := fun vs H Q _ => ∃ a fp m, ∃ i j : Nat, vs = [.ref a, natV i, natV j] ∧ HoldAt K C H a fp m ∧ i < m.rows.length ∧ j < m.rows.length ∧ ∀ v H', Same H H' → Dn K H' (frD (m.share i j)) v → Q v H'
end
theorem HoldAt.same {K : PySem.W.Frag} {C : Addr} {H H' : Hp} {a : Addr} {fp : List Addr} {m : HoldM} (s : Same H H') (h : HoldAt K C H a fp m) : HoldAt K C H' a fp m := by
  obtain ⟨⟨dx, pm, pf, ps, pt, vm, vs, vt, kvs, e, ha, hdx, hpm, hpf, hps, hpt, n1, n2, n3, dm, ds, dt, df, fk⟩, q1, q2, q3, q4⟩ := h
  refine ⟨⟨dx, pm, pf, ps, pt, vm, vs, vt, kvs, e, s _ _ ha, s _ _ hdx, s _ _ hpm, s _ _ hpf, s _ _ hps, s _ _ hpt, n1, n2, n3, DnA.same s _ dm, DnA.same s _ ds, DnA.same s _ dt, fun i j => ?_, fk⟩, q1, q2, q3, q4⟩
  have := df i j
  revert this
  cases m.flows i j <;> cases valV kvs (fkey i j) <;> intro q
  · exact q
  · exact q
  · exact q
  · exact Dn.same s _ q
end L2
namespace L2
open PySem PySem.Spec PyProof.Rows Mth
theorem nodup_len {α : Type} [DecidableEq α] : ∀ (l L : List α), l.Nodup → (∀ x ∈ l, x ∈ L) → l.length ≤ L.length
  | [], _, _, _ => Nat.zero_le _
  | x :: l, L, hn, hs => by
    obtain ⟨h1, h2⟩ := List.nodup_cons.mp hn
    have hx := hs x List.mem_cons_self
    have := nodup_len l (L.erase x) h2 fun y hy => (List.mem_erase_of_ne (fun e => h1 (by rw [← e]; exact hy))).mpr (hs y (List.mem_cons_of_mem _ hy))
    rw [List.length_erase_of_mem hx] at this
    have hp := List.length_pos_of_mem hx
    rw [List.length_cons]
    omega
def allKeys : List (List Key) := (List.range 4).flatMap fun (i : Nat) => (List.range 4).map fun (j : Nat) => fkey (i : Int) (j : Int)
theorem FKeys.len {kvs : List (List Key × V)} (h : FKeys kvs) : kvs.length ≤ 16 := by
  have := nodup_len (kvs.map (·.1)) allKeys h.1 fun x hx => by
    obtain ⟨p, hp, rfl⟩ := List.mem_map.mp hx
    obtain ⟨i, j, hi, hj, e⟩ := h.2 p hp
    rw [e]
    exact List.mem_flatMap.mpr ⟨i, List.mem_range.mpr hi, List.mem_map.mpr ⟨j, List.mem_range.mpr hj, rfl⟩⟩
  rw [List.length_map] at this
  exact Nat.le_trans this (by decide)
theorem FKeys.put {kvs : List (List Key × V)} (h : FKeys kvs) {i j : Nat} (hi : i < 4) (hj : j < 4) (v : V) : FKeys (putK kvs (fkey i j) v) := by
  refine ⟨?_, fun p hp => ?_⟩
  · cases e : valV kvs (fkey i j) with
    | none => exact nd_putK v h.1 e
    | some y =>
      have hc : (kvs.any fun kv => decide (kv.1 = fkey i j)) = true := by
        unfold valV at e
        cases q : kvs.find? fun kv => decide (kv.1 = fkey i j) with
        | none => rw [q] at e; cases e
        | some z => have q2 := List.find?_some q; exact List.any_eq_true.mpr ⟨z, List.mem_of_find?_eq_some q, q2⟩
      unfold putK
      rw [if_pos hc, List.map_map]
      have : ((fun x : List Key × V => x.1) ∘ fun kv : List Key × V => if kv.1 = fkey i j then (kv.1, v) else kv) = fun x => x.1 := by
        funext x
        show (if x.1 = fkey i j then (x.1, v) else x).1 = x.1
        split <;> rfl
      rw [this]
      exact h.1
  · unfold putK at hp
    split at hp
    · obtain ⟨z, hz, rfl⟩ := List.mem_map.mp hp
      obtain ⟨a, b, ha, hb, e⟩ := h.2 z hz
      refine ⟨a, b, ha, hb, ?_⟩
      split <;> exact e
    · rcases List.mem_append.mp hp with hp | hp
      · exact h.2 p hp
      · have : p = (fkey i j, v) := by simpa using hp
        subst this
        exact ⟨i, j, hi, hj, rfl⟩
theorem fkey_inj {i j i' j' : Int} (h : fkey i j = fkey i' j') : i = i' ∧ j = j' := by
  simp only [fkey, List.cons.injEq, Sum.inl.injEq, and_true] at h
  exact h
def HoldM.setFlow (m : HoldM) (i j : Nat) (f : Fra) : HoldM := { m with flows := fun a b => if a = (i : Int) ∧ b = (j : Int) then some f else m.flows a b }
def HoldM.setSky (m : HoldM) (i : Nat) (s : Fra × Fra × Fra) : HoldM := { m with skies := m.skies.set i s }
def HoldM.setStove (m : HoldM) (i : Nat) (s : Fra × Int × Int × Int) : HoldM := { m with stoves := m.stoves.set i (some s) }
def HoldM.addRoom (m : HoldM) (r : List Fra) : HoldM := { m with rows := m.rows ++ [r], skies := m.skies ++ [((0, 1), (0, 1), (0, 1))], stoves := m.stoves ++ [none] }
def HoldM.new (most cap load : Int) : HoldM := ⟨most, cap, load, [], fun _ _ => none, [], []⟩
/-- a deed on a hold: its own objects and new ones alone are changed, the tuples stay -/
structure Deed (K : PySem.W.Frag) (C : Addr) (H : Hp) (a : Addr) (fp : List Addr) (m' : HoldM) (H' : Hp) (fp' : List Addr) : Prop where
  at_ : HoldAt K C H' a fp' m'
  but : But fp H H'
  ts : TStay K H H'
  own : ∀ b ∈ fp', b ∈ fp ∨ H b = none
theorem FlowIs.ts {K : PySem.W.Frag} {H H' : Hp} (s : TStay K H H') : ∀ {o : Option Fra} {v : Option V}, FlowIs K H o v → FlowIs K H' o v
  | none, none, _ => trivial
  | some f, some v, h => Dn.ts s _ (flat_fr f) h
  | none, some _, h => h
  | some _, none, h => h
theorem rows_ts {K : PySem.W.Frag} {H H' : Hp} {rs : List (List Fra)} {xs : List V} (s : TStay K H H') (h : DnA K H (rs.map rowD) xs) : DnA K H' (rs.map rowD) xs := DnA.ts s _ (fun d hd => by obtain ⟨r, _, rfl⟩ := List.mem_map.mp hd; exact flat_row r) h
theorem skies_ts {K : PySem.W.Frag} {H H' : Hp} {rs : List (Fra × Fra × Fra)} {xs : List V} (s : TStay K H H') (h : DnA K H (rs.map skyD) xs) : DnA K H' (rs.map skyD) xs := DnA.ts s _ (fun d hd => by obtain ⟨r, _, rfl⟩ := List.mem_map.mp hd; exact flat_sky r) h
theorem stoves_ts {K : PySem.W.Frag} {H H' : Hp} {rs : List (Option (Fra × Int × Int × Int))} {xs : List V} (s : TStay K H H') (h : DnA K H (rs.map stoveD) xs) : DnA K H' (rs.map stoveD) xs := DnA.ts s _ (fun d hd => by obtain ⟨r, _, rfl⟩ := List.mem_map.mp hd; exact flat_stove r) h
def risingM (r : List Fra) : Bool := (List.zipWith underM r r.tail).all id
def bandsM (rs : List (List Fra)) : Int := rs.foldl (fun p r => p * ((r.length : Int) - 1)) 1
section
variable (K : PySem.W.Frag) (C : Addr)
def sp_fits : Sp := fun vs H Q _ => ∃ a fp m, ∃ i : Nat, ∃ v1 v2 f g, vs = [.ref a, natV i, v1, v2] ∧ HoldAt K C H a fp m ∧ i < m.rows.length ∧ Dn K H (frD f) v1 ∧ Dn K H (frD g) v2 ∧ OkF 100 f ∧ OkF 100 g ∧
  0 ≤ f.1 ∧ underM (plusM (m.own i) g) f = false ∧ ∀ H', Same H H' → Q .non H'
def sp_put_flow : Sp := fun vs H Q _ => ∃ a fp m, ∃ i j : Nat, ∃ v f, vs = [.ref a, natV i, natV j, v] ∧ HoldAt K C H a fp m ∧ i < m.rows.length ∧ j < m.rows.length ∧ i ≠ j ∧ Dn K H (frD f) v ∧ OkF 100 f ∧
  0 ≤ f.1 ∧ underM (plusM (m.own i) (m.flow i j)) f = false ∧ ∀ H' fp', Deed K C H a fp (m.setFlow i j f) H' fp' → Q .non H'
def sp_put_sky : Sp := fun vs H Q _ => ∃ a fp m, ∃ i : Nat, ∃ v1 v2 v3 f lo hi, vs = [.ref a, natV i, v1, v2, v3] ∧ HoldAt K C H a fp m ∧ i < m.rows.length ∧ Dn K H (frD f) v1 ∧ Dn K H (frD lo) v2 ∧ Dn K H (frD hi) v3 ∧
  OkF 100 f ∧ OkF 100 lo ∧ OkF 100 hi ∧ underM hi lo = false ∧ 0 ≤ f.1 ∧ underM (plusM (m.own i) (m.skyS i)) f = false ∧ ∀ H' fp', Deed K C H a fp (m.setSky i (f, lo, hi)) H' fp' → Q .non H'
def sp_put_stove : Sp := fun vs H Q _ => ∃ a fp m, ∃ i : Nat, ∃ v f, ∃ w st fl : Int, vs = [.ref a, natV i, v, .int w, .int st, .int fl] ∧ HoldAt K C H a fp m ∧ i < m.rows.length ∧ Dn K H (frD f) v ∧ OkF 100 f ∧ 0 ≤ f.1 ∧
  (0 ≤ w ∧ w ≤ 9) ∧ (0 ≤ st ∧ st ≤ 3) ∧ (0 ≤ fl ∧ fl ≤ 3) ∧ ∀ H' fp', Deed K C H a fp (m.setStove i (f, w, st, fl)) H' fp' → Q .non H'
def sp_rising : Sp := fun vs H Q _ => ∃ p xs r, vs = [.ref p] ∧ SqL K H p xs ∧ DnA K H (r.map frD) xs ∧ (∀ f ∈ r, OkF 100 f) ∧ r.length ≤ 7 ∧ ∀ H', Same H H' → Q (.bl (risingM r)) H'
def sp_bands : Sp := fun vs H Q _ => ∃ p xs rs, vs = [.ref p] ∧ SqL K H p xs ∧ DnA K H (rs.map rowD) xs ∧ rs.length ≤ 5 ∧ (∀ r ∈ rs, 1 ≤ r.length ∧ r.length ≤ 7) ∧ Q (.int (bandsM rs)) H
def sp_put_room : Sp := fun vs H Q _ => ∃ a fp m p xs r, vs = [.ref a, .ref p] ∧ HoldAt K C H a fp m ∧ m.rows.length < 4 ∧ SqL K H p xs ∧ DnA K H (r.map frD) xs ∧ (∀ f ∈ r, OkF 100 f) ∧ 2 ≤ r.length ∧ r.length ≤ 7 ∧ risingM r = true ∧ bandsM (m.rows ++ [r]) ≤ 400 ∧
  ∀ H' fp', Deed K C H a fp (m.addRoom r) H' fp' → Q (natV m.rows.length) H'
def sp_init : Sp := fun vs H Q _ => ∃ x dx, ∃ most cap load : Int, vs = [.ref x, .int most, .int cap, .int load] ∧ H x = some (.ins C dx []) ∧ H dx = some (.own x) ∧ (0 ≤ most ∧ most ≤ 4) ∧ (0 ≤ cap ∧ cap ≤ 30) ∧ (0 ≤ load ∧ load ≤ 30) ∧
  ∀ H' fp', Deed K C H x [x, dx] (HoldM.new most cap load) H' fp' → Q .non H'
end
end L2
namespace L2
open PySem PySem.Spec PyProof.Rows Mth
theorem ne_obj {H : Hp} {a b : Addr} {o u : HO} (h : H a = some o) (k : H b = some u) (n : o ≠ u) : a ≠ b := fun e => by
  subst e
  rw [h] at k
  exact n (Option.some.inj k)
theorem But.same {fp : List Addr} {H H' : Hp} (s : Same H H') : But fp H H' := fun b o h _ => s b o h
theorem But.upd {fp : List Addr} {H H' : Hp} {p : Addr} {o : HO} (b : But fp H H') (hp : p ∈ fp) : But fp H (upd H' p o) := fun c u h n => by
  rw [upd_ne (fun e => n (by rw [e]; exact hp))]
  exact b c u h n
section
variable {K : PySem.W.Frag} {C : Addr} {H H1 : Hp} {a : Addr} {fp : List Addr} {m : HoldM}
end
end L2
namespace L2
open PySem PySem.Spec PyProof.Rows Mth
theorem cut_tail (xs : List V) : cutV xs (some 1) none = xs.tail := by
  have e : HT.sIx xs.length 0 (some 1) = min 1 xs.length := HT.sIx_nat _ _ 1
  unfold cutV
  rw [e, HT.sIx_none]
  cases xs with
  | nil => rfl
  | cons x l =>
    have : min 1 (x :: l).length = 1 := by simp
    rw [this]
    simp
theorem Same.put {H H' : Hp} {D : Addr} {o : HO} (s : Same H H') (h : H D = none) : Same H (upd H' D o) := fun b u e => by
  rw [upd_ne (ne_of_none e h)]
  exact s b u e
end L2
namespace L2
open PySem PySem.Spec PyProof.Rows Mth
section
variable {K : PySem.W.Frag} {C : Addr} {H H1 : Hp} {a : Addr} {fp : List Addr} {m : HoldM}
end
end L2
namespace L2
open PySem PySem.Spec PyProof.Rows Mth
/-- but for x all stays, and x is an instance -/
structure ButX (K : PySem.W.Frag) (C x dx : Addr) (H H' : Hp) (fs : List (Str × V)) : Prop where
  st : ∀ b o, H b = some o → b ≠ x → H' b = some o
  ts : TStay K H H'
  at_ : H' x = some (.ins C dx fs)
section
variable {K : PySem.W.Frag} {C x dx : Addr} {H H' : Hp} {fs fs' : List (Str × V)}
theorem ButX.start (h : H x = some (.ins C dx fs)) : ButX K C x dx H H fs := ⟨fun _ _ h _ => h, TStay.refl _, h⟩
theorem ButX.put (B : ButX K C x dx H H' fs) : ButX K C x dx H (upd H' x (.ins C dx fs')) fs' := ⟨fun b o h n => by rw [upd_ne n]; exact B.st b o h n, B.ts.trans (ts_upd B.at_ rfl), upd_same⟩
theorem ButX.new {p : Addr} {o : HO} (B : ButX K C x dx H H' fs) (hp : H' p = none) : ButX K C x dx H (upd H' p o) fs := ⟨fun b u h n => by rw [upd_ne (ne_of_none (B.st b u h n) hp)]; exact B.st b u h n, B.ts.trans (Same.ts (same_upd hp)), by rw [upd_ne (ne_of_none B.at_ hp)]; exact B.at_⟩
theorem ButX.keep {b : Addr} {o u : HO} (B : ButX K C x dx H H' fs) (h : H' b = some o) (n : b ≠ x) : (upd H' x u) b = some o := by rw [upd_ne n]; exact h
theorem ButX.none {p : Addr} (B : ButX K C x dx H H' fs) (hp : H' p = none) : H p = Option.none := by
  cases e : H p with
  | none => rfl
  | some o =>
    by_cases q : p = x
    · rw [q, B.at_] at hp; cases hp
    · rw [B.st p o e q] at hp; cases hp
theorem ButX.ne {p : Addr} (B : ButX K C x dx H H' fs) (hp : H' p = Option.none) : p ≠ x := fun q => by rw [q, B.at_] at hp; cases hp
end
end L2
namespace L2
open PySem PySem.Spec PyProof.Rows Mth
def hpair (i j : Int) : Int := reduceHash (Builtin.Tuple.tupleHashOf [hashInt i, hashInt j])
theorem hpair_fin : ∀ i j i' j' : Fin 4, hpair (i.val : Int) (j.val : Int) = hpair (i'.val : Int) (j'.val : Int) → i = i' ∧ j = j' := by decide +kernel
theorem hpair_inj (i : Nat) (hi : i < 4) (j : Nat) (hj : j < 4) (i' : Nat) (hi' : i' < 4) (j' : Nat) (hj' : j' < 4) (h : hpair (i : Int) (j : Int) = hpair (i' : Int) (j' : Int)) : i = i' ∧ j = j' := by
  obtain ⟨a, b⟩ := hpair_fin ⟨i, hi⟩ ⟨j, hj⟩ ⟨i', hi'⟩ ⟨j', hj'⟩ h
  exact ⟨congrArg Fin.val a, congrArg Fin.val b⟩
theorem FKeys.hash {P : Program} {w : World} {kvs : List (List Key × V)} (h : FKeys kvs) : (kvs.map fun kv => tupleKeyHash (mixKind P w) kv.1).Nodup := by
  have h1 := List.pairwise_map.mp h.1
  refine List.pairwise_map.mpr (h1.imp_of_mem fun {a b} ha hb n e => ?_)
  obtain ⟨i, j, hi, hj, e1⟩ := h.2 a ha
  obtain ⟨i', j', hi', hj', e2⟩ := h.2 b hb
  rw [e1, e2] at e
  obtain ⟨z1, z2⟩ := hpair_inj i hi j hj i' hi' j' hj' e
  exact n (by rw [e1, e2, z1, z2])
def optV : Option Int → V
  | none => .non
  | some n => .int n
def HoldM.with (m : HoldM) (x y z : Option Int) : HoldM := { m with most := x.getD m.most, cap := y.getD m.cap, load := z.getD m.load }
def HoldM.Bds (m : HoldM) : Prop := (0 ≤ m.most ∧ m.most ≤ 4) ∧ (0 ≤ m.cap ∧ m.cap ≤ 30) ∧ (0 ≤ m.load ∧ m.load ≤ 30)
def sp_like (K : PySem.W.Frag) (C : Addr) : Sp := fun vs H Q _ => ∃ a fp m x y z, vs = [.ref a, optV x, optV y, optV z] ∧ HoldAt K C H a fp m ∧ (m.with x y z).Bds ∧
  ∀ b H' fp', Same H H' → HoldAt K C H' b fp' (m.with x y z) → (∀ c ∈ fp', H c = none) → Q (.ref b) H'
end L2
namespace L2
open PySem PySem.Spec PyProof.Rows Mth
def sp_pick : Sp := fun vs H Q _ => ∃ c k n : Int, vs = [.int c, .int k, .int n] ∧ 0 ≤ k ∧ k ≤ 1000 ∧ 0 < n ∧ ∀ r, 0 ≤ r → r < n → Q (.int r) H
structure ScM where
  a : Int
  b : Int
  t : Int
  d : Int
structure ScM.Ok (s : ScM) : Prop where
  a0 : 1 ≤ s.a
  a1 : s.a ≤ 10 ^ 9
  b0 : 1 ≤ s.b
  b1 : s.b ≤ 10 ^ 9
  t0 : -(10 ^ 9) ≤ s.t
  t1 : s.t ≤ 10 ^ 9
  d0 : 1 ≤ s.d
  d1 : s.d ≤ 10 ^ 9
abbrev ScM.vs (s : ScM) : List V := [.int s.a, .int s.b, .int s.t, .int s.d]
def sp_scale : Sp := fun vs H Q _ => ∃ c : Int, vs = [.int c] ∧ ∀ p H' (s : ScM), s.Ok → Same H H' → H' p = some (.tup s.vs) → Q (.ref p) H'
/-- num by parts, scaled and moved -/
def warmT (num parts : Int) (s : ScM) : Int := num * s.a * s.d + parts * s.t * s.b
def warmB (parts : Int) (s : ScM) : Int := parts * s.b * s.d
def warmM (num parts : Int) (s : ScM) : Fra := nf (warmT num parts s) (warmB parts s)
def sp_warm (K : PySem.W.Frag) : Sp := fun vs H Q _ => ∃ num parts p, ∃ s : ScM, vs = [.int num, .int parts, .ref p] ∧ SqT K H p s.vs ∧ s.Ok ∧ Bd 30 num ∧ 0 < parts ∧ Bd 30 parts ∧
  ∀ q H', Same H H' → H' q = some (.tup [.int (warmM num parts s).1, .int (warmM num parts s).2]) → Q (.ref q) H'
theorem bd30 {x : Int} (h0 : -(10 ^ 9) ≤ x) (h1 : x ≤ 10 ^ 9) : Bd 30 x := by show x.natAbs < 2 ^ 30; omega
section
variable {s : ScM}
theorem ScM.Ok.bd (h : s.Ok) : Bd 30 s.d := bd30 (by have := h.d0; omega) h.d1
end
abbrev stoveI (z : Int × Int × Int × Int) : List V := [.int z.1, .int z.2.1, .int z.2.2.1, .int z.2.2.2]
structure StI (z : Int × Int × Int × Int) : Prop where
  h : 0 ≤ z.1 ∧ z.1 ≤ 25
  w : 0 ≤ z.2.1 ∧ z.2.1 ≤ 9
  s : 0 ≤ z.2.2.1 ∧ z.2.2.1 ≤ 3
  f : 0 ≤ z.2.2.2 ∧ z.2.2.2 ≤ 3
def sp_stove_by : Sp := fun vs H Q _ => ∃ a b c : Int, ∃ i : Nat, vs = [.int a, .int b, .int c, natV i] ∧ i < 4 ∧ Q .non H ∧ ∀ p z, StI z → H p = none → Q (.ref p) (upd H p (.tup (stoveI z)))
end L2
namespace L2
open PySem PySem.Spec PyProof.Rows Mth
def cutH (H : Hp) (L : List Addr) : Hp := fun b => if b ∈ L then none else H b
section
variable {K : PySem.W.Frag} {H H' : Hp} {L : List Addr} {a : Addr} {o : HO}
theorem cut_upd (h : a ∈ L) : cutH (upd H a o) L = cutH H L := by
  funext b
  unfold cutH
  split
  · rfl
  · rename_i n
    rw [upd_ne (fun e => n (by rw [e]; exact h))]
theorem same_cut (s : Same H H') : Same (cutH H L) (cutH H' L) := fun b u h => by
  unfold cutH at h ⊢
  split at h
  · cases h
  · rename_i n
    rw [if_neg n]
    exact s b u h
/-- none of L is a tuple -/
def NoTups (H : Hp) (L : List Addr) : Prop := ∀ b ∈ L, ∃ o, H b = some o ∧ noTup o = true
end
structure ToldM where
  marks : List (List Int)
  sky : List (Int × Int × Int)
  stoves : List (Option (Int × Int × Int × Int))
  flows : Nat → Nat → Option Int
  scale : ScM
  bounds : Int × Int × Int
abbrev skyI (z : Int × Int × Int) : PyData := .tuple [.int z.1, .int z.2.1, .int z.2.2]
abbrev stI : Option (Int × Int × Int × Int) → PyData
  | none => .none
  | some z => .tuple [.int z.1, .int z.2.1, .int z.2.2.1, .int z.2.2.2]
abbrev rowI (l : List Int) : PyData := .list (l.map PyData.int)
def toldKV (pm ps pt pf psc pb : Addr) : List (Key × V) :=
  [(.inr "marks", .ref pm), (.inr "sky", .ref ps), (.inr "stoves", .ref pt), (.inr "flows", .ref pf), (.inr "scale", .ref psc), (.inr "bounds", .ref pb)]
section
variable (pm ps pt pf psc pb : Addr)
end
/-- the objects of what is told -/
structure TC (K : PySem.W.Frag) (H : Hp) (p pm ps pt pf psc pb : Addr) (vm vs vt : List V) (kvs : List (List Key × V)) (m : ToldM) : Prop where
  hp : H p = some (.dK (toldKV pm ps pt pf psc pb))
  hpm : H pm = some (.lst vm)
  hps : H ps = some (.lst vs)
  hpt : H pt = some (.lst vt)
  hpf : H pf = some (.dT kvs)
  n1 : pm ≠ ps
  n2 : pm ≠ pt
  n3 : ps ≠ pt
  dm : DnA K (cutH H [p, pm, ps, pt, pf]) (m.marks.map rowI) vm
  ds : DnA K (cutH H [p, pm, ps, pt, pf]) (m.sky.map skyI) vs
  dt : DnA K (cutH H [p, pm, ps, pt, pf]) (m.stoves.map stI) vt
  df : ∀ i j : Nat, i < 4 → j < 4 → valV kvs (fkey i j) = (m.flows i j).map V.int
  fk : FKeys kvs
  sc : SqT K (cutH H [p, pm, ps, pt, pf]) psc m.scale.vs
  bo : SqT K (cutH H [p, pm, ps, pt, pf]) pb [.int m.bounds.1, .int m.bounds.2.1, .int m.bounds.2.2]
section
variable {K : PySem.W.Frag} {H H' : Hp} {p pm ps pt pf psc pb : Addr} {vm vs vt : List V} {kvs : List (List Key × V)} {m : ToldM}
theorem TC.same (c : TC K H p pm ps pt pf psc pb vm vs vt kvs m) (s : Same H H') : TC K H' p pm ps pt pf psc pb vm vs vt kvs m :=
  ⟨s _ _ c.hp, s _ _ c.hpm, s _ _ c.hps, s _ _ c.hpt, s _ _ c.hpf, c.n1, c.n2, c.n3, DnA.same (same_cut s) _ c.dm, DnA.same (same_cut s) _ c.ds, DnA.same (same_cut s) _ c.dt, c.df, c.fk, (same_cut s).tup c.sc, (same_cut s).tup c.bo⟩
def ToldM.setFlow (m : ToldM) (i j : Nat) (k : Int) : ToldM := { m with flows := fun a b => if a = i ∧ b = j then some k else m.flows a b }
theorem TC.setFlow (c : TC K H p pm ps pt pf psc pb vm vs vt kvs m) {i j : Nat} {k : Int} (hi : i < 4) (hj : j < 4) :
    TC K (upd H pf (.dT (putK kvs (fkey i j) (.int k)))) p pm ps pt pf psc pb vm vs vt (putK kvs (fkey i j) (.int k)) (m.setFlow i j k) := by
  have e : cutH (upd H pf (.dT (putK kvs (fkey i j) (.int k)))) [p, pm, ps, pt, pf] = cutH H [p, pm, ps, pt, pf] := cut_upd (by simp)
  refine ⟨by rw [upd_ne (ne_obj c.hp c.hpf nofun)]; exact c.hp, by rw [upd_ne (ne_obj c.hpm c.hpf nofun)]; exact c.hpm, by rw [upd_ne (ne_obj c.hps c.hpf nofun)]; exact c.hps, by rw [upd_ne (ne_obj c.hpt c.hpf nofun)]; exact c.hpt, upd_same, c.n1, c.n2, c.n3, by rw [e]; exact c.dm, by rw [e]; exact c.ds, by rw [e]; exact c.dt, fun a b ha hb => ?_, c.fk.put hi hj _, by rw [e]; exact c.sc, by rw [e]; exact c.bo⟩
  rw [valV_put]
  show _ = (if a = i ∧ b = j then some k else m.flows a b).map V.int
  by_cases z : a = i ∧ b = j
  · rw [if_pos z, if_pos (by rw [z.1, z.2])]; rfl
  · rw [if_neg z, if_neg (fun y => z (by have := fkey_inj y; omega))]
    exact c.df a b ha hb
end
def risingI (l : List Int) : Prop := ∀ i x y, l[i]? = some x → l[i + 1]? = some y → x < y
structure RowOk (n : Nat) (l : List Int) : Prop where
  two : 2 ≤ l.length
  most : l.length ≤ if n ≤ 2 then 7 else 5
  ris : risingI l
  bd : ∀ x ∈ l, -200 ≤ x ∧ x ≤ 200
structure ToldM.Ok (n i : Nat) (m : ToldM) : Prop where
  lm : m.marks.length = i
  ls : m.sky.length = i
  lt : m.stoves.length = i
  rows : ∀ l ∈ m.marks, RowOk n l
  sky : ∀ z ∈ m.sky, (0 ≤ z.1 ∧ z.1 ≤ 3) ∧ (-30 ≤ z.2.1 ∧ z.2.1 ≤ 30) ∧ z.2.1 ≤ z.2.2 ∧ z.2.2 ≤ z.2.1 + 30
  stoves : ∀ z, some z ∈ m.stoves → StI z
  flows : ∀ a b, a < i → b < n → a ≠ b → ∃ k, m.flows a b = some k ∧ 0 ≤ k ∧ k ≤ 3
  scale : m.scale.Ok
  bounds : (0 ≤ m.bounds.1 ∧ m.bounds.1 ≤ 4) ∧ (0 ≤ m.bounds.2.1 ∧ m.bounds.2.1 ≤ 30) ∧ (0 ≤ m.bounds.2.2 ∧ m.bounds.2.2 ≤ 30)
def ToldAt (K : PySem.W.Frag) (H : Hp) (p : Addr) (m : ToldM) : Prop := ∃ pm ps pt pf psc pb vm vs vt kvs, TC K H p pm ps pt pf psc pb vm vs vt kvs m
theorem ToldAt.same {K : PySem.W.Frag} {H H' : Hp} {p : Addr} {m : ToldM} (h : ToldAt K H p m) (s : Same H H') : ToldAt K H' p m := by
  obtain ⟨pm, ps, pt, pf, psc, pb, vm, vs, vt, kvs, c⟩ := h
  exact ⟨pm, ps, pt, pf, psc, pb, vm, vs, vt, kvs, c.same s⟩
def sp_drawn (K : PySem.W.Frag) : Sp := fun vs H Q _ => ∃ a, ∃ ns : List Int, vs = [.ref a] ∧ SqL K H a (ns.map V.int) ∧ ∀ p H' m n, 1 ≤ n → n ≤ 4 → ToldM.Ok n n m → Same H H' → ToldAt K H' p m → Q (.ref p) H'
end L2
namespace L2
open PySem PySem.Spec PyProof.Rows Mth
section
variable {H : Hp} {p pm ps pt pf psc pb : Addr}
end
theorem ToldM.Ok.marks {n i : Nat} {m : ToldM} {l : List Int} {z : Int × Int × Int} {t : Option (Int × Int × Int × Int)} {fl : Nat → Nat → Option Int} (h : m.Ok n i) (hl : RowOk n l)
    (hz : (0 ≤ z.1 ∧ z.1 ≤ 3) ∧ (-30 ≤ z.2.1 ∧ z.2.1 ≤ 30) ∧ z.2.1 ≤ z.2.2 ∧ z.2.2 ≤ z.2.1 + 30) (ht : ∀ y, t = some y → StI y) (hf : ∀ a b, a < i + 1 → b < n → a ≠ b → ∃ k, fl a b = some k ∧ 0 ≤ k ∧ k ≤ 3) :
    ToldM.Ok n (i + 1) { m with marks := m.marks ++ [l], sky := m.sky ++ [z], stoves := m.stoves ++ [t], flows := fl } := by
  refine ⟨?_, ?_, ?_, fun x hx => ?_, fun x hx => ?_, fun x hx => ?_, hf, h.scale, h.bounds⟩
  · show (m.marks ++ [l]).length = _
    rw [List.length_append, h.lm]; rfl
  · show (m.sky ++ [z]).length = _
    rw [List.length_append, h.ls]; rfl
  · show (m.stoves ++ [t]).length = _
    rw [List.length_append, h.lt]; rfl
  · rcases List.mem_append.mp hx with q | q
    · exact h.rows x q
    · rw [List.mem_singleton.mp q]; exact hl
  · rcases List.mem_append.mp hx with q | q
    · exact h.sky x q
    · rw [List.mem_singleton.mp q]; exact hz
  · rcases List.mem_append.mp hx with q | q
    · exact h.stoves x q
    · exact ht x (List.mem_singleton.mp q).symm
end L2
namespace L2
open PySem PySem.Spec PyProof.Rows Mth
/-- a stove told, or none -/
def StV (H : Hp) (t : Option (Int × Int × Int × Int)) (x : V) (H' : Hp) : Prop := (t = none ∧ x = .non ∧ H' = H) ∨ ∃ p z, t = some z ∧ x = .ref p ∧ H p = none ∧ StI z ∧ H' = upd H p (.tup (stoveI z))
theorem StV.same {H H' : Hp} {t : Option (Int × Int × Int × Int)} {x : V} (h : StV H t x H') : Same H H' := by
  rcases h with ⟨_, _, rfl⟩ | ⟨p, z, _, _, hp, _, rfl⟩
  · exact Same.refl _
  · exact same_upd hp
theorem StV.ok {H H' : Hp} {t : Option (Int × Int × Int × Int)} {x : V} (h : StV H t x H') : ∀ y, t = some y → StI y := by
  rcases h with ⟨rfl, _, _⟩ | ⟨p, z, rfl, _, hp, hz, _⟩
  · exact nofun
  · intro y e; cases e; exact hz
end L2
namespace L2
open PySem PySem.Spec PyProof.Rows Mth
end L2
namespace Mth
/-- f is k by W -/
def Ov (W k : Int) (f : Int × Int) : Prop := f.1 * W = k * f.2 ∧ 0 < f.2
theorem Ov.nf {W k : Int} (h : 0 < W) : Ov W k (nf k W) := by
  have F := nf_fr (t := k) h
  exact ⟨F.cross, F.pos⟩
theorem ov_one {W : Int} : Ov W W (1, 1) := ⟨by show 1 * W = W * 1; omega, by decide⟩
theorem ov_zero {W : Int} : Ov W 0 (0, 1) := ⟨by show 0 * W = 0 * 1; omega, by decide⟩
theorem Ov.minus {W a b : Int} {x y : Int × Int} (h : Ov W a x) (k : Ov W b y) : Ov W (a - b) (minusM x y) := by
  have F := nf_fr (t := x.1 * y.2 - y.1 * x.2) (b := x.2 * y.2) (Int.mul_pos h.2 k.2)
  refine ⟨?_, F.pos⟩
  have c := F.cross
  have hx := h.1
  have hy := k.1
  have pp : 0 < x.2 * y.2 := Int.mul_pos h.2 k.2
  show (Mth.nf (x.1 * y.2 - y.1 * x.2) (x.2 * y.2)).1 * W = (a - b) * (Mth.nf (x.1 * y.2 - y.1 * x.2) (x.2 * y.2)).2
  generalize (Mth.nf (x.1 * y.2 - y.1 * x.2) (x.2 * y.2)).1 = q at c ⊢
  generalize (Mth.nf (x.1 * y.2 - y.1 * x.2) (x.2 * y.2)).2 = r at c ⊢
  refine Int.eq_of_mul_eq_mul_right (Int.ne_of_gt pp) ?_
  have e1 : x.1 * y.2 * W = a * (x.2 * y.2) := by rw [Int.mul_right_comm, hx, Int.mul_assoc]
  have e2 : y.1 * x.2 * W = b * (x.2 * y.2) := by rw [Int.mul_right_comm, hy, Int.mul_assoc, Int.mul_comm y.2]
  calc q * W * (x.2 * y.2) = (q * (x.2 * y.2)) * W := by rw [Int.mul_right_comm]
    _ = (x.1 * y.2 - y.1 * x.2) * r * W := by rw [c]
    _ = ((x.1 * y.2 - y.1 * x.2) * W) * r := by rw [Int.mul_right_comm]
    _ = (a * (x.2 * y.2) - b * (x.2 * y.2)) * r := by rw [Int.sub_mul, e1, e2]
    _ = (a - b) * r * (x.2 * y.2) := by rw [← Int.sub_mul, Int.mul_right_comm]
theorem Ov.under {W a b : Int} {x y : Int × Int} (hW : 0 < W) (h : Ov W a x) (k : Ov W b y) : underM x y = decide (a < b) := by
  unfold underM
  refine decide_eq_decide.mpr ?_
  have pp : 0 < x.2 * y.2 := Int.mul_pos h.2 k.2
  have e1 : x.1 * y.2 * W = a * (x.2 * y.2) := by rw [Int.mul_right_comm, h.1, Int.mul_assoc]
  have e2 : y.1 * x.2 * W = b * (x.2 * y.2) := by rw [Int.mul_right_comm, k.1, Int.mul_assoc, Int.mul_comm y.2]
  constructor
  · intro l
    have := Int.mul_lt_mul_of_pos_right l hW
    rw [e1, e2] at this
    exact Int.lt_of_mul_lt_mul_right this (Int.le_of_lt pp)
  · intro l
    have := Int.mul_lt_mul_of_pos_right l pp
    rw [← e1, ← e2] at this
    exact Int.lt_of_mul_lt_mul_right this (Int.le_of_lt hW)
end Mth
namespace L2
open PySem PySem.Spec PyProof.Rows Mth
def sumF (fl : Nat → Nat → Int) (i : Nat) : Nat → Int
  | 0 => 0
  | t + 1 => sumF fl i t + fl i t
/-- the shares of a hold, over W -/
structure ShOk (W : Int) (sk : Nat → Int) (fl : Nat → Nat → Int) (m : HoldM) : Prop where
  sky : ∀ i, Ov W (sk i) (m.skyS i)
  flow : ∀ i j, Ov W (fl i j) (m.flow i j)
theorem ShOk.ownTo {W : Int} {sk : Nat → Int} {fl : Nat → Nat → Int} {m : HoldM} (h : ShOk W sk fl m) (i : Nat) : ∀ t, Ov W (W - sk i - sumF fl i t) (m.ownTo i t)
  | 0 => by
    have := (ov_one (W := W)).minus (h.sky i)
    have e : W - sk i - sumF fl i 0 = W - sk i := by show W - sk i - 0 = _; omega
    rw [e]
    exact this
  | t + 1 => by
    rw [HoldM.ownTo_succ]
    have := (h.ownTo i t).minus (h.flow i t)
    have e : W - sk i - sumF fl i (t + 1) = W - sk i - sumF fl i t - fl i t := by show W - sk i - (sumF fl i t + fl i t) = _; omega
    rw [e]
    exact this
theorem ShOk.own {W : Int} {sk : Nat → Int} {fl : Nat → Nat → Int} {m : HoldM} (h : ShOk W sk fl m) (i : Nat) : Ov W (W - sk i - sumF fl i m.rows.length) (m.own i) := h.ownTo i _
theorem flow_setFlow {m : HoldM} {i j a b : Nat} {f : Fra} : (m.setFlow i j f).flow a b = if a = i ∧ b = j then f else m.flow a b := by
  unfold HoldM.flow HoldM.setFlow
  by_cases e : a = i ∧ b = j
  · rw [if_pos e]
    show ((if (a : Int) = (i : Int) ∧ (b : Int) = (j : Int) then some f else m.flows a b)).getD (0, 1) = f
    rw [if_pos (by omega)]; rfl
  · rw [if_neg e]
    show ((if (a : Int) = (i : Int) ∧ (b : Int) = (j : Int) then some f else m.flows a b)).getD (0, 1) = _
    rw [if_neg (by omega)]
theorem ShOk.setFlow {W k : Int} {sk : Nat → Int} {fl : Nat → Nat → Int} {m : HoldM} {f : Fra} {i j : Nat} (h : ShOk W sk fl m) (hf : Ov W k f) : ShOk W sk (fun a b => if a = i ∧ b = j then k else fl a b) (m.setFlow i j f) := by
  refine ⟨fun a => h.sky a, fun a b => ?_⟩
  rw [flow_setFlow]
  by_cases e : a = i ∧ b = j
  · simp only [if_pos e]; exact hf
  · simp only [if_neg e]; exact h.flow a b
theorem skyS_setSky {m : HoldM} {i a : Nat} {z : Fra × Fra × Fra} (hi : i < m.skies.length) : (m.setSky i z).skyS a = if a = i then z.1 else m.skyS a := by
  unfold HoldM.skyS HoldM.setSky
  by_cases e : a = i
  · subst e
    rw [if_pos rfl]
    show (((m.skies.set a z)[a]?).map (·.1)).getD (0, 1) = _
    rw [List.getElem?_set_self hi]; rfl
  · rw [if_neg e]
    show (((m.skies.set i z)[a]?).map (·.1)).getD (0, 1) = _
    rw [List.getElem?_set_ne (fun x => e x.symm)]
theorem ShOk.setSky {W k : Int} {sk : Nat → Int} {fl : Nat → Nat → Int} {m : HoldM} {z : Fra × Fra × Fra} {i : Nat} (h : ShOk W sk fl m) (hi : i < m.skies.length) (hf : Ov W k z.1) : ShOk W (fun a => if a = i then k else sk a) fl (m.setSky i z) := by
  refine ⟨fun a => ?_, fun a b => h.flow a b⟩
  rw [skyS_setSky hi]
  by_cases e : a = i
  · simp only [if_pos e]; exact hf
  · simp only [if_neg e]; exact h.sky a
theorem ShOk.new {W : Int} {most cap load : Int} : ShOk W (fun _ => 0) (fun _ _ => 0) (HoldM.new most cap load) := ⟨fun _ => ov_zero, fun _ _ => ov_zero⟩
theorem ShOk.addRoom {W : Int} {sk : Nat → Int} {fl : Nat → Nat → Int} {m : HoldM} {r : List Fra} (h : ShOk W sk fl m) (hs : ∀ i, m.skies.length ≤ i → sk i = 0) : ShOk W sk fl (m.addRoom r) := by
  refine ⟨fun a => ?_, fun a b => h.flow a b⟩
  by_cases e : a < m.skies.length
  · have : (m.addRoom r).skyS a = m.skyS a := by
      show (((m.skies ++ [((0, 1), (0, 1), (0, 1))])[a]?).map (·.1)).getD (0, 1) = ((m.skies[a]?).map (·.1)).getD (0, 1)
      rw [List.getElem?_append_left e]
    rw [this]
    exact h.sky a
  · have : (m.addRoom r).skyS a = (0, 1) := by
      show (((m.skies ++ [((0, 1), (0, 1), (0, 1))])[a]?).map (·.1)).getD (0, 1) = (0, 1)
      rw [List.getElem?_append_right (by omega)]
      cases q : a - m.skies.length with
      | zero => rfl
      | succ n => rfl
    rw [this, hs a (by omega)]
    exact ov_zero
theorem ShOk.setStove {W : Int} {sk : Nat → Int} {fl : Nat → Nat → Int} {m : HoldM} {i : Nat} {z : Fra × Int × Int × Int} (h : ShOk W sk fl m) : ShOk W sk fl (m.setStove i z) := ⟨fun a => h.sky a, fun a b => h.flow a b⟩
end L2
namespace L2
open PySem PySem.Spec PyProof.Rows Mth
def ToldM.row (tm : ToldM) (l : List Int) : List Fra := l.map fun x => warmM x 1 tm.scale
def ToldM.m1 (tm : ToldM) (k : Nat) : HoldM := ((tm.marks.take k).map tm.row).foldl HoldM.addRoom (HoldM.new tm.bounds.1 tm.bounds.2.1 tm.bounds.2.2)
def ToldM.skyAt (tm : ToldM) (z : Int × Int × Int) : Fra × Fra × Fra := (nf z.1 12, warmM z.2.1 1 tm.scale, warmM z.2.2 1 tm.scale)
def ToldM.stoveAt (tm : ToldM) (z : Int × Int × Int × Int) : Fra × Int × Int × Int := (nf (z.1 * tm.scale.a) tm.scale.b, z.2.1, z.2.2.1, z.2.2.2)
def ToldM.skyStep (tm : ToldM) (m : HoldM) (i : Nat) : HoldM := match tm.sky[i]? with | some z => m.setSky i (tm.skyAt z) | none => m
def ToldM.stoveStep (tm : ToldM) (m : HoldM) (i : Nat) : HoldM := match tm.stoves[i]? with | some (some z) => m.setStove i (tm.stoveAt z) | _ => m
def ToldM.flowStep (tm : ToldM) (i : Nat) (m : HoldM) (j : Nat) : HoldM := if j = i then m else match tm.flows i j with | some k => m.setFlow i j (nf k 12) | none => m
def ToldM.flowsTo (tm : ToldM) (i : Nat) (m : HoldM) (j : Nat) : HoldM := (List.range j).foldl (tm.flowStep i) m
def ToldM.roomStep (tm : ToldM) (n : Nat) (m : HoldM) (i : Nat) : HoldM := tm.flowsTo i (tm.stoveStep (tm.skyStep m i) i) n
def ToldM.m2 (tm : ToldM) (n k : Nat) : HoldM := (List.range k).foldl (tm.roomStep n) (tm.m1 n)
theorem Deed.keep {K : PySem.W.Frag} {C : Addr} {H0 H H' : Hp} {a : Addr} {fp fp' : List Addr} {m' : HoldM} (S : Same H0 H) (n : ∀ b ∈ fp, H0 b = none) (D : Deed K C H a fp m' H' fp') : Same H0 H' ∧ ∀ b ∈ fp', H0 b = none := by
  refine ⟨fun b o h => D.but b o (S b o h) fun q => ?_, fun b hb => ?_⟩
  · rw [n b q] at h; cases h
  · rcases D.own b hb with q | q
    · exact n b q
    · exact S.free q
/-- rows and bounds stay -/
structure Kp (m m' : HoldM) : Prop where
  rows : m'.rows = m.rows
  most : m'.most = m.most
  cap : m'.cap = m.cap
  load : m'.load = m.load
theorem Kp.refl (m : HoldM) : Kp m m := ⟨rfl, rfl, rfl, rfl⟩
theorem Kp.trans {m m1 m2 : HoldM} (a : Kp m m1) (b : Kp m1 m2) : Kp m m2 := ⟨b.rows.trans a.rows, b.most.trans a.most, b.cap.trans a.cap, b.load.trans a.load⟩
end L2
namespace L2
open PySem PySem.Spec PyProof.Rows Mth
end L2
namespace L2
open PySem PySem.Spec PyProof.Rows Mth
structure SF (sk : Nat → Int) (fl : Nat → Nat → Int) : Prop where
  hsk : ∀ a, 0 ≤ sk a ∧ sk a ≤ 3
  hfl : ∀ a b, 0 ≤ fl a b ∧ fl a b ≤ 3
  hno : ∀ a, fl a a = 0
/-- a hold whose shares are twelfths, at most three each -/
def Tw (m : HoldM) : Prop := ∃ sk fl, ShOk 12 sk fl m ∧ SF sk fl
theorem Tw.sky {m : HoldM} {i : Nat} {z : Fra × Fra × Fra} {k : Int} (h : Tw m) (hi : i < m.skies.length) (hf : Ov 12 k z.1) (k0 : 0 ≤ k) (k3 : k ≤ 3) : Tw (m.setSky i z) := by
  obtain ⟨sk, fl, S, F⟩ := h
  refine ⟨_, _, S.setSky hi hf, ⟨fun a => ?_, F.hfl, F.hno⟩⟩
  show 0 ≤ (if a = i then k else sk a) ∧ (if a = i then k else sk a) ≤ 3
  split
  · exact ⟨k0, k3⟩
  · exact F.hsk a
theorem Tw.flow {m : HoldM} {i j : Nat} {f : Fra} {k : Int} (h : Tw m) (hij : i ≠ j) (hf : Ov 12 k f) (k0 : 0 ≤ k) (k3 : k ≤ 3) : Tw (m.setFlow i j f) := by
  obtain ⟨sk, fl, S, F⟩ := h
  refine ⟨_, _, S.setFlow hf, ⟨F.hsk, fun a b => ?_, fun a => ?_⟩⟩
  · show 0 ≤ (if a = i ∧ b = j then k else fl a b) ∧ (if a = i ∧ b = j then k else fl a b) ≤ 3
    split
    · exact ⟨k0, k3⟩
    · exact F.hfl a b
  · show (if a = i ∧ a = j then k else fl a a) = 0
    rw [if_neg (by omega)]
    exact F.hno a
theorem Tw.stove {m : HoldM} {i : Nat} {z : Fra × Int × Int × Int} (h : Tw m) : Tw (m.setStove i z) := by
  obtain ⟨sk, fl, S, F⟩ := h
  exact ⟨sk, fl, S.setStove, F⟩
end L2
namespace L2
open PySem PySem.Spec PyProof.Rows Mth
def seenRoom (m : HoldM) (i : Nat) : List PyData :=
  [.tuple [.list (((m.rows[i]?).getD []).map frD), skyD ((m.skies[i]?).getD ((0, 1), (0, 1), (0, 1))), stoveD ((m.stoves[i]?).getD none)], .list ((List.range m.rows.length).map fun j => frD (m.share i j))]
def seenTo (m : HoldM) (k : Nat) : List PyData := .int m.rows.length :: (List.range k).flatMap (seenRoom m)
def seenD (m : HoldM) : PyData := .list (seenTo m m.rows.length)
/-- what is seen, told by objects that are none of L -/
def sp_seen (K : PySem.W.Frag) (C : Addr) : Sp := fun vs H Q _ => ∃ a fp m L, vs = [.ref a] ∧ HoldAt K C H a fp m ∧ NoTups H L ∧ ∀ v H', Same H H' → Dn K (cutH H' L) (seenD m) v → Q v H'
def sp_bounds (K : PySem.W.Frag) (C : Addr) : Sp := fun vs H Q _ => ∃ a fp m, vs = [.ref a] ∧ HoldAt K C H a fp m ∧ ∀ p, H p = none → Q (.ref p) (upd H p (.tup [.int m.most, .int m.cap, .int m.load]))
end L2
namespace L2
open PySem PySem.Spec PyProof.Rows Mth
theorem NoTups.same {H H' : Hp} {L : List Addr} (h : NoTups H L) (s : Same H H') : NoTups H' L := fun b hb => by
  obtain ⟨o, e, n⟩ := h b hb
  exact ⟨o, s _ _ e, n⟩
end L2
namespace L2
open PySem PySem.Spec PyProof.Rows Mth
section
variable {K : PySem.W.Frag} {C : Addr} {H H1 H2 : Hp} {a : Addr} {fp fp1 fp2 : List Addr} {m1 m2 : HoldM}
theorem Deed.trans (D1 : Deed K C H a fp m1 H1 fp1) (D2 : Deed K C H1 a fp1 m2 H2 fp2) : Deed K C H a fp m2 H2 fp2 := by
  refine ⟨D2.at_, fun b o h n => D2.but b o (D1.but b o h n) fun q => ?_, D1.ts.trans D2.ts, fun b hb => ?_⟩
  · rcases D1.own b q with z | z
    · exact n z
    · rw [z] at h; cases h
  · rcases D2.own b hb with q | q
    · exact D1.own b q
    · by_cases z : b ∈ fp
      · exact .inl z
      · refine .inr ?_
        cases e : H b with
        | none => rfl
        | some o => rw [D1.but b o e z] at q; cases q
theorem Deed.pre (s : Same H H1) (D : Deed K C H1 a fp m2 H2 fp2) : Deed K C H a fp m2 H2 fp2 :=
  ⟨D.at_, fun b o h n => D.but b o (s b o h) n, (Same.ts s).trans D.ts, fun b hb => (D.own b hb).elim .inl fun q => .inr (s.free q)⟩
end
def sp_changed (K : PySem.W.Frag) (C : Addr) : Sp := fun vs H Q _ => ∃ a fp m, ∃ c : Int, vs = [.ref a, .int c] ∧ HoldAt K C H a fp m ∧ Tw m ∧ 1 ≤ m.rows.length ∧ bandsM m.rows ≤ 400 ∧
  ∀ H' fp' m', m'.most = m.most → m'.cap = m.cap → m'.load = m.load → Deed K C H a fp m' H' fp' → Q .non H'
end L2
namespace L2
open PySem PySem.Spec PyProof.Rows Mth
end L2
namespace L2
open PySem PySem.Spec PyProof.Rows Mth
def sp_built (K : PySem.W.Frag) (C : Addr) : Sp := fun vs H Q _ => ∃ p, ∃ tm : ToldM, ∃ n : Nat, vs = [.ref p] ∧ ToldAt K H p tm ∧ tm.Ok n n ∧ 1 ≤ n ∧ n ≤ 4 ∧
  ∀ a H' fp, Same H H' → HoldAt K C H' a fp (tm.m2 n n) → (∀ b ∈ fp, H b = none) → (tm.m2 n n).rows.length = n → Tw (tm.m2 n n) → Q (.ref a) H'
end L2
namespace L2
open PySem PySem.Spec PyProof.Rows Mth
/-- whole numbers, truths and None in lists and tuples, n deep at most -/
def plD : Nat → PyData → Prop
  | _, .none => True
  | _, .bool _ => True
  | _, .int _ => True
  | n + 1, .list ds => ∀ d ∈ ds, plD n d
  | n + 1, .tuple ds => ∀ d ∈ ds, plD n d
  | _, _ => False
theorem ix_anyK {X : Cx} {K : PySem.W.Frag} (h : X.K = K) : IxR X (rIxA K) := by
  subst h
  exact ix_any
end L2
namespace L2
open PySem PySem.Spec PyProof.Rows Mth
section
variable {K : PySem.W.Frag} {C : Addr} {H H1 H' : Hp} {a b : Addr} {fp fp' fpb L M : List Addr} {m m' mb : HoldM}
/-- its own objects are there, and no tuples -/
theorem HoldAt.notups (h : HoldAt K C H a fp m) : NoTups H fp := by
  obtain ⟨⟨dx, pm, pf, ps, pt, vm, vs, vt, kvs, rfl, ha, hdx, hpm, hpf, hps, hpt, _⟩, _⟩ := h
  intro c hc
  simp only [List.mem_cons, List.not_mem_nil, or_false] at hc
  rcases hc with rfl | rfl | rfl | rfl | rfl | rfl
  · exact ⟨_, ha, rfl⟩
  · exact ⟨_, hdx, rfl⟩
  · exact ⟨_, hpm, rfl⟩
  · exact ⟨_, hpf, rfl⟩
  · exact ⟨_, hps, rfl⟩
  · exact ⟨_, hpt, rfl⟩
theorem HoldAt.mem (h : HoldAt K C H a fp m) : a ∈ fp := by
  obtain ⟨⟨dx, pm, pf, ps, pt, vm, vs, vt, kvs, rfl, _⟩, _⟩ := h
  exact List.mem_cons_self
/-- a hold made later has none of what was there -/
theorem HoldAt.apart (h : HoldAt K C H a fp m) (n : ∀ c ∈ fpb, H c = none) : ∀ c ∈ fp, c ∉ fpb := fun c hc hb => by
  obtain ⟨o, e, _⟩ := h.notups c hc
  rw [n c hb] at e
  cases e
theorem But.mono (b : But L H H') (h : ∀ c ∈ L, c ∈ M) : But M H H' := fun c o e n => b c o e fun z => n (h c z)
/-- a deed on one hold leaves another one -/
theorem Deed.other (D : Deed K C H a fp m' H' fp') (h : HoldAt K C H b fpb mb) (dis : ∀ c ∈ fpb, c ∉ fp) : HoldAt K C H' b fpb mb := by
  obtain ⟨⟨dx, pm, pf, ps, pt, vm, vs, vt, kvs, rfl, ha, hdx, hpm, hpf, hps, hpt, n1, n2, n3, dm, ds, dt, df, fk⟩, q1, q2, q3, q4⟩ := h
  have g : ∀ {c o}, H c = some o → c ∈ [b, dx, pm, pf, ps, pt] → H' c = some o := fun e hc => D.but _ _ e (dis _ hc)
  exact ⟨⟨dx, pm, pf, ps, pt, vm, vs, vt, kvs, rfl, g ha (by simp), g hdx (by simp), g hpm (by simp), g hpf (by simp), g hps (by simp), g hpt (by simp), n1, n2, n3, rows_ts D.ts dm, skies_ts D.ts ds, stoves_ts D.ts dt, fun i j => (df i j).ts D.ts, fk⟩, q1, q2, q3, q4⟩
end
end L2
namespace L2
open PySem PySem.Spec PyProof.Rows Mth
theorem Tw.with {m : HoldM} {x y z : Option Int} (h : Tw m) : Tw (m.with x y z) := by
  obtain ⟨sk, fl, S, F⟩ := h
  exact ⟨sk, fl, ⟨S.sky, S.flow⟩, F⟩
end L2
namespace L2
open PySem PySem.Spec PyProof.Rows Mth
section
variable {X : Cx}
end
end L2
namespace L2
open PySem PySem.Spec PyProof.Rows Mth
end L2
namespace L2
open PySem PySem.Spec PyProof.Rows Mth
def touchP (r : List Fra) (f g : Fra) (b : Nat) : Bool := (!underM g (r.getD b (0, 1))) && !underM (r.getD (b + 1) (0, 1)) f
def touchTo (r : List Fra) (f g : Fra) (n : Nat) : List Nat := (List.range n).filter (touchP r f g)
def touchM (r : List Fra) (f g : Fra) : List Nat := touchTo r f g (r.length - 1)
def withinM (r : List Fra) (f g : Fra) : Bool := (!underM f (r.getD 0 (0, 1))) && !underM (r.getD (r.length - 1) (0, 1)) g
def sp_touched (K : PySem.W.Frag) (C : Addr) : Sp := fun vs H Q _ => ∃ a fp m, ∃ i : Nat, ∃ r v1 v2 f g, vs = [.ref a, natV i, v1, v2] ∧ HoldAt K C H a fp m ∧ m.rows[i]? = some r ∧ Dn K H (frD f) v1 ∧ Dn K H (frD g) v2 ∧ OkF 1000 f ∧ OkF 1000 g ∧
  ∀ p H', Same H H' → H' p = some (.lst ((touchM r f g).map natV)) → Q (.ref p) H'
def sp_within (K : PySem.W.Frag) (C : Addr) : Sp := fun vs H Q _ => ∃ a fp m, ∃ i : Nat, ∃ r v1 v2 f g, vs = [.ref a, natV i, v1, v2] ∧ HoldAt K C H a fp m ∧ m.rows[i]? = some r ∧ Dn K H (frD f) v1 ∧ Dn K H (frD g) v2 ∧ OkF 1000 f ∧ OkF 1000 g ∧
  ∀ H', Same H H' → Q (.bl (withinM r f g)) H'
end L2
namespace L2
open PySem PySem.Spec PyProof.Rows Mth
end L2
namespace L2
open PySem PySem.Spec PyProof.Rows Mth
end L2
namespace L2
open PySem PySem.Spec PyProof.Rows Mth
def natD (n : Nat) : PyData := .int (n : Int)
end L2
namespace L2
open PySem PySem.Spec PyProof.Rows Mth
def cutI (ns : List Int) (lo hi : Option Int) : List Int := (ns.drop (HT.sIx ns.length 0 lo)).take (HT.sIx ns.length ns.length hi - HT.sIx ns.length 0 lo)
end L2
namespace L2
open PySem PySem.Spec PyProof.Rows Mth
/-- o.m(..), whatever class o is of -/
def tDyn (P : Program) (w : World) (K : PySem.W.Frag) (mg : Str → Option Value) (base : Heap) (m : Str) (k : Nat) (ta : TE) (t : TA) : TE := fun σ H Q => ta σ H fun x H1 =>
  ∃ C a dx fs ps sp, x = .ref a ∧ H1 a = some (.ins C dx fs) ∧ fs.lookup m = none ∧ Cls K C ∧ MDef P w K mg base C m k ps [] sp ∧ t σ H1 fun vs H2 => sp (.ref a :: (vs ++ [])) H2 Q E0
section
variable {X : Cx} {P : Program} {w : World} {K : PySem.W.Frag} {mg : Str → Option Value} {base : Heap} {m x : Str} {p pos apos : Pos} {e o : Expr} {es : List Expr} {ta : TE} {t : TA} {k : Nat}
/-- a def of the class at C, read off the class -/
structure ClsFn (K : PySem.W.Frag) (C : Addr) (m : Str) (f : Addr) : Prop where
  ga : PySem.W.specialIn K (.ref C) "__getattribute__" = some (some (.builtin "type.__getattribute__"))
  rd : ∃ mc, PySem.W.readsIn K C mc = true ∧ PySem.W.findCls K (.ref C) mc m = some (.val (.ref f))
  kp : PySem.W.keepIn K (.ref f) = true
end
/-- a def that is read off its class -/
def CDef (P : Program) (w : World) (K : PySem.W.Frag) (mg : Str → Option Value) (base : Heap) (C : Addr) (m : Str) (k : Nat) (ps : List Str) (sp : Sp) : Prop :=
  ∃ f fd, ClsFn K C m f ∧ Binds K fd ps [] ∧ FnOk P w K mg base CX0 k f fd ps sp
theorem MDef.mono {P : Program} {w : World} {K : PySem.W.Frag} {mg : Str → Option Value} {base : Heap} {C : Addr} {m : Str} {j k : Nat} {ps : List Str} {ds : List Value} {sp : Sp} (h : MDef P w K mg base C m j ps ds sp) (hk : j ≤ k) : MDef P w K mg base C m k ps ds sp := by
  obtain ⟨f, fd, M, B, F⟩ := h
  exact ⟨f, fd, M, B, F.mono hk⟩
end L2
namespace Tx
open PySem PySem.Builtin PySem.Builtin.Str
theorem ext {a b : Str} (h : a.cps.toList = b.cps.toList) : a = b := by
  cases a; cases b
  exact congrArg Str.mk (Array.toList_inj.mp h)
theorem app (a b : Str) : (a ++ b).cps.toList = a.cps.toList ++ b.cps.toList := by
  show (a.cps ++ b.cps).toList = _
  simp
theorem len (a : Str) : a.cps.toList.length = a.length := Array.length_toList
def sl : Str := ⟨#[47]⟩
/-- a text has no slash, or is what stands ahead of the first one, and behind it -/
theorem cases (x : Str) : 47 ∉ x.cps.toList ∨ ∃ a b : Str, 47 ∉ a.cps.toList ∧ x.cps.toList = a.cps.toList ++ 47 :: b.cps.toList := by
  by_cases h : 47 ∈ x.cps.toList
  · obtain ⟨as, bs, e, n⟩ := List.eq_append_cons_of_mem h
    exact .inr ⟨⟨as.toArray⟩, ⟨bs.toArray⟩, by simpa using n, by simpa using e⟩
  · exact .inl h
theorem uniq : ∀ {a p b c : List Nat}, 47 ∉ a → 47 ∉ p → a ++ 47 :: b = p ++ 47 :: c → a = p ∧ b = c
  | [], [], _, _, _, _, e => ⟨rfl, (List.cons.inj e).2⟩
  | [], q :: p, _, _, _, hp, e => by
    have := (List.cons.inj e).1
    exact absurd (this ▸ List.mem_cons_self) hp
  | q :: a, [], _, _, ha, _, e => by
    have := (List.cons.inj e).1
    exact absurd (this ▸ List.mem_cons_self) ha
  | q :: a, r :: p, _, _, ha, hp, e => by
    have e1 := (List.cons.inj e).1
    have e2 := (List.cons.inj e).2
    obtain ⟨x, y⟩ := uniq (fun h => ha (List.mem_cons_of_mem _ h)) (fun h => hp (List.mem_cons_of_mem _ h)) e2
    exact ⟨by rw [e1, x], y⟩
theorem join2 (p q : Str) (r : List Str) : (Str.join sl (p :: q :: r)).cps.toList = p.cps.toList ++ 47 :: (Str.join sl (q :: r)).cps.toList := by
  show (p ++ sl ++ Str.join sl (q :: r)).cps.toList = _
  rw [app, app]
  show p.cps.toList ++ [47] ++ _ = _
  rw [List.append_assoc]
  rfl
theorem split_ne (x y : Str) : Txt.split x y ≠ [] := by
  unfold Txt.split
  split
  · exact List.cons_ne_nil _ _
  · split
    · exact List.cons_ne_nil _ _
    · rw [StrLaws.partsBetween_eq]
      obtain ⟨p, q, e⟩ := StrLaws.partsFrom_ne x y.length 0 (occurrences x y 0 x.length (x.length + 1))
      rw [e]
      exact List.cons_ne_nil _ _
theorem join_len : ∀ ps : List Str, ps.length ≤ (Str.join sl ps).length + 1
  | [] => by simp
  | [_] => by simp
  | p :: q :: r => by
    have h := join_len (q :: r)
    have e := congrArg List.length (join2 p q r)
    rw [len, List.length_append, List.length_cons, len, len] at e
    rw [List.length_cons]
    omega
theorem split_len (x : Str) : (Txt.split x sl).length ≤ x.length + 1 := by
  have := join_len (Txt.split x sl)
  rw [StrLaws.join_split] at this
  exact this
def strN (n : Nat) : Str := Str.ofString (toString ((n : Nat) : Int))
theorem of_list (s : String) : (Str.ofString s).cps.toList = s.toList.map Char.toNat := by
  rw [Str.ofString_eq_toList]
theorem lst_strN (n : Nat) : (strN n).cps.toList = (Nat.toDigits 10 n).map Char.toNat := by
  unfold strN
  rw [of_list]
  show (Nat.repr n).toList.map Char.toNat = _
  rw [Nat.toList_repr]
/-- a whole number as it is written -/
def Good (z : Str) : Prop := 1 ≤ z.length ∧ z.length ≤ 30 ∧ NumText.AllDigits z.cps.toList ∧ ¬ (z.cps.toList.head? = some 48 ∧ 1 < z.length)
def valOf (z : Str) : Int := ((NumText.digitsVal z.cps.toList : Nat) : Int)
def mi : Str := ⟨#[45]⟩
def negOf (z : Str) : Bool := decide (z.cps.toList.head? = some 45)
def bodyOf (z : Str) : Str := if negOf z = true then Txt.slice z (some 1) none else z
def sgOf (z : Str) : Int := if negOf z = true then -1 else 1
/-- z is read as the fraction f -/
def Rd (z : Str) (f : Int × Int) : Prop :=
  Good (Txt.partition (bodyOf z) sl).1 ∧ (negOf z = true → valOf (Txt.partition (bodyOf z) sl).1 ≠ 0) ∧ f.1 = sgOf z * valOf (Txt.partition (bodyOf z) sl).1 ∧
  (((Txt.partition (bodyOf z) sl).2.1 = sl ∧ Good (Txt.partition (bodyOf z) sl).2.2 ∧ 2 ≤ valOf (Txt.partition (bodyOf z) sl).2.2 ∧
      Int.gcd (valOf (Txt.partition (bodyOf z) sl).1) (valOf (Txt.partition (bodyOf z) sl).2.2) = 1 ∧ f.2 = valOf (Txt.partition (bodyOf z) sl).2.2) ∨
    ((Txt.partition (bodyOf z) sl).2.1 ≠ sl ∧ f.2 = 1))
def tpOf (t : Int) : Str := if t < 0 then mi ++ strN t.natAbs else strN t.natAbs
def wrOf (t b : Int) : Str := if b = 1 then tpOf t else tpOf t ++ sl ++ strN b.natAbs
theorem str_int (t : Int) : Str.ofString (toString t) = tpOf t := by
  cases t with
  | ofNat n =>
    unfold tpOf
    rw [if_neg (by show ¬ ((n : Int) < 0); omega)]
    rfl
  | negSucc m =>
    unfold tpOf
    rw [if_pos (Int.negSucc_lt_zero m)]
    refine ext ?_
    rw [of_list, app, lst_strN]
    have e : toString (Int.negSucc m) = "-" ++ toString (m + 1) := rfl
    rw [e, String.toList_append, List.map_append]
    show [45] ++ (Nat.repr (m + 1)).toList.map Char.toNat = [45] ++ _
    rw [Nat.toList_repr]
    rfl
end Tx
namespace L2
open PySem PySem.Spec PyProof.Rows Mth

def Its (z : Str) : It := ⟨fun i _ => i < z.cps.size, fun i H x H' => H' = H ∧ ∃ c, z.cps[i]? = some c ∧ x = .str ⟨#[c]⟩, fun i _ => z.cps.size ≤ i⟩
section
variable {X : Cx} {tg : Expr}
def iStr (tl : TE) : TI := fun σ H R => tl σ H fun x H1 => ∃ z, x = .str z ∧ R (Its z) H1
end
section
variable {X : Cx}
def rSlS : V → Option Int → Option Int → Hp → VK → Prop := fun x lo hi H Q => ∃ z, x = .str z ∧ z.length ≤ sizeLine ∧ ∀ y, y = PySem.Txt.slice z lo hi → y.length ≤ z.length → Q (.str y) H
theorem sl_str : SlR X rSlS := by
  intro pins s σ H x v vl vu lo hi sl Q I rx hs pl pu h
  obtain ⟨z, rfl, hz, q⟩ := h
  obtain ⟨t, rfl⟩ := rx
  refine ⟨"str", _, F.slot_str_getitem.lookup, typeIs_str _ _ _, ?_⟩
  have q' := q _ rfl (PySem.Txt.slice_le z lo hi)
  cases pl <;> cases pu
  · exact wpAny_getItem_str_slice (l := none) (u := none) (st := none) hs rfl (post_val_or_str ⟨Nat.le_trans (PySem.Txt.slice_le z _ _) hz, fun t' k => ⟨.str _, H, I.tok _, ⟨_, rfl⟩, q'⟩⟩)
  · rename_i j uj
    exact wpAny_getItem_str_slice (l := none) (u := some (j, uj)) (st := none) hs rfl (post_val_or_str ⟨Nat.le_trans (PySem.Txt.slice_le z _ _) hz, fun t' k => ⟨.str _, H, I.tok _, ⟨_, rfl⟩, q'⟩⟩)
  · rename_i i ui
    exact wpAny_getItem_str_slice (l := some (i, ui)) (u := none) (st := none) hs rfl (post_val_or_str ⟨Nat.le_trans (PySem.Txt.slice_le z _ _) hz, fun t' k => ⟨.str _, H, I.tok _, ⟨_, rfl⟩, q'⟩⟩)
  · rename_i i ui j uj
    exact wpAny_getItem_str_slice (l := some (i, ui)) (u := some (j, uj)) (st := none) hs rfl (post_val_or_str ⟨Nat.le_trans (PySem.Txt.slice_le z _ _) hz, fun t' k => ⟨.str _, H, I.tok _, ⟨_, rfl⟩, q'⟩⟩)
def rStarts : V → List V → Hp → VK → Prop := fun x vs H Q => ∃ a b, x = .str a ∧ vs = [.str b] ∧ Q (.bl (PySem.Txt.startswith a b)) H
def rIndexS : V → List V → Hp → VK → Prop := fun x vs H Q => ∃ a b i r, x = .str a ∧ vs = [.str b] ∧ Builtin.Str.occurrences a b 0 a.length 1 = i :: r ∧ ∀ j : Int, j = (i : Nat) → Q (.int j) H
theorem strs_of : ∀ {ys : List Str} {us : List Value}, Vals (ys.map V.str) us → ∃ l : List (Str × Tok), us = strValues l ∧ l.map (·.1) = ys
  | [], us, r => by
    rw [List.map_nil] at r
    cases r
    exact ⟨[], rfl, rfl⟩
  | y :: ys, us, r => by
    rw [List.map_cons] at r
    cases r with
    | cons r1 r2 =>
      obtain ⟨t, rfl⟩ := r1
      obtain ⟨l, rfl, e⟩ := strs_of r2
      exact ⟨(y, t) :: l, rfl, by rw [List.map_cons, e]⟩
def rJoin (K : PySem.W.Frag) : V → List V → Hp → VK → Prop := fun x vs H Q => ∃ a p ys, x = .str a ∧ vs = [.ref p] ∧ SqL K H p (ys.map V.str) ∧ JoinOk a ys = true ∧ Q (.str (PySem.Txt.join a ys)) H
theorem mt_join : MtR X "str.join" (rJoin X.K) := by
  intro pins s σ H x vs v us Q I rx rv h
  obtain ⟨a, p, ys, rfl, rfl, hp, hj, q⟩ := h
  obtain ⟨t, rfl⟩ := rx
  obtain ⟨u, rfl, ru⟩ := rv.one
  cases ru
  obtain ⟨its, r, pl, _⟩ := I.list hp
  obtain ⟨l, rfl, e⟩ := strs_of r
  exact SC.join pl.isList e hj fun t' k => ⟨.str _, H, I.tok _, ⟨_, rfl⟩, q⟩
end

def figs : Str := Str.ofString "0123456789"
theorem str_inj {a b : Str} : V.str a = V.str b ↔ a = b := ⟨fun e => by cases e; rfl, fun e => by rw [e]⟩
theorem at_list {α : Type} (l : List α) {m : Int} (h0 : 0 ≤ m) (h1 : m < l.length) : ∃ c, atI l m = some c ∧ c ∈ l := by
  obtain ⟨j, rfl⟩ := Int.eq_ofNat_of_zero_le h0
  have hj : j < l.length := by omega
  exact ⟨l[j], atI_nat (List.getElem?_eq_getElem hj), List.getElem_mem hj⟩
theorem cdiv {j : Int} (h : 0 < j) (h1 : j < 2 ^ 100) {i : Int} : CDivB i j := ⟨by omega, bdS 8999 (by omega) h1⟩
end L2
namespace L2
open PySem PySem.Spec PyProof.Rows Mth
theorem bt_str : bootBuiltins "str" = some (.type "str") := by decide +kernel
section
variable {X : Cx} {x : Str} {p pos : Pos} {e : Expr} {es : List Expr} {t : TA} {k : Nat} {ps : List Str} {sp : Sp} {E : XK}
end
section
variable {X : Cx} {a b c : Expr} {ta tb tc : TE} {pos : Pos}
/-- {x} within f'..', x an int -/
def tFmt (ta : TE) : TE := fun σ H Q => ta σ H fun x H1 => ∃ i : Int, x = .int i ∧ i.natAbs.log2 < 1920 ∧ Q (.str (Str.ofString (toString i))) H1
def tJoin3 (ta tb tc : TE) : TE := fun σ H Q => ta σ H fun x H1 => ∃ s1 : Str, x = .str s1 ∧ s1.length ≤ sizeLine ∧ tb σ H1 fun y H2 => ∃ s2 : Str, y = .str s2 ∧ (s1 ++ s2).length ≤ sizeLine ∧ tc σ H2 fun z H3 => ∃ s3 : Str, z = .str s3 ∧ (s1 ++ s2 ++ s3).length ≤ sizeLine ∧ Q (.str (s1 ++ s2 ++ s3)) H3
end
section
variable {X : Cx}
def rPart : V → List V → Hp → VK → Prop := fun x vs H Q => ∃ a b, x = .str a ∧ vs = [.str b] ∧ (b.length == 0) = false ∧ a.length ≤ sizeLine ∧
  ∀ p, H p = none → Q (.ref p) (upd H p (.tup [.str (PySem.Txt.partition a b).1, .str (PySem.Txt.partition a b).2.1, .str (PySem.Txt.partition a b).2.2]))
theorem vals_strs : ∀ (l : List (Str × Tok)), Vals ((l.map (·.1)).map V.str) (strValues l)
  | [] => .nil
  | (_, _) :: l => .cons ⟨_, rfl⟩ (vals_strs l)
def rSplit : V → List V → Hp → VK → Prop := fun x vs H Q => ∃ a b, x = .str a ∧ vs = [.str b] ∧ (b.length == 0) = false ∧ a.length ≤ sizeLine ∧ (PySem.Txt.split a b).length ≤ sizeLine ∧
  ∀ p, H p = none → Q (.ref p) (upd H p (.lst ((PySem.Txt.split a b).map V.str)))
theorem mt_split : MtR X "str.split" rSplit := by
  intro pins s σ H x vs v us Q I rx rv h
  obtain ⟨a, b, rfl, rfl, hb, hz, hl, q⟩ := h
  obtain ⟨t, rfl⟩ := rx
  obtain ⟨u, rfl, ru⟩ := rv.one
  obtain ⟨t', rfl⟩ := ru
  have q' := q s.heap.objs.size (I.hok.fresh (Nat.le_refl _))
  unfold PySem.Txt.split at q' hl
  have lay : ∀ (l : List (Str × Tok)) (tk : Nat) (ys : List Str), l.map (·.1) = ys → ys.length ≤ sizeLine → Q (.ref s.heap.objs.size) (upd H s.heap.objs.size (.lst (ys.map V.str))) →
      EP X pins σ Q (.ref s.heap.objs.size) { s with toks := tk, heap := s.heap.push { cls := .type "list", data := .seq (strValues l).toArray } } := fun l tk ys e hy q => by
    subst e
    refine ⟨.ref s.heap.objs.size, _, I.laid (fun b u e => Heap.get?_push_of_some _ e) (Nat.le_refl _) ?_, rfl, q⟩
    exact ⟨by rw [List.length_map]; exact hy, _, 0, vals_strs l, Heap.get?_push_size _ rfl⟩
  cases h1 : (decide (a.length < b.length) || decide (Builtin.Str.strKind a < Builtin.Str.strKind b))
  · rw [h1, if_neg Bool.false_ne_true] at q' hl
    cases hf : (Builtin.Str.occurrences a b 0 a.length (a.length + 1)).isEmpty
    · rw [hf, if_neg Bool.false_ne_true] at q' hl
      refine call_meets F.slot_str_split (typeIs_str _ _ _) F.entry_str_split (F.args_str_split_2 _ _) (meets_str_split_sep a b t t' h1 hb hf hz hl) ?_
      show wants (EP X pins σ Q) X.xe _ { s with toks := _, heap := s.heap.push { cls := .type "list", data := .seq (strsFrom s.toks (Builtin.Str.partsBetween a (Builtin.Str.occurrences a b 0 a.length (a.length + 1)) b.length)).toArray } }
      rw [strsFrom_eq]
      exact lay (numbered s.toks _) _ _ (numbered_texts _ _) hl q'
    · rw [hf, if_pos rfl] at q' hl
      exact call_meets F.slot_str_split (typeIs_str _ _ _) F.entry_str_split (F.args_str_split_2 _ _) (meets_str_split_not_found a b t t' h1 hb hf) (lay [(a, t)] s.toks _ rfl hl q')
  · rw [h1, if_pos rfl] at q' hl
    exact call_meets F.slot_str_split (typeIs_str _ _ _) F.entry_str_split (F.args_str_split_2 _ _) (meets_str_split_cannot_occur a b t t' h1) (lay [(a, t)] s.toks _ rfl hl q')
end
end L2
namespace L2
open PySem PySem.Spec PyProof.Rows Mth
section
variable {X : Cx}
def rUpper : V → List V → Hp → VK → Prop := fun x vs H Q => ∃ a, x = .str a ∧ vs = [] ∧ a.length ≤ 1000 ∧ ∀ y : Str, y.length ≤ 3 * a.length → Q (.str y) H
theorem mt_upper : MtR X "str.upper" rUpper := by
  intro pins s σ H x vs v us Q I rx rv h
  obtain ⟨a, rfl, rfl, hl, q⟩ := h
  obtain ⟨t, rfl⟩ := rx
  cases rv
  exact SC.upper (fit_upper (by omega)) ⟨.str _, H, I.tok _, ⟨_, rfl⟩, q _ (len_upper a)⟩
/-- c * n, c one sign -/
def rMulS : R2 := fun x y H Q => ∃ (c : Nat) (n : Int), x = .str ⟨#[c]⟩ ∧ y = .int n ∧ n ≤ 1000 ∧ -1000 ≤ n ∧ ∀ z : Str, z.cps.toList = List.replicate n.toNat c → Q (.str z) H
theorem fold_sign (c : Nat) : ∀ (k : Nat) (a : Array Nat), ((List.replicate k #[c]).foldl (· ++ ·) a).toList = a.toList ++ List.replicate k c
  | 0, a => by simp
  | k + 1, a => by
    rw [List.replicate_succ, List.foldl_cons, fold_sign c k, Array.toList_append, List.append_assoc]
    rfl
theorem mul_sign (c : Nat) (n : Int) : (PySem.Txt.mul ⟨#[c]⟩ n).cps.toList = List.replicate n.toNat c := by
  unfold PySem.Txt.mul
  by_cases h : n < 1
  · rw [if_pos h, show n.toNat = 0 by omega]
    rfl
  · rw [if_neg h]
    by_cases h1 : (n == 1 || (⟨#[c]⟩ : Str).length == 0) = true
    · rw [if_pos h1]
      have : n = 1 := by
        rw [Bool.or_eq_true, beq_iff_eq, beq_iff_eq] at h1
        rcases h1 with q | q
        · exact q
        · exact absurd q (by show ¬ (1 = 0); decide)
      subst this
      rfl
    · rw [if_neg h1]
      show ((List.replicate n.toNat #[c]).foldl (· ++ ·) #[]).toList = _
      rw [fold_sign]
      rfl
theorem op_mul_str : OpR X (binaryOp .Mult) rMulS := by
  intro pins s σ H x y v u Q I rx ry h
  obtain ⟨c, n, rfl, rfl, h1, h2, q⟩ := h
  obtain ⟨t, rfl⟩ := rx
  obtain ⟨t', rfl⟩ := ry
  have hl : (⟨#[c]⟩ : Str).length = 1 := rfl
  refine SB.mul ⟨by simp only [Bool.or_eq_false_iff, decide_eq_false_iff_not]; omega, fun h3 _ => ?_, fun h3 _ => ?_⟩ fun t'' k => ⟨.str _, H, I.tok _, ⟨_, rfl⟩, q _ (mul_sign c n)⟩
  · rw [hl]
    have : (1000 : Int) ≤ (2 ^ 63 - 1) / n := (Int.le_ediv_iff_mul_le (by omega)).mpr (by omega)
    show ¬ ((1 : Int) > (2 ^ 63 - 1) / n)
    omega
  · rw [hl]
    show Builtin.Str.tooLong (1 * n.toNat) = false
    unfold Builtin.Str.tooLong
    have : (1000 : Nat) < sizeLine := small1000 (Nat.le_refl _)
    simp only [decide_eq_false_iff_not]
    omega
theorem strs_at : ∀ {ys : List Str} {us : List Value}, Vals (ys.map V.str) us → ∀ (j : Nat) (h1 : j < us.length) (h2 : j < ys.length), ∃ t, us[j] = Value.str ys[j] t
  | [], us, r, j, h1, h2 => by simp at h2
  | y :: ys, us, r, j, h1, h2 => by
    rw [List.map_cons] at r
    cases r with
    | cons r1 r2 =>
      cases j with
      | zero => exact r1
      | succ j => exact strs_at r2 j (by simpa using h1) (by simpa using h2)
theorem ne_before {k : Str} : ∀ {ns : List Str} {j : Nat}, j < ns.idxOf k → ∀ (h2 : j < ns.length), (ns[j] == k) = false
  | [], _, h, _ => by simp at h
  | a :: ns, j, h, h2 => by
    rw [List.idxOf_cons] at h
    cases hb : (a == k)
    · rw [hb, cond_false] at h
      cases j with
      | zero => exact hb
      | succ j => exact ne_before (ns := ns) (by omega) (by simpa using h2)
    · rw [hb, cond_true] at h
      omega
def isStr (k : Str) : Value → Bool
  | .str x _ => x == k
  | _ => false
/-- xs.index(w), xs a list of texts -/
def rIndexL (K : PySem.W.Frag) : V → List V → Hp → VK → Prop := fun x vs H Q => ∃ (p : Addr) (ys : List Str) (w : Str), x = .ref p ∧ vs = [.str w] ∧ SqL K H p (ys.map V.str) ∧ w ∈ ys ∧ ys.length ≤ 1000 ∧ Q (.int (ys.idxOf w : Nat)) H
theorem mt_indexL : MtR X "list.index" (rIndexL X.K) := by
  intro pins s σ H x vs v us Q I rx rv h
  obtain ⟨p, ys, w, rfl, rfl, hp, hw, hl, q⟩ := h
  cases rx
  obtain ⟨u, rfl, ru⟩ := rv.one
  obtain ⟨t, rfl⟩ := ru
  obtain ⟨its, r, pl, _⟩ := I.list hp
  obtain ⟨⟨cls, dd, data, sl⟩, ho, hc, n, hd⟩ := pl.isList
  simp only at hc hd
  subst hc hd
  have hlen : its.length = ys.length := by rw [← r.length, List.length_map]
  have hj : ys.idxOf w < ys.length := List.idxOf_lt_length_iff.mpr hw
  refine call_meets PySem.F.slot_list_index ⟨_, ho, rfl⟩ PySem.F.entry_list_index (PySem.F.args_list_index_2 _ _)
    (SeqAt.list_indexAt p its.toArray n dd sl (.str w t) (isStr w) (ys.idxOf w) (by rw [List.size_toArray]; omega) (by omega) ?_ ?_) ⟨ho, fun y hy => ?_, ⟨.int _, H, I.tok _, ⟨_, rfl⟩, q⟩⟩
  · obtain ⟨t', e⟩ := strs_at r (ys.idxOf w) (by omega) hj
    show isStr w its[ys.idxOf w] = true
    rw [e]
    show (ys[ys.idxOf w] == w) = true
    rw [List.getElem_idxOf hj]
    exact beq_self_eq_true w
  · intro m hm hlt
    have hm' : m < its.length := by simpa using hm
    obtain ⟨t', e⟩ := strs_at r m hm' (by omega)
    show isStr w its[m] = false
    rw [e]
    exact ne_before hlt (by omega)
  · have hy' : y ∈ its := by simpa using hy
    obtain ⟨j, hj', rfl⟩ := List.getElem_of_mem hy'
    obtain ⟨t', e⟩ := strs_at r j hj' (by omega)
    rw [e]
    exact SeqAt.EqAt.str_str _ t' _ t
end
end L2
namespace Rv
open PySem
theorem nolen : typeLookup (.type "list_reverseiterator") "__len__" = pure none := by rw [typeLookup_type, builtinLookup_eq_fast]; kernel_rfl
theorem hint : typeLookup (.type "list_reverseiterator") "__length_hint__" = pure (some (.builtin "list_reverseiterator.__length_hint__")) := by rw [typeLookup_type, builtinLookup_eq_fast]; kernel_rfl
section
variable {prog : Program} {w : World} {A : Around} {s : Shared} {R : Result → Shared → Prop}
variable {I : Addr} {fp wr : List Addr} {G : Array GenState → Array GenState → Prop} {n : Nat} {P : Nat → Value → Prop} {St : Nat → Shared → Prop}
theorem extend (W : WalksS prog w A.in1 I fp wr G n P St) (hT : ∀ i s, St i s → s.TypeIs (.ref I) "list_reverseiterator") (S : Addr) (res : Value) (c₀ : Nat) (hst : St 0 s) (hSf : S ∉ fp) (hI : I ∈ fp)
    (hS : s.heap.get? S = some { cls := .type "list", data := .seq #[] c₀ })
    (hR : ∀ s' acc' c', Moved (S :: wr) G s s' → s'.heap.get? S = some { cls := .type "list", dict := none, data := .seq acc' c', slots := #[] } → ItemsOf P acc' n → R (.ok (.ret res)) s') (hn : n ≤ sizeLine) :
    wpAny (model prog w) A.in1 (Builtin.List.listExtendWith (.ref S) (.ref I) res)
      (fun fin s' => match fin with | .done f => R (.ok f) s' | .again c' => c'.quiet = true ∧ codeAny (model prog w) A c' R s') (fun e s' => R (.error e) s') s := by
  have hSI : S ≠ I := fun e => hSf (e ▸ hI)
  have h1 : Builtin.List.listSameRef (.ref S) (.ref I) = false := by simp [Builtin.List.listSameRef, hSI]
  unfold Builtin.List.listExtendWith
  refine wpAny_bind (wpAny_typeOf (hT 0 _ hst) ?_)
  rw [if_neg (by rw [h1]; decide)]
  refine wpAny_bind (W.self 0 _ _ _ hst ?_)
  refine wpAny_bind (wpAny_holding ?_)
  unfold Builtin.List.listLengthHint
  refine wpAny_bind (wpAny_specialOf (hT 0 _ hst) nolen ?_)
  show wpAny _ A.in1 (specialOf (Value.ref I) (Str.ofString "__length_hint__") >>= _) _ _ _
  refine wpAny_bind (wpAny_specialOf (hT 0 _ hst) hint ?_)
  generalize hid : ("list_reverseiterator.__length_hint__" : String) = id0
  wp_delta
  rw [show splitId id0 = some ("list_reverseiterator", "__length_hint__") from by subst hid; decide +kernel]
  subst hid
  refine wpAny_bind (wpAny_isInstance (b := true) (hT 0 _ hst) (by rw [isSubtype_type]; kernel_rfl) ?_)
  refine wpAny_pure ?_
  rw [if_neg (by decide)]
  refine wpAny_pure ⟨plainId_quiet F.plain_extend_loop _, codeAny_extend_loopS W hn _ hSf _ n 0 _ _ _ rfl (Nat.zero_le _) hst hS (ItemsOf.nil P) fun s' acc' c' hm hS' hacc => hR s' acc' c' hm hS' hacc⟩
theorem init (W : WalksS prog w A.in1 I fp wr G n P St) (hT : ∀ i s, St i s → s.TypeIs (.ref I) "list_reverseiterator") (S : Addr) (hst : St 0 s) (hSf : S ∉ fp) (hI : I ∈ fp)
    (hS : s.heap.get? S = some { cls := .type "list", data := .seq #[] })
    (hR : ∀ s' acc' c', Moved (S :: wr) G s s' → s'.heap.get? S = some { cls := .type "list", dict := none, data := .seq acc' c', slots := #[] } → ItemsOf P acc' n → R (.ok (.ret .none)) s') (hn : n ≤ sizeLine) :
    wpAny (model prog w) A.in1 (Builtin.«list.__init__» ⟨[.ref S, .ref I], []⟩)
      (fun fin s' => match fin with | .done f => R (.ok f) s' | .again c' => c'.quiet = true ∧ codeAny (model prog w) A c' R s') (fun e s' => R (.error e) s') s := by
  show wpAny _ A.in1 (do let old ← Builtin.List.listItems (.ref S); Builtin.List.listUpdate (.ref S) (fun _ => #[]); letGo old.toList.reverse; Builtin.List.listExtendWith (.ref S) (.ref I) .none) _ _ s
  refine wpAny_bind ?_
  unfold Builtin.List.listItems
  refine wpAny_bind (wpAny_seqItems hS rfl (wpAny_pure ?_))
  show wpAny _ A.in1 (updateSeq S (fun _ => #[]) >>= fun _ => letGo (#[] : Array Value).toList.reverse >>= fun _ => Builtin.List.listExtendWith (.ref S) (.ref I) .none) _ _ s
  refine wpAny_bind (wpAny_updateSeq hS rfl ?_)
  have hS₂ := Heap.get?_update_self (Obj.mapSeq (fun _ => (#[] : Array Value))) hS rfl
  have oth : ∀ b o, b ≠ S → s.heap.get? b = some o → (s.heap.update S (Obj.mapSeq (fun _ => (#[] : Array Value)))).get? b = some o :=
    fun b o hb e => (Heap.get?_update_other _ _ (Ne.symm hb)).trans e
  refine wpAny_bind (wpAny_letGo ?_)
  refine extend (hn := hn) W hT S .none _ (W.frame 0 s _ s.toks hst (Nat.le_refl _) fun b hb o e => oth b o (fun h => hSf (h ▸ hb)) e) hSf hI hS₂ fun s' acc' c' hm hS' hacc => ?_
  exact hR s' acc' c' (Moved.trans W.gtrans ((Moved.refl W.grefl).then_heap (Nat.le_refl _) fun b o hb e => oth b o (fun h => hb (h ▸ List.mem_cons_self)) e) hm) hS' hacc
end
section
variable {prog : Program} {w : World} {A : Around} {E : Value → Shared → Prop} {s : Shared}
variable {I : Addr} {fp wr : List Addr} {G : Array GenState → Array GenState → Prop} {n : Nat} {P : Nat → Value → Prop} {St : Nat → Shared → Prop}
theorem call_list {Q : Value → Shared → Prop} (W : WalksS prog w A.in1.in1 I fp wr G n P St) (hT : ∀ i s, St i s → s.TypeIs (.ref I) "list_reverseiterator") (hst : St 0 s) (hfp : ∀ b ∈ fp, b < s.heap.objs.size) (hI : I ∈ fp)
    (hQ : ∀ s' acc' c', Moved (s.heap.objs.size :: wr) G { s with heap := s.heap.push { cls := .type "list", data := .seq #[] } } s' →
      s'.heap.get? s.heap.objs.size = some { cls := .type "list", dict := none, data := .seq acc' c', slots := #[] } → ItemsOf P acc' n → Q (.ref s.heap.objs.size) s') (hn : n ≤ sizeLine) :
    wpAny (model prog w) A (call (.type "list") [.ref I]) Q E s := by
  have hSf : s.heap.objs.size ∉ fp := fun hm => Nat.lt_irrefl _ (hfp _ hm)
  refine callType_codes (Q₁ := fun obj s₁ => obj = .ref s.heap.objs.size ∧ s₁ = { s with heap := s.heap.push { cls := .type "list", data := .seq #[] } }) F.called_list (F.typeCall_list_1 _) F.entry_list_init
    (code_list_new _ ⟨rfl, rfl⟩) fun obj s₁ h₁ => ?_
  obtain ⟨rfl, rfl⟩ := h₁
  have hS : (s.heap.push { cls := .type "list", data := .seq #[] }).get? s.heap.objs.size = some { cls := .type "list", data := .seq #[] } := Heap.get?_push_size _ rfl
  refine ⟨⟨_, hS, rfl⟩, F.args_list_init_2 _ _, init (hn := hn) W hT _ (W.frame 0 s _ s.toks hst (Nat.le_refl _) fun b _ o e => Heap.get?_push_of_some _ e) hSf hI hS fun s' acc' c' hm hS' hacc => ?_⟩
  exact ⟨rfl, hQ s' acc' c' hm hS' hacc⟩
end
end Rv
namespace L2
open PySem PySem.Spec PyProof.Rows Mth
theorem bt_reversed : bootBuiltins "reversed" = some (.type "reversed") := by decide +kernel
section
variable {X : Cx} {e : Expr} {te : TE} {p1 p2 pos1 pos2 : Pos}
def tListRev (K : PySem.W.Frag) (te : TE) : TE := fun σ H Q => te σ H fun x H1 => ∃ p ys, x = .ref p ∧ SqL K H1 p ys ∧ ∀ l, H1 l = none → Q (.ref l) (upd H1 l (.lst ys.reverse))
theorem vals_rev {ys : List V} {its : List Value} (r : Vals ys its) {acc : List Value} (hl : acc.length = its.length) (h : ∀ j v, acc[j]? = some v → its[its.length - 1 - j]? = some v) : Vals ys.reverse acc := by
  have e : acc = its.reverse := by
    apply List.ext_getElem?
    intro j
    rcases Nat.lt_or_ge j acc.length with q | q
    · have h1 := h j acc[j] (List.getElem?_eq_getElem q)
      rw [List.getElem?_eq_getElem q, List.getElem?_reverse (by omega)]
      exact h1.symm
    · rw [List.getElem?_eq_none q, List.getElem?_eq_none (by rw [List.length_reverse]; omega)]
  subst e
  clear h hl
  induction r with
  | nil => exact .nil
  | cons r1 r2 ih =>
    rw [List.reverse_cons, List.reverse_cons]
    exact Vals.append ih (.cons r1 .nil)
theorem pe_listrev (hc : X.calm = true) (he : PE X e te) (hg1 : Gl X "list") (hm1 : X.mg "list" = none) (hg2 : Gl X "reversed") (hm2 : X.mg "reversed" = none)
    (hs : starEach [e] X.env = [(false, eval e X.env)] := by rfl)
    (hs2 : starEach [.Call (.Name "reversed" p2) [e] [] pos2] X.env = [(false, eval (.Call (.Name "reversed" p2) [e] [] pos2) X.env)] := by rfl) :
    PE X (.Call (.Name "list" p1) [.Call (.Name "reversed" p2) [e] [] pos2] [] pos1) (tListRev X.K te) := by
  intro pins s σ H Q I h
  refine wpAny_Call_Name_kw (ld_blt I hg1 hm1 bt_list ?_ (by decide) (by decide))
  refine PyProof.Rows.callWith_type1 ?_ hs2 rfl
  rw [hs2]
  refine Calls.spliced_cons ?_
  refine wpAny_Call_Name_kw (ld_blt I hg2 hm2 bt_reversed ?_ (by decide) (by decide))
  refine PyProof.Rows.callWith_type1 ?_ hs rfl
  rw [hs]
  refine Calls.spliced_cons (thn (he pins s σ H _ I h) fun v s1 ⟨x, H1, I1, r1, q1⟩ => Calls.spliced_nil ?_)
  obtain ⟨p, ys, rfl, hq, q⟩ := q1
  cases r1
  obtain ⟨its, rv, pl, hz⟩ := I1.list hq
  have hp : p < s1.heap.objs.size := by obtain ⟨_, eo, _⟩ := pl.isList; exact Heap.lt_size eo
  refine call_reversed_list pl.isList ?_
  refine Calls.spliced_nil ?_
  have hne : p ≠ s1.heap.objs.size := Nat.ne_of_lt hp
  have W := (Walks.listRev (prog := X.prog) (w := X.w) (A := X.A.in1.in1) (I1.ok.hd hc) s1.heap.objs.size p hne its.toArray).toS
  refine Rv.call_list W (fun i s st => st.2.1.typeIs) ⟨Nat.zero_le _, ⟨_, Heap.get?_push_size _ rfl, rfl, ?_⟩, pl.isList.push _⟩ (fun b hb => ?_) (by simp) (fun s' acc' c' hm hS hacc => ?_) (by rw [List.size_toArray, ← rv.length]; exact hz)
  · simp [revObj]
  · simp only [List.mem_cons, List.not_mem_nil, or_false] at hb
    show b < (s1.heap.push _).objs.size
    rw [Heap.size_push]
    rcases hb with z | z <;> rw [z]
    · exact Nat.lt_succ_self _
    · exact Nat.lt_succ_of_lt hp
  · rw [Moved.eq_with hm]
    have sz : (s1.heap.push (revObj p ((its.toArray.size : Int) - 1))).objs.size = s1.heap.objs.size + 1 := Heap.size_push _ _
    rw [sz] at hm hS ⊢
    refine ⟨.ref (s1.heap.objs.size + 1), upd H1 (s1.heap.objs.size + 1) (.lst ys.reverse), I1.laid (fun b u eb => ?_) (Nat.le_succ _) ?_, rfl, q _ (I1.hok.fresh (Nat.le_succ _))⟩
    · have hb := Heap.lt_size eb
      refine hm.heap b u (fun hmem => ?_) (Heap.get?_push_of_some _ (Heap.get?_push_of_some _ eb))
      rcases List.mem_cons.mp hmem with z | z
      · exact absurd hb (by rw [z]; exact Nat.not_lt.mpr (Nat.le_succ _))
      · exact absurd hb (by rw [List.mem_singleton.mp z]; exact Nat.lt_irrefl _)
    · have ha : acc'.toList.length = its.length := by rw [Array.length_toList, hacc.1]; simp
      refine ⟨by rw [List.length_reverse]; exact hz, acc'.toList, c', vals_rev rv ha fun j v ev => ?_, by simpa using hS⟩
      have := hacc.2 j v (by rw [← Array.getElem?_toList]; exact ev)
      simpa using this
end
end L2
namespace Rp
open PySem Builtin Builtin.Str
theorem gives1 (x y z : Str) (t u v k : Tok)
    (hf : (u == 0 || v == 0) = false ∧ (u == v) = false ∧ (y == z) = false ∧ tooLong (x.length + (occurrences x y 0 x.length 1).length * z.length) = false) :
    Gives («str.replace» ⟨[.str x t, .str y u, .str z v, .int 1 k], []⟩) (if ((occurrences x y 0 x.length 1).isEmpty || (y.length == 0 && z.length == 0)) = true then .val (.str x t) else .str (glued z (partsBetween x (occurrences x y 0 x.length 1) y.length))) := by
  show Gives (if ((occurrences x y 0 x.length 1).isEmpty || (y.length == 0 && z.length == 0)) = true then (do rule "str.replace.nothing"; ret (.str x t)) else
          (do let same ← isSame (.str y u) (.str z v)
              if same = true then (do rule "str.replace.old-is-new"; ret (.str x t)) else
              if tooLong (x.length + (occurrences x y 0 x.length 1).length * z.length) = true then unsupported "str.replace:memory" else
              retStr (glued z (partsBetween x (occurrences x y 0 x.length 1) y.length)))) _
  cases hc : ((occurrences x y 0 x.length 1).isEmpty || (y.length == 0 && z.length == 0))
  · obtain ⟨h0, huv, hyz, hl⟩ := hf
    rw [isSame_str_other y z u v h0 huv hyz, hl]
    exact .of_eq rfl
  · exact .rule (.of_eq rfl)
theorem fits1 {x z : Str} (y : Str) : (glued z (partsBetween x (occurrences x y 0 x.length 1) y.length)).length ≤ x.length + z.length := by
  have h1 := StrLaws.occ_length_le x y 0 x.length 1
  have hy : (glued y (partsBetween x (occurrences x y 0 x.length 1) y.length)).length = x.length := by rw [StrLaws.glued_between_self]
  rw [size_glued, length_partsBetween, Nat.add_sub_cancel] at hy
  rw [size_glued, length_partsBetween, Nat.add_sub_cancel]
  have h2 : (occurrences x y 0 x.length 1).length * z.length ≤ 1 * z.length := Nat.mul_le_mul_right _ h1
  omega
section
variable {prog : Program} {w : World} {A : Around} {E : Value → Shared → Prop} {s : Shared} {x y z : Str} {t u v k : Tok} {Q : Value → Shared → Prop}
theorem replace1 (hu : u ≠ 0) (hv : v ≠ 0) (huv : u ≠ v) (hyz : (y == z) = false) (hx : x.length ≤ 900) (hz : z.length ≤ 90)
    (hq : ∀ (r : Str) t' k, r.length ≤ x.length + z.length → Q (.str r t') { s with toks := k }) : wpAny (model prog w) A (call (.builtin "str.replace") [.str x t, .str y u, .str z v, .int 1 k]) Q E s := by
  have s1 : (1000 : Nat) < sizeLine := L2.small1000 (Nat.le_refl _)
  have hl : tooLong (x.length + (occurrences x y 0 x.length 1).length * z.length) = false := by
    have h1 := StrLaws.occ_length_le x y 0 x.length 1
    have h2 : (occurrences x y 0 x.length 1).length * z.length ≤ 1 * z.length := Nat.mul_le_mul_right _ h1
    unfold tooLong
    exact decide_eq_false (by omega)
  refine call_gives F.slot_str_replace (typeIs_str _ _ _) F.entry_str_replace (F.args_str_replace_4 _ _ _ _) (gives1 x y z t u v k ⟨by simp [hu, hv], by simp [huv], hyz, hl⟩) ?_
  have f1 := fits1 (x := x) (z := z) y
  cases hc : ((occurrences x y 0 x.length 1).isEmpty || (y.length == 0 && z.length == 0))
  · simp only [Bool.false_eq_true, if_false]
    exact ⟨by omega, hq _ _ _ f1⟩
  · simp only [if_true]
    exact hq x t s.toks (by omega)
end
end Rp
namespace L2
open PySem PySem.Spec PyProof.Rows Mth
section
variable {X : Cx} {pos : Pos}
/-- a test behind which a token has been made -/
def PTk (X : Cx) (c : Expr) (tt : TT) : Prop := ∀ (pins : List (Addr × Obj)) (s : Shared) (σ : St) (H : Hp) (Q : Bool → Hp → Prop), Inv X pins σ H s → tt σ H Q →
  wpAny (model X.prog X.w) X.A (isTrue c X.env (eval c X.env)) (fun b s' => 0 < s'.toks ∧ TP X pins σ Q b s') X.xe s
def tEqK (k : Int) (ta : TE) : TT := fun σ H Q => ta σ H fun x H1 => ∃ a : Int, x = .int a ∧ Q (decide (a = k)) H1
theorem ptk_eq {a : Expr} {ta : TE} {k : Int} {j : Nat} {cp : Pos} (ha : PE X a ta) (hm : behindInMarks .Eq (.Constant (.int k) j cp) = false) : PTk X (.Compare a [.Eq] [.Constant (.int k) j cp] pos) (tEqK k ta) := by
  intro pins s σ H Q I h
  refine wpAny_isTrue_Compare1 (thn (ha pins s σ H _ I h) fun v s1 ⟨x, H1, I1, r1, q1⟩ => ?_) hm
  obtain ⟨a, rfl, q⟩ := q1
  obtain ⟨t, rfl⟩ := r1
  refine wpAny_Constant_int ?_
  refine eq_int ?_
  exact wpAny_truthy_bool ⟨Nat.succ_pos _, H1, I1.tok _, by rw [Bool.beq_eq_decide_eq]; exact q⟩
def PSk (X : Cx) (st : List Stmt) (t : TS) : Prop := ∀ (pins : List (Addr × Obj)) (s : Shared) (σ : St) (H : Hp) (D : Ends), Inv X pins σ H s → 0 < s.toks → t D σ H → wpAny (model X.prog X.w) X.A (execs st X.env) (SP X pins D) X.xe s
theorem ps_ifk {c : Expr} {a : List Stmt} {tc : TT} {t : TS} (hc : PTk X c tc) (ha : PSk X a t) : PS X (.If c a [] pos) (tIfS tc t tNext) := by
  intro pins s σ H D I h
  refine wpAny_If (thn (hc pins s σ H _ I h) fun d s1 ⟨hk, H1, I1, q1⟩ => ?_)
  cases d with
  | true => exact ha pins s1 σ H1 D I1 hk q1
  | false => exact wpAny_execs_nil ⟨σ, H1, I1, q1⟩
/-- return x.replace(a, b, 1) -/
def tRep (i : Nat) (b : Str) : TS := fun D σ H => ∃ z : Str, σ[i]? = some (some (.str z)) ∧ z.length ≤ 900 ∧ ∀ r : Str, r.length ≤ z.length + b.length → D.rt (.str r) H
theorem psk_rep {i : Nat} {x : Str} {a b : Str} {np apos cpos p1 p2 p3 rp : Pos} {j1 j2 j3 : Nat} (hN : X.N[i]? = some x) (hv : Vis X.env.scope x) (hab : (a == b) = false) (hb : b.length ≤ 90)
    (hline : (apos.endLine == cpos.line) = true := by rfl)
    (hfew : ((backTo cpos (starEach [.Constant (.str a) j1 p1, .Constant (.str b) j2 p2, .Constant (.int 1) j3 p3] X.env)).all (fun x => !x.1) && (backToKw cpos (keywordEach [] X.env)).all (fun x => x.1.isSome)
      && decide (([.Constant (.str a) j1 p1, .Constant (.str b) j2 p2, .Constant (.int 1) j3 p3] : List Expr).length + ([] : List Keyword).length + (if ([] : List Keyword).isEmpty then 0 else 1) < 30)) = true := by rfl)
    (hd : (x == ("__debug__" : Str)) = false := by decide) (hcd : (x == ("__classdict__" : Str)) = false := by decide) :
    PSk X [.Return (some (.Call (.Attribute (.Name x np) "replace" apos) [.Constant (.str a) j1 p1, .Constant (.str b) j2 p2, .Constant (.int 1) j3 p3] [] cpos)) rp] (tRep i b) := by
  intro pins s σ H D I hk h
  obtain ⟨z, e, hz, q⟩ := h
  obtain ⟨m, hn, hl⟩ := I.loc
  obtain ⟨u, r, l⟩ := hl i x (.str z) hN e hv
  obtain ⟨t, rfl⟩ := r
  refine wpAny_execs_cons (wpAny_Return_some ?_)
  have go : (fun v s1 => v = Value.str z t ∧ s1 = s) (Value.str z t) s := ⟨rfl, rfl⟩
  have nm : wpAny (model X.prog X.w) X.A (eval (.Name x np) X.env) (fun v s1 => v = Value.str z t ∧ s1 = s) X.xe s := by
    rcases l with ⟨hk, hm⟩ | ⟨hk, c, hc, hcell⟩
    · exact wpAny_Name (wpAny_loadName_local I.ok.kind hk hn hm go) hd
    · rcases hk with hk | hk
      · exact wpAny_Name (wpAny_loadName_cell I.ok.kind hk hc hcell go) hd
      · exact wpAny_Name (wpAny_loadName_free I.ok.kind hk hc hcell go hcd) hd
  refine wpAny_Call_method_late rfl hfew hline rfl (thn nm fun v s1 ⟨ev, es⟩ => ?_)
  subst ev es
  refine ⟨"str", "str.replace", F.plainAttrs_str, F.slot_str_replace, F.type_str_replace, typeIs_str _ _ _, fun _ e => (nomatch e), ?_⟩
  refine Calls.callWith_builtin (by rfl) (Calls.evalArgs_plain ?_)
  refine Calls.spliced_cons (Calls.Constant_str (k := j1) (pos := p1) (Calls.spliced_cons (Calls.Constant_str (k := j2) (pos := p2) (Calls.spliced_cons (wpAny_Constant_int (k := j3) (pos := p3) (Calls.spliced_nil ?_))))))
  refine Rp.replace1 (Nat.ne_of_gt hk) (Nat.succ_ne_zero _) (Nat.ne_of_lt (Nat.lt_succ_self _)) hab hz hb fun r t' k hr => ?_
  exact ⟨.str r, σ, H, I.tok _, ⟨_, rfl⟩, q r hr⟩
end
end L2
namespace L2
open PySem PySem.Spec PyProof.Rows Mth
section
variable {X : Cx} {o e : Expr} {es : List Expr} {to : TE} {t : TA} {name : Str} {apos cpos : Pos} {T id : String} {r : V → List V → Hp → VK → Prop} {K : PySem.W.Frag}
theorem pe_bmK (hK : X.K = K) (pa : PlainAttrs T) (slot : Slot T name id) (hty : typeOf (.builtin id) = pure (.type "method_descriptor")) (hm : MtR X id r) (ho : PE X o to) (ha : PA X (e :: es) t)
    (hbase : attributeBase o name X.env (eval o X.env) = eval o X.env := by rfl)
    (hfew : ((backTo cpos (starEach (e :: es) X.env)).all (fun x => !x.1) && (backToKw cpos (keywordEach [] X.env)).all (fun x => x.1.isSome)
      && decide ((e :: es).length + ([] : List Keyword).length + (if ([] : List Keyword).isEmpty then 0 else 1) < 30)) = true := by rfl)
    (hline : (apos.endLine == cpos.line) = true := by rfl) (hs : starEach (e :: es) X.env = (false, eval e X.env) :: starEach es X.env := by rfl) (hplain : (backTo cpos (starEach es X.env)).any (·.1) = false := by rfl) :
    PE X (.Call (.Attribute o name apos) (e :: es) [] cpos) (tBM K T r to t) := by
  subst hK
  exact pe_bm pa slot hty hm ho ha hbase hfew hline hs hplain
theorem mt_indexLK (hK : X.K = K) : MtR X "list.index" (rIndexL K) := by subst hK; exact mt_indexL
end
end L2
namespace L2
open PySem PySem.Spec PyProof.Rows Mth
theorem op_in_seqK {X : Cx} {K : PySem.W.Frag} (hK : X.K = K) : OpR X (compareOp .In) (rIn K false) := by subst hK; exact op_in_seq
end L2
namespace Nm
open PySem PySem.Builtin PySem.Builtin.Str
def pl : Str := ⟨#[43]⟩
def sumB (l : List Nat) (b : Nat) : Nat := l.foldl (fun a r => a ||| 2 ^ r) b
/-- rising, the first one above last -/
def up : Int → List Nat → Bool
  | _, [] => true
  | last, i :: r => decide (last < (i : Int)) && up i r
def lts (l : List Nat) : List Bool := List.zipWith (fun a b => decide (a < b)) l l.tail
theorem up_lts : ∀ (i : Nat) (r : List Nat), up (i : Int) r = (lts (i :: r)).all id
  | _, [] => rfl
  | i, j :: r => by
    show (decide ((i : Int) < (j : Int)) && up (j : Int) r) = (decide (i < j) && (lts (j :: r)).all id)
    rw [up_lts j r]
    congr 1
    exact decide_eq_decide.mpr (by omega)
theorem up_all (l : List Nat) : up (-1) l = (lts l).all id := by
  cases l with
  | nil => rfl
  | cons i r =>
    rw [← up_lts]
    show (decide ((-1 : Int) < (i : Int)) && up (i : Int) r) = _
    rw [decide_eq_true (by omega)]
    rfl
/-- the words one by one -/
def go (L : List Str) : List Str → Int → Nat → Option Nat
  | [], _, b => some b
  | w :: ws, last, b => if w ∈ L ∧ last < (L.idxOf w : Int) then go L ws (L.idxOf w) (b + 2 ^ (L.idxOf w)) else none
theorem go_cons (L : List Str) (w : Str) (ws : List Str) (last : Int) (b : Nat) : go L (w :: ws) last b = if w ∈ L ∧ last < (L.idxOf w : Int) then go L ws (L.idxOf w) (b + 2 ^ (L.idxOf w)) else none := rfl
theorem add_or {b i : Nat} (h : b < 2 ^ i) : b + 2 ^ i = b ||| 2 ^ i := by
  have e := Nat.two_pow_add_eq_or_of_lt h 1
  rw [Nat.mul_one] at e
  rw [Nat.add_comm, e, Nat.or_comm]
theorem go_eq (L : List Str) : ∀ (ws : List Str) (last : Int) (b : Nat), -1 ≤ last → b < 2 ^ (last + 1).toNat →
    go L ws last b = if (∀ w ∈ ws, w ∈ L) ∧ up last (ws.map (L.idxOf ·)) = true then some (sumB (ws.map (L.idxOf ·)) b) else none
  | [], last, b, _, _ => by simp [go, up, sumB]
  | w :: ws, last, b, h0, hb => by
    unfold go
    by_cases h : w ∈ L ∧ last < (L.idxOf w : Int)
    · rw [if_pos h]
      have lb : b < 2 ^ (L.idxOf w) := Nat.lt_of_lt_of_le hb (Nat.pow_le_pow_right (by decide) (by omega))
      have e := go_eq L ws (L.idxOf w) (b + 2 ^ (L.idxOf w)) (by omega) (by
        have : ((L.idxOf w : Int) + 1).toNat = L.idxOf w + 1 := by omega
        rw [this, Nat.pow_succ]; omega)
      rw [e]
      have c : ((∀ x ∈ w :: ws, x ∈ L) ∧ up last ((w :: ws).map (L.idxOf ·)) = true) ↔ ((∀ x ∈ ws, x ∈ L) ∧ up (L.idxOf w) (ws.map (L.idxOf ·)) = true) := by
        rw [List.map_cons, List.forall_mem_cons]
        show ((w ∈ L ∧ ∀ x ∈ ws, x ∈ L) ∧ (decide (last < (L.idxOf w : Int)) && up (L.idxOf w) (ws.map (L.idxOf ·))) = true) ↔ _
        rw [decide_eq_true h.2, Bool.true_and]
        exact ⟨fun q => ⟨q.1.2, q.2⟩, fun q => ⟨⟨h.1, q.1⟩, q.2⟩⟩
      simp only [c]
      have s : sumB ((w :: ws).map (L.idxOf ·)) b = sumB (ws.map (L.idxOf ·)) (b + 2 ^ (L.idxOf w)) := by
        rw [add_or lb]; rfl
      rw [s]
    · rw [if_neg h, if_neg]
      rintro ⟨q1, q2⟩
      rw [List.map_cons] at q2
      have q2 : (decide (last < (L.idxOf w : Int)) && up (L.idxOf w) (ws.map (L.idxOf ·))) = true := q2
      rw [Bool.and_eq_true] at q2
      exact h ⟨q1 w List.mem_cons_self, of_decide_eq_true q2.1⟩
/-- what bits a text is read as -/
def dueN (L : List Str) (z : Str) : Option Nat := if z = Tx.mi then some 0 else go L (Txt.split z pl) (-1) 0
theorem idx_at {L : List Str} (nd : L.Nodup) {i : Nat} {w : Str} (h : L[i]? = some w) : w ∈ L ∧ L.idxOf w = i := by
  obtain ⟨hi, e⟩ := List.getElem?_eq_some_iff.mp h
  subst e
  exact ⟨List.getElem_mem hi, nd.idxOf_getElem i hi⟩
theorem bits_sum : ∀ (l : List Nat) (b j : Nat), (sumB l b).testBit j = (b.testBit j || decide (j ∈ l))
  | [], b, j => by simp [sumB]
  | i :: l, b, j => by
    show (sumB l (b ||| 2 ^ i)).testBit j = _
    rw [bits_sum l, Nat.testBit_or, Nat.testBit_two_pow]
    by_cases h : i = j
    · subst h; simp
    · have h2 : ¬ j = i := fun e => h e.symm
      simp [h, h2]
theorem sum_rooms {n k : Nat} (h : n < 2 ^ k) : sumB ((List.range k).filter n.testBit) 0 = n := by
  apply Nat.eq_of_testBit_eq
  intro j
  rw [bits_sum, Nat.zero_testBit, Bool.false_or]
  by_cases hj : n.testBit j = true
  · rw [hj, decide_eq_true]
    refine List.mem_filter.mpr ⟨List.mem_range.mpr ?_, hj⟩
    rcases Nat.lt_or_ge j k with q | q
    · exact q
    · rw [Nat.testBit_lt_two_pow (Nat.lt_of_lt_of_le h (Nat.pow_le_pow_right (by decide) q))] at hj
      cases hj
  · rw [Bool.eq_false_iff.mpr hj, decide_eq_false]
    intro m
    exact hj (List.mem_filter.mp m).2
theorem up_filter (p : Nat → Bool) : ∀ (k i : Nat) (last : Int), last < (i : Int) → up last ((List.range' i k).filter p) = true
  | 0, _, _, _ => rfl
  | k + 1, i, last, h => by
    rw [List.range'_succ, List.filter_cons]
    split
    · show (decide (last < (i : Int)) && up (i : Int) ((List.range' (i + 1) k).filter p)) = true
      rw [decide_eq_true h, up_filter p k (i + 1) i (by omega)]
      rfl
    · exact up_filter p k (i + 1) last (by omega)
theorem join2 (p q : Str) (r : List Str) : (Str.join pl (p :: q :: r)).cps.toList = p.cps.toList ++ 43 :: (Str.join pl (q :: r)).cps.toList := by
  show (p ++ pl ++ Str.join pl (q :: r)).cps.toList = _
  rw [Tx.app, Tx.app]
  show p.cps.toList ++ [43] ++ _ = _
  rw [List.append_assoc]
  rfl
theorem uniq : ∀ {a p b c : List Nat}, 43 ∉ a → 43 ∉ p → a ++ 43 :: b = p ++ 43 :: c → a = p ∧ b = c
  | [], [], _, _, _, _, e => ⟨rfl, (List.cons.inj e).2⟩
  | [], q :: p, _, _, _, hp, e => by
    have := (List.cons.inj e).1
    exact absurd (this ▸ List.mem_cons_self) hp
  | q :: a, [], _, _, ha, _, e => by
    have := (List.cons.inj e).1
    exact absurd (this ▸ List.mem_cons_self) ha
  | q :: a, r :: p, _, _, ha, hp, e => by
    have e1 := (List.cons.inj e).1
    have e2 := (List.cons.inj e).2
    obtain ⟨x, y⟩ := uniq (fun h => ha (List.mem_cons_of_mem _ h)) (fun h => hp (List.mem_cons_of_mem _ h)) e2
    exact ⟨by rw [e1, x], y⟩
theorem join_inj : ∀ {ps qs : List Str}, ps ≠ [] → qs ≠ [] → (∀ p ∈ ps, 43 ∉ p.cps.toList) → (∀ q ∈ qs, 43 ∉ q.cps.toList) → Str.join pl ps = Str.join pl qs → ps = qs
  | [], _, h, _, _, _, _ => absurd rfl h
  | _ :: _, [], _, h, _, _, _ => absurd rfl h
  | [p], [q], _, _, _, _, e => by rw [show p = q from e]
  | [p], q :: s :: r, _, _, hp, _, e => by
    have e2 := congrArg (fun z : Str => z.cps.toList) (show p = Str.join pl (q :: s :: r) from e)
    simp only [join2] at e2
    exact absurd (by rw [e2]; exact List.mem_append_right _ List.mem_cons_self) (hp p List.mem_cons_self)
  | p :: s :: r, [q], _, _, _, hq, e => by
    have e2 := congrArg (fun z : Str => z.cps.toList) (show Str.join pl (p :: s :: r) = q from e)
    simp only [join2] at e2
    exact absurd (by rw [← e2]; exact List.mem_append_right _ List.mem_cons_self) (hq q List.mem_cons_self)
  | p :: s :: r, q :: t :: u, _, _, hp, hq, e => by
    have e2 := congrArg (fun z : Str => z.cps.toList) e
    simp only [join2] at e2
    obtain ⟨x, y⟩ := uniq (hp p List.mem_cons_self) (hq q List.mem_cons_self) e2
    have := join_inj (ps := s :: r) (qs := t :: u) (List.cons_ne_nil _ _) (List.cons_ne_nil _ _) (fun z hz => hp z (List.mem_cons_of_mem _ hz)) (fun z hz => hq z (List.mem_cons_of_mem _ hz)) (Tx.ext y)
    rw [Tx.ext x, this]
theorem split_join {ws : List Str} (h : ws ≠ []) (hf : ∀ w ∈ ws, 43 ∉ w.cps.toList) : Txt.split (Str.join pl ws) pl = ws :=
  join_inj (Tx.split_ne _ _) h (StrLaws.split_free _ 43) hf (StrLaws.join_split _ _)
theorem join_len : ∀ ps : List Str, ps.length ≤ (Str.join pl ps).length + 1
  | [] => by simp
  | [_] => by simp
  | p :: q :: r => by
    have h := join_len (q :: r)
    have e := congrArg List.length (join2 p q r)
    rw [Tx.len, List.length_append, List.length_cons, Tx.len, Tx.len] at e
    rw [List.length_cons]
    omega
theorem split_len (x : Str) : (Txt.split x pl).length ≤ x.length + 1 := by
  have := join_len (Txt.split x pl)
  rw [StrLaws.join_split] at this
  exact this
theorem mem_join : ∀ (ps : List Str) (c : Nat), c ∈ (Str.join pl ps).cps.toList → c = 43 ∨ ∃ p ∈ ps, c ∈ p.cps.toList
  | [], c, h => by
    have h : c ∈ ([] : List Nat) := h
    cases h
  | [p], c, h => .inr ⟨p, List.mem_cons_self, h⟩
  | p :: q :: r, c, h => by
    rw [join2] at h
    rcases List.mem_append.mp h with h | h
    · exact .inr ⟨p, List.mem_cons_self, h⟩
    · rcases List.mem_cons.mp h with h | h
      · exact .inl h
      · rcases mem_join (q :: r) c h with h | ⟨z, hz, h⟩
        · exact .inl h
        · exact .inr ⟨z, List.mem_cons_of_mem _ hz, h⟩
/-- the names of a hold: unlike one another, of small letters -/
structure Ok (L : List Str) : Prop where
  nd : L.Nodup
  one : 1 ≤ L.length
  eight : L.length ≤ 8
  len : ∀ w ∈ L, w.length ≤ 8
  low : ∀ w ∈ L, ∀ c ∈ w.cps.toList, 97 ≤ c ∧ c ≤ 122
/-- the text of bits -/
def wordsOf (L : List Str) (n : Nat) : List Str := ((List.range L.length).filter n.testBit).map (L.getD · Str.empty)
def textOf (L : List Str) (n : Nat) : Str := if n = 0 then Tx.mi else Str.join pl (wordsOf L n)
theorem due_text {L : List Str} (o : Ok L) {n : Nat} (h : n < 2 ^ L.length) : dueN L (textOf L n) = some n := by
  unfold dueN textOf
  by_cases h0 : n = 0
  · rw [if_pos h0, if_pos rfl, h0]
  · rw [if_neg h0]
    have hin : ∀ i ∈ (List.range L.length).filter n.testBit, i < L.length := fun i hi => List.mem_range.mp (List.mem_filter.mp hi).1
    have hw : ∀ w ∈ wordsOf L n, w ∈ L := fun w hw => by
      obtain ⟨i, hi, rfl⟩ := List.mem_map.mp hw
      have := hin i hi
      rw [List.getD_eq_getElem?_getD, List.getElem?_eq_getElem this]
      exact List.getElem_mem this
    have hmap : (wordsOf L n).map (L.idxOf ·) = (List.range L.length).filter n.testBit := by
      unfold wordsOf
      rw [List.map_map]
      conv => rhs; rw [← List.map_id ((List.range L.length).filter n.testBit)]
      refine List.map_congr_left fun i hi => ?_
      have := hin i hi
      show L.idxOf (L.getD i Str.empty) = i
      rw [List.getD_eq_getElem?_getD, List.getElem?_eq_getElem this]
      exact o.nd.idxOf_getElem i this
    have hne : wordsOf L n ≠ [] := fun e => by
      have := congrArg (List.map (L.idxOf ·)) e
      rw [hmap] at this
      have s := sum_rooms h
      rw [this] at s
      exact h0 s.symm
    have hf : ∀ w ∈ wordsOf L n, ∀ c ∈ w.cps.toList, 97 ≤ c := fun w hm c hc => (o.low w (hw w hm) c hc).1
    rw [if_neg, split_join hne (fun w hm hc => by have := hf w hm 43 hc; omega), go_eq L _ (-1) 0 (by decide) (by decide), hmap, if_pos, sum_rooms h]
    · exact ⟨hw, by
        have := up_filter n.testBit L.length 0 (-1) (by decide)
        rw [List.range_eq_range']
        exact this⟩
    · intro e
      have : 45 ∈ (Str.join pl (wordsOf L n)).cps.toList := by rw [e]; exact List.mem_cons_self
      rcases mem_join _ _ this with q | ⟨w, hm, hc⟩
      · omega
      · have := hf w hm 45 hc; omega
end Nm
namespace Nm
open PySem PySem.Builtin PySem.Builtin.Str
def low (c : Nat) : Prop := 97 ≤ c ∧ c ≤ 122
theorem ok_of {L : List Str} (ls : List (List Nat)) (e : L.map (fun w => w.cps.toList) = ls) (nd : ls.Nodup) (h1 : 1 ≤ ls.length) (h8 : ls.length ≤ 8) (hl : ∀ l ∈ ls, l.length ≤ 8) (hc : ∀ l ∈ ls, ∀ c ∈ l, low c) : Ok L := by
  subst e
  rw [List.length_map] at h1 h8
  refine ⟨(List.pairwise_map.mp nd).imp fun q e => q (by rw [e]), h1, h8, fun w hw => ?_, fun w hw c hcw => hc _ (List.mem_map_of_mem hw) c hcw⟩
  have := hl _ (List.mem_map_of_mem hw)
  rw [Tx.len] at this
  exact this
theorem nd_map {α : Type} {n : Nat} {f : Nat → α} (h : ∀ i j, i < n → j < n → f i = f j → i = j) : ((List.range n).map f).Nodup := by
  refine List.pairwise_map.mpr (List.Pairwise.imp_of_mem (fun {i j} hi hj ne e => ?_) (List.nodup_range (n := n)))
  exact ne (h i j (List.mem_range.mp hi) (List.mem_range.mp hj) e)
theorem ok_pre {L : List Str} {W : List Nat} {m : Nat} (e : L.map (fun w => w.cps.toList) = (List.range m).map (fun k => W.take (k + 1))) (h1 : 1 ≤ m) (h8 : m ≤ 8) (hW : W.length = 8) (hc : ∀ c ∈ W, low c) : Ok L := by
  refine ok_of _ e (nd_map fun i j hi hj q => ?_) (by simp; omega) (by simp; omega) (fun l hl => ?_) (fun l hl c hcl => ?_)
  · have := congrArg List.length q
    rw [List.length_take, List.length_take] at this
    omega
  · obtain ⟨k, _, rfl⟩ := List.mem_map.mp hl
    rw [List.length_take]; omega
  · obtain ⟨k, _, rfl⟩ := List.mem_map.mp hl
    exact hc c (List.mem_of_mem_take hcl)
theorem ok_mid {L : List Str} {m a b s : Nat} {o : Nat → Nat} (e : L.map (fun w => w.cps.toList) = (List.range m).map (fun k => List.replicate a s ++ o k :: List.replicate b s)) (h1 : 1 ≤ m) (h8 : m ≤ 8) (hab : a + b ≤ 7)
    (hs : low s) (ho : ∀ k, low (o k)) (hi : ∀ i j, i < m → j < m → o i = o j → i = j) : Ok L := by
  refine ok_of _ e (nd_map fun i j hi' hj' q => hi i j hi' hj' ?_) (by simp; omega) (by simp; omega) (fun l hl => ?_) (fun l hl c hcl => ?_)
  · exact (List.cons.inj (List.append_cancel_left q)).1
  · obtain ⟨k, _, rfl⟩ := List.mem_map.mp hl
    simp; omega
  · obtain ⟨k, _, rfl⟩ := List.mem_map.mp hl
    rcases List.mem_append.mp hcl with q | q
    · rw [(List.mem_replicate.mp q).2]; exact hs
    · rcases List.mem_cons.mp q with q | q
      · rw [q]; exact ho k
      · rw [(List.mem_replicate.mp q).2]; exact hs
theorem ok_rot {L : List Str} (o : Ok L) (t : Nat) : Ok (L.drop t ++ L.take t) := by
  have p : (L.drop t ++ L.take t).Perm L := List.perm_append_comm.trans (by rw [List.take_append_drop])
  refine ⟨p.nodup_iff.mpr o.nd, by rw [p.length_eq]; exact o.one, by rw [p.length_eq]; exact o.eight, fun w hw => o.len w (p.mem_iff.mp hw), fun w hw => o.low w (p.mem_iff.mp hw)⟩
theorem le_sum : ∀ (l : List Nat) (a : Nat), a ∈ l → a ≤ l.sum
  | [], _, h => by cases h
  | b :: l, a, h => by
    rw [List.sum_cons]
    rcases List.mem_cons.mp h with q | q
    · omega
    · have := le_sum l a q; omega
theorem glue_rev (z : Str) : (Str.join pl (Txt.split z pl).reverse).length = z.length := by
  have h := congrArg Str.length (StrLaws.join_split z pl)
  rw [← StrLaws.glued_eq_join] at h ⊢
  rw [size_glued] at h ⊢
  rw [List.length_reverse, ← h]
  congr 1
  rw [List.map_reverse, List.sum_reverse]
theorem piece_len (z : Str) : ∀ w ∈ Txt.split z pl, w.length ≤ z.length := by
  have h := congrArg Str.length (StrLaws.join_split z pl)
  rw [← StrLaws.glued_eq_join, size_glued] at h
  intro w hw
  have : w.length ≤ ((Txt.split z pl).map (·.length)).sum := le_sum _ _ (List.mem_map_of_mem hw)
  omega
def abc : List Nat := [97, 98, 99, 100, 101, 102, 103, 104, 105, 106, 107, 108, 109, 110, 111, 112, 113, 114, 115, 116, 117, 118, 119, 120, 121, 122]
theorem abc_eq : (Str.ofString "abcdefghijklmnopqrstuvwxyz").cps.toList = abc := by decide +kernel
theorem abc_low : ∀ c ∈ abc, low c := by unfold low; decide
theorem abc_at : ∀ i, i < 26 → abc[i]? = some (97 + i) := by decide
end Nm


namespace K78
open PySem PySem.Spec PyProof.Rows L2 Mth
seal PE PS PSs PPs PA PG PGs PT PIf PI
def top (i : Nat) : Stmt := PySem.Challenge.pw_stoke_k78_bits_written.main.body.getD i (.Pass ⟨0, 0, 0, 0⟩)
abbrev s_has_room : Stmt := top 1
theorem sc_has_room : FnScope ["bits", "room"] ["bits", "room"] (defScope s_has_room) := ⟨rfl, rfl, rfl, by decide +kernel, rfl, by decide +kernel, by decide +kernel⟩
abbrev s_with_room : Stmt := top 2
theorem sc_with_room : FnScope ["bits", "room"] ["bits", "room"] (defScope s_with_room) := ⟨rfl, rfl, rfl, by decide +kernel, rfl, by decide +kernel, by decide +kernel⟩
abbrev s_members : Stmt := top 3
theorem sc_members : FnScope ["bits"] ["bits"] (defScope s_members) := ⟨rfl, rfl, rfl, by decide +kernel, rfl, by decide +kernel, by decide +kernel⟩
abbrev s_bits_of : Stmt := top 4
theorem sc_bits_of : FnScope ["rooms", "bits", "room"] ["rooms"] (defScope s_bits_of) := ⟨rfl, rfl, rfl, by decide +kernel, rfl, by decide +kernel, by decide +kernel⟩
abbrev s_read_bits : Stmt := top 17
theorem sc_read_bits : FnScope ["text", "names", "words", "rooms"] ["text", "names"] (defScope s_read_bits) := ⟨rfl, rfl, rfl, by decide +kernel, rfl, by decide +kernel, by decide +kernel⟩
abbrev s_show_bits : Stmt := top 18
theorem sc_show_bits : FnScope ["bits", "names"] ["bits", "names"] (defScope s_show_bits) := ⟨rfl, rfl, rfl, by decide +kernel, rfl, by decide +kernel, by decide +kernel⟩
abbrev s_law_cell_at : Stmt := top 20
theorem sc_law_cell_at : FnScope ["_law_script", "_law_k"] ["_law_script", "_law_k"] (defScope s_law_cell_at) := ⟨rfl, rfl, rfl, by decide +kernel, rfl, by decide +kernel, by decide +kernel⟩
abbrev s_law_mix : Stmt := top 21
theorem sc_law_mix : FnScope ["_law_cell", "_law_k", "_law_turn", "_law_prime"] ["_law_cell", "_law_k", "_law_turn"] (defScope s_law_mix) := ⟨rfl, rfl, rfl, by decide +kernel, rfl, by decide +kernel, by decide +kernel⟩
abbrev s_law_names : Stmt := top 22
theorem sc_law_names : FnScope ["_law_cell", "_law_letters", "_law_many", "_law_start", "_law_word", "_law_names_here", "_law_size", "_law_at", "_law_sign", "_law_k", "_law_other", "_law_turn"] ["_law_cell"] (defScope s_law_names) := ⟨rfl, rfl, rfl, by decide +kernel, rfl, by decide +kernel, by decide +kernel⟩
abbrev s_law_due : Stmt := top 23
theorem sc_law_due : FnScope ["_law_text", "_law_names_here", "_law_bits", "_law_last", "_law_word", "_law_at", "_law_k"] ["_law_text", "_law_names_here"] (defScope s_law_due) := ⟨rfl, rfl, rfl, by decide +kernel, rfl, by decide +kernel, by decide +kernel⟩
abbrev s_law_bent : Stmt := top 24
theorem sc_law_bent : FnScope ["_law_text", "_law_names_here", "_law_x", "_law_way", "_law_word"] ["_law_text", "_law_names_here", "_law_x"] (defScope s_law_bent) := ⟨rfl, rfl, rfl, by decide +kernel, rfl, by decide +kernel, by decide +kernel⟩
abbrev s_law_told : Stmt := top 25
theorem sc_law_told : FnScope ["_law_text", "_law_names_here", "_law_found", "_law_own", "_law_refused", "e"] ["_law_text", "_law_names_here"] (defScope s_law_told) := ⟨rfl, rfl, rfl, by decide +kernel, rfl, by decide +kernel, by decide +kernel⟩
abbrev s_law_is : Stmt := top 26
theorem sc_law_is : FnScope ["_law_told_here", "_law_due_here"] ["_law_told_here", "_law_due_here"] (defScope s_law_is) := ⟨rfl, rfl, rfl, by decide +kernel, rfl, by decide +kernel, by decide +kernel⟩
abbrev s_law : Stmt := top 27
theorem sc_law : FnScope ["_law_script", "_law_names_here", "_law_handed", "_law_cell", "_law_bits", "_law_some", "_law_text", "_law_shown", "_law_bent_here"] ["_law_script"] (defScope s_law) := ⟨rfl, rfl, rfl, by decide +kernel, rfl, by decide +kernel, by decide +kernel⟩
structure Ads where
  StokeError : Addr
  NoNumber : Addr
  NoHold : Addr
  TooMany : Addr
  NoStove : Addr
  NoState : Addr
  NoText : Addr
  NoLine : Addr
  NoName : Addr
  Twice : Addr
structure Txt (K : PySem.W.Frag) (mg : Str → Option Value) (A : Ads) : Prop where
  m_StokeError : mg "StokeError" = some (.ref A.StokeError)
  m_NoNumber : mg "NoNumber" = some (.ref A.NoNumber)
  m_NoHold : mg "NoHold" = some (.ref A.NoHold)
  m_TooMany : mg "TooMany" = some (.ref A.TooMany)
  m_NoStove : mg "NoStove" = some (.ref A.NoStove)
  m_NoState : mg "NoState" = some (.ref A.NoState)
  m_NoText : mg "NoText" = some (.ref A.NoText)
  m_NoLine : mg "NoLine" = some (.ref A.NoLine)
  m_NoName : mg "NoName" = some (.ref A.NoName)
  m_Twice : mg "Twice" = some (.ref A.Twice)
  x_NoText : PySem.W.excIn K A.NoText [.type "ValueError", .type "Exception", .type "BaseException", .type "object"] "ValueError.__new__" = true
  xga_NoText : PySem.W.findIn K (.ref A.NoText) "__getattribute__" = some (some (.builtin "BaseException.__getattribute__"))
  xgt_NoText : PySem.W.findIn K (.ref A.NoText) "__getattr__" = some none
  xcl_NoText : PySem.W.findIn K (.ref A.NoText) "__class__" = some (some (.builtin "object.__class__"))
  xmo_NoText : PySem.W.mroIn K A.NoText (.type "object") = some true
  xmb_NoText : PySem.W.mroIn K A.NoText (.type "BaseException") = some true
  xis_NoText : PySem.W.isClsIn K A.NoText = true
  gs : PySem.W.specialIn K (.builtin "object.__class__") "__get__" = some (some (.builtin "getset_descriptor.__get__"))
  tk : PySem.W.takesIn K (.builtin "object.__class__") = some true
  ex : PySem.W.exmOne K (.ref A.NoText) (.ref A.StokeError) = some true
  k0 : PySem.W.kitAny K (.ref A.NoText) [.ref A.NoNumber, .ref A.NoLine, .ref A.NoName, .ref A.Twice, .ref A.NoState, .ref A.TooMany, .ref A.NoHold, .ref A.NoStove] = some false
  k1 : PySem.W.kitOne K (.ref A.NoText) (.type "ValueError") = some true
  d_has_room : Has K mg "has_room" s_has_room
  d_with_room : Has K mg "with_room" s_with_room
  d_members : Has K mg "members" s_members
  d_bits_of : Has K mg "bits_of" s_bits_of
  d_read_bits : Has K mg "read_bits" s_read_bits
  d_show_bits : Has K mg "show_bits" s_show_bits
  d_law_cell_at : Has K mg "_law_cell_at" s_law_cell_at
  d_law_mix : Has K mg "_law_mix" s_law_mix
  d_law_names : Has K mg "_law_names" s_law_names
  d_law_due : Has K mg "_law_due" s_law_due
  d_law_bent : Has K mg "_law_bent" s_law_bent
  d_law_told : Has K mg "_law_told" s_law_told
  d_law_is : Has K mg "_law_is" s_law_is
  d_law : Has K mg "law" s_law
  n_ValueError : mg "ValueError" = none
  n_all : mg "all" = none
  n_bool : mg "bool" = none
  n_int : mg "int" = none
  n_isinstance : mg "isinstance" = none
  n_len : mg "len" = none
  n_list : mg "list" = none
  n_range : mg "range" = none
  n_reversed : mg "reversed" = none
  n_str : mg "str" = none
  n_zip : mg "zip" = none
theorem txt_mk {K : PySem.W.Frag} {h : Heap} {mg : Str → Option Value} (X : K.In h) (G : h.Ns mainGlobals mg)
    {c_StokeError : Addr}
    {c_NoNumber : Addr}
    {c_NoHold : Addr}
    {c_TooMany : Addr}
    {c_NoStove : Addr}
    {c_NoState : Addr}
    {c_NoText : Addr}
    {c_NoLine : Addr}
    {c_NoName : Addr}
    {c_Twice : Addr}
    {f_has_room : Addr} {od_has_room an_has_room : Option Addr} {sl_has_room : Array (Option Value)} {oc_has_room kV_has_room dc_has_room pm_has_room cd_has_room ct_has_room : Value}
    {f_with_room : Addr} {od_with_room an_with_room : Option Addr} {sl_with_room : Array (Option Value)} {oc_with_room kV_with_room dc_with_room pm_with_room cd_with_room ct_with_room : Value}
    {f_members : Addr} {od_members an_members : Option Addr} {sl_members : Array (Option Value)} {oc_members kV_members dc_members pm_members cd_members ct_members : Value}
    {f_bits_of : Addr} {od_bits_of an_bits_of : Option Addr} {sl_bits_of : Array (Option Value)} {oc_bits_of kV_bits_of dc_bits_of pm_bits_of cd_bits_of ct_bits_of : Value}
    {f_read_bits : Addr} {od_read_bits an_read_bits : Option Addr} {sl_read_bits : Array (Option Value)} {oc_read_bits kV_read_bits dc_read_bits pm_read_bits cd_read_bits ct_read_bits : Value}
    {f_show_bits : Addr} {od_show_bits an_show_bits : Option Addr} {sl_show_bits : Array (Option Value)} {oc_show_bits kV_show_bits dc_show_bits pm_show_bits cd_show_bits ct_show_bits : Value}
    {f_law_cell_at : Addr} {od_law_cell_at an_law_cell_at : Option Addr} {sl_law_cell_at : Array (Option Value)} {oc_law_cell_at kV_law_cell_at dc_law_cell_at pm_law_cell_at cd_law_cell_at ct_law_cell_at : Value}
    {f_law_mix : Addr} {od_law_mix an_law_mix : Option Addr} {sl_law_mix : Array (Option Value)} {oc_law_mix kV_law_mix dc_law_mix pm_law_mix cd_law_mix ct_law_mix : Value}
    {f_law_names : Addr} {od_law_names an_law_names : Option Addr} {sl_law_names : Array (Option Value)} {oc_law_names kV_law_names dc_law_names pm_law_names cd_law_names ct_law_names : Value}
    {f_law_due : Addr} {od_law_due an_law_due : Option Addr} {sl_law_due : Array (Option Value)} {oc_law_due kV_law_due dc_law_due pm_law_due cd_law_due ct_law_due : Value}
    {f_law_bent : Addr} {od_law_bent an_law_bent : Option Addr} {sl_law_bent : Array (Option Value)} {oc_law_bent kV_law_bent dc_law_bent pm_law_bent cd_law_bent ct_law_bent : Value}
    {f_law_told : Addr} {od_law_told an_law_told : Option Addr} {sl_law_told : Array (Option Value)} {oc_law_told kV_law_told dc_law_told pm_law_told cd_law_told ct_law_told : Value}
    {f_law_is : Addr} {od_law_is an_law_is : Option Addr} {sl_law_is : Array (Option Value)} {oc_law_is kV_law_is dc_law_is pm_law_is cd_law_is ct_law_is : Value}
    {f_law : Addr} {od_law an_law : Option Addr} {sl_law : Array (Option Value)} {oc_law kV_law dc_law pm_law cd_law ct_law : Value}
    (y_StokeError : PySem.W.nsIn K mainGlobals "StokeError" = some (some (.ref c_StokeError)))
    (y_NoNumber : PySem.W.nsIn K mainGlobals "NoNumber" = some (some (.ref c_NoNumber)))
    (y_NoHold : PySem.W.nsIn K mainGlobals "NoHold" = some (some (.ref c_NoHold)))
    (y_TooMany : PySem.W.nsIn K mainGlobals "TooMany" = some (some (.ref c_TooMany)))
    (y_NoStove : PySem.W.nsIn K mainGlobals "NoStove" = some (some (.ref c_NoStove)))
    (y_NoState : PySem.W.nsIn K mainGlobals "NoState" = some (some (.ref c_NoState)))
    (y_NoText : PySem.W.nsIn K mainGlobals "NoText" = some (some (.ref c_NoText)))
    (y_NoLine : PySem.W.nsIn K mainGlobals "NoLine" = some (some (.ref c_NoLine)))
    (y_NoName : PySem.W.nsIn K mainGlobals "NoName" = some (some (.ref c_NoName)))
    (y_Twice : PySem.W.nsIn K mainGlobals "Twice" = some (some (.ref c_Twice)))
    (y_x_NoText : PySem.W.excIn K c_NoText [.type "ValueError", .type "Exception", .type "BaseException", .type "object"] "ValueError.__new__" = true)
    (y_xga_NoText : PySem.W.findIn K (.ref c_NoText) "__getattribute__" = some (some (.builtin "BaseException.__getattribute__")))
    (y_xgt_NoText : PySem.W.findIn K (.ref c_NoText) "__getattr__" = some none)
    (y_xcl_NoText : PySem.W.findIn K (.ref c_NoText) "__class__" = some (some (.builtin "object.__class__")))
    (y_xmo_NoText : PySem.W.mroIn K c_NoText (.type "object") = some true)
    (y_xmb_NoText : PySem.W.mroIn K c_NoText (.type "BaseException") = some true)
    (y_xis_NoText : PySem.W.isClsIn K c_NoText = true)
    (y_gs : PySem.W.specialIn K (.builtin "object.__class__") "__get__" = some (some (.builtin "getset_descriptor.__get__")))
    (y_tk : PySem.W.takesIn K (.builtin "object.__class__") = some true)
    (y_ex : PySem.W.exmOne K (.ref c_NoText) (.ref c_StokeError) = some true)
    (y_k0 : PySem.W.kitAny K (.ref c_NoText) [.ref c_NoNumber, .ref c_NoLine, .ref c_NoName, .ref c_Twice, .ref c_NoState, .ref c_TooMany, .ref c_NoHold, .ref c_NoStove] = some false)
    (y_k1 : PySem.W.kitOne K (.ref c_NoText) (.type "ValueError") = some true)
    (a_has_room : PySem.W.nsIn K mainGlobals "has_room" = some (some (.ref f_has_room)))
    (l_has_room : K.lookup f_has_room = some ⟨oc_has_room, od_has_room, .func (PySem.W.fnOf "has_room" "has_room" (defArgs s_has_room) (defBody s_has_room) (defScope s_has_room) .none kV_has_room dc_has_room pm_has_room an_has_room cd_has_room ct_has_room), sl_has_room⟩)
    (co_has_room : PySem.W.codeIn K cd_has_room "has_room" = true)
    (k_has_room : PySem.W.keepIn K (.ref f_has_room) = true)
    (a_with_room : PySem.W.nsIn K mainGlobals "with_room" = some (some (.ref f_with_room)))
    (l_with_room : K.lookup f_with_room = some ⟨oc_with_room, od_with_room, .func (PySem.W.fnOf "with_room" "with_room" (defArgs s_with_room) (defBody s_with_room) (defScope s_with_room) .none kV_with_room dc_with_room pm_with_room an_with_room cd_with_room ct_with_room), sl_with_room⟩)
    (co_with_room : PySem.W.codeIn K cd_with_room "with_room" = true)
    (k_with_room : PySem.W.keepIn K (.ref f_with_room) = true)
    (a_members : PySem.W.nsIn K mainGlobals "members" = some (some (.ref f_members)))
    (l_members : K.lookup f_members = some ⟨oc_members, od_members, .func (PySem.W.fnOf "members" "members" (defArgs s_members) (defBody s_members) (defScope s_members) .none kV_members dc_members pm_members an_members cd_members ct_members), sl_members⟩)
    (co_members : PySem.W.codeIn K cd_members "members" = true)
    (k_members : PySem.W.keepIn K (.ref f_members) = true)
    (a_bits_of : PySem.W.nsIn K mainGlobals "bits_of" = some (some (.ref f_bits_of)))
    (l_bits_of : K.lookup f_bits_of = some ⟨oc_bits_of, od_bits_of, .func (PySem.W.fnOf "bits_of" "bits_of" (defArgs s_bits_of) (defBody s_bits_of) (defScope s_bits_of) .none kV_bits_of dc_bits_of pm_bits_of an_bits_of cd_bits_of ct_bits_of), sl_bits_of⟩)
    (co_bits_of : PySem.W.codeIn K cd_bits_of "bits_of" = true)
    (k_bits_of : PySem.W.keepIn K (.ref f_bits_of) = true)
    (a_read_bits : PySem.W.nsIn K mainGlobals "read_bits" = some (some (.ref f_read_bits)))
    (l_read_bits : K.lookup f_read_bits = some ⟨oc_read_bits, od_read_bits, .func (PySem.W.fnOf "read_bits" "read_bits" (defArgs s_read_bits) (defBody s_read_bits) (defScope s_read_bits) .none kV_read_bits dc_read_bits pm_read_bits an_read_bits cd_read_bits ct_read_bits), sl_read_bits⟩)
    (co_read_bits : PySem.W.codeIn K cd_read_bits "read_bits" = true)
    (k_read_bits : PySem.W.keepIn K (.ref f_read_bits) = true)
    (a_show_bits : PySem.W.nsIn K mainGlobals "show_bits" = some (some (.ref f_show_bits)))
    (l_show_bits : K.lookup f_show_bits = some ⟨oc_show_bits, od_show_bits, .func (PySem.W.fnOf "show_bits" "show_bits" (defArgs s_show_bits) (defBody s_show_bits) (defScope s_show_bits) .none kV_show_bits dc_show_bits pm_show_bits an_show_bits cd_show_bits ct_show_bits), sl_show_bits⟩)
    (co_show_bits : PySem.W.codeIn K cd_show_bits "show_bits" = true)
    (k_show_bits : PySem.W.keepIn K (.ref f_show_bits) = true)
    (a_law_cell_at : PySem.W.nsIn K mainGlobals "_law_cell_at" = some (some (.ref f_law_cell_at)))
    (l_law_cell_at : K.lookup f_law_cell_at = some ⟨oc_law_cell_at, od_law_cell_at, .func (PySem.W.fnOf "_law_cell_at" "_law_cell_at" (defArgs s_law_cell_at) (defBody s_law_cell_at) (defScope s_law_cell_at) .none kV_law_cell_at dc_law_cell_at pm_law_cell_at an_law_cell_at cd_law_cell_at ct_law_cell_at), sl_law_cell_at⟩)
    (co_law_cell_at : PySem.W.codeIn K cd_law_cell_at "_law_cell_at" = true)
    (k_law_cell_at : PySem.W.keepIn K (.ref f_law_cell_at) = true)
    (a_law_mix : PySem.W.nsIn K mainGlobals "_law_mix" = some (some (.ref f_law_mix)))
    (l_law_mix : K.lookup f_law_mix = some ⟨oc_law_mix, od_law_mix, .func (PySem.W.fnOf "_law_mix" "_law_mix" (defArgs s_law_mix) (defBody s_law_mix) (defScope s_law_mix) .none kV_law_mix dc_law_mix pm_law_mix an_law_mix cd_law_mix ct_law_mix), sl_law_mix⟩)
    (co_law_mix : PySem.W.codeIn K cd_law_mix "_law_mix" = true)
    (k_law_mix : PySem.W.keepIn K (.ref f_law_mix) = true)
    (a_law_names : PySem.W.nsIn K mainGlobals "_law_names" = some (some (.ref f_law_names)))
    (l_law_names : K.lookup f_law_names = some ⟨oc_law_names, od_law_names, .func (PySem.W.fnOf "_law_names" "_law_names" (defArgs s_law_names) (defBody s_law_names) (defScope s_law_names) .none kV_law_names dc_law_names pm_law_names an_law_names cd_law_names ct_law_names), sl_law_names⟩)
    (co_law_names : PySem.W.codeIn K cd_law_names "_law_names" = true)
    (k_law_names : PySem.W.keepIn K (.ref f_law_names) = true)
    (a_law_due : PySem.W.nsIn K mainGlobals "_law_due" = some (some (.ref f_law_due)))
    (l_law_due : K.lookup f_law_due = some ⟨oc_law_due, od_law_due, .func (PySem.W.fnOf "_law_due" "_law_due" (defArgs s_law_due) (defBody s_law_due) (defScope s_law_due) .none kV_law_due dc_law_due pm_law_due an_law_due cd_law_due ct_law_due), sl_law_due⟩)
    (co_law_due : PySem.W.codeIn K cd_law_due "_law_due" = true)
    (k_law_due : PySem.W.keepIn K (.ref f_law_due) = true)
    (a_law_bent : PySem.W.nsIn K mainGlobals "_law_bent" = some (some (.ref f_law_bent)))
    (l_law_bent : K.lookup f_law_bent = some ⟨oc_law_bent, od_law_bent, .func (PySem.W.fnOf "_law_bent" "_law_bent" (defArgs s_law_bent) (defBody s_law_bent) (defScope s_law_bent) .none kV_law_bent dc_law_bent pm_law_bent an_law_bent cd_law_bent ct_law_bent), sl_law_bent⟩)
    (co_law_bent : PySem.W.codeIn K cd_law_bent "_law_bent" = true)
    (k_law_bent : PySem.W.keepIn K (.ref f_law_bent) = true)
    (a_law_told : PySem.W.nsIn K mainGlobals "_law_told" = some (some (.ref f_law_told)))
    (l_law_told : K.lookup f_law_told = some ⟨oc_law_told, od_law_told, .func (PySem.W.fnOf "_law_told" "_law_told" (defArgs s_law_told) (defBody s_law_told) (defScope s_law_told) .none kV_law_told dc_law_told pm_law_told an_law_told cd_law_told ct_law_told), sl_law_told⟩)
    (co_law_told : PySem.W.codeIn K cd_law_told "_law_told" = true)
    (k_law_told : PySem.W.keepIn K (.ref f_law_told) = true)
    (a_law_is : PySem.W.nsIn K mainGlobals "_law_is" = some (some (.ref f_law_is)))
    (l_law_is : K.lookup f_law_is = some ⟨oc_law_is, od_law_is, .func (PySem.W.fnOf "_law_is" "_law_is" (defArgs s_law_is) (defBody s_law_is) (defScope s_law_is) .none kV_law_is dc_law_is pm_law_is an_law_is cd_law_is ct_law_is), sl_law_is⟩)
    (co_law_is : PySem.W.codeIn K cd_law_is "_law_is" = true)
    (k_law_is : PySem.W.keepIn K (.ref f_law_is) = true)
    (a_law : PySem.W.nsIn K mainGlobals "law" = some (some (.ref f_law)))
    (l_law : K.lookup f_law = some ⟨oc_law, od_law, .func (PySem.W.fnOf "law" "law" (defArgs s_law) (defBody s_law) (defScope s_law) .none kV_law dc_law pm_law an_law cd_law ct_law), sl_law⟩)
    (co_law : PySem.W.codeIn K cd_law "law" = true)
    (k_law : PySem.W.keepIn K (.ref f_law) = true)
    (z_ValueError : PySem.W.nsIn K mainGlobals "ValueError" = some none)
    (z_all : PySem.W.nsIn K mainGlobals "all" = some none)
    (z_bool : PySem.W.nsIn K mainGlobals "bool" = some none)
    (z_int : PySem.W.nsIn K mainGlobals "int" = some none)
    (z_isinstance : PySem.W.nsIn K mainGlobals "isinstance" = some none)
    (z_len : PySem.W.nsIn K mainGlobals "len" = some none)
    (z_list : PySem.W.nsIn K mainGlobals "list" = some none)
    (z_range : PySem.W.nsIn K mainGlobals "range" = some none)
    (z_reversed : PySem.W.nsIn K mainGlobals "reversed" = some none)
    (z_str : PySem.W.nsIn K mainGlobals "str" = some none)
    (z_zip : PySem.W.nsIn K mainGlobals "zip" = some none)
    : Txt K mg ⟨c_StokeError, c_NoNumber, c_NoHold, c_TooMany, c_NoStove, c_NoState, c_NoText, c_NoLine, c_NoName, c_Twice⟩ :=
  ⟨PySem.W.mg_of X G y_StokeError,
    PySem.W.mg_of X G y_NoNumber,
    PySem.W.mg_of X G y_NoHold,
    PySem.W.mg_of X G y_TooMany,
    PySem.W.mg_of X G y_NoStove,
    PySem.W.mg_of X G y_NoState,
    PySem.W.mg_of X G y_NoText,
    PySem.W.mg_of X G y_NoLine,
    PySem.W.mg_of X G y_NoName,
    PySem.W.mg_of X G y_Twice,
    y_x_NoText,
    y_xga_NoText,
    y_xgt_NoText,
    y_xcl_NoText,
    y_xmo_NoText,
    y_xmb_NoText,
    y_xis_NoText,
    y_gs,
    y_tk,
    y_ex,
    y_k0,
    y_k1,
    ⟨f_has_room, _, PySem.W.mg_of X G a_has_room, fun_mk (st := s_has_room) l_has_room co_has_room k_has_room⟩,
    ⟨f_with_room, _, PySem.W.mg_of X G a_with_room, fun_mk (st := s_with_room) l_with_room co_with_room k_with_room⟩,
    ⟨f_members, _, PySem.W.mg_of X G a_members, fun_mk (st := s_members) l_members co_members k_members⟩,
    ⟨f_bits_of, _, PySem.W.mg_of X G a_bits_of, fun_mk (st := s_bits_of) l_bits_of co_bits_of k_bits_of⟩,
    ⟨f_read_bits, _, PySem.W.mg_of X G a_read_bits, fun_mk (st := s_read_bits) l_read_bits co_read_bits k_read_bits⟩,
    ⟨f_show_bits, _, PySem.W.mg_of X G a_show_bits, fun_mk (st := s_show_bits) l_show_bits co_show_bits k_show_bits⟩,
    ⟨f_law_cell_at, _, PySem.W.mg_of X G a_law_cell_at, fun_mk (st := s_law_cell_at) l_law_cell_at co_law_cell_at k_law_cell_at⟩,
    ⟨f_law_mix, _, PySem.W.mg_of X G a_law_mix, fun_mk (st := s_law_mix) l_law_mix co_law_mix k_law_mix⟩,
    ⟨f_law_names, _, PySem.W.mg_of X G a_law_names, fun_mk (st := s_law_names) l_law_names co_law_names k_law_names⟩,
    ⟨f_law_due, _, PySem.W.mg_of X G a_law_due, fun_mk (st := s_law_due) l_law_due co_law_due k_law_due⟩,
    ⟨f_law_bent, _, PySem.W.mg_of X G a_law_bent, fun_mk (st := s_law_bent) l_law_bent co_law_bent k_law_bent⟩,
    ⟨f_law_told, _, PySem.W.mg_of X G a_law_told, fun_mk (st := s_law_told) l_law_told co_law_told k_law_told⟩,
    ⟨f_law_is, _, PySem.W.mg_of X G a_law_is, fun_mk (st := s_law_is) l_law_is co_law_is k_law_is⟩,
    ⟨f_law, _, PySem.W.mg_of X G a_law, fun_mk (st := s_law) l_law co_law k_law⟩,
    PySem.W.mg_none_of X G z_ValueError,
    PySem.W.mg_none_of X G z_all,
    PySem.W.mg_none_of X G z_bool,
    PySem.W.mg_none_of X G z_int,
    PySem.W.mg_none_of X G z_isinstance,
    PySem.W.mg_none_of X G z_len,
    PySem.W.mg_none_of X G z_list,
    PySem.W.mg_none_of X G z_range,
    PySem.W.mg_none_of X G z_reversed,
    PySem.W.mg_none_of X G z_str,
    PySem.W.mg_none_of X G z_zip⟩
section
variable {P : Program} {w : World} {K : PySem.W.Frag} {mg : Str → Option Value} {base : Heap} {Ad : Ads}
theorem ok_has_room (T : Txt K mg Ad) : Def P w K mg base "has_room" 1 ["bits", "room"] sp_has_room := by
  refine T.d_has_room.def sc_has_room (fun vs H Q E h => ?_) (fun _ _ _ _ _ _ us hl => match us, hl with | [_, _], _ => rfl) (fun f cdv A outer s H vs Q E hr h => ?_)
  · obtain ⟨n, r, rfl, _⟩ := h
    rfl
  · obtain ⟨n, r, rfl, k⟩ := h
    refine ⟨_, (pss_one (ps_ret (pe_cmpR op_eq (pe_op op_modL (pe_op op_shrL (pv 0) (pv 1)) pe_int) pe_int (nomark _)))), ?_⟩
    refine ⟨_, rfl, _, rfl, _, _, rfl, rfl, Int.natCast_nonneg _, fun s es => ⟨_, _, rfl, rfl, by decide, fun m _ _ em => ⟨rfl, ?_⟩⟩⟩
    rw [shr_odd n r es em]
    exact k
theorem ok_with_room (T : Txt K mg Ad) : Def P w K mg base "with_room" 1 ["bits", "room"] sp_with_room := by
  refine T.d_with_room.def sc_with_room (fun vs H Q E h => ?_) (fun _ _ _ _ _ _ us hl => match us, hl with | [_, _], _ => rfl) (fun f cdv A outer s H vs Q E hr h => ?_)
  · obtain ⟨n, r, rfl, _⟩ := h
    rfl
  · obtain ⟨n, r, rfl, hr1, k⟩ := h
    refine ⟨_, (pss_one (ps_ret (pe_op op_orL (pv 0) (pe_op op_shlL pe_int (pv 1))))), ?_⟩
    refine ⟨_, rfl, _, rfl, _, _, rfl, rfl, ⟨Int.natCast_nonneg _, by omega, by decide⟩, fun s es => ⟨_, _, rfl, rfl, fun m em => ?_⟩⟩
    have e1 : s = ((2 ^ r : Nat) : Int) := by rw [es, Int.toNat_natCast, Int.one_mul, Int.natCast_pow]; rfl
    rw [em, e1, bitOr_nat]
    exact k
theorem ok_members (T : Txt K mg Ad) : Def P w K mg base "members" 2 ["bits"] sp_members := by
  refine T.d_members.def sc_members (fun vs H Q E h => ?_) (fun _ _ _ _ _ _ us hl => match us, hl with | [_], _ => rfl) (fun f cdv A outer s H vs Q E hr h => ?_)
  · obtain ⟨n, rfl, _⟩ := h
    rfl
  · obtain ⟨n, rfl, hn, k⟩ := h
    refine ⟨_, (pss_one (ps_ret (pe_lc ["room"] ["bits"] [0] (.cons ⟨rfl, rfl, .inl rfl⟩ .nil) rfl (pi_range1 rfl T.n_range (pa_cons (pe_bm0 PySem.F.plainAttrs_int PySem.F.slot_int_bit_length PySem.F.type_int_bit_length mt_bitlen (pv 0)) pa_nil)) (fun _ _ _ _ _ => (pg_name (i := 0) (show (["room", "bits"] : List Str).Nodup by decide +kernel) rfl (by first | exact Or.inl rfl | exact Or.inr rfl))) (fun _ _ _ _ _ => (pif_one (pt_val (pe_callD (ok_has_room T) (hr.mono (by decide)) (pa_cons (pv 1) (pa_cons (pv 0) pa_nil)))))) (fun _ _ _ _ _ => (pv 0)) rfl (by decide +kernel) (by decide +kernel) (by decide +kernel)))), ?_⟩
    refine ⟨_, rfl, rfl, _, rfl, rfl, fun b eb => ?_⟩
    have hb : Builtin.Int.intBits (n : Int) ≤ 61 := PySem.intBits_le_iff.mpr (by simpa using hn)
    have hb2 : n < 2 ^ Builtin.Int.intBits (n : Int) := by
      have := PySem.intBits_le_iff.mp (Nat.le_refl (Builtin.Int.intBits (n : Int)))
      simpa using this
    have eN : b.toNat = Builtin.Int.intBits (n : Int) := by omega
    refine ⟨b, rfl, by omega, by omega, fun D hD => ?_⟩
    refine comp_range (fun i acc σ H' => H' = upd H D (.lst acc) ∧ acc = ((List.range i).filter n.testBit).map natV ∧ ∃ v, σ = [v, some (natV n)]) ⟨rfl, rfl, none, rfl⟩ ?_ ?_
    · rintro i acc σ H' hi ⟨rfl, rfl, v, rfl⟩
      refine ⟨_, rfl, _, rfl, n, i, (by show [_, _] = [_, _]; rw [Int.zero_add]; rfl), _, rfl, ?_⟩
      have er : ((List.range (i + 1)).filter n.testBit).map natV = ((List.range i).filter n.testBit).map natV ++ (if n.testBit i = true then [natV i] else []) := by
        rw [List.range_succ, List.filter_append, List.map_append]
        by_cases q : n.testBit i = true <;> simp [q]
      by_cases q : n.testBit i = true
      · rw [q]
        refine iteT ⟨_, rfl, upd_same, ?_, ?_, ?_, _, rfl⟩
        · have := List.length_filter_le n.testBit (List.range i)
          rw [List.length_range] at this
          rw [List.length_map]
          exact small1000 (by omega)
        · rw [upd_upd]
        · rw [er, if_pos q, Int.zero_add]; rfl
      · rw [Bool.not_eq_true] at q
        rw [q]
        refine iteF ⟨rfl, ?_, _, rfl⟩
        rw [er, q]; simp
    · rintro acc σ H' ⟨rfl, rfl, v, rfl⟩
      refine k D _ hD (same_upd hD) ?_
      rw [upd_same, eN, Bit.rooms_upto hb2 hb]

theorem ok_law_cell_at (T : Txt K mg Ad) : Def P w K mg base "_law_cell_at" 1 ["_law_script", "_law_k"] (sp_cell_at K) := by
  refine T.d_law_cell_at.def sc_law_cell_at (fun vs H Q E h => ?_) (fun _ _ _ _ _ _ us hl => match us, hl with | [_, _], _ => rfl) (fun f cdv A outer s H vs Q E hr h => ?_)
  · obtain ⟨a, ns, z, rfl, _⟩ := h
    rfl
  · obtain ⟨a, ns, z, rfl, hS, hz, k⟩ := h
    refine ⟨_, (pss_cons (ps_if (pt_cmpR op_lt (pv 1) (pe_callB call_lenL (by rfl) T.n_len bt_len (pa_cons (pv 0) pa_nil)) (nomark _)) (pss_one (ps_ret (pe_ix ix_any (pv 0) (pv 1) (fun _ _ => rfl)))) pss_nil)
      (pss_one (ps_ret pe_int))), ?_⟩
    refine ⟨_, rfl, _, rfl, _, _, rfl, .inl hS, fun n en => ⟨_, _, rfl, rfl, _, rfl, ?_⟩⟩
    rw [List.length_map] at en
    refine ite3 (fun h => ?_) (fun h => ?_)
    · have hl : z.toNat < ns.length := by omega
      have e : (ns.map V.int)[z.toNat]? = some (.int (ns[z.toNat]'hl)) := by simp [hl]
      have e2 := atI_nat e
      rw [Int.toNat_of_nonneg hz] at e2
      refine ⟨_, rfl, _, rfl, _, _, _, _, rfl, rfl, .inl hS, e2, k _ (.inl (List.getElem_mem hl))⟩
    · exact k 0 (.inr rfl)

def sp_mix : Sp := fun vs H Q _ => ∃ c k t : Int, vs = [.int c, .int k, .int t] ∧ 0 ≤ k ∧ k ≤ 1000 ∧ 0 ≤ t ∧ t ≤ 7 ∧ ∀ H' r, Same H H' → 0 ≤ r → r ≤ 65537 → Q (.int r) H'
theorem primes_at {t : Int} (h0 : 0 ≤ t) (h1 : t ≤ 7) : ∃ p : Int, atI ([.int 65537, .int 65521, .int 65519, .int 65497, .int 65479, .int 65449, .int 65447, .int 65437] : List V) t = some (.int p) ∧ 65437 ≤ p ∧ p ≤ 65537 := by
  have : t = 0 ∨ t = 1 ∨ t = 2 ∨ t = 3 ∨ t = 4 ∨ t = 5 ∨ t = 6 ∨ t = 7 := by omega
  rcases this with rfl | rfl | rfl | rfl | rfl | rfl | rfl | rfl <;> exact ⟨_, rfl, by decide, by decide⟩
theorem ok_law_mix (T : Txt K mg Ad) : Def P w K mg base "_law_mix" 1 ["_law_cell", "_law_k", "_law_turn"] sp_mix := by
  refine T.d_law_mix.def sc_law_mix (fun vs H Q E h => ?_) (fun _ _ _ _ _ _ us hl => match us, hl with | [_, _, _], _ => rfl) (fun f cdv A outer s H vs Q E hr h => ?_)
  · obtain ⟨c, k, t, rfl, _⟩ := h
    rfl
  · obtain ⟨c, k, t, rfl, k0, k1, t0, t1, q⟩ := h
    refine ⟨_, (pss_cons (ps_set (i := 3) sc_law_mix.nd rfl (by first | exact Or.inl rfl | exact Or.inr rfl) (pe_ix ix_any (pe_lst (pa_cons pe_int (pa_cons pe_int (pa_cons pe_int (pa_cons pe_int (pa_cons pe_int (pa_cons pe_int (pa_cons pe_int (pa_cons pe_int pa_nil))))))))) (pv 2) (fun _ _ => rfl)))
      (pss_one (ps_ret (pe_op op_modL (pe_op op_mulL (pe_op op_addL (pe_op op_modL (pv 0) pe_int) pe_int) (pe_op op_addL (pe_op op_addL (pe_op op_mulL (pv 1) (pv 1)) pe_int) (pe_op op_mulL pe_int (pv 2)))) (pv 3))))), ?_⟩
    obtain ⟨pr, epr, p0, p1⟩ := primes_at t0 t1
    refine ⟨(by show 8 ≤ sizeLine; decide), fun pl hpl => ⟨_, rfl, pl, _, _, _, rfl, rfl, .inl (SqL.of upd_same), epr, ?_⟩⟩
    refine ⟨_, rfl, _, _, rfl, rfl, by decide, fun m m0 m1 _ => ⟨_, _, rfl, rfl, fun a ea => ⟨_, rfl, _, rfl, _, _, rfl, rfl, ⟨100, 100, bdS 100 (by omega) (by omega), bdS 100 (by omega) (by omega), by decide⟩, fun kk ekk => ?_⟩⟩⟩
    have kk0 : 0 ≤ kk := by rw [ekk]; exact Int.mul_nonneg k0 k0
    have kk1 : kk ≤ 1000 * 1000 := by rw [ekk]; exact Int.mul_le_mul k1 k1 k0 (by decide)
    refine ⟨_, _, rfl, rfl, fun s1 es1 => ⟨_, rfl, _, _, rfl, rfl, ⟨100, 100, bdS 100 (by omega) (by omega), bdS 100 (by omega) (by omega), by decide⟩, fun tt ett => ⟨_, _, rfl, rfl, fun s2 es2 => ?_⟩⟩⟩
    refine ⟨_, _, rfl, rfl, ⟨100, 100, bdS 100 (by omega) (by omega), bdS 100 (by omega) (by omega), by decide⟩, fun pp epp => ⟨_, rfl, _, _, rfl, rfl, by omega, fun r r0 r1 _ => ?_⟩⟩
    exact q _ r (same_upd hpl) r0 (by omega)

theorem exc_NoText (T : Txt K mg Ad) : ExcCl K Ad.NoText := ⟨T.xga_NoText, T.xgt_NoText, T.xcl_NoText, T.gs, T.tk, T.xmo_NoText, T.xmb_NoText, T.xis_NoText⟩
theorem of_pl : Str.ofString "+" = Nm.pl := by decide +kernel
theorem of_mi : Str.ofString "-" = Tx.mi := by decide +kernel
def sp_bits_of (K : PySem.W.Frag) : Sp := fun vs H Q _ => ∃ p l, vs = [.ref p] ∧ SqL K H p (l.map natV) ∧ (∀ r ∈ l, r ≤ 1000) ∧ Q (natV (Nm.sumB l 0)) H
def sp_readb (K : PySem.W.Frag) (C : Addr) : Sp := fun vs H Q E => ∃ z p L, vs = [.str z, .ref p] ∧ SqL K H p (L.map V.str) ∧ L.length ≤ 8 ∧ z.length ≤ 900 ∧
  (∀ n, Nm.dueN L z = some n → ∀ H', Same H H' → Q (natV n) H') ∧ (Nm.dueN L z = none → ∀ H', Same H H' → E (.ref C) none H')
def sp_showb (K : PySem.W.Frag) : Sp := fun vs H Q _ => ∃ n p L, vs = [natV n, .ref p] ∧ SqL K H p (L.map V.str) ∧ Nm.Ok L ∧ n < 2 ^ L.length ∧ ∀ H', Same H H' → Q (.str (Nm.textOf L n)) H'
theorem sum_next {l : List Nat} {i r : Nat} (h : l[i]? = some r) : Nm.sumB (l.take (i + 1)) 0 = Nm.sumB (l.take i) 0 ||| 2 ^ r := by
  rw [take_next h]
  unfold Nm.sumB
  rw [List.foldl_append]
  rfl
theorem ok_bits_of (T : Txt K mg Ad) : Def P w K mg base "bits_of" 2 ["rooms"] (sp_bits_of K) := by
  refine T.d_bits_of.def sc_bits_of (fun vs H Q E h => ?_) (fun _ _ _ _ _ _ us hl => match us, hl with | [_], _ => rfl) (fun f cdv A outer s H vs Q E hr h => ?_)
  · obtain ⟨p, l, rfl, _⟩ := h
    rfl
  · obtain ⟨p, l, rfl, hp, hl, k⟩ := h
    refine ⟨_, (pss_cons (ps_set (i := 1) sc_bits_of.nd rfl (by first | exact Or.inl rfl | exact Or.inr rfl) pe_int)
      (pss_cons (ps_for PassesOwn.never rfl (pi_list (pv 0)) (pg_name (i := 2) sc_bits_of.nd rfl (by first | exact Or.inl rfl | exact Or.inr rfl)) (pss_one (ps_set (i := 1) sc_bits_of.nd rfl (by first | exact Or.inl rfl | exact Or.inr rfl) (pe_callD (ok_with_room T) (hr.mono (by decide)) (pa_cons (pv 1) (pa_cons (pv 2) pa_nil))))))
      (pss_one (ps_ret (pv 1))))), ?_⟩
    refine ⟨_, rfl, p, rfl, ⟨_, hp⟩, ?_⟩
    refine for_list (K := K) (a := p) (xs := l.map natV) (fun i σ H' => H' = H ∧ ∃ v, σ = [some (.ref p), some (natV (Nm.sumB (l.take i) 0)), v]) ⟨rfl, none, rfl⟩ (fun i σ H' _ e => by rw [e.1]; exact hp) ?_ ?_
    · rintro i x σ H' hx ⟨rfl, v, rfl⟩
      obtain ⟨r, er, rfl⟩ := get_natV hx
      exact ⟨_, rfl, _, rfl, _, r, rfl, hl r (List.mem_of_getElem? er), rfl, _, by rw [sum_next er]; rfl⟩
    · rintro σ H' ⟨rfl, v, rfl⟩
      rw [List.length_map, List.take_length]
      exact ⟨_, rfl, k⟩
theorem inV_str (w : Str) : ∀ l : List Str, inV (.str w) (l.map V.str) = decide (w ∈ l)
  | [] => rfl
  | a :: l => by
    show (eqV (.str a) (.str w) || inV (.str w) (l.map V.str)) = _
    rw [inV_str w l]
    show ((a == w) || decide (w ∈ l)) = _
    by_cases h : a = w
    · subst h; simp
    · have h2 : ¬ w = a := fun e => h e.symm
      simp [h, h2]
theorem flat_str (l : List Str) : (l.map V.str).all flatV = true := by
  rw [List.all_eq_true]
  intro x hx
  obtain ⟨w, _, rfl⟩ := List.mem_map.mp hx
  rfl
theorem lts_next {l : List Nat} {i a b : Nat} (h : l[i]? = some a) (h2 : l[i + 1]? = some b) : (Nm.lts l)[i]? = some (decide (a < b)) := by
  unfold Nm.lts
  rw [List.getElem?_zipWith, h, List.getElem?_tail, h2]
theorem okx_read_bits (T : Txt K mg Ad) : DefX P w K mg base "read_bits" 3 ["text", "names"] (sp_readb K Ad.NoText) := by
  refine T.d_read_bits.defX sc_read_bits (fun vs H Q E h => ?_) (fun _ _ _ _ _ _ us hl => match us, hl with | [_, _], _ => rfl) (fun f cdv A outer s H vs Q E hr h => ?_)
  · obtain ⟨z, p, L, rfl, _⟩ := h
    rfl
  · obtain ⟨z, p, L, rfl, hp, l8, hz, kg, kn⟩ := h
    refine ⟨_, (pss_cons (ps_if (pt_cmpR op_eq (pv 0) pe_str (nomark _)) (pss_one (ps_ret pe_int)) pss_nil)
      (pss_cons (ps_set (i := 2) sc_read_bits.nd rfl (by first | exact Or.inl rfl | exact Or.inr rfl) (pe_bm PySem.F.plainAttrs_str PySem.F.slot_str_split PySem.F.type_str_split mt_split (pv 0) (pa_cons pe_str pa_nil)))
      (pss_cons (ps_if (pt_not (pt_val (pe_callB (call_allB rfl) (by rfl) T.n_all bt_all (pa_cons (pe_lc ["word"] ["names"] [1] (.cons ⟨rfl, rfl, .inl rfl⟩ .nil) rfl (pi_list (pv 2)) (fun _ _ _ _ _ => (pg_name (i := 0) (show (["word", "names"] : List Str).Nodup by decide +kernel) rfl (by first | exact Or.inl rfl | exact Or.inr rfl))) (fun _ _ _ _ _ => pif_nil) (fun _ _ _ _ _ => (pe_cmpR (op_in_seqK (K := K) rfl) (pv 0) (pv 1) (by with_unfolding_all rfl))) rfl (by decide +kernel) (by decide +kernel) (by decide +kernel)) pa_nil)))) (pss_one (ps_raise rfl PySem.F.excBase_ValueError T.m_NoText T.x_NoText (thr_of fun _ _ _ z => z) (pa_cons pe_str pa_nil))) pss_nil)
      (pss_cons (ps_lc (yi := 3) ["word"] ["names"] [1] (.cons ⟨rfl, rfl, .inl rfl⟩ .nil) rfl (pi_list (pv 2)) (fun _ _ _ _ _ => (pg_name (i := 0) (show (["word", "names"] : List Str).Nodup by decide +kernel) rfl (by first | exact Or.inl rfl | exact Or.inr rfl))) (fun _ _ _ _ _ => pif_nil) (fun _ _ _ _ _ => (pe_bmK (K := K) rfl PySem.F.plainAttrs_list PySem.F.slot_list_index PySem.F.type_list_index (mt_indexLK (K := K) rfl) (pv 1) (pa_cons (pv 0) pa_nil))) rfl (by decide +kernel) (by decide +kernel) (by decide +kernel) sc_read_bits.nd rfl (by first | exact Or.inl rfl | exact Or.inr rfl) rfl)
      (pss_cons (ps_if (pt_not (pt_val (pe_callB (call_allB rfl) (by rfl) T.n_all bt_all (pa_cons (pe_lc ["one", "other"] [] [] .nil rfl (pi_zip rfl T.n_zip (pa_cons (pv 3) (pa_cons (pe_slice sl_list (pv 3) (po_some pe_int) po_none) pa_nil))) (fun _ _ _ _ _ => (pg_tupK (K := K) (n := 2) rfl rfl (pgs_cons (pg_name (i := 0) (show (["one", "other"] : List Str).Nodup by decide +kernel) rfl (by first | exact Or.inl rfl | exact Or.inr rfl)) (pgs_cons (pg_name (i := 1) (show (["one", "other"] : List Str).Nodup by decide +kernel) rfl (by first | exact Or.inl rfl | exact Or.inr rfl)) pgs_nil)))) (fun _ _ _ _ _ => pif_nil) (fun _ _ _ _ _ => (pe_cmpR op_lt (pv 0) (pv 1) (nomark _))) rfl (by decide +kernel) (by decide +kernel) (by decide +kernel)) pa_nil)))) (pss_one (ps_raise rfl PySem.F.excBase_ValueError T.m_NoText T.x_NoText (thr_of fun _ _ _ z => z) (pa_cons pe_str pa_nil))) pss_nil)
      (pss_one (ps_ret (pe_callD (ok_bits_of T) (hr.mono (by decide)) (pa_cons (pv 3) pa_nil))))))))), ?_⟩
    have hsz : z.length ≤ sizeLine := Nat.le_of_lt (small1000 (by omega))
    refine ⟨_, rfl, rfl, _, rfl, ite3 (fun h => ?_) (fun h => ?_)⟩
    · exact kg 0 (by unfold Nm.dueN; rw [if_pos (by rw [← of_mi]; exact str_inj.mp h)]) H (Same.refl _)
    have hmi : z ≠ Tx.mi := fun e => h (str_inj.mpr (by rw [e, of_mi]))
    have ls := Nm.split_len z
    unfold Nm.dueN at kg kn
    rw [if_neg hmi] at kg kn
    refine ⟨_, rfl, rfl, _, _, rfl, rfl, (by decide +kernel), hsz, (by rw [of_pl]; exact Nat.le_of_lt (small1000 (by omega))), fun pw hpw => ?_⟩
    rw [of_pl]
    rw [Nm.go_eq L _ (-1) 0 (by decide) (by decide)] at kg kn
    generalize PySem.Txt.split z Nm.pl = ws at *
    have s1 := same_upd (o := .lst (ws.map V.str)) hpw
    have kw : upd H pw (.lst (ws.map V.str)) pw = some (.lst (ws.map V.str)) := upd_same
    generalize upd H pw (.lst (ws.map V.str)) = H1 at *
    -- each word a name
    refine ⟨_, rfl, pw, rfl, ⟨_, SqL.of kw⟩, fun D hD => ?_⟩
    have nD : pw ≠ D := ne_of_none kw hD
    refine comp_list (K := K) (a := pw) (xs := ws.map V.str) (fun i acc σ H' => H' = upd H1 D (.lst acc) ∧ acc = ((ws.take i).map (fun w => decide (w ∈ L))).map V.bl ∧ ∃ v, σ = [v, some (.ref p)]) ⟨rfl, rfl, none, rfl⟩
      (fun i acc σ H' _ e => by rw [e.1]; exact SqL.of (by rw [upd_ne nD]; exact kw)) ?_ ?_
    · rintro i x acc σ H' hx ⟨rfl, rfl, v, rfl⟩
      rw [List.getElem?_map] at hx
      obtain ⟨w', ew, rfl⟩ := Option.map_eq_some_iff.mp hx
      refine ⟨_, rfl, _, rfl, p, L.map V.str, rfl, .inl ((same_upd hD).seq (s1.seq hp)), rfl, flat_str L, upd_same, ?_, ?_, ?_, _, rfl⟩
      · rw [List.length_map, List.length_map, List.length_take]; exact small1000 (by omega)
      · rw [upd_upd]
      · rw [take_next ew, List.map_append, List.map_append]
        show _ ++ [V.bl (inV (.str w') (L.map V.str))] = _
        rw [inV_str]
        rfl
    rintro acc σ H' ⟨rfl, rfl, v, rfl⟩
    rw [List.length_map, List.take_length]
    have s2 := same_upd (o := .lst ((ws.map (fun w => decide (w ∈ L))).map V.bl)) hD
    refine ⟨D, _, rfl, SqL.of upd_same, _, rfl, ?_⟩
    have kw2 := s2 _ _ kw
    generalize upd H1 D (.lst ((ws.map (fun w => decide (w ∈ L))).map V.bl)) = H2 at *
    have t2 := s1.trans s2
    cases hb : ((ws.map (fun w => decide (w ∈ L))).all id)
    · refine iteT ⟨(by show 1 ≤ sizeLine; decide), kn (if_neg fun q => ?_) _ t2⟩
      have : ((ws.map (fun w => decide (w ∈ L))).all id) = true := by
        rw [List.all_eq_true]
        intro b hb'
        obtain ⟨w', hw, rfl⟩ := List.mem_map.mp hb'
        exact decide_eq_true (q.1 w' hw)
      rw [this] at hb
      cases hb
    have hin : ∀ w ∈ ws, w ∈ L := fun w hw => by
      have := List.all_eq_true.mp hb (decide (w ∈ L)) (List.mem_map_of_mem hw)
      exact of_decide_eq_true this
    refine iteF ?_
    -- their places
    refine ⟨_, rfl, pw, rfl, ⟨_, SqL.of kw2⟩, fun D2 hD2 => ?_⟩
    have nD2 : pw ≠ D2 := ne_of_none kw2 hD2
    refine comp_list (K := K) (a := pw) (xs := ws.map V.str) (fun i acc σ H' => H' = upd H2 D2 (.lst acc) ∧ acc = ((ws.take i).map (L.idxOf ·)).map natV ∧ ∃ v, σ = [v, some (.ref p)]) ⟨rfl, rfl, none, rfl⟩
      (fun i acc σ H' _ e => by rw [e.1]; exact SqL.of (by rw [upd_ne nD2]; exact kw2)) ?_ ?_
    · rintro i x acc σ H' hx ⟨rfl, rfl, v, rfl⟩
      rw [List.getElem?_map] at hx
      obtain ⟨w', ew, rfl⟩ := Option.map_eq_some_iff.mp hx
      have hq : SqL K (upd H2 D2 (.lst (((ws.take i).map (L.idxOf ·)).map natV))) p (L.map V.str) := (same_upd hD2).seq (t2.seq hp)
      refine ⟨_, rfl, .inl ⟨rfl, _, hq⟩, _, rfl, p, L, w', rfl, rfl, hq, hin w' (List.mem_of_getElem? ew), by omega, upd_same, ?_, ?_, ?_, _, rfl⟩
      · rw [List.length_map, List.length_map, List.length_take]; exact small1000 (by omega)
      · rw [upd_upd]
      · rw [take_next ew, List.map_append, List.map_append]
        rfl
    rintro acc σ H' ⟨rfl, rfl, v, rfl⟩
    rw [List.length_map, List.take_length]
    have s3 := same_upd (o := .lst ((ws.map (L.idxOf ·)).map natV)) hD2
    have kr : upd H2 D2 (.lst ((ws.map (L.idxOf ·)).map natV)) D2 = some (.lst ((ws.map (L.idxOf ·)).map natV)) := upd_same
    have hr9 : ∀ r ∈ ws.map (L.idxOf ·), r ≤ 1000 := fun r hr => by
      obtain ⟨w', hw, rfl⟩ := List.mem_map.mp hr
      have := List.idxOf_lt_length_of_mem (hin w' hw)
      omega
    have lr : (ws.map (L.idxOf ·)).length ≤ 901 := by rw [List.length_map]; omega
    have t3 := t2.trans s3
    generalize upd H2 D2 (.lst ((ws.map (L.idxOf ·)).map natV)) = H3 at *
    generalize hrs : ws.map (L.idxOf ·) = rs at *
    -- rising
    refine ⟨_, rfl, _, rfl, 1, rfl, D2, _, rfl, SqL.of kr, fun p2 hp2 => ?_⟩
    have s4 := same_upd (o := .lst (cutV (rs.map natV) (some 1) none)) hp2
    rw [cut_tail] at s4 ⊢
    refine ⟨D2, p2, rfl, ⟨_, s4.seq (SqL.of kr)⟩, ⟨(rs.map natV).tail, SqL.of upd_same⟩, fun D3 hD3 => ?_⟩
    have hml : min (rs.map natV).length (rs.map natV).tail.length = (Nm.lts rs).length := by
      unfold Nm.lts
      rw [List.length_zipWith, List.length_tail, List.length_tail, List.length_map]
    refine comp_zip (K := K) (a := D2) (b := p2) (xs := rs.map natV) (ys := (rs.map natV).tail) (fun i acc σ H' => Same (upd H3 p2 (.lst (rs.map natV).tail)) H' ∧ H' D3 = some (.lst acc) ∧ acc = ((Nm.lts rs).take i).map V.bl ∧ ∃ v0 v1, σ = [v0, v1])
      ⟨same_upd hD3, upd_same, rfl, none, none, rfl⟩ (fun i acc σ H' _ e => ⟨e.1.seq (s4.seq (SqL.of kr)), e.1.seq (SqL.of upd_same)⟩) ?_ ?_
    · rintro i x y pp acc σ H' hx hy hpp ⟨s5, hD5, rfl, v0, v1, rfl⟩
      rw [List.getElem?_tail] at hy
      obtain ⟨a, ea, rfl⟩ := get_natV hx
      obtain ⟨b, eb, rfl⟩ := get_natV hy
      have s6 : Same H' (upd H' pp (.tup [natV a, natV b])) := same_upd hpp
      have nD3 : D3 ≠ pp := ne_of_none hD5 hpp
      refine ⟨pp, _, rfl, SqT.of upd_same, rfl, _, _, rfl, _, _, rfl, rfl, ?_⟩
      refine ⟨_, rfl, _, rfl, _, _, rfl, rfl, by rw [upd_ne nD3]; exact hD5, ?_, Same.put (s5.trans s6) hD3, upd_same, ?_, _, _, rfl⟩
      · rw [List.length_map, List.length_take]
        have : (Nm.lts rs).length ≤ rs.length := by unfold Nm.lts; rw [List.length_zipWith]; omega
        exact small1000 (by omega)
      · rw [List.take_succ, lts_next ea eb, List.map_append]
        show _ ++ [V.bl (decide ((a : Int) < (b : Int)))] = _ ++ [V.bl (decide (a < b))]
        congr 3
        exact decide_eq_decide.mpr (by omega)
    rintro acc σ H' ⟨s5, hD5, rfl, v0, v1, rfl⟩
    rw [hml, List.take_length] at hD5
    refine ⟨D3, _, rfl, SqL.of hD5, _, rfl, ?_⟩
    have t5 := t3.trans (s4.trans s5)
    rw [Nm.up_all] at kg kn
    cases hu : ((Nm.lts rs).all id)
    · exact iteT ⟨(by show 1 ≤ sizeLine; decide), kn (if_neg fun q => by rw [hu] at q; exact absurd q.2 Bool.false_ne_true) _ t5⟩
    · refine iteF ⟨_, rfl, D2, rs, rfl, SqL.of (s5 _ _ (s4 _ _ kr)), hr9, kg _ (if_pos ⟨hin, hu⟩) _ t5⟩
theorem rooms_eq {n k : Nat} (h : n < 2 ^ k) (hk : k ≤ 61) : Bit.rooms n = (List.range k).filter n.testBit := by
  unfold Bit.rooms
  have e : List.range 61 = List.range k ++ (List.range (61 - k)).map (k + ·) := by
    rw [← List.range_add]
    congr 1
    omega
  rw [e, List.filter_append]
  have : ((List.range (61 - k)).map (k + ·)).filter n.testBit = [] := by
    rw [List.filter_eq_nil_iff]
    intro j hj
    obtain ⟨a, _, rfl⟩ := List.mem_map.mp hj
    rw [Nat.testBit_lt_two_pow (Nat.lt_of_lt_of_le h (Nat.pow_le_pow_right (by decide) (Nat.le_add_right k a)))]
    exact Bool.false_ne_true
  rw [this, List.append_nil]
theorem join_fit {ys : List Str} (h : ∀ y ∈ ys, y.length ≤ 1000) (hl : ys.length ≤ 1000) : JoinOk (Str.ofString "+") ys = true := by
  have e : (Str.ofString "+").length = 1 := by decide +kernel
  unfold JoinOk
  rw [PySem.StrLaws.joinFits (B := 1000) h (by rw [e]; omega)]
  rfl
theorem ok_show_bits (T : Txt K mg Ad) : Def P w K mg base "show_bits" 3 ["bits", "names"] (sp_showb K) := by
  refine T.d_show_bits.def sc_show_bits (fun vs H Q E h => ?_) (fun _ _ _ _ _ _ us hl => match us, hl with | [_, _], _ => rfl) (fun f cdv A outer s H vs Q E hr h => ?_)
  · obtain ⟨n, p, L, rfl, _⟩ := h
    rfl
  · obtain ⟨n, p, L, rfl, hp, o, hn, k⟩ := h
    refine ⟨_, (pss_one (ps_ret (pe_ifExp (pt_cmpR op_eq (pv 0) pe_int (nomark _)) pe_str (pe_bm PySem.F.plainAttrs_str PySem.F.slot_str_join PySem.F.type_str_join mt_join pe_str (pa_cons (pe_lc ["room"] ["names"] [1] (.cons ⟨rfl, rfl, .inl rfl⟩ .nil) rfl (pi_list (pe_callD (ok_members T) (hr.mono (by decide)) (pa_cons (pv 0) pa_nil))) (fun _ _ _ _ _ => (pg_name (i := 0) (show (["room", "names"] : List Str).Nodup by decide +kernel) rfl (by first | exact Or.inl rfl | exact Or.inr rfl))) (fun _ _ _ _ _ => pif_nil) (fun _ _ _ _ _ => (pe_ix (ix_anyK (K := K) rfl) (pv 1) (pv 0) (fun _ _ => rfl))) rfl (by decide +kernel) (by decide +kernel) (by decide +kernel)) pa_nil))))), ?_⟩
    have hn61 : n < 2 ^ 61 := Nat.lt_of_lt_of_le hn (Nat.pow_le_pow_right (by decide) (by have := o.eight; omega))
    refine ⟨_, rfl, rfl, _, rfl, ite3 (fun h => ?_) (fun h => ?_)⟩
    · have e : n = 0 := by have := int_inj.mp h; omega
      have := k H (Same.refl _)
      unfold Nm.textOf at this
      rw [if_pos e, ← of_mi] at this
      exact this
    have h0 : n ≠ 0 := fun e => h (int_inj.mpr (by rw [e]; rfl))
    refine ⟨rfl, _, rfl, n, rfl, hn61, fun pm Hm hpm sm km => ⟨pm, rfl, ⟨_, SqL.of km⟩, fun D hD => ?_⟩⟩
    have nD : pm ≠ D := ne_of_none km hD
    have hroom : ∀ r ∈ Bit.rooms n, r < L.length := fun r hr => by
      have hb := (Bit.mem_rooms.mp hr).2
      rcases Nat.lt_or_ge r L.length with q | q
      · exact q
      · rw [Nat.testBit_lt_two_pow (Nat.lt_of_lt_of_le hn (Nat.pow_le_pow_right (by decide) q))] at hb
        cases hb
    refine comp_list (K := K) (a := pm) (xs := (Bit.rooms n).map natV) (fun i acc σ H' => H' = upd Hm D (.lst acc) ∧ acc = (((Bit.rooms n).take i).map (L.getD · Str.empty)).map V.str ∧ ∃ v, σ = [v, some (.ref p)]) ⟨rfl, rfl, none, rfl⟩
      (fun i acc σ H' _ e => by rw [e.1]; exact SqL.of (by rw [upd_ne nD]; exact km)) ?_ ?_
    · rintro i x acc σ H' hx ⟨rfl, rfl, v, rfl⟩
      obtain ⟨r, er, rfl⟩ := get_natV hx
      have hr := hroom r (List.mem_of_getElem? er)
      refine ⟨_, rfl, _, rfl, p, L.map V.str, (r : Int), .str (L.getD r Str.empty), rfl, rfl, .inl ((same_upd hD).seq (sm.seq hp)), atI_nat ?_, upd_same, ?_, ?_, ?_, _, rfl⟩
      · rw [List.getElem?_map, List.getD_eq_getElem?_getD, List.getElem?_eq_getElem hr]; rfl
      · rw [List.length_map, List.length_map, List.length_take]
        have := rooms_len n
        exact small1000 (by omega)
      · rw [upd_upd]
      · rw [take_next er, List.map_append, List.map_append]; rfl
    rintro acc σ H' ⟨rfl, rfl, v, rfl⟩
    rw [List.length_map, List.take_length]
    have s2 := same_upd (o := .lst (((Bit.rooms n).map (L.getD · Str.empty)).map V.str)) hD
    refine ⟨_, D, _, rfl, rfl, SqL.of upd_same, ?_, ?_⟩
    · refine join_fit (fun y hy => ?_) (by have := rooms_len n; rw [List.length_map]; omega)
      obtain ⟨r, hr, rfl⟩ := List.mem_map.mp hy
      have := hroom r hr
      rw [List.getD_eq_getElem?_getD, List.getElem?_eq_getElem this]
      exact Nat.le_trans (o.len _ (List.getElem_mem this)) (by decide)
    · have := k _ (sm.trans s2)
      unfold Nm.textOf Nm.wordsOf at this
      rw [if_neg h0, ← of_pl, ← rooms_eq hn (by have := o.eight; omega)] at this
      show Q (.str (Builtin.Str.glued _ _)) _
      rw [PySem.StrLaws.glued_eq_join]
      exact this

def sp_told (K : PySem.W.Frag) : Sp := fun vs H Q _ => ∃ z p L, vs = [.str z, .ref p] ∧ SqL K H p (L.map V.str) ∧ L.length ≤ 8 ∧ z.length ≤ 900 ∧
  (∀ n, Nm.dueN L z = some n → ∀ q H', Same H H' → H' q = some (.tup [.str (Str.ofString "told"), natV n]) → Q (.ref q) H') ∧
  (Nm.dueN L z = none → ∀ q H', Same H H' → H' q = some (.tup [.str (Str.ofString "refused"), .bl true]) → Q (.ref q) H')
def sp_is : Sp := fun vs H Q _ => ∃ p v, vs = [.ref p, .int v] ∧ (∀ H', Same H H' → Q (.bl true) H') ∧
  ((v = -1 ∧ H p = some (.tup [.str (Str.ofString "refused"), .bl true])) ∨ (0 ≤ v ∧ H p = some (.tup [.str (Str.ofString "told"), .int v])))
def sp_due (K : PySem.W.Frag) : Sp := fun vs H Q _ => ∃ z p L, vs = [.str z, .ref p] ∧ SqL K H p (L.map V.str) ∧ Nm.Ok L ∧ z.length ≤ 900 ∧
  ∀ (v : Int) H', Same H H' → ((∃ n : Nat, Nm.dueN L z = some n ∧ v = n) ∨ (Nm.dueN L z = none ∧ v = -1)) → Q (.int v) H'
def sp_bent (K : PySem.W.Frag) : Sp := fun vs H Q _ => ∃ z p L x, vs = [.str z, .ref p, .int x] ∧ SqL K H p (L.map V.str) ∧ Nm.Ok L ∧ z.length ≤ 200 ∧ ∀ y H', Same H H' → y.length ≤ 900 → Q (.str y) H'
def sp_names : Sp := fun vs H Q _ => ∃ c : Int, vs = [.int c] ∧ ∀ p L H', Same H H' → H' p = some (.lst (L.map V.str)) → Nm.Ok L → Q (.ref p) H'
theorem ok_law_told (T : Txt K mg Ad) : Def P w K mg base "_law_told" 4 ["_law_text", "_law_names_here"] (sp_told K) := by
  refine T.d_law_told.def sc_law_told (fun vs H Q E h => ?_) (fun _ _ _ _ _ _ us hl => match us, hl with | [_, _], _ => rfl) (fun f cdv A outer s H vs Q E hr h => ?_)
  · obtain ⟨z, p, L, rfl, _⟩ := h
    rfl
  · obtain ⟨z, p, L, rfl, hp, l8, hz, kg, kn⟩ := h
    refine ⟨_, (pss_cons (ps_set (i := 2) sc_law_told.nd rfl (by first | exact Or.inl rfl | exact Or.inr rfl) pe_non)
      (pss_cons (ps_set (i := 3) sc_law_told.nd rfl (by first | exact Or.inl rfl | exact Or.inr rfl) pe_bl)
      (pss_cons (ps_set (i := 4) sc_law_told.nd rfl (by first | exact Or.inl rfl | exact Or.inr rfl) pe_bl)
      (pss_cons (ps_try (i := 5) rfl rfl sc_law_told.nd rfl rfl T.m_StokeError (psx_set (i := 2) sc_law_told.nd rfl (by first | exact Or.inl rfl | exact Or.inr rfl) (px_callD (okx_read_bits T) (hr.mono (by decide)) (pa_cons (pv 0) (pa_cons (pv 1) pa_nil)))) (fun _ _ _ hcl => (pss_cons (ps_set (i := 4) sc_law_told.nd rfl (by first | exact Or.inl rfl | exact Or.inr rfl) pe_bl)
      (pss_cons (ps_set (i := 3) sc_law_told.nd rfl (by first | exact Or.inl rfl | exact Or.inr rfl) (pe_and (pe_callB (call_isE K rfl (List.mem_append_right _ (List.mem_singleton.mpr rfl)) hcl) (by rfl) T.n_isinstance bt_isinstance (pa_cons (pv 5) (pa_cons (pe_glob (v := V.ref _) rfl T.m_NoText rfl) pa_nil))) (pe_one (pe_callB (call_isE K rfl (List.mem_append_right _ (List.mem_singleton.mpr rfl)) hcl) (by rfl) T.n_isinstance bt_isinstance (pa_cons (pv 5) (pa_cons (pe_bltn (v := V.ty "ValueError") rfl T.n_ValueError bt_ValueError rfl) pa_nil))))))
      (pss_one (ps_if (pt_val (pe_callB (call_isE K rfl (List.mem_append_right _ (List.mem_singleton.mpr rfl)) hcl) (by rfl) T.n_isinstance bt_isinstance (pa_cons (pv 5) (pa_cons (pe_tup (pa_cons (pe_glob (v := V.ref _) rfl T.m_NoNumber rfl) (pa_cons (pe_glob (v := V.ref _) rfl T.m_NoLine rfl) (pa_cons (pe_glob (v := V.ref _) rfl T.m_NoName rfl) (pa_cons (pe_glob (v := V.ref _) rfl T.m_Twice rfl) (pa_cons (pe_glob (v := V.ref _) rfl T.m_NoState rfl) (pa_cons (pe_glob (v := V.ref _) rfl T.m_TooMany rfl) (pa_cons (pe_glob (v := V.ref _) rfl T.m_NoHold rfl) (pa_cons (pe_glob (v := V.ref _) rfl T.m_NoStove rfl) pa_nil))))))))) pa_nil)))) (pss_one (ps_set (i := 3) sc_law_told.nd rfl (by first | exact Or.inl rfl | exact Or.inr rfl) pe_bl)) pss_nil))))))
      (pss_cons (ps_if (pt_val (pv 4)) (pss_one (ps_ret (pe_tup (pa_cons pe_str (pa_cons (pv 3) pa_nil))))) pss_nil)
      (pss_one (ps_ret (pe_tup (pa_cons pe_str (pa_cons (pv 2) pa_nil)))))))))), ?_⟩
    refine ⟨_, rfl, _, rfl, z, p, L, rfl, hp, l8, hz, fun n en H1 s1 => ?_, fun en H1 s1 => ⟨T.ex, fun e he => ?_⟩⟩
    · exact ⟨_, rfl, _, rfl, iteF ⟨_, rfl, (by show 2 ≤ sizeLine; decide), fun q hq => kg n en q _ (s1.trans (same_upd hq)) upd_same⟩⟩
    · refine ⟨_, rfl, _, _, _, rfl, rfl, exc_NoText T, IsE.one (b := true) rfl (by show PySem.W.kitOne K (.ref Ad.NoText) (.ref Ad.NoText) = some true; unfold PySem.W.kitOne; simp), _, rfl, iteT ?_⟩
      refine ⟨_, rfl, _, _, _, rfl, rfl, exc_NoText T, IsE.one (b := true) rfl T.k1, ?_⟩
      refine ⟨_, rfl, (by show 8 ≤ sizeLine; decide), fun p hp => ?_⟩
      refine ⟨_, _, _, rfl, rfl, exc_NoText T, IsE.many upd_same (fun x hx => ?_) T.k0, _, rfl, iteF ?_⟩
      · simp only [List.mem_cons, List.not_mem_nil, or_false] at hx
        rcases hx with rfl | rfl | rfl | rfl | rfl | rfl | rfl | rfl <;> exact rfl
      exact ⟨_, rfl, _, rfl, iteT ⟨_, rfl, (by show 2 ≤ sizeLine; decide), fun q hq => kn en q _ (s1.trans ((same_upd hp).trans (same_upd hq))) upd_same⟩⟩
theorem sh_ref : SeqAt.shaped (.tuple [.str (Str.ofString "refused"), .bool true]) = true := by decide +kernel
theorem dn_str {H : Hp} {x : Str} : Dn K H (.str x) (.str x) := rfl
theorem ok_law_is (T : Txt K mg Ad) : Def P w K mg base "_law_is" 1 ["_law_told_here", "_law_due_here"] sp_is := by
  refine T.d_law_is.def sc_law_is (fun vs H Q E h => ?_) (fun _ _ _ _ _ _ us hl => match us, hl with | [_, _], _ => rfl) (fun f cdv A outer s H vs Q E hr h => ?_)
  · obtain ⟨p, v, rfl, _⟩ := h
    rfl
  · obtain ⟨p, v, rfl, k, h⟩ := h
    refine ⟨_, (pss_cons (ps_if (pt_cmpR op_lt (pv 1) pe_int (nomark _)) (pss_one (ps_ret (pe_cmpR (op_eqD hr.units) (pv 0) (pe_tup (pa_cons pe_str (pa_cons pe_bl pa_nil))) (nomark _)))) pss_nil)
      (pss_one (ps_ret (pe_and (pe_cmpR op_eq (pe_ix ix_any (pv 0) pe_int (fun _ _ => rfl)) pe_str (nomark _)) (pe_and (pe_callB call_isinst (by rfl) T.n_isinstance bt_isinstance (pa_cons (pe_ix ix_any (pv 0) pe_int (fun _ _ => rfl)) (pa_cons (pe_bltn (v := V.ty "int") rfl T.n_int bt_int rfl) pa_nil))) (pe_and (pe_not (pe_callB call_isinst (by rfl) T.n_isinstance bt_isinstance (pa_cons (pe_ix ix_any (pv 0) pe_int (fun _ _ => rfl)) (pa_cons (pe_bltn (v := V.ty "bool") rfl T.n_bool bt_bool rfl) pa_nil)))) (pe_one (pe_cmpR op_eq (pe_ix ix_any (pv 0) pe_int (fun _ _ => rfl)) (pv 1) (nomark _))))))))), ?_⟩
    rcases h with ⟨rfl, hp⟩ | ⟨v0, hp⟩
    · refine ⟨_, rfl, _, _, rfl, rfl, _, rfl, iteP (by decide) ?_⟩
      refine ⟨_, rfl, (by show 2 ≤ sizeLine; decide), fun p7 hp7 => ?_⟩
      have s7 := same_upd (o := .tup [.str (Str.ofString "refused"), .bl true]) hp7
      refine ⟨.tuple [.str (Str.ofString "refused"), .bool true], .tuple [.str (Str.ofString "refused"), .bool true], dn_tup (SqT.of (s7 _ _ hp)) (dn_cons dn_str (dn_cons dn_bl dn_nil)), dn_tup (SqT.of upd_same) (dn_cons dn_str (dn_cons dn_bl dn_nil)), sh_ref, sh_ref, ?_⟩
      have e : PyData.eqv (.tuple [.str (Str.ofString "refused"), .bool true]) (.tuple [.str (Str.ofString "refused"), .bool true]) = true := by decide +kernel
      rw [e]
      exact k _ s7
    · refine ⟨_, rfl, _, _, rfl, rfl, _, rfl, iteN (by omega) ?_⟩
      refine ⟨_, rfl, p, _, _, _, rfl, rfl, .inr (SqT.of hp), rfl, rfl, _, rfl, iteP rfl ?_⟩
      refine ⟨_, rfl, p, _, _, _, rfl, rfl, .inr (SqT.of hp), rfl, _, _, _, _, _, rfl, .int v, rfl, rfl, _, rfl, iteT ?_⟩
      refine ⟨_, rfl, p, _, _, _, rfl, rfl, .inr (SqT.of hp), rfl, _, _, _, _, _, rfl, .int v, rfl, kit_int_bool K, _, rfl, _, rfl, iteT ?_⟩
      refine ⟨_, rfl, p, _, _, _, rfl, rfl, .inr (SqT.of hp), rfl, _, rfl, rfl, ?_⟩
      exact blT rfl (k H (Same.refl _))
theorem pow_at {t : Nat} (h : t < 8) : atI ([.int 1, .int 2, .int 4, .int 8, .int 16, .int 32, .int 64, .int 128] : List V) (t : Int) = some (.int (2 ^ t : Nat)) := by
  have : t = 0 ∨ t = 1 ∨ t = 2 ∨ t = 3 ∨ t = 4 ∨ t = 5 ∨ t = 6 ∨ t = 7 := by omega
  rcases this with rfl | rfl | rfl | rfl | rfl | rfl | rfl | rfl <;> rfl
theorem ok_law_due (T : Txt K mg Ad) : Def P w K mg base "_law_due" 1 ["_law_text", "_law_names_here"] (sp_due K) := by
  refine T.d_law_due.def sc_law_due (fun vs H Q E h => ?_) (fun _ _ _ _ _ _ us hl => match us, hl with | [_, _], _ => rfl) (fun f cdv A outer s H vs Q E hr h => ?_)
  · obtain ⟨z, p, L, rfl, _⟩ := h
    rfl
  · obtain ⟨z, p, L, rfl, hp, o, hz, k⟩ := h
    refine ⟨_, (pss_cons (ps_if (pt_cmpR op_eq (pv 0) pe_str (nomark _)) (pss_one (ps_ret pe_int)) pss_nil)
      (pss_cons (ps_set (i := 2) sc_law_due.nd rfl (by first | exact Or.inl rfl | exact Or.inr rfl) pe_int)
      (pss_cons (ps_set (i := 3) sc_law_due.nd rfl (by first | exact Or.inl rfl | exact Or.inr rfl) (pe_un un_neg pe_int))
      (pss_cons (ps_for PassesOwn.never rfl (pi_list (pe_bm PySem.F.plainAttrs_str PySem.F.slot_str_split PySem.F.type_str_split mt_split (pv 0) (pa_cons pe_str pa_nil))) (pg_name (i := 4) sc_law_due.nd rfl (by first | exact Or.inl rfl | exact Or.inr rfl)) (pss_cons (ps_set (i := 5) sc_law_due.nd rfl (by first | exact Or.inl rfl | exact Or.inr rfl) (pe_un un_neg pe_int))
      (pss_cons (ps_for PassesOwn.never rfl (pi_range1 rfl T.n_range (pa_cons (pe_callB call_lenL (by rfl) T.n_len bt_len (pa_cons (pv 1) pa_nil)) pa_nil)) (pg_name (i := 6) sc_law_due.nd rfl (by first | exact Or.inl rfl | exact Or.inr rfl)) (pss_one (ps_if (pt_cmpR op_eq (pe_ix ix_any (pv 1) (pv 6) (fun _ _ => rfl)) (pv 4) (nomark _)) (pss_one (ps_set (i := 5) sc_law_due.nd rfl (by first | exact Or.inl rfl | exact Or.inr rfl) (pv 6))) pss_nil)))
      (pss_cons (ps_if (pt_cmpR op_le (pv 5) (pv 3) (nomark _)) (pss_one (ps_ret (pe_un un_neg pe_int))) pss_nil)
      (pss_cons (ps_set (i := 3) sc_law_due.nd rfl (by first | exact Or.inl rfl | exact Or.inr rfl) (pv 5))
      (pss_one (ps_set (i := 2) sc_law_due.nd rfl (by first | exact Or.inl rfl | exact Or.inr rfl) (pe_op op_addL (pv 2) (pe_ix ix_any (pe_lst (pa_cons pe_int (pa_cons pe_int (pa_cons pe_int (pa_cons pe_int (pa_cons pe_int (pa_cons pe_int (pa_cons pe_int (pa_cons pe_int pa_nil))))))))) (pv 5) (fun _ _ => rfl))))))))))
      (pss_one (ps_ret (pv 2))))))), ?_⟩
    have hsz : z.length ≤ sizeLine := Nat.le_of_lt (small1000 (by omega))
    refine ⟨_, rfl, rfl, _, rfl, ite3 (fun h => ?_) (fun h => ?_)⟩
    · exact k 0 H (Same.refl _) (.inl ⟨0, by unfold Nm.dueN; rw [if_pos (by rw [← of_mi]; exact str_inj.mp h)], rfl⟩)
    have hmi : z ≠ Tx.mi := fun e => h (str_inj.mpr (by rw [e, of_mi]))
    have ls := Nm.split_len z
    unfold Nm.dueN at k
    rw [if_neg hmi] at k
    refine ⟨_, rfl, ?_⟩
    refine ⟨_, rfl, rfl, _, _, rfl, rfl, (by decide +kernel), hsz, (by rw [of_pl]; exact Nat.le_of_lt (small1000 (by omega))), fun pw hpw => ?_⟩
    rw [of_pl]
    generalize PySem.Txt.split z Nm.pl = ws at *
    have s1 := same_upd (o := .lst (ws.map V.str)) hpw
    have kw : upd H pw (.lst (ws.map V.str)) pw = some (.lst (ws.map V.str)) := upd_same
    generalize upd H pw (.lst (ws.map V.str)) = H1 at *
    refine ⟨pw, rfl, ⟨_, SqL.of kw⟩, ?_⟩
    refine for_list (K := K) (a := pw) (xs := ws.map V.str) (fun i σ H' => Same H1 H' ∧ ∃ (b : Nat) (last : Int) (v4 v5 v6 : Option V), σ = [some (.str z), some (.ref p), some (.int (b : Int)), some (.int last), v4, v5, v6] ∧ -1 ≤ last ∧ last ≤ 7 ∧ b < 2 ^ (last + 1).toNat ∧ Nm.go L (ws.drop i) last b = Nm.go L ws (-1) 0)
      ⟨Same.refl _, 0, -1, none, none, none, rfl, by decide, by decide, by decide, rfl⟩ (fun i σ H' _ e => SqL.of (e.1 _ _ kw)) ?_ ?_
    · rintro i x σ H' hx ⟨s2, b, last, v4, v5, v6, rfl, l1, l7, lb, eg⟩
      rw [List.getElem?_map] at hx
      obtain ⟨w', ew, rfl⟩ := Option.map_eq_some_iff.mp hx
      obtain ⟨hi, ew2⟩ := List.getElem?_eq_some_iff.mp ew
      have ed : ws.drop i = w' :: ws.drop (i + 1) := by rw [List.drop_eq_getElem_cons hi, ew2]
      rw [ed] at eg
      have t2 := s1.trans s2
      have hpq := t2.seq hp
      refine ⟨_, rfl, ?_⟩
      refine ⟨_, rfl, _, _, rfl, .inl hpq, fun m em => ⟨m, rfl, ?_, ?_, ?_⟩⟩
      · omega
      · rw [List.length_map] at em; have := o.eight; omega
      rw [List.length_map] at em
      refine for_range (lo := 0) (n := m.toNat) (fun j σ H2 => H2 = H' ∧ ∃ (a : Int) (vk : Option V), σ = [some (.str z), some (.ref p), some (.int (b : Int)), some (.int last), some (.str w'), some (.int a), vk] ∧ ((w' ∉ L.take j ∧ a = -1) ∨ ∃ t, L[t]? = some w' ∧ t < j ∧ a = (t : Int)))
        ⟨rfl, -1, _, rfl, .inl ⟨by simp, rfl⟩⟩ ?_ ?_
      · rintro j σ H2 hj ⟨rfl, a, vk, rfl, ha⟩
        have hjl : j < L.length := by omega
        refine ⟨_, rfl, _, rfl, p, L.map V.str, _, .str L[j], rfl, rfl, .inl hpq, (by rw [Int.zero_add]; exact atI_nat (by rw [List.getElem?_map, List.getElem?_eq_getElem hjl]; rfl)), _, rfl, rfl, _, rfl, ite3 (fun h => ?_) (fun h => ?_)⟩
        · have e := str_inj.mp h
          exact ⟨_, rfl, rfl, _, _, rfl, .inr ⟨j, by rw [List.getElem?_eq_getElem hjl, e], by omega, by omega⟩⟩
        · refine ⟨rfl, a, _, rfl, ?_⟩
          rcases ha with ⟨h1, h2⟩ | ⟨t, h1, h2, h3⟩
          · refine .inl ⟨fun hm => ?_, h2⟩
            rw [List.take_succ_eq_append_getElem hjl] at hm
            rcases List.mem_append.mp hm with q | q
            · exact h1 q
            · exact h (str_inj.mpr (List.mem_singleton.mp q).symm)
          · exact .inr ⟨t, h1, by omega, h3⟩
      · rintro σ H2 ⟨rfl, a, vk, rfl, ha⟩
        have emt : m.toNat = L.length := by omega
        rw [emt, List.take_length] at ha
        rw [Nm.go_cons] at eg
        have bad : ¬ (w' ∈ L ∧ last < (L.idxOf w' : Int)) → Q (.int (-1)) H2 := fun n => k (-1) H2 t2 (.inr ⟨by rw [← eg, if_neg n], rfl⟩)
        refine ⟨_, rfl, _, rfl, _, _, rfl, rfl, _, rfl, ite3 (fun h => ⟨_, rfl, bad fun q => ?_⟩) (fun h => ?_)⟩
        · rcases ha with ⟨h1, _⟩ | ⟨t, h1, _, h3⟩
          · exact h1 q.1
          · have := (Nm.idx_at o.nd h1).2
            omega
        rcases ha with ⟨_, h2⟩ | ⟨t, h1, h2, rfl⟩
        · omega
        obtain ⟨hm, hix⟩ := Nm.idx_at o.nd h1
        have t8 : t < 8 := by have := o.eight; omega
        refine ⟨_, rfl, _, rfl, (by show 8 ≤ sizeLine; decide), fun pl hpl => ?_⟩
        refine ⟨_, rfl, pl, _, _, _, rfl, rfl, .inl (SqL.of upd_same), pow_at t8, _, _, rfl, rfl, fun r er => ?_⟩
        have er2 : r = ((b + 2 ^ t : Nat) : Int) := by rw [er]; push_cast; rfl
        subst er2
        rw [if_pos ⟨hm, by rw [hix]; omega⟩, hix] at eg
        have lb2 : b < 2 ^ t := Nat.lt_of_lt_of_le lb (Nat.pow_le_pow_right (by decide) (by omega))
        refine ⟨s2.trans (same_upd hpl), b + 2 ^ t, (t : Int), _, _, _, rfl, by omega, by omega, ?_, eg⟩
        have : ((t : Int) + 1).toNat = t + 1 := by omega
        rw [this, Nat.pow_succ]
        omega
    · rintro σ H' ⟨s2, b, last, v4, v5, v6, rfl, l1, l7, lb, eg⟩
      rw [List.length_map, List.drop_length] at eg
      exact ⟨_, rfl, k b H' (s1.trans s2) (.inl ⟨b, eg.symm, rfl⟩)⟩

theorem at_eight {m : Int} (h0 : 0 ≤ m) (h1 : m < 8) : ∃ z : Str, atI ([.str (Str.ofString ""), .str (Str.ofString "+"), .str (Str.ofString "-+"), .str (Str.ofString "+-"), .str (Str.ofString "--"), .str (Str.ofString " "), .str (Str.ofString "None"), .str (Str.ofString "A")] : List V) m = some (.str z) ∧ z.length ≤ 10 := by
  have : m = 0 ∨ m = 1 ∨ m = 2 ∨ m = 3 ∨ m = 4 ∨ m = 5 ∨ m = 6 ∨ m = 7 := by omega
  rcases this with rfl | rfl | rfl | rfl | rfl | rfl | rfl | rfl <;> exact ⟨_, rfl, by decide +kernel⟩
theorem at_four {m : Int} (h0 : 0 ≤ m) (h1 : m < 4) : ∃ z : Str, atI ([.str (Str.ofString "+"), .str (Str.ofString " "), .str (Str.ofString "-"), .str (Str.ofString "x")] : List V) m = some (.str z) ∧ z.length ≤ 10 := by
  have : m = 0 ∨ m = 1 ∨ m = 2 ∨ m = 3 := by omega
  rcases this with rfl | rfl | rfl | rfl <;> exact ⟨_, rfl, by decide +kernel⟩
theorem ok_law_bent (T : Txt K mg Ad) : Def P w K mg base "_law_bent" 1 ["_law_text", "_law_names_here", "_law_x"] (sp_bent K) := by
  refine T.d_law_bent.def sc_law_bent (fun vs H Q E h => ?_) (fun _ _ _ _ _ _ us hl => match us, hl with | [_, _, _], _ => rfl) (fun f cdv A outer s H vs Q E hr h => ?_)
  · obtain ⟨z, p, L, x, rfl, _⟩ := h
    rfl
  · obtain ⟨z, p, L, x, rfl, hp, o, hz, k⟩ := h
    refine ⟨_, (pss_cons (ps_set (i := 3) sc_law_bent.nd rfl (by first | exact Or.inl rfl | exact Or.inr rfl) (pe_op op_modL (pv 2) pe_int))
      (pss_cons (ps_set (i := 4) sc_law_bent.nd rfl (by first | exact Or.inl rfl | exact Or.inr rfl) (pe_ix ix_any (pv 1) (pe_op op_modL (pe_op op_fdivL (pv 2) pe_int) (pe_callB call_lenL (by rfl) T.n_len bt_len (pa_cons (pv 1) pa_nil))) (fun _ _ => rfl)))
      (pss_cons (ps_if (pt_cmpR op_eq (pv 3) pe_int (nomark _)) (pss_one (ps_ret (pe_bm PySem.F.plainAttrs_str PySem.F.slot_str_join PySem.F.type_str_join mt_join pe_str (pa_cons (pe_listrev rfl (pe_bm PySem.F.plainAttrs_str PySem.F.slot_str_split PySem.F.type_str_split mt_split (pv 0) (pa_cons pe_str pa_nil)) rfl T.n_list rfl T.n_reversed) pa_nil)))) pss_nil)
      (pss_cons (ps_if (pt_cmpR op_eq (pv 3) pe_int (nomark _)) (pss_one (ps_ret (pe_op op_add_str (pe_op op_add_str (pv 0) pe_str) (pv 4)))) pss_nil)
      (pss_cons (ps_if (pt_cmpR op_eq (pv 3) pe_int (nomark _)) (pss_one (ps_ret (pe_op op_add_str (pe_op op_add_str (pv 4) pe_str) (pv 0)))) pss_nil)
      (pss_cons (ps_if (pt_cmpR op_eq (pv 3) pe_int (nomark _)) (pss_one (ps_ret (pe_ix ix_any (pe_lst (pa_cons pe_str (pa_cons pe_str (pa_cons pe_str (pa_cons pe_str (pa_cons pe_str (pa_cons pe_str (pa_cons pe_str (pa_cons pe_str pa_nil))))))))) (pe_op op_modL (pe_op op_fdivL (pv 2) pe_int) pe_int) (fun _ _ => rfl)))) pss_nil)
      (pss_cons (ps_if (pt_cmpR op_eq (pv 3) pe_int (nomark _)) (pss_one (ps_ret (pe_op op_add_str (pv 0) (pe_ix ix_any (pe_lst (pa_cons pe_str (pa_cons pe_str (pa_cons pe_str (pa_cons pe_str pa_nil))))) (pe_op op_modL (pe_op op_fdivL (pv 2) pe_int) pe_int) (fun _ _ => rfl))))) pss_nil)
      (pss_cons (ps_if (pt_cmpR op_eq (pv 3) pe_int (nomark _)) (pss_one (ps_ret (pe_op op_add_str (pe_ix ix_any (pe_lst (pa_cons pe_str (pa_cons pe_str (pa_cons pe_str (pa_cons pe_str pa_nil))))) (pe_op op_modL (pe_op op_fdivL (pv 2) pe_int) pe_int) (fun _ _ => rfl)) (pv 0)))) pss_nil)
      (pss_cons (ps_ifk (ptk_eq (pv 3) (nomark _)) (psk_rep (i := 0) rfl (by first | exact Or.inl rfl | exact Or.inr (Or.inl rfl) | exact Or.inr (Or.inr rfl)) (by decide) (by decide)))
      (pss_cons (ps_ifk (ptk_eq (pv 3) (nomark _)) (psk_rep (i := 0) rfl (by first | exact Or.inl rfl | exact Or.inr (Or.inl rfl) | exact Or.inr (Or.inr rfl)) (by decide) (by decide)))
      (pss_cons (ps_if (pt_cmpR op_eq (pv 3) pe_int (nomark _)) (pss_one (ps_ret (pe_slice sl_str (pv 4) po_none (po_some (pe_un un_neg pe_int))))) pss_nil)
      (pss_one (ps_ret (pe_bm0 PySem.F.plainAttrs_str PySem.F.slot_str_upper PySem.F.type_str_upper mt_upper (pv 0))))))))))))))), ?_⟩
    have hsz : z.length ≤ sizeLine := Nat.le_of_lt (small1000 (by omega))
    have l1 : (Str.ofString "+").length = 1 := by decide +kernel
    refine ⟨_, rfl, _, _, rfl, rfl, by decide, fun way w0 w1 _ => ?_⟩
    refine ⟨_, rfl, _, rfl, _, _, rfl, rfl, cdiv (by decide) (by decide), fun q1 _ => ⟨_, rfl, _, _, rfl, .inl hp, fun n en => ⟨_, _, rfl, rfl, ?_, fun m m0 m1 _ => ?_⟩⟩⟩
    · rw [List.length_map] at en; have := o.one; omega
    obtain ⟨xw, exw, hxw⟩ := at_list (L.map V.str) m0 (by rw [en] at m1; exact m1)
    obtain ⟨wd, hwd, rfl⟩ := List.mem_map.mp hxw
    have lw := o.len wd hwd
    refine ⟨p, _, _, _, rfl, rfl, .inl hp, exw, ?_⟩
    -- 0
    refine ⟨_, rfl, rfl, _, rfl, ite3 (fun _ => ?_) (fun _ => ?_)⟩
    · have ls := Nm.split_len z
      refine ⟨rfl, _, rfl, rfl, _, _, rfl, rfl, (by decide +kernel), hsz, (by rw [of_pl]; exact Nat.le_of_lt (small1000 (by omega))), fun pw hpw => ?_⟩
      rw [of_pl]
      refine ⟨pw, _, rfl, SqL.of upd_same, fun l hl => ?_⟩
      rw [← List.map_reverse]
      refine ⟨_, l, _, rfl, rfl, SqL.of upd_same, ?_, ?_⟩
      · rw [← of_pl]
        exact join_fit (fun y hy => by have := Nm.piece_len z y (by rw [← of_pl]; exact List.mem_reverse.mp hy); omega) (by rw [List.length_reverse, of_pl]; omega)
      · refine k _ _ ((same_upd hpw).trans (same_upd hl)) ?_
        show (Builtin.Str.glued _ _).length ≤ 900
        rw [PySem.StrLaws.glued_eq_join, Nm.glue_rev]
        omega
    -- 1
    refine ⟨_, rfl, rfl, _, rfl, ite3 (fun _ => ?_) (fun _ => ?_)⟩
    · refine ⟨_, rfl, _, _, rfl, rfl, Nat.le_of_lt (small1000 (by omega)), _, rfl, _, _, rfl, rfl, ?_, k _ H (Same.refl _) ?_⟩
      · rw [PySem.Str.length_append]; exact Nat.le_of_lt (small1000 (by omega))
      · rw [PySem.Str.length_append, PySem.Str.length_append]; omega
    -- 2
    refine ⟨_, rfl, rfl, _, rfl, ite3 (fun _ => ?_) (fun _ => ?_)⟩
    · refine ⟨_, rfl, _, _, rfl, rfl, Nat.le_of_lt (small1000 (by omega)), _, rfl, _, _, rfl, rfl, ?_, k _ H (Same.refl _) ?_⟩
      · rw [PySem.Str.length_append]; exact Nat.le_of_lt (small1000 (by omega))
      · rw [PySem.Str.length_append, PySem.Str.length_append]; omega
    -- 3
    refine ⟨_, rfl, rfl, _, rfl, ite3 (fun _ => ?_) (fun _ => ?_)⟩
    · refine ⟨(by show 8 ≤ sizeLine; decide), fun pl hpl => ⟨_, rfl, _, _, rfl, rfl, cdiv (by decide) (by decide), fun q2 _ => ⟨_, _, rfl, rfl, by decide, fun m3 m30 m31 _ => ?_⟩⟩⟩
      obtain ⟨y, ey, ly⟩ := at_eight m30 m31
      exact ⟨pl, _, _, _, rfl, rfl, .inl (SqL.of upd_same), ey, k y _ (same_upd hpl) (by omega)⟩
    -- 4
    refine ⟨_, rfl, rfl, _, rfl, ite3 (fun _ => ?_) (fun _ => ?_)⟩
    · refine ⟨_, rfl, (by show 4 ≤ sizeLine; decide), fun pl hpl => ⟨_, rfl, _, _, rfl, rfl, cdiv (by decide) (by decide), fun q2 _ => ⟨_, _, rfl, rfl, by decide, fun m3 m30 m31 _ => ?_⟩⟩⟩
      obtain ⟨y, ey, ly⟩ := at_four m30 m31
      refine ⟨pl, _, _, _, rfl, rfl, .inl (SqL.of upd_same), ey, _, _, rfl, rfl, Nat.le_of_lt (small1000 (by omega)), k _ _ (same_upd hpl) ?_⟩
      rw [PySem.Str.length_append]; omega
    -- 5
    refine ⟨_, rfl, rfl, _, rfl, ite3 (fun _ => ?_) (fun _ => ?_)⟩
    · refine ⟨(by show 4 ≤ sizeLine; decide), fun pl hpl => ⟨_, rfl, _, _, rfl, rfl, cdiv (by decide) (by decide), fun q2 _ => ⟨_, _, rfl, rfl, by decide, fun m3 m30 m31 _ => ?_⟩⟩⟩
      obtain ⟨y, ey, ly⟩ := at_four m30 m31
      refine ⟨pl, _, _, _, rfl, rfl, .inl (SqL.of upd_same), ey, _, rfl, _, _, rfl, rfl, Nat.le_of_lt (small1000 (by omega)), k _ _ (same_upd hpl) ?_⟩
      rw [PySem.Str.length_append]; omega
    -- 6, 7
    have l2 : (Str.ofString "++").length = 2 := by decide +kernel
    have l3 : (Str.ofString " + ").length = 3 := by decide +kernel
    refine ⟨_, rfl, way, rfl, ite3 (fun _ => ?_) (fun _ => ?_)⟩
    · refine ⟨z, rfl, by omega, fun r hr => k r H (Same.refl _) ?_⟩
      rw [l2] at hr
      omega
    refine ⟨_, rfl, way, rfl, ite3 (fun _ => ?_) (fun _ => ?_)⟩
    · refine ⟨z, rfl, by omega, fun r hr => k r H (Same.refl _) ?_⟩
      rw [l3] at hr
      omega
    -- 8
    refine ⟨_, rfl, rfl, _, rfl, ite3 (fun _ => ?_) (fun _ => ?_)⟩
    · exact ⟨_, rfl, _, rfl, _, rfl, wd, rfl, Nat.le_of_lt (small1000 (by omega)), fun y _ ly => k y H (Same.refl _) (by omega)⟩
    -- 9
    exact ⟨_, rfl, rfl, z, rfl, rfl, by omega, fun y ly => k y H (Same.refl _) (by omega)⟩

theorem cut_drop {xs : List V} {t : Int} (h0 : 0 ≤ t) (h1 : t ≤ xs.length) : cutV xs (some t) none = xs.drop t.toNat := by
  obtain ⟨j, rfl⟩ := Int.eq_ofNat_of_zero_le h0
  unfold cutV
  rw [HT.sIx_nat, HT.sIx_none, Nat.min_eq_left (by omega)]
  exact List.take_of_length_le (by rw [List.length_drop]; omega)
theorem cut_take {xs : List V} {t : Int} (h0 : 0 ≤ t) (h1 : t ≤ xs.length) : cutV xs none (some t) = xs.take t.toNat := by
  obtain ⟨j, rfl⟩ := Int.eq_ofNat_of_zero_le h0
  unfold cutV
  rw [HT.sIx_nat, HT.sIx_none, Nat.min_eq_left (by omega), List.drop_zero]
  rfl
theorem abc_len : (Str.ofString "abcdefghijklmnopqrstuvwxyz").length = 26 := by decide +kernel
theorem abc_sign {m : Int} (h0 : 0 ≤ m) (h1 : m < 26) : atI (Str.ofString "abcdefghijklmnopqrstuvwxyz").cps.toList m = some (97 + m.toNat) := by
  obtain ⟨j, rfl⟩ := Int.eq_ofNat_of_zero_le h0
  rw [Nm.abc_eq]
  exact atI_nat (Nm.abc_at j (by omega))
theorem ok_law_names (T : Txt K mg Ad) : Def P w K mg base "_law_names" 1 ["_law_cell"] sp_names := by
  refine T.d_law_names.def sc_law_names (fun vs H Q E h => ?_) (fun _ _ _ _ _ _ us hl => match us, hl with | [_], _ => rfl) (fun f cdv A outer s H vs Q E hr h => ?_)
  · obtain ⟨c, rfl, _⟩ := h
    rfl
  · obtain ⟨c, rfl, k⟩ := h
    refine ⟨_, (pss_cons (ps_set (i := 1) sc_law_names.nd rfl (by first | exact Or.inl rfl | exact Or.inr rfl) pe_str)
      (pss_cons (ps_set (i := 2) sc_law_names.nd rfl (by first | exact Or.inl rfl | exact Or.inr rfl) (pe_op op_addL pe_int (pe_op op_modL (pv 0) pe_int)))
      (pss_cons (ps_cut (ps_if (pt_cmpR op_eq (pe_op op_modL (pe_op op_fdivL (pv 0) pe_int) pe_int) pe_int (nomark _)) (pss_cons (ps_set (i := 3) sc_law_names.nd rfl (by first | exact Or.inl rfl | exact Or.inr rfl) (pe_op op_modL (pe_op op_fdivL (pv 0) pe_int) pe_int))
      (pss_cons (ps_set (i := 4) sc_law_names.nd rfl (by first | exact Or.inl rfl | exact Or.inr rfl) (pe_slice sl_str (pe_op op_add_str (pv 1) (pv 1)) (po_some (pv 3)) (po_some (pe_op op_addL (pv 3) pe_int))))
      (pss_one (ps_lc (yi := 5) ["_law_k"] ["_law_word"] [4] (.cons ⟨rfl, rfl, .inl rfl⟩ .nil) rfl (pi_range1 rfl T.n_range (pa_cons (pv 2) pa_nil)) (fun _ _ _ _ _ => (pg_name (i := 0) (show (["_law_k", "_law_word"] : List Str).Nodup by decide +kernel) rfl (by first | exact Or.inl rfl | exact Or.inr rfl))) (fun _ _ _ _ _ => pif_nil) (fun _ _ _ _ _ => (pe_slice sl_str (pv 1) po_none (po_some (pe_op op_addL (pv 0) pe_int)))) rfl (by decide +kernel) (by decide +kernel) (by decide +kernel) sc_law_names.nd rfl (by first | exact Or.inl rfl | exact Or.inr rfl) rfl)))) (pss_cons (ps_set (i := 6) sc_law_names.nd rfl (by first | exact Or.inl rfl | exact Or.inr rfl) (pe_op op_addL pe_int (pe_op op_modL (pe_op op_fdivL (pv 0) pe_int) pe_int)))
      (pss_cons (ps_set (i := 7) sc_law_names.nd rfl (by first | exact Or.inl rfl | exact Or.inr rfl) (pe_op op_modL (pe_op op_fdivL (pv 0) pe_int) (pv 6)))
      (pss_cons (ps_set (i := 8) sc_law_names.nd rfl (by first | exact Or.inl rfl | exact Or.inr rfl) (pe_ix ix_str (pv 1) (pe_op op_modL (pe_op op_fdivL (pv 0) pe_int) pe_int) (fun _ _ => rfl)))
      (pss_cons (ps_set (i := 5) sc_law_names.nd rfl (by first | exact Or.inl rfl | exact Or.inr rfl) (pe_lst pa_nil))
      (pss_one (ps_for PassesOwn.never rfl (pi_range1 rfl T.n_range (pa_cons (pv 2) pa_nil)) (pg_name (i := 9) sc_law_names.nd rfl (by first | exact Or.inl rfl | exact Or.inr rfl)) (pss_cons (ps_set (i := 10) sc_law_names.nd rfl (by first | exact Or.inl rfl | exact Or.inr rfl) (pe_ix ix_str (pv 1) (pe_op op_modL (pe_op op_addL (pe_op op_fdivL (pv 0) pe_int) (pv 9)) pe_int) (fun _ _ => rfl)))
      (pss_one (ps_expr (pe_bm PySem.F.plainAttrs_list PySem.F.slot_list_append PySem.F.type_list_append mt_append (pv 5) (pa_cons (pe_op op_add_str (pe_op op_add_str (pe_op op_mul_str (pv 8) (pv 7)) (pv 10)) (pe_op op_mul_str (pv 8) (pe_op op_subL (pe_op op_subL (pv 6) pe_int) (pv 7)))) pa_nil)))))))))))))
      (pss_cons (ps_set (i := 11) sc_law_names.nd rfl (by first | exact Or.inl rfl | exact Or.inr rfl) (pe_op op_modL (pe_op op_fdivL (pv 0) pe_int) (pv 2)))
      (pss_one (ps_ret (pe_op op_cat (pe_slice sl_list (pv 5) (po_some (pv 11)) po_none) (pe_slice sl_list (pv 5) po_none (po_some (pv 11)))))))))), ?_⟩
    refine ⟨_, rfl, _, _, rfl, rfl, by decide, fun m m0 m1 _ => ⟨_, _, rfl, rfl, fun my emy => ?_⟩⟩
    have my1 : 1 ≤ my := by omega
    have my8 : my ≤ 8 := by omega
    clear emy m0 m1
    refine ⟨fun σ' H' => Same H H' ∧ ∃ (p : Addr) (L : List Str) (v3 v4 v6 v7 v8 v9 v10 : Option V), H' p = some (.lst (L.map V.str)) ∧ Nm.Ok L ∧ (L.length : Int) = my ∧
      σ' = [some (.int c), some (.str (Str.ofString "abcdefghijklmnopqrstuvwxyz")), some (.int my), v3, v4, some (.ref p), v6, v7, v8, v9, v10, none], ?_, ?_⟩
    · refine ⟨_, rfl, _, _, rfl, rfl, cdiv (by decide) (by decide), fun q1 _ => ⟨_, _, rfl, rfl, by decide, fun m2 _ _ _ => ⟨rfl, _, rfl, ite3 (fun _ => ?_) (fun _ => ?_)⟩⟩⟩
      · -- beginnings of one word
        refine ⟨_, rfl, _, _, rfl, rfl, cdiv (by decide) (by decide), fun q2 _ => ⟨_, _, rfl, rfl, by decide, fun st st0 st1 _ => ?_⟩⟩
        refine ⟨_, rfl, _, rfl, _, _, rfl, rfl, (by rw [abc_len]; exact Nat.le_of_lt (small1000 (by decide))), _, rfl, _, rfl, _, rfl, _, _, rfl, rfl, fun e8 ee8 => ⟨_, rfl, _, rfl, (by rw [PySem.Str.length_append, abc_len]; exact Nat.le_of_lt (small1000 (by decide))), fun y ey ly => ?_⟩⟩
        have ew : y.cps.toList = ((Nm.abc ++ Nm.abc).drop st.toNat).take 8 := by
          have := eq_of_beq (PyProof.Rows.slice_closesL (x := Str.ofString "abcdefghijklmnopqrstuvwxyz" ++ Str.ofString "abcdefghijklmnopqrstuvwxyz") st0 (by omega : st ≤ e8) (by rw [PySem.Str.length_append, abc_len]; omega))
          rw [ey, this]
          show List.take _ (List.drop _ (Str.ofString "abcdefghijklmnopqrstuvwxyz" ++ Str.ofString "abcdefghijklmnopqrstuvwxyz").cps.toList) = _
          rw [Tx.app, Nm.abc_eq, show (e8 - st).toNat = 8 by omega]
        have lW : y.cps.toList.length = 8 := by
          rw [ew, List.length_take, List.length_drop]
          have : (Nm.abc ++ Nm.abc).length = 52 := by decide
          omega
        have hlow : ∀ c ∈ y.cps.toList, Nm.low c := fun c hc => by
          rw [ew] at hc
          rcases List.mem_append.mp (List.mem_of_mem_drop (List.mem_of_mem_take hc)) with q | q <;> exact Nm.abc_low c q
        clear ey ly
        refine ⟨_, rfl, my, rfl, by omega, by omega, fun D hD => ?_⟩
        refine comp_range (fun i acc σ H' => H' = upd H D (.lst acc) ∧ ∃ (us : List Str) (v : Option V), acc = us.map V.str ∧ us.map (fun w => w.cps.toList) = (List.range i).map (fun k => y.cps.toList.take (k + 1)) ∧ σ = [v, some (.str y)]) ⟨rfl, [], none, rfl, rfl, rfl⟩ ?_ ?_
        · rintro i acc σ H' hi ⟨rfl, us, v, rfl, eu, rfl⟩
          refine ⟨_, rfl, _, rfl, _, _, rfl, rfl, fun k1 ek1 => ⟨_, rfl, y, rfl, Nat.le_of_lt (small1000 (by rw [← Tx.len]; omega)), fun u euu lu => ⟨upd_same, ?_, by rw [upd_upd], us ++ [u], _, by rw [List.map_append]; rfl, ?_, rfl⟩⟩⟩
          · have := congrArg List.length eu
            rw [List.length_map, List.length_map, List.length_range] at this
            rw [List.length_map]
            exact small1000 (by omega)
          · rw [List.map_append, eu, List.range_succ, List.map_append]
            congr 1
            show [u.cps.toList] = [_]
            congr 1
            have := eq_of_beq (PyProof.Rows.slice_closes_toL (x := y) (j := k1) (by omega) (by rw [← Tx.len]; omega))
            rw [euu, this, show (k1 - 0).toNat = i + 1 by omega]
            rfl
        · rintro acc σ H' ⟨rfl, us, v, rfl, eu, rfl⟩
          have lus : us.length = my.toNat := by
            have := congrArg List.length eu
            rw [List.length_map, List.length_map, List.length_range] at this
            exact this
          exact ⟨same_upd hD, D, us, _, _, _, _, _, _, _, upd_same, Nm.ok_pre eu (by omega) (by omega) lW hlow, by omega, rfl⟩
      · -- alike but for one sign
        refine ⟨_, rfl, _, _, rfl, rfl, cdiv (by decide) (by decide), fun q2 _ => ⟨_, _, rfl, rfl, by decide, fun s0 s00 s01 _ => ⟨_, _, rfl, rfl, fun sz esz => ?_⟩⟩⟩
        refine ⟨_, rfl, _, _, rfl, rfl, cdiv (by decide) (by decide), fun q3 _ => ⟨_, rfl, _, _, rfl, rfl, by omega, fun at_ a0 a1 _ => ?_⟩⟩
        refine ⟨_, rfl, _, rfl, _, _, rfl, rfl, cdiv (by decide) (by decide), fun q4 _ => ⟨_, _, rfl, rfl, by decide, fun g g0 g1 _ => ⟨_, _, _, rfl, rfl, (by rw [abc_len]; exact Nat.le_of_lt (small1000 (by decide))), abc_sign g0 g1, ?_⟩⟩⟩
        refine ⟨(by show 0 ≤ sizeLine; exact Nat.zero_le _), fun p hp => ?_⟩
        refine ⟨_, rfl, my, rfl, by omega, by omega, ?_⟩
        refine for_range (lo := 0) (n := my.toNat) (fun i σ H' => Same H H' ∧ ∃ (us : List Str) (vk vo : Option V), H' p = some (.lst (us.map V.str)) ∧
            us.map (fun w => w.cps.toList) = (List.range i).map (fun (k : Nat) => List.replicate at_.toNat (97 + g.toNat) ++ (97 + ((c.fdiv 39936 + (k : Int)) % 26).toNat) :: List.replicate (sz - 1 - at_).toNat (97 + g.toNat)) ∧
            σ = [some (.int c), some (.str (Str.ofString "abcdefghijklmnopqrstuvwxyz")), some (.int my), none, none, some (.ref p), some (.int sz), some (.int at_), some (.str ⟨#[97 + g.toNat]⟩), vk, vo, none])
          ⟨same_upd hp, [], none, none, upd_same, rfl, rfl⟩ ?_ ?_
        · rintro i σ H' hi ⟨s1, us, vk, vo, kp, eu, rfl⟩
          have lus : us.length = i := by
            have := congrArg List.length eu
            rw [List.length_map, List.length_map, List.length_range] at this
            exact this
          refine ⟨_, rfl, _, rfl, _, _, rfl, rfl, cdiv (by decide) (by decide), fun q5 eq5 => ⟨_, rfl, _, _, rfl, rfl, fun q6 eq6 => ⟨_, _, rfl, rfl, by decide, fun d d0 d1 ed => ⟨_, _, _, rfl, rfl, (by rw [abc_len]; exact Nat.le_of_lt (small1000 (by decide))), abc_sign d0 d1, ?_⟩⟩⟩⟩
          refine ⟨_, rfl, .inl ⟨rfl, _, SqL.of kp⟩, ?_⟩
          refine ⟨_, rfl, _, rfl, _, _, rfl, rfl, by omega, by omega, fun z1 ez1 => ⟨_, rfl, _, _, rfl, rfl, ?_, ?_⟩⟩
          · have : z1.length = at_.toNat := by rw [← Tx.len, ez1, List.length_replicate]
            have l1 : (⟨#[97 + d.toNat]⟩ : Str).length = 1 := rfl
            exact Nat.le_of_lt (small1000 (by omega))
          refine ⟨_, rfl, _, rfl, _, _, rfl, rfl, fun q7 eq7 => ⟨_, rfl, _, _, rfl, rfl, fun q8 eq8 => ⟨_, _, rfl, rfl, by omega, by omega, fun z2 ez2 => ⟨_, _, rfl, rfl, ?_, ?_⟩⟩⟩⟩
          · have e1 : z1.length = at_.toNat := by rw [← Tx.len, ez1, List.length_replicate]
            have e2 : z2.length = q8.toNat := by rw [← Tx.len, ez2, List.length_replicate]
            have l1 : (⟨#[97 + d.toNat]⟩ : Str).length = 1 := rfl
            rw [PySem.Str.length_append]
            exact Nat.le_of_lt (small1000 (by omega))
          refine ⟨p, _, _, rfl, rfl, kp, small1000 (by rw [List.length_map]; omega), ?_⟩
          refine ⟨s1.put hp, us ++ [z1 ++ ⟨#[97 + d.toNat]⟩ ++ z2], _, _, by rw [List.map_append]; exact upd_same, ?_, rfl⟩
          rw [List.map_append, eu, List.range_succ, List.map_append]
          congr 1
          show [(z1 ++ ⟨#[97 + d.toNat]⟩ ++ z2).cps.toList] = [_]
          congr 1
          rw [Tx.app, Tx.app, ez1, ez2, ed, eq6, eq5, Int.zero_add, show q8 = sz - 1 - at_ by omega, List.append_assoc]
          rfl
        · rintro σ H' ⟨s1, us, vk, vo, kp, eu, rfl⟩
          have lus : us.length = my.toNat := by
            have := congrArg List.length eu
            rw [List.length_map, List.length_map, List.length_range] at this
            exact this
          refine ⟨s1, p, us, _, _, _, _, _, _, _, kp, Nm.ok_mid eu (by omega) (by omega) (by omega) ⟨by omega, by omega⟩ (fun k => ⟨by omega, by omega⟩) (fun i j hi hj e => by omega), by omega, rfl⟩
    rintro σ' H1 ⟨s1, p, L, v3, v4, v6, v7, v8, v9, v10, kp, o, lL, rfl⟩
    refine ⟨_, rfl, _, _, rfl, rfl, cdiv (by decide) (by decide), fun q2 _ => ⟨_, rfl, _, _, rfl, rfl, by omega, fun t t0 t1 _ => ?_⟩⟩
    refine ⟨_, rfl, _, rfl, _, rfl, p, _, rfl, SqL.of kp, fun p1 hp1 => ?_⟩
    have s2 := same_upd (o := .lst (cutV (L.map V.str) (some t) none)) hp1
    refine ⟨_, rfl, _, rfl, _, rfl, p, _, rfl, SqL.of (s2 _ _ kp), fun p2 hp2 => ?_⟩
    have s3 := same_upd (o := .lst (cutV (L.map V.str) none (some t))) hp2
    refine ⟨p1, p2, _, _, rfl, rfl, s3 _ _ upd_same, upd_same, ?_, fun p3 hp3 => ?_⟩
    · have h1 := cutV_length (L.map V.str) (some t) none
      have h2 := cutV_length (L.map V.str) none (some t)
      rw [List.length_map] at h1 h2
      exact Nat.le_of_lt (small1000 (by omega))
    have s4 := same_upd (o := .lst (cutV (L.map V.str) (some t) none ++ cutV (L.map V.str) none (some t))) hp3
    have ek : upd (upd (upd H1 p1 (.lst (cutV (L.map V.str) (some t) none))) p2 (.lst (cutV (L.map V.str) none (some t)))) p3 (.lst (cutV (L.map V.str) (some t) none ++ cutV (L.map V.str) none (some t))) p3 = some (.lst ((L.drop t.toNat ++ L.take t.toNat).map V.str)) := by
      rw [upd_same, cut_drop t0 (by rw [List.length_map]; omega), cut_take t0 (by rw [List.length_map]; omega), List.map_append, List.map_drop, List.map_take]
    exact k p3 _ _ (s1.trans (s2.trans (s3.trans s4))) ek (Nm.ok_rot o t.toNat)

theorem two_at {n : Nat} (h1 : 1 ≤ n) (h8 : n ≤ 8) : atI ([.int 2, .int 4, .int 8, .int 16, .int 32, .int 64, .int 128, .int 256] : List V) ((n : Int) - 1) = some (.int (2 ^ n : Nat)) := by
  have : n = 1 ∨ n = 2 ∨ n = 3 ∨ n = 4 ∨ n = 5 ∨ n = 6 ∨ n = 7 ∨ n = 8 := by omega
  rcases this with rfl | rfl | rfl | rfl | rfl | rfl | rfl | rfl <;> rfl
theorem bit_is {n t : Nat} {q m : Int} (eq : q = ((n : Int)).fdiv ((2 ^ t : Nat) : Int)) (em : m = q % 2) : decide (V.int m = V.int 1) = n.testBit t := by
  have e : m = ((n / 2 ^ t % 2 : Nat) : Int) := by
    rw [em, eq, Int.fdiv_eq_ediv_of_nonneg _ (Int.natCast_nonneg _)]
    push_cast
    rfl
  rw [Nat.testBit_eq_decide_div_mod_eq, e]
  exact decide_eq_decide.mpr (by rw [int_inj]; omega)
theorem str_ok {w : Str} (h : ∀ c ∈ w.cps.toList, Nm.low c) : PyData.canLay0 (.str w) = true := by
  show PySem.PyData.strOk w = true
  unfold PySem.PyData.strOk
  rw [← Array.all_toList, List.all_eq_true]
  intro c hc
  have := (h c hc).2
  exact decide_eq_true (by omega)
theorem list_shaped {L : List Str} (o : Nm.Ok L) : SeqAt.shaped (.list (L.map PyData.str)) = true ∧ PyData.eqv (.list (L.map PyData.str)) (.list (L.map PyData.str)) = true := by
  have all : ∀ l : List Str, (∀ w ∈ l, ∀ c ∈ w.cps.toList, Nm.low c) → PyData.canLayAll0 (l.map PyData.str) = true ∧ PyData.depthAll (l.map PyData.str) ≤ 1 ∧ PyData.eqvAll (l.map PyData.str) (l.map PyData.str) = true := by
    intro l
    induction l with
    | nil => intro _; simp [PyData.canLayAll0, PyData.depthAll, PyData.eqvAll]
    | cons w l ih =>
      intro h
      obtain ⟨a, b, c⟩ := ih fun x hx => h x (List.mem_cons_of_mem _ hx)
      have q := str_ok (h w List.mem_cons_self)
      refine ⟨by simp only [List.map_cons, PyData.canLayAll0, q, a, Bool.and_self], ?_, by simp only [List.map_cons, PyData.eqvAll, PyData.eqv, beq_self_eq_true, c, Bool.and_self]⟩
      simp only [List.map_cons, PyData.depthAll, PyData.depth]
      omega
  obtain ⟨a, b, c⟩ := all L o.low
  refine ⟨?_, by simp only [PyData.eqv, c]⟩
  unfold SeqAt.shaped
  simp only [PyData.canLay0, PyData.depth, a, Bool.true_and]
  exact decide_eq_true (by omega)
theorem dn_strs {H : Hp} : ∀ (L : List Str), DnA K H (L.map PyData.str) (L.map V.str)
  | [] => dn_nil
  | _ :: L => dn_cons rfl (dn_strs L)
theorem text_len {L : List Str} (o : Nm.Ok L) (n : Nat) : (Nm.textOf L n).length ≤ 100 := by
  unfold Nm.textOf
  split
  · decide
  · have h := PySem.StrLaws.join_length_le Nm.pl (Nm.wordsOf L n)
    have hw : ∀ l : List Nat, (∀ i ∈ l, True) → ((l.map (L.getD · Str.empty)).map (·.length)).sum ≤ 8 * l.length := by
      intro l
      induction l with
      | nil => intro _; simp
      | cons i l ih =>
        intro _
        have := ih fun _ _ => trivial
        have h8 : (L.getD i Str.empty).length ≤ 8 := by
          rw [List.getD_eq_getElem?_getD]
          rcases Nat.lt_or_ge i L.length with q | q
          · rw [List.getElem?_eq_getElem q]; exact o.len _ (List.getElem_mem q)
          · rw [List.getElem?_eq_none q]; decide
        simp only [List.map_cons, List.sum_cons, List.length_cons]
        omega
    have h2 := hw ((List.range L.length).filter n.testBit) fun _ _ => trivial
    have h3 : ((List.range L.length).filter n.testBit).length ≤ 8 := by
      have := List.length_filter_le n.testBit (List.range L.length)
      rw [List.length_range] at this
      have := o.eight
      omega
    have h4 : (Nm.wordsOf L n).length = ((List.range L.length).filter n.testBit).length := by unfold Nm.wordsOf; rw [List.length_map]
    have h5 : Nm.pl.length = 1 := rfl
    rw [h4, h5] at h
    unfold Nm.wordsOf at h
    unfold Nm.wordsOf
    omega
theorem ok_law {f : Addr} {fd : FuncData} (F : Fun K "law" "law" s_law f fd) (T : Txt K mg Ad) : FnOk P w K mg base CX0 5 f fd ["_law_script"] (sp_law K) := by
  refine F.ok sc_law (fun vs H Q E h => ?_) (fun cdv A outer s H vs Q E hr h => ?_)
  · obtain ⟨a, ns, rfl, _⟩ := h
    rfl
  · obtain ⟨a, ns, rfl, hS, hlen, hbits, k⟩ := h
    refine ⟨_, (pss_cons (ps_set (i := 1) sc_law.nd rfl (by first | exact Or.inl rfl | exact Or.inr rfl) (pe_callD (ok_law_names T) (hr.mono (by decide)) (pa_cons (pe_callD (ok_law_cell_at T) (hr.mono (by decide)) (pa_cons (pv 0) (pa_cons pe_int pa_nil))) pa_nil)))
      (pss_cons (ps_set (i := 2) sc_law.nd rfl (by first | exact Or.inl rfl | exact Or.inr rfl) (pe_callTy call_list_of (by rfl) T.n_list bt_list (pa_cons (pv 1) pa_nil)))
      (pss_cons (ps_for PassesOwn.never rfl (pi_list (pe_op op_cat (pe_lst (pa_cons pe_int (pa_cons pe_int pa_nil))) (pe_slice sl_list (pv 0) (po_some pe_int) (po_some pe_int)))) (pg_name (i := 3) sc_law.nd rfl (by first | exact Or.inl rfl | exact Or.inr rfl)) (pss_cons (ps_set (i := 4) sc_law.nd rfl (by first | exact Or.inl rfl | exact Or.inr rfl) (pe_op op_modL (pe_callD (ok_law_mix T) (hr.mono (by decide)) (pa_cons (pv 3) (pa_cons pe_int (pa_cons pe_int pa_nil)))) (pe_ix ix_any (pe_lst (pa_cons pe_int (pa_cons pe_int (pa_cons pe_int (pa_cons pe_int (pa_cons pe_int (pa_cons pe_int (pa_cons pe_int (pa_cons pe_int pa_nil))))))))) (pe_op op_subL (pe_callB call_lenL (by rfl) T.n_len bt_len (pa_cons (pv 1) pa_nil)) pe_int) (fun _ _ => rfl))))
      (pss_cons (ps_lc (yi := 5) ["_law_k"] ["_law_names_here", "_law_bits"] [1, 4] (.cons ⟨rfl, rfl, .inl rfl⟩ (.cons ⟨rfl, rfl, .inl rfl⟩ .nil)) rfl (pi_range1 rfl T.n_range (pa_cons (pe_callB call_lenL (by rfl) T.n_len bt_len (pa_cons (pv 1) pa_nil)) pa_nil)) (fun _ _ _ _ _ => (pg_name (i := 0) (show (["_law_k", "_law_names_here", "_law_bits"] : List Str).Nodup by decide +kernel) rfl (by first | exact Or.inl rfl | exact Or.inr rfl))) (fun _ _ _ _ _ => (pif_one (pt_cmpR op_eq (pe_op op_modL (pe_op op_fdivL (pv 2) (pe_ix (ix_anyK (K := K) rfl) (pe_lst (pa_cons pe_int (pa_cons pe_int (pa_cons pe_int (pa_cons pe_int (pa_cons pe_int (pa_cons pe_int (pa_cons pe_int (pa_cons pe_int pa_nil))))))))) (pv 0) (fun _ _ => rfl))) pe_int) pe_int (nomark _)))) (fun _ _ _ _ _ => (pe_ix (ix_anyK (K := K) rfl) (pv 1) (pv 0) (fun _ _ => rfl))) rfl (by decide +kernel) (by decide +kernel) (by decide +kernel) sc_law.nd rfl (by first | exact Or.inl rfl | exact Or.inr rfl) rfl)
      (pss_cons (ps_set (i := 6) sc_law.nd rfl (by first | exact Or.inl rfl | exact Or.inr rfl) (pe_bm PySem.F.plainAttrs_str PySem.F.slot_str_join PySem.F.type_str_join mt_join pe_str (pa_cons (pv 5) pa_nil)))
      (pss_cons (ps_cut (ps_if (pt_cmpR op_eq (pv 4) pe_int (nomark _)) (pss_one (ps_set (i := 6) sc_law.nd rfl (by first | exact Or.inl rfl | exact Or.inr rfl) pe_str)) pss_nil))
      (pss_cons (ps_set (i := 7) sc_law.nd rfl (by first | exact Or.inl rfl | exact Or.inr rfl) (pe_callD (ok_show_bits T) (hr.mono (by decide)) (pa_cons (pv 4) (pa_cons (pv 2) pa_nil))))
      (pss_cons (ps_cut (ps_if (PW.pt (pw_or (pt_not (pt_val (pe_callB call_isinst (by rfl) T.n_isinstance bt_isinstance (pa_cons (pv 7) (pa_cons (pe_bltn (v := V.ty "str") rfl T.n_str bt_str rfl) pa_nil))))) (pw_or (pt_cmpR op_ne (pv 7) (pv 6) (nomark _)) (pw_or1 (pt_not (pt_val (pe_callD (ok_law_is T) (hr.mono (by decide)) (pa_cons (pe_callD (ok_law_told T) (hr.mono (by decide)) (pa_cons (pv 6) (pa_cons (pv 2) pa_nil))) (pa_cons (pv 4) pa_nil))))))))) (pss_one (ps_ret pe_bl)) pss_nil))
      (pss_one (ps_if (pt_cmpR op_eq (pe_op op_modL (pe_callD (ok_law_mix T) (hr.mono (by decide)) (pa_cons (pv 3) (pa_cons pe_int (pa_cons pe_int pa_nil)))) pe_int) pe_int (nomark _)) (pss_cons (ps_set (i := 8) sc_law.nd rfl (by first | exact Or.inl rfl | exact Or.inr rfl) (pe_callD (ok_law_bent T) (hr.mono (by decide)) (pa_cons (pv 6) (pa_cons (pv 1) (pa_cons (pe_callD (ok_law_mix T) (hr.mono (by decide)) (pa_cons (pv 3) (pa_cons pe_int (pa_cons pe_int pa_nil)))) pa_nil)))))
      (pss_one (ps_if (pt_not (pt_val (pe_callD (ok_law_is T) (hr.mono (by decide)) (pa_cons (pe_callD (ok_law_told T) (hr.mono (by decide)) (pa_cons (pv 8) (pa_cons (pv 2) pa_nil))) (pa_cons (pe_callD (ok_law_due T) (hr.mono (by decide)) (pa_cons (pv 8) (pa_cons (pv 1) pa_nil))) pa_nil))))) (pss_one (ps_ret pe_bl)) pss_nil))) pss_nil)))))))))
      (pss_one (ps_ret (pe_cmpR (op_eqD hr.units) (pv 2) (pv 1) (nomark _))))))), ?_⟩
    refine ⟨_, rfl, a, ns, 0, rfl, hS, by decide, fun c0 _ => ⟨c0, rfl, fun pn L Hn sn kn o => ?_⟩⟩
    refine ⟨_, rfl, pn, _, rfl, .inl (SqL.of kn), fun ph hph => ?_⟩
    have s1 := same_upd (o := .lst (L.map V.str)) hph
    have kh : upd Hn ph (.lst (L.map V.str)) ph = some (.lst (L.map V.str)) := upd_same
    have kn1 := s1 _ _ kn
    have t1 := sn.trans s1
    generalize upd Hn ph (.lst (L.map V.str)) = H1 at *
    have lL := o.one
    have l8 := o.eight
    -- the numbers
    refine ⟨(by show 2 ≤ sizeLine; decide), fun p1 hp1 => ?_⟩
    have sa := same_upd (o := .lst [.int 3, .int 0]) hp1
    refine ⟨_, rfl, _, rfl, _, rfl, _, _, rfl, sa.seq (t1.seq hS), fun p2 hp2 => ?_⟩
    have sb := same_upd (o := .lst (cutV (ns.map V.int) (some 2) (some 70))) hp2
    have hcut := cutV_length (ns.map V.int) (some 2) (some 70)
    rw [List.length_map] at hcut
    have hints : ∀ x ∈ cutV (ns.map V.int) (some 2) (some 70), ∃ z : Int, x = V.int z := fun x hx => by
      have := List.mem_of_mem_drop (List.mem_of_mem_take hx)
      obtain ⟨z, _, rfl⟩ := List.mem_map.mp this
      exact ⟨z, rfl⟩
    generalize cutV (ns.map V.int) (some 2) (some 70) = cs at *
    refine ⟨p1, p2, _, _, rfl, rfl, sb _ _ upd_same, upd_same, (by show 2 + cs.length ≤ sizeLine; exact Nat.le_of_lt (small1000 (by omega))), fun p3 hp3 => ?_⟩
    have all3 : ∀ x ∈ ([.int 3, .int 0] ++ cs : List V), ∃ z : Int, x = V.int z := fun x hx => by
      rcases List.mem_append.mp hx with q | q
      · simp only [List.mem_cons, List.not_mem_nil, or_false] at q
        rcases q with q | q
        · exact ⟨3, q⟩
        · exact ⟨0, q⟩
      · exact hints x q
    have sc := same_upd (o := .lst ([.int 3, .int 0] ++ cs)) hp3
    generalize hH : upd (upd (upd H1 p1 (.lst [.int 3, .int 0])) p2 (.lst cs)) p3 (.lst ([.int 3, .int 0] ++ cs)) = H3 at *
    have k3 : H3 p3 = some (.lst ([.int 3, .int 0] ++ cs)) := by rw [← hH]; exact upd_same
    have t3 : Same H1 H3 := sa.trans (sb.trans sc)
    generalize ([.int 3, .int 0] ++ cs : List V) = xs at *
    have kh3 := t3 _ _ kh
    have kn3 := t3 _ _ kn1
    clear hcut hints sa sb sc hH hp1 hp2 hp3
    refine ⟨p3, rfl, ⟨_, SqL.of k3⟩, ?_⟩
    refine for_list (K := K) (a := p3) (xs := xs) (fun i σ H' => Same H3 H' ∧ ∃ v1 v2 v3 v4 v5 v6 : Option V, σ = [some (.ref a), some (.ref pn), some (.ref ph), v1, v2, v3, v4, v5, v6]) ⟨Same.refl _, none, none, none, none, none, none, rfl⟩ (fun i σ H' _ e => SqL.of (e.1 _ _ k3)) ?_ ?_
    · rintro i x σ H4 hx ⟨s4, v1, v2, v3, v4, v5, v6, rfl⟩
      obtain ⟨c, rfl⟩ := all3 x (List.mem_of_getElem? hx)
      have kn4 := s4 _ _ kn3
      refine ⟨_, rfl, c, 1, 0, rfl, by decide, by decide, by decide, by decide, fun H5 r5 s5 r50 r51 => ?_⟩
      refine ⟨(by show 8 ≤ sizeLine; decide), fun pl hpl => ?_⟩
      refine ⟨_, rfl, _, _, rfl, .inl (SqL.of (same_upd hpl _ _ (s5 _ _ kn4))), fun n en => ⟨_, _, rfl, rfl, fun n1 en1 => ?_⟩⟩
      rw [List.length_map] at en
      have e1 : n1 = (L.length : Int) - 1 := by omega
      rw [e1]
      refine ⟨pl, _, _, _, rfl, rfl, .inl (SqL.of upd_same), two_at lL l8, _, _, rfl, rfl, ?_, fun bi b0 b1 _ => ?_⟩
      · have : 0 < 2 ^ L.length := Nat.two_pow_pos _
        omega
      obtain ⟨b, rfl⟩ := Int.eq_ofNat_of_zero_le b0
      have hb : b < 2 ^ L.length := by omega
      have s6 := s5.trans (same_upd (o := .lst [.int 2, .int 4, .int 8, .int 16, .int 32, .int 64, .int 128, .int 256]) hpl)
      generalize upd H5 pl (.lst [.int 2, .int 4, .int 8, .int 16, .int 32, .int 64, .int 128, .int 256]) = H6 at *
      have t6 := s4.trans s6
      have kn6 := t6 _ _ kn3
      -- the names of the bits
      refine ⟨_, rfl, _, _, rfl, .inl (SqL.of kn6), fun n2 en2 => ⟨n2, rfl, ?_, ?_, fun D hD => ?_⟩⟩
      · omega
      · rw [List.length_map] at en2; omega
      rw [List.length_map] at en2
      refine comp_range (fun i acc σ H' => Same H6 H' ∧ H' D = some (.lst acc) ∧ acc = (((List.range i).filter b.testBit).map (L.getD · Str.empty)).map V.str ∧ ∃ v, σ = [v, some (.ref pn), some (.int (b : Int))])
        ⟨same_upd hD, upd_same, rfl, none, rfl⟩ ?_ ?_
      · rintro j acc σ H7 hj ⟨s7, kD, rfl, v, rfl⟩
        have hjl : j < L.length := by omega
        refine ⟨_, rfl, (by show 8 ≤ sizeLine; decide), fun pl2 hpl2 => ?_⟩
        refine ⟨_, rfl, pl2, _, _, _, rfl, rfl, .inl (SqL.of upd_same), (by rw [Int.zero_add]; exact pow_at (by omega)), _, _, rfl, rfl, cdiv ?_ ?_, fun q eq => ⟨_, _, rfl, rfl, by decide, fun m _ _ em => ⟨rfl, _, rfl, ?_⟩⟩⟩
        · have : 0 < 2 ^ j := Nat.two_pow_pos _
          omega
        · have : 2 ^ j ≤ 2 ^ 8 := Nat.pow_le_pow_right (by decide) (by omega)
          have e : (2 : Nat) ^ 8 = 256 := by decide
          omega
        rw [bit_is eq em]
        have s8 := same_upd (o := .lst [.int 1, .int 2, .int 4, .int 8, .int 16, .int 32, .int 64, .int 128]) hpl2
        have kD8 := s8 _ _ kD
        have er : (List.range (j + 1)).filter b.testBit = (List.range j).filter b.testBit ++ (if b.testBit j = true then [j] else []) := by
          rw [List.range_succ, List.filter_append]
          by_cases q : b.testBit j = true <;> simp [q]
        by_cases hbt : b.testBit j = true
        · rw [hbt]
          refine ⟨_, rfl, _, rfl, pn, L.map V.str, _, .str (L.getD j Str.empty), rfl, rfl, .inl (SqL.of (s8 _ _ (s7 _ _ kn6))), ?_, kD8, ?_, (s7.trans s8).put hD, upd_same, ?_, _, rfl⟩
          · rw [Int.zero_add]
            exact atI_nat (by rw [List.getElem?_map, List.getD_eq_getElem?_getD, List.getElem?_eq_getElem hjl]; rfl)
          · rw [List.length_map, List.length_map]
            have := List.length_filter_le b.testBit (List.range j)
            rw [List.length_range] at this
            exact small1000 (by omega)
          · rw [er, if_pos hbt, List.map_append, List.map_append]
            rfl
        · rw [Bool.eq_false_iff.mpr hbt]
          refine ⟨s7.trans s8, kD8, ?_, _, rfl⟩
          rw [er, if_neg hbt, List.append_nil]
      rintro acc σ H7 ⟨s7, kD, rfl, v, rfl⟩
      have e2 : n2.toNat = L.length := by omega
      rw [e2] at kD
      have kD : H7 D = some (.lst ((Nm.wordsOf L b).map V.str)) := kD
      have t7 := t6.trans s7
      have lt := text_len o b
      -- the text
      refine ⟨rfl, _, rfl, _, D, Nm.wordsOf L b, rfl, rfl, SqL.of kD, join_fit (fun y hy => ?_) ?_, ?_⟩
      · obtain ⟨r, hr', rfl⟩ := List.mem_map.mp hy
        have := List.mem_range.mp (List.mem_filter.mp hr').1
        rw [List.getD_eq_getElem?_getD, List.getElem?_eq_getElem this]
        exact Nat.le_trans (o.len _ (List.getElem_mem this)) (by decide)
      · unfold Nm.wordsOf
        rw [List.length_map]
        have := List.length_filter_le b.testBit (List.range L.length)
        rw [List.length_range] at this
        omega
      refine ⟨fun σ' H' => H' = H7 ∧ σ' = [some (.ref a), some (.ref pn), some (.ref ph), some (.int c), some (.int (b : Int)), some (.ref D), some (.str (Nm.textOf L b)), v5, v6], ?_, ?_⟩
      · refine ⟨_, rfl, rfl, _, rfl, ite3 (fun h => ⟨rfl, ?_⟩) (fun h => ⟨rfl, ?_⟩)⟩
        · have e : b = 0 := by have := int_inj.mp h; omega
          unfold Nm.textOf
          rw [if_pos e, ← of_mi]
          rfl
        · have e : b ≠ 0 := fun e => h (int_inj.mpr (by rw [e]; rfl))
          unfold Nm.textOf
          rw [if_neg e, ← of_pl, ← PySem.StrLaws.glued_eq_join]
          rfl
      rintro σ' H8 ⟨rfl, rfl⟩
      refine ⟨_, rfl, _, rfl, b, ph, L, rfl, SqL.of (t7 _ _ kh3), o, hb, fun H9 s9 => ?_⟩
      have t9 := t7.trans s9
      refine ⟨fun σ' H' => Same H3 H' ∧ σ' = [some (.ref a), some (.ref pn), some (.ref ph), some (.int c), some (.int (b : Int)), some (.ref D), some (.str (Nm.textOf L b)), some (.str (Nm.textOf L b)), v6], ?_, ?_⟩
      · refine ⟨_, rfl, _, _, _, _, _, rfl, .str (Nm.textOf L b), rfl, rfl, _, rfl, iteF ?_⟩
        refine ⟨_, rfl, _, rfl, rfl, _, rfl, iteNS rfl ?_⟩
        refine ⟨_, rfl, _, rfl, Nm.textOf L b, ph, L, rfl, SqL.of (t9 _ _ kh3), l8, by omega, fun n en q H10 s10 hq => ?_, fun en => ?_⟩
        · rw [Nm.due_text o hb] at en
          obtain rfl := Option.some.inj en
          exact ⟨_, rfl, q, (b : Int), rfl, fun H11 s11 => ⟨_, rfl, iteF ⟨t9.trans (s10.trans s11), rfl⟩⟩, .inr ⟨by omega, hq⟩⟩
        · rw [Nm.due_text o hb] at en
          cases en
      rintro σ' H10 ⟨t10, rfl⟩
      refine ⟨_, rfl, c, 2, 1, rfl, by decide, by decide, by decide, by decide, fun H11 r11 s11 _ _ => ⟨_, _, rfl, rfl, by decide, fun m _ _ _ => ⟨rfl, _, rfl, ite3 (fun _ => ?_) (fun _ => ⟨t10.trans s11, _, _, _, _, _, _, rfl⟩)⟩⟩⟩
      have t11 := t10.trans s11
      refine ⟨_, rfl, _, rfl, _, rfl, c, 3, 2, rfl, by decide, by decide, by decide, by decide, fun H12 r12 s12 _ _ => ?_⟩
      have t12 := t11.trans s12
      refine ⟨Nm.textOf L b, pn, L, r12, rfl, SqL.of (t12 _ _ kn3), o, by omega, fun y H13 s13 ly => ?_⟩
      have t13 := t12.trans s13
      cases hd : Nm.dueN L y with
      | some n =>
        refine ⟨_, rfl, _, rfl, y, ph, L, rfl, SqL.of (t13 _ _ kh3), l8, ly, fun n' en q H14 s14 hq => ?_, fun en => by rw [hd] at en; cases en⟩
        rw [hd] at en
        obtain rfl := Option.some.inj en
        refine ⟨_, rfl, _, rfl, y, pn, L, rfl, SqL.of (s14 _ _ (t13 _ _ kn3)), o, ly, fun v' H15 s15 hv => ?_⟩
        have hv' : v' = (n : Int) := by
          rcases hv with ⟨n', e1, e2⟩ | ⟨e1, _⟩
          · rw [hd] at e1; obtain rfl := Option.some.inj e1; exact e2
          · rw [hd] at e1; cases e1
        subst hv'
        exact ⟨q, (n : Int), rfl, fun H16 s16 => ⟨_, rfl, iteF ⟨t13.trans (s14.trans (s15.trans s16)), _, _, _, _, _, _, rfl⟩⟩, .inr ⟨by omega, s15 _ _ hq⟩⟩
      | none =>
        refine ⟨_, rfl, _, rfl, y, ph, L, rfl, SqL.of (t13 _ _ kh3), l8, ly, fun n' en => (by rw [hd] at en; cases en), fun _ q H14 s14 hq => ?_⟩
        refine ⟨_, rfl, _, rfl, y, pn, L, rfl, SqL.of (s14 _ _ (t13 _ _ kn3)), o, ly, fun v' H15 s15 hv => ?_⟩
        have hv' : v' = -1 := by
          rcases hv with ⟨n', e1, e2⟩ | ⟨_, e2⟩
          · rw [hd] at e1; cases e1
          · exact e2
        subst hv'
        exact ⟨q, -1, rfl, fun H16 s16 => ⟨_, rfl, iteF ⟨t13.trans (s14.trans (s15.trans s16)), _, _, _, _, _, _, rfl⟩⟩, .inl ⟨rfl, s15 _ _ hq⟩⟩
    · rintro σ H4 ⟨s4, v1, v2, v3, v4, v5, v6, rfl⟩
      obtain ⟨sh, se⟩ := list_shaped o
      refine ⟨_, rfl, _, rfl, .list (L.map PyData.str), .list (L.map PyData.str), dn_lst (SqL.of (s4 _ _ kh3)) (dn_strs L), dn_lst (SqL.of (s4 _ _ kn3)) (dn_strs L), sh, sh, ?_⟩
      rw [se]
      exact k H4

end
theorem walk {l : PySem.W.OpenLaw} {q : Program} {loose : List Str} {XP : (Str → Option Value) → Heap → Prop} {YP : World → Heap → Prop} {d : DefRec} {K : Params → PySem.W.Frag} (hn : l.most = some 63) (hdf : d.params.defaults = []) (hname : d.name = "law")
    (hY : ∀ (w : World) (h : Heap), YP w h → (K w.params).In h)
    (F : ∀ (w : World) (mg : Str → Option Value) (h : Heap), (K w.params).In h → h.Ns mainGlobals mg → ∃ A, Txt (K w.params) mg A) :
    PySem.W.WalkO q loose XP YP l.row.toRowW d [] (fun f vs => PySem.call f vs) :=
  L2.walk_ofB (k := 5) (x := "_law_script") hn hdf ⟨rfl, by decide, by decide⟩ hY
    (fun w mg fa h KX G hmg => by
      obtain ⟨_, T⟩ := F w mg h KX G
      obtain ⟨f, fd, hm, Fd⟩ := id T.d_law
      rw [hname] at hmg
      have e := hmg.symm.trans hm
      cases e
      exact ⟨fd, Fd.binds1 (fun _ _ _ _ _ _ _ => rfl), fun base _ _ => ok_law Fd T⟩)
end K78
open PySem PySem.W PyProof.Rows
set_option maxRecDepth 100000 in
set_option maxHeartbeats 0 in
theorem PySem.Challenge.cw_stoke_k78_bits_written_holds : PySem.Challenge.rw_stoke_k78_bits_written.Holds := by
  w_on; o_law; k_head; (case hw => w_witness2)
  k_fill
  refine K78.walk (l := PySem.Challenge.rw_stoke_k78_bits_written) rfl rfl rfl (fun w h Y => PySem.W.kIn_of Y) ?F
  case F =>
    intro w mg h KX G
    refine' ⟨_, K78.txt_mk KX G ?y_StokeError ?y_NoNumber ?y_NoHold ?y_TooMany ?y_NoStove ?y_NoState ?y_NoText ?y_NoLine ?y_NoName ?y_Twice ?y_x_NoText ?y_xga_NoText ?y_xgt_NoText ?y_xcl_NoText ?y_xmo_NoText ?y_xmb_NoText ?y_xis_NoText ?y_gs ?y_tk ?y_ex ?y_k0 ?y_k1 ?a_has_room ?l_has_room ?co_has_room ?k_has_room ?a_with_room ?l_with_room ?co_with_room ?k_with_room ?a_members ?l_members ?co_members ?k_members ?a_bits_of ?l_bits_of ?co_bits_of ?k_bits_of ?a_read_bits ?l_read_bits ?co_read_bits ?k_read_bits ?a_show_bits ?l_show_bits ?co_show_bits ?k_show_bits ?a_law_cell_at ?l_law_cell_at ?co_law_cell_at ?k_law_cell_at ?a_law_mix ?l_law_mix ?co_law_mix ?k_law_mix ?a_law_names ?l_law_names ?co_law_names ?k_law_names ?a_law_due ?l_law_due ?co_law_due ?k_law_due ?a_law_bent ?l_law_bent ?co_law_bent ?k_law_bent ?a_law_told ?l_law_told ?co_law_told ?k_law_told ?a_law_is ?l_law_is ?co_law_is ?k_law_is ?a_law ?l_law ?co_law ?k_law ?z_ValueError ?z_all ?z_bool ?z_int ?z_isinstance ?z_len ?z_list ?z_range ?z_reversed ?z_str ?z_zip⟩
    (case y_StokeError => k_is)
    (case y_NoNumber => k_is)
    (case y_NoHold => k_is)
    (case y_TooMany => k_is)
    (case y_NoStove => k_is)
    (case y_NoState => k_is)
    (case y_NoText => k_is)
    (case y_NoLine => k_is)
    (case y_NoName => k_is)
    (case y_Twice => k_is)
    (case y_x_NoText => k_exc)
    (case y_xga_NoText => k_is)
    (case y_xgt_NoText => k_is)
    (case y_xcl_NoText => k_is)
    (case y_xmo_NoText => k_is)
    (case y_xmb_NoText => k_is)
    (case y_xis_NoText => k_is)
    (case y_gs => k_is)
    (case y_tk => k_is)
    (case y_ex => kts_exm)
    (case y_k0 => kit_is)
    (case y_k1 => kit_is)
    (case a_has_room => k_is)
    (case l_has_room => k_is)
    (case co_has_room => k_is)
    (case k_has_room => k_is)
    (case a_with_room => k_is)
    (case l_with_room => k_is)
    (case co_with_room => k_is)
    (case k_with_room => k_is)
    (case a_members => k_is)
    (case l_members => k_is)
    (case co_members => k_is)
    (case k_members => k_is)
    (case a_bits_of => k_is)
    (case l_bits_of => k_is)
    (case co_bits_of => k_is)
    (case k_bits_of => k_is)
    (case a_read_bits => k_is)
    (case l_read_bits => k_is)
    (case co_read_bits => k_is)
    (case k_read_bits => k_is)
    (case a_show_bits => k_is)
    (case l_show_bits => k_is)
    (case co_show_bits => k_is)
    (case k_show_bits => k_is)
    (case a_law_cell_at => k_is)
    (case l_law_cell_at => k_is)
    (case co_law_cell_at => k_is)
    (case k_law_cell_at => k_is)
    (case a_law_mix => k_is)
    (case l_law_mix => k_is)
    (case co_law_mix => k_is)
    (case k_law_mix => k_is)
    (case a_law_names => k_is)
    (case l_law_names => k_is)
    (case co_law_names => k_is)
    (case k_law_names => k_is)
    (case a_law_due => k_is)
    (case l_law_due => k_is)
    (case co_law_due => k_is)
    (case k_law_due => k_is)
    (case a_law_bent => k_is)
    (case l_law_bent => k_is)
    (case co_law_bent => k_is)
    (case k_law_bent => k_is)
    (case a_law_told => k_is)
    (case l_law_told => k_is)
    (case co_law_told => k_is)
    (case k_law_told => k_is)
    (case a_law_is => k_is)
    (case l_law_is => k_is)
    (case co_law_is => k_is)
    (case k_law_is => k_is)
    (case a_law => k_is)
    (case l_law => k_is)
    (case co_law => k_is)
    (case k_law => k_is)
    (case z_ValueError => k_is)
    (case z_all => k_is)
    (case z_bool => k_is)
    (case z_int => k_is)
    (case z_isinstance => k_is)
    (case z_len => k_is)
    (case z_list => k_is)
    (case z_range => k_is)
    (case z_reversed => k_is)
    (case z_str => k_is)
    (case z_zip => k_is)

