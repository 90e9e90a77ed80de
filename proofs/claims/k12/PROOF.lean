import PyProof.Rows.All
import Wide.All
import OpenK.AllK
import Wide.FinOn
import Lean
import PyProof.EqAt
import PyProof.EqKinds
import PyProof.TupleCall
import PySem.Challenge.RW_stoke_k12_what_is_a_state
set_option Elab.async false
set_option linter.all false
set_option maxRecDepth 100000
namespace L2
open PySem PySem.Spec PyProof.Rows
abbrev Key:=Sum Int Str
def keyIs : Key→Value→Bool
 | .inl k,v => Value.isInt k v
 | .inr x,v => Value.isStrOf x v
def keyH (w : World) : Key→Int
 | .inl k => hashInt k
 | .inr x => hashStr w x
theorem keyIs_shape : ∀ {k : Key} {v : Value},keyIs k v = true→(∃ i t,k = Sum.inl i∧v = Value.int i t) ∨ (∃ x t,k = Sum.inr x∧v = Value.str x t)
 | .inl i,v,h => by
   obtain ⟨t,e⟩:=Value.isInt_shape (k:=i) (v:=v) h
   exact .inl ⟨i,t,rfl,e⟩
 | .inr x,v,h => by
   obtain ⟨t,e⟩:=Value.isStrOf_shape (x:=x) (v:=v) h
   exact .inr ⟨x,t,rfl,e⟩
theorem keyIs_int (i : Int) (t : Tok) : keyIs (.inl i) (.int i t) = true:=by simp [keyIs,Value.isInt]
theorem keyIs_str (x : Str) (t : Tok) : keyIs (.inr x) (.str x t) = true:=by simp [keyIs,Value.isStrOf]
theorem key_ll (a b : Int) : decide ((Sum.inl a : Key) = Sum.inl b) = (a == b):=by
 by_cases e : a = b
 · subst e; simp
 · have h : ¬ (Sum.inl a : Key) = Sum.inl b:=fun q => e (Sum.inl.inj q)
   rw [decide_eq_false h]
   exact (beq_eq_false_iff_ne.mpr e).symm
theorem key_rr (a b : Str) : decide ((Sum.inr a : Key) = Sum.inr b) = decide (a = b):=by
 by_cases e : a = b
 · subst e; simp
 · have h : ¬ (Sum.inr a : Key) = Sum.inr b:=fun q => e (Sum.inr.inj q)
   rw [decide_eq_false h,decide_eq_false e]
theorem key_lr (a : Int) (b : Str) : decide ((Sum.inl a : Key) = Sum.inr b) = false:=decide_eq_false (fun q => nomatch q)
theorem key_rl (a : Str) (b : Int) : decide ((Sum.inr a : Key) = Sum.inl b) = false:=decide_eq_false (fun q => nomatch q)
def mixKind (prog : Program) (w : World) : PySem.KeyKind prog w Key where
 is:=keyIs
 hash:=keyH w
 inj:=fun v a b ha hb => by
   rcases keyIs_shape ha with ⟨i,t,rfl,rfl⟩ | ⟨x,t,rfl,rfl⟩
   · rcases keyIs_shape hb with ⟨j,u,rfl,e⟩ | ⟨y,u,rfl,e⟩
     · injection e with e1 _; rw [e1]
     · exact nomatch e
   · rcases keyIs_shape hb with ⟨j,u,rfl,e⟩ | ⟨y,u,rfl,e⟩
     · exact nomatch e
     · injection e with e1 _; rw [e1]
 byValue:=fun k v h => by
   rcases keyIs_shape h with ⟨i,t,rfl,rfl⟩ | ⟨x,t,rfl,rfl⟩ <;> rfl
 pyHash:=fun hv h => by
   rcases keyIs_shape hv with ⟨i,t,rfl,rfl⟩ | ⟨x,t,rfl,rfl⟩
   · exact wpAny_pyHash_int h
   · exact wpAny_pyHash_str h
 eqBool:=fun hu hv h => by
   rcases keyIs_shape hu with ⟨i,t,rfl,rfl⟩ | ⟨x,t,rfl,rfl⟩
   · rcases keyIs_shape hv with ⟨j,u,rfl,rfl⟩ | ⟨y,u,rfl,rfl⟩
     · rw [key_ll] at h; exact wpAny_eqBool_int h
     · rw [key_lr] at h; exact SeqAt.EqAt.int_str i t y u _ _ _ _ h
   · rcases keyIs_shape hv with ⟨j,u,rfl,rfl⟩ | ⟨y,u,rfl,rfl⟩
     · rw [key_rl] at h; exact SeqAt.EqAt.str_int x t j u _ _ _ _ h
     · rw [key_rr] at h; exact wpAny_eqBool_str h
 «strs»:=fun k x t v h => by
   rcases keyIs_shape h with ⟨i,u,rfl,e⟩ | ⟨y,u,rfl,e⟩
   · exact nomatch e
   · injection e with e1 _
     subst e1
     cases v <;> rfl
theorem mixKind_int (prog : Program) (w : World) (i : Int) (t : Tok) : (mixKind prog w).is (.inl i) (.int i t) = true:=keyIs_int i t
theorem mixKind_str (prog : Program) (w : World) (x : Str) (t : Tok) : (mixKind prog w).is (.inr x) (.str x t) = true:=keyIs_str x t
end L2
namespace L2
open PySem PySem.Spec PyProof.Rows
inductive V where
 | non | bl (b : Bool) | int (i : Int) | str (x : Str) | byt (b : Array UInt8) | flt (b : UInt64) | ref (a : Addr) | ty (n : String)
 deriving DecidableEq
def RelV : V→Value→Prop
 | .non,u => u = Value.none
 | .bl b,u => u = Value.bool b
 | .int i,u => ∃ t,u = Value.int i t
 | .str x,u => ∃ t,u = Value.str x t
 | .byt b,u => ∃ t,u = Value.bytes b t
 | .flt b,u => ∃ t,u = Value.float b t
 | .ref a,u => u = Value.ref a
 | .ty n,u => u = Value.type n
abbrev Vals : List V→List Value→Prop:=Paired RelV
theorem Vals.length {xs : List V} {us : List Value} (r : Vals xs us) : xs.length = us.length:=Paired.length r
theorem Vals.get : ∀ {xs : List V} {us : List Value} {i : Nat} {x : V},Vals xs us→xs[i]? = some x→∃ u,us[i]? = some u∧RelV x u
 | _,_,_,_,.nil,e => by simp at e
 | _,_,0,_,.cons r _,e => by simp at e; subst e; exact ⟨_,rfl,r⟩
 | _,_,i + 1,x,.cons _ t,e => by
   obtain ⟨u,h1,h2⟩:=Vals.get (i:=i) (x:=x) t (by simpa using e)
   exact ⟨u,by simpa using h1,h2⟩
theorem Vals.set {x : V} {u : Value} (r : RelV x u) : ∀ {xs : List V} {us : List Value} (i : Nat),Vals xs us→Vals (xs.set i x) (us.set i u)
 | _,_,_,.nil => .nil
 | _,_,0,.cons _ t => .cons r t
 | _,_,i + 1,.cons q t => .cons q (Vals.set r i t)
theorem Vals.append : ∀ {xs ys : List V} {us ws : List Value},Vals xs us→Vals ys ws→Vals (xs ++ ys) (us ++ ws)
 | _,_,_,_,.nil,s => s
 | _,_,_,_,.cons r t,s => .cons r (Vals.append t s)
theorem Vals.take : ∀ {xs : List V} {us : List Value} (n : Nat),Vals xs us→Vals (xs.take n) (us.take n)
 | _,_,0,_ => .nil
 | _,_,_ + 1,.nil => .nil
 | _,_,n + 1,.cons r t => .cons r (Vals.take n t)
theorem Vals.drop : ∀ {xs : List V} {us : List Value} (n : Nat),Vals xs us→Vals (xs.drop n) (us.drop n)
 | _,_,0,r => r
 | _,_,_ + 1,.nil => .nil
 | _,_,n + 1,.cons _ t => Vals.drop n t
def RelO : Option V→Option Value→Prop
 | some v,some u => RelV v u
 | none,none => True
 | _,_ => False
def KV {κ : Type} : List (κ × V)→List (κ × Value)→Prop:=Paired fun (p : κ × V) (q : κ × Value) => p.1 = q.1∧RelV p.2 q.2
def kV : Key→V
 | .inl i => .int i
 | .inr x => .str x
inductive HO where
 | lst (xs : List V)
 | tup (xs : List V)
 | dK (kvs : List (Key × V)) | dT (kvs : List (List Key × V))
 | set (S : Int→Bool) (n : Nat)
 | ins (C dx : Addr) (fs : List (Str × V))
 | own (x : Addr)
 | xd (fs : List (Str × V))
 | met (f x : Addr)
 | rng (lo hi : Int)
 | frz (o : Obj) (u : HO)
 | tbl (ps : Array Value)
 | ext (φ : Heap→Prop)
abbrev Hp:=Addr→Option HO
def upd (H : Hp) (a : Addr) (o : HO) : Hp:=fun b => if b = a then some o else H b
theorem upd_same {H : Hp} {a : Addr} {o : HO} : upd H a o a = some o:=by unfold upd; rw [if_pos rfl]
theorem upd_ne {H : Hp} {a b : Addr} {o : HO} (h : b ≠ a) : upd H a o b = H b:=by unfold upd; rw [if_neg h]
theorem upd_upd {H : Hp} {a : Addr} {o u : HO} : upd (upd H a o) a u = upd H a u:=by
 funext b; unfold upd; split <;> rfl
theorem ne_of {H : Hp} {a b : Addr} {o u : HO} (h : H a = some o) (h' : H b = some u) (d : o ≠ u) : a ≠ b:=by
 intro e; subst e; rw [h] at h'; exact d (Option.some.inj h')
theorem ne_of_none {H : Hp} {a b : Addr} {o : HO} (h : H a = some o) (h' : H b = none) : a ≠ b:=by
 intro e; subst e; rw [h] at h'; cases h'
section
variable (P : Program) (w : World)
def ObjOk (H : Hp) (h : Heap) (a : Addr) : HO→Prop
 | .lst xs => xs.length ≤ sizeLine∧∃ (its : List Value) (n : Nat),Vals xs its∧h.get? a = some { cls:=.type "list",data:=.seq its.toArray n }
 | .tup xs => xs.length ≤ sizeLine∧∃ its : List Value,Vals xs its∧IsTup h a its.toArray
 | .dK kvs => kvs.length ≤ sizeLine∧(a == sysModules) = false∧∃ vs,KV kvs vs∧h.DictOf (mixKind P w) a vs
 | .dT kvs => kvs.length ≤ sizeLine∧(a == sysModules) = false∧∃ xs : List (List Key × Addr × Value),
     Paired (fun (p : List Key × V) (q : List Key × Addr × Value) => p.1 = q.1∧H q.2.1 = some (.tup (p.1.map kV))∧RelV p.2 q.2.2) kvs xs ∧
     ∃ o es ep,h.get? a = some o∧o.ExactDict∧o.data = .dict es ep∧es.toList = xs.map (entryOfKey (tupleKind (mixKind P w)))∧(xs.map (·.1)).Nodup
 | .set S n => h.SetOf (intKind P w) a S n
 | .ins C dx fs => H dx = some (.own a)∧fs.length ≤ 1000∧dx ≠ a∧h.get? a = some (PySem.W.instObj C dx) ∧
     ∃ mA,h.Ns1 dx mA∧(∀ f,RelO (fs.lookup f) (mA f))∧PySem.Within mA (fs.map (·.1))
 | .own _ => ∃ o,h.get? a = some o
 | .xd fs => ∃ mA,h.Ns1 a mA∧∀ f,RelO (fs.lookup f) (mA f)
 | .rng lo hi => ∃ t u v,h.get? a = some { cls:=.type "range",data:=.fields #[.int lo t,.int hi u,.int 1 v] }
 | .frz o u => h.get? a = some o∧ObjOk H h a u
 | .tbl ps => h.get? a = some { cls:=.none,data:=.fields ps }
 | .met f x => h.get? a = some (PySem.W.methodObj (.ref f) (.ref x))
 | .ext φ => φ h∧(∃ o,h.get? a = some o)∧∀ h1 h2 : Heap,φ h1→(∀ o,h1.get? a = some o→h2.get? a = some o)→φ h2
def HOk (H : Hp) (h : Heap) : Prop:=∀ a o,H a = some o→ObjOk P w H h a o
end
section
variable {P : Program} {w : World} {H H' : Hp} {h h' : Heap} {a : Addr} {o : HO}
theorem ObjOk.lt (x : ObjOk P w H h a o) : a < h.objs.size:=by
 cases o with
 | lst xs => obtain ⟨_,_,_,_,e⟩:=x; exact Heap.lt_size e
 | tup xs => obtain ⟨_,_,_,p⟩:=x; exact p.lt
 | dK kvs => obtain ⟨_,_,_,_,o,_,_,e,_⟩:=x; exact Heap.lt_size e
 | dT kvs => obtain ⟨_,_,_,_,o,_,_,e,_⟩:=x; exact Heap.lt_size e
 | set S n => obtain ⟨o,_,_,_,e,_⟩:=x; exact Heap.lt_size e
 | ins C dx fs => obtain ⟨_,_,_,e,_⟩:=x; exact Heap.lt_size e
 | own y => obtain ⟨_,e⟩:=x; exact Heap.lt_size e
 | xd fs => obtain ⟨_,⟨_,_,_,e,_⟩,_⟩:=x; exact Heap.lt_size e
 | rng lo hi => obtain ⟨_,_,_,e⟩:=x; exact Heap.lt_size e
 | frz ob u => obtain ⟨e,_⟩:=x; exact Heap.lt_size e
 | tbl ps => exact Heap.lt_size (show h.get? a = some _ from x)
 | met f y => exact Heap.lt_size (show h.get? a = some _ from x)
 | ext φ => obtain ⟨_,⟨_,e⟩,_⟩:=x; exact Heap.lt_size e
theorem Paired.mapP {α β : Type} {F G : α→β→Prop} : ∀ {l₁ : List α} {l₂ : List β},Paired F l₁ l₂→(∀ a b,F a b→G a b)→Paired G l₁ l₂
 | _,_,.nil,_ => .nil
 | _,_,.cons r t,f => .cons (f _ _ r) (Paired.mapP t f)
theorem ObjOk.stay (x : ObjOk P w H h a o) (k : ∀ b u,(b = a ∨ H b = some (.own a))→h.get? b = some u→h'.get? b = some u)
   (ho : ∀ b,H b = some (.own a)→H' b = some (.own a)) (ht : ∀ b xs,H b = some (.tup xs)→H' b = some (.tup xs)) : ObjOk P w H' h' a o:=by
 induction o with
 | lst xs => obtain ⟨z,its,n,r,e⟩:=x; exact ⟨z,its,n,r,k _ _ (.inl rfl) e⟩
 | tup xs => obtain ⟨z,its,r,ob,e,c⟩:=x; exact ⟨z,its,r,ob,k _ _ (.inl rfl) e,c⟩
 | dK kvs => obtain ⟨z,y,vs,r,ob,es,ep,e,c⟩:=x; exact ⟨z,y,vs,r,ob,es,ep,k _ _ (.inl rfl) e,c⟩
 | dT kvs =>
   obtain ⟨z,y,xs,r,ob,es,ep,e,c⟩:=x
   exact ⟨z,y,xs,Paired.mapP r fun p q z => ⟨z.1,ht _ _ z.2.1,z.2.2⟩,ob,es,ep,k _ _ (.inl rfl) e,c⟩
 | set S n => obtain ⟨ob,es,ep,t,e,c⟩:=x; exact ⟨ob,es,ep,t,k _ _ (.inl rfl) e,c⟩
 | ins C dx fs =>
   obtain ⟨d,z,ne,e,mA,⟨od,es,ep,e2,c⟩,r⟩:=x
   exact ⟨ho _ d,z,ne,k _ _ (.inl rfl) e,mA,⟨od,es,ep,k _ _ (.inr d) e2,c⟩,r⟩
 | own y => obtain ⟨ob,e⟩:=x; exact ⟨ob,k _ _ (.inl rfl) e⟩
 | xd fs => obtain ⟨mA,⟨od,es,ep,e,c⟩,r⟩:=x; exact ⟨mA,⟨od,es,ep,k _ _ (.inl rfl) e,c⟩,r⟩
 | rng lo hi => obtain ⟨t,u,v,e⟩:=x; exact ⟨t,u,v,k _ _ (.inl rfl) e⟩
 | frz ob u ih => obtain ⟨e,q⟩:=x; exact ⟨k _ _ (.inl rfl) e,ih q⟩
 | tbl ps =>
   have e : h.get? a = some { cls:=.none,data:=.fields ps }:=x
   show h'.get? a = some { cls:=.none,data:=.fields ps }
   exact k a _ (.inl rfl) e
 | met f y =>
   have e : h.get? a = some (PySem.W.methodObj (.ref f) (.ref y)):=x
   show h'.get? a = some (PySem.W.methodObj (.ref f) (.ref y))
   exact k a _ (.inl rfl) e
 | ext φ => obtain ⟨p,⟨o,e⟩,st⟩:=x; exact ⟨st _ _ p fun o q => k _ _ (.inl rfl) q,⟨o,k _ _ (.inl rfl) e⟩,st⟩
theorem HOk.lt (x : HOk P w H h) (e : H a = some o) : a < h.objs.size:=(x a o e).lt
theorem HOk.fresh (x : HOk P w H h) (e : h.objs.size ≤ a) : H a = none:=by
 cases q : H a with
 | none => rfl
 | some u => exact absurd (Nat.lt_of_lt_of_le (x.lt q) e) (Nat.lt_irrefl _)
theorem HOk.kept (x : HOk P w H h) (k : ∀ b u,h.get? b = some u→h'.get? b = some u) : HOk P w H h':=fun a o e =>
 (x a o e).stay (fun b u _ q => k b u q) (fun _ q => q) fun _ _ q => q
theorem HOk.laid (x : HOk P w H h) (k : ∀ b u,h.get? b = some u→h'.get? b = some u) (hp : h.objs.size ≤ a) (new : ObjOk P w (upd H a o) h' a o) : HOk P w (upd H a o) h':=fun b u e => by
 have hn:=x.fresh hp
 by_cases hb : b = a
 · subst hb; rw [upd_same] at e; cases e; exact new
 · rw [upd_ne hb] at e
   exact (x b u e).stay (fun c v _ q => k c v q) (fun c q => by rw [upd_ne (ne_of_none q hn)]; exact q) fun c xs q => by rw [upd_ne (ne_of_none q hn)]; exact q
end
def Rd (H : Hp) (a : Addr) (u : HO) : Prop:=H a = some u ∨ ∃ o,H a = some (.frz o u)
theorem Rd.ok {P : Program} {w : World} {H : Hp} {h : Heap} {a : Addr} {u : HO} (r : Rd H a u) (x : HOk P w H h) : ObjOk P w H h a u:=by
 rcases r with r | ⟨o,r⟩
 · exact x a u r
 · obtain ⟨_,q⟩:=x a _ r
   exact q
def Mut : Option HO→Prop
 | some (.lst _) => True
 | some (.dK _) => True
 | some (.dT _) => True
 | some (.set _ _) => True
 | some (.ins _ _ _) => True
 | some (.ext _) => True
 | _ => False
section
variable {P : Program} {w : World} {H : Hp} {h h' : Heap} {x e : Addr} {o' : HO}
theorem HOk.write (ok : HOk P w H h) (mu : Mut (H x)) (he : e = x ∨ H e = some (.own x)) (k : ∀ b u,b ≠ e→h.get? b = some u→h'.get? b = some u) (heo : ∃ u,h'.get? e = some u)
   (new : ObjOk P w (upd H x o') h' x o') : HOk P w (upd H x o') h':=fun b u q => by
 have nown : ∀ c y,H c = some (.own y)→c ≠ x:=fun c y r z => by subst z; rw [r] at mu; exact mu
 have ntup : ∀ c xs,H c = some (.tup xs)→c ≠ x:=fun c xs r z => by subst z; rw [r] at mu; exact mu
 by_cases hb : b = x
 · subst hb; rw [upd_same] at q; cases q; exact new
 · rw [upd_ne hb] at q
   by_cases hbe : b = e
   · have q' : H b = some (.own x):=by
       rcases he with z | z
       · exact absurd (hbe.trans z) hb
       · rw [hbe]; exact z
     rw [q] at q'; cases q'
     obtain ⟨v,hv⟩:=heo
     exact ⟨v,by rw [hbe]; exact hv⟩
   · refine (ok b u q).stay (fun c v hc r => k c v ?_ r) (fun c r => by rw [upd_ne (nown c b r)]; exact r) fun c xs r => by rw [upd_ne (ntup c xs r)]; exact r
     rcases hc with rfl | hc
     · exact hbe
     · rintro rfl
       rcases he with z | z
       · exact nown c b hc z
       · rw [hc] at z; cases z; exact hb rfl
end
structure Un (fs ex : List Addr) (H H' : Hp) (h h' : Heap) : Prop where
 keep : ∀ b o,h.get? b = some o→H b = none→b ∉ fs→b ∉ ex→h'.get? b = some o
 slot : ∀ b o,h.get? b = some o→H b = none→b ∈ fs→b ∉ ex→∃ sl,h'.get? b = some { o with slots:=sl }
 free : ∀ b o,h.get? b = some o→H b = none→b ∉ ex→H' b = none
 there : ∀ b o,h.get? b = some o→b ∉ ex→∃ o',h'.get? b = some o'
 tups : ∀ b xs,H b = some (.tup xs)→H' b = some (.tup xs)
 frzs : ∀ b o u,H b = some (.frz o u)→H' b = some (.frz o u)
 tbls : ∀ b ps,H b = some (.tbl ps)→∃ more,H' b = some (.tbl (ps ++ more))
section
variable {fs fs' ex ex' : List Addr} {H H1 H2 : Hp} {h h1 h2 h' : Heap} {a x e : Addr} {o : HO}
theorem Un.any (u : Un fs ex H H1 h h1) {b : Addr} {ob : Obj} (q : h.get? b = some ob) (n : H b = none) (hx : b ∉ ex) : ∃ sl,h1.get? b = some { ob with slots:=sl }:=by
 by_cases hb : b ∈ fs
 · exact u.slot b ob q n hb hx
 · exact ⟨ob.slots,u.keep b ob q n hb hx⟩
theorem Un.kept (k : ∀ b u,h.get? b = some u→h'.get? b = some u) : Un fs ex H H h h' :=
 ⟨fun b ob q _ _ _ => k b ob q,fun b ob q _ _ _ => ⟨ob.slots,k b ob q⟩,fun _ _ _ n _ => n,fun b ob q _ => ⟨ob,k b ob q⟩,fun _ _ q => q,fun _ _ _ q => q,fun _ ps q => ⟨#[],by rw [q]; simp⟩⟩
theorem Un.refl : Un fs ex H H h h:=Un.kept fun _ _ q => q
theorem Un.laid (k : ∀ b u,h.get? b = some u→h'.get? b = some u) (hp : h.objs.size ≤ a) (hn : H a = none) : Un fs ex H (upd H a o) h h' where
 keep:=fun b u q _ _ _ => k b u q
 slot:=fun b u q _ _ _ => ⟨u.slots,k b u q⟩
 free:=fun b u q n _ => by rw [upd_ne (Nat.ne_of_lt (Nat.lt_of_lt_of_le (Heap.lt_size q) hp))]; exact n
 there:=fun b u q _ => ⟨u,k b u q⟩
 tups:=fun b xs q => by rw [upd_ne (ne_of_none q hn)]; exact q
 frzs:=fun b u xs q => by rw [upd_ne (ne_of_none q hn)]; exact q
 tbls:=fun b ps q => ⟨#[],by rw [upd_ne (ne_of_none q hn),q]; simp⟩
theorem Un.write (mu : Mut (H x)) (he : e = x ∨ H e = some (.own x)) (k : ∀ b u,b ≠ e→h.get? b = some u→h'.get? b = some u) (heo : ∃ u,h'.get? e = some u) : Un fs ex H (upd H x o) h h':=by
 have hx : ∀ b,H b = none→b ≠ x:=fun b n z => by subst z; rw [n] at mu; exact mu
 have hb : ∀ b,H b = none→b ≠ e:=fun b n z => by
   subst z
   rcases he with r | r
   · exact hx b n r
   · rw [n] at r; cases r
 have hm : ∀ b u,H b = some u→¬ Mut (some u)→b ≠ x:=fun b u q nm z => by subst z; rw [q] at mu; exact nm mu
 refine ⟨fun b u q n _ _ => k b u (hb b n) q,fun b u q n _ _ => ⟨u.slots,k b u (hb b n) q⟩,fun b u q n _ => by rw [upd_ne (hx b n)]; exact n,fun b u q _ => ?_,
   fun b xs q => by rw [upd_ne (hm b _ q fun z => z)]; exact q,fun b u xs q => by rw [upd_ne (hm b _ q fun z => z)]; exact q,fun b ps q => ⟨#[],by rw [upd_ne (hm b _ q fun z => z),q]; simp⟩⟩
 by_cases hbe : b = e
 · subst hbe; exact heo
 · exact ⟨u,k b u hbe q⟩
end
def trk (h : Heap) (H : Hp) : List Addr:=(List.range h.objs.size).filter fun a => (H a).isSome
def hidT (h : Heap) (H : Hp) : Heap:=PySem.W.hideAll h (trk h H)
theorem hidT_size (h : Heap) (H : Hp) : (hidT h H).objs.size = h.objs.size:=PySem.W.hideAll_size _ _
theorem hidT_get {h : Heap} {H : Hp} {b : Addr} {o : Obj} (e : h.get? b = some o) (n : H b = none) : (hidT h H).get? b = some o :=
 PySem.W.hideAll_get _ e fun hm => by
   have q : (H b).isSome = true:=(List.mem_filter.mp hm).2
   rw [n] at q; simp at q
theorem of_hidT {h : Heap} {H : Hp} {b : Addr} {o : Obj} (e : (hidT h H).get? b = some o) : h.get? b = some o∧H b = none:=by
 have e' : h.get? b = some o:=PySem.W.of_hideAll (trk h H) e
 refine ⟨e',?_⟩
 cases q : H b with
 | none => rfl
 | some x =>
   have hm : b ∈ trk h H:=List.mem_filter.mpr ⟨List.mem_range.mpr (Heap.lt_size e'),by simp [q]⟩
   have z : (hidT h H).get? b = none:=PySem.W.hideAll_none (trk h H) hm
   rw [z] at e; cases e
end L2
namespace L2
open PySem PySem.Spec PyProof.Rows
structure Mod (K : PySem.W.Frag) (mg : Str→Option Value) (base : Heap) : Prop where
 kin : K.In base
 glob : base.Ns mainGlobals mg
 blt : ∃ mb,base.Ns builtinsNs mb∧∀ x : Str,x ≠ "__name__"→mb x = bootBuiltins x
 nolimit : base.NoLimit
structure Cx where
 prog : Program
 w : World
 K : PySem.W.Frag
 mg : Str→Option Value
 base : Heap
 A : Around
 N : List Str
 s₀ : Shared
 H₀ : Hp
 env : Env
 outer : List Env
 stack : List Env
 ex : List Addr
 fn : Str→Bool
 calm : Bool
 pn : List (Addr × Obj)
 xe : Value→Shared→Prop
def frs (l : List Env) : List Addr:=l.filterMap (·.frame)
abbrev Cx.fs (X : Cx) : List Addr:=frs X.outer
def Vis (sc : Scope) (x : Str) : Prop:=sc.names.lookup x = some .local ∨ sc.names.lookup x = some .cell ∨ sc.names.lookup x = some .free
def Loc (sc : Scope) (x : Str) : Prop:=sc.names.lookup x = some .local ∨ sc.names.lookup x = some .cell
def Look (env : Env) (h : Heap) (m : Str→Option Value) (x : Str) (u : Value) : Prop :=
 (env.kindOf x = some .local∧m x = some u) ∨ ((env.kindOf x = some .cell ∨ env.kindOf x = some .free)∧∃ c,env.cells.lookup x = some c∧h.IsCell c (some u))
structure Cx.Ok (X : Cx) : Prop where
 mod : Mod X.K X.mg X.base
 kind : X.env.scope.kind = .function
 glob : X.env.globals = mainGlobals
 blt : X.env.builtins = builtinsNs
 above : X.s₀.heap.objs.size ≤ X.env.locals
 inj : ∀ x y c,X.env.cells.lookup x = some c→X.env.cells.lookup y = some c→x = y
 has : ∀ x,(X.env.kindOf x = some .cell ∨ X.env.kindOf x = some .free)→∃ c,X.env.cells.lookup x = some c
 cab : ∀ x c,X.fn x = true→X.env.cells.lookup x = some c→X.s₀.heap.objs.size ≤ c
 hd : X.calm = true→X.A.handled = none
 frames : X.A.frames = some X.stack
 stk : X.stack = X.outer ∨ (X.stack = X.env :: X.outer∧X.env.frame = some X.env.locals)
 exf : ∀ b ∈ X.ex,b ≠ X.env.locals∧∀ x c,X.env.cells.lookup x = some c→c ≠ b
 bs : ∀ b o,X.base.get? b = some o→X.s₀.heap.get? b = some o∧X.H₀ b = none
 bsz : X.base.objs.size ≤ X.s₀.heap.objs.size
 noex : ∀ b o,X.base.get? b = some o→b ∉ X.ex
 exfs : ∀ b ∈ X.ex,b ∉ X.fs
 funs : X.s₀.heap.FunFrames X.base X.outer
 frf : ∀ b ∈ X.fs,X.H₀ b = none
structure Inv (X : Cx) (pins : List (Addr × Obj)) (σ : List (Option V)) (H : Hp) (s : Shared) : Prop where
 ok : X.Ok
 os : s.os = X.s₀.os
 bare : AllBare s.gens
 base : Un X.fs X.ex X.H₀ H X.s₀.heap s.heap
 loc : ∃ m,s.heap.Ns X.env.locals m∧∀ (i : Nat) (x : Str) (v : V),X.N[i]? = some x→σ[i]? = some (some v)→Vis X.env.scope x→∃ u,RelV v u∧Look X.env s.heap m x u
 cell : ∀ x c,X.env.cells.lookup x = some c→∃ v,s.heap.IsCell c v
 free : H X.env.locals = none
 freeC : ∀ x c,X.env.cells.lookup x = some c→H c = none
 pin : ∀ p ∈ X.pn ++ pins,s.heap.get? p.1 = some p.2∧H p.1 = none∧p.1 ≠ X.env.locals∧p.1 ∉ X.fs∧∀ v,p.2.data ≠ .cell v
 hok : HOk X.prog X.w H s.heap
 len : σ.length = X.N.length
section
variable {X : Cx} {pins : List (Addr × Obj)} {σ : List (Option V)} {H H' : Hp} {s : Shared} {h' : Heap}
theorem Cx.Ok.nofr (ok : X.Ok) {b : Addr} {o : Obj} (e : X.base.get? b = some o) : b ∉ X.fs:=fun hb => by
 have:=(ok.funs.mem hb).1
 rw [e] at this; cases this
theorem Inv.bs (I : Inv X pins σ H s) : ∀ b o,X.base.get? b = some o→s.heap.get? b = some o∧H b = none:=fun b o e =>
 ⟨I.base.keep b o (I.ok.bs b o e).1 (I.ok.bs b o e).2 (I.ok.nofr e) (I.ok.noex b o e),I.base.free b o (I.ok.bs b o e).1 (I.ok.bs b o e).2 (I.ok.noex b o e)⟩
theorem Inv.bk (I : Inv X pins σ H s) : ∀ b o,X.base.get? b = some o→s.heap.get? b = some o:=fun b o e => (I.bs b o e).1
theorem Inv.mod (I : Inv X pins σ H s) : Mod X.K X.mg X.base:=I.ok.mod
theorem Inv.kIn (I : Inv X pins σ H s) : X.K.In s.heap:=I.ok.mod.kin.keeps I.bk
theorem Inv.lt (I : Inv X pins σ H s) : X.env.locals < s.heap.objs.size:=let ⟨_,hn,_⟩:=I.loc; hn.lt
theorem Inv.sz (I : Inv X pins σ H s) : X.s₀.heap.objs.size ≤ s.heap.objs.size:=Nat.le_trans I.ok.above (Nat.le_of_lt I.lt)
theorem Inv.nofs (I : Inv X pins σ H s) {a : Addr} (h : s.heap.objs.size ≤ a) : a ∉ X.fs:=fun hb => by
 obtain ⟨_,o,ho,_⟩:=I.ok.funs.mem hb
 exact absurd (Nat.lt_of_lt_of_le (Heap.lt_size ho) (Nat.le_trans I.sz h)) (Nat.lt_irrefl _)
theorem Inv.cne (I : Inv X pins σ H s) : ∀ x c,X.env.cells.lookup x = some c→c ≠ X.env.locals:=fun x c e z => by
 obtain ⟨v,o,ho,hd⟩:=I.cell x c e
 obtain ⟨m,⟨o',es,ep,ho',hd',_⟩,_⟩:=I.loc
 rw [z,ho'] at ho; cases ho; rw [hd'] at hd; cases hd
theorem Inv.funs (I : Inv X pins σ H s) : s.heap.FunFrames X.base X.outer:=by
 have all : ∀ (l : List Env),(∀ b ∈ frs l,b ∈ X.fs)→X.s₀.heap.FunFrames X.base l→s.heap.FunFrames X.base l:=by
   intro l
   induction l with
   | nil => intro _ _; trivial
   | cons env r ih =>
     intro hs hl
     obtain ⟨hk,⟨L,o,hf,hn,ho,hd⟩,hr⟩:=hl
     have hL : L ∈ X.fs:=hs L (by unfold frs; rw [List.filterMap_cons,hf]; exact List.mem_cons_self)
     obtain ⟨sl,e⟩:=I.base.slot L o ho (I.ok.frf L hL) hL fun z => I.ok.exfs L z hL
     exact ⟨hk,⟨L,_,hf,hn,e,hd⟩,ih (fun b hb => hs b (by unfold frs; rw [List.filterMap_cons,hf]; exact List.mem_cons_of_mem _ hb)) hr⟩
 exact all X.outer (fun _ hb => hb) I.ok.funs
theorem Inv.stack (I : Inv X pins σ H s) : s.heap.FunFrames X.base X.stack:=by
 rcases I.ok.stk with e | ⟨e,hf⟩
 · rw [e]; exact I.funs
 · rw [e]
   obtain ⟨m,hn,_⟩:=I.loc
   refine .cons (by rw [I.ok.kind]; decide) hf hn ?_ I.funs
   exact Heap.get?_none_of_le (Nat.le_trans I.ok.bsz I.ok.above)
theorem Inv.stkSub (I : Inv X pins σ H s) : ∀ b ∈ frs X.stack,b ∈ X.env.locals :: X.fs:=fun b hb => by
 rcases I.ok.stk with e | ⟨e,hf⟩
 · rw [e] at hb; exact List.mem_cons_of_mem _ hb
 · rw [e] at hb
   unfold frs at hb
   rw [List.filterMap_cons,hf] at hb
   exact hb
theorem Inv.stkFree (I : Inv X pins σ H s) : ∀ b ∈ frs X.stack,H b = none:=fun b hb => by
 rcases List.mem_cons.mp (I.stkSub b hb) with e | hb
 · rw [e]; exact I.free
 · obtain ⟨_,o,ho,_⟩:=I.ok.funs.mem hb
   exact I.base.free b o ho (I.ok.frf b hb) fun z => I.ok.exfs b z hb
theorem Inv.step {g' : Array GenState} {t' : Nat} {d' : Drawn} {ch : List Addr} (I : Inv X pins σ H s)
   (hch : ∀ b ∈ ch,(b ∈ X.ex ∨ X.s₀.heap.objs.size ≤ b)∧b ≠ X.env.locals∧(∀ x c,X.env.cells.lookup x = some c→c ≠ b)∧∀ p ∈ X.pn ++ pins,p.1 ≠ b)
   (keep : ∀ b o,b ≠ X.env.locals→b ∉ X.fs→b ∉ ch→s.heap.get? b = some o→H b = none→h'.get? b = some o)
   (slot : ∀ b o,b ≠ X.env.locals→b ∈ X.fs→b ∉ ch→s.heap.get? b = some o→H b = none→∃ sl,h'.get? b = some { o with slots:=sl }) (free : ∀ b o,b ∉ ch→s.heap.get? b = some o→H b = none→H' b = none)
   (there : ∀ b o,b ∉ ch→s.heap.get? b = some o→∃ o',h'.get? b = some o')
   (tups : ∀ b xs,H b = some (.tup xs)→H' b = some (.tup xs)) (frzs : ∀ b o u,H b = some (.frz o u)→H' b = some (.frz o u)) (tbls : ∀ b ps,H b = some (.tbl ps)→∃ more,H' b = some (.tbl (ps ++ more)))
   (ns : ∀ m,s.heap.Ns X.env.locals m→h'.Ns X.env.locals m) (hok : HOk X.prog X.w H' h') (hg : AllBare g') :
   Inv X pins σ H' { s with heap:=h',gens:=g',drawn:=d',toks:=t' }:=by
 have neL : ∀ b o,X.s₀.heap.get? b = some o→b ≠ X.env.locals:=fun b o e => Nat.ne_of_lt (Nat.lt_of_lt_of_le (Heap.lt_size e) I.ok.above)
 have neC : ∀ b o,X.s₀.heap.get? b = some o→b ∉ X.ex→b ∉ ch:=fun b o e hx hb => by
   rcases (hch b hb).1 with z | z
   · exact hx z
   · exact absurd (Nat.lt_of_lt_of_le (Heap.lt_size e) z) (Nat.lt_irrefl _)
 have cellK : ∀ x c,X.env.cells.lookup x = some c→∀ v,s.heap.IsCell c v→h'.IsCell c v:=fun x c e v ⟨o,ho,hd⟩ => by
   have nch : c ∉ ch:=fun z => (hch c z).2.2.1 x c e rfl
   by_cases hc : c ∈ X.fs
   · obtain ⟨sl,q⟩:=slot c o (I.cne x c e) hc nch ho (I.freeC x c e)
     exact ⟨_,q,hd⟩
   · exact ⟨o,keep c o (I.cne x c e) hc nch ho (I.freeC x c e),hd⟩
 refine ⟨I.ok,I.os,hg,⟨fun b o e n hb hx => ?_,fun b o e n hb hx => ?_,fun b o e n hx => ?_,fun b o e hx => ?_,fun b xs e => tups b xs (I.base.tups b xs e),fun b o xs e => frzs b o xs (I.base.frzs b o xs e),fun b ps e => ?_⟩,?_,fun x c e => ?_,?_,fun x c e => ?_,fun p hp => ?_,hok,I.len⟩
 · exact keep b o (neL b o e) hb (neC b o e hx) (I.base.keep b o e n hb hx) (I.base.free b o e n hx)
 · obtain ⟨sl,e1⟩:=I.base.slot b o e n hb hx
   obtain ⟨sl',e2⟩:=slot b _ (neL b o e) hb (neC b o e hx) e1 (I.base.free b o e n hx)
   exact ⟨sl',e2⟩
 · obtain ⟨o',e1⟩:=I.base.there b o e hx
   exact free b o' (neC b o e hx) e1 (I.base.free b o e n hx)
 · obtain ⟨o',e1⟩:=I.base.there b o e hx
   exact there b o' (neC b o e hx) e1
 · obtain ⟨m1,e1⟩:=I.base.tbls b ps e
   obtain ⟨m2,e2⟩:=tbls b _ e1
   exact ⟨m1 ++ m2,by rw [e2,Array.append_assoc]⟩
 · obtain ⟨m,hn,hl⟩:=I.loc
   refine ⟨m,ns m hn,fun i x v e1 e2 e3 => ?_⟩
   obtain ⟨u,r,l⟩:=hl i x v e1 e2 e3
   refine ⟨u,r,?_⟩
   rcases l with l | ⟨k,c,e,z⟩
   · exact .inl l
   · exact .inr ⟨k,c,e,cellK x c e _ z⟩
 · obtain ⟨v,z⟩:=I.cell x c e
   exact ⟨v,cellK x c e v z⟩
 · obtain ⟨m,⟨o,_,_,ho,_⟩,_⟩:=I.loc
   exact free _ o (fun z => (hch _ z).2.1 rfl) ho I.free
 · obtain ⟨v,o,ho,hd⟩:=I.cell x c e
   exact free c o (fun z => (hch c z).2.2.1 x c e rfl) ho (I.freeC x c e)
 · obtain ⟨e,n,ne,nf,d⟩:=I.pin p hp
   have nch : p.1 ∉ ch:=fun z => (hch p.1 z).2.2.2 p hp rfl
   exact ⟨keep p.1 p.2 ne nf nch e n,free p.1 p.2 nch e n,ne,nf,d⟩
theorem Inv.un {t' : Nat} (I : Inv X pins σ H s) (u : Un X.fs [] H H' s.heap h') (hok : HOk X.prog X.w H' h') : Inv X pins σ H' { s with heap:=h',toks:=t' }:=by
 obtain ⟨m,⟨o,es,ep,ho,r⟩,_⟩:=id I.loc
 obtain ⟨sl,hL⟩:=u.any ho I.free (by simp)
 exact I.step (g':=s.gens) (d':=s.drawn) (ch:=[]) (fun _ z => nomatch z) (fun b o _ hb _ e n => u.keep b o e n hb (by simp)) (fun b o _ hb _ e n => u.slot b o e n hb (by simp)) (fun b o _ e n => u.free b o e n (by simp)) (fun b o _ e => u.there b o e (by simp)) u.tups u.frzs u.tbls (fun m' hm => by
   obtain ⟨o',es',ep',ho',r'⟩:=hm
   rw [ho] at ho'; cases ho'
   exact ⟨_,es',ep',hL,r'⟩) hok I.bare
theorem Inv.call {g' : Array GenState} {t' : Nat} {d' : Drawn} {ch : List Addr} (I : Inv X pins σ H s) (u : Un (frs X.stack) ch H H' s.heap h') (hok : HOk X.prog X.w H' h') (hg : AllBare g')
   (hch : ∀ b ∈ ch,(b ∈ X.ex ∨ X.s₀.heap.objs.size ≤ b)∧b ≠ X.env.locals∧(∀ x c,X.env.cells.lookup x = some c→c ≠ b)∧∀ p ∈ X.pn ++ pins,p.1 ≠ b) :
   Inv X pins σ H' { s with heap:=h',gens:=g',drawn:=d',toks:=t' }:=by
 obtain ⟨m,⟨o,es,ep,ho,r⟩,_⟩:=id I.loc
 obtain ⟨sl,hL⟩:=u.any ho I.free fun z => (hch _ z).2.1 rfl
 exact I.step (ch:=ch) hch (fun b o hL hb hc e n => u.keep b o e n (fun z => (List.mem_cons.mp (I.stkSub b z)).elim hL hb) hc) (fun b o _ _ hc e n => u.any e n hc) (fun b o hc e n => u.free b o e n hc) (fun b o hc e => u.there b o e hc) u.tups u.frzs u.tbls (fun m' hm => by
   obtain ⟨o',es',ep',ho',r'⟩:=hm
   rw [ho] at ho'; cases ho'
   exact ⟨_,es',ep',hL,r'⟩) hok hg
theorem Inv.turned {t' : Nat} {it : Addr} (I : Inv X pins σ H s) (k : ∀ b o,b ≠ it→s.heap.get? b = some o→h'.get? b = some o) (hn : H it = none) (hL : it ≠ X.env.locals)
   (h1 : it ∈ X.ex ∨ X.s₀.heap.objs.size ≤ it) (h2 : ∀ x c,X.env.cells.lookup x = some c→c ≠ it) (h3 : ∀ p ∈ X.pn ++ pins,p.1 ≠ it) : Inv X pins σ H { s with heap:=h',toks:=t' }:=by
 have nit : ∀ b u,H b = some u→b ≠ it:=fun b u e z => by rw [z,hn] at e; cases e
 refine I.step (g':=s.gens) (d':=s.drawn) (ch:=[it]) (fun b hb => ?_) (fun b o _ _ hc e _ => k b o (fun z => hc (by simp [z])) e) (fun b o _ _ hc e _ => ⟨o.slots,k b o (fun z => hc (by simp [z])) e⟩) (fun _ _ _ _ n => n)
   (fun b o hc e => ⟨o,k b o (fun z => hc (by simp [z])) e⟩) (fun _ _ e => e) (fun _ _ _ e => e) (fun b ps e => ⟨#[],by rw [e]; simp⟩) (fun m hm => ?_) (fun b u e => ?_) I.bare
 · have e : b = it:=by simpa using hb
   subst e
   exact ⟨h1,hL,h2,h3⟩
 · obtain ⟨o,es,ep,ho,r⟩:=hm
   exact ⟨o,es,ep,k _ o (Ne.symm hL) ho,r⟩
 · refine (I.hok b u e).stay (fun c v hc q => k c v ?_ q) (fun _ q => q) fun _ _ q => q
   rcases hc with z | z
   · rw [z]; exact nit b u e
   · exact nit c _ z
theorem Inv.tok (I : Inv X pins σ H s) (t : Nat) : Inv X pins σ H { s with toks:=t }:=I.un (h':=s.heap) (t':=t) Un.refl I.hok
theorem Inv.kept {t' : Nat} (I : Inv X pins σ H s) (k : ∀ b u,s.heap.get? b = some u→h'.get? b = some u) : Inv X pins σ H { s with heap:=h',toks:=t' }:=I.un (Un.kept k) (I.hok.kept k)
theorem Inv.laid {a : Addr} {o : HO} {t' : Nat} (I : Inv X pins σ H s) (k : ∀ b u,s.heap.get? b = some u→h'.get? b = some u) (hp : s.heap.objs.size ≤ a) (new : ObjOk X.prog X.w (upd H a o) h' a o) :
   Inv X pins σ (upd H a o) { s with heap:=h',toks:=t' }:=I.un (Un.laid k hp (I.hok.fresh hp)) (I.hok.laid k hp new)
theorem Inv.write {x e : Addr} {o : HO} {t' : Nat} (I : Inv X pins σ H s) (mu : Mut (H x)) (he : e = x ∨ H e = some (.own x)) (k : ∀ b u,b ≠ e→s.heap.get? b = some u→h'.get? b = some u) (heo : ∃ u,h'.get? e = some u)
   (new : ObjOk X.prog X.w (upd H x o) h' x o) : Inv X pins σ (upd H x o) { s with heap:=h',toks:=t' }:=I.un (Un.write mu he k heo) (I.hok.write mu he k heo new)
theorem Inv.pins_of {pins' : List (Addr × Obj)} (I : Inv X pins σ H s) (h : ∀ p ∈ pins',s.heap.get? p.1 = some p.2∧H p.1 = none∧p.1 ≠ X.env.locals∧p.1 ∉ X.fs∧∀ v,p.2.data ≠ .cell v) : Inv X pins' σ H s :=
 ⟨I.ok,I.os,I.bare,I.base,I.loc,I.cell,I.free,I.freeC,fun p hp => (List.mem_append.mp hp).elim (fun z => I.pin p (List.mem_append_left _ z)) (h p),I.hok,I.len⟩
theorem nodup_ix {N : List Str} (hN : N.Nodup) {i j : Nat} {x : Str} (a : N[i]? = some x) (b : N[j]? = some x) : i = j:=by
 obtain ⟨h1,e1⟩:=List.getElem?_eq_some_iff.mp a
 obtain ⟨h2,e2⟩:=List.getElem?_eq_some_iff.mp b
 exact (List.getElem_inj hN).mp (e1.trans e2.symm)
theorem store_ok2 {M : Model} {A : Around} {E : Value→Shared→Prop} {i : Nat} {x : Str} {v : V} {u : Value} {Q : Unit→Shared→Prop} (I : Inv X pins σ H s) (hN : X.N.Nodup) (hi : X.N[i]? = some x) (hx : Loc X.env.scope x) (r : RelV v u)
   (h : ∀ s',Inv X pins (σ.set i (some v)) H s'→(∃ a,Heap.SameBut a s.heap s'.heap∧(a = X.env.locals ∨ X.env.cells.lookup x = some a))→Q () s') (hf : X.fn x = true ∨ X.env.scope.names.lookup x = some .local:=by first | exact .inl rfl | exact .inr rfl | assumption) : wpAny M A (storeName X.env x u) Q E s:=by
 obtain ⟨m,hn,hl⟩:=id I.loc
 have hcls : (X.env.scope.kind == .class || (X.env.scope.kind == .module && X.env.locals != X.env.globals)) = false:=by rw [I.ok.kind]; rfl
 have hiσ : i < σ.length:=by rw [I.len]; exact (List.getElem?_eq_some_iff.mp hi).1
 have cne:=I.cne
 have tracked : ∀ {a : Addr} {h' : Heap},(∃ o,s.heap.get? a = some o∧H a = none)→Heap.SameBut a s.heap h'→HOk X.prog X.w H h':=fun {a h'} ha hs b ob e => by
   obtain ⟨_,_,hfree⟩:=ha
   refine (I.hok b ob e).stay (fun c w' hc q => (hs.2 c ?_).trans q) (fun _ q => q) fun _ _ q => q
   rintro rfl
   rcases hc with rfl | hc
   · rw [hfree] at e; cases e
   · rw [hfree] at hc; cases hc
 rcases hx with hk | hk
 · refine wpAny_storeName_local hk hn (fun h' hn' hs => ?_) hcls
   obtain ⟨oL,_,_,hoL,_⟩:=id hn
   refine h _ ⟨I.ok,I.os,I.bare,⟨fun b o e n hb hx => ?_,fun b o e n hb hx => ?_,I.base.free,fun b o e hx => ?_,I.base.tups,I.base.frzs,I.base.tbls⟩,⟨_,hn',fun j y v' e1 e2 e3 => ?_⟩,fun y c e => ?_,I.free,I.freeC,fun p hp => ?_,tracked ⟨oL,hoL,I.free⟩ hs,by simpa using I.len⟩ ⟨_,hs,.inl rfl⟩
   · exact (hs.2 b (Nat.ne_of_lt (Nat.lt_of_lt_of_le (Heap.lt_size e) I.ok.above))).trans (I.base.keep b o e n hb hx)
   · obtain ⟨sl,e1⟩:=I.base.slot b o e n hb hx
     exact ⟨sl,(hs.2 b (Nat.ne_of_lt (Nat.lt_of_lt_of_le (Heap.lt_size e) I.ok.above))).trans e1⟩
   · obtain ⟨o',e1⟩:=I.base.there b o e hx
     exact ⟨o',(hs.2 b (Nat.ne_of_lt (Nat.lt_of_lt_of_le (Heap.lt_size e) I.ok.above))).trans e1⟩
   · by_cases hj : j = i
     · subst hj
       rw [hi] at e1; cases e1
       rw [List.getElem?_set_self hiσ] at e2
       cases e2
       exact ⟨u,r,.inl ⟨hk,by simp⟩⟩
     · rw [List.getElem?_set_ne (Ne.symm hj)] at e2
       obtain ⟨u',r',q⟩:=hl j y v' e1 e2 e3
       refine ⟨u',r',?_⟩
       rcases q with ⟨k,e⟩ | ⟨k,c,e,z⟩
       · refine .inl ⟨k,?_⟩
         have : y ≠ x:=fun e => hj (nodup_ix hN e1 (e ▸ hi))
         simp [this,e]
       · exact .inr ⟨k,c,e,z.sameBut hs (cne y c e)⟩
   · obtain ⟨w',z⟩:=I.cell y c e
     exact ⟨w',z.sameBut hs (cne y c e)⟩
   · obtain ⟨e,n,ne,nf,d⟩:=I.pin p hp
     exact ⟨(hs.2 p.1 ne).trans e,n,ne,nf,d⟩
 · have hfn : X.fn x = true:=by
     rcases hf with z | z
     · exact z
     · rw [z] at hk; cases hk
   obtain ⟨c,hc⟩:=I.ok.has x (.inl hk)
   obtain ⟨w',z⟩:=I.cell x c hc
   refine wpAny_storeName_cell I.ok.kind hk hc z (fun h' hc' hs => ?_)
   obtain ⟨oc,hoc,hocd⟩:=id z
   refine h { s with heap:=h' } ⟨I.ok,I.os,I.bare,⟨fun b o e n hb hx => ?_,fun b o e n hb hx => ?_,I.base.free,fun b o e hx => ?_,I.base.tups,I.base.frzs,I.base.tbls⟩,⟨m,hn.sameBut hs (Ne.symm (cne x c hc)),fun j y v' e1 e2 e3 => ?_⟩,fun y c' e => ?_,I.free,I.freeC,fun p hp => ?_,tracked ⟨oc,hoc,I.freeC x c hc⟩ hs,by simpa using I.len⟩ ⟨c,hs,.inr hc⟩
   · exact (hs.2 b (Nat.ne_of_lt (Nat.lt_of_lt_of_le (Heap.lt_size e) (I.ok.cab x c hfn hc)))).trans (I.base.keep b o e n hb hx)
   · obtain ⟨sl,e1⟩:=I.base.slot b o e n hb hx
     exact ⟨sl,(hs.2 b (Nat.ne_of_lt (Nat.lt_of_lt_of_le (Heap.lt_size e) (I.ok.cab x c hfn hc)))).trans e1⟩
   · obtain ⟨o',e1⟩:=I.base.there b o e hx
     exact ⟨o',(hs.2 b (Nat.ne_of_lt (Nat.lt_of_lt_of_le (Heap.lt_size e) (I.ok.cab x c hfn hc)))).trans e1⟩
   · by_cases hj : j = i
     · subst hj
       rw [hi] at e1; cases e1
       rw [List.getElem?_set_self hiσ] at e2
       cases e2
       exact ⟨u,r,.inr ⟨.inl hk,c,hc,hc'⟩⟩
     · rw [List.getElem?_set_ne (Ne.symm hj)] at e2
       obtain ⟨u',r',q⟩:=hl j y v' e1 e2 e3
       refine ⟨u',r',?_⟩
       rcases q with q | ⟨k,c',e,z'⟩
       · exact .inl q
       · refine .inr ⟨k,c',e,z'.sameBut hs ?_⟩
         rintro rfl
         exact hj (nodup_ix hN e1 (I.ok.inj _ _ _ e hc ▸ hi))
   · by_cases hcc : c' = c
     · subst hcc; exact ⟨_,hc'⟩
     · obtain ⟨w2,z2⟩:=I.cell y c' e
       exact ⟨w2,z2.sameBut hs hcc⟩
   · obtain ⟨e,n,ne,nf,d⟩:=I.pin p hp
     refine ⟨(hs.2 p.1 ?_).trans e,n,ne,nf,d⟩
     intro q
     rw [q,hoc] at e
     have q' : oc = p.2:=Option.some.inj e
     exact d w' (by rw [← q']; exact hocd)
theorem store_ok {M : Model} {A : Around} {E : Value→Shared→Prop} {i : Nat} {x : Str} {v : V} {u : Value} {Q : Unit→Shared→Prop} (I : Inv X pins σ H s) (hN : X.N.Nodup) (hi : X.N[i]? = some x) (hx : Loc X.env.scope x) (r : RelV v u)
   (h : ∀ s',Inv X pins (σ.set i (some v)) H s'→Q () s') (hf : X.fn x = true ∨ X.env.scope.names.lookup x = some .local:=by first | exact .inl rfl | exact .inr rfl | assumption) : wpAny M A (storeName X.env x u) Q E s :=
 store_ok2 I hN hi hx r (fun s' I' _ => h s' I') hf
theorem Inv.call' {s' : Shared} {ch : List Addr} (I : Inv X pins σ H s) (ho : s'.os = s.os) (u : Un (frs X.stack) ch H H' s.heap s'.heap) (hok : HOk X.prog X.w H' s'.heap) (hg : AllBare s'.gens)
   (hch : ∀ b ∈ ch,(b ∈ X.ex ∨ X.s₀.heap.objs.size ≤ b)∧b ≠ X.env.locals∧(∀ x c,X.env.cells.lookup x = some c→c ≠ b)∧∀ p ∈ X.pn ++ pins,p.1 ≠ b) : Inv X pins σ H' s':=by
 obtain ⟨h',g',d',t',o'⟩:=s'
 have e : o' = s.os:=ho
 subst e
 exact I.call (g':=g') (t':=t') (d':=d') u hok hg hch
end
abbrev XK:=Value→Option Addr→Hp→Prop
abbrev St:=List (Option V)
abbrev VK:=V→Hp→Prop
abbrev TE:=St→Hp→VK→Prop
abbrev TT:=St→Hp→(Bool→Hp→Prop)→Prop
abbrev TA:=St→Hp→(List V→Hp→Prop)→Prop
structure Ends where
 nx : St→Hp→Prop
 rt : VK
 bk : St→Hp→Prop:=fun _ _ => False
 ct : St→Hp→Prop:=fun _ _ => False
abbrev TS:=Ends→St→Hp→Prop
def EP (X : Cx) (pins : List (Addr × Obj)) (σ : St) (Q : VK) (u : Value) (s' : Shared) : Prop:=∃ v H',Inv X pins σ H' s'∧RelV v u∧Q v H'
def TP (X : Cx) (pins : List (Addr × Obj)) (σ : St) (Q : Bool→Hp→Prop) (b : Bool) (s' : Shared) : Prop:=∃ H',Inv X pins σ H' s'∧Q b H'
def AP (X : Cx) (pins : List (Addr × Obj)) (σ : St) (Q : List V→Hp→Prop) (us : List Value) (s' : Shared) : Prop:=∃ vs H',Inv X pins σ H' s'∧Vals vs us∧Q vs H'
def SP (X : Cx) (pins : List (Addr × Obj)) (D : Ends) (f : Flow) (s' : Shared) : Prop :=
 match f with
 | .next => ∃ σ' H',Inv X pins σ' H' s'∧D.nx σ' H'
 | .brk => ∃ σ' H',Inv X pins σ' H' s'∧D.bk σ' H'
 | .cont => ∃ σ' H',Inv X pins σ' H' s'∧D.ct σ' H'
 | .ret u => ∃ v σ' H',Inv X pins σ' H' s'∧RelV v u∧D.rt v H'
def PE (X : Cx) (e : Expr) (t : TE) : Prop :=
 ∀ (pins : List (Addr × Obj)) (s : Shared) (σ : St) (H : Hp) (Q : VK),Inv X pins σ H s→t σ H Q→wpAny (model X.prog X.w) X.A (eval e X.env) (EP X pins σ Q) X.xe s
def PT (X : Cx) (e : Expr) (t : TT) : Prop :=
 ∀ (pins : List (Addr × Obj)) (s : Shared) (σ : St) (H : Hp) (Q : Bool→Hp→Prop),Inv X pins σ H s→t σ H Q→wpAny (model X.prog X.w) X.A (isTrue e X.env (eval e X.env)) (TP X pins σ Q) X.xe s
def PW (X : Cx) (e : Expr) (t : TT) : Prop :=
 ∀ (whole : Sem Value) (pins : List (Addr × Obj)) (s : Shared) (σ : St) (H : Hp) (Q : Bool→Hp→Prop),Inv X pins σ H s→t σ H Q→wpAny (model X.prog X.w) X.A (isTrue e X.env whole) (TP X pins σ Q) X.xe s
theorem PW.pt {X : Cx} {e : Expr} {t : TT} (h : PW X e t) : PT X e t:=h _
def PA (X : Cx) (es : List Expr) (t : TA) : Prop :=
 ∀ (pos : Pos) (pins : List (Addr × Obj)) (s : Shared) (σ : St) (H : Hp) (Q : List V→Hp→Prop),Inv X pins σ H s→t σ H Q→wpAny (model X.prog X.w) X.A (spliced (backTo pos (starEach es X.env))) (AP X pins σ Q) X.xe s
def PS (X : Cx) (st : Stmt) (t : TS) : Prop :=
 ∀ (pins : List (Addr × Obj)) (s : Shared) (σ : St) (H : Hp) (D : Ends),Inv X pins σ H s→t D σ H→wpAny (model X.prog X.w) X.A (exec st X.env) (SP X pins D) X.xe s
def PSs (X : Cx) (st : List Stmt) (t : TS) : Prop :=
 ∀ (pins : List (Addr × Obj)) (s : Shared) (σ : St) (H : Hp) (D : Ends),Inv X pins σ H s→t D σ H→wpAny (model X.prog X.w) X.A (execs st X.env) (SP X pins D) X.xe s
theorem thn {α : Type} {t : Sem α} {Q Q' : α→Shared→Prop} {M : Model} {A : Around} {E : Value→Shared→Prop} {s : Shared} (h : wpAny M A t Q E s) (hQ : ∀ a s,Q a s→Q' a s) : wpAny M A t Q' E s:=wpAny_mono h hQ fun _ _ x => x
end L2
namespace L2
open PySem PySem.Spec PyProof.Rows
section
variable {X : Cx}
def tVar (i : Nat) : TE:=fun σ H Q => ∃ v,σ[i]? = some (some v)∧Q v H
def tC (v : V) : TE:=fun _ H Q => Q v H
theorem pe_var {i : Nat} {x : Str} {pos : Pos} (hN : X.N[i]? = some x) (hv : Vis X.env.scope x) (hd : (x == ("__debug__" : Str)) = false:=by decide) (hcd : (x == ("__classdict__" : Str)) = false:=by decide) : PE X (.Name x pos) (tVar i):=by
 intro pins s σ H Q I h
 obtain ⟨v,e,h⟩:=h
 obtain ⟨m,hn,hl⟩:=I.loc
 obtain ⟨u,r,l⟩:=hl i x v hN e hv
 have fin : EP X pins σ Q u s:=⟨v,H,I,r,h⟩
 rcases l with ⟨hk,hm⟩ | ⟨hk,c,hc,hcell⟩
 · exact wpAny_Name (wpAny_loadName_local I.ok.kind hk hn hm fin) hd
 · rcases hk with hk | hk
   · exact wpAny_Name (wpAny_loadName_cell I.ok.kind hk hc hcell fin) hd
   · exact wpAny_Name (wpAny_loadName_free I.ok.kind hk hc hcell fin hcd) hd
theorem pe_int {i j pos} : PE X (.Constant (.int i) j pos) (tC (.int i)):=fun _ _ _ H _ I h => wpAny_Constant_int ⟨.int i,H,I.tok _,⟨_,rfl⟩,h⟩
theorem pe_bl {b j pos} : PE X (.Constant (.bool b) j pos) (tC (.bl b)):=fun _ _ _ H _ I h => Constant_bool ⟨.bl b,H,I,rfl,h⟩
theorem pe_non {j pos} : PE X (.Constant .none j pos) (tC .non):=fun _ _ _ H _ I h => Constant_none ⟨.non,H,I,rfl,h⟩
theorem pe_str {x j pos} : PE X (.Constant (.str x) j pos) (tC (.str x)):=fun _ _ _ H _ I h => Calls.Constant_str ⟨.str x,H,I.tok _,⟨_,rfl⟩,h⟩
def Gl (X : Cx) (x : Str) : Prop:=X.env.kindOf x = some .globalImplicit
theorem ld_glob {E : Value→Shared→Prop} {pins : List (Addr × Obj)} {s : Shared} {σ : St} {H : Hp} {x : Str} {u : Value} {pos : Pos} {Q : Value→Shared→Prop} (I : Inv X pins σ H s) (hg : Gl X x) (hm : X.mg x = some u) (h : Q u s)
   (hd : (x == ("__debug__" : Str)) = false:=by decide) : wpAny (model X.prog X.w) X.A (eval (.Name x pos) X.env) Q E s :=
 Calls.Name_function_global I.ok.kind hg (Calls.loadGlobal_global (by rw [I.ok.glob]; exact I.mod.glob.keeps I.bk) hm h) hd
theorem ld_blt {E : Value→Shared→Prop} {pins : List (Addr × Obj)} {s : Shared} {σ : St} {H : Hp} {x : Str} {u : Value} {pos : Pos} {Q : Value→Shared→Prop} (I : Inv X pins σ H s) (hg : Gl X x) (hm : X.mg x = none) (hv : bootBuiltins x = some u) (h : Q u s)
   (hn : x ≠ "__name__":=by decide) (hd : (x == ("__debug__" : Str)) = false:=by decide) : wpAny (model X.prog X.w) X.A (eval (.Name x pos) X.env) Q E s:=by
 obtain ⟨mb,h1,h2⟩:=I.mod.blt
 exact Calls.Name_function_global I.ok.kind hg (Calls.loadGlobal_builtin (by rw [I.ok.glob]; exact I.mod.glob.keeps I.bk) hm (by rw [I.ok.blt]; exact h1.keeps I.bk) ((h2 x hn).trans hv) h) hd
theorem pe_glob {x : Str} {v : V} {u : Value} {pos : Pos} (hg : Gl X x) (hm : X.mg x = some u) (r : RelV v u) (hd : (x == ("__debug__" : Str)) = false:=by decide) : PE X (.Name x pos) (tC v) :=
 fun _ _ _ H _ I h => ld_glob I hg hm ⟨v,H,I,r,h⟩ hd
theorem pe_bltn {x : Str} {v : V} {u : Value} {pos : Pos} (hg : Gl X x) (hm : X.mg x = none) (hv : bootBuiltins x = some u) (r : RelV v u) (hn : x ≠ "__name__":=by decide) (hd : (x == ("__debug__" : Str)) = false:=by decide) : PE X (.Name x pos) (tC v) :=
 fun _ _ _ H _ I h => ld_blt I hg hm hv ⟨v,H,I,r,h⟩ hn hd
variable {a b : Expr} {ta tb : TE} {pos : Pos}
def tB (t : TE) : TT:=fun σ H Q => t σ H fun x H1 => ∃ c,x = .bl c∧Q c H1
theorem pt_val {e : Expr} {t : TE} (h : PE X e t) (he : ∀ whole,isTrue e X.env whole = (do let v ← whole; standAt e.pos; holding [v] (truthy v)):=by intro _; rfl) : PT X e (tB t):=by
 intro pins s σ H Q I hw
 refine isTrue_plain (thn (h pins s σ H _ I hw) fun v s1 ⟨x,H1,I1,r1,q1⟩ => ?_) (he _)
 obtain ⟨d,rfl,q⟩:=q1
 cases r1
 exact wpAny_truthy_bool ⟨H1,I1,q⟩
variable {tA tB' : TT} {rest : List Expr}
def tAnd (t u : TT) : TT:=fun σ H Q => t σ H fun c H1 => if c = true then u σ H1 Q else Q false H1
def tOr (t u : TT) : TT:=fun σ H Q => t σ H fun c H1 => if c = true then Q true H1 else u σ H1 Q
def tNot (t : TT) : TT:=fun σ H Q => t σ H fun c H1 => Q (!c) H1
theorem pw_and1 (ha : PT X a tA) : PW X (.BoolOp .And [a] pos) tA:=by
 intro wh pins s σ H Q I h
 refine isTrue_and (thn (ha pins s σ H Q I h) fun c s1 e => ?_)
 cases c with
 | true => exact isTrue_and_nil e
 | false => exact e
theorem pw_or1 (ha : PT X a tA) : PW X (.BoolOp .Or [a] pos) tA:=by
 intro wh pins s σ H Q I h
 refine isTrue_or (thn (ha pins s σ H Q I h) fun c s1 e => ?_)
 cases c with
 | false => exact isTrue_or_nil e
 | true => exact e
theorem pw_and (ha : PT X a tA) (hb : PW X (.BoolOp .And (b :: rest) pos) tB') : PW X (.BoolOp .And (a :: b :: rest) pos) (tAnd tA tB'):=by
 intro wh pins s σ H Q I h
 refine isTrue_and (thn (ha pins s σ H _ I h) fun c s1 ⟨H1,I1,q1⟩ => ?_)
 cases c with
 | true => exact hb wh pins s1 σ H1 Q I1 q1
 | false => exact ⟨H1,I1,q1⟩
theorem pw_or (ha : PT X a tA) (hb : PW X (.BoolOp .Or (b :: rest) pos) tB') : PW X (.BoolOp .Or (a :: b :: rest) pos) (tOr tA tB'):=by
 intro wh pins s σ H Q I h
 refine isTrue_or (thn (ha pins s σ H _ I h) fun c s1 ⟨H1,I1,q1⟩ => ?_)
 cases c with
 | true => exact ⟨H1,I1,q1⟩
 | false => exact hb wh pins s1 σ H1 Q I1 q1
theorem pt_not (ha : PT X a tA) : PT X (.UnaryOp .Not a pos) (tNot tA):=by
 intro pins s σ H Q I h
 exact isTrue_not (ha pins s σ H (fun c H1 => Q (!c) H1) I h)
def tAndV (ta tb : TE) : TE:=fun σ H Q => ta σ H fun x H1 => ∃ c,x = .bl c∧if c = true then tb σ H1 Q else Q (.bl false) H1
def tOrV (ta tb : TE) : TE:=fun σ H Q => ta σ H fun x H1 => ∃ c,x = .bl c∧if c = true then Q (.bl true) H1 else tb σ H1 Q
def tNotV (ta : TE) : TE:=fun σ H Q => ta σ H fun x H1 => ∃ c,x = .bl c∧Q (.bl (!c)) H1
theorem pe_one {op} {t : TE} (h : PE X a t) : PE X (.BoolOp op [a] pos) t:=fun pins s σ H Q I hw => BoolOp_one (h pins s σ H Q I hw)
theorem pe_and (ha : PE X a ta) (hb : PE X (.BoolOp .And (b :: rest) pos) tb) : PE X (.BoolOp .And (a :: b :: rest) pos) (tAndV ta tb):=by
 intro pins s σ H Q I h
 refine BoolOp_and (thn (ha pins s σ H _ I h) fun v s1 ⟨x,H1,I1,r1,q1⟩ => ?_)
 obtain ⟨c,rfl,q1⟩:=q1
 cases r1
 refine wpAny_truthy_bool ?_
 cases c with
 | true => exact hb pins s1 σ H1 Q I1 q1
 | false => exact ⟨.bl false,H1,I1,rfl,q1⟩
theorem pe_or (ha : PE X a ta) (hb : PE X (.BoolOp .Or (b :: rest) pos) tb) : PE X (.BoolOp .Or (a :: b :: rest) pos) (tOrV ta tb):=by
 intro pins s σ H Q I h
 refine BoolOp_or (thn (ha pins s σ H _ I h) fun v s1 ⟨x,H1,I1,r1,q1⟩ => ?_)
 obtain ⟨c,rfl,q1⟩:=q1
 cases r1
 refine wpAny_truthy_bool ?_
 cases c with
 | false => exact hb pins s1 σ H1 Q I1 q1
 | true => exact ⟨.bl true,H1,I1,rfl,q1⟩
theorem pe_not (ha : PE X a ta) : PE X (.UnaryOp .Not a pos) (tNotV ta):=by
 intro pins s σ H Q I h
 refine UnaryOp_ (thn (ha pins s σ H _ I h) fun v s1 ⟨x,H1,I1,r1,q1⟩ => ?_)
 obtain ⟨c,rfl,q1⟩:=q1
 cases r1
 exact not_of (wpAny_truthy_bool ⟨.bl (!c),H1,I1,rfl,q1⟩)
def tIf (t : TT) (ta tb : TE) : TE:=fun σ H Q => t σ H fun c H1 => if c = true then ta σ H1 Q else tb σ H1 Q
theorem pe_ifExp {c : Expr} (hc : PT X c tA) (ha : PE X a ta) (hb : PE X b tb) : PE X (.IfExp c a b pos) (tIf tA ta tb):=by
 intro pins s σ H Q I h
 refine wpAny_IfExp (thn (hc pins s σ H _ I h) fun d s1 ⟨H1,I1,q1⟩ => ?_)
 cases d with
 | true => exact ha pins s1 σ H1 Q I1 q1
 | false => exact hb pins s1 σ H1 Q I1 q1
end
end L2
namespace L2
open PySem PySem.Spec PyProof.Rows
def SqL (K : PySem.W.Frag) (H : Hp) (a : Addr) (xs : List V) : Prop :=
 Rd H a (.lst xs) ∨
   ∃ (o : Obj) (its : Array Value) (n : Nat),K.lookup a = some o∧o.cls = .type "list"∧o.dict = none∧o.data = .seq its n∧its.size ≤ sizeLine∧Vals xs its.toList
def SqT (K : PySem.W.Frag) (H : Hp) (a : Addr) (xs : List V) : Prop :=
 Rd H a (.tup xs) ∨
   ∃ (o : Obj) (its : Array Value) (n : Nat),K.lookup a = some o∧o.cls = .type "tuple"∧o.data = .seq its n∧its.size ≤ sizeLine∧Vals xs its.toList
def absV : Value→Option V
 | .none => some .non
 | .bool b => some (.bl b)
 | .int i _ => some (.int i)
 | .str x _ => some (.str x)
 | .bytes b _ => some (.byt b)
 | .float b _ => some (.flt b)
 | .ref a => some (.ref a)
 | .type n => some (.ty n)
 | _ => none
theorem RelV.abs {x : V} {u : Value} (r : RelV x u) : absV u = some x:=by
 cases x with
 | non => cases r; rfl
 | bl _ => cases r; rfl
 | int _ => obtain ⟨t,rfl⟩:=r; rfl
 | str _ => obtain ⟨t,rfl⟩:=r; rfl
 | byt _ => obtain ⟨t,rfl⟩:=r; rfl
 | flt _ => obtain ⟨t,rfl⟩:=r; rfl
 | ref _ => cases r; rfl
 | ty _ => cases r; rfl
theorem RelV.inj {x y : V} {u : Value} (r : RelV x u) (q : RelV y u) : x = y:=Option.some.inj (r.abs.symm.trans q.abs)
theorem Vals.inj : ∀ {xs ys : List V} {us : List Value},Vals xs us→Vals ys us→xs = ys
 | _,_,_,.nil,.nil => rfl
 | _,_,_,.cons r t,.cons r' t' => by rw [r.inj r',Vals.inj t t']
section
variable {X : Cx} {pins : List (Addr × Obj)} {σ : St} {H : Hp} {s : Shared} {a : Addr} {xs ys : List V}
theorem SqL.of {K : PySem.W.Frag} (h : H a = some (.lst xs)) : SqL K H a xs:=.inl (.inl h)
theorem SqT.of {K : PySem.W.Frag} (h : H a = some (.tup xs)) : SqT K H a xs:=.inl (.inl h)
theorem Inv.list (I : Inv X pins σ H s) (h : SqL X.K H a xs) : ∃ its : List Value,Vals xs its∧PlainL s.heap a its.toArray∧xs.length ≤ sizeLine:=by
 rcases h with h | ⟨o,its,n,hk,hc,hd,hs,hz,r⟩
 · obtain ⟨z,its,n,r,e⟩:=h.ok I.hok
   exact ⟨its,r,⟨_,n,e,rfl,rfl,rfl⟩,z⟩
 · refine ⟨its.toList,r,⟨o,n,I.kIn a o hk,hc,hd,by simpa using hs⟩,?_⟩
   have e:=r.length
   simp only [Array.length_toList] at e
   omega
theorem Inv.tuple (I : Inv X pins σ H s) (h : SqT X.K H a xs) : ∃ its : List Value,Vals xs its∧IsTup s.heap a its.toArray∧xs.length ≤ sizeLine:=by
 rcases h with h | ⟨o,its,n,hk,hc,hs,hz,r⟩
 · obtain ⟨z,its,r,p⟩:=h.ok I.hok
   exact ⟨its,r,p,z⟩
 · refine ⟨its.toList,r,⟨o,I.kIn a o hk,hc,n,by simpa using hs⟩,?_⟩
   have e:=r.length
   simp only [Array.length_toList] at e
   omega
theorem Inv.list_inj (I : Inv X pins σ H s) (h : SqL X.K H a xs) (h' : SqL X.K H a ys) : xs = ys:=by
 obtain ⟨its,r,⟨o,n,e,_,_,d⟩,_⟩:=I.list h
 obtain ⟨its',r',⟨o',n',e',_,_,d'⟩,_⟩:=I.list h'
 rw [e] at e'; cases e'
 rw [d] at d'
 injection d' with d1 _
 have : its = its':=by simpa using congrArg Array.toList d1
 subst this
 exact r.inj r'
theorem Inv.tuple_inj (I : Inv X pins σ H s) (h : SqT X.K H a xs) (h' : SqT X.K H a ys) : xs = ys:=by
 obtain ⟨its,r,⟨o,e,_,n,d⟩,_⟩:=I.tuple h
 obtain ⟨its',r',⟨o',e',_,n',d'⟩,_⟩:=I.tuple h'
 rw [e] at e'; cases e'
 rw [d] at d'
 injection d' with d1 _
 have : its = its':=by simpa using congrArg Array.toList d1
 subst this
 exact r.inj r'
end
abbrev Cx.wish (X : Cx) (E : Value→Shared→Prop) : Cx:={ X with xe:=E }
abbrev Cx.nox (X : Cx) : Cx:=X.wish fun _ _ => False
theorem Cx.Ok.wish {X : Cx} (ok : X.Ok) (E : Value→Shared→Prop) : (X.wish E).Ok :=
 ⟨ok.mod,ok.kind,ok.glob,ok.blt,ok.above,ok.inj,ok.has,ok.cab,ok.hd,ok.frames,ok.stk,ok.exf,ok.bs,ok.bsz,ok.noex,ok.exfs,ok.funs,ok.frf⟩
theorem Cx.Ok.unwish {X : Cx} {E : Value→Shared→Prop} (ok : (X.wish E).Ok) : X.Ok :=
 ⟨ok.mod,ok.kind,ok.glob,ok.blt,ok.above,ok.inj,ok.has,ok.cab,ok.hd,ok.frames,ok.stk,ok.exf,ok.bs,ok.bsz,ok.noex,ok.exfs,ok.funs,ok.frf⟩
section
variable {X : Cx} {pins : List (Addr × Obj)} {σ : St} {H : Hp} {s : Shared} {E : Value→Shared→Prop}
theorem Inv.wish (I : Inv X pins σ H s) (E : Value→Shared→Prop) : Inv (X.wish E) pins σ H s:=⟨I.ok.wish E,I.os,I.bare,I.base,I.loc,I.cell,I.free,I.freeC,I.pin,I.hok,I.len⟩
theorem Inv.unwish (I : Inv (X.wish E) pins σ H s) : Inv X pins σ H s:=⟨I.ok.unwish,I.os,I.bare,I.base,I.loc,I.cell,I.free,I.freeC,I.pin,I.hok,I.len⟩
theorem SP.unwish {D : Ends} {f : Flow} {s' : Shared} (h : SP (X.wish E) pins D f s') : SP X pins D f s':=by
 cases f with
 | next => obtain ⟨σ',H',I,q⟩:=h; exact ⟨σ',H',I.unwish,q⟩
 | brk => obtain ⟨σ',H',I,q⟩:=h; exact ⟨σ',H',I.unwish,q⟩
 | cont => obtain ⟨σ',H',I,q⟩:=h; exact ⟨σ',H',I.unwish,q⟩
 | ret u => obtain ⟨v,σ',H',I,r,q⟩:=h; exact ⟨v,σ',H',I.unwish,r,q⟩
theorem PSs.nox {st : List Stmt} {t : TS} (h : PSs X.nox st t) : PSs X st t:=fun pins s σ H D I hw =>
 wpAny_mono (h pins s σ H D (I.wish _) hw) (fun _ _ q => q.unwish) fun _ _ z => False.elim z
end
section
variable {X : Cx} {st : Stmt} {rest : List Stmt} {t u : TS} {e : Expr} {te : TE} {pos : Pos}
def tNext : TS:=fun D σ H => D.nx σ H
def tSeq (t u : TS) : TS:=fun D σ H => t { D with nx:=u D } σ H
theorem pss_nil : PSs X [] tNext:=fun _ _ σ H _ I h => wpAny_execs_nil ⟨σ,H,I,h⟩
theorem pss_cons (h1 : PS X st t) (h2 : PSs X rest u) : PSs X (st :: rest) (tSeq t u):=by
 intro pins s σ H D I h
 refine wpAny_execs_cons (thn (h1 pins s σ H { D with nx:=u D } I h) fun f s1 q => ?_)
 cases f with
 | next =>
   obtain ⟨σ',H',I',q⟩:=q
   exact h2 pins s1 σ' H' D I' q
 | ret v => exact q
 | brk => exact q
 | cont => exact q
theorem pss_one (h1 : PS X st t) : PSs X [st] t:=by
 intro pins s σ H D I h
 refine wpAny_execs_cons (thn (h1 pins s σ H D I h) fun f s1 q => ?_)
 cases f with
 | next => exact wpAny_execs_nil q
 | ret v => exact q
 | brk => exact q
 | cont => exact q
theorem Inv.quiet {pins : List (Addr × Obj)} {σ : St} {H : Hp} {s : Shared} (I : Inv X pins σ H s) : interactive X.env = false:=by simp [interactive,I.ok.kind]
def tDrop (te : TE) : TS:=fun D σ H => te σ H fun _ H1 => D.nx σ H1
theorem ps_expr (he : PE X e te) (hs : swapsWith e none pos.line X.env = pure false:=by rfl) : PS X (.Expr e pos) (tDrop te):=by
 intro pins s σ H D I h
 exact wpAny_Expr_any (thn (he pins s σ H _ I h) fun v s1 ⟨x,H1,I1,r1,q1⟩ => ⟨σ,H1,I1,q1⟩) I.quiet hs
def tRet (te : TE) : TS:=fun D σ H => te σ H D.rt
theorem ps_ret (he : PE X e te) : PS X (.Return (some e) pos) (tRet te):=by
 intro pins s σ H D I h
 exact wpAny_Return_some (thn (he pins s σ H _ I h) fun v s1 ⟨x,H1,I1,r1,q1⟩ => ⟨x,σ,H1,I1,r1,q1⟩)
def tIfS (c : TT) (t u : TS) : TS:=fun D σ H => c σ H fun b H1 => if b = true then t D σ H1 else u D σ H1
theorem ps_if {c : Expr} {a b : List Stmt} {tc : TT} (hc : PT X c tc) (ha : PSs X a t) (hb : PSs X b u) : PS X (.If c a b pos) (tIfS tc t u):=by
 intro pins s σ H D I h
 refine wpAny_If (thn (hc pins s σ H _ I h) fun d s1 ⟨H1,I1,q1⟩ => ?_)
 cases d with
 | true => exact ha pins s1 σ H1 D I1 q1
 | false => exact hb pins s1 σ H1 D I1 q1
def tNever : TS:=fun _ _ _ => False
theorem ps_never : PS X st tNever:=fun _ _ _ _ _ _ h => h.elim
end
abbrev TG:=V→St→Hp→(St→Hp→Prop)→Prop
abbrev TGs:=List V→St→Hp→(St→Hp→Prop)→Prop
def PG (X : Cx) (target : Expr) (t : TG) : Prop :=
 ∀ (pins : List (Addr × Obj)) (s : Shared) (σ : St) (H : Hp) (v : V) (u : Value) (Q : St→Hp→Prop),Inv X pins σ H s→RelV v u→t v σ H Q →
   wpAny (model X.prog X.w) X.A (assign target X.env u) (fun _ s' => ∃ σ' H',Inv X pins σ' H' s'∧Q σ' H') X.xe s
def PGs (X : Cx) (ts : List Expr) (t : TGs) : Prop :=
 ∀ (pins : List (Addr × Obj)) (s : Shared) (σ : St) (H : Hp) (vs : List V) (us : List Value) (Q : St→Hp→Prop),Inv X pins σ H s→Vals vs us→t vs σ H Q →
   wpAny (model X.prog X.w) X.A (assignInOrder ((assignEach ts X.env).map (·.2)) us) (fun _ s' => ∃ σ' H',Inv X pins σ' H' s'∧Q σ' H') X.xe s
abbrev TSet:=V→V→V→Hp→(Hp→Prop)→Prop
def PSet (X : Cx) (t : TSet) : Prop :=
 ∀ (pins : List (Addr × Obj)) (s : Shared) (σ : St) (H : Hp) (o i v : V) (ov iv u : Value) (Q : Hp→Prop),Inv X pins σ H s→RelV o ov→RelV i iv→RelV v u→t o i v H Q →
   wpAny (model X.prog X.w) X.A (setItem ov iv u) (fun _ s' => ∃ H',Inv X pins σ H' s'∧Q H') X.xe s
section
variable {X : Cx} {pos : Pos}
def gName (i : Nat) : TG:=fun v σ H Q => Q (σ.set i (some v)) H
theorem pg_name {i : Nat} {x : Str} (hN : X.N.Nodup) (hi : X.N[i]? = some x) (hx : Loc X.env.scope x) (hf : X.fn x = true ∨ X.env.scope.names.lookup x = some .local:=by first | exact .inl rfl | exact .inr rfl | assumption) : PG X (.Name x pos) (gName i):=by
 intro pins s σ H v u Q I r h
 exact wpAny_assign_Name (store_ok I hN hi hx r (fun s' I' => ⟨_,H,I',h⟩) hf)
def gNil : TGs:=fun vs σ H Q => vs = []∧Q σ H
def gCons (t : TG) (u : TGs) : TGs:=fun vs σ H Q => ∃ v r,vs = v :: r∧t v σ H fun σ' H' => u r σ' H' Q
theorem pgs_nil : PGs X [] gNil:=by
 intro pins s σ H vs us Q I r h
 obtain ⟨e,h⟩:=h
 subst e
 cases r
 exact assignInOrder_nil ⟨σ,H,I,h⟩
theorem pgs_cons {e : Expr} {es : List Expr} {t : TG} {u : TGs} (h1 : PG X e t) (h2 : PGs X es u)
   (hs : (assignEach (e :: es) X.env).map (·.2) = assign e X.env :: (assignEach es X.env).map (·.2):=by rfl) : PGs X (e :: es) (gCons t u):=by
 intro pins s σ H vs us Q I r h
 obtain ⟨v,vr,e1,h⟩:=h
 subst e1
 cases r with
 | cons r rr =>
   rw [hs]
   refine assignInOrder_cons (thn (h1 pins s σ H _ _ _ I r h) fun _ s1 ⟨σ1,H1,I1,q1⟩ => ?_)
   exact h2 pins s1 σ1 H1 _ _ Q I1 rr q1
def gTup (K : PySem.W.Frag) (n : Nat) (t : TGs) : TG:=fun v σ H Q => ∃ a xs,v = .ref a∧SqT K H a xs∧xs.length = n∧t xs σ H Q
theorem pg_tup {es : List Expr} {k : Nat} {t : TGs} {n : Nat} (hc : X.calm = true) (h : PGs X es t)
   (hn : (assignEach es X.env).length = n:=by rfl) (hst : (assignEach es X.env).findIdx? (·.1) = none:=by rfl) : PG X (.Tuple es k pos) (gTup X.K n t):=by
 intro pins s σ H v u Q I r hw
 obtain ⟨a,xs,e1,hq,hl,hw⟩:=hw
 subst e1
 cases r
 obtain ⟨its,rv,ht,hz⟩:=I.tuple hq
 refine assign_Tuple_tuple (I.ok.hd hc) ht (by simp [hn,← hl,rv.length]) hst fun h' hx => ?_
 have I1 : Inv X pins σ H { s with heap:=h' }:=I.kept (t':=s.toks) fun b o e => hx b o (Nat.ne_of_lt (Heap.lt_size e)) e
 exact h pins _ σ H xs _ Q I1 (by simpa using rv) hw
def gSub (to ti : TE) (t : TSet) : TG:=fun v σ H Q => to σ H fun o H1 => ti σ H1 fun i H2 => t o i v H2 fun H3 => Q σ H3
theorem pg_sub {o i : Expr} {to ti : TE} {t : TSet} (ho : PE X o to) (hi : PE X i ti) (hs : PSet X t)
   (ha : ∀ v,assign (.Subscript o i pos) X.env v = (do
     let ov ← holding [v] (eval o X.env)
     let iv ← holding [v,ov] (eval i X.env)
     standAt pos
     holding [v,ov,iv] (setItem ov iv v)
     release [v,ov,iv] []):=by intro _; rfl) : PG X (.Subscript o i pos) (gSub to ti t):=by
 intro pins s σ H v u Q I r h
 rw [ha]
 refine wpAny_bind (wpAny_holding (thn (ho pins s σ H _ I h) fun ov s1 ⟨x,H1,I1,r1,q1⟩ => ?_))
 refine wpAny_bind (wpAny_holding (thn (hi pins s1 σ H1 _ I1 q1) fun iv s2 ⟨y,H2,I2,r2,q2⟩ => ?_))
 refine wpAny_bind (wpAny_standAt (wpAny_bind (wpAny_holding (thn (hs pins s2 σ H2 x y v ov iv u _ I2 r1 r2 r q2) fun _ s3 ⟨H3,I3,q3⟩ => ?_))))
 exact wpAny_release ⟨σ,H3,I3,q3⟩
def tAsg (te : TE) (g : TG) : TS:=fun D σ H => te σ H fun x H1 => g x σ H1 D.nx
theorem ps_asg {tg e : Expr} {te : TE} {g : TG} (he : PE X e te) (hg : PG X tg g) (hs : swapsWithSole [tg] e pos.line X.env = pure false:=by rfl) (hw : swappedStores [tg] e X.env = pure none:=by rfl)
   (h1 : (assignEach [tg] X.env).map (·.2) = [assign tg X.env]:=by rfl) : PS X (.Assign [tg] e pos) (tAsg te g):=by
 intro pins s σ H D I h
 refine wpAny_Assign_stores (thn (he pins s σ H _ I h) fun v s1 ⟨x,H1,I1,r1,q1⟩ => ?_) hs hw
 rw [h1]
 exact thn (hg pins s1 σ H1 x v _ I1 r1 q1) fun _ s2 q => q
theorem ps_set {i : Nat} {x : Str} {e : Expr} {te : TE} {pos' : Pos} (hN : X.N.Nodup) (hi : X.N[i]? = some x) (hx : Loc X.env.scope x) (he : PE X e te) (hs : swapsWith e (some (.Name x pos')) pos.line X.env = pure false:=by rfl) (hf : X.fn x = true ∨ X.env.scope.names.lookup x = some .local:=by first | exact .inl rfl | exact .inr rfl | assumption) :
   PS X (.Assign [.Name x pos'] e pos) (tAsg te (gName i)):=by
 intro pins s σ H D I h
 refine wpAny_Assign_Name (thn (he pins s σ H _ I h) fun v s1 ⟨y,H1,I1,r1,q1⟩ => ?_) hs
 exact store_ok I1 hN hi hx r1 (fun s2 I2 => ⟨_,H1,I2,q1⟩) hf
end
section
variable {X : Cx} {pos : Pos}
def tWhile (c : TT) (tb : TS) : TS:=fun D σ H => ∃ W : Nat→St→Hp→Prop,(∃ m,W m σ H)∧∀ m σ H,W m σ H →
 c σ H fun b H1 => if b = true then ∃ N : St→Hp→Prop,(∀ σ' H',N σ' H'→∃ m',m' < m∧W m' σ' H')∧tb { D with nx:=N,ct:=N,bk:=D.nx } σ H1 else D.nx σ H1
theorem ps_while {c : Expr} {body : List Stmt} {tc : TT} {tb : TS} (hp : PassesOwn (model X.prog X.w) X.A X.env X.xe) (hc : PT X c tc) (hb : PSs X body tb) : PS X (.While c body [] pos) (tWhile tc tb):=by
 intro pins s σ H D I h
 obtain ⟨W,⟨m0,w0⟩,turn⟩:=h
 refine wpAny_While (codeAny_whileLoop (fun n s' => ∃ σ' H',Inv X pins σ' H' s'∧W n σ' H') ?_ m0 ⟨σ,H,I,w0⟩)
 rintro n s1 ⟨σ1,H1,I1,w1⟩
 refine wpAny_passesOwn hp (thn (hc pins s1 σ1 H1 _ I1 (turn n σ1 H1 w1)) fun b s2 ⟨H2,I2,q2⟩ => ?_)
 cases b with
 | true =>
   obtain ⟨N,hN,q2⟩:=q2
   rw [if_pos rfl]
   refine wpAny_passesOwn hp (thn (hb pins s2 σ1 H2 _ I2 q2) fun f s3 q3 => ?_)
   cases f with
   | next =>
     obtain ⟨σ3,H3,I3,n3⟩:=q3
     obtain ⟨m',hm,w3⟩:=hN σ3 H3 n3
     exact ⟨m',hm,σ3,H3,I3,w3⟩
   | cont =>
     obtain ⟨σ3,H3,I3,n3⟩:=q3
     obtain ⟨m',hm,w3⟩:=hN σ3 H3 n3
     exact ⟨m',hm,σ3,H3,I3,w3⟩
   | brk => exact q3
   | ret v => exact q3
 | false =>
   rw [if_neg Bool.false_ne_true]
   exact wpAny_execs_nil ⟨σ1,H2,I2,q2⟩
end
structure It where
 go : Nat→Hp→Prop
 yld : Nat→Hp→V→Hp→Prop
 stop : Nat→Hp→Prop
def FpOk (X : Cx) (pins : List (Addr × Obj)) (H : Hp) (b : Addr) : Prop :=
 H b = none∧b ≠ X.env.locals∧b ∉ X.fs∧(b ∈ X.ex ∨ X.s₀.heap.objs.size ≤ b)∧(∀ x c,X.env.cells.lookup x = some c→c ≠ b)∧∀ p ∈ X.pn ++ pins,p.1 ≠ b
theorem Inv.fpOk {X : Cx} {pins : List (Addr × Obj)} {σ : St} {H H' : Hp} {s : Shared} {b : Addr} (I : Inv X pins σ H s) (hb : s.heap.objs.size ≤ b) (hn : H' b = none) : FpOk X pins H' b:=by
 refine ⟨hn,Nat.ne_of_gt (Nat.lt_of_lt_of_le I.lt hb),I.nofs hb,.inr (Nat.le_trans I.sz hb),fun x c e z => ?_,fun p hp z => ?_⟩
 · obtain ⟨v,q⟩:=I.cell x c e
   exact absurd (Nat.lt_of_lt_of_le q.lt (by rw [z]; exact hb)) (Nat.lt_irrefl _)
 · exact absurd (Nat.lt_of_lt_of_le (Heap.lt_size (I.pin p hp).1) (by rw [z]; exact hb)) (Nat.lt_irrefl _)
structure Turn (P : Program) (w : World) (K : PySem.W.Frag) (tg : Expr) (J : It) (fp : List Addr) (it : Addr) (tn : Nat→Heap→Prop) : Prop where
 mem : it ∈ fp
 obj : ∀ i h,tn i h→∀ b ∈ fp,∃ o,h.get? b = some o∧∀ v,o.data ≠ .cell v
 keep : ∀ i h h',tn i h→(∀ b ∈ fp,∀ o,h.get? b = some o→h'.get? b = some o)→tn i h'
 item : ∀ (X : Cx),X.prog = P→X.w = w→X.K = K→X.calm = true→∀ (i : Nat) (pins : List (Addr × Obj)) (s : Shared) (σ : St) (H : Hp) (E : Value→Shared→Prop),Inv X pins σ H s→(∀ b ∈ fp,FpOk X pins H b)→tn i s.heap→J.go i H →
   wpAny (model P w) X.A (pyNext (.ref it)) (fun r s1 => ∃ u,r = some u ∧
     wpAny (model P w) X.A (letOwnedTupleGo tg (.ref it) u) (fun _ s2 => ∃ x H',Inv X pins σ H' s2∧RelV x u∧J.yld i H x H'∧tn (i + 1) s2.heap∧∀ b ∈ fp,H' b = none) E s1) E s
 done : ∀ (X : Cx),X.prog = P→X.w = w→X.K = K→X.calm = true→∀ (i : Nat) (pins : List (Addr × Obj)) (s : Shared) (σ : St) (H : Hp) (E : Value→Shared→Prop),Inv X pins σ H s→(∀ b ∈ fp,FpOk X pins H b)→tn i s.heap→J.stop i H →
   wpAny (model P w) X.A (pyNext (.ref it)) (fun r s1 => r = none∧Inv X pins σ H s1) E s
 self : ∀ (A : Around) (i : Nat) (s : Shared) (Q : Value→Shared→Prop) (E : Value→Shared→Prop),tn i s.heap→Q (.ref it) s→wpAny (model P w) A (pyIter (.ref it)) Q E s
abbrev TI:=St→Hp→(It→Hp→Prop)→Prop
def PIE (X : Cx) (pins : List (Addr × Obj)) (σ : St) (tg : Expr) (R : It→Hp→Prop) (itv : Value) (s2 : Shared) : Prop :=
 ∃ (it : Addr) (fp : List Addr) (tn : Nat→Heap→Prop) (J : It) (H' : Hp),itv = .ref it∧Inv X pins σ H' s2∧Turn X.prog X.w X.K tg J fp it tn∧tn 0 s2.heap∧(∀ b ∈ fp,FpOk X pins H' b)∧R J H'
def PI (X : Cx) (tg iter : Expr) (wi : TI) : Prop :=
 ∀ (pins : List (Addr × Obj)) (s : Shared) (σ : St) (H : Hp) (R : It→Hp→Prop),Inv X pins σ H s→wi σ H R →
   wpAny (model X.prog X.w) X.A (eval iter X.env) (fun v s1 => wpAny (model X.prog X.w) X.A (pyIter v) (PIE X pins σ tg R) X.xe s1) X.xe s
theorem go_of {M : Model} {A : Around} {E : Value→Shared→Prop} {s : Shared} {tg : Expr} {it : Addr} {u : Value} {o : Obj} {n : String} {vs : Array Value} {Q : Unit→Shared→Prop} (ho : s.heap.get? it = some o) (hc : o.cls = .type n) (hd : o.data = .fields vs)
   (hn : ["enumerate","zip","dict_itemiterator","dict_reverseitemiterator","odict_iterator","itertools.zip_longest","itertools.pairwise"].contains n = false) (hQ : Q () s) : wpAny M A (letOwnedTupleGo tg (.ref it) u) Q E s:=by
 unfold letOwnedTupleGo
 cases tg <;> first
   | exact wpAny_pure hQ
   | (cases u <;> first
       | exact wpAny_pure hQ
       | (refine wpAny_bind (wpAny_load ho ?_)
          rw [hc,hd]
          show wpAny M A (if (["enumerate","zip","dict_itemiterator","dict_reverseitemiterator","odict_iterator","itertools.zip_longest","itertools.pairwise"].contains n && vs[0]? == some (rawInt _)) = true then _ else _) Q E s
          rw [if_neg (by intro h; rw [hn,Bool.false_and] at h; cases h)]
          exact wpAny_pure hQ))
def Itl (K : PySem.W.Frag) (a : Addr) : It :=
 ⟨fun i H => ∃ xs x,SqL K H a xs∧xs[i]? = some x,fun i H x H' => H' = H∧∀ xs,SqL K H a xs→xs[i]? = some x,fun i H => ∃ xs,SqL K H a xs∧xs.length ≤ i⟩
def Itr (lo : Int) (n : Nat) : It:=⟨fun i _ => i < n,fun i H x H' => H' = H∧x = .int (lo + i),fun i _ => n ≤ i⟩
theorem turn_list {P : Program} {w : World} {K : PySem.W.Frag} {tg : Expr} (a it : Addr) : Turn P w K tg (Itl K a) [it] it (fun i h => h.IsListIter it a i) where
 mem:=by simp
 obj:=fun i h st b hb => by
   have e : b = it:=by simpa using hb
   subst e
   obtain ⟨o,e,c,d⟩:=st
   exact ⟨o,e,fun v z => by rw [d] at z; cases z⟩
 keep:=fun i h h' st k => st.at fun o e => k it (by simp) o e
 item:=by
   intro X hP hw hK hc i pins s σ H E I hf st hg
   subst hP hw hK
   obtain ⟨xs,x,hq,hx⟩:=hg
   obtain ⟨its,rv,p,hz⟩:=I.list hq
   obtain ⟨u,hu,ru⟩:=rv.get hx
   obtain ⟨f0,f1,f2,f3,f4,f5⟩:=hf it (by simp)
   refine wpAny_pyNext_list_item st p.isList (x:=u) (by simpa using hu) fun h' st' sb => ?_
   have I1 : Inv X pins σ H { s with heap:=h' }:=I.turned (t':=s.toks) (fun b o hb e => (sb.2 b hb).trans e) f0 f1 f3 f4 f5
   obtain ⟨o,e,c,d⟩:=id st'
   exact ⟨u,rfl,go_of (s:={ s with heap:=h' }) e c d (by decide) ⟨x,H,I1,ru,⟨rfl,fun ys hy => by rw [I.list_inj hy hq]; exact hx⟩,st',fun b hb => (hf b hb).1⟩⟩
 done:=by
   intro X hP hw hK hc i pins s σ H E I hf st hg
   subst hP hw hK
   obtain ⟨xs,hq,hx⟩:=hg
   obtain ⟨its,rv,p,hz⟩:=I.list hq
   obtain ⟨f0,f1,f2,f3,f4,f5⟩:=hf it (by simp)
   have hl:=rv.length
   exact wpAny_pyNext_list_end (I.ok.hd hc) st p.isList (by simp; omega) fun h' eb => ⟨rfl,I.turned (t':=s.toks) (fun b o hb e => eb b o hb e) f0 f1 f3 f4 f5⟩
 self:=fun _ _ _ _ _ st h => wpAny_pyIter_listiter st h
theorem turn_range {P : Program} {w : World} {K : PySem.W.Frag} {tg : Expr} (it : Addr) (lo : Int) (n : Nat) : Turn P w K tg (Itr lo n) [it] it (fun i h => IsRangeIter h it (lo + (i : Nat) * 1) ((n : Int) - (i : Nat)) 1) where
 mem:=by simp
 obj:=fun i h st b hb => by
   have e : b = it:=by simpa using hb
   subst e
   exact ⟨_,st,fun v z => by
     have z' : Data.fields _ = Data.cell v:=z
     cases z'⟩
 keep:=fun i h h' st k => k it (by simp) _ st
 item:=by
   intro X hP hw hK hc i pins s σ H E I hf st hg
   subst hP hw hK
   obtain ⟨f0,f1,f2,f3,f4,f5⟩:=hf it (by simp)
   have W:=Walks.range (prog:=X.prog) (w:=X.w) (I.ok.hd hc) it lo 1 n
   refine W.item i s _ _ hg st fun v h' tk hv st' kk => ?_
   obtain ⟨t,rfl⟩:=hv
   have I1 : Inv X pins σ H { s with heap:=h',toks:=tk }:=I.turned (fun b o hb e => kk b o (by simpa using hb) e) f0 f1 f3 f4 f5
   refine ⟨_,rfl,go_of (s:={ s with heap:=h',toks:=tk }) (n:="range_iterator") st' rfl rfl (by decide) ⟨.int (lo + i),H,I1,⟨t,?_⟩,⟨rfl,rfl⟩,st',fun b hb => (hf b hb).1⟩⟩
   rw [Int.mul_one]
 done:=by
   intro X hP hw hK hc i pins s σ H E I hf st hg
   subst hP hw hK
   obtain ⟨f0,f1,f2,f3,f4,f5⟩:=hf it (by simp)
   exact wpAny_pyNext_range_end (I.ok.hd hc) st (by have : n ≤ i:=hg; omega) fun h' eb => ⟨rfl,I.turned (t':=s.toks) (fun b o hb e => eb b o hb e) f0 f1 f3 f4 f5⟩
 self:=fun _ _ _ _ _ st h => wpAny_pyIter_rangeiter st h
end L2
namespace L2
open PySem PySem.Spec PyProof.Rows
section
variable {X : Cx} {tg : Expr}
def iList (K : PySem.W.Frag) (tl : TE) : TI:=fun σ H R => tl σ H fun x H1 => ∃ a,x = .ref a∧(∃ xs,SqL K H1 a xs)∧R (Itl K a) H1
theorem pi_list {l : Expr} {tl : TE} (hl : PE X l tl) : PI X tg l (iList X.K tl):=by
 intro pins s σ H R I h
 refine thn (hl pins s σ H _ I h) fun v s1 ⟨x,H1,I1,r1,q1⟩ => ?_
 obtain ⟨a,e,⟨xs,hq⟩,q⟩:=q1
 subst e
 cases r1
 obtain ⟨its,rv,p,hz⟩:=I1.list hq
 refine wpAny_pyIter_list p.isList ?_
 refine ⟨s1.heap.objs.size,[s1.heap.objs.size],_,_,H1,rfl,I1.kept (t':=s1.toks) fun b o e => Heap.get?_push_of_some _ e,turn_list a _,⟨_,Heap.get?_push_size _ rfl,rfl,rfl⟩,fun b hb => ?_,q⟩
 have e : b = s1.heap.objs.size:=by simpa using hb
 subst e
 exact I1.fpOk (Nat.le_refl _) (I1.hok.fresh (Nat.le_refl _))
theorem range_it {pins : List (Addr × Obj)} {σ : St} {H : Hp} {s : Shared} {R : It→Hp→Prop} {E : Value→Shared→Prop} {lo hi : Int} {t u v : Tok} {tk : Nat} (I : Inv X pins σ H s) (h1 : -(2 ^ 62) ≤ lo) (h2 : lo < 2 ^ 62) (h3 : -(2 ^ 62) ≤ hi) (h4 : hi < 2 ^ 62)
   (q : R (Itr lo (hi - lo).toNat) H) : wpAny (model X.prog X.w) X.A (pyIter (.ref s.heap.objs.size)) (PIE X pins σ tg R) E { s with heap:=s.heap.push { cls:=.type "range",data:=.fields #[.int lo t,.int hi u,.int 1 v] },toks:=tk }:=by
 refine wpAny_pyIter_range (IsRange.new ..) (small_one h1 h2 h3 h4) ?_
 have I1 : Inv X pins σ H { s with heap:=s.heap.push { cls:=.type "range",data:=.fields #[.int lo t,.int hi u,.int 1 v] },toks:=tk }:=I.kept fun b o e => Heap.get?_push_of_some _ e
 refine ⟨(s.heap.push { cls:=.type "range",data:=.fields #[.int lo t,.int hi u,.int 1 v] }).objs.size,[(s.heap.push { cls:=.type "range",data:=.fields #[.int lo t,.int hi u,.int 1 v] }).objs.size],_,_,H,rfl,
   I1.kept (t':=tk) fun b o e => Heap.get?_push_of_some _ e,turn_range _ lo (hi - lo).toNat,?_,fun b hb => ?_,q⟩
 · have e1 : lo + ((0 : Nat) : Int) * 1 = lo:=by simp
   have e2 : (((hi - lo).toNat : Nat) : Int) - ((0 : Nat) : Int) = Builtin.Range.rangeSize lo hi 1:=by rw [rangeSize_one]; split <;> omega
   show IsRangeIter _ _ (lo + ((0 : Nat) : Int) * 1) ((((hi - lo).toNat : Nat) : Int) - ((0 : Nat) : Int)) 1
   rw [e1,e2]
   exact Heap.get?_push_size _ rfl
 · have e : b = (s.heap.push { cls:=.type "range",data:=.fields #[.int lo t,.int hi u,.int 1 v] }).objs.size:=by simpa using hb
   subst e
   exact I1.fpOk (Nat.le_refl _) (I1.hok.fresh (Nat.le_refl _))
def iRng1 (ta : TA) : TI:=fun σ H R => ta σ H fun vs H1 => ∃ j : Int,vs = [.int j]∧-(2 ^ 62) ≤ j∧j < 2 ^ 62∧R (Itr 0 j.toNat) H1
theorem pi_range1 {a : Expr} {ta : TA} {p pos : Pos} (hg : Gl X "range") (hm : X.mg "range" = none) (ha : PA X [a] ta) (hs : starEach [a] X.env = [(false,eval a X.env)]:=by rfl) : PI X tg (.Call (.Name "range" p) [a] [] pos) (iRng1 ta):=by
 intro pins s σ H R I h
 refine Call_ (ld_blt I hg hm boot_range (PyProof.Rows.callWith_type1 (thn (ha pos pins s σ H _ I h) fun us s1 ⟨vs,H1,I1,r1,q1⟩ => ?_) hs rfl))
 obtain ⟨j,e,q1,q2,q⟩:=q1
 subst e
 cases r1 with
 | cons r rr =>
   cases rr
   obtain ⟨t,rfl⟩:=r
   exact call_range_1 (range_it I1 (by omega) (by omega) q1 q2 (by simpa using q))
def tFor (wi : TI) (g : TG) (tb : TS) : TS:=fun D σ H => wi σ H fun J H1 => ∃ W : Nat→Nat→St→Hp→Prop,(∃ m,W 0 m σ H1)∧∀ i m σ H,W i m σ H →
 (J.stop i H∧D.nx σ H) ∨ (J.go i H∧∃ N : St→Hp→Prop,(∀ σ' H',N σ' H'→∃ m',m' < m∧W (i + 1) m' σ' H')∧∀ x H',J.yld i H x H'→g x σ H' fun σ2 H2 => tb { D with nx:=N,ct:=N,bk:=D.nx } σ2 H2)
def pinsAt (fp : List Addr) (h : Heap) : List (Addr × Obj):=fp.filterMap fun b => (h.get? b).map fun o => (b,o)
theorem mem_pinsAt {fp : List Addr} {h : Heap} {b : Addr} {o : Obj} (hb : b ∈ fp) (e : h.get? b = some o) : (b,o) ∈ pinsAt fp h:=List.mem_filterMap.mpr ⟨b,hb,by rw [e]; rfl⟩
theorem of_pinsAt {fp : List Addr} {h : Heap} {p : Addr × Obj} (hp : p ∈ pinsAt fp h) : p.1 ∈ fp∧h.get? p.1 = some p.2:=by
 obtain ⟨b,hb,e⟩:=List.mem_filterMap.mp hp
 cases q : h.get? b with
 | none => rw [q] at e; cases e
 | some o =>
   rw [q] at e
   have e' : (b,o) = p:=Option.some.inj e
   subst e'
   exact ⟨hb,q⟩
theorem Inv.pinned {pins : List (Addr × Obj)} {σ : St} {H : Hp} {s : Shared} {fp : List Addr} (I : Inv X pins σ H s) (hf : ∀ b ∈ fp,FpOk X pins H b) (ho : ∀ b ∈ fp,∃ o,s.heap.get? b = some o∧∀ v,o.data ≠ .cell v) : Inv X (pins ++ pinsAt fp s.heap) σ H s :=
 I.pins_of fun p hp => (List.mem_append.mp hp).elim (fun z => I.pin p (List.mem_append_right _ z)) fun z => by
   obtain ⟨hb,e⟩:=of_pinsAt z
   obtain ⟨f0,f1,f2,_⟩:=hf p.1 hb
   obtain ⟨o,e',d⟩:=ho p.1 hb
   rw [e] at e'; cases e'
   exact ⟨e,f0,f1,f2,d⟩
theorem Inv.unpinned {pins pl : List (Addr × Obj)} {σ : St} {H : Hp} {s : Shared} (I : Inv X (pins ++ pl) σ H s) : Inv X pins σ H s:=I.pins_of fun p hp => I.pin p (List.mem_append_right _ (List.mem_append_left _ hp))
theorem ps_for {iter : Expr} {body : List Stmt} {wi : TI} {g : TG} {tb : TS} {pos : Pos} (hp : PassesOwn (model X.prog X.w) X.A X.env X.xe) (hc : X.calm = true) (hi : PI X tg iter wi) (hg : PG X tg g) (hb : PSs X body tb)
   (hs : ∀ x,foldedSetIterable iter X.env x = pure x:=by intro _; rfl) : PS X (.For tg iter body [] pos) (tFor wi g tb):=by
 intro pins s σ H D I h
 refine wpAny_For (thn (hi pins s σ H _ I h) fun v s1 h1 => thn h1 fun itv s2 h2 => ?_) hs
 obtain ⟨it,fp,tn,J,H2,e,I2,T,st2,f2,W,⟨m0,w0⟩,turn⟩:=h2
 subst e
 -- what stays true of the iterator's objects through the loop
 have stat : ∀ {H' : Hp},(∀ b ∈ fp,H' b = none)→∀ b ∈ fp,FpOk X pins H' b:=fun hn b hb => ⟨hn b hb,(f2 b hb).2⟩
 refine codeAny_forLoop_any (fun n s' => ∃ i σ' H',Inv X pins σ' H' s'∧tn i s'.heap∧(∀ b ∈ fp,H' b = none)∧W i n σ' H') ?_ m0 ⟨0,σ,H2,I2,st2,fun b hb => (f2 b hb).1,w0⟩
 rintro n s3 ⟨i,σ3,H3,I3,st3,fr3,w3⟩
 rcases turn i n σ3 H3 w3 with ⟨stop,qn⟩ | ⟨go,N,hN,step⟩
 · refine wpAny_passesOwn hp (thn (T.done X rfl rfl rfl hc i pins s3 σ3 H3 X.xe I3 (stat fr3) st3 stop) fun r s4 ⟨hr,I4⟩ => ?_)
   subst hr
   exact wpAny_execs_nil ⟨σ3,H3,I4,qn⟩
 · refine wpAny_passesOwn hp (thn (T.item X rfl rfl rfl hc i pins s3 σ3 H3 X.xe I3 (stat fr3) st3 go) fun r s4 ⟨u,hr,h4⟩ => ?_)
   subst hr
   refine wpAny_passesOwn hp (thn h4 fun _ s5 ⟨x,H5,I5,r5,y5,st5,fr5⟩ => ?_)
   have I5':=I5.pinned (stat fr5) (T.obj _ _ st5)
   refine wpAny_passesOwn hp (thn (hg _ s5 σ3 H5 x u _ I5' r5 (step x H5 y5)) fun _ s6 ⟨σ6,H6,I6,q6⟩ => ?_)
   refine wpAny_passesOwn hp (thn (hb _ s6 σ6 H6 _ I6 q6) fun f s7 q7 => ?_)
   have again : ∀ {σ7 : St} {H7 : Hp},Inv X (pins ++ pinsAt fp s5.heap) σ7 H7 s7→N σ7 H7→∃ m,m < n∧∃ i σ' H',Inv X pins σ' H' s7∧tn i s7.heap∧(∀ b ∈ fp,H' b = none)∧W i m σ' H':=fun {σ7 H7} I7 n7 => by
     obtain ⟨m',hm,w7⟩:=hN σ7 H7 n7
     refine ⟨m',hm,i + 1,σ7,H7,I7.unpinned,T.keep _ _ _ st5 fun b hb o e => (I7.pin (b,o) (List.mem_append_right _ (List.mem_append_right _ (mem_pinsAt hb e)))).1,fun b hb => ?_,w7⟩
     obtain ⟨o,e,d⟩:=T.obj _ _ st5 b hb
     exact (I7.pin (b,o) (List.mem_append_right _ (List.mem_append_right _ (mem_pinsAt hb e)))).2.1
   cases f with
   | next => obtain ⟨σ7,H7,I7,n7⟩:=q7; exact again I7 n7
   | cont => obtain ⟨σ7,H7,I7,n7⟩:=q7; exact again I7 n7
   | brk => obtain ⟨σ7,H7,I7,q7⟩:=q7; exact ⟨σ7,H7,I7.unpinned,q7⟩
   | ret v => obtain ⟨x7,σ7,H7,I7,r7,q7⟩:=q7; exact ⟨x7,σ7,H7,I7.unpinned,r7,q7⟩
end
theorem for_list {K : PySem.W.Frag} {a : Addr} {xs : List V} {g : TG} {tb : TS} {D : Ends} {σ : St} {H : Hp} (Pv : Nat→St→Hp→Prop) (h0 : Pv 0 σ H) (hl : ∀ i σ H,i ≤ xs.length→Pv i σ H→SqL K H a xs)
   (hs : ∀ i x σ H,xs[i]? = some x→Pv i σ H→g x σ H fun σ2 H2 => tb { D with nx:=Pv (i + 1),ct:=Pv (i + 1),bk:=D.nx } σ2 H2) (hd : ∀ σ H,Pv xs.length σ H→D.nx σ H) :
   ∃ W : Nat→Nat→St→Hp→Prop,(∃ m,W 0 m σ H)∧∀ i m σ H,W i m σ H →
     ((Itl K a).stop i H∧D.nx σ H) ∨ ((Itl K a).go i H∧∃ N : St→Hp→Prop,(∀ σ' H',N σ' H'→∃ m',m' < m∧W (i + 1) m' σ' H')∧∀ x H',(Itl K a).yld i H x H'→g x σ H' fun σ2 H2 => tb { D with nx:=N,ct:=N,bk:=D.nx } σ2 H2):=by
 refine ⟨fun i m σ H => m = xs.length - i∧i ≤ xs.length∧Pv i σ H,⟨xs.length,by simp,Nat.zero_le _,h0⟩,?_⟩
 rintro i m σ H ⟨rfl,hi,p⟩
 have q:=hl i σ H hi p
 by_cases hlt : i < xs.length
 · refine .inr ⟨⟨xs,xs[i],q,by simp [hlt]⟩,Pv (i + 1),fun σ' H' p' => ⟨xs.length - (i + 1),by omega,rfl,hlt,p'⟩,fun x H' y => ?_⟩
   obtain ⟨e,y⟩:=y
   subst e
   exact hs i x σ _ (y xs q) p
 · have e : i = xs.length:=by omega
   subst e
   exact .inl ⟨⟨xs,q,Nat.le_refl _⟩,hd σ H p⟩
theorem for_range {lo : Int} {n : Nat} {g : TG} {tb : TS} {D : Ends} {σ : St} {H : Hp} (Pv : Nat→St→Hp→Prop) (h0 : Pv 0 σ H)
   (hs : ∀ i σ H,i < n→Pv i σ H→g (.int (lo + i)) σ H fun σ2 H2 => tb { D with nx:=Pv (i + 1),ct:=Pv (i + 1),bk:=D.nx } σ2 H2) (hd : ∀ σ H,Pv n σ H→D.nx σ H) :
   ∃ W : Nat→Nat→St→Hp→Prop,(∃ m,W 0 m σ H)∧∀ i m σ H,W i m σ H →
     ((Itr lo n).stop i H∧D.nx σ H) ∨ ((Itr lo n).go i H∧∃ N : St→Hp→Prop,(∀ σ' H',N σ' H'→∃ m',m' < m∧W (i + 1) m' σ' H')∧∀ x H',(Itr lo n).yld i H x H'→g x σ H' fun σ2 H2 => tb { D with nx:=N,ct:=N,bk:=D.nx } σ2 H2):=by
 refine ⟨fun i m σ H => m = n - i∧i ≤ n∧Pv i σ H,⟨n,by simp,Nat.zero_le _,h0⟩,?_⟩
 rintro i m σ H ⟨rfl,hi,p⟩
 by_cases hlt : i < n
 · refine .inr ⟨hlt,Pv (i + 1),fun σ' H' p' => ⟨n - (i + 1),by omega,rfl,hlt,p'⟩,fun x H' y => ?_⟩
   obtain ⟨e,y⟩:=y
   subst e y
   exact hs i σ _ hlt p
 · have e : i = n:=by omega
   subst e
   exact .inl ⟨Nat.le_refl _,hd σ H p⟩
end L2
namespace L2
open PySem PySem.Spec PyProof.Rows
abbrev R2:=V→V→Hp→VK→Prop
def OpR (X : Cx) (f : Value→Value→Sem Value) (r : R2) : Prop :=
 ∀ (pins : List (Addr × Obj)) (s : Shared) (σ : St) (H : Hp) (x y : V) (v u : Value) (Q : VK),Inv X pins σ H s→RelV x v→RelV y u→r x y H Q →
   wpAny (model X.prog X.w) X.A (f v u) (EP X pins σ Q) X.xe s
def UnR (X : Cx) (f : Value→Sem Value) (r : V→Hp→VK→Prop) : Prop :=
 ∀ (pins : List (Addr × Obj)) (s : Shared) (σ : St) (H : Hp) (x : V) (v : Value) (Q : VK),Inv X pins σ H s→RelV x v→r x H Q →
   wpAny (model X.prog X.w) X.A (f v) (EP X pins σ Q) X.xe s
def CallR (X : Cx) (f : Value) (r : List V→Hp→VK→Prop) : Prop :=
 ∀ (pins : List (Addr × Obj)) (s : Shared) (σ : St) (H : Hp) (xs : List V) (us : List Value) (Q : VK),Inv X pins σ H s→Vals xs us→r xs H Q →
   wpAny (model X.prog X.w) X.A (call f us) (EP X pins σ Q) X.xe s
def tOp (r : R2) (ta tb : TE) : TE:=fun σ H Q => ta σ H fun x H1 => tb σ H1 fun y H2 => r x y H2 Q
def tUn (r : V→Hp→VK→Prop) (ta : TE) : TE:=fun σ H Q => ta σ H fun x H1 => r x H1 Q
def rI (C : Int→Int→Prop) (g : Int→Int→V) : R2:=fun x y H Q => ∃ i j,x = .int i∧y = .int j∧C i j∧Q (g i j) H
def rI0 (g : Int→Int→V) : R2:=fun x y H Q => ∃ i j,x = .int i∧y = .int j∧Q (g i j) H
def rU (g : Int→V) : V→Hp→VK→Prop:=fun x H Q => ∃ i,x = .int i∧Q (g i) H
section
variable {X : Cx} {a b c : Expr} {ta tb tc : TE} {pos : Pos}
theorem binT (ha : PE X a ta) (hb : PE X b tb) {pins : List (Addr × Obj)} {s : Shared} {σ : St} {H : Hp} {R : V→V→Hp→Prop} (I : Inv X pins σ H s)
   (h : ta σ H fun x H1 => tb σ H1 fun y H2 => R x y H2) {Q : Value→Shared→Prop} {f : Value→Value→Sem Value}
   (hf : ∀ v u s2 x y H2,Inv X pins σ H2 s2→RelV x v→RelV y u→R x y H2→wpAny (model X.prog X.w) X.A (f v u) Q X.xe s2) :
   wpAny (model X.prog X.w) X.A (eval a X.env) (fun v s₁ => wpAny (model X.prog X.w) X.A (eval b X.env) (fun u s₂ => wpAny (model X.prog X.w) X.A (f v u) Q X.xe s₂) X.xe s₁) X.xe s:=by
 refine thn (ha pins s σ H _ I h) fun v s1 ⟨x,H1,I1,r1,q1⟩ => ?_
 refine thn (hb pins s1 σ H1 _ I1 q1) fun u s2 ⟨y,H2,I2,r2,q2⟩ => ?_
 exact hf v u s2 x y H2 I2 r1 r2 q2
theorem pe_op {op : Operator} {r : R2} (ho : OpR X (binaryOp op) r) (ha : PE X a ta) (hb : PE X b tb) : PE X (.BinOp a op b pos) (tOp r ta tb):=by
 intro pins s σ H Q I h
 exact wpAny_BinOp (binT ha hb I h fun v u s2 x y H2 I2 rx ry q => ho pins s2 σ H2 x y v u Q I2 rx ry q)
theorem pe_un {op : UnaryOp} {r : V→Hp→VK→Prop} (ho : UnR X (unaryOp op) r) (ha : PE X a ta) : PE X (.UnaryOp op a pos) (tUn r ta):=by
 intro pins s σ H Q I h
 exact UnaryOp_ (thn (ha pins s σ H _ I h) fun v s1 ⟨x,H1,I1,r1,q1⟩ => ho pins s1 σ H1 x v Q I1 r1 q1)
theorem opI {f : Value→Value→Sem Value} {C : Int→Int→Prop} {g : Int→Int→Int}
   (rule : ∀ (i j : Int) (t u : Tok) (s : Shared) (Q : Value→Shared→Prop) (E : Value→Shared→Prop),C i j→Q (.int (g i j) s.toks) { s with toks:=s.toks + 1 }→wpAny (model X.prog X.w) X.A (f (.int i t) (.int j u)) Q E s) :
   OpR X f (rI C fun i j => .int (g i j)):=by
 intro pins s σ H x y v u Q I rx ry h
 obtain ⟨i,j,rfl,rfl,hc,q⟩:=h
 obtain ⟨t,rfl⟩:=rx
 obtain ⟨t',rfl⟩:=ry
 exact rule i j t t' s _ _ hc ⟨.int (g i j),H,I.tok _,⟨_,rfl⟩,q⟩
theorem opI0 {f : Value→Value→Sem Value} {g : Int→Int→Int}
   (rule : ∀ (i j : Int) (t u : Tok) (s : Shared) (Q : Value→Shared→Prop) (E : Value→Shared→Prop),Q (.int (g i j) s.toks) { s with toks:=s.toks + 1 }→wpAny (model X.prog X.w) X.A (f (.int i t) (.int j u)) Q E s) :
   OpR X f (rI0 fun i j => .int (g i j)):=by
 intro pins s σ H x y v u Q I rx ry h
 obtain ⟨i,j,rfl,rfl,q⟩:=h
 obtain ⟨t,rfl⟩:=rx
 obtain ⟨t',rfl⟩:=ry
 exact rule i j t t' s _ _ ⟨.int (g i j),H,I.tok _,⟨_,rfl⟩,q⟩
theorem opB0 {f : Value→Value→Sem Value} {g : Int→Int→Bool}
   (rule : ∀ (i j : Int) (t u : Tok) (s : Shared) (Q : Value→Shared→Prop) (E : Value→Shared→Prop),Q (.bool (g i j)) s→wpAny (model X.prog X.w) X.A (f (.int i t) (.int j u)) Q E s) :
   OpR X f (rI0 fun i j => .bl (g i j)):=by
 intro pins s σ H x y v u Q I rx ry h
 obtain ⟨i,j,rfl,rfl,q⟩:=h
 obtain ⟨t,rfl⟩:=rx
 obtain ⟨t',rfl⟩:=ry
 exact rule i j t t' s _ _ ⟨.bl (g i j),H,I,rfl,q⟩
def CPow (i j : Int) : Prop:=0 ≤ j∧j ≤ 1000000∧i.natAbs < 2 ^ 64
theorem two_pow_nn (k : Nat) : (0 : Int) ≤ 2 ^ k:=by
 rw [two_pow_cast]
 exact Int.natCast_nonneg _
theorem op_add : OpR X (binaryOp .Add) (rI0 fun i j => .int (i + j)):=opI0 fun _ _ _ _ _ _ _ q => add_int q
theorem op_sub : OpR X (binaryOp .Sub) (rI0 fun i j => .int (i - j)):=opI0 fun _ _ _ _ _ _ _ q => sub_int q
theorem op_mod : OpR X (binaryOp .Mod) (rI (fun _ j => 0 < j) fun i j => .int (i % j)):=opI fun i j _ _ _ _ _ hc q => by
 have h1 : (0 : Int) < j:=hc
 exact mod_int' (by omega) (by rw [Int.fmod_eq_emod_of_nonneg i (by omega)]; exact q)
theorem op_pow : OpR X (binaryOp .Pow) (rI CPow fun i j => .int (i ^ j.toNat)):=opI fun _ _ _ _ _ _ _ hc q => pow_int_small hc.1 hc.2.1 hc.2.2 q
theorem op_shl : OpR X (binaryOp .LShift) (rI CPow fun i j => .int (i * 2 ^ j.toNat)):=opI fun _ _ _ _ _ _ _ hc q => lshift_int_small hc.1 hc.2.1 hc.2.2 q
theorem op_shr : OpR X (binaryOp .RShift) (rI (fun _ j => 0 ≤ j) fun i j => .int (i / 2 ^ j.toNat)):=opI fun i j _ _ _ _ _ hc q =>
 rshift_int hc (by rw [Int.fdiv_eq_ediv_of_nonneg i (two_pow_nn _)]; exact q)
theorem op_and : OpR X (binaryOp .BitAnd) (rI0 fun i j => .int (Builtin.bitAnd i j)):=opI0 fun _ _ _ _ _ _ _ q => and_int q
theorem op_or : OpR X (binaryOp .BitOr) (rI0 fun i j => .int (Builtin.bitOr i j)):=opI0 fun _ _ _ _ _ _ _ q => or_int q
theorem unI {f : Value→Sem Value} {g : Int→Int}
   (rule : ∀ (i : Int) (t : Tok) (s : Shared) (Q : Value→Shared→Prop) (E : Value→Shared→Prop),Q (.int (g i) s.toks) { s with toks:=s.toks + 1 }→wpAny (model X.prog X.w) X.A (f (.int i t)) Q E s) :
   UnR X f (rU fun i => .int (g i)):=by
 intro pins s σ H x v Q I rx h
 obtain ⟨i,rfl,q⟩:=h
 obtain ⟨t,rfl⟩:=rx
 exact rule i t s _ _ ⟨.int (g i),H,I.tok _,⟨_,rfl⟩,q⟩
theorem un_neg : UnR X (unaryOp .USub) (rU fun i => .int (-i)):=unI fun _ _ _ _ _ q => neg_int q
theorem un_inv : UnR X (unaryOp .Invert) (rU fun i => .int (Builtin.bitNot i)):=unI fun _ _ _ _ _ q => invert_int q
end
def scal : V→V→Bool
 | .non,.non => true | .non,.int _ => true | .int _,.non => true | .non,.bl _ => true | .bl _,.non => true | .non,.str _ => true | .str _,.non => true
 | .int _,.int _ => true | .bl _,.bl _ => true | .str _,.str _ => true | .byt _,.byt _ => true
 | .int _,.str _ => true | .str _,.int _ => true | .bl _,.str _ => true | .str _,.bl _ => true
 | _,_ => false
def rEq : R2:=fun x y H Q => scal x y = true∧Q (.bl (decide (x = y))) H
def rNe : R2:=fun x y H Q => scal x y = true∧Q (.bl (!decide (x = y))) H
theorem dec_int {i j : Int} : decide (V.int i = V.int j) = (i == j):=by
 rw [Bool.eq_iff_iff]
 simp
theorem dec_bl {i j : Bool} : decide (V.bl i = V.bl j) = (i == j):=by
 rw [Bool.eq_iff_iff]
 simp
theorem dec_str {i j : Str} : decide (V.str i = V.str j) = (i == j):=by
 rw [Bool.eq_iff_iff]
 simp
theorem dec_byt {i j : Array UInt8} : decide (V.byt i = V.byt j) = (i.toList == j.toList):=by
 rw [Bool.eq_iff_iff]
 cases i
 cases j
 simp
section
variable {X : Cx} {a b c : Expr} {ta tb tc : TE} {pos : Pos}
theorem fin_bl {pins : List (Addr × Obj)} {σ : St} {H : Hp} {s : Shared} {Q : VK} {k k' : Bool} (I : Inv X pins σ H s) (q : Q (.bl k) H) (e : k = k') : EP X pins σ Q (.bool k') s:=by
 subst e
 exact ⟨.bl k,H,I,rfl,q⟩
theorem op_eq : OpR X (compareOp .Eq) rEq:=by
 intro pins s σ H x y v u Q I rx ry h
 obtain ⟨hs,q⟩:=h
 cases x with
 | non =>
   cases rx
   cases y with
   | non => cases ry; exact PySem.EqNone.eq_none_none (fin_bl I q (by simp))
   | bl j => cases ry; exact PySem.EqNone.eq_none_bool (fin_bl I q (by simp))
   | int j => obtain ⟨t',rfl⟩:=ry; exact PySem.EqNone.eq_none_int (fin_bl I q (by simp))
   | str j => obtain ⟨t',rfl⟩:=ry; exact PySem.EqNone.eq_none_str (fin_bl I q (by simp))
   | _ => exact absurd (show false = true from hs) Bool.false_ne_true
 | bl i =>
   cases rx
   cases y with
   | non => cases ry; exact PySem.EqNone.eq_bool_none (fin_bl I q (by simp))
   | bl j => cases ry; exact eq_bool (fin_bl I q dec_bl)
   | str j => obtain ⟨t',rfl⟩:=ry; exact PySem.EqMixed.eq_bool_str (fin_bl I q (by simp))
   | _ => exact absurd (show false = true from hs) Bool.false_ne_true
 | int i =>
   obtain ⟨t,rfl⟩:=rx
   cases y with
   | non => cases ry; exact PySem.EqNone.eq_int_none (fin_bl I q (by simp))
   | int j => obtain ⟨t',rfl⟩:=ry; exact eq_int (fin_bl I q dec_int)
   | str j => obtain ⟨t',rfl⟩:=ry; exact PySem.EqMixed.eq_int_str (fin_bl I q (by simp))
   | _ => exact absurd (show false = true from hs) Bool.false_ne_true
 | str i =>
   obtain ⟨t,rfl⟩:=rx
   cases y with
   | non => cases ry; exact PySem.EqNone.eq_str_none (fin_bl I q (by simp))
   | bl j => cases ry; exact PySem.EqMixed.eq_str_bool (fin_bl I q (by simp))
   | int j => obtain ⟨t',rfl⟩:=ry; exact PySem.EqMixed.eq_str_int (fin_bl I q (by simp))
   | str j => obtain ⟨t',rfl⟩:=ry; exact eq_str (fin_bl I q dec_str)
   | _ => exact absurd (show false = true from hs) Bool.false_ne_true
 | byt i =>
   obtain ⟨t,rfl⟩:=rx
   cases y with
   | byt j => obtain ⟨t',rfl⟩:=ry; exact PySem.W.eq_bytes (fin_bl I q dec_byt)
   | _ => exact absurd (show false = true from hs) Bool.false_ne_true
 | _ => cases y <;> exact absurd (show false = true from hs) Bool.false_ne_true
theorem op_ne : OpR X (compareOp .NotEq) rNe:=by
 intro pins s σ H x y v u Q I rx ry h
 obtain ⟨hs,q⟩:=h
 cases x with
 | non =>
   cases rx
   cases y with
   | non => cases ry; exact PySem.EqNone.ne_none_none (fin_bl I q (by simp))
   | bl j => cases ry; exact PySem.EqNone.ne_none_bool (fin_bl I q (by simp))
   | int j => obtain ⟨t',rfl⟩:=ry; exact PySem.EqNone.ne_none_int (fin_bl I q (by simp))
   | str j => obtain ⟨t',rfl⟩:=ry; exact PySem.EqNone.ne_none_str (fin_bl I q (by simp))
   | _ => exact absurd (show false = true from hs) Bool.false_ne_true
 | bl i =>
   cases rx
   cases y with
   | non => cases ry; exact PySem.EqNone.ne_bool_none (fin_bl I q (by simp))
   | bl j => cases ry; exact ne_bool (fin_bl I q (congrArg not dec_bl))
   | str j => obtain ⟨t',rfl⟩:=ry; exact PySem.EqMixed.ne_bool_str (fin_bl I q (by simp))
   | _ => exact absurd (show false = true from hs) Bool.false_ne_true
 | int i =>
   obtain ⟨t,rfl⟩:=rx
   cases y with
   | non => cases ry; exact PySem.EqNone.ne_int_none (fin_bl I q (by simp))
   | int j => obtain ⟨t',rfl⟩:=ry; exact ne_int (fin_bl I q (congrArg not dec_int))
   | str j => obtain ⟨t',rfl⟩:=ry; exact PySem.EqMixed.ne_int_str (fin_bl I q (by simp))
   | _ => exact absurd (show false = true from hs) Bool.false_ne_true
 | str i =>
   obtain ⟨t,rfl⟩:=rx
   cases y with
   | non => cases ry; exact PySem.EqNone.ne_str_none (fin_bl I q (by simp))
   | bl j => cases ry; exact PySem.EqMixed.ne_str_bool (fin_bl I q (by simp))
   | int j => obtain ⟨t',rfl⟩:=ry; exact PySem.EqMixed.ne_str_int (fin_bl I q (by simp))
   | str j => obtain ⟨t',rfl⟩:=ry; exact ne_str (fin_bl I q (congrArg not dec_str))
   | _ => exact absurd (show false = true from hs) Bool.false_ne_true
 | byt i =>
   obtain ⟨t,rfl⟩:=rx
   cases y with
   | byt j => obtain ⟨t',rfl⟩:=ry; exact PySem.W.ne_bytes (fin_bl I q (congrArg not dec_byt))
   | _ => exact absurd (show false = true from hs) Bool.false_ne_true
 | _ => cases y <;> exact absurd (show false = true from hs) Bool.false_ne_true
theorem op_lt : OpR X (compareOp .Lt) (rI0 fun i j => .bl (decide (i < j))):=opB0 fun _ _ _ _ _ _ _ q => lt_int q
theorem op_le : OpR X (compareOp .LtE) (rI0 fun i j => .bl (decide (i ≤ j))):=opB0 fun _ _ _ _ _ _ _ q => le_int q
theorem op_gt : OpR X (compareOp .Gt) (rI0 fun i j => .bl (decide (j < i))):=opB0 fun _ _ _ _ _ _ _ q => gt_int q
theorem op_ge : OpR X (compareOp .GtE) (rI0 fun i j => .bl (decide (j ≤ i))):=opB0 fun _ _ _ _ _ _ _ q => ge_int q
theorem op_isN : OpR X (compareOp .Is) (fun x y H Q => y = .non∧Q (.bl (decide (x = .non))) H):=by
 intro pins s σ H x y v u Q I rx ry h
 obtain ⟨rfl,q⟩:=h
 cases ry
 refine is_none_gen (fin_bl I q ?_)
 cases x <;> first
   | (cases rx; rfl)
   | (obtain ⟨t,rfl⟩:=rx; rfl)
theorem op_notN : OpR X (compareOp .IsNot) (fun x y H Q => y = .non∧Q (.bl (!decide (x = .non))) H):=by
 intro pins s σ H x y v u Q I rx ry h
 obtain ⟨rfl,q⟩:=h
 cases ry
 refine isnot_none_gen (fin_bl I q ?_)
 cases x <;> first
   | (cases rx; rfl)
   | (obtain ⟨t,rfl⟩:=rx; rfl)
theorem nomark (b : Expr) {op : CmpOp} (h : op ≠ .In:=by decide) (h2 : op ≠ .NotIn:=by decide) : behindInMarks op b = false:=by
 have e1 : (op == CmpOp.In) = false:=by cases op <;> first | rfl | exact absurd rfl h
 have e2 : (op == CmpOp.NotIn) = false:=by cases op <;> first | rfl | exact absurd rfl h2
 cases b <;> simp [behindInMarks,e1,e2]
theorem pe_cmpR {op : CmpOp} {r : R2} (ho : OpR X (compareOp op) r) (ha : PE X a ta) (hb : PE X b tb) (hm : behindInMarks op b = false) : PE X (.Compare a [op] [b] pos) (tOp r ta tb):=by
 intro pins s σ H Q I h
 exact wpAny_Compare1 (binT ha hb I h fun v u s2 x y H2 I2 rx ry q => ho pins s2 σ H2 x y v u Q I2 rx ry q) hm
def tTest (t : TE) : TT:=fun σ H Q => t σ H fun x H' => ∃ k,x = .bl k∧Q k H'
theorem pt_cmpR {op : CmpOp} {r : R2} (ho : OpR X (compareOp op) r) (ha : PE X a ta) (hb : PE X b tb) (hm : behindInMarks op b = false) : PT X (.Compare a [op] [b] pos) (tTest (tOp r ta tb)):=by
 intro pins s σ H Q I h
 refine wpAny_isTrue_Compare1 (thn (ha pins s σ H _ I h) fun v s1 ⟨x,H1,I1,r1,q1⟩ => thn (hb pins s1 σ H1 _ I1 q1) fun u s2 ⟨y,H2,I2,r2,q2⟩ =>
   thn (ho pins s2 σ H2 x y v u _ I2 r1 r2 q2) fun c s3 ⟨z,H3,I3,r3,k,e,q3⟩ => ?_) hm
 subst e
 cases r3
 exact wpAny_truthy_bool ⟨H3,I3,q3⟩
def tChain (r r' : R2) (ta tb tc : TE) : TE:=fun σ H Q => ta σ H fun x H1 => tb σ H1 fun y H2 => r x y H2 fun z H3 => ∃ k,z = .bl k ∧
 (if k = true then tc σ H3 fun w' H4 => r' y w' H4 Q else Q (.bl false) H3)
theorem pe_chain {op op' : CmpOp} {r r' : R2} (ho : OpR X (compareOp op) r) (ho' : OpR X (compareOp op') r') (ha : PE X a ta) (hb : PE X b tb) (hc : PE X c tc)
   (hm : lastMarks [op,op'] [b,c] = false:=by with_unfolding_all rfl) : PE X (.Compare a [op,op'] [b,c] pos) (tChain r r' ta tb tc):=by
 intro pins s σ H Q I h
 refine Compare_chain (thn (ha pins s σ H _ I h) fun v s1 ⟨x,H1,I1,r1,q1⟩ => chain_link (thn (hb pins s1 σ H1 _ I1 q1) fun u s2 ⟨y,H2,I2,r2,q2⟩ =>
   thn (ho pins s2 σ H2 x y v u _ I2 r1 r2 q2) fun d s3 ⟨z,H3,I3,r3,k,e,q3⟩ => ?_)) hm
 subst e
 cases r3
 refine wpAny_truthy_bool ?_
 cases k with
 | false => exact ite_ff ⟨.bl false,H3,I3,rfl,q3⟩
 | true => exact ite_tt (chain_last (thn (hc pins s3 σ H3 _ I3 q3) fun w' s4 ⟨z',H4,I4,r4,q4⟩ => ho' pins s4 σ H4 y z' u w' Q I4 r2 r4 q4))
theorem pt_chain {op op' : CmpOp} {r r' : R2} (ho : OpR X (compareOp op) r) (ho' : OpR X (compareOp op') r') (ha : PE X a ta) (hb : PE X b tb) (hc : PE X c tc)
   (hm : lastMarks [op,op'] [b,c] = false:=by with_unfolding_all rfl) : PT X (.Compare a [op,op'] [b,c] pos) (tTest (tChain r r' ta tb tc)):=by
 intro pins s σ H Q I h
 refine isTrue_chain (thn (ha pins s σ H _ I h) fun v s1 ⟨x,H1,I1,r1,q1⟩ => test_link (thn (hb pins s1 σ H1 _ I1 q1) fun u s2 ⟨y,H2,I2,r2,q2⟩ =>
   thn (ho pins s2 σ H2 x y v u _ I2 r1 r2 q2) fun d s3 ⟨z,H3,I3,r3,k,e,q3⟩ => ?_)) hm
 subst e
 cases r3
 refine wpAny_truthy_bool ?_
 cases k with
 | false =>
   obtain ⟨k',e',q'⟩:=q3
   cases e'
   exact ite_ff ⟨H3,I3,q'⟩
 | true =>
   refine ite_tt (test_last (thn (hc pins s3 σ H3 _ I3 q3) fun w' s4 ⟨z',H4,I4,r4,q4⟩ => thn (ho' pins s4 σ H4 y z' u w' _ I4 r2 r4 q4) fun d' s5 ⟨z2,H5,I5,r5,k2,e2,q5⟩ => ?_))
   subst e2
   cases r5
   exact wpAny_truthy_bool ⟨H5,I5,q5⟩
theorem line63 : (sizeLine : Nat) < 2 ^ 63:=by rw [sizeLine_eq]; decide
theorem vals1 {x : V} {us : List Value} (r : Vals [x] us) : ∃ u,us = [u]∧RelV x u:=by
 cases r with
 | cons r1 r2 => cases r2; exact ⟨_,rfl,r1⟩
theorem vals2 {x y : V} {us : List Value} (r : Vals [x,y] us) : ∃ u w',us = [u,w']∧RelV x u∧RelV y w':=by
 cases r with
 | cons r1 r2 =>
   cases r2 with
   | cons r3 r4 => cases r4; exact ⟨_,_,rfl,r1,r3⟩
theorem call_abs : CallR X (.builtin "abs") (fun xs H Q => ∃ i,xs = [.int i]∧Q (.int (if i < 0 then -i else i)) H):=by
 intro pins s σ H xs us Q I r h
 obtain ⟨i,rfl,q⟩:=h
 obtain ⟨u,rfl,t,rfl⟩:=vals1 r
 exact call_abs_int fun u tk => ⟨.int (if i < 0 then -i else i),H,I.tok _,⟨_,rfl⟩,q⟩
end
end L2
namespace L2
open PySem PySem.Spec PyProof.Rows
structure ObjM (h : Heap) (x dx C : Addr) (mA : Str→Option Value) : Prop where
 obj : h.get? x = some (PySem.W.instObj C dx)
 ns : h.Ns1 dx mA
 ne : dx ≠ x
theorem lookIn_ns {h : Heap} {dx : Addr} {mA : Str→Option Value} (n : h.Ns1 dx mA) : ∃ od,h.get? dx = some od∧∀ name,PySem.W.lookIn name od = some (mA name):=by
 obtain ⟨o,es,ep,ho,hd,hk,_,hm⟩:=n
 refine ⟨o,ho,fun name => ?_⟩
 have e:=hm name
 unfold nsFind findBy at e
 rw [← Array.find?_toList] at e
 unfold PySem.W.lookIn
 rw [hd]
 dsimp only
 split
 · rename_i y q
   rw [q] at e
   exact congrArg some e
 · rename_i q
   rw [q] at e
   have a : es.toList.any (·.refKey) = false:=by
     rw [List.any_eq_false]
     intro y hy
     obtain ⟨z,t,hkey⟩:=hk y (Array.mem_toList_iff.mp hy)
     simp [DictEntry.refKey,hkey]
   have a' : ¬ es.toList.any (·.refKey) = true:=by rw [a]; exact Bool.false_ne_true
   rw [if_neg a']
   exact congrArg some e
theorem ObjM.look {h : Heap} {x dx C : Addr} {mA : Str→Option Value} (I : ObjM h x dx C mA) : ∃ od,PySem.W.InstAt h x (PySem.W.instObj C dx) C (some od)∧∀ name,PySem.W.lookIn name od = some (mA name) :=
 let ⟨od,ho,hl⟩:=lookIn_ns I.ns
 ⟨od,⟨I.obj,rfl,rfl,ho⟩,hl⟩
section
variable {prog : Program} {w : World} {A : Around} {E : Value→Shared→Prop} {s : Shared} {K : PySem.W.Frag} {x dx C f : Addr} {mA : Str→Option Value} {name : Str} {v : Value}
theorem get_map {expr : Bool} {Q : Value→Shared→Prop} (X : K.In s.heap) (I : ObjM s.heap x dx C mA) (hg : PySem.W.plainGet K C name = true) (hh : PySem.W.hasDictIn K C = true)
   (ha : PySem.W.findIn K (.ref C) name = some none) (hv : mA name = some v) (hv' : PySem.W.handedIn v = true) (h : Q v { s with toks:=s.toks + 1 }) :
   wpAny (model prog w) A (getAttr (.ref x) name expr) Q E s:=by
 obtain ⟨od,J,hl⟩:=I.look
 exact PySem.W.get_value X J (PySem.W.plainGet_of hg).1 (PySem.W.findObj_own hh ha rfl (by rw [hl,hv])) hv' h
theorem get_meth {pl : Sem Bool} {Q : Value × List Value→Shared→Prop} (X : K.In s.heap) (I : ObjM s.heap x dx C mA) (hg : PySem.W.plainGet K C name = true)
   (hf : PySem.W.findIn K (.ref C) name = some (some (.ref f))) (ht : PySem.W.isFn K (.ref f) = true) (hv : mA name = none) (h : Q (.ref f,[.ref x]) s) :
   wpAny (model prog w) A (getMethod (.ref x) name pl) Q E s:=by
 obtain ⟨od,J,hl⟩:=I.look
 exact PySem.W.method_fn X J (PySem.W.plainGet_of hg).1 (PySem.W.plainGet_of hg).2 hf (beq_iff_eq.mp ht) (by show (PySem.W.lookIn name od).map (·.isSome) = some false; rw [hl,hv]; rfl) h
theorem set_map {ns : List Str} {Q : Unit→Shared→Prop} (X : K.In s.heap) (I : ObjM s.heap x dx C mA)
   (hs : PySem.W.findIn K (.ref C) "__setattr__" = some (some (.builtin "object.__setattr__"))) (hp : PySem.W.plainOver K C = true) (ht : PySem.W.takerIn K C name = some none) (hh : PySem.W.hasDictIn K C = true)
   (hw : PySem.Within mA ns) (hsz : ns.length ≤ sizeLine)
   (h : ∀ h',ObjM h' x dx C (fun y => if y = name then some v else mA y)→Heap.SameBut dx s.heap h'→Q () { s with heap:=h',toks:=s.toks + 2 }) :
   wpAny (model prog w) A (setAttr (.ref x) name v) Q E s:=by
 obtain ⟨od,J,hl⟩:=I.look
 refine PySem.W.set_plain X J hs (PySem.W.osa_open (s:={ s with toks:=s.toks + 1 }) (r:=none) X J hp ht fun b => ?_)
 obtain ⟨cd,hc,hd'⟩:=PySem.W.any_some hh
 have hx : s.heap.get? x = some ⟨.ref C,some dx,.plain,#[]⟩:=I.obj
 refine wpAny_bind (wpAny_pure (wpAny_bind (wpAny_bind (wpAny_loadPart hx (wpAny_bind (PySem.W.Looks.here (s:={ s with toks:=s.toks + 1 }) (PySem.W.looks_clsIn X hc) ?_))))))
 rw [hd']
 refine wpAny_pure (a:=some dx) (wpAny_bind (wpAny_pure (wpAny_bind ?_)))
 refine wpAny_nsSet1 (s:={ s with toks:=s.toks + 1 }) I.ns fun h' hn2 hs2 => ?_
 obtain ⟨oD,esD,epD,hoD,hdD,hcD⟩:=hn2.count (PySem.Within.cons name v hw)
 refine wpAny_bind (wpAny_lookBehind hoD (by rw [hdD]; exact pastItsLine_dict (Nat.le_trans hcD (by rw [List.length_cons]; omega))) ?_)
 exact wpAny_pure (h _ ⟨(hs2.2 _ (Ne.symm I.ne)).trans I.obj,hn2,I.ne⟩ hs2)
theorem make_map {R : Result→Shared→Prop} {vs : List Value} {kw : List (Str × Value)} (X : K.In s.heap) (hm : PySem.W.makesIn K C = true)
   (hi : PySem.W.findIn K (.ref C) "__init__" = some (some (.ref f))) (hf : PySem.W.typeIn K (.ref f) = some (.type "function"))
   (h : codeAny (model prog w) (A.under (.builtin "type.__call__" ⟨.ref C :: vs,kw⟩)) (.call (.ref f) ⟨.ref (s.heap.objs.size + 1) :: vs,kw⟩) (PySem.W.InitBack (s.heap.objs.size + 1) R)
     { s with heap:=(s.heap.push PySem.W.emptyDict).push (PySem.W.instObj C s.heap.objs.size) }) :
   codeAny (model prog w) A (.call (.ref C) ⟨vs,kw⟩) R s:=by
 obtain ⟨hh,g,d,t,os⟩:=s
 exact PySem.W.make_core (PySem.W.makes_of X hm) (PySem.W.looks_findIn X hi) (fun self => PySem.W.bind_fn X self hf) (.inl rfl) h
end
def putF (f : Str) (v : V) : List (Str × V)→List (Str × V)
 | [] => [(f,v)]
 | (g,x) :: r => if g = f then (g,v) :: r else (g,x) :: putF f v r
theorem lookup_putF (f g : Str) (v : V) : ∀ fs : List (Str × V),(putF f v fs).lookup g = if g = f then some v else fs.lookup g
 | [] => by
   show List.lookup g [(f,v)] = _
   by_cases h : g = f
   · have hb : (g == f) = true:=beq_iff_eq.mpr h
     simp only [List.lookup,hb,if_pos h]
   · have hb : (g == f) = false:=beq_eq_false_iff_ne.mpr h
     simp only [List.lookup,hb,if_neg h]
 | (k,x) :: r => by
   have ih:=lookup_putF f g v r
   rw [show putF f v ((k,x) :: r) = (if k = f then (k,v) :: r else (k,x) :: putF f v r) from rfl]
   by_cases hk : k = f
   · rw [if_pos hk]
     by_cases h : g = k
     · have hb : (g == k) = true:=beq_iff_eq.mpr h
       simp only [List.lookup,hb,if_pos (h.trans hk)]
     · have hb : (g == k) = false:=beq_eq_false_iff_ne.mpr h
       simp only [List.lookup,hb,if_neg (fun e : g = f => h (e.trans hk.symm))]
   · rw [if_neg hk]
     by_cases h : g = k
     · have hb : (g == k) = true:=beq_iff_eq.mpr h
       simp only [List.lookup,hb,if_neg (fun e : g = f => hk (h.symm.trans e))]
     · have hb : (g == k) = false:=beq_eq_false_iff_ne.mpr h
       simp only [List.lookup,hb]
       exact ih
theorem keys_putF (f : Str) (v : V) : ∀ fs : List (Str × V),f ∈ (putF f v fs).map (·.1)∧∀ g,g ∈ fs.map (·.1)→g ∈ (putF f v fs).map (·.1)
 | [] => ⟨by simp [putF],fun g h => by simp at h⟩
 | (k,x) :: r => by
   obtain ⟨i1,i2⟩:=keys_putF f v r
   rw [show putF f v ((k,x) :: r) = (if k = f then (k,v) :: r else (k,x) :: putF f v r) from rfl]
   by_cases hk : k = f
   · rw [if_pos hk]
     subst hk
     exact ⟨by simp,fun g h => by simpa using h⟩
   · rw [if_neg hk]
     refine ⟨?_,fun g h => ?_⟩
     · rw [List.map_cons]
       exact List.mem_cons_of_mem _ i1
     · rw [List.map_cons] at h ⊢
       rcases List.mem_cons.mp h with e | e
       · exact List.mem_cons.mpr (.inl e)
       · exact List.mem_cons_of_mem _ (i2 g e)
theorem length_putF (f : Str) (v : V) : ∀ fs : List (Str × V),(putF f v fs).length ≤ fs.length + 1
 | [] => by simp [putF]
 | (k,x) :: r => by
   have ih:=length_putF f v r
   rw [show putF f v ((k,x) :: r) = (if k = f then (k,v) :: r else (k,x) :: putF f v r) from rfl]
   by_cases hk : k = f
   · rw [if_pos hk,List.length_cons,List.length_cons]; omega
   · rw [if_neg hk,List.length_cons,List.length_cons]; omega
theorem RelO.some_of {v : V} {o : Option Value} (r : RelO (some v) o) : ∃ u,o = some u∧RelV v u:=by
 cases o with
 | none => exact (show False from r).elim
 | some u => exact ⟨u,rfl,r⟩
theorem RelO.none_of {o : Option Value} (r : RelO none o) : o = none:=by
 cases o with
 | none => rfl
 | some u => exact (show False from r).elim
theorem handed_of {v : V} {u : Value} (r : RelV v u) : PySem.W.handedIn u = true:=by
 cases v with
 | non => cases (show u = Value.none from r); rfl
 | bl b => cases (show u = Value.bool b from r); rfl
 | int i => obtain ⟨t,e⟩:=(show ∃ t,u = Value.int i t from r); cases e; rfl
 | str x => obtain ⟨t,e⟩:=(show ∃ t,u = Value.str x t from r); cases e; rfl
 | byt b => obtain ⟨t,e⟩:=(show ∃ t,u = Value.bytes b t from r); cases e; rfl
 | flt b => obtain ⟨t,e⟩:=(show ∃ t,u = Value.float b t from r); cases e; rfl
 | ref a => cases (show u = Value.ref a from r); rfl
 | ty n => cases (show u = Value.type n from r); rfl
section
variable {P : Program} {w : World} {H H' : Hp} {h h' : Heap} {a C dx : Addr} {fs fs' : List (Str × V)}
theorem ins_get (hok : HOk P w H h) (e : H a = some (.ins C dx fs)) : ∃ mA,ObjM h a dx C mA∧(∀ f,RelO (fs.lookup f) (mA f))∧PySem.Within mA (fs.map (·.1))∧fs.length ≤ 1000∧H dx = some (.own a):=by
 obtain ⟨d,z,ne,ob,mA,n,r,q⟩:=(show ObjOk P w H h a (.ins C dx fs) from hok a _ e)
 exact ⟨mA,⟨ob,n,ne⟩,r,q,z,d⟩
end
structure Cls (K : PySem.W.Frag) (C : Addr) : Prop where
 pg : PySem.W.plainGet K C Str.empty = true
 hd : PySem.W.hasDictIn K C = true
 po : PySem.W.plainOver K C = true
 sa : PySem.W.findIn K (.ref C) "__setattr__" = some (some (.builtin "object.__setattr__"))
theorem Cls.get {K : PySem.W.Frag} {C : Addr} (c : Cls K C) (f : Str) : PySem.W.plainGet K C f = true:=c.pg
def NoAttr (K : PySem.W.Frag) (C : Addr) (f : Str) : Prop:=PySem.W.findIn K (.ref C) f = some none
theorem NoAttr.taker {K : PySem.W.Frag} {C : Addr} {f : Str} (n : NoAttr K C f) : PySem.W.takerIn K C f = some none:=by
 unfold PySem.W.takerIn
 rw [show PySem.W.findIn K (.ref C) f = some none from n]
 rfl
structure Meth (K : PySem.W.Frag) (C : Addr) (m : Str) (f : Addr) : Prop where
 at_ : PySem.W.findIn K (.ref C) m = some (some (.ref f))
 fn : PySem.W.isFn K (.ref f) = true
 kp : PySem.W.keepIn K (.ref f) = true
section
variable {X : Cx} {pins : List (Addr × Obj)} {σ : St} {H : Hp} {s : Shared} {a C dx : Addr} {fs : List (Str × V)} {f : Str} {v : V} {A : Around} {E : Value→Shared→Prop}
theorem getattr_ok {b : Bool} {Q : Value→Shared→Prop} (I : Inv X pins σ H s) (e : H a = some (.ins C dx fs)) (c : Cls X.K C) (n : NoAttr X.K C f) (l : fs.lookup f = some v)
   (h : ∀ u s',Inv X pins σ H s'→RelV v u→Q u s') : wpAny (model X.prog X.w) A (getAttr (.ref a) f b) Q E s:=by
 obtain ⟨mA,O,r,_,_,_⟩:=ins_get I.hok e
 obtain ⟨u,hu,ru⟩:=RelO.some_of (v:=v) (o:=mA f) (by rw [← l]; exact r f)
 exact get_map I.kIn O (c.get f) c.hd n hu (handed_of ru) (h u _ (I.tok _) ru)
theorem getmeth_ok {m : Str} {g : Addr} {pl : Sem Bool} {Q : Value × List Value→Shared→Prop} (I : Inv X pins σ H s) (e : H a = some (.ins C dx fs)) (c : Cls X.K C) (k : Meth X.K C m g) (l : fs.lookup m = none)
   (h : Q (.ref g,[.ref a]) s) : wpAny (model X.prog X.w) A (getMethod (.ref a) m pl) Q E s:=by
 obtain ⟨mA,O,r,_,_,_⟩:=ins_get I.hok e
 have hn : mA m = none:=RelO.none_of (by rw [← l]; exact r m)
 exact get_meth I.kIn O (c.get m) k.at_ k.fn hn h
theorem setattr_ok {y : V} {u : Value} {Q : Unit→Shared→Prop} (I : Inv X pins σ H s) (e : H a = some (.ins C dx fs)) (c : Cls X.K C) (n : NoAttr X.K C f) (hl : fs.length < 1000) (ry : RelV y u)
   (h : ∀ s',Inv X pins σ (upd H a (.ins C dx (putF f y fs))) s'→Q () s') : wpAny (model X.prog X.w) A (setAttr (.ref a) f u) Q E s:=by
 obtain ⟨mA,O,r,wi,_,ho⟩:=ins_get I.hok e
 have hz : (fs.map (·.1)).length ≤ sizeLine:=by rw [List.length_map,sizeLine_eq]; omega
 refine set_map I.kIn O c.sa c.po n.taker c.hd wi hz fun h' O' sb => h _ ?_
 have hd : ∃ o,h'.get? dx = some o:=let ⟨o,_,_,e',_⟩:=O'.ns; ⟨o,e'⟩
 refine I.write (x:=a) (e:=dx) (by rw [e]; exact True.intro) (.inr ho) (fun b q hb z => (sb.2 b hb).trans z) hd ?_
 refine ⟨by rw [upd_ne O.ne]; exact ho,?_,O.ne,O'.obj,_,O'.ns,fun g => ?_,fun g hg => ?_⟩
 · have:=length_putF f y fs; omega
 · show RelO ((putF f y fs).lookup g) (if g = f then some u else mA g)
   rw [lookup_putF]
   by_cases q : g = f
   · rw [if_pos q,if_pos q]; exact ry
   · rw [if_neg q,if_neg q]; exact r g
 · by_cases q : g = f
   · rw [q]; exact (keys_putF f y fs).1
   · refine (keys_putF f y fs).2 g (wi g fun z => hg ?_)
     show (if g = f then some u else mA g) = none
     rw [if_neg q]; exact z
theorem Inv.made (I : Inv X pins σ H s) : Inv X pins σ (upd (upd H s.heap.objs.size (.own (s.heap.objs.size + 1))) (s.heap.objs.size + 1) (.ins C s.heap.objs.size []))
   { s with heap:=(s.heap.push PySem.W.emptyDict).push (PySem.W.instObj C s.heap.objs.size) }:=by
 have e1 : (s.heap.push PySem.W.emptyDict).get? s.heap.objs.size = some PySem.W.emptyDict:=Heap.get?_push_size s.heap rfl
 have e2 : ((s.heap.push PySem.W.emptyDict).push (PySem.W.instObj C s.heap.objs.size)).get? (s.heap.objs.size + 1) = some (PySem.W.instObj C s.heap.objs.size):=by
   have:=Heap.get?_push_size (s.heap.push PySem.W.emptyDict) (o:=PySem.W.instObj C s.heap.objs.size) rfl
   rwa [Heap.size_push] at this
 have e3 : (s.heap.push PySem.W.emptyDict).Ns s.heap.objs.size (fun _ => none):=⟨PySem.W.emptyDict,#[],_,e1,rfl,(fun e he => absurd he (by simp)),fun _ => rfl⟩
 have I1:=I.laid (a:=s.heap.objs.size) (o:=.own (s.heap.objs.size + 1)) (h':=s.heap.push PySem.W.emptyDict) (t':=s.toks) (fun b u q => Heap.get?_push_of_some _ q) (Nat.le_refl _) ⟨_,e1⟩
 refine I1.laid (a:=s.heap.objs.size + 1) (o:=.ins C s.heap.objs.size []) (t':=s.toks) (fun b u q => Heap.get?_push_of_some _ q) (Nat.le_of_eq (Heap.size_push _ _)) ?_
 have ne : s.heap.objs.size ≠ s.heap.objs.size + 1:=Nat.ne_of_lt (Nat.lt_succ_self _)
 refine ⟨by rw [upd_ne ne,upd_same],Nat.zero_le _,ne,e2,fun _ => none,(Heap.Ns1.of_empty e3).at fun o q => Heap.get?_push_of_some _ q,fun _ => True.intro,fun y hy => absurd rfl hy⟩
theorem attr_of {prog : Program} {w : World} {env : Env} {e : Expr} {f : Str} {pos : Pos} {s : Shared} {Q : Value→Shared→Prop} (hb : attributeBase e f env (eval e env) = eval e env)
   (h : wpAny (model prog w) A (eval e env) (fun o s₁ => wpAny (model prog w) A (getAttr o f true) Q E s₁) E s) : wpAny (model prog w) A (eval (.Attribute e f pos) env) Q E s :=
 Attribute_any_ h (by rw [arm_eval_Attribute,hb])
end
def tFld (K : PySem.W.Frag) (ta : TE) (f : Str) : TE:=fun σ H Q => ta σ H fun x H1 => ∃ a C dx fs v,x = .ref a∧H1 a = some (.ins C dx fs)∧Cls K C∧NoAttr K C f∧fs.lookup f = some v∧Q v H1
def sFld (K : PySem.W.Frag) (ta tv : TE) (f : Str) : TS:=fun D σ H => tv σ H fun y H1 => ta σ H1 fun x H2 => ∃ a C dx fs,x = .ref a∧H2 a = some (.ins C dx fs)∧Cls K C∧NoAttr K C f∧fs.length < 1000 ∧
 D.nx σ (upd H2 a (.ins C dx (putF f y fs)))
section
variable {X : Cx} {o e value : Expr} {f : Str} {pos pos' tpos : Pos} {ta tv : TE}
theorem pe_fld (he : PE X e ta) (hb : attributeBase e f X.env (eval e X.env) = eval e X.env) : PE X (.Attribute e f pos) (tFld X.K ta f):=by
 intro pins s σ H Q I h
 refine attr_of hb (thn (he pins s σ H _ I h) fun u s1 ⟨x,H1,I1,rx,a,C,dx,fs,v,ex,ea,c,n,l,q⟩ => ?_)
 subst ex
 obtain rfl : u = Value.ref a:=rx
 exact getattr_ok I1 ea c n l fun u' s2 I2 ru => ⟨v,H1,I2,ru,q⟩
theorem ps_fld (ha : PE X o ta) (hv : PE X value tv) (hs : swapsWith value (some (.Attribute o f pos')) pos.line X.env = pure false) : PS X (.Assign [.Attribute o f pos'] value pos) (sFld X.K ta tv f):=by
 intro pins s σ H D I h
 refine plainObj_wpAny_Assign_Attribute (thn (hv pins s σ H _ I h) fun u s1 ⟨y,H1,I1,ry,q⟩ => thn (ha pins s1 σ H1 _ I1 q) fun ov s2 ⟨x,H2,I2,rx,a,C,dx,fs,ex,ea,c,n,l,q2⟩ => ?_) hs
 subst ex
 obtain rfl : ov = Value.ref a:=rx
 exact setattr_ok I2 ea c n l ry fun s3 I3 => ⟨σ,_,I3,q2⟩
end
section
variable {X : Cx} {pins : List (Addr × Obj)} {σ : St} {H : Hp} {s : Shared} {A : Around} {E : Value→Shared→Prop} {Q : Value→Shared→Prop} {c : Value} {b : Bool}
inductive TyOf (K : PySem.W.Frag) (H : Hp) : V→Value→Prop where
 | non : TyOf K H .non (.type "NoneType")
 | bl (x : Bool) : TyOf K H (.bl x) (.type "bool")
 | int (i : Int) : TyOf K H (.int i) (.type "int")
 | str (x : Str) : TyOf K H (.str x) (.type "str")
 | flt (x : UInt64) : TyOf K H (.flt x) (.type "float")
 | lst {a : Addr} {xs : List V} (e : H a = some (.lst xs)) : TyOf K H (.ref a) (.type "list")
 | frz {a : Addr} {o : Obj} {xs : List V} (e : H a = some (.frz o (.lst xs))) : TyOf K H (.ref a) (.type "list")
 | tup {a : Addr} {xs : List V} (e : H a = some (.tup xs)) : TyOf K H (.ref a) (.type "tuple")
 | dK {a : Addr} {kvs : List (Key × V)} (e : H a = some (.dK kvs)) : TyOf K H (.ref a) (.type "dict")
 | dT {a : Addr} {kvs : List (List Key × V)} (e : H a = some (.dT kvs)) : TyOf K H (.ref a) (.type "dict")
 | ins {a C dx : Addr} {fs : List (Str × V)} (e : H a = some (.ins C dx fs)) (cl : Cls K C) (ha : PySem.W.findIn K (.ref C) "__class__" = some (some (.builtin "object.__class__")))
     (hn : PySem.W.specialIn K (.builtin "object.__class__") "__get__" = some (some (.builtin "getset_descriptor.__get__"))) (htk : PySem.W.takesIn K (.builtin "object.__class__") = some true)
     (hm : PySem.W.mroIn K C (.type "object") = some true) : TyOf K H (.ref a) (.ref C)
theorem isinst_ok {x : V} {u t : Value} (I : Inv X pins σ H s) (rx : RelV x u) (ty : TyOf X.K H x t) (e : PySem.W.kitOne X.K t c = some b) (h : ∀ tk,Q (.bool b) { s with toks:=tk }) :
   wpAny (model X.prog X.w) A (call (.builtin "isinstance") [u,c]) Q E s:=by
 cases ty with
 | non => cases (show u = Value.none from rx); exact PySem.W.kia_one PySem.W.kitx_none I.kIn True.intro e (fun z => nomatch z) h
 | bl y => cases (show u = Value.bool y from rx); exact PySem.W.kia_one PySem.W.kitx_bool I.kIn True.intro e (fun z => nomatch z) h
 | int i => obtain ⟨t,q⟩:=(show ∃ t,u = Value.int i t from rx); cases q; exact PySem.W.kia_one PySem.W.kitx_int I.kIn True.intro e (fun z => nomatch z) h
 | str y => obtain ⟨t,q⟩:=(show ∃ t,u = Value.str y t from rx); cases q; exact PySem.W.kia_one PySem.W.kitx_str I.kIn True.intro e (fun z => nomatch z) h
 | flt y => obtain ⟨t,q⟩:=(show ∃ t,u = Value.float y t from rx); cases q; exact PySem.W.kia_one PySem.W.kitx_float I.kIn True.intro e (fun z => nomatch z) h
 | @lst a xs ea =>
   cases (show u = Value.ref a from rx)
   obtain ⟨_,_,n,_,h1⟩:=(show ObjOk X.prog X.w H s.heap a (.lst xs) from I.hok a _ ea)
   exact PySem.W.kia_one PySem.W.kitx_list I.kIn ⟨_,h1,rfl⟩ e (fun z => nomatch z) h
 | @frz a ob xs ea =>
   cases (show u = Value.ref a from rx)
   obtain ⟨_,_,_,n,_,h1⟩:=(show ObjOk X.prog X.w H s.heap a (.frz ob (.lst xs)) from I.hok a _ ea)
   exact PySem.W.kia_one PySem.W.kitx_list I.kIn ⟨_,h1,rfl⟩ e (fun z => nomatch z) h
 | @tup a xs ea =>
   cases (show u = Value.ref a from rx)
   obtain ⟨_,_,_,p⟩:=(show ObjOk X.prog X.w H s.heap a (.tup xs) from I.hok a _ ea)
   obtain ⟨o,h1,h2,_⟩:=p
   exact PySem.W.kia_one PySem.W.kitx_tuple I.kIn ⟨o,h1,h2⟩ e (fun z => nomatch z) h
 | @dK a kvs ea =>
   cases (show u = Value.ref a from rx)
   obtain ⟨_,_,vs,_,p⟩:=(show ObjOk X.prog X.w H s.heap a (.dK kvs) from I.hok a _ ea)
   obtain ⟨o,es,ep,h1,h2,_⟩:=p
   exact PySem.W.kia_one PySem.W.kitx_dict I.kIn ⟨o,h1,h2.1⟩ e (fun z => nomatch z) h
 | @dT a kvs ea =>
   cases (show u = Value.ref a from rx)
   obtain ⟨_,_,xs,_,o,es,ep,h1,h2,_⟩:=(show ObjOk X.prog X.w H s.heap a (.dT kvs) from I.hok a _ ea)
   exact PySem.W.kia_one PySem.W.kitx_dict I.kIn ⟨o,h1,h2.1⟩ e (fun z => nomatch z) h
 | @ins a C dx fs ea cl ha hn htk hm =>
   cases (show u = Value.ref a from rx)
   obtain ⟨mA,O,_⟩:=ins_get I.hok ea
   obtain ⟨od,J,_⟩:=O.look
   exact PySem.W.kia_one (PySem.W.kitx_own (cl.get _) cl.hd ha hn htk hm) I.kIn J e (fun z => nomatch z) h
end
end L2
namespace L2
open PySem PySem.Spec PyProof.Rows
structure Room (k : Nat) (A : Around) : Prop where
 hd : A.handled = none
 dp : A.depth + 3 * k + 5 < recursionLimit
 un : A.units + 16 * k + 200 < cLine
theorem Room.mono {j k : Nat} {A : Around} (r : Room k A) (h : j ≤ k) : Room j A:=⟨r.hd,by have:=r.dp; omega,by have:=r.un; omega⟩
theorem Room.deeper {k : Nat} {A : Around} (r : Room (k + 1) A) (env : Env) : Room k (A.deeper env) :=
 ⟨r.hd,by have:=r.dp; show A.depth + 1 + 3 * k + 5 < _; omega,by have:=r.un; show A.units + 3 + 16 * k + 200 < _; omega⟩
theorem make_depth {A : Around} {C : Addr} {us : List Value} {kw : List (Str × Value)} : (A.under (.builtin "type.__call__" ⟨.ref C :: us,kw⟩)).depth = A.depth + 1:=by
 first | rfl | simp [Around.under,Code.weight,Code.isCreation,Code.isGuard,Code.isCaller,Code.frames,Code.isFrame,guardIds]
theorem make_units {A : Around} {C : Addr} {us : List Value} {kw : List (Str × Value)} : (A.under (.builtin "type.__call__" ⟨.ref C :: us,kw⟩)).units = A.units + 1:=by
 first | rfl | simp [Around.under,Code.cUnits,Code.frames,Code.isFrame]
theorem Room.make {k : Nat} {A : Around} (r : Room (k + 1) A) (C : Addr) (us : List Value) (kw : List (Str × Value)) : Room k (A.under (.builtin "type.__call__" ⟨.ref C :: us,kw⟩)) :=
 ⟨r.hd,by have:=r.dp; rw [make_depth]; omega,by have:=r.un; rw [make_units]; omega⟩
theorem Room.depth {k : Nat} {A : Around} (r : Room k A) : A.depth < recursionLimit:=by have:=r.dp; omega
theorem Room.units {k : Nat} {A : Around} (r : Room k A) : A.units + 64 < cLine:=by have:=r.un; omega
def tNil : TA:=fun _ H Q => Q [] H
def tCons (ta : TE) (tr : TA) : TA:=fun σ H Q => ta σ H fun x H1 => tr σ H1 fun xs H2 => Q (x :: xs) H2
section
variable {X : Cx} {e : Expr} {es : List Expr} {te : TE} {t : TA} {pos : Pos}
theorem pa_nil : PA X [] tNil:=fun _ _ _ _ H Q I h => Calls.spliced_nil ⟨[],H,I,.nil,h⟩
theorem pa_cons (ha : PE X e te) (hr : PA X es t) (hs : starEach (e :: es) X.env = (false,eval e X.env) :: starEach es X.env:=by rfl) : PA X (e :: es) (tCons te t):=by
 intro pos pins s σ H Q I h
 rw [hs]
 show wpAny _ _ (spliced ((false,eval e X.env) :: backTo pos (starEach es X.env))) _ _ s
 refine Calls.spliced_cons (thn (ha pins s σ H _ I h) fun u s1 ⟨x,H1,I1,r1,q1⟩ => ?_)
 exact thn (hr pos pins s1 σ H1 _ I1 q1) fun us s2 ⟨xs,H2,I2,r2,q2⟩ => ⟨x :: xs,H2,I2,.cons r1 r2,q2⟩
def tTup (t : TA) : TE:=fun σ H Q => t σ H fun xs H1 => xs.length ≤ sizeLine∧∀ p,H1 p = none→Q (.ref p) (upd H1 p (.tup xs))
def tLst (t : TA) : TE:=fun σ H Q => t σ H fun xs H1 => xs.length ≤ sizeLine∧∀ p,H1 p = none→Q (.ref p) (upd H1 p (.lst xs))
theorem pe_tup {x1} (h : PA X es t) : PE X (.Tuple es x1 pos) (tTup t):=by
 intro pins s σ H Q I hq
 refine wpAny_Tuple_spliced (thn (h pos pins s σ H _ I hq) fun us s1 ⟨xs,H1,I1,r,z,q⟩ => ⟨by rw [← r.length]; exact z,?_⟩)
 have hf : H1 s1.heap.objs.size = none:=I1.hok.fresh (Nat.le_refl _)
 refine ⟨.ref s1.heap.objs.size,upd H1 s1.heap.objs.size (.tup xs),I1.laid (t':=s1.toks) (fun b u e => Heap.get?_push_of_some _ e) (Nat.le_refl _) ?_,rfl,q _ hf⟩
 exact ⟨z,us,r,⟨_,Heap.get?_push_size _ rfl,rfl,_,rfl⟩⟩
theorem pe_lst (h : PA X es t) : PE X (.List es pos) (tLst t):=by
 intro pins s σ H Q I hq
 refine wpAny_List_spliced (thn (h pos pins s σ H _ I hq) fun us s1 ⟨xs,H1,I1,r,z,q⟩ => ⟨by rw [← r.length]; exact z,?_⟩)
 have hf : H1 s1.heap.objs.size = none:=I1.hok.fresh (Nat.le_refl _)
 refine ⟨.ref s1.heap.objs.size,upd H1 s1.heap.objs.size (.lst xs),I1.laid (t':=s1.toks) (fun b u e => Heap.get?_push_of_some _ e) (Nat.le_refl _) ?_,rfl,q _ hf⟩
 exact ⟨z,us,0,r,Heap.get?_push_size _ rfl⟩
end
abbrev Sp:=List V→Hp→VK→XK→Prop
abbrev CXT:=List Env→Hp→Shared→XK→Value→Shared→Prop
structure Env0 (P : Program) (w : World) (K : PySem.W.Frag) (mg : Str→Option Value) (base : Heap) (A : Around) (outer : List Env) (s : Shared) (H : Hp) : Prop where
 frames : A.frames = some outer
 mod : Mod K mg base
 bs : ∀ b o,base.get? b = some o→s.heap.get? b = some o∧H b = none
 bsz : base.objs.size ≤ s.heap.objs.size
 funs : s.heap.FunFrames base outer
 frf : ∀ b ∈ frs outer,H b = none
 hok : HOk P w H s.heap
 bare : AllBare s.gens
def CE (outer : List Env) (P : Program) (w : World) (H : Hp) (s : Shared) (Q : VK) (u : Value) (s' : Shared) : Prop :=
 ∃ v H',s'.os = s.os∧AllBare s'.gens∧Un (frs outer) [] H H' s.heap s'.heap∧HOk P w H' s'.heap∧RelV v u∧Q v H'
def CR (CX : CXT) (outer : List Env) (P : Program) (w : World) (H : Hp) (s : Shared) (Q : VK) (E : XK) (r : Result) (s' : Shared) : Prop :=
 match r with
 | .ok (.ret u) => CE outer P w H s Q u s'
 | .ok _ => False
 | .error e => CX outer H s E e s'
structure FnOk (P : Program) (w : World) (K : PySem.W.Frag) (mg : Str→Option Value) (base : Heap) (CX : CXT) (k : Nat) (f : Addr) (fd : FuncData) (ps : List Str) (sp : Sp) : Prop where
 len : ∀ vs H Q E,sp vs H Q E→vs.length = ps.length
 run : ∀ (A : Around) (outer : List Env) (s : Shared) (H : Hp) (args : Args) (us : List Value) (vs : List V) (Q : VK) (E : XK),Room k A→Env0 P w K mg base A outer s H→BindsTo s fd args (ps.zip us)→Vals vs us→sp vs H Q E →
   codeAny (model P w) A (.call (.ref f) args) (CR CX outer P w H s Q E) s
theorem FnOk.imp {P : Program} {w : World} {K : PySem.W.Frag} {mg : Str→Option Value} {base : Heap} {CX : CXT} {k : Nat} {f : Addr} {fd : FuncData} {ps : List Str} {sp sp' : Sp} (F : FnOk P w K mg base CX k f fd ps sp)
   (h : ∀ vs H Q E,sp' vs H Q E→sp vs H Q E) : FnOk P w K mg base CX k f fd ps sp' :=
 ⟨fun vs H Q E q => F.len vs H Q E (h _ _ _ _ q),fun A outer s H args us vs Q E hr he hb hv hs => F.run A outer s H args us vs Q E hr he hb hv (h _ _ _ _ hs)⟩
theorem Env0.make {P : Program} {w : World} {K : PySem.W.Frag} {mg : Str→Option Value} {base : Heap} {A : Around} {outer : List Env} {s : Shared} {H : Hp} (e : Env0 P w K mg base A outer s H) (C : Addr) (us : List Value) (kw : List (Str × Value)) :
   Env0 P w K mg base (A.under (.builtin "type.__call__" ⟨.ref C :: us,kw⟩)) outer s H:=⟨by first | exact e.frames | (simpa [Around.under,Code.envs,Code.isFrame,pushEnvs] using e.frames),e.mod,e.bs,e.bsz,e.funs,e.frf,e.hok,e.bare⟩
section
variable {X : Cx} {pins : List (Addr × Obj)} {σ : St} {H : Hp} {s s' : Shared}
theorem Inv.env0 (I : Inv X pins σ H s) : Env0 X.prog X.w X.K X.mg X.base X.A X.stack s H :=
 ⟨I.ok.frames,I.ok.mod,I.bs,Nat.le_trans I.ok.bsz I.sz,I.stack,I.stkFree,I.hok,I.bare⟩
theorem Inv.after {Q : VK} {u : Value} (I : Inv X pins σ H s) (h : CE X.stack X.prog X.w H s Q u s') : EP X pins σ Q u s':=by
 obtain ⟨v,H',os,bare,un,hok,r,q⟩:=h
 obtain ⟨hh,g,d,t,os'⟩:=s'
 obtain rfl : os' = s.os:=os
 exact ⟨v,H',I.call (h':=hh) (g':=g) (d':=d) (t':=t) (ch:=[]) un hok bare (fun b z => absurd z (by simp)),r,q⟩
end
def tCall (sp : Sp) (dvs : List V) (E : XK) (t : TA) : TE:=fun σ H Q => t σ H fun vs H1 => sp (vs ++ dvs) H1 Q E
def tMeth (C : Addr) (m : Str) (sp : Sp) (dvs : List V) (E : XK) (ta : TE) (t : TA) : TE:=fun σ H Q => ta σ H fun x H1 => ∃ a dx fs,x = .ref a∧H1 a = some (.ins C dx fs)∧fs.lookup m = none ∧
 t σ H1 fun vs H2 => sp (x :: (vs ++ dvs)) H2 Q E
def tMake (C : Addr) (sp : Sp) (dvs : List V) (E : XK) (t : TA) : TE:=fun σ H Q => t σ H fun vs H1 => ∀ x dx,H1 x = none→H1 dx = none→dx ≠ x →
 sp (.ref x :: (vs ++ dvs)) (upd (upd H1 dx (.own x)) x (.ins C dx [])) (fun v H2 => v = .non∧Q (.ref x) H2) E
def Binds (K : PySem.W.Frag) (fd : FuncData) (ps : List Str) (ds : List Value) : Prop :=
 ∀ (s : Shared) (us : List Value),K.In s.heap→(us ++ ds).length = ps.length→BindsTo s fd ⟨us,[]⟩ (ps.zip (us ++ ds))
theorem Binds.all {K : PySem.W.Frag} {fd : FuncData} {ps : List Str} (h : ∀ us : List Value,us.length = ps.length→bindArgs fd ⟨us,[]⟩ = pure (ps.zip us)) : Binds K fd ps []:=fun s us _ hl => by
 rw [List.append_nil] at hl ⊢
 exact .of_eq (h us hl)
def Passes (CX : CXT) (X : Cx) (E : XK) : Prop:=∀ (pins : List (Addr × Obj)) (σ : St) (H : Hp) (s : Shared) (e : Value) (s' : Shared),Inv X pins σ H s→CX X.stack H s E e s'→X.xe e s'
section
variable {X : Cx} {CX : CXT} {k : Nat} {f C : Addr} {fd : FuncData} {ps : List Str} {sp : Sp} {dvs : List V} {ds : List Value} {E : XK} {x m : Str} {p pos apos : Pos} {e o : Expr} {es : List Expr} {ta : TE} {t : TA}
theorem run_fn {pins : List (Addr × Obj)} {σ : St} {H : Hp} {s : Shared} {Q : VK} {us : List Value} {vs : List V} (F : FnOk X.prog X.w X.K X.mg X.base CX k f fd ps sp) (hr : Room k X.A) (hb : Binds X.K fd ps ds) (hd : Vals dvs ds) (hx : Passes CX X E)
   (I : Inv X pins σ H s) (r : Vals vs us) (h : sp (vs ++ dvs) H Q E) : wpAny (model X.prog X.w) X.A (call (.ref f) us) (EP X pins σ Q) X.xe s:=by
 have r2 : Vals (vs ++ dvs) (us ++ ds):=r.append hd
 have hl : (us ++ ds).length = ps.length:=by rw [← r2.length]; exact F.len _ _ _ _ h
 refine wpAny_call (codeAny_mono (F.run X.A X.stack s H ⟨us,[]⟩ (us ++ ds) (vs ++ dvs) Q E hr I.env0 (hb s us I.kIn hl) r2 h) fun r s' hq => ?_)
 cases r with
 | error e => exact hx pins σ H s e s' I hq
 | ok fl =>
   cases fl with
   | ret u => exact I.after hq
   | next => exact False.elim hq
   | brk => exact False.elim hq
   | cont => exact False.elim hq
theorem pe_call (F : FnOk X.prog X.w X.K X.mg X.base CX k f fd ps sp) (hr : Room k X.A) (hg : Gl X x) (hm : X.mg x = some (.ref f)) (hk : PySem.W.keepIn X.K (.ref f) = true) (hb : Binds X.K fd ps ds) (hd : Vals dvs ds) (hx : Passes CX X E)
   (ha : PA X (e :: es) t) (hdb : (x == ("__debug__" : Str)) = false:=by decide) (he : starEach (e :: es) X.env = (false,eval e X.env) :: starEach es X.env:=by rfl) (hpl : (backTo pos (starEach es X.env)).any (·.1) = false:=by rfl) :
   PE X (.Call (.Name x p) (e :: es) [] pos) (tCall sp dvs E t):=by
 intro pins s σ H Q I h
 refine wpAny_Call_Name_kw (ld_glob I hg hm ?_ hdb)
 refine PySem.W.callWith_K (h₀:=X.base) I.ok.mod.kin hk (thn (ha pos pins s σ H _ I h) fun us s1 ⟨vs,H1,I1,r,q⟩ => ⟨I1.kIn,?_⟩) he hpl
 exact run_fn F hr hb hd hx I1 r q
theorem pe_meth {pl : Sem Bool} (he : PE X o ta) (c : Cls X.K C) (hm : Meth X.K C m f) (F : FnOk X.prog X.w X.K X.mg X.base CX k f fd ps sp) (hr : Room k X.A) (hb : Binds X.K fd ps ds) (hd : Vals dvs ds) (hx : Passes CX X E) (ha : PA X (e :: es) t)
   (hst : starEach (e :: es) X.env = (false,eval e X.env) :: starEach es X.env:=by rfl) (hpl : (backTo pos (starEach es X.env)).any (·.1) = false:=by rfl)
   (ht : eval (.Call (.Attribute o m apos) (e :: es) [] pos) X.env = (do
     let ov ← eval o X.env
     standAt apos.atName
     let (f,first) ← holding [ov] (getMethod ov m pl)
     callWith pos f first (backTo pos (starEach (e :: es) X.env)) (backToKw pos (keywordEach [] X.env))):=by rfl) :
   PE X (.Call (.Attribute o m apos) (e :: es) [] pos) (tMeth C m sp dvs E ta t):=by
 intro pins s σ H Q I h
 refine PySem.W.methodCall_KW (pl:=pl) (thn (he pins s σ H _ I h) fun u s1 ⟨x,H1,I1,rx,a,dx,fs,ex,ea,l,q⟩ => ?_) ht
 subst ex
 obtain rfl : u = Value.ref a:=rx
 refine getmeth_ok I1 ea c hm l ?_
 refine PySem.W.callWith_K (first:=[.ref a]) (h₀:=X.base) I.ok.mod.kin hm.kp (thn (ha pos pins s1 σ H1 _ I1 q) fun us s2 ⟨vs,H2,I2,r,q2⟩ => ⟨I2.kIn,?_⟩) hst hpl
 exact run_fn (us:=.ref a :: us) (vs:=.ref a :: vs) F hr hb hd hx I2 (.cons rfl r) q2
theorem pe_meth0 {pl : Sem Bool} (he : PE X o ta) (c : Cls X.K C) (hm : Meth X.K C m f) (F : FnOk X.prog X.w X.K X.mg X.base CX k f fd ps sp) (hr : Room k X.A) (hb : Binds X.K fd ps ds) (hd : Vals dvs ds) (hx : Passes CX X E)
   (ht : eval (.Call (.Attribute o m apos) [] [] pos) X.env = (do
     let ov ← eval o X.env
     standAt apos.atName
     let (f,first) ← holding [ov] (getMethod ov m pl)
     callWith pos f first (backTo pos (starEach [] X.env)) (backToKw pos (keywordEach [] X.env))):=by rfl) :
   PE X (.Call (.Attribute o m apos) [] [] pos) (tMeth C m sp dvs E ta tNil):=by
 intro pins s σ H Q I h
 refine PySem.W.methodCall_KW (pl:=pl) (thn (he pins s σ H _ I h) fun u s1 ⟨x,H1,I1,rx,a,dx,fs,ex,ea,l,q⟩ => ?_) ht
 subst ex
 obtain rfl : u = Value.ref a:=rx
 refine getmeth_ok I1 ea c hm l ?_
 exact PySem.W.callWith_K0 (first:=[.ref a]) I1.kIn hm.kp (run_fn (us:=[.ref a]) (vs:=[.ref a]) F hr hb hd hx I1 (.cons rfl .nil) q)
structure Mk (K : PySem.W.Frag) (C f : Addr) : Prop where
 makes : PySem.W.makesIn K C = true
 init : PySem.W.findIn K (.ref C) "__init__" = some (some (.ref f))
 fn : PySem.W.isFn K (.ref f) = true
 kp : PySem.W.keepIn K (.ref C) = true
theorem run_make {pins : List (Addr × Obj)} {σ : St} {H : Hp} {s : Shared} {Q : VK} {us : List Value} {vs : List V} (M : Mk X.K C f) (F : FnOk X.prog X.w X.K X.mg X.base CX k f fd ps sp) (hr : Room (k + 1) X.A) (hb : Binds X.K fd ps ds) (hd : Vals dvs ds)
   (hx : Passes CX X E) (I : Inv X pins σ H s) (r : Vals vs us)
   (h : ∀ x dx,H x = none→H dx = none→dx ≠ x→sp (.ref x :: (vs ++ dvs)) (upd (upd H dx (.own x)) x (.ins C dx [])) (fun v H2 => v = .non∧Q (.ref x) H2) E) :
   wpAny (model X.prog X.w) X.A (call (.ref C) us) (EP X pins σ Q) X.xe s:=by
 have hq:=h (s.heap.objs.size + 1) s.heap.objs.size (I.hok.fresh (Nat.le_succ _)) (I.hok.fresh (Nat.le_refl _)) (Nat.ne_of_lt (Nat.lt_succ_self _))
 have I2:=Inv.made (C:=C) I
 have r2 : Vals (V.ref (s.heap.objs.size + 1) :: (vs ++ dvs)) (Value.ref (s.heap.objs.size + 1) :: (us ++ ds)):=.cons rfl (r.append hd)
 have hl : (Value.ref (s.heap.objs.size + 1) :: us ++ ds).length = ps.length:=by
   have e:=r2.length
   rw [F.len _ _ _ _ hq] at e
   exact e.symm
 refine wpAny_call (make_map (f:=f) I.kIn M.makes M.init (beq_iff_eq.mp M.fn) (codeAny_mono (F.run _ X.stack _ _ ⟨Value.ref (s.heap.objs.size + 1) :: us,[]⟩ (Value.ref (s.heap.objs.size + 1) :: (us ++ ds)) _ _ E (hr.make C us [])
   (I2.env0.make C us []) (hb _ (Value.ref (s.heap.objs.size + 1) :: us) I2.kIn hl) r2 hq) fun r s' hq' => ?_))
 cases r with
 | error e => exact hx pins σ _ _ e s' I2 hq'
 | ok fl =>
   cases fl with
   | ret u =>
     obtain ⟨v,H',I3,rv,ev,q3⟩:=I2.after hq'
     subst ev
     exact ⟨rv,⟨V.ref (s.heap.objs.size + 1),H',I3,rfl,q3⟩⟩
   | next => exact False.elim hq'
   | brk => exact False.elim hq'
   | cont => exact False.elim hq'
theorem pe_make (M : Mk X.K C f) (F : FnOk X.prog X.w X.K X.mg X.base CX k f fd ps sp) (hr : Room (k + 1) X.A) (hg : Gl X x) (hm : X.mg x = some (.ref C)) (hb : Binds X.K fd ps ds) (hd : Vals dvs ds) (hx : Passes CX X E)
   (ha : PA X (e :: es) t) (hdb : (x == ("__debug__" : Str)) = false:=by decide) (he : starEach (e :: es) X.env = (false,eval e X.env) :: starEach es X.env:=by rfl) (hpl : (backTo pos (starEach es X.env)).any (·.1) = false:=by rfl) :
   PE X (.Call (.Name x p) (e :: es) [] pos) (tMake C sp dvs E t):=by
 intro pins s σ H Q I h
 refine wpAny_Call_Name_kw (ld_glob I hg hm ?_ hdb)
 refine PySem.W.callWith_K (h₀:=X.base) I.ok.mod.kin M.kp (thn (ha pos pins s σ H _ I h) fun us s1 ⟨vs,H1,I1,r,q⟩ => ⟨I1.kIn,?_⟩) he hpl
 exact run_make M F hr hb hd hx I1 r q
end
section
variable {X : Cx} {CX : CXT} {k : Nat} {f C : Addr} {fd : FuncData} {ps ks : List Str} {sp : Sp} {E : XK} {x m : Str} {p pos apos kpos : Pos} {e o : Expr} {es : List Expr} {kws : List Keyword} {te ta : TE} {t tk : TA} {nm : Option Str}
variable {g : List Value→List Value→List Value} {gV : List V→List V→List V}
end
structure FnScope (N P : List Str) (sc : Scope) : Prop where
 kind : sc.kind = .function
 co : sc.isCoroutine = false
 gen : sc.isGenerator = false
 nd : N.Nodup
 pre : N.take P.length = P
 par : ∀ x ∈ P,sc.names.lookup x = some .local ∨ sc.names.lookup x = some .cell
 nofree : ∀ y ∈ sc.names,y.2 ≠ .free
theorem bindL_out {kindOf : Str→Option NameKind} {x : Str} : ∀ {binds : List (Str × Value)} {m : Str→Option Value},(∀ v,(x,v) ∉ binds)→bindL kindOf binds m x = m x
 | [],_,_ => rfl
 | (n,v) :: r,m,h => by
   unfold bindL
   rw [bindL_out fun w hw => h w (List.mem_cons_of_mem _ hw)]
   split
   · have : x ≠ n:=by rintro rfl; exact h v List.mem_cons_self
     simp [this]
   · rfl
theorem bindC_out {kindOf : Str→Option NameKind} {x : Str} : ∀ {binds : List (Str × Value)} {m : Str→Option Value},(∀ v,(x,v) ∉ binds)→bindC kindOf binds m x = m x
 | [],_,_ => rfl
 | (n,v) :: r,m,h => by
   unfold bindC
   rw [bindC_out fun w hw => h w (List.mem_cons_of_mem _ hw)]
   split
   · rfl
   · have : x ≠ n:=by rintro rfl; exact h v List.mem_cons_self
     simp [this]
theorem bindL_get {kindOf : Str→Option NameKind} {x : Str} {v : Value} : ∀ {P : List Str} {vs : List Value} {i : Nat} {m : Str→Option Value},P.Nodup→P[i]? = some x→vs[i]? = some v→kindOf x = some .local →
   bindL kindOf (P.zip vs) m x = some v
 | [],_,_,_,_,h,_,_ => by simp at h
 | _ :: _,[],_,_,_,_,h,_ => by simp at h
 | p :: P,w :: vs,0,m,nd,h1,h2,hk => by
   simp at h1 h2; subst h1; subst h2
   show bindL kindOf ((p,w) :: P.zip vs) m p = _
   unfold bindL
   rw [bindL_out fun v hv => (List.nodup_cons.mp nd).1 (List.of_mem_zip hv).1,if_pos hk]
   simp
 | p :: P,w :: vs,i + 1,m,nd,h1,h2,hk => by
   show bindL kindOf ((p,w) :: P.zip vs) m x = _
   unfold bindL
   exact bindL_get (i:=i) (List.nodup_cons.mp nd).2 (by simpa using h1) (by simpa using h2) hk
theorem bindC_get {kindOf : Str→Option NameKind} {x : Str} {v : Value} : ∀ {P : List Str} {vs : List Value} {i : Nat} {m : Str→Option Value},P.Nodup→P[i]? = some x→vs[i]? = some v→kindOf x ≠ some .local →
   bindC kindOf (P.zip vs) m x = some v
 | [],_,_,_,_,h,_,_ => by simp at h
 | _ :: _,[],_,_,_,_,h,_ => by simp at h
 | p :: P,w :: vs,0,m,nd,h1,h2,hk => by
   simp at h1 h2; subst h1; subst h2
   show bindC kindOf ((p,w) :: P.zip vs) m p = _
   unfold bindC
   rw [bindC_out fun v hv => (List.nodup_cons.mp nd).1 (List.of_mem_zip hv).1,if_neg hk]
   simp
 | p :: P,w :: vs,i + 1,m,nd,h1,h2,hk => by
   show bindC kindOf ((p,w) :: P.zip vs) m x = _
   unfold bindC
   exact bindC_get (i:=i) (List.nodup_cons.mp nd).2 (by simpa using h1) (by simpa using h2) hk
def start (N : List Str) (vs : List V) : St:=vs.map some ++ List.replicate (N.length - vs.length) none
def cxOf (CX : CXT) (P : Program) (w : World) (K : PySem.W.Frag) (mg : Str→Option Value) (base : Heap) (N : List Str) (qual : Str) (scope : Scope) (f : Addr) (cd : Value) (A : Around) (outer : List Env) (s : Shared) (H : Hp) (E : XK) : Cx where
 prog:=P
 w:=w
 K:=K
 mg:=mg
 base:=base
 A:=A.deeper (envOfC qual scope s.heap.objs.size f cd)
 N:=N
 s₀:=s
 H₀:=H
 env:=envOfC qual scope s.heap.objs.size f cd
 outer:=outer
 stack:=envOfC qual scope s.heap.objs.size f cd :: outer
 ex:=[]
 calm:=true
 fn:=fun _ => true
 pn:=[]
 xe:=fun e s' => wpAny (model P w) (A.deeper (envOfC qual scope s.heap.objs.size f cd)) (leaving (envOfC qual scope s.heap.objs.size f cd) e) (fun _ s'' => CX outer H s E e s'') (fun e' s'' => CX outer H s E e' s'') s'
theorem cell_has {sc : Scope} {n : Nat} {x : Str} (h : sc.names.lookup x = some .cell) : ∃ c,(cellsFrom n sc.names []).lookup x = some c:=by
 have q:=PySem.W.cellsFrom_some sc.names n [] (.inl h)
 exact Option.isSome_iff_exists.mp q
theorem inv_start {CX : CXT} {P : Program} {w : World} {K : PySem.W.Frag} {mg : Str→Option Value} {base : Heap} {N ps : List Str} {qual : Str} {scope : Scope} {f : Addr} {cd : Value} {A : Around} {outer : List Env} {s s1 : Shared} {H : Hp} {E : XK} {us : List Value} {vs : List V}
   (S : FnScope N ps scope) (hd : A.handled = none) (e0 : Env0 P w K mg base A outer s H) (hl : vs.length = ps.length) (r : Vals vs us)
   (x : InCallC s s.heap.objs.size (bindL (envOfC qual scope s.heap.objs.size f cd).kindOf (ps.zip us) fun _ => none) (cellsFrom (s.heap.objs.size + 1) scope.names []) (bindC (envOfC qual scope s.heap.objs.size f cd).kindOf (ps.zip us) fun _ => none) s1) :
   Inv (cxOf CX P w K mg base N qual scope f cd A outer s H E) [] (start N vs) H s1:=by
 have hpl : ps.length ≤ N.length:=by have:=congrArg List.length S.pre; rw [List.length_take] at this; omega
 obtain ⟨h1,tk,rfl,hk⟩:=x.done
 have noA : ∀ b : Addr,b ∉ (cxOf CX P w K mg base N qual scope f cd A outer s H E).ex:=fun b z => absurd (show b ∈ ([] : List Addr) from z) (by simp)
 refine ⟨⟨e0.mod,S.kind,rfl,rfl,Nat.le_refl _,fun y z c h1 h2 => ?_,fun y hy => ?_,fun y c _ h => ?_,fun _ => hd,Around.frames_deeper e0.frames,.inr ⟨rfl,rfl⟩,fun b z => absurd z (noA b),e0.bs,e0.bsz,fun b _ _ => noA b,fun b z => absurd z (noA b),e0.funs,e0.frf⟩,
   rfl,e0.bare,Un.kept hk,⟨_,x.toInCall.ns,fun i y v h1 h2 h3 => ?_⟩,fun y c h => ⟨_,x.cell y c h⟩,e0.hok.fresh (Nat.le_refl _),fun y c h => ?_,fun p hp => absurd (show p ∈ ([] : List (Addr × Obj)) from hp) (by simp),e0.hok.kept hk,?_⟩
 · exact name_of_addr x.apart (PySem.mem_of_lookup h1) (PySem.mem_of_lookup h2)
 · have hy : scope.names.lookup y = some .cell ∨ scope.names.lookup y = some .free:=hy
   rcases hy with hy | hy
   · exact cell_has hy
   · exact absurd rfl (S.nofree _ (PySem.mem_of_lookup hy))
 · exact Nat.le_of_lt (x.above y c (PySem.mem_of_lookup h))
 · have hi : i < vs.length:=by
     unfold start at h2
     by_cases hi : i < vs.length
     · exact hi
     · rw [List.getElem?_append_right (by simpa using hi)] at h2
       rw [List.getElem?_replicate] at h2
       split at h2 <;> cases h2
   have ha : vs[i]? = some v:=by
     unfold start at h2
     rw [List.getElem?_append_left (by simpa using hi),List.getElem?_map] at h2
     cases e : vs[i]? with
     | none => rw [e] at h2; cases h2
     | some a => rw [e] at h2; cases h2; rfl
   obtain ⟨u,hu,rv⟩:=r.get ha
   have hp : ps[i]? = some y:=by
     rw [← S.pre,List.getElem?_take_of_lt (by omega)]; exact h1
   have ndP : ps.Nodup:=by rw [← S.pre]; exact S.nd.sublist (List.take_sublist _ _)
   refine ⟨u,rv,?_⟩
   rcases S.par y (List.mem_of_getElem? hp) with k | k
   · exact .inl ⟨k,bindL_get ndP hp hu k⟩
   · obtain ⟨c,e⟩:=cell_has (n:=s.heap.objs.size + 1) k
     refine .inr ⟨.inl k,c,e,?_⟩
     have q:=x.cell y c e
     rw [bindC_get ndP hp hu (by show scope.names.lookup y ≠ _; rw [k]; decide)] at q
     exact q
 · exact e0.hok.fresh (Nat.le_of_lt (x.above y c (PySem.mem_of_lookup h)))
 · unfold start
   show _ = N.length
   rw [List.length_append,List.length_map,List.length_replicate]
   omega
theorem fn_of {CX : CXT} {P : Program} {w : World} {K : PySem.W.Frag} {mg : Str→Option Value} {base : Heap} {k : Nat} {f : Addr} {name qual : Str} {params : Arguments} {body : List Stmt} {scope : Scope} {dV kV doc pm cdv ct oc : Value} {an od : Option Addr}
   {osl : Array (Option Value)} {N ps : List Str} {sp : Sp} (lk : K.lookup f = some ⟨oc,od,.func (PySem.W.fnOf name qual params body scope dV kV doc pm an cdv ct),osl⟩) (hcd : PySem.W.codeIn K cdv qual = true) (S : FnScope N ps scope)
   (len : ∀ vs H Q E,sp vs H Q E→vs.length = ps.length)
   (hbody : ∀ (A : Around) (outer : List Env) (s : Shared) (H : Hp) (vs : List V) (Q : VK) (E : XK),Room k (A.deeper (envOfC qual scope s.heap.objs.size f cdv))→sp vs H Q E →
     ∃ t,PSs (cxOf CX P w K mg base N qual scope f cdv A outer s H E) body t∧t { nx:=fun _ H' => Q .non H',rt:=Q } (start N vs) H) :
   FnOk P w K mg base CX (k + 1) f (PySem.W.fnOf name qual params body scope dV kV doc pm an cdv ct) ps sp:=by
 refine ⟨len,fun A outer s H args us vs Q E hr e0 hb r hsp => ?_⟩
 have hl:=len _ _ _ _ hsp
 have KX : K.In s.heap:=e0.mod.kin.keeps fun b o e => (e0.bs b o e).1
 have lim : s.heap.NoLimit:=e0.mod.nolimit.keeps fun b o e => (e0.bs b o e).1
 have hkind : ∀ y ∈ ps.zip us,scope.names.lookup y.1 = some .local ∨ (scope.names.lookup y.1 = some .cell∧((cellsFrom (s.heap.objs.size + 1) scope.names []).lookup y.1).isSome = true):=fun ⟨n,v⟩ hy => by
   rcases S.par n (List.of_mem_zip hy).1 with q | q
   · exact .inl q
   · exact .inr ⟨q,PySem.W.cellsFrom_some _ _ _ (.inl q)⟩
 refine codeAny_call_function hr.depth (KX _ _ lk) rfl S.co S.gen rfl (PySem.W.codeRec_of KX hcd) (hb _ _ _ _ ?_)
 refine wpAny_newFunctionEnv_cells S.kind hkind fun env he s1 x => ?_
 subst he
 refine ⟨lim.keeps x.toInCall.keep,codeAny_func ?_⟩
 obtain ⟨t,ht,hq⟩:=hbody A outer s H vs Q E (hr.deeper _) hsp
 have I : Inv (cxOf CX P w K mg base N qual scope f cdv A outer s H E) [] (start N vs) H s1:=inv_start S hr.hd e0 hl r x
 refine wpAny_mono (ht [] s1 (start N vs) H _ I hq) (fun fl s' hs => ?_) fun e s' hs => hs
 have fin : ∀ {σ' : St} {H' : Hp} {v : V} {u : Value},Inv (cxOf CX P w K mg base N qual scope f cdv A outer s H E) [] σ' H' s'→RelV v u→Q v H'→CE outer P w H s Q u s' :=
   fun {σ' H' v u} J rv q => ⟨v,H',J.os,J.bare,J.base,J.hok,rv,q⟩
 cases fl with
 | ret u =>
   obtain ⟨v,σ',H',J,rv,q⟩:=hs
   exact fin J rv q
 | next =>
   obtain ⟨σ',H',J,q⟩:=hs
   exact fin (v:=V.non) (u:=Value.none) J rfl q
 | brk =>
   obtain ⟨_,_,_,q⟩:=hs
   exact False.elim q
 | cont =>
   obtain ⟨_,_,_,q⟩:=hs
   exact False.elim q
end L2
namespace L2
open PySem PySem.Spec PyProof.Rows
section
variable {X : Cx} {x : Str} {p pos : Pos} {e : Expr} {es : List Expr} {t : TA} {id T : String} {r : List V→Hp→VK→Prop}
def tCB (r : List V→Hp→VK→Prop) (t : TA) : TE:=fun σ H Q => t σ H fun vs H1 => r vs H1 Q
theorem pe_callB (hc : CallR X (.builtin id) r) (hg : Gl X x) (hm : X.mg x = none) (hv : bootBuiltins x = some (.builtin id)) (ha : PA X (e :: es) t) (hn : x ≠ "__name__":=by decide) (hdb : (x == ("__debug__" : Str)) = false:=by decide)
   (he : starEach (e :: es) X.env = (false,eval e X.env) :: starEach es X.env:=by rfl) (hpl : (backTo pos (starEach es X.env)).any (·.1) = false:=by rfl) : PE X (.Call (.Name x p) (e :: es) [] pos) (tCB r t):=by
 intro pins s σ H Q I h
 refine wpAny_Call_Name_kw (ld_blt I hg hm hv ?_ hn hdb)
 exact PyProof.Rows.callWith_builtin1 (thn (ha pos pins s σ H _ I h) fun us s1 ⟨vs,H1,I1,r1,q1⟩ => hc pins s1 σ H1 vs us Q I1 r1 q1) he hpl
theorem pe_callTy (hc : CallR X (.type T) r) (hg : Gl X x) (hm : X.mg x = none) (hv : bootBuiltins x = some (.type T)) (ha : PA X (e :: es) t) (hn : x ≠ "__name__":=by decide) (hdb : (x == ("__debug__" : Str)) = false:=by decide)
   (he : starEach (e :: es) X.env = (false,eval e X.env) :: starEach es X.env:=by rfl) (hpl : (backTo pos (starEach es X.env)).any (·.1) = false:=by rfl) : PE X (.Call (.Name x p) (e :: es) [] pos) (tCB r t):=by
 intro pins s σ H Q I h
 refine wpAny_Call_Name_kw (ld_blt I hg hm hv ?_ hn hdb)
 exact PyProof.Rows.callWith_type1 (thn (ha pos pins s σ H _ I h) fun us s1 ⟨vs,H1,I1,r1,q1⟩ => hc pins s1 σ H1 vs us Q I1 r1 q1) he hpl
end
end L2
namespace HT
open PySem PyProof.Rows
def lexLt : List Int→List Int→Bool
 | [],[] => false
 | [],_ :: _ => true
 | _ :: _,[] => false
 | x :: xs,y :: ys => if x = y then lexLt xs ys else decide (x < y)
section
open PySem.SeqAt
open PySem.AutoSeq1 (wpAny_loadPart')
open PySem.MeetsSeq PySem.MeetsSeq2 PySem.MeetsSeq3
end
section
variable {prog : Program} {w : World} {A : Around} {E : Value→Shared→Prop} {s : Shared}
theorem cat_tup {t b : Addr} {vs ws : List Value} {Q : Value→Shared→Prop} (ht : IsTup s.heap t vs.toArray) (hb : IsTup s.heap b ws.toArray) (hv : vs ≠ [])
   (h1 : ws = []→Q (.ref t) s) (h2 : ws ≠ []→Q (.ref s.heap.objs.size) { s with heap:=s.heap.push { cls:=.type "tuple",data:=.seq (vs ++ ws).toArray } })
   (hsz : vs.length + ws.length ≤ sizeLine) : wpAny (model prog w) A (binaryOp .Add (.ref t) (.ref b)) Q E s:=by
 obtain ⟨⟨cls,dd,data,sl⟩,ho,hc,n,hd⟩:=id ht
 obtain ⟨⟨cls2,dd2,data2,sl2⟩,ho2,hc2,n2,hd2⟩:=id hb
 simp only at hc hd hc2 hd2
 subst hc hd hc2 hd2
 have e : vs.toArray ++ ws.toArray = (vs ++ ws).toArray:=by simp
 by_cases hw : ws = []
 · exact concat_meets ⟨_,ho,rfl⟩ ⟨_,ho2,rfl⟩ noFill_tuple_add seq_tuple_add PySem.F.slot_tuple_add PySem.F.entry_tuple_add (PySem.F.args_tuple_add_2 _ _)
     (tuple_addW1 t b vs.toArray ws.toArray n n2 dd dd2 sl sl2 (by simpa using hv) (by simp [hw])) ⟨ho,ho2,h1 hw⟩
 · refine concat_meets ⟨_,ho,rfl⟩ ⟨_,ho2,rfl⟩ noFill_tuple_add seq_tuple_add PySem.F.slot_tuple_add PySem.F.entry_tuple_add (PySem.F.args_tuple_add_2 _ _)
     (tuple_addW2 t b vs.toArray ws.toArray n n2 dd dd2 sl sl2 (by simpa using hv) (by simpa using hw) (by rw [List.size_toArray,List.size_toArray]; exact hsz)) ⟨ho,ho2,?_⟩
   rw [e]
   exact h2 hw
def sIx (n d : Nat) : Option Int→Nat
 | none => d
 | some v => if v < 0 then (v + (n : Int)).toNat else min v.toNat n
theorem sIx_none (n d : Nat) : sIx n d none = d:=rfl
theorem sIx_nat (n d k : Nat) : sIx n d (some (k : Int)) = min k n:=by
 show (if (k : Int) < 0 then ((k : Int) + (n : Int)).toNat else min (k : Int).toNat n) = min k n
 rw [if_neg (by omega),Int.toNat_natCast]
end
end HT
namespace L2
open PySem PySem.Spec PyProof.Rows
abbrev TO:=St→Hp→(Option Int→Hp→Prop)→Prop
def PO (X : Cx) (e : Option Expr) (t : TO) : Prop :=
 ∀ (pins : List (Addr × Obj)) (s : Shared) (σ : St) (H : Hp) (Q : Option Int→Hp→Prop),Inv X pins σ H s→t σ H Q →
   wpAny (model X.prog X.w) X.A (evalPart e X.env) (fun u s' => ∃ o H',Inv X pins σ H' s'∧IsPart u o∧Q o H') X.xe s
def tNoPart : TO:=fun _ H Q => Q none H
def tPart (t : TE) : TO:=fun σ H Q => t σ H fun x H1 => ∃ i,x = .int i∧Q (some i) H1
section
variable {X : Cx} {e : Expr} {te : TE} {lo hi : Option Expr} {tl th : TO} {pos p2 : Pos}
theorem po_none : PO X none tNoPart:=by
 intro pins s σ H Q I h
 rw [evalPart_none]
 exact wpAny_pure ⟨none,H,I,.none,h⟩
theorem po_some (h : PE X e te) : PO X (some e) (tPart te):=by
 intro pins s σ H Q I hw
 rw [evalPart_some]
 refine thn (h pins s σ H _ I hw) fun u s1 ⟨x,H1,I1,r1,q1⟩ => ?_
 obtain ⟨i,rfl,q⟩:=q1
 obtain ⟨t,rfl⟩:=r1
 exact ⟨some i,H1,I1,.int i t,q⟩
def SlR (X : Cx) (r : V→Option Int→Option Int→Hp→VK→Prop) : Prop :=
 ∀ (pins : List (Addr × Obj)) (s : Shared) (σ : St) (H : Hp) (x : V) (v vl vu : Value) (lo hi : Option Int) (sl : Addr) (Q : VK),Inv X pins σ H s→RelV x v→s.heap.IsSliceOf sl vl vu .none→IsPart vl lo→IsPart vu hi→r x lo hi H Q →
   ∃ T id,typeLookup (.type T) "__getitem__" = pure (some (.builtin id))∧s.TypeIs v T∧wpAny (model X.prog X.w) X.A (getItem v (.ref sl)) (EP X pins σ Q) X.xe s
def tSl (r : V→Option Int→Option Int→Hp→VK→Prop) (te : TE) (tl th : TO) : TE:=fun σ H Q => te σ H fun x H1 => tl σ H1 fun l H2 => th σ H2 fun u H3 => r x l u H3 Q
theorem pe_slice {r : V→Option Int→Option Int→Hp→VK→Prop} (hr : SlR X r) (he : PE X e te) (hl : PO X lo tl) (hu : PO X hi th) : PE X (.Subscript e (.Slice lo hi none p2) pos) (tSl r te tl th):=by
 intro pins s σ H Q I h
 refine Subscript_ (thn (he pins s σ H _ I h) fun v s1 ⟨x,H1,I1,r1,q1⟩ => ?_)
 refine wpAny_Slice (thn (hl pins s1 σ H1 _ I1 q1) fun vl s2 ⟨l,H2,I2,pl,q2⟩ => thn (hu pins s2 σ H2 _ I2 q2) fun vu s3 ⟨u,H3,I3,pu,q3⟩ => ?_)
 rw [evalPart_none]
 refine wpAny_pure ?_
 have I4 : Inv X pins σ H3 { s3 with heap:=s3.heap.push { cls:=.type "slice",data:=.fields #[vl,vu,.none] } }:=I3.kept (t':=s3.toks) fun b ob q => Heap.get?_push_of_some _ q
 obtain ⟨T,id,hT,ht,hg⟩:=hr pins { s3 with heap:=s3.heap.push { cls:=.type "slice",data:=.fields #[vl,vu,.none] } } σ H3 x v vl vu l u s3.heap.objs.size Q I4 r1 (Heap.IsSliceOf.new ..) pl pu q3
 show wpAny (model X.prog X.w) X.A (subscriptTail e (.Slice lo hi none p2) v (.ref s3.heap.objs.size)) (EP X pins σ Q) X.xe { s3 with heap:=s3.heap.push { cls:=.type "slice",data:=.fields #[vl,vu,.none] } }
 exact tail_any (ops:=[.ref s3.heap.objs.size,v]) ht hT hg (by with_unfolding_all rfl)
def cutV (xs : List V) (lo hi : Option Int) : List V:=(xs.drop (HT.sIx xs.length 0 lo)).take (HT.sIx xs.length xs.length hi - HT.sIx xs.length 0 lo)
theorem cutV_length (xs : List V) (lo hi : Option Int) : (cutV xs lo hi).length ≤ xs.length:=by
 unfold cutV
 rw [List.length_take,List.length_drop]
 omega
def rCatT (K : PySem.W.Frag) : R2:=fun x y H Q => ∃ a b xs ys,x = .ref a∧y = .ref b∧SqT K H a xs∧SqT K H b ys∧xs ≠ []∧xs.length + ys.length ≤ sizeLine ∧
 (ys = []→Q (.ref a) H)∧(ys ≠ []→∀ p,H p = none→Q (.ref p) (upd H p (.tup (xs ++ ys))))
theorem Vals.nil_iff {xs : List V} {us : List Value} (r : Vals xs us) : us = [] ↔ xs = []:=by
 cases r with
 | nil => simp
 | cons _ _ => simp
theorem op_catT : OpR X (binaryOp .Add) (rCatT X.K):=by
 intro pins s σ H x y v u Q I rx ry h
 obtain ⟨a,b,xs,ys,rfl,rfl,ha,hb,hx,hz,q1,q2⟩:=h
 cases rx
 cases ry
 obtain ⟨its,r1,p1,_⟩:=I.tuple ha
 obtain ⟨its2,r2,p2,_⟩:=I.tuple hb
 refine HT.cat_tup p1 p2 (fun z => hx (r1.nil_iff.mp z)) (fun z => ⟨.ref a,H,I,rfl,q1 (r2.nil_iff.mp z)⟩) (fun z => ?_) (by rw [← r1.length,← r2.length]; exact hz)
 refine ⟨.ref s.heap.objs.size,_,I.laid (t':=s.toks) (o:=.tup (xs ++ ys)) (fun b ob q => Heap.get?_push_of_some _ q) (Nat.le_refl _) ?_,rfl,q2 (fun w => z (r2.nil_iff.mpr w)) _ (I.hok.fresh (Nat.le_refl _))⟩
 exact ⟨by rw [List.length_append]; exact hz,_,r1.append r2,IsTup.new _ _⟩
end
end L2
namespace L2
open PySem PySem.Spec PyProof.Rows
def ixN (n : Nat) (i : Int) : Option Nat:=if 0 ≤ i then (if i < n then some i.toNat else none) else if -(n : Int) ≤ i then some (i + n).toNat else none
def atI {α : Type} (xs : List α) (i : Int) : Option α:=(ixN xs.length i).bind fun j => xs[j]?
theorem ixN_seq {n : Nat} {i : Int} {j : Nat} (h : ixN n i = some j) : seqIndex? i n = some j∧j < n∧-(n : Int) ≤ i∧i < n:=by
 unfold ixN at h
 by_cases h0 : 0 ≤ i
 · rw [if_pos h0] at h
   by_cases h1 : i < n
   · rw [if_pos h1] at h
     have e : i.toNat = j:=Option.some.inj h
     exact ⟨by rw [seqIndex_of h0 h1,e],by omega,by omega,h1⟩
   · rw [if_neg h1] at h; cases h
 · rw [if_neg h0] at h
   by_cases h1 : -(n : Int) ≤ i
   · rw [if_pos h1] at h
     have e : (i + n).toNat = j:=Option.some.inj h
     exact ⟨by rw [seqIndex_neg (by omega) h1,e],by omega,h1,by omega⟩
   · rw [if_neg h1] at h; cases h
theorem atI_get {α : Type} {xs : List α} {i : Int} {v : α} (h : atI xs i = some v) : ∃ j,seqIndex? i xs.length = some j∧xs[j]? = some v∧j < xs.length∧-(xs.length : Int) ≤ i∧i < xs.length:=by
 unfold atI at h
 cases e : ixN xs.length i with
 | none => rw [e] at h; cases h
 | some j =>
   rw [e] at h
   obtain ⟨h1,h2,h3,h4⟩:=ixN_seq e
   exact ⟨j,h1,h,h2,h3,h4⟩
theorem atI_nat {α : Type} {xs : List α} {j : Nat} {v : α} (h : xs[j]? = some v) : atI xs (j : Int) = some v:=by
 have hj : j < xs.length:=(List.getElem?_eq_some_iff.mp h).1
 have e : ixN xs.length (j : Int) = some j:=by
   unfold ixN
   rw [if_pos (by omega),if_pos (by omega)]; simp
 unfold atI; rw [e]; exact h
def PlainIx (b : Expr) : Prop:=∀ o i,subscripted b false o i = operate [o,i] (getItem o i)
def IxR (X : Cx) (r : R2) : Prop :=
 ∀ (value slice : Expr) (pins : List (Addr × Obj)) (s : Shared) (σ : St) (H : Hp) (x y : V) (v u : Value) (Q : VK),Inv X pins σ H s→RelV x v→RelV y u→r x y H Q →
   subscripted slice false v u = operate [v,u] (getItem v u)→wpAny (model X.prog X.w) X.A (subscriptTail value slice v u) (EP X pins σ Q) X.xe s
def MtR (X : Cx) (id : String) (r : V→List V→Hp→VK→Prop) : Prop :=
 ∀ (pins : List (Addr × Obj)) (s : Shared) (σ : St) (H : Hp) (x : V) (xs : List V) (v : Value) (us : List Value) (Q : VK),Inv X pins σ H s→RelV x v→Vals xs us→r x xs H Q →
   wpAny (model X.prog X.w) X.A (call (.builtin id) (v :: us)) (EP X pins σ Q) X.xe s
section
variable {X : Cx} {a b : Expr} {ta tb : TE} {pos : Pos}
theorem pe_ix {r : R2} (hr : IxR X r) (ha : PE X a ta) (hb : PE X b tb) (hs : PlainIx b) : PE X (.Subscript a b pos) (tOp r ta tb):=by
 intro pins s σ H Q I h
 exact Subscript_ (binT ha hb I h fun v u s2 x y H2 I2 rx ry q => hr a b pins s2 σ H2 x y v u Q I2 rx ry q (hs _ _))
def rIxL (K : PySem.W.Frag) : R2:=fun x y H Q => ∃ p xs i v,x = .ref p∧y = .int i∧SqL K H p xs∧atI xs i = some v∧Q v H
def rIxT (K : PySem.W.Frag) : R2:=fun x y H Q => ∃ p xs i v,x = .ref p∧y = .int i∧SqT K H p xs∧atI xs i = some v∧Q v H
theorem ix_list : IxR X (rIxL X.K):=by
 intro value slice pins s σ H x y v u Q I rx ry h hs
 obtain ⟨p,xs,i,z,rfl,rfl,hq,he,q⟩:=h
 cases rx
 obtain ⟨t,rfl⟩:=ry
 obtain ⟨its,r,pl,hz⟩:=I.list hq
 obtain ⟨j,h1,h2,h3,h4,h5⟩:=atI_get he
 obtain ⟨w,ew,rw'⟩:=r.get h2
 have hl:=r.length
 have hn:=line63
 have fin : EP X pins σ Q w s:=⟨z,H,I,rw',q⟩
 by_cases h0 : 0 ≤ i
 · have hj : i.toNat = j:=by
     rw [seqIndex_of h0 h5] at h1
     exact Option.some.inj h1
   exact item_listR pl.isList h0 (by omega) (by rw [hj]; simpa using ew) fin hs
 · have hj : (i + (its.toArray.size : Int)).toNat = j:=by
     rw [seqIndex_neg (by omega) h4] at h1
     rw [List.size_toArray,← hl]
     exact Option.some.inj h1
   exact subscriptTail_builtinR (x:=w) pl.isList.typeIs slot_list_getitem.lookup
     (wpAny_getItem_list_neg (Q:=fun r s' => r = w∧EP X pins σ Q r s') pl.isList (by omega) (by rw [List.size_toArray] <;> omega) (by omega) (by rw [hj]; simpa using ew) ⟨rfl,fin⟩) hs
theorem ix_tup : IxR X (rIxT X.K):=by
 intro value slice pins s σ H x y v u Q I rx ry h hs
 obtain ⟨p,xs,i,z,rfl,rfl,hq,he,q⟩:=h
 cases rx
 obtain ⟨t,rfl⟩:=ry
 obtain ⟨its,r,pl,hz⟩:=I.tuple hq
 obtain ⟨j,h1,h2,h3,h4,h5⟩:=atI_get he
 obtain ⟨w,ew,rw'⟩:=r.get h2
 have hl:=r.length
 have hn:=line63
 have fin : EP X pins σ Q w s:=⟨z,H,I,rw',q⟩
 exact subscriptTail_builtinR (x:=w) pl.typeIs slot_tuple_getitem.lookup
   (getItem_tuple (j:=j) (Q:=fun r s' => r = w∧EP X pins σ Q r s') pl (by omega) (by omega) (by rw [List.size_toArray,← hl]; exact h1) (by simpa using ew) ⟨rfl,fin⟩) hs
theorem mapSeq_set (its : List Value) (n j : Nat) (u : Value) : Obj.mapSeq (·.setIfInBounds j u) { cls:=.type "list",data:=.seq its.toArray n } = { cls:=.type "list",data:=.seq (its.set j u).toArray n }:=by
 simp [Obj.mapSeq]
theorem Inv.lst {pins : List (Addr × Obj)} {σ : St} {H : Hp} {s : Shared} {p : Addr} {xs : List V} (I : Inv X pins σ H s) (h : H p = some (.lst xs)) :
   ∃ (its : List Value) (n : Nat),Vals xs its∧s.heap.get? p = some { cls:=.type "list",data:=.seq its.toArray n }∧xs.length ≤ sizeLine:=by
 obtain ⟨z,its,n,r,e⟩:=I.hok p _ h
 exact ⟨its,n,r,e,z⟩
theorem Inv.lstUpd {pins : List (Addr × Obj)} {σ : St} {H : Hp} {s : Shared} {p : Addr} {xs ys : List V} {its its' : List Value} {n n' : Nat} {f : Obj→Obj} (I : Inv X pins σ H s) (h : H p = some (.lst xs))
   (ho : s.heap.get? p = some { cls:=.type "list",data:=.seq its.toArray n }) (hf : f { cls:=.type "list",data:=.seq its.toArray n } = { cls:=.type "list",data:=.seq its'.toArray n' }) (r : Vals ys its') (hz : ys.length ≤ sizeLine) (t : Nat) :
   Inv X pins σ (upd H p (.lst ys)) { s with heap:=s.heap.update p f,toks:=t }:=by
 have e : (s.heap.update p f).get? p = some { cls:=.type "list",data:=.seq its'.toArray n' }:=by
   rw [Heap.get?_update_self f ho (by rw [hf] <;> rfl),hf]
 refine I.write (x:=p) (e:=p) (by rw [h]; trivial) (.inl rfl) (fun b u hb q => (Heap.get?_update_other _ _ (Ne.symm hb)).trans q) ⟨_,e⟩ ?_
 exact ⟨hz,its',n',r,e⟩
def rSetL : V→V→V→Hp→(Hp→Prop)→Prop:=fun o i v H Q => ∃ p xs k j,o = .ref p∧i = .int k∧H p = some (.lst xs)∧ixN xs.length k = some j∧Q (upd H p (.lst (xs.set j v)))
theorem set_list : PSet X rSetL:=by
 intro pins s σ H o i v ov iv u Q I ro ri rv h
 obtain ⟨p,xs,k,j,rfl,rfl,hp,hj,q⟩:=h
 cases ro
 obtain ⟨t,rfl⟩:=ri
 obtain ⟨its,n,r,ho,hz⟩:=I.lst hp
 obtain ⟨h1,h2,h3,h4⟩:=ixN_seq hj
 have hl:=r.length
 have hn:=line63
 have I' : Inv X pins σ (upd H p (.lst (xs.set j v))) { s with heap:=s.heap.update p (Obj.mapSeq (·.setIfInBounds j u)) } :=
   I.lstUpd hp ho (mapSeq_set its n j u) (r.set rv j) (by rw [List.length_set]; exact hz) s.toks
 by_cases h0 : 0 ≤ k
 · have hk : k.toNat = j:=by
     rw [seqIndex_of h0 h4] at h1
     exact Option.some.inj h1
   exact PySem.W.ki_setAt ho h0 (by omega) (by rw [List.size_toArray,← hl]; exact h4) (by rw [hk]; exact ⟨_,I',q⟩)
 · have hk : (k + (its.toArray.size : Int)).toNat = j:=by
     rw [seqIndex_neg (by omega) h3] at h1
     rw [List.size_toArray,← hl]
     exact Option.some.inj h1
   exact PySem.W.ki_setBack ho (by omega) (by rw [List.size_toArray,← hl]; exact h3) (by omega) (by rw [hk]; exact ⟨_,I',q⟩)
theorem slice_bounds (lo hi : Option Int) (n : Nat) : (sliceBounds lo hi none n).1 = ((HT.sIx n 0 lo : Nat) : Int)∧(sliceBounds lo hi none n).2.1 = ((HT.sIx n n hi : Nat) : Int)∧(sliceBounds lo hi none n).2.2 = 1:=by
 refine ⟨?_,?_,rfl⟩
 · cases lo with
   | none => simp [sliceBounds,HT.sIx]
   | some i =>
     simp only [sliceBounds,HT.sIx,Option.getD_none,show (1 : Int) > 0 by decide,if_true]
     by_cases h : i < 0
     · simp only [h,if_true] <;> omega
     · simp only [h,if_false] <;> omega
 · cases hi with
   | none => simp [sliceBounds,HT.sIx]
   | some i =>
     simp only [sliceBounds,HT.sIx,Option.getD_none,show (1 : Int) > 0 by decide,if_true]
     by_cases h : i < 0
     · simp only [h,if_true] <;> omega
     · simp only [h,if_false] <;> omega
theorem slicePick_cut (its : List Value) (lo hi : Option Int) : slicePick its.toArray lo hi none = ((its.drop (HT.sIx its.length 0 lo)).take (HT.sIx its.length its.length hi - HT.sIx its.length 0 lo)).toArray:=by
 obtain ⟨h1,h2,h3⟩:=slice_bounds lo hi its.toArray.size
 unfold slicePick
 rw [h1,h2,h3]
 simp only [sliceRange_one,pick_run,List.size_toArray] <;> rfl
def rSlL (K : PySem.W.Frag) : V→Option Int→Option Int→Hp→VK→Prop:=fun x lo hi H Q => ∃ a xs,x = .ref a∧SqL K H a xs∧∀ p,H p = none→Q (.ref p) (upd H p (.lst (cutV xs lo hi)))
theorem sl_list : SlR X (rSlL X.K):=by
 intro pins s σ H x v vl vu lo hi sl Q I rx hs pl pu h
 obtain ⟨a,xs,rfl,hx,q⟩:=h
 cases rx
 obtain ⟨its,r,ht,hz⟩:=I.list hx
 have hlen:=r.length
 refine ⟨"list",_,slot_list_getitem.lookup,ht.isList.typeIs,?_⟩
 refine wpAny_getItem_list_slice ht.isList hs pl pu .none (by simp) ?_ (by rw [List.size_toArray] <;> omega)
 rw [slicePick_cut,← hlen]
 refine ⟨.ref s.heap.objs.size,_,I.laid (t':=s.toks) (o:=.lst (cutV xs lo hi)) (fun b ob q => Heap.get?_push_of_some _ q) (Nat.le_refl _) ?_,rfl,q _ (I.hok.fresh (Nat.le_refl _))⟩
 exact ⟨Nat.le_trans (cutV_length xs lo hi) hz,_,0,(r.drop (HT.sIx xs.length 0 lo)).take (HT.sIx xs.length xs.length hi - HT.sIx xs.length 0 lo),Heap.get?_push_size _ rfl⟩
theorem call_len_seq : CallR X (.builtin "len") (fun xs H Q => ∃ p ys,xs = [.ref p]∧(SqL X.K H p ys ∨ SqT X.K H p ys)∧Q (.int ys.length) H):=by
 intro pins s σ H xs us Q I r h
 obtain ⟨p,ys,rfl,hq,q⟩:=h
 obtain ⟨u,rfl,rx⟩:=vals1 r
 cases rx
 have hn:=line63
 rcases hq with hq | hq
 · obtain ⟨its,r',pl,hz⟩:=I.list hq
   have hlen:=r'.length
   exact Calls.call_len_list pl.isList (by simp only [List.size_toArray] <;> omega) ⟨.int ys.length,H,I.tok _,⟨s.toks + 1,by rw [List.size_toArray,hlen]⟩,q⟩
 · obtain ⟨its,r',pl,hz⟩:=I.tuple hq
   have hlen:=r'.length
   exact len_tuple pl (by simp only [List.size_toArray] <;> omega) ⟨.int ys.length,H,I.tok _,⟨s.toks + 1,by rw [List.size_toArray,hlen]⟩,q⟩
theorem call_list_of : CallR X (.type "list") (fun xs H Q => ∃ p ys,xs = [.ref p]∧(SqL X.K H p ys ∨ SqT X.K H p ys)∧∀ l,H l = none→Q (.ref l) (upd H l (.lst ys))):=by
 intro pins s σ H xs us Q I r h
 obtain ⟨p,ys,rfl,hq,q⟩:=h
 obtain ⟨u,rfl,rx⟩:=vals1 r
 cases rx
 have fin : ∀ (its : List Value),Vals ys its→ys.length ≤ sizeLine→∀ (h' : Heap) (c' : Nat),(∀ b o',s.heap.get? b = some o'→h'.get? b = some o') →
     h'.get? s.heap.objs.size = some { cls:=.type "list",dict:=none,data:=.seq its.toArray c',slots:=#[] }→EP X pins σ Q (.ref s.heap.objs.size) { s with heap:=h' }:=fun its r' hz h' c' kp e =>
   ⟨.ref s.heap.objs.size,_,I.laid (t':=s.toks) kp (Nat.le_refl _) (show ObjOk X.prog X.w _ h' _ (.lst ys) from ⟨hz,its,c',r',e⟩),rfl,q _ (I.hok.fresh (Nat.le_refl _))⟩
 rcases hq with hq | hq
 · obtain ⟨its,r',pl,hz⟩:=I.list hq
   have hlen:=r'.length
   obtain ⟨o,ho,hc,n,hd⟩:=pl.isList
   exact call_list_seq p (.inl rfl) ho hc hd (fun h' c' kp e => fin its r' hz h' c' kp e) (by simp only [List.size_toArray] <;> omega)
 · obtain ⟨its,r',pl,hz⟩:=I.tuple hq
   have hlen:=r'.length
   obtain ⟨o,ho,hc,n,hd⟩:=pl
   exact call_list_seq p (.inr rfl) ho hc hd (fun h' c' kp e => fin its r' hz h' c' kp e) (by simp only [List.size_toArray] <;> omega)
theorem call_tuple_of : CallR X (.type "tuple") (fun xs H Q => ∃ p ys,xs = [.ref p]∧((SqL X.K H p ys∧∀ l,H l = none→Q (.ref l) (upd H l (.tup ys))) ∨ (SqT X.K H p ys∧Q (.ref p) H))):=by
 intro pins s σ H xs us Q I r h
 obtain ⟨p,ys,rfl,h⟩:=h
 obtain ⟨u,rfl,rx⟩:=vals1 r
 cases rx
 rcases h with ⟨hq,q⟩ | ⟨hq,q⟩
 · obtain ⟨its,r',pl,hz⟩:=I.list hq
   have hlen:=r'.length
   refine call_tuple_list pl.isList (fun h' kp => ?_) (by simp only [List.size_toArray] <;> omega)
   have I1 : Inv X pins σ H { s with heap:=h' }:=I.kept (t':=s.toks) kp
   have I2 : Inv X pins σ (upd H h'.objs.size (.tup ys)) { s with heap:=h'.push { cls:=.type "tuple",data:=.seq its.toArray } } :=
     I1.laid (t':=s.toks) (fun b o e => Heap.get?_push_of_some _ e) (Nat.le_refl _) (show ObjOk X.prog X.w _ _ _ (.tup ys) from ⟨hz,its,r',IsTup.new _ _⟩)
   exact ⟨.ref h'.objs.size,_,I2,rfl,q _ (I1.hok.fresh (Nat.le_refl _))⟩
 · obtain ⟨its,r',pl,hz⟩:=I.tuple hq
   exact call_tuple_same pl ⟨.ref p,H,I,rfl,q⟩
def tyV (K : PySem.W.Frag) (T : String) (x : V) (H : Hp) : Prop:=match x with
 | .str _ => T = "str"
 | .int _ => T = "int"
 | .ref p => (T = "list"∧∃ xs,SqL K H p xs) ∨ (T = "tuple"∧∃ o,K.lookup p = some o∧o.cls = .type "tuple"∧o.dict = none) ∨
     (T = "dict"∧((∃ kvs,H p = some (.dK kvs)) ∨ ∃ kvs,H p = some (.dT kvs))) ∨ (T = "set"∧∃ S n,H p = some (.set S n))
 | _ => False
theorem tyV_is {pins : List (Addr × Obj)} {σ : St} {H : Hp} {s : Shared} {T : String} {x : V} {v : Value} (I : Inv X pins σ H s) (r : RelV x v) (ty : tyV X.K T x H) :
   s.TypeIs v T∧∀ a,v = .ref a→∃ ob,s.heap.get? a = some ob∧ob.dict = none:=by
 cases x with
 | str z =>
   obtain ⟨t,rfl⟩:=r
   cases (show T = "str" from ty)
   exact ⟨typeIs_str s z t,fun _ e => nomatch e⟩
 | int i =>
   obtain ⟨t,rfl⟩:=r
   cases (show T = "int" from ty)
   exact ⟨typeIs_int s i t,fun _ e => nomatch e⟩
 | ref p =>
   cases r
   rcases ty with ⟨rfl,xs,hq⟩ | ⟨rfl,o,hk,hc,hd⟩ | ⟨rfl,hk⟩ | ⟨rfl,S,n,hk⟩
   · obtain ⟨its,_,pl,_⟩:=I.list hq
     refine ⟨pl.isList.typeIs,fun a e => ?_⟩
     cases e
     obtain ⟨o,n,e,c,hd,_⟩:=pl
     exact ⟨o,e,hd⟩
   · refine ⟨⟨o,I.kIn p o hk,hc⟩,fun a e => ?_⟩
     cases e
     exact ⟨o,I.kIn _ o hk,hd⟩
   · have z : ∃ o,s.heap.get? p = some o∧o.ExactDict:=by
       rcases hk with ⟨kvs,hk⟩ | ⟨kvs,hk⟩
       · obtain ⟨_,_,_,_,o,_,_,e,ex,_⟩:=I.hok p _ hk
         exact ⟨o,e,ex⟩
       · obtain ⟨_,_,_,_,o,_,_,e,ex,_⟩:=I.hok p _ hk
         exact ⟨o,e,ex⟩
     obtain ⟨o,e,ex⟩:=z
     refine ⟨⟨o,e,ex.1⟩,fun a e2 => ?_⟩
     cases e2
     exact ⟨o,e,ex.2.1⟩
   · obtain ⟨o,_,_,_,e,ex,_⟩:=I.hok p _ hk
     refine ⟨⟨o,e,ex.1⟩,fun a e2 => ?_⟩
     cases e2
     exact ⟨o,e,ex.2.1⟩
 | _ => exact False.elim ty
def tBM0 (K : PySem.W.Frag) (T : String) (r : V→List V→Hp→VK→Prop) (to : TE) : TE:=fun σ H Q => to σ H fun x H1 => tyV K T x H1∧r x [] H1 Q
def tBM (K : PySem.W.Frag) (T : String) (r : V→List V→Hp→VK→Prop) (to : TE) (t : TA) : TE:=fun σ H Q => to σ H fun x H1 => tyV K T x H1∧t σ H1 fun xs H2 => r x xs H2 Q
variable {o e : Expr} {es : List Expr} {to : TE} {t : TA} {name : Str} {apos cpos : Pos} {T id : String} {r : V→List V→Hp→VK→Prop}
theorem pe_bm0 (pa : PlainAttrs T) (slot : Slot T name id) (hty : typeOf (.builtin id) = pure (.type "method_descriptor")) (hm : MtR X id r) (ho : PE X o to)
   (hbase : attributeBase o name X.env (eval o X.env) = eval o X.env:=by rfl) (hline : (apos.endLine == cpos.line) = true:=by rfl) : PE X (.Call (.Attribute o name apos) [] [] cpos) (tBM0 X.K T r to):=by
 intro pins s σ H Q I h
 refine wpAny_Call_method0_late hbase hline (thn (ho pins s σ H _ I h) fun v s1 ⟨x,H1,I1,r1,ty,q1⟩ => ?_)
 obtain ⟨h1,h2⟩:=tyV_is I1 r1 ty
 exact ⟨T,id,pa,slot,hty,h1,h2,Calls.callWith_builtin rfl (PySem.evalArgs_none (hm pins s1 σ H1 x [] v [] Q I1 r1 .nil q1))⟩
theorem pe_bm (pa : PlainAttrs T) (slot : Slot T name id) (hty : typeOf (.builtin id) = pure (.type "method_descriptor")) (hm : MtR X id r) (ho : PE X o to) (ha : PA X (e :: es) t)
   (hbase : attributeBase o name X.env (eval o X.env) = eval o X.env:=by rfl)
   (hfew : ((backTo cpos (starEach (e :: es) X.env)).all (fun x => !x.1) && (backToKw cpos (keywordEach [] X.env)).all (fun x => x.1.isSome)
     && decide ((e :: es).length + ([] : List Keyword).length + (if ([] : List Keyword).isEmpty then 0 else 1) < 30)) = true:=by rfl)
   (hline : (apos.endLine == cpos.line) = true:=by rfl) (hs : starEach (e :: es) X.env = (false,eval e X.env) :: starEach es X.env:=by rfl) (hplain : (backTo cpos (starEach es X.env)).any (·.1) = false:=by rfl) :
   PE X (.Call (.Attribute o name apos) (e :: es) [] cpos) (tBM X.K T r to t):=by
 intro pins s σ H Q I h
 refine wpAny_Call_method_late hbase hfew hline rfl (thn (ho pins s σ H _ I h) fun v s1 ⟨x,H1,I1,r1,ty,q1⟩ => ?_)
 obtain ⟨h1,h2⟩:=tyV_is I1 r1 ty
 refine ⟨T,id,pa,slot,hty,h1,h2,?_⟩
 have hA:=ha cpos pins s1 σ H1 _ I1 q1
 rw [hs] at hA ⊢
 refine Calls.callWith_builtin (by show (false || (backTo cpos (starEach es X.env)).any (·.1)) = false; rw [hplain] <;> rfl) (Calls.evalArgs_plain ?_)
 exact thn hA fun us s2 ⟨vs,H2,I2,r2,q2⟩ => hm pins s2 σ H2 x vs v us Q I2 r1 r2 q2
end
end L2
namespace L2
open PySem PySem.Spec PyProof.Rows
def MtM (X : Cx) (id : String) (r : V→List V→Hp→VK→Prop) : Prop :=
 ∀ (pins : List (Addr × Obj)) (s : Shared) (σ : St) (H : Hp) (x : V) (xs : List V) (v : Value) (us : List Value) (Q : VK),Inv X pins σ H s→RelV x v→Vals xs us→r x xs H Q →
   wpAny (model X.prog X.w) X.A (call (.builtin id) (v :: us)) (EP X pins σ Q) X.xe s
theorem Vals.one : ∀ {x : V} {us : List Value},Vals [x] us→∃ u,us = [u]∧RelV x u
 | _,_,.cons r .nil => ⟨_,rfl,r⟩
theorem Vals.zero : ∀ {us : List Value},Vals [] us→us = []
 | _,.nil => rfl
theorem foldl_rep (its : List Value) : ∀ (k : Nat) (acc : List Value),
   List.foldl (fun x1 x2 => x1 ++ x2) acc.toArray (List.replicate k its.toArray) = (acc ++ (List.replicate k its).flatten).toArray
 | 0,acc => by simp
 | k + 1,acc => by
   have e : acc.toArray ++ its.toArray = (acc ++ its).toArray:=by simp
   have e2 : (acc ++ its) ++ (List.replicate k its).flatten = acc ++ (List.replicate (k + 1) its).flatten:=by
     rw [List.replicate_succ,List.flatten_cons,List.append_assoc]
   rw [← e2,← foldl_rep its k (acc ++ its),← e,List.replicate_succ,List.foldl_cons]
section
variable {X : Cx} {pins : List (Addr × Obj)} {σ : St} {H : Hp} {s : Shared} {l b : Addr} {xs ys zs : List V}
theorem Inv.lset {its its' : List Value} {n : Nat} {f : Array Value→Array Value} {t' : Nat} (I : Inv X pins σ H s) (hH : H l = some (.lst xs))
   (e : s.heap.get? l = some { cls:=.type "list",data:=.seq its.toArray n }) (hf : f its.toArray = its'.toArray) (hv : Vals ys its') (hz : ys.length ≤ sizeLine) :
   Inv X pins σ (upd H l (.lst ys)) { s with heap:=s.heap.update l (Obj.mapSeq f),toks:=t' }:=by
 have q:=PySem.IsL.update e f
 rw [hf] at q
 refine I.write (x:=l) (e:=l) (by rw [hH]; exact trivial) (.inl rfl) (fun b' u hb hu => (Heap.get?_update_other s.heap (Obj.mapSeq f) (Ne.symm hb)).trans hu) ⟨_,q⟩ ?_
 exact ⟨hz,its',_,hv,q⟩
theorem Inv.lnew {its : List Value} {t' : Nat} (I : Inv X pins σ H s) (hv : Vals ys its) (hz : ys.length ≤ sizeLine) :
   Inv X pins σ (upd H s.heap.objs.size (.lst ys)) { s with heap:=s.heap.push { cls:=.type "list",data:=.seq its.toArray },toks:=t' } :=
 I.laid (fun _ _ q => Heap.get?_push_of_some _ q) (Nat.le_refl _) ⟨hz,its,0,hv,Heap.get?_push_size _ rfl⟩
theorem Inv.fresh (I : Inv X pins σ H s) : H s.heap.objs.size = none:=I.hok.fresh (Nat.le_refl _)
theorem Inv.lstM (I : Inv X pins σ H s) (hH : H l = some (.lst xs)) : xs.length ≤ sizeLine∧∃ (its : List Value) (n : Nat),Vals xs its∧xs.length = its.length∧s.heap.get? l = some { cls:=.type "list",data:=.seq its.toArray n }:=by
 obtain ⟨z,its,n,r,e⟩:=I.hok l _ hH
 exact ⟨z,its,n,r,r.length,e⟩
end
section
variable {X : Cx}
def rAppend : V→List V→Hp→VK→Prop:=fun x vs H Q => ∃ l xs y,x = .ref l∧vs = [y]∧H l = some (.lst xs)∧xs.length < sizeLine∧Q .non (upd H l (.lst (xs ++ [y])))
theorem mt_append : MtM X "list.append" rAppend:=by
 intro pins s σ H x vs v us Q I rx rv h
 obtain ⟨l,xs,y,rfl,rfl,hH,hz,q⟩:=h
 cases rx
 obtain ⟨u,rfl,ru⟩:=rv.one
 obtain ⟨z,its,n,r,hl,e⟩:=I.lstM hH
 refine call_meets F.slot_list_append ⟨_,e,rfl⟩ F.entry_list_append (F.args_list_append_2 _ _) (PySem.list_append l its.toArray n u (by rw [List.size_toArray]; omega)) ⟨e,?_⟩
 refine ⟨.non,_,I.lset (its':=its ++ [u]) hH e (by simp) (r.append (.cons ru .nil)) ?_,rfl,q⟩
 rw [List.length_append,List.length_singleton]
 omega
def rCat : R2:=fun x y H Q => ∃ l b xs zs,x = .ref l∧y = .ref b∧H l = some (.lst xs)∧H b = some (.lst zs)∧xs.length + zs.length ≤ sizeLine∧∀ p,H p = none→Q (.ref p) (upd H p (.lst (xs ++ zs)))
theorem op_cat : OpR X (binaryOp .Add) rCat:=by
 intro pins s σ H x y v u Q I rx ry h
 obtain ⟨l,b,xs,zs,rfl,rfl,hH,hB,hz,q⟩:=h
 cases rx
 cases ry
 obtain ⟨z,its,n,r,hl,e⟩:=I.lstM hH
 obtain ⟨z2,its2,n2,r2,hl2,e2⟩:=I.lstM hB
 refine PySem.P.add_list e e2 ?_ (by rw [List.size_toArray,List.size_toArray]; omega)
 have ea : its.toArray ++ its2.toArray = (its ++ its2).toArray:=by simp
 rw [ea]
 exact ⟨.ref _,_,I.lnew (t':=s.toks) (r.append r2) (by rw [List.length_append]; omega),rfl,q _ I.fresh⟩
end
section
variable {prog : Program} {w : World} {A : Around} {E : Value→Shared→Prop} {s : Shared}
end
section
variable {X : Cx}
end
end L2
namespace L2
open PySem PySem.Spec PyProof.Rows
section
variable {κ : Type} [DecidableEq κ]
def valV (kvs : List (κ × V)) (k : κ) : Option V:=(kvs.find? fun kv => decide (kv.1 = k)).map (·.2)
def putK (kvs : List (κ × V)) (k : κ) (v : V) : List (κ × V) :=
 if (kvs.any fun kv => decide (kv.1 = k)) = true then kvs.map (fun kv => if kv.1 = k then (kv.1,v) else kv) else kvs ++ [(k,v)]
theorem valV_pos {p : κ × V} {r : List (κ × V)} {k : κ} (e : p.1 = k) : valV (p :: r) k = some p.2:=by simp [valV,List.find?_cons,e]
theorem valV_neg {p : κ × V} {r : List (κ × V)} {k : κ} (e : ¬ p.1 = k) : valV (p :: r) k = valV r k:=by simp [valV,List.find?_cons,e]
theorem valV_any (k : κ) : ∀ kvs : List (κ × V),(kvs.any fun kv => decide (kv.1 = k)) = (valV kvs k).isSome
 | [] => rfl
 | p :: r => by
   rw [List.any_cons]
   by_cases e : p.1 = k
   · simp only [valV_pos e,decide_eq_true e,Bool.true_or,Option.isSome_some]
   · rw [valV_neg e,decide_eq_false e,Bool.false_or]; exact valV_any k r
theorem valV_map (k j : κ) (y : V) : ∀ kvs : List (κ × V),valV (kvs.map fun kv => if kv.1 = k then (kv.1,y) else kv) j = (valV kvs j).map fun x => if j = k then y else x
 | [] => rfl
 | p :: r => by
   have ih:=valV_map k j y r
   rw [List.map_cons]
   by_cases h : p.1 = k
   · rw [if_pos h]
     by_cases e : p.1 = j
     · rw [valV_pos (p:=(p.1,y)) e,valV_pos e,Option.map_some,if_pos (e.symm.trans h)]
     · rw [valV_neg (p:=(p.1,y)) e,valV_neg e,ih]
   · rw [if_neg h]
     by_cases e : p.1 = j
     · rw [valV_pos (p:=p) e,valV_pos e,Option.map_some,if_neg (fun z => h (e.trans z))]
     · rw [valV_neg (p:=p) e,valV_neg e,ih]
theorem valV_snoc (k j : κ) (y : V) : ∀ kvs : List (κ × V),valV kvs k = none→valV (kvs ++ [(k,y)]) j = if j = k then some y else valV kvs j
 | [],_ => by
   by_cases e : k = j
   · rw [if_pos e.symm]; exact valV_pos (p:=(k,y)) e
   · rw [if_neg (fun z => e z.symm)]; exact valV_neg (p:=(k,y)) e
 | p :: r,hn => by
   rw [List.cons_append]
   have hk : ¬ p.1 = k:=fun z => by rw [valV_pos z] at hn; cases hn
   rw [valV_neg hk] at hn
   have ih:=valV_snoc k j y r hn
   by_cases e : p.1 = j
   · rw [valV_pos e,valV_pos e,if_neg (fun z => hk (e.trans z))]
   · rw [valV_neg e,valV_neg e,ih]
theorem valV_put (kvs : List (κ × V)) (k j : κ) (y : V) : valV (putK kvs k y) j = if j = k then some y else valV kvs j:=by
 unfold putK
 by_cases a : (kvs.any fun kv => decide (kv.1 = k)) = true
 · rw [if_pos a,valV_map]
   rw [valV_any] at a
   by_cases e : j = k
   · obtain ⟨x,hx⟩:=Option.isSome_iff_exists.mp a
     rw [if_pos e,e,hx,Option.map_some,if_pos rfl]
   · rw [if_neg e]
     cases valV kvs j with
     | none => rfl
     | some x => rw [Option.map_some,if_neg e]
 · rw [if_neg a]
   refine valV_snoc k j y kvs ?_
   rw [valV_any] at a
   cases q : valV kvs k with
   | none => rfl
   | some x => rw [q] at a; exact (a rfl).elim
theorem length_putK (kvs : List (κ × V)) (k : κ) (v : V) : (putK kvs k v).length ≤ kvs.length + 1:=by
 unfold putK
 split
 · rw [List.length_map]; omega
 · rw [List.length_append,List.length_cons,List.length_nil]; omega
theorem putK_new {kvs : List (κ × V)} {k : κ} (v : V) (h : valV kvs k = none) : putK kvs k v = kvs ++ [(k,v)]:=by
 unfold putK
 rw [valV_any,h]
 exact if_neg (by decide)
theorem RelO.isSome_eq {o : Option V} {u : Option Value} (r : RelO o u) : o.isSome = u.isSome:=by
 cases o with
 | none => cases u with
   | none => rfl
   | some _ => exact (show False from r).elim
 | some _ => cases u with
   | none => exact (show False from r).elim
   | some _ => rfl
theorem RelO.getD {o : Option V} {u : Option Value} {d : V} {d' : Value} (r : RelO o u) (rd : RelV d d') : RelV (o.getD d) (u.getD d'):=by
 cases o with
 | none => cases u with
   | none => exact rd
   | some _ => exact (show False from r).elim
 | some _ => cases u with
   | none => exact (show False from r).elim
   | some _ => exact r
theorem KV.val {kvs : List (κ × V)} {vs : List (κ × Value)} (r : KV kvs vs) (k : κ) : RelO (valV kvs k) (valueAt vs k):=by
 unfold KV at r
 induction r with
 | nil => exact True.intro
 | @cons p q ps qs h t ih =>
   obtain ⟨h1,h2⟩:=h
   by_cases e : p.1 = k
   · have e' : q.1 = k:=h1.symm.trans e
     have b : valueAt (q :: qs) k = some q.2:=by simp [valueAt,List.find?_cons,e']
     rw [valV_pos e,b]; exact h2
   · have e' : ¬ q.1 = k:=fun z => e (h1.trans z)
     have b : valueAt (q :: qs) k = valueAt qs k:=by simp [valueAt,List.find?_cons,e']
     rw [valV_neg e,b]; exact ih
theorem KV.any {kvs : List (κ × V)} {vs : List (κ × Value)} (r : KV kvs vs) (k : κ) : (kvs.any fun kv => decide (kv.1 = k)) = vs.any fun kv => decide (kv.1 = k):=by
 unfold KV at r
 induction r with
 | nil => rfl
 | cons h t ih => rw [List.any_cons,List.any_cons,ih,h.1]
theorem KV.repl {kvs : List (κ × V)} {vs : List (κ × Value)} (r : KV kvs vs) (k : κ) {y : V} {u : Value} (ry : RelV y u) :
   KV (kvs.map fun kv => if kv.1 = k then (kv.1,y) else kv) (vs.map fun kv => if kv.1 = k then (kv.1,u) else kv):=by
 unfold KV at r ⊢
 induction r with
 | nil => exact .nil
 | @cons p q ps qs h t ih =>
   rw [List.map_cons,List.map_cons]
   refine .cons ?_ ih
   obtain ⟨h1,h2⟩:=h
   by_cases e : p.1 = k
   · rw [if_pos e,if_pos (h1.symm.trans e)]; exact ⟨h1,ry⟩
   · rw [if_neg e,if_neg (fun z => e (h1.trans z))]; exact ⟨h1,h2⟩
theorem KV.put {kvs : List (κ × V)} {vs : List (κ × Value)} (r : KV kvs vs) (k : κ) {y : V} {u : Value} (ry : RelV y u) : KV (putK kvs k y) (stored vs k u):=by
 unfold putK stored
 rw [r.any k]
 by_cases e : (vs.any fun kv => decide (kv.1 = k)) = true
 · rw [if_pos e,if_pos e]; exact r.repl k ry
 · rw [if_neg e,if_neg e]; exact Paired.snoc r ⟨rfl,ry⟩
theorem KV.length {kvs : List (κ × V)} {vs : List (κ × Value)} (r : KV kvs vs) : kvs.length = vs.length:=Paired.length r
end
theorem kV_is {P : Program} {w : World} {k : Key} {u : Value} (r : RelV (kV k) u) : (mixKind P w).is k u = true:=by
 cases k with
 | inl i => obtain ⟨t,e⟩:=(show ∃ t,u = Value.int i t from r); subst e; exact mixKind_int P w i t
 | inr x => obtain ⟨t,e⟩:=(show ∃ t,u = Value.str x t from r); subst e; exact mixKind_str P w x t
theorem items_are {P : Program} {w : World} : ∀ {ks : List Key} {us : List Value},Vals (ks.map kV) us→ItemsAre (mixKind P w) ks us
 | [],_,r => by rw [List.map_nil] at r; cases r; exact .nil
 | k :: ks,_,r => by
   rw [List.map_cons] at r
   cases r with
   | cons h t => exact .cons (kV_is h) (items_are t)
abbrev KT (H : Hp) : List (List Key × V)→List (List Key × Addr × Value)→Prop:=Paired fun p q => p.1 = q.1∧H q.2.1 = some (.tup (p.1.map kV))∧RelV p.2 q.2.2
theorem KT.val {H : Hp} {kvs : List (List Key × V)} {xs : List (List Key × Addr × Value)} (r : KT H kvs xs) (k : List Key) : RelO (valV kvs k) ((atKey xs k).map (·.2)):=by
 induction r with
 | nil => exact True.intro
 | @cons p q ps qs h t ih =>
   obtain ⟨h1,_,h2⟩:=h
   by_cases e : p.1 = k
   · have e' : q.1 = k:=h1.symm.trans e
     have b : atKey (q :: qs) k = some q.2:=by simp [atKey,List.find?_cons,e']
     rw [valV_pos e,b]; exact h2
   · have e' : ¬ q.1 = k:=fun z => e (h1.trans z)
     have b : atKey (q :: qs) k = atKey qs k:=by simp [atKey,List.find?_cons,e']
     rw [valV_neg e,b]; exact ih
theorem KT.repl {H : Hp} {kvs : List (List Key × V)} {xs : List (List Key × Addr × Value)} (r : KT H kvs xs) (k : List Key) {y : V} {u : Value} (ry : RelV y u) :
   KT H (kvs.map fun kv => if kv.1 = k then (kv.1,y) else kv) (xs.map (putAt k u)):=by
 induction r with
 | nil => exact .nil
 | @cons p q ps qs h t ih =>
   rw [List.map_cons,List.map_cons]
   refine .cons ?_ ih
   obtain ⟨h1,h2,h3⟩:=h
   unfold putAt
   by_cases e : p.1 = k
   · rw [if_pos e,if_pos (h1.symm.trans e)]; exact ⟨h1,h2,ry⟩
   · rw [if_neg e,if_neg (fun z => e (h1.trans z))]; exact ⟨h1,h2,h3⟩
theorem KT.put {H : Hp} {kvs : List (List Key × V)} {xs : List (List Key × Addr × Value)} (r : KT H kvs xs) (k : List Key) {b : Addr} {y : V} {u : Value} (hb : H b = some (.tup (k.map kV))) (ry : RelV y u) :
   KT H (putK kvs k y) (storedH xs k b u):=by
 have e : (kvs.any fun kv => decide (kv.1 = k)) = (atKey xs k).isSome:=by
   rw [valV_any,(r.val k).isSome_eq,Option.isSome_map]
 unfold putK storedH
 rw [e]
 by_cases q : (atKey xs k).isSome = true
 · rw [if_pos q,if_pos q]; exact r.repl k ry
 · rw [if_neg q,if_neg q]; exact Paired.snoc r ⟨rfl,hb,ry⟩
theorem KT.keeps {H H' : Hp} {kvs : List (List Key × V)} {xs : List (List Key × Addr × Value)} (r : KT H kvs xs) (ht : ∀ b ys,H b = some (.tup ys)→H' b = some (.tup ys)) : KT H' kvs xs :=
 Paired.mapP r fun _ _ z => ⟨z.1,ht _ _ z.2.1,z.2.2⟩
section
variable {P : Program} {w : World} {H : Hp} {h : Heap} {a : Addr}
theorem rd_of {u : HO} (ok : HOk P w H h) (e : Rd H a u) : ObjOk P w H h a u:=e.ok ok
theorem dk_rd {kvs : List (Key × V)} (ok : HOk P w H h) (e : Rd H a (.dK kvs)) : kvs.length ≤ sizeLine∧(a == sysModules) = false∧∃ vs,KV kvs vs∧h.DictOf (mixKind P w) a vs :=
 show ObjOk P w H h a (.dK kvs) from rd_of ok e
theorem dk_of {kvs : List (Key × V)} (ok : HOk P w H h) (e : H a = some (.dK kvs)) : kvs.length ≤ sizeLine∧(a == sysModules) = false∧∃ vs,KV kvs vs∧h.DictOf (mixKind P w) a vs:=dk_rd ok (.inl e)
theorem key_of {ks : List Key} (ok : HOk P w H h) (e : H a = some (.tup (ks.map kV))) : (tupleKind (mixKind P w)).is h ks a:=by
 obtain ⟨_,its,r,o,h1,h2,n,h3⟩:=(show ObjOk P w H h a (.tup (ks.map kV)) from ok a _ e)
 exact ⟨o,its.toArray,n,h1,h2,h3,by simpa using items_are r⟩
theorem dt_rd {kvs : List (List Key × V)} (ok : HOk P w H h) (e : Rd H a (.dT kvs)) : kvs.length ≤ sizeLine∧(a == sysModules) = false ∧
   ∃ xs,KT H kvs xs∧h.DictOfH (tupleKind (mixKind P w)) a xs:=by
 obtain ⟨z,y,xs,r,o,es,ep,h1,h2,h3,h4,h5⟩:=(show ObjOk P w H h a (.dT kvs) from rd_of ok e)
 refine ⟨z,y,xs,r,o,es,ep,h1,h2,h3,h4,fun x hx => ?_,h5⟩
 have all : ∀ {l : List (List Key × V)} {m : List (List Key × Addr × Value)},KT H l m→∀ x ∈ m,(tupleKind (mixKind P w)).is h x.1 x.2.1:=by
   intro l m q
   induction q with
   | nil => intro x hx; exact nomatch hx
   | @cons p q ps qs hq t ih =>
     intro x hx
     rcases List.mem_cons.mp hx with e | hx
     · subst e
       exact key_of ok (by rw [← hq.1]; exact hq.2.1)
     · exact ih x hx
 exact all r x hx
theorem dt_of {kvs : List (List Key × V)} (ok : HOk P w H h) (e : H a = some (.dT kvs)) : kvs.length ≤ sizeLine∧(a == sysModules) = false ∧
   ∃ xs,KT H kvs xs∧h.DictOfH (tupleKind (mixKind P w)) a xs:=dt_rd ok (.inl e)
end
def DGet (H : Hp) (a : Addr) (y : V) (r : Option V) : Prop :=
 (∃ kvs k,Rd H a (.dK kvs)∧y = kV k∧r = valV kvs k) ∨ ∃ kvs k b,Rd H a (.dT kvs)∧y = .ref b∧H b = some (.tup (k.map kV))∧r = valV kvs k
def DPut (H : Hp) (a : Addr) (y v : V) (H' : Hp) : Prop :=
 (∃ kvs k,H a = some (.dK kvs)∧y = kV k∧kvs.length < sizeLine∧H' = upd H a (.dK (putK kvs k v))) ∨
 ∃ kvs k b,H a = some (.dT kvs)∧y = .ref b∧H b = some (.tup (k.map kV))∧kvs.length < sizeLine∧H' = upd H a (.dT (putK kvs k v))
theorem DGet.k {H : Hp} {a : Addr} {kvs : List (Key × V)} {k : Key} (e : H a = some (.dK kvs)) : DGet H a (kV k) (valV kvs k):=.inl ⟨kvs,k,.inl e,rfl,rfl⟩
theorem DGet.t {H : Hp} {a b : Addr} {kvs : List (List Key × V)} {k : List Key} (e : H a = some (.dT kvs)) (eb : H b = some (.tup (k.map kV))) : DGet H a (.ref b) (valV kvs k):=.inr ⟨kvs,k,b,.inl e,rfl,eb,rfl⟩
theorem DPut.k {H : Hp} {a : Addr} {kvs : List (Key × V)} {k : Key} {v : V} (e : H a = some (.dK kvs)) (hl : kvs.length < sizeLine) : DPut H a (kV k) v (upd H a (.dK (putK kvs k v))):=.inl ⟨kvs,k,e,rfl,hl,rfl⟩
theorem DPut.t {H : Hp} {a b : Addr} {kvs : List (List Key × V)} {k : List Key} {v : V} (e : H a = some (.dT kvs)) (eb : H b = some (.tup (k.map kV))) (hl : kvs.length < sizeLine) :
   DPut H a (.ref b) v (upd H a (.dT (putK kvs k v))):=.inr ⟨kvs,k,b,e,rfl,eb,hl,rfl⟩
section
variable {X : Cx} {pins : List (Addr × Obj)} {σ : St} {H : Hp} {s : Shared} {a : Addr} {y v : V} {u r : Value} {o : Option V} {A : Around} {E : Value→Shared→Prop}
theorem Inv.big (I : Inv X pins σ H s) : sysModules < s.heap.objs.size:=by
 have h : mainGlobals < s.heap.objs.size:=(I.mod.glob.keeps I.bk).lt
 exact Nat.lt_trans (by decide) h
theorem d_getItem {Q : Value→Shared→Prop} (hu : A.units + 1 < cLine) (I : Inv X pins σ H s) (g : DGet H a y (some v)) (ry : RelV y u) (h : ∀ w' s',Inv X pins σ H s'→RelV v w'→Q w' s') :
   wpAny (model X.prog X.w) A (getItem (.ref a) u) Q E s:=by
 rcases g with ⟨kvs,k,e,ey,l⟩ | ⟨kvs,k,b,e,ey,eb,l⟩
 · subst ey
   obtain ⟨z,hd,vs,rel,dd⟩:=dk_rd I.hok e
   obtain ⟨w',hw,rw'⟩:=RelO.some_of (v:=v) (o:=valueAt vs k) (by rw [l]; exact rel.val k)
   exact wpAny_getItem_of (kV_is ry) dd.mapOf hw (h w' _ (I.tok _) rw')
 · subst ey
   cases (show u = Value.ref b from ry)
   obtain ⟨z,hd,xs,rel,dd⟩:=dt_rd I.hok e
   obtain ⟨w',hw,rw'⟩:=RelO.some_of (v:=v) (o:=(atKey xs k).map (·.2)) (by rw [l]; exact rel.val k)
   obtain ⟨p,hp,hp2⟩:=Option.map_eq_some_iff.mp hw
   refine wpAny_getItem_heap (tupleKind_room_in1 hu) (key_of I.hok eb) dd hp ?_
   rw [hp2]
   exact h w' _ (I.tok _) rw'
theorem d_write {h' : Heap} {t' : Nat} {ob : HO} (I : Inv X pins σ H s) (mu : Mut (H a)) (hs : Heap.SameBut a s.heap h') (he : ∃ q,h'.get? a = some q) (new : ObjOk X.prog X.w (upd H a ob) h' a ob) :
   Inv X pins σ (upd H a ob) { s with heap:=h',toks:=t' } :=
 I.write (x:=a) (e:=a) mu (.inl rfl) (fun b q hb z => (hs.2 b hb).trans z) he new
theorem dk_new {P : Program} {w : World} {H' : Hp} {h' : Heap} {kvs : List (Key × V)} {vs : List (Key × Value)} (z : kvs.length ≤ sizeLine) (hd : (a == sysModules) = false) (rel : KV kvs vs) (dd : h'.DictOf (mixKind P w) a vs) :
   ObjOk P w H' h' a (.dK kvs):=⟨z,hd,vs,rel,dd⟩
theorem d_setItem {H' : Hp} {Q : Unit→Shared→Prop} (hu : A.units + 1 < cLine) (I : Inv X pins σ H s) (g : DPut H a y v H') (ry : RelV y u) (rv : RelV v r) (h : ∀ s',Inv X pins σ H' s'→Q () s') :
   wpAny (model X.prog X.w) A (setItem (.ref a) u r) Q E s:=by
 rcases g with ⟨kvs,k,e,ey,l,eH⟩ | ⟨kvs,k,b,e,ey,eb,l,eH⟩
 · subst ey eH
   obtain ⟨z,hd,vs,rel,dd⟩:=dk_of I.hok e
   have hz : vs.length ≤ sizeLine:=by rw [← rel.length]; exact z
   have hl : (putK kvs k v).length ≤ sizeLine:=by have:=length_putK kvs k v; omega
   refine wpAny_setItem_pairs (hsz:=hz) (kV_is ry) dd fun h' dd' hs => h _ ?_
   have he : ∃ q,h'.get? a = some q:=let ⟨q,_,_,hq,_⟩:=dd'; ⟨q,hq⟩
   exact d_write I (by rw [e]; exact True.intro) hs he (dk_new hl hd (rel.put k rv) dd')
 · subst ey eH
   cases (show u = Value.ref b from ry)
   obtain ⟨z,hd,xs,rel,dd⟩:=dt_of I.hok e
   have hz : xs.length ≤ sizeLine:=by rw [← Paired.length rel]; exact z
   have hl : (putK kvs k v).length ≤ sizeLine:=by have:=length_putK kvs k v; omega
   refine wpAny_setItem_heap (hsz:=hz) (tupleKind_room_in1 hu) (key_of I.hok eb) dd fun h' dd' hs => h _ ?_
   obtain ⟨q,es,ep,hq,h2,h3,h4,_,h5⟩:=dd'
   refine d_write I (by rw [e]; exact True.intro) hs ⟨q,hq⟩ ⟨hl,hd,_,(rel.put k eb rv).keeps fun c ys ec => ?_,q,es,ep,hq,h2,h3,h4,h5⟩
   rw [upd_ne (ne_of ec e (fun z => nomatch z))]
   exact ec
end
section
variable {X : Cx} {pins : List (Addr × Obj)} {σ : St} {H : Hp} {s : Shared} {a : Addr} {kvs : List (Key × V)} {k : Key} {u : Value} {A : Around} {E : Value→Shared→Prop}
end
def NoSl (i : Expr) : Prop:=∀ ov iv,subscripted i false ov iv = operate [ov,iv] (getItem ov iv)
theorem subD_of {prog : Program} {w : World} {A : Around} {E : Value→Shared→Prop} {s : Shared} {env : Env} {value slice : Expr} {pos : Pos} {T id : String} {Q : Value→Shared→Prop}
   (hl : typeLookup (.type T) "__getitem__" = pure (some (.builtin id))) (hs : NoSl slice)
   (h : wpAny (model prog w) A (eval value env) (fun o s₁ => wpAny (model prog w) A (eval slice env) (fun i s₂ => s₂.TypeIs o T∧wpAny (model prog w) A (getItem o i) Q E s₂) E s₁) E s) :
   wpAny (model prog w) A (eval (.Subscript value slice pos) env) Q E s:=by
 refine Subscript_ (wpAny_mono h (fun o s₁ h₁ => wpAny_mono h₁ (fun i s₂ h₂ => ?_) fun _ _ x => x) fun _ _ x => x)
 obtain ⟨hT,h₂⟩:=h₂
 unfold subscriptTail
 refine wpAny_bind ?_
 rw [getitemInPython_of_ne hT.not_modules]
 refine wpAny_bind (wpAny_specialOf hT hl ?_)
 have fin : wpAny (model prog w) A (subscripted slice false o i) (fun r s₃ => wpAny (model prog w) A (letTemporaryGo value o r >>= fun _ => pure r) Q E s₃) E s₂:=by
   rw [hs o i]
   exact wpAny_operating (wpAny_mono h₂ (fun r s₃ h₃ => wpAny_bind (wpAny_letTemporaryGo (wpAny_pure h₃))) fun _ _ x => x)
 first
   | exact wpAny_pure (wpAny_bind fin)
   | exact wpAny_bind (wpAny_pure (wpAny_bind fin))
   | exact wpAny_bind fin
theorem dict_typeIs {X : Cx} {pins : List (Addr × Obj)} {σ : St} {H : Hp} {s : Shared} {a : Addr} {y : V} {o : Option V} (I : Inv X pins σ H s) (g : DGet H a y o) : s.TypeIs (.ref a) "dict":=by
 rcases g with ⟨kvs,k,e,_,_⟩ | ⟨kvs,k,b,e,_,_,_⟩
 · obtain ⟨_,_,vs,_,dd⟩:=dk_rd I.hok e
   exact dd.typeIs
 · obtain ⟨_,_,xs,_,dd⟩:=dt_rd I.hok e
   exact dd.typeIs
def tDGet (td ty : TE) : TE:=fun σ H Q => td σ H fun x H1 => ty σ H1 fun y H2 => ∃ a v,x = .ref a∧DGet H2 a y (some v)∧Q v H2
def sDPut (td ty tv : TE) : TS:=fun D σ H => tv σ H fun v H1 => td σ H1 fun x H2 => ty σ H2 fun y H3 => ∃ a H4,x = .ref a∧DPut H3 a y v H4∧D.nx σ H4
section
variable {X : Cx} {o i e value : Expr} {pos pos' tpos : Pos} {td ty tv : TE}
theorem pe_dget (hu : X.A.units + 1 < cLine) (ho : PE X o td) (hi : PE X i ty) (hs : NoSl i) : PE X (.Subscript o i pos) (tDGet td ty):=by
 intro pins s σ H Q I h
 refine subD_of PySem.F.slot_dict_getitem.lookup hs (thn (ho pins s σ H _ I h) fun u s1 ⟨x,H1,I1,rx,q1⟩ => thn (hi pins s1 σ H1 _ I1 q1) fun iv s2 ⟨y,H2,I2,ry,a,v,ex,g,q2⟩ => ?_)
 subst ex
 obtain rfl : u = Value.ref a:=rx
 exact ⟨dict_typeIs I2 g,d_getItem hu I2 g ry fun w' s3 I3 rw' => ⟨v,H2,I3,rw',q2⟩⟩
theorem ps_dput (hu : X.A.units + 1 < cLine) (ho : PE X o td) (hi : PE X i ty) (hv : PE X value tv) (hs : swapsWith value (some (.Subscript o i pos')) pos.line X.env = pure false) :
   PS X (.Assign [.Subscript o i pos'] value pos) (sDPut td ty tv):=by
 intro pins s σ H D I h
 refine wpAny_Assign_Subscript (thn (hv pins s σ H _ I h) fun r s1 ⟨v,H1,I1,rv,q1⟩ => thn (ho pins s1 σ H1 _ I1 q1) fun u s2 ⟨x,H2,I2,rx,q2⟩ => thn (hi pins s2 σ H2 _ I2 q2) fun iv s3 ⟨y,H3,I3,ry,a,H4,ex,g,q3⟩ => ?_) hs
 subst ex
 obtain rfl : u = Value.ref a:=rx
 exact d_setItem hu I3 g ry rv fun s4 I4 => ⟨σ,H4,I4,q3⟩
end
theorem dk_empty {P : Program} {w : World} {H : Hp} (h : Heap) (hb : sysModules < h.objs.size) : ObjOk P w H (h.push { cls:=.type "dict",data:=.dict #[] }) h.objs.size (.dK []) :=
 ⟨Nat.zero_le _,beq_eq_false_iff_ne.mpr (Ne.symm (Nat.ne_of_lt hb)),[],.nil,Heap.DictOf.new h⟩
theorem dt_empty {P : Program} {w : World} {H : Hp} (h : Heap) (hb : sysModules < h.objs.size) : ObjOk P w H (h.push { cls:=.type "dict",data:=.dict #[] }) h.objs.size (.dT []) :=
 ⟨Nat.zero_le _,beq_eq_false_iff_ne.mpr (Ne.symm (Nat.ne_of_lt hb)),[],.nil,_,#[],0,Heap.get?_push_size _ rfl,⟨rfl,rfl,rfl⟩,rfl,rfl,List.nodup_nil⟩
def tDNewT : TE:=fun _ H Q => ∀ p,H p = none→Q (.ref p) (upd H p (.dT []))
section
variable {X : Cx} {pos : Pos}
theorem pe_dnewT : PE X (.Dict [] [] pos) tDNewT:=fun pins s σ H Q I h =>
 wpAny_Dict_empty ⟨.ref s.heap.objs.size,_,I.laid (a:=s.heap.objs.size) (o:=.dT []) (t':=s.toks) (fun _ _ q => Heap.get?_push_of_some _ q) (Nat.le_refl _) (dt_empty s.heap I.big),rfl,h _ (I.hok.fresh (Nat.le_refl _))⟩
end
def tPairs : List (TE × TE)→St→Hp→(List (V × V)→Hp→Prop)→Prop
 | [],_,H,Q => Q [] H
 | (tk,tv) :: r,σ,H,Q => tk σ H fun x H1 => tv σ H1 fun y H2 => tPairs r σ H2 fun ps H3 => Q ((x,y) :: ps) H3
abbrev VV : List (V × V)→List (Value × Value)→Prop:=Paired fun p q => RelV p.1 q.1∧RelV p.2 q.2
def PPs (X : Cx) (pos : Pos) (keys : List (Option Expr)) (values : List Expr) (trs : List (TE × TE)) : Prop :=
 ∀ (pins : List (Addr × Obj)) (s : Shared) (σ : St) (H : Hp) (Q : List (V × V)→Hp→Prop),Inv X pins σ H s→tPairs trs σ H Q →
   wpAny (model X.prog X.w) X.A (evalPairs (pairTrees keys values X.env pos)) (fun vs s' => ∃ ps H',Inv X pins σ H' s'∧VV ps vs∧Q ps H') X.xe s
theorem pps_nil {X : Cx} {pos : Pos} : PPs X pos [] [] []:=fun pins s σ H Q I h => pairTrees_nil_walk ⟨[],H,I,.nil,h⟩
theorem pps_cons {X : Cx} {pos : Pos} {k v : Expr} {ks : List (Option Expr)} {vs : List Expr} {tk tv : TE} {trs : List (TE × TE)} (hk : PE X k tk) (hv : PE X v tv) (hr : PPs X pos ks vs trs) :
   PPs X pos (some k :: ks) (v :: vs) ((tk,tv) :: trs):=fun pins s σ H Q I h =>
 pairTrees_cons_walk (thn (hk pins s σ H _ I h) fun u s1 ⟨x,H1,I1,rx,q1⟩ => thn (hv pins s1 σ H1 _ I1 q1) fun w2 s2 ⟨y,H2,I2,ry,q2⟩ =>
   thn (hr pins s2 σ H2 _ I2 q2) fun ws s3 ⟨ps,H3,I3,rel,q3⟩ => ⟨(x,y) :: ps,H3,I3,.cons ⟨rx,ry⟩ rel,q3⟩)
def mergeK (kvs more : List (Key × V)) : List (Key × V):=more.foldl (fun acc kv => putK acc kv.1 kv.2) kvs
theorem KV.merge : ∀ {more : List (Key × V)} {rs : List (Key × Value)} {kvs : List (Key × V)} {vs : List (Key × Value)},KV more rs→KV kvs vs→KV (mergeK kvs more) (merged vs rs):=by
 intro more rs kvs vs r
 unfold KV at r
 induction r generalizing kvs vs with
 | nil => intro q; exact q
 | @cons p q ps qs h t ih =>
   intro r0
   have e : KV (putK kvs p.1 p.2) (stored vs q.1 q.2):=by
     have:=r0.put p.1 h.2
     rw [← h.1]; exact this
   exact ih e
theorem length_mergeK : ∀ (more kvs : List (Key × V)),(mergeK kvs more).length ≤ kvs.length + more.length
 | [],kvs => by show kvs.length ≤ kvs.length + 0; omega
 | p :: r,kvs => by
   have h1:=length_mergeK r (putK kvs p.1 p.2)
   have h2:=length_putK kvs p.1 p.2
   show (mergeK (putK kvs p.1 p.2) r).length ≤ _
   rw [List.length_cons]; omega
theorem carries_of {P : Program} {w : World} : ∀ {kvs : List (Key × V)} {ws : List (Value × Value)},VV (kvs.map fun kv => (kV kv.1,kv.2)) ws→∃ rs,Carries (mixKind P w) ws rs∧KV kvs rs
 | [],_,r => by rw [List.map_nil] at r; cases r; exact ⟨[],True.intro,.nil⟩
 | p :: kvs,_,r => by
   rw [List.map_cons] at r
   cases r with
   | @cons a b as bs h t =>
     obtain ⟨rs,c,q⟩:=carries_of (P:=P) (w:=w) t
     obtain ⟨b1,b2⟩:=b
     exact ⟨(p.1,b2) :: rs,⟨kV_is h.1,rfl,c⟩,.cons ⟨rfl,h.2⟩ q⟩
def tDisp (trs : List (TE × TE)) : TE:=fun σ H Q => ∀ p,H p = none→tPairs trs σ (upd H p (.dK [])) fun ps H2 => H2 p = some (.dK [])∧∃ kvs : List (Key × V),ps = kvs.map (fun kv => (kV kv.1,kv.2))∧kvs.length ≤ 15∧Q (.ref p) (upd H2 p (.dK (mergeK [] kvs)))
theorem pe_disp {X : Cx} {pos : Pos} {keys : List (Option Expr)} {values : List Expr} {trs : List (TE × TE)} (h : PPs X pos keys values trs) (hall : keys.all (·.isSome) = true) (hl : keys.length = values.length) (h0 : keys ≠ [])
   (h15 : keys.length ≤ 15) : PE X (.Dict keys values pos) (tDisp trs):=by
 intro pins s σ H Q I q
 have hn:=I.hok.fresh (Nat.le_refl s.heap.objs.size)
 have I1:=I.laid (a:=s.heap.objs.size) (o:=.dK []) (h':=s.heap.push { cls:=.type "dict",data:=.dict #[] }) (t':=s.toks) (fun _ _ q => Heap.get?_push_of_some _ q) (Nat.le_refl _) (dk_empty s.heap I.big)
 refine wpAny_Dict_walk (knd:=mixKind X.prog X.w) hall hl h0 h15 (thn (h pins _ σ _ _ I1 (q _ hn)) fun ws s2 ⟨ps,H2,I2,rel,e,kvs,ep,lk,q2⟩ => ?_)
 subst ep
 obtain ⟨rs,c,rk⟩:=carries_of (P:=X.prog) (w:=X.w) rel
 obtain ⟨z,hd,vs0,r0,dd⟩:=dk_of I2.hok e
 cases r0
 refine ⟨rs,c,dd,fun h' dd' hs => ⟨.ref s.heap.objs.size,_,?_,rfl,q2⟩⟩
 have hz : (mergeK [] kvs).length ≤ sizeLine:=by
   have h1:=length_mergeK kvs []
   rw [List.length_nil] at h1
   rw [sizeLine_eq]; omega
 have he : ∃ q,h'.get? s.heap.objs.size = some q:=let ⟨q,_,_,hq,_⟩:=dd'; ⟨q,hq⟩
 exact d_write I2 (by rw [e]; exact True.intro) hs he (dk_new hz hd (rk.merge .nil) dd')
structure M2 (X : Cx) (o : Expr) (m : Str) (apos : Pos) (e f : Expr) (cpos : Pos) : Prop where
 base : attributeBase o m X.env (eval o X.env) = eval o X.env
 few : ((backTo cpos (starEach [e,f] X.env)).all (fun x => !x.1) && (backToKw cpos (keywordEach [] X.env)).all (fun x => x.1.isSome)
   && decide (([e,f] : List Expr).length + ([] : List Keyword).length + (if ([] : List Keyword).isEmpty then 0 else 1) < 30)) = true
 line : (apos.endLine == cpos.line) = true
 trees : backTo cpos (starEach [e,f] X.env) = [(false,eval e X.env),(false,eval f X.env)]
def IsD (H : Hp) (a : Addr) : Prop:=(∃ kvs,Rd H a (.dK kvs)) ∨ ∃ kvs,Rd H a (.dT kvs)
theorem isD_at {X : Cx} {pins : List (Addr × Obj)} {σ : St} {H : Hp} {s : Shared} {a : Addr} (I : Inv X pins σ H s) (d : IsD H a) :
   s.TypeIs (.ref a) "dict"∧(∀ b,Value.ref a = .ref b→∃ ob,s.heap.get? b = some ob∧ob.dict = none)∧(a == sysModules) = false:=by
 rcases d with ⟨kvs,e⟩ | ⟨kvs,e⟩
 · obtain ⟨_,hd,vs,_,dd⟩:=dk_rd I.hok e
   refine ⟨dd.typeIs,fun b q => ?_,hd⟩
   cases q
   obtain ⟨ob,_,_,h1,h2,_⟩:=dd
   exact ⟨ob,h1,h2.2.1⟩
 · obtain ⟨_,hd,xs,_,dd⟩:=dt_rd I.hok e
   refine ⟨dd.typeIs,fun b q => ?_,hd⟩
   cases q
   obtain ⟨ob,_,_,h1,h2,_⟩:=dd
   exact ⟨ob,h1,h2.2.1⟩
section
variable {X : Cx} {pins : List (Addr × Obj)} {σ : St} {H : Hp} {s : Shared} {a : Addr} {y d : V} {u r : Value} {o : Option V} {A : Around} {E : Value→Shared→Prop}
theorem d_get2 {Q : Value→Shared→Prop} (hu : A.units + 1 < cLine) (I : Inv X pins σ H s) (g : DGet H a y o) (ry : RelV y u) (rd : RelV d r) (h : ∀ w' s',Inv X pins σ H s'→RelV (o.getD d) w'→Q w' s') :
   wpAny (model X.prog X.w) A (call (.builtin "dict.get") [.ref a,u,r]) Q E s:=by
 rcases g with ⟨kvs,k,e,ey,l⟩ | ⟨kvs,k,b,e,ey,eb,l⟩
 · subst ey
   obtain ⟨z,hd,vs,rel,dd⟩:=dk_rd I.hok e
   refine call_meetsIn PySem.F.slot_dict_get dd.typeIs PySem.F.entry_dict_get (PySem.F.args_dict_get_3 _ _ _) (meets_dict_get_default (mixKind X.prog X.w) a (kV_is ry) hd r) ⟨_,dd.mapOf,h _ _ (I.tok _) ?_⟩
   rw [l]
   exact (rel.val k).getD rd
 · subst ey
   cases (show u = Value.ref b from ry)
   obtain ⟨z,hd,xs,rel,dd⟩:=dt_rd I.hok e
   refine call_meetsIn PySem.F.slot_dict_get dd.typeIs PySem.F.entry_dict_get (PySem.F.args_dict_get_3 _ _ _) (meetsH_dict_get_default (tupleKind (mixKind X.prog X.w)) a b hd r) ⟨tupleKind_room_in1 hu,k,xs,key_of I.hok eb,dd,h _ _ (I.tok _) ?_⟩
   rw [l]
   exact (rel.val k).getD rd
end
def tDGet2 (td ty tx : TE) : TE:=fun σ H Q => td σ H fun x H1 => ∃ a,x = .ref a∧IsD H1 a∧ty σ H1 fun y H2 => tx σ H2 fun z H3 => ∃ o,DGet H3 a y o∧Q (o.getD z) H3
section
variable {X : Cx} {o e f : Expr} {apos cpos : Pos} {td ty tx : TE}
theorem pe_dget2 (hu : X.A.units + 1 < cLine) (ho : PE X o td) (he : PE X e ty) (hf : PE X f tx) (m : M2 X o "get" apos e f cpos) : PE X (.Call (.Attribute o "get" apos) [e,f] [] cpos) (tDGet2 td ty tx):=by
 intro pins s σ H Q I h
 refine wpAny_Call_method m.base m.few m.line PySem.F.plainAttrs_dict PySem.F.slot_dict_get PySem.F.type_dict_get (thn (ho pins s σ H _ I h) fun u s1 ⟨x,H1,I1,rx,a,ex,d,q1⟩ => ?_)
 subst ex
 obtain rfl : u = Value.ref a:=rx
 obtain ⟨t1,t2,_⟩:=isD_at I1 d
 refine ⟨t1,t2,?_⟩
 rw [m.trees]
 refine Calls.callWith_builtin rfl (Calls.evalArgs_plain (Calls.spliced_cons (thn (he pins s1 σ H1 _ I1 q1) fun iv s2 ⟨y,H2,I2,ry,q2⟩ =>
   Calls.spliced_cons (thn (hf pins s2 σ H2 _ I2 q2) fun fv s3 ⟨z,H3,I3,rz,ov,g,q3⟩ => Calls.spliced_nil ?_))))
 exact d_get2 hu I3 g ry rz fun w' s4 I4 rw' => ⟨_,H3,I4,rw',q3⟩
end
section
variable {X : Cx} {pins : List (Addr × Obj)} {σ : St} {H : Hp} {s : Shared} {a : Addr} {kvs : List (Key × V)} {A : Around} {E : Value→Shared→Prop}
end
section
variable {X : Cx} {pins : List (Addr × Obj)} {σ : St} {H : Hp} {s : Shared} {a : Addr} {y : V} {u : Value} {A : Around} {E : Value→Shared→Prop}
end
end L2
namespace Att
open PySem PySem.W PySem.Calls PyProof.Rows
theorem ints_of_wellAll {P : Params} {h : Heap} : ∀ (ns : List Int) (vs : List Value),WellAll P h vs (ns.map WData.int)→IntsAre vs ns:=by
 intro ns
 induction ns with
 | nil =>
   intro vs w
   rw [List.map_nil] at w
   cases w
   exact .nil
 | cons n ns ih =>
   intro vs w
   rw [List.map_cons] at w
   cases w with
   | cons a b =>
     cases a
     exact .cons _ _ (ih _ b)
theorem script_of {l : OpenLaw} {n : Nat} (hn : l.most = some n) {P : Params} {h : Heap} {args : List WData} {vals : List Value}
   (hpre : l.row.toRowW.claim.pre args = true) (hwl : WellAll P h vals args) :
   ∃ a vs ns,vals = [Value.ref a]∧args = [WData.list (ns.map WData.int)]∧h.get? a = some { cls:=.type "list",data:=.seq vs.toArray }∧IntsAre vs ns∧ns.length ≤ n:=by
 have hsh : WShape.hasAll [] args [.list .int] = true:=(pre_splitW hpre).1
 have hc : l.pre.holds [] { args:=args } = true:=(pre_splitW hpre).2
 obtain ⟨d,r,rfl,h1,h2⟩:=hasAllW_cons hsh
 obtain rfl:=hasAllW_nil h2
 obtain ⟨xs,rfl,h3⟩:=hasW_list h1
 obtain ⟨ns,rfl⟩:=items_int h3
 have hlen : ns.length ≤ n:=by
   unfold OpenLaw.pre at hc
   have h4 : (WTm.not (.lt (.lit (.int (n : Int))) (.len (.arg 0)))).holds [] { args:=[.list (ns.map .int)] } = true:=by
     have h4:=(holds_andW hc).1
     rw [hn] at h4
     exact h4
   have h5:=condW_of h4 (w_not (w_lt w_lit (w_len_list (w_arg rfl))))
   rw [List.length_map] at h5
   refine Nat.le_of_not_lt fun q => ?_
   have q' : (n : Int) < ((ns.length : Nat) : Int):=by omega
   first
     | (rw [decide_eq_true q'] at h5; exact absurd h5 (by decide))
     | (simp at h5; omega)
 cases hwl with
 | cons w1 w2 =>
   cases w2
   cases w1 with
   | list ho hall => exact ⟨_,_,ns,rfl,rfl,ho,ints_of_wellAll ns _ hall,hlen⟩
theorem post_true (l : OpenLaw) (args : List WData) : l.row.toRowW.claim.post args (.bool true) args = true :=
 postW_of (r:=l.row.toRowW) (X:=(true == true))
   (show WShape.has [] (.bool true) .bool = true by first | rfl | decide | simp [WShape.has,WShape.arms,WShape.armsAll])
   (show (WTm.eq .res (.lit (.bool true))).value [] { args:=args,res:=some (.bool true),after:=args } = some (.bool (true == true)) from w_eq_bool (w_res rfl) w_lit) rfl
section
variable {prog : Program} {w : World} {A : Around} {E : Value→Shared→Prop} {s : Shared} {K : Frag}
def noObjs (h : Heap) : Heap:={ h with objs:=#[] }
def ledger (h : Heap) (L d : Addr) : List (Addr × Obj):=(List.range h.objs.size).filterMap fun a => if a = L ∨ a = d then none else (h.get? a).map fun o => (a,o)
end
end Att
namespace L2
open PySem PySem.Spec PyProof.Rows
theorem vals_ints : ∀ {vs : List Value} {ns : List Int},IntsAre vs ns→Vals (ns.map V.int) vs
 | _,_,.nil => .nil
 | _,_,.cons n t h => .cons ⟨t,rfl⟩ (vals_ints h)
def Only (H : Hp) : Prop:=∀ b,H b = none ∨ ∃ o xs,H b = some (.frz o (.lst xs))
theorem law_call {P : Program} {w : World} {K : PySem.W.Frag} {mg mb : Str→Option Value} {CX : CXT} {k : Nat} {fa a : Addr} {fd : FuncData} {x : Str} {sp : Sp} {s₁ : Shared} {vs : List Value} {ns : List Int}
   (KX : K.In s₁.heap) (hns : s₁.heap.Ns mainGlobals mg) (hb : s₁.heap.Ns builtinsNs mb) (hbb : ∀ x : Str,x ≠ "__name__"→mb x = bootBuiltins x) (hlim : s₁.heap.NoLimit) (hg : s₁.gens = #[])
   (ha : s₁.heap.get? a = some { cls:=.type "list",data:=.seq vs.toArray }) (hi : IntsAre vs ns) (hl : ns.length ≤ sizeLine) (hr : Room k callerA)
   (F : ∀ base : Heap,K.In base→base.Ns mainGlobals mg→FnOk P w K mg base CX k fa fd [x] sp) (hbind : ∀ (s : Shared) (u : Value),BindsTo s fd ⟨[u],[]⟩ [(x,u)])
   (hsp : ∀ H : Hp,Only H→SqL K H a (ns.map V.int)→sp [.ref a] H (fun v _ => v = .bl true) fun _ _ _ => False)
   (hCX : ∀ H e s',CX [] H s₁ (fun _ _ _ => False) e s'→False) :
   codeAny (model P w) callerA (.call (.ref fa) ⟨[.ref a],[]⟩) (fun r s' => r = .ok (.ret (.bool true))∧OldK s₁.heap s'.heap∧s'.os = s₁.os∧AllBare s'.gens) s₁:=by
 have rv:=vals_ints hi
 have lenV:=hi.length
 -- from an abstract heap in which nothing but the script may be tracked
 have core : ∀ H : Hp,Only H→SqL K H a (ns.map V.int)→HOk P w H s₁.heap→(∀ b,H b ≠ none→b = a)→(H a ≠ none→K.lookup a = none) →
     codeAny (model P w) callerA (.call (.ref fa) ⟨[.ref a],[]⟩) (fun r s' => r = .ok (.ret (.bool true))∧OldK s₁.heap s'.heap∧s'.os = s₁.os∧AllBare s'.gens) s₁:=by
   intro H hO hS hok hA hK
   have base_of : ∀ {b : Addr} {o : Obj},s₁.heap.get? b = some o→H b = none→(hidT s₁.heap H).get? b = some o:=fun e n => hidT_get e n
   have noA : ∀ {b : Addr} {o : Obj} {es : Array DictEntry} {ep : Nat},s₁.heap.get? b = some o→o.data = .dict es ep→H b = none:=fun {b o es ep} e d => by
     cases q : H b with
     | none => rfl
     | some u =>
       have e' : b = a:=hA b (by rw [q]; simp)
       subst e'
       rw [ha] at e; cases e
       have d' : Data.seq vs.toArray _ = Data.dict es ep:=d
       cases d'
   have nsK : ∀ {b : Addr} {m : Str→Option Value},s₁.heap.Ns b m→(hidT s₁.heap H).Ns b m:=fun {b m} ⟨o,es,ep,e,d,r⟩ => ⟨o,es,ep,base_of e (noA e d),d,r⟩
   have hKb : K.In (hidT s₁.heap H):=fun b o e => base_of (KX b o e) (by
     cases q : H b with
     | none => rfl
     | some u =>
       have e' : b = a:=hA b (by rw [q]; simp)
       subst e'
       rw [hK (by rw [q]; simp)] at e; cases e)
   have hM : Mod K mg (hidT s₁.heap H):=⟨hKb,nsK hns,⟨mb,nsK hb,hbb⟩,let ⟨mc,h1,h2⟩:=hlim; ⟨mc,nsK h1,h2⟩⟩
   have e0 : Env0 P w K mg (hidT s₁.heap H) callerA [] s₁ H:=⟨rfl,hM,fun b o e => of_hidT e,Nat.le_of_eq (hidT_size _ _),trivial,fun b hb => absurd (show b ∈ ([] : List Addr) from hb) (by simp),hok,.of_eq hg⟩
   refine codeAny_mono ((F _ hKb (nsK hns)).run callerA [] s₁ H ⟨[.ref a],[]⟩ [.ref a] [.ref a] _ _ hr e0 (hbind s₁ (.ref a)) (.cons rfl .nil) (hsp H hO hS)) fun r s' h => ?_
   cases r with
   | error e => exact (hCX H e s' h).elim
   | ok fl =>
     cases fl with
     | next => exact False.elim h
     | brk => exact False.elim h
     | cont => exact False.elim h
     | ret u =>
       obtain ⟨v,H',os,bare,un,hok',r',q⟩:=h
       have q' : v = .bl true:=q
       subst q'
       obtain rfl : u = Value.bool true:=r'
       refine ⟨rfl,OldK.of_keep fun b o e => ?_,os,bare⟩
       cases q : H b with
       | none => exact un.keep b o e q (by intro z; exact absurd (show b ∈ ([] : List Addr) from z) (by simp)) (by simp)
       | some u =>
         rcases hO b with z | ⟨ob,xs,z⟩
         · rw [q] at z; cases z
         · have z2:=un.frzs b ob _ z
           obtain ⟨e1,_⟩:=hok b _ z
           obtain ⟨e2,_⟩:=hok' b _ z2
           rw [e] at e1; cases e1
           exact e2
 cases hk : K.lookup a with
 | some o =>
   -- the script is one of the module's own objects
   have e:=KX a o hk
   rw [ha] at e
   cases e
   refine core (fun _ => none) (fun _ => .inl rfl) (.inr ⟨_,vs.toArray,_,hk,rfl,rfl,rfl,by rw [List.size_toArray,lenV]; exact hl,by simpa using rv⟩) (fun b u z => by have z' : (none : Option HO) = some u:=z; cases z') (fun b z => absurd rfl z) fun z => absurd rfl z
 | none =>
   refine core (fun b => if b = a then some (.frz { cls:=.type "list",data:=.seq vs.toArray } (.lst (ns.map V.int))) else none) (fun b => ?_) (.inl (.inr ⟨{ cls:=.type "list",data:=.seq vs.toArray },if_pos rfl⟩)) (fun b u z => ?_) (fun b z => ?_) fun _ => hk
   · by_cases hb : b = a
     · exact .inr ⟨_,_,if_pos hb⟩
     · exact .inl (if_neg hb)
   · by_cases hb : b = a
     · have z':=(if_pos hb).symm.trans z
       cases z'
       subst hb
       exact ⟨ha,by rw [List.length_map]; exact hl,vs,_,rv,ha⟩
     · have z':=(if_neg hb).symm.trans z
       cases z'
   · by_cases hb : b = a
     · exact hb
     · exact absurd (if_neg hb) z
end L2
namespace L2
open PySem PySem.Spec PyProof.Rows
end L2
namespace L2
open PySem PySem.Spec PyProof.Rows
def inClass (s : Stmt) (j : Nat) : Stmt:=match s with
 | .ClassDef _ _ _ body _ _ _ _ _ _ _ => body.getD j (.Pass ⟨0,0,0,0⟩)
 | _ => .Pass ⟨0,0,0,0⟩
def defArgs (s : Stmt) : Arguments:=match s with
 | .FunctionDef _ a _ _ _ _ _ _ _ _ => a
 | _ => { posonlyargs:=[],args:=[],vararg:=none,kwonlyargs:=[],kw_defaults:=[],kwarg:=none,defaults:=[] }
def defBody (s : Stmt) : List Stmt:=match s with
 | .FunctionDef _ _ b _ _ _ _ _ _ _ => b
 | _ => []
def defScope (s : Stmt) : Scope:=match s with
 | .FunctionDef _ _ _ _ _ _ sc _ _ _ => sc
 | _ => { kind:=.function,names:=[],isGenerator:=false,isCoroutine:=false }
abbrev CX0 : CXT:=fun _ _ _ _ _ _ => False
abbrev E0 : XK:=fun _ _ _ => False
theorem pass0 {X : Cx} : Passes CX0 X E0:=fun _ _ _ _ _ _ _ h => h.elim
structure Fun (K : PySem.W.Frag) (x qual : Str) (st : Stmt) (f : Addr) (fd : FuncData) : Prop where
 ex : ∃ (oc : Value) (od : Option Addr) (kV doc pm : Value) (an : Option Addr) (cdv ct : Value) (osl : Array (Option Value)),
   fd = PySem.W.fnOf x qual (defArgs st) (defBody st) (defScope st) .none kV doc pm an cdv ct∧K.lookup f = some ⟨oc,od,.func fd,osl⟩∧PySem.W.codeIn K cdv qual = true
 kp : PySem.W.keepIn K (.ref f) = true
section
variable {P : Program} {w : World} {K : PySem.W.Frag} {mg : Str→Option Value} {base : Heap}
theorem Fun.ok {x qual : Str} {st : Stmt} {f : Addr} {fd : FuncData} {N ps : List Str} {k : Nat} {sp : Sp} (F : Fun K x qual st f fd) (S : FnScope N ps (defScope st)) (len : ∀ vs H Q E,sp vs H Q E→vs.length = ps.length)
   (hbody : ∀ (cdv : Value) (A : Around) (outer : List Env) (s : Shared) (H : Hp) (vs : List V) (Q : VK) (E : XK),Room k (A.deeper (envOfC qual (defScope st) s.heap.objs.size f cdv))→sp vs H Q E →
     ∃ t,PSs (cxOf CX0 P w K mg base N qual (defScope st) f cdv A outer s H E).nox (defBody st) t∧t { nx:=fun _ H' => Q .non H',rt:=Q } (start N vs) H) : FnOk P w K mg base CX0 (k + 1) f fd ps sp:=by
 obtain ⟨oc,od,kV,doc,pm,an,cdv,ct,osl,rfl,lk,hcd⟩:=F.ex
 refine fn_of lk hcd S len fun A outer s H vs Q E hr hsp => ?_
 obtain ⟨t,h,q⟩:=hbody cdv A outer s H vs Q E hr hsp
 exact ⟨t,h.nox,q⟩
theorem Fun.binds {x qual : Str} {st : Stmt} {f : Addr} {fd : FuncData} {ps : List Str} (F : Fun K x qual st f fd)
   (h : ∀ (kV doc pm : Value) (an : Option Addr) (cdv ct : Value) (us : List Value),us.length = ps.length→bindArgs (PySem.W.fnOf x qual (defArgs st) (defBody st) (defScope st) .none kV doc pm an cdv ct) ⟨us,[]⟩ = pure (ps.zip us)) : Binds K fd ps []:=by
 obtain ⟨oc,od,kV,doc,pm,an,cdv,ct,osl,rfl,lk,hcd⟩:=F.ex
 exact .all (h kV doc pm an cdv ct)
theorem fun_mk {x qual : Str} {st : Stmt} {f : Addr} {oc : Value} {od an : Option Addr} {osl : Array (Option Value)} {kV doc pm cdv ct : Value} (l : K.lookup f = some ⟨oc,od,.func (PySem.W.fnOf x qual (defArgs st) (defBody st) (defScope st) .none kV doc pm an cdv ct),osl⟩)
   (c : PySem.W.codeIn K cdv qual = true) (k : PySem.W.keepIn K (.ref f) = true) : Fun K x qual st f (PySem.W.fnOf x qual (defArgs st) (defBody st) (defScope st) .none kV doc pm an cdv ct):=⟨⟨oc,od,kV,doc,pm,an,cdv,ct,osl,rfl,l,c⟩,k⟩
end
theorem hu_of {A : Around} {k : Nat} (hr : Room k A) : A.units + 1 < cLine:=Nat.lt_of_le_of_lt (Nat.add_le_add_left (by decide : 1 ≤ 64) _) hr.units
theorem small1000 {n : Nat} (h : n ≤ 1000) : n < sizeLine:=Nat.lt_of_le_of_lt h (by decide)
section
variable {X : Cx}
theorem pv (i : Nat) {x : Str} {pos : Pos} (hN : X.N[i]? = some x:=by rfl) (hv : Vis X.env.scope x:=by first | exact Or.inl rfl | exact Or.inr (Or.inl rfl) | exact Or.inr (Or.inr rfl)) (hd : (x == ("__debug__" : Str)) = false:=by decide)
   (hcd : (x == ("__classdict__" : Str)) = false:=by decide) : PE X (.Name x pos) (tVar i):=pe_var hN hv hd hcd
end
theorem iteF {A B : Prop} (h : B) : if false = true then A else B:=by
 rw [if_neg Bool.false_ne_true]
 exact h
theorem iteT {A B : Prop} (h : A) : if true = true then A else B:=by
 rw [if_pos rfl]
 exact h
theorem iteNS {c A B : Prop} [Decidable c] (hc : c) (h : B) : if (!decide c) = true then A else B:=by
 rw [decide_eq_true hc]
 exact iteF h
def Same (H H' : Hp) : Prop:=∀ b o,H b = some o→H' b = some o
theorem Same.refl (H : Hp) : Same H H:=fun _ _ h => h
theorem Same.trans {H H1 H2 : Hp} (a : Same H H1) (b : Same H1 H2) : Same H H2:=fun c o h => b c o (a c o h)
theorem Same.free {H H' : Hp} (e : Same H H') {l : Addr} (h : H' l = Option.none) : H l = Option.none:=by
 cases q : H l with
 | none => rfl
 | some o =>
   rw [e l o q] at h
   cases h
theorem Same.seq {K : PySem.W.Frag} {H H' : Hp} {a : Addr} {xs : List V} (e : Same H H') (h : SqL K H a xs) : SqL K H' a xs:=by
 rcases h with (h | ⟨o,h⟩) | h
 · exact .inl (.inl (e _ _ h))
 · exact .inl (.inr ⟨o,e _ _ h⟩)
 · exact .inr h
end L2
namespace L2
open PySem PySem.Spec PyProof.Rows
section
variable {X : Cx}
end
end L2
namespace L2
open PySem PySem.Spec PyProof.Rows
section
variable {κ : Type} [DecidableEq κ]
theorem valV_not {kvs : List (κ × V)} {k : κ} (h : valV kvs k = none) : ¬ k ∈ kvs.map (·.1):=by
 intro m
 obtain ⟨p,hp,e⟩:=List.mem_map.mp m
 have q : (kvs.any fun kv => decide (kv.1 = k)) = true:=List.any_eq_true.mpr ⟨p,hp,decide_eq_true e⟩
 rw [valV_any,h] at q
 exact absurd q (by simp)
theorem nd_snoc : ∀ {l : List κ} {k : κ},l.Nodup→¬ k ∈ l→(l ++ [k]).Nodup
 | [],k,_,_ => by simp
 | a :: r,k,h,hk => by
   obtain ⟨h1,h2⟩:=List.nodup_cons.mp h
   show (a :: (r ++ [k])).Nodup
   refine List.nodup_cons.mpr ⟨fun m => ?_,nd_snoc h2 fun m => hk (List.mem_cons.mpr (Or.inr m))⟩
   rcases List.mem_append.mp m with q | q
   · exact h1 q
   · exact hk (List.mem_cons.mpr (Or.inl (List.mem_singleton.mp q).symm))
theorem nd_putK {kvs : List (κ × V)} {k : κ} (v : V) (hn : (kvs.map (·.1)).Nodup) (h : valV kvs k = none) : ((putK kvs k v).map (·.1)).Nodup:=by
 rw [putK_new v h,List.map_append]
 exact nd_snoc hn (valV_not h)
end
end L2
namespace Mth
theorem gstep {g l : Int} (hg : 0 ≤ g) (hl : 0 < l) : Int.gcd l (g % l) = Int.gcd g l:=by
 obtain ⟨a,rfl⟩:=Int.eq_ofNat_of_zero_le hg
 obtain ⟨b,rfl⟩:=Int.eq_ofNat_of_zero_le (Int.le_of_lt hl)
 show Nat.gcd b (((a : Int) % (b : Int))).natAbs = Nat.gcd a b
 have : (((a : Int) % (b : Int))).natAbs = a % b:=by rw [← Int.natCast_emod]; rfl
 rw [this,Nat.gcd_comm a b,Nat.gcd_comm b,← Nat.gcd_rec]
theorem gend {g : Int} (hg : 0 ≤ g) : ((Int.gcd g 0 : Nat) : Int) = g:=by
 rw [Int.gcd_zero_right]; omega
theorem pos_right {a b : Int} (ha : 0 < a) (h : 0 < a * b) : 0 < b:=by
 rcases (by omega : 0 < b ∨ b ≤ 0) with q | q
 · exact q
 · have:=Int.mul_nonneg (Int.le_of_lt ha) (by omega : 0 ≤ -b)
   rw [Int.mul_neg] at this
   omega
structure Fr (t b q r : Int) : Prop where
 pos : 0 < r
 cross : q * b = t * r
 cop : Int.gcd q r = 1
 topLe : q.natAbs ≤ t.natAbs
 botLe : r.natAbs ≤ b.natAbs
theorem abs_le_mul {c q : Int} (hc : 0 < c) : q.natAbs ≤ (c * q).natAbs:=by
 rw [Int.natAbs_mul]
 exact Nat.le_mul_of_pos_left _ (by omega)
theorem fr_of {t b c : Int} (hb : b ≠ 0) (hc : c = ((Int.gcd t b : Nat) : Int)) : 0 < c∧c ≤ b.natAbs∧(0 < b→Fr t b (t.fdiv c) (b.fdiv c))∧(b < 0→Fr t b (t.fdiv (-c)) (b.fdiv (-c))):=by
 have hp : 0 < Int.gcd t b:=Int.gcd_pos_iff.mpr (.inr hb)
 have c0 : 0 < c:=by omega
 have d1 : c ∣ t:=hc ▸ Int.gcd_dvd_left t b
 have d2 : c ∣ b:=hc ▸ Int.gcd_dvd_right t b
 obtain ⟨q,hq⟩:=d1
 obtain ⟨r,hr⟩:=d2
 have hr0 : r ≠ 0:=by rintro rfl; rw [Int.mul_zero] at hr; exact hb hr
 have hle : c ≤ b.natAbs:=by
   rw [hr,Int.natAbs_mul]
   have : c.natAbs * 1 ≤ c.natAbs * r.natAbs:=Nat.mul_le_mul_left _ (by omega)
   omega
 have e1 : t.fdiv c = q:=by rw [hq,Int.mul_fdiv_cancel_left _ (by omega)]
 have e2 : b.fdiv c = r:=by rw [hr,Int.mul_fdiv_cancel_left _ (by omega)]
 have e3 : t.fdiv (-c) = -q:=by rw [show t = -c * -q by rw [hq,Int.neg_mul_neg],Int.mul_fdiv_cancel_left _ (by omega)]
 have e4 : b.fdiv (-c) = -r:=by rw [show b = -c * -r by rw [hr,Int.neg_mul_neg],Int.mul_fdiv_cancel_left _ (by omega)]
 have hg : Int.gcd q r = 1:=by
   have h1 : Int.gcd (c * q) (c * r) = c.natAbs * Int.gcd q r:=Int.gcd_mul_left c q r
   rw [← hq,← hr] at h1
   have h3 : c.natAbs = Int.gcd t b:=by omega
   rw [h3] at h1
   have h2 : Int.gcd t b * Int.gcd q r = Int.gcd t b * 1:=by rw [← h1,Nat.mul_one]
   exact Nat.eq_of_mul_eq_mul_left hp h2
 have l1 : q.natAbs ≤ t.natAbs:=hq ▸ abs_le_mul c0
 have l2 : r.natAbs ≤ b.natAbs:=hr ▸ abs_le_mul c0
 refine ⟨c0,hle,fun b0 => ?_,fun b0 => ?_⟩
 · rw [e1,e2]
   exact ⟨pos_right c0 (hr ▸ b0),by rw [hq,hr,Int.mul_assoc,Int.mul_left_comm],hg,l1,l2⟩
 · rw [e3,e4]
   refine ⟨pos_right c0 (by rw [Int.mul_neg,← hr]; omega),?_,by rw [Int.gcd_neg,Int.neg_gcd]; exact hg,by omega,by omega⟩
   rw [hq,hr,Int.neg_mul,Int.mul_neg,Int.mul_assoc,Int.mul_left_comm]
def Bd (n : Nat) (x : Int) : Prop:=x.natAbs < 2 ^ n
theorem Bd.mono {m n : Nat} {x : Int} (h : Bd m x) (l : m ≤ n) : Bd n x:=Nat.lt_of_lt_of_le h (Nat.pow_le_pow_right (by decide) l)
theorem Bd.mul {m n : Nat} {x y : Int} (h : Bd m x) (k : Bd n y) : Bd (m + n) (x * y):=by
 unfold Bd at *
 rw [Int.natAbs_mul,Nat.pow_add]
 exact Nat.mul_lt_mul'' h k
theorem Bd.add {m : Nat} {x y : Int} (h : Bd m x) (k : Bd m y) : Bd (m + 1) (x + y):=by
 unfold Bd at *
 rw [Nat.pow_succ]
 have:=Int.natAbs_add_le x y
 omega
theorem Bd.neg {m : Nat} {x : Int} (h : Bd m x) : Bd m (-x):=by unfold Bd at *; rw [Int.natAbs_neg]; exact h
theorem Bd.sub {m : Nat} {x y : Int} (h : Bd m x) (k : Bd m y) : Bd (m + 1) (x - y):=by rw [Int.sub_eq_add_neg]; exact h.add k.neg
theorem Bd.le {m : Nat} {x y : Int} (h : Bd m y) (k : x.natAbs ≤ y.natAbs) : Bd m x:=Nat.lt_of_le_of_lt k h
theorem Bd.log {n : Nat} {x : Int} (h : Bd n x) (hn : 0 < n) : x.natAbs.log2 < n:=by
 by_cases h0 : x.natAbs = 0
 · rw [h0]; simpa using hn
 · exact (Nat.log2_lt h0).mpr h
theorem Fr.bdq {t b q r : Int} {n : Nat} (h : Fr t b q r) (k : Bd n t) : Bd n q:=k.le h.topLe
theorem Fr.bdr {t b q r : Int} {n : Nat} (h : Fr t b q r) (k : Bd n b) : Bd n r:=k.le h.botLe
end Mth
namespace Bit
def rooms (n : Nat) : List Nat:=(List.range 61).filter n.testBit
theorem mem_rooms {n k : Nat} : k ∈ rooms n ↔ k < 61∧n.testBit k = true:=by
 unfold rooms; rw [List.mem_filter,List.mem_range]
theorem rooms_sorted (n : Nat) : (rooms n).Pairwise (· < ·):=(List.pairwise_lt_range).filter _
theorem bit_small {n m k : Nat} (h : n < 2 ^ m) (hk : m ≤ k) : n.testBit k = false:=Nat.testBit_lt_two_pow (Nat.lt_of_lt_of_le h (Nat.pow_le_pow_right (by decide) hk))
theorem rooms_upto {n m : Nat} (h : n < 2 ^ m) (hm : m ≤ 61) : (List.range m).filter n.testBit = rooms n:=by
 unfold rooms
 obtain ⟨d,hd⟩ : ∃ d,61 = m + d:=⟨61 - m,by omega⟩
 have e61 : List.range 61 = List.range (m + d):=by rw [hd]
 rw [e61,List.range_add,List.filter_append]
 have : (List.map (m + ·) (List.range d)).filter n.testBit = []:=by
   rw [List.filter_eq_nil_iff]
   intro a ha
   obtain ⟨b,_,rfl⟩:=List.mem_map.mp ha
   rw [bit_small h (by omega)]
   exact Bool.false_ne_true
 rw [this,List.append_nil]
def sumOf (l : List Nat) : Nat:=l.foldl (fun n r => n ||| 2 ^ r) 0
theorem bit_fold : ∀ (l : List Nat) (a k : Nat),(l.foldl (fun n r => n ||| 2 ^ r) a).testBit k = (a.testBit k || decide (k ∈ l))
 | [],a,k => by simp
 | r :: l,a,k => by
   rw [List.foldl_cons,bit_fold l,Nat.testBit_or,Nat.testBit_two_pow,Bool.or_assoc]
   congr 1
   by_cases h : r = k
   · subst h; simp
   · have : decide (k ∈ r :: l) = decide (k ∈ l):=by simp [Ne.symm h]
     rw [this]; simp [h]
theorem bit_sumOf (l : List Nat) (k : Nat) : (sumOf l).testBit k = decide (k ∈ l):=by
 unfold sumOf; rw [bit_fold]; simp
theorem sumOf_lt {l : List Nat} {m : Nat} (h : ∀ r ∈ l,r < m) : sumOf l < 2 ^ m:=by
 refine Nat.lt_pow_two_of_testBit _ fun i hi => ?_
 rw [bit_sumOf]
 exact decide_eq_false fun q => absurd (h i q) (by omega)
theorem rooms_sumOf {l : List Nat} (h : ∀ r ∈ l,r < 61) (hs : l.Pairwise (· < ·)) : rooms (sumOf l) = l:=by
 have hsub : ∀ k,k ∈ rooms (sumOf l) ↔ k ∈ l:=fun k => by
   rw [mem_rooms,bit_sumOf]
   constructor
   · rintro ⟨_,q⟩; exact of_decide_eq_true q
   · intro q; exact ⟨h k q,decide_eq_true q⟩
 have uniq : ∀ (a b : List Nat),a.Pairwise (· < ·)→b.Pairwise (· < ·)→(∀ k,k ∈ a ↔ k ∈ b)→a = b:=by
   intro a
   induction a with
   | nil =>
     intro b _ _ hm
     cases b with
     | nil => rfl
     | cons y b => exact absurd ((hm y).mpr List.mem_cons_self) (by simp)
   | cons x a ih =>
     intro b ha hb hm
     cases b with
     | nil => exact absurd ((hm x).mp List.mem_cons_self) (by simp)
     | cons y b =>
       obtain ⟨ha1,ha2⟩:=List.pairwise_cons.mp ha
       obtain ⟨hb1,hb2⟩:=List.pairwise_cons.mp hb
       have exy : x = y:=by
         rcases List.mem_cons.mp ((hm x).mp List.mem_cons_self) with q | q
         · exact q
         · rcases List.mem_cons.mp ((hm y).mpr List.mem_cons_self) with q2 | q2
           · exact q2.symm
           · have:=hb1 x q; have:=ha1 y q2; omega
       subst exy
       rw [ih b ha2 hb2 fun k => ?_]
       constructor
       · intro q
         rcases List.mem_cons.mp ((hm k).mp (List.mem_cons_of_mem _ q)) with z | z
         · subst z; exact absurd (ha1 k q) (Nat.lt_irrefl _)
         · exact z
       · intro q
         rcases List.mem_cons.mp ((hm k).mpr (List.mem_cons_of_mem _ q)) with z | z
         · subst z; exact absurd (hb1 k q) (Nat.lt_irrefl _)
         · exact z
 exact uniq _ _ (rooms_sorted _) hs hsub
def parts (l : List Nat) : List Nat:=l.foldl (fun ps r => ps ++ ps.map (· ||| 2 ^ r)) [0]
theorem or_add {p r : Nat} (h : p < 2 ^ r) : p ||| 2 ^ r = p + 2 ^ r:=by
 have:=Nat.two_pow_add_eq_or_of_lt h 1
 rw [Nat.mul_one] at this
 rw [Nat.or_comm,← this,Nat.add_comm]
structure Ok (ps l : List Nat) : Prop where
 len : ps.length = 2 ^ l.length
 first : ps[0]? = some 0
 last : ps[ps.length - 1]? = some (sumOf l)
 rise : ps.Pairwise (· < ·)
 sub : ∀ p ∈ ps,∀ k,p.testBit k = true→k ∈ l
theorem ok_nil : Ok [0] []:=⟨rfl,rfl,rfl,by simp,fun p hp k hk => by
 have : p = 0:=by simpa using hp
 subst this; simp at hk⟩
theorem ok_snoc {ps l : List Nat} {r : Nat} (h : Ok ps l) (hr : ∀ x ∈ l,x < r) : Ok (ps ++ ps.map (· ||| 2 ^ r)) (l ++ [r]):=by
 have small : ∀ p ∈ ps,p < 2 ^ r:=fun p hp => Nat.lt_pow_two_of_testBit _ fun i hi => by
   cases e : p.testBit i with
   | false => rfl
   | true => have:=hr i (h.sub p hp i e); omega
 have pos : 0 < ps.length:=by rw [h.len]; exact Nat.two_pow_pos _
 refine ⟨?_,?_,?_,?_,?_⟩
 · rw [List.length_append,List.length_map,h.len,List.length_append,List.length_singleton,Nat.pow_succ]; omega
 · rw [List.getElem?_append_left pos]; exact h.first
 · rw [List.length_append,List.length_map,List.getElem?_append_right (by omega),List.getElem?_map]
   have e : ps.length + ps.length - 1 - ps.length = ps.length - 1:=by omega
   rw [e,h.last]
   show some (sumOf l ||| 2 ^ r) = some (sumOf (l ++ [r]))
   unfold sumOf
   rw [List.foldl_append]; rfl
 · rw [List.pairwise_append]
   refine ⟨h.rise,?_,fun a ha b hb => ?_⟩
   · rw [List.pairwise_map]
     refine List.Pairwise.imp_of_mem ?_ h.rise
     intro a b ha hb hab
     rw [or_add (small a ha),or_add (small b hb)]; omega
   · obtain ⟨c,hc,rfl⟩:=List.mem_map.mp hb
     have:=small a ha
     rw [or_add (small c hc)]; omega
 · intro p hp k hk
   rcases List.mem_append.mp hp with q | q
   · exact List.mem_append_left _ (h.sub p q k hk)
   · obtain ⟨c,hc,rfl⟩:=List.mem_map.mp q
     rw [Nat.testBit_or,Bool.or_eq_true] at hk
     rcases hk with z | z
     · exact List.mem_append_left _ (h.sub c hc k z)
     · rw [Nat.testBit_two_pow] at z
       have:=of_decide_eq_true z
       subst this
       exact List.mem_append_right _ (by simp)
theorem ok_fold : ∀ (b a ps : List Nat),Ok ps a→(a ++ b).Pairwise (· < ·)→Ok (b.foldl (fun ps r => ps ++ ps.map (· ||| 2 ^ r)) ps) (a ++ b)
 | [],a,ps,h,_ => by simpa using h
 | r :: b,a,ps,h,hs => by
   rw [List.foldl_cons]
   have e : a ++ r :: b = (a ++ [r]) ++ b:=by simp
   have hr : ∀ x ∈ a,x < r:=fun x hx => (List.pairwise_append.mp hs).2.2 x hx r List.mem_cons_self
   rw [e] at hs ⊢
   exact ok_fold b (a ++ [r]) _ (ok_snoc h hr) hs
theorem count_or {n r : Nat} (hr : r < 61) (h : n.testBit r = false) : (rooms (n ||| 2 ^ r)).length = (rooms n).length + 1:=by
 have c : ∀ (l : List Nat),l.Nodup→(l.filter (n ||| 2 ^ r).testBit).length = (l.filter n.testBit).length + (if r ∈ l then 1 else 0):=by
   intro l
   induction l with
   | nil => intro _; rfl
   | cons x l ih =>
     intro hl
     obtain ⟨h1,h2⟩:=List.nodup_cons.mp hl
     have e:=ih h2
     have hx : (n ||| 2 ^ r).testBit x = (n.testBit x || decide (r = x)):=by rw [Nat.testBit_or,Nat.testBit_two_pow]
     rw [List.filter_cons,List.filter_cons,hx]
     by_cases q : r = x
     · subst q
       rw [h]
       simp only [decide_true,Bool.or_true,if_true,List.length_cons,e,if_neg h1,List.mem_cons,true_or]
       simp
     · have q' : (r ∈ x :: l) ↔ r ∈ l:=by simp [q]
       have d : decide (r = x) = false:=decide_eq_false q
       rw [d,Bool.or_false]
       cases n.testBit x with
       | true => simp only [if_true,List.length_cons,e]; by_cases z : r ∈ l <;> simp [z,q] <;> omega
       | false => simp only [Bool.false_eq_true,if_false,e]; by_cases z : r ∈ l <;> simp [z,q]
 have:=c (List.range 61) List.nodup_range
 rw [if_pos (List.mem_range.mpr hr)] at this
 exact this
end Bit
namespace L2
open PySem PySem.Spec PyProof.Rows Mth
theorem bt_abs : bootBuiltins "abs" = some (.builtin "abs"):=by decide +kernel
theorem bt_len : bootBuiltins "len" = some (.builtin "len"):=by decide +kernel
theorem bt_isinstance : bootBuiltins "isinstance" = some (.builtin "isinstance"):=by decide +kernel
theorem bt_all : bootBuiltins "all" = some (.builtin "all"):=by decide +kernel
theorem bt_tuple : bootBuiltins "tuple" = some (.type "tuple"):=by decide +kernel
theorem bt_list : bootBuiltins "list" = some (.type "list"):=by decide +kernel
theorem bt_int : bootBuiltins "int" = some (.type "int"):=by decide +kernel
theorem bt_bool : bootBuiltins "bool" = some (.type "bool"):=by decide +kernel
theorem bd_bits {n : Nat} {x : Int} (h : Bd n x) : Builtin.Int.intBits x ≤ n:=PySem.intBits_le_iff.mpr h
theorem bits_bd {n : Nat} {x : Int} (h : Builtin.Int.intBits x ≤ n) : Bd n x:=PySem.intBits_le_iff.mp h
section
variable {X : Cx}
def CMulB (i j : Int) : Prop:=∃ m n,Bd m i∧Bd n j∧m + n ≤ 100000000
def CDivB (_ j : Int) : Prop:=j ≠ 0∧Bd 8999 j
theorem op_mulB : OpR X (binaryOp .Mult) (rI CMulB fun i j => .int (i * j)):=opI fun _ _ _ _ _ _ _ hc q => by
 obtain ⟨m,n,h1,h2,h3⟩:=hc
 exact mul_int q (IntMulOk.of_le (bd_bits h1) (bd_bits h2) (by omega))
theorem op_fdivB : OpR X (binaryOp .FloorDiv) (rI CDivB fun i j => .int (i.fdiv j)):=opI fun _ _ _ _ _ _ _ hc q => by
 have h2 : Bd 8999 _:=hc.2
 exact floordiv_int hc.1 q (.inl (PyProof.noPylong_of_log2 (Nat.lt_of_lt_of_le (h2.log (by decide)) (by decide))))
def rIxA (K : PySem.W.Frag) : R2:=fun x y H Q => ∃ p xs i v,x = .ref p∧y = .int i∧(SqL K H p xs ∨ SqT K H p xs)∧atI xs i = some v∧Q v H
theorem ix_any : IxR X (rIxA X.K):=by
 intro value slice pins s σ H x y v u Q I rx ry h hs
 obtain ⟨p,xs,i,w,e1,e2,hq,e3,q⟩:=h
 rcases hq with hq | hq
 · exact ix_list value slice pins s σ H x y v u Q I rx ry ⟨p,xs,i,w,e1,e2,hq,e3,q⟩ hs
 · exact ix_tup value slice pins s σ H x y v u Q I rx ry ⟨p,xs,i,w,e1,e2,hq,e3,q⟩ hs
theorem call_isinst : CallR X (.builtin "isinstance") (fun xs H Q => ∃ x c t cv b,xs = [x,c]∧TyOf X.K H x t∧RelV c cv∧PySem.W.kitOne X.K t cv = some b∧Q (.bl b) H):=by
 intro pins s σ H xs us Q I r h
 obtain ⟨x,c,t,cv,b,rfl,ty,rc,e,q⟩:=h
 obtain ⟨u,w',rfl,r1,r2⟩:=vals2 r
 have : w' = cv:=by
   cases c with
   | non => cases r2; cases rc; rfl
   | bl b => cases r2; cases rc; rfl
   | ref a => cases r2; cases rc; rfl
   | ty n => cases r2; cases rc; rfl
   | int i => exact absurd e (by obtain ⟨k,rfl⟩:=rc; intro z; unfold PySem.W.kitOne PySem.W.kitCls at z; cases ty <;> simp at z)
   | str i => exact absurd e (by obtain ⟨k,rfl⟩:=rc; intro z; unfold PySem.W.kitOne PySem.W.kitCls at z; cases ty <;> simp at z)
   | byt i => exact absurd e (by obtain ⟨k,rfl⟩:=rc; intro z; unfold PySem.W.kitOne PySem.W.kitCls at z; cases ty <;> simp at z)
   | flt i => exact absurd e (by obtain ⟨k,rfl⟩:=rc; intro z; unfold PySem.W.kitOne PySem.W.kitCls at z; cases ty <;> simp at z)
 subst this
 exact isinst_ok I r1 ty e fun tk => ⟨.bl b,H,I.tok _,rfl,q⟩
end
def Has (K : PySem.W.Frag) (mg : Str→Option Value) (x : Str) (st : Stmt) : Prop:=∃ f fd,mg x = some (.ref f)∧Fun K x x st f fd
def Def (P : Program) (w : World) (K : PySem.W.Frag) (mg : Str→Option Value) (base : Heap) (x : Str) (k : Nat) (ps : List Str) (sp : Sp) : Prop :=
 ∃ f fd,mg x = some (.ref f)∧PySem.W.keepIn K (.ref f) = true∧Binds K fd ps []∧FnOk P w K mg base CX0 k f fd ps sp
section
variable {P : Program} {w : World} {K : PySem.W.Frag} {mg : Str→Option Value} {base : Heap}
theorem Has.def {x : Str} {st : Stmt} {N ps : List Str} {k : Nat} {sp : Sp} (h : Has K mg x st) (S : FnScope N ps (defScope st)) (len : ∀ vs H Q E,sp vs H Q E→vs.length = ps.length)
   (hb : ∀ (kV doc pm : Value) (an : Option Addr) (cdv ct : Value) (us : List Value),us.length = ps.length→bindArgs (PySem.W.fnOf x x (defArgs st) (defBody st) (defScope st) .none kV doc pm an cdv ct) ⟨us,[]⟩ = pure (ps.zip us))
   (hbody : ∀ (f : Addr) (cdv : Value) (A : Around) (outer : List Env) (s : Shared) (H : Hp) (vs : List V) (Q : VK) (E : XK),Room k (A.deeper (envOfC x (defScope st) s.heap.objs.size f cdv))→sp vs H Q E →
     ∃ t,PSs (cxOf CX0 P w K mg base N x (defScope st) f cdv A outer s H E).nox (defBody st) t∧t { nx:=fun _ H' => Q .non H',rt:=Q } (start N vs) H) : Def P w K mg base x (k + 1) ps sp:=by
 obtain ⟨f,fd,hm,F⟩:=h
 exact ⟨f,fd,hm,F.kp,F.binds hb,F.ok S len fun cdv A outer s H vs Q E hr hs => hbody f cdv A outer s H vs Q E hr hs⟩
theorem Fun.binds1 {x qual : Str} {st : Stmt} {f : Addr} {fd : FuncData} {p : Str} (F : Fun K x qual st f fd)
   (h : ∀ (kV doc pm : Value) (an : Option Addr) (cdv ct : Value) (u : Value),bindArgs (PySem.W.fnOf x qual (defArgs st) (defBody st) (defScope st) .none kV doc pm an cdv ct) ⟨[u],[]⟩ = pure [(p,u)]) (s : Shared) (u : Value) : BindsTo s fd ⟨[u],[]⟩ [(p,u)]:=by
 obtain ⟨oc,od,kV,doc,pm,an,cdv,ct,osl,rfl,lk,hcd⟩:=F.ex
 exact .of_eq (h kV doc pm an cdv ct u)
end
section
variable {X : Cx} {x : Str} {p pos : Pos} {e : Expr} {es : List Expr} {t : TA} {k : Nat} {ps : List Str} {sp : Sp}
theorem pe_callD (D : Def X.prog X.w X.K X.mg X.base x k ps sp) (hr : Room k X.A) (ha : PA X (e :: es) t) (hg : Gl X x:=by rfl) (hdb : (x == ("__debug__" : Str)) = false:=by decide)
   (he : starEach (e :: es) X.env = (false,eval e X.env) :: starEach es X.env:=by rfl) (hpl : (backTo pos (starEach es X.env)).any (·.1) = false:=by rfl) : PE X (.Call (.Name x p) (e :: es) [] pos) (tCall sp [] E0 t):=by
 obtain ⟨f,fd,hm,hk,hb,F⟩:=D
 exact pe_call F hr hg hm hk hb .nil pass0 ha hdb he hpl
end
theorem weight_int {n : Int} {m : Nat} (h : (PySem.W.WData.int n).weight ≤ m) : Bd m n:=by
 refine bits_bd ?_
 simpa only [PySem.W.WData.weight,Builtin.Int.intBits] using h
end L2
namespace Att
open PySem PySem.W PySem.Calls PyProof.Rows Mth
theorem attach_callB {l : OpenLaw} {n : Nat} {q : Program} {loose : List Str} {XP : (Str→Option Value)→Heap→Prop} {YP : World→Heap→Prop} {d : DefRec}
   (hn : l.most = some n) (hdf : d.params.defaults = [])
   (call : ∀ (w : World) (s₀ s₁ : Shared) (mg mb : Str→Option Value) (fa : Addr) (o : Obj) (pm cd doc : Value) (a : Addr) (vs : List Value) (ns : List Int),
     Ground q loose [] XP w s₀ mg mb s₁.heap→YP w s₁.heap →
     s₁.heap.get? fa = some o→o.data = .func (docDef d.name d.params d.body d.scope pm cd doc)→s₁.heap.CodeRec cd d.name→mg d.name = some (.ref fa) →
     s₁.heap.get? a = some { cls:=.type "list",data:=.seq vs.toArray }→IntsAre vs ns→ns.length ≤ n→(∀ z ∈ ns,Bd 1048576 z)→s₁.gens = #[] →
     codeAny (model l.prog w) callerA (.call (.ref fa) ⟨[.ref a],[]⟩) (fun r s' => r = .ok (.ret (.bool true))∧OldK s₁.heap s'.heap∧s'.os = s₁.os∧AllBare s'.gens) s₁) :
   WalkO q loose XP YP l.row.toRowW d [] (fun f vs => PySem.call f vs):=by
 intro w s₀ s₁ mg mb G Y fa o pm cd doc dV kV ho hd hcd hD hmg hg args vals as hpre hlay hrd hwl hlo
 obtain rfl : dV = .none:=Dflts.none hD hdf
 obtain rfl : kV = .none:=Dflts.noKw hD
 obtain ⟨a,vs,ns,rfl,rfl,hobj,hints,hlen⟩:=script_of hn hpre hwl
 have hbits : ∀ z ∈ ns,Bd 1048576 z:=fun z hz => by
   have h1:=layableW_arg hlay _ (List.mem_singleton.mpr rfl)
   have h2:=layableW_item h1 (.int z) (List.mem_map.mpr ⟨z,hz,rfl⟩)
   exact L2.weight_int (Nat.le_trans (layableW_iff.mp h2).2.2 (by decide))
 refine enter_call (codeAny_mono (call w s₀ s₁ mg mb fa o pm cd doc a vs ns G Y ho (fd_plain hd) hcd hmg hobj hints hlen hbits hg) fun r s' hq => ?_)
 obtain ⟨rfl,h2,h3,h4⟩:=hq
 exact ⟨.inl ⟨.bool true,.bool true,[],rfl,fun _ => rfl,.bool true,post_true l _,fun _ => ⟨List.Pairwise.nil,fun _ hm => (nomatch hm)⟩⟩,h2,h3,h4⟩
end Att
namespace L2
open PySem PySem.Spec PyProof.Rows Mth
def sp_law (K : PySem.W.Frag) : Sp:=fun vs H Q _ => ∃ (a : Addr) (ns : List Int),vs = [.ref a]∧SqL K H a (ns.map V.int)∧ns.length ≤ 63∧(∀ z ∈ ns,Bd 1048576 z)∧∀ H',Q (.bl true) H'
theorem walk_ofB {l : PySem.W.OpenLaw} {k : Nat} {q : Program} {loose : List Str} {XP : (Str→Option Value)→Heap→Prop} {YP : World→Heap→Prop} {d : DefRec} {K : Params→PySem.W.Frag} {x : Str}
   (hn : l.most = some 63) (hdf : d.params.defaults = []) (hr : Room k callerA)
   (hY : ∀ (w : World) (h : Heap),YP w h→(K w.params).In h)
   (F : ∀ (w : World) (mg : Str→Option Value) (fa : Addr) (h : Heap),(K w.params).In h→h.Ns mainGlobals mg→mg d.name = some (.ref fa) →
     ∃ fd : FuncData,(∀ (s : Shared) (u : Value),BindsTo s fd ⟨[u],[]⟩ [(x,u)]) ∧
       ∀ base : Heap,(K w.params).In base→base.Ns mainGlobals mg→FnOk l.prog w (K w.params) mg base CX0 k fa fd [x] (sp_law (K w.params))) :
   PySem.W.WalkO q loose XP YP l.row.toRowW d [] (fun f vs => PySem.call f vs):=by
 refine Att.attach_callB hn hdf fun w s₀ s₁ mg mb fa o pm cd doc a vs ns G Y ho hd hcd hmg hobj hints hlen hbits hg => ?_
 have KX:=hY w _ Y
 obtain ⟨fd,hb,hF⟩:=F w mg fa _ KX G.T.g hmg
 exact law_call KX G.T.g G.T.b G.T.builtins G.T.nolimit hg hobj hints (Nat.le_trans hlen (by decide)) hr hF hb (fun H hO hS => ⟨a,ns,rfl,hS,hlen,hbits,fun _ => rfl⟩) fun H e s' z => z
section
variable {X : Cx}
def rAddL : R2:=fun x y H Q => ∃ i j,x = .int i∧y = .int j∧∀ r : Int,r = i + j→Q (.int r) H
def rSubL : R2:=fun x y H Q => ∃ i j,x = .int i∧y = .int j∧∀ r : Int,r = i - j→Q (.int r) H
def rMulL : R2:=fun x y H Q => ∃ i j,x = .int i∧y = .int j∧CMulB i j∧∀ r : Int,r = i * j→Q (.int r) H
def rDivL : R2:=fun x y H Q => ∃ i j,x = .int i∧y = .int j∧CDivB i j∧∀ r : Int,r = i.fdiv j→Q (.int r) H
def rPowL : R2:=fun x y H Q => ∃ i j,x = .int i∧y = .int j∧CPow i j∧∀ r : Int,r = i ^ j.toNat→Q (.int r) H
def rShlL : R2:=fun x y H Q => ∃ i j,x = .int i∧y = .int j∧CPow i j∧∀ r : Int,r = i * 2 ^ j.toNat→Q (.int r) H
def rShrL : R2:=fun x y H Q => ∃ i j,x = .int i∧y = .int j∧0 ≤ j∧∀ r : Int,r = i / 2 ^ j.toNat→Q (.int r) H
def rOrL : R2:=fun x y H Q => ∃ i j,x = .int i∧y = .int j∧∀ r : Int,r = Builtin.bitOr i j→Q (.int r) H
def rAndL : R2:=fun x y H Q => ∃ i j,x = .int i∧y = .int j∧∀ r : Int,r = Builtin.bitAnd i j→Q (.int r) H
def rLM : R2:=fun x y H Q => ∃ i j,x = .int i∧y = .int j∧0 < j∧∀ r : Int,0 ≤ r→r < j→r = i % j→Q (.int r) H
theorem op_addL : OpR X (binaryOp .Add) rAddL:=fun pins s σ H x y v u Q I rx ry ⟨i,j,e1,e2,q⟩ => op_add pins s σ H x y v u Q I rx ry ⟨i,j,e1,e2,q _ rfl⟩
theorem op_subL : OpR X (binaryOp .Sub) rSubL:=fun pins s σ H x y v u Q I rx ry ⟨i,j,e1,e2,q⟩ => op_sub pins s σ H x y v u Q I rx ry ⟨i,j,e1,e2,q _ rfl⟩
theorem op_mulL : OpR X (binaryOp .Mult) rMulL:=fun pins s σ H x y v u Q I rx ry ⟨i,j,e1,e2,c,q⟩ => op_mulB pins s σ H x y v u Q I rx ry ⟨i,j,e1,e2,c,q _ rfl⟩
theorem op_fdivL : OpR X (binaryOp .FloorDiv) rDivL:=fun pins s σ H x y v u Q I rx ry ⟨i,j,e1,e2,c,q⟩ => op_fdivB pins s σ H x y v u Q I rx ry ⟨i,j,e1,e2,c,q _ rfl⟩
theorem op_powL : OpR X (binaryOp .Pow) rPowL:=fun pins s σ H x y v u Q I rx ry ⟨i,j,e1,e2,c,q⟩ => op_pow pins s σ H x y v u Q I rx ry ⟨i,j,e1,e2,c,q _ rfl⟩
theorem op_shlL : OpR X (binaryOp .LShift) rShlL:=fun pins s σ H x y v u Q I rx ry ⟨i,j,e1,e2,c,q⟩ => op_shl pins s σ H x y v u Q I rx ry ⟨i,j,e1,e2,c,q _ rfl⟩
theorem op_shrL : OpR X (binaryOp .RShift) rShrL:=fun pins s σ H x y v u Q I rx ry ⟨i,j,e1,e2,c,q⟩ => op_shr pins s σ H x y v u Q I rx ry ⟨i,j,e1,e2,c,q _ rfl⟩
theorem op_orL : OpR X (binaryOp .BitOr) rOrL:=fun pins s σ H x y v u Q I rx ry ⟨i,j,e1,e2,q⟩ => op_or pins s σ H x y v u Q I rx ry ⟨i,j,e1,e2,q _ rfl⟩
theorem op_andL : OpR X (binaryOp .BitAnd) rAndL:=fun pins s σ H x y v u Q I rx ry ⟨i,j,e1,e2,q⟩ => op_and pins s σ H x y v u Q I rx ry ⟨i,j,e1,e2,q _ rfl⟩
theorem op_modL : OpR X (binaryOp .Mod) rLM:=fun pins s σ H x y v u Q I rx ry ⟨i,j,e1,e2,c,q⟩ =>
 op_mod pins s σ H x y v u Q I rx ry ⟨i,j,e1,e2,c,q _ (Int.emod_nonneg _ (by omega)) (Int.emod_lt_of_pos _ c) rfl⟩
theorem call_absL : CallR X (.builtin "abs") (fun xs H Q => ∃ i,xs = [.int i]∧∀ r : Int,r = i.natAbs→Q (.int r) H) :=
 fun pins s σ H xs us Q I r ⟨i,e,q⟩ => call_abs pins s σ H xs us Q I r ⟨i,e,q _ (by split <;> omega)⟩
theorem call_lenL : CallR X (.builtin "len") (fun xs H Q => ∃ p ys,xs = [.ref p]∧(SqL X.K H p ys ∨ SqT X.K H p ys)∧∀ r : Int,r = ys.length→Q (.int r) H) :=
 fun pins s σ H xs us Q I r ⟨p,ys,e,hq,q⟩ => call_len_seq pins s σ H xs us Q I r ⟨p,ys,e,hq,q _ rfl⟩
def tCut (t : TS) : TS:=fun D σ H => ∃ P : St→Hp→Prop,t { D with nx:=P } σ H∧∀ σ' H',P σ' H'→D.nx σ' H'
theorem ps_cut {st : Stmt} {t : TS} (h : PS X st t) : PS X st (tCut t):=by
 intro pins s σ H D I hw
 obtain ⟨P,h1,h2⟩:=hw
 refine thn (h pins s σ H { D with nx:=P } I h1) fun f s1 q => ?_
 cases f with
 | next =>
   obtain ⟨σ',H',I',q⟩:=q
   exact ⟨σ',H',I',h2 σ' H' q⟩
 | ret v => exact q
 | brk => exact q
 | cont => exact q
end
theorem iteP {c A B : Prop} [Decidable c] (hc : c) (h : A) : if decide c = true then A else B:=by
 rw [decide_eq_true hc]; exact iteT h
theorem iteN {c A B : Prop} [Decidable c] (hc : ¬ c) (h : B) : if decide c = true then A else B:=by
 rw [decide_eq_false hc]; exact iteF h
theorem ite3 {c A B : Prop} [Decidable c] (h1 : c→A) (h2 : ¬ c→B) : if decide c = true then A else B:=by
 by_cases h : c
 · exact iteP h (h1 h)
 · exact iteN h (h2 h)
theorem ite4 {c A B : Prop} [Decidable c] (h1 : ¬ c→A) (h2 : c→B) : if (!decide c) = true then A else B:=by
 by_cases h : c
 · exact iteNS h (h2 h)
 · rw [decide_eq_false h]; exact iteT (h1 h)
theorem iteNT {c A B : Prop} [Decidable c] (hc : ¬ c) (h : A) : if (!decide c) = true then A else B:=by
 rw [decide_eq_false hc]; exact iteT h
theorem blT {c : Prop} [Decidable c] (h : c) {Q : VK} {H : Hp} (q : Q (.bl true) H) : Q (.bl (decide c)) H:=by rw [decide_eq_true h]; exact q
theorem int_inj {a b : Int} : V.int a = V.int b ↔ a = b:=⟨fun e => by cases e; rfl,fun e => by rw [e]⟩
theorem same_upd {H : Hp} {p : Addr} {o : HO} (h : H p = none) : Same H (upd H p o):=fun b u e => by rw [upd_ne (ne_of_none e h)]; exact e
theorem Same.tup {K : PySem.W.Frag} {H H' : Hp} {a : Addr} {xs : List V} (e : Same H H') (h : SqT K H a xs) : SqT K H' a xs:=by
 rcases h with (h | ⟨o,h⟩) | h
 · exact .inl (.inl (e _ _ h))
 · exact .inl (.inr ⟨o,e _ _ h⟩)
 · exact .inr h
theorem bdd {n : Nat} {x : Int} (h : x.natAbs < 2 ^ n:=by decide) : Bd n x:=h
theorem bdS {x : Int} (n : Nat) (lo : -(2 ^ 100) < x) (hi : x < 2 ^ 100) (h : 100 ≤ n:=by decide) : Bd n x:=by
 have : Bd 100 x:=by unfold Bd; omega
 exact this.mono h
theorem kit_int_bool (K : PySem.W.Frag) : PySem.W.kitOne K (.type "int") (.type "bool") = some false:=by
 show (if PySem.W.kitMeta "bool" = true then ((PySem.fastBuiltinMro "int").map (·.contains (Value.type "bool"))) else none) = some false
 decide +kernel
theorem sz2 {x y : V} : [x,y].length ≤ sizeLine:=by show 2 ≤ sizeLine; decide
theorem sz3 {x y z : V} : [x,y,z].length ≤ sizeLine:=by show 3 ≤ sizeLine; decide
def sp_gcd : Sp:=fun vs H Q _ => ∃ a b : Int,vs = [.int a,.int b]∧∀ r : Int,r = ((Int.gcd a b : Nat) : Int)→Q (.int r) H
def sp_fraction : Sp:=fun vs H Q _ => ∃ t b : Int,vs = [.int t,.int b]∧b ≠ 0∧Bd 4000 b∧∀ q r p H',Fr t b q r→Same H H'→H' p = some (.tup [.int q,.int r])→Q (.ref p) H'
def sp_arith (f : Int→Int→Int→Int→Int) (K : PySem.W.Frag) : Sp:=fun vs H Q _ => ∃ p1 p2 a b c d,vs = [.ref p1,.ref p2]∧SqT K H p1 [.int a,.int b]∧SqT K H p2 [.int c,.int d]∧0 < b∧0 < d ∧
 Bd 1000 a∧Bd 1000 b∧Bd 1000 c∧Bd 1000 d∧∀ q r p H',Fr (f a b c d) (b * d) q r→Same H H'→H' p = some (.tup [.int q,.int r])→Q (.ref p) H'
def sp_under (K : PySem.W.Frag) : Sp:=fun vs H Q _ => ∃ p1 p2 a b c d,vs = [.ref p1,.ref p2]∧SqT K H p1 [.int a,.int b]∧SqT K H p2 [.int c,.int d] ∧
 Bd 1000 a∧Bd 1000 b∧Bd 1000 c∧Bd 1000 d∧Q (.bl (decide (a * d < c * b))) H
def sp_cell_at (K : PySem.W.Frag) : Sp:=fun vs H Q _ => ∃ (a : Addr) (ns : List Int) (k : Int),vs = [.ref a,.int k]∧SqL K H a (ns.map V.int)∧0 ≤ k∧∀ z,(z ∈ ns ∨ z = 0)→Q (.int z) H
def sp_ratio : Sp:=fun vs H Q _ => ∃ t b : Int,vs = [.int t,.int b]∧0 < b∧Bd 4000 b∧∀ q r p H',Fr t b q r→Same H H'→H' p = some (.tup [.int q,.int r])→Q (.ref p) H'
end L2
namespace L2
open PySem PySem.Spec PyProof.Rows Mth
def cxComp (X : Cx) (N' : List Str) (scope : Scope) (cl : List (Str × Addr)) (C : Addr) (s : Shared) (H : Hp) (ex : List Addr) : Cx :=
 { X with N:=N',env:=compEnvC scope cl C X.env,s₀:=s,H₀:=H,outer:=X.stack,ex:=ex,fn:=fun _ => false,pn:=[],xe:=fun _ _ => False }
theorem Un.same_but {fs ex : List Addr} {H H' : Hp} {h h' h'' : Heap} {C : Addr} (u : Un fs ex H H' h h') (sb : Heap.SameBut C h' h'') (hC : h.get? C = none) : Un fs ex H H' h h'':=by
 have ne : ∀ b o,h.get? b = some o→b ≠ C:=fun b o e z => by rw [z,hC] at e; cases e
 exact ⟨fun b o e n hb hx => sb.extBut b o (ne b o e) (u.keep b o e n hb hx),fun b o e n hb hx => by
     obtain ⟨sl,q⟩:=u.slot b o e n hb hx
     exact ⟨sl,sb.extBut b _ (ne b o e) q⟩,u.free,fun b o e hx => by
     obtain ⟨o',q⟩:=u.there b o e hx
     exact ⟨o',sb.extBut b o' (ne b o e) q⟩,u.tups,u.frzs,u.tbls⟩
theorem HOk.same_but {P : Program} {w : World} {H : Hp} {h h' : Heap} {C : Addr} (x : HOk P w H h) (sb : Heap.SameBut C h h') (hn : H C = none) : HOk P w H h':=fun a o e =>
 (x a o e).stay (fun b u hb q => sb.extBut b u (fun z => by
   subst z
   rcases hb with z | z
   · rw [z,e] at hn; cases hn
   · rw [z] at hn; cases hn) q) (fun _ q => q) fun _ _ q => q
def PIf (X : Cx) (ifs : List Expr) (tt : TT) : Prop :=
 ∀ (pins : List (Addr × Obj)) (s : Shared) (σ : St) (H : Hp) (Q : Bool→Hp→Prop),Inv X pins σ H s→tt σ H Q →
   wpAny (model X.prog X.w) X.A (forIn ifs true fun c r => if r = true then do let ok ← isTrue c X.env (eval c X.env); pure (ForInStep.yield ok) else pure (ForInStep.yield r)) (TP X pins σ Q) X.xe s
def tYes : TT:=fun _ H Q => Q true H
theorem pif_nil {X : Cx} : PIf X [] tYes:=fun _ _ _ H _ I h => wpAny_tests_nil ⟨H,I,h⟩
theorem pif_one {X : Cx} {c : Expr} {tt : TT} (hc : PT X c tt) : PIf X [c] tt:=fun pins s σ H Q I h => wpAny_tests_one (hc pins s σ H Q I h)
def closL (env : Env) : List (Str × NameKind)→List (Str × Addr)→List (Str × Addr)
 | [],acc => acc
 | y :: r,acc => closL env r (if (y.2 == NameKind.free) = true then (y.1,(env.cells.lookup y.1).getD 0) :: acc else acc)
theorem clos_go (env : Env) : ∀ (names : List (Str × NameKind)) (acc : List (Str × Addr)),(∀ y ∈ names,y.2 = .free→∃ c,env.cells.lookup y.1 = some c) →
   (forIn names acc fun x __s => if (x.snd == NameKind.free) = true then do
       let __do_lift ← cellOf env x.fst
       pure (ForInStep.yield ((x.fst,__do_lift) :: __s))
     else pure (ForInStep.yield __s)) = (pure (closL env names acc) : Sem _)
 | [],acc,_ => rfl
 | y :: r,acc,h => by
   rw [List.forIn_cons]
   by_cases hk : (y.2 == NameKind.free) = true
   · obtain ⟨c,e⟩:=h y List.mem_cons_self (beq_iff_eq.mp hk)
     rw [if_pos hk]
     have ec : cellOf env y.1 = pure c:=by unfold cellOf; rw [e]
     rw [ec]
     simp only [pure_bind]
     rw [clos_go env r _ fun z hz => h z (List.mem_cons_of_mem _ hz)]
     simp only [closL,hk,if_true,e,Option.getD_some]
   · rw [if_neg hk]
     simp only [pure_bind]
     rw [clos_go env r _ fun z hz => h z (List.mem_cons_of_mem _ hz)]
     simp only [closL,hk,if_false]
     rfl
theorem clos_eq {scope : Scope} {env : Env} (h : ∀ y ∈ scope.names,y.2 = .free→∃ c,env.cells.lookup y.1 = some c) : closureFor scope env = pure (closL env scope.names []):=by
 simp only [closureFor]
 rw [clos_go env scope.names [] h]
 simp only [pure_bind]
theorem closL_sub {env : Env} : ∀ {names : List (Str × NameKind)} {acc : List (Str × Addr)},(∀ y ∈ names,y.2 = .free→∃ c,env.cells.lookup y.1 = some c)→(∀ x c,acc.lookup x = some c→env.cells.lookup x = some c) →
   ∀ x c,(closL env names acc).lookup x = some c→env.cells.lookup x = some c
 | [],_,_,ha,x,c,e => ha x c e
 | y :: r,acc,h,ha,x,c,e => by
   refine closL_sub (names:=r) (fun z hz => h z (List.mem_cons_of_mem _ hz)) ?_ x c e
   intro x c e
   by_cases hk : (y.2 == NameKind.free) = true
   · rw [if_pos hk] at e
     obtain ⟨c',e'⟩:=h y List.mem_cons_self (beq_iff_eq.mp hk)
     rw [e',Option.getD_some,List.lookup_cons] at e
     cases q : x == y.1 with
     | true => rw [q] at e; cases e; rw [beq_iff_eq.mp q]; exact e'
     | false => rw [q] at e; exact ha x c e
   · rw [if_neg hk] at e; exact ha x c e
theorem closL_acc {env : Env} : ∀ {names : List (Str × NameKind)} {acc : List (Str × Addr)} {x : Str},(∃ c,acc.lookup x = some c)→∃ c,(closL env names acc).lookup x = some c
 | [],_,_,h => h
 | y :: r,acc,x,⟨c,h⟩ => by
   refine closL_acc (names:=r) ?_
   by_cases hk : (y.2 == NameKind.free) = true
   · rw [if_pos hk,List.lookup_cons]
     cases q : x == y.1 with
     | true => exact ⟨_,rfl⟩
     | false => exact ⟨c,h⟩
   · rw [if_neg hk]; exact ⟨c,h⟩
theorem closL_has {env : Env} : ∀ {names : List (Str × NameKind)} {acc : List (Str × Addr)} {y : Str × NameKind},y ∈ names→y.2 = .free→∃ c,(closL env names acc).lookup y.1 = some c
 | z :: r,acc,y,hm,hk => by
   rcases List.mem_cons.mp hm with rfl | hm
   · refine closL_acc (names:=r) ?_
     rw [if_pos (beq_iff_eq.mpr hk),List.lookup_cons]
     simp
   · exact closL_has (names:=r) hm hk
theorem relabel_of {scope : Scope} {env : Env} {x : Str} {k : NameKind} (h : (relabel scope env).names.lookup x = some k) (hk : k = .cell ∨ k = .free) (hcell : ∀ y ∈ scope.names,y.2 ≠ .cell) : (x,NameKind.free) ∈ scope.names:=by
 have hm:=PySem.mem_of_lookup h
 obtain ⟨⟨n,k0⟩,h1,h2⟩:=List.mem_map.mp hm
 dsimp only at h2
 split at h2
 · rename_i hc
   cases h2
   have : (k0 == NameKind.free) = true:=by
     simp only [Bool.and_eq_true] at hc
     exact hc.1.1
   rw [beq_iff_eq.mp this] at h1
   exact h1
 · cases h2
   rcases hk with rfl | rfl
   · exact absurd rfl (hcell _ h1)
   · exact h1
theorem lookup_relabel_free {env : Env} : ∀ {names : List (Str × NameKind)} {x : Str},names.lookup x = some .free →
   (names.map fun (n,k) => if (k == NameKind.free && env.scope.kind == .function && env.kindOf n == some .cell) then (n,NameKind.cell) else (n,k)).lookup x = some .cell ∨
   (names.map fun (n,k) => if (k == NameKind.free && env.scope.kind == .function && env.kindOf n == some .cell) then (n,NameKind.cell) else (n,k)).lookup x = some .free
 | [],_,h => by simp at h
 | (n,k) :: r,x,h => by
   have ih:=@lookup_relabel_free env r x
   show List.lookup x ((if (k == NameKind.free && env.scope.kind == .function && env.kindOf n == some .cell) = true then (n,NameKind.cell) else (n,k)) :: _) = _ ∨ List.lookup x ((if (k == NameKind.free && env.scope.kind == .function && env.kindOf n == some .cell) = true then (n,NameKind.cell) else (n,k)) :: _) = _
   cases hx : x == n with
   | true =>
     simp only [List.lookup_cons,hx] at h
     cases h
     by_cases hc : (NameKind.free == NameKind.free && env.scope.kind == .function && env.kindOf n == some .cell) = true
     · rw [if_pos hc]; simp [List.lookup_cons,hx]
     · rw [if_neg hc]; simp [List.lookup_cons,hx]
   | false =>
     simp only [List.lookup_cons,hx] at h
     by_cases hc : (k == NameKind.free && env.scope.kind == .function && env.kindOf n == some .cell) = true
     · rw [if_pos hc]; simp only [List.lookup_cons,hx]; exact ih h
     · rw [if_neg hc]; simp only [List.lookup_cons,hx]; exact ih h
section
variable {prog : Program} {w : World} {A : Around} {E : Value→Shared→Prop} {R : Result→Shared→Prop} {s : Shared}
theorem compLoop_go {elt target iter : Expr} {ifs : List Expr} {scope : Scope} {pos : Pos} {it acc : Value} {env : Env} (I : Nat→Shared→Prop)
   (turn : ∀ n s,I n s→wpAny (model prog w) A (pyNext it) (fun r s₁ => match r with
     | none => R (.ok .next) s₁
     | some v => wpAny (model prog w) A (letOwnedTupleGo target it v) (fun _ s₁ => wpAny (model prog w) A (assign target env v) (fun _ s₂ =>
         wpAny (model prog w) A (forIn ifs true fun c r => if r = true then do let ok ← isTrue c env (eval c env); pure (ForInStep.yield ok) else pure (ForInStep.yield r)) (fun ok s₃ =>
           if ok = true then wpAny (model prog w) A (eval elt env) (fun x s₄ =>
             wpAny (model prog w) A (call (.builtin "list.append") [acc,x]) (fun _ s₅ => ∃ m,m < n∧I m s₅) (notedBy (model prog w) A env fun e s' => R (.error e) s') s₄) (notedBy (model prog w) A env fun e s' => R (.error e) s') s₃
           else ∃ m,m < n∧I m s₃) (notedBy (model prog w) A env fun e s' => R (.error e) s') s₂) (notedBy (model prog w) A env fun e s' => R (.error e) s') s₁) (notedBy (model prog w) A env fun e s' => R (.error e) s') s₁) (notedBy (model prog w) A env fun e s' => R (.error e) s') s)
   (n : Nat) (h : I n s) :
   codeAny (model prog w) A (.compLoop (.ListComp elt [⟨target,iter,ifs,0⟩] scope pos) 0 it acc env) R s:=by
 refine codeAny_loop rfl I (fun n s hI => ?_) n h
 show wpAny _ A ((compTurn (.ListComp elt [⟨target,iter,ifs,0⟩] scope pos) 0 it acc env).onRaise (fun x => do noteFrame x env; theTreesLotGoes x)) _ _ s
 refine wpAny_noted ?_
 rw [compTurn_list]
 refine wpAny_bind (wpAny_standAt (wpAny_bind (wpAny_mono (turn n s hI) (fun r s₁ h₁ => ?_) fun _ _ h' => h')))
 cases r with
 | none => exact wpAny_pure h₁
 | some v =>
   refine wpAny_bind (wpAny_mono h₁ (fun _ s₁' h₁' => ?_) fun _ _ h' => h')
   refine wpAny_bind (wpAny_mono h₁' (fun _ s₂ h₂ => wpAny_bind (wpAny_mono h₂ (fun ok s₃ h₃ => ?_) fun _ _ h' => h')) fun _ _ h' => h')
   cases ok with
   | false => exact wpAny_pure ⟨rfl,h₃⟩
   | true =>
     exact wpAny_bind (wpAny_bind (wpAny_mono h₃ (fun x s₄ h₄ => wpAny_bind (wpAny_mono h₄ (fun _ s₅ h₅ => wpAny_pure (wpAny_pure ⟨rfl,h₅⟩)) fun _ _ h' => h')) fun _ _ h' => h'))
end
section
variable {X : Cx}
def tComp (wi : TI) (g : TG) (tt : TT) (te : TE) (nt : Nat) (sl : List Nat) : TE:=fun σ H Q => wi σ H fun J H1 => ∀ D,H1 D = none →
 ∃ W : Nat→Nat→List V→St→Hp→Prop,(∃ m,W 0 m [] (List.replicate nt none ++ sl.map fun j => (σ[j]?).join) (upd H1 D (.lst []))) ∧
   ∀ i m acc σ' H',W i m acc σ' H' →
     (J.stop i H'∧Q (.ref D) H') ∨
     (J.go i H'∧∃ N : List V→St→Hp→Prop,(∀ acc' σ2 H4,N acc' σ2 H4→∃ m',m' < m∧W (i + 1) m' acc' σ2 H4)∧∀ x H2,J.yld i H' x H2→g x σ' H2 fun σ2 H3 => tt σ2 H3 fun b H4 =>
       if b = true then te σ2 H4 fun y H5 => H5 D = some (.lst acc)∧acc.length < sizeLine∧N (acc ++ [y]) σ2 (upd H5 D (.lst (acc ++ [y])))
       else N acc σ2 H4)
theorem pe_comp {elt tg iter : Expr} {ifs : List Expr} {scope : Scope} {pos : Pos} {wi : TI} {g : TG} {tt : TT} {te : TE} {N' : List Str} {nt : Nat} {sl : List Nat}
   (hc : X.calm = true) (hi : PI X tg iter wi) (hg : ∀ cl C s H ex,PG (cxComp X N' scope cl C s H ex) tg g) (ht : ∀ cl C s H ex,PIf (cxComp X N' scope cl C s H ex) ifs tt) (he : ∀ cl C s H ex,PE (cxComp X N' scope cl C s H ex) elt te)
   (hN' : N'.length = nt + sl.length) (hsl : ∀ k j : Nat,sl[k]? = some j→∃ x,N'[nt + k]? = some x∧X.N[j]? = some x∧scope.names.lookup x = some .free)
   (hk : scope.kind = .function) (hcell : ∀ y ∈ scope.names,y.2 ≠ .cell) (hnames : ∀ y ∈ scope.names,y.2 = .local→scope.names.lookup y.1 = some .local)
   (hfree : ∀ y ∈ scope.names,y.2 = .free→X.env.kindOf y.1 = some .cell ∨ X.env.kindOf y.1 = some .free)
   (hs : ∀ x,foldedSetIterable iter X.env x = pure x:=by intro _; rfl) :
   PE X (.ListComp elt [⟨tg,iter,ifs,0⟩] scope pos) (tComp wi g tt te nt sl):=by
 intro pins s σ H Q I h
 have hcl : ∀ y ∈ scope.names,y.2 = .free→∃ c,X.env.cells.lookup y.1 = some c:=fun y hy hf => I.ok.has y.1 (hfree y hy hf)
 have csub:=closL_sub (env:=X.env) (names:=scope.names) (acc:=[]) hcl (fun x c e => by simp at e)
 rw [eval_ListComp]
 refine wpAny_comprehension_free (use:=none) (cl:=closL X.env scope.names []) rfl hs (clos_eq hcl) hk hnames (thn (hi pins s σ H _ I h) fun v s1 h1 => thn h1 fun itv s2 h2 => ?_)
 obtain ⟨it,fp,tn,J,H2,rfl,I2,T,st2,f2,q⟩:=h2
 have nD : H2 s2.heap.objs.size = none:=I2.hok.fresh (Nat.le_refl _)
 obtain ⟨W,⟨m0,w0⟩,turn⟩:=q s2.heap.objs.size nD
 refine wpAny_newObj_type ?_ (by show 0 ≤ sizeLine; exact Nat.zero_le _)
 have I3 : Inv X pins σ (upd H2 s2.heap.objs.size (.lst [])) { s2 with heap:=s2.heap.push { cls:=.type "list",data:=.seq ([] : List Value).toArray } } :=
   I2.laid (t':=s2.toks) (fun b u e => Heap.get?_push_of_some _ e) (Nat.le_refl _) ⟨Nat.zero_le _,[],0,.nil,Heap.get?_push_size _ rfl⟩
 generalize hs3 : ({ s2 with heap:=s2.heap.push { cls:=.type "list",data:=.seq ([] : List Value).toArray } } : Shared) = s3 at I3 ⊢
 have hle : s2.heap.objs.size ≤ s3.heap.objs.size:=by rw [← hs3]; show _ ≤ (Heap.push _ _).objs.size; rw [Heap.size_push]; exact Nat.le_succ _
 have hkeep23 : ∀ b o,s2.heap.get? b = some o→s3.heap.get? b = some o:=fun b o e => by rw [← hs3]; exact Heap.get?_push_of_some _ e
 refine wpAny_newFunctionEnv hcell (by intro y hy; simp at hy) (fun h₁ hns hsb => ?_) hk
 have keep1 : ∀ b o,s3.heap.get? b = some o→h₁.get? b = some o:=fun b o e => hsb.extBut b o (Nat.ne_of_lt (Heap.lt_size e)) (Heap.get?_push_of_some _ e)
 have nC : (upd H2 s2.heap.objs.size (.lst [])) s3.heap.objs.size = none:=I3.hok.fresh (Nat.le_refl _)
 have frC : s3.heap.get? s3.heap.objs.size = none:=Heap.get?_none_of_le (Nat.le_refl _)
 -- the iterator's objects
 have fpIn : ∀ b ∈ fp,b < s2.heap.objs.size:=fun b hb => by
   obtain ⟨o,e,_⟩:=T.obj _ _ st2 b hb
   exact Heap.lt_size e
 have fpC : ∀ b ∈ fp,b ≠ s3.heap.objs.size:=fun b hb => Nat.ne_of_lt (Nat.lt_of_lt_of_le (fpIn b hb) hle)
 have fpD : ∀ b ∈ fp,b ≠ s2.heap.objs.size:=fun b hb => Nat.ne_of_lt (fpIn b hb)
 have fpS : ∀ b ∈ fp,b ∉ frs X.stack:=fun b hb hm => by
   rcases List.mem_cons.mp (I2.stkSub b hm) with z | z
   · exact (f2 b hb).2.1 z
   · exact (f2 b hb).2.2.1 z
 have csub' : ∀ x c,(closL X.env scope.names []).lookup x = some c→X.env.cells.lookup x = some c:=csub
 have hch : ∀ b ∈ fp,(b ∈ X.ex ∨ X.s₀.heap.objs.size ≤ b)∧b ≠ X.env.locals∧(∀ x c,X.env.cells.lookup x = some c→c ≠ b)∧∀ p ∈ X.pn ++ pins,p.1 ≠ b:=fun b hb =>
   ⟨(f2 b hb).2.2.2.1,(f2 b hb).2.1,(f2 b hb).2.2.2.2.1,(f2 b hb).2.2.2.2.2⟩
 -- the block's context
 have ok' : (cxComp X N' scope (closL X.env scope.names []) s3.heap.objs.size s3 (upd H2 s2.heap.objs.size (.lst [])) fp).Ok:=by
   refine ⟨I3.ok.mod,hk,I3.ok.glob,I3.ok.blt,Nat.le_refl _,fun x y c h1 h2 => I3.ok.inj x y c (csub x c h1) (csub y c h2),fun x hx => ?_,(fun x c hf => nomatch hf),I3.ok.hd,I3.ok.frames,.inl rfl,fun b hb => ⟨fpC b hb,fun x c e => (hch b hb).2.2.1 x c (csub x c e)⟩,
     I3.bs,Nat.le_trans I3.ok.bsz I3.sz,fun b o e hb => ?_,fpS,I3.stack,I3.stkFree⟩
   · have hm : (x,NameKind.free) ∈ scope.names:=by
       rcases hx with hx | hx
       · exact relabel_of hx (.inl rfl) hcell
       · exact relabel_of hx (.inr rfl) hcell
     exact closL_has hm rfl
   · rcases (hch b hb).1 with z | z
     · exact I3.ok.noex b o e z
     · exact absurd (Nat.lt_of_lt_of_le (Heap.lt_size (I3.ok.bs b o e).1) z) (Nat.lt_irrefl _)
 have I4 : Inv (cxComp X N' scope (closL X.env scope.names []) s3.heap.objs.size s3 (upd H2 s2.heap.objs.size (.lst [])) fp) [] (List.replicate nt none ++ sl.map fun j => (σ[j]?).join) (upd H2 s2.heap.objs.size (.lst []))
     { s3 with heap:=h₁,toks:=s3.toks + ([] : List (Str × Value)).length }:=by
   refine ⟨ok',rfl,I3.bare,Un.kept keep1,⟨_,hns,fun i x v e1 e2 e3 => ?_⟩,fun x c e => ?_,nC,fun x c e => I3.freeC x c (csub x c e),fun p hp => absurd hp (by simp [cxComp]),I3.hok.kept keep1,?_⟩
   · by_cases hi : i < nt
     · rw [List.getElem?_append_left (by simpa using hi),List.getElem?_replicate] at e2
       split at e2 <;> cases e2
     · rw [List.getElem?_append_right (by simpa using hi),List.length_replicate,List.getElem?_map] at e2
       cases ej : sl[i - nt]? with
       | none => rw [ej] at e2; cases e2
       | some j =>
         rw [ej] at e2
         have e2' : (σ[j]?).join = some v:=Option.some.inj e2
         have eσ : σ[j]? = some (some v):=by
           cases q : σ[j]? with
           | none => rw [q] at e2'; cases e2'
           | some o => rw [q] at e2'; cases e2'; rfl
         obtain ⟨y,n1,n2,n3⟩:=hsl _ j ej
         have : nt + (i - nt) = i:=by omega
         rw [this] at n1
         have exy : y = x:=Option.some.inj (n1.symm.trans e1)
         subst exy
         have hm : (y,NameKind.free) ∈ scope.names:=PySem.mem_of_lookup n3
         have hkx:=hfree _ hm rfl
         obtain ⟨m,hn,hl⟩:=I3.loc
         have vis : Vis X.env.scope y:=by
           rcases hkx with z | z
           · exact .inr (.inl z)
           · exact .inr (.inr z)
         obtain ⟨u,r,l⟩:=hl j y v n2 eσ vis
         refine ⟨u,r,.inr ⟨lookup_relabel_free n3,?_⟩⟩
         obtain ⟨c,ec⟩:=closL_has (env:=X.env) (acc:=[]) hm rfl
         refine ⟨c,ec,?_⟩
         rcases l with ⟨k1,_⟩ | ⟨_,c',e',hcell'⟩
         · rcases hkx with z | z
           · rw [show X.env.kindOf y = some .local from k1] at z; cases z
           · rw [show X.env.kindOf y = some .local from k1] at z; cases z
         · have ecc : c = c':=Option.some.inj ((csub y c ec).symm.trans e')
           subst ecc
           obtain ⟨o,ho,hd⟩:=hcell'
           exact ⟨o,keep1 c o ho,hd⟩
   · obtain ⟨v,o,ho,hd⟩:=I3.cell x c (csub x c e)
     exact ⟨v,o,keep1 c o ho,hd⟩
   · show _ = N'.length
     rw [hN',List.length_append,List.length_replicate,List.length_map]
 have st4 : tn 0 h₁:=T.keep _ _ _ st2 fun b hb o e => keep1 b o (hkeep23 b o e)
 have fpok : ∀ {pl : List (Addr × Obj)} {H' : Hp},pl = []→(∀ b ∈ fp,H' b = none)→∀ b ∈ fp,FpOk (cxComp X N' scope (closL X.env scope.names []) s3.heap.objs.size s3 (upd H2 s2.heap.objs.size (.lst [])) fp) pl H' b:=fun {pl H'} hpl hn b hb => by
   subst hpl
   exact ⟨hn b hb,fpC b hb,fpS b hb,.inl hb,fun x c e => (hch b hb).2.2.1 x c (csub x c e),fun p hp => absurd hp (by simp [cxComp])⟩
 have fr4 : ∀ b ∈ fp,(upd H2 s2.heap.objs.size (.lst [])) b = none:=fun b hb => by rw [upd_ne (fpD b hb)]; exact (f2 b hb).1
 have loop : codeAny (model X.prog X.w) X.A (.compLoop (.ListComp elt [⟨tg,iter,ifs,0⟩] scope pos) 0 (.ref it) (.ref s2.heap.objs.size) (compEnvC scope (closL X.env scope.names []) s3.heap.objs.size X.env))
     (compPost (model X.prog X.w) X.A X.xe none (EP X pins σ Q) (.ref s2.heap.objs.size) s3.heap.objs.size) { s3 with heap:=h₁,toks:=s3.toks + ([] : List (Str × Value)).length }:=by
   refine compLoop_go (fun n s' => ∃ i acc σ' H',Inv (cxComp X N' scope (closL X.env scope.names []) s3.heap.objs.size s3 (upd H2 s2.heap.objs.size (.lst [])) fp) [] σ' H' s'∧tn i s'.heap∧(∀ b ∈ fp,H' b = none)∧W i n acc σ' H') ?_ m0 ⟨0,[],_,_,I4,st4,fr4,w0⟩
   rintro n s5 ⟨i,acc,σ5,H5,I5,st5,fr5,w5⟩
   rcases turn i n acc σ5 H5 w5 with ⟨stop,qn⟩ | ⟨go,N,hN,step⟩
   · refine thn (T.done (cxComp X N' scope (closL X.env scope.names []) s3.heap.objs.size s3 (upd H2 s2.heap.objs.size (.lst [])) fp) rfl rfl rfl hc i [] s5 σ5 H5 _ I5 (fpok rfl fr5) st5 stop) fun r s6 ⟨hr,I6⟩ => ?_
     subst hr
     obtain ⟨m,hn,_⟩:=id I6.loc
     refine ⟨m,hn,fun h' sb => ⟨.ref s2.heap.objs.size,H5,?_,rfl,qn⟩⟩
     exact I3.call' (s':={ s6 with heap:=h' }) I6.os (I6.base.same_but sb frC) (I6.hok.same_but sb I6.free) I6.bare hch
   · refine thn (T.item (cxComp X N' scope (closL X.env scope.names []) s3.heap.objs.size s3 (upd H2 s2.heap.objs.size (.lst [])) fp) rfl rfl rfl hc i [] s5 σ5 H5 _ I5 (fpok rfl fr5) st5 go) fun r s6 ⟨u,hr,h6⟩ => ?_
     subst hr
     refine thn h6 fun _ s7 ⟨x,H7,I7,r7,y7,st7,fr7⟩ => ?_
     have I7':=I7.pinned (fpok rfl fr7) (T.obj _ _ st7)
     have again : ∀ {s8 : Shared} {σ8 : St} {H8 : Hp} {acc' : List V},Inv (cxComp X N' scope (closL X.env scope.names []) s3.heap.objs.size s3 (upd H2 s2.heap.objs.size (.lst [])) fp) ([] ++ pinsAt fp s7.heap) σ8 H8 s8→(∃ m',m' < n∧W (i + 1) m' acc' σ8 H8) →
         ∃ m,m < n∧∃ i acc σ' H',Inv (cxComp X N' scope (closL X.env scope.names []) s3.heap.objs.size s3 (upd H2 s2.heap.objs.size (.lst [])) fp) [] σ' H' s8∧tn i s8.heap∧(∀ b ∈ fp,H' b = none)∧W i m acc σ' H':=fun {s8 σ8 H8 acc'} I8 ⟨m',hm,w8⟩ => by
       refine ⟨m',hm,i + 1,acc',σ8,H8,I8.unpinned,T.keep _ _ _ st7 fun b hb o e => (I8.pin (b,o) (List.mem_append_right _ (List.mem_append_right _ (mem_pinsAt hb e)))).1,fun b hb => ?_,w8⟩
       obtain ⟨o,e,d⟩:=T.obj _ _ st7 b hb
       exact (I8.pin (b,o) (List.mem_append_right _ (List.mem_append_right _ (mem_pinsAt hb e)))).2.1
     refine wpAny_mono (hg _ _ _ _ _ _ s7 σ5 H7 x u _ I7' r7 (step x H7 y7)) (fun _ s8 ⟨σ8,H8,I8,q8⟩ => ?_) fun _ _ z => False.elim z
     refine wpAny_mono (ht _ _ _ _ _ _ s8 σ8 H8 _ I8 q8) (fun ok s9 ⟨H9,I9,q9⟩ => ?_) fun _ _ z => False.elim z
     cases ok with
     | false =>
       rw [if_neg Bool.false_ne_true] at q9 ⊢
       exact again I9 (hN _ _ _ q9)
     | true =>
       rw [if_pos rfl] at q9 ⊢
       refine wpAny_mono (he _ _ _ _ _ _ s9 σ8 H9 _ I9 q9) (fun y s10 ⟨yv,H10,I10,r10,hD,hz,q10⟩ => ?_) fun _ _ z => False.elim z
       refine wpAny_mono (mt_append (X:=(cxComp X N' scope (closL X.env scope.names []) s3.heap.objs.size s3 (upd H2 s2.heap.objs.size (.lst [])) fp)) _ s10 σ8 H10 (.ref s2.heap.objs.size) [yv] (.ref s2.heap.objs.size) [y] (fun _ H11 => N (acc ++ [yv]) σ8 H11) I10 rfl (.cons r10 .nil) ⟨_,acc,yv,rfl,rfl,hD,hz,q10⟩) (fun _ s11 ⟨v11,H11,I11,r11,q11⟩ => ?_) fun _ _ z => False.elim z
       exact again I11 (hN _ _ _ q11)
 exact codeAny_compStart_list loop (T.self _ 0 _ _ _ st4 loop)
theorem pe_lc {elt tg iter : Expr} {ifs : List Expr} {scope : Scope} {pos : Pos} {wi : TI} {g : TG} {tt : TT} {te : TE} (tn fr : List Str) (sl : List Nat)
   (hp : Paired (fun (j : Nat) (x : Str) => X.N[j]? = some x∧scope.names.lookup x = some .free∧(X.env.kindOf x = some .cell ∨ X.env.kindOf x = some .free)) sl fr)
   (hc : X.calm = true) (hi : PI X tg iter wi) (hg : ∀ cl C s H ex,PG (cxComp X (tn ++ fr) scope cl C s H ex) tg g) (ht : ∀ cl C s H ex,PIf (cxComp X (tn ++ fr) scope cl C s H ex) ifs tt) (he : ∀ cl C s H ex,PE (cxComp X (tn ++ fr) scope cl C s H ex) elt te)
   (hk : scope.kind = .function) (hcell : ∀ y ∈ scope.names,y.2 ≠ .cell) (hnames : ∀ y ∈ scope.names,y.2 = .local→scope.names.lookup y.1 = some .local)
   (hfree : ∀ y ∈ scope.names,y.2 = .free→y.1 ∈ fr)
   (hs : ∀ x,foldedSetIterable iter X.env x = pure x:=by intro _; rfl) :
   PE X (.ListComp elt [⟨tg,iter,ifs,0⟩] scope pos) (tComp wi g tt te tn.length sl):=by
 have key : ∀ {sl : List Nat} {fr : List Str},Paired (fun (j : Nat) (x : Str) => X.N[j]? = some x∧scope.names.lookup x = some .free∧(X.env.kindOf x = some .cell ∨ X.env.kindOf x = some .free)) sl fr →
     (∀ k j : Nat,sl[k]? = some j→∃ x,fr[k]? = some x∧X.N[j]? = some x∧scope.names.lookup x = some .free)∧∀ x ∈ fr,X.env.kindOf x = some .cell ∨ X.env.kindOf x = some .free:=by
   intro sl fr hp
   induction hp with
   | nil => exact ⟨fun k j h => by simp at h,fun x hx => by simp at hx⟩
   | cons r t ih =>
     refine ⟨fun k j h => ?_,fun x hx => ?_⟩
     · cases k with
       | zero =>
         have e : _ = j:=Option.some.inj h
         subst e
         exact ⟨_,rfl,r.1,r.2.1⟩
       | succ k => exact ih.1 k j (by simpa using h)
     · rcases List.mem_cons.mp hx with z | z
       · rw [z]; exact r.2.2
       · exact ih.2 x z
 refine pe_comp (N':=tn ++ fr) hc hi hg ht he (by rw [List.length_append,hp.length]) (fun k j h => ?_) hk hcell hnames (fun y hy hf => (key hp).2 _ (hfree y hy hf)) hs
 obtain ⟨x,e1,e2⟩:=(key hp).1 k j h
 exact ⟨x,by rw [List.getElem?_append_right (Nat.le_add_right _ _),Nat.add_sub_cancel_left]; exact e1,e2⟩
end
theorem comp_range {lo : Int} {n : Nat} {g : TG} {tt : TT} {te : TE} {D : Addr} {Q : Hp→Prop} {σ : St} {H : Hp} (Pv : Nat→List V→St→Hp→Prop) (h0 : Pv 0 [] σ H)
   (hs : ∀ i acc σ H,i < n→Pv i acc σ H→g (.int (lo + i)) σ H fun σ2 H3 => tt σ2 H3 fun b H4 =>
     if b = true then te σ2 H4 fun y H5 => H5 D = some (.lst acc)∧acc.length < sizeLine∧Pv (i + 1) (acc ++ [y]) σ2 (upd H5 D (.lst (acc ++ [y]))) else Pv (i + 1) acc σ2 H4) (hd : ∀ acc σ H,Pv n acc σ H→Q H) :
   ∃ W : Nat→Nat→List V→St→Hp→Prop,(∃ m,W 0 m [] σ H)∧∀ i m acc σ' H',W i m acc σ' H'→((Itr lo n).stop i H'∧Q H') ∨
     ((Itr lo n).go i H'∧∃ N : List V→St→Hp→Prop,(∀ acc' σ2 H4,N acc' σ2 H4→∃ m',m' < m∧W (i + 1) m' acc' σ2 H4)∧∀ x H2,(Itr lo n).yld i H' x H2→g x σ' H2 fun σ2 H3 => tt σ2 H3 fun b H4 =>
       if b = true then te σ2 H4 fun y H5 => H5 D = some (.lst acc)∧acc.length < sizeLine∧N (acc ++ [y]) σ2 (upd H5 D (.lst (acc ++ [y]))) else N acc σ2 H4):=by
 refine ⟨fun i m acc σ H => m = n - i∧i ≤ n∧Pv i acc σ H,⟨n,by simp,Nat.zero_le _,h0⟩,?_⟩
 rintro i m acc σ H ⟨rfl,hi,p⟩
 by_cases hlt : i < n
 · refine .inr ⟨hlt,Pv (i + 1),fun acc' σ' H' p' => ⟨n - (i + 1),by omega,rfl,hlt,p'⟩,fun x H' y => ?_⟩
   obtain ⟨e,y⟩:=y
   subst e y
   exact hs i acc σ _ hlt p
 · have e : i = n:=by omega
   subst e
   exact .inl ⟨Nat.le_refl _,hd acc σ H p⟩
theorem comp_list {K : PySem.W.Frag} {a : Addr} {xs : List V} {g : TG} {tt : TT} {te : TE} {D : Addr} {Q : Hp→Prop} {σ : St} {H : Hp} (Pv : Nat→List V→St→Hp→Prop) (h0 : Pv 0 [] σ H) (hl : ∀ i acc σ H,i ≤ xs.length→Pv i acc σ H→SqL K H a xs)
   (hs : ∀ i x acc σ H,xs[i]? = some x→Pv i acc σ H→g x σ H fun σ2 H3 => tt σ2 H3 fun b H4 =>
     if b = true then te σ2 H4 fun y H5 => H5 D = some (.lst acc)∧acc.length < sizeLine∧Pv (i + 1) (acc ++ [y]) σ2 (upd H5 D (.lst (acc ++ [y]))) else Pv (i + 1) acc σ2 H4) (hd : ∀ acc σ H,Pv xs.length acc σ H→Q H) :
   ∃ W : Nat→Nat→List V→St→Hp→Prop,(∃ m,W 0 m [] σ H)∧∀ i m acc σ' H',W i m acc σ' H'→((Itl K a).stop i H'∧Q H') ∨
     ((Itl K a).go i H'∧∃ N : List V→St→Hp→Prop,(∀ acc' σ2 H4,N acc' σ2 H4→∃ m',m' < m∧W (i + 1) m' acc' σ2 H4)∧∀ x H2,(Itl K a).yld i H' x H2→g x σ' H2 fun σ2 H3 => tt σ2 H3 fun b H4 =>
       if b = true then te σ2 H4 fun y H5 => H5 D = some (.lst acc)∧acc.length < sizeLine∧N (acc ++ [y]) σ2 (upd H5 D (.lst (acc ++ [y]))) else N acc σ2 H4):=by
 refine ⟨fun i m acc σ H => m = xs.length - i∧i ≤ xs.length∧Pv i acc σ H,⟨xs.length,by simp,Nat.zero_le _,h0⟩,?_⟩
 rintro i m acc σ H ⟨rfl,hi,p⟩
 have q:=hl i acc σ H hi p
 by_cases hlt : i < xs.length
 · refine .inr ⟨⟨xs,xs[i],q,by simp [hlt]⟩,Pv (i + 1),fun acc' σ' H' p' => ⟨xs.length - (i + 1),by omega,rfl,hlt,p'⟩,fun x H' y => ?_⟩
   obtain ⟨e,y⟩:=y
   subst e
   exact hs i x acc σ _ (y xs q) p
 · have e : i = xs.length:=by omega
   subst e
   exact .inl ⟨⟨xs,q,Nat.le_refl _⟩,hd acc σ H p⟩
section
variable {X : Cx}
def rBitLen : V→List V→Hp→VK→Prop:=fun x vs H Q => ∃ i : Int,x = .int i∧vs = []∧∀ b : Int,b = ((Builtin.Int.intBits i : Nat) : Int)→Q (.int b) H
theorem mt_bitlen : MtR X "int.bit_length" rBitLen:=by
 intro pins s σ H x vs v us Q I rx rv h
 obtain ⟨i,rfl,rfl,q⟩:=h
 obtain ⟨t,rfl⟩:=rx
 obtain rfl:=Vals.zero rv
 exact call_int_bit_length ⟨.int _,H,I.tok _,⟨_,rfl⟩,q _ rfl⟩
theorem bitOr_nat (a b : Nat) : Builtin.bitOr (a : Int) (b : Int) = ((a ||| b : Nat) : Int):=by
 have d1 : decide (0 ≤ Builtin.bitNot (a : Int)) = false:=decide_eq_false (by unfold Builtin.bitNot; omega)
 have d2 : decide (0 ≤ Builtin.bitNot (b : Int)) = false:=decide_eq_false (by unfold Builtin.bitNot; omega)
 have n1 : (Builtin.bitNot (Builtin.bitNot (a : Int))).toNat = a:=by unfold Builtin.bitNot; omega
 have n2 : (Builtin.bitNot (Builtin.bitNot (b : Int))).toNat = b:=by unfold Builtin.bitNot; omega
 unfold Builtin.bitOr Builtin.bitAnd
 rw [d1,d2]
 dsimp only
 rw [n1,n2]
 unfold Builtin.bitNot
 omega
theorem bitAnd_nat (a b : Nat) : Builtin.bitAnd (a : Int) (b : Int) = ((a &&& b : Nat) : Int):=by simp [Builtin.bitAnd]
end
def natV (k : Nat) : V:=.int (k : Int)
def sp_has_room : Sp:=fun vs H Q _ => ∃ n r : Nat,vs = [natV n,natV r]∧Q (.bl (n.testBit r)) H
def sp_with_room : Sp:=fun vs H Q _ => ∃ n r : Nat,vs = [natV n,natV r]∧r ≤ 1000∧Q (natV (n ||| 2 ^ r)) H
def sp_members : Sp:=fun vs H Q _ => ∃ n : Nat,vs = [natV n]∧n < 2 ^ 61∧∀ p H',H p = none→Same H H'→H' p = some (.lst ((Bit.rooms n).map natV))→Q (.ref p) H'
def sp_subsets : Sp:=fun vs H Q _ => ∃ n : Nat,vs = [natV n]∧n < 2 ^ 61∧(Bit.rooms n).length ≤ 8∧∀ p H',H p = none→Same H H'→H' p = some (.lst ((Bit.parts (Bit.rooms n)).map natV))→Q (.ref p) H'
theorem rooms_len (n : Nat) : (Bit.rooms n).length ≤ 61:=by
 have:=List.length_filter_le n.testBit (List.range 61)
 rw [List.length_range] at this
 exact this
theorem shr_odd (n r : Nat) {s m : Int} (es : s = (n : Int) / 2 ^ ((r : Int)).toNat) (em : m = s % 2) : decide (V.int m = V.int 1) = n.testBit r:=by
 rw [Nat.testBit_eq_decide_div_mod_eq]
 have e1 : s = ((n / 2 ^ r : Nat) : Int):=by
   rw [es,Int.toNat_natCast]
   have : ((2 : Int) ^ r) = ((2 ^ r : Nat) : Int):=by rw [Int.natCast_pow]; rfl
   rw [this,← Int.natCast_ediv]
 have e2 : m = ((n / 2 ^ r % 2 : Nat) : Int):=by rw [em,e1]; exact (Int.natCast_emod _ _).symm
 have e3 : (V.int m = V.int 1) ↔ (n / 2 ^ r % 2 = 1):=by rw [int_inj,e2]; omega
 exact decide_eq_decide.mpr e3
theorem parts_snoc (l : List Nat) (r : Nat) : Bit.parts (l ++ [r]) = Bit.parts l ++ (Bit.parts l).map (· ||| 2 ^ r):=by
 unfold Bit.parts; rw [List.foldl_append]; rfl
theorem ok_take (n i : Nat) : Bit.Ok (Bit.parts ((Bit.rooms n).take i)) ((Bit.rooms n).take i):=by
 have:=Bit.ok_fold ((Bit.rooms n).take i) [] [0] Bit.ok_nil (by rw [List.nil_append]; exact (Bit.rooms_sorted n).sublist (List.take_sublist _ _))
 rw [List.nil_append] at this
 exact this
theorem take_next {α : Type} {l : List α} {i : Nat} {x : α} (h : l[i]? = some x) : l.take (i + 1) = l.take i ++ [x]:=by
 rw [List.take_add_one,h]; rfl
theorem get_natV {l : List Nat} {i : Nat} {x : V} (h : (l.map natV)[i]? = some x) : ∃ k,l[i]? = some k∧x = natV k:=by
 rw [List.getElem?_map] at h
 cases e : l[i]? with
 | none => rw [e] at h; cases h
 | some k => rw [e] at h; exact ⟨k,rfl,(Option.some.inj h).symm⟩
end L2
namespace L2
open PySem PySem.Spec PyProof.Rows Mth
theorem hide_get {h : Heap} {as : List Addr} {b : Addr} {o : Obj} (e : h.get? b = some o) (n : b ∉ as) : (PySem.W.hideAll h as).get? b = some o:=PySem.W.hideAll_get _ e n
structure Fly (P : Program) (w : World) (outer : List Env) (H : Hp) (s : Shared) (cls : Value) (x : Addr) (H' : Hp) (s' : Shared) : Prop where
 os : s'.os = s.os
 bare : AllBare s'.gens
 un : Un (frs outer) [] H H' s.heap s'.heap
 hok : HOk P w H' s'.heap
 fly : ∃ a0 B,Heap.FlyingW B outer x cls a0 s'.heap∧(∀ b o,s.heap.get? b = some o→b ∉ frs outer→∀ o',s'.heap.get? b = some o'→B.get? b = some o')∧∀ b u,H' b = some u→∃ o,B.get? b = some o
def CX1 (P : Program) (w : World) : CXT:=fun outer H s E e s' => ∃ x cls H',e = .ref x∧Fly P w outer H s cls x H' s'∧E cls none H'
theorem hok_of {P : Program} {w : World} {H : Hp} {h h' B : Heap} (x : HOk P w H h) (hB : ∀ b o,B.get? b = some o→h'.get? b = some o) (hb : ∀ b o,B.get? b = some o→h.get? b = some o) (tk : ∀ b u,H b = some u→∃ o,B.get? b = some o) : HOk P w H h':=fun a o e =>
 (x a o e).stay (fun b u hb' q => by
   have : ∃ u',H b = some u':=by
     rcases hb' with z | z
     · exact ⟨o,by rw [z]; exact e⟩
     · exact ⟨_,z⟩
   obtain ⟨u',hu'⟩:=this
   obtain ⟨ob,hob⟩:=tk b u' hu'
   have:=hb b ob hob
   rw [q] at this
   cases this
   exact hB b u hob) (fun _ q => q) fun _ _ q => q
def Thr (X : Cx) (E : XK) : Prop:=∀ (pins : List (Addr × Obj)) (σ : St) (H : Hp) (s : Shared) (h' : Heap) (x : Addr) (cls : Value) (args : List Value),Inv X pins σ H s→Heap.MadeExcOf s.heap h' x cls args→E cls none H→X.xe (.ref x) { s with heap:=h' }
section
variable {P : Program} {w : World} {K : PySem.W.Frag} {mg : Str→Option Value} {base : Heap} {N : List Str} {qual : Str} {scope : Scope} {f : Addr} {cd : Value} {A : Around} {outer : List Env} {s₀ : Shared} {H₀ : Hp} {E E' : XK}
theorem thr_of (hE : ∀ cls d H,E' cls d H→E cls d H) : Thr (cxOf (CX1 P w) P w K mg base N qual scope f cd A outer s₀ H₀ E) E':=by
 intro pins σ H s h' x cls args I hx he
 have L1 : (envOfC qual scope s₀.heap.objs.size f cd).frame = some s₀.heap.objs.size:=rfl
 have fr:=I.ok.frames
 have st:=I.stack
 have hin : ∀ env ∈ (envOfC qual scope s₀.heap.objs.size f cd :: outer),∀ b,env.frame = some b→b ∈ frs (envOfC qual scope s₀.heap.objs.size f cd :: outer):=fun env he b hb => List.mem_filterMap.mpr ⟨env,he,hb⟩
 refine wpAny_leaves_madeW (base:=PySem.W.hideAll s.heap (frs (envOfC qual scope s₀.heap.objs.size f cd :: outer))) fr L1 (fun b o q => PySem.W.of_hideAll _ q) (PySem.W.funFrames_hide st hin) hx fun h2 t fl tup tn up => ?_
 have nofr : ∀ b o,s₀.heap.get? b = some o→b ∉ frs outer→b ∉ frs (envOfC qual scope s₀.heap.objs.size f cd :: outer):=fun b o e n hm => by
   rcases List.mem_cons.mp (show b ∈ s₀.heap.objs.size :: frs outer from hm) with z | z
   · exact absurd (Heap.lt_size e) (by rw [z]; exact Nat.lt_irrefl _)
   · exact n z
 have stay : ∀ b o,s.heap.get? b = some o→b ∉ frs (envOfC qual scope s₀.heap.objs.size f cd :: outer)→h2.get? b = some o:=fun b o e n => fl.1 b o (hide_get e n)
 have fin : ∀ b ∈ frs outer,∃ o,s.heap.get? b = some o∧∀ vs,o.data ≠ .fields vs:=fun b hb => (I.ok.funs.mem hb).2 |> fun ⟨o,e,hd⟩ => by
   obtain ⟨sl,e2⟩:=I.base.slot b o e (I.ok.frf b hb) hb (by intro z; exact absurd (show b ∈ ([] : List Addr) from z) (by simp))
   exact ⟨_,e2,hd⟩
 have tk : ∀ b u,H b = some u→∃ o,(PySem.W.hideAll s.heap (frs (envOfC qual scope s₀.heap.objs.size f cd :: outer))).get? b = some o:=fun b u e => by
   have nf : b ∉ frs (envOfC qual scope s₀.heap.objs.size f cd :: outer):=fun z => by rw [I.stkFree b z] at e; cases e
   have lt:=I.hok.lt e
   cases q : s.heap.get? b with
   | none =>
     obtain ⟨o,ho⟩ : ∃ o,s.heap.get? b = some o:=by
       have ok:=I.hok b u e
       cases u with
       | lst xs => obtain ⟨_,_,_,_,e⟩:=ok; exact ⟨_,e⟩
       | tup xs => obtain ⟨_,_,_,o,e,_⟩:=ok; exact ⟨_,e⟩
       | dK kvs => obtain ⟨_,_,_,_,o,_,_,e,_⟩:=ok; exact ⟨_,e⟩
       | dT kvs => obtain ⟨_,_,_,_,o,_,_,e,_⟩:=ok; exact ⟨_,e⟩
       | set S n => obtain ⟨o,_,_,_,e,_⟩:=ok; exact ⟨_,e⟩
       | ins C dx fs => obtain ⟨_,_,_,e,_⟩:=ok; exact ⟨_,e⟩
       | own y => obtain ⟨_,e⟩:=ok; exact ⟨_,e⟩
       | xd fs => obtain ⟨_,⟨_,_,_,e,_⟩,_⟩:=ok; exact ⟨_,e⟩
       | rng lo hi => obtain ⟨_,_,_,e⟩:=ok; exact ⟨_,e⟩
       | frz ob u => obtain ⟨e,_⟩:=ok; exact ⟨_,e⟩
       | tbl ps => exact ⟨_,ok⟩
       | met f y => exact ⟨_,ok⟩
       | ext φ => obtain ⟨_,⟨_,e⟩,_⟩:=ok; exact ⟨_,e⟩
     rw [q] at ho; cases ho
   | some o => exact ⟨o,hide_get q nf⟩
 refine ⟨x,cls,H,rfl,⟨I.os,I.bare,?_,hok_of I.hok fl.1 (fun b o q => PySem.W.of_hideAll _ q) tk,_,_,fl,?_,tk⟩,hE _ _ _ he⟩
 · refine ⟨fun b o e n hb _ => stay b o (I.base.keep b o e n hb (by simp [cxOf])) (nofr b o e hb),fun b o e n hb _ => ?_,fun b o e n _ => I.base.free b o e n (by simp [cxOf]),fun b o e _ => ?_,I.base.tups,I.base.frzs,I.base.tbls⟩
   · obtain ⟨sl,e1⟩:=I.base.slot b o e n hb (by simp [cxOf])
     obtain ⟨o1,e2,hd⟩:=fin b hb
     rw [e1] at e2
     cases e2
     obtain ⟨sl2,e3⟩:=up b _ (hx.keeps b _ e1) hd
     exact ⟨sl2,e3⟩
   · obtain ⟨o',e1⟩:=I.base.there b o e (by simp [cxOf])
     by_cases hb : b ∈ frs outer
     · obtain ⟨o1,e2,hd⟩:=fin b hb
       obtain ⟨sl2,e3⟩:=up b _ (hx.keeps b _ e2) hd
       exact ⟨_,e3⟩
     · exact ⟨o',stay b o' e1 (nofr b o e hb)⟩
 · intro b o e hb o' e'
   obtain ⟨o1,e1⟩:=I.base.there b o e (by simp [cxOf])
   have e2:=stay b o1 e1 (nofr b o e hb)
   rw [e2] at e'
   cases e'
   exact hide_get e1 (nofr b o e hb)
theorem pass_of (hE : ∀ cls d H,E' cls d H→E cls d H) : Passes (CX1 P w) (cxOf (CX1 P w) P w K mg base N qual scope f cd A outer s₀ H₀ E) E':=by
 intro pins σ H s e s' I hc
 obtain ⟨x,cls,H',rfl,F,he⟩:=hc
 obtain ⟨a0,B,fl,hB,tk⟩:=F.fly
 have L1 : (envOfC qual scope s₀.heap.objs.size f cd).frame = some s₀.heap.objs.size:=rfl
 have fr:=I.ok.frames
 refine wpAny_leaves_onW (outer:=outer) fr L1 fl fun h2 fl2 up => ?_
 have nofr : ∀ b o,s₀.heap.get? b = some o→b ∉ frs outer→b ∉ frs (envOfC qual scope s₀.heap.objs.size f cd :: outer):=fun b o e n hm => by
   rcases List.mem_cons.mp (show b ∈ s₀.heap.objs.size :: frs outer from hm) with z | z
   · exact absurd (Heap.lt_size e) (by rw [z]; exact Nat.lt_irrefl _)
   · exact n z
 have nex : ∀ b : Addr,b ∉ (cxOf (CX1 P w) P w K mg base N qual scope f cd A outer s₀ H₀ E).ex:=fun b => by simp [cxOf]
 have at2 : ∀ b o,s₀.heap.get? b = some o→b ∉ frs outer→∃ o',s'.heap.get? b = some o'∧B.get? b = some o'∧h2.get? b = some o':=fun b o e n => by
   obtain ⟨o1,e1⟩:=I.base.there b o e (nex b)
   obtain ⟨o2,e2⟩:=F.un.there b o1 e1 (by simp)
   have e3:=hB b o1 e1 (nofr b o e n) o2 e2
   exact ⟨o2,e2,e3,fl2.1 b o2 e3⟩
 have fin : ∀ b ∈ frs outer,∃ o,s'.heap.get? b = some o∧∀ vs,o.data ≠ .fields vs:=fun b hb => (fl.2.2.1.mem (List.mem_cons_of_mem (s₀.heap.objs.size) hb : b ∈ frs (envOfC qual scope s₀.heap.objs.size f cd :: outer))).2
 refine ⟨x,cls,H',rfl,⟨F.os.trans I.os,F.bare,?_,hok_of F.hok fl2.1 fl.1 tk,a0,B,fl2,?_,tk⟩,hE _ _ _ he⟩
 · refine ⟨fun b o e n hb _ => ?_,fun b o e n hb _ => ?_,fun b o e n _ => ?_,fun b o e _ => ?_,fun b xs q => F.un.tups b xs (I.base.tups b xs q),fun b ob u q => F.un.frzs b ob u (I.base.frzs b ob u q),fun b ps q => ?_⟩
   · have e1:=I.base.keep b o e n hb (nex b)
     have e2:=F.un.keep b o e1 (I.base.free b o e n (nex b)) (nofr b o e hb) (by simp)
     exact fl2.1 b o (hB b o e1 (nofr b o e hb) o e2)
   · obtain ⟨sl,e1⟩:=I.base.slot b o e n hb (nex b)
     obtain ⟨sl',e2⟩:=F.un.slot b _ e1 (I.base.free b o e n (nex b)) (List.mem_cons_of_mem (s₀.heap.objs.size) hb : b ∈ frs (envOfC qual scope s₀.heap.objs.size f cd :: outer)) (by simp)
     obtain ⟨o1,e3,hd⟩:=fin b hb
     rw [e2] at e3
     cases e3
     obtain ⟨sl2,e4⟩:=up b _ e2 hd
     exact ⟨sl2,e4⟩
   · obtain ⟨o1,e1⟩:=I.base.there b o e (nex b)
     exact F.un.free b o1 e1 (I.base.free b o e n (nex b)) (by simp)
   · by_cases hb : b ∈ frs outer
     · obtain ⟨o1,e3,hd⟩:=fin b hb
       obtain ⟨sl2,e4⟩:=up b _ e3 hd
       exact ⟨_,e4⟩
     · obtain ⟨o',_,_,e'⟩:=at2 b o e hb
       exact ⟨o',e'⟩
   · obtain ⟨m1,e1⟩:=I.base.tbls b ps q
     obtain ⟨m2,e2⟩:=F.un.tbls b _ e1
     exact ⟨m1 ++ m2,by rw [e2,Array.append_assoc]⟩
 · intro b o e hb o' e'
   obtain ⟨o1,_,e1,e2⟩:=at2 b o e hb
   rw [e2] at e'
   cases e'
   exact e1
end
theorem exc_obj {K : PySem.W.Frag} {h : Heap} {C : Addr} {bmB : List Value} {newId : String} (X : K.In h) (q : PySem.W.excIn K C bmB newId = true) :
   ∃ bm N nm q bs hdct sn sub ab col dd k0 k1 k2 k3 k5 mN,h.get? C = some (excClassObj nm q C N bs bm hdct sn sub ab col dd k0 k1 k2 k3 k5 newId)∧h.Ns N mN∧mN "__init__" = none∧OwnTail h bmB bm:=by
 unfold PySem.W.excIn at q
 split at q
 · rename_i dd cd sl ho
   split at q
   · rename_i C' bm k0 k1 k2 k3 n k5 hm hs
     simp only [Bool.and_eq_true,beq_iff_eq,Bool.not_eq_true'] at q
     obtain ⟨⟨⟨⟨⟨rfl,rfl⟩,hdel⟩,ht⟩,hok⟩,hni⟩:=q
     obtain ⟨nm,bs,mro,ns,qn,hd,sn,sub,ab,col,del⟩:=cd
     dsimp only at hm hdel hok hni
     subst hm hdel
     have hsl : sl = #[k0,k1,k2,k3,some (.builtin n),k5]:=by
       obtain ⟨l⟩:=sl
       simp only at hs
       rw [hs]
     subst hsl
     exact ⟨bm,ns,nm,qn,bs,hd,sn,sub,ab,col,dd,k0,k1,k2,k3,k5,_,X _ _ ho,.of_isNs (PySem.W.isNs_of_in X hok),PySem.W.nsMap_none_of_in X hok hni,PySem.W.tail_of_in X ht⟩
   · cases q
 · cases q
section
variable {X : Cx}
def tRaise (C : Addr) (E : XK) (t : TA) : TS:=fun _ σ H => t σ H fun vs H1 => vs.length ≤ sizeLine∧E (.ref C) none H1
theorem ps_raise {c : Str} {C : Addr} {B initId : String} {bmB : List Value} {newId : String} {e₀ : Expr} {rest : List Expr} {np cpos pos : Pos} {t : TA} {E : XK} (hc : X.calm = true) (FB : ExcBaseFacts B newId initId bmB)
   (hm : X.mg c = some (.ref C)) (q : PySem.W.excIn X.K C bmB newId = true) (th : Thr X E) (ha : PA X (e₀ :: rest) t) (hg : Gl X c:=by rfl) (hd : (c == ("__debug__" : Str)) = false:=by decide)
   (he : starEach (e₀ :: rest) X.env = (false,eval e₀ X.env) :: starEach rest X.env:=by rfl) (hplain : (backTo cpos (starEach rest X.env)).any (·.1) = false:=by rfl) :
   PS X (.Raise (some (.Call (.Name c np) (e₀ :: rest) [] cpos)) none pos) (tRaise C E t):=by
 intro pins s σ H D I h
 obtain ⟨tl,N,nm,qn,bs,hdct,sn,sub,ab,col,dd,k0,k1,k2,k3,k5,mN,hC,hN,hni,T⟩:=exc_obj I.ok.mod.kin q
 refine wpAny_Raise_call_subT (C:=C) (nm:=nm) (q:=qn) (N:=N) (bs:=bs) (bm:=tl) (hdct:=hdct) (sn:=sn) (sub:=sub) (ab:=ab) (col:=col) (dd:=dd) (k0:=k0) (k1:=k1) (k2:=k2) (k3:=k3) (k5:=k5)
   FB (mN:=mN) (T.hasType FB.hasBase) (I.ok.hd hc) (by rw [he]; show (false || (backTo cpos (starEach rest X.env)).any (·.1)) = false; rw [hplain]; rfl) hni (ld_glob I hg hm ⟨rfl,?_⟩ hd)
 have hA:=ha cpos pins s σ H _ I h
 rw [he] at hA ⊢
 refine Calls.evalArgs_plain (wpAny_mono hA (fun us s2 ⟨vs,H2,I2,r2,hz,q2⟩ => ⟨rfl,by rw [← r2.length]; exact hz,I2.bk _ _ hC,hN.keeps I2.bk,T.keeps I2.bk,fun h' x hx => ?_⟩) fun _ _ y => y)
 exact th pins σ H2 s2 h' x _ _ I2 hx q2
end
section
variable {P : Program} {w : World} {K : PySem.W.Frag} {mg : Str→Option Value} {base : Heap}
theorem Fun.okX {x qual : Str} {st : Stmt} {f : Addr} {fd : FuncData} {N ps : List Str} {k : Nat} {sp : Sp} (F : Fun K x qual st f fd) (S : FnScope N ps (defScope st)) (len : ∀ vs H Q E,sp vs H Q E→vs.length = ps.length)
   (hbody : ∀ (cdv : Value) (A : Around) (outer : List Env) (s : Shared) (H : Hp) (vs : List V) (Q : VK) (E : XK),Room k (A.deeper (envOfC qual (defScope st) s.heap.objs.size f cdv))→sp vs H Q E →
     ∃ t,PSs (cxOf (CX1 P w) P w K mg base N qual (defScope st) f cdv A outer s H E) (defBody st) t∧t { nx:=fun _ H' => Q .non H',rt:=Q } (start N vs) H) : FnOk P w K mg base (CX1 P w) (k + 1) f fd ps sp:=by
 obtain ⟨oc,od,kV,doc,pm,an,cdv,ct,osl,rfl,lk,hcd⟩:=F.ex
 exact fn_of lk hcd S len fun A outer s H vs Q E hr hsp => hbody cdv A outer s H vs Q E hr hsp
def DefX (P : Program) (w : World) (K : PySem.W.Frag) (mg : Str→Option Value) (base : Heap) (x : Str) (k : Nat) (ps : List Str) (sp : Sp) : Prop :=
 ∃ f fd,mg x = some (.ref f)∧PySem.W.keepIn K (.ref f) = true∧Binds K fd ps []∧FnOk P w K mg base (CX1 P w) k f fd ps sp
theorem Has.defX {x : Str} {st : Stmt} {N ps : List Str} {k : Nat} {sp : Sp} (h : Has K mg x st) (S : FnScope N ps (defScope st)) (len : ∀ vs H Q E,sp vs H Q E→vs.length = ps.length)
   (hb : ∀ (kV doc pm : Value) (an : Option Addr) (cdv ct : Value) (us : List Value),us.length = ps.length→bindArgs (PySem.W.fnOf x x (defArgs st) (defBody st) (defScope st) .none kV doc pm an cdv ct) ⟨us,[]⟩ = pure (ps.zip us))
   (hbody : ∀ (f : Addr) (cdv : Value) (A : Around) (outer : List Env) (s : Shared) (H : Hp) (vs : List V) (Q : VK) (E : XK),Room k (A.deeper (envOfC x (defScope st) s.heap.objs.size f cdv))→sp vs H Q E →
     ∃ t,PSs (cxOf (CX1 P w) P w K mg base N x (defScope st) f cdv A outer s H E) (defBody st) t∧t { nx:=fun _ H' => Q .non H',rt:=Q } (start N vs) H) : DefX P w K mg base x (k + 1) ps sp:=by
 obtain ⟨f,fd,hm,F⟩:=h
 exact ⟨f,fd,hm,F.kp,F.binds hb,F.okX S len fun cdv A outer s H vs Q E hr hs => hbody f cdv A outer s H vs Q E hr hs⟩
theorem FnOk.to0 {k : Nat} {f : Addr} {fd : FuncData} {ps : List Str} {sp : Sp} (F : FnOk P w K mg base (CX1 P w) k f fd ps sp) : FnOk P w K mg base CX0 k f fd ps (fun vs H Q _ => sp vs H Q E0) :=
 ⟨fun vs H Q _ h => F.len vs H Q E0 h,fun A outer s H args us vs Q E hr e0 hb r hs => codeAny_mono (F.run A outer s H args us vs Q E0 hr e0 hb r hs) fun r s' h => by
   cases r with
   | error e => obtain ⟨_,_,_,_,_,z⟩:=h; exact False.elim z
   | ok fl => cases fl <;> exact h⟩
theorem DefX.to0 {x : Str} {k : Nat} {ps : List Str} {sp : Sp} (D : DefX P w K mg base x k ps sp) : Def P w K mg base x k ps (fun vs H Q _ => sp vs H Q E0) :=
 let ⟨f,fd,a,b,c,d⟩:=D; ⟨f,fd,a,b,c,d.to0⟩
end
def PX (X : Cx) (e : Expr) (t : St→Hp→VK→XK→Prop) : Prop :=
 ∀ (pins : List (Addr × Obj)) (s : Shared) (σ : St) (H : Hp) (Q : VK) (E : XK),Inv X pins σ H s→t σ H Q E →
   wpAny (model X.prog X.w) X.A (eval e X.env) (EP X pins σ Q) (fun ex s' => ∃ H1 s1,Inv X pins σ H1 s1∧CX1 X.prog X.w X.stack H1 s1 E ex s') s
section
variable {X : Cx} {x : Str} {p pos : Pos} {e : Expr} {es : List Expr} {t : TA} {k : Nat} {ps : List Str} {sp : Sp}
theorem px_callD (D : DefX X.prog X.w X.K X.mg X.base x k ps sp) (hr : Room k X.A) (ha : PA X.nox (e :: es) t) (hg : Gl X x:=by rfl) (hdb : (x == ("__debug__" : Str)) = false:=by decide)
   (he : starEach (e :: es) X.env = (false,eval e X.env) :: starEach es X.env:=by rfl) (hpl : (backTo pos (starEach es X.env)).any (·.1) = false:=by rfl) :
   PX X (.Call (.Name x p) (e :: es) [] pos) (fun σ H Q E => t σ H fun vs H1 => sp (vs ++ []) H1 Q E):=by
 obtain ⟨f,fd,hm,hk,hb,F⟩:=D
 intro pins s σ H Q E I h
 refine wpAny_Call_Name_kw (ld_glob I hg hm ?_ hdb)
 refine PySem.W.callWith_K (h₀:=X.base) I.ok.mod.kin hk (wpAny_mono (ha pos pins s σ H _ (I.wish _) h) (fun us s1 ⟨vs,H1,I1,r,q⟩ => ⟨I1.kIn,?_⟩) fun _ _ z => False.elim z) he hpl
 have I1' : Inv X pins σ H1 s1:=I1.unwish
 have q : sp (vs ++ []) H1 Q E:=q
 rw [List.append_nil] at q
 have hl : us.length = ps.length:=by rw [← r.length]; exact F.len _ _ _ _ q
 refine wpAny_call (codeAny_mono (F.run X.A X.stack s1 H1 ⟨us,[]⟩ us vs Q E hr I1'.env0 (by have:=hb s1 us I1'.kIn (by rw [List.append_nil]; exact hl); rw [List.append_nil] at this; exact this) r q) fun r s' hq => ?_)
 cases r with
 | error e => exact ⟨H1,s1,I1',hq⟩
 | ok fl =>
   cases fl with
   | ret u => exact I1'.after hq
   | next => exact False.elim hq
   | brk => exact False.elim hq
   | cont => exact False.elim hq
end
end L2
namespace L2
open PySem PySem.Spec PyProof.Rows Mth
structure FlyB (P : Program) (w : World) (outer : List Env) (H : Hp) (s : Shared) (cls : Value) (x : Addr) (H' : Hp) (a0 : Value) (B : Heap) (s' : Shared) : Prop where
 os : s'.os = s.os
 bare : AllBare s'.gens
 un : Un (frs outer) [] H H' s.heap s'.heap
 hok : HOk P w H' s'.heap
 fl : Heap.FlyingW B outer x cls a0 s'.heap
 st : ∀ b o,s.heap.get? b = some o→b ∉ frs outer→∀ o',s'.heap.get? b = some o'→B.get? b = some o'
 tk : ∀ b u,H' b = some u→∃ o,B.get? b = some o
theorem Fly.b {P : Program} {w : World} {outer : List Env} {H H' : Hp} {s s' : Shared} {cls : Value} {x : Addr} (F : Fly P w outer H s cls x H' s') : ∃ a0 B,FlyB P w outer H s cls x H' a0 B s' :=
 let ⟨a0,B,fl,hB,tk⟩:=F.fly; ⟨a0,B,F.os,F.bare,F.un,F.hok,fl,hB,tk⟩
section
variable {P : Program} {w : World} {outer : List Env} {H H' : Hp} {s s' : Shared} {cls a0 : Value} {x : Addr} {B : Heap}
theorem FlyB.fin (F : FlyB P w outer H s cls x H' a0 B s') : ∀ b ∈ frs outer,∃ o,s'.heap.get? b = some o∧∀ vs,o.data ≠ .fields vs:=fun b hb => (F.fl.2.2.1.mem hb).2
theorem FlyB.moved {h2 : Heap} {t2 : Nat} (F : FlyB P w outer H s cls x H' a0 B s') (fl2 : Heap.FlyingW B outer x cls a0 h2) (up : s'.heap.UpToSlots h2) : FlyB P w outer H s cls x H' a0 B { s' with heap:=h2,toks:=t2 }:=by
 have th : ∀ b o,s.heap.get? b = some o→b ∉ frs outer→∃ o',B.get? b = some o'∧h2.get? b = some o':=fun b o e hb => by
   obtain ⟨o1,e1⟩:=F.un.there b o e (by simp)
   have q:=F.st b o e hb o1 e1
   exact ⟨o1,q,fl2.1 b o1 q⟩
 refine ⟨F.os,F.bare,⟨fun b o e n hb hx => ?_,fun b o e n hb hx => ?_,F.un.free,fun b o e hx => ?_,F.un.tups,F.un.frzs,F.un.tbls⟩,hok_of F.hok fl2.1 F.fl.1 F.tk,fl2,fun b o e hb o' e' => ?_,F.tk⟩
 · exact fl2.1 b o (F.st b o e hb o (F.un.keep b o e n hb hx))
 · obtain ⟨sl,e1⟩:=F.un.slot b o e n hb hx
   obtain ⟨o1,e3,hd⟩:=F.fin b hb
   rw [e1] at e3
   cases e3
   obtain ⟨sl2,e4⟩:=up b _ e1 hd
   exact ⟨sl2,e4⟩
 · by_cases hb : b ∈ frs outer
   · obtain ⟨o1,e3,hd⟩:=F.fin b hb
     obtain ⟨sl2,e4⟩:=up b _ e3 hd
     exact ⟨_,e4⟩
   · obtain ⟨o',_,e4⟩:=th b o e hb
     exact ⟨o',e4⟩
 · obtain ⟨o1,q,e4⟩:=th b o e hb
   have e4' : h2.get? b = some o':=e'
   rw [e4] at e4'
   cases e4'
   exact q
theorem FlyB.none (F : FlyB P w outer H s cls x H' a0 B s') : H' x = none:=by
 cases q : H' x with
 | none => rfl
 | some u =>
   obtain ⟨o,e⟩:=F.tk x u q
   rw [F.fl.2.1] at e
   cases e
theorem FlyB.obj (F : FlyB P w outer H s cls x H' a0 B s') : ∃ oe vs,s'.heap.get? x = some oe∧oe.cls = cls∧oe.data = .fields vs :=
 let ⟨oe,vs,e,c,d,_⟩:=F.fl.first; ⟨oe,vs,e,c,d⟩
end
def Cx.held (X : Cx) (e : Addr) (oe : Obj) : Cx:={ X with A:=X.A.mark (some (.ref e)),calm:=false,pn:=X.pn ++ [(e,oe)],xe:=fun _ _ => False }
theorem Cx.Ok.held {X : Cx} (ok : X.Ok) (e : Addr) (oe : Obj) : (X.held e oe).Ok :=
 ⟨ok.mod,ok.kind,ok.glob,ok.blt,ok.above,ok.inj,ok.has,ok.cab,(fun z => nomatch z),ok.frames,ok.stk,ok.exf,ok.bs,ok.bsz,ok.noex,ok.exfs,ok.funs,ok.frf⟩
section
variable {X : Cx} {pins : List (Addr × Obj)} {σ : St} {H H' : Hp} {s s' : Shared} {cls a0 : Value} {e : Addr} {oe : Obj} {B : Heap}
theorem Inv.caught (I : Inv X pins σ H s) (F : FlyB X.prog X.w X.stack H s cls e H' a0 B s') : Inv X pins σ H' s' :=
 I.call' (ch:=[]) F.os F.un F.hok F.bare (fun b z => absurd z (by simp))
theorem Inv.held {vs : Array Value} (I : Inv X pins σ H s) (he : s.heap.get? e = some oe) (hd : oe.data = .fields vs) (hn : H e = none) : Inv (X.held e oe) pins σ H s:=by
 refine ⟨I.ok.held e oe,I.os,I.bare,I.base,I.loc,I.cell,I.free,I.freeC,fun p hp => ?_,I.hok,I.len⟩
 rcases List.mem_append.mp hp with hp | hp
 · rcases List.mem_append.mp hp with hp | hp
   · exact I.pin p (List.mem_append_left _ hp)
   · have ep : p = (e,oe):=by simpa using hp
     subst ep
     refine ⟨he,hn,fun z => ?_,fun z => ?_,fun v z => ?_⟩
     · obtain ⟨m,⟨o,es,ep,ho,hod,_⟩,_⟩:=I.loc
       have z' : e = X.env.locals:=z
       rw [z',ho] at he
       cases he
       rw [hod] at hd
       cases hd
     · obtain ⟨_,o,ho,hnf⟩:=I.funs.mem z
       have ho' : s.heap.get? e = some o:=ho
       rw [he] at ho'
       cases ho'
       exact hnf vs hd
     · have z' : oe.data = .cell v:=z
       rw [hd] at z'
       cases z'
 · exact I.pin p (List.mem_append_right _ hp)
theorem Inv.unheld (ok : X.Ok) (I : Inv (X.held e oe) pins σ H s) : Inv X pins σ H s :=
 ⟨ok,I.os,I.bare,I.base,I.loc,I.cell,I.free,I.freeC,fun p hp => I.pin p ((List.mem_append.mp hp).elim (fun z => List.mem_append_left _ (List.mem_append_left _ z)) fun z => List.mem_append_right _ z),I.hok,I.len⟩
theorem name_gone {A : Around} {E : Value→Shared→Prop} {i : Nat} {n : Str} {pos : Pos} {Q : Unit→Shared→Prop} (I : Inv X pins σ H s) (hN : X.N.Nodup) (hi : X.N[i]? = some n) (hl : X.env.scope.names.lookup n = some .local)
   (h : ∀ s',Inv X pins (σ.set i none) H s'→Q () s') : wpAny (model X.prog X.w) A (do bindName X.env n .none; unbindBehindTheSuite X.env n pos) Q E s:=by
 obtain ⟨m,hn,hm⟩:=id I.loc
 refine wpAny_nameGoes_keeps hl hn (by rw [I.ok.kind]; rfl) fun h' v hn' hs => h _ ?_
 have cne:=I.cne
 refine ⟨I.ok,I.os,I.bare,I.base.same_but hs (Heap.get?_none_of_le I.ok.above),⟨_,hn',fun j y v' e1 e2 e3 => ?_⟩,fun y c q => ?_,I.free,I.freeC,fun p hp => ?_,I.hok.same_but hs I.free,by rw [List.length_set]; exact I.len⟩
 · by_cases hj : j = i
   · subst hj
     rw [List.getElem?_set] at e2
     simp only [if_true] at e2
     split at e2 <;> cases e2
   · rw [List.getElem?_set_ne (Ne.symm hj)] at e2
     obtain ⟨u',r',q⟩:=hm j y v' e1 e2 e3
     refine ⟨u',r',?_⟩
     rcases q with ⟨k,q⟩ | ⟨k,c,q,z⟩
     · refine .inl ⟨k,?_⟩
       have : y ≠ n:=fun z => hj (nodup_ix hN e1 (z ▸ hi))
       show (if y = n then v else m y) = some u'
       rw [if_neg this]
       exact q
     · exact .inr ⟨k,c,q,z.sameBut hs (cne y c q)⟩
 · obtain ⟨w',z⟩:=I.cell y c q
   exact ⟨w',z.sameBut hs (cne y c q)⟩
 · obtain ⟨q,n',ne,nf,d⟩:=I.pin p hp
   exact ⟨(hs.2 p.1 ne).trans q,n',ne,nf,d⟩
end
def PSx (X : Cx) (st : List Stmt) (t : (St→XK)→TS) : Prop :=
 ∀ (pins : List (Addr × Obj)) (s : Shared) (σ : St) (H : Hp) (D : Ends) (E : St→XK),Inv X pins σ H s→t E D σ H →
   wpAny (model X.prog X.w) X.A (execs st X.env) (SP X pins D) (fun ex s' => ∃ σ1 H1 s1,Inv X pins σ1 H1 s1∧CX1 X.prog X.w X.stack H1 s1 (E σ1) ex s') s
section
variable {X : Cx} {pos : Pos}
theorem psx_expr {e : Expr} {t : St→Hp→VK→XK→Prop} (he : PX X e t) (hs : swapsWith e none pos.line X.env = pure false:=by rfl) : PSx X [.Expr e pos] (fun E D σ H => t σ H (fun _ H1 => D.nx σ H1) (E σ)):=by
 intro pins s σ H D E I h
 refine wpAny_execs_cons (wpAny_Expr_any (wpAny_mono (he pins s σ H _ _ I h) (fun v s1 q => ?_) fun ex s1 q => ?_) I.quiet hs)
 · obtain ⟨x,H1,I1,r1,q1⟩:=q
   exact wpAny_execs_nil ⟨σ,H1,I1,q1⟩
 · obtain ⟨H1,s1,I1,c⟩:=q
   exact ⟨σ,H1,s1,I1,c⟩
theorem psx_set {i : Nat} {x : Str} {e : Expr} {pos' : Pos} {t : St→Hp→VK→XK→Prop} (hN : X.N.Nodup) (hi : X.N[i]? = some x) (hx : Loc X.env.scope x) (he : PX X e t) (hs : swapsWith e (some (.Name x pos')) pos.line X.env = pure false:=by rfl)
   (hf : X.fn x = true ∨ X.env.scope.names.lookup x = some .local:=by first | exact .inl rfl | exact .inr rfl | assumption) : PSx X [.Assign [.Name x pos'] e pos] (fun E D σ H => t σ H (fun v H1 => D.nx (σ.set i (some v)) H1) (E σ)):=by
 intro pins s σ H D E I h
 refine wpAny_execs_cons (wpAny_Assign_Name (wpAny_mono (he pins s σ H _ _ I h) (fun v s1 q => ?_) fun ex s1 q => ?_) hs)
 · obtain ⟨y,H1,I1,r1,q1⟩:=q
   exact store_ok I1 hN hi hx r1 (fun s2 I2 => wpAny_execs_nil ⟨_,H1,I2,q1⟩) hf
 · obtain ⟨H1,s1,I1,c⟩:=q
   exact ⟨σ,H1,s1,I1,c⟩
theorem psx_if {c : Expr} {a b : List Stmt} {tc : TT} {t u : (St→XK)→TS} (hc : PT X.nox c tc) (ha : PSx X a t) (hb : PSx X b u) : PSx X [.If c a b pos] (fun E D σ H => tc σ H fun k H1 => if k = true then t E D σ H1 else u E D σ H1):=by
 intro pins s σ H D E I h
 refine wpAny_execs_cons (wpAny_If (wpAny_mono (hc pins s σ H _ (I.wish _) h) (fun d s1 q => ?_) fun _ _ z => False.elim z))
 obtain ⟨H1,I1,q1⟩:=q
 have I1' : Inv X pins σ H1 s1:=I1.unwish
 have fin : ∀ f s2,SP X pins D f s2→(match f with | Flow.next => wpAny (model X.prog X.w) X.A (execs [] X.env) (SP X pins D) (fun ex s' => ∃ σ1 H1 s1,Inv X pins σ1 H1 s1∧CX1 X.prog X.w X.stack H1 s1 (E σ1) ex s') s2 | f => SP X pins D f s2):=fun f s2 z => by
   cases f with
   | next => exact wpAny_execs_nil z
   | ret v => exact z
   | brk => exact z
   | cont => exact z
 cases d with
 | true => exact wpAny_mono (ha pins s1 σ H1 D E I1' q1) fin fun _ _ z => z
 | false => exact wpAny_mono (hb pins s1 σ H1 D E I1' q1) fin fun _ _ z => z
def Ends.unset (D : Ends) (i : Nat) : Ends:=⟨fun σ H => D.nx (σ.set i none) H,D.rt,fun σ H => D.bk (σ.set i none) H,fun σ H => D.ct (σ.set i none) H⟩
def tTry (K : PySem.W.Frag) (c : Value) (i : Nat) (t : (St→XK)→TS) (ts : Value→Addr→TS) : TS:=fun D σ H =>
 t (fun σ1 cls _ H1 => PySem.W.exmOne K cls c = some true∧∀ e,H1 e = none→ts cls e (D.unset i) (σ1.set i (some (.ref e))) H1) D σ H
theorem ps_try {body : List Stmt} {c n : Str} {C : Addr} {np hpos : Pos} {b₀ : Stmt} {suite : List Stmt} {t : (St→XK)→TS} {ts : Value→Addr→TS} {i : Nat}
   (hst : X.stack = X.env :: X.outer) (hfr : X.env.frame = some X.env.locals) (hN : X.N.Nodup) (hi : X.N[i]? = some n) (hl : X.env.scope.names.lookup n = some .local)
   (hm : X.mg c = some (.ref C)) (hb : PSx X body t) (hs : ∀ cls e oe,oe.cls = cls→PSs (X.held e oe) (b₀ :: suite) (ts cls e)) (hg : Gl X c:=by rfl) (hdb : (c == ("__debug__" : Str)) = false:=by decide) :
   PS X (.Try body [.ExceptHandler (some (.Name c np)) (some n) (b₀ :: suite) hpos] [] [] pos) (tTry X.K (.ref C) i t ts):=by
 intro pins s σ H D I h
 refine wpAny_Try_except (wpAny_mono (hb pins s σ H D _ I h) (fun f s1 q => ?_) fun ex s1 hx => ?_)
 · cases f with
   | next => exact wpAny_execs_nil q
   | ret v => exact q
   | brk => exact q
   | cont => exact q
 · obtain ⟨σ1,H1,s0,I0,x,cls,H',rfl,F,hm',hk⟩:=hx
   obtain ⟨a0,B,FB⟩:=F.b
   have fr : X.A.frames = some (X.env :: X.outer):=hst ▸ I.ok.frames
   have fl' : Heap.FlyingW B (X.env :: X.outer) x cls a0 s1.heap:=hst ▸ FB.fl
   refine wpAny_looks_onW fr hfr fl' fun h4 held up4 => ?_
   refine wpAny_landsW held fun h5 fl5 up5 => ?_
   have F5:=FB.moved (t2:=s1.toks) (hst ▸ fl5) (Heap.UpToSlots.trans up4 up5)
   have I5:=I0.caught F5
   obtain ⟨oe5,vs5,he5,hc5,hd5⟩:=F5.obj
   have J5:=I5.held he5 hd5 F5.none
   refine wpAny_handleBy_cons (codeAny_handlers_test (ld_glob (X:=X.held x oe5) J5 hg hm ?_ hdb)) (by intro q; cases q)
   have LT : PySem.W.Looks (model X.prog X.w) h5 (typeOf (.ref x)) cls:=hc5 ▸ (PySem.W.Looks.ld he5).andThen .now
   refine (PySem.W.exm_one J5.kIn LT hm') _ _ _ _ (fun _ _ q => q) ?_
   refine codeAny_handlers_suite_as ?_
   refine lands_againW fl5 fun h6 fl6 up6 => ?_
   have F6:=F5.moved (t2:=s1.toks) (hst ▸ fl6) up6
   have I6:=I0.caught F6
   obtain ⟨oe,vs,he,hc,hd⟩:=F6.obj
   have J6:=I6.held he hd F6.none
   refine store_ok (X:=X.held x oe) (v:=.ref x) J6 hN hi (.inl hl) rfl (fun s7 J7 => ?_) (.inr hl)
   refine wpAny_mono (hs cls x oe hc pins s7 _ H' (D.unset i) J7 (hk x F6.none)) (fun f s8 q => ?_) fun _ _ z => False.elim z
   have ok:=I.ok
   cases f with
   | next =>
     obtain ⟨σ8,H8,J8,q8⟩:=q
     exact name_gone (J8.unheld ok) hN hi hl fun s9 I9 => ⟨_,H8,I9,q8⟩
   | brk =>
     obtain ⟨σ8,H8,J8,q8⟩:=q
     exact name_gone (J8.unheld ok) hN hi hl fun s9 I9 => ⟨_,H8,I9,q8⟩
   | cont =>
     obtain ⟨σ8,H8,J8,q8⟩:=q
     exact name_gone (J8.unheld ok) hN hi hl fun s9 I9 => ⟨_,H8,I9,q8⟩
   | ret v =>
     obtain ⟨v8,σ8,H8,J8,r8,q8⟩:=q
     exact name_gone (J8.unheld ok) hN hi hl fun s9 I9 => ⟨v8,_,H8,I9,r8,q8⟩
end
structure ExcCl (K : PySem.W.Frag) (C : Addr) : Prop where
 ga : PySem.W.findIn K (.ref C) "__getattribute__" = some (some (.builtin "BaseException.__getattribute__"))
 gt : PySem.W.findIn K (.ref C) "__getattr__" = some none
 cl : PySem.W.findIn K (.ref C) "__class__" = some (some (.builtin "object.__class__"))
 gs : PySem.W.specialIn K (.builtin "object.__class__") "__get__" = some (some (.builtin "getset_descriptor.__get__"))
 tk : PySem.W.takesIn K (.builtin "object.__class__") = some true
 mo : PySem.W.mroIn K C (.type "object") = some true
 mb : PySem.W.mroIn K C (.type "BaseException") = some true
 is : (PySem.W.clsIn K C).isSome = true
section
open PySem.Builtin PySem.Builtin.ObjectAttr PySem.Builtin.Getset_descriptor
variable {K : PySem.W.Frag} {C e : Addr}
theorem find_data {M : Model} {h : Heap} {name : Str} {a g : Value} (X : K.In h) (h1 : PySem.W.findIn K (.ref C) name = some (some a)) (h2 : PySem.W.specialIn K a "__get__" = some (some g)) (h3 : PySem.W.takesIn K a = some true) :
   PySem.W.Looks M h (find (.ref e) (.ref C) name) (.bind g a):=by
 have M1:=PySem.W.looks_findIn (M:=M) X h1
 have M2 : PySem.W.Looks M h (getOf (some a)) (some g):=PySem.W.looks_specialIn X h2
 have M3 : PySem.W.Looks M h (dataDescriptor? (some a) (some g)) (some (g,a)):=(PySem.W.looks_takesIn (M:=M) X h3).andThen .now
 exact M1.andThen (M2.andThen (M3.andThen (PySem.W.Looks.tag .now)))
variable {prog : Program} {w : World} {A : Around} {s : Shared} {oe : Obj}
theorem exc_descr {R : Result→Shared→Prop} {tp : Value} (X : K.In s.heap) (he : s.heap.get? e = some oe) (hc : oe.cls = .ref C) (hE : ExcCl K C) (h : R (.ok (.ret (.ref C))) s) :
   codeAny (model prog w) A (.call (.builtin "getset_descriptor.__get__") ⟨[.builtin "object.__class__",.ref e,tp],[]⟩) R s:=by
 obtain ⟨hp0,gn,dw,tt,os0⟩:=s
 have M0 : PySem.W.Looks (model prog w) hp0 (typeOf (.ref e)) (.ref C):=hc ▸ (PySem.W.Looks.ld he).andThen .now
 have M1:=PySem.W.looks_mroIn (M:=model prog w) X hE.mo
 refine codeAny_call_builtin PySem.W.KF.slot_gs.plain PySem.W.KF.entry_gs (PySem.W.KF.slot_gs.check _ _ _ _ _ _ _ _ PySem.W.KF.type_class (PySem.W.KF.args_gs _ _ _) ?_)
 unfold PySem.Builtin.«getset_descriptor.__get__» descrGet
 rw [PySem.W.dga_obj]
 refine wpAny_bind (wpAny_pure ?_)
 unfold descrGetter descrCheckInstance descrNameAndClass PySem.isInstance
 simp only [PySem.W.KF.owner_class]
 repeat lk
 refine ⟨Code.quiet_builtin _ (by decide +kernel),codeAny_builtin PySem.W.KF.entry_class ?_⟩
 unfold PySem.Builtin.«object.__class__» PySem.shownTypeOf
 repeat lk
 exact h
theorem exc_ga {R : Result→Shared→Prop} {tk : Tok} (X : K.In s.heap) (he : s.heap.get? e = some oe) (hc : oe.cls = .ref C) (hE : ExcCl K C) (h : R (.ok (.ret (.ref C))) s) :
   codeAny (model prog w) A (.call (.builtin "BaseException.__getattribute__") ⟨[.ref e,.str "__class__" tk],[]⟩) R s:=by
 obtain ⟨hp0,gn,dw,tt,os0⟩:=s
 have M0 : PySem.W.Looks (model prog w) hp0 (typeOf (.ref e)) (.ref C):=hc ▸ (PySem.W.Looks.ld he).andThen .now
 have MB:=PySem.W.looks_mroIn (M:=model prog w) X hE.mb
 have MF:=find_data (M:=model prog w) (e:=e) X hE.cl hE.gs hE.tk
 have ar:=PySem.F.args_bexc_ga (.ref e) (.str "__class__" tk)
 refine codeAny_call_builtin PySem.F.excAttr_ValueError.ga.plain PySem.F.entry_bexc_ga ?_
 have hk : builtinKind "BaseException.__getattribute__" = some .slot:=by decide +kernel
 have hsplit : splitId "BaseException.__getattribute__" = some ("BaseException","__getattribute__"):=by decide +kernel
 simp only [checkBuiltinCall,hk,hsplit]
 refine wpAny_bind ((M0.andThen MB).at ?_)
 simp only [Bool.not_true,Bool.false_eq_true,if_false]
 unfold argsOk at ar
 refine wpAny_of_eq (a:=()) ar ?_
 unfold PySem.Builtin.«object.__getattribute__»
 refine wpAny_bind (wpAny_of_eq (a:=(Value.ref e,[Value.str "__class__" tk])) rfl ?_)
 dsimp only
 refine wpAny_bind (wpAny_of_eq (a:=("__class__" : Str)) rfl ?_)
 refine wpAny_bind (M0.at (wpAny_bind (MF.at ?_)))
 show wpAny _ _ (holding [_] (call _ [_,_,_]) >>= ret) _ _ _
 refine wpAny_bind (wpAny_holding (wpAny_call (exc_descr (s:=⟨hp0,gn,dw,tt,os0⟩) X he hc hE ?_)))
 exact wpAny_pure h
theorem kitx_exc (hE : ExcCl K C) : PySem.W.KitX K (.ref e) (.ref C) (fun h => ∃ oe,h.get? e = some oe∧oe.cls = .ref C) where
 ty:=fun _ _ _ ⟨_,he,hc⟩ => hc ▸ (PySem.W.Looks.ld he).andThen .now
 it:=fun _ _ X _ => by
   obtain ⟨cd,hcd⟩:=Option.isSome_iff_exists.mp hE.is
   unfold PySem.W.clsIn at hcd
   split at hcd
   · rename_i q1 q2 q3 q4 ho
     intro A1 Q1 E1 s1 keep q
     unfold isType loadHead
     exact wpAny_bind (wpAny_loadPart (keep _ _ (X _ _ ho)) (wpAny_pure q))
   · cases hcd
 ne:=fun h tp dd its n sl X htp => by
   obtain ⟨cd,hcd⟩:=Option.isSome_iff_exists.mp hE.is
   refine Bool.eq_false_iff.mpr fun q => ?_
   have z : C = tp:=Value.ref.inj (beq_iff_eq.mp q)
   subst z
   unfold PySem.W.clsIn at hcd
   split at hcd
   · rename_i q1 q2 q3 q4 ho
     have y:=(X _ _ ho).symm.trans htp
     cases y
   · cases hcd
 ca:=fun {prog w A E Q s} X hx k => by
   obtain ⟨oe,he,hc⟩:=hx
   obtain ⟨hp0,gn,dw,tt,os0⟩:=s
   have M0 : PySem.W.Looks (model prog w) hp0 (typeOf (.ref e)) (.ref C):=hc ▸ (PySem.W.Looks.ld he).andThen .now
   have M1:=PySem.W.looks_findIn (M:=model prog w) X hE.ga
   have M2:=PySem.W.looks_findIn (M:=model prog w) X hE.gt
   unfold getAttr? getAttrBy? getAttrBy
   refine wpAny_bind (wpAny_mkText (wpAny_bind (wpAny_attempt (wpAny_holding (wpAny_bind (M0.at (wpAny_bind (M1.at ?_))))))))
   show wpAny _ _ (getAttrByItsOwn _ _ _ _ _ _) _ _ _
   unfold getAttrByItsOwn
   refine wpAny_bind (m:=hookBefore _) (M2.at ?_)
   refine wpAny_bind (wpAny_attempt (wpAny_holding ?_))
   show wpAny _ _ (boundAndCalled _ _ _) _ _ _
   unfold boundAndCalled
   refine wpAny_bind (wpAny_of_eq (PySem.F.excAttr_ValueError.ga.bind (.ref e)) ?_)
   refine wpAny_call (exc_ga (s:=⟨hp0,gn,dw,tt + 1,os0⟩) X he hc hE ?_)
   exact PySem.W.handed_on rfl (wpAny_pure k)
end
def clsV : V→Bool
 | .ref _ => true
 | .ty _ => true
 | _ => false
def vOf : V→Value
 | .ref a => .ref a
 | .ty n => .type n
 | _ => .none
theorem relv_cls {c : V} {u : Value} (hc : clsV c = true) (r : RelV c u) : u = vOf c:=by
 cases c <;> first | exact r | cases hc
theorem vals_cls : ∀ {cs : List V} {us : List Value},Vals cs us→(∀ x ∈ cs,clsV x = true)→us = cs.map vOf
 | _,_,.nil,_ => rfl
 | _,_,.cons r t,h => by rw [List.map_cons,relv_cls (h _ List.mem_cons_self) r,vals_cls t fun x hx => h x (List.mem_cons_of_mem _ hx)]
inductive IsE (K : PySem.W.Frag) (C : Addr) (H : Hp) : V→Bool→Prop where
 | one {c : V} {b : Bool} (hc : clsV c = true) (h : PySem.W.kitOne K (.ref C) (vOf c) = some b) : IsE K C H c b
 | many {p : Addr} {cs : List V} {b : Bool} (hp : H p = some (.tup cs)) (hc : ∀ x ∈ cs,clsV x = true) (h : PySem.W.kitAny K (.ref C) (cs.map vOf) = some b) : IsE K C H (.ref p) b
section
variable {X : Cx}
theorem call_isE {e : Addr} {oe : Obj} {cls : Value} (K : PySem.W.Frag) (hK : X.K = K) (hp : (e,oe) ∈ X.pn) (hc : oe.cls = cls) :
   CallR X (.builtin "isinstance") (fun xs H Q => ∃ c b C,xs = [.ref e,c]∧cls = .ref C∧ExcCl K C∧IsE K C H c b∧Q (.bl b) H):=by
 subst hK
 intro pins s σ H xs us Q I r h
 obtain ⟨c,b,C,rfl,ec,hE,is,q⟩:=h
 obtain ⟨u,w',rfl,r1,r2⟩:=vals2 r
 obtain rfl : u = Value.ref e:=r1
 have he : s.heap.get? e = some oe:=(I.pin (e,oe) (List.mem_append_left _ hp)).1
 have fin : ∀ tk,EP X pins σ Q (.bool b) { s with toks:=tk }:=fun tk => ⟨.bl b,H,I.tok _,rfl,q⟩
 cases is with
 | one hc' h1 =>
   rw [relv_cls hc' r2]
   exact PySem.W.kia_one (kitx_exc hE) I.kIn ⟨oe,he,hc.trans ec⟩ h1 (fun z => nomatch z) fin
 | @many p cs _ hp' hc' h1 =>
   obtain rfl : w' = Value.ref p:=r2
   obtain ⟨_,its,rv,o,ho,hcl,n,hd⟩:=(show ObjOk X.prog X.w H s.heap p (.tup cs) from I.hok p _ hp')
   have ei:=vals_cls rv hc'
   subst ei
   obtain ⟨o1,o2,o3,o4⟩:=o
   dsimp only at hcl hd
   subst hcl hd
   exact PySem.W.kia_tup (kitx_exc hE) I.kIn ⟨oe,he,hc.trans ec⟩ ho h1 (fun z => nomatch z) fin
end
theorem bt_ValueError : bootBuiltins "ValueError" = some (.type "ValueError"):=by decide +kernel
end L2
namespace L2
open PySem PySem.Spec PyProof.Rows Mth
section
variable {X : Cx} {x : Str} {pos : Pos}
theorem pe_globI {i : Int} (hg : Gl X x) (hm : ∃ t,X.mg x = some (.int i t)) (hd : (x == ("__debug__" : Str)) = false:=by decide) : PE X (.Name x pos) (tC (.int i)):=by
 obtain ⟨t,hm⟩:=hm
 exact pe_glob hg hm ⟨t,rfl⟩ hd
end
def KTup (K : PySem.W.Frag) (a : Addr) (xs : List V) : Prop :=
 ∃ (o : Obj) (its : Array Value) (n : Nat),K.lookup a = some o∧o.cls = .type "tuple"∧o.data = .seq its n∧its.size ≤ sizeLine∧Vals xs its.toList
theorem KTup.at {K : PySem.W.Frag} {a : Addr} {xs : List V} (h : KTup K a xs) (H : Hp) : SqT K H a xs:=.inr h
theorem ktup2 {K : PySem.W.Frag} {a : Addr} {dd : Option Addr} {n : Nat} {sl : Array (Option Value)} {i j : Int} {t u : Tok} (h : K.lookup a = some ⟨.type "tuple",dd,.seq #[.int i t,.int j u] n,sl⟩) : KTup K a [.int i,.int j] :=
 ⟨_,_,_,h,rfl,rfl,by show 2 ≤ sizeLine; decide,.cons ⟨t,rfl⟩ (.cons ⟨u,rfl⟩ .nil)⟩
def DfIs (K : PySem.W.Frag) (T : Addr) (dvs : List V) : Prop:=∃ o n items,K.lookup T = some o∧o.data = .seq items n∧Vals dvs items.toList
structure FunD (K : PySem.W.Frag) (x qual : Str) (st : Stmt) (dV : Value) (f : Addr) (fd : FuncData) : Prop where
 ex : ∃ (oc : Value) (od : Option Addr) (kV doc pm : Value) (an : Option Addr) (cdv ct : Value) (osl : Array (Option Value)),
   fd = PySem.W.fnOf x qual (defArgs st) (defBody st) (defScope st) dV kV doc pm an cdv ct∧K.lookup f = some ⟨oc,od,.func fd,osl⟩∧PySem.W.codeIn K cdv qual = true
 kp : PySem.W.keepIn K (.ref f) = true
theorem fund_mk {K : PySem.W.Frag} {x qual : Str} {st : Stmt} {f : Addr} {oc : Value} {od an : Option Addr} {osl : Array (Option Value)} {dV kV doc pm cdv ct : Value} (l : K.lookup f = some ⟨oc,od,.func (PySem.W.fnOf x qual (defArgs st) (defBody st) (defScope st) dV kV doc pm an cdv ct),osl⟩)
   (c : PySem.W.codeIn K cdv qual = true) (k : PySem.W.keepIn K (.ref f) = true) : FunD K x qual st dV f (PySem.W.fnOf x qual (defArgs st) (defBody st) (defScope st) dV kV doc pm an cdv ct):=⟨⟨oc,od,kV,doc,pm,an,cdv,ct,osl,rfl,l,c⟩,k⟩
section
variable {P : Program} {w : World} {K : PySem.W.Frag} {mg : Str→Option Value} {base : Heap} {x qual m : Str} {st : Stmt} {dV : Value} {f C : Addr} {fd : FuncData} {N ps : List Str} {k : Nat} {sp : Sp} {ds : List Value}
theorem FunD.ok (F : FunD K x qual st dV f fd) (S : FnScope N ps (defScope st)) (len : ∀ vs H Q E,sp vs H Q E→vs.length = ps.length)
   (hbody : ∀ (cdv : Value) (A : Around) (outer : List Env) (s : Shared) (H : Hp) (vs : List V) (Q : VK) (E : XK),Room k (A.deeper (envOfC qual (defScope st) s.heap.objs.size f cdv))→sp vs H Q E →
     ∃ t,PSs (cxOf CX0 P w K mg base N qual (defScope st) f cdv A outer s H E).nox (defBody st) t∧t { nx:=fun _ H' => Q .non H',rt:=Q } (start N vs) H) : FnOk P w K mg base CX0 (k + 1) f fd ps sp:=by
 obtain ⟨oc,od,kV,doc,pm,an,cdv,ct,osl,rfl,lk,hcd⟩:=F.ex
 refine fn_of lk hcd S len fun A outer s H vs Q E hr hsp => ?_
 obtain ⟨t,h,q⟩:=hbody cdv A outer s H vs Q E hr hsp
 exact ⟨t,h.nox,q⟩
theorem FunD.binds {T : Addr} {o : Obj} {n : Nat} {items : Array Value} (F : FunD K x qual st (.ref T) f fd) (hT : K.lookup T = some o) (ho : o.data = .seq items n)
   (h : ∀ (kV doc pm : Value) (an : Option Addr) (cdv ct : Value) (us : List Value),(us ++ ds).length = ps.length→∃ k,bindArgs (PySem.W.fnOf x qual (defArgs st) (defBody st) (defScope st) (.ref T) kV doc pm an cdv ct) ⟨us,[]⟩ = seqItems? (.ref T) >>= k∧k (some items) = pure (ps.zip (us ++ ds))) : Binds K fd ps ds:=by
 obtain ⟨oc,od,kV,doc,pm,an,cdv,ct,osl,rfl,lk,hcd⟩:=F.ex
 intro s us X hl
 obtain ⟨k,h1,h2⟩:=h kV doc pm an cdv ct us hl
 exact PySem.W.binds_K X rfl hT ho h1 h2
theorem FunD.binds0 (F : FunD K x qual st .none f fd)
   (h : ∀ (kV doc pm : Value) (an : Option Addr) (cdv ct : Value) (us : List Value),us.length = ps.length→bindArgs (PySem.W.fnOf x qual (defArgs st) (defBody st) (defScope st) .none kV doc pm an cdv ct) ⟨us,[]⟩ = pure (ps.zip us)) : Binds K fd ps []:=by
 obtain ⟨oc,od,kV,doc,pm,an,cdv,ct,osl,rfl,lk,hcd⟩:=F.ex
 exact .all (h kV doc pm an cdv ct)
def HasM (K : PySem.W.Frag) (C : Addr) (m qual : Str) (st : Stmt) (dV : Value) : Prop:=∃ f fd,Meth K C m f∧FunD K m qual st dV f fd
def MDef (P : Program) (w : World) (K : PySem.W.Frag) (mg : Str→Option Value) (base : Heap) (C : Addr) (m : Str) (k : Nat) (ps : List Str) (ds : List Value) (sp : Sp) : Prop :=
 ∃ f fd,Meth K C m f∧Binds K fd ps ds∧FnOk P w K mg base CX0 k f fd ps sp
theorem HasM.mdef (h : HasM K C m qual st .none) (S : FnScope N ps (defScope st)) (len : ∀ vs H Q E,sp vs H Q E→vs.length = ps.length)
   (hb : ∀ (kV doc pm : Value) (an : Option Addr) (cdv ct : Value) (us : List Value),us.length = ps.length→bindArgs (PySem.W.fnOf m qual (defArgs st) (defBody st) (defScope st) .none kV doc pm an cdv ct) ⟨us,[]⟩ = pure (ps.zip us))
   (hbody : ∀ (f : Addr) (cdv : Value) (A : Around) (outer : List Env) (s : Shared) (H : Hp) (vs : List V) (Q : VK) (E : XK),Room k (A.deeper (envOfC qual (defScope st) s.heap.objs.size f cdv))→sp vs H Q E →
     ∃ t,PSs (cxOf CX0 P w K mg base N qual (defScope st) f cdv A outer s H E).nox (defBody st) t∧t { nx:=fun _ H' => Q .non H',rt:=Q } (start N vs) H) : MDef P w K mg base C m (k + 1) ps [] sp:=by
 obtain ⟨f,fd,M,F⟩:=h
 exact ⟨f,fd,M,F.binds0 hb,F.ok S len fun cdv A outer s H vs Q E hr hs => hbody f cdv A outer s H vs Q E hr hs⟩
structure MkCl (K : PySem.W.Frag) (C : Addr) : Prop where
 makes : PySem.W.makesIn K C = true
 kp : PySem.W.keepIn K (.ref C) = true
def HasD (K : PySem.W.Frag) (mg : Str→Option Value) (x : Str) (st : Stmt) (dV : Value) : Prop:=∃ f fd,mg x = some (.ref f)∧FunD K x x st dV f fd
def DefD (P : Program) (w : World) (K : PySem.W.Frag) (mg : Str→Option Value) (base : Heap) (x : Str) (k : Nat) (ps : List Str) (ds : List Value) (sp : Sp) : Prop :=
 ∃ f fd,mg x = some (.ref f)∧PySem.W.keepIn K (.ref f) = true∧Binds K fd ps ds∧FnOk P w K mg base CX0 k f fd ps sp
end
section
variable {X : Cx} {C : Addr} {m x : Str} {p pos apos : Pos} {e o : Expr} {es : List Expr} {ta : TE} {t : TA} {k : Nat} {ps : List Str} {sp : Sp} {ds : List Value} {dvs : List V}
theorem pe_methD {pl : Sem Bool} (he : PE X o ta) (c : Cls X.K C) (D : MDef X.prog X.w X.K X.mg X.base C m k ps ds sp) (hd : Vals dvs ds) (hr : Room k X.A) (ha : PA X (e :: es) t)
   (hst : starEach (e :: es) X.env = (false,eval e X.env) :: starEach es X.env:=by rfl) (hpl : (backTo pos (starEach es X.env)).any (·.1) = false:=by rfl)
   (ht : eval (.Call (.Attribute o m apos) (e :: es) [] pos) X.env = (do
     let ov ← eval o X.env
     standAt apos.atName
     let (f,first) ← holding [ov] (getMethod ov m pl)
     callWith pos f first (backTo pos (starEach (e :: es) X.env)) (backToKw pos (keywordEach [] X.env))):=by rfl) :
   PE X (.Call (.Attribute o m apos) (e :: es) [] pos) (tMeth C m sp dvs E0 ta t):=by
 obtain ⟨f,fd,hm,hb,F⟩:=D
 exact pe_meth (pl:=pl) he c hm F hr hb hd pass0 ha hst hpl ht
theorem pe_methD0 {pl : Sem Bool} (he : PE X o ta) (c : Cls X.K C) (D : MDef X.prog X.w X.K X.mg X.base C m k ps ds sp) (hd : Vals dvs ds) (hr : Room k X.A)
   (ht : eval (.Call (.Attribute o m apos) [] [] pos) X.env = (do
     let ov ← eval o X.env
     standAt apos.atName
     let (f,first) ← holding [ov] (getMethod ov m pl)
     callWith pos f first (backTo pos (starEach [] X.env)) (backToKw pos (keywordEach [] X.env))):=by rfl) :
   PE X (.Call (.Attribute o m apos) [] [] pos) (tMeth C m sp dvs E0 ta tNil):=by
 obtain ⟨f,fd,hm,hb,F⟩:=D
 exact pe_meth0 (pl:=pl) he c hm F hr hb hd pass0 ht
theorem pe_makeD (M : MkCl X.K C) (D : MDef X.prog X.w X.K X.mg X.base C "__init__" k ps ds sp) (hd : Vals dvs ds) (hr : Room (k + 1) X.A) (hm : X.mg x = some (.ref C)) (ha : PA X (e :: es) t) (hg : Gl X x:=by rfl) (hdb : (x == ("__debug__" : Str)) = false:=by decide)
   (he : starEach (e :: es) X.env = (false,eval e X.env) :: starEach es X.env:=by rfl) (hpl : (backTo pos (starEach es X.env)).any (·.1) = false:=by rfl) : PE X (.Call (.Name x p) (e :: es) [] pos) (tMake C sp dvs E0 t):=by
 obtain ⟨f,fd,me,hb,F⟩:=D
 exact pe_make ⟨M.makes,me.at_,me.fn,M.kp⟩ F hr hg hm hb hd pass0 ha hdb he hpl
theorem pe_callDD (D : DefD X.prog X.w X.K X.mg X.base x k ps ds sp) (hd : Vals dvs ds) (hr : Room k X.A) (ha : PA X (e :: es) t) (hg : Gl X x:=by rfl) (hdb : (x == ("__debug__" : Str)) = false:=by decide)
   (he : starEach (e :: es) X.env = (false,eval e X.env) :: starEach es X.env:=by rfl) (hpl : (backTo pos (starEach es X.env)).any (·.1) = false:=by rfl) : PE X (.Call (.Name x p) (e :: es) [] pos) (tCall sp dvs E0 t):=by
 obtain ⟨f,fd,hm,hk,hb,F⟩:=D
 exact pe_call F hr hg hm hk hb hd pass0 ha hdb he hpl
end
end L2
namespace L2
open PySem PySem.Spec PyProof.Rows Mth
section
variable {X : Cx} {pins : List (Addr × Obj)} {σ : St} {H : Hp} {s : Shared} {h' : Heap} {ch : List Addr}
theorem Inv.turnedL {a : Addr} {o : HO} {t' : Nat} (I : Inv X pins σ H s) (k : ∀ b u,b ∉ ch→s.heap.get? b = some u→h'.get? b = some u) (hf : ∀ b ∈ ch,FpOk X pins H b) (hp : s.heap.objs.size ≤ a)
   (new : ObjOk X.prog X.w (upd H a o) h' a o) : Inv X pins σ (upd H a o) { s with heap:=h',toks:=t' }:=by
 have hn : H a = none:=I.hok.fresh hp
 refine I.step (g':=s.gens) (d':=s.drawn) (ch:=ch) (fun b hb => ⟨(hf b hb).2.2.2.1,(hf b hb).2.1,(hf b hb).2.2.2.2.1,(hf b hb).2.2.2.2.2⟩) (fun b u _ _ hc q _ => k b u hc q) (fun b u _ _ hc q _ => ⟨u.slots,k b u hc q⟩)
   (fun b u _ q n => by rw [upd_ne (Nat.ne_of_lt (Nat.lt_of_lt_of_le (Heap.lt_size q) hp))]; exact n) (fun b u hc q => ⟨u,k b u hc q⟩) (fun b xs q => by rw [upd_ne (ne_of_none q hn)]; exact q) (fun b u xs q => by rw [upd_ne (ne_of_none q hn)]; exact q)
   (fun b ps q => ⟨#[],by rw [upd_ne (ne_of_none q hn),q]; simp⟩) (fun m hm => ?_) (fun b u q => ?_) I.bare
 · obtain ⟨ob,es,ep,ho,r⟩:=hm
   exact ⟨ob,es,ep,k _ ob (fun z => (hf _ z).2.1 rfl) ho,r⟩
 · by_cases hb : b = a
   · subst hb
     rw [upd_same] at q
     cases q
     exact new
   · rw [upd_ne hb] at q
     refine (I.hok b u q).stay (fun c v hc z => k c v (fun y => ?_) z) (fun c z => by rw [upd_ne (ne_of_none z hn)]; exact z) fun c xs z => by rw [upd_ne (ne_of_none z hn)]; exact z
     have n:=(hf c y).1
     rcases hc with rfl | hc
     · rw [n] at q; cases q
     · rw [n] at hc; cases hc
theorem Inv.turned0 {t' : Nat} (I : Inv X pins σ H s) (k : ∀ b u,b ∉ ch→s.heap.get? b = some u→h'.get? b = some u) (hf : ∀ b ∈ ch,FpOk X pins H b) : Inv X pins σ H { s with heap:=h',toks:=t' }:=by
 refine I.step (g':=s.gens) (d':=s.drawn) (ch:=ch) (fun b hb => ⟨(hf b hb).2.2.2.1,(hf b hb).2.1,(hf b hb).2.2.2.2.1,(hf b hb).2.2.2.2.2⟩) (fun b u _ _ hc q _ => k b u hc q) (fun b u _ _ hc q _ => ⟨u.slots,k b u hc q⟩)
   (fun _ _ _ _ n => n) (fun b u hc q => ⟨u,k b u hc q⟩) (fun _ _ q => q) (fun _ _ _ q => q) (fun b ps q => ⟨#[],by rw [q]; simp⟩) (fun m hm => ?_) (fun b u q => ?_) I.bare
 · obtain ⟨ob,es,ep,ho,r⟩:=hm
   exact ⟨ob,es,ep,k _ ob (fun z => (hf _ z).2.1 rfl) ho,r⟩
 · refine (I.hok b u q).stay (fun c v hc z => k c v (fun y => ?_) z) (fun _ z => z) fun _ _ z => z
   have n:=(hf c y).1
   rcases hc with rfl | hc
   · rw [n] at q; cases q
   · rw [n] at hc; cases hc
end
def Itz (K : PySem.W.Frag) (a b : Addr) : It :=
 ⟨fun i H => ∃ xs ys x y,SqL K H a xs∧SqL K H b ys∧xs[i]? = some x∧ys[i]? = some y,
  fun i H v H' => ∃ p x y,H p = none∧v = .ref p∧H' = upd H p (.tup [x,y])∧(∀ xs,SqL K H a xs→xs[i]? = some x)∧∀ ys,SqL K H b ys→ys[i]? = some y,
  fun i H => ∃ xs ys,SqL K H a xs∧SqL K H b ys∧(xs.length ≤ i ∨ ys.length ≤ i)⟩
def ZipSt (z TI TO i1 i2 a b : Addr) (i : Nat) (h : Heap) : Prop:=IsZip h z TI TO .none∧IsPair h TI (.ref i1) (.ref i2)∧(∃ u v,IsPair h TO u v)∧h.IsListIter i1 a i∧h.IsListIter i2 b i
theorem ZipSt.obj {z TI TO i1 i2 a b : Addr} {i : Nat} {h : Heap} (st : ZipSt z TI TO i1 i2 a b i h) : ∀ c ∈ [z,TI,TO,i1,i2],∃ o,h.get? c = some o∧∀ v,o.data ≠ .cell v:=fun c hc => by
 obtain ⟨hz,hTI,⟨u,v,hTO⟩,⟨o1,e1,_,d1⟩,⟨o2,e2,_,d2⟩⟩:=st
 simp only [List.mem_cons,List.not_mem_nil,or_false] at hc
 rcases hc with rfl | rfl | rfl | rfl | rfl
 · exact ⟨_,hz,fun v q => by cases q⟩
 · exact ⟨_,hTI,fun v q => by cases q⟩
 · exact ⟨_,hTO,fun v q => by cases q⟩
 · exact ⟨o1,e1,fun v q => by rw [d1] at q; cases q⟩
 · exact ⟨o2,e2,fun v q => by rw [d2] at q; cases q⟩
theorem turn_zip {P : Program} {w : World} {K : PySem.W.Frag} {elts : List Expr} {x1 : Nat} {tpos : Pos} {z TI TO i1 i2 a b : Addr} (D : ZipApart z TI TO i1 i2 a b) :
   Turn P w K (.Tuple elts x1 tpos) (Itz K a b) [z,TI,TO,i1,i2] z (ZipSt z TI TO i1 i2 a b) where
 mem:=by simp
 obj:=fun i h st => st.obj
 keep:=fun i h h' st k => by
   obtain ⟨hz,hTI,⟨u,v,hTO⟩,h1,h2⟩:=st
   exact ⟨k z (by simp) _ hz,k TI (by simp) _ hTI,⟨u,v,k TO (by simp) _ hTO⟩,h1.at fun o e => k i1 (by simp) o e,h2.at fun o e => k i2 (by simp) o e⟩
 item:=by
   intro X hP hw hK hc i pins s σ H E I hf st hg
   subst hP hw hK
   obtain ⟨xs,ys,x,y,hq1,hq2,hx,hy⟩:=hg
   obtain ⟨its1,rv1,p1,hz1⟩:=I.list hq1
   obtain ⟨its2,rv2,p2,hz2⟩:=I.list hq2
   obtain ⟨u1,hu1,ru1⟩:=rv1.get hx
   obtain ⟨u2,hu2,ru2⟩:=rv2.get hy
   have lt : ∀ c ∈ [z,TI,TO,i1,i2],c < s.heap.objs.size:=fun c hc' => by
     obtain ⟨o,e,_⟩:=st.obj c hc'
     exact Heap.lt_size e
   obtain ⟨hz,hTI,⟨u,v,hTO⟩,h1,h2⟩:=st
   refine wpAny_pyNext_zip_item D hz hTI hTO h1 h2 p1.isList p2.isList (x:=u1) (y:=u2) (by simpa using hu1) (by simpa using hu2) fun h' z1 z2 z3 z4 z5 z6 kk => ?_
   refine ⟨.ref s.heap.objs.size,rfl,wpAny_letOwnedTupleGo_zip (s:={ s with heap:=h' }) z1 fun h2' zz sb => ?_⟩
   have kAll : ∀ c o,c ∉ [z,TI,TO,i1,i2]→s.heap.get? c = some o→h2'.get? c = some o:=fun c o hn e => by
     simp only [List.mem_cons,List.not_mem_nil,or_false,not_or] at hn
     exact sb.extBut _ _ hn.1 (kk c o hn.1 hn.2.2.1 hn.2.2.2.1 hn.2.2.2.2 e)
   have nz : s.heap.objs.size ≠ z:=Nat.ne_of_gt (lt z (by simp))
   have n5 : IsPair h2' s.heap.objs.size u1 u2:=sb.extBut _ _ nz z5
   refine ⟨.ref s.heap.objs.size,upd H s.heap.objs.size (.tup [x,y]),I.turnedL (t':=s.toks) kAll hf (Nat.le_refl _) ⟨by show 2 ≤ sizeLine; decide,[u1,u2],.cons ru1 (.cons ru2 .nil),⟨_,n5,rfl,_,rfl⟩⟩,rfl,
     ⟨_,x,y,I.hok.fresh (Nat.le_refl _),rfl,rfl,fun xs' h => by rw [I.list_inj h hq1]; exact hx,fun ys' h => by rw [I.list_inj h hq2]; exact hy⟩,?_,fun c hc' => ?_⟩
   · exact ⟨zz,sb.extBut _ _ D.TIz (kk _ _ D.TIz D.TITO D.TIi1 D.TIi2 hTI),⟨_,_,sb.extBut _ _ D.TOz z2⟩,z3.extBut sb.extBut D.i1z,z4.extBut sb.extBut D.i2z⟩
   · rw [upd_ne (Nat.ne_of_lt (lt c hc'))]
     exact (hf c hc').1
 done:=by
   intro X hP hw hK hc i pins s σ H E I hf st hg
   subst hP hw hK
   obtain ⟨xs,ys,hq1,hq2,hl⟩:=hg
   obtain ⟨its1,rv1,p1,hz1⟩:=I.list hq1
   obtain ⟨its2,rv2,p2,hz2⟩:=I.list hq2
   have l1:=rv1.length
   have l2:=rv2.length
   obtain ⟨hz,hTI,⟨u,v,hTO⟩,h1,h2⟩:=st
   have hend : its1.toArray[i]? = none ∨ its2.toArray[i]? = none:=by
     rcases hl with h | h
     · exact .inl (by simp; omega)
     · exact .inr (by simp; omega)
   refine wpAny_pyNext_zip_end (I.ok.hd hc) D hz hTI hTO h1 h2 p1.isList p2.isList hend fun h' kk => ⟨rfl,I.turned0 (ch:=[z,TI,TO,i1,i2]) (t':=s.toks) (fun c o hn e => ?_) hf⟩
   simp only [List.mem_cons,List.not_mem_nil,or_false,not_or] at hn
   exact kk c o hn.1 hn.2.2.1 hn.2.2.2.1 hn.2.2.2.2 e
 self:=fun _ _ _ _ _ st h => wpAny_pyIter_zip st.1 h
theorem bt_zip : bootBuiltins "zip" = some (.type "zip"):=by decide +kernel
section
variable {X : Cx}
def iZip (K : PySem.W.Frag) (ta : TA) : TI:=fun σ H R => ta σ H fun vs H1 => ∃ a b,vs = [.ref a,.ref b]∧(∃ xs,SqL K H1 a xs)∧(∃ ys,SqL K H1 b ys)∧R (Itz K a b) H1
theorem pi_zip {a b : Expr} {ta : TA} {p pos tpos : Pos} {elts : List Expr} {x1 : Nat} (hg : Gl X "zip") (hm : X.mg "zip" = none) (ha : PA X [a,b] ta) (hs : starEach [a,b] X.env = [(false,eval a X.env),(false,eval b X.env)]:=by rfl)
   (hs2 : starEach [b] X.env = [(false,eval b X.env)]:=by rfl) : PI X (.Tuple elts x1 tpos) (.Call (.Name "zip" p) [a,b] [] pos) (iZip X.K ta):=by
 intro pins s σ H R I h
 refine Call_ (ld_blt I hg hm bt_zip (PyProof.Rows.callWith_type1 (thn (ha pos pins s σ H _ I h) fun us s1 ⟨vs,H1,I1,r1,q1⟩ => ?_) (by rw [hs,hs2]) (by rw [hs2]; rfl)))
 obtain ⟨a,b,e,⟨xs,hq1⟩,⟨ys,hq2⟩,q⟩:=q1
 subst e
 obtain ⟨u,v,rfl,r,r'⟩:=vals2 r1
 obtain rfl : u = Value.ref a:=r
 obtain rfl : v = Value.ref b:=r'
 obtain ⟨its1,rv1,p1,hz1⟩:=I1.list hq1
 obtain ⟨its2,rv2,p2,hz2⟩:=I1.list hq2
 refine call_zip_2 p1.isList p2.isList fun h' z1 z2 z3 z4 z5 z6 kk => ?_
 have la : a < s1.heap.objs.size:=by obtain ⟨_,e,_⟩:=p1.isList; exact Heap.lt_size e
 have lb : b < s1.heap.objs.size:=by obtain ⟨_,e,_⟩:=p2.isList; exact Heap.lt_size e
 refine wpAny_pyIter_zip z1 ?_
 refine ⟨s1.heap.objs.size + 4,[s1.heap.objs.size + 4,s1.heap.objs.size + 2,s1.heap.objs.size + 3,s1.heap.objs.size,s1.heap.objs.size + 1],_,_,H1,rfl,I1.kept (t':=s1.toks) kk,turn_zip (zipApart_new la lb),⟨z1,z2,⟨_,_,z3⟩,z4,z5⟩,fun c hc => ?_,q⟩
 have hle : s1.heap.objs.size ≤ c:=by
   simp only [List.mem_cons,List.not_mem_nil,or_false] at hc
   rcases hc with rfl | rfl | rfl | rfl | rfl
   · exact Nat.le_add_right _ _
   · exact Nat.le_add_right _ _
   · exact Nat.le_add_right _ _
   · exact Nat.le_refl _
   · exact Nat.le_add_right _ _
 exact I1.fpOk hle (I1.hok.fresh hle)
end
theorem comp_zip {K : PySem.W.Frag} {a b : Addr} {xs ys : List V} {g : TG} {tt : TT} {te : TE} {D : Addr} {Q : Hp→Prop} {σ : St} {H : Hp} (Pv : Nat→List V→St→Hp→Prop) (h0 : Pv 0 [] σ H)
   (hl : ∀ i acc σ H,i ≤ min xs.length ys.length→Pv i acc σ H→SqL K H a xs∧SqL K H b ys)
   (hs : ∀ i x y p acc σ H,xs[i]? = some x→ys[i]? = some y→H p = none→Pv i acc σ H→g (.ref p) σ (upd H p (.tup [x,y])) fun σ2 H3 => tt σ2 H3 fun k H4 =>
     if k = true then te σ2 H4 fun v H5 => H5 D = some (.lst acc)∧acc.length < sizeLine∧Pv (i + 1) (acc ++ [v]) σ2 (upd H5 D (.lst (acc ++ [v]))) else Pv (i + 1) acc σ2 H4) (hd : ∀ acc σ H,Pv (min xs.length ys.length) acc σ H→Q H) :
   ∃ W : Nat→Nat→List V→St→Hp→Prop,(∃ m,W 0 m [] σ H)∧∀ i m acc σ' H',W i m acc σ' H'→((Itz K a b).stop i H'∧Q H') ∨
     ((Itz K a b).go i H'∧∃ N : List V→St→Hp→Prop,(∀ acc' σ2 H4,N acc' σ2 H4→∃ m',m' < m∧W (i + 1) m' acc' σ2 H4)∧∀ x H2,(Itz K a b).yld i H' x H2→g x σ' H2 fun σ2 H3 => tt σ2 H3 fun k H4 =>
       if k = true then te σ2 H4 fun y H5 => H5 D = some (.lst acc)∧acc.length < sizeLine∧N (acc ++ [y]) σ2 (upd H5 D (.lst (acc ++ [y]))) else N acc σ2 H4):=by
 refine ⟨fun i m acc σ H => m = min xs.length ys.length - i∧i ≤ min xs.length ys.length∧Pv i acc σ H,⟨_,rfl,Nat.zero_le _,h0⟩,?_⟩
 rintro i m acc σ H ⟨rfl,hi,p⟩
 obtain ⟨q1,q2⟩:=hl i acc σ H hi p
 by_cases hlt : i < min xs.length ys.length
 · have h1 : i < xs.length:=by omega
   have h2 : i < ys.length:=by omega
   refine .inr ⟨⟨xs,ys,xs[i],ys[i],q1,q2,by simp [h1],by simp [h2]⟩,Pv (i + 1),fun acc' σ' H' p' => ⟨min xs.length ys.length - (i + 1),by omega,rfl,hlt,p'⟩,fun v H' y => ?_⟩
   obtain ⟨pp,x,y,hn,rfl,rfl,e1,e2⟩:=y
   exact hs i x y pp acc σ H (e1 xs q1) (e2 ys q2) hn p
 · have e : i = min xs.length ys.length:=by omega
   subst e
   exact .inl ⟨⟨xs,ys,q1,q2,by omega⟩,hd acc σ H p⟩
end L2
namespace L2
open PySem PySem.Spec PyProof.Rows Mth
mutual
def Dn (K : PySem.W.Frag) (H : Hp) : PyData→V→Prop
 | .none,v => v = .non
 | .bool b,v => v = .bl b
 | .int i,v => v = .int i
 | .str x,v => v = .str x
 | .list ds,v => ∃ a xs,v = .ref a∧SqL K H a xs∧DnA K H ds xs
 | .tuple ds,v => ∃ a xs,v = .ref a∧SqT K H a xs∧DnA K H ds xs
 | .dict _,_ => False
def DnA (K : PySem.W.Frag) (H : Hp) : List PyData→List V→Prop
 | [],xs => xs = []
 | d :: ds,xs => ∃ x r,xs = x :: r∧Dn K H d x∧DnA K H ds r
end
def flatD : PyData→Bool
 | .list _ => false
 | .dict _ => false
 | .tuple ds => ds.attach.all fun ⟨d,_⟩ => flatD d
 | _ => true
theorem flatD_tuple {ds : List PyData} : flatD (.tuple ds) = true ↔ ∀ d ∈ ds,flatD d = true:=by
 rw [flatD,List.all_eq_true]
 constructor
 · intro h d hd
   exact h ⟨d,hd⟩ (List.mem_attach ..)
 · intro h x _
   exact h x.1 x.2
def TStay (K : PySem.W.Frag) (H H' : Hp) : Prop:=∀ a xs,SqT K H a xs→SqT K H' a xs
theorem TStay.refl {K : PySem.W.Frag} (H : Hp) : TStay K H H:=fun _ _ h => h
theorem TStay.trans {K : PySem.W.Frag} {H H1 H2 : Hp} (a : TStay K H H1) (b : TStay K H1 H2) : TStay K H H2:=fun c xs h => b c xs (a c xs h)
theorem Same.ts {K : PySem.W.Frag} {H H' : Hp} (s : Same H H') : TStay K H H':=fun _ _ h => s.tup h
def noTup : HO→Bool
 | .tup _ => false
 | .frz _ _ => false
 | _ => true
theorem ts_upd {K : PySem.W.Frag} {H : Hp} {a : Addr} {o o' : HO} (h : H a = some o) (n : noTup o = true) : TStay K H (upd H a o'):=fun b xs q => by
 have ne : ∀ u,H b = some u→noTup u = false→b ≠ a:=fun u e z y => by
   subst y
   rw [h] at e
   cases e
   rw [n] at z
   cases z
 rcases q with (q | ⟨ob,q⟩) | q
 · exact .inl (.inl (by rw [upd_ne (ne _ q rfl)]; exact q))
 · exact .inl (.inr ⟨ob,by rw [upd_ne (ne _ q rfl)]; exact q⟩)
 · exact .inr q
section
variable {K : PySem.W.Frag} {H H' : Hp}
mutual
theorem Dn.same (s : Same H H') : ∀ (d : PyData) {v : V},Dn K H d v→Dn K H' d v
 | .none,_,h => by rw [Dn] at h ⊢; exact h
 | .bool _,_,h => by rw [Dn] at h ⊢; exact h
 | .int _,_,h => by rw [Dn] at h ⊢; exact h
 | .str _,_,h => by rw [Dn] at h ⊢; exact h
 | .list ds,_,h => by
   rw [Dn] at h ⊢
   obtain ⟨a,xs,e,q,r⟩:=h
   exact ⟨a,xs,e,s.seq q,DnA.same s ds r⟩
 | .tuple ds,_,h => by
   rw [Dn] at h ⊢
   obtain ⟨a,xs,e,q,r⟩:=h
   exact ⟨a,xs,e,s.tup q,DnA.same s ds r⟩
 | .dict _,_,h => by rw [Dn] at h; exact h.elim
theorem DnA.same (s : Same H H') : ∀ (ds : List PyData) {xs : List V},DnA K H ds xs→DnA K H' ds xs
 | [],_,h => by rw [DnA] at h ⊢; exact h
 | d :: ds,_,h => by
   rw [DnA] at h ⊢
   obtain ⟨x,r,e,q,t⟩:=h
   exact ⟨x,r,e,Dn.same s d q,DnA.same s ds t⟩
end
mutual
theorem Dn.ts (s : TStay K H H') : ∀ (d : PyData) {v : V},flatD d = true→Dn K H d v→Dn K H' d v
 | .none,_,_,h => by rw [Dn] at h ⊢; exact h
 | .bool _,_,_,h => by rw [Dn] at h ⊢; exact h
 | .int _,_,_,h => by rw [Dn] at h ⊢; exact h
 | .str _,_,_,h => by rw [Dn] at h ⊢; exact h
 | .list ds,_,f,_ => by rw [flatD] at f; cases f
 | .tuple ds,_,f,h => by
   rw [Dn] at h ⊢
   obtain ⟨a,xs,e,q,r⟩:=h
   exact ⟨a,xs,e,s _ _ q,DnA.ts s ds (flatD_tuple.mp f) r⟩
 | .dict _,_,_,h => by rw [Dn] at h; exact h.elim
theorem DnA.ts (s : TStay K H H') : ∀ (ds : List PyData) {xs : List V},(∀ d ∈ ds,flatD d = true)→DnA K H ds xs→DnA K H' ds xs
 | [],_,_,h => by rw [DnA] at h ⊢; exact h
 | d :: ds,_,f,h => by
   rw [DnA] at h ⊢
   obtain ⟨x,r,e,q,t⟩:=h
   exact ⟨x,r,e,Dn.ts s d (f d List.mem_cons_self) q,DnA.ts s ds (fun d hd => f d (List.mem_cons_of_mem _ hd)) t⟩
end
theorem DnA.length : ∀ {ds : List PyData} {xs : List V},DnA K H ds xs→xs.length = ds.length
 | [],_,h => by rw [DnA] at h; rw [h]; rfl
 | d :: ds,_,h => by
   rw [DnA] at h
   obtain ⟨x,r,rfl,_,t⟩:=h
   rw [List.length_cons,List.length_cons,DnA.length t]
theorem DnA.get : ∀ {ds : List PyData} {xs : List V} {i : Nat} {d : PyData},DnA K H ds xs→ds[i]? = some d→∃ x,xs[i]? = some x∧Dn K H d x
 | [],_,_,_,_,e => by simp at e
 | _ :: _,_,0,_,h,e => by
   rw [DnA] at h
   obtain ⟨x,r,rfl,q,t⟩:=h
   simp at e
   subst e
   exact ⟨x,rfl,q⟩
 | _ :: ds,_,i + 1,d,h,e => by
   rw [DnA] at h
   obtain ⟨x,r,rfl,q,t⟩:=h
   obtain ⟨y,e1,e2⟩:=DnA.get (i:=i) t (by simpa using e)
   exact ⟨y,by simpa using e1,e2⟩
theorem DnA.snoc : ∀ {ds : List PyData} {xs : List V} {d : PyData} {x : V},DnA K H ds xs→Dn K H d x→DnA K H (ds ++ [d]) (xs ++ [x])
 | [],_,d,x,h,q => by
   rw [DnA] at h
   subst h
   exact ⟨x,[],rfl,q,rfl⟩
 | _ :: ds,_,d,x,h,q => by
   rw [DnA] at h
   obtain ⟨y,r,rfl,q',t⟩:=h
   exact ⟨y,r ++ [x],rfl,q',DnA.snoc t q⟩
theorem DnA.set : ∀ {ds : List PyData} {xs : List V} {i : Nat} {d : PyData} {x : V},DnA K H ds xs→Dn K H d x→DnA K H (ds.set i d) (xs.set i x)
 | [],_,_,_,_,h,_ => by
   rw [DnA] at h
   subst h
   exact rfl
 | _ :: _,_,0,d,x,h,q => by
   rw [DnA] at h
   obtain ⟨y,r,rfl,q',t⟩:=h
   exact ⟨x,r,rfl,q,t⟩
 | _ :: ds,_,i + 1,d,x,h,q => by
   rw [DnA] at h
   obtain ⟨y,r,rfl,q',t⟩:=h
   exact ⟨y,r.set i x,rfl,q',DnA.set t q⟩
theorem dn_nil : DnA K H [] []:=rfl
theorem dn_cons {d : PyData} {ds : List PyData} {x : V} {xs : List V} (a : Dn K H d x) (b : DnA K H ds xs) : DnA K H (d :: ds) (x :: xs):=⟨x,xs,rfl,a,b⟩
theorem dn_int {i : Int} : Dn K H (.int i) (.int i):=rfl
theorem dn_tup {a : Addr} {xs : List V} {ds : List PyData} (h : SqT K H a xs) (r : DnA K H ds xs) : Dn K H (.tuple ds) (.ref a):=⟨a,xs,rfl,h,r⟩
theorem dn_lst {a : Addr} {xs : List V} {ds : List PyData} (h : SqL K H a xs) (r : DnA K H ds xs) : Dn K H (.list ds) (.ref a):=⟨a,xs,rfl,h,r⟩
abbrev frD (f : Int × Int) : PyData:=.tuple [.int f.1,.int f.2]
theorem dn_fr {p : Addr} {f : Int × Int} (h : SqT K H p [.int f.1,.int f.2]) : Dn K H (frD f) (.ref p):=dn_tup h (dn_cons dn_int (dn_cons dn_int dn_nil))
theorem Dn.fr {v : V} {f : Int × Int} (h : Dn K H (frD f) v) : ∃ p,v = .ref p∧SqT K H p [.int f.1,.int f.2]:=by
 obtain ⟨p,xs,e,q,x,r,e1,e2,y,r2,e3,e4,e5⟩:=h
 have e2 : x = V.int f.1:=e2
 have e4 : y = V.int f.2:=e4
 have e5 : r2 = []:=e5
 subst e1 e2 e3 e4 e5
 exact ⟨p,e,q⟩
theorem flat_fr (f : Int × Int) : flatD (frD f) = true:=by simp [frD,flatD]
end
section
variable {X : Cx} {pins : List (Addr × Obj)} {σ : St} {H : Hp} {s : Shared}
mutual
theorem Inv.reads (I : Inv X pins σ H s) : ∀ (d : PyData) {v : V} {u : Value},Dn X.K H d v→RelV v u→∃ as,Reads s.heap u d as
 | .none,_,_,h,r => by
   have h : _ = V.non:=h
   subst h
   obtain rfl:=(show _ = Value.none from r)
   exact ⟨_,.none⟩
 | .bool b,_,_,h,r => by
   have h : _ = V.bl b:=h
   subst h
   obtain rfl:=(show _ = Value.bool b from r)
   exact ⟨_,.bool b⟩
 | .int i,_,_,h,r => by
   have h : _ = V.int i:=h
   subst h
   obtain ⟨t,rfl⟩:=r
   exact ⟨_,.int i t⟩
 | .str x,_,_,h,r => by
   have h : _ = V.str x:=h
   subst h
   obtain ⟨t,rfl⟩:=r
   exact ⟨_,.str x t⟩
 | .list ds,_,_,h,r => by
   obtain ⟨a,xs,rfl,q,t⟩:=h
   obtain rfl:=(show _ = Value.ref a from r)
   obtain ⟨its,rv,p,_⟩:=I.list q
   obtain ⟨o,ho,hc,n,hd⟩:=p.isList
   obtain ⟨as,ra⟩:=Inv.readsAll I ds t rv
   exact ⟨_,.list ho hc hd (by simpa using ra)⟩
 | .tuple ds,_,_,h,r => by
   obtain ⟨a,xs,rfl,q,t⟩:=h
   obtain rfl:=(show _ = Value.ref a from r)
   obtain ⟨its,rv,p,_⟩:=I.tuple q
   obtain ⟨o,ho,hc,n,hd⟩:=p
   obtain ⟨as,ra⟩:=Inv.readsAll I ds t rv
   exact ⟨_,.tuple ho hc hd (by simpa using ra)⟩
 | .dict _,_,_,h,_ => (show False from h).elim
theorem Inv.readsAll (I : Inv X pins σ H s) : ∀ (ds : List PyData) {xs : List V} {us : List Value},DnA X.K H ds xs→Vals xs us→∃ as,ReadsAll s.heap us ds as
 | [],_,_,h,r => by
   have h : _ = []:=h
   subst h
   obtain rfl:=Vals.zero r
   exact ⟨_,.nil⟩
 | d :: ds,_,_,h,r => by
   obtain ⟨x,t,rfl,q,qt⟩:=h
   cases r with
   | cons r1 r2 =>
     obtain ⟨as,ra⟩:=Inv.reads I d q r1
     obtain ⟨bs,rb⟩:=Inv.readsAll I ds qt r2
     exact ⟨_,.cons ra rb⟩
end
def rEqD (K : PySem.W.Frag) : R2:=fun x y H Q => ∃ d e,Dn K H d x∧Dn K H e y∧SeqAt.shaped d = true∧SeqAt.shaped e = true∧Q (.bl (PyData.eqv d e)) H
def rNeD (K : PySem.W.Frag) : R2:=fun x y H Q => ∃ d e,Dn K H d x∧Dn K H e y∧SeqAt.shaped d = true∧SeqAt.shaped e = true∧Q (.bl (!PyData.eqv d e)) H
theorem op_eqD (hu : X.A.units + 64 < cLine) : OpR X (compareOp .Eq) (rEqD X.K):=by
 intro pins s σ H x y v u Q I rx ry h
 obtain ⟨d,e,h1,h2,s1,s2,q⟩:=h
 obtain ⟨as,r1⟩:=I.reads d h1 rx
 obtain ⟨bs,r2⟩:=I.reads e h2 ry
 exact eq_dataH r1 r2 s1 s2 hu ⟨.bl _,H,I,rfl,q⟩
theorem op_neD (hu : X.A.units + 64 < cLine) : OpR X (compareOp .NotEq) (rNeD X.K):=by
 intro pins s σ H x y v u Q I rx ry h
 obtain ⟨d,e,h1,h2,s1,s2,q⟩:=h
 obtain ⟨as,r1⟩:=I.reads d h1 rx
 obtain ⟨bs,r2⟩:=I.reads e h2 ry
 exact ne_dataH r1 r2 s1 s2 hu ⟨.bl _,H,I,rfl,q⟩
theorem call_allB (hc : X.calm = true) : CallR X (.builtin "all") (fun xs H Q => ∃ (p : Addr) (bs : List Bool),xs = [.ref p]∧SqL X.K H p (bs.map V.bl)∧Q (.bl (bs.all id)) H):=by
 intro pins s σ H xs us Q I r h
 obtain ⟨p,bs,rfl,hq,q⟩:=h
 obtain ⟨u,rfl,r1⟩ : ∃ u,us = [u]∧RelV (.ref p) u:=by
   cases r with
   | cons a b => cases b; exact ⟨_,rfl,a⟩
 obtain rfl : u = Value.ref p:=r1
 obtain ⟨its,rv,pl,_⟩:=I.list hq
 have hl : p < s.heap.objs.size:=by obtain ⟨_,e,_⟩:=pl.isList; exact Heap.lt_size e
 have hlen : its.length = bs.length:=by rw [← rv.length,List.length_map]
 have hval : ∀ i v,its.toArray[i]? = some v→v = Value.bool (bs.getD i false):=fun i v e => by
   have e' : its[i]? = some v:=by simpa using e
   have hi : i < bs.length:=by rw [← hlen]; exact (List.getElem?_eq_some_iff.mp e').1
   obtain ⟨u,e2,r2⟩:=rv.get (i:=i) (x:=V.bl (bs[i])) (by simp [hi])
   rw [e'] at e2
   cases e2
   have r3 : v = Value.bool bs[i]:=r2
   rw [r3]
   simp [hi]
 refine call_all_walk (wpAny_pyIter_list pl.isList ⟨s.heap.objs.size,_,_,_,_,_,fun i => bs.getD i false,rfl,Walks.list (by simpa using I.ok.hd hc) _ p (Nat.ne_of_lt hl) its.toArray,⟨⟨_,Heap.get?_push_size _ rfl,rfl,rfl⟩,pl.isList.push _⟩,fun i v s' Q' E' hP hQ' => ?_,fun h' tk hk => ?_⟩)
 · rw [hval i v hP]
   exact wpAny_pure hQ'
 · have e : (List.range its.toArray.size).all (fun i => bs.getD i false) = bs.all id:=by
     have : its.toArray.size = bs.length:=by simpa using hlen
     rw [this,Bool.eq_iff_iff,List.all_eq_true,List.all_eq_true]
     constructor
     · intro h b hb
       obtain ⟨i,hi,rfl⟩:=List.getElem_of_mem hb
       have:=h i (List.mem_range.mpr hi)
       simpa [hi] using this
     · intro h i hi
       have hi:=List.mem_range.mp hi
       have:=h _ (List.getElem_mem hi)
       simpa [hi] using this
   rw [e]
   exact ⟨.bl _,H,I.kept (t':=tk) fun b o z => hk b o (fun y => by
     have y : b = s.heap.objs.size:=by simpa using y
     exact absurd (Heap.lt_size z) (by rw [y]; exact Nat.lt_irrefl _)) (Heap.get?_push_of_some _ z),rfl,q⟩
end
end L2
namespace L2
open PySem PySem.Spec PyProof.Rows Mth
section
variable {P : Program} {w : World} {K : PySem.W.Frag} {mg : Str→Option Value} {base : Heap} {x qual m : Str} {st : Stmt} {dV : Value} {f C : Addr} {fd : FuncData} {N ps : List Str} {k : Nat} {sp : Sp} {ds : List Value} {dvs : List V}
def MOk (P : Program) (w : World) (K : PySem.W.Frag) (mg : Str→Option Value) (base : Heap) (C : Addr) (m qual : Str) (st : Stmt) (dV : Value) (k : Nat) (ps : List Str) (sp : Sp) : Prop :=
 ∃ f fd,Meth K C m f∧FunD K m qual st dV f fd∧FnOk P w K mg base CX0 k f fd ps sp
def MDefE (P : Program) (w : World) (K : PySem.W.Frag) (mg : Str→Option Value) (base : Heap) (C : Addr) (m : Str) (k : Nat) (ps : List Str) (dvs : List V) (sp : Sp) : Prop :=
 ∃ ds,Vals dvs ds∧MDef P w K mg base C m k ps ds sp
theorem HasM.mok (h : HasM K C m qual st dV) (S : FnScope N ps (defScope st)) (len : ∀ vs H Q E,sp vs H Q E→vs.length = ps.length)
   (hbody : ∀ (f : Addr) (cdv : Value) (A : Around) (outer : List Env) (s : Shared) (H : Hp) (vs : List V) (Q : VK) (E : XK),Room k (A.deeper (envOfC qual (defScope st) s.heap.objs.size f cdv))→sp vs H Q E →
     ∃ t,PSs (cxOf CX0 P w K mg base N qual (defScope st) f cdv A outer s H E).nox (defBody st) t∧t { nx:=fun _ H' => Q .non H',rt:=Q } (start N vs) H) : MOk P w K mg base C m qual st dV (k + 1) ps sp:=by
 obtain ⟨f,fd,M,F⟩:=h
 exact ⟨f,fd,M,F,F.ok S len fun cdv A outer s H vs Q E hr hs => hbody f cdv A outer s H vs Q E hr hs⟩
theorem MOk.mdef {T : Addr} {dall : List V} (h : MOk P w K mg base C m qual st (.ref T) k ps sp) (hT : DfIs K T dall)
   (hb : ∀ items : Array Value,Vals dall items.toList→∃ ds,Vals dvs ds∧∀ (kV doc pm : Value) (an : Option Addr) (cdv ct : Value) (us : List Value),(us ++ ds).length = ps.length→∃ k,bindArgs (PySem.W.fnOf m qual (defArgs st) (defBody st) (defScope st) (.ref T) kV doc pm an cdv ct) ⟨us,[]⟩ = seqItems? (.ref T) >>= k∧k (some items) = pure (ps.zip (us ++ ds))) :
   MDefE P w K mg base C m k ps dvs sp:=by
 obtain ⟨f,fd,M,F,O⟩:=h
 obtain ⟨o,n,items,hT,ho,hv⟩:=hT
 obtain ⟨ds,hd,hb⟩:=hb items hv
 exact ⟨ds,hd,f,fd,M,F.binds hT ho hb,O⟩
def DOk (P : Program) (w : World) (K : PySem.W.Frag) (mg : Str→Option Value) (base : Heap) (x : Str) (st : Stmt) (dV : Value) (k : Nat) (ps : List Str) (sp : Sp) : Prop :=
 ∃ f fd,mg x = some (.ref f)∧FunD K x x st dV f fd∧FnOk P w K mg base CX0 k f fd ps sp
def DefE (P : Program) (w : World) (K : PySem.W.Frag) (mg : Str→Option Value) (base : Heap) (x : Str) (k : Nat) (ps : List Str) (dvs : List V) (sp : Sp) : Prop :=
 ∃ ds,Vals dvs ds∧DefD P w K mg base x k ps ds sp
theorem HasD.dok (h : HasD K mg x st dV) (S : FnScope N ps (defScope st)) (len : ∀ vs H Q E,sp vs H Q E→vs.length = ps.length)
   (hbody : ∀ (f : Addr) (cdv : Value) (A : Around) (outer : List Env) (s : Shared) (H : Hp) (vs : List V) (Q : VK) (E : XK),Room k (A.deeper (envOfC x (defScope st) s.heap.objs.size f cdv))→sp vs H Q E →
     ∃ t,PSs (cxOf CX0 P w K mg base N x (defScope st) f cdv A outer s H E).nox (defBody st) t∧t { nx:=fun _ H' => Q .non H',rt:=Q } (start N vs) H) : DOk P w K mg base x st dV (k + 1) ps sp:=by
 obtain ⟨f,fd,M,F⟩:=h
 exact ⟨f,fd,M,F,F.ok S len fun cdv A outer s H vs Q E hr hs => hbody f cdv A outer s H vs Q E hr hs⟩
theorem DOk.defE {T : Addr} {dall : List V} (h : DOk P w K mg base x st (.ref T) k ps sp) (hT : DfIs K T dall)
   (hb : ∀ items : Array Value,Vals dall items.toList→∃ ds,Vals dvs ds∧∀ (kV doc pm : Value) (an : Option Addr) (cdv ct : Value) (us : List Value),(us ++ ds).length = ps.length→∃ k,bindArgs (PySem.W.fnOf x x (defArgs st) (defBody st) (defScope st) (.ref T) kV doc pm an cdv ct) ⟨us,[]⟩ = seqItems? (.ref T) >>= k∧k (some items) = pure (ps.zip (us ++ ds))) :
   DefE P w K mg base x k ps dvs sp:=by
 obtain ⟨f,fd,M,F,O⟩:=h
 obtain ⟨o,n,items,hT,ho,hv⟩:=hT
 obtain ⟨ds,hd,hb⟩:=hb items hv
 exact ⟨ds,hd,f,fd,M,F.kp,F.binds hT ho hb,O⟩
theorem vals3 {a b c : V} {items : Array Value} (h : Vals [a,b,c] items.toList) : ∃ u v z,items = #[u,v,z]∧RelV a u∧RelV b v∧RelV c z:=by
 obtain ⟨l⟩:=items
 cases h with
 | cons h1 h => cases h with
   | cons h2 h => cases h with
     | cons h3 h => cases h with
       | nil => exact ⟨_,_,_,rfl,h1,h2,h3⟩
end
section
variable {X : Cx} {C : Addr} {m x : Str} {p pos apos : Pos} {e o : Expr} {es : List Expr} {ta : TE} {t : TA} {k : Nat} {ps : List Str} {sp : Sp} {dvs : List V}
theorem pe_methE {pl : Sem Bool} (he : PE X o ta) (c : Cls X.K C) (D : MDefE X.prog X.w X.K X.mg X.base C m k ps dvs sp) (hr : Room k X.A) (ha : PA X (e :: es) t)
   (hst : starEach (e :: es) X.env = (false,eval e X.env) :: starEach es X.env:=by rfl) (hpl : (backTo pos (starEach es X.env)).any (·.1) = false:=by rfl)
   (ht : eval (.Call (.Attribute o m apos) (e :: es) [] pos) X.env = (do
     let ov ← eval o X.env
     standAt apos.atName
     let (f,first) ← holding [ov] (getMethod ov m pl)
     callWith pos f first (backTo pos (starEach (e :: es) X.env)) (backToKw pos (keywordEach [] X.env))):=by rfl) :
   PE X (.Call (.Attribute o m apos) (e :: es) [] pos) (tMeth C m sp dvs E0 ta t):=by
 obtain ⟨ds,hd,D⟩:=D
 exact pe_methD (pl:=pl) he c D hd hr ha hst hpl ht
theorem pe_makeE (M : MkCl X.K C) (D : MDefE X.prog X.w X.K X.mg X.base C "__init__" k ps dvs sp) (hr : Room (k + 1) X.A) (hm : X.mg x = some (.ref C)) (ha : PA X (e :: es) t) (hg : Gl X x:=by rfl) (hdb : (x == ("__debug__" : Str)) = false:=by decide)
   (he : starEach (e :: es) X.env = (false,eval e X.env) :: starEach es X.env:=by rfl) (hpl : (backTo pos (starEach es X.env)).any (·.1) = false:=by rfl) : PE X (.Call (.Name x p) (e :: es) [] pos) (tMake C sp dvs E0 t):=by
 obtain ⟨ds,hd,D⟩:=D
 exact pe_makeD M D hd hr hm ha hg hdb he hpl
theorem pe_callE (D : DefE X.prog X.w X.K X.mg X.base x k ps dvs sp) (hr : Room k X.A) (ha : PA X (e :: es) t) (hg : Gl X x:=by rfl) (hdb : (x == ("__debug__" : Str)) = false:=by decide)
   (he : starEach (e :: es) X.env = (false,eval e X.env) :: starEach es X.env:=by rfl) (hpl : (backTo pos (starEach es X.env)).any (·.1) = false:=by rfl) : PE X (.Call (.Name x p) (e :: es) [] pos) (tCall sp dvs E0 t):=by
 obtain ⟨ds,hd,D⟩:=D
 exact pe_callDD D hd hr ha hg hdb he hpl
end
end L2
namespace L2
open PySem PySem.Spec PyProof.Rows Mth
theorem pg_tupK {X : Cx} {K : PySem.W.Frag} {es : List Expr} {k : Nat} {pos : Pos} {t : TGs} {n : Nat} (hK : X.K = K) (hc : X.calm = true) (h : PGs X es t)
   (hn : (assignEach es X.env).length = n:=by rfl) (hst : (assignEach es X.env).findIdx? (·.1) = none:=by rfl) : PG X (.Tuple es k pos) (gTup K n t):=by
 subst hK
 exact pg_tup hc h hn hst
end L2
namespace PySem
open Sem (wp)
theorem filter_hash_le : ∀ (l : List DictEntry) (c : Int),(l.map (·.hash)).Nodup→(l.filter (·.hash == c)).length ≤ 1
 | [],_,_ => Nat.zero_le _
 | e :: l,c,h => by
   rw [List.map_cons,List.nodup_cons] at h
   rw [List.filter_cons]
   split
   · rename_i q
     have q : e.hash = c:=by simpa using q
     have : l.filter (·.hash == c) = []:=by
       rw [List.filter_eq_nil_iff]
       intro x hx z
       exact h.1 (List.mem_map.mpr ⟨x,hx,by rw [q]; simpa using z⟩)
     rw [this]
     exact Nat.le_refl _
   · exact filter_hash_le l c h.2
section
variable {prog : Program} {w : World} {K : Type} [DecidableEq K] {knd : KeyKind prog w K} {A : Around} {E : Value→Shared→Prop} {s : Shared}
theorem wpAny_quietEq_tuple {ks : List K} {a : Addr} {Q : Bool→Shared→Prop} (hk : IsTupleKey knd s.heap ks a) (h : Q false s) : wpAny (model prog w) A (Builtin.Dict.quietEq (.ref a)) Q E s:=by
 have hT:=hk.typeIs
 unfold Builtin.Dict.quietEq
 exact wpAny_bind (wpAny_specialOf hT F.slot_tuple_eq.lookup (wpAny_pure h))
theorem wpAny_entriesForEmptyH {id : String} {d : Addr} {o : Obj} {es ep} {xs : List (List K × Addr × Value)} {Q : Array DictEntry→Shared→Prop} (ho : s.heap.get? d = some o) (hd : o.data = .dict es ep) (he : es.toList = xs.map (entryOfKey (tupleKind knd)))
   (hi : ∀ x ∈ xs,IsTupleKey knd s.heap x.1 x.2.1) (hh : (xs.map fun x => tupleKeyHash knd x.1).Nodup) (h : Q es s) :
   wpAny (model prog w) A (Builtin.Dict.entriesForEmpty id d) Q E s:=by
 unfold Builtin.Dict.entriesForEmpty
 refine wpAny_bind (wpAny_dictEntries ho hd ?_)
 have hn : (es.toList.map (·.hash)).Nodup:=by
   rw [he,List.map_map]
   exact hh
 refine wpAny_bind ?_
 refine wpAny_forIn_array' _ (fun rest _ s' => s' = s∧∀ e ∈ rest,e ∈ es.toList) _ ?_ ?_ _ _ ⟨rfl,fun _ h => h⟩
 · rintro e rest b s' ⟨rfl,hm⟩
   have hme:=hm e List.mem_cons_self
   rw [he] at hme
   obtain ⟨x,hx,rfl⟩:=List.mem_map.mp hme
   refine wpAny_bind (wpAny_quietEq_tuple (hi x hx) ?_)
   have hc : ¬ ((es.filter fun y => y.hash == (entryOfKey (tupleKind knd) x).hash).size > 1):=by
     have:=filter_hash_le es.toList (entryOfKey (tupleKind knd) x).hash hn
     have e2 : (es.filter fun y => y.hash == (entryOfKey (tupleKind knd) x).hash).size = (es.toList.filter fun y => y.hash == (entryOfKey (tupleKind knd) x).hash).length:=by
       obtain ⟨l⟩:=es
       simp
     omega
   simp only [Bool.not_false,if_true,if_neg hc]
   exact wpAny_pure ⟨rfl,fun e he => hm e (List.mem_cons_of_mem _ he)⟩
 · rintro b s' ⟨rfl,_⟩
   exact wpAny_pure h
theorem wpAny_mergeDictH {nm : String} {d o : Addr} {xs : List (List K × Addr × Value)} {Q : Unit→Shared→Prop} (hdo : d ≠ o) (hoS : (o == sysModules) = false)
   (hd : s.heap.DictOfH (tupleKind knd) d []) (ho : s.heap.DictOfH (tupleKind knd) o xs) (hh : (xs.map fun x => tupleKeyHash knd x.1).Nodup)
   (hQ : ∀ h',(∃ q es ep,h'.get? d = some q∧q.ExactDict∧q.data = .dict es ep∧es.toList = xs.map (entryOfKey (tupleKind knd))∧(xs.map (·.1)).Nodup)→Heap.SameBut d s.heap h'→Q () { s with heap:=h' }) (hsz : xs.length ≤ sizeLine) :
   wpAny (model prog w) A (Builtin.Dict.mergeDict nm d o) Q E s:=by
 obtain ⟨od,esd,epd,hod,hcd,hdd,hed,hisd,hnd⟩:=id hd
 obtain ⟨oo,eso,epo,hoo,hco,hdo',heo,hiso,hno⟩:=id ho
 have hse : esd = #[]:=by
   obtain ⟨l⟩:=esd
   have : l = []:=by simpa using hed
   rw [this]
 have hlen : eso.size = xs.length:=by
   obtain ⟨l⟩:=eso
   have : l.length = _:=congrArg List.length heo
   simpa using this
 unfold Builtin.Dict.mergeDict
 rw [if_neg (by simpa using hdo)]
 unfold Builtin.Dict.showsAll
 rw [if_neg (by rw [hoS]; exact Bool.false_ne_true)]
 refine wpAny_bind (wpAny_pure ?_)
 refine wpAny_bind (wpAny_dictEntries hoo hdo' ?_)
 dsimp only
 cases xs with
 | nil =>
   have h0 : eso = #[]:=by
     obtain ⟨l⟩:=eso
     have : l = []:=by simpa using heo
     rw [this]
   subst h0
   have fin : Q () s:=by
     have:=hQ s.heap ⟨od,esd,epd,hod,hcd,hdd,hed,hno⟩ (Heap.SameBut.refl _ _)
     exact this
   split
   · rename_i hf
     exact absurd hf (by simp)
   · refine wpAny_bind (wpAny_dictEpoch hoo hdo' ?_)
     refine wpAny_bind (wpAny_dictEntries hoo hdo' ?_)
     refine wpAny_bind ?_
     rw [Std.Legacy.Range.forIn_eq_forIn_range']
     exact wpAny_pure (wpAny_pure fin)
 | cons x xs =>
   have hf : (decide (eso.size ≤ 8) && eso.all fun e => (keyPart e.key).isSome) = false:=by
     obtain ⟨l⟩:=eso
     have e1 : l = _:=heo
     subst e1
     have : keyPart (entryOfKey (tupleKind knd) x).key = none:=rfl
     simp [this]
   rw [hf]
   simp only [Bool.not_false,if_true]
   refine wpAny_bind (wpAny_dictEntries hod hdd ?_)
   rw [hse]
   simp only [Array.isEmpty_empty,if_true]
   refine wpAny_bind (wpAny_entriesForEmptyH hoo hdo' heo hiso hh ?_)
   have hne : eso.isEmpty = false:=by
     rw [Array.isEmpty_eq_false_iff]
     intro z
     rw [z] at hlen
     simp at hlen
   rw [hne]
   simp only [Bool.not_false,if_true]
   refine wpAny_bind (wpAny_updateDictKeysTo hod hdd (wpAny_pure (hQ _ ⟨_,_,epd + 1,Heap.get?_update_self _ hod (Obj.isFreed_of_dict (Obj.data_mapDictKeys hdd _)),hcd.mapDictKeys _,Obj.data_mapDictKeys hdd _,heo,hno⟩ (Heap.SameBut.update ..))) (by rw [hlen]; omega))
theorem kt_call_dictH {o : Addr} {xs : List (List K × Addr × Value)} {Q : Value→Shared→Prop} (hoS : (o == sysModules) = false) (ho : s.heap.DictOfH (tupleKind knd) o xs) (hsz : xs.length ≤ sizeLine) (hh : (xs.map fun x => tupleKeyHash knd x.1).Nodup)
   (h : ∀ h',(∃ q es ep,h'.get? s.heap.objs.size = some q∧q.ExactDict∧q.data = .dict es ep∧es.toList = xs.map (entryOfKey (tupleKind knd))∧(xs.map (·.1)).Nodup)→Heap.SameBut s.heap.objs.size (s.heap.push { cls:=.type "dict",data:=.dict #[] }) h'→Q (.ref s.heap.objs.size) { s with heap:=h' }) :
   wpAny (model prog w) A (call (.type "dict") [.ref o]) Q E s:=by
 refine callType_codes (Q₁:=fun obj s₁ => obj = .ref s.heap.objs.size∧s₁ = { s with heap:=s.heap.push { cls:=.type "dict",data:=.dict #[] } }) F.kt_called_dict (F.kt_typeCall_dict_1 _) F.entry_dict_init (kt_code_dict_new _ ⟨rfl,rfl⟩) ?_
 rintro obj s₁ ⟨rfl,rfl⟩
 have hnew : (s.heap.push { cls:=.type "dict",data:=.dict #[] }).DictOfH (tupleKind knd) s.heap.objs.size []:=Heap.DictOfH.new s.heap
 have ho' : (s.heap.push { cls:=.type "dict",data:=.dict #[] }).DictOfH (tupleKind knd) o xs:=by
   obtain ⟨oo,eso,epo,hoo,hco,hdo',heo,hiso,hno⟩:=id ho
   exact ⟨oo,eso,epo,Heap.get?_push_of_some _ hoo,hco,hdo',heo,fun x hx => (let ⟨q,it,n,h1,h2⟩:=hiso x hx; ⟨q,it,n,Heap.get?_push_of_some _ h1,h2⟩),hno⟩
 have hdo : s.heap.objs.size ≠ o:=by
   obtain ⟨_,_,_,hg,_⟩:=ho
   exact fun e => absurd (Heap.lt_size hg) (by rw [e]; exact Nat.lt_irrefl _)
 refine ⟨hnew.typeIs,F.args_dict_init_2 _ _,?_⟩
 unfold Builtin.«dict.__init__»
 refine wpAny_bind ?_
 unfold Builtin.Dict.selfAndRest
 refine wpAny_bind (wpAny_notOrdered_dict hnew.typeIs ?_)
 show wpAny _ _ (pure (s.heap.objs.size,[Value.ref o])) _ _ _
 refine wpAny_pure ?_
 show wpAny _ _ (Builtin.Dict.updateFrom "dict.__init__" s.heap.objs.size (.ref o) [] .none) _ _ _
 unfold Builtin.Dict.updateFrom
 refine wpAny_bind (wpAny_typeOf ho'.typeIs ?_)
 rw [if_neg (by decide)]
 refine wpAny_bind ?_
 unfold Builtin.Dict.merge
 refine wpAny_bind ?_
 unfold Builtin.Dict.readDirectly
 refine wpAny_bind (wpAny_isInstance ho'.typeIs isSubtype_dict_dict ?_)
 simp only [Bool.not_true,Bool.false_eq_true,if_false]
 refine wpAny_bind (wpAny_specialOf ho'.typeIs F.slot_dict_iter.lookup (wpAny_pure ?_))
 simp only [beq_self_eq_true,if_true]
 refine wpAny_bind (wpAny_pure ?_)
 refine wpAny_mergeDictH (hsz:=hsz) hdo hoS hnew ho' hh fun h' hd' hs' => ?_
 show wpAny _ _ (Builtin.Dict.addKeywords s.heap.objs.size [] >>= _) _ _ _
 exact wpAny_bind (wpAny_pure (wpAny_pure ⟨rfl,h h' hd' hs'⟩))
end
end PySem
namespace L2
open PySem PySem.Spec PyProof.Rows Mth
section
variable {X : Cx} {pins : List (Addr × Obj)} {σ : St} {H : Hp} {s : Shared} {a : Addr} {kvs : List (List Key × V)} {A : Around} {E : Value→Shared→Prop}
theorem d_copyOfT {Q : Value→Shared→Prop} (I : Inv X pins σ H s) (e : Rd H a (.dT kvs)) (hh : (kvs.map fun kv => tupleKeyHash (mixKind X.prog X.w) kv.1).Nodup) (h : ∀ p s',H p = none→Inv X pins σ (upd H p (.dT kvs)) s'→Q (.ref p) s') : wpAny (model X.prog X.w) A (call (.type "dict") [.ref a]) Q E s:=by
 obtain ⟨z,hd,xs,rel,dd⟩:=dt_rd I.hok e
 have hx : xs.map (fun x => tupleKeyHash (mixKind X.prog X.w) x.1) = kvs.map fun kv => tupleKeyHash (mixKind X.prog X.w) kv.1:=by
   clear dd z hh h e
   induction rel with
   | nil => rfl
   | cons r _ ih => rw [List.map_cons,List.map_cons,ih,r.1]
 refine kt_call_dictH hd dd (by rw [← Paired.length rel]; exact z) (by rw [hx]; exact hh) fun h' dd' hs => ?_
 have hn : H s.heap.objs.size = none:=I.hok.fresh (Nat.le_refl _)
 refine h _ _ hn (I.laid (a:=s.heap.objs.size) (o:=.dT kvs) (t':=s.toks) (fun b q hq => ?_) (Nat.le_refl _) ⟨z,beq_eq_false_iff_ne.mpr (Ne.symm (Nat.ne_of_lt I.big)),xs,rel.keeps fun c ys ec => ?_,dd'⟩)
 · exact (hs.2 b (Nat.ne_of_lt (Heap.lt_size hq))).trans (Heap.get?_push_of_some _ hq)
 · rw [upd_ne (ne_of_none ec hn)]; exact ec
end
theorem call_dict_ofT {X : Cx} : CallR X (.type "dict") (fun xs H Q => ∃ p kvs,xs = [.ref p]∧H p = some (.dT kvs)∧(kvs.map fun kv => tupleKeyHash (mixKind X.prog X.w) kv.1).Nodup∧∀ l,H l = none→Q (.ref l) (upd H l (.dT kvs))):=by
 intro pins s σ H xs us Q I r h
 obtain ⟨p,kvs,rfl,hp,hh,q⟩:=h
 obtain ⟨u,rfl,rx⟩:=vals1 r
 cases rx
 exact d_copyOfT I (.inl hp) hh fun l s' hl I' => ⟨.ref l,_,I',rfl,q l hl⟩
theorem bt_dict : bootBuiltins "dict" = some (.type "dict"):=by decide +kernel
end L2
namespace L2
open PySem PySem.Spec PyProof.Rows Mth
section
variable {X : Cx}
theorem ps_comp {elt tg iter : Expr} {yi : Nat} {y : Str} {py spos : Pos} {ifs : List Expr} {scope : Scope} {pos : Pos} {wi : TI} {g : TG} {tt : TT} {te : TE} {N' : List Str} {nt : Nat} {sl : List Nat}
   (hc : X.calm = true) (hi : PI X tg iter wi) (hg : ∀ cl C s H ex,PG (cxComp X N' scope cl C s H ex) tg g) (ht : ∀ cl C s H ex,PIf (cxComp X N' scope cl C s H ex) ifs tt) (he : ∀ cl C s H ex,PE (cxComp X N' scope cl C s H ex) elt te)
   (hN' : N'.length = nt + sl.length) (hsl : ∀ k j : Nat,sl[k]? = some j→∃ x,N'[nt + k]? = some x∧X.N[j]? = some x∧scope.names.lookup x = some .free)
   (hk : scope.kind = .function) (hcell : ∀ y ∈ scope.names,y.2 ≠ .cell) (hnames : ∀ y ∈ scope.names,y.2 = .local→scope.names.lookup y.1 = some .local)
   (hfree : ∀ y ∈ scope.names,y.2 = .free→X.env.kindOf y.1 = some .cell ∨ X.env.kindOf y.1 = some .free)
   (hN : X.N.Nodup) (hyi : X.N[yi]? = some y) (hy : Loc X.env.scope y) (hf : X.fn y = true ∨ X.env.scope.names.lookup y = some .local)
   (hsw : swapsWith (.ListComp elt [⟨tg,iter,ifs,0⟩] scope pos) (some (.Name y py)) spos.line X.env = pure true)
   (hs : ∀ x,foldedSetIterable iter X.env x = pure x:=by intro _; rfl) :
   PS X (.Assign [.Name y py] (.ListComp elt [⟨tg,iter,ifs,0⟩] scope pos) spos) (tAsg (tComp wi g tt te nt sl) (gName yi)):=by
 intro pins s σ H DD I h
 have hcl : ∀ y ∈ scope.names,y.2 = .free→∃ c,X.env.cells.lookup y.1 = some c:=fun y hy hf => I.ok.has y.1 (hfree y hy hf)
 have csub:=closL_sub (env:=X.env) (names:=scope.names) (acc:=[]) hcl (fun x c e => by simp at e)
 rw [exec_Assign_Name_used _ _ _ _ hsw]
 refine wpAny_bind (wpAny_standAt (wpAny_bind ?_))
 show wpAny _ X.A (do let _ ← comprehension (.ListComp elt [⟨tg,iter,ifs,0⟩] scope pos) scope X.env _ (newList []) false (eval iter X.env) (some (assign (.Name y py) X.env))) _ _ s
 refine wpAny_bind (wpAny_mono (wpAny_comprehension_free (use:=some (assign (.Name y py) X.env)) (Q:=fun _ s' => SP X pins DD .next s') (cl:=closL X.env scope.names []) rfl hs (clos_eq hcl) hk hnames (thn (hi pins s σ H _ I h) fun v s1 h1 => thn h1 fun itv s2 h2 => ?_))
   (fun _ s' hq => wpAny_pure (wpAny_pure hq)) fun _ _ e => e)
 obtain ⟨it,fp,tn,J,H2,rfl,I2,T,st2,f2,q⟩:=h2
 have nD : H2 s2.heap.objs.size = none:=I2.hok.fresh (Nat.le_refl _)
 obtain ⟨W,⟨m0,w0⟩,turn⟩:=q s2.heap.objs.size nD
 refine wpAny_newObj_type ?_ (by show 0 ≤ sizeLine; exact Nat.zero_le _)
 have I3 : Inv X pins σ (upd H2 s2.heap.objs.size (.lst [])) { s2 with heap:=s2.heap.push { cls:=.type "list",data:=.seq ([] : List Value).toArray } } :=
   I2.laid (t':=s2.toks) (fun b u e => Heap.get?_push_of_some _ e) (Nat.le_refl _) ⟨Nat.zero_le _,[],0,.nil,Heap.get?_push_size _ rfl⟩
 generalize hs3 : ({ s2 with heap:=s2.heap.push { cls:=.type "list",data:=.seq ([] : List Value).toArray } } : Shared) = s3 at I3 ⊢
 have hle : s2.heap.objs.size ≤ s3.heap.objs.size:=by rw [← hs3]; show _ ≤ (Heap.push _ _).objs.size; rw [Heap.size_push]; exact Nat.le_succ _
 have hkeep23 : ∀ b o,s2.heap.get? b = some o→s3.heap.get? b = some o:=fun b o e => by rw [← hs3]; exact Heap.get?_push_of_some _ e
 refine wpAny_newFunctionEnv hcell (by intro y hy; simp at hy) (fun h₁ hns hsb => ?_) hk
 have keep1 : ∀ b o,s3.heap.get? b = some o→h₁.get? b = some o:=fun b o e => hsb.extBut b o (Nat.ne_of_lt (Heap.lt_size e)) (Heap.get?_push_of_some _ e)
 have nC : (upd H2 s2.heap.objs.size (.lst [])) s3.heap.objs.size = none:=I3.hok.fresh (Nat.le_refl _)
 have frC : s3.heap.get? s3.heap.objs.size = none:=Heap.get?_none_of_le (Nat.le_refl _)
 -- the iterator's objects
 have fpIn : ∀ b ∈ fp,b < s2.heap.objs.size:=fun b hb => by
   obtain ⟨o,e,_⟩:=T.obj _ _ st2 b hb
   exact Heap.lt_size e
 have fpC : ∀ b ∈ fp,b ≠ s3.heap.objs.size:=fun b hb => Nat.ne_of_lt (Nat.lt_of_lt_of_le (fpIn b hb) hle)
 have fpD : ∀ b ∈ fp,b ≠ s2.heap.objs.size:=fun b hb => Nat.ne_of_lt (fpIn b hb)
 have fpS : ∀ b ∈ fp,b ∉ frs X.stack:=fun b hb hm => by
   rcases List.mem_cons.mp (I2.stkSub b hm) with z | z
   · exact (f2 b hb).2.1 z
   · exact (f2 b hb).2.2.1 z
 have csub' : ∀ x c,(closL X.env scope.names []).lookup x = some c→X.env.cells.lookup x = some c:=csub
 have hch : ∀ b ∈ fp,(b ∈ X.ex ∨ X.s₀.heap.objs.size ≤ b)∧b ≠ X.env.locals∧(∀ x c,X.env.cells.lookup x = some c→c ≠ b)∧∀ p ∈ X.pn ++ pins,p.1 ≠ b:=fun b hb =>
   ⟨(f2 b hb).2.2.2.1,(f2 b hb).2.1,(f2 b hb).2.2.2.2.1,(f2 b hb).2.2.2.2.2⟩
 -- the block's context
 have ok' : (cxComp X N' scope (closL X.env scope.names []) s3.heap.objs.size s3 (upd H2 s2.heap.objs.size (.lst [])) fp).Ok:=by
   refine ⟨I3.ok.mod,hk,I3.ok.glob,I3.ok.blt,Nat.le_refl _,fun x y c h1 h2 => I3.ok.inj x y c (csub x c h1) (csub y c h2),fun x hx => ?_,(fun x c hf => nomatch hf),I3.ok.hd,I3.ok.frames,.inl rfl,fun b hb => ⟨fpC b hb,fun x c e => (hch b hb).2.2.1 x c (csub x c e)⟩,
     I3.bs,Nat.le_trans I3.ok.bsz I3.sz,fun b o e hb => ?_,fpS,I3.stack,I3.stkFree⟩
   · have hm : (x,NameKind.free) ∈ scope.names:=by
       rcases hx with hx | hx
       · exact relabel_of hx (.inl rfl) hcell
       · exact relabel_of hx (.inr rfl) hcell
     exact closL_has hm rfl
   · rcases (hch b hb).1 with z | z
     · exact I3.ok.noex b o e z
     · exact absurd (Nat.lt_of_lt_of_le (Heap.lt_size (I3.ok.bs b o e).1) z) (Nat.lt_irrefl _)
 have I4 : Inv (cxComp X N' scope (closL X.env scope.names []) s3.heap.objs.size s3 (upd H2 s2.heap.objs.size (.lst [])) fp) [] (List.replicate nt none ++ sl.map fun j => (σ[j]?).join) (upd H2 s2.heap.objs.size (.lst []))
     { s3 with heap:=h₁,toks:=s3.toks + ([] : List (Str × Value)).length }:=by
   refine ⟨ok',rfl,I3.bare,Un.kept keep1,⟨_,hns,fun i x v e1 e2 e3 => ?_⟩,fun x c e => ?_,nC,fun x c e => I3.freeC x c (csub x c e),fun p hp => absurd hp (by simp [cxComp]),I3.hok.kept keep1,?_⟩
   · by_cases hi : i < nt
     · rw [List.getElem?_append_left (by simpa using hi),List.getElem?_replicate] at e2
       split at e2 <;> cases e2
     · rw [List.getElem?_append_right (by simpa using hi),List.length_replicate,List.getElem?_map] at e2
       cases ej : sl[i - nt]? with
       | none => rw [ej] at e2; cases e2
       | some j =>
         rw [ej] at e2
         have e2' : (σ[j]?).join = some v:=Option.some.inj e2
         have eσ : σ[j]? = some (some v):=by
           cases q : σ[j]? with
           | none => rw [q] at e2'; cases e2'
           | some o => rw [q] at e2'; cases e2'; rfl
         obtain ⟨y,n1,n2,n3⟩:=hsl _ j ej
         have : nt + (i - nt) = i:=by omega
         rw [this] at n1
         have exy : y = x:=Option.some.inj (n1.symm.trans e1)
         subst exy
         have hm : (y,NameKind.free) ∈ scope.names:=PySem.mem_of_lookup n3
         have hkx:=hfree _ hm rfl
         obtain ⟨m,hn,hl⟩:=I3.loc
         have vis : Vis X.env.scope y:=by
           rcases hkx with z | z
           · exact .inr (.inl z)
           · exact .inr (.inr z)
         obtain ⟨u,r,l⟩:=hl j y v n2 eσ vis
         refine ⟨u,r,.inr ⟨lookup_relabel_free n3,?_⟩⟩
         obtain ⟨c,ec⟩:=closL_has (env:=X.env) (acc:=[]) hm rfl
         refine ⟨c,ec,?_⟩
         rcases l with ⟨k1,_⟩ | ⟨_,c',e',hcell'⟩
         · rcases hkx with z | z
           · rw [show X.env.kindOf y = some .local from k1] at z; cases z
           · rw [show X.env.kindOf y = some .local from k1] at z; cases z
         · have ecc : c = c':=Option.some.inj ((csub y c ec).symm.trans e')
           subst ecc
           obtain ⟨o,ho,hd⟩:=hcell'
           exact ⟨o,keep1 c o ho,hd⟩
   · obtain ⟨v,o,ho,hd⟩:=I3.cell x c (csub x c e)
     exact ⟨v,o,keep1 c o ho,hd⟩
   · show _ = N'.length
     rw [hN',List.length_append,List.length_replicate,List.length_map]
 have st4 : tn 0 h₁:=T.keep _ _ _ st2 fun b hb o e => keep1 b o (hkeep23 b o e)
 have fpok : ∀ {pl : List (Addr × Obj)} {H' : Hp},pl = []→(∀ b ∈ fp,H' b = none)→∀ b ∈ fp,FpOk (cxComp X N' scope (closL X.env scope.names []) s3.heap.objs.size s3 (upd H2 s2.heap.objs.size (.lst [])) fp) pl H' b:=fun {pl H'} hpl hn b hb => by
   subst hpl
   exact ⟨hn b hb,fpC b hb,fpS b hb,.inl hb,fun x c e => (hch b hb).2.2.1 x c (csub x c e),fun p hp => absurd hp (by simp [cxComp])⟩
 have fr4 : ∀ b ∈ fp,(upd H2 s2.heap.objs.size (.lst [])) b = none:=fun b hb => by rw [upd_ne (fpD b hb)]; exact (f2 b hb).1
 have loop : codeAny (model X.prog X.w) X.A (.compLoop (.ListComp elt [⟨tg,iter,ifs,0⟩] scope pos) 0 (.ref it) (.ref s2.heap.objs.size) (compEnvC scope (closL X.env scope.names []) s3.heap.objs.size X.env))
     (compPost (model X.prog X.w) X.A X.xe (some (assign (.Name y py) X.env)) (fun _ s' => SP X pins DD .next s') (.ref s2.heap.objs.size) s3.heap.objs.size) { s3 with heap:=h₁,toks:=s3.toks + ([] : List (Str × Value)).length }:=by
   refine compLoop_go (fun n s' => ∃ i acc σ' H',Inv (cxComp X N' scope (closL X.env scope.names []) s3.heap.objs.size s3 (upd H2 s2.heap.objs.size (.lst [])) fp) [] σ' H' s'∧tn i s'.heap∧(∀ b ∈ fp,H' b = none)∧W i n acc σ' H') ?_ m0 ⟨0,[],_,_,I4,st4,fr4,w0⟩
   rintro n s5 ⟨i,acc,σ5,H5,I5,st5,fr5,w5⟩
   rcases turn i n acc σ5 H5 w5 with ⟨stop,qn⟩ | ⟨go,N,hN,step⟩
   · refine thn (T.done (cxComp X N' scope (closL X.env scope.names []) s3.heap.objs.size s3 (upd H2 s2.heap.objs.size (.lst [])) fp) rfl rfl rfl hc i [] s5 σ5 H5 _ I5 (fpok rfl fr5) st5 stop) fun r s6 ⟨hr,I6⟩ => ?_
     subst hr
     obtain ⟨m,hn,_⟩:=id I6.loc
     have J6 : Inv X pins σ H5 s6:=I3.call' (s':=s6) I6.os I6.base I6.hok I6.bare hch
     have fC : FpOk X pins H5 s3.heap.objs.size:=I3.fpOk (Nat.le_refl _) I6.free
     refine wpAny_assign_Name (store_ok2 (v:=.ref s2.heap.objs.size) J6 hN hyi hy rfl (fun s7 I7 ⟨a,sb7,ha⟩ => ?_) hf)
     have na : s3.heap.objs.size ≠ a:=fun z => by
       rcases ha with q | q
       · exact fC.2.1 (z.trans q)
       · exact fC.2.2.2.2.1 _ a q z.symm
     refine ⟨m,?_,fun h' sb => ?_⟩
     · obtain ⟨o,es,ep,ho,r⟩:=hn
       exact ⟨o,es,ep,(sb7.2 _ na).trans ho,r⟩
     · exact ⟨_,H5,I7.turned0 (ch:=[s3.heap.objs.size]) (t':=s7.toks) (fun b u hb q => (sb.2 b (fun z => hb (List.mem_singleton.mpr z))).trans q) (fun b hb => by rw [List.mem_singleton.mp hb]; exact fC),qn⟩
   · refine thn (T.item (cxComp X N' scope (closL X.env scope.names []) s3.heap.objs.size s3 (upd H2 s2.heap.objs.size (.lst [])) fp) rfl rfl rfl hc i [] s5 σ5 H5 _ I5 (fpok rfl fr5) st5 go) fun r s6 ⟨u,hr,h6⟩ => ?_
     subst hr
     refine thn h6 fun _ s7 ⟨x,H7,I7,r7,y7,st7,fr7⟩ => ?_
     have I7':=I7.pinned (fpok rfl fr7) (T.obj _ _ st7)
     have again : ∀ {s8 : Shared} {σ8 : St} {H8 : Hp} {acc' : List V},Inv (cxComp X N' scope (closL X.env scope.names []) s3.heap.objs.size s3 (upd H2 s2.heap.objs.size (.lst [])) fp) ([] ++ pinsAt fp s7.heap) σ8 H8 s8→(∃ m',m' < n∧W (i + 1) m' acc' σ8 H8) →
         ∃ m,m < n∧∃ i acc σ' H',Inv (cxComp X N' scope (closL X.env scope.names []) s3.heap.objs.size s3 (upd H2 s2.heap.objs.size (.lst [])) fp) [] σ' H' s8∧tn i s8.heap∧(∀ b ∈ fp,H' b = none)∧W i m acc σ' H':=fun {s8 σ8 H8 acc'} I8 ⟨m',hm,w8⟩ => by
       refine ⟨m',hm,i + 1,acc',σ8,H8,I8.unpinned,T.keep _ _ _ st7 fun b hb o e => (I8.pin (b,o) (List.mem_append_right _ (List.mem_append_right _ (mem_pinsAt hb e)))).1,fun b hb => ?_,w8⟩
       obtain ⟨o,e,d⟩:=T.obj _ _ st7 b hb
       exact (I8.pin (b,o) (List.mem_append_right _ (List.mem_append_right _ (mem_pinsAt hb e)))).2.1
     refine wpAny_mono (hg _ _ _ _ _ _ s7 σ5 H7 x u _ I7' r7 (step x H7 y7)) (fun _ s8 ⟨σ8,H8,I8,q8⟩ => ?_) fun _ _ z => False.elim z
     refine wpAny_mono (ht _ _ _ _ _ _ s8 σ8 H8 _ I8 q8) (fun ok s9 ⟨H9,I9,q9⟩ => ?_) fun _ _ z => False.elim z
     cases ok with
     | false =>
       rw [if_neg Bool.false_ne_true] at q9 ⊢
       exact again I9 (hN _ _ _ q9)
     | true =>
       rw [if_pos rfl] at q9 ⊢
       refine wpAny_mono (he _ _ _ _ _ _ s9 σ8 H9 _ I9 q9) (fun y s10 ⟨yv,H10,I10,r10,hD,hz,q10⟩ => ?_) fun _ _ z => False.elim z
       refine wpAny_mono (mt_append (X:=(cxComp X N' scope (closL X.env scope.names []) s3.heap.objs.size s3 (upd H2 s2.heap.objs.size (.lst [])) fp)) _ s10 σ8 H10 (.ref s2.heap.objs.size) [yv] (.ref s2.heap.objs.size) [y] (fun _ H11 => N (acc ++ [yv]) σ8 H11) I10 rfl (.cons r10 .nil) ⟨_,acc,yv,rfl,rfl,hD,hz,q10⟩) (fun _ s11 ⟨v11,H11,I11,r11,q11⟩ => ?_) fun _ _ z => False.elim z
       exact again I11 (hN _ _ _ q11)
 exact codeAny_compStart_list loop (T.self _ 0 _ _ _ st4 loop)
theorem ps_lc {elt tg iter : Expr} {yi : Nat} {y : Str} {py spos : Pos} {ifs : List Expr} {scope : Scope} {pos : Pos} {wi : TI} {g : TG} {tt : TT} {te : TE} (tn fr : List Str) (sl : List Nat)
   (hp : Paired (fun (j : Nat) (x : Str) => X.N[j]? = some x∧scope.names.lookup x = some .free∧(X.env.kindOf x = some .cell ∨ X.env.kindOf x = some .free)) sl fr)
   (hc : X.calm = true) (hi : PI X tg iter wi) (hg : ∀ cl C s H ex,PG (cxComp X (tn ++ fr) scope cl C s H ex) tg g) (ht : ∀ cl C s H ex,PIf (cxComp X (tn ++ fr) scope cl C s H ex) ifs tt) (he : ∀ cl C s H ex,PE (cxComp X (tn ++ fr) scope cl C s H ex) elt te)
   (hk : scope.kind = .function) (hcell : ∀ y ∈ scope.names,y.2 ≠ .cell) (hnames : ∀ y ∈ scope.names,y.2 = .local→scope.names.lookup y.1 = some .local)
   (hfree : ∀ y ∈ scope.names,y.2 = .free→y.1 ∈ fr)
   (hN : X.N.Nodup) (hyi : X.N[yi]? = some y) (hy : Loc X.env.scope y) (hsw : swapsWith (.ListComp elt [⟨tg,iter,ifs,0⟩] scope pos) (some (.Name y py)) spos.line X.env = pure true)
   (hf : X.fn y = true ∨ X.env.scope.names.lookup y = some .local:=by first | exact .inl rfl | exact .inr rfl | assumption)
   (hs : ∀ x,foldedSetIterable iter X.env x = pure x:=by intro _; rfl) :
   PS X (.Assign [.Name y py] (.ListComp elt [⟨tg,iter,ifs,0⟩] scope pos) spos) (tAsg (tComp wi g tt te tn.length sl) (gName yi)):=by
 have key : ∀ {sl : List Nat} {fr : List Str},Paired (fun (j : Nat) (x : Str) => X.N[j]? = some x∧scope.names.lookup x = some .free∧(X.env.kindOf x = some .cell ∨ X.env.kindOf x = some .free)) sl fr →
     (∀ k j : Nat,sl[k]? = some j→∃ x,fr[k]? = some x∧X.N[j]? = some x∧scope.names.lookup x = some .free)∧∀ x ∈ fr,X.env.kindOf x = some .cell ∨ X.env.kindOf x = some .free:=by
   intro sl fr hp
   induction hp with
   | nil => exact ⟨fun k j h => by simp at h,fun x hx => by simp at hx⟩
   | cons r t ih =>
     refine ⟨fun k j h => ?_,fun x hx => ?_⟩
     · cases k with
       | zero =>
         have e : _ = j:=Option.some.inj h
         subst e
         exact ⟨_,rfl,r.1,r.2.1⟩
       | succ k => exact ih.1 k j (by simpa using h)
     · rcases List.mem_cons.mp hx with z | z
       · rw [z]; exact r.2.2
       · exact ih.2 x z
 refine ps_comp (N':=tn ++ fr) hc hi hg ht he (by rw [List.length_append,hp.length]) (fun k j h => ?_) hk hcell hnames (fun y hy hf => (key hp).2 _ (hfree y hy hf)) hN hyi hy hf hsw hs
 obtain ⟨x,e1,e2⟩:=(key hp).1 k j h
 exact ⟨x,by rw [List.getElem?_append_right (Nat.le_add_right _ _),Nat.add_sub_cancel_left]; exact e1,e2⟩
end
end L2
namespace L2
open PySem PySem.Spec PyProof.Rows Mth
abbrev Fra:=Int × Int
structure HoldM where
 most : Int
 cap : Int
 load : Int
 rows : List (List Fra)
 flows : Int→Int→Option Fra
 skies : List (Fra × Fra × Fra)
 stoves : List (Option (Fra × Int × Int × Int))
abbrev skyD (s : Fra × Fra × Fra) : PyData:=.tuple [frD s.1,frD s.2.1,frD s.2.2]
abbrev stoveD : Option (Fra × Int × Int × Int)→PyData
 | none => .none
 | some s => .tuple [frD s.1,.int s.2.1,.int s.2.2.1,.int s.2.2.2]
abbrev rowD (r : List Fra) : PyData:=.tuple (r.map frD)
def hfs (m : HoldM) (pm pf ps pt : Addr) : List (Str × V) :=
 [("most",.int m.most),("cap",.int m.cap),("load",.int m.load),("mark_rows",.ref pm),("flows",.ref pf),("skies",.ref ps),("stoves",.ref pt)]
section
variable (m : HoldM) (pm pf ps pt : Addr)
theorem hfs_most : (hfs m pm pf ps pt).lookup ("most" : Str) = some (.int m.most):=by rfl
theorem hfs_cap : (hfs m pm pf ps pt).lookup ("cap" : Str) = some (.int m.cap):=by rfl
theorem hfs_load : (hfs m pm pf ps pt).lookup ("load" : Str) = some (.int m.load):=by rfl
theorem hfs_rows : (hfs m pm pf ps pt).lookup ("mark_rows" : Str) = some (.ref pm):=by rfl
theorem hfs_flows : (hfs m pm pf ps pt).lookup ("flows" : Str) = some (.ref pf):=by rfl
theorem hfs_skies : (hfs m pm pf ps pt).lookup ("skies" : Str) = some (.ref ps):=by rfl
theorem hfs_stoves : (hfs m pm pf ps pt).lookup ("stoves" : Str) = some (.ref pt):=by rfl
end
def FlowIs (K : PySem.W.Frag) (H : Hp) : Option Fra→Option V→Prop
 | none,none => True
 | some f,some v => Dn K H (frD f) v
 | _,_ => False
abbrev fkey (i j : Int) : List Key:=[.inl i,.inl j]
def FKeys (kvs : List (List Key × V)) : Prop:=(kvs.map (·.1)).Nodup∧∀ p ∈ kvs,∃ i j : Nat,i < 4∧j < 4∧p.1 = fkey i j
end L2
namespace Mth
def nf (t b : Int) : Int × Int:=(t.fdiv (Int.gcd t b : Nat),b.fdiv (Int.gcd t b : Nat))
theorem dvd_cop {r q s : Int} (h : r ∣ q * s) (c : Int.gcd q r = 1) : r ∣ s:=by
 have h1 : r.natAbs ∣ q.natAbs * s.natAbs:=by rw [← Int.natAbs_mul]; exact Int.natAbs_dvd_natAbs.mpr h
 have h2 : Nat.Coprime r.natAbs q.natAbs:=by rw [Nat.coprime_comm]; exact c
 exact Int.natAbs_dvd_natAbs.mp (Nat.Coprime.dvd_of_dvd_mul_left h2 h1)
theorem Fr.uniq {t b q r q' r' : Int} (hb : b ≠ 0) (h : Fr t b q r) (k : Fr t b q' r') : q = q'∧r = r':=by
 have e : q * r' = q' * r:=by
   have e1 : (q * r') * b = (q' * r) * b:=by
     have a1:=h.cross
     have a2:=k.cross
     calc (q * r') * b = (q * b) * r':=by rw [Int.mul_right_comm]
       _ = (t * r) * r':=by rw [a1]
       _ = (t * r') * r:=by rw [Int.mul_right_comm]
       _ = (q' * b) * r:=by rw [a2]
       _ = (q' * r) * b:=by rw [Int.mul_right_comm]
   exact Int.eq_of_mul_eq_mul_right hb e1
 have d1 : r ∣ r':=by
   have : r ∣ q * r':=⟨q',by rw [e,Int.mul_comm]⟩
   exact dvd_cop this h.cop
 have d2 : r' ∣ r:=by
   have : r' ∣ q' * r:=⟨q,by rw [← e,Int.mul_comm]⟩
   exact dvd_cop this k.cop
 have er : r = r':=Int.dvd_antisymm (Int.le_of_lt h.pos) (Int.le_of_lt k.pos) d1 d2
 subst er
 exact ⟨Int.eq_of_mul_eq_mul_right (Int.ne_of_gt h.pos) e,rfl⟩
theorem nf_fr {t b : Int} (hb : 0 < b) : Fr t b (nf t b).1 (nf t b).2:=(fr_of (Int.ne_of_gt hb) rfl).2.2.1 hb
theorem Fr.nf {t b q r : Int} (hb : 0 < b) (h : Fr t b q r) : (q,r) = nf t b:=by
 obtain ⟨e1,e2⟩:=h.uniq (Int.ne_of_gt hb) (nf_fr hb)
 rw [e1,e2]
def plusM (x y : Int × Int) : Int × Int:=nf (x.1 * y.2 + y.1 * x.2) (x.2 * y.2)
def minusM (x y : Int × Int) : Int × Int:=nf (x.1 * y.2 - y.1 * x.2) (x.2 * y.2)
def underM (x y : Int × Int) : Bool:=decide (x.1 * y.2 < y.1 * x.2)
structure OkF (n : Nat) (f : Int × Int) : Prop where
 t : Bd n f.1
 b : Bd n f.2
 p : 0 < f.2
theorem OkF.mono {m n : Nat} {f : Int × Int} (h : OkF m f) (l : m ≤ n) : OkF n f:=⟨h.t.mono l,h.b.mono l,h.p⟩
theorem OkF.minus {m n : Nat} {x y : Int × Int} (h : OkF m x) (k : OkF n y) : OkF (m + n + 1) (minusM x y):=by
 have F:=nf_fr (t:=x.1 * y.2 - y.1 * x.2) (b:=x.2 * y.2) (Int.mul_pos h.p k.p)
 have b1 : Bd (m + n) (x.1 * y.2):=h.t.mul k.b
 have b2 : Bd (m + n) (y.1 * x.2):=by rw [Nat.add_comm]; exact k.t.mul h.b
 exact ⟨F.bdq (b1.sub b2),F.bdr ((h.b.mul k.b).mono (Nat.le_succ _)),F.pos⟩
theorem OkF.plus {m n : Nat} {x y : Int × Int} (h : OkF m x) (k : OkF n y) : OkF (m + n + 1) (plusM x y):=by
 have F:=nf_fr (t:=x.1 * y.2 + y.1 * x.2) (b:=x.2 * y.2) (Int.mul_pos h.p k.p)
 have b1 : Bd (m + n) (x.1 * y.2):=h.t.mul k.b
 have b2 : Bd (m + n) (y.1 * x.2):=by rw [Nat.add_comm]; exact k.t.mul h.b
 exact ⟨F.bdq (b1.add b2),F.bdr ((h.b.mul k.b).mono (Nat.le_succ _)),F.pos⟩
theorem ok01 : OkF 100 (0,1):=⟨(by decide : (_ : Int).natAbs < _),(by decide : (_ : Int).natAbs < _),by decide⟩
theorem ok11 : OkF 100 (1,1):=⟨(by decide : (_ : Int).natAbs < _),(by decide : (_ : Int).natAbs < _),by decide⟩
end Mth
namespace L2
open PySem PySem.Spec PyProof.Rows Mth
structure HoldM.Wf (m : HoldM) : Prop where
 rows : ∀ r ∈ m.rows,∀ f ∈ r,OkF 100 f
 len : ∀ r ∈ m.rows,2 ≤ r.length∧r.length ≤ 7
 flows : ∀ i j f,m.flows i j = some f→OkF 100 f
 skies : ∀ s ∈ m.skies,OkF 100 s.1∧OkF 100 s.2.1∧OkF 100 s.2.2
 stoves : ∀ x,some x ∈ m.stoves→OkF 100 x.1
structure HoldAt (K : PySem.W.Frag) (C : Addr) (H : Hp) (a : Addr) (fp : List Addr) (m : HoldM) : Prop where
 ex : ∃ dx pm pf ps pt vm vs vt kvs,fp = [a,dx,pm,pf,ps,pt]∧H a = some (.ins C dx (hfs m pm pf ps pt))∧H dx = some (.own a)∧H pm = some (.lst vm)∧H pf = some (.dT kvs)∧H ps = some (.lst vs)∧H pt = some (.lst vt) ∧
   pm ≠ ps∧pm ≠ pt∧ps ≠ pt∧DnA K H (m.rows.map rowD) vm∧DnA K H (m.skies.map skyD) vs∧DnA K H (m.stoves.map stoveD) vt∧(∀ i j,FlowIs K H (m.flows i j) (valV kvs (fkey i j)))∧FKeys kvs
 sk : m.skies.length = m.rows.length
 st : m.stoves.length = m.rows.length
 mx : m.rows.length ≤ 4
 wf : m.Wf
def But (fp : List Addr) (H H' : Hp) : Prop:=∀ b o,H b = some o→b ∉ fp→H' b = some o
def HoldM.flow (m : HoldM) (i j : Nat) : Fra:=(m.flows i j).getD (0,1)
def HoldM.skyS (m : HoldM) (i : Nat) : Fra:=((m.skies[i]?).map (·.1)).getD (0,1)
def HoldM.ownTo (m : HoldM) (i n : Nat) : Fra:=(List.range n).foldl (fun acc j => minusM acc (m.flow i j)) (minusM (1,1) (m.skyS i))
def HoldM.own (m : HoldM) (i : Nat) : Fra:=m.ownTo i m.rows.length
def HoldM.share (m : HoldM) (i j : Nat) : Fra:=if i = j then m.own i else m.flow i j
theorem HoldM.Wf.flow {m : HoldM} (w : m.Wf) (i j : Nat) : OkF 100 (m.flow i j):=by
 unfold HoldM.flow
 cases e : m.flows i j with
 | none => exact ok01
 | some f => exact w.flows i j f e
theorem HoldM.Wf.skyS {m : HoldM} (w : m.Wf) (i : Nat) : OkF 100 (m.skyS i):=by
 unfold HoldM.skyS
 cases e : m.skies[i]? with
 | none => exact ok01
 | some f => exact (w.skies f (List.mem_of_getElem? e)).1
theorem HoldM.ownTo_succ (m : HoldM) (i n : Nat) : m.ownTo i (n + 1) = minusM (m.ownTo i n) (m.flow i n):=by
 unfold HoldM.ownTo
 rw [List.range_succ,List.foldl_append]; rfl
theorem HoldM.Wf.ownTo {m : HoldM} (w : m.Wf) (i : Nat) : ∀ n,OkF (201 + 101 * n) (m.ownTo i n)
 | 0 => (ok11.minus (w.skyS i)).mono (by decide)
 | n + 1 => by
   rw [HoldM.ownTo_succ]
   exact ((w.ownTo i n).minus (w.flow i n)).mono (by omega)
section
variable {K : PySem.W.Frag} {H : Hp} {v : V}
theorem Dn.sky {s : Fra × Fra × Fra} (h : Dn K H (skyD s) v) : ∃ p v1 v2 v3,v = .ref p∧SqT K H p [v1,v2,v3]∧Dn K H (frD s.1) v1∧Dn K H (frD s.2.1) v2∧Dn K H (frD s.2.2) v3:=by
 obtain ⟨p,xs,e,q,x1,r1,e1,d1,x2,r2,e2,d2,x3,r3,e3,d3,e4⟩:=h
 have e4 : r3 = []:=e4
 subst e1 e2 e3 e4
 exact ⟨p,x1,x2,x3,e,q,d1,d2,d3⟩
theorem dn_sky {s : Fra × Fra × Fra} {p : Addr} {v1 v2 v3 : V} (q : SqT K H p [v1,v2,v3]) (d1 : Dn K H (frD s.1) v1) (d2 : Dn K H (frD s.2.1) v2) (d3 : Dn K H (frD s.2.2) v3) : Dn K H (skyD s) (.ref p) :=
 dn_tup q (dn_cons d1 (dn_cons d2 (dn_cons d3 dn_nil)))
theorem flat_sky (s : Fra × Fra × Fra) : flatD (skyD s) = true:=by simp [skyD,frD,flatD]
theorem flat_stove (s : Option (Fra × Int × Int × Int)) : flatD (stoveD s) = true:=by cases s <;> simp [stoveD,frD,flatD]
theorem flat_row (r : List Fra) : flatD (rowD r) = true:=flatD_tuple.mpr fun d hd => by
 obtain ⟨f,_,rfl⟩:=List.mem_map.mp hd
 exact flat_fr f
theorem KTup.fr {a : Addr} {f : Fra} (h : KTup K a [.int f.1,.int f.2]) : Dn K H (frD f) (.ref a):=dn_fr (h.at H)
end
theorem get_nat {α : Type} {l : List α} {i : Nat} (h : i < l.length) : l[i]? = some l[i]:=List.getElem?_eq_getElem h
theorem atI_natI {α : Type} {xs : List α} {i : Nat} {v : α} (h : xs[i]? = some v) : atI xs (i : Int) = some v:=atI_nat h
theorem flow_at {K : PySem.W.Frag} {H : Hp} {o : Option Fra} {r : Option V} {z : V} (h : FlowIs K H o r) (hz : Dn K H (frD (0,1)) z) : Dn K H (frD (o.getD (0,1))) (r.getD z):=by
 cases o with
 | none => cases r with
   | none => exact hz
   | some v => exact (show False from h).elim
 | some f => cases r with
   | none => exact (show False from h).elim
   | some v => exact h
def sp_upto : Sp:=fun vs H Q _ => ∃ n g : Int,vs = [.int n,.int g]∧Q (.bl (decide (0 ≤ n∧n ≤ g))) H
section
variable (K : PySem.W.Frag) (C : Addr)
def sp_many : Sp:=fun vs H Q _ => ∃ a fp m,vs = [.ref a]∧HoldAt K C H a fp m∧Q (natV m.rows.length) H
def sp_look_for : Sp:=fun vs H Q _ => ∃ a fp m,∃ i : Nat,vs = [.ref a,natV i]∧HoldAt K C H a fp m∧i < m.rows.length∧Q .non H
def sp_stove : Sp:=fun vs H Q _ => ∃ a fp m,∃ i : Nat,∃ s,vs = [.ref a,natV i]∧HoldAt K C H a fp m∧m.stoves[i]? = some s∧∀ v,Dn K H (stoveD s) v→Q v H
def sp_marks : Sp:=fun vs H Q _ => ∃ a fp m,∃ i : Nat,∃ r,vs = [.ref a,natV i]∧HoldAt K C H a fp m∧m.rows[i]? = some r∧∀ p xs,H p = none→DnA K H (r.map frD) xs→Q (.ref p) (upd H p (.lst xs))
def sp_own : Sp:=fun vs H Q _ => ∃ a fp m,∃ i : Nat,vs = [.ref a,natV i]∧HoldAt K C H a fp m∧i < m.rows.length∧∀ v H',Same H H'→Dn K H' (frD (m.own i)) v→Q v H'
def sp_share : Sp:=fun vs H Q _ => ∃ a fp m,∃ i j : Nat,vs = [.ref a,natV i,natV j]∧HoldAt K C H a fp m∧i < m.rows.length∧j < m.rows.length∧∀ v H',Same H H'→Dn K H' (frD (m.share i j)) v→Q v H'
end
theorem HoldAt.same {K : PySem.W.Frag} {C : Addr} {H H' : Hp} {a : Addr} {fp : List Addr} {m : HoldM} (s : Same H H') (h : HoldAt K C H a fp m) : HoldAt K C H' a fp m:=by
 obtain ⟨⟨dx,pm,pf,ps,pt,vm,vs,vt,kvs,e,ha,hdx,hpm,hpf,hps,hpt,n1,n2,n3,dm,ds,dt,df,fk⟩,q1,q2,q3,q4⟩:=h
 refine ⟨⟨dx,pm,pf,ps,pt,vm,vs,vt,kvs,e,s _ _ ha,s _ _ hdx,s _ _ hpm,s _ _ hpf,s _ _ hps,s _ _ hpt,n1,n2,n3,DnA.same s _ dm,DnA.same s _ ds,DnA.same s _ dt,fun i j => ?_,fk⟩,q1,q2,q3,q4⟩
 have:=df i j
 revert this
 cases m.flows i j <;> cases valV kvs (fkey i j) <;> intro q
 · exact q
 · exact q
 · exact q
 · exact Dn.same s _ q
end L2
namespace L2
open PySem PySem.Spec PyProof.Rows Mth
theorem ixN_nat {n i : Nat} (h : i < n) : ixN n (i : Int) = some i:=by
 unfold ixN
 rw [if_pos (by omega),if_pos (by omega),Int.toNat_natCast]
theorem sz4 {x y z t : V} : [x,y,z,t].length ≤ sizeLine:=by show 4 ≤ sizeLine; decide
theorem sz1 {x : V} : [x].length ≤ sizeLine:=by show 1 ≤ sizeLine; decide
theorem nodup_len {α : Type} [DecidableEq α] : ∀ (l L : List α),l.Nodup→(∀ x ∈ l,x ∈ L)→l.length ≤ L.length
 | [],_,_,_ => Nat.zero_le _
 | x :: l,L,hn,hs => by
   obtain ⟨h1,h2⟩:=List.nodup_cons.mp hn
   have hx:=hs x List.mem_cons_self
   have:=nodup_len l (L.erase x) h2 fun y hy => (List.mem_erase_of_ne (fun e => h1 (by rw [← e]; exact hy))).mpr (hs y (List.mem_cons_of_mem _ hy))
   rw [List.length_erase_of_mem hx] at this
   have hp:=List.length_pos_of_mem hx
   rw [List.length_cons]
   omega
def allKeys : List (List Key):=(List.range 4).flatMap fun (i : Nat) => (List.range 4).map fun (j : Nat) => fkey (i : Int) (j : Int)
theorem FKeys.len {kvs : List (List Key × V)} (h : FKeys kvs) : kvs.length ≤ 16:=by
 have:=nodup_len (kvs.map (·.1)) allKeys h.1 fun x hx => by
   obtain ⟨p,hp,rfl⟩:=List.mem_map.mp hx
   obtain ⟨i,j,hi,hj,e⟩:=h.2 p hp
   rw [e]
   exact List.mem_flatMap.mpr ⟨i,List.mem_range.mpr hi,List.mem_map.mpr ⟨j,List.mem_range.mpr hj,rfl⟩⟩
 rw [List.length_map] at this
 exact Nat.le_trans this (by decide)
theorem FKeys.put {kvs : List (List Key × V)} (h : FKeys kvs) {i j : Nat} (hi : i < 4) (hj : j < 4) (v : V) : FKeys (putK kvs (fkey i j) v):=by
 refine ⟨?_,fun p hp => ?_⟩
 · cases e : valV kvs (fkey i j) with
   | none => exact nd_putK v h.1 e
   | some y =>
     have hc : (kvs.any fun kv => decide (kv.1 = fkey i j)) = true:=by
       unfold valV at e
       cases q : kvs.find? fun kv => decide (kv.1 = fkey i j) with
       | none => rw [q] at e; cases e
       | some z => have q2:=List.find?_some q; exact List.any_eq_true.mpr ⟨z,List.mem_of_find?_eq_some q,q2⟩
     unfold putK
     rw [if_pos hc,List.map_map]
     have : ((fun x : List Key × V => x.1) ∘ fun kv : List Key × V => if kv.1 = fkey i j then (kv.1,v) else kv) = fun x => x.1:=by
       funext x
       show (if x.1 = fkey i j then (x.1,v) else x).1 = x.1
       split <;> rfl
     rw [this]
     exact h.1
 · unfold putK at hp
   split at hp
   · obtain ⟨z,hz,rfl⟩:=List.mem_map.mp hp
     obtain ⟨a,b,ha,hb,e⟩:=h.2 z hz
     refine ⟨a,b,ha,hb,?_⟩
     split <;> exact e
   · rcases List.mem_append.mp hp with hp | hp
     · exact h.2 p hp
     · have : p = (fkey i j,v):=by simpa using hp
       subst this
       exact ⟨i,j,hi,hj,rfl⟩
theorem fkey_inj {i j i' j' : Int} (h : fkey i j = fkey i' j') : i = i'∧j = j':=by
 simp only [fkey,List.cons.injEq,Sum.inl.injEq,and_true] at h
 exact h
def HoldM.setFlow (m : HoldM) (i j : Nat) (f : Fra) : HoldM:={ m with flows:=fun a b => if a = (i : Int)∧b = (j : Int) then some f else m.flows a b }
def HoldM.setSky (m : HoldM) (i : Nat) (s : Fra × Fra × Fra) : HoldM:={ m with skies:=m.skies.set i s }
def HoldM.setStove (m : HoldM) (i : Nat) (s : Fra × Int × Int × Int) : HoldM:={ m with stoves:=m.stoves.set i (some s) }
def HoldM.addRoom (m : HoldM) (r : List Fra) : HoldM:={ m with rows:=m.rows ++ [r],skies:=m.skies ++ [((0,1),(0,1),(0,1))],stoves:=m.stoves ++ [none] }
def HoldM.new (most cap load : Int) : HoldM:=⟨most,cap,load,[],fun _ _ => none,[],[]⟩
structure Deed (K : PySem.W.Frag) (C : Addr) (H : Hp) (a : Addr) (fp : List Addr) (m' : HoldM) (H' : Hp) (fp' : List Addr) : Prop where
 at_ : HoldAt K C H' a fp' m'
 but : But fp H H'
 ts : TStay K H H'
 own : ∀ b ∈ fp',b ∈ fp ∨ H b = none
theorem FlowIs.ts {K : PySem.W.Frag} {H H' : Hp} (s : TStay K H H') : ∀ {o : Option Fra} {v : Option V},FlowIs K H o v→FlowIs K H' o v
 | none,none,_ => trivial
 | some f,some v,h => Dn.ts s _ (flat_fr f) h
 | none,some _,h => h
 | some _,none,h => h
theorem rows_ts {K : PySem.W.Frag} {H H' : Hp} {rs : List (List Fra)} {xs : List V} (s : TStay K H H') (h : DnA K H (rs.map rowD) xs) : DnA K H' (rs.map rowD) xs:=DnA.ts s _ (fun d hd => by obtain ⟨r,_,rfl⟩:=List.mem_map.mp hd; exact flat_row r) h
theorem skies_ts {K : PySem.W.Frag} {H H' : Hp} {rs : List (Fra × Fra × Fra)} {xs : List V} (s : TStay K H H') (h : DnA K H (rs.map skyD) xs) : DnA K H' (rs.map skyD) xs:=DnA.ts s _ (fun d hd => by obtain ⟨r,_,rfl⟩:=List.mem_map.mp hd; exact flat_sky r) h
theorem stoves_ts {K : PySem.W.Frag} {H H' : Hp} {rs : List (Option (Fra × Int × Int × Int))} {xs : List V} (s : TStay K H H') (h : DnA K H (rs.map stoveD) xs) : DnA K H' (rs.map stoveD) xs:=DnA.ts s _ (fun d hd => by obtain ⟨r,_,rfl⟩:=List.mem_map.mp hd; exact flat_stove r) h
def risingM (r : List Fra) : Bool:=(List.zipWith underM r r.tail).all id
def bandsM (rs : List (List Fra)) : Int:=rs.foldl (fun p r => p * ((r.length : Int) - 1)) 1
section
variable (K : PySem.W.Frag) (C : Addr)
def sp_fits : Sp:=fun vs H Q _ => ∃ a fp m,∃ i : Nat,∃ v1 v2 f g,vs = [.ref a,natV i,v1,v2]∧HoldAt K C H a fp m∧i < m.rows.length∧Dn K H (frD f) v1∧Dn K H (frD g) v2∧OkF 100 f∧OkF 100 g ∧
 0 ≤ f.1∧underM (plusM (m.own i) g) f = false∧∀ H',Same H H'→Q .non H'
def sp_put_flow : Sp:=fun vs H Q _ => ∃ a fp m,∃ i j : Nat,∃ v f,vs = [.ref a,natV i,natV j,v]∧HoldAt K C H a fp m∧i < m.rows.length∧j < m.rows.length∧i ≠ j∧Dn K H (frD f) v∧OkF 100 f ∧
 0 ≤ f.1∧underM (plusM (m.own i) (m.flow i j)) f = false∧∀ H' fp',Deed K C H a fp (m.setFlow i j f) H' fp'→Q .non H'
def sp_put_sky : Sp:=fun vs H Q _ => ∃ a fp m,∃ i : Nat,∃ v1 v2 v3 f lo hi,vs = [.ref a,natV i,v1,v2,v3]∧HoldAt K C H a fp m∧i < m.rows.length∧Dn K H (frD f) v1∧Dn K H (frD lo) v2∧Dn K H (frD hi) v3 ∧
 OkF 100 f∧OkF 100 lo∧OkF 100 hi∧underM hi lo = false∧0 ≤ f.1∧underM (plusM (m.own i) (m.skyS i)) f = false∧∀ H' fp',Deed K C H a fp (m.setSky i (f,lo,hi)) H' fp'→Q .non H'
def sp_put_stove : Sp:=fun vs H Q _ => ∃ a fp m,∃ i : Nat,∃ v f,∃ w st fl : Int,vs = [.ref a,natV i,v,.int w,.int st,.int fl]∧HoldAt K C H a fp m∧i < m.rows.length∧Dn K H (frD f) v∧OkF 100 f∧0 ≤ f.1 ∧
 (0 ≤ w∧w ≤ 9)∧(0 ≤ st∧st ≤ 3)∧(0 ≤ fl∧fl ≤ 3)∧∀ H' fp',Deed K C H a fp (m.setStove i (f,w,st,fl)) H' fp'→Q .non H'
def sp_rising : Sp:=fun vs H Q _ => ∃ p xs r,vs = [.ref p]∧SqL K H p xs∧DnA K H (r.map frD) xs∧(∀ f ∈ r,OkF 100 f)∧r.length ≤ 7∧∀ H',Same H H'→Q (.bl (risingM r)) H'
def sp_bands : Sp:=fun vs H Q _ => ∃ p xs rs,vs = [.ref p]∧SqL K H p xs∧DnA K H (rs.map rowD) xs∧rs.length ≤ 5∧(∀ r ∈ rs,1 ≤ r.length∧r.length ≤ 7)∧Q (.int (bandsM rs)) H
def sp_put_room : Sp:=fun vs H Q _ => ∃ a fp m p xs r,vs = [.ref a,.ref p]∧HoldAt K C H a fp m∧m.rows.length < 4∧SqL K H p xs∧DnA K H (r.map frD) xs∧(∀ f ∈ r,OkF 100 f)∧2 ≤ r.length∧r.length ≤ 7∧risingM r = true∧bandsM (m.rows ++ [r]) ≤ 400 ∧
 ∀ H' fp',Deed K C H a fp (m.addRoom r) H' fp'→Q (natV m.rows.length) H'
def sp_init : Sp:=fun vs H Q _ => ∃ x dx,∃ most cap load : Int,vs = [.ref x,.int most,.int cap,.int load]∧H x = some (.ins C dx [])∧H dx = some (.own x)∧(0 ≤ most∧most ≤ 4)∧(0 ≤ cap∧cap ≤ 30)∧(0 ≤ load∧load ≤ 30) ∧
 ∀ H' fp',Deed K C H x [x,dx] (HoldM.new most cap load) H' fp'→Q .non H'
end
end L2
namespace L2
open PySem PySem.Spec PyProof.Rows Mth
theorem ne_obj {H : Hp} {a b : Addr} {o u : HO} (h : H a = some o) (k : H b = some u) (n : o ≠ u) : a ≠ b:=fun e => by
 subst e
 rw [h] at k
 exact n (Option.some.inj k)
theorem hfs_inj {m : HoldM} {C dx dx' pm pf ps pt pm' pf' ps' pt' : Addr} (h : some (HO.ins C dx (hfs m pm pf ps pt)) = some (HO.ins C dx' (hfs m pm' pf' ps' pt'))) : dx = dx'∧pm = pm'∧pf = pf'∧ps = ps'∧pt = pt':=by
 simp only [hfs,Option.some.injEq,HO.ins.injEq,List.cons.injEq,Prod.mk.injEq,true_and,and_true,V.ref.injEq] at h
 exact h
theorem But.same {fp : List Addr} {H H' : Hp} (s : Same H H') : But fp H H':=fun b o h _ => s b o h
theorem But.upd {fp : List Addr} {H H' : Hp} {p : Addr} {o : HO} (b : But fp H H') (hp : p ∈ fp) : But fp H (upd H' p o):=fun c u h n => by
 rw [upd_ne (fun e => n (by rw [e]; exact hp))]
 exact b c u h n
section
variable {K : PySem.W.Frag} {C : Addr} {H H1 : Hp} {a : Addr} {fp : List Addr} {m : HoldM}
theorem deed_flow {dx pm pf ps pt : Addr} {kvs : List (List Key × V)} {i j : Nat} {f : Fra} {v : V} (hh : HoldAt K C H a fp m) (s : Same H H1) (ha : H a = some (.ins C dx (hfs m pm pf ps pt))) (hpf : H pf = some (.dT kvs))
   (hi : i < 4) (hj : j < 4) (d : Dn K H1 (frD f) v) (o : OkF 100 f) : Deed K C H a fp (m.setFlow i j f) (upd H1 pf (.dT (putK kvs (fkey i j) v))) fp:=by
 obtain ⟨⟨dx',pm',pf',ps',pt',vm,vs,vt,kvs',efp,ha',hdx,hpm,hpf',hps,hpt,n1,n2,n3,dm,ds,dt,df,fk⟩,q1,q2,q3,q4⟩:=hh
 obtain ⟨rfl,rfl,rfl,rfl,rfl⟩:=hfs_inj (ha'.symm.trans ha)
 obtain rfl : kvs' = kvs:=by
   have:=hpf'.symm.trans hpf
   injection this with e
   injection e
 have t1 : TStay K H1 (upd H1 pf' (.dT (putK kvs' (fkey i j) v))):=ts_upd (s _ _ hpf') rfl
 have t0:=(Same.ts (K:=K) s).trans t1
 have w : ∀ {b o},H b = some o→o ≠ .dT kvs'→(upd H1 pf' (.dT (putK kvs' (fkey i j) v))) b = some o:=fun h n => by
   rw [upd_ne (ne_obj h hpf' n)]
   exact s _ _ h
 refine ⟨⟨⟨dx',pm',pf',ps',pt',vm,vs,vt,putK kvs' (fkey i j) v,efp,w ha' nofun,w hdx nofun,w hpm nofun,upd_same,w hps nofun,w hpt nofun,n1,n2,n3,rows_ts t0 dm,skies_ts t0 ds,stoves_ts t0 dt,fun i' j' => ?_,fk.put hi hj v⟩,q1,q2,q3,⟨q4.rows,q4.len,fun i' j' g hg => ?_,q4.skies,q4.stoves⟩⟩,(But.same s).upd (by rw [efp]; simp),t0,fun b hb => .inl hb⟩
 · rw [valV_put]
   by_cases e : i' = (i : Int)∧j' = (j : Int)
   · show FlowIs K _ (if i' = (i : Int)∧j' = (j : Int) then some f else m.flows i' j') _
     rw [if_pos e,if_pos (by rw [e.1,e.2])]
     exact Dn.ts t1 _ (flat_fr f) d
   · show FlowIs K _ (if i' = (i : Int)∧j' = (j : Int) then some f else m.flows i' j') _
     rw [if_neg e,if_neg (fun z => e (fkey_inj z))]
     exact (df i' j').ts t0
 · have hg : (if i' = (i : Int)∧j' = (j : Int) then some f else m.flows i' j') = some g:=hg
   split at hg
   · cases hg
     exact o
   · exact q4.flows i' j' g hg
theorem deed_sky {dx pm pf ps pt : Addr} {vs : List V} {i : Nat} {z : Fra × Fra × Fra} {v : V} (hh : HoldAt K C H a fp m) (s : Same H H1) (ha : H a = some (.ins C dx (hfs m pm pf ps pt))) (hps : H ps = some (.lst vs))
   (d : Dn K H1 (skyD z) v) (o : OkF 100 z.1∧OkF 100 z.2.1∧OkF 100 z.2.2) : Deed K C H a fp (m.setSky i z) (upd H1 ps (.lst (vs.set i v))) fp:=by
 obtain ⟨⟨dx',pm',pf',ps',pt',vm,vs',vt,kvs',efp,ha',hdx,hpm,hpf',hps',hpt,n1,n2,n3,dm,ds,dt,df,fk⟩,q1,q2,q3,q4⟩:=hh
 obtain ⟨rfl,rfl,rfl,rfl,rfl⟩:=hfs_inj (ha'.symm.trans ha)
 obtain rfl : vs' = vs:=by
   have:=hps'.symm.trans hps
   injection this with e
   injection e
 have t1 : TStay K H1 (upd H1 ps' (.lst (vs'.set i v))):=ts_upd (s _ _ hps') rfl
 have t0:=(Same.ts (K:=K) s).trans t1
 have w : ∀ {b o},H b = some o→b ≠ ps'→(upd H1 ps' (.lst (vs'.set i v))) b = some o:=fun h n => by
   rw [upd_ne n]
   exact s _ _ h
 refine ⟨⟨⟨dx',pm',pf',ps',pt',vm,vs'.set i v,vt,kvs',efp,w ha' (ne_obj ha' hps nofun),w hdx (ne_obj hdx hps nofun),w hpm n1,w hpf' (ne_obj hpf' hps nofun),upd_same,w hpt n3.symm,n1,n2,n3,rows_ts t0 dm,?_,stoves_ts t0 dt,fun i' j' => (df i' j').ts t0,fk⟩,?_,q2,q3,⟨q4.rows,q4.len,q4.flows,fun y hy => ?_,q4.stoves⟩⟩,(But.same s).upd (by rw [efp]; simp),t0,fun b hb => .inl hb⟩
 · show DnA K _ ((m.skies.set i z).map skyD) _
   rw [List.map_set]
   exact DnA.set (i:=i) (skies_ts t0 ds) (Dn.ts t1 _ (flat_sky z) d)
 · show (m.skies.set i z).length = _
   rw [List.length_set]; exact q1
 · rcases List.mem_or_eq_of_mem_set hy with h | h
   · exact q4.skies y h
   · rw [h]; exact o
theorem deed_stove {dx pm pf ps pt : Addr} {vt : List V} {i : Nat} {z : Fra × Int × Int × Int} {v : V} (hh : HoldAt K C H a fp m) (s : Same H H1) (ha : H a = some (.ins C dx (hfs m pm pf ps pt))) (hpt : H pt = some (.lst vt))
   (d : Dn K H1 (stoveD (some z)) v) (o : OkF 100 z.1) : Deed K C H a fp (m.setStove i z) (upd H1 pt (.lst (vt.set i v))) fp:=by
 obtain ⟨⟨dx',pm',pf',ps',pt',vm,vs',vt',kvs',efp,ha',hdx,hpm,hpf',hps',hpt',n1,n2,n3,dm,ds,dt,df,fk⟩,q1,q2,q3,q4⟩:=hh
 obtain ⟨rfl,rfl,rfl,rfl,rfl⟩:=hfs_inj (ha'.symm.trans ha)
 obtain rfl : vt' = vt:=by
   have:=hpt'.symm.trans hpt
   injection this with e
   injection e
 have t1 : TStay K H1 (upd H1 pt' (.lst (vt'.set i v))):=ts_upd (s _ _ hpt') rfl
 have t0:=(Same.ts (K:=K) s).trans t1
 have w : ∀ {b o},H b = some o→b ≠ pt'→(upd H1 pt' (.lst (vt'.set i v))) b = some o:=fun h n => by
   rw [upd_ne n]
   exact s _ _ h
 refine ⟨⟨⟨dx',pm',pf',ps',pt',vm,vs',vt'.set i v,kvs',efp,w ha' (ne_obj ha' hpt nofun),w hdx (ne_obj hdx hpt nofun),w hpm n2,w hpf' (ne_obj hpf' hpt nofun),w hps' n3,upd_same,n1,n2,n3,rows_ts t0 dm,skies_ts t0 ds,?_,fun i' j' => (df i' j').ts t0,fk⟩,q1,?_,q3,⟨q4.rows,q4.len,q4.flows,q4.skies,fun y hy => ?_⟩⟩,(But.same s).upd (by rw [efp]; simp),t0,fun b hb => .inl hb⟩
 · show DnA K _ ((m.stoves.set i (some z)).map stoveD) _
   rw [List.map_set]
   exact DnA.set (i:=i) (stoves_ts t0 dt) (Dn.ts t1 _ (flat_stove (some z)) d)
 · show (m.stoves.set i (some z)).length = _
   rw [List.length_set]; exact q2
 · rcases List.mem_or_eq_of_mem_set hy with h | h
   · exact q4.stoves y h
   · cases h; exact o
end
end L2
namespace L2
open PySem PySem.Spec PyProof.Rows Mth
theorem cut_tail (xs : List V) : cutV xs (some 1) none = xs.tail:=by
 have e : HT.sIx xs.length 0 (some 1) = min 1 xs.length:=HT.sIx_nat _ _ 1
 unfold cutV
 rw [e,HT.sIx_none]
 cases xs with
 | nil => rfl
 | cons x l =>
   have : min 1 (x :: l).length = 1:=by simp
   rw [this]
   simp
theorem Same.put {H H' : Hp} {D : Addr} {o : HO} (s : Same H H') (h : H D = none) : Same H (upd H' D o):=fun b u e => by
 rw [upd_ne (ne_of_none e h)]
 exact s b u e
theorem rising_get {r : List Fra} {i : Nat} {x y : Fra} (hx : r[i]? = some x) (hy : r[i + 1]? = some y) : (List.zipWith underM r r.tail)[i]? = some (underM x y):=by
 rw [List.getElem?_zipWith,hx]
 have : r.tail[i]? = some y:=by rw [List.getElem?_tail]; exact hy
 rw [this]
end L2
namespace L2
open PySem PySem.Spec PyProof.Rows Mth
section
variable {K : PySem.W.Frag} {C : Addr} {H H1 : Hp} {a : Addr} {fp : List Addr} {m : HoldM}
theorem deed_room {dx pm pf ps pt p3 kt q0 N : Addr} {vm vs vt : List V} {r : List Fra} (hh : HoldAt K C H a fp m) (s : Same H H1) (ha : H a = some (.ins C dx (hfs m pm pf ps pt))) (hpm : H pm = some (.lst vm)) (hps : H ps = some (.lst vs)) (hpt : H pt = some (.lst vt))
   (hn : H p3 = none) (hp3 : H1 p3 = some (.lst (vm ++ [.ref kt]))) (dr : Dn K H1 (rowD r) (.ref kt)) (hlt : m.rows.length < 4) (hr : ∀ f ∈ r,OkF 100 f) (hl : 2 ≤ r.length∧r.length ≤ 7) (dN : ∀ H',Dn K H' (frD (0,1)) (.ref N))
   (hq0 : upd H1 a (.ins C dx (putF "mark_rows" (.ref p3) (hfs m pm pf ps pt))) q0 = none) :
   ∃ fp',Deed K C H a fp (m.addRoom r) (upd (upd (upd (upd H1 a (.ins C dx (putF "mark_rows" (.ref p3) (hfs m pm pf ps pt)))) q0 (.tup [.ref N,.ref N,.ref N])) ps (.lst (vs ++ [.ref q0]))) pt (.lst (vt ++ [.non]))) fp':=by
 obtain ⟨⟨dx',pm',pf',ps',pt',vm',vs',vt',kvs',efp,ha',hdx,hpm',hpf',hps',hpt',n1,n2,n3,dm,ds,dt,df,fk⟩,q1,q2,q3,q4⟩:=hh
 obtain ⟨rfl,rfl,rfl,rfl,rfl⟩:=hfs_inj (ha'.symm.trans ha)
 obtain rfl : vm' = vm:=by
   have:=hpm'.symm.trans hpm
   injection this with e
   injection e
 obtain rfl : vs' = vs:=by
   have:=hps'.symm.trans hps
   injection this with e
   injection e
 obtain rfl : vt' = vt:=by
   have:=hpt'.symm.trans hpt
   injection this with e
   injection e
 let H2:=upd H1 a (.ins C dx' (putF "mark_rows" (.ref p3) (hfs m pm' pf' ps' pt')))
 let H3:=upd H2 q0 (.tup [.ref N,.ref N,.ref N])
 let H4:=upd H3 ps' (.lst (vs' ++ [.ref q0]))
 let H5:=upd H4 pt' (.lst (vt' ++ [.non]))
 have w2 : ∀ {b o},H1 b = some o→b ≠ a→H2 b = some o:=fun h n => by show upd _ _ _ _ = _; rw [upd_ne n]; exact h
 have s3 : Same H2 H3:=same_upd hq0
 have na : H2 a = some (.ins C dx' (putF "mark_rows" (.ref p3) (hfs m pm' pf' ps' pt'))):=upd_same
 have aps:=ne_obj ha' hps nofun
 have apt:=ne_obj ha' hpt nofun
 have h2ps : H2 ps' = some (.lst vs'):=w2 (s _ _ hps) aps.symm
 have h2pt : H2 pt' = some (.lst vt'):=w2 (s _ _ hpt) apt.symm
 have h3ps:=s3 _ _ h2ps
 have h3pt:=s3 _ _ h2pt
 have h4pt : H4 pt' = some (.lst vt'):=by show upd _ _ _ _ = _; rw [upd_ne n3.symm]; exact h3pt
 have t12 : TStay K H1 H2:=ts_upd (s _ _ ha') rfl
 have t34 : TStay K H3 H4:=ts_upd h3ps rfl
 have t45 : TStay K H4 H5:=ts_upd h4pt rfl
 have t35:=t34.trans t45
 have t15:=t12.trans ((Same.ts s3).trans t35)
 have t05:=(Same.ts (K:=K) s).trans t15
 have w5 : ∀ {b o},H2 b = some o→b ≠ ps'→b ≠ pt'→H5 b = some o:=fun h x y => by
   show upd _ _ _ _ = _
   rw [upd_ne y]
   show upd _ _ _ _ = _
   rw [upd_ne x]
   exact s3 _ _ h
 have wo : ∀ {b o},H b = some o→b ≠ a→b ≠ ps'→b ≠ pt'→H5 b = some o:=fun h x y z => w5 (w2 (s _ _ h) x) y z
 have p3a : p3 ≠ a:=(ne_of_none ha' hn).symm
 have p3s : p3 ≠ ps':=(ne_of_none hps hn).symm
 have p3t : p3 ≠ pt':=(ne_of_none hpt hn).symm
 have q0s : q0 ≠ ps':=(ne_of_none h2ps hq0).symm
 have h4ps : H5 ps' = some (.lst (vs' ++ [.ref q0])):=by
   show upd _ _ _ _ = _
   rw [upd_ne n3]
   exact upd_same
 refine ⟨[a,dx',p3,pf',ps',pt'],⟨⟨dx',p3,pf',ps',pt',vm' ++ [.ref kt],vs' ++ [.ref q0],vt' ++ [.non],kvs',rfl,?_,wo hdx (ne_obj hdx ha' nofun) (ne_obj hdx hps nofun) (ne_obj hdx hpt nofun),w5 (w2 hp3 p3a) p3s p3t,wo hpf' (ne_obj hpf' ha' nofun) (ne_obj hpf' hps nofun) (ne_obj hpf' hpt nofun),h4ps,upd_same,p3s,p3t,n3,?_,?_,?_,fun i j => (df i j).ts t05,fk⟩,?_,?_,?_,?_⟩,?_,t05,?_⟩
 · exact w5 na aps apt
 · show DnA K H5 ((m.rows ++ [r]).map rowD) _
   rw [List.map_append]
   exact (rows_ts t05 dm).snoc (Dn.ts t15 _ (flat_row r) dr)
 · show DnA K H5 ((m.skies ++ [((0,1),(0,1),(0,1))]).map skyD) _
   rw [List.map_append]
   exact (skies_ts t05 ds).snoc (Dn.ts t35 _ (flat_sky _) (dn_sky (s:=((0,1),(0,1),(0,1))) (SqT.of upd_same) (dN _) (dN _) (dN _)))
 · show DnA K H5 ((m.stoves ++ [none]).map stoveD) _
   rw [List.map_append]
   exact (stoves_ts t05 dt).snoc rfl
 · show (m.skies ++ [_]).length = (m.rows ++ [r]).length
   rw [List.length_append,List.length_append,q1]; rfl
 · show (m.stoves ++ [_]).length = (m.rows ++ [r]).length
   rw [List.length_append,List.length_append,q2]; rfl
 · show (m.rows ++ [r]).length ≤ 4
   rw [List.length_append]; exact hlt
 · refine ⟨fun x hx => ?_,fun x hx => ?_,q4.flows,fun x hx => ?_,fun x hx => ?_⟩
   · rcases List.mem_append.mp hx with h | h
     · exact q4.rows x h
     · rw [List.mem_singleton.mp h]; exact hr
   · rcases List.mem_append.mp hx with h | h
     · exact q4.len x h
     · rw [List.mem_singleton.mp h]; exact hl
   · rcases List.mem_append.mp hx with h | h
     · exact q4.skies x h
     · rw [List.mem_singleton.mp h]; exact ⟨ok01,ok01,ok01⟩
   · rcases List.mem_append.mp hx with h | h
     · exact q4.stoves x h
     · cases List.mem_singleton.mp h
 · intro b o h n
   rw [efp] at n
   simp only [List.mem_cons,List.not_mem_nil,or_false,not_or] at n
   exact wo h n.1 n.2.2.2.2.1 n.2.2.2.2.2
 · intro b hb
   rw [efp]
   simp only [List.mem_cons,List.not_mem_nil,or_false] at hb ⊢
   rcases hb with rfl | rfl | rfl | rfl | rfl | rfl
   · exact .inl (.inl rfl)
   · exact .inl (.inr (.inl rfl))
   · exact .inr hn
   · exact .inl (.inr (.inr (.inr (.inl rfl))))
   · exact .inl (.inr (.inr (.inr (.inr (.inl rfl)))))
   · exact .inl (.inr (.inr (.inr (.inr (.inr rfl)))))
end
end L2
namespace L2
open PySem PySem.Spec PyProof.Rows Mth
structure ButX (K : PySem.W.Frag) (C x dx : Addr) (H H' : Hp) (fs : List (Str × V)) : Prop where
 st : ∀ b o,H b = some o→b ≠ x→H' b = some o
 ts : TStay K H H'
 at_ : H' x = some (.ins C dx fs)
section
variable {K : PySem.W.Frag} {C x dx : Addr} {H H' : Hp} {fs fs' : List (Str × V)}
theorem ButX.start (h : H x = some (.ins C dx fs)) : ButX K C x dx H H fs:=⟨fun _ _ h _ => h,TStay.refl _,h⟩
theorem ButX.put (B : ButX K C x dx H H' fs) : ButX K C x dx H (upd H' x (.ins C dx fs')) fs':=⟨fun b o h n => by rw [upd_ne n]; exact B.st b o h n,B.ts.trans (ts_upd B.at_ rfl),upd_same⟩
theorem ButX.new {p : Addr} {o : HO} (B : ButX K C x dx H H' fs) (hp : H' p = none) : ButX K C x dx H (upd H' p o) fs:=⟨fun b u h n => by rw [upd_ne (ne_of_none (B.st b u h n) hp)]; exact B.st b u h n,B.ts.trans (Same.ts (same_upd hp)),by rw [upd_ne (ne_of_none B.at_ hp)]; exact B.at_⟩
theorem ButX.keep {b : Addr} {o u : HO} (B : ButX K C x dx H H' fs) (h : H' b = some o) (n : b ≠ x) : (upd H' x u) b = some o:=by rw [upd_ne n]; exact h
theorem ButX.none {p : Addr} (B : ButX K C x dx H H' fs) (hp : H' p = none) : H p = Option.none:=by
 cases e : H p with
 | none => rfl
 | some o =>
   by_cases q : p = x
   · rw [q,B.at_] at hp; cases hp
   · rw [B.st p o e q] at hp; cases hp
theorem ButX.ne {p : Addr} (B : ButX K C x dx H H' fs) (hp : H' p = Option.none) : p ≠ x:=fun q => by rw [q,B.at_] at hp; cases hp
theorem deed_new {p1 p2 p3 p4 : Addr} {most cap load : Int} (B : ButX K C x dx H H' (hfs (HoldM.new most cap load) p1 p2 p3 p4)) (hx : H x = some (.ins C dx fs')) (hdx : H dx = some (.own x)) (h1 : H' p1 = some (.lst [])) (h2 : H' p2 = some (.dT [])) (h3 : H' p3 = some (.lst [])) (h4 : H' p4 = some (.lst []))
   (n1 : H p1 = none) (n2 : H p2 = none) (n3 : H p3 = none) (n4 : H p4 = none) (e1 : p1 ≠ p3) (e2 : p1 ≠ p4) (e3 : p3 ≠ p4) :
   Deed K C H x [x,dx] (HoldM.new most cap load) H' [x,dx,p1,p2,p3,p4]:=by
 refine ⟨⟨⟨dx,p1,p2,p3,p4,[],[],[],[],rfl,B.at_,B.st _ _ hdx (ne_obj hdx hx nofun),h1,h2,h3,h4,e1,e2,e3,rfl,rfl,rfl,fun _ _ => trivial,List.nodup_nil,nofun⟩,rfl,rfl,Nat.zero_le _,⟨nofun,nofun,nofun,nofun,nofun⟩⟩,?_,B.ts,?_⟩
 · intro b o h n
   simp only [List.mem_cons,List.not_mem_nil,or_false,not_or] at n
   exact B.st b o h n.1
 · intro b hb
   simp only [List.mem_cons,List.not_mem_nil,or_false] at hb ⊢
   rcases hb with rfl | rfl | rfl | rfl | rfl | rfl
   · exact .inl (.inl rfl)
   · exact .inl (.inr rfl)
   · exact .inr n1
   · exact .inr n2
   · exact .inr n3
   · exact .inr n4
end
theorem lt1000 {n : Nat} (h : Nat.ble (n + 1) 1000 = true) : n < 1000:=Nat.le_of_ble_eq_true h
end L2
namespace L2
open PySem PySem.Spec PyProof.Rows Mth
def hpair (i j : Int) : Int:=reduceHash (Builtin.Tuple.tupleHashOf [hashInt i,hashInt j])
theorem hpair_fin : ∀ i j i' j' : Fin 4,hpair (i.val : Int) (j.val : Int) = hpair (i'.val : Int) (j'.val : Int)→i = i'∧j = j':=by decide +kernel
theorem hpair_inj (i : Nat) (hi : i < 4) (j : Nat) (hj : j < 4) (i' : Nat) (hi' : i' < 4) (j' : Nat) (hj' : j' < 4) (h : hpair (i : Int) (j : Int) = hpair (i' : Int) (j' : Int)) : i = i'∧j = j':=by
 obtain ⟨a,b⟩:=hpair_fin ⟨i,hi⟩ ⟨j,hj⟩ ⟨i',hi'⟩ ⟨j',hj'⟩ h
 exact ⟨congrArg Fin.val a,congrArg Fin.val b⟩
theorem FKeys.hash {P : Program} {w : World} {kvs : List (List Key × V)} (h : FKeys kvs) : (kvs.map fun kv => tupleKeyHash (mixKind P w) kv.1).Nodup:=by
 have h1:=List.pairwise_map.mp h.1
 refine List.pairwise_map.mpr (h1.imp_of_mem fun {a b} ha hb n e => ?_)
 obtain ⟨i,j,hi,hj,e1⟩:=h.2 a ha
 obtain ⟨i',j',hi',hj',e2⟩:=h.2 b hb
 rw [e1,e2] at e
 obtain ⟨z1,z2⟩:=hpair_inj i hi j hj i' hi' j' hj' e
 exact n (by rw [e1,e2,z1,z2])
def optV : Option Int→V
 | none => .non
 | some n => .int n
theorem if_opt {σ : St} {H : Hp} {Q : VK} {ta : TE} {k : Nat} {o : Option Int} {d : Int} (hk : σ[k]? = some (some (optV o))) (hA : ∀ Q' : VK,Q' (.int d) H→ta σ H Q') (h : Q (.int (o.getD d)) H) :
   tIf (tTest (tOp (fun x y H Q => y = .non∧Q (.bl (decide (x = .non))) H) (tVar k) (tC .non))) ta (tVar k) σ H Q:=by
 refine ⟨_,by rw [hk],rfl,_,rfl,?_⟩
 cases o with
 | none => exact iteP rfl (hA Q h)
 | some n => exact iteN nofun ⟨_,hk,h⟩
def HoldM.with (m : HoldM) (x y z : Option Int) : HoldM:={ m with most:=x.getD m.most,cap:=y.getD m.cap,load:=z.getD m.load }
def HoldM.Bds (m : HoldM) : Prop:=(0 ≤ m.most∧m.most ≤ 4)∧(0 ≤ m.cap∧m.cap ≤ 30)∧(0 ≤ m.load∧m.load ≤ 30)
def sp_like (K : PySem.W.Frag) (C : Addr) : Sp:=fun vs H Q _ => ∃ a fp m x y z,vs = [.ref a,optV x,optV y,optV z]∧HoldAt K C H a fp m∧(m.with x y z).Bds ∧
 ∀ b H' fp',Same H H'→HoldAt K C H' b fp' (m.with x y z)→(∀ c ∈ fp',H c = none)→Q (.ref b) H'
theorem like_at {K : PySem.W.Frag} {C : Addr} {H H1 H' : Hp} {a x dx : Addr} {fp : List Addr} {m m' : HoldM} {l1 l2 l3 l4 : Addr} {vm vs vt : List V} {kvs : List (List Key × V)} {dxa pm pf ps pt : Addr}
   (hh : HoldAt K C H a fp m) (ha : H a = some (.ins C dxa (hfs m pm pf ps pt))) (hpm : H pm = some (.lst vm)) (hpf : H pf = some (.dT kvs)) (hps : H ps = some (.lst vs)) (hpt : H pt = some (.lst vt))
   (s : Same H H1) (e : m'.rows = m.rows∧m'.flows = m.flows∧m'.skies = m.skies∧m'.stoves = m.stoves) (B : ButX K C x dx H1 H' (hfs m' l1 l2 l3 l4)) (hdx : H' dx = some (.own x)) (h1 : H' l1 = some (.lst vm)) (h2 : H' l2 = some (.dT kvs)) (h3 : H' l3 = some (.lst vs)) (h4 : H' l4 = some (.lst vt))
   (e1 : l1 ≠ l3) (e2 : l1 ≠ l4) (e3 : l3 ≠ l4) : HoldAt K C H' x [x,dx,l1,l2,l3,l4] m':=by
 obtain ⟨⟨dx',pm',pf',ps',pt',vm',vs',vt',kvs',efp,ha',hdx',hpm',hpf',hps',hpt',n1,n2,n3,dm,ds,dt,df,fk⟩,q1,q2,q3,q4⟩:=hh
 obtain ⟨rfl,rfl,rfl,rfl,rfl⟩:=hfs_inj (ha'.symm.trans ha)
 obtain rfl : vm' = vm:=by
   have:=hpm'.symm.trans hpm
   injection this with e
   injection e
 obtain rfl : vs' = vs:=by
   have:=hps'.symm.trans hps
   injection this with e
   injection e
 obtain rfl : vt' = vt:=by
   have:=hpt'.symm.trans hpt
   injection this with e
   injection e
 obtain rfl : kvs' = kvs:=by
   have:=hpf'.symm.trans hpf
   injection this with e
   injection e
 have t:=(Same.ts (K:=K) s).trans B.ts
 obtain ⟨r1,r2,r3,r4⟩:=e
 refine ⟨⟨dx,l1,l2,l3,l4,vm',vs',vt',kvs',rfl,B.at_,hdx,h1,h2,h3,h4,e1,e2,e3,?_,?_,?_,fun i j => ?_,fk⟩,?_,?_,?_,⟨?_,?_,?_,?_,?_⟩⟩
 · rw [r1]; exact rows_ts t dm
 · rw [r3]; exact skies_ts t ds
 · rw [r4]; exact stoves_ts t dt
 · rw [r2]; exact (df i j).ts t
 · rw [r1,r3]; exact q1
 · rw [r1,r4]; exact q2
 · rw [r1]; exact q3
 · rw [r1]; exact q4.rows
 · rw [r1]; exact q4.len
 · rw [r2]; exact q4.flows
 · rw [r3]; exact q4.skies
 · rw [r4]; exact q4.stoves
end L2
namespace L2
open PySem PySem.Spec PyProof.Rows Mth
theorem atI_ints {ns : List Int} {r : Int} (h0 : 0 ≤ r) (h1 : r < ns.length) : ∃ z ∈ ns,atI (ns.map V.int) r = some (.int z):=by
 have hl : r.toNat < ns.length:=by omega
 have e : (ns.map V.int)[r.toNat]? = some (.int (ns[r.toNat]'hl)):=by simp [hl]
 have e2:=atI_nat e
 rw [Int.toNat_of_nonneg h0] at e2
 exact ⟨_,List.getElem_mem hl,e2⟩
def sp_pick : Sp:=fun vs H Q _ => ∃ c k n : Int,vs = [.int c,.int k,.int n]∧0 ≤ k∧k ≤ 1000∧0 < n∧∀ r,0 ≤ r→r < n→Q (.int r) H
structure ScM where
 a : Int
 b : Int
 t : Int
 d : Int
structure ScM.Ok (s : ScM) : Prop where
 a0 : 1 ≤ s.a
 a1 : s.a ≤ 10 ^ 9
 b0 : 1 ≤ s.b
 b1 : s.b ≤ 10 ^ 9
 t0 : -(10 ^ 9) ≤ s.t
 t1 : s.t ≤ 10 ^ 9
 d0 : 1 ≤ s.d
 d1 : s.d ≤ 10 ^ 9
abbrev ScM.vs (s : ScM) : List V:=[.int s.a,.int s.b,.int s.t,.int s.d]
def sp_scale : Sp:=fun vs H Q _ => ∃ c : Int,vs = [.int c]∧∀ p H' (s : ScM),s.Ok→Same H H'→H' p = some (.tup s.vs)→Q (.ref p) H'
def warmT (num parts : Int) (s : ScM) : Int:=num * s.a * s.d + parts * s.t * s.b
def warmB (parts : Int) (s : ScM) : Int:=parts * s.b * s.d
def warmM (num parts : Int) (s : ScM) : Fra:=nf (warmT num parts s) (warmB parts s)
def sp_warm (K : PySem.W.Frag) : Sp:=fun vs H Q _ => ∃ num parts p,∃ s : ScM,vs = [.int num,.int parts,.ref p]∧SqT K H p s.vs∧s.Ok∧Bd 30 num∧0 < parts∧Bd 30 parts ∧
 ∀ q H',Same H H'→H' q = some (.tup [.int (warmM num parts s).1,.int (warmM num parts s).2])→Q (.ref q) H'
theorem warmB_pos {parts : Int} {s : ScM} (h : s.Ok) (hp : 0 < parts) : 0 < warmB parts s:=Int.mul_pos (Int.mul_pos hp (by have:=h.b0; omega)) (by have:=h.d0; omega)
theorem bd30 {x : Int} (h0 : -(10 ^ 9) ≤ x) (h1 : x ≤ 10 ^ 9) : Bd 30 x:=by show x.natAbs < 2 ^ 30; omega
section
variable {s : ScM}
theorem ScM.Ok.ba (h : s.Ok) : Bd 30 s.a:=bd30 (by have:=h.a0; omega) h.a1
theorem ScM.Ok.bb (h : s.Ok) : Bd 30 s.b:=bd30 (by have:=h.b0; omega) h.b1
theorem ScM.Ok.bt (h : s.Ok) : Bd 30 s.t:=bd30 h.t0 h.t1
theorem ScM.Ok.bd (h : s.Ok) : Bd 30 s.d:=bd30 (by have:=h.d0; omega) h.d1
end
theorem warm_ok {num parts : Int} {s : ScM} {n : Nat} (h : s.Ok) (hp : 0 < parts) (bn : Bd n num) (bp : Bd n parts) : OkF (n + 61) (warmM num parts s):=by
 have F:=nf_fr (t:=warmT num parts s) (warmB_pos h hp)
 have b1 : Bd (n + 60) (num * s.a * s.d):=((bn.mul h.ba).mul h.bd).mono (by omega)
 have b2 : Bd (n + 60) (parts * s.t * s.b):=((bp.mul h.bt).mul h.bb).mono (by omega)
 have b3 : Bd (n + 60) (warmB parts s):=((bp.mul h.bb).mul h.bd).mono (by omega)
 exact ⟨(F.bdq (b1.add b2)).mono (by omega),(F.bdr b3).mono (by omega),F.pos⟩
theorem warm_under {x y parts : Int} {s : ScM} (h : s.Ok) (hp : 0 < parts) : underM (warmM x parts s) (warmM y parts s) = decide (x < y):=by
 have F:=nf_fr (t:=warmT x parts s) (warmB_pos h hp)
 have G:=nf_fr (t:=warmT y parts s) (warmB_pos h hp)
 have hB:=warmB_pos h hp
 have e : (warmM x parts s).1 * (warmM y parts s).2 < (warmM y parts s).1 * (warmM x parts s).2 ↔ warmT x parts s < warmT y parts s:=by
   have c1 : (warmM x parts s).1 * warmB parts s = warmT x parts s * (warmM x parts s).2:=F.cross
   have c2 : (warmM y parts s).1 * warmB parts s = warmT y parts s * (warmM y parts s).2:=G.cross
   have p1 : 0 < (warmM x parts s).2:=F.pos
   have p2 : 0 < (warmM y parts s).2:=G.pos
   generalize (warmM x parts s).1 = q1 at c1 ⊢
   generalize (warmM x parts s).2 = r1 at c1 p1 ⊢
   generalize (warmM y parts s).1 = q2 at c2 ⊢
   generalize (warmM y parts s).2 = r2 at c2 p2 ⊢
   generalize warmT x parts s = t1 at c1 ⊢
   generalize warmT y parts s = t2 at c2 ⊢
   generalize warmB parts s = B at c1 c2 hB
   have k1 : (q1 * r2) * B = t1 * (r1 * r2):=by rw [Int.mul_right_comm,c1,Int.mul_assoc]
   have k2 : (q2 * r1) * B = t2 * (r1 * r2):=by rw [Int.mul_right_comm,c2,Int.mul_assoc,Int.mul_comm r2 r1]
   have rp : 0 < r1 * r2:=Int.mul_pos p1 p2
   constructor
   · intro l
     have:=Int.mul_lt_mul_of_pos_right l hB
     rw [k1,k2] at this
     exact Int.lt_of_mul_lt_mul_right this (Int.le_of_lt rp)
   · intro l
     have:=Int.mul_lt_mul_of_pos_right l rp
     rw [← k1,← k2] at this
     exact Int.lt_of_mul_lt_mul_right this (Int.le_of_lt hB)
 unfold underM
 refine decide_eq_decide.mpr (e.trans ?_)
 have had : 0 < s.a * s.d:=Int.mul_pos (by have:=h.a0; omega) (by have:=h.d0; omega)
 unfold warmT
 rw [Int.mul_assoc x,Int.mul_assoc y]
 constructor
 · intro l
   exact Int.lt_of_mul_lt_mul_right (by omega : x * (s.a * s.d) < y * (s.a * s.d)) (Int.le_of_lt had)
 · intro l
   have:=Int.mul_lt_mul_of_pos_right l had
   omega
abbrev stoveI (z : Int × Int × Int × Int) : List V:=[.int z.1,.int z.2.1,.int z.2.2.1,.int z.2.2.2]
structure StI (z : Int × Int × Int × Int) : Prop where
 h : 0 ≤ z.1∧z.1 ≤ 25
 w : 0 ≤ z.2.1∧z.2.1 ≤ 9
 s : 0 ≤ z.2.2.1∧z.2.2.1 ≤ 3
 f : 0 ≤ z.2.2.2∧z.2.2.2 ≤ 3
def sp_stove_by : Sp:=fun vs H Q _ => ∃ a b c : Int,∃ i : Nat,vs = [.int a,.int b,.int c,natV i]∧i < 4∧Q .non H∧∀ p z,StI z→H p = none→Q (.ref p) (upd H p (.tup (stoveI z)))
end L2
namespace L2
open PySem PySem.Spec PyProof.Rows Mth
def cutH (H : Hp) (L : List Addr) : Hp:=fun b => if b ∈ L then none else H b
section
variable {K : PySem.W.Frag} {H H' : Hp} {L : List Addr} {a : Addr} {o : HO}
theorem cut_same : Same (cutH H L) H:=fun b u h => by
 unfold cutH at h
 split at h
 · cases h
 · exact h
theorem cut_at (h : H a = some o) (n : a ∉ L) : cutH H L a = some o:=by unfold cutH; rw [if_neg n]; exact h
theorem cut_upd (h : a ∈ L) : cutH (upd H a o) L = cutH H L:=by
 funext b
 unfold cutH
 split
 · rfl
 · rename_i n
   rw [upd_ne (fun e => n (by rw [e]; exact h))]
theorem same_cut (s : Same H H') : Same (cutH H L) (cutH H' L):=fun b u h => by
 unfold cutH at h ⊢
 split at h
 · cases h
 · rename_i n
   rw [if_neg n]
   exact s b u h
end
structure ToldM where
 marks : List (List Int)
 sky : List (Int × Int × Int)
 stoves : List (Option (Int × Int × Int × Int))
 flows : Nat→Nat→Option Int
 scale : ScM
 bounds : Int × Int × Int
abbrev skyI (z : Int × Int × Int) : PyData:=.tuple [.int z.1,.int z.2.1,.int z.2.2]
abbrev stI : Option (Int × Int × Int × Int)→PyData
 | none => .none
 | some z => .tuple [.int z.1,.int z.2.1,.int z.2.2.1,.int z.2.2.2]
abbrev rowI (l : List Int) : PyData:=.list (l.map PyData.int)
def toldKV (pm ps pt pf psc pb : Addr) : List (Key × V) :=
 [(.inr "marks",.ref pm),(.inr "sky",.ref ps),(.inr "stoves",.ref pt),(.inr "flows",.ref pf),(.inr "scale",.ref psc),(.inr "bounds",.ref pb)]
section
variable (pm ps pt pf psc pb : Addr)
end
structure TC (K : PySem.W.Frag) (H : Hp) (p pm ps pt pf psc pb : Addr) (vm vs vt : List V) (kvs : List (List Key × V)) (m : ToldM) : Prop where
 hp : H p = some (.dK (toldKV pm ps pt pf psc pb))
 hpm : H pm = some (.lst vm)
 hps : H ps = some (.lst vs)
 hpt : H pt = some (.lst vt)
 hpf : H pf = some (.dT kvs)
 n1 : pm ≠ ps
 n2 : pm ≠ pt
 n3 : ps ≠ pt
 dm : DnA K (cutH H [p,pm,ps,pt,pf]) (m.marks.map rowI) vm
 ds : DnA K (cutH H [p,pm,ps,pt,pf]) (m.sky.map skyI) vs
 dt : DnA K (cutH H [p,pm,ps,pt,pf]) (m.stoves.map stI) vt
 df : ∀ i j : Nat,i < 4→j < 4→valV kvs (fkey i j) = (m.flows i j).map V.int
 fk : FKeys kvs
 sc : SqT K (cutH H [p,pm,ps,pt,pf]) psc m.scale.vs
 bo : SqT K (cutH H [p,pm,ps,pt,pf]) pb [.int m.bounds.1,.int m.bounds.2.1,.int m.bounds.2.2]
section
variable {K : PySem.W.Frag} {H H' : Hp} {p pm ps pt pf psc pb : Addr} {vm vs vt : List V} {kvs : List (List Key × V)} {m : ToldM}
theorem TC.same (c : TC K H p pm ps pt pf psc pb vm vs vt kvs m) (s : Same H H') : TC K H' p pm ps pt pf psc pb vm vs vt kvs m :=
 ⟨s _ _ c.hp,s _ _ c.hpm,s _ _ c.hps,s _ _ c.hpt,s _ _ c.hpf,c.n1,c.n2,c.n3,DnA.same (same_cut s) _ c.dm,DnA.same (same_cut s) _ c.ds,DnA.same (same_cut s) _ c.dt,c.df,c.fk,(same_cut s).tup c.sc,(same_cut s).tup c.bo⟩
theorem TC.addMarks (c : TC K H p pm ps pt pf psc pb vm vs vt kvs m) {l : List Int} {x : V} (d : Dn K (cutH H [p,pm,ps,pt,pf]) (rowI l) x) :
   TC K (upd H pm (.lst (vm ++ [x]))) p pm ps pt pf psc pb (vm ++ [x]) vs vt kvs { m with marks:=m.marks ++ [l] }:=by
 have e : cutH (upd H pm (.lst (vm ++ [x]))) [p,pm,ps,pt,pf] = cutH H [p,pm,ps,pt,pf]:=cut_upd (by simp)
 refine ⟨by rw [upd_ne (ne_obj c.hp c.hpm nofun)]; exact c.hp,upd_same,by rw [upd_ne c.n1.symm]; exact c.hps,by rw [upd_ne c.n2.symm]; exact c.hpt,by rw [upd_ne (ne_obj c.hpf c.hpm nofun)]; exact c.hpf,c.n1,c.n2,c.n3,?_,by rw [e]; exact c.ds,by rw [e]; exact c.dt,c.df,c.fk,by rw [e]; exact c.sc,by rw [e]; exact c.bo⟩
 rw [e]
 show DnA K _ ((m.marks ++ [l]).map rowI) _
 rw [List.map_append]
 exact c.dm.snoc d
theorem TC.addSky (c : TC K H p pm ps pt pf psc pb vm vs vt kvs m) {l : Int × Int × Int} {x : V} (d : Dn K (cutH H [p,pm,ps,pt,pf]) (skyI l) x) :
   TC K (upd H ps (.lst (vs ++ [x]))) p pm ps pt pf psc pb vm (vs ++ [x]) vt kvs { m with sky:=m.sky ++ [l] }:=by
 have e : cutH (upd H ps (.lst (vs ++ [x]))) [p,pm,ps,pt,pf] = cutH H [p,pm,ps,pt,pf]:=cut_upd (by simp)
 refine ⟨by rw [upd_ne (ne_obj c.hp c.hps nofun)]; exact c.hp,by rw [upd_ne c.n1]; exact c.hpm,upd_same,by rw [upd_ne c.n3.symm]; exact c.hpt,by rw [upd_ne (ne_obj c.hpf c.hps nofun)]; exact c.hpf,c.n1,c.n2,c.n3,by rw [e]; exact c.dm,?_,by rw [e]; exact c.dt,c.df,c.fk,by rw [e]; exact c.sc,by rw [e]; exact c.bo⟩
 rw [e]
 show DnA K _ ((m.sky ++ [l]).map skyI) _
 rw [List.map_append]
 exact c.ds.snoc d
theorem TC.addStove (c : TC K H p pm ps pt pf psc pb vm vs vt kvs m) {l : Option (Int × Int × Int × Int)} {x : V} (d : Dn K (cutH H [p,pm,ps,pt,pf]) (stI l) x) :
   TC K (upd H pt (.lst (vt ++ [x]))) p pm ps pt pf psc pb vm vs (vt ++ [x]) kvs { m with stoves:=m.stoves ++ [l] }:=by
 have e : cutH (upd H pt (.lst (vt ++ [x]))) [p,pm,ps,pt,pf] = cutH H [p,pm,ps,pt,pf]:=cut_upd (by simp)
 refine ⟨by rw [upd_ne (ne_obj c.hp c.hpt nofun)]; exact c.hp,by rw [upd_ne c.n2]; exact c.hpm,by rw [upd_ne c.n3]; exact c.hps,upd_same,by rw [upd_ne (ne_obj c.hpf c.hpt nofun)]; exact c.hpf,c.n1,c.n2,c.n3,by rw [e]; exact c.dm,by rw [e]; exact c.ds,?_,c.df,c.fk,by rw [e]; exact c.sc,by rw [e]; exact c.bo⟩
 rw [e]
 show DnA K _ ((m.stoves ++ [l]).map stI) _
 rw [List.map_append]
 exact c.dt.snoc d
def ToldM.setFlow (m : ToldM) (i j : Nat) (k : Int) : ToldM:={ m with flows:=fun a b => if a = i∧b = j then some k else m.flows a b }
theorem TC.setFlow (c : TC K H p pm ps pt pf psc pb vm vs vt kvs m) {i j : Nat} {k : Int} (hi : i < 4) (hj : j < 4) :
   TC K (upd H pf (.dT (putK kvs (fkey i j) (.int k)))) p pm ps pt pf psc pb vm vs vt (putK kvs (fkey i j) (.int k)) (m.setFlow i j k):=by
 have e : cutH (upd H pf (.dT (putK kvs (fkey i j) (.int k)))) [p,pm,ps,pt,pf] = cutH H [p,pm,ps,pt,pf]:=cut_upd (by simp)
 refine ⟨by rw [upd_ne (ne_obj c.hp c.hpf nofun)]; exact c.hp,by rw [upd_ne (ne_obj c.hpm c.hpf nofun)]; exact c.hpm,by rw [upd_ne (ne_obj c.hps c.hpf nofun)]; exact c.hps,by rw [upd_ne (ne_obj c.hpt c.hpf nofun)]; exact c.hpt,upd_same,c.n1,c.n2,c.n3,by rw [e]; exact c.dm,by rw [e]; exact c.ds,by rw [e]; exact c.dt,fun a b ha hb => ?_,c.fk.put hi hj _,by rw [e]; exact c.sc,by rw [e]; exact c.bo⟩
 rw [valV_put]
 show _ = (if a = i∧b = j then some k else m.flows a b).map V.int
 by_cases z : a = i∧b = j
 · rw [if_pos z,if_pos (by rw [z.1,z.2])]; rfl
 · rw [if_neg z,if_neg (fun y => z (by have:=fkey_inj y; omega))]
   exact c.df a b ha hb
end
def risingI (l : List Int) : Prop:=∀ i x y,l[i]? = some x→l[i + 1]? = some y→x < y
structure RowOk (n : Nat) (l : List Int) : Prop where
 two : 2 ≤ l.length
 most : l.length ≤ if n ≤ 2 then 7 else 5
 ris : risingI l
 bd : ∀ x ∈ l,-200 ≤ x∧x ≤ 200
structure ToldM.Ok (n i : Nat) (m : ToldM) : Prop where
 lm : m.marks.length = i
 ls : m.sky.length = i
 lt : m.stoves.length = i
 rows : ∀ l ∈ m.marks,RowOk n l
 sky : ∀ z ∈ m.sky,(0 ≤ z.1∧z.1 ≤ 3)∧(-30 ≤ z.2.1∧z.2.1 ≤ 30)∧z.2.1 ≤ z.2.2∧z.2.2 ≤ z.2.1 + 30
 stoves : ∀ z,some z ∈ m.stoves→StI z
 flows : ∀ a b,a < i→b < n→a ≠ b→∃ k,m.flows a b = some k∧0 ≤ k∧k ≤ 3
 scale : m.scale.Ok
 bounds : (0 ≤ m.bounds.1∧m.bounds.1 ≤ 4)∧(0 ≤ m.bounds.2.1∧m.bounds.2.1 ≤ 30)∧(0 ≤ m.bounds.2.2∧m.bounds.2.2 ≤ 30)
def ToldAt (K : PySem.W.Frag) (H : Hp) (p : Addr) (m : ToldM) : Prop:=∃ pm ps pt pf psc pb vm vs vt kvs,TC K H p pm ps pt pf psc pb vm vs vt kvs m
theorem ToldAt.same {K : PySem.W.Frag} {H H' : Hp} {p : Addr} {m : ToldM} (h : ToldAt K H p m) (s : Same H H') : ToldAt K H' p m:=by
 obtain ⟨pm,ps,pt,pf,psc,pb,vm,vs,vt,kvs,c⟩:=h
 exact ⟨pm,ps,pt,pf,psc,pb,vm,vs,vt,kvs,c.same s⟩
def sp_drawn (K : PySem.W.Frag) : Sp:=fun vs H Q _ => ∃ a,∃ ns : List Int,vs = [.ref a]∧SqL K H a (ns.map V.int)∧∀ p H' m n,1 ≤ n→n ≤ 4→ToldM.Ok n n m→Same H H'→ToldAt K H' p m→Q (.ref p) H'
end L2
namespace L2
open PySem PySem.Spec PyProof.Rows Mth
section
variable {H : Hp} {p pm ps pt pf psc pb : Addr}
theorem tget_marks (h : H p = some (.dK (toldKV pm ps pt pf psc pb))) : DGet H p (.str "marks") (some (.ref pm)):=DGet.k (k:=.inr "marks") h
theorem tget_sky (h : H p = some (.dK (toldKV pm ps pt pf psc pb))) : DGet H p (.str "sky") (some (.ref ps)):=DGet.k (k:=.inr "sky") h
theorem tget_stoves (h : H p = some (.dK (toldKV pm ps pt pf psc pb))) : DGet H p (.str "stoves") (some (.ref pt)):=DGet.k (k:=.inr "stoves") h
theorem tget_flows (h : H p = some (.dK (toldKV pm ps pt pf psc pb))) : DGet H p (.str "flows") (some (.ref pf)):=DGet.k (k:=.inr "flows") h
theorem tget_scale (h : H p = some (.dK (toldKV pm ps pt pf psc pb))) : DGet H p (.str "scale") (some (.ref psc)):=DGet.k (k:=.inr "scale") h
theorem tget_bounds (h : H p = some (.dK (toldKV pm ps pt pf psc pb))) : DGet H p (.str "bounds") (some (.ref pb)):=DGet.k (k:=.inr "bounds") h
end
theorem atI_int {l : List Int} {j : Nat} (h : j < l.length) : atI (l.map V.int) ((0 : Int) + (j : Int)) = some (.int l[j]):=by
 rw [Int.zero_add]
 exact atI_nat (by rw [List.getElem?_map,List.getElem?_eq_getElem h]; rfl)
theorem most_at {n : Nat} (h1 : 1 ≤ n) (h4 : n ≤ 4) {x : Int} (e : x = (n : Int) - 1) : atI [V.int 6,.int 6,.int 4,.int 4] x = some (.int (if n ≤ 2 then 6 else 4)):=by
 subst e
 match n,h1,h4 with
 | 1,_,_ => rfl
 | 2,_,_ => rfl
 | 3,_,_ => rfl
 | 4,_,_ => rfl
theorem rising_snoc {l : List Int} {j : Nat} {z : Int} (h : risingI l) (hl : l.length = j + 1) (hz : l[j]'(by omega) < z) : risingI (l ++ [z]):=by
 intro i x y hx hy
 by_cases hi : i + 1 < l.length
 · rw [List.getElem?_append_left (by omega)] at hx
   rw [List.getElem?_append_left hi] at hy
   exact h i x y hx hy
 · have hi2 : i + 1 < (l ++ [z]).length:=(List.getElem?_eq_some_iff.mp hy).1
   rw [List.length_append,List.length_singleton] at hi2
   have e : i = j:=by omega
   subst e
   rw [List.getElem?_append_left (by omega),List.getElem?_eq_getElem (by omega)] at hx
   rw [List.getElem?_append_right (by omega),hl,Nat.sub_self] at hy
   have hx:=Option.some.inj hx
   have hy : z = y:=Option.some.inj hy
   rw [← hx,← hy]
   exact hz
theorem ToldM.Ok.marks {n i : Nat} {m : ToldM} {l : List Int} {z : Int × Int × Int} {t : Option (Int × Int × Int × Int)} {fl : Nat→Nat→Option Int} (h : m.Ok n i) (hl : RowOk n l)
   (hz : (0 ≤ z.1∧z.1 ≤ 3)∧(-30 ≤ z.2.1∧z.2.1 ≤ 30)∧z.2.1 ≤ z.2.2∧z.2.2 ≤ z.2.1 + 30) (ht : ∀ y,t = some y→StI y) (hf : ∀ a b,a < i + 1→b < n→a ≠ b→∃ k,fl a b = some k∧0 ≤ k∧k ≤ 3) :
   ToldM.Ok n (i + 1) { m with marks:=m.marks ++ [l],sky:=m.sky ++ [z],stoves:=m.stoves ++ [t],flows:=fl }:=by
 refine ⟨?_,?_,?_,fun x hx => ?_,fun x hx => ?_,fun x hx => ?_,hf,h.scale,h.bounds⟩
 · show (m.marks ++ [l]).length = _
   rw [List.length_append,h.lm]; rfl
 · show (m.sky ++ [z]).length = _
   rw [List.length_append,h.ls]; rfl
 · show (m.stoves ++ [t]).length = _
   rw [List.length_append,h.lt]; rfl
 · rcases List.mem_append.mp hx with q | q
   · exact h.rows x q
   · rw [List.mem_singleton.mp q]; exact hl
 · rcases List.mem_append.mp hx with q | q
   · exact h.sky x q
   · rw [List.mem_singleton.mp q]; exact hz
 · rcases List.mem_append.mp hx with q | q
   · exact h.stoves x q
   · exact ht x (List.mem_singleton.mp q).symm
end L2
namespace L2
open PySem PySem.Spec PyProof.Rows Mth
theorem dn_ints {K : PySem.W.Frag} {H : Hp} : ∀ l : List Int,DnA K H (l.map PyData.int) (l.map V.int)
 | [] => rfl
 | x :: l => ⟨.int x,l.map V.int,rfl,rfl,dn_ints l⟩
theorem TC.notin {K : PySem.W.Frag} {H : Hp} {p pm ps pt pf psc pb b : Addr} {vm vs vt : List V} {kvs : List (List Key × V)} {m : ToldM} (c : TC K H p pm ps pt pf psc pb vm vs vt kvs m) (h : H b = none) : b ∉ [p,pm,ps,pt,pf]:=by
 simp only [List.mem_cons,List.not_mem_nil,or_false,not_or]
 exact ⟨(ne_of_none c.hp h).symm,(ne_of_none c.hpm h).symm,(ne_of_none c.hps h).symm,(ne_of_none c.hpt h).symm,(ne_of_none c.hpf h).symm⟩
def StV (H : Hp) (t : Option (Int × Int × Int × Int)) (x : V) (H' : Hp) : Prop:=(t = none∧x = .non∧H' = H) ∨ ∃ p z,t = some z∧x = .ref p∧H p = none∧StI z∧H' = upd H p (.tup (stoveI z))
theorem StV.same {H H' : Hp} {t : Option (Int × Int × Int × Int)} {x : V} (h : StV H t x H') : Same H H':=by
 rcases h with ⟨_,_,rfl⟩ | ⟨p,z,_,_,hp,_,rfl⟩
 · exact Same.refl _
 · exact same_upd hp
theorem StV.ok {H H' : Hp} {t : Option (Int × Int × Int × Int)} {x : V} (h : StV H t x H') : ∀ y,t = some y→StI y:=by
 rcases h with ⟨rfl,_,_⟩ | ⟨p,z,rfl,_,hp,hz,_⟩
 · exact nofun
 · intro y e; cases e; exact hz
theorem StV.dn {K : PySem.W.Frag} {H H' : Hp} {t : Option (Int × Int × Int × Int)} {x : V} {L : List Addr} (h : StV H t x H') (n : ∀ b,H b = none→b ∉ L) : Dn K (cutH H' L) (stI t) x:=by
 rcases h with ⟨rfl,rfl,_⟩ | ⟨p,z,rfl,rfl,hp,hz,rfl⟩
 · rfl
 · exact dn_tup (SqT.of (cut_at upd_same (n p hp))) (dn_cons rfl (dn_cons rfl (dn_cons rfl (dn_cons rfl dn_nil))))
end L2
namespace L2
open PySem PySem.Spec PyProof.Rows Mth
theorem TC.stn {K : PySem.W.Frag} {H : Hp} {p pm ps pt pf psc pb : Addr} {vm vs vt : List V} {kvs : List (List Key × V)} {m : ToldM} (_ : TC K H p pm ps pt pf psc pb vm vs vt kvs m) : StV H none .non H:=.inl ⟨rfl,rfl,rfl⟩
end L2
namespace Mth
def Ov (W k : Int) (f : Int × Int) : Prop:=f.1 * W = k * f.2∧0 < f.2
theorem Ov.nf {W k : Int} (h : 0 < W) : Ov W k (nf k W):=by
 have F:=nf_fr (t:=k) h
 exact ⟨F.cross,F.pos⟩
theorem ov_one {W : Int} : Ov W W (1,1):=⟨by show 1 * W = W * 1; omega,by decide⟩
theorem ov_zero {W : Int} : Ov W 0 (0,1):=⟨by show 0 * W = 0 * 1; omega,by decide⟩
theorem Ov.minus {W a b : Int} {x y : Int × Int} (h : Ov W a x) (k : Ov W b y) : Ov W (a - b) (minusM x y):=by
 have F:=nf_fr (t:=x.1 * y.2 - y.1 * x.2) (b:=x.2 * y.2) (Int.mul_pos h.2 k.2)
 refine ⟨?_,F.pos⟩
 have c:=F.cross
 have hx:=h.1
 have hy:=k.1
 have pp : 0 < x.2 * y.2:=Int.mul_pos h.2 k.2
 show (Mth.nf (x.1 * y.2 - y.1 * x.2) (x.2 * y.2)).1 * W = (a - b) * (Mth.nf (x.1 * y.2 - y.1 * x.2) (x.2 * y.2)).2
 generalize (Mth.nf (x.1 * y.2 - y.1 * x.2) (x.2 * y.2)).1 = q at c ⊢
 generalize (Mth.nf (x.1 * y.2 - y.1 * x.2) (x.2 * y.2)).2 = r at c ⊢
 refine Int.eq_of_mul_eq_mul_right (Int.ne_of_gt pp) ?_
 have e1 : x.1 * y.2 * W = a * (x.2 * y.2):=by rw [Int.mul_right_comm,hx,Int.mul_assoc]
 have e2 : y.1 * x.2 * W = b * (x.2 * y.2):=by rw [Int.mul_right_comm,hy,Int.mul_assoc,Int.mul_comm y.2]
 calc q * W * (x.2 * y.2) = (q * (x.2 * y.2)) * W:=by rw [Int.mul_right_comm]
   _ = (x.1 * y.2 - y.1 * x.2) * r * W:=by rw [c]
   _ = ((x.1 * y.2 - y.1 * x.2) * W) * r:=by rw [Int.mul_right_comm]
   _ = (a * (x.2 * y.2) - b * (x.2 * y.2)) * r:=by rw [Int.sub_mul,e1,e2]
   _ = (a - b) * r * (x.2 * y.2):=by rw [← Int.sub_mul,Int.mul_right_comm]
theorem Ov.plus {W a b : Int} {x y : Int × Int} (h : Ov W a x) (k : Ov W b y) : Ov W (a + b) (plusM x y):=by
 have F:=nf_fr (t:=x.1 * y.2 + y.1 * x.2) (b:=x.2 * y.2) (Int.mul_pos h.2 k.2)
 refine ⟨?_,F.pos⟩
 have c:=F.cross
 have hx:=h.1
 have hy:=k.1
 have pp : 0 < x.2 * y.2:=Int.mul_pos h.2 k.2
 show (Mth.nf (x.1 * y.2 + y.1 * x.2) (x.2 * y.2)).1 * W = (a + b) * (Mth.nf (x.1 * y.2 + y.1 * x.2) (x.2 * y.2)).2
 generalize (Mth.nf (x.1 * y.2 + y.1 * x.2) (x.2 * y.2)).1 = q at c ⊢
 generalize (Mth.nf (x.1 * y.2 + y.1 * x.2) (x.2 * y.2)).2 = r at c ⊢
 refine Int.eq_of_mul_eq_mul_right (Int.ne_of_gt pp) ?_
 have e1 : x.1 * y.2 * W = a * (x.2 * y.2):=by rw [Int.mul_right_comm,hx,Int.mul_assoc]
 have e2 : y.1 * x.2 * W = b * (x.2 * y.2):=by rw [Int.mul_right_comm,hy,Int.mul_assoc,Int.mul_comm y.2]
 calc q * W * (x.2 * y.2) = (q * (x.2 * y.2)) * W:=by rw [Int.mul_right_comm]
   _ = (x.1 * y.2 + y.1 * x.2) * r * W:=by rw [c]
   _ = ((x.1 * y.2 + y.1 * x.2) * W) * r:=by rw [Int.mul_right_comm]
   _ = (a * (x.2 * y.2) + b * (x.2 * y.2)) * r:=by rw [Int.add_mul,e1,e2]
   _ = (a + b) * r * (x.2 * y.2):=by rw [← Int.add_mul,Int.mul_right_comm]
theorem Ov.under {W a b : Int} {x y : Int × Int} (hW : 0 < W) (h : Ov W a x) (k : Ov W b y) : underM x y = decide (a < b):=by
 unfold underM
 refine decide_eq_decide.mpr ?_
 have pp : 0 < x.2 * y.2:=Int.mul_pos h.2 k.2
 have e1 : x.1 * y.2 * W = a * (x.2 * y.2):=by rw [Int.mul_right_comm,h.1,Int.mul_assoc]
 have e2 : y.1 * x.2 * W = b * (x.2 * y.2):=by rw [Int.mul_right_comm,k.1,Int.mul_assoc,Int.mul_comm y.2]
 constructor
 · intro l
   have:=Int.mul_lt_mul_of_pos_right l hW
   rw [e1,e2] at this
   exact Int.lt_of_mul_lt_mul_right this (Int.le_of_lt pp)
 · intro l
   have:=Int.mul_lt_mul_of_pos_right l pp
   rw [← e1,← e2] at this
   exact Int.lt_of_mul_lt_mul_right this (Int.le_of_lt hW)
end Mth
namespace L2
open PySem PySem.Spec PyProof.Rows Mth
def sumF (fl : Nat→Nat→Int) (i : Nat) : Nat→Int
 | 0 => 0
 | t + 1 => sumF fl i t + fl i t
structure ShOk (W : Int) (sk : Nat→Int) (fl : Nat→Nat→Int) (m : HoldM) : Prop where
 sky : ∀ i,Ov W (sk i) (m.skyS i)
 flow : ∀ i j,Ov W (fl i j) (m.flow i j)
theorem ShOk.ownTo {W : Int} {sk : Nat→Int} {fl : Nat→Nat→Int} {m : HoldM} (h : ShOk W sk fl m) (i : Nat) : ∀ t,Ov W (W - sk i - sumF fl i t) (m.ownTo i t)
 | 0 => by
   have:=(ov_one (W:=W)).minus (h.sky i)
   have e : W - sk i - sumF fl i 0 = W - sk i:=by show W - sk i - 0 = _; omega
   rw [e]
   exact this
 | t + 1 => by
   rw [HoldM.ownTo_succ]
   have:=(h.ownTo i t).minus (h.flow i t)
   have e : W - sk i - sumF fl i (t + 1) = W - sk i - sumF fl i t - fl i t:=by show W - sk i - (sumF fl i t + fl i t) = _; omega
   rw [e]
   exact this
theorem ShOk.own {W : Int} {sk : Nat→Int} {fl : Nat→Nat→Int} {m : HoldM} (h : ShOk W sk fl m) (i : Nat) : Ov W (W - sk i - sumF fl i m.rows.length) (m.own i):=h.ownTo i _
theorem ShOk.skyFits {W k : Int} {sk : Nat→Int} {fl : Nat→Nat→Int} {m : HoldM} {f : Fra} {i : Nat} (hW : 0 < W) (h : ShOk W sk fl m) (hf : Ov W k f) (le : k ≤ W - sumF fl i m.rows.length) : underM (plusM (m.own i) (m.skyS i)) f = false:=by
 rw [((h.own i).plus (h.sky i)).under hW hf]
 exact decide_eq_false (by omega)
theorem ShOk.flowFits {W k : Int} {sk : Nat→Int} {fl : Nat→Nat→Int} {m : HoldM} {f : Fra} {i j : Nat} (hW : 0 < W) (h : ShOk W sk fl m) (hf : Ov W k f) (le : k ≤ W - sk i - sumF fl i m.rows.length + fl i j) : underM (plusM (m.own i) (m.flow i j)) f = false:=by
 rw [((h.own i).plus (h.flow i j)).under hW hf]
 exact decide_eq_false (by omega)
theorem flow_setFlow {m : HoldM} {i j a b : Nat} {f : Fra} : (m.setFlow i j f).flow a b = if a = i∧b = j then f else m.flow a b:=by
 unfold HoldM.flow HoldM.setFlow
 by_cases e : a = i∧b = j
 · rw [if_pos e]
   show ((if (a : Int) = (i : Int)∧(b : Int) = (j : Int) then some f else m.flows a b)).getD (0,1) = f
   rw [if_pos (by omega)]; rfl
 · rw [if_neg e]
   show ((if (a : Int) = (i : Int)∧(b : Int) = (j : Int) then some f else m.flows a b)).getD (0,1) = _
   rw [if_neg (by omega)]
theorem ShOk.setFlow {W k : Int} {sk : Nat→Int} {fl : Nat→Nat→Int} {m : HoldM} {f : Fra} {i j : Nat} (h : ShOk W sk fl m) (hf : Ov W k f) : ShOk W sk (fun a b => if a = i∧b = j then k else fl a b) (m.setFlow i j f):=by
 refine ⟨fun a => h.sky a,fun a b => ?_⟩
 rw [flow_setFlow]
 by_cases e : a = i∧b = j
 · simp only [if_pos e]; exact hf
 · simp only [if_neg e]; exact h.flow a b
theorem skyS_setSky {m : HoldM} {i a : Nat} {z : Fra × Fra × Fra} (hi : i < m.skies.length) : (m.setSky i z).skyS a = if a = i then z.1 else m.skyS a:=by
 unfold HoldM.skyS HoldM.setSky
 by_cases e : a = i
 · subst e
   rw [if_pos rfl]
   show (((m.skies.set a z)[a]?).map (·.1)).getD (0,1) = _
   rw [List.getElem?_set_self hi]; rfl
 · rw [if_neg e]
   show (((m.skies.set i z)[a]?).map (·.1)).getD (0,1) = _
   rw [List.getElem?_set_ne (fun x => e x.symm)]
theorem ShOk.setSky {W k : Int} {sk : Nat→Int} {fl : Nat→Nat→Int} {m : HoldM} {z : Fra × Fra × Fra} {i : Nat} (h : ShOk W sk fl m) (hi : i < m.skies.length) (hf : Ov W k z.1) : ShOk W (fun a => if a = i then k else sk a) fl (m.setSky i z):=by
 refine ⟨fun a => ?_,fun a b => h.flow a b⟩
 rw [skyS_setSky hi]
 by_cases e : a = i
 · simp only [if_pos e]; exact hf
 · simp only [if_neg e]; exact h.sky a
theorem ShOk.new {W : Int} {most cap load : Int} : ShOk W (fun _ => 0) (fun _ _ => 0) (HoldM.new most cap load):=⟨fun _ => ov_zero,fun _ _ => ov_zero⟩
theorem ShOk.addRoom {W : Int} {sk : Nat→Int} {fl : Nat→Nat→Int} {m : HoldM} {r : List Fra} (h : ShOk W sk fl m) (hs : ∀ i,m.skies.length ≤ i→sk i = 0) : ShOk W sk fl (m.addRoom r):=by
 refine ⟨fun a => ?_,fun a b => h.flow a b⟩
 by_cases e : a < m.skies.length
 · have : (m.addRoom r).skyS a = m.skyS a:=by
     show (((m.skies ++ [((0,1),(0,1),(0,1))])[a]?).map (·.1)).getD (0,1) = ((m.skies[a]?).map (·.1)).getD (0,1)
     rw [List.getElem?_append_left e]
   rw [this]
   exact h.sky a
 · have : (m.addRoom r).skyS a = (0,1):=by
     show (((m.skies ++ [((0,1),(0,1),(0,1))])[a]?).map (·.1)).getD (0,1) = (0,1)
     rw [List.getElem?_append_right (by omega)]
     cases q : a - m.skies.length with
     | zero => rfl
     | succ n => rfl
   rw [this,hs a (by omega)]
   exact ov_zero
theorem ShOk.setStove {W : Int} {sk : Nat→Int} {fl : Nat→Nat→Int} {m : HoldM} {i : Nat} {z : Fra × Int × Int × Int} (h : ShOk W sk fl m) : ShOk W sk fl (m.setStove i z):=⟨fun a => h.sky a,fun a b => h.flow a b⟩
theorem sumF_le {fl : Nat→Nat→Int} {t : Int} {i n : Nat} (hn : n ≤ 4) (ht : 0 ≤ t) (h : ∀ j,0 ≤ fl i j∧fl i j ≤ t) (h0 : fl i i = 0) (hi : i < n) : 0 ≤ sumF fl i n∧sumF fl i n ≤ 3 * t:=by
 have a0:=h 0
 have a1:=h 1
 have a2:=h 2
 have a3:=h 3
 match n,hn with
 | 0,_ => omega
 | 1,_ => simp only [sumF]; omega
 | 2,_ => simp only [sumF]; omega
 | 3,_ => simp only [sumF]; omega
 | 4,_ =>
   have : i = 0 ∨ i = 1 ∨ i = 2 ∨ i = 3:=by omega
   rcases this with rfl | rfl | rfl | rfl <;> simp only [sumF] <;> omega
end L2
namespace L2
open PySem PySem.Spec PyProof.Rows Mth
def ToldM.row (tm : ToldM) (l : List Int) : List Fra:=l.map fun x => warmM x 1 tm.scale
def ToldM.m1 (tm : ToldM) (k : Nat) : HoldM:=((tm.marks.take k).map tm.row).foldl HoldM.addRoom (HoldM.new tm.bounds.1 tm.bounds.2.1 tm.bounds.2.2)
def ToldM.skyAt (tm : ToldM) (z : Int × Int × Int) : Fra × Fra × Fra:=(nf z.1 12,warmM z.2.1 1 tm.scale,warmM z.2.2 1 tm.scale)
def ToldM.stoveAt (tm : ToldM) (z : Int × Int × Int × Int) : Fra × Int × Int × Int:=(nf (z.1 * tm.scale.a) tm.scale.b,z.2.1,z.2.2.1,z.2.2.2)
def ToldM.skyStep (tm : ToldM) (m : HoldM) (i : Nat) : HoldM:=match tm.sky[i]? with | some z => m.setSky i (tm.skyAt z) | none => m
def ToldM.stoveStep (tm : ToldM) (m : HoldM) (i : Nat) : HoldM:=match tm.stoves[i]? with | some (some z) => m.setStove i (tm.stoveAt z) | _ => m
def ToldM.flowStep (tm : ToldM) (i : Nat) (m : HoldM) (j : Nat) : HoldM:=if j = i then m else match tm.flows i j with | some k => m.setFlow i j (nf k 12) | none => m
def ToldM.flowsTo (tm : ToldM) (i : Nat) (m : HoldM) (j : Nat) : HoldM:=(List.range j).foldl (tm.flowStep i) m
def ToldM.roomStep (tm : ToldM) (n : Nat) (m : HoldM) (i : Nat) : HoldM:=tm.flowsTo i (tm.stoveStep (tm.skyStep m i) i) n
def ToldM.m2 (tm : ToldM) (n k : Nat) : HoldM:=(List.range k).foldl (tm.roomStep n) (tm.m1 n)
theorem ToldM.m1_succ {tm : ToldM} {k : Nat} {l : List Int} (h : tm.marks[k]? = some l) : tm.m1 (k + 1) = (tm.m1 k).addRoom (tm.row l):=by
 unfold ToldM.m1
 rw [List.take_succ,h,List.map_append,List.foldl_append]; rfl
theorem ToldM.m2_succ (tm : ToldM) (n k : Nat) : tm.m2 n (k + 1) = tm.roomStep n (tm.m2 n k) k:=by
 unfold ToldM.m2
 rw [List.range_succ,List.foldl_append]; rfl
theorem ToldM.flowsTo_succ (tm : ToldM) (i : Nat) (m : HoldM) (j : Nat) : tm.flowsTo i m (j + 1) = tm.flowStep i (tm.flowsTo i m j) j:=by
 unfold ToldM.flowsTo
 rw [List.range_succ,List.foldl_append]; rfl
theorem bands_le {n : Nat} {b : Nat} (hb : b = if n ≤ 2 then 6 else 4) (hn : n ≤ 4) : ∀ {rs : List (List Fra)},(∀ r ∈ rs,1 ≤ r.length∧r.length ≤ b + 1)→rs.length ≤ n→0 ≤ bandsM rs∧bandsM rs ≤ 400:=by
 intro rs h hl
 have key : ∀ (rs : List (List Fra)) (p : Int),(∀ r ∈ rs,1 ≤ r.length∧r.length ≤ b + 1)→0 ≤ p→0 ≤ rs.foldl (fun p r => p * ((r.length : Int) - 1)) p∧rs.foldl (fun p r => p * ((r.length : Int) - 1)) p ≤ p * (b : Int) ^ rs.length:=by
   intro rs
   induction rs with
   | nil => intro p _ hp; exact ⟨hp,by simp⟩
   | cons r rs ih =>
     intro p h hp
     have hr:=h r List.mem_cons_self
     have p0 : 0 ≤ p * ((r.length : Int) - 1):=Int.mul_nonneg hp (by omega)
     obtain ⟨a,c⟩:=ih (p * ((r.length : Int) - 1)) (fun x hx => h x (List.mem_cons_of_mem _ hx)) p0
     refine ⟨a,Int.le_trans c ?_⟩
     have bp : 0 ≤ (b : Int) ^ rs.length:=Int.pow_nonneg (by omega)
     have e : p * ((r.length : Int) - 1) ≤ p * (b : Int):=Int.mul_le_mul_of_nonneg_left (by omega) hp
     have:=Int.mul_le_mul_of_nonneg_right e bp
     have e3 : p * (b : Int) ^ (r :: rs).length = p * (b : Int) * (b : Int) ^ rs.length:=by rw [List.length_cons,Int.pow_succ,← Int.mul_assoc,Int.mul_right_comm]
     rw [e3]
     exact this
 obtain ⟨a,c⟩:=key rs 1 h (by decide)
 refine ⟨a,Int.le_trans c ?_⟩
 rw [Int.one_mul]
 have hbn : (b : Int) ^ n ≤ 400:=by
   subst hb
   match n,hn with
   | 0,_ => decide
   | 1,_ => decide
   | 2,_ => decide
   | 3,_ => decide
   | 4,_ => decide
 have hb1 : (1 : Int) ≤ (b : Int):=by subst hb; split <;> omega
 have mono : ∀ d k : Nat,(b : Int) ^ k ≤ (b : Int) ^ (k + d):=by
   intro d k
   induction d with
   | zero => exact Int.le_refl _
   | succ d ih =>
     refine Int.le_trans ih ?_
     rw [← Nat.add_assoc,Int.pow_succ]
     have bp : 0 ≤ (b : Int) ^ (k + d):=Int.pow_nonneg (by omega)
     have:=Int.mul_le_mul_of_nonneg_left hb1 bp
     omega
 have:=mono (n - rs.length) rs.length
 rw [show rs.length + (n - rs.length) = n by omega] at this
 omega
theorem row_rising {tm : ToldM} {l : List Int} (ok : tm.scale.Ok) (h : risingI l) : risingM (tm.row l) = true:=by
 unfold risingM
 rw [List.all_eq_true]
 intro b hb
 obtain ⟨i,hi⟩:=List.mem_iff_getElem?.mp hb
 rw [List.getElem?_zipWith] at hi
 unfold ToldM.row at hi
 rw [List.getElem?_tail,List.getElem?_map,List.getElem?_map] at hi
 cases e1 : l[i]? with
 | none => rw [e1] at hi; simp at hi
 | some x =>
   cases e2 : l[i + 1]? with
   | none => rw [e1,e2] at hi; simp at hi
   | some y =>
     rw [e1,e2] at hi
     have hi : underM (warmM x 1 tm.scale) (warmM y 1 tm.scale) = b:=by simpa using hi
     rw [← hi,warm_under ok (by decide)]
     exact decide_eq_true (h i x y e1 e2)
theorem row_ok {tm : ToldM} {n : Nat} {l : List Int} (ok : tm.scale.Ok) (h : RowOk n l) : ∀ f ∈ tm.row l,OkF 100 f:=by
 intro f hf
 obtain ⟨x,hx,rfl⟩:=List.mem_map.mp hf
 have:=h.bd x hx
 exact (warm_ok (n:=8) ok (by decide) (show x.natAbs < 2 ^ 8 by omega) bdd).mono (by decide)
theorem Deed.keep {K : PySem.W.Frag} {C : Addr} {H0 H H' : Hp} {a : Addr} {fp fp' : List Addr} {m' : HoldM} (S : Same H0 H) (n : ∀ b ∈ fp,H0 b = none) (D : Deed K C H a fp m' H' fp') : Same H0 H'∧∀ b ∈ fp',H0 b = none:=by
 refine ⟨fun b o h => D.but b o (S b o h) fun q => ?_,fun b hb => ?_⟩
 · rw [n b q] at h; cases h
 · rcases D.own b hb with q | q
   · exact n b q
   · exact S.free q
structure Kp (m m' : HoldM) : Prop where
 rows : m'.rows = m.rows
 most : m'.most = m.most
 cap : m'.cap = m.cap
 load : m'.load = m.load
theorem Kp.refl (m : HoldM) : Kp m m:=⟨rfl,rfl,rfl,rfl⟩
theorem Kp.trans {m m1 m2 : HoldM} (a : Kp m m1) (b : Kp m1 m2) : Kp m m2:=⟨b.rows.trans a.rows,b.most.trans a.most,b.cap.trans a.cap,b.load.trans a.load⟩
theorem kp_fold {α : Type} {f : HoldM→α→HoldM} (h : ∀ m x,Kp m (f m x)) : ∀ (l : List α) (m : HoldM),Kp m (l.foldl f m)
 | [],m => .refl m
 | x :: l,m => (h m x).trans (kp_fold h l (f m x))
theorem kp_sky (tm : ToldM) (m : HoldM) (i : Nat) : Kp m (tm.skyStep m i):=by
 unfold ToldM.skyStep
 split
 · exact ⟨rfl,rfl,rfl,rfl⟩
 · exact .refl m
theorem kp_stove (tm : ToldM) (m : HoldM) (i : Nat) : Kp m (tm.stoveStep m i):=by
 unfold ToldM.stoveStep
 split
 · exact ⟨rfl,rfl,rfl,rfl⟩
 · exact .refl m
theorem kp_flow (tm : ToldM) (i : Nat) (m : HoldM) (j : Nat) : Kp m (tm.flowStep i m j):=by
 unfold ToldM.flowStep
 split
 · exact .refl m
 · split
   · exact ⟨rfl,rfl,rfl,rfl⟩
   · exact .refl m
theorem kp_room (tm : ToldM) (n : Nat) (m : HoldM) (i : Nat) : Kp m (tm.roomStep n m i) :=
 ((kp_sky tm m i).trans (kp_stove tm _ i)).trans (kp_fold (kp_flow tm i) _ _)
theorem kp_m2 (tm : ToldM) (n k : Nat) : Kp (tm.m1 n) (tm.m2 n k):=kp_fold (kp_room tm n) _ _
theorem addRooms : ∀ (rs : List (List Fra)) (m : HoldM),(rs.foldl HoldM.addRoom m).rows = m.rows ++ rs∧(rs.foldl HoldM.addRoom m).most = m.most∧(rs.foldl HoldM.addRoom m).cap = m.cap∧(rs.foldl HoldM.addRoom m).load = m.load
 | [],m => ⟨by simp,rfl,rfl,rfl⟩
 | r :: rs,m => by
   obtain ⟨a,b,c,d⟩:=addRooms rs (m.addRoom r)
   refine ⟨?_,b,c,d⟩
   show (rs.foldl HoldM.addRoom (m.addRoom r)).rows = _
   rw [a]
   show (m.rows ++ [r]) ++ rs = _
   simp
theorem m2_facts (tm : ToldM) (n k : Nat) : (tm.m2 n k).rows = (tm.marks.take n).map tm.row∧(tm.m2 n k).most = tm.bounds.1∧(tm.m2 n k).cap = tm.bounds.2.1∧(tm.m2 n k).load = tm.bounds.2.2:=by
 have q:=kp_m2 tm n k
 obtain ⟨a,b,c,d⟩:=addRooms ((tm.marks.take n).map tm.row) (HoldM.new tm.bounds.1 tm.bounds.2.1 tm.bounds.2.2)
 exact ⟨q.rows.trans a,q.most.trans b,q.cap.trans c,q.load.trans d⟩
end L2
namespace L2
open PySem PySem.Spec PyProof.Rows Mth
theorem dn_ints_inv {K : PySem.W.Frag} {H : Hp} : ∀ {l : List Int} {ws : List V},DnA K H (l.map PyData.int) ws→ws = l.map V.int
 | [],_,h => h
 | x :: l,_,h => by
   obtain ⟨y,r,rfl,e,t⟩:=h
   have e : y = .int x:=e
   rw [e,dn_ints_inv t]; rfl
theorem fr_flat {α : Type} (l : List α) (g : α→Fra) : ∀ d ∈ l.map (fun x => frD (g x)),flatD d = true:=fun d hd => by
 obtain ⟨x,_,rfl⟩:=List.mem_map.mp hd
 exact flat_fr _
theorem row_len {tm : ToldM} {n : Nat} (ok : tm.Ok n n) : ∀ r ∈ tm.marks.map tm.row,1 ≤ r.length∧r.length ≤ (if n ≤ 2 then 6 else 4) + 1:=by
 intro r hr
 obtain ⟨l,hl,rfl⟩:=List.mem_map.mp hr
 have:=ok.rows l hl
 have h1:=this.two
 have h2:=this.most
 unfold ToldM.row
 rw [List.length_map]
 split at h2 <;> rename_i hc <;> simp only [hc,if_true,if_false] <;> omega
end L2
namespace L2
open PySem PySem.Spec PyProof.Rows Mth
theorem Ov.nonneg {W k : Int} {f : Fra} (hW : 0 < W) (h : Ov W k f) (hk : 0 ≤ k) : 0 ≤ f.1:=by
 have e:=h.1
 have : 0 ≤ f.1 * W:=by rw [e]; exact Int.mul_nonneg hk (Int.le_of_lt h.2)
 exact Int.nonneg_of_mul_nonneg_left this hW
theorem nf_ok {t b : Int} (hb : 0 < b) (h1 : Bd 100 t) (h2 : Bd 100 b) : OkF 100 (nf t b):=by
 have F:=nf_fr (t:=t) hb
 exact ⟨F.bdq h1,F.bdr h2,F.pos⟩
theorem fr_nf {H : Hp} {u : Addr} {t b q r : Int} {K : PySem.W.Frag} (hb : 0 < b) (F : Fr t b q r) (hu : H u = some (.tup [.int q,.int r])) : Dn K H (frD (nf t b)) (.ref u):=by
 have e:=F.nf hb
 have e1 : q = (nf t b).1:=congrArg Prod.fst e
 have e2 : r = (nf t b).2:=congrArg Prod.snd e
 rw [e1,e2] at hu
 exact dn_fr (SqT.of hu)
theorem m1_sh {W : Int} {tm : ToldM} : ∀ (ls : List (List Fra)) (m : HoldM),ShOk W (fun _ => 0) (fun _ _ => 0) m→ShOk W (fun _ => 0) (fun _ _ => 0) (ls.foldl HoldM.addRoom m)
 | [],_,h => h
 | _ :: ls,_,h => m1_sh (tm:=tm) ls _ (h.addRoom fun _ _ => rfl)
theorem ToldM.m1_ok {W : Int} (tm : ToldM) (k : Nat) : ShOk W (fun _ => 0) (fun _ _ => 0) (tm.m1 k):=m1_sh (tm:=tm) _ _ ShOk.new
structure SF (sk : Nat→Int) (fl : Nat→Nat→Int) : Prop where
 hsk : ∀ a,0 ≤ sk a∧sk a ≤ 3
 hfl : ∀ a b,0 ≤ fl a b∧fl a b ≤ 3
 hno : ∀ a,fl a a = 0
def Tw (m : HoldM) : Prop:=∃ sk fl,ShOk 12 sk fl m∧SF sk fl
theorem Tw.sky {m : HoldM} {i : Nat} {z : Fra × Fra × Fra} {k : Int} (h : Tw m) (hi : i < m.skies.length) (hf : Ov 12 k z.1) (k0 : 0 ≤ k) (k3 : k ≤ 3) : Tw (m.setSky i z):=by
 obtain ⟨sk,fl,S,F⟩:=h
 refine ⟨_,_,S.setSky hi hf,⟨fun a => ?_,F.hfl,F.hno⟩⟩
 show 0 ≤ (if a = i then k else sk a)∧(if a = i then k else sk a) ≤ 3
 split
 · exact ⟨k0,k3⟩
 · exact F.hsk a
theorem Tw.flow {m : HoldM} {i j : Nat} {f : Fra} {k : Int} (h : Tw m) (hij : i ≠ j) (hf : Ov 12 k f) (k0 : 0 ≤ k) (k3 : k ≤ 3) : Tw (m.setFlow i j f):=by
 obtain ⟨sk,fl,S,F⟩:=h
 refine ⟨_,_,S.setFlow hf,⟨F.hsk,fun a b => ?_,fun a => ?_⟩⟩
 · show 0 ≤ (if a = i∧b = j then k else fl a b)∧(if a = i∧b = j then k else fl a b) ≤ 3
   split
   · exact ⟨k0,k3⟩
   · exact F.hfl a b
 · show (if a = i∧a = j then k else fl a a) = 0
   rw [if_neg (by omega)]
   exact F.hno a
theorem Tw.stove {m : HoldM} {i : Nat} {z : Fra × Int × Int × Int} (h : Tw m) : Tw (m.setStove i z):=by
 obtain ⟨sk,fl,S,F⟩:=h
 exact ⟨sk,fl,S.setStove,F⟩
theorem Tw.skyFits {m : HoldM} {i : Nat} {f : Fra} {k : Int} (h : Tw m) (hi : i < m.rows.length) (h4 : m.rows.length ≤ 4) (hf : Ov 12 k f) (k3 : k ≤ 3) : underM (plusM (m.own i) (m.skyS i)) f = false:=by
 obtain ⟨sk,fl,S,F⟩:=h
 have:=sumF_le h4 (t:=3) (by decide) (F.hfl i) (F.hno i) hi
 exact S.skyFits (by decide) hf (by omega)
theorem sumF_but {fl : Nat→Nat→Int} {i j n : Nat} (hn : n ≤ 4) (h : ∀ b,0 ≤ fl i b∧fl i b ≤ 3) (h0 : fl i i = 0) (hi : i < n) (hj : j < n) (hij : i ≠ j) : sumF fl i n - fl i j ≤ 6:=by
 have a0:=h 0
 have a1:=h 1
 have a2:=h 2
 have a3:=h 3
 have ci : i = 0 ∨ i = 1 ∨ i = 2 ∨ i = 3:=by omega
 have cj : j = 0 ∨ j = 1 ∨ j = 2 ∨ j = 3:=by omega
 match n,hn with
 | 0,_ => omega
 | 1,_ => omega
 | 2,_ => rcases ci with rfl | rfl | rfl | rfl <;> rcases cj with rfl | rfl | rfl | rfl <;> simp only [sumF] <;> omega
 | 3,_ => rcases ci with rfl | rfl | rfl | rfl <;> rcases cj with rfl | rfl | rfl | rfl <;> simp only [sumF] <;> omega
 | 4,_ => rcases ci with rfl | rfl | rfl | rfl <;> rcases cj with rfl | rfl | rfl | rfl <;> simp only [sumF] <;> omega
theorem Tw.flowFits {m : HoldM} {i j : Nat} {f : Fra} {k : Int} (h : Tw m) (hi : i < m.rows.length) (hj : j < m.rows.length) (hij : i ≠ j) (h4 : m.rows.length ≤ 4) (hf : Ov 12 k f) (k3 : k ≤ 3) : underM (plusM (m.own i) (m.flow i j)) f = false:=by
 obtain ⟨sk,fl,S,F⟩:=h
 have:=sumF_but h4 (F.hfl i) (F.hno i) hi hj hij
 have:=F.hsk i
 exact S.flowFits (by decide) hf (by omega)
end L2
namespace L2
open PySem PySem.Spec PyProof.Rows Mth
end L2
namespace L2
open PySem PySem.Spec PyProof.Rows Mth
end L2
namespace L2
open PySem PySem.Spec PyProof.Rows Mth
section
variable {K : PySem.W.Frag} {C : Addr} {H H1 H2 : Hp} {a : Addr} {fp fp1 fp2 : List Addr} {m1 m2 : HoldM}
end
end L2
namespace L2
open PySem PySem.Spec PyProof.Rows Mth
end L2
namespace L2
open PySem PySem.Spec PyProof.Rows Mth
def sp_built (K : PySem.W.Frag) (C : Addr) : Sp:=fun vs H Q _ => ∃ p,∃ tm : ToldM,∃ n : Nat,vs = [.ref p]∧ToldAt K H p tm∧tm.Ok n n∧1 ≤ n∧n ≤ 4 ∧
 ∀ a H' fp,Same H H'→HoldAt K C H' a fp (tm.m2 n n)→(∀ b ∈ fp,H b = none)→(tm.m2 n n).rows.length = n→Tw (tm.m2 n n)→Q (.ref a) H'
end L2
namespace L2
open PySem PySem.Spec PyProof.Rows Mth
def plD : Nat→PyData→Prop
 | _,.none => True
 | _,.bool _ => True
 | _,.int _ => True
 | n + 1,.list ds => ∀ d ∈ ds,plD n d
 | n + 1,.tuple ds => ∀ d ∈ ds,plD n d
 | _,_ => False
theorem plD_all {n : Nat} (h : ∀ d,plD n d→PyData.eqv d d = true∧d.canLay0 = true∧d.depth ≤ n) : ∀ ds : List PyData,(∀ d ∈ ds,plD n d)→PyData.eqvAll ds ds = true∧PyData.canLayAll0 ds = true∧PyData.depthAll ds ≤ n
 | [],_ => by simp [PyData.eqvAll,PyData.canLayAll0,PyData.depthAll]
 | d :: ds,k => by
   obtain ⟨a,b,c⟩:=h d (k d List.mem_cons_self)
   obtain ⟨a',b',c'⟩:=plD_all h ds (fun e he => k e (List.mem_cons_of_mem _ he))
   simp only [PyData.eqvAll,PyData.canLayAll0,PyData.depthAll,a,b,a',b',Bool.and_self,true_and]
   omega
theorem plD_all3 : ∀ (n : Nat) (d : PyData),plD n d→PyData.eqv d d = true∧d.canLay0 = true∧d.depth ≤ n
 | n,.none,_ => by simp [PyData.eqv,PyData.canLay0,PyData.depth]
 | n,.bool b,_ => by simp [PyData.eqv,PyData.canLay0,PyData.depth]
 | n,.int i,_ => by simp [PyData.eqv,PyData.canLay0,PyData.depth]
 | n + 1,.list ds,h => by
   obtain ⟨a,b,c⟩:=plD_all (plD_all3 n) ds h
   simp only [PyData.eqv,PyData.canLay0,PyData.depth,a,b,true_and]
   omega
 | n + 1,.tuple ds,h => by
   obtain ⟨a,b,c⟩:=plD_all (plD_all3 n) ds h
   simp only [PyData.eqv,PyData.canLay0,PyData.depth,a,b,true_and]
   omega
 | 0,.list _,h => h.elim
 | 0,.tuple _,h => h.elim
 | 0,.str _,h => h.elim
 | _ + 1,.str _,h => h.elim
 | 0,.dict _,h => h.elim
 | _ + 1,.dict _,h => h.elim
theorem plD_shaped {n : Nat} {d : PyData} (h : plD n d) (hn : n ≤ 64) : SeqAt.shaped d = true:=by
 obtain ⟨_,b,c⟩:=plD_all3 n d h
 unfold SeqAt.shaped
 rw [b,decide_eq_true (Nat.le_trans c hn)]; rfl
theorem plD_refl {n : Nat} {d : PyData} (h : plD n d) : PyData.eqv d d = true:=(plD_all3 n d h).1
theorem pl_ints {n : Nat} {l : List Int} : plD (n + 1) (.tuple (l.map PyData.int)):=by
 intro d hd
 obtain ⟨i,_,rfl⟩:=List.mem_map.mp hd
 cases n <;> exact trivial
theorem neD_refl {K : PySem.W.Frag} {H : Hp} {x y : V} {d : PyData} {n : Nat} {Q : VK} (hx : Dn K H d x) (hy : Dn K H d y) (p : plD n d) (hn : n ≤ 64) (q : Q (.bl false) H) : rNeD K x y H Q :=
 ⟨d,d,hx,hy,plD_shaped p hn,plD_shaped p hn,by rw [plD_refl p]; exact q⟩
theorem eqD_refl {K : PySem.W.Frag} {H : Hp} {x y : V} {d : PyData} {n : Nat} {Q : VK} (hx : Dn K H d x) (hy : Dn K H d y) (p : plD n d) (hn : n ≤ 64) (q : Q (.bl true) H) : rEqD K x y H Q :=
 ⟨d,d,hx,hy,plD_shaped p hn,plD_shaped p hn,by rw [plD_refl p]; exact q⟩
theorem ix_anyK {X : Cx} {K : PySem.W.Frag} (h : X.K = K) : IxR X (rIxA K):=by
 subst h
 exact ix_any
end L2
namespace L2
open PySem PySem.Spec PyProof.Rows Mth
section
variable {K : PySem.W.Frag} {C : Addr} {H H1 H' : Hp} {a b : Addr} {fp fp' fpb L M : List Addr} {m m' mb : HoldM}
end
end L2
namespace L2
open PySem PySem.Spec PyProof.Rows Mth
end L2
namespace L2
open PySem PySem.Spec PyProof.Rows Mth
theorem vals_items : ∀ {ns : List Int} {its : List Value},Vals (ns.map V.int) its→∃ ys : List (Int × Tok),its = ys.map (fun p => Value.int p.1 p.2)∧ys.map (·.1) = ns
 | [],its,r => by cases r; exact ⟨[],rfl,rfl⟩
 | n :: ns,its,r => by
   cases r with
   | cons a b =>
     obtain ⟨t,rfl⟩:=a
     obtain ⟨ys,rfl,e⟩:=vals_items b
     exact ⟨(n,t) :: ys,rfl,by rw [List.map_cons,e]⟩
section
variable {X : Cx}
theorem call_sumL (hc : X.calm = true) : CallR X (.builtin "sum") (fun xs H Q => ∃ (p : Addr) (ns : List Int),xs = [.ref p]∧SqL X.K H p (ns.map V.int)∧∀ r : Int,r = ns.sum→Q (.int r) H):=by
 intro pins s σ H xs us Q I r h
 obtain ⟨p,ns,rfl,hq,q⟩:=h
 obtain ⟨u,rfl,r1⟩:=vals1 r
 obtain rfl : u = Value.ref p:=r1
 obtain ⟨its,rv,pl,_⟩:=I.list hq
 obtain ⟨ys,rfl,e⟩:=vals_items rv
 have hl : s.heap.IsList p (intItems ys.toArray):=by have:=pl.isList; simpa [intItems] using this
 refine sum_intListG (I.ok.hd hc) hl fun h' tk t' hk => ?_
 refine ⟨.int _,H,I.kept hk,⟨t',rfl⟩,q _ ?_⟩
 rw [preSum_eq,List.take_of_length_le (by simp),← e]
end
end L2
namespace L2
open PySem PySem.Spec PyProof.Rows Mth
theorem bt_sum : bootBuiltins "sum" = some (.builtin "sum"):=by decide +kernel
theorem bt_enumerate : bootBuiltins "enumerate" = some (.type "enumerate"):=by decide +kernel
end L2
namespace L2
open PySem PySem.Spec PyProof.Rows Mth
end L2
namespace L2
open PySem PySem.Spec PyProof.Rows Mth
end L2
namespace L2
open PySem PySem.Spec PyProof.Rows Mth
end L2
namespace L2
open PySem PySem.Spec PyProof.Rows Mth
def natD (n : Nat) : PyData:=.int (n : Int)
theorem dnA_nats {K : PySem.W.Frag} {H : Hp} : ∀ l : List Nat,DnA K H (l.map natD) (l.map natV)
 | [] => dn_nil
 | n :: l => dn_cons rfl (dnA_nats l)
theorem dn_nats {K : PySem.W.Frag} {H : Hp} {p : Addr} {l : List Nat} (h : SqL K H p (l.map natV)) : Dn K H (.list (l.map natD)) (.ref p):=dn_lst h (dnA_nats l)
theorem sz0 : ([] : List V).length ≤ sizeLine:=Nat.zero_le _
end L2
namespace L2
open PySem PySem.Spec PyProof.Rows Mth
def cutI (ns : List Int) (lo hi : Option Int) : List Int:=(ns.drop (HT.sIx ns.length 0 lo)).take (HT.sIx ns.length ns.length hi - HT.sIx ns.length 0 lo)
theorem cutV_ints (ns : List Int) (lo hi : Option Int) : cutV (ns.map V.int) lo hi = (cutI ns lo hi).map V.int:=by
 unfold cutV cutI
 rw [List.length_map,← List.map_drop,← List.map_take]
end L2
namespace L2
open PySem PySem.Spec PyProof.Rows Mth
section
variable {X : Cx} {P : Program} {w : World} {K : PySem.W.Frag} {mg : Str→Option Value} {base : Heap} {m x : Str} {p pos apos : Pos} {e o : Expr} {es : List Expr} {ta : TE} {t : TA} {k : Nat}
end
end L2
namespace L2
open PySem PySem.Spec PyProof.Rows Mth
theorem addRooms2 : ∀ (rs : List (List Fra)) (m : HoldM),(rs.foldl HoldM.addRoom m).skies = m.skies ++ List.replicate rs.length ((0,1),(0,1),(0,1))∧(rs.foldl HoldM.addRoom m).stoves = m.stoves ++ List.replicate rs.length none∧(rs.foldl HoldM.addRoom m).flows = m.flows
 | [],m => ⟨by simp,by simp,rfl⟩
 | r :: rs,m => by
   obtain ⟨a,b,c⟩:=addRooms2 rs (m.addRoom r)
   refine ⟨?_,?_,c⟩
   · show (rs.foldl HoldM.addRoom (m.addRoom r)).skies = _
     rw [a]
     show (m.skies ++ [((0,1),(0,1),(0,1))]) ++ _ = _
     rw [List.append_assoc,List.length_cons,List.replicate_succ]; rfl
   · show (rs.foldl HoldM.addRoom (m.addRoom r)).stoves = _
     rw [b]
     show (m.stoves ++ [none]) ++ _ = _
     rw [List.append_assoc,List.length_cons,List.replicate_succ]; rfl
theorem flowsTo_keep (tm : ToldM) (i : Nat) (m : HoldM) : ∀ j,(tm.flowsTo i m j).skies = m.skies∧(tm.flowsTo i m j).stoves = m.stoves∧∀ a b : Int,(tm.flowsTo i m j).flows a b = if a = (i : Int)∧0 ≤ b∧b < j∧b ≠ i then (match tm.flows i b.toNat with | some k => some (nf k 12) | none => m.flows a b) else m.flows a b
 | 0 => by
   refine ⟨rfl,rfl,fun a b => ?_⟩
   rw [if_neg (by omega)]; rfl
 | j + 1 => by
   obtain ⟨h1,h2,h3⟩:=flowsTo_keep tm i m j
   rw [ToldM.flowsTo_succ]
   unfold ToldM.flowStep
   by_cases e : j = i
   · rw [if_pos e]
     refine ⟨h1,h2,fun a b => ?_⟩
     rw [h3]
     by_cases c : a = (i : Int)∧0 ≤ b∧b < (j : Int)∧b ≠ i
     · rw [if_pos c,if_pos (by omega)]
     · rw [if_neg c,if_neg (by omega)]
   · rw [if_neg e]
     cases hf : tm.flows i j with
     | none =>
       refine ⟨h1,h2,fun a b => ?_⟩
       show (tm.flowsTo i m j).flows a b = _
       rw [h3]
       by_cases c : a = (i : Int)∧0 ≤ b∧b < (j : Int)∧b ≠ i
       · rw [if_pos c,if_pos (by omega)]
       · rw [if_neg c]
         by_cases d : a = (i : Int)∧0 ≤ b∧b < ((j + 1 : Nat) : Int)∧b ≠ i
         · rw [if_pos d]
           have : b.toNat = j:=by omega
           rw [this,hf]
         · rw [if_neg d]
     | some k =>
       refine ⟨h1,h2,fun a b => ?_⟩
       show (if a = (i : Int)∧b = (j : Int) then some (nf k 12) else (tm.flowsTo i m j).flows a b) = _
       by_cases c : a = (i : Int)∧b = (j : Int)
       · rw [if_pos c,if_pos (by omega)]
         have : b.toNat = j:=by omega
         rw [this,hf]
       · rw [if_neg c,h3]
         by_cases d : a = (i : Int)∧0 ≤ b∧b < (j : Int)∧b ≠ i
         · rw [if_pos d,if_pos (by omega)]
         · rw [if_neg d,if_neg (by omega)]
end L2
namespace L2
open PySem PySem.Spec PyProof.Rows Mth
theorem m2_fields {tm : ToldM} {n : Nat} (ok : tm.Ok n n) : ∀ k,k ≤ n →
   (∀ i,i < k→(tm.m2 n k).skies[i]? = (tm.sky[i]?).map tm.skyAt)∧(tm.m2 n k).skies.length = n ∧
   (∀ i,i < k→(tm.m2 n k).stoves[i]? = (tm.stoves[i]?).map fun z => z.map tm.stoveAt)∧(∀ i,k ≤ i→i < n→(tm.m2 n k).stoves[i]? = some none)∧(tm.m2 n k).stoves.length = n ∧
   (∀ a b : Nat,a < k→b < n→a ≠ b→(tm.m2 n k).flows a b = (tm.flows a b).map fun x => nf x 12) ∧
   (∀ a : Nat,(tm.m2 n k).flows a a = none):=by
 intro k
 induction k with
 | zero =>
   intro _
   obtain ⟨a,b,c⟩:=addRooms2 ((tm.marks.take n).map tm.row) (HoldM.new tm.bounds.1 tm.bounds.2.1 tm.bounds.2.2)
   have hl : ((tm.marks.take n).map tm.row).length = n:=by rw [List.length_map,List.length_take,ok.lm]; omega
   rw [hl] at a b
   have a' : (tm.m2 n 0).skies = List.replicate n ((0,1),(0,1),(0,1)):=a
   have b' : (tm.m2 n 0).stoves = List.replicate n none:=b
   have c' : (tm.m2 n 0).flows = fun _ _ => none:=c
   refine ⟨nofun,by rw [a',List.length_replicate],nofun,fun i _ hi => ?_,by rw [b',List.length_replicate],nofun,fun _ => by rw [c']⟩
   rw [b',List.getElem?_replicate,if_pos hi]
 | succ k ih =>
   intro hk
   obtain ⟨s1,s2,t1,t2,t3,f1,f2⟩:=ih (by omega)
   have hks : k < tm.sky.length:=by rw [ok.ls]; omega
   have hkt : k < tm.stoves.length:=by rw [ok.lt]; omega
   rw [ToldM.m2_succ]
   generalize tm.m2 n k = m at s1 s2 t1 t2 t3 f1 f2
   have e1 : tm.skyStep m k = m.setSky k (tm.skyAt tm.sky[k]):=by unfold ToldM.skyStep; rw [get_nat hks]
   unfold ToldM.roomStep
   rw [e1]
   obtain ⟨g1,g2,g3⟩:=flowsTo_keep tm k (tm.stoveStep (m.setSky k (tm.skyAt tm.sky[k])) k) n
   have hsk : (tm.stoveStep (m.setSky k (tm.skyAt tm.sky[k])) k).skies = m.skies.set k (tm.skyAt tm.sky[k]):=by
     unfold ToldM.stoveStep
     split <;> rfl
   have hfl : (tm.stoveStep (m.setSky k (tm.skyAt tm.sky[k])) k).flows = m.flows:=by
     unfold ToldM.stoveStep
     split <;> rfl
   have hst : (tm.stoveStep (m.setSky k (tm.skyAt tm.sky[k])) k).stoves = m.stoves.set k (tm.stoves[k].map tm.stoveAt):=by
     unfold ToldM.stoveStep
     rw [get_nat hkt]
     cases tm.stoves[k] with
     | some z => rfl
     | none =>
       show m.stoves = m.stoves.set k none
       have h0:=t2 k (Nat.le_refl _) (by omega)
       obtain ⟨hl,he⟩:=List.getElem?_eq_some_iff.mp h0
       rw [← he,List.set_getElem_self]
   rw [g1,g2,hsk,hst]
   refine ⟨fun i hi => ?_,by rw [List.length_set]; exact s2,fun i hi => ?_,fun i hi hn => ?_,by rw [List.length_set]; exact t3,fun a b ha hb hab => ?_,fun a => ?_⟩
   · by_cases e : i = k
     · subst e
       rw [List.getElem?_set_self (by omega),get_nat hks]; rfl
     · rw [List.getElem?_set_ne (by omega)]; exact s1 i (by omega)
   · by_cases e : i = k
     · subst e
       rw [List.getElem?_set_self (by omega),get_nat hkt]; rfl
     · rw [List.getElem?_set_ne (by omega)]; exact t1 i (by omega)
   · rw [List.getElem?_set_ne (by omega)]; exact t2 i (by omega) hn
   · rw [g3,hfl]
     by_cases e : a = k
     · subst e
       rw [if_pos (by omega)]
       obtain ⟨x,hx,_⟩:=ok.flows a b (by omega) hb hab
       have : ((b : Int)).toNat = b:=by omega
       rw [this,hx]; rfl
     · rw [if_neg (by omega)]
       exact f1 a b (by omega) hb hab
   · rw [g3,hfl]
     rw [if_neg (by omega)]
     exact f2 a
end L2
namespace L2
open PySem PySem.Spec PyProof.Rows Mth
section
variable {P : Program} {w : World} {A : Around} {E : Value→Shared→Prop} {s : Shared}
theorem tnext_item {j a : Addr} {i : Nat} {its : Array Value} {x : Value} {Q : Value→Shared→Prop} (hj : s.heap.IsTupleIter j a i) (ha : s.heap.IsTuple a its) (hx : its[i]? = some x)
   (k : ∀ h',h'.IsTupleIter j a (i + 1)→Heap.SameBut j s.heap h'→Q x { s with heap:=h' }) : wpAny (model P w) A (Builtin.SmallTypes.nextOf (.ref j)) Q E s:=by
 obtain ⟨oj,ej,cj,dj⟩:=id hj
 obtain ⟨oa,ea,_,na,da⟩:=ha
 unfold Builtin.SmallTypes.nextOf
 refine wpAny_bind (wpAny_callSpecial?_slot (name:=Str.ofString "__next__") hj.typeIs F.slot_tuple_iterator_next (wpAny_call_entry F.slot_tuple_iterator_next hj.typeIs F.entry_tuple_iterator_next ?_ (F.args_tuple_iterator_next_1 _)))
 refine wpAny_bind (m:=field (.ref j) 0) (wpAny_field ej dj (x:=.ref a) rfl ?_)
 have nn : ¬ ((Value.ref a == Value.none) = true):=Bool.false_ne_true
 show wpAny _ _ (if (Value.ref a == Value.none) = true then _ else _) _ _ s
 rw [if_neg nn]
 refine wpAny_bind (m:=field (.ref j) 1) (wpAny_field ej dj (x:=.int i 0) rfl ?_)
 refine wpAny_bind (m:=seqItems? (.ref a)) (wpAny_seqItems ea da ?_)
 simp only [Int.toNat_natCast,hx]
 refine wpAny_bind (wpAny_setField ej dj (by simp) (wpAny_pure ⟨x,rfl,wpAny_pure (k _ ⟨_,Heap.get?_update_self _ ej (Obj.isFreed_of_fields (Obj.data_mapFields dj _)),(Obj.cls_mapFields ..).trans cj,?_⟩ (Heap.SameBut.update ..))⟩))
 rw [Obj.data_mapFields dj]
 simp [rawInt]
theorem tnext_end {j a : Addr} {i : Nat} {its : Array Value} {Q : Value→Shared→Prop} (hh : A.handled = none) (hj : s.heap.IsTupleIter j a i) (ha : s.heap.IsTuple a its) (hx : its[i]? = none)
   (k : ∀ h' e,Heap.ExtBut j s.heap h'→(∃ o,h'.get? e = some o∧o.cls = .type "StopIteration")→E (.ref e) { s with heap:=h' }) : wpAny (model P w) A (Builtin.SmallTypes.nextOf (.ref j)) Q E s:=by
 obtain ⟨oj,ej,cj,dj⟩:=id hj
 obtain ⟨oa,ea,_,na,da⟩:=ha
 unfold Builtin.SmallTypes.nextOf
 refine wpAny_bind (wpAny_callSpecial?_slot (name:=Str.ofString "__next__") hj.typeIs F.slot_tuple_iterator_next (wpAny_call_entry F.slot_tuple_iterator_next hj.typeIs F.entry_tuple_iterator_next ?_ (F.args_tuple_iterator_next_1 _)))
 refine wpAny_bind (m:=field (.ref j) 0) (wpAny_field ej dj (x:=.ref a) rfl ?_)
 have nn : ¬ ((Value.ref a == Value.none) = true):=Bool.false_ne_true
 show wpAny _ _ (if (Value.ref a == Value.none) = true then _ else _) _ _ s
 rw [if_neg nn]
 refine wpAny_bind (m:=field (.ref j) 1) (wpAny_field ej dj (x:=.int i 0) rfl ?_)
 refine wpAny_bind (m:=seqItems? (.ref a)) (wpAny_seqItems ea da ?_)
 simp only [Int.toNat_natCast,hx]
 refine wpAny_bind (wpAny_rule (wpAny_bind (wpAny_setField ej dj (by simp) (wpAny_bind (m:=newExc (.type "StopIteration") []) ?_))))
 simp only [newExc,newTuple]
 refine wpAny_bind (wpAny_newObj_type (wpAny_bind (m:=firstArgMember _ _) (wpAny_of_eq (a:=Value.none) (by first | rfl | (simp only [firstArgMember]; rfl)) (wpAny_newObj_type ?_ (by size_fits)))) (by size_fits))
 simp only [raiseNew]
 refine wpAny_bind (wpAny_handled ?_)
 have h1 : A.in1.handled = none:=hh
 first | rw [h1] | rw [hh]
 exact wpAny_bind (wpAny_pure (wpAny_throw (k _ _ (((Heap.SameBut.update ..).extBut.push _).push _) ⟨_,Heap.get?_push_size _ rfl,rfl⟩)))
end
theorem drawsT {P : Program} {w : World} {A : Around} (hh : A.handled = none) (j a : Addr) (ne : a ≠ j) (its : Array Value) : Draws P w A j [j,a] its.size (fun i v => its[i]? = some v) (fun i h => h.IsTupleIter j a i∧h.IsTuple a its) where
 live:=fun _ _ st => by
   obtain ⟨⟨o,e,_⟩,_⟩:=st
   exact ⟨o,e⟩
 frame:=fun _ _ _ st k => by
   obtain ⟨h1,oa,ea,r⟩:=st
   exact ⟨h1.at fun o e => k j (by simp) o e,oa,k a (by simp) oa ea,r⟩
 item:=fun i s Q E hi st q => tnext_item st.1 st.2 (x:=its[i]) (by simp [hi]) fun h' h1 sb => q _ h' s.toks (by simp [hi]) ⟨h1,st.2.extBut sb.extBut ne⟩ sb
 done:=fun s Q E st q => tnext_end hh st.1 st.2 (by simp) q
set_option maxHeartbeats 1000000 in
theorem new_enumT (a : Addr) (ob : Obj) (its : Array Value) (n : Nat) (hc : ob.cls = .type "tuple") (hd : ob.data = .seq its n) :
   Meets (Builtin.«enumerate.__new__» ⟨[.type "enumerate",.ref a],[]⟩) (fun _ R s => s.heap.get? a = some ob∧R (.ok (.ret (.ref (s.heap.push { cls:=.type "tuple_iterator",data:=.fields #[.ref a,.int 0 0] }).objs.size)))
     { s with heap:=(s.heap.push { cls:=.type "tuple_iterator",data:=.fields #[.ref a,.int 0 0] }).push { cls:=.type "enumerate",data:=.fields #[.none,.bool false,.ref s.heap.objs.size,rawInt 0,.none,.none] } }):=by
 obtain ⟨cl,dc,dt,sl⟩:=ob
 obtain rfl : cl = .type "tuple":=hc
 obtain rfl : dt = .seq its n:=hd
 refine .of_wp fun P w A R s q => ?_
 obtain ⟨hh,gg,dd,tt,oo⟩:=s
 obtain ⟨hl,q⟩:=q
 have hsub:=sub_enumerate
 have hT : Heap.IsTuple (Shared.heap ⟨hh,gg,dd,tt,oo⟩) a its:=⟨_,hl,rfl,n,rfl⟩
 wp_walk using AutoSeq1.wpAny_loadPart' hl
 refine wpAny_stack_any fun st => wpAny_pure ?_
 split
 · rename_i c _ _ _ _ _
   cases (c == Value.type "enumerate") <;> (wp_walk using AutoSeq1.wpAny_loadPart' hl,wpAny_pyIter_tuple hT; exact ⟨_,rfl,q⟩)
 · wp_walk using AutoSeq1.wpAny_loadPart' hl,wpAny_pyIter_tuple hT
   exact ⟨_,rfl,q⟩
section
variable {P : Program} {w : World} {A : Around} {E : Value→Shared→Prop} {s : Shared}
theorem call_enumT {a : Addr} {its : Array Value} {Q : Value→Shared→Prop} (hT : s.heap.IsTuple a its)
   (k : ∀ h',IsEnum h' (s.heap.objs.size + 1) s.heap.objs.size 0 .none→h'.IsTupleIter s.heap.objs.size a 0→(∀ b o,s.heap.get? b = some o→h'.get? b = some o)→Q (.ref (s.heap.objs.size + 1)) { s with heap:=h' }) :
   wpAny (model P w) A (call (.type "enumerate") [.ref a]) Q E s:=by
 obtain ⟨ob,e,hc,n,hd⟩:=hT
 refine callType_new F.called_enumerate (by decide) (F.typeCall_enumerate_1 _) (F.newCall_enumerate_1 _) (fun obj => F.args_object_init_2 obj _) F.entry_enumerate_new (new_enumT a ob its n hc hd) ⟨e,?_⟩
 have hz : (s.heap.push { cls:=.type "tuple_iterator",data:=.fields #[.ref a,.int 0 0] }).objs.size = s.heap.objs.size + 1:=Heap.size_push ..
 have hn:=Heap.get?_push_size (s.heap.push { cls:=.type "tuple_iterator",data:=.fields #[.ref a,.int 0 0] }) (o:={ cls:=.type "enumerate",data:=.fields #[.none,.bool false,.ref s.heap.objs.size,rawInt 0,.none,.none] }) rfl
 rw [hz] at hn
 show _∧_
 rw [hz]
 exact ⟨⟨_,hn,rfl⟩,k _ hn ⟨_,Heap.get?_push_of_some _ (Heap.get?_push_size _ rfl),rfl,rfl⟩ fun b o x => Heap.get?_push_of_some _ (Heap.get?_push_of_some _ x)⟩
end
def Itn (sq : Hp→Addr→List V→Prop) (a : Addr) : It :=
 ⟨fun i H => ∃ xs x,sq H a xs∧xs[i]? = some x,
  fun i H v H' => ∃ p x,H p = none∧v = .ref p∧H' = upd H p (.tup [natV i,x])∧∀ xs,sq H a xs→xs[i]? = some x,
  fun i H => ∃ xs,sq H a xs∧xs.length = i⟩
def EnT (e j a : Addr) (i : Nat) (h : Heap) : Prop:=(∃ old,IsEnum h e j i old)∧h.IsTupleIter j a i
theorem turn_enT {P : Program} {w : World} {K : PySem.W.Frag} {elts : List Expr} {x1 : Nat} {tpos : Pos} {e j a : Addr} (ej : e ≠ j) (ae : a ≠ e) (aj : a ≠ j) : Turn P w K (.Tuple elts x1 tpos) (Itn (SqT K) a) [e,j] e (EnT e j a) where
 mem:=by simp
 obj:=fun i h st c hc => by
   obtain ⟨⟨old,h1⟩,oj,e2,_,d2⟩:=st
   simp only [List.mem_cons,List.not_mem_nil,or_false] at hc
   rcases hc with rfl | rfl
   · exact ⟨_,h1,fun v q => by cases q⟩
   · exact ⟨oj,e2,fun v q => by rw [d2] at q; cases q⟩
 keep:=fun i h h' st k => by
   obtain ⟨⟨old,h1⟩,h2⟩:=st
   exact ⟨⟨old,k e (by simp) _ h1⟩,h2.at fun o q => k j (by simp) o q⟩
 item:=by
   intro X hP hw hK hc i pins s σ H E I hf st hg
   subst hP hw hK
   obtain ⟨xs,x,hq,hx⟩:=hg
   obtain ⟨its,rv,p,hz⟩:=I.tuple hq
   obtain ⟨u,hu,ru⟩:=rv.get hx
   obtain ⟨⟨old,h1⟩,h2⟩:=st
   have le : e < s.heap.objs.size:=Heap.lt_size h1
   have lj : j < s.heap.objs.size:=by obtain ⟨o,q,_⟩:=h2; exact Heap.lt_size q
   have hi : i < its.toArray.size:=by
     have:=(List.getElem?_eq_some_iff.mp hu).1
     simpa using this
   refine wpAny_pyNext_enum_itemD (drawsT (A:=X.A.in1) (I.ok.hd hc) j a aj its.toArray) h1 ⟨h2,p⟩ hi ej (by simp [ej,ae.symm]) fun v h' tk hv eo st' ht hz' kk => ?_
   obtain rfl : v = u:=by
     have hv : its.toArray[i]? = some v:=hv
     rw [List.getElem?_toArray,hu] at hv
     exact (Option.some.inj hv).symm
   refine ⟨.ref s.heap.objs.size,rfl,wpAny_letOwnedTupleGo_enum (s:={ s with heap:=h',toks:=tk + 1 }) eo fun g he sb => ?_⟩
   have kAll : ∀ c o,c ∉ [e,j]→s.heap.get? c = some o→g.get? c = some o:=fun c o hn q => by
     simp only [List.mem_cons,List.not_mem_nil,or_false,not_or] at hn
     exact sb.extBut _ _ hn.1 (kk c o hn.1 hn.2 q)
   have n5:=sb.extBut _ _ (Nat.ne_of_gt le) ht
   refine ⟨.ref s.heap.objs.size,upd H s.heap.objs.size (.tup [natV i,x]),I.turnedL (t':=tk + 1) kAll hf (Nat.le_refl _) ⟨by show 2 ≤ sizeLine; decide,[.int i tk,v],.cons ⟨tk,rfl⟩ (.cons ru .nil),⟨_,n5,rfl,_,rfl⟩⟩,rfl,
     ⟨_,x,I.hok.fresh (Nat.le_refl _),rfl,rfl,fun xs' h => by rw [I.tuple_inj h hq]; exact hx⟩,⟨⟨_,by simpa using he⟩,st'.1.extBut sb.extBut ej.symm⟩,fun c hc' => ?_⟩
   have lc : c < s.heap.objs.size:=by
     simp only [List.mem_cons,List.not_mem_nil,or_false] at hc'
     rcases hc' with rfl | rfl
     · exact le
     · exact lj
   rw [upd_ne (Nat.ne_of_lt lc)]
   exact (hf c hc').1
 done:=by
   intro X hP hw hK hc i pins s σ H E I hf st hg
   subst hP hw hK
   obtain ⟨xs,hq,hl⟩:=hg
   obtain ⟨its,rv,p,hz⟩:=I.tuple hq
   obtain ⟨⟨old,h1⟩,h2⟩:=st
   have hn : i = its.toArray.size:=by rw [List.size_toArray,← rv.length]; exact hl.symm
   subst hn
   refine wpAny_pyNext_enum_endD (drawsT (A:=X.A.in1) (I.ok.hd hc) j a aj its.toArray) h1 ⟨h2,p⟩ fun h' eb => ⟨rfl,I.turned0 (ch:=[e,j]) (t':=s.toks) (fun c o hn q => ?_) hf⟩
   simp only [List.mem_cons,List.not_mem_nil,or_false,not_or] at hn
   exact eb c o hn.2 q
 self:=fun _ _ _ _ _ st h => by
   obtain ⟨⟨old,h1⟩,_⟩:=st
   exact wpAny_pyIter_enum h1 h
end L2
namespace L2
open PySem PySem.Spec PyProof.Rows Mth
section
variable {X : Cx}
def iEnT (K : PySem.W.Frag) (ta : TA) : TI:=fun σ H R => ta σ H fun vs H1 => ∃ a,vs = [.ref a]∧(∃ xs,SqT K H1 a xs)∧R (Itn (SqT K) a) H1
theorem en_n : ("enumerate" : Str) ≠ "__name__":=by decide +kernel
theorem en_d : (("enumerate" : Str) == ("__debug__" : Str)) = false:=by decide +kernel
theorem pi_enT {a : Expr} {ta : TA} {p pos tpos : Pos} {elts : List Expr} {x1 : Nat} (hg : Gl X "enumerate") (hm : X.mg "enumerate" = none) (ha : PA X [a] ta) (hs : starEach [a] X.env = [(false,eval a X.env)]:=by rfl) :
   PI X (.Tuple elts x1 tpos) (.Call (.Name "enumerate" p) [a] [] pos) (iEnT X.K ta):=by
 intro pins s σ H R I h
 refine Call_ ?_
 refine ld_blt I hg hm bt_enumerate ?_ en_n en_d
 refine PyProof.Rows.callWith_type1 ?_ hs rfl
 refine thn (ha pos pins s σ H _ I h) fun us s1 ⟨vs,H1,I1,r1,q1⟩ => ?_
 obtain ⟨a,e,⟨xs,hq⟩,q⟩:=q1
 subst e
 cases r1 with
 | cons r rr =>
   cases rr
   obtain rfl : _ = Value.ref a:=r
   obtain ⟨its,rv,p1,hz1⟩:=I1.tuple hq
   have la : a < s1.heap.objs.size:=p1.lt
   refine call_enumT p1 fun h' z1 z2 kk => wpAny_pyIter_enum z1 ?_
   refine ⟨s1.heap.objs.size + 1,[s1.heap.objs.size + 1,s1.heap.objs.size],_,_,H1,rfl,I1.kept (t':=s1.toks) kk,turn_enT (Nat.succ_ne_self _) (Nat.ne_of_lt (Nat.lt_succ_of_lt la)) (Nat.ne_of_lt la),⟨⟨_,z1⟩,z2⟩,fun c hc => ?_,q⟩
   have hle : s1.heap.objs.size ≤ c:=by
     simp only [List.mem_cons,List.not_mem_nil,or_false] at hc
     rcases hc with rfl | rfl
     · exact Nat.le_succ _
     · exact Nat.le_refl _
   exact I1.fpOk hle (I1.hok.fresh hle)
end
theorem comp_en {sq : Hp→Addr→List V→Prop} {a : Addr} {xs : List V} {g : TG} {tt : TT} {te : TE} {D : Addr} {Q : Hp→Prop} {σ : St} {H : Hp} (Pv : Nat→List V→St→Hp→Prop) (h0 : Pv 0 [] σ H)
   (hl : ∀ i acc σ H,i ≤ xs.length→Pv i acc σ H→sq H a xs)
   (hs : ∀ i x p acc σ H,xs[i]? = some x→H p = none→Pv i acc σ H→g (.ref p) σ (upd H p (.tup [natV i,x])) fun σ2 H3 => tt σ2 H3 fun k H4 =>
     if k = true then te σ2 H4 fun v H5 => H5 D = some (.lst acc)∧acc.length < sizeLine∧Pv (i + 1) (acc ++ [v]) σ2 (upd H5 D (.lst (acc ++ [v]))) else Pv (i + 1) acc σ2 H4) (hd : ∀ acc σ H,Pv xs.length acc σ H→Q H) :
   ∃ W : Nat→Nat→List V→St→Hp→Prop,(∃ m,W 0 m [] σ H)∧∀ i m acc σ' H',W i m acc σ' H'→((Itn sq a).stop i H'∧Q H') ∨
     ((Itn sq a).go i H'∧∃ N : List V→St→Hp→Prop,(∀ acc' σ2 H4,N acc' σ2 H4→∃ m',m' < m∧W (i + 1) m' acc' σ2 H4)∧∀ x H2,(Itn sq a).yld i H' x H2→g x σ' H2 fun σ2 H3 => tt σ2 H3 fun k H4 =>
       if k = true then te σ2 H4 fun y H5 => H5 D = some (.lst acc)∧acc.length < sizeLine∧N (acc ++ [y]) σ2 (upd H5 D (.lst (acc ++ [y]))) else N acc σ2 H4):=by
 refine ⟨fun i m acc σ H => m = xs.length - i∧i ≤ xs.length∧Pv i acc σ H,⟨_,rfl,Nat.zero_le _,h0⟩,?_⟩
 rintro i m acc σ H ⟨rfl,hi,p⟩
 have q:=hl i acc σ H hi p
 by_cases hlt : i < xs.length
 · refine .inr ⟨⟨xs,xs[i],q,by simp [hlt]⟩,Pv (i + 1),fun acc' σ' H' p' => ⟨xs.length - (i + 1),by omega,rfl,hlt,p'⟩,fun v H' y => ?_⟩
   obtain ⟨pp,x,hn,rfl,rfl,e1⟩:=y
   exact hs i x pp acc σ H (e1 xs q) hn p
 · have e : i = xs.length:=by omega
   subst e
   exact .inl ⟨⟨xs,q,rfl⟩,hd acc σ H p⟩
end L2
namespace Ord
open Bit
theorem parts16 : ∀ W,W < 16→parts (rooms W) = (List.range 16).filter (fun o => decide (o &&& W = o)):=by decide +kernel
def setOf (n : Nat) (p : Nat→Bool) : Nat:=sumOf ((List.range n).filter p)
theorem bit_set (n : Nat) (p : Nat→Bool) (k : Nat) : (setOf n p).testBit k = (decide (k < n) && p k):=by
 unfold setOf
 rw [bit_sumOf]
 by_cases h : k < n <;> cases e : p k <;> simp [h,e]
theorem set_lt (n : Nat) (p : Nat→Bool) : setOf n p < 2 ^ n:=sumOf_lt fun r hr => List.mem_range.mp (List.mem_filter.mp hr).1
theorem rooms_set {n : Nat} (p : Nat→Bool) (hn : n ≤ 61) : rooms (setOf n p) = (List.range n).filter p :=
 rooms_sumOf (fun r hr => by have:=List.mem_range.mp (List.mem_filter.mp hr).1; omega) ((List.pairwise_lt_range).filter _)
section
variable {n : Nat} {has : Nat→Bool} {wd : Nat→Int} {wt : Nat→Bool} {b : Nat} {most heap : Int} {o : Nat}
end
theorem rooms_take (o k : Nat) : (List.range (k + 1)).filter o.testBit = (List.range k).filter o.testBit ++ if o.testBit k then [k] else []:=by
 rw [List.range_succ,List.filter_append]
 cases h : o.testBit k <;> simp [h]
end Ord
namespace L2
open PySem PySem.Spec PyProof.Rows Mth
section
variable {prog : Program} {w : World} {A : Around} {E : Value→Shared→Prop} {s : Shared}
theorem adj_upto {b n : Nat} (hb : b ≤ n) : Builtin.Slice.sliceAdjust none (some (b : Int)) 1 (n : Int) = (0,(b : Int)):=by
 unfold Builtin.Slice.sliceAdjust
 simp only [show ¬ ((1 : Int) < 0) by omega,show ¬ ((b : Int) < 0) by omega,if_false]
 congr 1; omega
theorem pla_upto (b : Nat) : Builtin.Slice.slicePlaces 0 (b : Int) 1 = b:=by
 unfold Builtin.Slice.slicePlaces
 simp only [show (1 : Int) > 0 by omega,if_true,Int.ediv_one]
 split <;> omega
theorem app_upto {sl : Addr} {b n : Nat} {u : Tok} {Q : Int × Int × Nat→Shared→Prop} (hs : s.heap.IsSliceOf sl .none (.int b u) .none) (hb : b ≤ n) (h : Q (0,1,b) s) :
   wpAny (model prog w) A (Builtin.Slice.sliceApplied (.ref sl) (pure (n : Int))) Q E s:=by
 obtain ⟨os,hos,hcs,hds⟩:=id hs
 unfold Builtin.Slice.sliceApplied; unfold Builtin.Slice.sliceFields
 refine wpAny_bind (wpAny_bind (wpAny_field hos hds (x:=.none) rfl (wpAny_bind (wpAny_field hos hds (x:=.int b u) rfl (wpAny_bind (wpAny_field hos hds (x:=.none) rfl (wpAny_pure (wpAny_bind (slicePart_none ?_)))))))))
 show wpAny _ _ (if ((1 : Int) == 0) = true then _ else _) _ _ s
 rw [if_neg (show ¬ (((1 : Int) == 0) = true) by decide)]
 refine wpAny_bind (slicePart_none (wpAny_bind (slicePart_int (wpAny_bind (wpAny_pure ?_)))))
 show wpAny _ _ (match Builtin.Slice.sliceAdjust none (some (b : Int)) 1 (n : Int) with | (lo,hi) => pure (lo,(1 : Int),Builtin.Slice.slicePlaces lo hi 1)) _ _ s
 rw [adj_upto hb]
 show wpAny _ _ (pure ((0 : Int),(1 : Int),Builtin.Slice.slicePlaces 0 (b : Int) 1)) _ _ s
 rw [pla_upto]
 exact wpAny_pure h
theorem pick_upto (xs : Array Value) (b : Nat) (hb : b ≤ xs.size) : ((List.range b).filterMap fun (k : Nat) => xs[((0 : Int) + (k : Int) * 1).toNat]?).toArray = (xs.toList.take b).toArray:=by
 have e : (fun (k : Nat) => xs[((0 : Int) + (k : Int) * 1).toNat]?) = fun k => xs[0 + k]?:=by
   funext k
   rw [show ((0 : Int) + (k : Int) * 1).toNat = 0 + k by omega]
 have q:=pick_run xs 0 b
 rw [List.filterMap_map] at q
 rw [e]
 refine congrArg List.toArray (Eq.trans ?_ (q.trans (by rw [List.drop_zero])))
 rfl
theorem item_upto {t sl : Addr} {items : Array Value} {b : Nat} {u : Tok} {Q : Value→Shared→Prop} (ht : IsTup s.heap t items) (hs : s.heap.IsSliceOf sl .none (.int b u) .none) (hb : b < items.size)
   (h : Q (.ref s.heap.objs.size) { s with heap:=s.heap.push { cls:=.type "tuple",data:=.seq (items.toList.take b).toArray } }) (hsz : items.size ≤ sizeLine) : wpAny (model prog w) A (getItem (.ref t) (.ref sl)) Q E s:=by
 have fits : sizeOk (.seq (items.toList.take b).toArray):=by
   show (items.toList.take b).toArray.size ≤ sizeLine
   rw [List.size_toArray,List.length_take,Array.length_toList]; omega
 obtain ⟨os,hos,hcs,hds⟩:=id hs
 have tys : s.TypeIs (.ref sl) "slice":=⟨os,hos,hcs⟩
 unfold getItem; try with_reducible refine wpAny_holding ?_
 first | refine wpAny_bind (wpAny_pure ?_) | skip
 refine wpAny_bind (wpAny_sequenceKey ht.typeIs (by decide) (wpAny_bind (wpAny_callSpecial?_slot (name:=Str.ofString "__getitem__") ht.typeIs slot_tuple_getitem (wpAny_call_entry slot_tuple_getitem ht.typeIs entry_tuple_getitem ?_ (args_tuple_getitem _ _)))))
 show wpAny _ _ (Builtin.Tuple.tupleItemsOf (.ref t) >>= _) _ _ s
 refine wpAny_bind (tupleItemsOf_ ht (wpAny_bind (wpAny_typeOf tys ?_)))
 rw [if_pos (by decide)]
 refine wpAny_bind (app_upto hs (Nat.le_of_lt hb) ?_)
 have hno : ¬ (((0 : Int) == 0 && (1 : Int) == 1 && b == items.size) = true):=by
   rw [show (b == items.size) = false by rw [beq_eq_false_iff_ne]; omega]; simp
 show wpAny _ _ (if ((0 : Int) == 0 && (1 : Int) == 1 && b == items.size) = true then _ else _) _ _ s
 rw [if_neg hno,pick_upto items b (Nat.le_of_lt hb)]
 first
   | exact wpAny_bind (m:=Builtin.Tuple.tupleExact _) (wpAny_newObj_type (wpAny_pure ⟨_,rfl,wpAny_pure h⟩) fits)
   | exact wpAny_bind (m:=Builtin.Tuple.tupleExact _) (wpAny_newObj_type (wpAny_bind (wpAny_pure (wpAny_pure ⟨_,rfl,wpAny_pure h⟩))) fits)
   | exact wpAny_bind (wpAny_bind (m:=Builtin.Tuple.tupleExact _) (wpAny_newObj_type (wpAny_pure (wpAny_pure ⟨_,rfl,wpAny_pure h⟩)) fits))
   | exact wpAny_bind (wpAny_bind (m:=Builtin.Tuple.tupleExact _) (wpAny_newObj_type (wpAny_pure ⟨_,rfl,wpAny_pure h⟩) fits))
end
section
variable {X : Cx}
def rSlF (K : PySem.W.Frag) : V→Option Int→Option Int→Hp→VK→Prop:=fun x lo hi H Q => ∃ a xs,∃ i : Nat,x = .ref a∧SqT K H a xs∧lo = some (i : Int)∧hi = none∧1 ≤ i∧i ≤ xs.length∧∀ p,H p = none→Q (.ref p) (upd H p (.tup (xs.drop i)))
theorem sl_tupF : SlR X (rSlF X.K):=by
 intro pins s σ H x v vl vu lo hi sl Q I rx hs pl pu h
 obtain ⟨a,xs,i,rfl,hx,rfl,rfl,i1,i2,q⟩:=h
 cases rx
 cases pu
 cases pl
 obtain ⟨its,r,ht,hz⟩:=I.tuple hx
 have hlen:=r.length
 refine ⟨"tuple",_,slot_tuple_getitem.lookup,ht.typeIs,getItem_tuple_from ht hs i1 (by rw [List.size_toArray]; omega) ?_ (by rw [List.size_toArray]; omega)⟩
 refine ⟨.ref s.heap.objs.size,_,I.laid (t':=s.toks) (o:=.tup (xs.drop i)) (fun b ob q => Heap.get?_push_of_some _ q) (Nat.le_refl _) ?_,rfl,q _ (I.hok.fresh (Nat.le_refl _))⟩
 refine ⟨by rw [List.length_drop]; omega,its.drop i,r.drop i,⟨_,Heap.get?_push_size _ rfl,rfl,_,rfl⟩⟩
def rSlU (K : PySem.W.Frag) : V→Option Int→Option Int→Hp→VK→Prop:=fun x lo hi H Q => ∃ a xs,∃ j : Nat,x = .ref a∧SqT K H a xs∧lo = none∧hi = some (j : Int)∧j < xs.length∧∀ p,H p = none→Q (.ref p) (upd H p (.tup (xs.take j)))
theorem sl_tupU : SlR X (rSlU X.K):=by
 intro pins s σ H x v vl vu lo hi sl Q I rx hs pl pu h
 obtain ⟨a,xs,j,rfl,hx,rfl,rfl,j1,q⟩:=h
 cases rx
 cases pu
 cases pl
 obtain ⟨its,r,ht,hz⟩:=I.tuple hx
 have hlen:=r.length
 refine ⟨"tuple",_,slot_tuple_getitem.lookup,ht.typeIs,item_upto ht hs (by rw [List.size_toArray]; omega) ?_ (by rw [List.size_toArray]; omega)⟩
 refine ⟨.ref s.heap.objs.size,_,I.laid (t':=s.toks) (o:=.tup (xs.take j)) (fun b ob q => Heap.get?_push_of_some _ q) (Nat.le_refl _) ?_,rfl,q _ (I.hok.fresh (Nat.le_refl _))⟩
 refine ⟨by rw [List.length_take]; omega,its.take j,r.take j,⟨_,Heap.get?_push_size _ rfl,rfl,_,rfl⟩⟩
end
end L2
namespace L2
open PySem PySem.Spec PyProof.Rows Mth
structure StM where
 bands : List Nat
 burn : Nat
 waits : List Nat
 failed : List Nat
 heap : Nat
def StAt (K : PySem.W.Frag) (H : Hp) (p : Addr) (s : StM) : Prop :=
 ∃ pb pw pf,SqT K H p [.ref pb,natV s.burn,.ref pw,.ref pf,natV s.heap]∧SqT K H pb (s.bands.map natV)∧SqT K H pw (s.waits.map natV)∧SqT K H pf (s.failed.map natV)
theorem StAt.same {K : PySem.W.Frag} {H H' : Hp} {p : Addr} {s : StM} (h : StAt K H p s) (q : Same H H') : StAt K H' p s:=by
 obtain ⟨pb,pw,pf,a,b,c,d⟩:=h
 exact ⟨pb,pw,pf,q.tup a,q.tup b,q.tup c,q.tup d⟩
abbrev Stv:=Fra × Int × Int × Int
def HoldM.stv (m : HoldM) (i : Nat) : Option Stv:=(m.stoves[i]?).getD none
def HoldM.has (m : HoldM) (i : Nat) : Bool:=(m.stv i).isSome
def HoldM.wd (m : HoldM) (i : Nat) : Int:=((m.stv i).map fun z => z.2.1).getD 0
theorem stv_get {m : HoldM} {i : Nat} (h : i < m.stoves.length) : m.stoves[i]? = some (m.stv i):=by
 unfold HoldM.stv
 rw [get_nat h]; rfl
def FitsM : Option Stv→Bool→Nat→Nat→Prop
 | none,f,w,b => f = false∧w = 0∧b = 0
 | some z,f,w,b => (w : Int) ≤ z.2.2.1∧(b : Int) ≤ z.2.2.2∧(b = 0 ∨ (f = false∧w = 0))
def gN (l : List Nat) (i : Nat) : Nat:=(l[i]?).getD 0
structure StOk (m : HoldM) (s : StM) : Prop where
 lb : s.bands.length = m.rows.length
 lw : s.waits.length = m.rows.length
 lf : s.failed.length = m.rows.length
 burn : s.burn < 2 ^ m.rows.length
 most : ((Bit.rooms s.burn).length : Int) ≤ m.most
 heap : (s.heap : Int) ≤ m.cap
 band : ∀ i,i < m.rows.length→gN s.bands i + 1 < (m.rows.getD i []).length
 stove : ∀ i,i < m.rows.length→FitsM (m.stv i) (s.burn.testBit i) (gN s.waits i) (gN s.failed i)
def HoldM.ws (m : HoldM) : Nat:=Ord.setOf m.rows.length m.has
def StM.wt (s : StM) (i : Nat) : Bool:=decide (0 < gN s.waits i)
def StM.held (s : StM) : Nat:=Ord.setOf s.waits.length s.wt
def HoldM.wood (m : HoldM) (b : Nat) : Int:=((Bit.rooms (b &&& m.ws)).map m.wd).sum
def HoldM.can (m : HoldM) (o : Nat) (heap : Int) : Bool:=decide (((Bit.rooms o).length : Int) ≤ m.most) && decide (m.wood o ≤ heap)
def StM.okP (m : HoldM) (s : StM) (o : Nat) : Bool:=decide (o &&& s.held = s.burn &&& s.held) && m.can o s.heap
def StM.orders (m : HoldM) (s : StM) : List Nat:=(Bit.parts (Bit.rooms m.ws)).filter (s.okP m)
theorem ws_lt {m : HoldM} (h : m.rows.length ≤ 4) : m.ws < 16:=Nat.lt_of_lt_of_le (Ord.set_lt _ _) (Nat.pow_le_pow_right (by decide) h : 2 ^ m.rows.length ≤ 2 ^ 4)
section
variable (K : PySem.W.Frag) (C : Addr)
def sp_how_many : Sp:=fun vs H Q _ => ∃ n : Nat,vs = [natV n]∧n < 2 ^ 61∧∀ H',Same H H'→Q (natV (Bit.rooms n).length) H'
def sp_bitsof : Sp:=fun vs H Q _ => ∃ p l,vs = [.ref p]∧SqL K H p (l.map natV)∧(∀ r ∈ l,r ≤ 1000)∧Q (natV (Bit.sumOf l)) H
def sp_is_state : Sp:=fun vs H Q _ => ∃ a fp m p s,vs = [.ref a,.ref p]∧HoldAt K C H a fp m∧StAt K H p s∧StOk m s∧∀ H',Same H H'→Q (.bl true) H'
def sp_look_state : Sp:=fun vs H Q _ => ∃ a fp m p s,vs = [.ref a,.ref p]∧HoldAt K C H a fp m∧StAt K H p s∧StOk m s∧∀ H',Same H H'→Q .non H'
def sp_with_stove : Sp:=fun vs H Q _ => ∃ a fp m,vs = [.ref a]∧HoldAt K C H a fp m∧∀ H',Same H H'→Q (natV m.ws) H'
def sp_wood_of : Sp:=fun vs H Q _ => ∃ a fp m,∃ b : Nat,vs = [.ref a,natV b]∧HoldAt K C H a fp m∧∀ H',Same H H'→Q (.int (m.wood b)) H'
def sp_must_stay : Sp:=fun vs H Q _ => ∃ p s,vs = [.ref p]∧StAt K H p s∧s.waits.length ≤ 4∧∀ H',Same H H'→Q (natV s.held) H'
def sp_can_burn : Sp:=fun vs H Q _ => ∃ a fp m,∃ o : Nat,∃ hp : Int,vs = [.ref a,natV o,.int hp]∧HoldAt K C H a fp m∧o < 2 ^ 61∧∀ H',Same H H'→Q (.bl (m.can o hp)) H'
def sp_orders_of : Sp:=fun vs H Q _ => ∃ a fp m p s,vs = [.ref a,.ref p]∧HoldAt K C H a fp m∧StAt K H p s∧StOk m s∧∀ q H',H q = none→Same H H'→H' q = some (.lst ((s.orders m).map natV))→Q (.ref q) H'
end
theorem Dn.stove {K : PySem.W.Frag} {H : Hp} {v : V} {z : Stv} (h : Dn K H (stoveD (some z)) v) : ∃ p v1,v = .ref p∧SqT K H p [v1,.int z.2.1,.int z.2.2.1,.int z.2.2.2]∧Dn K H (frD z.1) v1:=by
 obtain ⟨p,xs,rfl,hp,t1,r1,rfl,e1,t2,r2,rfl,e2,t3,r3,rfl,e3,t4,r4,rfl,e4,e5⟩:=h
 have e5 : r4 = []:=e5
 have e2 : t2 = .int z.2.1:=e2
 have e3 : t3 = .int z.2.2.1:=e3
 have e4 : t4 = .int z.2.2.2:=e4
 subst e2 e3 e4 e5
 exact ⟨p,t1,rfl,hp,e1⟩
end L2
namespace L2
open PySem PySem.Spec PyProof.Rows Mth
theorem stv_m2 {tm : ToldM} {n i : Nat} (ok : tm.Ok n n) (hi : i < n) : (tm.m2 n n).stv i = ((tm.stoves[i]?).getD none).map tm.stoveAt:=by
 unfold HoldM.stv
 rw [(m2_fields ok n (Nat.le_refl n)).2.2.1 i hi]
 cases tm.stoves[i]? <;> rfl
structure Part (tm : ToldM) (n i : Nat) (bs ws fs : List Nat) (b : Nat) : Prop where
 lb : bs.length = i
 lw : ws.length = i
 lf : fs.length = i
 burn : b < 2 ^ i
 most : ((Bit.rooms b).length : Int) ≤ tm.bounds.1
 band : ∀ j,j < i→gN bs j + 1 < (tm.marks.getD j []).length
 stove : ∀ j,j < i→FitsM ((tm.m2 n n).stv j) (b.testBit j) (gN ws j) (gN fs j)
theorem Part.zero {tm : ToldM} {n : Nat} (ok : tm.Ok n n) : Part tm n 0 [] [] [] 0:=by
 refine ⟨rfl,rfl,rfl,by decide,?_,nofun,nofun⟩
 have e : (Bit.rooms 0).length = 0:=by decide
 rw [e]
 exact ok.bounds.1.1
theorem gN_old {l : List Nat} {x j : Nat} (h : j < l.length) : gN (l ++ [x]) j = gN l j:=by
 unfold gN
 rw [List.getElem?_append_left h]
theorem gN_new {l : List Nat} {x : Nat} : gN (l ++ [x]) l.length = x:=by
 unfold gN
 rw [List.getElem?_append_right (Nat.le_refl _),Nat.sub_self]; rfl
theorem Part.next {tm : ToldM} {n i : Nat} {bs ws fs : List Nat} {b x w f : Nat} {lit : Bool} (h : Part tm n i bs ws fs b) (hi : i < 61) (hx : x + 1 < (tm.marks.getD i []).length) (hf : FitsM ((tm.m2 n n).stv i) lit w f)
   (hm : lit = true→((Bit.rooms b).length : Int) < tm.bounds.1) : Part tm n (i + 1) (bs ++ [x]) (ws ++ [w]) (fs ++ [f]) (if lit then b + 2 ^ i else b)∧(Bit.rooms (if lit then b + 2 ^ i else b)).length = (Bit.rooms b).length + (if lit then 1 else 0):=by
 have hbi : b.testBit i = false:=Bit.bit_small h.burn (Nat.le_refl _)
 have hor : b + 2 ^ i = b ||| 2 ^ i:=by
   have:=Nat.two_pow_add_eq_or_of_lt h.burn 1
   rw [Nat.mul_one] at this
   rw [Nat.add_comm,this,Nat.or_comm]
 have hlt : (if lit then b + 2 ^ i else b) < 2 ^ (i + 1):=by
   have:=h.burn
   rw [Nat.pow_succ]
   split <;> omega
 have hlen : (Bit.rooms (if lit then b + 2 ^ i else b)).length = (Bit.rooms b).length + (if lit then 1 else 0):=by
   cases lit with
   | false => rfl
   | true =>
     show (Bit.rooms (b + 2 ^ i)).length = _ + 1
     rw [hor,Bit.count_or hi hbi]
 have hold : ∀ j,j < i→(if lit then b + 2 ^ i else b).testBit j = b.testBit j:=fun j hj => by
   cases lit with
   | false => rfl
   | true =>
     show (b + 2 ^ i).testBit j = _
     rw [Nat.add_comm]
     exact Nat.testBit_two_pow_add_gt hj b
 have hnew : (if lit then b + 2 ^ i else b).testBit i = lit:=by
   cases lit with
   | false => exact hbi
   | true =>
     show (b + 2 ^ i).testBit i = _
     rw [Nat.add_comm,Nat.testBit_two_pow_add_eq,hbi]; rfl
 refine ⟨⟨by rw [List.length_append,h.lb]; rfl,by rw [List.length_append,h.lw]; rfl,by rw [List.length_append,h.lf]; rfl,hlt,?_,fun j hj => ?_,fun j hj => ?_⟩,hlen⟩
 · rw [hlen]
   have:=h.most
   cases lit with
   | false => exact this
   | true =>
     have:=hm rfl
     show (((Bit.rooms b).length + 1 : Nat) : Int) ≤ _
     omega
 · by_cases e : j < i
   · rw [gN_old (by rw [h.lb]; exact e)]; exact h.band j e
   · obtain rfl : j = i:=by omega
     have : gN (bs ++ [x]) j = x:=by rw [← h.lb]; exact gN_new
     rw [this]; exact hx
 · by_cases e : j < i
   · rw [gN_old (by rw [h.lw]; exact e),gN_old (by rw [h.lf]; exact e),hold j e]; exact h.stove j e
   · obtain rfl : j = i:=by omega
     have e1 : gN (ws ++ [w]) j = w:=by rw [← h.lw]; exact gN_new
     have e2 : gN (fs ++ [f]) j = f:=by rw [← h.lf]; exact gN_new
     rw [e1,e2,hnew]; exact hf
theorem Part.ok {tm : ToldM} {n : Nat} {bs ws fs : List Nat} {b : Nat} {hp : Nat} (ok : tm.Ok n n) (h : Part tm n n bs ws fs b) (hh : (hp : Int) ≤ tm.bounds.2.1) : StOk (tm.m2 n n) ⟨bs,b,ws,fs,hp⟩:=by
 obtain ⟨f1,f2,f3,f4⟩:=m2_facts tm n n
 have hl : (tm.m2 n n).rows.length = n:=by rw [f1,List.length_map,List.length_take,ok.lm]; omega
 refine ⟨by rw [hl]; exact h.lb,by rw [hl]; exact h.lw,by rw [hl]; exact h.lf,by rw [hl]; exact h.burn,by rw [f2]; exact h.most,by rw [f3]; exact hh,fun i hi => ?_,fun i hi => ?_⟩
 · rw [hl] at hi
   have hb:=h.band i hi
   have him : i < tm.marks.length:=by rw [ok.lm]; exact hi
   rw [f1,List.getD_eq_getElem?_getD,List.getElem?_map,List.getElem?_take_of_lt hi,get_nat him]
   rw [List.getD_eq_getElem?_getD,get_nat him] at hb
   show _ < (tm.row tm.marks[i]).length
   unfold ToldM.row
   rw [List.length_map]
   exact hb
 · rw [hl] at hi
   exact h.stove i hi
def sp_state_by (K : PySem.W.Frag) : Sp:=fun vs H Q _ => ∃ p tm,∃ n : Nat,∃ c : Int,∃ k : Nat,vs = [.ref p,.int c,natV k]∧ToldAt K H p tm∧tm.Ok n n∧n ≤ 4∧k ≤ 900∧∀ q s H',Same H H'→StAt K H' q s→StOk (tm.m2 n n) s→Q (.ref q) H'
end L2
namespace Ord
open Bit
def off (x y : Nat) : Nat:=x - (x &&& y)
theorem off_lt {x y n : Nat} (hx : x < 2 ^ n) : off x y < 2 ^ n:=Nat.lt_of_le_of_lt (Nat.sub_le _ _) hx
theorem pow16 {n x : Nat} (hn : n ≤ 4) (h : x < 2 ^ n) : x < 16:=Nat.lt_of_lt_of_le h (Nat.pow_le_pow_right (by decide) hn : 2 ^ n ≤ 2 ^ 4)
structure Hd where
 n : Nat
 has : Nat→Bool
 wd : Nat→Int
 wt : Nat→Bool
 b : Nat
 most : Int
 heap : Int
def Hd.ws (h : Hd) : Nat:=setOf h.n h.has
def Hd.held (h : Hd) : Nat:=setOf h.n h.wt
def Hd.wood (h : Hd) (o : Nat) : Int:=((rooms (o &&& h.ws)).map h.wd).sum
def Hd.can (h : Hd) (o : Nat) : Bool:=decide (((rooms o).length : Int) ≤ h.most) && decide (h.wood o ≤ h.heap)
def Hd.step (h : Hd) (o r : Nat) : Nat:=if h.can (o ||| 2 ^ r) then o ||| 2 ^ r else o
def Hd.first (h : Hd) : Nat:=h.b &&& h.held
def Hd.go (h : Hd) (wish : Nat) : Nat:=(rooms (off (wish &&& h.ws) h.held)).foldl h.step h.first
section
variable {h : Hd} {wish i r o : Nat}
structure Hd.In (h : Hd) (i o : Nat) : Prop where
 sub : ∀ r,o.testBit r = true→r < h.n∧h.has r = true
 held : ∀ r,r < h.n→h.wt r = true→o.testBit r = h.b.testBit r
 late : ∀ r,i ≤ r→h.wt r = false→o.testBit r = false
end
end Ord
namespace L2
open PySem PySem.Spec PyProof.Rows Mth
theorem bitAnd_off (x y : Nat) : Builtin.bitAnd (x : Int) (Builtin.bitNot (y : Int)) = ((Ord.off x y : Nat) : Int):=by
 have e : Builtin.bitNot (Builtin.bitNot (y : Int)) = (y : Int):=by unfold Builtin.bitNot; omega
 have n : ¬ (0 : Int) ≤ Builtin.bitNot (y : Int):=by unfold Builtin.bitNot; omega
 have p : (0 : Int) ≤ (x : Int):=Int.natCast_nonneg _
 unfold Builtin.bitAnd
 rw [decide_eq_true p,decide_eq_false n]
 show (x : Int) - _ = _
 rw [e,Int.toNat_natCast,Int.toNat_natCast]
 have:=Nat.and_le_left (n:=x) (m:=y)
 unfold Ord.off
 omega
def hdOf (m : HoldM) (s : StM) : Ord.Hd:=⟨m.rows.length,m.has,m.wd,s.wt,s.burn,m.most,s.heap⟩
theorem held_of {m : HoldM} {s : StM} (ok : StOk m s) : s.held = (hdOf m s).held:=by
 unfold StM.held Ord.Hd.held
 rw [ok.lw]
 rfl
def sp_heeded (K : PySem.W.Frag) (C : Addr) : Sp:=fun vs H Q _ => ∃ a fp m p s,∃ w : Nat,vs = [.ref a,.ref p,natV w]∧HoldAt K C H a fp m∧StAt K H p s∧StOk m s ∧
 ((hdOf m s).wood (hdOf m s).first ≤ s.heap→∀ H',Same H H'→Q (natV ((hdOf m s).go w)) H')∧(¬ (hdOf m s).wood (hdOf m s).first ≤ s.heap→∀ H',Same H H'→Q .non H')
end L2
namespace L2
open PySem PySem.Spec PyProof.Rows Mth
section
variable (K : PySem.W.Frag) (C : Addr)
end
end L2
namespace L2
open PySem PySem.Spec PyProof.Rows Mth
section
variable {m : HoldM} {s : StM} {o out r : Nat}
end
end L2
namespace L2
open PySem PySem.Spec PyProof.Rows Mth
section
variable {P : Program} {w : World} {K : PySem.W.Frag} {mg : Str→Option Value} {base : Heap} {x qual m : Str} {st : Stmt} {dV : Value} {f C : Addr} {fd : FuncData} {N ps : List Str} {k : Nat} {sp : Sp} {ds : List Value} {dvs : List V}
theorem FunD.okX (F : FunD K x qual st dV f fd) (S : FnScope N ps (defScope st)) (len : ∀ vs H Q E,sp vs H Q E→vs.length = ps.length)
   (hbody : ∀ (cdv : Value) (A : Around) (outer : List Env) (s : Shared) (H : Hp) (vs : List V) (Q : VK) (E : XK),Room k (A.deeper (envOfC qual (defScope st) s.heap.objs.size f cdv))→sp vs H Q E →
     ∃ t,PSs (cxOf (CX1 P w) P w K mg base N qual (defScope st) f cdv A outer s H E) (defBody st) t∧t { nx:=fun _ H' => Q .non H',rt:=Q } (start N vs) H) : FnOk P w K mg base (CX1 P w) (k + 1) f fd ps sp:=by
 obtain ⟨oc,od,kV,doc,pm,an,cdv,ct,osl,rfl,lk,hcd⟩:=F.ex
 exact fn_of lk hcd S len fun A outer s H vs Q E hr hsp => hbody cdv A outer s H vs Q E hr hsp
def MDefX (P : Program) (w : World) (K : PySem.W.Frag) (mg : Str→Option Value) (base : Heap) (C : Addr) (m : Str) (k : Nat) (ps : List Str) (ds : List Value) (sp : Sp) : Prop :=
 ∃ f fd,Meth K C m f∧Binds K fd ps ds∧FnOk P w K mg base (CX1 P w) k f fd ps sp
theorem HasM.mdefX (h : HasM K C m qual st .none) (S : FnScope N ps (defScope st)) (len : ∀ vs H Q E,sp vs H Q E→vs.length = ps.length)
   (hb : ∀ (kV doc pm : Value) (an : Option Addr) (cdv ct : Value) (us : List Value),us.length = ps.length→bindArgs (PySem.W.fnOf m qual (defArgs st) (defBody st) (defScope st) .none kV doc pm an cdv ct) ⟨us,[]⟩ = pure (ps.zip us))
   (hbody : ∀ (f : Addr) (cdv : Value) (A : Around) (outer : List Env) (s : Shared) (H : Hp) (vs : List V) (Q : VK) (E : XK),Room k (A.deeper (envOfC qual (defScope st) s.heap.objs.size f cdv))→sp vs H Q E →
     ∃ t,PSs (cxOf (CX1 P w) P w K mg base N qual (defScope st) f cdv A outer s H E) (defBody st) t∧t { nx:=fun _ H' => Q .non H',rt:=Q } (start N vs) H) : MDefX P w K mg base C m (k + 1) ps [] sp:=by
 obtain ⟨f,fd,M,F⟩:=h
 exact ⟨f,fd,M,F.binds0 hb,F.okX S len fun cdv A outer s H vs Q E hr hs => hbody f cdv A outer s H vs Q E hr hs⟩
def DOkX (P : Program) (w : World) (K : PySem.W.Frag) (mg : Str→Option Value) (base : Heap) (x : Str) (st : Stmt) (dV : Value) (k : Nat) (ps : List Str) (sp : Sp) : Prop :=
 ∃ f fd,mg x = some (.ref f)∧FunD K x x st dV f fd∧FnOk P w K mg base (CX1 P w) k f fd ps sp
def DefXE (P : Program) (w : World) (K : PySem.W.Frag) (mg : Str→Option Value) (base : Heap) (x : Str) (k : Nat) (ps : List Str) (dvs : List V) (sp : Sp) : Prop :=
 ∃ ds,Vals dvs ds∧∃ f fd,mg x = some (.ref f)∧PySem.W.keepIn K (.ref f) = true∧Binds K fd ps ds∧FnOk P w K mg base (CX1 P w) k f fd ps sp
theorem HasD.dokX (h : HasD K mg x st dV) (S : FnScope N ps (defScope st)) (len : ∀ vs H Q E,sp vs H Q E→vs.length = ps.length)
   (hbody : ∀ (f : Addr) (cdv : Value) (A : Around) (outer : List Env) (s : Shared) (H : Hp) (vs : List V) (Q : VK) (E : XK),Room k (A.deeper (envOfC x (defScope st) s.heap.objs.size f cdv))→sp vs H Q E →
     ∃ t,PSs (cxOf (CX1 P w) P w K mg base N x (defScope st) f cdv A outer s H E) (defBody st) t∧t { nx:=fun _ H' => Q .non H',rt:=Q } (start N vs) H) : DOkX P w K mg base x st dV (k + 1) ps sp:=by
 obtain ⟨f,fd,M,F⟩:=h
 exact ⟨f,fd,M,F,F.okX S len fun cdv A outer s H vs Q E hr hs => hbody f cdv A outer s H vs Q E hr hs⟩
theorem DOkX.defXE {T : Addr} {dall : List V} (h : DOkX P w K mg base x st (.ref T) k ps sp) (hT : DfIs K T dall)
   (hb : ∀ items : Array Value,Vals dall items.toList→∃ ds,Vals dvs ds∧∀ (kV doc pm : Value) (an : Option Addr) (cdv ct : Value) (us : List Value),(us ++ ds).length = ps.length→∃ k,bindArgs (PySem.W.fnOf x x (defArgs st) (defBody st) (defScope st) (.ref T) kV doc pm an cdv ct) ⟨us,[]⟩ = seqItems? (.ref T) >>= k∧k (some items) = pure (ps.zip (us ++ ds))) :
   DefXE P w K mg base x k ps dvs sp:=by
 obtain ⟨f,fd,M,F,O⟩:=h
 obtain ⟨o,n,items,hT,ho,hv⟩:=hT
 obtain ⟨ds,hd,hb⟩:=hb items hv
 exact ⟨ds,hd,f,fd,M,F.kp,F.binds hT ho hb,O⟩
end
section
variable {X : Cx} {C : Addr} {x : Str} {p pos : Pos} {e : Expr} {es : List Expr} {t : TA} {k k1 : Nat} {ps ps1 : List Str} {sp sp1 : Sp} {ds : List Value} {dvs : List V} {E : XK}
theorem px_callE (D : DefXE X.prog X.w X.K X.mg X.base x k ps dvs sp) (hr : Room k X.A) (ha : PA X.nox (e :: es) t) (hg : Gl X x:=by rfl) (hdb : (x == ("__debug__" : Str)) = false:=by decide)
   (he : starEach (e :: es) X.env = (false,eval e X.env) :: starEach es X.env:=by rfl) (hpl : (backTo pos (starEach es X.env)).any (·.1) = false:=by rfl) :
   PX X (.Call (.Name x p) (e :: es) [] pos) (fun σ H Q E => t σ H fun vs H1 => sp (vs ++ dvs) H1 Q E):=by
 obtain ⟨ds,hd,f,fd,hm,hk,hb,F⟩:=D
 intro pins s σ H Q E I h
 refine wpAny_Call_Name_kw (ld_glob I hg hm ?_ hdb)
 refine PySem.W.callWith_K (h₀:=X.base) I.ok.mod.kin hk (wpAny_mono (ha pos pins s σ H _ (I.wish _) h) (fun us s1 ⟨vs,H1,I1,r,q⟩ => ⟨I1.kIn,?_⟩) fun _ _ z => False.elim z) he hpl
 have I1' : Inv X pins σ H1 s1:=I1.unwish
 have q : sp (vs ++ dvs) H1 Q E:=q
 have r2 : Vals (vs ++ dvs) (us ++ ds):=r.append hd
 have hl : (us ++ ds).length = ps.length:=by rw [← r2.length]; exact F.len _ _ _ _ q
 refine wpAny_call (codeAny_mono (F.run X.A X.stack s1 H1 ⟨us,[]⟩ (us ++ ds) (vs ++ dvs) Q E hr I1'.env0 (hb s1 us I1'.kIn hl) r2 q) fun r s' hq => ?_)
 cases r with
 | error e => exact ⟨H1,s1,I1',hq⟩
 | ok fl =>
   cases fl with
   | ret u => exact I1'.after hq
   | next => exact False.elim hq
   | brk => exact False.elim hq
   | cont => exact False.elim hq
theorem pe_callX (D : DefX X.prog X.w X.K X.mg X.base x k ps sp) (hr : Room k X.A) (hx : Passes (CX1 X.prog X.w) X E) (ha : PA X (e :: es) t) (hg : Gl X x:=by rfl) (hdb : (x == ("__debug__" : Str)) = false:=by decide)
   (he : starEach (e :: es) X.env = (false,eval e X.env) :: starEach es X.env:=by rfl) (hpl : (backTo pos (starEach es X.env)).any (·.1) = false:=by rfl) : PE X (.Call (.Name x p) (e :: es) [] pos) (tCall sp [] E t):=by
 obtain ⟨f,fd,hm,hk,hb,F⟩:=D
 exact pe_call F hr hg hm hk hb .nil hx ha hdb he hpl
theorem pe_makeX (M : MkCl X.K C) (D : MDefX X.prog X.w X.K X.mg X.base C "__init__" k ps ds sp) (hd : Vals dvs ds) (hr : Room (k + 1) X.A) (hx : Passes (CX1 X.prog X.w) X E) (hm : X.mg x = some (.ref C)) (ha : PA X (e :: es) t) (hg : Gl X x:=by rfl) (hdb : (x == ("__debug__" : Str)) = false:=by decide)
   (he : starEach (e :: es) X.env = (false,eval e X.env) :: starEach es X.env:=by rfl) (hpl : (backTo pos (starEach es X.env)).any (·.1) = false:=by rfl) : PE X (.Call (.Name x p) (e :: es) [] pos) (tMake C sp dvs E t):=by
 obtain ⟨f,fd,me,hb,F⟩:=D
 exact pe_make ⟨M.makes,me.at_,me.fn,M.kp⟩ F hr hg hm hb hd hx ha hdb he hpl
theorem pe_callO (D1 : Def X.prog X.w X.K X.mg X.base x k1 ps1 sp1) (hr1 : Room k1 X.A) (D : DefX X.prog X.w X.K X.mg X.base x k ps sp) (hr : Room k X.A) (hx : Passes (CX1 X.prog X.w) X E) (ha : PA X (e :: es) t) (hg : Gl X x:=by rfl) (hdb : (x == ("__debug__" : Str)) = false:=by decide)
   (he : starEach (e :: es) X.env = (false,eval e X.env) :: starEach es X.env:=by rfl) (hpl : (backTo pos (starEach es X.env)).any (·.1) = false:=by rfl) : PE X (.Call (.Name x p) (e :: es) [] pos) (tCall (fun vs H Q E => sp1 vs H Q E ∨ sp vs H Q E) [] E t):=by
 obtain ⟨f1,fd1,hm1,hk1,hb1,F1⟩:=D1
 obtain ⟨f,fd,hm,hk,hb,F⟩:=D
 obtain rfl : f1 = f:=by
   have:=hm1.symm.trans hm
   injection this with e
   injection e
 intro pins s σ H Q I h
 refine wpAny_Call_Name_kw (ld_glob I hg hm ?_ hdb)
 refine PySem.W.callWith_K (h₀:=X.base) I.ok.mod.kin hk (thn (ha pos pins s σ H _ I h) fun us s1 ⟨vs,H1,I1,r,q⟩ => ⟨I1.kIn,?_⟩) he hpl
 rcases q with q | q
 · exact run_fn (E:=E) F1 hr1 hb1 .nil (fun _ _ _ _ _ _ _ z => False.elim z) I1 r q
 · exact run_fn (E:=E) F hr hb .nil hx I1 r q
end
end L2
namespace L2
open PySem PySem.Spec PyProof.Rows Mth
structure GsM where
 bands : List Int
 burn : Nat
 waits : List Int
 failed : List Int
 heap : Int
def GsAt (K : PySem.W.Frag) (H : Hp) (p : Addr) (g : GsM) : Prop :=
 ∃ pb pw pf,SqT K H p [.ref pb,natV g.burn,.ref pw,.ref pf,.int g.heap]∧SqT K H pb (g.bands.map V.int)∧SqT K H pw (g.waits.map V.int)∧SqT K H pf (g.failed.map V.int)
theorem GsAt.same {K : PySem.W.Frag} {H H' : Hp} {p : Addr} {g : GsM} (h : GsAt K H p g) (q : Same H H') : GsAt K H' p g:=by
 obtain ⟨pb,pw,pf,a,b,c,d⟩:=h
 exact ⟨pb,pw,pf,q.tup a,q.tup b,q.tup c,q.tup d⟩
def ofN (l : List Nat) : List Int:=l.map Int.ofNat
def GsM.of (s : StM) : GsM:=⟨ofN s.bands,s.burn,ofN s.waits,ofN s.failed,s.heap⟩
theorem ofN_map (l : List Nat) : (ofN l).map V.int = l.map natV:=by unfold ofN; rw [List.map_map]; rfl
theorem StAt.gs {K : PySem.W.Frag} {H : Hp} {p : Addr} {s : StM} (h : StAt K H p s) : GsAt K H p (.of s):=by
 obtain ⟨pb,pw,pf,a,b,c,d⟩:=h
 exact ⟨pb,pw,pf,a,by show SqT K H pb ((ofN s.bands).map V.int); rw [ofN_map]; exact b,by show SqT K H pw ((ofN s.waits).map V.int); rw [ofN_map]; exact c,by show SqT K H pf ((ofN s.failed).map V.int); rw [ofN_map]; exact d⟩
def svB (sv : Option (Int × Int)) (f : Bool) (w b : Int) : Bool :=
 match sv with
 | none => !f && (decide (w = 0) && decide (b = 0))
 | some z => (decide (0 ≤ w) && decide (w ≤ z.1)) && ((decide (0 ≤ b) && decide (b ≤ z.2)) && (decide (b = 0) || (!f && decide (w = 0))))
def roomB (nb : Int) (sv : Option (Int × Int)) (band : Int) (f : Bool) (w b : Int) : Bool:=(decide (0 ≤ band) && decide (band < nb)) && svB sv f w b
def isB (n : Nat) (most cap : Int) (nb : Nat→Int) (sv : Nat→Option (Int × Int)) (g : GsM) : Bool :=
 (decide (g.bands.length = n) && (decide (g.waits.length = n) && decide (g.failed.length = n))) && ((decide (g.burn < 2 ^ n) && decide (((Bit.rooms g.burn).length : Int) ≤ most)) &&
   ((decide (0 ≤ g.heap) && decide (g.heap ≤ cap)) && (List.range n).all fun i => roomB (nb i) (sv i) (g.bands.getD i 0) (g.burn.testBit i) (g.waits.getD i 0) (g.failed.getD i 0)))
def HoldM.nb (m : HoldM) (i : Nat) : Int:=((m.rows.getD i []).length : Int) - 1
def svOf (o : Option Stv) : Option (Int × Int):=o.map fun z => (z.2.2.1,z.2.2.2)
def HoldM.sv (m : HoldM) (i : Nat) : Option (Int × Int):=svOf (m.stv i)
def isM (m : HoldM) (g : GsM) : Bool:=isB m.rows.length m.most m.cap m.nb m.sv g
theorem getD_of (l : List Nat) (i : Nat) : (ofN l).getD i 0 = (gN l i : Int):=by
 unfold ofN gN
 rw [List.getD_eq_getElem?_getD,List.getElem?_map]
 cases l[i]? <;> rfl
theorem len_of (l : List Nat) : (ofN l).length = l.length:=by unfold ofN; rw [List.length_map]
theorem StOk.isM {m : HoldM} {s : StM} (h : StOk m s) : isM m (.of s) = true:=by
 unfold L2.isM isB
 simp only [Bool.and_eq_true,decide_eq_true_eq,List.all_eq_true]
 refine ⟨⟨by show (ofN s.bands).length = _; rw [len_of,h.lb],by show (ofN s.waits).length = _; rw [len_of,h.lw],by show (ofN s.failed).length = _; rw [len_of,h.lf]⟩,⟨h.burn,h.most⟩,⟨Int.natCast_nonneg _,h.heap⟩,fun i hi => ?_⟩
 have hi:=List.mem_range.mp hi
 show roomB _ _ ((ofN s.bands).getD i 0) _ ((ofN s.waits).getD i 0) ((ofN s.failed).getD i 0) = true
 rw [getD_of,getD_of,getD_of]
 have hb:=h.band i hi
 have hs:=h.stove i hi
 unfold roomB
 rw [Bool.and_eq_true,Bool.and_eq_true]
 refine ⟨⟨decide_eq_true (Int.natCast_nonneg _),decide_eq_true (by unfold HoldM.nb; omega)⟩,?_⟩
 show svB (svOf (m.stv i)) (s.burn.testBit i) _ _ = true
 cases e : m.stv i with
 | none =>
   rw [e] at hs
   obtain ⟨h1,h2,h3⟩:=hs
   rw [h1,h2,h3]; rfl
 | some z =>
   rw [e] at hs
   obtain ⟨h1,h2,h3⟩:=hs
   show ((decide _ && decide _) && ((decide _ && decide _) && (decide _ || (!_ && decide _)))) = true
   simp only [Bool.and_eq_true,decide_eq_true_eq,Bool.or_eq_true,Bool.not_eq_true']
   refine ⟨⟨Int.natCast_nonneg _,h1⟩,⟨Int.natCast_nonneg _,h2⟩,?_⟩
   rcases h3 with h | ⟨h,h'⟩
   · exact .inl (by omega)
   · exact .inr ⟨h,by omega⟩
section
variable (K : PySem.W.Frag) (C : Addr)
def sp_fitsG : Sp:=fun vs H Q _ => ∃ v z f,∃ w b : Int,vs = [v,.bl f,.int w,.int b]∧Dn K H (stoveD z) v∧∀ H',Same H H'→Q (.bl (svB (svOf z) f w b)) H'
def sp_roomG : Sp:=fun vs H Q _ => ∃ a fp m p g,∃ i : Nat,vs = [.ref a,.ref p,natV i]∧HoldAt K C H a fp m∧GsAt K H p g∧g.bands.length = m.rows.length∧g.waits.length = m.rows.length∧g.failed.length = m.rows.length∧i < m.rows.length ∧
 ∀ H',Same H H'→Q (.bl (roomB (m.nb i) (m.sv i) (g.bands.getD i 0) (g.burn.testBit i) (g.waits.getD i 0) (g.failed.getD i 0))) H'
def sp_isG : Sp:=fun vs H Q _ => ∃ a fp m p g,vs = [.ref a,.ref p]∧HoldAt K C H a fp m∧GsAt K H p g∧g.burn < 2 ^ 61∧∀ H',Same H H'→Q (.bl (isM m g)) H'
def sp_noX (X : Addr) : Sp:=fun vs H _ E => ∃ a fp m p g,vs = [.ref a,.ref p]∧HoldAt K C H a fp m∧GsAt K H p g∧g.burn < 2 ^ 61∧isM m g = false∧∀ H',Same H H'→E (.ref X) none H'
def sp_noX3 (X : Addr) : Sp:=fun vs H _ E => ∃ a fp m p g v,vs = [.ref a,.ref p,v]∧HoldAt K C H a fp m∧GsAt K H p g∧g.burn < 2 ^ 61∧isM m g = false∧∀ H',Same H H'→E (.ref X) none H'
def sp_noX4 (X : Addr) : Sp:=fun vs H _ E => ∃ a fp m p g v u,vs = [.ref a,.ref p,v,u]∧HoldAt K C H a fp m∧GsAt K H p g∧g.burn < 2 ^ 61∧isM m g = false∧∀ H',Same H H'→E (.ref X) none H'
def sp_lookX (X : Addr) : Sp:=fun vs H Q E => ∃ a fp m p g,vs = [.ref a,.ref p]∧HoldAt K C H a fp m∧GsAt K H p g∧g.burn < 2 ^ 61∧(isM m g = true→∀ H',Same H H'→Q .non H')∧(isM m g = false→∀ H',Same H H'→E (.ref X) none H')
end
theorem atI_getD {l : List Int} {i : Nat} (h : i < l.length) : atI (l.map V.int) (i : Int) = some (.int (l.getD i 0)):=atI_nat (by rw [List.getElem?_map,List.getD_eq_getElem?_getD,get_nat h]; rfl)
end L2
namespace L2
open PySem PySem.Spec PyProof.Rows Mth
abbrev intsT (l : List Int) : PyData:=.tuple (l.map PyData.int)
abbrev gsD (g : GsM) : PyData:=.tuple [intsT g.bands,.int (g.burn : Int),intsT g.waits,intsT g.failed,.int g.heap]
theorem GsAt.dn {K : PySem.W.Frag} {H : Hp} {p : Addr} {g : GsM} (h : GsAt K H p g) : Dn K H (gsD g) (.ref p):=by
 obtain ⟨pb,pw,pf,a,b,c,d⟩:=h
 exact dn_tup a (dn_cons (dn_tup b (dn_ints _)) (dn_cons dn_int (dn_cons (dn_tup c (dn_ints _)) (dn_cons (dn_tup d (dn_ints _)) (dn_cons dn_int dn_nil)))))
def GsM.start (n : Nat) (bs : List Int) (heap : Int) : GsM:=⟨bs,0,List.replicate n 0,List.replicate n 0,heap⟩
def sp_startX (K : PySem.W.Frag) (C X : Addr) : Sp:=fun vs H Q E => ∃ a fp m pv,∃ bs : List Int,∃ heap : Int,vs = [.ref a,.ref pv,.int heap]∧HoldAt K C H a fp m∧(SqL K H pv (bs.map V.int) ∨ SqT K H pv (bs.map V.int))∧bs.length ≤ 900 ∧
 (isM m (.start m.rows.length bs heap) = true→∀ q H',Same H H'→GsAt K H' q (.start m.rows.length bs heap)→(∃ xs,H' q = some (.tup xs))→Q (.ref q) H')∧(isM m (.start m.rows.length bs heap) = false→∀ H',Same H H'→E (.ref X) none H')
def sp_walkX (K : PySem.W.Frag) (C CW X : Addr) : Sp:=fun vs H Q E => ∃ x dx a fp m p g,vs = [.ref x,.ref a,.ref p]∧H x = some (.ins CW dx [])∧HoldAt K C H a fp m∧GsAt K H p g∧g.burn < 2 ^ 61∧m.Bds∧(isM m g = true→∀ H',But [x] H H'→Q .non H')∧(isM m g = false→∀ H',Same H H'→E (.ref X) none H')
end L2
namespace L2
open PySem PySem.Spec PyProof.Rows Mth
theorem noFill_tuple_mul : fillsNumberSlot (.type "tuple") "mul" = pure false :=
 PySem.fillsNumberSlot_seq (id:="tuple.__mul__") (r:=some (.builtin "tuple.__rmul__")) F.slot_tuple_mul.lookup (by decide +kernel) F.slot_tuple_rmul.lookup (by decide +kernel)
theorem repeat_tuple : seqRepeat? (.type "tuple") = pure (some (.builtin "tuple.__mul__")):=by
 unfold seqRepeat?
 rw [PySem.seqSlot_of (T:="tuple") (name:="__mul__") (id:="tuple.__mul__") F.slot_tuple_mul.lookup (by decide +kernel),PySem.seqSlot_of (T:="tuple") (name:="__rmul__") (id:="tuple.__rmul__") F.slot_tuple_rmul.lookup (by decide +kernel)]
 rfl
theorem int_rmul_tuple (a : Int) (t : Tok) (l : Addr) (items : Array Value) (n : Nat) (dd : Option Addr) (sl : Array (Option Value)) :
   Meets (Builtin.«int.__rmul__» ⟨[.int a t,.ref l],[]⟩) (fun _ R s => s.heap.get? l = some { cls:=.type "tuple",dict:=dd,data:=.seq items n,slots:=sl }∧R (.ok (.ret Value.notImplemented)) s) :=
 .of_wp fun prog w A R s h => by obtain ⟨hp,g,d,tk,os⟩:=s; obtain ⟨hl,h⟩:=h; wp_walk; exact ⟨_,rfl,h⟩
theorem joined_one (v : Value) (m : Nat) : List.foldl (fun x1 x2 => x1 ++ x2) #[] (List.replicate m #[v]) = (List.replicate m v).toArray:=by
 have:=foldl_rep [v] m []
 rw [List.nil_append] at this
 rw [show (#[v] : Array Value) = [v].toArray from rfl,this]
 congr 1
 induction m with
 | zero => rfl
 | succ m ih => rw [List.replicate_succ,List.flatten_cons,ih (foldl_rep [v] m []),List.replicate_succ]; rfl
theorem tuple_mul_many (l : Addr) (v : Value) (x : Int) (u : Tok) (n : Nat) (dd : Option Addr) (sl : Array (Option Value)) (h1 : 1 < x) (h2 : x < 1000) :
   Meets (Builtin.«tuple.__mul__» ⟨[.ref l,.int x u],[]⟩) (fun _ R s => s.heap.get? l = some { cls:=.type "tuple",dict:=dd,data:=.seq #[v] n,slots:=sl }∧R (.ok (.ret (Value.ref s.heap.objs.size))) { s with heap:=s.heap.push { cls:=Value.type "tuple",data:=Data.seq (List.replicate x.toNat v).toArray },toks:=s.toks }) :=
 .of_wp fun prog w A R s h => by
   obtain ⟨hp,g,d,tk,os⟩:=s; obtain ⟨hl,h⟩:=h
   have f1:=AutoSeq1.idx_int
   have f2:=AutoSeq1.sub_tuple_tuple
   have c0 : ¬ (decide (x < -(2 ^ 63)) || decide (x ≥ 2 ^ 63)) = true:=by simp; omega
   have c1 : ¬ ((#[v] : Array Value).isEmpty || x == 1) = true:=by simp; omega
   have c2 : ¬ (decide (x ≤ 0) || (#[v] : Array Value).isEmpty) = true:=by simp; omega
   have c3 : ¬ (((#[v] : Array Value).size : Int) * x > (2 ^ 63 - 1) / 8):=by
     show ¬ (((1 : Nat) : Int) * x > (2 ^ 63 - 1) / 8)
     omega
   have c4 : ¬ Builtin.Tuple.tupleTooMany (((#[v] : Array Value).size : Int) * x) = true:=by
     show ¬ decide (((1 : Nat) : Int) * x > (sizeLine : Int)) = true
     have : (1000 : Int) ≤ (sizeLine : Int):=by decide
     simp
     omega
   have hsz : (List.replicate x.toNat v).toArray.size ≤ sizeLine:=by
     rw [List.size_toArray,List.length_replicate]
     exact Nat.le_trans (by omega : x.toNat ≤ 1000) (by decide)
   rw [← joined_one] at h hsz
   wp_walk using AutoSeq1.wpAny_loadPart' hl
   rw [if_neg c0]
   wp_walk using AutoSeq1.wpAny_loadPart' hl
   rw [if_neg c1]
   wp_walk using AutoSeq1.wpAny_loadPart' hl
   rw [if_neg c2]
   dsimp only
   rw [if_neg c3,if_neg c4]
   wp_walk
   exact ⟨_,rfl,h⟩
theorem tuple_mul_same (l : Addr) (v : Value) (u : Tok) (n : Nat) (dd : Option Addr) (sl : Array (Option Value)) :
   Meets (Builtin.«tuple.__mul__» ⟨[.ref l,.int 1 u],[]⟩) (fun _ R s => s.heap.get? l = some { cls:=.type "tuple",dict:=dd,data:=.seq #[v] n,slots:=sl }∧R (.ok (.ret (Value.ref l))) s) :=
 .of_wp fun prog w A R s h => by
   obtain ⟨hp,g,d,tk,os⟩:=s; obtain ⟨hl,h⟩:=h
   have f1:=AutoSeq1.idx_int
   have f2:=AutoSeq1.sub_tuple_tuple
   have c0 : ¬ (decide ((1 : Int) < -(2 ^ 63)) || decide ((1 : Int) ≥ 2 ^ 63)) = true:=by decide
   have c1 : ((#[v] : Array Value).isEmpty || (1 : Int) == 1) = true:=by simp
   wp_walk using AutoSeq1.wpAny_loadPart' hl
   try rw [if_neg c0]
   wp_walk using AutoSeq1.wpAny_loadPart' hl
   try rw [if_pos c1]
   wp_walk using AutoSeq1.wpAny_loadPart' hl
   exact ⟨_,rfl,h⟩
section
variable {X : Cx}
def rRepT (K : PySem.W.Frag) : R2:=fun x y H Q => ∃ l k v,x = .ref l∧y = .int k∧SqT K H l [v]∧1 ≤ k∧k < 1000∧∀ q H',Same H H'→SqT K H' q (List.replicate k.toNat v)→Q (.ref q) H'
theorem vals_rep {v : V} {u : Value} (r : RelV v u) : ∀ m : Nat,Vals (List.replicate m v) (List.replicate m u)
 | 0 => .nil
 | m + 1 => .cons r (vals_rep r m)
theorem op_repT : OpR X (binaryOp .Mult) (rRepT X.K):=by
 intro pins s σ H x y v u Q I rx ry h
 obtain ⟨l,k,v1,rfl,rfl,hH,h1,h2,qq⟩:=h
 cases rx
 obtain ⟨t,rfl⟩:=ry
 obtain ⟨its,r,ht,_⟩:=I.tuple hH
 obtain ⟨⟨cls,dd,data,sl⟩,ho,hc,n,hd⟩:=id ht
 simp only at hc hd
 subst hc hd
 obtain ⟨u1,rfl,r1⟩:=vals1 r
 refine wpAny_binaryOp_repeat_ref (T:="tuple") (U:="int") (by decide) ⟨_,ho,rfl⟩ (fun s' => typeIs_int s' k t) noFill_tuple_mul F.fills_int_mul F.slot_int_rmul repeat_tuple F.slot_int_index.lookup
   (call_meets F.slot_int_rmul (typeIs_int s k t) F.entry_int_rmul (F.args_int_rmul_2 _ _) (int_rmul_tuple k t l #[u1] n dd sl) ⟨ho,rfl,⟨_,ho,rfl⟩,?_⟩)
 by_cases e : k = 1
 · subst e
   exact call_meets F.slot_tuple_mul ⟨_,ho,rfl⟩ F.entry_tuple_mul (F.args_tuple_mul_2 _ _) (tuple_mul_same l u1 t n dd sl) ⟨ho,⟨.ref l,H,I,rfl,qq l H (Same.refl _) hH⟩⟩
 · refine call_meets F.slot_tuple_mul ⟨_,ho,rfl⟩ F.entry_tuple_mul (F.args_tuple_mul_2 _ _) (tuple_mul_many l u1 k t n dd sl (by omega) h2) ⟨ho,?_⟩
   refine ⟨.ref s.heap.objs.size,_,I.laid (t':=s.toks) (o:=.tup (List.replicate k.toNat v1)) (fun b ob q => Heap.get?_push_of_some _ q) (Nat.le_refl _) ?_,rfl,qq _ _ (same_upd (I.hok.fresh (Nat.le_refl _))) (SqT.of upd_same)⟩
   exact ⟨by rw [List.length_replicate]; exact Nat.le_trans (by omega : k.toNat ≤ 1000) (by decide),_,vals_rep r1 _,IsTup.new _ _⟩
def rCatA (K : PySem.W.Frag) : R2:=fun x y H Q => ∃ a b xs ys,x = .ref a∧y = .ref b∧SqT K H a xs∧SqT K H b ys∧xs.length + ys.length ≤ sizeLine∧∀ q H',Same H H'→SqT K H' q (xs ++ ys)→Q (.ref q) H'
theorem op_catA : OpR X (binaryOp .Add) (rCatA X.K):=by
 intro pins s σ H x y v u Q I rx ry h
 obtain ⟨a,b,xs,ys,rfl,rfl,ha,hb,hz,qq⟩:=h
 by_cases hx : xs = []
 · cases rx
   cases ry
   obtain ⟨its,r1,p1,_⟩:=I.tuple ha
   obtain ⟨its2,r2,p2,_⟩:=I.tuple hb
   obtain ⟨⟨cls,dd,data,sl⟩,ho,hc,n,hd⟩:=id p1
   obtain ⟨⟨cls2,dd2,data2,sl2⟩,ho2,hc2,n2,hd2⟩:=id p2
   simp only at hc hd hc2 hd2
   subst hc hd hc2 hd2
   have e0 : its = []:=r1.nil_iff.mpr hx
   refine concat_meets ⟨_,ho,rfl⟩ ⟨_,ho2,rfl⟩ noFill_tuple_add seq_tuple_add PySem.F.slot_tuple_add PySem.F.entry_tuple_add (PySem.F.args_tuple_add_2 _ _)
     (tuple_addW0 a b its.toArray its2.toArray n n2 dd dd2 sl sl2 (by rw [e0]; rfl)) ⟨ho,ho2,⟨.ref b,H,I,rfl,qq b H (Same.refl _) (by rw [hx]; exact hb)⟩⟩
 · exact op_catT pins s σ H _ _ v u Q I rx ry ⟨a,b,xs,ys,rfl,rfl,ha,hb,hx,hz,fun e => qq a H (Same.refl _) (by rw [e,List.append_nil]; exact ha),fun _ p hp => qq p _ (same_upd hp) (SqT.of upd_same)⟩
end
def sp_put12 (K : PySem.W.Frag) : Sp:=fun vs H Q _ => ∃ p,∃ l : List Int,∃ i : Nat,∃ z : Int,vs = [.ref p,natV i,.int z]∧SqT K H p (l.map V.int)∧i < l.length∧l.length ≤ 9∧∀ q (l' : List Int) H',Same H H'→SqT K H' q (l'.map V.int)→l'.length ≤ 9→Q (.ref q) H'
def sp_bent12 (K : PySem.W.Frag) : Sp:=fun vs H Q _ => ∃ p tm,∃ n : Nat,∃ q st,∃ c : Int,∃ k : Nat,vs = [.ref p,.ref q,.int c,natV k]∧ToldAt K H p tm∧tm.Ok n n∧1 ≤ n∧n ≤ 4∧StAt K H q st∧st.bands.length = n∧st.waits.length = n∧st.failed.length = n∧st.burn < 16∧k ≤ 900 ∧
 ∀ q' g H',Same H H'→GsAt K H' q' g→g.burn < 2 ^ 61→g.bands.length ≤ 9→Q (.ref q') H'
def sp_rroom12 (K : PySem.W.Frag) : Sp:=fun vs H Q _ => ∃ p tm,∃ n : Nat,∃ q g,∃ i : Nat,vs = [.ref p,.ref q,natV i]∧ToldAt K H p tm∧tm.Ok n n∧n ≤ 4∧GsAt K H q g∧g.bands.length = n∧g.waits.length = n∧g.failed.length = n∧i < n∧Q (.bl (roomB ((tm.m2 n n).nb i) ((tm.m2 n n).sv i) (g.bands.getD i 0) (g.burn.testBit i) (g.waits.getD i 0) (g.failed.getD i 0))) H
def sp_right12 (K : PySem.W.Frag) : Sp:=fun vs H Q _ => ∃ p tm,∃ n : Nat,∃ q g,vs = [.ref p,.ref q]∧ToldAt K H p tm∧tm.Ok n n∧n ≤ 4∧GsAt K H q g∧g.burn < 2 ^ 61∧∀ H',Same H H'→Q (.bl (isM (tm.m2 n n) g)) H'
def sp_askX (K : PySem.W.Frag) (C X : Addr) : Sp:=fun vs H Q E => ∃ a fp m p,∃ way : Int,vs = [.ref a,.ref p,.int way]∧HoldAt K C H a fp m∧m.Bds∧0 ≤ way∧way ≤ 5 ∧
 ((∃ st,StAt K H p st∧StOk m st∧(way = 0 ∨ way = 1 ∨ way = 5)∧∀ H',Same H H'→Q .non H') ∨ (∃ g,GsAt K H p g∧g.burn < 2 ^ 61∧isM m g = false∧∀ H',Same H H'→E (.ref X) none H'))
def sp_none12 (K : PySem.W.Frag) (C : Addr) : Sp:=fun vs H Q _ => ∃ a fp m p g,∃ way : Int,vs = [.ref a,.ref p,.int way]∧HoldAt K C H a fp m∧m.Bds∧0 ≤ way∧way ≤ 5∧GsAt K H p g∧g.burn < 2 ^ 61∧isM m g = false∧∀ H',Same H H'→Q (.bl true) H'
def sp_started12 (K : PySem.W.Frag) (C : Addr) : Sp:=fun vs H Q _ => ∃ a fp m pv,∃ bs : List Int,∃ oh : Option Int,vs = [.ref a,.ref pv,optV oh]∧HoldAt K C H a fp m∧(SqL K H pv (bs.map V.int) ∨ SqT K H pv (bs.map V.int))∧bs.length ≤ 900 ∧
 (isM m (.start m.rows.length bs (oh.getD 0)) = true→∀ q qs H',Same H H'→H' q = some (.tup [.str (Str.ofString "told"),.ref qs])→GsAt K H' qs (.start m.rows.length bs (oh.getD 0))→(∃ xs,H' qs = some (.tup xs))→Q (.ref q) H') ∧
 (isM m (.start m.rows.length bs (oh.getD 0)) = false→∀ q H',Same H H'→H' q = some (.tup [.str (Str.ofString "refused"),.bl true])→Q (.ref q) H')
def sp_says12 (K : PySem.W.Frag) (C : Addr) : Sp:=fun vs H Q _ => ∃ a fp p tm,∃ n : Nat,∃ q g,vs = [.ref a,.ref p,.ref q]∧HoldAt K C H a fp (tm.m2 n n)∧ToldAt K H p tm∧tm.Ok n n∧n ≤ 4∧GsAt K H q g∧g.burn < 2 ^ 61∧∀ H',Same H H'→Q (.bl true) H'
def sp_stright12 (K : PySem.W.Frag) (C : Addr) : Sp:=fun vs H Q _ => ∃ a fp p tm,∃ n : Nat,∃ q g,∃ k : Nat,vs = [.ref a,.ref p,.ref q,natV k]∧HoldAt K C H a fp (tm.m2 n n)∧ToldAt K H p tm∧tm.Ok n n∧1 ≤ n∧n ≤ 4∧GsAt K H q g∧g.burn < 2 ^ 61∧g.bands.length ≤ 9∧k ≤ 900∧∀ H',Same H H'→Q (.bl true) H'
end L2
namespace K12
open PySem PySem.Spec PyProof.Rows L2 Mth
seal PE PS PSs PPs PA PG PGs PT PIf PI
def top (i : Nat) : Stmt:=PySem.Challenge.pw_stoke_k12_what_is_a_state.main.body.getD i (.Pass ⟨0,0,0,0⟩)
abbrev s_wall : Stmt:=top 0
abbrev s_has_room : Stmt:=top 2
theorem sc_has_room : FnScope ["bits","room"] ["bits","room"] (defScope s_has_room):=⟨rfl,rfl,rfl,by decide +kernel,rfl,by decide +kernel,by decide +kernel⟩
abbrev s_with_room : Stmt:=top 3
theorem sc_with_room : FnScope ["bits","room"] ["bits","room"] (defScope s_with_room):=⟨rfl,rfl,rfl,by decide +kernel,rfl,by decide +kernel,by decide +kernel⟩
abbrev s_how_many : Stmt:=top 4
theorem sc_how_many : FnScope ["bits"] ["bits"] (defScope s_how_many):=⟨rfl,rfl,rfl,by decide +kernel,rfl,by decide +kernel,by decide +kernel⟩
abbrev s_members : Stmt:=top 5
theorem sc_members : FnScope ["bits"] ["bits"] (defScope s_members):=⟨rfl,rfl,rfl,by decide +kernel,rfl,by decide +kernel,by decide +kernel⟩
abbrev s_subsets : Stmt:=top 6
theorem sc_subsets : FnScope ["bits","parts","room"] ["bits"] (defScope s_subsets):=⟨rfl,rfl,rfl,by decide +kernel,rfl,by decide +kernel,by decide +kernel⟩
abbrev s_bits_of : Stmt:=top 7
theorem sc_bits_of : FnScope ["rooms","bits","room"] ["rooms"] (defScope s_bits_of):=⟨rfl,rfl,rfl,by decide +kernel,rfl,by decide +kernel,by decide +kernel⟩
abbrev s_NoRoom___init__ : Stmt:=inClass (top 19) 0
abbrev s_NoShare___init__ : Stmt:=inClass (top 20) 0
abbrev s_NoTurn___init__ : Stmt:=inClass (top 21) 0
abbrev s_NoBand___init__ : Stmt:=inClass (top 22) 0
abbrev s_is_state : Stmt:=top 24
theorem sc_is_state : FnScope ["hold","state","bands","burning","waits","failed","heap","many"] ["hold","state"] (defScope s_is_state):=⟨rfl,rfl,rfl,by decide +kernel,rfl,by decide +kernel,by decide +kernel⟩
abbrev s_fits_room : Stmt:=top 25
theorem sc_fits_room : FnScope ["hold","state","room","bands","burning","waits","failed","heap"] ["hold","state","room"] (defScope s_fits_room):=⟨rfl,rfl,rfl,by decide +kernel,rfl,by decide +kernel,by decide +kernel⟩
abbrev s_fits_stove : Stmt:=top 26
theorem sc_fits_stove : FnScope ["stove","fired","wait","failed","stay","fails"] ["stove","fired","wait","failed"] (defScope s_fits_stove):=⟨rfl,rfl,rfl,by decide +kernel,rfl,by decide +kernel,by decide +kernel⟩
abbrev s_look_at_state : Stmt:=top 27
theorem sc_look_at_state : FnScope ["hold","state"] ["hold","state"] (defScope s_look_at_state):=⟨rfl,rfl,rfl,by decide +kernel,rfl,by decide +kernel,by decide +kernel⟩
abbrev s_start_state : Stmt:=top 28
theorem sc_start_state : FnScope ["hold","bands","heap","none","state"] ["hold","bands","heap"] (defScope s_start_state):=⟨rfl,rfl,rfl,by decide +kernel,rfl,by decide +kernel,by decide +kernel⟩
abbrev s_with_stove : Stmt:=top 29
theorem sc_with_stove : FnScope ["hold"] ["hold"] (defScope s_with_stove):=⟨rfl,rfl,rfl,by decide +kernel,rfl,by decide +kernel,by decide +kernel⟩
abbrev s_wood_of : Stmt:=top 30
theorem sc_wood_of : FnScope ["hold","bits"] ["hold","bits"] (defScope s_wood_of):=⟨rfl,rfl,rfl,by decide +kernel,rfl,by decide +kernel,by decide +kernel⟩
abbrev s_must_stay : Stmt:=top 31
theorem sc_must_stay : FnScope ["state"] ["state"] (defScope s_must_stay):=⟨rfl,rfl,rfl,by decide +kernel,rfl,by decide +kernel,by decide +kernel⟩
abbrev s_can_burn : Stmt:=top 32
theorem sc_can_burn : FnScope ["hold","order","heap"] ["hold","order","heap"] (defScope s_can_burn):=⟨rfl,rfl,rfl,by decide +kernel,rfl,by decide +kernel,by decide +kernel⟩
abbrev s_orders_of : Stmt:=top 33
theorem sc_orders_of : FnScope ["hold","state","held","going_on"] ["hold","state"] (defScope s_orders_of):=⟨rfl,rfl,rfl,by decide +kernel,rfl,by decide +kernel,by decide +kernel⟩
abbrev s_heeded : Stmt:=top 34
theorem sc_heeded : FnScope ["hold","state","wish","held","order","room","larger"] ["hold","state","wish"] (defScope s_heeded):=⟨rfl,rfl,rfl,by decide +kernel,rfl,by decide +kernel,by decide +kernel⟩
abbrev s_may_fail : Stmt:=top 35
theorem sc_may_fail : FnScope ["hold","state","order"] ["hold","state","order"] (defScope s_may_fail):=⟨rfl,rfl,rfl,by decide +kernel,rfl,by decide +kernel,by decide +kernel⟩
abbrev s_failing : Stmt:=top 36
abbrev s_behind_turn : Stmt:=top 37
theorem sc_behind_turn : FnScope ["hold","state","order","out"] ["hold","state","order","out"] (defScope s_behind_turn):=⟨rfl,rfl,rfl,by decide +kernel,rfl,by decide +kernel,by decide +kernel⟩
abbrev s_stoves_behind : Stmt:=top 38
abbrev s_wait_behind : Stmt:=top 39
abbrev s_failed_behind : Stmt:=top 40
abbrev s_divisor : Stmt:=top 44
theorem sc_divisor : FnScope ["one","other","greater","lesser","rest"] ["one","other"] (defScope s_divisor):=⟨rfl,rfl,rfl,by decide +kernel,rfl,by decide +kernel,by decide +kernel⟩
abbrev s_fraction : Stmt:=top 45
theorem sc_fraction : FnScope ["top","bottom","common"] ["top","bottom"] (defScope s_fraction):=⟨rfl,rfl,rfl,by decide +kernel,rfl,by decide +kernel,by decide +kernel⟩
abbrev s_plus : Stmt:=top 46
theorem sc_plus : FnScope ["one","other"] ["one","other"] (defScope s_plus):=⟨rfl,rfl,rfl,by decide +kernel,rfl,by decide +kernel,by decide +kernel⟩
abbrev s_minus : Stmt:=top 47
theorem sc_minus : FnScope ["one","other"] ["one","other"] (defScope s_minus):=⟨rfl,rfl,rfl,by decide +kernel,rfl,by decide +kernel,by decide +kernel⟩
abbrev s_under : Stmt:=top 48
theorem sc_under : FnScope ["one","other"] ["one","other"] (defScope s_under):=⟨rfl,rfl,rfl,by decide +kernel,rfl,by decide +kernel,by decide +kernel⟩
abbrev s_is_whole_upto : Stmt:=top 60
theorem sc_is_whole_upto : FnScope ["thing","greatest"] ["thing","greatest"] (defScope s_is_whole_upto):=⟨rfl,rfl,rfl,by decide +kernel,rfl,by decide +kernel,by decide +kernel⟩
abbrev s_is_rising : Stmt:=top 61
theorem sc_is_rising : FnScope ["marks"] ["marks"] (defScope s_is_rising):=⟨rfl,rfl,rfl,by decide +kernel,rfl,by decide +kernel,by decide +kernel⟩
abbrev s_bands_together : Stmt:=top 62
theorem sc_bands_together : FnScope ["rows","product","marks"] ["rows"] (defScope s_bands_together):=⟨rfl,rfl,rfl,by decide +kernel,rfl,by decide +kernel,by decide +kernel⟩
abbrev s_Hold___init__ : Stmt:=inClass (top 63) 0
theorem sc_Hold___init__ : FnScope ["self","most","cap","load"] ["self","most","cap","load"] (defScope s_Hold___init__):=⟨rfl,rfl,rfl,by decide +kernel,rfl,by decide +kernel,by decide +kernel⟩
abbrev s_Hold_put_room : Stmt:=inClass (top 63) 1
theorem sc_Hold_put_room : FnScope ["self","marks","rows"] ["self","marks"] (defScope s_Hold_put_room):=⟨rfl,rfl,rfl,by decide +kernel,rfl,by decide +kernel,by decide +kernel⟩
abbrev s_Hold_put_flow : Stmt:=inClass (top 63) 2
theorem sc_Hold_put_flow : FnScope ["self","into","of","share"] ["self","into","of","share"] (defScope s_Hold_put_flow):=⟨rfl,rfl,rfl,by decide +kernel,rfl,by decide +kernel,by decide +kernel⟩
abbrev s_Hold_put_sky : Stmt:=inClass (top 63) 3
theorem sc_Hold_put_sky : FnScope ["self","room","share","low","high"] ["self","room","share","low","high"] (defScope s_Hold_put_sky):=⟨rfl,rfl,rfl,by decide +kernel,rfl,by decide +kernel,by decide +kernel⟩
abbrev s_Hold_put_stove : Stmt:=inClass (top 63) 4
theorem sc_Hold_put_stove : FnScope ["self","room","heat","wood","stay","fails"] ["self","room","heat","wood","stay","fails"] (defScope s_Hold_put_stove):=⟨rfl,rfl,rfl,by decide +kernel,rfl,by decide +kernel,by decide +kernel⟩
abbrev s_Hold_many : Stmt:=inClass (top 63) 5
theorem sc_Hold_many : FnScope ["self"] ["self"] (defScope s_Hold_many):=⟨rfl,rfl,rfl,by decide +kernel,rfl,by decide +kernel,by decide +kernel⟩
abbrev s_Hold_marks : Stmt:=inClass (top 63) 6
theorem sc_Hold_marks : FnScope ["self","room"] ["self","room"] (defScope s_Hold_marks):=⟨rfl,rfl,rfl,by decide +kernel,rfl,by decide +kernel,by decide +kernel⟩
abbrev s_Hold_share : Stmt:=inClass (top 63) 7
theorem sc_Hold_share : FnScope ["self","into","of"] ["self","into","of"] (defScope s_Hold_share):=⟨rfl,rfl,rfl,by decide +kernel,rfl,by decide +kernel,by decide +kernel⟩
abbrev s_Hold_sky : Stmt:=inClass (top 63) 8
abbrev s_Hold_stove : Stmt:=inClass (top 63) 9
theorem sc_Hold_stove : FnScope ["self","room"] ["self","room"] (defScope s_Hold_stove):=⟨rfl,rfl,rfl,by decide +kernel,rfl,by decide +kernel,by decide +kernel⟩
abbrev s_Hold_own_share : Stmt:=inClass (top 63) 10
theorem sc_Hold_own_share : FnScope ["self","room","rest","other"] ["self","room"] (defScope s_Hold_own_share):=⟨rfl,rfl,rfl,by decide +kernel,rfl,by decide +kernel,by decide +kernel⟩
abbrev s_Hold_look_for : Stmt:=inClass (top 63) 11
theorem sc_Hold_look_for : FnScope ["self","room"] ["self","room"] (defScope s_Hold_look_for):=⟨rfl,rfl,rfl,by decide +kernel,rfl,by decide +kernel,by decide +kernel⟩
abbrev s_Hold_look_at_share : Stmt:=inClass (top 63) 12
theorem sc_Hold_look_at_share : FnScope ["self","room","share","former","free"] ["self","room","share","former"] (defScope s_Hold_look_at_share):=⟨rfl,rfl,rfl,by decide +kernel,rfl,by decide +kernel,by decide +kernel⟩
abbrev s_hold_like : Stmt:=top 64
theorem sc_hold_like : FnScope ["hold","most","cap","load","like"] ["hold","most","cap","load"] (defScope s_hold_like):=⟨rfl,rfl,rfl,by decide +kernel,rfl,by decide +kernel,by decide +kernel⟩
abbrev s_sum_of_products : Stmt:=top 66
abbrev s_warmth_of : Stmt:=top 67
abbrev s_span_of : Stmt:=top 68
abbrev s_touched : Stmt:=top 69
abbrev s_within : Stmt:=top 70
abbrev s_outcomes : Stmt:=top 72
theorem sc_outcomes : FnScope ["hold","state","order"] ["hold","state","order"] (defScope s_outcomes):=⟨rfl,rfl,rfl,by decide +kernel,rfl,by decide +kernel,by decide +kernel⟩
abbrev s_each_choice : Stmt:=top 73
abbrev s_Reach___init__ : Stmt:=inClass (top 74) 0
abbrev s_Reach_states_behind : Stmt:=inClass (top 74) 1
abbrev s_Reach_spread : Stmt:=inClass (top 74) 2
abbrev s_Walk___init__ : Stmt:=inClass (top 76) 0
theorem sc_Walk___init__ : FnScope ["self","hold","state"] ["self","hold","state"] (defScope s_Walk___init__):=⟨rfl,rfl,rfl,by decide +kernel,rfl,by decide +kernel,by decide +kernel⟩
abbrev s_Walk_go : Stmt:=inClass (top 76) 1
abbrev s_Walk_leave : Stmt:=inClass (top 76) 2
abbrev s_Walk_state : Stmt:=inClass (top 76) 3
abbrev s_Walk_turns : Stmt:=inClass (top 76) 4
abbrev s_Walk_is_left : Stmt:=inClass (top 76) 5
abbrev s_Walk_span : Stmt:=inClass (top 76) 6
abbrev s_Walk_look_at_order : Stmt:=inClass (top 76) 7
abbrev s_Walk_look_at_warmth : Stmt:=inClass (top 76) 8
abbrev s_law_cell_at : Stmt:=top 78
theorem sc_law_cell_at : FnScope ["_law_script","_law_k"] ["_law_script","_law_k"] (defScope s_law_cell_at):=⟨rfl,rfl,rfl,by decide +kernel,rfl,by decide +kernel,by decide +kernel⟩
abbrev s_law_pick : Stmt:=top 79
theorem sc_law_pick : FnScope ["_law_cell","_law_k","_law_many"] ["_law_cell","_law_k","_law_many"] (defScope s_law_pick):=⟨rfl,rfl,rfl,by decide +kernel,rfl,by decide +kernel,by decide +kernel⟩
abbrev s_law_ratio : Stmt:=top 80
theorem sc_law_ratio : FnScope ["_law_top","_law_bottom","_law_one","_law_other","_law_rest"] ["_law_top","_law_bottom"] (defScope s_law_ratio):=⟨rfl,rfl,rfl,by decide +kernel,rfl,by decide +kernel,by decide +kernel⟩
abbrev s_law_scale : Stmt:=top 81
theorem sc_law_scale : FnScope ["_law_cell","_law_far","_law_some"] ["_law_cell"] (defScope s_law_scale):=⟨rfl,rfl,rfl,by decide +kernel,rfl,by decide +kernel,by decide +kernel⟩
abbrev s_law_warm : Stmt:=top 82
theorem sc_law_warm : FnScope ["_law_num","_law_parts","_law_scale_here","_law_whole"] ["_law_num","_law_parts","_law_scale_here"] (defScope s_law_warm):=⟨rfl,rfl,rfl,by decide +kernel,rfl,by decide +kernel,by decide +kernel⟩
abbrev s_law_stove_by : Stmt:=top 83
theorem sc_law_stove_by : FnScope ["_law_a","_law_b","_law_c","_law_room","_law_wood","_law_stay"] ["_law_a","_law_b","_law_c","_law_room"] (defScope s_law_stove_by):=⟨rfl,rfl,rfl,by decide +kernel,rfl,by decide +kernel,by decide +kernel⟩
abbrev s_law_drawn : Stmt:=top 84
theorem sc_law_drawn : FnScope ["_law_script","_law_a","_law_b","_law_c","_law_many","_law_told","_law_room","_law_marks","_law_j","_law_low","_law_of"] ["_law_script"] (defScope s_law_drawn):=⟨rfl,rfl,rfl,by decide +kernel,rfl,by decide +kernel,by decide +kernel⟩
abbrev s_law_built : Stmt:=top 85
theorem sc_law_built : FnScope ["_law_told","_law_bounds","_law_scale_here","_law_hold","_law_marks","_law_room","_law_sky","_law_stove","_law_of"] ["_law_told"] (defScope s_law_built):=⟨rfl,rfl,rfl,by decide +kernel,rfl,by decide +kernel,by decide +kernel⟩
abbrev s_law_state_by : Stmt:=top 86
theorem sc_law_state_by : FnScope ["_law_told","_law_cell","_law_k","_law_bands","_law_waits","_law_failed","_law_burning","_law_lit","_law_room","_law_stove","_law_wait","_law_fails"] ["_law_told","_law_cell","_law_k"] (defScope s_law_state_by):=⟨rfl,rfl,rfl,by decide +kernel,rfl,by decide +kernel,by decide +kernel⟩
abbrev s_law_room_right : Stmt:=top 87
theorem sc_law_room_right : FnScope ["_law_told","_law_state","_law_room","_law_stove","_law_burning"] ["_law_told","_law_state","_law_room"] (defScope s_law_room_right):=⟨rfl,rfl,rfl,by decide +kernel,rfl,by decide +kernel,by decide +kernel⟩
abbrev s_law_right : Stmt:=top 88
theorem sc_law_right : FnScope ["_law_told","_law_state","_law_many","_law_lit","_law_room"] ["_law_told","_law_state"] (defScope s_law_right):=⟨rfl,rfl,rfl,by decide +kernel,rfl,by decide +kernel,by decide +kernel⟩
abbrev s_law_put : Stmt:=top 89
theorem sc_law_put : FnScope ["_law_row","_law_at","_law_num"] ["_law_row","_law_at","_law_num"] (defScope s_law_put):=⟨rfl,rfl,rfl,by decide +kernel,rfl,by decide +kernel,by decide +kernel⟩
abbrev s_law_bent : Stmt:=top 90
theorem sc_law_bent : FnScope ["_law_told","_law_state","_law_cell","_law_k","_law_many","_law_room","_law_num","_law_way","_law_heaps","_law_spot","_law_at","_law_row"] ["_law_told","_law_state","_law_cell","_law_k"] (defScope s_law_bent):=⟨rfl,rfl,rfl,by decide +kernel,rfl,by decide +kernel,by decide +kernel⟩
abbrev s_law_started : Stmt:=top 91
theorem sc_law_started : FnScope ["_law_hold","_law_bands","_law_heap","_law_refused","_law_own","_law_found","e"] ["_law_hold","_law_bands","_law_heap"] (defScope s_law_started):=⟨rfl,rfl,rfl,by decide +kernel,rfl,by decide +kernel,by decide +kernel⟩
abbrev s_law_start_right : Stmt:=top 92
theorem sc_law_start_right : FnScope ["_law_hold","_law_told","_law_state","_law_k","_law_noughts","_law_heap","_law_due","_law_handed","_law_found"] ["_law_hold","_law_told","_law_state","_law_k"] (defScope s_law_start_right):=⟨rfl,rfl,rfl,by decide +kernel,rfl,by decide +kernel,by decide +kernel⟩
abbrev s_law_asked : Stmt:=top 93
theorem sc_law_asked : FnScope ["_law_hold","_law_state","_law_way"] ["_law_hold","_law_state","_law_way"] (defScope s_law_asked):=⟨rfl,rfl,rfl,by decide +kernel,rfl,by decide +kernel,by decide +kernel⟩
abbrev s_law_none : Stmt:=top 94
theorem sc_law_none : FnScope ["_law_hold","_law_state","_law_way","e"] ["_law_hold","_law_state","_law_way"] (defScope s_law_none):=⟨rfl,rfl,rfl,by decide +kernel,rfl,by decide +kernel,by decide +kernel⟩
abbrev s_law_says : Stmt:=top 95
theorem sc_law_says : FnScope ["_law_hold","_law_told","_law_state","_law_said"] ["_law_hold","_law_told","_law_state"] (defScope s_law_says):=⟨rfl,rfl,rfl,by decide +kernel,rfl,by decide +kernel,by decide +kernel⟩
abbrev s_law : Stmt:=top 96
theorem sc_law : FnScope ["_law_script","_law_told","_law_hold","_law_k","_law_two","_law_state","_law_bent_here","_law_one"] ["_law_script"] (defScope s_law):=⟨rfl,rfl,rfl,by decide +kernel,rfl,by decide +kernel,by decide +kernel⟩
structure Ads where
 Hold : Addr
 Walk : Addr
 Reach : Addr
 StokeError : Addr
 NoHold : Addr
 NoState : Addr
 NoOrder : Addr
 NoRoom : Addr
 NoTurn : Addr
 NoBand : Addr
 NoStove : Addr
 TooMany : Addr
 NOUGHT : Addr
 WHOLE : Addr
 T_Hold___init__ : Addr
 T_Hold_put_stove : Addr
 T_Walk_go : Addr
 T_start_state : Addr
 T_hold_like : Addr
structure Txt (K : W.Frag) (mg : Str→Option Value) (A : Ads) : Prop where
 m_Hold : mg "Hold" = some (.ref A.Hold)
 m_Walk : mg "Walk" = some (.ref A.Walk)
 m_StokeError : mg "StokeError" = some (.ref A.StokeError)
 m_NoHold : mg "NoHold" = some (.ref A.NoHold)
 m_NoState : mg "NoState" = some (.ref A.NoState)
 m_NoOrder : mg "NoOrder" = some (.ref A.NoOrder)
 m_NoRoom : mg "NoRoom" = some (.ref A.NoRoom)
 m_NoTurn : mg "NoTurn" = some (.ref A.NoTurn)
 m_NoBand : mg "NoBand" = some (.ref A.NoBand)
 m_NoStove : mg "NoStove" = some (.ref A.NoStove)
 m_TooMany : mg "TooMany" = some (.ref A.TooMany)
 m_NOUGHT : mg "NOUGHT" = some (.ref A.NOUGHT)
 m_WHOLE : mg "WHOLE" = some (.ref A.WHOLE)
 x_NoState : W.excIn K A.NoState [.type "ValueError",.type "Exception",.type "BaseException",.type "object"] "ValueError.__new__" = true
 xga_NoState : W.findIn K (.ref A.NoState) "__getattribute__" = some (some (.builtin "BaseException.__getattribute__"))
 xgt_NoState : W.findIn K (.ref A.NoState) "__getattr__" = some none
 xcl_NoState : W.findIn K (.ref A.NoState) "__class__" = some (some (.builtin "object.__class__"))
 xmo_NoState : W.mroIn K A.NoState (.type "object") = some true
 xmb_NoState : W.mroIn K A.NoState (.type "BaseException") = some true
 xis_NoState : W.isClsIn K A.NoState = true
 gs : W.specialIn K (.builtin "object.__class__") "__get__" = some (some (.builtin "getset_descriptor.__get__"))
 tk : W.takesIn K (.builtin "object.__class__") = some true
 ex : W.exmOne K (.ref A.NoState) (.ref A.StokeError) = some true
 k0 : W.kitAny K (.ref A.NoState) [.ref A.NoHold,.ref A.NoOrder,.ref A.NoRoom,.ref A.NoTurn,.ref A.NoBand,.ref A.NoStove,.ref A.TooMany] = some false
 k1 : W.kitOne K (.ref A.NoState) (.type "ValueError") = some true
 m_LEAST_MARKS : ∃ t,mg "LEAST_MARKS" = some (.int 2 t)
 m_MOST_BANDS : ∃ t,mg "MOST_BANDS" = some (.int 400 t)
 m_MOST_BURNING : ∃ t,mg "MOST_BURNING" = some (.int 4 t)
 m_MOST_CAP : ∃ t,mg "MOST_CAP" = some (.int 30 t)
 m_MOST_FAILS : ∃ t,mg "MOST_FAILS" = some (.int 3 t)
 m_MOST_LOAD : ∃ t,mg "MOST_LOAD" = some (.int 30 t)
 m_MOST_MARKS : ∃ t,mg "MOST_MARKS" = some (.int 7 t)
 m_MOST_ROOMS : ∃ t,mg "MOST_ROOMS" = some (.int 4 t)
 m_MOST_STAY : ∃ t,mg "MOST_STAY" = some (.int 3 t)
 m_MOST_WOOD : ∃ t,mg "MOST_WOOD" = some (.int 9 t)
 q_NOUGHT : KTup K A.NOUGHT [.int 0,.int 1]
 q_WHOLE : KTup K A.WHOLE [.int 1,.int 1]
 cl_Hold : Cls K A.Hold
 mk_Hold : MkCl K A.Hold
 na_Hold_most : NoAttr K A.Hold "most"
 na_Hold_cap : NoAttr K A.Hold "cap"
 na_Hold_load : NoAttr K A.Hold "load"
 na_Hold_mark_rows : NoAttr K A.Hold "mark_rows"
 na_Hold_flows : NoAttr K A.Hold "flows"
 na_Hold_skies : NoAttr K A.Hold "skies"
 na_Hold_stoves : NoAttr K A.Hold "stoves"
 e_Hold___init__ : HasM K A.Hold "__init__" "Hold.__init__" s_Hold___init__ (.ref A.T_Hold___init__)
 t_Hold___init__ : DfIs K A.T_Hold___init__ [.int 4,.int 0,.int 0]
 e_Hold_put_room : HasM K A.Hold "put_room" "Hold.put_room" s_Hold_put_room .none
 e_Hold_put_flow : HasM K A.Hold "put_flow" "Hold.put_flow" s_Hold_put_flow .none
 e_Hold_put_sky : HasM K A.Hold "put_sky" "Hold.put_sky" s_Hold_put_sky .none
 e_Hold_put_stove : HasM K A.Hold "put_stove" "Hold.put_stove" s_Hold_put_stove (.ref A.T_Hold_put_stove)
 t_Hold_put_stove : DfIs K A.T_Hold_put_stove [.int 0,.int 0,.int 0]
 e_Hold_many : HasM K A.Hold "many" "Hold.many" s_Hold_many .none
 e_Hold_marks : HasM K A.Hold "marks" "Hold.marks" s_Hold_marks .none
 e_Hold_share : HasM K A.Hold "share" "Hold.share" s_Hold_share .none
 e_Hold_stove : HasM K A.Hold "stove" "Hold.stove" s_Hold_stove .none
 e_Hold_own_share : HasM K A.Hold "own_share" "Hold.own_share" s_Hold_own_share .none
 e_Hold_look_for : HasM K A.Hold "look_for" "Hold.look_for" s_Hold_look_for .none
 e_Hold_look_at_share : HasM K A.Hold "look_at_share" "Hold.look_at_share" s_Hold_look_at_share .none
 cl_Walk : Cls K A.Walk
 mk_Walk : MkCl K A.Walk
 na_Walk_hold : NoAttr K A.Walk "hold"
 na_Walk_place : NoAttr K A.Walk "place"
 na_Walk_gone : NoAttr K A.Walk "gone"
 na_Walk_ended : NoAttr K A.Walk "ended"
 e_Walk___init__ : HasM K A.Walk "__init__" "Walk.__init__" s_Walk___init__ .none
 d_has_room : Has K mg "has_room" s_has_room
 d_with_room : Has K mg "with_room" s_with_room
 d_how_many : Has K mg "how_many" s_how_many
 d_members : Has K mg "members" s_members
 d_subsets : Has K mg "subsets" s_subsets
 d_bits_of : Has K mg "bits_of" s_bits_of
 d_is_state : Has K mg "is_state" s_is_state
 d_fits_room : Has K mg "fits_room" s_fits_room
 d_fits_stove : Has K mg "fits_stove" s_fits_stove
 d_look_at_state : Has K mg "look_at_state" s_look_at_state
 d_start_state : HasD K mg "start_state" s_start_state (.ref A.T_start_state)
 t_start_state : DfIs K A.T_start_state [.int 0]
 d_with_stove : Has K mg "with_stove" s_with_stove
 d_wood_of : Has K mg "wood_of" s_wood_of
 d_must_stay : Has K mg "must_stay" s_must_stay
 d_can_burn : Has K mg "can_burn" s_can_burn
 d_orders_of : Has K mg "orders_of" s_orders_of
 d_heeded : Has K mg "heeded" s_heeded
 d_may_fail : Has K mg "may_fail" s_may_fail
 d_behind_turn : Has K mg "behind_turn" s_behind_turn
 d_divisor : Has K mg "divisor" s_divisor
 d_fraction : Has K mg "fraction" s_fraction
 d_plus : Has K mg "plus" s_plus
 d_minus : Has K mg "minus" s_minus
 d_under : Has K mg "under" s_under
 d_is_whole_upto : Has K mg "is_whole_upto" s_is_whole_upto
 d_is_rising : Has K mg "is_rising" s_is_rising
 d_bands_together : Has K mg "bands_together" s_bands_together
 d_hold_like : HasD K mg "hold_like" s_hold_like (.ref A.T_hold_like)
 t_hold_like : DfIs K A.T_hold_like [.non,.non,.non]
 d_outcomes : Has K mg "outcomes" s_outcomes
 d_law_cell_at : Has K mg "_law_cell_at" s_law_cell_at
 d_law_pick : Has K mg "_law_pick" s_law_pick
 d_law_ratio : Has K mg "_law_ratio" s_law_ratio
 d_law_scale : Has K mg "_law_scale" s_law_scale
 d_law_warm : Has K mg "_law_warm" s_law_warm
 d_law_stove_by : Has K mg "_law_stove_by" s_law_stove_by
 d_law_drawn : Has K mg "_law_drawn" s_law_drawn
 d_law_built : Has K mg "_law_built" s_law_built
 d_law_state_by : Has K mg "_law_state_by" s_law_state_by
 d_law_room_right : Has K mg "_law_room_right" s_law_room_right
 d_law_right : Has K mg "_law_right" s_law_right
 d_law_put : Has K mg "_law_put" s_law_put
 d_law_bent : Has K mg "_law_bent" s_law_bent
 d_law_started : Has K mg "_law_started" s_law_started
 d_law_start_right : Has K mg "_law_start_right" s_law_start_right
 d_law_asked : Has K mg "_law_asked" s_law_asked
 d_law_none : Has K mg "_law_none" s_law_none
 d_law_says : Has K mg "_law_says" s_law_says
 d_law : Has K mg "law" s_law
 n_ValueError : mg "ValueError" = none
 n_abs : mg "abs" = none
 n_all : mg "all" = none
 n_bool : mg "bool" = none
 n_dict : mg "dict" = none
 n_enumerate : mg "enumerate" = none
 n_int : mg "int" = none
 n_isinstance : mg "isinstance" = none
 n_len : mg "len" = none
 n_list : mg "list" = none
 n_range : mg "range" = none
 n_sum : mg "sum" = none
 n_tuple : mg "tuple" = none
 n_zip : mg "zip" = none
theorem txt_mk {K : W.Frag} {h : Heap} {mg : Str→Option Value} (X : K.In h) (G : h.Ns mainGlobals mg)
 {z0 : Addr}
 {z1 : Addr}
 {z2 : Addr}
 {z3 : Addr}
 {z4 : Addr}
 {z5 : Addr}
 {z6 : Addr}
 {z7 : Addr}
 {z8 : Addr}
 {z9 : Addr}
 {z10 : Addr}
 {z11 : Addr}
 {z12 : Addr}
 {z13 : Addr}
 {z14 : Tok}
 {z15 : Tok}
 {z16 : Tok}
 {z17 : Tok}
 {z18 : Tok}
 {z19 : Tok}
 {z20 : Tok}
 {z21 : Tok}
 {z22 : Tok}
 {z23 : Tok}
 {z24 : Option Addr} {z25 : Nat} {z26 : Array (Option Value)} {z27 z28 : Tok}
 {z29 : Option Addr} {z30 : Nat} {z31 : Array (Option Value)} {z32 z33 : Tok}
 {z34 : Addr} {z35 z36 : Option Addr} {z37 : Array (Option Value)} {z38 z39 z40 z41 z42 z43 : Value}
 {z44 : Addr}
 {z45 : Tok}
 {z46 : Tok}
 {z47 : Tok}
 {z48 : Value} {z49 : Option Addr} {z50 : Nat} {z51 : Array (Option Value)}
 {z52 : Addr} {z53 z54 : Option Addr} {z55 : Array (Option Value)} {z56 z57 z58 z59 z60 z61 : Value}
 {z62 : Addr} {z63 z64 : Option Addr} {z65 : Array (Option Value)} {z66 z67 z68 z69 z70 z71 : Value}
 {z72 : Addr} {z73 z74 : Option Addr} {z75 : Array (Option Value)} {z76 z77 z78 z79 z80 z81 : Value}
 {z82 : Addr} {z83 z84 : Option Addr} {z85 : Array (Option Value)} {z86 z87 z88 z89 z90 z91 : Value}
 {z92 : Addr}
 {z93 : Tok}
 {z94 : Tok}
 {z95 : Tok}
 {z96 : Value} {z97 : Option Addr} {z98 : Nat} {z99 : Array (Option Value)}
 {z100 : Addr} {z101 z102 : Option Addr} {z103 : Array (Option Value)} {z104 z105 z106 z107 z108 z109 : Value}
 {z110 : Addr} {z111 z112 : Option Addr} {z113 : Array (Option Value)} {z114 z115 z116 z117 z118 z119 : Value}
 {z120 : Addr} {z121 z122 : Option Addr} {z123 : Array (Option Value)} {z124 z125 z126 z127 z128 z129 : Value}
 {z130 : Addr} {z131 z132 : Option Addr} {z133 : Array (Option Value)} {z134 z135 z136 z137 z138 z139 : Value}
 {z140 : Addr} {z141 z142 : Option Addr} {z143 : Array (Option Value)} {z144 z145 z146 z147 z148 z149 : Value}
 {z150 : Addr} {z151 z152 : Option Addr} {z153 : Array (Option Value)} {z154 z155 z156 z157 z158 z159 : Value}
 {z160 : Addr} {z161 z162 : Option Addr} {z163 : Array (Option Value)} {z164 z165 z166 z167 z168 z169 : Value}
 {z170 : Addr} {z171 z172 : Option Addr} {z173 : Array (Option Value)} {z174 z175 z176 z177 z178 z179 : Value}
 {z180 : Addr} {z181 z182 : Option Addr} {z183 : Array (Option Value)} {z184 z185 z186 z187 z188 z189 : Value}
 {z190 : Addr}
 {z191 : Addr} {z192 z193 : Option Addr} {z194 : Array (Option Value)} {z195 z196 z197 z198 z199 z200 : Value}
 {z201 : Addr} {z202 z203 : Option Addr} {z204 : Array (Option Value)} {z205 z206 z207 z208 z209 z210 : Value}
 {z211 : Addr} {z212 z213 : Option Addr} {z214 : Array (Option Value)} {z215 z216 z217 z218 z219 z220 : Value}
 {z221 : Addr} {z222 z223 : Option Addr} {z224 : Array (Option Value)} {z225 z226 z227 z228 z229 z230 : Value}
 {z231 : Addr} {z232 z233 : Option Addr} {z234 : Array (Option Value)} {z235 z236 z237 z238 z239 z240 : Value}
 {z241 : Addr} {z242 z243 : Option Addr} {z244 : Array (Option Value)} {z245 z246 z247 z248 z249 z250 : Value}
 {z251 : Addr} {z252 z253 : Option Addr} {z254 : Array (Option Value)} {z255 z256 z257 z258 z259 z260 : Value}
 {z261 : Addr} {z262 z263 : Option Addr} {z264 : Array (Option Value)} {z265 z266 z267 z268 z269 z270 : Value}
 {z271 : Addr} {z272 z273 : Option Addr} {z274 : Array (Option Value)} {z275 z276 z277 z278 z279 z280 : Value}
 {z281 : Addr} {z282 z283 : Option Addr} {z284 : Array (Option Value)} {z285 z286 z287 z288 z289 z290 : Value}
 {z291 : Addr} {z292 z293 : Option Addr} {z294 : Array (Option Value)} {z295 z296 z297 z298 z299 z300 : Value}
 {z301 : Addr}
 {z302 : Tok}
 {z303 : Value} {z304 : Option Addr} {z305 : Nat} {z306 : Array (Option Value)}
 {z307 : Addr} {z308 z309 : Option Addr} {z310 : Array (Option Value)} {z311 z312 z313 z314 z315 z316 : Value}
 {z317 : Addr} {z318 z319 : Option Addr} {z320 : Array (Option Value)} {z321 z322 z323 z324 z325 z326 : Value}
 {z327 : Addr} {z328 z329 : Option Addr} {z330 : Array (Option Value)} {z331 z332 z333 z334 z335 z336 : Value}
 {z337 : Addr} {z338 z339 : Option Addr} {z340 : Array (Option Value)} {z341 z342 z343 z344 z345 z346 : Value}
 {z347 : Addr} {z348 z349 : Option Addr} {z350 : Array (Option Value)} {z351 z352 z353 z354 z355 z356 : Value}
 {z357 : Addr} {z358 z359 : Option Addr} {z360 : Array (Option Value)} {z361 z362 z363 z364 z365 z366 : Value}
 {z367 : Addr} {z368 z369 : Option Addr} {z370 : Array (Option Value)} {z371 z372 z373 z374 z375 z376 : Value}
 {z377 : Addr} {z378 z379 : Option Addr} {z380 : Array (Option Value)} {z381 z382 z383 z384 z385 z386 : Value}
 {z387 : Addr} {z388 z389 : Option Addr} {z390 : Array (Option Value)} {z391 z392 z393 z394 z395 z396 : Value}
 {z397 : Addr} {z398 z399 : Option Addr} {z400 : Array (Option Value)} {z401 z402 z403 z404 z405 z406 : Value}
 {z407 : Addr} {z408 z409 : Option Addr} {z410 : Array (Option Value)} {z411 z412 z413 z414 z415 z416 : Value}
 {z417 : Addr} {z418 z419 : Option Addr} {z420 : Array (Option Value)} {z421 z422 z423 z424 z425 z426 : Value}
 {z427 : Addr} {z428 z429 : Option Addr} {z430 : Array (Option Value)} {z431 z432 z433 z434 z435 z436 : Value}
 {z437 : Addr} {z438 z439 : Option Addr} {z440 : Array (Option Value)} {z441 z442 z443 z444 z445 z446 : Value}
 {z447 : Addr} {z448 z449 : Option Addr} {z450 : Array (Option Value)} {z451 z452 z453 z454 z455 z456 : Value}
 {z457 : Addr} {z458 z459 : Option Addr} {z460 : Array (Option Value)} {z461 z462 z463 z464 z465 z466 : Value}
 {z467 : Addr} {z468 z469 : Option Addr} {z470 : Array (Option Value)} {z471 z472 z473 z474 z475 z476 : Value}
 {z477 : Addr}
 {z478 : Value} {z479 : Option Addr} {z480 : Nat} {z481 : Array (Option Value)}
 {z482 : Addr} {z483 z484 : Option Addr} {z485 : Array (Option Value)} {z486 z487 z488 z489 z490 z491 : Value}
 {z492 : Addr} {z493 z494 : Option Addr} {z495 : Array (Option Value)} {z496 z497 z498 z499 z500 z501 : Value}
 {z502 : Addr} {z503 z504 : Option Addr} {z505 : Array (Option Value)} {z506 z507 z508 z509 z510 z511 : Value}
 {z512 : Addr} {z513 z514 : Option Addr} {z515 : Array (Option Value)} {z516 z517 z518 z519 z520 z521 : Value}
 {z522 : Addr} {z523 z524 : Option Addr} {z525 : Array (Option Value)} {z526 z527 z528 z529 z530 z531 : Value}
 {z532 : Addr} {z533 z534 : Option Addr} {z535 : Array (Option Value)} {z536 z537 z538 z539 z540 z541 : Value}
 {z542 : Addr} {z543 z544 : Option Addr} {z545 : Array (Option Value)} {z546 z547 z548 z549 z550 z551 : Value}
 {z552 : Addr} {z553 z554 : Option Addr} {z555 : Array (Option Value)} {z556 z557 z558 z559 z560 z561 : Value}
 {z562 : Addr} {z563 z564 : Option Addr} {z565 : Array (Option Value)} {z566 z567 z568 z569 z570 z571 : Value}
 {z572 : Addr} {z573 z574 : Option Addr} {z575 : Array (Option Value)} {z576 z577 z578 z579 z580 z581 : Value}
 {z582 : Addr} {z583 z584 : Option Addr} {z585 : Array (Option Value)} {z586 z587 z588 z589 z590 z591 : Value}
 {z592 : Addr} {z593 z594 : Option Addr} {z595 : Array (Option Value)} {z596 z597 z598 z599 z600 z601 : Value}
 {z602 : Addr} {z603 z604 : Option Addr} {z605 : Array (Option Value)} {z606 z607 z608 z609 z610 z611 : Value}
 {z612 : Addr} {z613 z614 : Option Addr} {z615 : Array (Option Value)} {z616 z617 z618 z619 z620 z621 : Value}
 {z622 : Addr} {z623 z624 : Option Addr} {z625 : Array (Option Value)} {z626 z627 z628 z629 z630 z631 : Value}
 {z632 : Addr} {z633 z634 : Option Addr} {z635 : Array (Option Value)} {z636 z637 z638 z639 z640 z641 : Value}
 {z642 : Addr} {z643 z644 : Option Addr} {z645 : Array (Option Value)} {z646 z647 z648 z649 z650 z651 : Value}
 {z652 : Addr} {z653 z654 : Option Addr} {z655 : Array (Option Value)} {z656 z657 z658 z659 z660 z661 : Value}
 {z662 : Addr} {z663 z664 : Option Addr} {z665 : Array (Option Value)} {z666 z667 z668 z669 z670 z671 : Value}
 {z672 : Addr} {z673 z674 : Option Addr} {z675 : Array (Option Value)} {z676 z677 z678 z679 z680 z681 : Value}
 (z682 : W.nsIn K mainGlobals "Hold" = some (some (.ref z0)))
 (z683 : W.nsIn K mainGlobals "Walk" = some (some (.ref z1)))
 (z684 : W.nsIn K mainGlobals "Reach" = some (some (.ref z2)))
 (z685 : W.nsIn K mainGlobals "StokeError" = some (some (.ref z3)))
 (z686 : W.nsIn K mainGlobals "NoHold" = some (some (.ref z4)))
 (z687 : W.nsIn K mainGlobals "NoState" = some (some (.ref z5)))
 (z688 : W.nsIn K mainGlobals "NoOrder" = some (some (.ref z6)))
 (z689 : W.nsIn K mainGlobals "NoRoom" = some (some (.ref z7)))
 (z690 : W.nsIn K mainGlobals "NoTurn" = some (some (.ref z8)))
 (z691 : W.nsIn K mainGlobals "NoBand" = some (some (.ref z9)))
 (z692 : W.nsIn K mainGlobals "NoStove" = some (some (.ref z10)))
 (z693 : W.nsIn K mainGlobals "TooMany" = some (some (.ref z11)))
 (z694 : W.nsIn K mainGlobals "NOUGHT" = some (some (.ref z12)))
 (z695 : W.nsIn K mainGlobals "WHOLE" = some (some (.ref z13)))
 (z696 : W.excIn K z5 [.type "ValueError",.type "Exception",.type "BaseException",.type "object"] "ValueError.__new__" = true)
 (z697 : W.findIn K (.ref z5) "__getattribute__" = some (some (.builtin "BaseException.__getattribute__")))
 (z698 : W.findIn K (.ref z5) "__getattr__" = some none)
 (z699 : W.findIn K (.ref z5) "__class__" = some (some (.builtin "object.__class__")))
 (z700 : W.mroIn K z5 (.type "object") = some true)
 (z701 : W.mroIn K z5 (.type "BaseException") = some true)
 (z702 : W.isClsIn K z5 = true)
 (z703 : W.specialIn K (.builtin "object.__class__") "__get__" = some (some (.builtin "getset_descriptor.__get__")))
 (z704 : W.takesIn K (.builtin "object.__class__") = some true)
 (z705 : W.exmOne K (.ref z5) (.ref z3) = some true)
 (z706 : W.kitAny K (.ref z5) [.ref z4,.ref z6,.ref z7,.ref z8,.ref z9,.ref z10,.ref z11] = some false)
 (z707 : W.kitOne K (.ref z5) (.type "ValueError") = some true)
 (z708 : W.nsIn K mainGlobals "LEAST_MARKS" = some (some (.int 2 z14)))
 (z709 : W.nsIn K mainGlobals "MOST_BANDS" = some (some (.int 400 z15)))
 (z710 : W.nsIn K mainGlobals "MOST_BURNING" = some (some (.int 4 z16)))
 (z711 : W.nsIn K mainGlobals "MOST_CAP" = some (some (.int 30 z17)))
 (z712 : W.nsIn K mainGlobals "MOST_FAILS" = some (some (.int 3 z18)))
 (z713 : W.nsIn K mainGlobals "MOST_LOAD" = some (some (.int 30 z19)))
 (z714 : W.nsIn K mainGlobals "MOST_MARKS" = some (some (.int 7 z20)))
 (z715 : W.nsIn K mainGlobals "MOST_ROOMS" = some (some (.int 4 z21)))
 (z716 : W.nsIn K mainGlobals "MOST_STAY" = some (some (.int 3 z22)))
 (z717 : W.nsIn K mainGlobals "MOST_WOOD" = some (some (.int 9 z23)))
 (z718 : K.lookup z12 = some ⟨.type "tuple",z24,.seq #[.int 0 z27,.int 1 z28] z25,z26⟩)
 (z719 : K.lookup z13 = some ⟨.type "tuple",z29,.seq #[.int 1 z32,.int 1 z33] z30,z31⟩)
 (z720 : W.plainGet K z0 Str.empty = true)
 (z721 : W.hasDictIn K z0 = true)
 (z722 : W.plainOver K z0 = true)
 (z723 : W.findIn K (.ref z0) "__setattr__" = some (some (.builtin "object.__setattr__")))
 (z724 : W.makesIn K z0 = true)
 (z725 : W.keepIn K (.ref z0) = true)
 (z726 : W.findIn K (.ref z0) "most" = some none)
 (z727 : W.findIn K (.ref z0) "cap" = some none)
 (z728 : W.findIn K (.ref z0) "load" = some none)
 (z729 : W.findIn K (.ref z0) "mark_rows" = some none)
 (z730 : W.findIn K (.ref z0) "flows" = some none)
 (z731 : W.findIn K (.ref z0) "skies" = some none)
 (z732 : W.findIn K (.ref z0) "stoves" = some none)
 (z733 : W.findIn K (.ref z0) "__init__" = some (some (.ref z34)))
 (z734 : W.isFn K (.ref z34) = true)
 (z735 : K.lookup z34 = some ⟨z38,z35,.func (W.fnOf "__init__" "Hold.__init__" (defArgs s_Hold___init__) (defBody s_Hold___init__) (defScope s_Hold___init__) (.ref z44) z39 z40 z41 z36 z42 z43),z37⟩)
 (z736 : W.codeIn K z42 "Hold.__init__" = true)
 (z737 : W.keepIn K (.ref z34) = true)
 (z738 : K.lookup z44 = some ⟨z48,z49,.seq #[.int 4 z45,.int 0 z46,.int 0 z47] z50,z51⟩)
 (z739 : W.findIn K (.ref z0) "put_room" = some (some (.ref z52)))
 (z740 : W.isFn K (.ref z52) = true)
 (z741 : K.lookup z52 = some ⟨z56,z53,.func (W.fnOf "put_room" "Hold.put_room" (defArgs s_Hold_put_room) (defBody s_Hold_put_room) (defScope s_Hold_put_room) .none z57 z58 z59 z54 z60 z61),z55⟩)
 (z742 : W.codeIn K z60 "Hold.put_room" = true)
 (z743 : W.keepIn K (.ref z52) = true)
 (z744 : W.findIn K (.ref z0) "put_flow" = some (some (.ref z62)))
 (z745 : W.isFn K (.ref z62) = true)
 (z746 : K.lookup z62 = some ⟨z66,z63,.func (W.fnOf "put_flow" "Hold.put_flow" (defArgs s_Hold_put_flow) (defBody s_Hold_put_flow) (defScope s_Hold_put_flow) .none z67 z68 z69 z64 z70 z71),z65⟩)
 (z747 : W.codeIn K z70 "Hold.put_flow" = true)
 (z748 : W.keepIn K (.ref z62) = true)
 (z749 : W.findIn K (.ref z0) "put_sky" = some (some (.ref z72)))
 (z750 : W.isFn K (.ref z72) = true)
 (z751 : K.lookup z72 = some ⟨z76,z73,.func (W.fnOf "put_sky" "Hold.put_sky" (defArgs s_Hold_put_sky) (defBody s_Hold_put_sky) (defScope s_Hold_put_sky) .none z77 z78 z79 z74 z80 z81),z75⟩)
 (z752 : W.codeIn K z80 "Hold.put_sky" = true)
 (z753 : W.keepIn K (.ref z72) = true)
 (z754 : W.findIn K (.ref z0) "put_stove" = some (some (.ref z82)))
 (z755 : W.isFn K (.ref z82) = true)
 (z756 : K.lookup z82 = some ⟨z86,z83,.func (W.fnOf "put_stove" "Hold.put_stove" (defArgs s_Hold_put_stove) (defBody s_Hold_put_stove) (defScope s_Hold_put_stove) (.ref z92) z87 z88 z89 z84 z90 z91),z85⟩)
 (z757 : W.codeIn K z90 "Hold.put_stove" = true)
 (z758 : W.keepIn K (.ref z82) = true)
 (z759 : K.lookup z92 = some ⟨z96,z97,.seq #[.int 0 z93,.int 0 z94,.int 0 z95] z98,z99⟩)
 (z760 : W.findIn K (.ref z0) "many" = some (some (.ref z100)))
 (z761 : W.isFn K (.ref z100) = true)
 (z762 : K.lookup z100 = some ⟨z104,z101,.func (W.fnOf "many" "Hold.many" (defArgs s_Hold_many) (defBody s_Hold_many) (defScope s_Hold_many) .none z105 z106 z107 z102 z108 z109),z103⟩)
 (z763 : W.codeIn K z108 "Hold.many" = true)
 (z764 : W.keepIn K (.ref z100) = true)
 (z765 : W.findIn K (.ref z0) "marks" = some (some (.ref z110)))
 (z766 : W.isFn K (.ref z110) = true)
 (z767 : K.lookup z110 = some ⟨z114,z111,.func (W.fnOf "marks" "Hold.marks" (defArgs s_Hold_marks) (defBody s_Hold_marks) (defScope s_Hold_marks) .none z115 z116 z117 z112 z118 z119),z113⟩)
 (z768 : W.codeIn K z118 "Hold.marks" = true)
 (z769 : W.keepIn K (.ref z110) = true)
 (z770 : W.findIn K (.ref z0) "share" = some (some (.ref z120)))
 (z771 : W.isFn K (.ref z120) = true)
 (z772 : K.lookup z120 = some ⟨z124,z121,.func (W.fnOf "share" "Hold.share" (defArgs s_Hold_share) (defBody s_Hold_share) (defScope s_Hold_share) .none z125 z126 z127 z122 z128 z129),z123⟩)
 (z773 : W.codeIn K z128 "Hold.share" = true)
 (z774 : W.keepIn K (.ref z120) = true)
 (z775 : W.findIn K (.ref z0) "stove" = some (some (.ref z130)))
 (z776 : W.isFn K (.ref z130) = true)
 (z777 : K.lookup z130 = some ⟨z134,z131,.func (W.fnOf "stove" "Hold.stove" (defArgs s_Hold_stove) (defBody s_Hold_stove) (defScope s_Hold_stove) .none z135 z136 z137 z132 z138 z139),z133⟩)
 (z778 : W.codeIn K z138 "Hold.stove" = true)
 (z779 : W.keepIn K (.ref z130) = true)
 (z780 : W.findIn K (.ref z0) "own_share" = some (some (.ref z140)))
 (z781 : W.isFn K (.ref z140) = true)
 (z782 : K.lookup z140 = some ⟨z144,z141,.func (W.fnOf "own_share" "Hold.own_share" (defArgs s_Hold_own_share) (defBody s_Hold_own_share) (defScope s_Hold_own_share) .none z145 z146 z147 z142 z148 z149),z143⟩)
 (z783 : W.codeIn K z148 "Hold.own_share" = true)
 (z784 : W.keepIn K (.ref z140) = true)
 (z785 : W.findIn K (.ref z0) "look_for" = some (some (.ref z150)))
 (z786 : W.isFn K (.ref z150) = true)
 (z787 : K.lookup z150 = some ⟨z154,z151,.func (W.fnOf "look_for" "Hold.look_for" (defArgs s_Hold_look_for) (defBody s_Hold_look_for) (defScope s_Hold_look_for) .none z155 z156 z157 z152 z158 z159),z153⟩)
 (z788 : W.codeIn K z158 "Hold.look_for" = true)
 (z789 : W.keepIn K (.ref z150) = true)
 (z790 : W.findIn K (.ref z0) "look_at_share" = some (some (.ref z160)))
 (z791 : W.isFn K (.ref z160) = true)
 (z792 : K.lookup z160 = some ⟨z164,z161,.func (W.fnOf "look_at_share" "Hold.look_at_share" (defArgs s_Hold_look_at_share) (defBody s_Hold_look_at_share) (defScope s_Hold_look_at_share) .none z165 z166 z167 z162 z168 z169),z163⟩)
 (z793 : W.codeIn K z168 "Hold.look_at_share" = true)
 (z794 : W.keepIn K (.ref z160) = true)
 (z795 : W.plainGet K z1 Str.empty = true)
 (z796 : W.hasDictIn K z1 = true)
 (z797 : W.plainOver K z1 = true)
 (z798 : W.findIn K (.ref z1) "__setattr__" = some (some (.builtin "object.__setattr__")))
 (z799 : W.makesIn K z1 = true)
 (z800 : W.keepIn K (.ref z1) = true)
 (z801 : W.findIn K (.ref z1) "hold" = some none)
 (z802 : W.findIn K (.ref z1) "place" = some none)
 (z803 : W.findIn K (.ref z1) "gone" = some none)
 (z804 : W.findIn K (.ref z1) "ended" = some none)
 (z805 : W.findIn K (.ref z1) "__init__" = some (some (.ref z170)))
 (z806 : W.isFn K (.ref z170) = true)
 (z807 : K.lookup z170 = some ⟨z174,z171,.func (W.fnOf "__init__" "Walk.__init__" (defArgs s_Walk___init__) (defBody s_Walk___init__) (defScope s_Walk___init__) .none z175 z176 z177 z172 z178 z179),z173⟩)
 (z808 : W.codeIn K z178 "Walk.__init__" = true)
 (z809 : W.keepIn K (.ref z170) = true)
 (z810 : W.findIn K (.ref z1) "go" = some (some (.ref z180)))
 (z811 : K.lookup z180 = some ⟨z184,z181,.func (W.fnOf "go" "Walk.go" (defArgs s_Walk_go) (defBody s_Walk_go) (defScope s_Walk_go) (.ref z190) z185 z186 z187 z182 z188 z189),z183⟩)
 (z812 : W.nsIn K mainGlobals "has_room" = some (some (.ref z191)))
 (z813 : K.lookup z191 = some ⟨z195,z192,.func (W.fnOf "has_room" "has_room" (defArgs s_has_room) (defBody s_has_room) (defScope s_has_room) .none z196 z197 z198 z193 z199 z200),z194⟩)
 (z814 : W.codeIn K z199 "has_room" = true)
 (z815 : W.keepIn K (.ref z191) = true)
 (z816 : W.nsIn K mainGlobals "with_room" = some (some (.ref z201)))
 (z817 : K.lookup z201 = some ⟨z205,z202,.func (W.fnOf "with_room" "with_room" (defArgs s_with_room) (defBody s_with_room) (defScope s_with_room) .none z206 z207 z208 z203 z209 z210),z204⟩)
 (z818 : W.codeIn K z209 "with_room" = true)
 (z819 : W.keepIn K (.ref z201) = true)
 (z820 : W.nsIn K mainGlobals "how_many" = some (some (.ref z211)))
 (z821 : K.lookup z211 = some ⟨z215,z212,.func (W.fnOf "how_many" "how_many" (defArgs s_how_many) (defBody s_how_many) (defScope s_how_many) .none z216 z217 z218 z213 z219 z220),z214⟩)
 (z822 : W.codeIn K z219 "how_many" = true)
 (z823 : W.keepIn K (.ref z211) = true)
 (z824 : W.nsIn K mainGlobals "members" = some (some (.ref z221)))
 (z825 : K.lookup z221 = some ⟨z225,z222,.func (W.fnOf "members" "members" (defArgs s_members) (defBody s_members) (defScope s_members) .none z226 z227 z228 z223 z229 z230),z224⟩)
 (z826 : W.codeIn K z229 "members" = true)
 (z827 : W.keepIn K (.ref z221) = true)
 (z828 : W.nsIn K mainGlobals "subsets" = some (some (.ref z231)))
 (z829 : K.lookup z231 = some ⟨z235,z232,.func (W.fnOf "subsets" "subsets" (defArgs s_subsets) (defBody s_subsets) (defScope s_subsets) .none z236 z237 z238 z233 z239 z240),z234⟩)
 (z830 : W.codeIn K z239 "subsets" = true)
 (z831 : W.keepIn K (.ref z231) = true)
 (z832 : W.nsIn K mainGlobals "bits_of" = some (some (.ref z241)))
 (z833 : K.lookup z241 = some ⟨z245,z242,.func (W.fnOf "bits_of" "bits_of" (defArgs s_bits_of) (defBody s_bits_of) (defScope s_bits_of) .none z246 z247 z248 z243 z249 z250),z244⟩)
 (z834 : W.codeIn K z249 "bits_of" = true)
 (z835 : W.keepIn K (.ref z241) = true)
 (z836 : W.nsIn K mainGlobals "is_state" = some (some (.ref z251)))
 (z837 : K.lookup z251 = some ⟨z255,z252,.func (W.fnOf "is_state" "is_state" (defArgs s_is_state) (defBody s_is_state) (defScope s_is_state) .none z256 z257 z258 z253 z259 z260),z254⟩)
 (z838 : W.codeIn K z259 "is_state" = true)
 (z839 : W.keepIn K (.ref z251) = true)
 (z840 : W.nsIn K mainGlobals "fits_room" = some (some (.ref z261)))
 (z841 : K.lookup z261 = some ⟨z265,z262,.func (W.fnOf "fits_room" "fits_room" (defArgs s_fits_room) (defBody s_fits_room) (defScope s_fits_room) .none z266 z267 z268 z263 z269 z270),z264⟩)
 (z842 : W.codeIn K z269 "fits_room" = true)
 (z843 : W.keepIn K (.ref z261) = true)
 (z844 : W.nsIn K mainGlobals "fits_stove" = some (some (.ref z271)))
 (z845 : K.lookup z271 = some ⟨z275,z272,.func (W.fnOf "fits_stove" "fits_stove" (defArgs s_fits_stove) (defBody s_fits_stove) (defScope s_fits_stove) .none z276 z277 z278 z273 z279 z280),z274⟩)
 (z846 : W.codeIn K z279 "fits_stove" = true)
 (z847 : W.keepIn K (.ref z271) = true)
 (z848 : W.nsIn K mainGlobals "look_at_state" = some (some (.ref z281)))
 (z849 : K.lookup z281 = some ⟨z285,z282,.func (W.fnOf "look_at_state" "look_at_state" (defArgs s_look_at_state) (defBody s_look_at_state) (defScope s_look_at_state) .none z286 z287 z288 z283 z289 z290),z284⟩)
 (z850 : W.codeIn K z289 "look_at_state" = true)
 (z851 : W.keepIn K (.ref z281) = true)
 (z852 : W.nsIn K mainGlobals "start_state" = some (some (.ref z291)))
 (z853 : K.lookup z291 = some ⟨z295,z292,.func (W.fnOf "start_state" "start_state" (defArgs s_start_state) (defBody s_start_state) (defScope s_start_state) (.ref z301) z296 z297 z298 z293 z299 z300),z294⟩)
 (z854 : W.codeIn K z299 "start_state" = true)
 (z855 : W.keepIn K (.ref z291) = true)
 (z856 : K.lookup z301 = some ⟨z303,z304,.seq #[.int 0 z302] z305,z306⟩)
 (z857 : W.nsIn K mainGlobals "with_stove" = some (some (.ref z307)))
 (z858 : K.lookup z307 = some ⟨z311,z308,.func (W.fnOf "with_stove" "with_stove" (defArgs s_with_stove) (defBody s_with_stove) (defScope s_with_stove) .none z312 z313 z314 z309 z315 z316),z310⟩)
 (z859 : W.codeIn K z315 "with_stove" = true)
 (z860 : W.keepIn K (.ref z307) = true)
 (z861 : W.nsIn K mainGlobals "wood_of" = some (some (.ref z317)))
 (z862 : K.lookup z317 = some ⟨z321,z318,.func (W.fnOf "wood_of" "wood_of" (defArgs s_wood_of) (defBody s_wood_of) (defScope s_wood_of) .none z322 z323 z324 z319 z325 z326),z320⟩)
 (z863 : W.codeIn K z325 "wood_of" = true)
 (z864 : W.keepIn K (.ref z317) = true)
 (z865 : W.nsIn K mainGlobals "must_stay" = some (some (.ref z327)))
 (z866 : K.lookup z327 = some ⟨z331,z328,.func (W.fnOf "must_stay" "must_stay" (defArgs s_must_stay) (defBody s_must_stay) (defScope s_must_stay) .none z332 z333 z334 z329 z335 z336),z330⟩)
 (z867 : W.codeIn K z335 "must_stay" = true)
 (z868 : W.keepIn K (.ref z327) = true)
 (z869 : W.nsIn K mainGlobals "can_burn" = some (some (.ref z337)))
 (z870 : K.lookup z337 = some ⟨z341,z338,.func (W.fnOf "can_burn" "can_burn" (defArgs s_can_burn) (defBody s_can_burn) (defScope s_can_burn) .none z342 z343 z344 z339 z345 z346),z340⟩)
 (z871 : W.codeIn K z345 "can_burn" = true)
 (z872 : W.keepIn K (.ref z337) = true)
 (z873 : W.nsIn K mainGlobals "orders_of" = some (some (.ref z347)))
 (z874 : K.lookup z347 = some ⟨z351,z348,.func (W.fnOf "orders_of" "orders_of" (defArgs s_orders_of) (defBody s_orders_of) (defScope s_orders_of) .none z352 z353 z354 z349 z355 z356),z350⟩)
 (z875 : W.codeIn K z355 "orders_of" = true)
 (z876 : W.keepIn K (.ref z347) = true)
 (z877 : W.nsIn K mainGlobals "heeded" = some (some (.ref z357)))
 (z878 : K.lookup z357 = some ⟨z361,z358,.func (W.fnOf "heeded" "heeded" (defArgs s_heeded) (defBody s_heeded) (defScope s_heeded) .none z362 z363 z364 z359 z365 z366),z360⟩)
 (z879 : W.codeIn K z365 "heeded" = true)
 (z880 : W.keepIn K (.ref z357) = true)
 (z881 : W.nsIn K mainGlobals "may_fail" = some (some (.ref z367)))
 (z882 : K.lookup z367 = some ⟨z371,z368,.func (W.fnOf "may_fail" "may_fail" (defArgs s_may_fail) (defBody s_may_fail) (defScope s_may_fail) .none z372 z373 z374 z369 z375 z376),z370⟩)
 (z883 : W.codeIn K z375 "may_fail" = true)
 (z884 : W.keepIn K (.ref z367) = true)
 (z885 : W.nsIn K mainGlobals "behind_turn" = some (some (.ref z377)))
 (z886 : K.lookup z377 = some ⟨z381,z378,.func (W.fnOf "behind_turn" "behind_turn" (defArgs s_behind_turn) (defBody s_behind_turn) (defScope s_behind_turn) .none z382 z383 z384 z379 z385 z386),z380⟩)
 (z887 : W.codeIn K z385 "behind_turn" = true)
 (z888 : W.keepIn K (.ref z377) = true)
 (z889 : W.nsIn K mainGlobals "divisor" = some (some (.ref z387)))
 (z890 : K.lookup z387 = some ⟨z391,z388,.func (W.fnOf "divisor" "divisor" (defArgs s_divisor) (defBody s_divisor) (defScope s_divisor) .none z392 z393 z394 z389 z395 z396),z390⟩)
 (z891 : W.codeIn K z395 "divisor" = true)
 (z892 : W.keepIn K (.ref z387) = true)
 (z893 : W.nsIn K mainGlobals "fraction" = some (some (.ref z397)))
 (z894 : K.lookup z397 = some ⟨z401,z398,.func (W.fnOf "fraction" "fraction" (defArgs s_fraction) (defBody s_fraction) (defScope s_fraction) .none z402 z403 z404 z399 z405 z406),z400⟩)
 (z895 : W.codeIn K z405 "fraction" = true)
 (z896 : W.keepIn K (.ref z397) = true)
 (z897 : W.nsIn K mainGlobals "plus" = some (some (.ref z407)))
 (z898 : K.lookup z407 = some ⟨z411,z408,.func (W.fnOf "plus" "plus" (defArgs s_plus) (defBody s_plus) (defScope s_plus) .none z412 z413 z414 z409 z415 z416),z410⟩)
 (z899 : W.codeIn K z415 "plus" = true)
 (z900 : W.keepIn K (.ref z407) = true)
 (z901 : W.nsIn K mainGlobals "minus" = some (some (.ref z417)))
 (z902 : K.lookup z417 = some ⟨z421,z418,.func (W.fnOf "minus" "minus" (defArgs s_minus) (defBody s_minus) (defScope s_minus) .none z422 z423 z424 z419 z425 z426),z420⟩)
 (z903 : W.codeIn K z425 "minus" = true)
 (z904 : W.keepIn K (.ref z417) = true)
 (z905 : W.nsIn K mainGlobals "under" = some (some (.ref z427)))
 (z906 : K.lookup z427 = some ⟨z431,z428,.func (W.fnOf "under" "under" (defArgs s_under) (defBody s_under) (defScope s_under) .none z432 z433 z434 z429 z435 z436),z430⟩)
 (z907 : W.codeIn K z435 "under" = true)
 (z908 : W.keepIn K (.ref z427) = true)
 (z909 : W.nsIn K mainGlobals "is_whole_upto" = some (some (.ref z437)))
 (z910 : K.lookup z437 = some ⟨z441,z438,.func (W.fnOf "is_whole_upto" "is_whole_upto" (defArgs s_is_whole_upto) (defBody s_is_whole_upto) (defScope s_is_whole_upto) .none z442 z443 z444 z439 z445 z446),z440⟩)
 (z911 : W.codeIn K z445 "is_whole_upto" = true)
 (z912 : W.keepIn K (.ref z437) = true)
 (z913 : W.nsIn K mainGlobals "is_rising" = some (some (.ref z447)))
 (z914 : K.lookup z447 = some ⟨z451,z448,.func (W.fnOf "is_rising" "is_rising" (defArgs s_is_rising) (defBody s_is_rising) (defScope s_is_rising) .none z452 z453 z454 z449 z455 z456),z450⟩)
 (z915 : W.codeIn K z455 "is_rising" = true)
 (z916 : W.keepIn K (.ref z447) = true)
 (z917 : W.nsIn K mainGlobals "bands_together" = some (some (.ref z457)))
 (z918 : K.lookup z457 = some ⟨z461,z458,.func (W.fnOf "bands_together" "bands_together" (defArgs s_bands_together) (defBody s_bands_together) (defScope s_bands_together) .none z462 z463 z464 z459 z465 z466),z460⟩)
 (z919 : W.codeIn K z465 "bands_together" = true)
 (z920 : W.keepIn K (.ref z457) = true)
 (z921 : W.nsIn K mainGlobals "hold_like" = some (some (.ref z467)))
 (z922 : K.lookup z467 = some ⟨z471,z468,.func (W.fnOf "hold_like" "hold_like" (defArgs s_hold_like) (defBody s_hold_like) (defScope s_hold_like) (.ref z477) z472 z473 z474 z469 z475 z476),z470⟩)
 (z923 : W.codeIn K z475 "hold_like" = true)
 (z924 : W.keepIn K (.ref z467) = true)
 (z925 : K.lookup z477 = some ⟨z478,z479,.seq #[.none,.none,.none] z480,z481⟩)
 (z926 : W.nsIn K mainGlobals "outcomes" = some (some (.ref z482)))
 (z927 : K.lookup z482 = some ⟨z486,z483,.func (W.fnOf "outcomes" "outcomes" (defArgs s_outcomes) (defBody s_outcomes) (defScope s_outcomes) .none z487 z488 z489 z484 z490 z491),z485⟩)
 (z928 : W.codeIn K z490 "outcomes" = true)
 (z929 : W.keepIn K (.ref z482) = true)
 (z930 : W.nsIn K mainGlobals "_law_cell_at" = some (some (.ref z492)))
 (z931 : K.lookup z492 = some ⟨z496,z493,.func (W.fnOf "_law_cell_at" "_law_cell_at" (defArgs s_law_cell_at) (defBody s_law_cell_at) (defScope s_law_cell_at) .none z497 z498 z499 z494 z500 z501),z495⟩)
 (z932 : W.codeIn K z500 "_law_cell_at" = true)
 (z933 : W.keepIn K (.ref z492) = true)
 (z934 : W.nsIn K mainGlobals "_law_pick" = some (some (.ref z502)))
 (z935 : K.lookup z502 = some ⟨z506,z503,.func (W.fnOf "_law_pick" "_law_pick" (defArgs s_law_pick) (defBody s_law_pick) (defScope s_law_pick) .none z507 z508 z509 z504 z510 z511),z505⟩)
 (z936 : W.codeIn K z510 "_law_pick" = true)
 (z937 : W.keepIn K (.ref z502) = true)
 (z938 : W.nsIn K mainGlobals "_law_ratio" = some (some (.ref z512)))
 (z939 : K.lookup z512 = some ⟨z516,z513,.func (W.fnOf "_law_ratio" "_law_ratio" (defArgs s_law_ratio) (defBody s_law_ratio) (defScope s_law_ratio) .none z517 z518 z519 z514 z520 z521),z515⟩)
 (z940 : W.codeIn K z520 "_law_ratio" = true)
 (z941 : W.keepIn K (.ref z512) = true)
 (z942 : W.nsIn K mainGlobals "_law_scale" = some (some (.ref z522)))
 (z943 : K.lookup z522 = some ⟨z526,z523,.func (W.fnOf "_law_scale" "_law_scale" (defArgs s_law_scale) (defBody s_law_scale) (defScope s_law_scale) .none z527 z528 z529 z524 z530 z531),z525⟩)
 (z944 : W.codeIn K z530 "_law_scale" = true)
 (z945 : W.keepIn K (.ref z522) = true)
 (z946 : W.nsIn K mainGlobals "_law_warm" = some (some (.ref z532)))
 (z947 : K.lookup z532 = some ⟨z536,z533,.func (W.fnOf "_law_warm" "_law_warm" (defArgs s_law_warm) (defBody s_law_warm) (defScope s_law_warm) .none z537 z538 z539 z534 z540 z541),z535⟩)
 (z948 : W.codeIn K z540 "_law_warm" = true)
 (z949 : W.keepIn K (.ref z532) = true)
 (z950 : W.nsIn K mainGlobals "_law_stove_by" = some (some (.ref z542)))
 (z951 : K.lookup z542 = some ⟨z546,z543,.func (W.fnOf "_law_stove_by" "_law_stove_by" (defArgs s_law_stove_by) (defBody s_law_stove_by) (defScope s_law_stove_by) .none z547 z548 z549 z544 z550 z551),z545⟩)
 (z952 : W.codeIn K z550 "_law_stove_by" = true)
 (z953 : W.keepIn K (.ref z542) = true)
 (z954 : W.nsIn K mainGlobals "_law_drawn" = some (some (.ref z552)))
 (z955 : K.lookup z552 = some ⟨z556,z553,.func (W.fnOf "_law_drawn" "_law_drawn" (defArgs s_law_drawn) (defBody s_law_drawn) (defScope s_law_drawn) .none z557 z558 z559 z554 z560 z561),z555⟩)
 (z956 : W.codeIn K z560 "_law_drawn" = true)
 (z957 : W.keepIn K (.ref z552) = true)
 (z958 : W.nsIn K mainGlobals "_law_built" = some (some (.ref z562)))
 (z959 : K.lookup z562 = some ⟨z566,z563,.func (W.fnOf "_law_built" "_law_built" (defArgs s_law_built) (defBody s_law_built) (defScope s_law_built) .none z567 z568 z569 z564 z570 z571),z565⟩)
 (z960 : W.codeIn K z570 "_law_built" = true)
 (z961 : W.keepIn K (.ref z562) = true)
 (z962 : W.nsIn K mainGlobals "_law_state_by" = some (some (.ref z572)))
 (z963 : K.lookup z572 = some ⟨z576,z573,.func (W.fnOf "_law_state_by" "_law_state_by" (defArgs s_law_state_by) (defBody s_law_state_by) (defScope s_law_state_by) .none z577 z578 z579 z574 z580 z581),z575⟩)
 (z964 : W.codeIn K z580 "_law_state_by" = true)
 (z965 : W.keepIn K (.ref z572) = true)
 (z966 : W.nsIn K mainGlobals "_law_room_right" = some (some (.ref z582)))
 (z967 : K.lookup z582 = some ⟨z586,z583,.func (W.fnOf "_law_room_right" "_law_room_right" (defArgs s_law_room_right) (defBody s_law_room_right) (defScope s_law_room_right) .none z587 z588 z589 z584 z590 z591),z585⟩)
 (z968 : W.codeIn K z590 "_law_room_right" = true)
 (z969 : W.keepIn K (.ref z582) = true)
 (z970 : W.nsIn K mainGlobals "_law_right" = some (some (.ref z592)))
 (z971 : K.lookup z592 = some ⟨z596,z593,.func (W.fnOf "_law_right" "_law_right" (defArgs s_law_right) (defBody s_law_right) (defScope s_law_right) .none z597 z598 z599 z594 z600 z601),z595⟩)
 (z972 : W.codeIn K z600 "_law_right" = true)
 (z973 : W.keepIn K (.ref z592) = true)
 (z974 : W.nsIn K mainGlobals "_law_put" = some (some (.ref z602)))
 (z975 : K.lookup z602 = some ⟨z606,z603,.func (W.fnOf "_law_put" "_law_put" (defArgs s_law_put) (defBody s_law_put) (defScope s_law_put) .none z607 z608 z609 z604 z610 z611),z605⟩)
 (z976 : W.codeIn K z610 "_law_put" = true)
 (z977 : W.keepIn K (.ref z602) = true)
 (z978 : W.nsIn K mainGlobals "_law_bent" = some (some (.ref z612)))
 (z979 : K.lookup z612 = some ⟨z616,z613,.func (W.fnOf "_law_bent" "_law_bent" (defArgs s_law_bent) (defBody s_law_bent) (defScope s_law_bent) .none z617 z618 z619 z614 z620 z621),z615⟩)
 (z980 : W.codeIn K z620 "_law_bent" = true)
 (z981 : W.keepIn K (.ref z612) = true)
 (z982 : W.nsIn K mainGlobals "_law_started" = some (some (.ref z622)))
 (z983 : K.lookup z622 = some ⟨z626,z623,.func (W.fnOf "_law_started" "_law_started" (defArgs s_law_started) (defBody s_law_started) (defScope s_law_started) .none z627 z628 z629 z624 z630 z631),z625⟩)
 (z984 : W.codeIn K z630 "_law_started" = true)
 (z985 : W.keepIn K (.ref z622) = true)
 (z986 : W.nsIn K mainGlobals "_law_start_right" = some (some (.ref z632)))
 (z987 : K.lookup z632 = some ⟨z636,z633,.func (W.fnOf "_law_start_right" "_law_start_right" (defArgs s_law_start_right) (defBody s_law_start_right) (defScope s_law_start_right) .none z637 z638 z639 z634 z640 z641),z635⟩)
 (z988 : W.codeIn K z640 "_law_start_right" = true)
 (z989 : W.keepIn K (.ref z632) = true)
 (z990 : W.nsIn K mainGlobals "_law_asked" = some (some (.ref z642)))
 (z991 : K.lookup z642 = some ⟨z646,z643,.func (W.fnOf "_law_asked" "_law_asked" (defArgs s_law_asked) (defBody s_law_asked) (defScope s_law_asked) .none z647 z648 z649 z644 z650 z651),z645⟩)
 (z992 : W.codeIn K z650 "_law_asked" = true)
 (z993 : W.keepIn K (.ref z642) = true)
 (z994 : W.nsIn K mainGlobals "_law_none" = some (some (.ref z652)))
 (z995 : K.lookup z652 = some ⟨z656,z653,.func (W.fnOf "_law_none" "_law_none" (defArgs s_law_none) (defBody s_law_none) (defScope s_law_none) .none z657 z658 z659 z654 z660 z661),z655⟩)
 (z996 : W.codeIn K z660 "_law_none" = true)
 (z997 : W.keepIn K (.ref z652) = true)
 (z998 : W.nsIn K mainGlobals "_law_says" = some (some (.ref z662)))
 (z999 : K.lookup z662 = some ⟨z666,z663,.func (W.fnOf "_law_says" "_law_says" (defArgs s_law_says) (defBody s_law_says) (defScope s_law_says) .none z667 z668 z669 z664 z670 z671),z665⟩)
 (z1000 : W.codeIn K z670 "_law_says" = true)
 (z1001 : W.keepIn K (.ref z662) = true)
 (z1002 : W.nsIn K mainGlobals "law" = some (some (.ref z672)))
 (z1003 : K.lookup z672 = some ⟨z676,z673,.func (W.fnOf "law" "law" (defArgs s_law) (defBody s_law) (defScope s_law) .none z677 z678 z679 z674 z680 z681),z675⟩)
 (z1004 : W.codeIn K z680 "law" = true)
 (z1005 : W.keepIn K (.ref z672) = true)
 (z1006 : W.nsIn K mainGlobals "ValueError" = some none)
 (z1007 : W.nsIn K mainGlobals "abs" = some none)
 (z1008 : W.nsIn K mainGlobals "all" = some none)
 (z1009 : W.nsIn K mainGlobals "bool" = some none)
 (z1010 : W.nsIn K mainGlobals "dict" = some none)
 (z1011 : W.nsIn K mainGlobals "enumerate" = some none)
 (z1012 : W.nsIn K mainGlobals "int" = some none)
 (z1013 : W.nsIn K mainGlobals "isinstance" = some none)
 (z1014 : W.nsIn K mainGlobals "len" = some none)
 (z1015 : W.nsIn K mainGlobals "list" = some none)
 (z1016 : W.nsIn K mainGlobals "range" = some none)
 (z1017 : W.nsIn K mainGlobals "sum" = some none)
 (z1018 : W.nsIn K mainGlobals "tuple" = some none)
 (z1019 : W.nsIn K mainGlobals "zip" = some none)
 : Txt K mg ⟨z0,z1,z2,z3,z4,z5,z6,z7,z8,z9,z10,z11,z12,z13,z44,z92,z190,z301,z477⟩ :=
⟨W.mg_of X G z682,
W.mg_of X G z683,
W.mg_of X G z685,
W.mg_of X G z686,
W.mg_of X G z687,
W.mg_of X G z688,
W.mg_of X G z689,
W.mg_of X G z690,
W.mg_of X G z691,
W.mg_of X G z692,
W.mg_of X G z693,
W.mg_of X G z694,
W.mg_of X G z695,
z696,
z697,
z698,
z699,
z700,
z701,
z702,
z703,
z704,
z705,
z706,
z707,
⟨_,W.mg_of X G z708⟩,
⟨_,W.mg_of X G z709⟩,
⟨_,W.mg_of X G z710⟩,
⟨_,W.mg_of X G z711⟩,
⟨_,W.mg_of X G z712⟩,
⟨_,W.mg_of X G z713⟩,
⟨_,W.mg_of X G z714⟩,
⟨_,W.mg_of X G z715⟩,
⟨_,W.mg_of X G z716⟩,
⟨_,W.mg_of X G z717⟩,
ktup2 z718,
ktup2 z719,
⟨z720,z721,z722,z723⟩,
⟨z724,z725⟩,
z726,
z727,
z728,
z729,
z730,
z731,
z732,
⟨z34,_,⟨z733,z734,z737⟩,fund_mk (st:=s_Hold___init__) z735 z736 z737⟩,
⟨_,_,_,z738,rfl,(.cons ⟨_,rfl⟩ (.cons ⟨_,rfl⟩ (.cons ⟨_,rfl⟩ .nil)))⟩,
⟨z52,_,⟨z739,z740,z743⟩,fund_mk (st:=s_Hold_put_room) z741 z742 z743⟩,
⟨z62,_,⟨z744,z745,z748⟩,fund_mk (st:=s_Hold_put_flow) z746 z747 z748⟩,
⟨z72,_,⟨z749,z750,z753⟩,fund_mk (st:=s_Hold_put_sky) z751 z752 z753⟩,
⟨z82,_,⟨z754,z755,z758⟩,fund_mk (st:=s_Hold_put_stove) z756 z757 z758⟩,
⟨_,_,_,z759,rfl,(.cons ⟨_,rfl⟩ (.cons ⟨_,rfl⟩ (.cons ⟨_,rfl⟩ .nil)))⟩,
⟨z100,_,⟨z760,z761,z764⟩,fund_mk (st:=s_Hold_many) z762 z763 z764⟩,
⟨z110,_,⟨z765,z766,z769⟩,fund_mk (st:=s_Hold_marks) z767 z768 z769⟩,
⟨z120,_,⟨z770,z771,z774⟩,fund_mk (st:=s_Hold_share) z772 z773 z774⟩,
⟨z130,_,⟨z775,z776,z779⟩,fund_mk (st:=s_Hold_stove) z777 z778 z779⟩,
⟨z140,_,⟨z780,z781,z784⟩,fund_mk (st:=s_Hold_own_share) z782 z783 z784⟩,
⟨z150,_,⟨z785,z786,z789⟩,fund_mk (st:=s_Hold_look_for) z787 z788 z789⟩,
⟨z160,_,⟨z790,z791,z794⟩,fund_mk (st:=s_Hold_look_at_share) z792 z793 z794⟩,
⟨z795,z796,z797,z798⟩,
⟨z799,z800⟩,
z801,
z802,
z803,
z804,
⟨z170,_,⟨z805,z806,z809⟩,fund_mk (st:=s_Walk___init__) z807 z808 z809⟩,
⟨z191,_,W.mg_of X G z812,fun_mk (st:=s_has_room) z813 z814 z815⟩,
⟨z201,_,W.mg_of X G z816,fun_mk (st:=s_with_room) z817 z818 z819⟩,
⟨z211,_,W.mg_of X G z820,fun_mk (st:=s_how_many) z821 z822 z823⟩,
⟨z221,_,W.mg_of X G z824,fun_mk (st:=s_members) z825 z826 z827⟩,
⟨z231,_,W.mg_of X G z828,fun_mk (st:=s_subsets) z829 z830 z831⟩,
⟨z241,_,W.mg_of X G z832,fun_mk (st:=s_bits_of) z833 z834 z835⟩,
⟨z251,_,W.mg_of X G z836,fun_mk (st:=s_is_state) z837 z838 z839⟩,
⟨z261,_,W.mg_of X G z840,fun_mk (st:=s_fits_room) z841 z842 z843⟩,
⟨z271,_,W.mg_of X G z844,fun_mk (st:=s_fits_stove) z845 z846 z847⟩,
⟨z281,_,W.mg_of X G z848,fun_mk (st:=s_look_at_state) z849 z850 z851⟩,
⟨z291,_,W.mg_of X G z852,fund_mk (st:=s_start_state) z853 z854 z855⟩,
⟨_,_,_,z856,rfl,(.cons ⟨_,rfl⟩ .nil)⟩,
⟨z307,_,W.mg_of X G z857,fun_mk (st:=s_with_stove) z858 z859 z860⟩,
⟨z317,_,W.mg_of X G z861,fun_mk (st:=s_wood_of) z862 z863 z864⟩,
⟨z327,_,W.mg_of X G z865,fun_mk (st:=s_must_stay) z866 z867 z868⟩,
⟨z337,_,W.mg_of X G z869,fun_mk (st:=s_can_burn) z870 z871 z872⟩,
⟨z347,_,W.mg_of X G z873,fun_mk (st:=s_orders_of) z874 z875 z876⟩,
⟨z357,_,W.mg_of X G z877,fun_mk (st:=s_heeded) z878 z879 z880⟩,
⟨z367,_,W.mg_of X G z881,fun_mk (st:=s_may_fail) z882 z883 z884⟩,
⟨z377,_,W.mg_of X G z885,fun_mk (st:=s_behind_turn) z886 z887 z888⟩,
⟨z387,_,W.mg_of X G z889,fun_mk (st:=s_divisor) z890 z891 z892⟩,
⟨z397,_,W.mg_of X G z893,fun_mk (st:=s_fraction) z894 z895 z896⟩,
⟨z407,_,W.mg_of X G z897,fun_mk (st:=s_plus) z898 z899 z900⟩,
⟨z417,_,W.mg_of X G z901,fun_mk (st:=s_minus) z902 z903 z904⟩,
⟨z427,_,W.mg_of X G z905,fun_mk (st:=s_under) z906 z907 z908⟩,
⟨z437,_,W.mg_of X G z909,fun_mk (st:=s_is_whole_upto) z910 z911 z912⟩,
⟨z447,_,W.mg_of X G z913,fun_mk (st:=s_is_rising) z914 z915 z916⟩,
⟨z457,_,W.mg_of X G z917,fun_mk (st:=s_bands_together) z918 z919 z920⟩,
⟨z467,_,W.mg_of X G z921,fund_mk (st:=s_hold_like) z922 z923 z924⟩,
⟨_,_,_,z925,rfl,(.cons rfl (.cons rfl (.cons rfl .nil)))⟩,
⟨z482,_,W.mg_of X G z926,fun_mk (st:=s_outcomes) z927 z928 z929⟩,
⟨z492,_,W.mg_of X G z930,fun_mk (st:=s_law_cell_at) z931 z932 z933⟩,
⟨z502,_,W.mg_of X G z934,fun_mk (st:=s_law_pick) z935 z936 z937⟩,
⟨z512,_,W.mg_of X G z938,fun_mk (st:=s_law_ratio) z939 z940 z941⟩,
⟨z522,_,W.mg_of X G z942,fun_mk (st:=s_law_scale) z943 z944 z945⟩,
⟨z532,_,W.mg_of X G z946,fun_mk (st:=s_law_warm) z947 z948 z949⟩,
⟨z542,_,W.mg_of X G z950,fun_mk (st:=s_law_stove_by) z951 z952 z953⟩,
⟨z552,_,W.mg_of X G z954,fun_mk (st:=s_law_drawn) z955 z956 z957⟩,
⟨z562,_,W.mg_of X G z958,fun_mk (st:=s_law_built) z959 z960 z961⟩,
⟨z572,_,W.mg_of X G z962,fun_mk (st:=s_law_state_by) z963 z964 z965⟩,
⟨z582,_,W.mg_of X G z966,fun_mk (st:=s_law_room_right) z967 z968 z969⟩,
⟨z592,_,W.mg_of X G z970,fun_mk (st:=s_law_right) z971 z972 z973⟩,
⟨z602,_,W.mg_of X G z974,fun_mk (st:=s_law_put) z975 z976 z977⟩,
⟨z612,_,W.mg_of X G z978,fun_mk (st:=s_law_bent) z979 z980 z981⟩,
⟨z622,_,W.mg_of X G z982,fun_mk (st:=s_law_started) z983 z984 z985⟩,
⟨z632,_,W.mg_of X G z986,fun_mk (st:=s_law_start_right) z987 z988 z989⟩,
⟨z642,_,W.mg_of X G z990,fun_mk (st:=s_law_asked) z991 z992 z993⟩,
⟨z652,_,W.mg_of X G z994,fun_mk (st:=s_law_none) z995 z996 z997⟩,
⟨z662,_,W.mg_of X G z998,fun_mk (st:=s_law_says) z999 z1000 z1001⟩,
⟨z672,_,W.mg_of X G z1002,fun_mk (st:=s_law) z1003 z1004 z1005⟩,
W.mg_none_of X G z1006,
W.mg_none_of X G z1007,
W.mg_none_of X G z1008,
W.mg_none_of X G z1009,
W.mg_none_of X G z1010,
W.mg_none_of X G z1011,
W.mg_none_of X G z1012,
W.mg_none_of X G z1013,
W.mg_none_of X G z1014,
W.mg_none_of X G z1015,
W.mg_none_of X G z1016,
W.mg_none_of X G z1017,
W.mg_none_of X G z1018,
W.mg_none_of X G z1019⟩
section
variable {P : Program} {w : World} {K : W.Frag} {mg : Str→Option Value} {base : Heap} {Ad : Ads}
theorem for_rangeG {lo : Int} {n : Nat} {g : TG} {tb : TS} {D : Ends} {σ : L2.St} {H : Hp} (Pv : Nat→L2.St→Hp→Prop) (h0 : Pv 0 σ H)
   (hs : ∀ (bk : L2.St→Hp→Prop) (rt : VK) (i : Nat) (σ : L2.St) (H : Hp),i < n→Pv i σ H→g (.int (lo + i)) σ H fun σ2 H2 => tb ⟨Pv (i + 1),rt,bk,Pv (i + 1)⟩ σ2 H2) (hd : ∀ σ H,Pv n σ H→D.nx σ H) :
   ∃ W : Nat→Nat→L2.St→Hp→Prop,(∃ m,W 0 m σ H)∧∀ i m σ H,W i m σ H →
     ((Itr lo n).stop i H∧D.nx σ H) ∨ ((Itr lo n).go i H∧∃ N : L2.St→Hp→Prop,(∀ σ' H',N σ' H'→∃ m',m' < m∧W (i + 1) m' σ' H')∧∀ x H',(Itr lo n).yld i H x H'→g x σ H' fun σ2 H2 => tb { D with nx:=N,ct:=N,bk:=D.nx } σ2 H2) :=
 for_range Pv h0 (fun i σ H hi p => hs D.nx D.rt i σ H hi p) hd
theorem for_listG {K : W.Frag} {a : Addr} {xs : List V} {g : TG} {tb : TS} {D : Ends} {σ : L2.St} {H : Hp} (Pv : Nat→L2.St→Hp→Prop) (h0 : Pv 0 σ H) (hl : ∀ i σ H,i ≤ xs.length→Pv i σ H→SqL K H a xs)
   (hs : ∀ (bk : L2.St→Hp→Prop) (rt : VK) (i : Nat) (x : V) (σ : L2.St) (H : Hp),xs[i]? = some x→Pv i σ H→g x σ H fun σ2 H2 => tb ⟨Pv (i + 1),rt,bk,Pv (i + 1)⟩ σ2 H2) (hd : ∀ σ H,Pv xs.length σ H→D.nx σ H) :
   ∃ W : Nat→Nat→L2.St→Hp→Prop,(∃ m,W 0 m σ H)∧∀ i m σ H,W i m σ H →
     ((Itl K a).stop i H∧D.nx σ H) ∨ ((Itl K a).go i H∧∃ N : L2.St→Hp→Prop,(∀ σ' H',N σ' H'→∃ m',m' < m∧W (i + 1) m' σ' H')∧∀ x H',(Itl K a).yld i H x H'→g x σ H' fun σ2 H2 => tb { D with nx:=N,ct:=N,bk:=D.nx } σ2 H2) :=
 for_list Pv h0 hl (fun i x σ H hx p => hs D.nx D.rt i x σ H hx p) hd
theorem ok_divisor (T : Txt K mg Ad) : Def P w K mg base "divisor" 1 ["one","other"] sp_gcd:=by
 refine T.d_divisor.def sc_divisor (fun vs H Q E h => ?_) (fun _ _ _ _ _ _ us hl => match us,hl with | [_,_],_ => rfl) (fun f _ _ _ s H vs Q E hr h => ?_)
 · obtain ⟨a,b,rfl,_⟩:=h
   rfl
 · obtain ⟨a,b,rfl,k⟩:=h
   refine ⟨_,(pss_cons (ps_set (i:=2) sc_divisor.nd rfl (by first | exact Or.inl rfl | exact Or.inr rfl) (pe_callB call_absL (by rfl) T.n_abs bt_abs (pa_cons (pv 0) pa_nil)))
     (pss_cons (ps_set (i:=3) sc_divisor.nd rfl (by first | exact Or.inl rfl | exact Or.inr rfl) (pe_callB call_absL (by rfl) T.n_abs bt_abs (pa_cons (pv 1) pa_nil)))
     (pss_cons (ps_while PassesOwn.never (pt_cmpR op_ne (pv 3) pe_int (nomark _)) (pss_cons (ps_set (i:=4) sc_divisor.nd rfl (by first | exact Or.inl rfl | exact Or.inr rfl) (pe_op op_modL (pv 2) (pv 3)))
     (pss_cons (ps_set (i:=2) sc_divisor.nd rfl (by first | exact Or.inl rfl | exact Or.inr rfl) (pv 3))
     (pss_one (ps_set (i:=3) sc_divisor.nd rfl (by first | exact Or.inl rfl | exact Or.inr rfl) (pv 4))))))
     (pss_one (ps_ret (pv 2)))))),?_⟩
   refine ⟨_,rfl,_,rfl,fun g0 eg => ⟨_,rfl,_,rfl,fun l0 el => ?_⟩⟩
   refine ⟨fun m σ H' => H' = H∧∃ (g l : Int) (r : Option V),σ = [some (.int a),some (.int b),some (.int g),some (.int l),r]∧0 ≤ g∧0 ≤ l∧m = l.toNat∧Int.gcd g l = Int.gcd a b,
     ⟨_,rfl,g0,l0,none,rfl,by omega,by omega,rfl,by rw [eg,el]; rfl⟩,?_⟩
   rintro m σ H' ⟨rfl,g,l,r,rfl,hg,hl,rfl,e⟩
   refine ⟨_,rfl,rfl,_,rfl,?_⟩
   refine ite4 (fun h => ?_) (fun h => ?_)
   · have l1 : 0 < l:=by rw [int_inj] at h; omega
     refine ⟨fun σ' H'' => H'' = H'∧σ' = [some (.int a),some (.int b),some (.int l),some (.int (g % l)),some (.int (g % l))],fun σ' H'' ⟨e1,e2⟩ => ?_,?_⟩
     · have m0:=Int.emod_nonneg g (by omega : l ≠ 0)
       have m1:=Int.emod_lt_of_pos g l1
       exact ⟨(g % l).toNat,by omega,e1,l,g % l,_,e2,hl,m0,rfl,(gstep hg l1).trans e⟩
     · refine ⟨_,rfl,_,rfl,_,_,rfl,rfl,l1,fun r _ _ er => ?_⟩
       subst er
       exact ⟨_,rfl,_,rfl,rfl,rfl⟩
   · have l1 : l = 0:=int_inj.mp h
     subst l1
     refine ⟨_,rfl,k g ?_⟩
     rw [← e,gend hg]
theorem ok_fraction (T : Txt K mg Ad) : Def P w K mg base "fraction" 2 ["top","bottom"] sp_fraction:=by
 refine T.d_fraction.def sc_fraction (fun vs H Q E h => ?_) (fun _ _ _ _ _ _ us hl => match us,hl with | [_,_],_ => rfl) (fun f _ _ _ s H vs Q E hr h => ?_)
 · obtain ⟨a,b,rfl,_⟩:=h
   rfl
 · obtain ⟨t,b,rfl,hb,bb,k⟩:=h
   refine ⟨_,(pss_cons (ps_if (pt_cmpR op_eq (pv 1) pe_int (nomark _)) (pss_one ps_never) pss_nil)
     (pss_cons (ps_set (i:=2) sc_fraction.nd rfl (by first | exact Or.inl rfl | exact Or.inr rfl) (pe_callD (ok_divisor T) (hr.mono (by decide)) (pa_cons (pv 0) (pa_cons (pv 1) pa_nil))))
     (pss_cons (ps_cut (ps_if (pt_cmpR op_lt (pv 1) pe_int (nomark _)) (pss_one (ps_set (i:=2) sc_fraction.nd rfl (by first | exact Or.inl rfl | exact Or.inr rfl) (pe_un un_neg (pv 2)))) pss_nil))
     (pss_one (ps_ret (pe_tup (pa_cons (pe_op op_fdivL (pv 0) (pv 2)) (pa_cons (pe_op op_fdivL (pv 1) (pv 2)) pa_nil)))))))),?_⟩
   refine ⟨_,rfl,rfl,_,rfl,?_⟩
   refine iteN (fun e => hb (int_inj.mp e)) ?_
   refine ⟨_,rfl,_,rfl,t,b,rfl,fun c ec => ?_⟩
   obtain ⟨c0,cl,fp,fn⟩:=fr_of hb ec
   have bc : Bd 8999 c:=(bb.le (by omega)).mono (by decide)
   refine ⟨fun σ' H' => H' = H∧∃ c',c' ≠ 0∧Bd 8999 c'∧Fr t b (t.fdiv c') (b.fdiv c')∧σ' = [some (.int t),some (.int b),some (.int c')],?_,?_⟩
   · refine ⟨_,rfl,_,_,rfl,rfl,_,rfl,?_⟩
     refine ite3 (fun h => ?_) (fun h => ?_)
     · exact ⟨_,rfl,_,rfl,rfl,-c,by omega,bc.neg,fn h,rfl⟩
     · exact ⟨rfl,c,by omega,bc,fp (by omega),rfl⟩
   · rintro σ' H' ⟨rfl,c',h1,h2,h3,rfl⟩
     refine ⟨_,rfl,_,rfl,_,_,rfl,rfl,⟨h1,h2⟩,fun q eq => ⟨_,rfl,_,rfl,_,_,rfl,rfl,⟨h1,h2⟩,fun r er => ⟨sz2,fun p hp => ?_⟩⟩⟩
     subst eq er
     exact k _ _ p _ h3 (same_upd hp) upd_same
theorem ok_plus (T : Txt K mg Ad) : Def P w K mg base "plus" 3 ["one","other"] (sp_arith (fun a b c d => a * d + c * b) K):=by
 refine T.d_plus.def sc_plus (fun vs H Q E h => ?_) (fun _ _ _ _ _ _ us hl => match us,hl with | [_,_],_ => rfl) (fun f _ _ _ s H vs Q E hr h => ?_)
 · obtain ⟨p1,p2,a,b,c,d,rfl,_⟩:=h
   rfl
 · obtain ⟨p1,p2,a,b,c,d,rfl,h1,h2,b0,d0,ba,bb,bc,bd,k⟩:=h
   refine ⟨_,(pss_one (ps_ret (pe_callD (ok_fraction T) (hr.mono (by decide)) (pa_cons (pe_op op_addL (pe_op op_mulL (pe_ix ix_any (pv 0) pe_int (fun _ _ => rfl)) (pe_ix ix_any (pv 1) pe_int (fun _ _ => rfl))) (pe_op op_mulL (pe_ix ix_any (pv 1) pe_int (fun _ _ => rfl)) (pe_ix ix_any (pv 0) pe_int (fun _ _ => rfl)))) (pa_cons (pe_op op_mulL (pe_ix ix_any (pv 0) pe_int (fun _ _ => rfl)) (pe_ix ix_any (pv 1) pe_int (fun _ _ => rfl))) pa_nil))))),?_⟩
   refine ⟨_,rfl,_,_,_,_,rfl,rfl,.inr h1,rfl,_,rfl,_,_,_,_,rfl,rfl,.inr h2,rfl,_,_,rfl,rfl,⟨_,_,ba,bd,by decide⟩,fun x1 e1 => ?_⟩
   refine ⟨_,rfl,_,_,_,_,rfl,rfl,.inr h2,rfl,_,rfl,_,_,_,_,rfl,rfl,.inr h1,rfl,_,_,rfl,rfl,⟨_,_,bc,bb,by decide⟩,fun x2 e2 => ⟨_,_,rfl,rfl,fun t et => ?_⟩⟩
   refine ⟨_,rfl,_,_,_,_,rfl,rfl,.inr h1,rfl,_,rfl,_,_,_,_,rfl,rfl,.inr h2,rfl,_,_,rfl,rfl,⟨_,_,bb,bd,by decide⟩,fun u eu => ?_⟩
   subst e1 e2 et eu
   exact ⟨_,_,rfl,Int.ne_of_gt (Int.mul_pos b0 d0),(bb.mul bd).mono (by decide),k⟩
theorem ok_minus (T : Txt K mg Ad) : Def P w K mg base "minus" 3 ["one","other"] (sp_arith (fun a b c d => a * d - c * b) K):=by
 refine T.d_minus.def sc_minus (fun vs H Q E h => ?_) (fun _ _ _ _ _ _ us hl => match us,hl with | [_,_],_ => rfl) (fun f _ _ _ s H vs Q E hr h => ?_)
 · obtain ⟨p1,p2,a,b,c,d,rfl,_⟩:=h
   rfl
 · obtain ⟨p1,p2,a,b,c,d,rfl,h1,h2,b0,d0,ba,bb,bc,bd,k⟩:=h
   refine ⟨_,(pss_one (ps_ret (pe_callD (ok_fraction T) (hr.mono (by decide)) (pa_cons (pe_op op_subL (pe_op op_mulL (pe_ix ix_any (pv 0) pe_int (fun _ _ => rfl)) (pe_ix ix_any (pv 1) pe_int (fun _ _ => rfl))) (pe_op op_mulL (pe_ix ix_any (pv 1) pe_int (fun _ _ => rfl)) (pe_ix ix_any (pv 0) pe_int (fun _ _ => rfl)))) (pa_cons (pe_op op_mulL (pe_ix ix_any (pv 0) pe_int (fun _ _ => rfl)) (pe_ix ix_any (pv 1) pe_int (fun _ _ => rfl))) pa_nil))))),?_⟩
   refine ⟨_,rfl,_,_,_,_,rfl,rfl,.inr h1,rfl,_,rfl,_,_,_,_,rfl,rfl,.inr h2,rfl,_,_,rfl,rfl,⟨_,_,ba,bd,by decide⟩,fun x1 e1 => ?_⟩
   refine ⟨_,rfl,_,_,_,_,rfl,rfl,.inr h2,rfl,_,rfl,_,_,_,_,rfl,rfl,.inr h1,rfl,_,_,rfl,rfl,⟨_,_,bc,bb,by decide⟩,fun x2 e2 => ⟨_,_,rfl,rfl,fun t et => ?_⟩⟩
   refine ⟨_,rfl,_,_,_,_,rfl,rfl,.inr h1,rfl,_,rfl,_,_,_,_,rfl,rfl,.inr h2,rfl,_,_,rfl,rfl,⟨_,_,bb,bd,by decide⟩,fun u eu => ?_⟩
   subst e1 e2 et eu
   exact ⟨_,_,rfl,Int.ne_of_gt (Int.mul_pos b0 d0),(bb.mul bd).mono (by decide),k⟩
theorem ok_under (T : Txt K mg Ad) : Def P w K mg base "under" 1 ["one","other"] (sp_under K):=by
 refine T.d_under.def sc_under (fun vs H Q E h => ?_) (fun _ _ _ _ _ _ us hl => match us,hl with | [_,_],_ => rfl) (fun f _ _ _ s H vs Q E hr h => ?_)
 · obtain ⟨p1,p2,a,b,c,d,rfl,_⟩:=h
   rfl
 · obtain ⟨p1,p2,a,b,c,d,rfl,h1,h2,ba,bb,bc,bd,k⟩:=h
   refine ⟨_,(pss_one (ps_ret (pe_cmpR op_lt (pe_op op_mulL (pe_ix ix_any (pv 0) pe_int (fun _ _ => rfl)) (pe_ix ix_any (pv 1) pe_int (fun _ _ => rfl))) (pe_op op_mulL (pe_ix ix_any (pv 1) pe_int (fun _ _ => rfl)) (pe_ix ix_any (pv 0) pe_int (fun _ _ => rfl))) (nomark _)))),?_⟩
   refine ⟨_,rfl,_,_,_,_,rfl,rfl,.inr h1,rfl,_,rfl,_,_,_,_,rfl,rfl,.inr h2,rfl,_,_,rfl,rfl,⟨_,_,ba,bd,by decide⟩,fun x1 e1 => ?_⟩
   refine ⟨_,rfl,_,_,_,_,rfl,rfl,.inr h2,rfl,_,rfl,_,_,_,_,rfl,rfl,.inr h1,rfl,_,_,rfl,rfl,⟨_,_,bc,bb,by decide⟩,fun x2 e2 => ⟨_,_,rfl,rfl,?_⟩⟩
   subst e1 e2
   exact k
theorem ok_is_whole_upto (T : Txt K mg Ad) : Def P w K mg base "is_whole_upto" 1 ["thing","greatest"] sp_upto:=by
 refine T.d_is_whole_upto.def sc_is_whole_upto (fun vs H Q E h => ?_) (fun _ _ _ _ _ _ us hl => match us,hl with | [_,_],_ => rfl) (fun f _ _ _ s H vs Q E hr h => ?_)
 · obtain ⟨n,g,rfl,_⟩:=h
   rfl
 · obtain ⟨n,g,rfl,k⟩:=h
   refine ⟨_,(pss_cons (ps_if (PW.pt (pw_or (pt_val (pe_callB call_isinst (by rfl) T.n_isinstance bt_isinstance (pa_cons (pv 0) (pa_cons (pe_bltn (v:=V.ty "bool") rfl T.n_bool bt_bool rfl) pa_nil)))) (pw_or1 (pt_not (pt_val (pe_callB call_isinst (by rfl) T.n_isinstance bt_isinstance (pa_cons (pv 0) (pa_cons (pe_bltn (v:=V.ty "int") rfl T.n_int bt_int rfl) pa_nil)))))))) (pss_one (ps_ret pe_bl)) pss_nil)
     (pss_one (ps_ret (pe_chain op_le op_le pe_int (pv 0) (pv 1))))),?_⟩
   refine ⟨_,rfl,_,_,_,_,_,rfl,.int n,rfl,kit_int_bool K,_,rfl,iteF ⟨_,rfl,_,_,_,_,_,rfl,.int n,rfl,rfl,_,rfl,iteF ?_⟩⟩
   refine ⟨_,rfl,_,_,rfl,rfl,_,rfl,?_⟩
   by_cases h0 : (0 : Int) ≤ n
   · refine iteP h0 ⟨_,rfl,_,_,rfl,rfl,?_⟩
     have : decide (n ≤ g) = decide (0 ≤ n∧n ≤ g):=decide_eq_decide.mpr ⟨fun h => ⟨h0,h⟩,fun h => h.2⟩
     show Q (V.bl (decide (n ≤ g))) H
     rw [this]
     exact k
   · refine iteN h0 ?_
     have : decide (0 ≤ n∧n ≤ g) = false:=decide_eq_false fun h => h0 h.1
     rw [this] at k
     exact k
theorem okm_Hold_many (T : Txt K mg Ad) : MDef P w K mg base Ad.Hold "many" 1 ["self"] [] (sp_many K Ad.Hold):=by
 refine T.e_Hold_many.mdef sc_Hold_many (fun vs H Q E h => ?_) (fun _ _ _ _ _ _ us hl => match us,hl with | [_],_ => rfl) (fun f _ _ _ s H vs Q E hr h => ?_)
 · obtain ⟨a,fp,m,rfl,_⟩:=h
   rfl
 · obtain ⟨a,fp,m,rfl,hh,k⟩:=h
   refine ⟨_,(pss_one (ps_ret (pe_callB call_lenL (by rfl) T.n_len bt_len (pa_cons (pe_fld (pv 0) rfl) pa_nil)))),?_⟩
   obtain ⟨⟨dx,pm,pf,ps,pt,vm,vs,vt,kvs,rfl,ha,hdx,hpm,hpf,hps,hpt,n1,n2,n3,dm,ds,dt,df,fk⟩,q1,q2,q3,q4⟩:=hh
   refine ⟨_,rfl,a,_,dx,_,_,rfl,ha,T.cl_Hold,T.na_Hold_mark_rows,hfs_rows ..,_,_,rfl,.inl (SqL.of hpm),fun n en => ?_⟩
   have e : n = (m.rows.length : Int):=by rw [en,dm.length,List.length_map]
   rw [e]
   exact k
theorem okm_Hold_look_for (T : Txt K mg Ad) : MDef P w K mg base Ad.Hold "look_for" 3 ["self","room"] [] (sp_look_for K Ad.Hold):=by
 refine T.e_Hold_look_for.mdef sc_Hold_look_for (fun vs H Q E h => ?_) (fun _ _ _ _ _ _ us hl => match us,hl with | [_,_],_ => rfl) (fun f _ _ _ s H vs Q E hr h => ?_)
 · obtain ⟨a,fp,m,i,rfl,_⟩:=h
   rfl
 · obtain ⟨a,fp,m,i,rfl,hh,hi,k⟩:=h
   refine ⟨_,(pss_one (ps_if (pt_not (pt_chain op_le op_lt pe_int (pv 1) (pe_methD0 (pv 0) T.cl_Hold (okm_Hold_many T) .nil (hr.mono (by decide))))) (pss_one ps_never) pss_nil)),?_⟩
   obtain ⟨⟨dx,pm,pf,ps,pt,vm,vs,vt,kvs,efp,ha,_⟩,_⟩:=id hh
   refine ⟨_,rfl,_,_,rfl,rfl,_,rfl,iteP (by omega) ⟨_,rfl,a,dx,_,rfl,ha,rfl,a,fp,m,rfl,hh,_,_,rfl,rfl,_,rfl,?_⟩⟩
   exact iteNS (by omega) k
theorem okm_Hold_stove (T : Txt K mg Ad) : MDef P w K mg base Ad.Hold "stove" 4 ["self","room"] [] (sp_stove K Ad.Hold):=by
 refine T.e_Hold_stove.mdef sc_Hold_stove (fun vs H Q E h => ?_) (fun _ _ _ _ _ _ us hl => match us,hl with | [_,_],_ => rfl) (fun f _ _ _ s H vs Q E hr h => ?_)
 · obtain ⟨a,fp,m,i,z,rfl,_⟩:=h
   rfl
 · obtain ⟨a,fp,m,i,z,rfl,hh,hz,k⟩:=h
   refine ⟨_,(pss_cons (ps_expr (pe_methD (pv 0) T.cl_Hold (okm_Hold_look_for T) .nil (hr.mono (by decide)) (pa_cons (pv 1) pa_nil)))
     (pss_one (ps_ret (pe_ix ix_any (pe_fld (pv 0) rfl) (pv 1) (fun _ _ => rfl))))),?_⟩
   obtain ⟨⟨dx,pm,pf,ps,pt,vm,vs,vt,kvs,efp,ha,hdx,hpm,hpf,hps,hpt,n1,n2,n3,dm,ds,dt,df,fk⟩,q1,q2,q3,q4⟩:=id hh
   have hi : i < m.rows.length:=by rw [← q2]; exact (List.getElem?_eq_some_iff.mp hz).1
   obtain ⟨v,ev,dv⟩:=dt.get (i:=i) (d:=stoveD z) (by rw [List.getElem?_map,hz]; rfl)
   refine ⟨_,rfl,a,dx,_,rfl,ha,rfl,_,rfl,a,fp,m,i,rfl,hh,hi,?_⟩
   exact ⟨_,rfl,a,_,dx,_,_,rfl,ha,T.cl_Hold,T.na_Hold_stoves,hfs_stoves ..,_,rfl,_,_,_,_,rfl,rfl,.inl (SqL.of hpt),atI_natI ev,k v dv⟩
theorem okm_Hold_marks (T : Txt K mg Ad) : MDef P w K mg base Ad.Hold "marks" 4 ["self","room"] [] (sp_marks K Ad.Hold):=by
 refine T.e_Hold_marks.mdef sc_Hold_marks (fun vs H Q E h => ?_) (fun _ _ _ _ _ _ us hl => match us,hl with | [_,_],_ => rfl) (fun f _ _ _ s H vs Q E hr h => ?_)
 · obtain ⟨a,fp,m,i,z,rfl,_⟩:=h
   rfl
 · obtain ⟨a,fp,m,i,r,rfl,hh,hz,k⟩:=h
   refine ⟨_,(pss_cons (ps_expr (pe_methD (pv 0) T.cl_Hold (okm_Hold_look_for T) .nil (hr.mono (by decide)) (pa_cons (pv 1) pa_nil)))
     (pss_one (ps_ret (pe_callTy call_list_of (by rfl) T.n_list bt_list (pa_cons (pe_ix ix_any (pe_fld (pv 0) rfl) (pv 1) (fun _ _ => rfl)) pa_nil))))),?_⟩
   obtain ⟨⟨dx,pm,pf,ps,pt,vm,vs,vt,kvs,efp,ha,hdx,hpm,hpf,hps,hpt,n1,n2,n3,dm,ds,dt,df,fk⟩,q1,q2,q3,q4⟩:=id hh
   have hi : i < m.rows.length:=(List.getElem?_eq_some_iff.mp hz).1
   obtain ⟨v,ev,b,xs,rfl,hq,dv⟩:=dm.get (i:=i) (d:=rowD r) (by rw [List.getElem?_map,hz]; rfl)
   refine ⟨_,rfl,a,dx,_,rfl,ha,rfl,_,rfl,a,fp,m,i,rfl,hh,hi,?_⟩
   exact ⟨_,rfl,a,_,dx,_,_,rfl,ha,T.cl_Hold,T.na_Hold_mark_rows,hfs_rows ..,_,rfl,_,_,_,_,rfl,rfl,.inl (SqL.of hpm),atI_natI ev,b,xs,rfl,.inr hq,fun p hp => k p xs hp dv⟩
theorem okm_Hold_own_share (T : Txt K mg Ad) : MDef P w K mg base Ad.Hold "own_share" 4 ["self","room"] [] (sp_own K Ad.Hold):=by
 refine T.e_Hold_own_share.mdef sc_Hold_own_share (fun vs H Q E h => ?_) (fun _ _ _ _ _ _ us hl => match us,hl with | [_,_],_ => rfl) (fun f _ _ _ s H vs Q E hr h => ?_)
 · obtain ⟨a,fp,m,i,rfl,_⟩:=h
   rfl
 · obtain ⟨a,fp,m,i,rfl,hh,hi,k⟩:=h
   refine ⟨_,(pss_cons (ps_set (i:=2) sc_Hold_own_share.nd rfl (by first | exact Or.inl rfl | exact Or.inr rfl) (pe_callD (ok_minus T) (hr.mono (by decide)) (pa_cons (pe_glob (v:=V.ref _) rfl T.m_WHOLE rfl) (pa_cons (pe_ix ix_any (pe_ix ix_any (pe_fld (pv 0) rfl) (pv 1) (fun _ _ => rfl)) pe_int (fun _ _ => rfl)) pa_nil))))
     (pss_cons (ps_for PassesOwn.never rfl (pi_range1 rfl T.n_range (pa_cons (pe_methD0 (pv 0) T.cl_Hold (okm_Hold_many T) .nil (hr.mono (by decide))) pa_nil)) (pg_name (i:=3) sc_Hold_own_share.nd rfl (by first | exact Or.inl rfl | exact Or.inr rfl)) (pss_one (ps_set (i:=2) sc_Hold_own_share.nd rfl (by first | exact Or.inl rfl | exact Or.inr rfl) (pe_callD (ok_minus T) (hr.mono (by decide)) (pa_cons (pv 2) (pa_cons (pe_dget2 (hu_of hr) (pe_fld (pv 0) rfl) (pe_tup (pa_cons (pv 1) (pa_cons (pv 3) pa_nil))) (pe_glob (v:=V.ref _) rfl T.m_NOUGHT rfl) ⟨rfl,rfl,rfl,rfl⟩) pa_nil))))))
     (pss_one (ps_ret (pv 2))))),?_⟩
   obtain ⟨⟨dx,pm,pf,ps,pt,vm,vs,vt,kvs,efp,ha,hdx,hpm,hpf,hps,hpt,n1,n2,n3,dm,ds,dt,df,fk⟩,q1,q2,q3,q4⟩:=id hh
   have hi1 : i < m.skies.length:=by rw [q1]; exact hi
   have hz:=get_nat hi1
   obtain ⟨v,ev,dv⟩:=ds.get (i:=i) (d:=skyD m.skies[i]) (by rw [List.getElem?_map,hz]; rfl)
   obtain ⟨p0,v1,v2,v3,rfl,hq0,d1,d2,d3⟩:=dv.sky
   obtain ⟨p1,rfl,hq1⟩:=d1.fr
   have es : m.skies[i].1 = m.skyS i:=by unfold HoldM.skyS; rw [hz]; rfl
   have o1 : OkF 100 m.skies[i].1:=es ▸ q4.skyS i
   refine ⟨_,rfl,a,_,dx,_,_,rfl,ha,T.cl_Hold,T.na_Hold_skies,hfs_skies ..,_,rfl,_,_,_,_,rfl,rfl,.inl (SqL.of hps),atI_natI ev,_,_,_,_,rfl,rfl,.inr hq0,rfl,?_⟩
   refine ⟨Ad.WHOLE,p1,1,1,_,_,rfl,T.q_WHOLE.at H,hq1,by decide,o1.p,bdd,bdd,o1.t.mono (by decide),o1.b.mono (by decide),fun q r u H1 F s1 hu => ?_⟩
   have e0 : (q,r) = m.ownTo i 0:=by
     have:=F.nf (Int.mul_pos (by decide) o1.p)
     rw [this]
     unfold HoldM.ownTo minusM
     rw [← es]; rfl
   refine ⟨_,rfl,a,dx,_,rfl,s1 _ _ ha,rfl,a,fp,m,rfl,HoldAt.same s1 hh,_,rfl,by omega,by omega,?_⟩
   refine for_range (lo:=0) (n:=m.rows.length) (fun j σ H' => Same H H'∧∃ (u : Addr) (x : Option V),H' u = some (.tup [.int (m.ownTo i j).1,.int (m.ownTo i j).2])∧σ = [some (.ref a),some (natV i),some (.ref u),x])
     ⟨s1,u,none,by rw [← e0]; exact hu,rfl⟩ ?_ ?_
   · rintro j σ H2 hj ⟨s2,u,x,hu,rfl⟩
     have oj:=(q4.ownTo i j).mono (show 201 + 101 * j ≤ 1000 by omega)
     obtain ⟨of,ot⟩ : True∧True:=⟨trivial,trivial⟩
     refine ⟨_,rfl,_,rfl,a,_,dx,_,_,rfl,s2 _ _ ha,T.cl_Hold,T.na_Hold_flows,hfs_flows ..,_,rfl,.inr ⟨_,.inl (s2 _ _ hpf)⟩,_,rfl,_,rfl,sz2,fun kp hkp => ?_⟩
     have s3:=same_upd (o:=.tup [natV i,.int (0 + (j : Int))]) hkp
     have hkey : (upd H2 kp (.tup [natV i,.int (0 + (j : Int))])) kp = some (.tup ((fkey i j).map kV)):=by rw [upd_same,Int.zero_add]; rfl
     refine ⟨_,DGet.t (s3 _ _ (s2 _ _ hpf)) hkey,?_⟩
     have dfl : Dn K (upd H2 kp (.tup [natV i,.int (0 + (j : Int))])) (frD (m.flow i j)) ((valV kvs (fkey i j)).getD (.ref Ad.NOUGHT)):=by
       have:=(HoldAt.same (s2.trans s3) hh).ex
       have q:=df i j
       refine Dn.same (s2.trans s3) _ (flow_at q (T.q_NOUGHT.fr (f:=(0,1))))
     obtain ⟨pf1,ef1,hf1⟩:=dfl.fr
     have okf:=q4.flow i j
     rw [ef1]
     refine ⟨u,pf1,_,_,_,_,rfl,SqT.of (s3 _ _ hu),hf1,oj.p,okf.p,oj.t,oj.b,okf.t.mono (by decide),okf.b.mono (by decide),fun q r u' H4 F s4 hu' => ?_⟩
     refine ⟨s2.trans (s3.trans s4),u',_,?_,rfl⟩
     have:=F.nf (Int.mul_pos oj.p okf.p)
     rw [hu',HoldM.ownTo_succ]
     unfold minusM
     rw [← this]
   · rintro σ H2 ⟨s2,u,x,hu,rfl⟩
     exact ⟨_,rfl,k _ H2 s2 (dn_fr (SqT.of hu))⟩
theorem okm_Hold_share (T : Txt K mg Ad) : MDef P w K mg base Ad.Hold "share" 5 ["self","into","of"] [] (sp_share K Ad.Hold):=by
 refine T.e_Hold_share.mdef sc_Hold_share (fun vs H Q E h => ?_) (fun _ _ _ _ _ _ us hl => match us,hl with | [_,_,_],_ => rfl) (fun f _ _ _ s H vs Q E hr h => ?_)
 · obtain ⟨a,fp,m,i,j,rfl,_⟩:=h
   rfl
 · obtain ⟨a,fp,m,i,j,rfl,hh,hi,hj,k⟩:=h
   refine ⟨_,(pss_cons (ps_expr (pe_methD (pv 0) T.cl_Hold (okm_Hold_look_for T) .nil (hr.mono (by decide)) (pa_cons (pv 1) pa_nil)))
     (pss_cons (ps_expr (pe_methD (pv 0) T.cl_Hold (okm_Hold_look_for T) .nil (hr.mono (by decide)) (pa_cons (pv 2) pa_nil)))
     (pss_cons (ps_if (pt_cmpR op_eq (pv 1) (pv 2) (nomark _)) (pss_one (ps_ret (pe_methD (pv 0) T.cl_Hold (okm_Hold_own_share T) .nil (hr.mono (by decide)) (pa_cons (pv 1) pa_nil)))) pss_nil)
     (pss_one (ps_ret (pe_dget2 (hu_of hr) (pe_fld (pv 0) rfl) (pe_tup (pa_cons (pv 1) (pa_cons (pv 2) pa_nil))) (pe_glob (v:=V.ref _) rfl T.m_NOUGHT rfl) ⟨rfl,rfl,rfl,rfl⟩)))))),?_⟩
   obtain ⟨⟨dx,pm,pf,ps,pt,vm,vs,vt,kvs,efp,ha,hdx,hpm,hpf,hps,hpt,n1,n2,n3,dm,ds,dt,df,fk⟩,q1,q2,q3,q4⟩:=id hh
   refine ⟨_,rfl,a,dx,_,rfl,ha,rfl,_,rfl,a,fp,m,i,rfl,hh,hi,⟨_,rfl,a,dx,_,rfl,ha,rfl,_,rfl,a,fp,m,j,rfl,hh,hj,?_⟩⟩
   refine ⟨_,rfl,_,rfl,rfl,_,rfl,?_⟩
   by_cases hij : i = j
   · subst hij
     refine iteP rfl ⟨_,rfl,a,dx,_,rfl,ha,rfl,_,rfl,a,fp,m,i,rfl,hh,hi,fun v H' s' dv => k v H' s' ?_⟩
     rw [HoldM.share,if_pos rfl]; exact dv
   · refine iteN (fun e => hij (by have:=int_inj.mp e; omega)) ?_
     refine ⟨_,rfl,a,_,dx,_,_,rfl,ha,T.cl_Hold,T.na_Hold_flows,hfs_flows ..,_,rfl,.inr ⟨_,.inl hpf⟩,_,rfl,_,rfl,sz2,fun kp hkp => ?_⟩
     have s3:=same_upd (o:=.tup [natV i,natV j]) hkp
     have hkey : (upd H kp (.tup [natV i,natV j])) kp = some (.tup ((fkey i j).map kV)):=by rw [upd_same]; rfl
     refine ⟨_,DGet.t (s3 _ _ hpf) hkey,k _ _ s3 ?_⟩
     rw [HoldM.share,if_neg hij]
     exact Dn.same s3 _ (flow_at (df i j) (T.q_NOUGHT.fr (f:=(0,1))))
theorem okm_Hold_look_at_share (T : Txt K mg Ad) : MDef P w K mg base Ad.Hold "look_at_share" 5 ["self","room","share","former"] [] (sp_fits K Ad.Hold):=by
 refine T.e_Hold_look_at_share.mdef sc_Hold_look_at_share (fun vs H Q E h => ?_) (fun _ _ _ _ _ _ us hl => match us,hl with | [_,_,_,_],_ => rfl) (fun f _ _ _ s H vs Q E hr h => ?_)
 · obtain ⟨a,fp,m,i,v1,v2,f,g,rfl,_⟩:=h
   rfl
 · obtain ⟨a,fp,m,i,v1,v2,f,g,rfl,hh,hi,d1,d2,o1,o2,hf,hu,k⟩:=h
   refine ⟨_,(pss_cons (ps_set (i:=4) sc_Hold_look_at_share.nd rfl (by first | exact Or.inl rfl | exact Or.inr rfl) (pe_callD (ok_plus T) (hr.mono (by decide)) (pa_cons (pe_methD (pv 0) T.cl_Hold (okm_Hold_own_share T) .nil (hr.mono (by decide)) (pa_cons (pv 1) pa_nil)) (pa_cons (pv 3) pa_nil))))
     (pss_one (ps_if (PW.pt (pw_or (pt_val (pe_callD (ok_under T) (hr.mono (by decide)) (pa_cons (pv 2) (pa_cons (pe_glob (v:=V.ref _) rfl T.m_NOUGHT rfl) pa_nil)))) (pw_or1 (pt_val (pe_callD (ok_under T) (hr.mono (by decide)) (pa_cons (pv 4) (pa_cons (pv 2) pa_nil))))))) (pss_one ps_never) pss_nil))),?_⟩
   obtain ⟨⟨dx,pm,pf,ps,pt,vm,vs,vt,kvs,efp,ha,hdx,hpm,hpf,hps,hpt,n1,n2,n3,dm,ds,dt,df,fk⟩,q1,q2,q3,q4⟩:=id hh
   obtain ⟨p1,rfl,hp1⟩:=d1.fr
   obtain ⟨p2,rfl,hp2⟩:=d2.fr
   refine ⟨_,rfl,a,dx,_,rfl,ha,rfl,_,rfl,a,fp,m,i,rfl,hh,hi,fun v H1 s1 dv => ⟨_,rfl,?_⟩⟩
   obtain ⟨p3,rfl,hp3⟩:=dv.fr
   have oo : OkF 800 (m.own i):=(q4.ownTo i _).mono (by omega)
   refine ⟨p3,p2,_,_,_,_,rfl,hp3,s1.tup hp2,oo.p,o2.p,oo.t.mono (by decide),oo.b.mono (by decide),o2.t.mono (by decide),o2.b.mono (by decide),fun q r u H2 F s2 hu2 => ?_⟩
   have e0 : (q,r) = plusM (m.own i) g:=F.nf (Int.mul_pos oo.p o2.p)
   have op : OkF 950 (plusM (m.own i) g):=(oo.plus o2).mono (by decide)
   rw [← e0] at op hu
   refine ⟨_,rfl,p1,Ad.NOUGHT,_,_,_,_,rfl,s2.tup (s1.tup hp1),T.q_NOUGHT.at _,o1.t.mono (by decide),o1.b.mono (by decide),bdd,bdd,_,rfl,iteN (by omega) ?_⟩
   refine ⟨_,rfl,_,rfl,u,p1,_,_,_,_,rfl,SqT.of hu2,s2.tup (s1.tup hp1),op.t.mono (by decide),op.b.mono (by decide),o1.t.mono (by decide),o1.b.mono (by decide),_,rfl,iteN (of_decide_eq_false hu) (k _ (s1.trans s2))⟩
theorem okm_Hold_put_flow (T : Txt K mg Ad) : MDef P w K mg base Ad.Hold "put_flow" 6 ["self","into","of","share"] [] (sp_put_flow K Ad.Hold):=by
 refine T.e_Hold_put_flow.mdef sc_Hold_put_flow (fun vs H Q E h => ?_) (fun _ _ _ _ _ _ us hl => match us,hl with | [_,_,_,_],_ => rfl) (fun f _ _ _ s H vs Q E hr h => ?_)
 · obtain ⟨a,fp,m,i,j,v,f,rfl,_⟩:=h
   rfl
 · obtain ⟨a,fp,m,i,j,v,f,rfl,hh,hi,hj,hij,dv,o1,hf,hu,k⟩:=h
   refine ⟨_,(pss_cons (ps_expr (pe_methD (pv 0) T.cl_Hold (okm_Hold_look_for T) .nil (hr.mono (by decide)) (pa_cons (pv 1) pa_nil)))
     (pss_cons (ps_expr (pe_methD (pv 0) T.cl_Hold (okm_Hold_look_for T) .nil (hr.mono (by decide)) (pa_cons (pv 2) pa_nil)))
     (pss_cons (ps_if (pt_cmpR op_eq (pv 1) (pv 2) (nomark _)) (pss_one ps_never) pss_nil)
     (pss_cons (ps_expr (pe_methD (pv 0) T.cl_Hold (okm_Hold_look_at_share T) .nil (hr.mono (by decide)) (pa_cons (pv 1) (pa_cons (pv 3) (pa_cons (pe_methD (pv 0) T.cl_Hold (okm_Hold_share T) .nil (hr.mono (by decide)) (pa_cons (pv 1) (pa_cons (pv 2) pa_nil))) pa_nil)))))
     (pss_one (ps_dput (hu_of hr) (pe_fld (pv 0) rfl) (pe_tup (pa_cons (pv 1) (pa_cons (pv 2) pa_nil))) (pv 3) rfl)))))),?_⟩
   obtain ⟨⟨dx,pm,pf,ps,pt,vm,vs,vt,kvs,efp,ha,hdx,hpm,hpf,hps,hpt,n1,n2,n3,dm,ds,dt,df,fk⟩,q1,q2,q3,q4⟩:=id hh
   refine ⟨_,rfl,a,dx,_,rfl,ha,rfl,_,rfl,a,fp,m,i,rfl,hh,hi,⟨_,rfl,a,dx,_,rfl,ha,rfl,_,rfl,a,fp,m,j,rfl,hh,hj,?_⟩⟩
   refine ⟨_,rfl,_,rfl,rfl,_,rfl,iteN (fun e => hij (by have:=int_inj.mp e; omega)) ?_⟩
   refine ⟨_,rfl,a,dx,_,rfl,ha,rfl,_,rfl,_,rfl,_,rfl,a,dx,_,rfl,ha,rfl,_,rfl,_,rfl,a,fp,m,i,j,rfl,hh,hi,hj,fun z H1 s1 dz => ?_⟩
   rw [HoldM.share,if_neg hij] at dz
   refine ⟨a,fp,m,i,v,z,f,_,rfl,hh.same s1,hi,Dn.same s1 _ dv,dz,o1,q4.flow i j,hf,hu,fun H2 s2 => ?_⟩
   have s12:=s1.trans s2
   refine ⟨_,rfl,_,rfl,a,_,dx,_,_,rfl,s12 _ _ ha,T.cl_Hold,T.na_Hold_flows,hfs_flows ..,_,rfl,_,rfl,sz2,fun kp hkp => ?_⟩
   have s3:=same_upd (o:=.tup [natV i,natV j]) hkp
   have hkey : (upd H2 kp (.tup [natV i,natV j])) kp = some (.tup ((fkey i j).map kV)):=by rw [upd_same]; rfl
   have sA:=s12.trans s3
   refine ⟨_,_,rfl,DPut.t (sA _ _ hpf) hkey (Nat.lt_of_le_of_lt fk.len (by decide)),k _ fp (deed_flow hh sA ha hpf (by omega) (by omega) (Dn.same sA _ dv) o1)⟩
theorem okm_Hold_put_sky (T : Txt K mg Ad) : MDef P w K mg base Ad.Hold "put_sky" 6 ["self","room","share","low","high"] [] (sp_put_sky K Ad.Hold):=by
 refine T.e_Hold_put_sky.mdef sc_Hold_put_sky (fun vs H Q E h => ?_) (fun _ _ _ _ _ _ us hl => match us,hl with | [_,_,_,_,_],_ => rfl) (fun f _ _ _ s H vs Q E hr h => ?_)
 · obtain ⟨a,fp,m,i,v1,v2,v3,f,lo,hi,rfl,_⟩:=h
   rfl
 · obtain ⟨a,fp,m,i,v1,v2,v3,f,lo,hi,rfl,hh,hr1,d1,d2,d3,o1,o2,o3,hlh,hf,hu,k⟩:=h
   refine ⟨_,(pss_cons (ps_expr (pe_methD (pv 0) T.cl_Hold (okm_Hold_look_for T) .nil (hr.mono (by decide)) (pa_cons (pv 1) pa_nil)))
     (pss_cons (ps_if (pt_val (pe_callD (ok_under T) (hr.mono (by decide)) (pa_cons (pv 4) (pa_cons (pv 3) pa_nil)))) (pss_one ps_never) pss_nil)
     (pss_cons (ps_expr (pe_methD (pv 0) T.cl_Hold (okm_Hold_look_at_share T) .nil (hr.mono (by decide)) (pa_cons (pv 1) (pa_cons (pv 2) (pa_cons (pe_ix ix_any (pe_ix ix_any (pe_fld (pv 0) rfl) (pv 1) (fun _ _ => rfl)) pe_int (fun _ _ => rfl)) pa_nil)))))
     (pss_one (ps_asg (pe_tup (pa_cons (pv 2) (pa_cons (pv 3) (pa_cons (pv 4) pa_nil)))) (pg_sub (pe_fld (pv 0) rfl) (pv 1) set_list)))))),?_⟩
   obtain ⟨⟨dx,pm,pf,ps,pt,vm,vs,vt,kvs,efp,ha,hdx,hpm,hpf,hps,hpt,n1,n2,n3,dm,ds,dt,df,fk⟩,q1,q2,q3,q4⟩:=id hh
   obtain ⟨p2,rfl,hp2⟩:=d2.fr
   obtain ⟨p3,rfl,hp3⟩:=d3.fr
   have hi1 : i < m.skies.length:=by rw [q1]; exact hr1
   have hz:=get_nat hi1
   obtain ⟨v,ev,dv⟩:=ds.get (i:=i) (d:=skyD m.skies[i]) (by rw [List.getElem?_map,hz]; rfl)
   obtain ⟨p0,w1,w2,w3,rfl,hq0,e1,e2,e3⟩:=dv.sky
   have es : m.skies[i].1 = m.skyS i:=by unfold HoldM.skyS; rw [hz]; rfl
   rw [es] at e1
   refine ⟨_,rfl,a,dx,_,rfl,ha,rfl,_,rfl,a,fp,m,i,rfl,hh,hr1,?_⟩
   refine ⟨_,rfl,_,rfl,p3,p2,_,_,_,_,rfl,hp3,hp2,o3.t.mono (by decide),o3.b.mono (by decide),o2.t.mono (by decide),o2.b.mono (by decide),_,rfl,iteN (of_decide_eq_false hlh) ?_⟩
   refine ⟨_,rfl,a,dx,_,rfl,ha,rfl,_,rfl,_,rfl,_,rfl,a,_,dx,_,_,rfl,ha,T.cl_Hold,T.na_Hold_skies,hfs_skies ..,_,rfl,_,_,_,_,rfl,rfl,.inl (SqL.of hps),atI_natI ev,_,_,_,_,rfl,rfl,.inr hq0,rfl,?_⟩
   refine ⟨a,fp,m,i,v1,w1,f,_,rfl,hh,hr1,d1,e1,o1,q4.skyS i,hf,hu,fun H2 s2 => ?_⟩
   refine ⟨_,rfl,_,rfl,_,rfl,sz3,fun kp hkp => ?_⟩
   have s3:=same_upd (o:=.tup [v1,.ref p2,.ref p3]) hkp
   have sA:=s2.trans s3
   have hl : vs.length = m.skies.length:=by rw [ds.length,List.length_map]
   refine ⟨_,rfl,a,_,dx,_,_,rfl,sA _ _ ha,T.cl_Hold,T.na_Hold_skies,hfs_skies ..,_,rfl,ps,vs,_,i,rfl,rfl,sA _ _ hps,ixN_nat (by omega),k _ fp (deed_sky hh sA ha hps (dn_sky (SqT.of upd_same) (Dn.same sA _ d1) (Dn.same sA _ d2) (Dn.same sA _ d3)) ⟨o1,o2,o3⟩)⟩
theorem bo_Hold_put_stove (T : Txt K mg Ad) : MOk P w K mg base Ad.Hold "put_stove" "Hold.put_stove" s_Hold_put_stove (.ref Ad.T_Hold_put_stove) 4 ["self","room","heat","wood","stay","fails"] (sp_put_stove K Ad.Hold):=by
 refine T.e_Hold_put_stove.mok sc_Hold_put_stove (fun vs H Q E h => ?_) (fun f _ _ _ s H vs Q E hr h => ?_)
 · obtain ⟨a,fp,m,i,v,f,w1,st,fl,rfl,_⟩:=h
   rfl
 · obtain ⟨a,fp,m,i,v,f,w1,st,fl,rfl,hh,hi,dv,o1,hf,hw,hst,hfl,k⟩:=h
   refine ⟨_,(pss_cons (ps_expr (pe_methD (pv 0) T.cl_Hold (okm_Hold_look_for T) .nil (hr.mono (by decide)) (pa_cons (pv 1) pa_nil)))
     (pss_cons (ps_if (pt_val (pe_callD (ok_under T) (hr.mono (by decide)) (pa_cons (pv 2) (pa_cons (pe_glob (v:=V.ref _) rfl T.m_NOUGHT rfl) pa_nil)))) (pss_one ps_never) pss_nil)
     (pss_cons (ps_if (pt_not (pt_val (pe_callD (ok_is_whole_upto T) (hr.mono (by decide)) (pa_cons (pv 3) (pa_cons (pe_globI rfl T.m_MOST_WOOD) pa_nil))))) (pss_one ps_never) pss_nil)
     (pss_cons (ps_if (pt_not (pt_val (pe_callD (ok_is_whole_upto T) (hr.mono (by decide)) (pa_cons (pv 4) (pa_cons (pe_globI rfl T.m_MOST_STAY) pa_nil))))) (pss_one ps_never) pss_nil)
     (pss_cons (ps_if (pt_not (pt_val (pe_callD (ok_is_whole_upto T) (hr.mono (by decide)) (pa_cons (pv 5) (pa_cons (pe_globI rfl T.m_MOST_FAILS) pa_nil))))) (pss_one ps_never) pss_nil)
     (pss_one (ps_asg (pe_tup (pa_cons (pv 2) (pa_cons (pv 3) (pa_cons (pv 4) (pa_cons (pv 5) pa_nil))))) (pg_sub (pe_fld (pv 0) rfl) (pv 1) set_list)))))))),?_⟩
   obtain ⟨⟨dx,pm,pf,ps,pt,vm,vs,vt,kvs,efp,ha,hdx,hpm,hpf,hps,hpt,n1,n2,n3,dm,ds,dt,df,fk⟩,q1,q2,q3,q4⟩:=id hh
   obtain ⟨p,rfl,hp⟩:=dv.fr
   refine ⟨_,rfl,a,dx,_,rfl,ha,rfl,_,rfl,a,fp,m,i,rfl,hh,hi,?_⟩
   refine ⟨_,rfl,p,Ad.NOUGHT,_,_,_,_,rfl,hp,T.q_NOUGHT.at _,o1.t.mono (by decide),o1.b.mono (by decide),bdd,bdd,_,rfl,iteN (by omega) ?_⟩
   refine ⟨_,rfl,w1,9,rfl,_,rfl,iteNS hw ⟨_,rfl,st,3,rfl,_,rfl,iteNS hst ⟨_,rfl,fl,3,rfl,_,rfl,iteNS hfl ?_⟩⟩⟩
   refine ⟨_,rfl,_,rfl,_,rfl,_,rfl,sz4,fun kp hkp => ?_⟩
   have sA:=same_upd (o:=.tup [.ref p,.int w1,.int st,.int fl]) hkp
   have hl : vt.length = m.stoves.length:=by rw [dt.length,List.length_map]
   exact ⟨_,rfl,a,_,dx,_,_,rfl,sA _ _ ha,T.cl_Hold,T.na_Hold_stoves,hfs_stoves ..,_,rfl,pt,vt,_,i,rfl,rfl,sA _ _ hpt,ixN_nat (by omega),k _ fp (deed_stove (z:=(f,w1,st,fl)) hh sA ha hpt (dn_tup (SqT.of upd_same) (dn_cons (Dn.same sA _ dv) (dn_cons rfl (dn_cons rfl (dn_cons rfl dn_nil))))) o1)⟩
theorem okm_Hold_put_stove_0 (T : Txt K mg Ad) : MDefE P w K mg base Ad.Hold "put_stove" 4 ["self","room","heat","wood","stay","fails"] [] (sp_put_stove K Ad.Hold) :=
 (bo_Hold_put_stove T).mdef T.t_Hold_put_stove fun items hv => by
   obtain ⟨u1,u2,u3,rfl,r1,r2,r3⟩:=vals3 hv
   exact ⟨[],.nil,fun _ _ _ _ _ _ us hl => match us,hl with | [_,_,_,_,_,_],_ => ⟨_,rfl,rfl⟩⟩
theorem ok_bands_together (T : Txt K mg Ad) : Def P w K mg base "bands_together" 1 ["rows"] (sp_bands K):=by
 refine T.d_bands_together.def sc_bands_together (fun vs H Q E h => ?_) (fun _ _ _ _ _ _ us hl => match us,hl with | [_],_ => rfl) (fun f _ _ _ s H vs Q E hr h => ?_)
 · obtain ⟨p,xs,rs,rfl,_⟩:=h
   rfl
 · obtain ⟨p,xs,rs,rfl,hq,hd,hl,hr2,k⟩:=h
   refine ⟨_,(pss_cons (ps_set (i:=1) sc_bands_together.nd rfl (by first | exact Or.inl rfl | exact Or.inr rfl) pe_int)
     (pss_cons (ps_for PassesOwn.never rfl (pi_list (pv 0)) (pg_name (i:=2) sc_bands_together.nd rfl (by first | exact Or.inl rfl | exact Or.inr rfl)) (pss_one (ps_set (i:=1) sc_bands_together.nd rfl (by first | exact Or.inl rfl | exact Or.inr rfl) (pe_op op_mulL (pv 1) (pe_op op_subL (pe_callB call_lenL (by rfl) T.n_len bt_len (pa_cons (pv 2) pa_nil)) pe_int)))))
     (pss_one (ps_ret (pv 1))))),?_⟩
   have hxl : xs.length = rs.length:=by rw [hd.length,List.length_map]
   refine ⟨_,rfl,p,rfl,⟨xs,hq⟩,?_⟩
   refine for_list (xs:=xs) (fun i σ H' => H' = H∧∃ x : Option V,Bd (1 + 3 * i) (bandsM (rs.take i))∧σ = [some (.ref p),some (.int (bandsM (rs.take i))),x]) ⟨rfl,none,(by show Bd 1 (bandsM []); exact bdd),rfl⟩ (fun i σ H' _ e => by rw [e.1]; exact hq) ?_ ?_
   · rintro i x σ H' hx ⟨rfl,y,hb,rfl⟩
     have hi : i < rs.length:=by rw [← hxl]; exact (List.getElem?_eq_some_iff.mp hx).1
     obtain ⟨v,ev,b,ys,rfl,hq2,dv⟩:=hd.get (i:=i) (d:=rowD rs[i]) (by rw [List.getElem?_map,get_nat hi]; rfl)
     obtain rfl : x = .ref b:=Option.some.inj (hx.symm.trans ev)
     have hlen:=hr2 rs[i] (List.getElem_mem hi)
     have el : ys.length = rs[i].length:=by rw [dv.length,List.length_map]
     refine ⟨_,rfl,_,rfl,_,_,rfl,.inr hq2,fun n en => ⟨_,_,rfl,rfl,fun u eu => ⟨_,_,rfl,rfl,?_,fun z ez => ?_⟩⟩⟩
     · exact ⟨_,3,hb,(show u.natAbs < 2 ^ 3 by omega),(show 1 + 3 * i + 3 ≤ _ by omega)⟩
     · have e1 : z = bandsM (rs.take (i + 1)):=by
         rw [ez,eu,en,el]
         unfold bandsM
         rw [List.take_succ,get_nat hi,List.foldl_append]; rfl
       refine ⟨rfl,_,?_,by rw [← e1]; rfl⟩
       rw [← e1,ez]
       exact (hb.mul (show u.natAbs < 2 ^ 3 by omega)).mono (by omega)
   · rintro σ H' ⟨rfl,y,hb,rfl⟩
     refine ⟨_,rfl,?_⟩
     rw [hxl,List.take_length]
     exact k
theorem ok_is_rising (T : Txt K mg Ad) : Def P w K mg base "is_rising" 2 ["marks"] (sp_rising K):=by
 refine T.d_is_rising.def sc_is_rising (fun vs H Q E h => ?_) (fun _ _ _ _ _ _ us hl => match us,hl with | [_],_ => rfl) (fun f _ _ _ s H vs Q E hr h => ?_)
 · obtain ⟨p,xs,r,rfl,_⟩:=h
   rfl
 · obtain ⟨p,xs,r,rfl,hq,hd,ho,hl,k⟩:=h
   refine ⟨_,(pss_one (ps_ret (pe_callB (call_allB rfl) (by rfl) T.n_all bt_all (pa_cons (pe_lc ["low","high"] [] [] .nil rfl (pi_zip rfl T.n_zip (pa_cons (pv 0) (pa_cons (pe_slice sl_list (pv 0) (po_some pe_int) po_none) pa_nil))) (fun _ _ _ _ _ => (pg_tupK (K:=K) (n:=2) rfl rfl (pgs_cons (pg_name (i:=0) (show (["low","high"] : List Str).Nodup by decide +kernel) rfl (by first | exact Or.inl rfl | exact Or.inr rfl)) (pgs_cons (pg_name (i:=1) (show (["low","high"] : List Str).Nodup by decide +kernel) rfl (by first | exact Or.inl rfl | exact Or.inr rfl)) pgs_nil)))) (fun _ _ _ _ _ => pif_nil) (fun _ _ _ _ _ => (pe_callD (ok_under T) (hr.mono (by decide)) (pa_cons (pv 0) (pa_cons (pv 1) pa_nil)))) rfl (by decide +kernel) (by decide +kernel) (by decide +kernel)) pa_nil)))),?_⟩
   refine ⟨_,rfl,_,rfl,1,rfl,p,xs,rfl,hq,fun p2 hp2 => ?_⟩
   have s2:=same_upd (o:=.lst (cutV xs (some 1) none)) hp2
   rw [cut_tail] at s2 ⊢
   have hxl : xs.length = r.length:=by rw [hd.length,List.length_map]
   refine ⟨p,p2,rfl,⟨xs,s2.seq hq⟩,⟨xs.tail,SqL.of upd_same⟩,fun D hD => ?_⟩
   have hml : min xs.length xs.tail.length = (List.zipWith underM r r.tail).length:=by rw [List.length_zipWith,List.length_tail,List.length_tail,hxl]
   refine comp_zip (K:=K) (a:=p) (b:=p2) (xs:=xs) (ys:=xs.tail) (fun i acc σ H' => Same (upd H p2 (.lst xs.tail)) H'∧H' D = some (.lst acc)∧acc = ((List.zipWith underM r r.tail).take i).map V.bl∧∃ v0 v1,σ = [v0,v1])
     ⟨same_upd hD,upd_same,rfl,none,none,rfl⟩ (fun i acc σ H' _ e => ⟨e.1.seq (s2.seq hq),e.1.seq (SqL.of upd_same)⟩) ?_ ?_
   · rintro i x y pp acc σ H' hx hy hpp ⟨s3,hD3,rfl,v0,v1,rfl⟩
     rw [List.getElem?_tail] at hy
     have h1 : i + 1 < r.length:=by rw [← hxl]; exact (List.getElem?_eq_some_iff.mp hy).1
     obtain ⟨u,eu,du⟩:=hd.get (i:=i) (d:=frD r[i]) (by rw [List.getElem?_map,get_nat (by omega)]; rfl)
     obtain rfl : x = u:=Option.some.inj (hx.symm.trans eu)
     obtain ⟨v,ev,dv⟩:=hd.get (i:=i + 1) (d:=frD r[i + 1]) (by rw [List.getElem?_map,get_nat h1]; rfl)
     obtain rfl : y = v:=Option.some.inj (hy.symm.trans ev)
     obtain ⟨a1,rfl,g1⟩:=du.fr
     obtain ⟨a2,rfl,g2⟩:=dv.fr
     have o1:=ho r[i] (List.getElem_mem _)
     have o2:=ho r[i + 1] (List.getElem_mem _)
     have s4 : Same H' (upd H' pp (.tup [.ref a1,.ref a2])):=same_upd hpp
     have s5:=s2.trans (s3.trans s4)
     have nD : D ≠ pp:=ne_of_none hD3 hpp
     refine ⟨pp,_,rfl,SqT.of upd_same,rfl,_,_,rfl,_,_,rfl,rfl,?_⟩
     refine ⟨_,rfl,_,rfl,a1,a2,_,_,_,_,rfl,s5.tup g1,s5.tup g2,o1.t.mono (by decide),o1.b.mono (by decide),o2.t.mono (by decide),o2.b.mono (by decide),?_⟩
     have hb:=rising_get (get_nat (show i < r.length by omega)) (get_nat h1)
     refine ⟨by rw [upd_ne nD]; exact hD3,?_,Same.put (s3.trans s4) hD,upd_same,?_,_,_,rfl⟩
     · rw [List.length_map,List.length_take]
       have : (7 : Nat) < sizeLine:=by decide
       rw [← hml]
       omega
     · rw [List.take_succ,hb,List.map_append]
       rfl
   · rintro acc σ H' ⟨s3,hD3,rfl,v0,v1,rfl⟩
     rw [hml,List.take_length] at hD3
     exact ⟨D,_,rfl,SqL.of hD3,k _ (s2.trans s3)⟩
theorem okm_Hold_put_room (T : Txt K mg Ad) : MDef P w K mg base Ad.Hold "put_room" 3 ["self","marks"] [] (sp_put_room K Ad.Hold):=by
 refine T.e_Hold_put_room.mdef sc_Hold_put_room (fun vs H Q E h => ?_) (fun _ _ _ _ _ _ us hl => match us,hl with | [_,_],_ => rfl) (fun f _ _ _ s H vs Q E hr h => ?_)
 · obtain ⟨a,fp,m,p,xs,r,rfl,_⟩:=h
   rfl
 · obtain ⟨a,fp,m,p,xs,r,rfl,hh,h4,hq,hd,ho,hl2,hl7,hrise,hb,k⟩:=h
   refine ⟨_,(pss_cons (ps_if (pt_cmpR op_ge (pe_methD0 (pv 0) T.cl_Hold (okm_Hold_many T) .nil (hr.mono (by decide))) (pe_globI rfl T.m_MOST_ROOMS) (nomark _)) (pss_one ps_never) pss_nil)
     (pss_cons (ps_if (pt_not (pt_chain op_le op_le (pe_globI rfl T.m_LEAST_MARKS) (pe_callB call_lenL (by rfl) T.n_len bt_len (pa_cons (pv 1) pa_nil)) (pe_globI rfl T.m_MOST_MARKS))) (pss_one ps_never) pss_nil)
     (pss_cons (ps_if (pt_not (pt_val (pe_callD (ok_is_rising T) (hr.mono (by decide)) (pa_cons (pv 1) pa_nil)))) (pss_one ps_never) pss_nil)
     (pss_cons (ps_set (i:=2) sc_Hold_put_room.nd rfl (by first | exact Or.inl rfl | exact Or.inr rfl) (pe_op op_cat (pe_fld (pv 0) rfl) (pe_lst (pa_cons (pe_callTy call_tuple_of (by rfl) T.n_tuple bt_tuple (pa_cons (pv 1) pa_nil)) pa_nil))))
     (pss_cons (ps_if (pt_cmpR op_gt (pe_callD (ok_bands_together T) (hr.mono (by decide)) (pa_cons (pv 2) pa_nil)) (pe_globI rfl T.m_MOST_BANDS) (nomark _)) (pss_one ps_never) pss_nil)
     (pss_cons (ps_fld (pv 0) (pv 2) rfl)
     (pss_cons (ps_expr (pe_bm PySem.F.plainAttrs_list PySem.F.slot_list_append PySem.F.type_list_append mt_append (pe_fld (pv 0) rfl) (pa_cons (pe_tup (pa_cons (pe_glob (v:=V.ref _) rfl T.m_NOUGHT rfl) (pa_cons (pe_glob (v:=V.ref _) rfl T.m_NOUGHT rfl) (pa_cons (pe_glob (v:=V.ref _) rfl T.m_NOUGHT rfl) pa_nil)))) pa_nil)))
     (pss_cons (ps_expr (pe_bm PySem.F.plainAttrs_list PySem.F.slot_list_append PySem.F.type_list_append mt_append (pe_fld (pv 0) rfl) (pa_cons pe_non pa_nil)))
     (pss_one (ps_ret (pe_op op_subL (pe_methD0 (pv 0) T.cl_Hold (okm_Hold_many T) .nil (hr.mono (by decide))) pe_int))))))))))),?_⟩
   obtain ⟨⟨dx,pm,pf,ps,pt,vm,vs,vt,kvs,efp,ha,hdx,hpm,hpf,hps,hpt,n1,n2,n3,dm,ds,dt,df,fk⟩,q1,q2,q3,q4⟩:=id hh
   have hxl : xs.length = r.length:=by rw [hd.length,List.length_map]
   have lm : vm.length = m.rows.length:=by rw [dm.length,List.length_map]
   have ls : vs.length = m.skies.length:=by rw [ds.length,List.length_map]
   have lt : vt.length = m.stoves.length:=by rw [dt.length,List.length_map]
   have szl : (7 : Nat) < sizeLine:=by decide
   refine ⟨_,rfl,a,dx,_,rfl,ha,rfl,a,fp,m,rfl,hh,_,_,rfl,rfl,_,rfl,iteN (by omega) ?_⟩
   refine ⟨_,rfl,_,_,rfl,.inl hq,fun n en => ⟨_,_,rfl,rfl,_,rfl,iteP (by omega) ⟨_,_,rfl,rfl,_,rfl,iteNS (by omega) ?_⟩⟩⟩
   refine ⟨_,rfl,p,xs,r,rfl,hq,hd,ho,hl7,fun H1 s1 => ⟨_,rfl,?_⟩⟩
   rw [hrise]
   refine iteF ?_
   refine ⟨_,rfl,a,_,dx,_,_,rfl,s1 _ _ ha,T.cl_Hold,T.na_Hold_mark_rows,hfs_rows ..,_,rfl,p,xs,rfl,.inl ⟨s1.seq hq,fun kt hkt => ⟨sz1,fun kl hkl => ?_⟩⟩⟩
   have s2:=s1.trans (same_upd (o:=.tup xs) hkt)
   have s3:=s2.trans (same_upd (o:=.lst [.ref kt]) hkl)
   refine ⟨pm,kl,vm,[.ref kt],rfl,rfl,s3 _ _ hpm,upd_same,by rw [List.length_singleton]; omega,fun p3 hp3 => ?_⟩
   have s3' : Same (upd H1 kt (.tup xs)) _:=(same_upd (o:=.lst [.ref kt]) hkl).trans (same_upd (o:=.lst (vm ++ [.ref kt])) hp3)
   have s4:=s3.trans (same_upd (o:=.lst (vm ++ [.ref kt])) hp3)
   have dr : Dn K (upd (upd (upd H1 kt (.tup xs)) kl (.lst [.ref kt])) p3 (.lst (vm ++ [.ref kt]))) (rowD r) (.ref kt):=dn_tup (SqT.of (s3' _ _ upd_same)) (DnA.same s4 _ hd)
   refine ⟨_,rfl,p3,_,m.rows ++ [r],rfl,SqL.of upd_same,?_,by rw [List.length_append,List.length_singleton]; omega,?_,_,_,rfl,rfl,_,rfl,iteN (by omega) ?_⟩
   · rw [List.map_append]
     exact (DnA.same s4 _ dm).snoc dr
   · intro x hx
     rcases List.mem_append.mp hx with h | h
     · have:=q4.len x h; omega
     · rw [List.mem_singleton.mp h]; omega
   refine ⟨_,rfl,_,rfl,a,_,dx,_,rfl,s4 _ _ ha,T.cl_Hold,T.na_Hold_mark_rows,lt1000 rfl,?_⟩
   have hn3 : H p3 = none:=s3.free hp3
   have x3a : p3 ≠ a:=(ne_of_none ha hn3).symm
   refine ⟨_,rfl,a,_,dx,_,_,rfl,upd_same,T.cl_Hold,T.na_Hold_skies,hfs_skies ..,?_⟩
   have aps:=ne_obj hps ha nofun
   have apt:=ne_obj hpt ha nofun
   have g1:=(upd_ne (H:=upd (upd (upd H1 kt (.tup xs)) kl (.lst [.ref kt])) p3 (.lst (vm ++ [.ref kt]))) (o:=.ins Ad.Hold dx (putF "mark_rows" (.ref p3) (hfs m pm pf ps pt))) aps).trans (s4 _ _ hps)
   have g2:=(upd_ne (H:=upd (upd (upd H1 kt (.tup xs)) kl (.lst [.ref kt])) p3 (.lst (vm ++ [.ref kt]))) (o:=.ins Ad.Hold dx (putF "mark_rows" (.ref p3) (hfs m pm pf ps pt))) apt).trans (s4 _ _ hpt)
   refine ⟨.inl ⟨rfl,vs,SqL.of g1⟩,sz3,fun q0 hq0 => ?_⟩
   have s5:=same_upd (o:=.tup [.ref Ad.NOUGHT,.ref Ad.NOUGHT,.ref Ad.NOUGHT]) hq0
   refine ⟨ps,vs,_,rfl,rfl,s5 _ _ g1,by omega,?_⟩
   have g3:=(upd_ne (o:=.lst (vs ++ [.ref q0])) n3.symm).trans (s5 _ _ g2)
   have g4:=(upd_ne (o:=.lst (vs ++ [.ref q0])) aps.symm).trans (s5 _ _ upd_same)
   refine ⟨_,rfl,a,_,dx,_,_,rfl,g4,T.cl_Hold,T.na_Hold_stoves,hfs_stoves ..,.inl ⟨rfl,vt,SqL.of g3⟩,pt,vt,_,rfl,rfl,g3,by omega,?_⟩
   obtain ⟨fp',D⟩:=deed_room (N:=Ad.NOUGHT) (r:=r) hh s4 ha hpm hps hpt hn3 upd_same dr h4 ho ⟨hl2,hl7⟩ (fun H' => T.q_NOUGHT.fr (f:=(0,1))) hq0
   obtain ⟨⟨dx',pm',pf',ps',pt',_,_,_,_,_,ha5,_⟩,_⟩:=id D.at_
   refine ⟨_,rfl,a,dx',_,rfl,ha5,rfl,a,fp',_,rfl,D.at_,_,_,rfl,rfl,fun z ez => ?_⟩
   have e : z = (m.rows.length : Int):=by
     rw [ez]
     show (((m.rows ++ [r]).length : Nat) : Int) - 1 = _
     rw [List.length_append,List.length_singleton]; omega
   rw [e]
   exact k _ fp' D
theorem bo_Hold___init__ (T : Txt K mg Ad) : MOk P w K mg base Ad.Hold "__init__" "Hold.__init__" s_Hold___init__ (.ref Ad.T_Hold___init__) 2 ["self","most","cap","load"] (sp_init K Ad.Hold):=by
 refine T.e_Hold___init__.mok sc_Hold___init__ (fun vs H Q E h => ?_) (fun f _ _ _ s H vs Q E hr h => ?_)
 · obtain ⟨x,dx,most,cap,load,rfl,_⟩:=h
   rfl
 · obtain ⟨x,dx,most,cap,load,rfl,hx,hdx,hm,hc,hl,k⟩:=h
   refine ⟨_,(pss_cons (ps_if (pt_not (pt_val (pe_callD (ok_is_whole_upto T) (hr.mono (by decide)) (pa_cons (pv 1) (pa_cons (pe_globI rfl T.m_MOST_BURNING) pa_nil))))) (pss_one ps_never) pss_nil)
     (pss_cons (ps_if (pt_not (pt_val (pe_callD (ok_is_whole_upto T) (hr.mono (by decide)) (pa_cons (pv 2) (pa_cons (pe_globI rfl T.m_MOST_CAP) pa_nil))))) (pss_one ps_never) pss_nil)
     (pss_cons (ps_if (pt_not (pt_val (pe_callD (ok_is_whole_upto T) (hr.mono (by decide)) (pa_cons (pv 3) (pa_cons (pe_globI rfl T.m_MOST_LOAD) pa_nil))))) (pss_one ps_never) pss_nil)
     (pss_cons (ps_fld (pv 0) (pv 1) rfl)
     (pss_cons (ps_fld (pv 0) (pv 2) rfl)
     (pss_cons (ps_fld (pv 0) (pv 3) rfl)
     (pss_cons (ps_fld (pv 0) (pe_lst pa_nil) rfl)
     (pss_cons (ps_fld (pv 0) pe_dnewT rfl)
     (pss_cons (ps_fld (pv 0) (pe_lst pa_nil) rfl)
     (pss_one (ps_fld (pv 0) (pe_lst pa_nil) rfl))))))))))),?_⟩
   refine ⟨_,rfl,most,4,rfl,_,rfl,iteNS hm ⟨_,rfl,cap,30,rfl,_,rfl,iteNS hc ⟨_,rfl,load,30,rfl,_,rfl,iteNS hl ?_⟩⟩⟩
   have B0 : ButX K Ad.Hold x dx H H []:=.start hx
   refine ⟨_,rfl,_,rfl,x,_,dx,_,rfl,B0.at_,T.cl_Hold,T.na_Hold_most,lt1000 rfl,?_⟩
   have B1:=B0.put (fs':=putF "most" (.int most) [])
   refine ⟨_,rfl,_,rfl,x,_,dx,_,rfl,B1.at_,T.cl_Hold,T.na_Hold_cap,lt1000 rfl,?_⟩
   have B2:=B1.put (fs':=putF "cap" (.int cap) (putF "most" (.int most) []))
   refine ⟨_,rfl,_,rfl,x,_,dx,_,rfl,B2.at_,T.cl_Hold,T.na_Hold_load,lt1000 rfl,?_⟩
   have B3:=B2.put (fs':=putF "load" (.int load) (putF "cap" (.int cap) (putF "most" (.int most) [])))
   refine ⟨Nat.zero_le _,fun p1 f1 => ?_⟩
   have B4:=B3.new (o:=.lst []) f1
   refine ⟨_,rfl,x,_,dx,_,rfl,B4.at_,T.cl_Hold,T.na_Hold_mark_rows,lt1000 rfl,fun p2 f2 => ?_⟩
   have B5:=B4.put (fs':=putF "mark_rows" (.ref p1) (putF "load" (.int load) (putF "cap" (.int cap) (putF "most" (.int most) []))))
   have B6:=B5.new (o:=.dT []) f2
   refine ⟨_,rfl,x,_,dx,_,rfl,B6.at_,T.cl_Hold,T.na_Hold_flows,lt1000 rfl,Nat.zero_le _,fun p3 f3 => ?_⟩
   have B7:=B6.put (fs':=putF "flows" (.ref p2) (putF "mark_rows" (.ref p1) (putF "load" (.int load) (putF "cap" (.int cap) (putF "most" (.int most) [])))))
   have B8:=B7.new (o:=.lst []) f3
   refine ⟨_,rfl,x,_,dx,_,rfl,B8.at_,T.cl_Hold,T.na_Hold_skies,lt1000 rfl,Nat.zero_le _,fun p4 f4 => ?_⟩
   have B9:=B8.put (fs':=putF "skies" (.ref p3) (putF "flows" (.ref p2) (putF "mark_rows" (.ref p1) (putF "load" (.int load) (putF "cap" (.int cap) (putF "most" (.int most) []))))))
   have B10:=B9.new (o:=.lst []) f4
   refine ⟨_,rfl,x,_,dx,_,rfl,B10.at_,T.cl_Hold,T.na_Hold_stoves,lt1000 rfl,?_⟩
   have B11:=B10.put (fs':=hfs (HoldM.new most cap load) p1 p2 p3 p4)
   have h1:=B4.keep (u:=.ins Ad.Hold dx (putF "mark_rows" (.ref p1) (putF "load" (.int load) (putF "cap" (.int cap) (putF "most" (.int most) []))))) upd_same (B3.ne f1)
   have h1a:=B6.keep (u:=.ins Ad.Hold dx (putF "flows" (.ref p2) (putF "mark_rows" (.ref p1) (putF "load" (.int load) (putF "cap" (.int cap) (putF "most" (.int most) [])))))) (same_upd (o:=.dT []) f2 _ _ h1) (B3.ne f1)
   have h2a:=B6.keep (u:=.ins Ad.Hold dx (putF "flows" (.ref p2) (putF "mark_rows" (.ref p1) (putF "load" (.int load) (putF "cap" (.int cap) (putF "most" (.int most) [])))))) upd_same (B5.ne f2)
   have kk:=fun b o (h : _ = some o) (n : b ≠ x) => B8.keep (b:=b) (u:=.ins Ad.Hold dx (putF "skies" (.ref p3) (putF "flows" (.ref p2) (putF "mark_rows" (.ref p1) (putF "load" (.int load) (putF "cap" (.int cap) (putF "most" (.int most) []))))))) h n
   have h1b:=kk _ _ (same_upd (o:=.lst []) f3 _ _ h1a) (B3.ne f1)
   have h2b:=kk _ _ (same_upd (o:=.lst []) f3 _ _ h2a) (B5.ne f2)
   have h3b:=kk _ _ upd_same (B7.ne f3)
   have kl:=fun b o (h : _ = some o) (n : b ≠ x) => B10.keep (b:=b) (u:=.ins Ad.Hold dx (hfs (HoldM.new most cap load) p1 p2 p3 p4)) h n
   have h1c:=kl _ _ (same_upd (o:=.lst []) f4 _ _ h1b) (B3.ne f1)
   have h2c:=kl _ _ (same_upd (o:=.lst []) f4 _ _ h2b) (B5.ne f2)
   have h3c:=kl _ _ (same_upd (o:=.lst []) f4 _ _ h3b) (B7.ne f3)
   have h4c:=kl _ _ upd_same (B9.ne f4)
   exact k _ _ (deed_new B11 hx hdx h1c h2c h3c h4c (B3.none f1) (B5.none f2) (B7.none f3) (B9.none f4) (ne_of_none h1a f3) (ne_of_none h1b f4) (ne_of_none h3b f4))
theorem okm_Hold___init___0 (T : Txt K mg Ad) : MDefE P w K mg base Ad.Hold "__init__" 2 ["self","most","cap","load"] [] (sp_init K Ad.Hold) :=
 (bo_Hold___init__ T).mdef T.t_Hold___init__ fun items hv => by
   obtain ⟨u1,u2,u3,rfl,r1,r2,r3⟩:=vals3 hv
   exact ⟨[],.nil,fun _ _ _ _ _ _ us hl => match us,hl with | [_,_,_,_],_ => ⟨_,rfl,rfl⟩⟩
theorem bo_hold_like (T : Txt K mg Ad) : DOk P w K mg base "hold_like" s_hold_like (.ref Ad.T_hold_like) 4 ["hold","most","cap","load"] (sp_like K Ad.Hold):=by
 refine T.d_hold_like.dok sc_hold_like (fun vs H Q E h => ?_) (fun f _ _ _ s H vs Q E hr h => ?_)
 · obtain ⟨a,fp,m,x,y,z,rfl,_⟩:=h
   rfl
 · obtain ⟨a,fp,m,o1,o2,o3,rfl,hh,hb,k⟩:=h
   refine ⟨_,(pss_cons (ps_set (i:=4) sc_hold_like.nd rfl (by first | exact Or.inl rfl | exact Or.inr rfl) (pe_makeE T.mk_Hold (okm_Hold___init___0 T) (hr.mono (by decide)) T.m_Hold (pa_cons (pe_ifExp (pt_cmpR op_isN (pv 1) pe_non (nomark _)) (pe_fld (pv 0) rfl) (pv 1)) (pa_cons (pe_ifExp (pt_cmpR op_isN (pv 2) pe_non (nomark _)) (pe_fld (pv 0) rfl) (pv 2)) (pa_cons (pe_ifExp (pt_cmpR op_isN (pv 3) pe_non (nomark _)) (pe_fld (pv 0) rfl) (pv 3)) pa_nil)))))
     (pss_cons (ps_fld (pv 4) (pe_callTy call_list_of (by rfl) T.n_list bt_list (pa_cons (pe_fld (pv 0) rfl) pa_nil)) rfl)
     (pss_cons (ps_fld (pv 4) (pe_callTy call_dict_ofT (by rfl) T.n_dict bt_dict (pa_cons (pe_fld (pv 0) rfl) pa_nil)) rfl)
     (pss_cons (ps_fld (pv 4) (pe_callTy call_list_of (by rfl) T.n_list bt_list (pa_cons (pe_fld (pv 0) rfl) pa_nil)) rfl)
     (pss_cons (ps_fld (pv 4) (pe_callTy call_list_of (by rfl) T.n_list bt_list (pa_cons (pe_fld (pv 0) rfl) pa_nil)) rfl)
     (pss_one (ps_ret (pv 4)))))))),?_⟩
   obtain ⟨⟨dxa,pm,pf,ps,pt,vm,vs,vt,kvs,efp,ha,hdx,hpm,hpf,hps,hpt,n1,n2,n3,dm,ds,dt,df,fk⟩,q1,q2,q3,q4⟩:=id hh
   refine if_opt (o:=o1) (d:=m.most) rfl (fun Q' h => ⟨_,rfl,a,_,dxa,_,_,rfl,ha,T.cl_Hold,T.na_Hold_most,hfs_most ..,h⟩) ?_
   refine if_opt (o:=o2) (d:=m.cap) rfl (fun Q' h => ⟨_,rfl,a,_,dxa,_,_,rfl,ha,T.cl_Hold,T.na_Hold_cap,hfs_cap ..,h⟩) ?_
   refine if_opt (o:=o3) (d:=m.load) rfl (fun Q' h => ⟨_,rfl,a,_,dxa,_,_,rfl,ha,T.cl_Hold,T.na_Hold_load,hfs_load ..,h⟩) ?_
   intro x dx fx fdx nxd
   have fx' : upd H dx (.own x) x = none:=by rw [upd_ne nxd.symm]; exact fx
   have s0 : Same H (upd (upd H dx (.own x)) x (.ins Ad.Hold dx [])):=(same_upd fdx).trans (same_upd fx')
   refine ⟨x,dx,_,_,_,rfl,upd_same,by rw [upd_ne nxd]; exact upd_same,hb.1,hb.2.1,hb.2.2,fun H1 fp1 D => ⟨rfl,?_⟩⟩
   have s1 : Same H H1:=fun b o e => D.but b o (s0 b o e) fun q => by
     simp only [List.mem_cons,List.not_mem_nil,or_false] at q
     rcases q with rfl | rfl
     · rw [fx] at e; cases e
     · rw [fdx] at e; cases e
   have hown : ∀ b ∈ fp1,H b = none:=fun b hb => by
     rcases D.own b hb with q | q
     · simp only [List.mem_cons,List.not_mem_nil,or_false] at q
       rcases q with rfl | rfl
       · exact fx
       · exact fdx
     · exact s0.free q
   obtain ⟨⟨dx2,g1,g2,g3,g4,_,_,_,_,efp1,hx1,hdx1,_⟩,_⟩:=D.at_
   have fdx2 : H dx2 = none:=hown dx2 (by rw [efp1]; simp)
   have ndx : dx2 ≠ x:=ne_obj hdx1 hx1 nofun
   have B0 : ButX K Ad.Hold x dx2 H1 H1 (hfs (m.with o1 o2 o3) g1 g2 g3 g4):=.start hx1
   refine ⟨_,rfl,a,_,dxa,_,_,rfl,s1 _ _ ha,T.cl_Hold,T.na_Hold_mark_rows,hfs_rows ..,pm,vm,rfl,.inl (SqL.of (s1 _ _ hpm)),fun l1 f1 => ?_⟩
   have B1:=B0.new (o:=.lst vm) f1
   refine ⟨_,rfl,x,_,dx2,_,rfl,B1.at_,T.cl_Hold,T.na_Hold_mark_rows,lt1000 rfl,?_⟩
   have B2:=B1.put (fs':=hfs (m.with o1 o2 o3) l1 g2 g3 g4)
   have k2 : ∀ b o,H b = some o→_ = some o:=fun b o h => B2.st b o (s1 b o h) (ne_of_none h fx)
   have e1:=B1.keep (u:=.ins Ad.Hold dx2 (hfs (m.with o1 o2 o3) l1 g2 g3 g4)) upd_same (B0.ne f1)
   refine ⟨_,rfl,a,_,dxa,_,_,rfl,k2 _ _ ha,T.cl_Hold,T.na_Hold_flows,hfs_flows ..,pf,kvs,rfl,k2 _ _ hpf,fk.hash,fun l2 f2 => ?_⟩
   have B3:=B2.new (o:=.dT kvs) f2
   refine ⟨_,rfl,x,_,dx2,_,rfl,B3.at_,T.cl_Hold,T.na_Hold_flows,lt1000 rfl,?_⟩
   have B4:=B3.put (fs':=hfs (m.with o1 o2 o3) l1 l2 g3 g4)
   have k4 : ∀ b o,H b = some o→_ = some o:=fun b o h => B4.st b o (s1 b o h) (ne_of_none h fx)
   have kk4:=fun b o (h : _ = some o) (n : b ≠ x) => B3.keep (b:=b) (u:=.ins Ad.Hold dx2 (hfs (m.with o1 o2 o3) l1 l2 g3 g4)) h n
   have e1b:=kk4 _ _ (same_upd (o:=.dT kvs) f2 _ _ e1) (B0.ne f1)
   have e2b:=kk4 _ _ upd_same (B2.ne f2)
   refine ⟨_,rfl,a,_,dxa,_,_,rfl,k4 _ _ ha,T.cl_Hold,T.na_Hold_skies,hfs_skies ..,ps,vs,rfl,.inl (SqL.of (k4 _ _ hps)),fun l3 f3 => ?_⟩
   have B5:=B4.new (o:=.lst vs) f3
   refine ⟨_,rfl,x,_,dx2,_,rfl,B5.at_,T.cl_Hold,T.na_Hold_skies,lt1000 rfl,?_⟩
   have B6:=B5.put (fs':=hfs (m.with o1 o2 o3) l1 l2 l3 g4)
   have k6 : ∀ b o,H b = some o→_ = some o:=fun b o h => B6.st b o (s1 b o h) (ne_of_none h fx)
   have kk6:=fun b o (h : _ = some o) (n : b ≠ x) => B5.keep (b:=b) (u:=.ins Ad.Hold dx2 (hfs (m.with o1 o2 o3) l1 l2 l3 g4)) h n
   have e1c:=kk6 _ _ (same_upd (o:=.lst vs) f3 _ _ e1b) (B0.ne f1)
   have e2c:=kk6 _ _ (same_upd (o:=.lst vs) f3 _ _ e2b) (B2.ne f2)
   have e3c:=kk6 _ _ upd_same (B4.ne f3)
   refine ⟨_,rfl,a,_,dxa,_,_,rfl,k6 _ _ ha,T.cl_Hold,T.na_Hold_stoves,hfs_stoves ..,pt,vt,rfl,.inl (SqL.of (k6 _ _ hpt)),fun l4 f4 => ?_⟩
   have B7:=B6.new (o:=.lst vt) f4
   refine ⟨_,rfl,x,_,dx2,_,rfl,B7.at_,T.cl_Hold,T.na_Hold_stoves,lt1000 rfl,?_⟩
   have B8:=B7.put (fs':=hfs (m.with o1 o2 o3) l1 l2 l3 l4)
   have k8 : ∀ b o,H b = some o→_ = some o:=fun b o h => B8.st b o (s1 b o h) (ne_of_none h fx)
   have kk8:=fun b o (h : _ = some o) (n : b ≠ x) => B7.keep (b:=b) (u:=.ins Ad.Hold dx2 (hfs (m.with o1 o2 o3) l1 l2 l3 l4)) h n
   have e1d:=kk8 _ _ (same_upd (o:=.lst vt) f4 _ _ e1c) (B0.ne f1)
   have e2d:=kk8 _ _ (same_upd (o:=.lst vt) f4 _ _ e2c) (B2.ne f2)
   have e3d:=kk8 _ _ (same_upd (o:=.lst vt) f4 _ _ e3c) (B4.ne f3)
   have e4d:=kk8 _ _ upd_same (B6.ne f4)
   have L:=like_at (m':=m.with o1 o2 o3) hh ha hpm hpf hps hpt s1 ⟨rfl,rfl,rfl,rfl⟩ B8 (B8.st _ _ hdx1 ndx) e1d e2d e3d e4d (ne_of_none e1b f3) (ne_of_none e1c f4) (ne_of_none e3c f4)
   refine ⟨_,rfl,k x _ _ k8 L fun c hc => ?_⟩
   simp only [List.mem_cons,List.not_mem_nil,or_false] at hc
   rcases hc with rfl | rfl | rfl | rfl | rfl | rfl
   · exact fx
   · exact fdx2
   · exact s1.free f1
   · exact s1.free (B2.none f2)
   · exact s1.free (B4.none f3)
   · exact s1.free (B6.none f4)
theorem ok_hold_like_3 (T : Txt K mg Ad) : DefE P w K mg base "hold_like" 4 ["hold","most","cap","load"] [.non,.non,.non] (sp_like K Ad.Hold) :=
 (bo_hold_like T).defE T.t_hold_like fun items hv => by
   obtain ⟨u1,u2,u3,rfl,r1,r2,r3⟩:=vals3 hv
   exact ⟨[u1,u2,u3],.cons r1 (.cons r2 (.cons r3 .nil)),fun _ _ _ _ _ _ us hl => match us,(by simpa using hl : us.length = 1) with | [_],_ => ⟨_,rfl,rfl⟩⟩
theorem ok_law_cell_at (T : Txt K mg Ad) : Def P w K mg base "_law_cell_at" 1 ["_law_script","_law_k"] (sp_cell_at K):=by
 refine T.d_law_cell_at.def sc_law_cell_at (fun vs H Q E h => ?_) (fun _ _ _ _ _ _ us hl => match us,hl with | [_,_],_ => rfl) (fun f _ _ _ s H vs Q E hr h => ?_)
 · obtain ⟨a,ns,z,rfl,_⟩:=h
   rfl
 · obtain ⟨a,ns,z,rfl,hS,hz,k⟩:=h
   refine ⟨_,(pss_cons (ps_if (pt_cmpR op_lt (pv 1) (pe_callB call_lenL (by rfl) T.n_len bt_len (pa_cons (pv 0) pa_nil)) (nomark _)) (pss_one (ps_ret (pe_ix ix_any (pv 0) (pv 1) (fun _ _ => rfl)))) pss_nil)
     (pss_one (ps_ret pe_int))),?_⟩
   refine ⟨_,rfl,_,rfl,_,_,rfl,.inl hS,fun n en => ⟨_,_,rfl,rfl,_,rfl,?_⟩⟩
   rw [List.length_map] at en
   refine ite3 (fun h => ?_) (fun h => ?_)
   · have hl : z.toNat < ns.length:=by omega
     have e : (ns.map V.int)[z.toNat]? = some (.int (ns[z.toNat]'hl)):=by simp [hl]
     have e2:=atI_nat e
     rw [Int.toNat_of_nonneg hz] at e2
     refine ⟨_,rfl,_,rfl,_,_,_,_,rfl,rfl,.inl hS,e2,k _ (.inl (List.getElem_mem hl))⟩
   · exact k 0 (.inr rfl)
theorem ok_law_pick (T : Txt K mg Ad) : Def P w K mg base "_law_pick" 1 ["_law_cell","_law_k","_law_many"] sp_pick:=by
 refine T.d_law_pick.def sc_law_pick (fun vs H Q E h => ?_) (fun _ _ _ _ _ _ us hl => match us,hl with | [_,_,_],_ => rfl) (fun f _ _ _ s H vs Q E hr h => ?_)
 · obtain ⟨c,k,n,rfl,_⟩:=h
   rfl
 · obtain ⟨c,k,n,rfl,k0,k1,n0,kk⟩:=h
   refine ⟨_,(pss_one (ps_ret (pe_op op_modL (pe_op op_modL (pe_op op_mulL (pe_op op_addL (pe_op op_modL (pv 0) pe_int) pe_int) (pe_op op_addL (pe_op op_mulL (pv 1) (pv 1)) pe_int)) pe_int) (pv 2)))),?_⟩
   refine ⟨_,rfl,_,_,rfl,rfl,by decide,fun x1 a1 b1 e1 => ⟨_,_,rfl,rfl,fun x2 e2 => ?_⟩⟩
   refine ⟨_,rfl,_,rfl,_,_,rfl,rfl,⟨10,10,(show k.natAbs < 2 ^ 10 by omega),(show k.natAbs < 2 ^ 10 by omega),by decide⟩,fun x3 e3 => ⟨_,_,rfl,rfl,fun x4 e4 => ?_⟩⟩
   have kk2 : k * k ≤ 1000 * 1000:=Int.mul_le_mul k1 k1 k0 (by decide)
   have kk0 : 0 ≤ k * k:=Int.mul_nonneg k0 k0
   refine ⟨_,_,rfl,rfl,⟨22,22,(show x2.natAbs < 2 ^ 22 by omega),(show x4.natAbs < 2 ^ 22 by omega),by decide⟩,fun x5 e5 => ⟨_,_,rfl,rfl,by decide,fun x6 a6 b6 e6 => ?_⟩⟩
   exact ⟨_,rfl,_,_,rfl,rfl,n0,fun r a b _ => kk r a b⟩
theorem ok_law_ratio (T : Txt K mg Ad) : Def P w K mg base "_law_ratio" 1 ["_law_top","_law_bottom"] sp_ratio:=by
 refine T.d_law_ratio.def sc_law_ratio (fun vs H Q E h => ?_) (fun _ _ _ _ _ _ us hl => match us,hl with | [_,_],_ => rfl) (fun f _ _ _ s H vs Q E hr h => ?_)
 · obtain ⟨a,b,rfl,_⟩:=h
   rfl
 · obtain ⟨t,b,rfl,hb,bb,k⟩:=h
   refine ⟨_,(pss_cons (ps_set (i:=2) sc_law_ratio.nd rfl (by first | exact Or.inl rfl | exact Or.inr rfl) (pe_callB call_absL (by rfl) T.n_abs bt_abs (pa_cons (pv 0) pa_nil)))
     (pss_cons (ps_set (i:=3) sc_law_ratio.nd rfl (by first | exact Or.inl rfl | exact Or.inr rfl) (pv 1))
     (pss_cons (ps_while PassesOwn.never (pt_cmpR op_gt (pv 3) pe_int (nomark _)) (pss_cons (ps_set (i:=4) sc_law_ratio.nd rfl (by first | exact Or.inl rfl | exact Or.inr rfl) (pe_op op_modL (pv 2) (pv 3)))
     (pss_cons (ps_set (i:=2) sc_law_ratio.nd rfl (by first | exact Or.inl rfl | exact Or.inr rfl) (pv 3))
     (pss_one (ps_set (i:=3) sc_law_ratio.nd rfl (by first | exact Or.inl rfl | exact Or.inr rfl) (pv 4))))))
     (pss_one (ps_ret (pe_tup (pa_cons (pe_op op_fdivL (pv 0) (pv 2)) (pa_cons (pe_op op_fdivL (pv 1) (pv 2)) pa_nil)))))))),?_⟩
   refine ⟨_,rfl,_,rfl,fun g0 eg => ⟨_,rfl,?_⟩⟩
   refine ⟨fun m σ H' => H' = H∧∃ (g l : Int) (r : Option V),σ = [some (.int t),some (.int b),some (.int g),some (.int l),r]∧0 ≤ g∧0 ≤ l∧m = l.toNat∧Int.gcd g l = Int.gcd t b,
     ⟨_,rfl,g0,b,none,rfl,by omega,by omega,rfl,by rw [eg]; rfl⟩,?_⟩
   rintro m σ H' ⟨rfl,g,l,r,rfl,hg,hl,rfl,e⟩
   refine ⟨_,rfl,_,_,rfl,rfl,_,rfl,?_⟩
   refine ite3 (fun h => ?_) (fun h => ?_)
   · have l1 : 0 < l:=h
     refine ⟨fun σ' H'' => H'' = H'∧σ' = [some (.int t),some (.int b),some (.int l),some (.int (g % l)),some (.int (g % l))],fun σ' H'' ⟨e1,e2⟩ => ?_,?_⟩
     · have m0:=Int.emod_nonneg g (by omega : l ≠ 0)
       have m1:=Int.emod_lt_of_pos g l1
       exact ⟨(g % l).toNat,by omega,e1,l,g % l,_,e2,hl,m0,rfl,(gstep hg l1).trans e⟩
     · refine ⟨_,rfl,_,rfl,_,_,rfl,rfl,l1,fun r _ _ er => ?_⟩
       subst er
       exact ⟨_,rfl,_,rfl,rfl,rfl⟩
   · have l1 : l = 0:=by omega
     subst l1
     have ec : g = ((Int.gcd t b : Nat) : Int):=by rw [← e,gend hg]
     obtain ⟨c0,cl,fp,fn⟩:=fr_of (by omega : b ≠ 0) ec
     have bc : Bd 8999 g:=(bb.le (by omega)).mono (by decide)
     refine ⟨_,rfl,_,rfl,_,_,rfl,rfl,⟨by omega,bc⟩,fun q eq => ⟨_,rfl,_,rfl,_,_,rfl,rfl,⟨by omega,bc⟩,fun r er => ⟨sz2,fun p hp => ?_⟩⟩⟩
     subst eq er
     exact k _ _ p _ (fp hb) (same_upd hp) upd_same
theorem ok_law_warm (T : Txt K mg Ad) : Def P w K mg base "_law_warm" 2 ["_law_num","_law_parts","_law_scale_here"] (sp_warm K):=by
 refine T.d_law_warm.def sc_law_warm (fun vs H Q E h => ?_) (fun _ _ _ _ _ _ us hl => match us,hl with | [_,_,_],_ => rfl) (fun f _ _ _ s H vs Q E hr h => ?_)
 · obtain ⟨num,parts,p,z,rfl,_⟩:=h
   rfl
 · obtain ⟨num,parts,p,z,rfl,hq,ok,bn,p0,bp,k⟩:=h
   refine ⟨_,(pss_cons (ps_set (i:=3) sc_law_warm.nd rfl (by first | exact Or.inl rfl | exact Or.inr rfl) (pe_op op_mulL (pe_op op_mulL (pv 0) (pe_ix ix_any (pv 2) pe_int (fun _ _ => rfl))) (pe_ix ix_any (pv 2) pe_int (fun _ _ => rfl))))
     (pss_cons (ps_set (i:=3) sc_law_warm.nd rfl (by first | exact Or.inl rfl | exact Or.inr rfl) (pe_op op_addL (pv 3) (pe_op op_mulL (pe_op op_mulL (pv 1) (pe_ix ix_any (pv 2) pe_int (fun _ _ => rfl))) (pe_ix ix_any (pv 2) pe_int (fun _ _ => rfl)))))
     (pss_one (ps_ret (pe_callD (ok_law_ratio T) (hr.mono (by decide)) (pa_cons (pv 3) (pa_cons (pe_op op_mulL (pe_op op_mulL (pv 1) (pe_ix ix_any (pv 2) pe_int (fun _ _ => rfl))) (pe_ix ix_any (pv 2) pe_int (fun _ _ => rfl))) pa_nil))))))),?_⟩
   refine ⟨_,rfl,_,rfl,_,_,_,_,rfl,rfl,.inr hq,rfl,_,_,rfl,rfl,⟨_,_,bn,ok.ba,by decide⟩,fun x1 e1 => ⟨_,rfl,_,_,_,_,rfl,rfl,.inr hq,rfl,_,_,rfl,rfl,⟨60,_,by rw [e1]; exact bn.mul ok.ba,ok.bd,by decide⟩,fun x2 e2 => ?_⟩⟩
   refine ⟨_,rfl,_,rfl,_,rfl,_,_,_,_,rfl,rfl,.inr hq,rfl,_,_,rfl,rfl,⟨_,_,bp,ok.bt,by decide⟩,fun x3 e3 => ⟨_,rfl,_,_,_,_,rfl,rfl,.inr hq,rfl,_,_,rfl,rfl,⟨60,_,by rw [e3]; exact bp.mul ok.bt,ok.bb,by decide⟩,fun x4 e4 => ⟨_,_,rfl,rfl,fun x5 e5 => ?_⟩⟩⟩
   refine ⟨_,rfl,_,rfl,_,rfl,_,_,_,_,rfl,rfl,.inr hq,rfl,_,_,rfl,rfl,⟨_,_,bp,ok.bb,by decide⟩,fun x6 e6 => ⟨_,rfl,_,_,_,_,rfl,rfl,.inr hq,rfl,_,_,rfl,rfl,⟨60,_,by rw [e6]; exact bp.mul ok.bb,ok.bd,by decide⟩,fun x7 e7 => ?_⟩⟩
   have h5 : x5 = warmT num parts z:=by rw [e5,e2,e1,e4,e3]; rfl
   have h7 : x7 = warmB parts z:=by rw [e7,e6]; rfl
   subst h5 h7
   have hB:=warmB_pos ok p0
   refine ⟨_,_,rfl,hB,?_,fun q r u H' F s' hu => k u H' s' ?_⟩
   · exact ((bp.mul ok.bb).mul ok.bd).mono (by decide)
   · have:=F.nf hB
     rw [hu]
     unfold warmM
     rw [← this]
theorem ok_law_stove_by (T : Txt K mg Ad) : Def P w K mg base "_law_stove_by" 2 ["_law_a","_law_b","_law_c","_law_room"] sp_stove_by:=by
 refine T.d_law_stove_by.def sc_law_stove_by (fun vs H Q E h => ?_) (fun _ _ _ _ _ _ us hl => match us,hl with | [_,_,_,_],_ => rfl) (fun f _ _ _ s H vs Q E hr h => ?_)
 · obtain ⟨a,b,c,i,rfl,_⟩:=h
   rfl
 · obtain ⟨a,b,c,i,rfl,hi,k0,k⟩:=h
   refine ⟨_,(pss_cons (ps_if (pt_cmpR op_eq (pe_callD (ok_law_pick T) (hr.mono (by decide)) (pa_cons (pv 1) (pa_cons (pe_op op_addL pe_int (pv 3)) (pa_cons pe_int pa_nil)))) pe_int (nomark _)) (pss_one (ps_ret pe_non)) pss_nil)
     (pss_cons (ps_set (i:=4) sc_law_stove_by.nd rfl (by first | exact Or.inl rfl | exact Or.inr rfl) (pe_callD (ok_law_pick T) (hr.mono (by decide)) (pa_cons (pv 0) (pa_cons (pe_op op_addL pe_int (pv 3)) (pa_cons pe_int pa_nil)))))
     (pss_cons (ps_set (i:=5) sc_law_stove_by.nd rfl (by first | exact Or.inl rfl | exact Or.inr rfl) (pe_callD (ok_law_pick T) (hr.mono (by decide)) (pa_cons (pv 0) (pa_cons (pe_op op_addL pe_int (pv 3)) (pa_cons pe_int pa_nil)))))
     (pss_one (ps_ret (pe_tup (pa_cons (pe_callD (ok_law_pick T) (hr.mono (by decide)) (pa_cons (pv 2) (pa_cons (pe_op op_addL pe_int (pv 3)) (pa_cons pe_int pa_nil)))) (pa_cons (pv 4) (pa_cons (pv 5) (pa_cons (pe_callD (ok_law_pick T) (hr.mono (by decide)) (pa_cons (pv 1) (pa_cons (pe_op op_addL pe_int (pv 3)) (pa_cons pe_int pa_nil)))) pa_nil)))))))))),?_⟩
   refine ⟨_,rfl,_,rfl,_,_,rfl,rfl,fun x1 e1 => ⟨_,_,_,rfl,by omega,by omega,by decide,fun r a0 a1 => ⟨rfl,_,rfl,?_⟩⟩⟩
   refine ite3 (fun h => k0) (fun h => ?_)
   refine ⟨_,rfl,_,rfl,_,_,rfl,rfl,fun x2 e2 => ⟨_,_,_,rfl,by omega,by omega,by decide,fun w0 b0 b1 => ?_⟩⟩
   refine ⟨_,rfl,_,rfl,_,_,rfl,rfl,fun x3 e3 => ⟨_,_,_,rfl,by omega,by omega,by decide,fun w1 c0 c1 => ?_⟩⟩
   refine ⟨_,rfl,_,rfl,_,_,rfl,rfl,fun x4 e4 => ⟨_,_,_,rfl,by omega,by omega,by decide,fun w2 d0 d1 => ?_⟩⟩
   refine ⟨_,rfl,_,rfl,_,rfl,_,rfl,_,_,rfl,rfl,fun x5 e5 => ⟨_,_,_,rfl,by omega,by omega,by decide,fun w3 g0 g1 => ⟨sz4,fun p hp => ?_⟩⟩⟩
   exact k p (w2,w0,w1,w3) ⟨⟨d0,by show w2 ≤ 25; omega⟩,⟨b0,by show w0 ≤ 9; omega⟩,⟨c0,by show w1 ≤ 3; omega⟩,⟨g0,by show w3 ≤ 3; omega⟩⟩ hp
set_option maxHeartbeats 0 in
theorem ok_law_scale (T : Txt K mg Ad) : Def P w K mg base "_law_scale" 2 ["_law_cell"] sp_scale:=by
 refine T.d_law_scale.def sc_law_scale (fun vs H Q E h => ?_) (fun _ _ _ _ _ _ us hl => match us,hl with | [_],_ => rfl) (fun f _ _ _ s H vs Q E hr h => ?_)
 · obtain ⟨c,rfl,_⟩:=h
   rfl
 · obtain ⟨c,rfl,k⟩:=h
   refine ⟨_,(pss_cons (ps_set (i:=1) sc_law_scale.nd rfl (by first | exact Or.inl rfl | exact Or.inr rfl) (pe_ix ix_any (pe_lst (pa_cons pe_int (pa_cons pe_int (pa_cons (pe_op op_powL pe_int pe_int) (pa_cons (pe_op op_powL pe_int pe_int) (pa_cons (pe_op op_powL pe_int pe_int) (pa_cons (pe_op op_powL pe_int pe_int) pa_nil))))))) (pe_callD (ok_law_pick T) (hr.mono (by decide)) (pa_cons (pv 0) (pa_cons pe_int (pa_cons pe_int pa_nil)))) (fun _ _ => rfl)))
     (pss_cons (ps_lc (yi:=2) ["_law_k"] ["_law_far","_law_cell"] [1,0] (.cons ⟨rfl,rfl,.inl rfl⟩ (.cons ⟨rfl,rfl,.inl rfl⟩ .nil)) rfl (pi_range1 rfl T.n_range (pa_cons pe_int pa_nil)) (fun _ _ _ _ _ => (pg_name (i:=0) (show (["_law_k","_law_far","_law_cell"] : List Str).Nodup by decide +kernel) rfl (by first | exact Or.inl rfl | exact Or.inr rfl))) (fun _ _ _ _ _ => pif_nil) (fun _ _ _ _ _ => (pe_op op_addL pe_int (pe_op op_modL (pe_op op_fdivL (pe_op op_addL (pv 2) (pv 0)) (pe_op op_addL (pv 0) pe_int)) (pv 1)))) rfl (by decide +kernel) (by decide +kernel) (by decide +kernel) sc_law_scale.nd rfl (by first | exact Or.inl rfl | exact Or.inr rfl) rfl)
     (pss_one (ps_ret (pe_tup (pa_cons (pe_ix ix_any (pv 2) pe_int (fun _ _ => rfl)) (pa_cons (pe_ix ix_any (pv 2) pe_int (fun _ _ => rfl)) (pa_cons (pe_op op_subL (pe_op op_modL (pe_op op_fdivL (pv 0) pe_int) (pe_op op_addL (pe_op op_mulL pe_int (pv 1)) pe_int)) (pv 1)) (pa_cons (pe_ix ix_any (pv 2) pe_int (fun _ _ => rfl)) pa_nil))))))))),?_⟩
   refine ⟨_,_,rfl,rfl,⟨by decide,by decide,by decide⟩,fun r1 e1 => ⟨_,_,rfl,rfl,⟨by decide,by decide,by decide⟩,fun r2 e2 => ⟨_,_,rfl,rfl,⟨by decide,by decide,by decide⟩,fun r3 e3 => ⟨_,_,rfl,rfl,⟨by decide,by decide,by decide⟩,fun r4 e4 => ⟨(by show 6 ≤ sizeLine; decide),fun p0 hp0 => ?_⟩⟩⟩⟩⟩
   refine ⟨_,rfl,_,_,_,rfl,by decide,by decide,by decide,fun r a0 a1 => ?_⟩
   obtain ⟨far,hm,ea⟩:=atI_ints (ns:=[1,12,r1,r2,r3,r4]) a0 a1
   have hfar : 1 ≤ far∧far ≤ 10 ^ 9:=by
     have z1 : r1 = 10000:=e1
     have z2 : r2 = 10000:=e2
     have z3 : r3 = 10000:=e3
     have z4 : r4 = 1000000000:=e4
     simp only [List.mem_cons,List.not_mem_nil,or_false] at hm
     omega
   refine ⟨p0,_,_,_,rfl,rfl,.inl (SqL.of upd_same),ea,?_⟩
   refine ⟨_,rfl,by decide,by decide,fun D hD => ?_⟩
   have s0 : Same H (upd H p0 (.lst [.int 1,.int 12,.int r1,.int r2,.int r3,.int r4])):=same_upd hp0
   refine comp_range (lo:=0) (n:=3) (fun i acc σ H' => Same (upd H p0 (.lst [.int 1,.int 12,.int r1,.int r2,.int r3,.int r4])) H'∧H' D = some (.lst acc)∧(∃ zs : List Int,acc = zs.map V.int∧zs.length = i∧∀ z ∈ zs,1 ≤ z∧z ≤ far)∧∃ v,σ = [v,some (.int far),some (.int c)])
     ⟨same_upd hD,upd_same,⟨[],rfl,rfl,nofun⟩,none,rfl⟩ ?_ ?_
   · rintro i acc σ H' hi ⟨s1,hD1,⟨zs,rfl,hzl,hz⟩,v,rfl⟩
     refine ⟨_,rfl,_,rfl,_,_,rfl,rfl,fun x1 e1 => ⟨_,rfl,_,_,rfl,rfl,fun x2 e2 => ⟨_,_,rfl,rfl,⟨by omega,(bdS 8999 (by omega) (by omega))⟩,fun x3 e3 => ⟨_,rfl,_,_,rfl,rfl,by omega,fun x4 a4 b4 e4 => ⟨_,_,rfl,rfl,fun x5 e5 => ?_⟩⟩⟩⟩⟩
     refine ⟨hD1,small1000 (by rw [List.length_map]; omega),s1.put hD,upd_same,⟨zs ++ [x5],by rw [List.map_append]; rfl,by rw [List.length_append,hzl]; rfl,fun z hm => ?_⟩,_,rfl⟩
     rcases List.mem_append.mp hm with q | q
     · exact hz z q
     · rw [List.mem_singleton.mp q]; omega
   · rintro acc σ H' ⟨s1,hD1,⟨zs,rfl,hzl,hz⟩,v,rfl⟩
     match zs,hzl,hz,hD1 with
     | [z0,z1,z2],_,hz,hD1 =>
       have g0:=hz z0 (by simp)
       have g1:=hz z1 (by simp)
       have g2:=hz z2 (by simp)
       refine ⟨_,rfl,_,_,_,_,rfl,rfl,.inl (SqL.of hD1),rfl,_,rfl,_,_,_,_,rfl,rfl,.inl (SqL.of hD1),rfl,?_⟩
       refine ⟨_,rfl,_,_,rfl,rfl,⟨by decide,bdS 8999 (by decide) (by decide)⟩,fun y1 f1 => ⟨_,rfl,_,_,rfl,rfl,⟨2,31,bdd,(show far.natAbs < 2 ^ 31 by omega),by decide⟩,fun y2 f2 => ⟨_,_,rfl,rfl,fun y3 f3 => ⟨_,_,rfl,rfl,by omega,fun y4 a4 b4 f4 => ⟨_,rfl,_,_,rfl,rfl,fun y5 f5 => ?_⟩⟩⟩⟩⟩
       refine ⟨_,rfl,_,_,_,_,rfl,rfl,.inl (SqL.of hD1),rfl,sz4,fun p hp => ?_⟩
       exact k p _ ⟨z0,z1,y5,z2⟩ ⟨g0.1,by show z0 ≤ _; omega,g1.1,by show z1 ≤ _; omega,by show _ ≤ y5; omega,by show y5 ≤ _; omega,g2.1,by show z2 ≤ _; omega⟩ (s0.trans (s1.trans (same_upd hp))) upd_same
theorem ok_law_drawn (T : Txt K mg Ad) : Def P w K mg base "_law_drawn" 3 ["_law_script"] (sp_drawn K):=by
 refine T.d_law_drawn.def sc_law_drawn (fun vs H Q E h => ?_) (fun _ _ _ _ _ _ us hl => match us,hl with | [_],_ => rfl) (fun f _ _ _ s H vs Q E hr h => ?_)
 · obtain ⟨a,ns,rfl,_⟩:=h
   rfl
 · obtain ⟨sa,ns,rfl,hS,k⟩:=h
   refine ⟨_,(pss_cons (ps_set (i:=1) sc_law_drawn.nd rfl (by first | exact Or.inl rfl | exact Or.inr rfl) (pe_callD (ok_law_cell_at T) (hr.mono (by decide)) (pa_cons (pv 0) (pa_cons pe_int pa_nil))))
     (pss_cons (ps_set (i:=2) sc_law_drawn.nd rfl (by first | exact Or.inl rfl | exact Or.inr rfl) (pe_callD (ok_law_cell_at T) (hr.mono (by decide)) (pa_cons (pv 0) (pa_cons pe_int pa_nil))))
     (pss_cons (ps_set (i:=3) sc_law_drawn.nd rfl (by first | exact Or.inl rfl | exact Or.inr rfl) (pe_callD (ok_law_cell_at T) (hr.mono (by decide)) (pa_cons (pv 0) (pa_cons pe_int pa_nil))))
     (pss_cons (ps_set (i:=4) sc_law_drawn.nd rfl (by first | exact Or.inl rfl | exact Or.inr rfl) (pe_ix ix_any (pe_lst (pa_cons pe_int (pa_cons pe_int (pa_cons pe_int (pa_cons pe_int (pa_cons pe_int (pa_cons pe_int pa_nil))))))) (pe_callD (ok_law_pick T) (hr.mono (by decide)) (pa_cons (pv 1) (pa_cons pe_int (pa_cons pe_int pa_nil)))) (fun _ _ => rfl)))
     (pss_cons (ps_set (i:=5) sc_law_drawn.nd rfl (by first | exact Or.inl rfl | exact Or.inr rfl) (@pe_disp _ _ _ _ _ (@pps_cons _ _ _ _ _ _ _ _ _ pe_str (pe_lst pa_nil) (@pps_cons _ _ _ _ _ _ _ _ _ pe_str (pe_lst pa_nil) (@pps_cons _ _ _ _ _ _ _ _ _ pe_str (pe_lst pa_nil) (@pps_cons _ _ _ _ _ _ _ _ _ pe_str pe_dnewT (@pps_cons _ _ _ _ _ _ _ _ _ pe_str (pe_callD (ok_law_scale T) (hr.mono (by decide)) (pa_cons (pe_callD (ok_law_cell_at T) (hr.mono (by decide)) (pa_cons (pv 0) (pa_cons pe_int pa_nil))) pa_nil)) pps_nil))))) rfl rfl (List.cons_ne_nil _ _) (Nat.le_of_ble_eq_true rfl)))
     (pss_cons (ps_dput (hu_of hr) (pv 5) pe_str (pe_tup (pa_cons (pe_callD (ok_law_pick T) (hr.mono (by decide)) (pa_cons (pv 1) (pa_cons pe_int (pa_cons pe_int pa_nil)))) (pa_cons (pe_callD (ok_law_pick T) (hr.mono (by decide)) (pa_cons (pv 1) (pa_cons pe_int (pa_cons pe_int pa_nil)))) (pa_cons (pe_callD (ok_law_pick T) (hr.mono (by decide)) (pa_cons (pv 1) (pa_cons pe_int (pa_cons pe_int pa_nil)))) pa_nil)))) rfl)
     (pss_cons (ps_for PassesOwn.never rfl (pi_range1 rfl T.n_range (pa_cons (pv 4) pa_nil)) (pg_name (i:=6) sc_law_drawn.nd rfl (by first | exact Or.inl rfl | exact Or.inr rfl)) (pss_cons (ps_set (i:=7) sc_law_drawn.nd rfl (by first | exact Or.inl rfl | exact Or.inr rfl) (pe_lst (pa_cons (pe_op op_subL (pe_callD (ok_law_pick T) (hr.mono (by decide)) (pa_cons (pv 2) (pa_cons (pv 6) (pa_cons pe_int pa_nil)))) pe_int) pa_nil)))
     (pss_cons (ps_for PassesOwn.never rfl (pi_range1 rfl T.n_range (pa_cons (pe_op op_addL pe_int (pe_callD (ok_law_pick T) (hr.mono (by decide)) (pa_cons (pv 1) (pa_cons (pe_op op_addL pe_int (pv 6)) (pa_cons (pe_ix ix_any (pe_lst (pa_cons pe_int (pa_cons pe_int (pa_cons pe_int (pa_cons pe_int pa_nil))))) (pe_op op_subL (pv 4) pe_int) (fun _ _ => rfl)) pa_nil))))) pa_nil)) (pg_name (i:=8) sc_law_drawn.nd rfl (by first | exact Or.inl rfl | exact Or.inr rfl)) (pss_one (ps_expr (pe_bm PySem.F.plainAttrs_list PySem.F.slot_list_append PySem.F.type_list_append mt_append (pv 7) (pa_cons (pe_op op_addL (pe_op op_addL (pe_ix ix_any (pv 7) (pv 8) (fun _ _ => rfl)) pe_int) (pe_callD (ok_law_pick T) (hr.mono (by decide)) (pa_cons (pv 2) (pa_cons (pe_op op_addL (pe_op op_addL pe_int (pe_op op_mulL pe_int (pv 6))) (pv 8)) (pa_cons pe_int pa_nil))))) pa_nil)))))
     (pss_cons (ps_expr (pe_bm PySem.F.plainAttrs_list PySem.F.slot_list_append PySem.F.type_list_append mt_append (pe_dget (hu_of hr) (pv 5) pe_str (fun _ _ => rfl)) (pa_cons (pv 7) pa_nil)))
     (pss_cons (ps_set (i:=9) sc_law_drawn.nd rfl (by first | exact Or.inl rfl | exact Or.inr rfl) (pe_op op_subL (pe_callD (ok_law_pick T) (hr.mono (by decide)) (pa_cons (pv 3) (pa_cons (pv 6) (pa_cons pe_int pa_nil)))) pe_int))
     (pss_cons (ps_expr (pe_bm PySem.F.plainAttrs_list PySem.F.slot_list_append PySem.F.type_list_append mt_append (pe_dget (hu_of hr) (pv 5) pe_str (fun _ _ => rfl)) (pa_cons (pe_tup (pa_cons (pe_callD (ok_law_pick T) (hr.mono (by decide)) (pa_cons (pv 3) (pa_cons (pe_op op_addL pe_int (pv 6)) (pa_cons pe_int pa_nil)))) (pa_cons (pv 9) (pa_cons (pe_op op_addL (pv 9) (pe_callD (ok_law_pick T) (hr.mono (by decide)) (pa_cons (pv 3) (pa_cons (pe_op op_addL pe_int (pv 6)) (pa_cons pe_int pa_nil))))) pa_nil)))) pa_nil)))
     (pss_cons (ps_expr (pe_bm PySem.F.plainAttrs_list PySem.F.slot_list_append PySem.F.type_list_append mt_append (pe_dget (hu_of hr) (pv 5) pe_str (fun _ _ => rfl)) (pa_cons (pe_callD (ok_law_stove_by T) (hr.mono (by decide)) (pa_cons (pv 1) (pa_cons (pv 2) (pa_cons (pv 3) (pa_cons (pv 6) pa_nil))))) pa_nil)))
     (pss_one (ps_for PassesOwn.never rfl (pi_range1 rfl T.n_range (pa_cons (pv 4) pa_nil)) (pg_name (i:=10) sc_law_drawn.nd rfl (by first | exact Or.inl rfl | exact Or.inr rfl)) (pss_one (ps_if (pt_cmpR op_ne (pv 10) (pv 6) (nomark _)) (pss_one (ps_dput (hu_of hr) (pe_dget (hu_of hr) (pv 5) pe_str (fun _ _ => rfl)) (pe_tup (pa_cons (pv 6) (pa_cons (pv 10) pa_nil))) (pe_callD (ok_law_pick T) (hr.mono (by decide)) (pa_cons (pv 2) (pa_cons (pe_op op_addL (pe_op op_addL pe_int (pe_op op_mulL pe_int (pv 6))) (pv 10)) (pa_cons pe_int pa_nil)))) rfl)) pss_nil)))))))))))
     (pss_one (ps_ret (pv 5)))))))))),?_⟩
   refine ⟨_,rfl,sa,ns,0,rfl,hS,by decide,fun ca _ => ⟨_,rfl,sa,ns,1,rfl,hS,by decide,fun cb _ => ⟨_,rfl,sa,ns,2,rfl,hS,by decide,fun cc _ => ?_⟩⟩⟩
   refine ⟨(by show 6 ≤ sizeLine; decide),fun l0 hl0 => ⟨_,rfl,ca,1,6,rfl,by decide,by decide,by decide,fun r a0 a1 => ?_⟩⟩
   obtain ⟨nI,hmn,ea⟩:=atI_ints (ns:=[1,1,2,2,3,4]) a0 a1
   refine ⟨l0,_,_,_,rfl,rfl,.inl (SqL.of upd_same),ea,?_⟩
   have hn : 1 ≤ nI∧nI ≤ 4:=by
     simp only [List.mem_cons,List.not_mem_nil,or_false] at hmn
     omega
   obtain ⟨n,rfl⟩ : ∃ n : Nat,nI = (n : Int):=⟨nI.toNat,by omega⟩
   have sH1 : Same H (upd H l0 (.lst [.int 1,.int 1,.int 2,.int 2,.int 3,.int 4])):=same_upd hl0
   intro p hp
   refine ⟨Nat.zero_le _,fun pm hpm => ⟨Nat.zero_le _,fun ps hps => ⟨Nat.zero_le _,fun pt hpt => fun pf hpf => ?_⟩⟩⟩
   have sp0:=same_upd (o:=.dK []) hp
   have spm:=same_upd (o:=.lst []) hpm
   have sps:=same_upd (o:=.lst []) hps
   have spt:=same_upd (o:=.lst []) hpt
   have spf:=same_upd (o:=.dT []) hpf
   have sAll:=sp0.trans (spm.trans (sps.trans (spt.trans spf)))
   refine ⟨_,rfl,sa,ns,3,rfl,(sH1.trans sAll).seq hS,by decide,fun cd _ => ⟨cd,rfl,fun psc H2 sc hsc s2 hpsc => ?_⟩⟩
   have f_p : H2 p = some (.dK []):=s2 _ _ (spf _ _ (spt _ _ (sps _ _ (spm _ _ upd_same))))
   have f_pm : H2 pm = some (.lst []):=s2 _ _ (spf _ _ (spt _ _ (sps _ _ upd_same)))
   have f_ps : H2 ps = some (.lst []):=s2 _ _ (spf _ _ (spt _ _ upd_same))
   have f_pt : H2 pt = some (.lst []):=s2 _ _ (spf _ _ upd_same)
   have f_pf : H2 pf = some (.dT []):=s2 _ _ upd_same
   have nms : pm ≠ ps:=ne_of_none upd_same hps
   have nmt : pm ≠ pt:=ne_of_none (sps _ _ upd_same) hpt
   have nst : ps ≠ pt:=ne_of_none upd_same hpt
   refine ⟨f_p,[(.inr "marks",.ref pm),(.inr "sky",.ref ps),(.inr "stoves",.ref pt),(.inr "flows",.ref pf),(.inr "scale",.ref psc)],rfl,Nat.le_of_ble_eq_true rfl,?_⟩
   have nH2 : Same H H2:=(sH1.trans sAll).trans s2
   have pn : H p = none:=sH1.free hp
   refine ⟨_,rfl,ca,2,5,rfl,by decide,by decide,by decide,fun w0 w00 w01 => ⟨_,rfl,ca,3,31,rfl,by decide,by decide,by decide,fun w1 w10 w11 => ⟨_,rfl,ca,4,10,rfl,by decide,by decide,by decide,fun w2 w20 w21 => ⟨sz3,fun pb hpb => ?_⟩⟩⟩⟩
   refine ⟨_,rfl,_,_,rfl,DPut.k (k:=.inr "bounds") (same_upd hpb _ _ upd_same) (Nat.lt_of_le_of_lt (length_mergeK _ _) (by show 0 + 5 < sizeLine; decide)),?_⟩
   have npm : pm ≠ p:=ne_obj f_pm f_p nofun
   have nps : ps ≠ p:=ne_obj f_ps f_p nofun
   have npt : pt ≠ p:=ne_obj f_pt f_p nofun
   have npf : pf ≠ p:=ne_obj f_pf f_p (fun z => nomatch z)
   have npsc : psc ≠ p:=ne_obj hpsc f_p nofun
   have bup : ∀ {b o o'},H2 b = some o→b ≠ p→(upd H2 p o') b = some o:=fun h n => by rw [upd_ne n]; exact h
   have bn : ∀ {b o},H2 b = some o→b ≠ p→b ≠ pb:=fun h n => ne_of_none (bup h n) hpb
   have npb : p ≠ pb:=ne_of_none upd_same hpb
   have b3 : ∀ {b o o1 o2 o3},H2 b = some o→b ≠ p→(upd (upd (upd H2 p o1) pb o2) p o3) b = some o:=fun h n => by rw [upd_ne n,upd_ne (bn h n)]; exact bup h n
   have C0 : TC K (upd (upd (upd H2 p (.dK (mergeK [] [(.inr "marks",.ref pm),(.inr "sky",.ref ps),(.inr "stoves",.ref pt),(.inr "flows",.ref pf),(.inr "scale",.ref psc)]))) pb (.tup [.int w0,.int w1,.int w2])) p
       (.dK (putK (mergeK [] [(.inr "marks",.ref pm),(.inr "sky",.ref ps),(.inr "stoves",.ref pt),(.inr "flows",.ref pf),(.inr "scale",.ref psc)]) (.inr "bounds") (.ref pb)))) p pm ps pt pf psc pb [] [] [] [] ⟨[],[],[],fun _ _ => none,sc,(w0,w1,w2)⟩:=by
     refine ⟨upd_same,b3 f_pm npm,b3 f_ps nps,b3 f_pt npt,b3 f_pf npf,nms,nmt,nst,rfl,rfl,rfl,fun _ _ _ _ => rfl,⟨List.nodup_nil,nofun⟩,SqT.of (cut_at (b3 hpsc npsc) ?_),SqT.of (cut_at (by rw [upd_ne npb.symm]; exact upd_same) ?_)⟩
     · simp only [List.mem_cons,List.not_mem_nil,or_false,not_or]
       exact ⟨npsc,ne_obj hpsc f_pm nofun,ne_obj hpsc f_ps nofun,ne_obj hpsc f_pt nofun,ne_obj hpsc f_pf nofun⟩
     · simp only [List.mem_cons,List.not_mem_nil,or_false,not_or]
       exact ⟨npb.symm,(bn f_pm npm).symm,(bn f_ps nps).symm,(bn f_pt npt).symm,(bn f_pf npf).symm⟩
   have S0 : Same H (upd (upd (upd H2 p (.dK (mergeK [] [(.inr "marks",.ref pm),(.inr "sky",.ref ps),(.inr "stoves",.ref pt),(.inr "flows",.ref pf),(.inr "scale",.ref psc)]))) pb (.tup [.int w0,.int w1,.int w2])) p
       (.dK (putK (mergeK [] [(.inr "marks",.ref pm),(.inr "sky",.ref ps),(.inr "stoves",.ref pt),(.inr "flows",.ref pf),(.inr "scale",.ref psc)]) (.inr "bounds") (.ref pb)))):=((nH2.put pn).trans (same_upd hpb)).put pn
   refine ⟨_,rfl,_,rfl,by omega,by omega,?_⟩
   refine for_rangeG (lo:=0) (n:=n) (fun i σ H' => Same H H'∧(∃ vm vs vt kvs m,TC K H' p pm ps pt pf psc pb vm vs vt kvs m∧ToldM.Ok n i m)∧∃ x6 x7 x8 x9 x10,σ = [some (.ref sa),some (.int ca),some (.int cb),some (.int cc),some (natV n),some (.ref p),x6,x7,x8,x9,x10])
     ⟨S0,⟨_,_,_,_,_,C0,⟨rfl,rfl,rfl,nofun,nofun,nofun,fun a b h => absurd h (Nat.not_lt_zero a),hsc,⟨w00,by show w0 ≤ 4; omega⟩,⟨w10,by show w1 ≤ 30; omega⟩,⟨w20,by show w2 ≤ 30; omega⟩⟩⟩,none,none,none,none,none,rfl⟩ ?_ ?_
   · rintro _ _ i σ H' hi ⟨S1,⟨vm,vs,vt,kvs,m,C1,O1⟩,x6,x7,x8,x9,x10,rfl⟩
     refine ⟨_,rfl,_,rfl,cb,_,61,rfl,by omega,by omega,by decide,fun r0 c0 c1 => ⟨_,_,rfl,rfl,fun x0 e0 => ⟨sz1,fun pk hpk => ?_⟩⟩⟩
     refine ⟨_,rfl,_,rfl,_,_,rfl,rfl,fun y1 f1 => ⟨sz4,fun l1 hl1 => ⟨_,rfl,_,_,rfl,rfl,fun y2 f2 => ⟨l1,_,_,_,rfl,rfl,.inl (SqL.of upd_same),most_at (by omega) (by omega) f2,?_⟩⟩⟩⟩
     refine ⟨ca,y1,_,rfl,by omega,by omega,(by split <;> decide),fun r1 b0 b1 => ⟨_,_,rfl,rfl,fun y3 f3 => ?_⟩⟩
     obtain ⟨q,rfl⟩ : ∃ q : Nat,y3 = (q : Int):=⟨y3.toNat,by omega⟩
     have hq : 1 ≤ q∧q ≤ if n ≤ 2 then 6 else 4:=by
       split at b1 <;> rename_i hc <;> simp only [hc,if_true,if_false] <;> omega
     have hq6 : q ≤ 6:=by have:=hq.2; split at this <;> omega
     refine ⟨_,rfl,by omega,by omega,?_⟩
     have sk : Same H' (upd H' pk (.lst [.int x0])):=same_upd hpk
     have nl1 : pk ≠ l1:=ne_of_none upd_same hl1
     refine for_rangeG (lo:=0) (n:=q) (fun j σ H2' => Same H' H2'∧(∃ l : List Int,H2' pk = some (.lst (l.map V.int))∧l.length = j + 1∧risingI l∧∀ x ∈ l,-30 ≤ x∧x ≤ 30 + 20 * (j : Int))∧∃ x8,σ = [some (.ref sa),some (.int ca),some (.int cb),some (.int cc),some (natV n),some (.ref p),some (.int (0 + (i : Int))),some (.ref pk),x8,x9,x10])
       ⟨sk.trans (same_upd hl1),⟨[x0],by rw [upd_ne nl1]; exact upd_same,rfl,fun a x y h1 h2 => by simp at h2,fun x hx => by rw [List.mem_singleton.mp hx]; omega⟩,x8,rfl⟩ ?_ ?_
     · rintro _ _ j σ H2' hj ⟨S2,⟨l,hk,hl,hris,hbd⟩,x8,rfl⟩
       have hjl : j < l.length:=by omega
       refine ⟨_,rfl,.inl ⟨rfl,_,SqL.of hk⟩,_,rfl,_,rfl,pk,_,_,_,rfl,rfl,.inl (SqL.of hk),atI_int hjl,_,_,rfl,rfl,fun u1 g1 => ⟨_,rfl,_,rfl,_,_,rfl,rfl,⟨10,10,bdd,(show (0 + (i : Int)).natAbs < 2 ^ 10 by omega),by decide⟩,fun u2 g2 => ⟨_,_,rfl,rfl,fun u3 g3 => ⟨_,rfl,_,_,rfl,rfl,fun u4 g4 => ?_⟩⟩⟩⟩
       refine ⟨cb,u4,20,rfl,by omega,by omega,by decide,fun r2 d0 d1 => ⟨_,_,rfl,rfl,fun u5 g5 => ⟨pk,_,_,rfl,rfl,hk,small1000 (by rw [List.length_map]; omega),?_⟩⟩⟩
       have hlj:=hbd l[j] (List.getElem_mem hjl)
       refine ⟨S2.put hpk,⟨l ++ [u5],by rw [upd_same,List.map_append]; rfl,by rw [List.length_append,hl]; rfl,rising_snoc hris hl (by omega),fun x hx => ?_⟩,_,rfl⟩
       rcases List.mem_append.mp hx with z | z
       · have:=hbd x z; omega
       · rw [List.mem_singleton.mp z]; omega
     · rintro σ H2' ⟨S2,⟨l,hk,hl,hris,hbd⟩,x8,rfl⟩
       have C2:=C1.same S2
       have okr : RowOk n l:=⟨by omega,by have:=hq.2; split at this <;> rename_i hc <;> simp only [hc,if_true,if_false] <;> omega,hris,fun x hx => by have:=hbd x hx; omega⟩
       have kL : pk ∉ [p,pm,ps,pt,pf]:=by
         simp only [List.mem_cons,List.not_mem_nil,or_false,not_or]
         exact ⟨(ne_of_none C1.hp hpk).symm,(ne_of_none C1.hpm hpk).symm,(ne_of_none C1.hps hpk).symm,(ne_of_none C1.hpt hpk).symm,(ne_of_none C1.hpf hpk).symm⟩
       have lvm : vm.length = i:=by rw [C1.dm.length,List.length_map,O1.lm]
       have lvs : vs.length = i:=by rw [C1.ds.length,List.length_map,O1.ls]
       have lvt : vt.length = i:=by rw [C1.dt.length,List.length_map,O1.lt]
       refine ⟨_,rfl,p,_,rfl,tget_marks C2.hp,.inl ⟨rfl,_,SqL.of C2.hpm⟩,_,rfl,pm,vm,_,rfl,rfl,C2.hpm,small1000 (by omega),?_⟩
       have C3:=C2.addMarks (l:=l) (x:=.ref pk) ⟨pk,_,rfl,SqL.of (cut_at hk kL),dn_ints l⟩
       refine ⟨_,rfl,_,rfl,cc,_,61,rfl,by omega,by omega,by decide,fun r3 m0 m1 => ⟨_,_,rfl,rfl,fun lo elo => ?_⟩⟩
       refine ⟨_,rfl,p,_,rfl,tget_sky C3.hp,.inl ⟨rfl,_,SqL.of C3.hps⟩,_,rfl,_,rfl,_,_,rfl,rfl,fun v1 h1 => ⟨cc,v1,4,rfl,by omega,by omega,by decide,fun sh sh0 sh1 => ⟨_,rfl,_,rfl,_,rfl,_,rfl,_,_,rfl,rfl,fun v2 h2 => ⟨cc,v2,31,rfl,by omega,by omega,by decide,fun r4 n0 n1 => ⟨_,_,rfl,rfl,fun hi2 ehi => ⟨sz3,fun pz hpz => ?_⟩⟩⟩⟩⟩⟩
       have C3':=C3.same (same_upd (o:=.tup [.int sh,.int lo,.int hi2]) hpz)
       refine ⟨ps,vs,_,rfl,rfl,C3'.hps,small1000 (by omega),?_⟩
       have C4:=C3'.addSky (l:=(sh,lo,hi2)) (x:=.ref pz) (dn_tup (SqT.of (cut_at upd_same (C3.notin hpz))) (dn_cons rfl (dn_cons rfl (dn_cons rfl dn_nil))))
       refine ⟨_,rfl,p,_,rfl,tget_stoves C4.hp,.inl ⟨rfl,_,SqL.of C4.hpt⟩,_,rfl,_,rfl,_,rfl,_,rfl,?_⟩
       refine ⟨ca,cb,cc,i,by rw [Int.zero_add]; rfl,by omega,?_,fun pq zq hzq hpq => ?_⟩
       · have hst:=C4.stn
         have C5':=C4.same hst.same
         refine ⟨pt,vt,_,rfl,rfl,C5'.hpt,small1000 (by omega),?_⟩
         have C5:=C5'.addStove (l:=none) (x:=.non) (hst.dn fun b hb => C4.notin hb)
         have pmn : H pm = none:=(sH1.trans sp0).free hpm
         have psn : H ps = none:=((sH1.trans sp0).trans spm).free hps
         have ptn : H pt = none:=(((sH1.trans sp0).trans spm).trans sps).free hpt
         have pfn : H pf = none:=((((sH1.trans sp0).trans spm).trans sps).trans spt).free hpf
         have S5 : Same H _:=(((((S1.trans S2).put pmn).trans (same_upd (o:=.tup [.int sh,.int lo,.int hi2]) hpz)).put (o:=.lst (vs ++ [.ref pz])) psn).trans hst.same).put (o:=.lst (vt ++ [.non])) ptn
         refine ⟨_,rfl,_,rfl,by omega,by omega,?_⟩
         refine for_rangeG (lo:=0) (n:=n) (fun j σ H6 => Same H H6∧(∃ kvs fl,TC K H6 p pm ps pt pf psc pb (vm ++ [.ref pk]) (vs ++ [.ref pz]) (vt ++ [.non]) kvs { m with marks:=m.marks ++ [l],sky:=m.sky ++ [(sh,lo,hi2)],stoves:=m.stoves ++ [none],flows:=fl } ∧
             (∀ a b,a < i→b < n→a ≠ b→∃ k,fl a b = some k∧0 ≤ k∧k ≤ 3)∧∀ b,b < j→i ≠ b→∃ k,fl i b = some k∧0 ≤ k∧k ≤ 3)∧∃ x10,σ = [some (.ref sa),some (.int ca),some (.int cb),some (.int cc),some (natV n),some (.ref p),some (.int (0 + (i : Int))),some (.ref pk),x8,some (.int lo),x10])
           ⟨S5,⟨kvs,m.flows,C5,O1.flows,fun b h => absurd h (Nat.not_lt_zero b)⟩,x10,rfl⟩ ?_ ?_
         · rintro _ _ j σ H6 hj ⟨S6,⟨kvs6,fl,C6,hfl1,hfl2⟩,x10,rfl⟩
           refine ⟨_,rfl,_,rfl,rfl,_,rfl,?_⟩
           refine ite4 (fun h => ?_) (fun h => ?_)
           · have hij : i ≠ j:=fun e => h (by rw [e])
             refine ⟨_,rfl,_,rfl,_,_,rfl,rfl,⟨10,10,bdd,(show (0 + (i : Int)).natAbs < 2 ^ 10 by omega),by decide⟩,fun u1 g1 => ⟨_,_,rfl,rfl,fun u2 g2 => ⟨_,rfl,_,_,rfl,rfl,fun u3 g3 => ⟨cb,u3,4,rfl,by omega,by omega,by decide,fun kk k0 k1 => ?_⟩⟩⟩⟩
             refine ⟨_,rfl,p,_,rfl,tget_flows C6.hp,_,rfl,_,rfl,sz2,fun kp hkp => ?_⟩
             have C6':=C6.same (same_upd (o:=.tup [.int (0 + (i : Int)),.int (0 + (j : Int))]) hkp)
             have hkey : (upd H6 kp (.tup [.int (0 + (i : Int)),.int (0 + (j : Int))])) kp = some (.tup ((fkey i j).map kV)):=by rw [upd_same,Int.zero_add,Int.zero_add]; rfl
             refine ⟨pf,_,rfl,DPut.t C6'.hpf hkey (Nat.lt_of_le_of_lt C6.fk.len (by decide)),(S6.trans (same_upd hkp)).put pfn,⟨_,_,C6'.setFlow (k:=kk) (by omega) (by omega),fun a b ha hb hab => ?_,fun b hb hab => ?_⟩,_,rfl⟩
             · by_cases e : a = i∧b = j
               · exact ⟨kk,if_pos e,k0,by omega⟩
               · obtain ⟨z,h1,h2⟩:=hfl1 a b ha hb hab
                 exact ⟨z,(if_neg e).trans h1,h2⟩
             · by_cases e : b = j
               · exact ⟨kk,if_pos ⟨rfl,e⟩,k0,by omega⟩
               · obtain ⟨z,h1,h2⟩:=hfl2 b (by omega) hab
                 exact ⟨z,(if_neg (fun y => e y.2)).trans h1,h2⟩
           · have hij : i = j:=by have:=int_inj.mp h; omega
             exact ⟨S6,⟨kvs6,fl,C6,hfl1,fun b hb hab => hfl2 b (by omega) hab⟩,_,rfl⟩
         · rintro σ H6 ⟨S6,⟨kvs6,fl,C6,hfl1,hfl2⟩,x10,rfl⟩
           refine ⟨S6,⟨_,_,_,kvs6,_,C6,O1.marks okr ⟨⟨sh0,by show sh ≤ 3; omega⟩,⟨by show -30 ≤ lo; omega,by show lo ≤ 30; omega⟩,by show lo ≤ hi2; omega,by show hi2 ≤ lo + 30; omega⟩ hst.ok fun a b ha hb hab => ?_⟩,_,_,_,_,_,rfl⟩
           by_cases e : a = i
           · subst e; exact hfl2 b hb hab
           · exact hfl1 a b (by omega) hb hab
       · have hst : StV _ (some zq) (.ref pq) _:=.inr ⟨pq,zq,rfl,rfl,hpq,hzq,rfl⟩
         have C5':=C4.same hst.same
         refine ⟨pt,vt,_,rfl,rfl,C5'.hpt,small1000 (by omega),?_⟩
         have C5:=C5'.addStove (l:=some zq) (x:=.ref pq) (hst.dn fun b hb => C4.notin hb)
         have pmn : H pm = none:=(sH1.trans sp0).free hpm
         have psn : H ps = none:=((sH1.trans sp0).trans spm).free hps
         have ptn : H pt = none:=(((sH1.trans sp0).trans spm).trans sps).free hpt
         have pfn : H pf = none:=((((sH1.trans sp0).trans spm).trans sps).trans spt).free hpf
         have S5 : Same H _:=(((((S1.trans S2).put pmn).trans (same_upd (o:=.tup [.int sh,.int lo,.int hi2]) hpz)).put (o:=.lst (vs ++ [.ref pz])) psn).trans hst.same).put (o:=.lst (vt ++ [.ref pq])) ptn
         refine ⟨_,rfl,_,rfl,by omega,by omega,?_⟩
         refine for_rangeG (lo:=0) (n:=n) (fun j σ H6 => Same H H6∧(∃ kvs fl,TC K H6 p pm ps pt pf psc pb (vm ++ [.ref pk]) (vs ++ [.ref pz]) (vt ++ [.ref pq]) kvs { m with marks:=m.marks ++ [l],sky:=m.sky ++ [(sh,lo,hi2)],stoves:=m.stoves ++ [some zq],flows:=fl } ∧
             (∀ a b,a < i→b < n→a ≠ b→∃ k,fl a b = some k∧0 ≤ k∧k ≤ 3)∧∀ b,b < j→i ≠ b→∃ k,fl i b = some k∧0 ≤ k∧k ≤ 3)∧∃ x10,σ = [some (.ref sa),some (.int ca),some (.int cb),some (.int cc),some (natV n),some (.ref p),some (.int (0 + (i : Int))),some (.ref pk),x8,some (.int lo),x10])
           ⟨S5,⟨kvs,m.flows,C5,O1.flows,fun b h => absurd h (Nat.not_lt_zero b)⟩,x10,rfl⟩ ?_ ?_
         · rintro _ _ j σ H6 hj ⟨S6,⟨kvs6,fl,C6,hfl1,hfl2⟩,x10,rfl⟩
           refine ⟨_,rfl,_,rfl,rfl,_,rfl,?_⟩
           refine ite4 (fun h => ?_) (fun h => ?_)
           · have hij : i ≠ j:=fun e => h (by rw [e])
             refine ⟨_,rfl,_,rfl,_,_,rfl,rfl,⟨10,10,bdd,(show (0 + (i : Int)).natAbs < 2 ^ 10 by omega),by decide⟩,fun u1 g1 => ⟨_,_,rfl,rfl,fun u2 g2 => ⟨_,rfl,_,_,rfl,rfl,fun u3 g3 => ⟨cb,u3,4,rfl,by omega,by omega,by decide,fun kk k0 k1 => ?_⟩⟩⟩⟩
             refine ⟨_,rfl,p,_,rfl,tget_flows C6.hp,_,rfl,_,rfl,sz2,fun kp hkp => ?_⟩
             have C6':=C6.same (same_upd (o:=.tup [.int (0 + (i : Int)),.int (0 + (j : Int))]) hkp)
             have hkey : (upd H6 kp (.tup [.int (0 + (i : Int)),.int (0 + (j : Int))])) kp = some (.tup ((fkey i j).map kV)):=by rw [upd_same,Int.zero_add,Int.zero_add]; rfl
             refine ⟨pf,_,rfl,DPut.t C6'.hpf hkey (Nat.lt_of_le_of_lt C6.fk.len (by decide)),(S6.trans (same_upd hkp)).put pfn,⟨_,_,C6'.setFlow (k:=kk) (by omega) (by omega),fun a b ha hb hab => ?_,fun b hb hab => ?_⟩,_,rfl⟩
             · by_cases e : a = i∧b = j
               · exact ⟨kk,if_pos e,k0,by omega⟩
               · obtain ⟨z,h1,h2⟩:=hfl1 a b ha hb hab
                 exact ⟨z,(if_neg e).trans h1,h2⟩
             · by_cases e : b = j
               · exact ⟨kk,if_pos ⟨rfl,e⟩,k0,by omega⟩
               · obtain ⟨z,h1,h2⟩:=hfl2 b (by omega) hab
                 exact ⟨z,(if_neg (fun y => e y.2)).trans h1,h2⟩
           · have hij : i = j:=by have:=int_inj.mp h; omega
             exact ⟨S6,⟨kvs6,fl,C6,hfl1,fun b hb hab => hfl2 b (by omega) hab⟩,_,rfl⟩
         · rintro σ H6 ⟨S6,⟨kvs6,fl,C6,hfl1,hfl2⟩,x10,rfl⟩
           refine ⟨S6,⟨_,_,_,kvs6,_,C6,O1.marks okr ⟨⟨sh0,by show sh ≤ 3; omega⟩,⟨by show -30 ≤ lo; omega,by show lo ≤ 30; omega⟩,by show lo ≤ hi2; omega,by show hi2 ≤ lo + 30; omega⟩ hst.ok fun a b ha hb hab => ?_⟩,_,_,_,_,_,rfl⟩
           by_cases e : a = i
           · subst e; exact hfl2 b hb hab
           · exact hfl1 a b (by omega) hb hab
   · rintro σ H' ⟨S1,⟨vm,vs,vt,kvs,m,C1,O1⟩,x6,x7,x8,x9,x10,rfl⟩
     exact ⟨_,rfl,k p H' m n (by omega) (by omega) O1 S1 ⟨pm,ps,pt,pf,psc,pb,vm,vs,vt,kvs,C1⟩⟩
theorem ok_law_built (T : Txt K mg Ad) : Def P w K mg base "_law_built" 7 ["_law_told"] (sp_built K Ad.Hold):=by
 refine T.d_law_built.def sc_law_built (fun vs H Q E h => ?_) (fun _ _ _ _ _ _ us hl => match us,hl with | [_],_ => rfl) (fun f _ _ _ s H vs Q E hr h => ?_)
 · obtain ⟨p,tm,n,rfl,_⟩:=h
   rfl
 · obtain ⟨p,tm,n,rfl,hT,ok,n1,n4,k⟩:=h
   refine ⟨_,(pss_cons (ps_set (i:=1) sc_law_built.nd rfl (by first | exact Or.inl rfl | exact Or.inr rfl) (pe_dget (hu_of hr) (pv 0) pe_str (fun _ _ => rfl)))
     (pss_cons (ps_set (i:=2) sc_law_built.nd rfl (by first | exact Or.inl rfl | exact Or.inr rfl) (pe_dget (hu_of hr) (pv 0) pe_str (fun _ _ => rfl)))
     (pss_cons (ps_set (i:=3) sc_law_built.nd rfl (by first | exact Or.inl rfl | exact Or.inr rfl) (pe_makeE T.mk_Hold (okm_Hold___init___0 T) (hr.mono (by decide)) T.m_Hold (pa_cons (pe_ix ix_any (pv 1) pe_int (fun _ _ => rfl)) (pa_cons (pe_ix ix_any (pv 1) pe_int (fun _ _ => rfl)) (pa_cons (pe_ix ix_any (pv 1) pe_int (fun _ _ => rfl)) pa_nil)))))
     (pss_cons (ps_for PassesOwn.never rfl (pi_list (pe_dget (hu_of hr) (pv 0) pe_str (fun _ _ => rfl))) (pg_name (i:=4) sc_law_built.nd rfl (by first | exact Or.inl rfl | exact Or.inr rfl)) (pss_one (ps_expr (pe_methD (pv 3) T.cl_Hold (okm_Hold_put_room T) .nil (hr.mono (by decide)) (pa_cons (pe_lc ["_law_num"] ["_law_scale_here"] [2] (.cons ⟨rfl,rfl,.inl rfl⟩ .nil) rfl (pi_list (pv 4)) (fun _ _ _ _ _ => (pg_name (i:=0) (show (["_law_num","_law_scale_here"] : List Str).Nodup by decide +kernel) rfl (by first | exact Or.inl rfl | exact Or.inr rfl))) (fun _ _ _ _ _ => pif_nil) (fun _ _ _ _ _ => (pe_callD (ok_law_warm T) (hr.mono (by decide)) (pa_cons (pv 0) (pa_cons pe_int (pa_cons (pv 1) pa_nil))))) rfl (by decide +kernel) (by decide +kernel) (by decide +kernel)) pa_nil)))))
     (pss_cons (ps_for PassesOwn.never rfl (pi_range1 rfl T.n_range (pa_cons (pe_callB call_lenL (by rfl) T.n_len bt_len (pa_cons (pe_dget (hu_of hr) (pv 0) pe_str (fun _ _ => rfl)) pa_nil)) pa_nil)) (pg_name (i:=5) sc_law_built.nd rfl (by first | exact Or.inl rfl | exact Or.inr rfl)) (pss_cons (ps_set (i:=6) sc_law_built.nd rfl (by first | exact Or.inl rfl | exact Or.inr rfl) (pe_ix ix_any (pe_dget (hu_of hr) (pv 0) pe_str (fun _ _ => rfl)) (pv 5) (fun _ _ => rfl)))
     (pss_cons (ps_expr (pe_methD (pv 3) T.cl_Hold (okm_Hold_put_sky T) .nil (hr.mono (by decide)) (pa_cons (pv 5) (pa_cons (pe_callD (ok_law_ratio T) (hr.mono (by decide)) (pa_cons (pe_ix ix_any (pv 6) pe_int (fun _ _ => rfl)) (pa_cons pe_int pa_nil))) (pa_cons (pe_callD (ok_law_warm T) (hr.mono (by decide)) (pa_cons (pe_ix ix_any (pv 6) pe_int (fun _ _ => rfl)) (pa_cons pe_int (pa_cons (pv 2) pa_nil)))) (pa_cons (pe_callD (ok_law_warm T) (hr.mono (by decide)) (pa_cons (pe_ix ix_any (pv 6) pe_int (fun _ _ => rfl)) (pa_cons pe_int (pa_cons (pv 2) pa_nil)))) pa_nil))))))
     (pss_cons (ps_set (i:=7) sc_law_built.nd rfl (by first | exact Or.inl rfl | exact Or.inr rfl) (pe_ix ix_any (pe_dget (hu_of hr) (pv 0) pe_str (fun _ _ => rfl)) (pv 5) (fun _ _ => rfl)))
     (pss_cons (ps_cut (ps_if (pt_cmpR op_notN (pv 7) pe_non (nomark _)) (pss_one (ps_expr (pe_methE (pv 3) T.cl_Hold (okm_Hold_put_stove_0 T) (hr.mono (by decide)) (pa_cons (pv 5) (pa_cons (pe_callD (ok_law_ratio T) (hr.mono (by decide)) (pa_cons (pe_op op_mulL (pe_ix ix_any (pv 7) pe_int (fun _ _ => rfl)) (pe_ix ix_any (pv 2) pe_int (fun _ _ => rfl))) (pa_cons (pe_ix ix_any (pv 2) pe_int (fun _ _ => rfl)) pa_nil))) (pa_cons (pe_ix ix_any (pv 7) pe_int (fun _ _ => rfl)) (pa_cons (pe_ix ix_any (pv 7) pe_int (fun _ _ => rfl)) (pa_cons (pe_ix ix_any (pv 7) pe_int (fun _ _ => rfl)) pa_nil)))))))) pss_nil))
     (pss_one (ps_for PassesOwn.never rfl (pi_range1 rfl T.n_range (pa_cons (pe_callB call_lenL (by rfl) T.n_len bt_len (pa_cons (pe_dget (hu_of hr) (pv 0) pe_str (fun _ _ => rfl)) pa_nil)) pa_nil)) (pg_name (i:=8) sc_law_built.nd rfl (by first | exact Or.inl rfl | exact Or.inr rfl)) (pss_one (ps_if (pt_cmpR op_ne (pv 8) (pv 5) (nomark _)) (pss_one (ps_expr (pe_methD (pv 3) T.cl_Hold (okm_Hold_put_flow T) .nil (hr.mono (by decide)) (pa_cons (pv 5) (pa_cons (pv 8) (pa_cons (pe_callD (ok_law_ratio T) (hr.mono (by decide)) (pa_cons (pe_dget (hu_of hr) (pe_dget (hu_of hr) (pv 0) pe_str (fun _ _ => rfl)) (pe_tup (pa_cons (pv 5) (pa_cons (pv 8) pa_nil))) (fun _ _ => rfl)) (pa_cons pe_int pa_nil))) pa_nil)))))) pss_nil)))))))))
     (pss_one (ps_ret (pv 3)))))))),?_⟩
   obtain ⟨pm,ps,pt,pf,psc,pb,vm,vs,vt,kvs,C0⟩:=id hT
   have hb : SqT K H pb [.int tm.bounds.1,.int tm.bounds.2.1,.int tm.bounds.2.2]:=cut_same.tup C0.bo
   have hsc : SqT K H psc tm.scale.vs:=cut_same.tup C0.sc
   refine ⟨_,rfl,p,_,rfl,tget_bounds C0.hp,⟨_,rfl,p,_,rfl,tget_scale C0.hp,?_⟩⟩
   refine ⟨_,rfl,_,_,_,_,rfl,rfl,.inr hb,rfl,_,rfl,_,_,_,_,rfl,rfl,.inr hb,rfl,_,rfl,_,_,_,_,rfl,rfl,.inr hb,rfl,?_⟩
   intro a dxa fa fdx nxd
   have fa' : upd H dxa (.own a) a = none:=by rw [upd_ne nxd.symm]; exact fa
   have s0 : Same H (upd (upd H dxa (.own a)) a (.ins Ad.Hold dxa [])):=(same_upd fdx).trans (same_upd fa')
   refine ⟨a,dxa,_,_,_,rfl,upd_same,by rw [upd_ne nxd]; exact upd_same,ok.bounds.1,ok.bounds.2.1,ok.bounds.2.2,fun H1 fp1 D => ⟨rfl,?_⟩⟩
   obtain ⟨S1,F1⟩:=D.keep s0 (fun b hb => by
     simp only [List.mem_cons,List.not_mem_nil,or_false] at hb
     rcases hb with rfl | rfl
     · exact fa
     · exact fdx)
   have C1:=C0.same S1
   refine ⟨_,rfl,p,_,rfl,tget_marks C1.hp,pm,rfl,⟨vm,SqL.of C1.hpm⟩,?_⟩
   have lvm : vm.length = n:=by rw [C0.dm.length,List.length_map,ok.lm]
   refine for_listG (xs:=vm) (fun i σ H' => Same H H'∧(∃ fp,HoldAt K Ad.Hold H' a fp (tm.m1 i)∧∀ b ∈ fp,H b = none)∧(tm.m1 i).rows = (tm.marks.take i).map tm.row∧∃ x4 x5 x6 x7 x8,σ = [some (.ref p),some (.ref pb),some (.ref psc),some (.ref a),x4,x5,x6,x7,x8])
     ⟨S1,⟨fp1,D.at_,F1⟩,rfl,none,none,none,none,none,rfl⟩ (fun i σ H' _ e => SqL.of (e.1 _ _ C0.hpm)) ?_ ?_
   · rintro _ _ i x σ H' hx ⟨S2,⟨fp,hh,hF⟩,hrows,x4,x5,x6,x7,x8,rfl⟩
     have hi : i < tm.marks.length:=by rw [ok.lm,← lvm]; exact (List.getElem?_eq_some_iff.mp hx).1
     have C2:=C0.same S2
     obtain ⟨v,ev,pk,ws,rfl,hpk,dws⟩:=C2.dm.get (i:=i) (d:=rowI tm.marks[i]) (by rw [List.getElem?_map,get_nat hi]; rfl)
     obtain rfl : x = .ref pk:=Option.some.inj (hx.symm.trans ev)
     obtain rfl:=dn_ints_inv dws
     have okr:=ok.rows tm.marks[i] (List.getElem_mem hi)
     have hlk : SqL K H' pk (tm.marks[i].map V.int):=cut_same.seq hpk
     obtain ⟨⟨dx,_,_,_,_,_,_,_,_,_,ha,_⟩,_⟩:=id hh
     have hr0 : (tm.m1 i).rows.length = i:=by rw [hrows,List.length_map,List.length_take]; omega
     refine ⟨_,rfl,a,dx,_,rfl,ha,rfl,_,rfl,pk,rfl,⟨_,hlk⟩,fun Dl hD => ?_⟩
     refine comp_list (K:=K) (a:=pk) (xs:=tm.marks[i].map V.int) (fun j acc σ H3 => Same H' H3∧H3 Dl = some (.lst acc)∧DnA K H3 ((tm.marks[i].take j).map fun x => frD (warmM x 1 tm.scale)) acc∧∃ v,σ = [v,some (.ref psc)])
       ⟨same_upd hD,upd_same,rfl,none,rfl⟩ (fun j acc σ H3 _ e => e.1.seq hlk) ?_ ?_
     · rintro j x acc σ H3 hxj ⟨s3,hD3,d3,v,rfl⟩
       have hjl : j < tm.marks[i].length:=by have:=(List.getElem?_eq_some_iff.mp hxj).1; rw [List.length_map] at this; exact this
       have ex : x = .int tm.marks[i][j]:=by
         rw [List.getElem?_map,get_nat hjl] at hxj
         exact (Option.some.inj hxj).symm
       subst ex
       have bdj:=okr.bd tm.marks[i][j] (List.getElem_mem hjl)
       refine ⟨_,rfl,_,rfl,_,1,psc,tm.scale,rfl,(S2.trans s3).tup hsc,ok.scale,(show (tm.marks[i][j]).natAbs < 2 ^ 30 by omega),by decide,bdd,fun q H4 s4 hq => ?_⟩
       have la : acc.length = j:=by rw [d3.length,List.length_map,List.length_take]; omega
       have t45 : TStay K H4 (upd H4 Dl (.lst (acc ++ [.ref q]))):=ts_upd (s4 _ _ hD3) rfl
       refine ⟨s4 _ _ hD3,small1000 (by have:=okr.most; split at this <;> omega),(s3.trans s4).put hD,upd_same,?_,_,rfl⟩
       rw [List.take_succ,get_nat hjl,List.map_append]
       exact (DnA.ts ((Same.ts s4).trans t45) _ (fr_flat _ _) d3).snoc (Dn.ts t45 _ (flat_fr _) (dn_fr (SqT.of hq)))
     · rintro acc σ H3 ⟨s3,hD3,d3,v,rfl⟩
       rw [List.length_map,List.take_length] at d3
       have hl7 : tm.marks[i].length ≤ 7:=by have:=okr.most; split at this <;> omega
       refine ⟨a,fp,tm.m1 i,Dl,acc,tm.row tm.marks[i],rfl,hh.same s3,by have:=ok.lm; omega,SqL.of hD3,by unfold ToldM.row; rw [List.map_map]; exact d3,row_ok ok.scale okr,by unfold ToldM.row; rw [List.length_map]; exact okr.two,by unfold ToldM.row; rw [List.length_map]; exact hl7,row_rising ok.scale okr.ris,?_,fun H4 fp4 D4 => ?_⟩
       · have e : (tm.m1 i).rows ++ [tm.row tm.marks[i]] = (tm.marks.take (i + 1)).map tm.row:=by rw [hrows,List.take_succ,get_nat hi,List.map_append]; rfl
         rw [e]
         refine (bands_le (n:=n) rfl n4 (fun r hr => ?_) ?_).2
         · refine row_len ok r ?_
           obtain ⟨l,hl,rfl⟩:=List.mem_map.mp hr
           exact List.mem_map.mpr ⟨l,List.mem_of_mem_take hl,rfl⟩
         · rw [List.length_map,List.length_take,ok.lm]; omega
       · obtain ⟨S4,F4⟩:=D4.keep (S2.trans s3) hF
         have em:=ToldM.m1_succ (get_nat hi)
         refine ⟨S4,⟨fp4,by rw [em]; exact D4.at_,F4⟩,?_,_,_,_,_,_,rfl⟩
         rw [em]
         show (tm.m1 i).rows ++ [tm.row tm.marks[i]] = _
         rw [hrows,List.take_succ,get_nat hi,List.map_append]; rfl
   · rintro σ H' ⟨S2,⟨fp,hh,hF⟩,hrows,x4,x5,x6,x7,x8,rfl⟩
     rw [lvm] at hh hrows
     have C2:=C0.same S2
     have hr0 : (tm.m1 n).rows.length = n:=by rw [hrows,List.length_map,List.length_take,ok.lm]; omega
     refine ⟨_,rfl,p,_,rfl,tget_marks C2.hp,pm,vm,rfl,.inl (SqL.of C2.hpm),fun r er => ?_⟩
     obtain rfl : r = (n : Int):=by rw [er,lvm]
     refine ⟨_,rfl,by omega,by omega,?_⟩
     refine for_rangeG (lo:=0) (n:=n) (fun i σ H' => Same H H'∧(∃ fp,HoldAt K Ad.Hold H' a fp (tm.m2 n i)∧∀ b ∈ fp,H b = none)∧(tm.m2 n i).rows.length = n∧Tw (tm.m2 n i)∧∃ x4 x5 x6 x7 x8,σ = [some (.ref p),some (.ref pb),some (.ref psc),some (.ref a),x4,x5,x6,x7,x8])
       ⟨S2,⟨fp,hh,hF⟩,hr0,⟨_,_,tm.m1_ok n,⟨fun _ => by decide,fun _ _ => by decide,fun _ => rfl⟩⟩,x4,x5,x6,x7,x8,rfl⟩ ?_ ?_
     · rintro _ _ i σ H3 hi ⟨S3,⟨fp3,hh3,hF3⟩,hn3,tw,y4,y5,y6,y7,y8,rfl⟩
       have C3:=C0.same S3
       have hsi : i < tm.sky.length:=by rw [ok.ls]; exact hi
       have hti : i < tm.stoves.length:=by rw [ok.lt]; exact hi
       obtain ⟨vz,evz,pz,wz,rfl,hpz,dz⟩:=C3.ds.get (i:=i) (d:=skyI tm.sky[i]) (by rw [List.getElem?_map,get_nat hsi]; rfl)
       obtain ⟨z1,r1,rfl,e1,z2,r2,rfl,e2,z3,r3,rfl,e3,e4⟩:=dz
       have e4 : r3 = []:=e4
       have e1 : z1 = .int tm.sky[i].1:=e1
       have e2 : z2 = .int tm.sky[i].2.1:=e2
       have e3 : z3 = .int tm.sky[i].2.2:=e3
       subst e1 e2 e3 e4
       have hz : SqT K H3 pz [.int tm.sky[i].1,.int tm.sky[i].2.1,.int tm.sky[i].2.2]:=cut_same.tup hpz
       have oks:=ok.sky tm.sky[i] (List.getElem_mem hsi)
       obtain ⟨⟨dx,_,_,_,_,_,_,_,_,_,ha,_⟩,lsk,lst,_⟩:=id hh3
       refine ⟨_,rfl,p,_,rfl,tget_sky C3.hp,_,rfl,ps,vs,_,_,rfl,rfl,.inl (SqL.of C3.hps),by rw [Int.zero_add]; exact atI_nat evz,?_⟩
       refine ⟨_,rfl,a,dx,_,rfl,ha,rfl,_,rfl,_,rfl,pz,_,_,_,rfl,rfl,.inr hz,rfl,_,12,rfl,by decide,bdd,fun q r u Hr F sr hu => ?_⟩
       refine ⟨_,rfl,pz,_,_,_,rfl,rfl,.inr (sr.tup hz),rfl,_,rfl,_,1,psc,tm.scale,rfl,(S3.trans sr).tup hsc,ok.scale,(show (tm.sky[i].2.1).natAbs < 2 ^ 30 by omega),by decide,bdd,fun q1 Hw sw hq1 => ?_⟩
       refine ⟨_,rfl,pz,_,_,_,rfl,rfl,.inr (sw.tup (sr.tup hz)),rfl,_,rfl,_,1,psc,tm.scale,rfl,((S3.trans sr).trans sw).tup hsc,ok.scale,(show (tm.sky[i].2.2).natAbs < 2 ^ 30 by omega),by decide,bdd,fun q2 Hx sx hq2 => ?_⟩
       have s3x:=(sr.trans sw).trans sx
       have f12 : Ov 12 tm.sky[i].1 (nf tm.sky[i].1 12):=Ov.nf (by decide)
       have okw : ∀ x : Int,-200 ≤ x→x ≤ 200→OkF 100 (warmM x 1 tm.scale):=fun x h1 h2 => (warm_ok (n:=8) ok.scale (by decide) (show x.natAbs < 2 ^ 8 by omega) bdd).mono (by decide)
       refine ⟨a,fp3,_,i,.ref u,.ref q1,.ref q2,nf tm.sky[i].1 12,warmM tm.sky[i].2.1 1 tm.scale,warmM tm.sky[i].2.2 1 tm.scale,by rw [Int.zero_add]; rfl,hh3.same s3x,by omega,Dn.same (sw.trans sx) _ (fr_nf (by decide) F hu),Dn.same sx _ (dn_fr (SqT.of hq1)),dn_fr (SqT.of hq2),
         nf_ok (by decide) (show (tm.sky[i].1).natAbs < 2 ^ 100 by omega) bdd,okw _ (by omega) (by omega),okw _ (by omega) (by omega),?_,L2.Ov.nonneg (by decide) f12 oks.1.1,tw.skyFits (by omega) (by omega) f12 oks.1.2,fun H4 fp4 D4 => ?_⟩
       · rw [warm_under ok.scale (by decide)]
         exact decide_eq_false (by omega)
       · obtain ⟨S4,F4⟩:=D4.keep (S3.trans s3x) hF3
         have C4:=C0.same S4
         have esky : tm.skyStep (tm.m2 n i) i = (tm.m2 n i).setSky i (tm.skyAt tm.sky[i]):=by unfold ToldM.skyStep; rw [get_nat hsi]
         have tw4 : Tw (tm.skyStep (tm.m2 n i) i):=by rw [esky]; exact tw.sky (by omega) f12 oks.1.1 oks.1.2
         have rw4 : (tm.skyStep (tm.m2 n i) i).rows.length = n:=by rw [esky]; exact hn3
         have hh4 : HoldAt K Ad.Hold H4 a fp4 (tm.skyStep (tm.m2 n i) i):=by rw [esky]; exact D4.at_
         generalize hm4 : tm.skyStep (tm.m2 n i) i = m4 at tw4 rw4 hh4
         obtain ⟨vq,evq,dq⟩:=C4.dt.get (i:=i) (d:=stI tm.stoves[i]) (by rw [List.getElem?_map,get_nat hti]; rfl)
         refine ⟨_,rfl,p,_,rfl,tget_stoves C4.hp,_,rfl,pt,vt,_,_,rfl,rfl,.inl (SqL.of C4.hpt),by rw [Int.zero_add]; exact atI_nat evq,?_⟩
         refine ⟨fun σ' H5 => Same H H5∧(∃ fp,HoldAt K Ad.Hold H5 a fp (tm.stoveStep m4 i)∧∀ b ∈ fp,H b = none)∧(tm.stoveStep m4 i).rows.length = n∧Tw (tm.stoveStep m4 i)∧∃ y6 y7,σ' = [some (.ref p),some (.ref pb),some (.ref psc),some (.ref a),y4,some (.int (0 + (i : Int))),y6,y7,y8],?_,?_⟩
         · refine ⟨_,rfl,rfl,_,rfl,?_⟩
           cases est : tm.stoves[i] with
           | none =>
             rw [est] at dq
             have dq : vq = .non:=dq
             subst dq
             have es : tm.stoveStep m4 i = m4:=by unfold ToldM.stoveStep; rw [get_nat hti,est]
             rw [es]
             refine iteNS rfl ⟨S4,⟨fp4,hh4,F4⟩,rw4,tw4,_,_,rfl⟩
           | some z =>
             rw [est] at dq
             obtain ⟨pq,wq,rfl,hpq,t1,r1,rfl,e1,t2,r2,rfl,e2,t3,r3,rfl,e3,t4,r4,rfl,e4,e5⟩:=dq
             have e5 : r4 = []:=e5
             have e1 : t1 = .int z.1:=e1
             have e2 : t2 = .int z.2.1:=e2
             have e3 : t3 = .int z.2.2.1:=e3
             have e4 : t4 = .int z.2.2.2:=e4
             subst e1 e2 e3 e4 e5
             have hq4 : SqT K H4 pq [.int z.1,.int z.2.1,.int z.2.2.1,.int z.2.2.2]:=cut_same.tup hpq
             have okz:=ok.stoves z (by rw [← est]; exact List.getElem_mem hti)
             have hsc4 : SqT K H4 psc tm.scale.vs:=S4.tup hsc
             obtain ⟨⟨dx4,_,_,_,_,_,_,_,_,_,ha4,_⟩,_⟩:=id hh4
             refine iteNT nofun ⟨_,rfl,a,dx4,_,rfl,ha4,rfl,_,rfl,_,rfl,pq,_,_,_,rfl,rfl,.inr hq4,rfl,_,rfl,psc,_,_,_,rfl,rfl,.inr hsc4,rfl,_,_,rfl,rfl,⟨10,30,(show (z.1).natAbs < 2 ^ 10 by have:=okz.h; omega),ok.scale.ba,by decide⟩,fun yy ey => ?_⟩
             have hB : 0 < tm.scale.b:=by have:=ok.scale.b0; omega
             refine ⟨_,rfl,psc,_,_,_,rfl,rfl,.inr hsc4,rfl,yy,tm.scale.b,rfl,hB,ok.scale.bb.mono (by decide),fun q' r' u' Hr' F' sr' hu' => ?_⟩
             refine ⟨_,rfl,pq,_,_,_,rfl,rfl,.inr (sr'.tup hq4),rfl,_,rfl,pq,_,_,_,rfl,rfl,.inr (sr'.tup hq4),rfl,_,rfl,pq,_,_,_,rfl,rfl,.inr (sr'.tup hq4),rfl,?_⟩
             subst ey
             have bz : Bd 40 (z.1 * tm.scale.a):=Bd.mul (m:=10) (n:=30) (show (z.1).natAbs < 2 ^ 10 by have:=okz.h; omega) ok.scale.ba
             have ob : Ov tm.scale.b (z.1 * tm.scale.a) (nf (z.1 * tm.scale.a) tm.scale.b):=Ov.nf hB
             have es : tm.stoveStep m4 i = m4.setStove i (tm.stoveAt z):=by unfold ToldM.stoveStep; rw [get_nat hti,est]
             refine ⟨a,fp4,m4,i,.ref u',nf (z.1 * tm.scale.a) tm.scale.b,z.2.1,z.2.2.1,z.2.2.2,by rw [Int.zero_add]; rfl,hh4.same sr',by omega,fr_nf hB F' hu',nf_ok hB (bz.mono (by decide)) (ok.scale.bb.mono (by decide)),L2.Ov.nonneg hB ob (Int.mul_nonneg okz.h.1 (by have:=ok.scale.a0; omega)),okz.w,okz.s,okz.f,fun H5 fp5 D5 => ?_⟩
             obtain ⟨S5,F5⟩:=D5.keep (S4.trans sr') F4
             rw [es]
             exact ⟨S5,⟨fp5,D5.at_,F5⟩,rw4,tw4.stove,_,_,rfl⟩
         · rintro σ' H5 ⟨S5,⟨fp5,hh5,F5⟩,rw5,tw5,y6,y7,rfl⟩
           have C5:=C0.same S5
           refine ⟨_,rfl,p,_,rfl,tget_marks C5.hp,pm,vm,rfl,.inl (SqL.of C5.hpm),fun r' er' => ?_⟩
           obtain rfl : r' = (n : Int):=by rw [er',lvm]
           refine ⟨_,rfl,by omega,by omega,?_⟩
           generalize hm5 : tm.stoveStep m4 i = m5 at hh5 rw5 tw5
           refine for_rangeG (lo:=0) (n:=n) (fun j σ H6 => Same H H6∧(∃ fp,HoldAt K Ad.Hold H6 a fp (tm.flowsTo i m5 j)∧∀ b ∈ fp,H b = none)∧(tm.flowsTo i m5 j).rows.length = n∧Tw (tm.flowsTo i m5 j)∧∃ x8,σ = [some (.ref p),some (.ref pb),some (.ref psc),some (.ref a),y4,some (.int (0 + (i : Int))),y6,y7,x8])
             ⟨S5,⟨fp5,hh5,F5⟩,rw5,tw5,_,rfl⟩ ?_ ?_
           · rintro _ _ j σ H6 hj ⟨S6,⟨fp6,hh6,F6⟩,rw6,tw6,x8,rfl⟩
             refine ⟨_,rfl,_,rfl,rfl,_,rfl,?_⟩
             rw [ToldM.flowsTo_succ]
             generalize tm.flowsTo i m5 j = m6 at hh6 rw6 tw6
             refine ite4 (fun h => ?_) (fun h => ?_)
             · have hij : i ≠ j:=fun e => h (by rw [e])
               obtain ⟨kk,hk,k0,k3⟩:=ok.flows i j hi hj hij
               have C6:=C0.same S6
               obtain ⟨⟨dx6,_,_,_,_,_,_,_,_,_,ha6,_⟩,_⟩:=id hh6
               refine ⟨_,rfl,a,dx6,_,rfl,ha6,rfl,_,rfl,_,rfl,_,rfl,p,_,rfl,tget_flows C6.hp,_,rfl,_,rfl,sz2,fun kp hkp => ?_⟩
               have sk:=same_upd (o:=.tup [.int (0 + (i : Int)),.int (0 + (j : Int))]) hkp
               have hkey : (upd H6 kp (.tup [.int (0 + (i : Int)),.int (0 + (j : Int))])) kp = some (.tup ((fkey i j).map kV)):=by rw [upd_same,Int.zero_add,Int.zero_add]; rfl
               have hget : DGet (upd H6 kp (.tup [.int (0 + (i : Int)),.int (0 + (j : Int))])) pf (.ref kp) (some (.int kk)):=by
                 have:=DGet.t (k:=fkey i j) (sk _ _ C6.hpf) hkey
                 rw [C6.df i j (by omega) (by omega),hk] at this
                 exact this
               refine ⟨pf,.int kk,rfl,hget,kk,12,rfl,by decide,bdd,fun q' r' u' Hr' F' sr' hu' => ?_⟩
               have f12' : Ov 12 kk (nf kk 12):=Ov.nf (by decide)
               have sA:=sk.trans sr'
               refine ⟨a,fp6,m6,i,j,.ref u',nf kk 12,by rw [Int.zero_add,Int.zero_add]; rfl,hh6.same sA,by omega,by omega,hij,fr_nf (by decide) F' hu',nf_ok (by decide) (show kk.natAbs < 2 ^ 100 by omega) bdd,L2.Ov.nonneg (by decide) f12' k0,tw6.flowFits (by omega) (by omega) hij (by omega) f12' k3,fun H7 fp7 D7 => ?_⟩
               obtain ⟨S7,F7⟩:=D7.keep (S6.trans sA) F6
               have ef : tm.flowStep i m6 j = m6.setFlow i j (nf kk 12):=by unfold ToldM.flowStep; rw [if_neg hij.symm,hk]
               rw [ef]
               exact ⟨S7,⟨fp7,D7.at_,F7⟩,rw6,tw6.flow hij f12' k0 k3,_,rfl⟩
             · have hij : i = j:=by have:=int_inj.mp h; omega
               have ef : tm.flowStep i m6 j = m6:=by unfold ToldM.flowStep; rw [if_pos hij.symm]
               rw [ef]
               exact ⟨S6,⟨fp6,hh6,F6⟩,rw6,tw6,_,rfl⟩
           · rintro σ H6 ⟨S6,⟨fp6,hh6,F6⟩,rw6,tw6,x8,rfl⟩
             have e2 : tm.m2 n (i + 1) = tm.flowsTo i m5 n:=by rw [ToldM.m2_succ,← hm5,← hm4]; rfl
             rw [e2]
             exact ⟨S6,⟨fp6,hh6,F6⟩,rw6,tw6,_,_,_,_,_,rfl⟩
     · rintro σ H3 ⟨S3,⟨fp3,hh3,hF3⟩,hn3,tw,y4,y5,y6,y7,y8,rfl⟩
       exact ⟨_,rfl,k a H3 fp3 S3 hh3 hF3 hn3 tw⟩
theorem ok_has_room (T : Txt K mg Ad) : Def P w K mg base "has_room" 1 ["bits","room"] sp_has_room:=by
 refine T.d_has_room.def sc_has_room (fun vs H Q E h => ?_) (fun _ _ _ _ _ _ us hl => match us,hl with | [_,_],_ => rfl) (fun f _ _ _ s H vs Q E hr h => ?_)
 · obtain ⟨n,r,rfl,_⟩:=h
   rfl
 · obtain ⟨n,r,rfl,k⟩:=h
   refine ⟨_,(pss_one (ps_ret (pe_cmpR op_eq (pe_op op_modL (pe_op op_shrL (pv 0) (pv 1)) pe_int) pe_int (nomark _)))),?_⟩
   refine ⟨_,rfl,_,rfl,_,_,rfl,rfl,Int.natCast_nonneg _,fun s es => ⟨_,_,rfl,rfl,by decide,fun m _ _ em => ⟨rfl,?_⟩⟩⟩
   rw [shr_odd n r es em]
   exact k
theorem ok_with_room (T : Txt K mg Ad) : Def P w K mg base "with_room" 1 ["bits","room"] sp_with_room:=by
 refine T.d_with_room.def sc_with_room (fun vs H Q E h => ?_) (fun _ _ _ _ _ _ us hl => match us,hl with | [_,_],_ => rfl) (fun f _ _ _ s H vs Q E hr h => ?_)
 · obtain ⟨n,r,rfl,_⟩:=h
   rfl
 · obtain ⟨n,r,rfl,hr1,k⟩:=h
   refine ⟨_,(pss_one (ps_ret (pe_op op_orL (pv 0) (pe_op op_shlL pe_int (pv 1))))),?_⟩
   refine ⟨_,rfl,_,rfl,_,_,rfl,rfl,⟨Int.natCast_nonneg _,by omega,by decide⟩,fun s es => ⟨_,_,rfl,rfl,fun m em => ?_⟩⟩
   have e1 : s = ((2 ^ r : Nat) : Int):=by rw [es,Int.toNat_natCast,Int.one_mul,Int.natCast_pow]; rfl
   rw [em,e1,bitOr_nat]
   exact k
theorem ok_members (T : Txt K mg Ad) : Def P w K mg base "members" 2 ["bits"] sp_members:=by
 refine T.d_members.def sc_members (fun vs H Q E h => ?_) (fun _ _ _ _ _ _ us hl => match us,hl with | [_],_ => rfl) (fun f _ _ _ s H vs Q E hr h => ?_)
 · obtain ⟨n,rfl,_⟩:=h
   rfl
 · obtain ⟨n,rfl,hn,k⟩:=h
   refine ⟨_,(pss_one (ps_ret (pe_lc ["room"] ["bits"] [0] (.cons ⟨rfl,rfl,.inl rfl⟩ .nil) rfl (pi_range1 rfl T.n_range (pa_cons (pe_bm0 PySem.F.plainAttrs_int PySem.F.slot_int_bit_length PySem.F.type_int_bit_length mt_bitlen (pv 0)) pa_nil)) (fun _ _ _ _ _ => (pg_name (i:=0) (show (["room","bits"] : List Str).Nodup by decide +kernel) rfl (by first | exact Or.inl rfl | exact Or.inr rfl))) (fun _ _ _ _ _ => (pif_one (pt_val (pe_callD (ok_has_room T) (hr.mono (by decide)) (pa_cons (pv 1) (pa_cons (pv 0) pa_nil)))))) (fun _ _ _ _ _ => (pv 0)) rfl (by decide +kernel) (by decide +kernel) (by decide +kernel)))),?_⟩
   refine ⟨_,rfl,rfl,_,rfl,rfl,fun b eb => ?_⟩
   have hb : Builtin.Int.intBits (n : Int) ≤ 61:=PySem.intBits_le_iff.mpr (by simpa using hn)
   have hb2 : n < 2 ^ Builtin.Int.intBits (n : Int):=by
     have:=PySem.intBits_le_iff.mp (Nat.le_refl (Builtin.Int.intBits (n : Int)))
     simpa using this
   have eN : b.toNat = Builtin.Int.intBits (n : Int):=by omega
   refine ⟨b,rfl,by omega,by omega,fun D hD => ?_⟩
   refine comp_range (fun i acc σ H' => H' = upd H D (.lst acc)∧acc = ((List.range i).filter n.testBit).map natV∧∃ v,σ = [v,some (natV n)]) ⟨rfl,rfl,none,rfl⟩ ?_ ?_
   · rintro i acc σ H' hi ⟨rfl,rfl,v,rfl⟩
     refine ⟨_,rfl,_,rfl,n,i,(by show [_,_] = [_,_]; rw [Int.zero_add]; rfl),_,rfl,?_⟩
     have er : ((List.range (i + 1)).filter n.testBit).map natV = ((List.range i).filter n.testBit).map natV ++ (if n.testBit i = true then [natV i] else []):=by
       rw [List.range_succ,List.filter_append,List.map_append]
       by_cases q : n.testBit i = true <;> simp [q]
     by_cases q : n.testBit i = true
     · rw [q]
       refine iteT ⟨_,rfl,upd_same,?_,?_,?_,_,rfl⟩
       · have:=List.length_filter_le n.testBit (List.range i)
         rw [List.length_range] at this
         rw [List.length_map]
         exact small1000 (by omega)
       · rw [upd_upd]
       · rw [er,if_pos q,Int.zero_add]; rfl
     · rw [Bool.not_eq_true] at q
       rw [q]
       refine iteF ⟨rfl,?_,_,rfl⟩
       rw [er,q]; simp
   · rintro acc σ H' ⟨rfl,rfl,v,rfl⟩
     refine k D _ hD (same_upd hD) ?_
     rw [upd_same,eN,Bit.rooms_upto hb2 hb]
theorem ok_subsets (T : Txt K mg Ad) : Def P w K mg base "subsets" 3 ["bits"] sp_subsets:=by
 refine T.d_subsets.def sc_subsets (fun vs H Q E h => ?_) (fun _ _ _ _ _ _ us hl => match us,hl with | [_],_ => rfl) (fun f _ _ _ s H vs Q E hr h => ?_)
 · obtain ⟨n,rfl,_⟩:=h
   rfl
 · obtain ⟨n,rfl,hn,h8,k⟩:=h
   refine ⟨_,(pss_cons (ps_set (i:=1) sc_subsets.nd rfl (by first | exact Or.inl rfl | exact Or.inr rfl) (pe_lst (pa_cons pe_int pa_nil)))
     (pss_cons (ps_for PassesOwn.never rfl (pi_list (pe_callD (ok_members T) (hr.mono (by decide)) (pa_cons (pv 0) pa_nil))) (pg_name (i:=2) sc_subsets.nd rfl (by first | exact Or.inl rfl | exact Or.inr rfl)) (pss_one (ps_set (i:=1) sc_subsets.nd rfl (by first | exact Or.inl rfl | exact Or.inr rfl) (pe_op op_cat (pv 1) (pe_lc ["part"] ["room"] [2] (.cons ⟨rfl,rfl,.inl rfl⟩ .nil) rfl (pi_list (pv 1)) (fun _ _ _ _ _ => (pg_name (i:=0) (show (["part","room"] : List Str).Nodup by decide +kernel) rfl (by first | exact Or.inl rfl | exact Or.inr rfl))) (fun _ _ _ _ _ => pif_nil) (fun _ _ _ _ _ => (pe_callD (ok_with_room T) (hr.mono (by decide)) (pa_cons (pv 0) (pa_cons (pv 1) pa_nil)))) rfl (by decide +kernel) (by decide +kernel) (by decide +kernel))))))
     (pss_one (ps_ret (pv 1))))),?_⟩
   refine ⟨(by show 1 ≤ sizeLine; decide),fun p0 hp0 => ⟨_,rfl,n,rfl,hn,fun pm Hm hpm sm km => ⟨pm,rfl,⟨_,SqL.of km⟩,?_⟩⟩⟩
   have s0:=(same_upd (o:=.lst [.int 0]) hp0).trans sm
   refine for_list (K:=K) (a:=pm) (xs:=(Bit.rooms n).map natV) (fun i σ H' => Same Hm H'∧∃ (pp : Addr) (v : Option V),H pp = none∧σ = [some (natV n),some (.ref pp),v]∧H' pp = some (.lst ((Bit.parts ((Bit.rooms n).take i)).map natV)))
     ⟨Same.refl _,p0,none,hp0,rfl,sm _ _ upd_same⟩ (fun i σ H' _ ⟨s1,_⟩ => SqL.of (s1 _ _ km)) ?_ ?_
   · rintro i x σ H' hx ⟨s1,pp,v,hpp,rfl,kp⟩
     obtain ⟨r,er,rfl⟩:=get_natV hx
     have hil : i < (Bit.rooms n).length:=(List.getElem?_eq_some_iff.mp er).1
     have hr61 : r < 61:=(Bit.mem_rooms.mp (List.mem_of_getElem? er)).1
     have lenp : (Bit.parts ((Bit.rooms n).take i)).length ≤ 256:=by
       rw [(ok_take n i).len,List.length_take]
       exact Nat.le_trans (Nat.pow_le_pow_right (by decide) (by omega : min i (Bit.rooms n).length ≤ 8)) (by decide)
     have next : Bit.parts ((Bit.rooms n).take (i + 1)) = Bit.parts ((Bit.rooms n).take i) ++ (Bit.parts ((Bit.rooms n).take i)).map (· ||| 2 ^ r):=by
       rw [take_next er,parts_snoc]
     generalize Bit.parts ((Bit.rooms n).take i) = ps at *
     refine ⟨_,rfl,_,rfl,pp,rfl,⟨_,SqL.of kp⟩,fun D hD => ?_⟩
     have nD : pp ≠ D:=ne_of_none kp hD
     refine comp_list (K:=K) (a:=pp) (xs:=ps.map natV) (fun j acc σ' H2 => H2 = upd H' D (.lst acc)∧acc = (ps.take j).map (fun p => natV (p ||| 2 ^ r))∧∃ v,σ' = [v,some (natV r)]) ⟨rfl,rfl,none,rfl⟩
       (fun j acc σ' H2 _ ⟨e,_⟩ => by subst e; exact SqL.of (by rw [upd_ne nD]; exact kp)) ?_ ?_
     · rintro j y acc σ' H2 hy ⟨rfl,rfl,v2,rfl⟩
       obtain ⟨p,ep,rfl⟩:=get_natV hy
       refine ⟨_,rfl,_,rfl,p,r,rfl,by omega,upd_same,?_,?_,?_,_,rfl⟩
       · rw [List.length_map,List.length_take]; exact small1000 (by omega)
       · rw [upd_upd]
       · rw [take_next ep,List.map_append]; rfl
     · rintro acc σ' H2 ⟨rfl,rfl,v2,rfl⟩
       rw [List.length_map,List.take_length]
       refine ⟨pp,D,_,_,rfl,rfl,(by rw [upd_ne nD]; exact kp),upd_same,?_,fun q hq => ?_⟩
       · rw [List.length_map,List.length_map]; exact Nat.le_of_lt (small1000 (by omega))
       · have s2:=same_upd (o:=.lst (ps.map fun p => natV (p ||| 2 ^ r))) hD
         have s3:=same_upd (o:=.lst (ps.map natV ++ ps.map fun p => natV (p ||| 2 ^ r))) hq
         refine ⟨s1.trans (s2.trans s3),q,_,s0.free (s1.free (s2.free hq)),rfl,?_⟩
         rw [upd_same,next,List.map_append,List.map_map]; rfl
   · rintro σ H' ⟨s1,pp,v,hpp,rfl,kp⟩
     rw [List.length_map,List.take_length] at kp
     exact ⟨_,rfl,k pp H' hpp (s0.trans s1) kp⟩
theorem ok_how_many (T : Txt K mg Ad) : Def P w K mg base "how_many" 3 ["bits"] sp_how_many:=by
 refine T.d_how_many.def sc_how_many (fun vs H Q E h => ?_) (fun _ _ _ _ _ _ us hl => match us,hl with | [_],_ => rfl) (fun f _ _ _ s H vs Q E hr h => ?_)
 · obtain ⟨n,rfl,_⟩:=h
   rfl
 · obtain ⟨n,rfl,hn,k⟩:=h
   refine ⟨_,(pss_one (ps_ret (pe_callB call_lenL (by rfl) T.n_len bt_len (pa_cons (pe_callD (ok_members T) (hr.mono (by decide)) (pa_cons (pv 0) pa_nil)) pa_nil)))),?_⟩
   refine ⟨_,rfl,n,rfl,hn,fun pm Hm hpm sm km => ⟨pm,_,rfl,.inl (SqL.of km),fun y ey => ?_⟩⟩
   rw [List.length_map] at ey
   rw [ey]
   exact k Hm sm
theorem ok_bits_of (T : Txt K mg Ad) : Def P w K mg base "bits_of" 2 ["rooms"] (sp_bitsof K):=by
 refine T.d_bits_of.def sc_bits_of (fun vs H Q E h => ?_) (fun _ _ _ _ _ _ us hl => match us,hl with | [_],_ => rfl) (fun f _ _ _ s H vs Q E hr h => ?_)
 · obtain ⟨p,l,rfl,_⟩:=h
   rfl
 · obtain ⟨p,l,rfl,hp,hl,k⟩:=h
   refine ⟨_,(pss_cons (ps_set (i:=1) sc_bits_of.nd rfl (by first | exact Or.inl rfl | exact Or.inr rfl) pe_int)
     (pss_cons (ps_for PassesOwn.never rfl (pi_list (pv 0)) (pg_name (i:=2) sc_bits_of.nd rfl (by first | exact Or.inl rfl | exact Or.inr rfl)) (pss_one (ps_set (i:=1) sc_bits_of.nd rfl (by first | exact Or.inl rfl | exact Or.inr rfl) (pe_callD (ok_with_room T) (hr.mono (by decide)) (pa_cons (pv 1) (pa_cons (pv 2) pa_nil))))))
     (pss_one (ps_ret (pv 1))))),?_⟩
   refine ⟨_,rfl,p,rfl,⟨_,hp⟩,?_⟩
   refine for_list (K:=K) (a:=p) (xs:=l.map natV) (fun i σ H' => H' = H∧∃ v,σ = [some (.ref p),some (natV (Bit.sumOf (l.take i))),v]) ⟨rfl,none,rfl⟩ (fun i σ H' _ e => by rw [e.1]; exact hp) ?_ ?_
   · rintro i x σ H' hx ⟨rfl,v,rfl⟩
     obtain ⟨r,er,rfl⟩:=get_natV hx
     have en : Bit.sumOf (l.take (i + 1)) = Bit.sumOf (l.take i) ||| 2 ^ r:=by
       rw [take_next er]
       unfold Bit.sumOf
       rw [List.foldl_append]
       rfl
     exact ⟨_,rfl,_,rfl,_,r,rfl,hl r (List.mem_of_getElem? er),rfl,_,by rw [en]; rfl⟩
   · rintro σ H' ⟨rfl,v,rfl⟩
     rw [List.length_map,List.take_length]
     exact ⟨_,rfl,k⟩
theorem dec_int {i j : Int} : decide (V.int i = V.int j) = decide (i = j):=decide_eq_decide.mpr int_inj
theorem okg_fits_stove (T : Txt K mg Ad) : Def P w K mg base "fits_stove" 1 ["stove","fired","wait","failed"] (sp_fitsG K):=by
 refine T.d_fits_stove.def sc_fits_stove (fun vs H Q E h => ?_) (fun _ _ _ _ _ _ us hl => match us,hl with | [_,_,_,_],_ => rfl) (fun f _ _ _ s H vs Q E hr h => ?_)
 · obtain ⟨v,z,f,w,b,rfl,_⟩:=h
   rfl
 · obtain ⟨v,z,f,w',b,rfl,hd,k⟩:=h
   refine ⟨_,(pss_cons (ps_if (pt_cmpR op_isN (pv 0) pe_non (nomark _)) (pss_one (ps_ret (pe_and (pe_not (pv 1)) (pe_and (pe_cmpR op_eq (pv 2) pe_int (nomark _)) (pe_one (pe_cmpR op_eq (pv 3) pe_int (nomark _))))))) pss_nil)
     (pss_cons (ps_asg (pe_slice sl_tupF (pv 0) (po_some pe_int) po_none) (pg_tupK (K:=K) (n:=2) rfl rfl (pgs_cons (pg_name (i:=4) sc_fits_stove.nd rfl (by first | exact Or.inl rfl | exact Or.inr rfl)) (pgs_cons (pg_name (i:=5) sc_fits_stove.nd rfl (by first | exact Or.inl rfl | exact Or.inr rfl)) pgs_nil))))
     (pss_cons (ps_if (PW.pt (pw_or (pt_not (pt_chain op_le op_le pe_int (pv 2) (pv 4))) (pw_or1 (pt_not (pt_chain op_le op_le pe_int (pv 3) (pv 5)))))) (pss_one (ps_ret pe_bl)) pss_nil)
     (pss_one (ps_ret (pe_or (pe_cmpR op_eq (pv 3) pe_int (nomark _)) (pe_one (pe_and (pe_not (pv 1)) (pe_one (pe_cmpR op_eq (pv 2) pe_int (nomark _))))))))))),?_⟩
   cases z with
   | none =>
     have hd : v = .non:=hd
     subst hd
     have fin : ∀ x : Bool,x = (!f && (decide (w' = 0) && decide (b = 0)))→Q (.bl x) H:=fun x e => by rw [e]; exact k H (Same.refl _)
     refine ⟨_,rfl,rfl,_,rfl,iteP rfl ⟨_,rfl,_,rfl,_,rfl,?_⟩⟩
     cases f with
     | true => exact iteF (fin _ rfl)
     | false =>
       refine iteT ⟨_,rfl,rfl,_,rfl,ite3 (fun h => ⟨_,rfl,rfl,fin _ ?_⟩) (fun h => fin _ ?_)⟩
       · rw [dec_int,decide_eq_true (int_inj.mp h)]; rfl
       · rw [decide_eq_false (fun q => h (int_inj.mpr q))]; rfl
   | some z =>
     obtain ⟨p,v1,rfl,hp,_⟩:=hd.stove
     refine ⟨_,rfl,rfl,_,rfl,iteN nofun ?_⟩
     refine ⟨_,rfl,2,rfl,p,_,2,rfl,hp,rfl,rfl,by decide,(by show 2 ≤ 4; decide),fun q hq => ?_⟩
     refine ⟨q,_,rfl,SqT.of upd_same,rfl,_,_,rfl,_,_,rfl,rfl,?_⟩
     have s1:=same_upd (o:=.tup [V.int z.2.2.1,V.int z.2.2.2]) hq
     have fin : ∀ x : Bool,x = ((decide (0 ≤ w') && decide (w' ≤ z.2.2.1)) && ((decide (0 ≤ b) && decide (b ≤ z.2.2.2)) && (decide (b = 0) || (!f && decide (w' = 0)))))→Q (.bl x) (upd H q (.tup [V.int z.2.2.1,V.int z.2.2.2])):=fun x e => by rw [e]; exact k _ s1
     refine ⟨_,rfl,_,_,rfl,rfl,_,rfl,?_⟩
     by_cases h1 : 0 ≤ w'
     case neg => exact iteN h1 ⟨_,rfl,iteT (fin _ (by rw [decide_eq_false h1]; rfl))⟩
     refine iteP h1 ⟨_,rfl,_,_,rfl,rfl,_,rfl,ite4 (fun h2 => fin _ (by rw [decide_eq_false h2,Bool.and_false]; rfl)) (fun h2 => ?_)⟩
     refine ⟨_,rfl,_,_,rfl,rfl,_,rfl,?_⟩
     by_cases h3 : 0 ≤ b
     case neg => exact iteN h3 ⟨_,rfl,iteT (fin _ (by rw [decide_eq_false h3,Bool.false_and,Bool.false_and,Bool.and_false]))⟩
     refine iteP h3 ⟨_,rfl,_,_,rfl,rfl,_,rfl,ite4 (fun h4 => fin _ (by rw [decide_eq_false h4,Bool.and_false,Bool.false_and,Bool.and_false])) (fun h4 => ?_)⟩
     rw [decide_eq_true h1,decide_eq_true h2,decide_eq_true h3,decide_eq_true h4] at fin
     refine ⟨_,rfl,rfl,_,rfl,ite3 (fun h5 => fin _ ?_) (fun h5 => ?_)⟩
     · rw [decide_eq_true (int_inj.mp h5)]; rfl
     rw [decide_eq_false (fun q => h5 (int_inj.mpr q))] at fin
     refine ⟨_,rfl,_,rfl,_,rfl,?_⟩
     cases f with
     | true => exact iteF (fin _ rfl)
     | false => exact iteT ⟨_,rfl,rfl,fin _ (by rw [dec_int]; rfl)⟩
theorem okg_fits_room (T : Txt K mg Ad) : Def P w K mg base "fits_room" 5 ["hold","state","room"] (sp_roomG K Ad.Hold):=by
 refine T.d_fits_room.def sc_fits_room (fun vs H Q E h => ?_) (fun _ _ _ _ _ _ us hl => match us,hl with | [_,_,_],_ => rfl) (fun f _ _ _ s H vs Q E hr h => ?_)
 · obtain ⟨a,fp,m,p,g,i,rfl,_⟩:=h
   rfl
 · obtain ⟨a,fp,m,p,g,i,rfl,hh,hs,lb,lw,lf,hi,k⟩:=h
   refine ⟨_,(pss_cons (ps_asg (pv 1) (pg_tupK (K:=K) (n:=5) rfl rfl (pgs_cons (pg_name (i:=3) sc_fits_room.nd rfl (by first | exact Or.inl rfl | exact Or.inr rfl)) (pgs_cons (pg_name (i:=4) sc_fits_room.nd rfl (by first | exact Or.inl rfl | exact Or.inr rfl)) (pgs_cons (pg_name (i:=5) sc_fits_room.nd rfl (by first | exact Or.inl rfl | exact Or.inr rfl)) (pgs_cons (pg_name (i:=6) sc_fits_room.nd rfl (by first | exact Or.inl rfl | exact Or.inr rfl)) (pgs_cons (pg_name (i:=7) sc_fits_room.nd rfl (by first | exact Or.inl rfl | exact Or.inr rfl)) pgs_nil)))))))
     (pss_cons (ps_if (pt_not (pt_chain op_le op_lt pe_int (pe_ix ix_any (pv 3) (pv 2) (fun _ _ => rfl)) (pe_op op_subL (pe_callB call_lenL (by rfl) T.n_len bt_len (pa_cons (pe_methD (pv 0) T.cl_Hold (okm_Hold_marks T) .nil (hr.mono (by decide)) (pa_cons (pv 2) pa_nil)) pa_nil)) pe_int))) (pss_one (ps_ret pe_bl)) pss_nil)
     (pss_one (ps_ret (pe_callD (okg_fits_stove T) (hr.mono (by decide)) (pa_cons (pe_methD (pv 0) T.cl_Hold (okm_Hold_stove T) .nil (hr.mono (by decide)) (pa_cons (pv 2) pa_nil)) (pa_cons (pe_callD (ok_has_room T) (hr.mono (by decide)) (pa_cons (pv 4) (pa_cons (pv 2) pa_nil))) (pa_cons (pe_ix ix_any (pv 5) (pv 2) (fun _ _ => rfl)) (pa_cons (pe_ix ix_any (pv 6) (pv 2) (fun _ _ => rfl)) pa_nil))))))))),?_⟩
   obtain ⟨pb,pw,pf,e0,eb,ew,ef⟩:=id hs
   obtain ⟨⟨dx,_,_,_,_,_,_,_,_,_,ha,_⟩,q1,q2,q3,q4⟩:=id hh
   have hrow:=get_nat hi
   have erow : m.rows.getD i [] = m.rows[i]:=by rw [List.getD_eq_getElem?_getD,hrow]; rfl
   have hz:=stv_get (m:=m) (i:=i) (by omega)
   have enb : m.nb i = (m.rows[i].length : Int) - 1:=by unfold HoldM.nb; rw [erow]
   refine ⟨_,rfl,p,_,rfl,e0,rfl,_,_,rfl,_,_,rfl,_,_,rfl,_,_,rfl,_,_,rfl,rfl,?_⟩
   refine ⟨_,rfl,_,rfl,_,_,_,_,rfl,rfl,.inr eb,atI_getD (by omega),_,_,rfl,rfl,_,rfl,?_⟩
   have fin : ∀ x : Bool,x = roomB (m.nb i) (m.sv i) (g.bands.getD i 0) (g.burn.testBit i) (g.waits.getD i 0) (g.failed.getD i 0)→∀ H',Same H H'→Q (.bl x) H':=fun x e H' s' => by rw [e]; exact k H' s'
   unfold roomB at fin
   by_cases h1 : 0 ≤ g.bands.getD i 0
   case neg => exact iteN h1 ⟨_,rfl,iteT (fin _ (by rw [decide_eq_false h1]; rfl) _ (Same.refl _))⟩
   refine iteP h1 ?_
   refine ⟨_,rfl,a,dx,_,rfl,ha,rfl,_,rfl,a,fp,m,i,_,rfl,hh,hrow,fun pm xs hpm dx1 => ⟨pm,xs,rfl,.inl (SqL.of upd_same),fun y ey => ⟨_,_,rfl,rfl,fun z ez => ⟨_,_,rfl,rfl,_,rfl,?_⟩⟩⟩⟩
   have ez : z = m.nb i:=by rw [ez,ey,enb,dx1.length,List.length_map]
   subst ez
   have s1:=same_upd (o:=.lst xs) hpm
   refine ite4 (fun h2 => fin _ (by rw [decide_eq_false h2,Bool.and_false]; rfl) _ s1) (fun h2 => ?_)
   refine ⟨_,rfl,a,dx,_,rfl,s1 _ _ ha,rfl,_,rfl,a,fp,m,i,_,rfl,hh.same s1,hz,fun v dv => ?_⟩
   refine ⟨_,rfl,_,rfl,g.burn,i,rfl,?_⟩
   refine ⟨_,rfl,_,rfl,_,_,_,_,rfl,rfl,.inr (s1.tup ew),atI_getD (by omega),?_⟩
   refine ⟨_,rfl,_,rfl,_,_,_,_,rfl,rfl,.inr (s1.tup ef),atI_getD (by omega),?_⟩
   exact ⟨v,m.stv i,_,_,_,rfl,dv,fun H' s' => fin _ (by rw [decide_eq_true h1,decide_eq_true h2]; rfl) H' (s1.trans s')⟩
theorem okg_is_state (T : Txt K mg Ad) : Def P w K mg base "is_state" 6 ["hold","state"] (sp_isG K Ad.Hold):=by
 refine T.d_is_state.def sc_is_state (fun vs H Q E h => ?_) (fun _ _ _ _ _ _ us hl => match us,hl with | [_,_],_ => rfl) (fun f _ _ _ s H vs Q E hr h => ?_)
 · obtain ⟨a,fp,m,p,g,rfl,_⟩:=h
   rfl
 · obtain ⟨a,fp,m,p,g,rfl,hh,hs,hb16,k⟩:=h
   refine ⟨_,(pss_cons (ps_asg (pv 1) (pg_tupK (K:=K) (n:=5) rfl rfl (pgs_cons (pg_name (i:=2) sc_is_state.nd rfl (by first | exact Or.inl rfl | exact Or.inr rfl)) (pgs_cons (pg_name (i:=3) sc_is_state.nd rfl (by first | exact Or.inl rfl | exact Or.inr rfl)) (pgs_cons (pg_name (i:=4) sc_is_state.nd rfl (by first | exact Or.inl rfl | exact Or.inr rfl)) (pgs_cons (pg_name (i:=5) sc_is_state.nd rfl (by first | exact Or.inl rfl | exact Or.inr rfl)) (pgs_cons (pg_name (i:=6) sc_is_state.nd rfl (by first | exact Or.inl rfl | exact Or.inr rfl)) pgs_nil)))))))
     (pss_cons (ps_set (i:=7) sc_is_state.nd rfl (by first | exact Or.inl rfl | exact Or.inr rfl) (pe_methD0 (pv 0) T.cl_Hold (okm_Hold_many T) .nil (hr.mono (by decide))))
     (pss_cons (ps_if (PW.pt (pw_or (pt_cmpR op_ne (pe_callB call_lenL (by rfl) T.n_len bt_len (pa_cons (pv 2) pa_nil)) (pv 7) (nomark _)) (pw_or (pt_cmpR op_ne (pe_callB call_lenL (by rfl) T.n_len bt_len (pa_cons (pv 4) pa_nil)) (pv 7) (nomark _)) (pw_or1 (pt_cmpR op_ne (pe_callB call_lenL (by rfl) T.n_len bt_len (pa_cons (pv 5) pa_nil)) (pv 7) (nomark _)))))) (pss_one (ps_ret pe_bl)) pss_nil)
     (pss_cons (ps_if (PW.pt (pw_or (pt_cmpR op_ne (pe_op op_shrL (pv 3) (pv 7)) pe_int (nomark _)) (pw_or1 (pt_cmpR op_gt (pe_callD (ok_how_many T) (hr.mono (by decide)) (pa_cons (pv 3) pa_nil)) (pe_fld (pv 0) rfl) (nomark _))))) (pss_one (ps_ret pe_bl)) pss_nil)
     (pss_cons (ps_if (pt_not (pt_chain op_le op_le pe_int (pv 6) (pe_fld (pv 0) rfl))) (pss_one (ps_ret pe_bl)) pss_nil)
     (pss_one (ps_ret (pe_callB (call_allB rfl) (by rfl) T.n_all bt_all (pa_cons (pe_lc ["room"] ["hold","state"] [0,1] (.cons ⟨rfl,rfl,.inl rfl⟩ (.cons ⟨rfl,rfl,.inl rfl⟩ .nil)) rfl (pi_range1 rfl T.n_range (pa_cons (pv 7) pa_nil)) (fun _ _ _ _ _ => (pg_name (i:=0) (show (["room","hold","state"] : List Str).Nodup by decide +kernel) rfl (by first | exact Or.inl rfl | exact Or.inr rfl))) (fun _ _ _ _ _ => pif_nil) (fun _ _ _ _ _ => (pe_callD (okg_fits_room T) (hr.mono (by decide)) (pa_cons (pv 1) (pa_cons (pv 2) (pa_cons (pv 0) pa_nil))))) rfl (by decide +kernel) (by decide +kernel) (by decide +kernel)) pa_nil))))))))),?_⟩
   obtain ⟨pb,pw,pf,e0,eb,ew,ef⟩:=id hs
   obtain ⟨⟨dx,pm,pfl,psk,pst,vm,vs,vt,kvs,_,ha,_⟩,q1,q2,q3,q4⟩:=id hh
   have fin : ∀ x : Bool,x = isM m g→∀ H',Same H H'→Q (.bl x) H':=fun x e H' s' => by rw [e]; exact k H' s'
   unfold isM isB at fin
   refine ⟨_,rfl,p,_,rfl,e0,rfl,_,_,rfl,_,_,rfl,_,_,rfl,_,_,rfl,_,_,rfl,rfl,?_⟩
   refine ⟨_,rfl,a,dx,_,rfl,ha,rfl,a,fp,m,rfl,hh,?_⟩
   refine ⟨_,rfl,pb,_,rfl,.inr eb,fun y ey => ⟨_,rfl,rfl,_,rfl,?_⟩⟩
   rw [List.length_map] at ey
   by_cases c1 : g.bands.length = m.rows.length
   case neg => exact ite4 (fun _ => fin _ (by rw [decide_eq_false c1]; rfl) _ (Same.refl _)) (fun q => absurd (by have:=int_inj.mp q; omega) c1)
   refine iteNS (by rw [ey,c1]; rfl) ?_
   refine ⟨_,rfl,pw,_,rfl,.inr ew,fun y ey => ⟨_,rfl,rfl,_,rfl,?_⟩⟩
   rw [List.length_map] at ey
   by_cases c2 : g.waits.length = m.rows.length
   case neg => exact ite4 (fun _ => fin _ (by rw [decide_eq_false c2,Bool.false_and,Bool.and_false]; rfl) _ (Same.refl _)) (fun q => absurd (by have:=int_inj.mp q; omega) c2)
   refine iteNS (by rw [ey,c2]; rfl) ?_
   refine ⟨_,rfl,pf,_,rfl,.inr ef,fun y ey => ⟨_,rfl,rfl,_,rfl,?_⟩⟩
   rw [List.length_map] at ey
   by_cases c3 : g.failed.length = m.rows.length
   case neg => exact ite4 (fun _ => fin _ (by rw [decide_eq_false c3,Bool.and_false,Bool.and_false]; rfl) _ (Same.refl _)) (fun q => absurd (by have:=int_inj.mp q; omega) c3)
   refine iteNS (by rw [ey,c3]; rfl) ?_
   rw [decide_eq_true c1,decide_eq_true c2,decide_eq_true c3] at fin
   refine ⟨_,rfl,_,rfl,_,_,rfl,rfl,Int.natCast_nonneg _,fun s es => ⟨rfl,_,rfl,?_⟩⟩
   rw [Int.toNat_natCast] at es
   by_cases c4 : g.burn < 2 ^ m.rows.length
   case neg =>
     refine ite4 (fun _ => fin _ (by rw [decide_eq_false c4]; rfl) _ (Same.refl _)) (fun q => absurd (int_inj.mp q) ?_)
     rw [es]
     intro z
     refine c4 ?_
     have hp : (0 : Int) < 2 ^ m.rows.length:=Int.pow_pos (by decide)
     have e:=Int.emod_def (g.burn : Int) (2 ^ m.rows.length)
     have l:=Int.emod_lt_of_pos (g.burn : Int) hp
     rw [e,z,Int.mul_zero,Int.sub_zero] at l
     exact_mod_cast l
   refine iteNS ?_ ?_
   · rw [es]
     have : ((g.burn : Nat) : Int) / 2 ^ m.rows.length = 0:=Int.ediv_eq_zero_of_lt (Int.natCast_nonneg _) (by exact_mod_cast c4)
     rw [this]
   rw [decide_eq_true c4] at fin
   refine ⟨_,rfl,g.burn,rfl,hb16,fun H1 s1 => ⟨_,rfl,a,_,dx,_,_,rfl,s1 _ _ ha,T.cl_Hold,T.na_Hold_most,hfs_most ..,_,_,rfl,rfl,_,rfl,ite3 (fun c5 => ?_) (fun c5 => ?_)⟩⟩
   · exact fin _ (by rw [decide_eq_false (by omega : ¬ ((Bit.rooms g.burn).length : Int) ≤ m.most)]; rfl) _ s1
   rw [decide_eq_true (by omega : ((Bit.rooms g.burn).length : Int) ≤ m.most)] at fin
   refine ⟨_,rfl,_,_,rfl,rfl,_,rfl,?_⟩
   by_cases c6 : 0 ≤ g.heap
   case neg => exact iteN c6 ⟨_,rfl,iteT (fin _ (by rw [decide_eq_false c6]; rfl) _ s1)⟩
   refine iteP c6 ⟨_,rfl,a,_,dx,_,_,rfl,s1 _ _ ha,T.cl_Hold,T.na_Hold_cap,hfs_cap ..,_,_,rfl,rfl,_,rfl,ite4 (fun c7 => fin _ (by rw [decide_eq_false c7,Bool.and_false]; rfl) _ s1) (fun c7 => ?_)⟩
   rw [decide_eq_true c6,decide_eq_true c7] at fin
   refine ⟨_,rfl,_,rfl,by omega,by omega,fun D hD => ?_⟩
   refine comp_range (lo:=0) (n:=m.rows.length) (fun i acc σ H' => Same H1 H'∧H' D = some (.lst acc)∧acc = ((List.range i).map fun i => roomB (m.nb i) (m.sv i) (g.bands.getD i 0) (g.burn.testBit i) (g.waits.getD i 0) (g.failed.getD i 0)).map V.bl∧∃ v,σ = [v,some (.ref a),some (.ref p)]) ⟨same_upd hD,upd_same,rfl,none,rfl⟩ ?_ ?_
   · rintro i acc σ H' hi ⟨s2,hD2,rfl,v,rfl⟩
     refine ⟨_,rfl,_,rfl,_,rfl,a,fp,m,p,g,i,(by rw [Int.zero_add]; rfl),hh.same (s1.trans s2),hs.same (s1.trans s2),c1,c2,c3,hi,fun H3 s3 => ⟨s3 _ _ hD2,small1000 (by rw [List.length_map,List.length_map,List.length_range]; omega),(s2.trans s3).put hD,upd_same,?_,_,rfl⟩⟩
     rw [List.range_succ,List.map_append,List.map_append]; rfl
   · rintro acc σ H' ⟨s2,hD2,rfl,v,rfl⟩
     refine ⟨D,_,rfl,SqL.of hD2,fin _ ?_ H' (s1.trans s2)⟩
     rw [List.all_map]
     rfl
theorem ok_is_state (T : Txt K mg Ad) : Def P w K mg base "is_state" 6 ["hold","state"] (sp_is_state K Ad.Hold) :=
 let ⟨f,fd,a,b,c,d⟩:=okg_is_state (P:=P) (w:=w) (base:=base) T
 ⟨f,fd,a,b,c,d.imp fun _ _ _ _ ⟨a,fp,m,p,s,e,hh,hs,ok,k⟩ => ⟨a,fp,m,p,.of s,e,hh,hs.gs,Nat.lt_of_lt_of_le ok.burn (Nat.pow_le_pow_right (by decide) (by have:=hh.mx; omega)),fun H' s' => by rw [ok.isM]; exact k H' s'⟩⟩
theorem ok_look_at_state (T : Txt K mg Ad) : Def P w K mg base "look_at_state" 7 ["hold","state"] (sp_look_state K Ad.Hold):=by
 refine T.d_look_at_state.def sc_look_at_state (fun vs H Q E h => ?_) (fun _ _ _ _ _ _ us hl => match us,hl with | [_,_],_ => rfl) (fun f _ _ _ s H vs Q E hr h => ?_)
 · obtain ⟨a,fp,m,p,st,rfl,_⟩:=h
   rfl
 · obtain ⟨a,fp,m,p,st,rfl,hh,hs,ok,k⟩:=h
   refine ⟨_,(pss_one (ps_if (pt_not (pt_val (pe_callD (ok_is_state T) (hr.mono (by decide)) (pa_cons (pv 0) (pa_cons (pv 1) pa_nil))))) (pss_one ps_never) pss_nil)),?_⟩
   exact ⟨_,rfl,_,rfl,a,fp,m,p,st,rfl,hh,hs,ok,fun H' s' => ⟨_,rfl,iteF (k H' s')⟩⟩
theorem ok_with_stove (T : Txt K mg Ad) : Def P w K mg base "with_stove" 5 ["hold"] (sp_with_stove K Ad.Hold):=by
 refine T.d_with_stove.def sc_with_stove (fun vs H Q E h => ?_) (fun _ _ _ _ _ _ us hl => match us,hl with | [_],_ => rfl) (fun f _ _ _ s H vs Q E hr h => ?_)
 · obtain ⟨a,fp,m,rfl,_⟩:=h
   rfl
 · obtain ⟨a,fp,m,rfl,hh,k⟩:=h
   refine ⟨_,(pss_one (ps_ret (pe_callD (ok_bits_of T) (hr.mono (by decide)) (pa_cons (pe_lc ["room"] ["hold"] [0] (.cons ⟨rfl,rfl,.inl rfl⟩ .nil) rfl (pi_range1 rfl T.n_range (pa_cons (pe_methD0 (pv 0) T.cl_Hold (okm_Hold_many T) .nil (hr.mono (by decide))) pa_nil)) (fun _ _ _ _ _ => (pg_name (i:=0) (show (["room","hold"] : List Str).Nodup by decide +kernel) rfl (by first | exact Or.inl rfl | exact Or.inr rfl))) (fun _ _ _ _ _ => (pif_one (pt_cmpR op_notN (pe_methD (pv 1) T.cl_Hold (okm_Hold_stove T) .nil (hr.mono (by decide)) (pa_cons (pv 0) pa_nil)) pe_non (nomark _)))) (fun _ _ _ _ _ => (pv 0)) rfl (by decide +kernel) (by decide +kernel) (by decide +kernel)) pa_nil)))),?_⟩
   obtain ⟨⟨dx,pm,pfl,psk,pst,vm,vs,vt,kvs,_,ha,_⟩,q1,q2,q3,q4⟩:=id hh
   refine ⟨_,rfl,a,dx,_,rfl,ha,rfl,a,fp,m,rfl,hh,_,rfl,by omega,by omega,fun D hD => ?_⟩
   refine comp_range (lo:=0) (n:=m.rows.length) (fun i acc σ H' => Same H H'∧H' D = some (.lst acc)∧acc = ((List.range i).filter m.has).map natV∧∃ v,σ = [v,some (.ref a)]) ⟨same_upd hD,upd_same,rfl,none,rfl⟩ ?_ ?_
   · rintro i acc σ H' hi ⟨s1,hD1,rfl,v,rfl⟩
     have hz:=stv_get (m:=m) (i:=i) (by omega)
     have er : ((List.range (i + 1)).filter m.has).map natV = ((List.range i).filter m.has).map natV ++ (if m.has i = true then [natV i] else []):=by
       rw [List.range_succ,List.filter_append,List.map_append]
       by_cases q : m.has i = true <;> simp [q]
     have la:=List.length_filter_le m.has (List.range i)
     rw [List.length_range] at la
     refine ⟨_,rfl,a,dx,_,rfl,s1 _ _ ha,rfl,_,rfl,a,fp,m,i,_,(by rw [Int.zero_add]; rfl),hh.same s1,hz,fun v dv => ⟨rfl,_,rfl,?_⟩⟩
     cases e : m.stv i with
     | none =>
       rw [e] at dv
       have dv : v = .non:=dv
       have hn : m.has i = false:=by unfold HoldM.has; rw [e]; rfl
       refine iteNS dv ⟨s1,hD1,?_,_,rfl⟩
       rw [er,hn]; simp
     | some z =>
       rw [e] at dv
       obtain ⟨pz,_,rfl,_⟩:=dv.stove
       have hn : m.has i = true:=by unfold HoldM.has; rw [e]; rfl
       refine iteNT nofun ⟨_,rfl,hD1,small1000 (by rw [List.length_map]; omega),s1.put hD,upd_same,?_,_,rfl⟩
       rw [er,hn,Int.zero_add]; rfl
   · rintro acc σ H' ⟨s1,hD1,rfl,v,rfl⟩
     exact ⟨D,(List.range m.rows.length).filter m.has,rfl,SqL.of hD1,fun r hr => by have:=List.mem_range.mp (List.mem_filter.mp hr).1; omega,k H' s1⟩
theorem ok_wood_of (T : Txt K mg Ad) : Def P w K mg base "wood_of" 6 ["hold","bits"] (sp_wood_of K Ad.Hold):=by
 refine T.d_wood_of.def sc_wood_of (fun vs H Q E h => ?_) (fun _ _ _ _ _ _ us hl => match us,hl with | [_,_],_ => rfl) (fun f _ _ _ s H vs Q E hr h => ?_)
 · obtain ⟨a,fp,m,b,rfl,_⟩:=h
   rfl
 · obtain ⟨a,fp,m,b,rfl,hh,k⟩:=h
   refine ⟨_,(pss_one (ps_ret (pe_callB (call_sumL rfl) (by rfl) T.n_sum bt_sum (pa_cons (pe_lc ["room"] ["hold"] [0] (.cons ⟨rfl,rfl,.inl rfl⟩ .nil) rfl (pi_list (pe_callD (ok_members T) (hr.mono (by decide)) (pa_cons (pe_op op_andL (pv 1) (pe_callD (ok_with_stove T) (hr.mono (by decide)) (pa_cons (pv 0) pa_nil))) pa_nil))) (fun _ _ _ _ _ => (pg_name (i:=0) (show (["room","hold"] : List Str).Nodup by decide +kernel) rfl (by first | exact Or.inl rfl | exact Or.inr rfl))) (fun _ _ _ _ _ => pif_nil) (fun _ _ _ _ _ => (pe_ix (ix_anyK (K:=K) rfl) (pe_methD (pv 1) T.cl_Hold (okm_Hold_stove T) .nil (hr.mono (by decide)) (pa_cons (pv 0) pa_nil)) pe_int (fun _ _ => rfl))) rfl (by decide +kernel) (by decide +kernel) (by decide +kernel)) pa_nil)))),?_⟩
   obtain ⟨⟨dx,pm,pfl,psk,pst,vm,vs,vt,kvs,_,ha,_⟩,q1,q2,q3,q4⟩:=id hh
   refine ⟨_,rfl,_,rfl,a,fp,m,rfl,hh,fun H1 s1 => ⟨_,_,rfl,rfl,fun y ey => ⟨b &&& m.ws,(by rw [ey,bitAnd_nat]; rfl),?_,fun pl Hm hpl sm km => ⟨pl,rfl,⟨_,SqL.of km⟩,fun D hD => ?_⟩⟩⟩⟩
   · exact Nat.lt_of_le_of_lt Nat.and_le_right (Nat.lt_trans (ws_lt q3) (by decide))
   have S1:=s1.trans sm
   have lr:=rooms_len (b &&& m.ws)
   have nD : pl ≠ D:=ne_of_none km hD
   refine comp_list (K:=K) (a:=pl) (xs:=(Bit.rooms (b &&& m.ws)).map natV) (fun j acc σ H' => Same Hm H'∧H' D = some (.lst acc)∧acc = (((Bit.rooms (b &&& m.ws)).take j).map m.wd).map V.int∧∃ v,σ = [v,some (.ref a)])
     ⟨same_upd hD,upd_same,rfl,none,rfl⟩ (fun j acc σ H' _ e => SqL.of (e.1 _ _ km)) ?_ ?_
   · rintro j x acc σ H' hx ⟨s2,hD2,rfl,v,rfl⟩
     obtain ⟨r,er,rfl⟩:=get_natV hx
     have hm:=(Bit.mem_rooms.mp (List.mem_of_getElem? er)).2
     rw [Nat.testBit_and,HoldM.ws,Ord.bit_set,Bool.and_eq_true,Bool.and_eq_true,decide_eq_true_eq] at hm
     obtain ⟨_,hr1,hr2⟩:=hm
     obtain ⟨z,ez⟩:=Option.isSome_iff_exists.mp hr2
     have hz:=stv_get (m:=m) (i:=r) (by omega)
     have hj : j < (Bit.rooms (b &&& m.ws)).length:=(List.getElem?_eq_some_iff.mp er).1
     refine ⟨_,rfl,a,dx,_,rfl,(S1.trans s2) _ _ ha,rfl,_,rfl,a,fp,m,r,_,rfl,hh.same (S1.trans s2),hz,fun u du => ?_⟩
     rw [ez] at du
     obtain ⟨pz,v1,rfl,hpz,_⟩:=du.stove
     refine ⟨pz,_,_,_,rfl,rfl,.inr hpz,rfl,hD2,small1000 (by rw [List.length_map,List.length_map,List.length_take]; omega),s2.put hD,upd_same,?_,_,rfl⟩
     rw [take_next er,List.map_append,List.map_append]
     have : m.wd r = z.2.1:=by unfold HoldM.wd; rw [ez]; rfl
     show _ = _ ++ [V.int (m.wd r)]
     rw [this]
   · rintro acc σ H' ⟨s2,hD2,rfl,v,rfl⟩
     rw [List.length_map,List.take_length] at hD2
     refine ⟨D,_,rfl,SqL.of hD2,fun r er => ?_⟩
     rw [er]
     exact k H' (S1.trans s2)
theorem ok_must_stay (T : Txt K mg Ad) : Def P w K mg base "must_stay" 3 ["state"] (sp_must_stay K):=by
 refine T.d_must_stay.def sc_must_stay (fun vs H Q E h => ?_) (fun _ _ _ _ _ _ us hl => match us,hl with | [_],_ => rfl) (fun f _ _ _ s H vs Q E hr h => ?_)
 · obtain ⟨p,st,rfl,_⟩:=h
   rfl
 · obtain ⟨p,st,rfl,hs,l4,k⟩:=h
   refine ⟨_,(pss_one (ps_ret (pe_callD (ok_bits_of T) (hr.mono (by decide)) (pa_cons (pe_lc ["room","wait"] [] [] .nil rfl (pi_enT rfl T.n_enumerate (pa_cons (pe_ix ix_any (pv 0) pe_int (fun _ _ => rfl)) pa_nil)) (fun _ _ _ _ _ => (pg_tupK (K:=K) (n:=2) rfl rfl (pgs_cons (pg_name (i:=0) (show (["room","wait"] : List Str).Nodup by decide +kernel) rfl (by first | exact Or.inl rfl | exact Or.inr rfl)) (pgs_cons (pg_name (i:=1) (show (["room","wait"] : List Str).Nodup by decide +kernel) rfl (by first | exact Or.inl rfl | exact Or.inr rfl)) pgs_nil)))) (fun _ _ _ _ _ => (pif_one (pt_cmpR op_gt (pv 1) pe_int (nomark _)))) (fun _ _ _ _ _ => (pv 0)) rfl (by decide +kernel) (by decide +kernel) (by decide +kernel)) pa_nil)))),?_⟩
   obtain ⟨pb,pw,pf,e0,eb,ew,ef⟩:=id hs
   refine ⟨_,rfl,p,_,_,_,rfl,rfl,.inr e0,rfl,pw,rfl,⟨_,ew⟩,fun D hD => ?_⟩
   refine comp_en (sq:=SqT K) (a:=pw) (xs:=st.waits.map natV) (fun i acc σ H' => Same H H'∧H' D = some (.lst acc)∧acc = ((List.range i).filter st.wt).map natV∧∃ v0 v1,σ = [v0,v1])
     ⟨same_upd hD,upd_same,rfl,none,none,rfl⟩ (fun i acc σ H' _ e => e.1.tup ew) ?_ ?_
   · rintro i x pp acc σ H' hx hpp ⟨s1,hD1,rfl,v0,v1,rfl⟩
     obtain ⟨wv,ewv,rfl⟩:=get_natV hx
     have hi : i < st.waits.length:=(List.getElem?_eq_some_iff.mp ewv).1
     have eg : gN st.waits i = wv:=by unfold gN; rw [ewv]; rfl
     have s2 : Same H' (upd H' pp (.tup [natV i,natV wv])):=same_upd hpp
     have nD : D ≠ pp:=ne_of_none hD1 hpp
     have hD2:=s2 _ _ hD1
     have la:=List.length_filter_le st.wt (List.range i)
     rw [List.length_range] at la
     refine ⟨pp,_,rfl,SqT.of upd_same,rfl,_,_,rfl,_,_,rfl,rfl,?_⟩
     refine ⟨_,rfl,_,_,rfl,rfl,_,rfl,ite3 (fun h => ?_) (fun h => ?_)⟩
     · have hw : st.wt i = true:=by unfold StM.wt; rw [eg]; exact decide_eq_true (by omega)
       refine ⟨_,rfl,hD2,small1000 (by rw [List.length_map]; omega),(s1.trans s2).put hD,upd_same,?_,_,_,rfl⟩
       rw [List.range_succ,List.filter_append,List.map_append]
       simp [hw]
     · have hw : st.wt i = false:=by unfold StM.wt; rw [eg]; exact decide_eq_false (by omega)
       refine ⟨s1.trans s2,hD2,?_,_,_,rfl⟩
       rw [List.range_succ,List.filter_append,List.map_append]
       simp [hw]
   · rintro acc σ H' ⟨s1,hD1,rfl,v0,v1,rfl⟩
     rw [List.length_map] at hD1
     exact ⟨D,(List.range st.waits.length).filter st.wt,rfl,SqL.of hD1,fun r hr => by have:=List.mem_range.mp (List.mem_filter.mp hr).1; omega,k H' s1⟩
theorem ok_can_burn (T : Txt K mg Ad) : Def P w K mg base "can_burn" 7 ["hold","order","heap"] (sp_can_burn K Ad.Hold):=by
 refine T.d_can_burn.def sc_can_burn (fun vs H Q E h => ?_) (fun _ _ _ _ _ _ us hl => match us,hl with | [_,_,_],_ => rfl) (fun f _ _ _ s H vs Q E hr h => ?_)
 · obtain ⟨a,fp,m,o,hp,rfl,_⟩:=h
   rfl
 · obtain ⟨a,fp,m,o,hp,rfl,hh,ho,k⟩:=h
   refine ⟨_,(pss_one (ps_ret (pe_and (pe_cmpR op_le (pe_callD (ok_how_many T) (hr.mono (by decide)) (pa_cons (pv 1) pa_nil)) (pe_fld (pv 0) rfl) (nomark _)) (pe_one (pe_cmpR op_le (pe_callD (ok_wood_of T) (hr.mono (by decide)) (pa_cons (pv 0) (pa_cons (pv 1) pa_nil))) (pv 2) (nomark _)))))),?_⟩
   obtain ⟨⟨dx,pm,pfl,psk,pst,vm,vs,vt,kvs,_,ha,_⟩,q1,q2,q3,q4⟩:=id hh
   refine ⟨_,rfl,o,rfl,ho,fun H1 s1 => ⟨_,rfl,a,_,dx,_,_,rfl,s1 _ _ ha,T.cl_Hold,T.na_Hold_most,hfs_most ..,_,_,rfl,rfl,_,rfl,ite3 (fun h => ?_) (fun h => ?_)⟩⟩
   · refine ⟨_,rfl,_,rfl,a,fp,m,o,rfl,hh.same s1,fun H2 s2 => ⟨_,rfl,_,_,rfl,rfl,?_⟩⟩
     have e : m.can o hp = decide (m.wood o ≤ hp):=by unfold HoldM.can; rw [decide_eq_true h,Bool.true_and]
     have:=k H2 (s1.trans s2)
     rw [e] at this
     exact this
   · have e : m.can o hp = false:=by unfold HoldM.can; rw [decide_eq_false h,Bool.false_and]
     have:=k H1 s1
     rw [e] at this
     exact this
theorem ok_orders_of (T : Txt K mg Ad) : Def P w K mg base "orders_of" 8 ["hold","state"] (sp_orders_of K Ad.Hold):=by
 refine T.d_orders_of.def sc_orders_of (fun vs H Q E h => ?_) (fun _ _ _ _ _ _ us hl => match us,hl with | [_,_],_ => rfl) (fun f _ _ _ s H vs Q E hr h => ?_)
 · obtain ⟨a,fp,m,p,st,rfl,_⟩:=h
   rfl
 · obtain ⟨a,fp,m,p,st,rfl,hh,hs,ok,k⟩:=h
   refine ⟨_,(pss_cons (ps_expr (pe_callD (ok_look_at_state T) (hr.mono (by decide)) (pa_cons (pv 0) (pa_cons (pv 1) pa_nil))))
     (pss_cons (ps_set (i:=2) sc_orders_of.nd rfl (by first | exact Or.inl rfl | exact Or.inr rfl) (pe_callD (ok_must_stay T) (hr.mono (by decide)) (pa_cons (pv 1) pa_nil)))
     (pss_cons (ps_set (i:=3) sc_orders_of.nd rfl (by first | exact Or.inl rfl | exact Or.inr rfl) (pe_op op_andL (pe_ix ix_any (pv 1) pe_int (fun _ _ => rfl)) (pv 2)))
     (pss_one (ps_ret (pe_lc ["order"] ["going_on","hold","held","state"] [3,0,2,1] (.cons ⟨rfl,rfl,.inl rfl⟩ (.cons ⟨rfl,rfl,.inl rfl⟩ (.cons ⟨rfl,rfl,.inl rfl⟩ (.cons ⟨rfl,rfl,.inl rfl⟩ .nil)))) rfl (pi_list (pe_callD (ok_subsets T) (hr.mono (by decide)) (pa_cons (pe_callD (ok_with_stove T) (hr.mono (by decide)) (pa_cons (pv 0) pa_nil)) pa_nil))) (fun _ _ _ _ _ => (pg_name (i:=0) (show (["order","going_on","hold","held","state"] : List Str).Nodup by decide +kernel) rfl (by first | exact Or.inl rfl | exact Or.inr rfl))) (fun _ _ _ _ _ => (pif_one (PW.pt (pw_and (pt_cmpR op_eq (pe_op op_andL (pv 0) (pv 3)) (pv 1) (nomark _)) (pw_and1 (pt_val (pe_callD (ok_can_burn T) (hr.mono (by decide)) (pa_cons (pv 2) (pa_cons (pv 0) (pa_cons (pe_ix (ix_anyK (K:=K) rfl) (pv 4) pe_int (fun _ _ => rfl)) pa_nil)))))))))) (fun _ _ _ _ _ => (pv 0)) rfl (by decide +kernel) (by decide +kernel) (by decide +kernel))))))),?_⟩
   obtain ⟨pb,pw,pf,e0,eb,ew,ef⟩:=id hs
   obtain ⟨⟨dx,pm,pfl,psk,pst,vm,vs,vt,kvs,_,ha,_⟩,q1,q2,q3,q4⟩:=id hh
   refine ⟨_,rfl,_,rfl,a,fp,m,p,st,rfl,hh,hs,ok,fun H1 s1 => ?_⟩
   refine ⟨_,rfl,p,st,rfl,hs.same s1,by rw [ok.lw]; exact q3,fun H2 s2 => ?_⟩
   have S2:=s1.trans s2
   refine ⟨_,rfl,p,_,_,_,rfl,rfl,.inr (S2.tup e0),rfl,_,rfl,_,_,rfl,rfl,fun go ego => ?_⟩
   obtain rfl : go = ((st.burn &&& st.held : Nat) : Int):=by rw [ego,bitAnd_nat]
   have hw16:=ws_lt q3
   have hwl : (Bit.rooms m.ws).length ≤ 8:=by
     rw [HoldM.ws,Ord.rooms_set _ (by omega)]
     have:=List.length_filter_le m.has (List.range m.rows.length)
     rw [List.length_range] at this
     omega
   refine ⟨_,rfl,a,fp,m,rfl,hh.same S2,fun H3 s3 => ⟨m.ws,rfl,Nat.lt_trans hw16 (by decide),hwl,fun pl Hm hpl sm km => ⟨pl,rfl,⟨_,SqL.of km⟩,fun D hD => ?_⟩⟩⟩
   have S3:=(S2.trans s3).trans sm
   have lp : (Bit.parts (Bit.rooms m.ws)).length ≤ 16:=by
     rw [Ord.parts16 _ hw16]
     exact Nat.le_trans (List.length_filter_le _ _) (by rw [List.length_range]; decide)
   have lt16 : ∀ o ∈ Bit.parts (Bit.rooms m.ws),o < 16:=fun o h => by
     rw [Ord.parts16 _ hw16] at h
     exact List.mem_range.mp (List.mem_filter.mp h).1
   generalize hps : Bit.parts (Bit.rooms m.ws) = ps at lp lt16 km
   refine comp_list (K:=K) (a:=pl) (xs:=ps.map natV) (fun j acc σ H' => Same Hm H'∧H' D = some (.lst acc)∧acc = ((ps.take j).filter (st.okP m)).map natV∧∃ v,σ = [v,some (natV (st.burn &&& st.held)),some (.ref a),some (natV st.held),some (.ref p)])
     ⟨same_upd hD,upd_same,rfl,none,rfl⟩ (fun j acc σ H' _ e => SqL.of (e.1 _ _ km)) ?_ ?_
   · rintro j x acc σ H' hx ⟨s4,hD4,rfl,v,rfl⟩
     obtain ⟨o,eo,rfl⟩:=get_natV hx
     have ho:=lt16 o (List.mem_of_getElem? eo)
     have la:=List.length_filter_le (st.okP m) (ps.take j)
     rw [List.length_take] at la
     refine ⟨_,rfl,_,rfl,_,_,rfl,rfl,fun y ey => ⟨_,rfl,rfl,_,rfl,?_⟩⟩
     obtain rfl : y = ((o &&& st.held : Nat) : Int):=by rw [ey,bitAnd_nat]
     have er : ((ps.take (j + 1)).filter (st.okP m)).map natV = ((ps.take j).filter (st.okP m)).map natV ++ (if st.okP m o = true then [natV o] else []):=by
       rw [take_next eo,List.filter_append,List.map_append]
       cases q : st.okP m o <;> simp [q]
     refine ite3 (fun h => ?_) (fun h => ?_)
     · have h : o &&& st.held = st.burn &&& st.held:=by have:=int_inj.mp h; omega
       have ep : st.okP m o = m.can o st.heap:=by unfold StM.okP; rw [decide_eq_true h,Bool.true_and]
       refine ⟨_,rfl,_,rfl,_,rfl,p,_,_,_,rfl,rfl,.inr ((S3.trans s4).tup e0),rfl,a,fp,m,o,_,rfl,hh.same (S3.trans s4),Nat.lt_trans ho (by decide),fun H5 s5 => ⟨_,rfl,?_⟩⟩
       cases q : m.can o st.heap with
       | true =>
         refine iteT ⟨_,rfl,s5 _ _ hD4,small1000 (by rw [List.length_map]; omega),(s4.trans s5).put hD,upd_same,?_,_,rfl⟩
         rw [er,ep,q]; rfl
       | false =>
         refine iteF ⟨s4.trans s5,s5 _ _ hD4,?_,_,rfl⟩
         rw [er,ep,q]; simp
     · have h : ¬ (o &&& st.held = st.burn &&& st.held):=fun e => h (by rw [e]; rfl)
       have ep : st.okP m o = false:=by unfold StM.okP; rw [decide_eq_false h,Bool.false_and]
       refine iteF ⟨s4,hD4,?_,_,rfl⟩
       rw [er,ep]; simp
   · rintro acc σ H' ⟨s4,hD4,rfl,v,rfl⟩
     rw [List.length_map,List.take_length] at hD4
     refine k D H' (S3.free hD) (S3.trans s4) ?_
     rw [hD4,← hps]
     rfl
def sp_in : Sp:=fun vs H Q _ => ∃ n r : Nat,vs = [natV n,natV r]∧Q (.bl (n.testBit r)) H
theorem ok_law_state_by (T : Txt K mg Ad) : Def P w K mg base "_law_state_by" 2 ["_law_told","_law_cell","_law_k"] (sp_state_by K):=by
 refine T.d_law_state_by.def sc_law_state_by (fun vs H Q E h => ?_) (fun _ _ _ _ _ _ us hl => match us,hl with | [_,_,_],_ => rfl) (fun f _ _ _ s H vs Q E hr h => ?_)
 · obtain ⟨p,tm,n,c,kk,rfl,_⟩:=h
   rfl
 · obtain ⟨p,tm,n,c,kk,rfl,hT,ok,n4,hk,k⟩:=h
   refine ⟨_,(pss_cons (ps_set (i:=3) sc_law_state_by.nd rfl (by first | exact Or.inl rfl | exact Or.inr rfl) (pe_lst pa_nil))
     (pss_cons (ps_set (i:=4) sc_law_state_by.nd rfl (by first | exact Or.inl rfl | exact Or.inr rfl) (pe_lst pa_nil))
     (pss_cons (ps_set (i:=5) sc_law_state_by.nd rfl (by first | exact Or.inl rfl | exact Or.inr rfl) (pe_lst pa_nil))
     (pss_cons (ps_set (i:=6) sc_law_state_by.nd rfl (by first | exact Or.inl rfl | exact Or.inr rfl) pe_int)
     (pss_cons (ps_set (i:=7) sc_law_state_by.nd rfl (by first | exact Or.inl rfl | exact Or.inr rfl) pe_int)
     (pss_cons (ps_for PassesOwn.never rfl (pi_range1 rfl T.n_range (pa_cons (pe_callB call_lenL (by rfl) T.n_len bt_len (pa_cons (pe_dget (hu_of hr) (pv 0) pe_str (fun _ _ => rfl)) pa_nil)) pa_nil)) (pg_name (i:=8) sc_law_state_by.nd rfl (by first | exact Or.inl rfl | exact Or.inr rfl)) (pss_cons (ps_set (i:=9) sc_law_state_by.nd rfl (by first | exact Or.inl rfl | exact Or.inr rfl) (pe_ix ix_any (pe_dget (hu_of hr) (pv 0) pe_str (fun _ _ => rfl)) (pv 8) (fun _ _ => rfl)))
     (pss_cons (ps_set (i:=10) sc_law_state_by.nd rfl (by first | exact Or.inl rfl | exact Or.inr rfl) pe_int)
     (pss_cons (ps_set (i:=11) sc_law_state_by.nd rfl (by first | exact Or.inl rfl | exact Or.inr rfl) pe_int)
     (pss_cons (ps_cut (ps_if (pt_cmpR op_notN (pv 9) pe_non (nomark _)) (pss_cons (ps_set (i:=10) sc_law_state_by.nd rfl (by first | exact Or.inl rfl | exact Or.inr rfl) (pe_callD (ok_law_pick T) (hr.mono (by decide)) (pa_cons (pv 1) (pa_cons (pe_op op_addL (pe_op op_addL (pv 2) pe_int) (pv 8)) (pa_cons (pe_op op_addL (pe_ix ix_any (pv 9) pe_int (fun _ _ => rfl)) pe_int) pa_nil)))))
     (pss_one (ps_if (PW.pt (pw_and (pt_cmpR op_eq (pe_callD (ok_law_pick T) (hr.mono (by decide)) (pa_cons (pv 1) (pa_cons (pe_op op_addL (pe_op op_addL (pv 2) pe_int) (pv 8)) (pa_cons pe_int pa_nil)))) pe_int (nomark _)) (pw_and1 (pt_cmpR op_lt (pv 7) (pe_ix ix_any (pe_dget (hu_of hr) (pv 0) pe_str (fun _ _ => rfl)) pe_int (fun _ _ => rfl)) (nomark _))))) (pss_cons (ps_set (i:=6) sc_law_state_by.nd rfl (by first | exact Or.inl rfl | exact Or.inr rfl) (pe_op op_addL (pv 6) (pe_ix ix_any (pe_lst (pa_cons pe_int (pa_cons pe_int (pa_cons pe_int (pa_cons pe_int pa_nil))))) (pv 8) (fun _ _ => rfl))))
     (pss_one (ps_set (i:=7) sc_law_state_by.nd rfl (by first | exact Or.inl rfl | exact Or.inr rfl) (pe_op op_addL (pv 7) pe_int)))) (pss_one (ps_if (pt_cmpR op_eq (pv 10) pe_int (nomark _)) (pss_one (ps_set (i:=11) sc_law_state_by.nd rfl (by first | exact Or.inl rfl | exact Or.inr rfl) (pe_callD (ok_law_pick T) (hr.mono (by decide)) (pa_cons (pv 1) (pa_cons (pe_op op_addL (pe_op op_addL (pv 2) pe_int) (pv 8)) (pa_cons (pe_op op_addL (pe_ix ix_any (pv 9) pe_int (fun _ _ => rfl)) pe_int) pa_nil)))))) pss_nil))))) pss_nil))
     (pss_cons (ps_expr (pe_bm PySem.F.plainAttrs_list PySem.F.slot_list_append PySem.F.type_list_append mt_append (pv 3) (pa_cons (pe_callD (ok_law_pick T) (hr.mono (by decide)) (pa_cons (pv 1) (pa_cons (pe_op op_addL (pv 2) (pv 8)) (pa_cons (pe_op op_subL (pe_callB call_lenL (by rfl) T.n_len bt_len (pa_cons (pe_ix ix_any (pe_dget (hu_of hr) (pv 0) pe_str (fun _ _ => rfl)) (pv 8) (fun _ _ => rfl)) pa_nil)) pe_int) pa_nil)))) pa_nil)))
     (pss_cons (ps_expr (pe_bm PySem.F.plainAttrs_list PySem.F.slot_list_append PySem.F.type_list_append mt_append (pv 4) (pa_cons (pv 10) pa_nil)))
     (pss_one (ps_expr (pe_bm PySem.F.plainAttrs_list PySem.F.slot_list_append PySem.F.type_list_append mt_append (pv 5) (pa_cons (pv 11) pa_nil)))))))))))
     (pss_one (ps_ret (pe_tup (pa_cons (pe_callTy call_tuple_of (by rfl) T.n_tuple bt_tuple (pa_cons (pv 3) pa_nil)) (pa_cons (pv 6) (pa_cons (pe_callTy call_tuple_of (by rfl) T.n_tuple bt_tuple (pa_cons (pv 4) pa_nil)) (pa_cons (pe_callTy call_tuple_of (by rfl) T.n_tuple bt_tuple (pa_cons (pv 5) pa_nil)) (pa_cons (pe_callD (ok_law_pick T) (hr.mono (by decide)) (pa_cons (pv 1) (pa_cons (pe_op op_addL (pv 2) pe_int) (pa_cons (pe_op op_addL (pe_ix ix_any (pe_dget (hu_of hr) (pv 0) pe_str (fun _ _ => rfl)) pe_int (fun _ _ => rfl)) pe_int) pa_nil)))) pa_nil)))))))))))))),?_⟩
   obtain ⟨pm,ps,pt,pf,psc,pb,vm,vs,vt,kvs,C0⟩:=id hT
   have lvm : vm.length = n:=by rw [C0.dm.length,List.length_map,ok.lm]
   have hbo : SqT K H pb [.int tm.bounds.1,.int tm.bounds.2.1,.int tm.bounds.2.2]:=cut_same.tup C0.bo
   refine ⟨sz0,fun lb hlb => ⟨sz0,fun lw hlw => ⟨sz0,fun lf hlf => ?_⟩⟩⟩
   have sb:=same_upd (o:=.lst []) hlb
   have sw:=same_upd (o:=.lst []) hlw
   have sf:=same_upd (o:=.lst []) hlf
   have S0:=sb.trans (sw.trans sf)
   have C1:=C0.same S0
   have nbw : lb ≠ lw:=ne_of_none upd_same hlw
   have nbf : lb ≠ lf:=ne_of_none (sw _ _ upd_same) hlf
   have nwf : lw ≠ lf:=ne_of_none upd_same hlf
   have ew0 : H lw = none:=sb.free hlw
   have ef0 : H lf = none:=sb.free (sw.free hlf)
   refine ⟨_,rfl,p,_,rfl,tget_marks C1.hp,pm,vm,rfl,.inl (SqL.of C1.hpm),fun r er => ?_⟩
   obtain rfl : r = (n : Int):=by rw [er,lvm]
   refine ⟨_,rfl,by omega,by omega,?_⟩
   refine for_rangeG (lo:=0) (n:=n) (fun i σ H' => Same H H'∧∃ bs ws fs : List Nat,∃ b : Nat,H' lb = some (.lst (bs.map natV))∧H' lw = some (.lst (ws.map natV))∧H' lf = some (.lst (fs.map natV))∧Part tm n i bs ws fs b ∧
     ∃ v8 v9 v10 v11 : Option V,σ = [some (.ref p),some (.int c),some (natV kk),some (.ref lb),some (.ref lw),some (.ref lf),some (natV b),some (natV (Bit.rooms b).length),v8,v9,v10,v11])
     ⟨S0,[],[],[],0,sf _ _ (sw _ _ upd_same),sf _ _ upd_same,upd_same,Part.zero ok,none,none,none,none,rfl⟩ ?_ ?_
   · rintro _ _ i σ H1 hi ⟨S1,bs,ws,fs,b,eb,ew,ef,pt1,v8,v9,v10,v11,rfl⟩
     have C1:=C0.same S1
     have hti : i < tm.stoves.length:=by rw [ok.lt]; exact hi
     have him : i < tm.marks.length:=by rw [ok.lm]; exact hi
     have esv:=stv_m2 ok hi
     rw [get_nat hti] at esv
     obtain ⟨vq,evq,dq⟩:=C1.dt.get (i:=i) (d:=stI tm.stoves[i]) (by rw [List.getElem?_map,get_nat hti]; rfl)
     refine ⟨_,rfl,p,_,rfl,tget_stoves C1.hp,_,rfl,pt,vt,_,_,rfl,rfl,.inl (SqL.of C1.hpt),by rw [Int.zero_add]; exact atI_nat evq,?_⟩
     refine ⟨fun σ' H' => Same H H'∧H' lb = some (.lst (bs.map natV))∧H' lw = some (.lst (ws.map natV))∧H' lf = some (.lst (fs.map natV))∧∃ (lit : Bool) (w' f' : Nat),FitsM ((tm.m2 n n).stv i) lit w' f'∧(lit = true→((Bit.rooms b).length : Int) < tm.bounds.1) ∧
       σ' = [some (.ref p),some (.int c),some (natV kk),some (.ref lb),some (.ref lw),some (.ref lf),some (natV (if lit then b + 2 ^ i else b)),some (natV ((Bit.rooms b).length + if lit then 1 else 0)),some (.int (0 + (i : Int))),some vq,some (natV w'),some (natV f')],?_,?_⟩
     · refine ⟨_,rfl,rfl,_,rfl,?_⟩
       cases est : tm.stoves[i] with
       | none =>
         rw [est] at dq esv
         have dq : vq = .non:=dq
         subst dq
         exact iteNS rfl ⟨S1,eb,ew,ef,false,0,0,by rw [esv]; exact ⟨rfl,rfl,rfl⟩,nofun,rfl⟩
       | some z =>
         rw [est] at dq esv
         obtain ⟨pq,wq,rfl,hpq,t1,r1,rfl,e1,t2,r2,rfl,e2,t3,r3,rfl,e3,t4,r4,rfl,e4,e5⟩:=dq
         have e5 : r4 = []:=e5
         have e1 : t1 = .int z.1:=e1
         have e2 : t2 = .int z.2.1:=e2
         have e3 : t3 = .int z.2.2.1:=e3
         have e4 : t4 = .int z.2.2.2:=e4
         subst e1 e2 e3 e4 e5
         have hq4 : SqT K H1 pq [.int z.1,.int z.2.1,.int z.2.2.1,.int z.2.2.2]:=cut_same.tup hpq
         have okz:=ok.stoves z (by rw [← est]; exact List.getElem_mem hti)
         have oks:=okz.s
         have okf:=okz.f
         refine iteNT nofun ⟨_,rfl,_,rfl,_,_,rfl,rfl,fun x1 g1 => ⟨_,rfl,_,_,rfl,rfl,fun x2 g2 => ⟨_,rfl,pq,_,_,_,rfl,rfl,.inr hq4,rfl,_,_,rfl,rfl,fun x3 g3 => ⟨_,x2,x3,rfl,by omega,by omega,by omega,fun w0 w00 w01 => ?_⟩⟩⟩⟩
         obtain ⟨wn,rfl⟩ : ∃ wn : Nat,w0 = (wn : Int):=⟨w0.toNat,by omega⟩
         refine ⟨_,rfl,_,rfl,_,_,rfl,rfl,fun x4 g4 => ⟨_,rfl,_,_,rfl,rfl,fun x5 g5 => ⟨_,x5,2,rfl,by omega,by omega,by decide,fun r0 r00 r01 => ⟨rfl,_,rfl,?_⟩⟩⟩⟩
         have sky' : (wn : Int) ≤ (tm.stoveAt z).2.2.1:=by show (wn : Int) ≤ z.2.2.1; omega
         refine ite3 (fun h1 => ?_) (fun h1 => iteF ?_)
         · refine ⟨_,rfl,_,rfl,p,_,rfl,tget_bounds C1.hp,pb,_,_,_,rfl,rfl,.inr (S1.tup hbo),rfl,_,_,rfl,rfl,_,rfl,ite3 (fun h2 => ?_) (fun h2 => ?_)⟩
           · refine ⟨_,rfl,sz4,fun q hq => ?_⟩
             have sq:=same_upd (o:=.lst [V.int 1,V.int 2,V.int 4,V.int 8]) hq
             have pw2 : atI [V.int 1,V.int 2,V.int 4,V.int 8] (0 + (i : Int)) = some (.int ((2 ^ i : Nat) : Int)):=by
               have : i = 0 ∨ i = 1 ∨ i = 2 ∨ i = 3:=by omega
               rcases this with rfl | rfl | rfl | rfl <;> rfl
             refine ⟨_,rfl,q,_,_,_,rfl,rfl,.inl (SqL.of upd_same),pw2,_,_,rfl,rfl,fun y1 f1 => ⟨_,rfl,_,_,rfl,rfl,fun y2 f2 => ?_⟩⟩
             obtain rfl : y1 = ((b + 2 ^ i : Nat) : Int):=by rw [f1]; push_cast; rfl
             obtain rfl : y2 = (((Bit.rooms b).length + 1 : Nat) : Int):=by rw [f2]; push_cast; rfl
             exact ⟨S1.trans sq,sq _ _ eb,sq _ _ ew,sq _ _ ef,true,wn,0,by rw [esv]; exact ⟨sky',okf.1,.inl rfl⟩,fun _ => h2,rfl⟩
           · refine ⟨_,rfl,rfl,_,rfl,ite3 (fun hw => ⟨_,rfl,_,rfl,_,_,rfl,rfl,fun x6 g6 => ⟨_,rfl,_,_,rfl,rfl,fun x7 g7 => ⟨_,rfl,pq,_,_,_,rfl,rfl,.inr hq4,rfl,_,_,rfl,rfl,fun x8 g8 => ⟨_,x7,x8,rfl,by omega,by omega,by omega,fun fv f0 f1 => ?_⟩⟩⟩⟩) (fun hw => ⟨S1,eb,ew,ef,false,wn,0,by rw [esv]; exact ⟨sky',okf.1,.inl rfl⟩,nofun,rfl⟩)⟩
             obtain ⟨fn,rfl⟩ : ∃ fn : Nat,fv = (fn : Int):=⟨fv.toNat,by omega⟩
             have hw0 : wn = 0:=by have:=int_inj.mp hw; omega
             exact ⟨S1,eb,ew,ef,false,wn,fn,by rw [esv]; exact ⟨sky',(by show (fn : Int) ≤ z.2.2.2; omega),.inr ⟨rfl,hw0⟩⟩,nofun,rfl⟩
         · refine ⟨_,rfl,rfl,_,rfl,ite3 (fun hw => ⟨_,rfl,_,rfl,_,_,rfl,rfl,fun x6 g6 => ⟨_,rfl,_,_,rfl,rfl,fun x7 g7 => ⟨_,rfl,pq,_,_,_,rfl,rfl,.inr hq4,rfl,_,_,rfl,rfl,fun x8 g8 => ⟨_,x7,x8,rfl,by omega,by omega,by omega,fun fv f0 f1 => ?_⟩⟩⟩⟩) (fun hw => ⟨S1,eb,ew,ef,false,wn,0,by rw [esv]; exact ⟨sky',okf.1,.inl rfl⟩,nofun,rfl⟩)⟩
           obtain ⟨fn,rfl⟩ : ∃ fn : Nat,fv = (fn : Int):=⟨fv.toNat,by omega⟩
           have hw0 : wn = 0:=by have:=int_inj.mp hw; omega
           exact ⟨S1,eb,ew,ef,false,wn,fn,by rw [esv]; exact ⟨sky',(by show (fn : Int) ≤ z.2.2.2; omega),.inr ⟨rfl,hw0⟩⟩,nofun,rfl⟩
     · rintro σ' H2 ⟨S2,eb2,ew2,ef2,lit,w',f',fit,lim,rfl⟩
       have C2:=C0.same S2
       have okr:=ok.rows tm.marks[i] (List.getElem_mem him)
       have l2:=okr.two
       have l7 : tm.marks[i].length ≤ 7:=by have:=okr.most; split at this <;> omega
       have b63 : i < 61:=by omega
       have lb':=pt1.lb
       have lw':=pt1.lw
       have lf':=pt1.lf
       obtain ⟨v,ev,pk,ws',rfl,hpk,dws⟩:=C2.dm.get (i:=i) (d:=rowI tm.marks[i]) (by rw [List.getElem?_map,get_nat him]; rfl)
       obtain rfl:=dn_ints_inv dws
       have hlk : SqL K H2 pk (tm.marks[i].map V.int):=cut_same.seq hpk
       refine ⟨_,rfl,.inl ⟨rfl,_,SqL.of eb2⟩,_,rfl,_,rfl,_,rfl,_,_,rfl,rfl,fun x1 g1 => ?_⟩
       refine ⟨_,rfl,p,_,rfl,tget_marks C2.hp,_,rfl,pm,vm,_,_,rfl,rfl,.inl (SqL.of C2.hpm),(by rw [Int.zero_add]; exact atI_nat ev),pk,_,rfl,.inl hlk,fun y ey => ⟨_,_,rfl,rfl,fun z ez => ?_⟩⟩
       rw [List.length_map] at ey
       refine ⟨_,x1,z,rfl,by omega,by omega,by omega,fun r r0 r1 => ?_⟩
       obtain ⟨x,rfl⟩ : ∃ x : Nat,r = (x : Int):=⟨r.toNat,by omega⟩
       refine ⟨lb,_,_,rfl,rfl,eb2,small1000 (by rw [List.length_map]; omega),?_⟩
       have s3 : upd H2 lb (.lst (bs.map natV ++ [V.int (x : Int)])) lb = some (.lst ((bs ++ [x]).map natV)):=by rw [upd_same,List.map_append]; rfl
       have S3 : Same H (upd H2 lb (.lst (bs.map natV ++ [V.int (x : Int)]))):=S2.put hlb
       have ew3 : upd H2 lb (.lst (bs.map natV ++ [V.int (x : Int)])) lw = some (.lst (ws.map natV)):=by rw [upd_ne nbw.symm]; exact ew2
       have ef3 : upd H2 lb (.lst (bs.map natV ++ [V.int (x : Int)])) lf = some (.lst (fs.map natV)):=by rw [upd_ne nbf.symm]; exact ef2
       generalize upd H2 lb (.lst (bs.map natV ++ [V.int (x : Int)])) = H3 at s3 S3 ew3 ef3 ⊢
       refine ⟨_,rfl,.inl ⟨rfl,_,SqL.of ew3⟩,_,rfl,lw,_,_,rfl,rfl,ew3,small1000 (by rw [List.length_map]; omega),?_⟩
       have s4 : upd H3 lw (.lst (ws.map natV ++ [natV w'])) lw = some (.lst ((ws ++ [w']).map natV)):=by rw [upd_same,List.map_append]; rfl
       have S4 : Same H (upd H3 lw (.lst (ws.map natV ++ [natV w']))):=S3.put ew0
       have eb4 : upd H3 lw (.lst (ws.map natV ++ [natV w'])) lb = some (.lst ((bs ++ [x]).map natV)):=by rw [upd_ne nbw]; exact s3
       have ef4 : upd H3 lw (.lst (ws.map natV ++ [natV w'])) lf = some (.lst (fs.map natV)):=by rw [upd_ne nwf.symm]; exact ef3
       generalize upd H3 lw (.lst (ws.map natV ++ [natV w'])) = H4 at s4 S4 eb4 ef4 ⊢
       refine ⟨_,rfl,.inl ⟨rfl,_,SqL.of ef4⟩,_,rfl,lf,_,_,rfl,rfl,ef4,small1000 (by rw [List.length_map]; omega),?_⟩
       obtain ⟨nx1,nx2⟩:=pt1.next (x:=x) b63 (by rw [List.getD_eq_getElem?_getD,get_nat him]; show x + 1 < tm.marks[i].length; omega) fit lim
       refine ⟨S4.put ef0,bs ++ [x],ws ++ [w'],fs ++ [f'],_,?_,?_,?_,nx1,_,_,_,_,by rw [nx2]⟩
       · rw [upd_ne nbf]; exact eb4
       · rw [upd_ne nwf]; exact s4
       · rw [upd_same,List.map_append]; rfl
   · rintro σ H1 ⟨S1,bs,ws,fs,b,eb,ew,ef,pt1,v8,v9,v10,v11,rfl⟩
     have lb':=pt1.lb
     have lw':=pt1.lw
     have lf':=pt1.lf
     refine ⟨_,rfl,lb,_,rfl,.inl ⟨SqL.of eb,fun kb hkb => ?_⟩⟩
     have s1:=same_upd (o:=.tup (bs.map natV)) hkb
     refine ⟨_,rfl,_,rfl,lw,_,rfl,.inl ⟨SqL.of (s1 _ _ ew),fun kw hkw => ?_⟩⟩
     have s2:=same_upd (o:=.tup (ws.map natV)) hkw
     refine ⟨_,rfl,lf,_,rfl,.inl ⟨SqL.of ((s1.trans s2) _ _ ef),fun kf hkf => ?_⟩⟩
     have s3:=same_upd (o:=.tup (fs.map natV)) hkf
     have S3:=S1.trans (s1.trans (s2.trans s3))
     have C3:=C0.same S3
     refine ⟨_,rfl,_,rfl,_,_,rfl,rfl,fun x1 g1 => ?_⟩
     refine ⟨_,rfl,p,_,rfl,tget_bounds C3.hp,pb,_,_,_,rfl,rfl,.inr (S3.tup hbo),rfl,_,_,rfl,rfl,fun y ey => ?_⟩
     have hb2:=ok.bounds.2.1
     refine ⟨_,x1,y,rfl,by omega,by omega,by omega,fun r r0 r1 => ⟨(by show 5 ≤ sizeLine; decide),fun q hq => ?_⟩⟩
     obtain ⟨hp,rfl⟩ : ∃ hp : Nat,r = (hp : Int):=⟨r.toNat,by omega⟩
     have s4 : Same _ _:=same_upd (o:=.tup [.ref kb,natV b,.ref kw,.ref kf,natV hp]) hq
     exact k q ⟨bs,b,ws,fs,hp⟩ _ (S3.trans s4) ⟨kb,kw,kf,SqT.of upd_same,SqT.of (s4 _ _ (s3 _ _ (s2 _ _ upd_same))),SqT.of (s4 _ _ (s3 _ _ upd_same)),SqT.of (s4 _ _ upd_same)⟩ (pt1.ok ok (by omega))
theorem ok_heeded (T : Txt K mg Ad) : Def P w K mg base "heeded" 8 ["hold","state","wish"] (sp_heeded K Ad.Hold):=by
 refine T.d_heeded.def sc_heeded (fun vs H Q E h => ?_) (fun _ _ _ _ _ _ us hl => match us,hl with | [_,_,_],_ => rfl) (fun f _ _ _ s H vs Q E hr h => ?_)
 · obtain ⟨a,fp,m,p,st,wish,rfl,_⟩:=h
   rfl
 · obtain ⟨a,fp,m,p,st,wish,rfl,hh,hs,ok,k1,k0⟩:=h
   refine ⟨_,(pss_cons (ps_expr (pe_callD (ok_look_at_state T) (hr.mono (by decide)) (pa_cons (pv 0) (pa_cons (pv 1) pa_nil))))
     (pss_cons (ps_set (i:=3) sc_heeded.nd rfl (by first | exact Or.inl rfl | exact Or.inr rfl) (pe_callD (ok_must_stay T) (hr.mono (by decide)) (pa_cons (pv 1) pa_nil)))
     (pss_cons (ps_set (i:=4) sc_heeded.nd rfl (by first | exact Or.inl rfl | exact Or.inr rfl) (pe_op op_andL (pe_ix ix_any (pv 1) pe_int (fun _ _ => rfl)) (pv 3)))
     (pss_cons (ps_if (pt_cmpR op_gt (pe_callD (ok_wood_of T) (hr.mono (by decide)) (pa_cons (pv 0) (pa_cons (pv 4) pa_nil))) (pe_ix ix_any (pv 1) pe_int (fun _ _ => rfl)) (nomark _)) (pss_one (ps_ret pe_non)) pss_nil)
     (pss_cons (ps_for PassesOwn.never rfl (pi_list (pe_callD (ok_members T) (hr.mono (by decide)) (pa_cons (pe_op op_andL (pe_op op_andL (pv 2) (pe_callD (ok_with_stove T) (hr.mono (by decide)) (pa_cons (pv 0) pa_nil))) (pe_un un_inv (pv 3))) pa_nil))) (pg_name (i:=5) sc_heeded.nd rfl (by first | exact Or.inl rfl | exact Or.inr rfl)) (pss_cons (ps_set (i:=6) sc_heeded.nd rfl (by first | exact Or.inl rfl | exact Or.inr rfl) (pe_callD (ok_with_room T) (hr.mono (by decide)) (pa_cons (pv 4) (pa_cons (pv 5) pa_nil))))
     (pss_one (ps_if (pt_val (pe_callD (ok_can_burn T) (hr.mono (by decide)) (pa_cons (pv 0) (pa_cons (pv 6) (pa_cons (pe_ix ix_any (pv 1) pe_int (fun _ _ => rfl)) pa_nil))))) (pss_one (ps_set (i:=4) sc_heeded.nd rfl (by first | exact Or.inl rfl | exact Or.inr rfl) (pv 6))) pss_nil))))
     (pss_one (ps_ret (pv 4)))))))),?_⟩
   obtain ⟨pb,pw,pf,e0,eb,ew,ef⟩:=id hs
   obtain ⟨⟨dx,pm,pfl,psk,pst,vm,vs,vt,kvs,_,ha,_⟩,q1,q2,q3,q4⟩:=id hh
   refine ⟨_,rfl,_,rfl,a,fp,m,p,st,rfl,hh,hs,ok,fun H1 s1 => ?_⟩
   refine ⟨_,rfl,p,st,rfl,hs.same s1,by rw [ok.lw]; exact q3,fun H2 s2 => ?_⟩
   have S2:=s1.trans s2
   refine ⟨_,rfl,p,_,_,_,rfl,rfl,.inr (S2.tup e0),rfl,_,rfl,_,_,rfl,rfl,fun go ego => ?_⟩
   rw [held_of ok] at *
   obtain rfl : go = (((hdOf m st).first : Nat) : Int):=by rw [ego,bitAnd_nat]; rfl
   refine ⟨_,rfl,_,rfl,a,fp,m,(hdOf m st).first,rfl,hh.same S2,fun H3 s3 => ?_⟩
   have S3:=S2.trans s3
   refine ⟨_,rfl,p,_,_,_,rfl,rfl,.inr (S3.tup e0),rfl,_,_,rfl,rfl,_,rfl,ite3 (fun h => ?_) (fun h => ?_)⟩
   · exact k0 (fun q => by have q : m.wood (hdOf m st).first ≤ (st.heap : Int):=q; omega) H3 S3
   have hf : (hdOf m st).wood (hdOf m st).first ≤ (st.heap : Int):=by show m.wood (hdOf m st).first ≤ _; omega
   refine ⟨_,rfl,_,rfl,a,fp,m,rfl,hh.same S3,fun H4 s4 => ?_⟩
   refine ⟨_,_,rfl,rfl,fun y ey => ⟨_,rfl,_,rfl,_,_,rfl,rfl,fun y2 ey2 => ?_⟩⟩
   obtain rfl : y = ((wish &&& m.ws : Nat) : Int):=by rw [ey,bitAnd_nat]
   obtain rfl : y2 = ((Ord.off (wish &&& m.ws) (hdOf m st).held : Nat) : Int):=by rw [ey2,bitAnd_off]
   have x16 : wish &&& m.ws < 16:=Nat.lt_of_le_of_lt Nat.and_le_right (ws_lt q3)
   have z16 : Ord.off (wish &&& m.ws) (hdOf m st).held < 2 ^ 4:=Ord.off_lt (n:=4) x16
   have f16 : (hdOf m st).first < 2 ^ 4:=Nat.lt_of_le_of_lt Nat.and_le_right (Ord.pow16 q3 (Ord.set_lt _ _))
   have ego2 : (hdOf m st).go wish = (Bit.rooms (Ord.off (wish &&& m.ws) (hdOf m st).held)).foldl (hdOf m st).step (hdOf m st).first:=rfl
   rw [ego2] at k1
   generalize Ord.off (wish &&& m.ws) (hdOf m st).held = z at z16 k1
   refine ⟨z,rfl,Nat.lt_trans z16 (by decide),fun pl Hm hpl sm km => ⟨pl,rfl,⟨_,SqL.of km⟩,?_⟩⟩
   have S4:=(S3.trans s4).trans sm
   refine for_list (K:=K) (a:=pl) (xs:=(Bit.rooms z).map natV) (fun i σ H' => Same Hm H'∧((Bit.rooms z).take i).foldl (hdOf m st).step (hdOf m st).first < 2 ^ 4∧∃ v5 v6 : Option V,σ = [some (.ref a),some (.ref p),some (natV wish),some (natV (hdOf m st).held),some (natV (((Bit.rooms z).take i).foldl (hdOf m st).step (hdOf m st).first)),v5,v6])
     ⟨Same.refl _,f16,none,none,rfl⟩ (fun i σ H' _ ⟨s1,_⟩ => SqL.of (s1 _ _ km)) ?_ ?_
   · rintro i x σ H5 hx ⟨s5,o16,v5,v6,rfl⟩
     obtain ⟨r,er,rfl⟩:=get_natV hx
     have hr4 : r < 4:=by
       have:=(Bit.mem_rooms.mp (List.mem_of_getElem? er)).2
       by_cases q : r < 4
       · exact q
       · rw [Bit.bit_small z16 (by omega)] at this; cases this
     have en : ((Bit.rooms z).take (i + 1)).foldl (hdOf m st).step (hdOf m st).first = (hdOf m st).step (((Bit.rooms z).take i).foldl (hdOf m st).step (hdOf m st).first) r:=by
       rw [take_next er,List.foldl_append]; rfl
     rw [en]
     generalize ((Bit.rooms z).take i).foldl (hdOf m st).step (hdOf m st).first = o at o16 ⊢
     have n16 : o ||| 2 ^ r < 2 ^ 4:=Nat.or_lt_two_pow o16 (Nat.pow_lt_pow_right (by decide) hr4)
     have S5:=S4.trans s5
     refine ⟨_,rfl,_,rfl,o,r,rfl,by omega,?_⟩
     refine ⟨_,rfl,_,rfl,_,rfl,p,_,_,_,rfl,rfl,.inr (S5.tup e0),rfl,a,fp,m,o ||| 2 ^ r,_,rfl,hh.same S5,Nat.lt_trans n16 (by decide),fun H6 s6 => ⟨_,rfl,?_⟩⟩
     have ec : m.can (o ||| 2 ^ r) (st.heap : Int) = (hdOf m st).can (o ||| 2 ^ r):=rfl
     rw [ec]
     unfold Ord.Hd.step
     cases c : (hdOf m st).can (o ||| 2 ^ r) with
     | true => exact iteT ⟨_,rfl,s5.trans s6,n16,_,_,rfl⟩
     | false => exact iteF ⟨s5.trans s6,o16,_,_,rfl⟩
   · rintro σ H5 ⟨s5,o16,v5,v6,rfl⟩
     have:=k1 hf H5 (S4.trans s5)
     rw [List.length_map,List.take_length]
     exact ⟨_,rfl,this⟩
theorem okx_look_at_state (T : Txt K mg Ad) : DefX P w K mg base "look_at_state" 7 ["hold","state"] (sp_lookX K Ad.Hold Ad.NoState):=by
 refine T.d_look_at_state.defX sc_look_at_state (fun vs H Q E h => ?_) (fun _ _ _ _ _ _ us hl => match us,hl with | [_,_],_ => rfl) (fun f _ _ _ s H vs Q E hr h => ?_)
 · obtain ⟨a,fp,m,p,g,rfl,_⟩:=h
   rfl
 · obtain ⟨a,fp,m,p,g,rfl,hh,hs,hb,kt,kf⟩:=h
   refine ⟨_,(pss_one (ps_if (pt_not (pt_val (pe_callD (okg_is_state T) (hr.mono (by decide)) (pa_cons (pv 0) (pa_cons (pv 1) pa_nil))))) (pss_one (ps_raise rfl PySem.F.excBase_ValueError T.m_NoState T.x_NoState (thr_of fun _ _ _ z => z) (pa_cons pe_str pa_nil))) pss_nil)),?_⟩
   refine ⟨_,rfl,_,rfl,a,fp,m,p,g,rfl,hh,hs,hb,fun H1 s1 => ⟨_,rfl,?_⟩⟩
   cases e : isM m g with
   | true => exact iteF (kt e H1 s1)
   | false => exact iteT ⟨sz1,kf e H1 s1⟩
theorem okx_orders_of (T : Txt K mg Ad) : DefX P w K mg base "orders_of" 8 ["hold","state"] (sp_noX K Ad.Hold Ad.NoState):=by
 refine T.d_orders_of.defX sc_orders_of (fun vs H Q E h => ?_) (fun _ _ _ _ _ _ us hl => match us,hl with | [_,_],_ => rfl) (fun f _ _ _ s H vs Q E hr h => ?_)
 · obtain ⟨a,fp,m,p,g,rfl,_⟩:=h
   rfl
 · obtain ⟨a,fp,m,p,g,rfl,hh,hs,hb,hf,k⟩:=h
   refine ⟨_,(pss_cons (ps_expr (pe_callX (okx_look_at_state T) (hr.mono (by decide)) (pass_of fun _ _ _ z => z) (pa_cons (pv 0) (pa_cons (pv 1) pa_nil))))
     (pss_cons ps_never
     (pss_cons ps_never
     (pss_one ps_never)))),?_⟩
   exact ⟨_,rfl,_,rfl,a,fp,m,p,g,rfl,hh,hs,hb,fun e => absurd e (by rw [hf]; nofun),fun _ H' s' => k H' s'⟩
theorem okx_heeded (T : Txt K mg Ad) : DefX P w K mg base "heeded" 8 ["hold","state","wish"] (sp_noX3 K Ad.Hold Ad.NoState):=by
 refine T.d_heeded.defX sc_heeded (fun vs H Q E h => ?_) (fun _ _ _ _ _ _ us hl => match us,hl with | [_,_,_],_ => rfl) (fun f _ _ _ s H vs Q E hr h => ?_)
 · obtain ⟨a,fp,m,p,g,v,rfl,_⟩:=h
   rfl
 · obtain ⟨a,fp,m,p,g,v,rfl,hh,hs,hb,hf,k⟩:=h
   refine ⟨_,(pss_cons (ps_expr (pe_callX (okx_look_at_state T) (hr.mono (by decide)) (pass_of fun _ _ _ z => z) (pa_cons (pv 0) (pa_cons (pv 1) pa_nil))))
     (pss_cons ps_never
     (pss_cons ps_never
     (pss_cons ps_never
     (pss_cons ps_never
     (pss_one ps_never)))))),?_⟩
   exact ⟨_,rfl,_,rfl,a,fp,m,p,g,rfl,hh,hs,hb,fun e => absurd e (by rw [hf]; nofun),fun _ H' s' => k H' s'⟩
theorem okx_may_fail (T : Txt K mg Ad) : DefX P w K mg base "may_fail" 8 ["hold","state","order"] (sp_noX3 K Ad.Hold Ad.NoState):=by
 refine T.d_may_fail.defX sc_may_fail (fun vs H Q E h => ?_) (fun _ _ _ _ _ _ us hl => match us,hl with | [_,_,_],_ => rfl) (fun f _ _ _ s H vs Q E hr h => ?_)
 · obtain ⟨a,fp,m,p,g,v,rfl,_⟩:=h
   rfl
 · obtain ⟨a,fp,m,p,g,v,rfl,hh,hs,hb,hf,k⟩:=h
   refine ⟨_,(pss_cons (ps_expr (pe_callX (okx_look_at_state T) (hr.mono (by decide)) (pass_of fun _ _ _ z => z) (pa_cons (pv 0) (pa_cons (pv 1) pa_nil))))
     (pss_one ps_never)),?_⟩
   exact ⟨_,rfl,_,rfl,a,fp,m,p,g,rfl,hh,hs,hb,fun e => absurd e (by rw [hf]; nofun),fun _ H' s' => k H' s'⟩
theorem okx_behind_turn (T : Txt K mg Ad) : DefX P w K mg base "behind_turn" 8 ["hold","state","order","out"] (sp_noX4 K Ad.Hold Ad.NoState):=by
 refine T.d_behind_turn.defX sc_behind_turn (fun vs H Q E h => ?_) (fun _ _ _ _ _ _ us hl => match us,hl with | [_,_,_,_],_ => rfl) (fun f _ _ _ s H vs Q E hr h => ?_)
 · obtain ⟨a,fp,m,p,g,v,u,rfl,_⟩:=h
   rfl
 · obtain ⟨a,fp,m,p,g,v,u,rfl,hh,hs,hb,hf,k⟩:=h
   refine ⟨_,(pss_cons (ps_expr (pe_callX (okx_look_at_state T) (hr.mono (by decide)) (pass_of fun _ _ _ z => z) (pa_cons (pv 0) (pa_cons (pv 1) pa_nil))))
     (pss_one ps_never)),?_⟩
   exact ⟨_,rfl,_,rfl,a,fp,m,p,g,rfl,hh,hs,hb,fun e => absurd e (by rw [hf]; nofun),fun _ H' s' => k H' s'⟩
theorem okx_outcomes (T : Txt K mg Ad) : DefX P w K mg base "outcomes" 10 ["hold","state","order"] (sp_noX3 K Ad.Hold Ad.NoState):=by
 refine T.d_outcomes.defX sc_outcomes (fun vs H Q E h => ?_) (fun _ _ _ _ _ _ us hl => match us,hl with | [_,_,_],_ => rfl) (fun f _ _ _ s H vs Q E hr h => ?_)
 · obtain ⟨a,fp,m,p,g,v,rfl,_⟩:=h
   rfl
 · obtain ⟨a,fp,m,p,g,v,rfl,hh,hs,hb,hf,k⟩:=h
   refine ⟨_,(pss_cons (ps_expr (pe_callX (okx_look_at_state T) (hr.mono (by decide)) (pass_of fun _ _ _ z => z) (pa_cons (pv 0) (pa_cons (pv 1) pa_nil))))
     (pss_one ps_never)),?_⟩
   exact ⟨_,rfl,_,rfl,a,fp,m,p,g,rfl,hh,hs,hb,fun e => absurd e (by rw [hf]; nofun),fun _ H' s' => k H' s'⟩
theorem okx_Walk___init__ (T : Txt K mg Ad) : MDefX P w K mg base Ad.Walk "__init__" 8 ["self","hold","state"] [] (sp_walkX K Ad.Hold Ad.Walk Ad.NoState):=by
 refine T.e_Walk___init__.mdefX sc_Walk___init__ (fun vs H Q E h => ?_) (fun _ _ _ _ _ _ us hl => match us,hl with | [_,_,_],_ => rfl) (fun f _ _ _ s H vs Q E hr h => ?_)
 · obtain ⟨x,dx,a,fp,m,p,g,rfl,_⟩:=h
   rfl
 · obtain ⟨x,dx,a,fp,m,p,g,rfl,hx,hh,hs,hb,hbd,kt,kf⟩:=h
   refine ⟨_,(pss_cons (ps_expr (pe_callX (okx_look_at_state T) (hr.mono (by decide)) (pass_of fun _ _ _ z => z) (pa_cons (pv 1) (pa_cons (pv 2) pa_nil))))
     (pss_cons (ps_fld (pv 0) (pe_callE (ok_hold_like_3 T) (hr.mono (by decide)) (pa_cons (pv 1) pa_nil)) rfl)
     (pss_cons (ps_fld (pv 0) (pv 2) rfl)
     (pss_cons (ps_fld (pv 0) pe_int rfl)
     (pss_one (ps_fld (pv 0) pe_bl rfl)))))),?_⟩
   refine ⟨_,rfl,_,rfl,a,fp,m,p,g,rfl,hh,hs,hb,fun e H1 s1 => ?_,kf⟩
   refine ⟨_,rfl,a,fp,m,none,none,none,rfl,hh.same s1,hbd,fun b H2 fpb s2 hb2 _ => ?_⟩
   have S2:=s1.trans s2
   have B0 : ButX K Ad.Walk x dx H2 H2 []:=.start (S2 _ _ hx)
   refine ⟨_,rfl,x,_,dx,_,rfl,B0.at_,T.cl_Walk,T.na_Walk_hold,lt1000 rfl,?_⟩
   have B1:=B0.put (fs':=putF "hold" (.ref b) [])
   refine ⟨_,rfl,_,rfl,x,_,dx,_,rfl,B1.at_,T.cl_Walk,T.na_Walk_place,lt1000 rfl,?_⟩
   have B2:=B1.put (fs':=putF "place" (.ref p) (putF "hold" (.ref b) []))
   refine ⟨_,rfl,x,_,dx,_,rfl,B2.at_,T.cl_Walk,T.na_Walk_gone,lt1000 rfl,?_⟩
   have B3:=B2.put (fs':=putF "gone" (.int 0) (putF "place" (.ref p) (putF "hold" (.ref b) [])))
   refine ⟨_,rfl,x,_,dx,_,rfl,B3.at_,T.cl_Walk,T.na_Walk_ended,lt1000 rfl,?_⟩
   have B4:=B3.put (fs':=putF "ended" (.bl false) (putF "gone" (.int 0) (putF "place" (.ref p) (putF "hold" (.ref b) []))))
   exact kt e _ fun c o hc n => B4.st c o (S2 c o hc) (fun q => n (by rw [q]; exact List.mem_singleton.mpr rfl))
theorem box_start_state (T : Txt K mg Ad) : DOkX P w K mg base "start_state" s_start_state (.ref Ad.T_start_state) 8 ["hold","bands","heap"] (sp_startX K Ad.Hold Ad.NoState):=by
 refine T.d_start_state.dokX sc_start_state (fun vs H Q E h => ?_) (fun f _ _ _ s H vs Q E hr h => ?_)
 · obtain ⟨a,fp,m,pV,bs,heap,rfl,_⟩:=h
   rfl
 · obtain ⟨a,fp,m,pV,bs,heap,rfl,hh,hv,hl,kt,kf⟩:=h
   refine ⟨_,(pss_cons (ps_set (i:=3) sc_start_state.nd rfl (by first | exact Or.inl rfl | exact Or.inr rfl) (pe_callTy call_tuple_of (by rfl) T.n_tuple bt_tuple (pa_cons (pe_lc ["room"] [] [] .nil rfl (pi_range1 rfl T.n_range (pa_cons (pe_methD0 (pv 0) T.cl_Hold (okm_Hold_many T) .nil (hr.mono (by decide))) pa_nil)) (fun _ _ _ _ _ => (pg_name (i:=0) (show (["room"] : List Str).Nodup by decide +kernel) rfl (by first | exact Or.inl rfl | exact Or.inr rfl))) (fun _ _ _ _ _ => pif_nil) (fun _ _ _ _ _ => pe_int) rfl (by decide +kernel) (by decide +kernel) (by decide +kernel)) pa_nil)))
     (pss_cons (ps_set (i:=4) sc_start_state.nd rfl (by first | exact Or.inl rfl | exact Or.inr rfl) (pe_tup (pa_cons (pe_callTy call_tuple_of (by rfl) T.n_tuple bt_tuple (pa_cons (pv 1) pa_nil)) (pa_cons pe_int (pa_cons (pv 3) (pa_cons (pv 3) (pa_cons (pv 2) pa_nil)))))))
     (pss_cons (ps_expr (pe_callX (okx_look_at_state T) (hr.mono (by decide)) (pass_of fun _ _ _ z => z) (pa_cons (pv 0) (pa_cons (pv 4) pa_nil))))
     (pss_one (ps_ret (pv 4)))))),?_⟩
   obtain ⟨⟨dx,_,_,_,_,_,_,_,_,_,ha,_⟩,q1,q2,q3,q4⟩:=id hh
   refine ⟨_,rfl,a,dx,_,rfl,ha,rfl,a,fp,m,rfl,hh,_,rfl,by omega,by omega,fun D hD => ?_⟩
   refine comp_range (lo:=0) (n:=m.rows.length) (fun i acc σ H' => Same H H'∧H' D = some (.lst acc)∧acc = (List.replicate i (0 : Int)).map V.int∧∃ v,σ = [v]) ⟨same_upd hD,upd_same,rfl,none,rfl⟩ ?_ ?_
   · rintro i acc σ H1 hi ⟨s1,hD1,rfl,v,rfl⟩
     refine ⟨hD1,small1000 (by rw [List.length_map,List.length_replicate]; omega),s1.put hD,upd_same,?_,_,rfl⟩
     rw [List.replicate_succ',List.map_append]; rfl
   rintro acc σ H1 ⟨s1,hD1,rfl,v,rfl⟩
   refine ⟨D,_,rfl,.inl ⟨SqL.of hD1,fun pz hpz => ?_⟩⟩
   have s2:=same_upd (o:=.tup ((List.replicate m.rows.length (0 : Int)).map V.int)) hpz
   have S2:=s1.trans s2
   have hz2 : (upd H1 pz (.tup ((List.replicate m.rows.length (0 : Int)).map V.int))) pz = some (.tup ((List.replicate m.rows.length (0 : Int)).map V.int)):=upd_same
   generalize upd H1 pz (.tup ((List.replicate m.rows.length (0 : Int)).map V.int)) = H2 at s2 S2 hz2 ⊢
   rcases hv with hv | hv
   · refine ⟨_,rfl,pV,_,rfl,.inl ⟨S2.seq hv,fun qb hqb => ?_⟩⟩
     have s3:=same_upd (o:=.tup (bs.map V.int)) hqb
     have hq3 : SqT K (upd H2 qb (.tup (bs.map V.int))) qb (bs.map V.int):=SqT.of upd_same
     generalize upd H2 qb (.tup (bs.map V.int)) = H3 at s3 hq3 ⊢
     have S3:=S2.trans s3
     have hz3:=s3 _ _ hz2
     refine ⟨_,rfl,_,rfl,_,rfl,(by show 5 ≤ sizeLine; decide),fun qs hqs => ?_⟩
     have s4:=same_upd (o:=.tup [.ref qb,.int 0,.ref pz,.ref pz,.int heap]) hqs
     have S4:=S3.trans s4
     have gs : GsAt K (upd H3 qs (.tup [.ref qb,.int 0,.ref pz,.ref pz,.int heap])) qs (.start m.rows.length bs heap):=⟨qb,pz,pz,SqT.of upd_same,s4.tup hq3,s4.tup (SqT.of hz3),s4.tup (SqT.of hz3)⟩
     have k4 : (upd H3 qs (.tup [.ref qb,.int 0,.ref pz,.ref pz,.int heap])) qs = some (.tup [.ref qb,.int 0,.ref pz,.ref pz,.int heap]):=upd_same
     exact ⟨_,rfl,_,rfl,a,fp,m,qs,_,rfl,hh.same S4,gs,(by show 0 < 2 ^ 61; decide),fun e H5 s5 => ⟨_,rfl,kt e qs H5 (S4.trans s5) (gs.same s5) ⟨_,s5 _ _ k4⟩⟩,fun e H5 s5 => kf e H5 (S4.trans s5)⟩
   · refine ⟨_,rfl,pV,_,rfl,.inr ⟨S2.tup hv,?_⟩⟩
     have hq3:=S2.tup hv
     have S3:=S2
     have hz3:=hz2
     refine ⟨_,rfl,_,rfl,_,rfl,(by show 5 ≤ sizeLine; decide),fun qs hqs => ?_⟩
     have s4:=same_upd (o:=.tup [.ref pV,.int 0,.ref pz,.ref pz,.int heap]) hqs
     have S4:=S3.trans s4
     have gs : GsAt K (upd H2 qs (.tup [.ref pV,.int 0,.ref pz,.ref pz,.int heap])) qs (.start m.rows.length bs heap):=⟨pV,pz,pz,SqT.of upd_same,s4.tup hq3,s4.tup (SqT.of hz3),s4.tup (SqT.of hz3)⟩
     have k4 : (upd H2 qs (.tup [.ref pV,.int 0,.ref pz,.ref pz,.int heap])) qs = some (.tup [.ref pV,.int 0,.ref pz,.ref pz,.int heap]):=upd_same
     exact ⟨_,rfl,_,rfl,a,fp,m,qs,_,rfl,hh.same S4,gs,(by show 0 < 2 ^ 61; decide),fun e H5 s5 => ⟨_,rfl,kt e qs H5 (S4.trans s5) (gs.same s5) ⟨_,s5 _ _ k4⟩⟩,fun e H5 s5 => kf e H5 (S4.trans s5)⟩
theorem okx_start_state_1 (T : Txt K mg Ad) : DefXE P w K mg base "start_state" 8 ["hold","bands","heap"] [.int 0] (sp_startX K Ad.Hold Ad.NoState) :=
 (box_start_state T).defXE T.t_start_state fun items hv => by
   obtain ⟨u1,e,r1⟩:=vals1 hv
   obtain ⟨l⟩:=items
   have e : l = [u1]:=e
   subst e
   exact ⟨[u1],.cons r1 .nil,fun _ _ _ _ _ _ us hl => match us,(by simpa using hl : us.length = 2) with | [_,_],_ => ⟨_,rfl,rfl⟩⟩
theorem okx_start_state_0 (T : Txt K mg Ad) : DefXE P w K mg base "start_state" 8 ["hold","bands","heap"] [] (sp_startX K Ad.Hold Ad.NoState) :=
 (box_start_state T).defXE T.t_start_state fun items hv => by
   obtain ⟨u1,e,r1⟩:=vals1 hv
   obtain ⟨l⟩:=items
   have e : l = [u1]:=e
   subst e
   exact ⟨[],.nil,fun _ _ _ _ _ _ us hl => match us,(by simpa using hl : us.length = 3) with | [_,_,_],_ => ⟨_,rfl,rfl⟩⟩
theorem small5 {a b : Nat} (h : a + b ≤ 900) : a + b ≤ sizeLine:=Nat.le_of_lt (small1000 (by omega))
theorem ok_law_put (T : Txt K mg Ad) : Def P w K mg base "_law_put" 1 ["_law_row","_law_at","_law_num"] (sp_put12 K):=by
 refine T.d_law_put.def sc_law_put (fun vs H Q E h => ?_) (fun _ _ _ _ _ _ us hl => match us,hl with | [_,_,_],_ => rfl) (fun f _ _ _ s H vs Q E hr h => ?_)
 · obtain ⟨p,l,i,z,rfl,_⟩:=h
   rfl
 · obtain ⟨p,l,i,z,rfl,hp,hi,hl,k⟩:=h
   refine ⟨_,(pss_one (ps_ret (pe_op op_catA (pe_op op_catA (pe_slice sl_tupU (pv 0) po_none (po_some (pv 1))) (pe_tup (pa_cons (pv 2) pa_nil))) (pe_slice sl_tupF (pv 0) (po_some (pe_op op_addL (pv 1) pe_int)) po_none)))),?_⟩
   have ll : (l.map V.int).length = l.length:=List.length_map ..
   refine ⟨_,rfl,_,rfl,_,rfl,p,_,i,rfl,hp,rfl,rfl,by omega,fun q1 h1 => ⟨_,rfl,sz1,fun q2 h2 => ?_⟩⟩
   have s1:=same_upd (o:=.tup ((l.map V.int).take i)) h1
   have s2:=same_upd (o:=.tup [.int z]) h2
   refine ⟨q1,q2,_,_,rfl,rfl,SqT.of (s2 _ _ upd_same),SqT.of upd_same,small5 (by rw [List.length_take]; simp only [List.length_cons,List.length_nil]; omega),fun q3 H3 s3 h3 => ?_⟩
   have S3:=(s1.trans s2).trans s3
   refine ⟨_,rfl,_,rfl,_,_,rfl,rfl,fun y ey => ?_⟩
   obtain rfl : y = ((i + 1 : Nat) : Int):=by rw [ey]; push_cast; rfl
   refine ⟨_,rfl,p,_,i + 1,rfl,S3.tup hp,rfl,rfl,by omega,by omega,fun q4 h4 => ?_⟩
   have s4:=same_upd (o:=.tup ((l.map V.int).drop (i + 1))) h4
   refine ⟨q3,q4,_,_,rfl,rfl,s4.tup h3,SqT.of upd_same,small5 (by rw [List.length_append,List.length_take,List.length_drop]; simp only [List.length_cons,List.length_nil]; omega),fun q5 H5 s5 h5 => ?_⟩
   refine k q5 (l.take i ++ [z] ++ l.drop (i + 1)) H5 ((S3.trans s4).trans s5) (by rw [List.map_append,List.map_append,List.map_take,List.map_drop]; exact h5) ?_
   rw [List.length_append,List.length_append,List.length_take,List.length_drop]
   simp only [List.length_cons,List.length_nil]
   omega
set_option maxHeartbeats 0 in
theorem ok_law_bent (T : Txt K mg Ad) : Def P w K mg base "_law_bent" 2 ["_law_told","_law_state","_law_cell","_law_k"] (sp_bent12 K):=by
 refine T.d_law_bent.def sc_law_bent (fun vs H Q E h => ?_) (fun _ _ _ _ _ _ us hl => match us,hl with | [_,_,_,_],_ => rfl) (fun f _ _ _ s H vs Q E hr h => ?_)
 · obtain ⟨p,tm,n,q,st,c,kk,rfl,_⟩:=h
   rfl
 · obtain ⟨p,tm,n,q,st,c,kk,rfl,hT,ok,n1,n4,hs,lb,lw,lf,hb16,hk,k⟩:=h
   refine ⟨_,(pss_cons (ps_set (i:=4) sc_law_bent.nd rfl (by first | exact Or.inl rfl | exact Or.inr rfl) (pe_callB call_lenL (by rfl) T.n_len bt_len (pa_cons (pe_dget (hu_of hr) (pv 0) pe_str (fun _ _ => rfl)) pa_nil)))
     (pss_cons (ps_set (i:=5) sc_law_bent.nd rfl (by first | exact Or.inl rfl | exact Or.inr rfl) (pe_callD (ok_law_pick T) (hr.mono (by decide)) (pa_cons (pv 2) (pa_cons (pv 3) (pa_cons (pv 4) pa_nil)))))
     (pss_cons (ps_set (i:=6) sc_law_bent.nd rfl (by first | exact Or.inl rfl | exact Or.inr rfl) (pe_ix ix_any (pe_lst (pa_cons (pe_un un_neg pe_int) (pa_cons pe_int (pa_cons pe_int (pa_cons pe_int (pa_cons pe_int (pa_cons (pe_op op_powL pe_int pe_int) pa_nil))))))) (pe_callD (ok_law_pick T) (hr.mono (by decide)) (pa_cons (pv 2) (pa_cons (pe_op op_addL (pv 3) pe_int) (pa_cons pe_int pa_nil)))) (fun _ _ => rfl)))
     (pss_cons (ps_set (i:=7) sc_law_bent.nd rfl (by first | exact Or.inl rfl | exact Or.inr rfl) (pe_callD (ok_law_pick T) (hr.mono (by decide)) (pa_cons (pv 2) (pa_cons (pe_op op_addL (pv 3) pe_int) (pa_cons pe_int pa_nil)))))
     (pss_cons (ps_if (pt_cmpR op_eq (pv 7) pe_int (nomark _)) (pss_one (ps_ret (pe_op op_catA (pe_tup (pa_cons (pe_callD (ok_law_put T) (hr.mono (by decide)) (pa_cons (pe_ix ix_any (pv 1) pe_int (fun _ _ => rfl)) (pa_cons (pv 5) (pa_cons (pv 6) pa_nil)))) pa_nil)) (pe_slice sl_tupF (pv 1) (po_some pe_int) po_none)))) pss_nil)
     (pss_cons (ps_if (pt_cmpR op_eq (pv 7) pe_int (nomark _)) (pss_one (ps_ret (pe_op op_catA (pe_op op_catA (pe_slice sl_tupU (pv 1) po_none (po_some pe_int)) (pe_tup (pa_cons (pe_callD (ok_law_put T) (hr.mono (by decide)) (pa_cons (pe_ix ix_any (pv 1) pe_int (fun _ _ => rfl)) (pa_cons (pv 5) (pa_cons (pv 6) pa_nil)))) pa_nil))) (pe_slice sl_tupF (pv 1) (po_some pe_int) po_none)))) pss_nil)
     (pss_cons (ps_if (pt_cmpR op_eq (pv 7) pe_int (nomark _)) (pss_one (ps_ret (pe_op op_catA (pe_op op_catA (pe_slice sl_tupU (pv 1) po_none (po_some pe_int)) (pe_tup (pa_cons (pe_callD (ok_law_put T) (hr.mono (by decide)) (pa_cons (pe_ix ix_any (pv 1) pe_int (fun _ _ => rfl)) (pa_cons (pv 5) (pa_cons (pv 6) pa_nil)))) pa_nil))) (pe_slice sl_tupF (pv 1) (po_some pe_int) po_none)))) pss_nil)
     (pss_cons (ps_if (pt_cmpR op_eq (pv 7) pe_int (nomark _)) (pss_cons (ps_set (i:=8) sc_law_bent.nd rfl (by first | exact Or.inl rfl | exact Or.inr rfl) (pe_lst (pa_cons (pv 6) (pa_cons (pe_ix ix_any (pe_dget (hu_of hr) (pv 0) pe_str (fun _ _ => rfl)) pe_int (fun _ _ => rfl)) (pa_cons (pe_op op_addL (pe_ix ix_any (pe_dget (hu_of hr) (pv 0) pe_str (fun _ _ => rfl)) pe_int (fun _ _ => rfl)) pe_int) pa_nil)))))
     (pss_one (ps_ret (pe_op op_catA (pe_slice sl_tupU (pv 1) po_none (po_some pe_int)) (pe_tup (pa_cons (pe_ix ix_any (pv 8) (pe_callD (ok_law_pick T) (hr.mono (by decide)) (pa_cons (pv 2) (pa_cons (pe_op op_addL (pv 3) pe_int) (pa_cons pe_int pa_nil)))) (fun _ _ => rfl)) pa_nil)))))) pss_nil)
     (pss_cons (ps_if (pt_cmpR op_lt (pv 7) pe_int (nomark _)) (pss_cons (ps_set (i:=9) sc_law_bent.nd rfl (by first | exact Or.inl rfl | exact Or.inr rfl) (pe_ix ix_any (pe_lst (pa_cons (pv 5) (pa_cons (pe_callD (ok_law_pick T) (hr.mono (by decide)) (pa_cons (pv 2) (pa_cons (pe_op op_addL (pv 3) pe_int) (pa_cons pe_int pa_nil)))) pa_nil))) (pe_op op_subL (pv 7) pe_int) (fun _ _ => rfl)))
     (pss_cons (ps_if (pt_cmpR op_eq (pe_op op_modL (pe_op op_shrL (pe_ix ix_any (pv 1) pe_int (fun _ _ => rfl)) (pv 9)) pe_int) pe_int (nomark _)) (pss_one (ps_ret (pe_op op_catA (pe_tup (pa_cons (pe_ix ix_any (pv 1) pe_int (fun _ _ => rfl)) (pa_cons (pe_op op_subL (pe_ix ix_any (pv 1) pe_int (fun _ _ => rfl)) (pe_op op_shlL pe_int (pv 9))) pa_nil))) (pe_slice sl_tupF (pv 1) (po_some pe_int) po_none)))) pss_nil)
     (pss_one (ps_ret (pe_op op_catA (pe_tup (pa_cons (pe_ix ix_any (pv 1) pe_int (fun _ _ => rfl)) (pa_cons (pe_op op_addL (pe_ix ix_any (pv 1) pe_int (fun _ _ => rfl)) (pe_op op_shlL pe_int (pv 9))) pa_nil))) (pe_slice sl_tupF (pv 1) (po_some pe_int) po_none)))))) pss_nil)
     (pss_cons (ps_set (i:=10) sc_law_bent.nd rfl (by first | exact Or.inl rfl | exact Or.inr rfl) (pe_ix ix_any (pe_lst (pa_cons pe_int (pa_cons pe_int (pa_cons pe_int pa_nil)))) (pe_op op_subL (pv 7) pe_int) (fun _ _ => rfl)))
     (pss_cons (ps_set (i:=11) sc_law_bent.nd rfl (by first | exact Or.inl rfl | exact Or.inr rfl) (pe_ix ix_any (pe_lst (pa_cons (pe_op op_catA (pe_ix ix_any (pv 1) (pv 10) (fun _ _ => rfl)) (pe_tup (pa_cons pe_int pa_nil))) (pa_cons (pe_slice sl_tupF (pe_ix ix_any (pv 1) (pv 10) (fun _ _ => rfl)) (po_some pe_int) po_none) pa_nil))) (pe_callD (ok_law_pick T) (hr.mono (by decide)) (pa_cons (pv 2) (pa_cons (pe_op op_addL (pv 3) pe_int) (pa_cons pe_int pa_nil)))) (fun _ _ => rfl)))
     (pss_one (ps_ret (pe_op op_catA (pe_op op_catA (pe_slice sl_tupU (pv 1) po_none (po_some (pv 10))) (pe_tup (pa_cons (pv 11) pa_nil))) (pe_slice sl_tupF (pv 1) (po_some (pe_op op_addL (pv 10) pe_int)) po_none))))))))))))))),?_⟩
   obtain ⟨pm,ps,pt,pf,psc,pbo,vm,vs,vt,kvs,C0⟩:=id hT
   have lvm : vm.length = n:=by rw [C0.dm.length,List.length_map,ok.lm]
   have hbo : SqT K H pbo [.int tm.bounds.1,.int tm.bounds.2.1,.int tm.bounds.2.2]:=cut_same.tup C0.bo
   obtain ⟨pb,pw,pF,e0,eb,ew,ef⟩:=hs.gs
   have lb' : (ofN st.bands).length = n:=by rw [len_of,lb]
   have lw' : (ofN st.waits).length = n:=by rw [len_of,lw]
   have lf' : (ofN st.failed).length = n:=by rw [len_of,lf]
   have e0 : SqT K H q [.ref pb,natV st.burn,.ref pw,.ref pF,.int (st.heap : Int)]:=e0
   have eb : SqT K H pb ((ofN st.bands).map V.int):=eb
   have ew : SqT K H pw ((ofN st.waits).map V.int):=ew
   have ef : SqT K H pF ((ofN st.failed).map V.int):=ef
   generalize ofN st.bands = bs at eb lb'
   generalize ofN st.waits = ws at ew lw'
   generalize ofN st.failed = fs at ef lf'
   generalize (st.heap : Int) = hp0 at e0
   have fin : ∀ {q' pb' pw' pf' : Addr} {b' w' f' : List Int} {bu : Nat} {hp : Int} {H' : Hp},Same H H'→SqT K H' q' [.ref pb',natV bu,.ref pw',.ref pf',.int hp]→SqT K H' pb' (b'.map V.int)→SqT K H' pw' (w'.map V.int)→SqT K H' pf' (f'.map V.int)→bu < 2 ^ 61→b'.length ≤ 9→Q (.ref q') H' :=
     fun {q' pb' pw' pf' b' w' f' bu hp H'} s a1 a2 a3 a4 a5 a6 => k q' ⟨b',bu,w',f',hp⟩ H' s ⟨pb',pw',pf',a1,a2,a3,a4⟩ a5 a6
   have hb61 : st.burn < 2 ^ 61:=Nat.lt_trans hb16 (by decide)
   refine ⟨_,rfl,p,_,rfl,tget_marks C0.hp,pm,vm,rfl,.inl (SqL.of C0.hpm),fun r er => ?_⟩
   obtain rfl : r = (n : Int):=by rw [er,lvm]
   refine ⟨_,rfl,_,rfl,_,rfl,c,_,_,rfl,by omega,by omega,by omega,fun r0 r00 r01 => ?_⟩
   obtain ⟨i,rfl⟩ : ∃ i : Nat,r0 = (i : Int):=⟨r0.toNat,by omega⟩
   refine ⟨_,rfl,_,_,rfl,rfl,⟨by decide,by decide,by decide⟩,fun p20 e20 => ⟨(by show 6 ≤ sizeLine; decide),fun l hl => ⟨_,rfl,_,rfl,_,_,rfl,rfl,fun k1 ek1 => ⟨c,k1,6,rfl,by omega,by omega,by decide,fun r1 r10 r11 => ?_⟩⟩⟩⟩
   obtain ⟨z,_,ez⟩:=atI_ints (ns:=[-1,0,1,2,4,p20]) r10 r11
   have s1 : Same H (upd H l (.lst [(fun i => V.int (-i)) 1,V.int 0,V.int 1,V.int 2,V.int 4,V.int p20])):=same_upd hl
   refine ⟨l,_,_,_,rfl,rfl,.inl (SqL.of upd_same),ez,?_⟩
   generalize upd H l (.lst [(fun i => V.int (-i)) 1,V.int 0,V.int 1,V.int 2,V.int 4,V.int p20]) = H1 at s1 ⊢
   refine ⟨_,rfl,_,rfl,_,_,rfl,rfl,fun k2 ek2 => ⟨c,k2,9,rfl,by omega,by omega,by decide,fun way w0 w1 => ?_⟩⟩
   have C1:=C0.same s1
   have hi : i < n:=by omega
   have cw : way = 0 ∨ way = 1 ∨ way = 2 ∨ way = 3 ∨ way = 4 ∨ way = 5 ∨ way = 6 ∨ way = 7 ∨ way = 8:=by omega
   rcases cw with rfl | rfl | rfl | rfl | rfl | rfl | rfl | rfl | rfl
   · refine ⟨_,rfl,rfl,_,rfl,iteP rfl ?_⟩
     refine ⟨_,rfl,q,_,_,_,rfl,rfl,.inr (s1.tup e0),rfl,_,rfl,_,rfl,pb,bs,i,z,rfl,s1.tup eb,by omega,by omega,fun q2 l2 H2 s2 h2 ln => ⟨sz1,fun t1 ht1 => ?_⟩⟩
     have u1:=same_upd (o:=.tup [.ref q2]) ht1
     have S1:=(s1.trans s2).trans u1
     refine ⟨_,rfl,1,rfl,q,_,1,rfl,S1.tup e0,rfl,rfl,by decide,(by show 1 ≤ 5; decide),fun t2 ht2 => ?_⟩
     have u2:=same_upd (o:=.tup [natV st.burn,.ref pw,.ref pF,.int hp0]) ht2
     refine ⟨t1,t2,[.ref q2],[natV st.burn,.ref pw,.ref pF,.int hp0],rfl,rfl,SqT.of (u2 _ _ upd_same),SqT.of upd_same,small5 (Nat.le_of_ble_eq_true rfl),fun q6 H6 s6 h6 => ?_⟩
     have S6:=(S1.trans u2).trans s6
     exact fin S6 h6 (((u1.trans u2).trans s6).tup h2) (S6.tup ew) (S6.tup ef) hb61 ln
   · refine ⟨_,rfl,rfl,_,rfl,iteN nofun ?_⟩
     refine ⟨_,rfl,rfl,_,rfl,iteP rfl ?_⟩
     refine ⟨_,rfl,2,rfl,q,_,2,rfl,s1.tup e0,rfl,rfl,(by show 2 < 5; decide),fun t1 ht1 => ?_⟩
     have u1:=same_upd (o:=.tup [.ref pb,natV st.burn]) ht1
     have S1:=s1.trans u1
     refine ⟨_,rfl,q,_,_,_,rfl,rfl,.inr (S1.tup e0),rfl,_,rfl,_,rfl,pw,ws,i,z,rfl,S1.tup ew,by omega,by omega,fun q2 l2 H2 s2 h2 ln => ⟨sz1,fun t2 ht2 => ?_⟩⟩
     have u2:=same_upd (o:=.tup [.ref q2]) ht2
     have S2:=(S1.trans s2).trans u2
     refine ⟨t1,t2,[.ref pb,natV st.burn],[.ref q2],rfl,rfl,SqT.of ((s2.trans u2) _ _ upd_same),SqT.of upd_same,small5 (Nat.le_of_ble_eq_true rfl),fun q3 H3 s3 h3 => ?_⟩
     have S3:=S2.trans s3
     refine ⟨_,rfl,3,rfl,q,_,3,rfl,S3.tup e0,rfl,rfl,by decide,(by show 3 ≤ 5; decide),fun t4 ht4 => ?_⟩
     have u4:=same_upd (o:=.tup [.ref pF,.int hp0]) ht4
     refine ⟨q3,t4,[.ref pb,natV st.burn] ++ [.ref q2],[.ref pF,.int hp0],rfl,rfl,u4.tup h3,SqT.of upd_same,small5 (Nat.le_of_ble_eq_true rfl),fun q6 H6 s6 h6 => ?_⟩
     have S6:=(S3.trans u4).trans s6
     have h26:=(((u2.trans s3).trans u4).trans s6).tup h2
     exact fin S6 h6 (S6.tup eb) h26 (S6.tup ef) hb61 (by omega)
   · refine ⟨_,rfl,rfl,_,rfl,iteN nofun ?_⟩
     refine ⟨_,rfl,rfl,_,rfl,iteN nofun ?_⟩
     refine ⟨_,rfl,rfl,_,rfl,iteP rfl ?_⟩
     refine ⟨_,rfl,3,rfl,q,_,3,rfl,s1.tup e0,rfl,rfl,(by show 3 < 5; decide),fun t1 ht1 => ?_⟩
     have u1:=same_upd (o:=.tup [.ref pb,natV st.burn,.ref pw]) ht1
     have S1:=s1.trans u1
     refine ⟨_,rfl,q,_,_,_,rfl,rfl,.inr (S1.tup e0),rfl,_,rfl,_,rfl,pF,fs,i,z,rfl,S1.tup ef,by omega,by omega,fun q2 l2 H2 s2 h2 ln => ⟨sz1,fun t2 ht2 => ?_⟩⟩
     have u2:=same_upd (o:=.tup [.ref q2]) ht2
     have S2:=(S1.trans s2).trans u2
     refine ⟨t1,t2,[.ref pb,natV st.burn,.ref pw],[.ref q2],rfl,rfl,SqT.of ((s2.trans u2) _ _ upd_same),SqT.of upd_same,small5 (Nat.le_of_ble_eq_true rfl),fun q3 H3 s3 h3 => ?_⟩
     have S3:=S2.trans s3
     refine ⟨_,rfl,4,rfl,q,_,4,rfl,S3.tup e0,rfl,rfl,by decide,(by show 4 ≤ 5; decide),fun t4 ht4 => ?_⟩
     have u4:=same_upd (o:=.tup [.int hp0]) ht4
     refine ⟨q3,t4,[.ref pb,natV st.burn,.ref pw] ++ [.ref q2],[.int hp0],rfl,rfl,u4.tup h3,SqT.of upd_same,small5 (Nat.le_of_ble_eq_true rfl),fun q6 H6 s6 h6 => ?_⟩
     have S6:=(S3.trans u4).trans s6
     have h26:=(((u2.trans s3).trans u4).trans s6).tup h2
     exact fin S6 h6 (S6.tup eb) (S6.tup ew) h26 hb61 (by omega)
   · refine ⟨_,rfl,rfl,_,rfl,iteN nofun ?_⟩
     refine ⟨_,rfl,rfl,_,rfl,iteN nofun ?_⟩
     refine ⟨_,rfl,rfl,_,rfl,iteN nofun ?_⟩
     refine ⟨_,rfl,rfl,_,rfl,iteP rfl ?_⟩
     have bo1:=s1.tup hbo
     refine ⟨_,rfl,_,rfl,p,_,rfl,tget_bounds C1.hp,pbo,_,_,_,rfl,rfl,.inr bo1,rfl,_,rfl,p,_,rfl,tget_bounds C1.hp,pbo,_,_,_,rfl,rfl,.inr bo1,rfl,_,_,rfl,rfl,fun y ey => ⟨sz3,fun lh hlh => ?_⟩⟩
     have u0:=same_upd (o:=.lst [.int z,.int tm.bounds.2.1,.int y]) hlh
     have S0:=s1.trans u0
     have k0 : (upd H1 lh (.lst [.int z,.int tm.bounds.2.1,.int y])) lh = some (.lst ([z,tm.bounds.2.1,y].map V.int)):=upd_same
     generalize upd H1 lh (.lst [.int z,.int tm.bounds.2.1,.int y]) = H0 at u0 S0 k0 ⊢
     refine ⟨_,rfl,4,rfl,q,_,4,rfl,S0.tup e0,rfl,rfl,(by show 4 < 5; decide),fun t1 ht1 => ?_⟩
     have u1:=same_upd (o:=.tup [.ref pb,natV st.burn,.ref pw,.ref pF]) ht1
     refine ⟨_,rfl,_,rfl,_,rfl,_,_,rfl,rfl,fun k3 ek3 => ⟨c,k3,3,rfl,by omega,by omega,by decide,fun r3 r30 r31 => ?_⟩⟩
     obtain ⟨z3,_,ez3⟩:=atI_ints (ns:=[z,tm.bounds.2.1,y]) r30 r31
     refine ⟨lh,_,_,_,rfl,rfl,.inl (SqL.of (u1 _ _ k0)),ez3,sz1,fun t2 ht2 => ?_⟩
     have u2:=same_upd (o:=.tup [.int z3]) ht2
     refine ⟨t1,t2,[.ref pb,natV st.burn,.ref pw,.ref pF],[.int z3],rfl,rfl,SqT.of (u2 _ _ upd_same),SqT.of upd_same,small5 (Nat.le_of_ble_eq_true rfl),fun q6 H6 s6 h6 => ?_⟩
     have S6:=((S0.trans u1).trans u2).trans s6
     exact fin S6 h6 (S6.tup eb) (S6.tup ew) (S6.tup ef) hb61 (by omega)
   · refine ⟨_,rfl,rfl,_,rfl,iteN nofun ?_⟩
     refine ⟨_,rfl,rfl,_,rfl,iteN nofun ?_⟩
     refine ⟨_,rfl,rfl,_,rfl,iteN nofun ?_⟩
     refine ⟨_,rfl,rfl,_,rfl,iteN nofun ?_⟩
     refine ⟨_,rfl,_,_,rfl,rfl,_,rfl,iteP (by decide) ?_⟩
     refine ⟨_,rfl,_,rfl,_,rfl,_,_,rfl,rfl,fun k4 ek4 => ⟨c,k4,61,rfl,by omega,by omega,by decide,fun r4 r40 r41 => ⟨sz2,fun ls hls => ⟨_,rfl,_,_,rfl,rfl,fun y4 ey4 => ?_⟩⟩⟩⟩
     obtain ⟨sp,esp,hsp⟩ : ∃ sp : Nat,atI [V.int (i : Int),V.int r4] y4 = some (natV sp)∧sp ≤ 60:=by
       obtain ⟨x4,rfl⟩ : ∃ x : Nat,r4 = (x : Int):=⟨r4.toNat,by omega⟩
       rw [ey4]
       exact ⟨i,rfl,by omega⟩
     have u0:=same_upd (o:=.lst [V.int (i : Int),V.int r4]) hls
     have S0:=s1.trans u0
     refine ⟨ls,_,_,_,rfl,rfl,.inl (SqL.of upd_same),esp,?_⟩
     generalize upd H1 ls (.lst [V.int (i : Int),V.int r4]) = H0 at u0 S0 ⊢
     refine ⟨_,rfl,q,_,_,_,rfl,rfl,.inr (S0.tup e0),rfl,_,rfl,_,_,rfl,rfl,Int.natCast_nonneg _,fun sh esh => ⟨_,_,rfl,rfl,by decide,fun mo _ _ emo => ⟨rfl,_,rfl,?_⟩⟩⟩
     rw [shr_odd st.burn sp esh emo]
     have hpow : (2 : Nat) ^ sp ≤ 2 ^ 60:=Nat.pow_le_pow_right (by decide) hsp
     cases tb : st.burn.testBit sp with
     | true =>
       have hge : 2 ^ sp ≤ st.burn:=Nat.ge_two_pow_of_testBit tb
       refine iteT ⟨_,rfl,q,_,_,_,rfl,rfl,.inr (S0.tup e0),rfl,_,rfl,q,_,_,_,rfl,rfl,.inr (S0.tup e0),rfl,_,rfl,_,_,rfl,rfl,⟨Int.natCast_nonneg _,by omega,by decide⟩,fun w5 ew5 => ⟨_,_,rfl,rfl,fun w6 ew6 => ⟨sz2,fun t1 ht1 => ?_⟩⟩⟩
       obtain rfl : w6 = ((st.burn - 2 ^ sp : Nat) : Int):=by rw [ew6,ew5,Int.toNat_natCast,Int.one_mul]; push_cast [hge]; rfl
       have u1:=same_upd (o:=.tup [.ref pb,.int ((st.burn - 2 ^ sp : Nat) : Int)]) ht1
       have S1:=S0.trans u1
       refine ⟨_,rfl,2,rfl,q,_,2,rfl,S1.tup e0,rfl,rfl,by decide,(by show 2 ≤ 5; decide),fun t2 ht2 => ?_⟩
       have u2:=same_upd (o:=.tup [.ref pw,.ref pF,.int hp0]) ht2
       refine ⟨t1,t2,[.ref pb,.int ((st.burn - 2 ^ sp : Nat) : Int)],[.ref pw,.ref pF,.int hp0],rfl,rfl,SqT.of (u2 _ _ upd_same),SqT.of upd_same,small5 (Nat.le_of_ble_eq_true rfl),fun q6 H6 s6 h6 => ?_⟩
       have S6:=(S1.trans u2).trans s6
       exact fin (bu:=st.burn - 2 ^ sp) S6 h6 (S6.tup eb) (S6.tup ew) (S6.tup ef) (Nat.lt_of_le_of_lt (Nat.sub_le _ _) hb61) (by omega)
     | false =>
       refine iteF ⟨_,rfl,q,_,_,_,rfl,rfl,.inr (S0.tup e0),rfl,_,rfl,q,_,_,_,rfl,rfl,.inr (S0.tup e0),rfl,_,rfl,_,_,rfl,rfl,⟨Int.natCast_nonneg _,by omega,by decide⟩,fun w5 ew5 => ⟨_,_,rfl,rfl,fun w6 ew6 => ⟨sz2,fun t1 ht1 => ?_⟩⟩⟩
       obtain rfl : w6 = ((st.burn + 2 ^ sp : Nat) : Int):=by rw [ew6,ew5,Int.toNat_natCast,Int.one_mul]; push_cast; rfl
       have u1:=same_upd (o:=.tup [.ref pb,.int ((st.burn + 2 ^ sp : Nat) : Int)]) ht1
       have S1:=S0.trans u1
       refine ⟨_,rfl,2,rfl,q,_,2,rfl,S1.tup e0,rfl,rfl,by decide,(by show 2 ≤ 5; decide),fun t2 ht2 => ?_⟩
       have u2:=same_upd (o:=.tup [.ref pw,.ref pF,.int hp0]) ht2
       refine ⟨t1,t2,[.ref pb,.int ((st.burn + 2 ^ sp : Nat) : Int)],[.ref pw,.ref pF,.int hp0],rfl,rfl,SqT.of (u2 _ _ upd_same),SqT.of upd_same,small5 (Nat.le_of_ble_eq_true rfl),fun q6 H6 s6 h6 => ?_⟩
       have S6:=(S1.trans u2).trans s6
       exact fin (bu:=st.burn + 2 ^ sp) S6 h6 (S6.tup eb) (S6.tup ew) (S6.tup ef) (by omega) (by omega)
   · refine ⟨_,rfl,rfl,_,rfl,iteN nofun ?_⟩
     refine ⟨_,rfl,rfl,_,rfl,iteN nofun ?_⟩
     refine ⟨_,rfl,rfl,_,rfl,iteN nofun ?_⟩
     refine ⟨_,rfl,rfl,_,rfl,iteN nofun ?_⟩
     refine ⟨_,rfl,_,_,rfl,rfl,_,rfl,iteP (by decide) ?_⟩
     refine ⟨_,rfl,_,rfl,_,rfl,_,_,rfl,rfl,fun k4 ek4 => ⟨c,k4,61,rfl,by omega,by omega,by decide,fun r4 r40 r41 => ⟨sz2,fun ls hls => ⟨_,rfl,_,_,rfl,rfl,fun y4 ey4 => ?_⟩⟩⟩⟩
     obtain ⟨sp,esp,hsp⟩ : ∃ sp : Nat,atI [V.int (i : Int),V.int r4] y4 = some (natV sp)∧sp ≤ 60:=by
       obtain ⟨x4,rfl⟩ : ∃ x : Nat,r4 = (x : Int):=⟨r4.toNat,by omega⟩
       rw [ey4]
       exact ⟨x4,rfl,by omega⟩
     have u0:=same_upd (o:=.lst [V.int (i : Int),V.int r4]) hls
     have S0:=s1.trans u0
     refine ⟨ls,_,_,_,rfl,rfl,.inl (SqL.of upd_same),esp,?_⟩
     generalize upd H1 ls (.lst [V.int (i : Int),V.int r4]) = H0 at u0 S0 ⊢
     refine ⟨_,rfl,q,_,_,_,rfl,rfl,.inr (S0.tup e0),rfl,_,rfl,_,_,rfl,rfl,Int.natCast_nonneg _,fun sh esh => ⟨_,_,rfl,rfl,by decide,fun mo _ _ emo => ⟨rfl,_,rfl,?_⟩⟩⟩
     rw [shr_odd st.burn sp esh emo]
     have hpow : (2 : Nat) ^ sp ≤ 2 ^ 60:=Nat.pow_le_pow_right (by decide) hsp
     cases tb : st.burn.testBit sp with
     | true =>
       have hge : 2 ^ sp ≤ st.burn:=Nat.ge_two_pow_of_testBit tb
       refine iteT ⟨_,rfl,q,_,_,_,rfl,rfl,.inr (S0.tup e0),rfl,_,rfl,q,_,_,_,rfl,rfl,.inr (S0.tup e0),rfl,_,rfl,_,_,rfl,rfl,⟨Int.natCast_nonneg _,by omega,by decide⟩,fun w5 ew5 => ⟨_,_,rfl,rfl,fun w6 ew6 => ⟨sz2,fun t1 ht1 => ?_⟩⟩⟩
       obtain rfl : w6 = ((st.burn - 2 ^ sp : Nat) : Int):=by rw [ew6,ew5,Int.toNat_natCast,Int.one_mul]; push_cast [hge]; rfl
       have u1:=same_upd (o:=.tup [.ref pb,.int ((st.burn - 2 ^ sp : Nat) : Int)]) ht1
       have S1:=S0.trans u1
       refine ⟨_,rfl,2,rfl,q,_,2,rfl,S1.tup e0,rfl,rfl,by decide,(by show 2 ≤ 5; decide),fun t2 ht2 => ?_⟩
       have u2:=same_upd (o:=.tup [.ref pw,.ref pF,.int hp0]) ht2
       refine ⟨t1,t2,[.ref pb,.int ((st.burn - 2 ^ sp : Nat) : Int)],[.ref pw,.ref pF,.int hp0],rfl,rfl,SqT.of (u2 _ _ upd_same),SqT.of upd_same,small5 (Nat.le_of_ble_eq_true rfl),fun q6 H6 s6 h6 => ?_⟩
       have S6:=(S1.trans u2).trans s6
       exact fin (bu:=st.burn - 2 ^ sp) S6 h6 (S6.tup eb) (S6.tup ew) (S6.tup ef) (Nat.lt_of_le_of_lt (Nat.sub_le _ _) hb61) (by omega)
     | false =>
       refine iteF ⟨_,rfl,q,_,_,_,rfl,rfl,.inr (S0.tup e0),rfl,_,rfl,q,_,_,_,rfl,rfl,.inr (S0.tup e0),rfl,_,rfl,_,_,rfl,rfl,⟨Int.natCast_nonneg _,by omega,by decide⟩,fun w5 ew5 => ⟨_,_,rfl,rfl,fun w6 ew6 => ⟨sz2,fun t1 ht1 => ?_⟩⟩⟩
       obtain rfl : w6 = ((st.burn + 2 ^ sp : Nat) : Int):=by rw [ew6,ew5,Int.toNat_natCast,Int.one_mul]; push_cast; rfl
       have u1:=same_upd (o:=.tup [.ref pb,.int ((st.burn + 2 ^ sp : Nat) : Int)]) ht1
       have S1:=S0.trans u1
       refine ⟨_,rfl,2,rfl,q,_,2,rfl,S1.tup e0,rfl,rfl,by decide,(by show 2 ≤ 5; decide),fun t2 ht2 => ?_⟩
       have u2:=same_upd (o:=.tup [.ref pw,.ref pF,.int hp0]) ht2
       refine ⟨t1,t2,[.ref pb,.int ((st.burn + 2 ^ sp : Nat) : Int)],[.ref pw,.ref pF,.int hp0],rfl,rfl,SqT.of (u2 _ _ upd_same),SqT.of upd_same,small5 (Nat.le_of_ble_eq_true rfl),fun q6 H6 s6 h6 => ?_⟩
       have S6:=(S1.trans u2).trans s6
       exact fin (bu:=st.burn + 2 ^ sp) S6 h6 (S6.tup eb) (S6.tup ew) (S6.tup ef) (by omega) (by omega)
   · refine ⟨_,rfl,rfl,_,rfl,iteN nofun ?_⟩
     refine ⟨_,rfl,rfl,_,rfl,iteN nofun ?_⟩
     refine ⟨_,rfl,rfl,_,rfl,iteN nofun ?_⟩
     refine ⟨_,rfl,rfl,_,rfl,iteN nofun ?_⟩
     refine ⟨_,rfl,_,_,rfl,rfl,_,rfl,iteN (by decide) ?_⟩
     refine ⟨sz3,fun la hla => ⟨_,rfl,_,_,rfl,rfl,fun y5 ey5 => ?_⟩⟩
     have u0:=same_upd (o:=.lst [V.int 0,V.int 2,V.int 3]) hla
     have S0:=s1.trans u0
     refine ⟨la,_,_,_,rfl,rfl,.inl (SqL.of upd_same),(by rw [ey5]; exact (rfl : atI [V.int 0,V.int 2,V.int 3] (6 - 6) = some (.int 0))),?_⟩
     generalize upd H1 la (.lst [V.int 0,V.int 2,V.int 3]) = H0 at u0 S0 ⊢
     refine ⟨_,rfl,_,rfl,q,_,_,_,rfl,rfl,.inr (S0.tup e0),rfl,sz1,fun t1 ht1 => ?_⟩
     have u1:=same_upd (o:=.tup [V.int 0]) ht1
     have S1:=S0.trans u1
     refine ⟨pb,t1,bs.map V.int,[V.int 0],rfl,rfl,S1.tup eb,SqT.of upd_same,small5 (by rw [List.length_map]; simp only [List.length_cons,List.length_nil]; omega),fun q3 H3 s3 h3 => ?_⟩
     have S3:=S1.trans s3
     refine ⟨_,rfl,_,rfl,q,_,_,_,rfl,rfl,.inr (S3.tup e0),rfl,1,rfl,pb,_,1,rfl,S3.tup eb,rfl,rfl,by decide,(by rw [List.length_map]; omega),fun t4 ht4 => ⟨sz2,fun lr hlr => ?_⟩⟩
     have u4:=same_upd (o:=.tup ((bs.map V.int).drop 1)) ht4
     have u5:=same_upd (o:=.lst [V.ref q3,V.ref t4]) hlr
     have S5:=(S3.trans u4).trans u5
     have g3:=(u4.trans u5).tup h3
     have g4 : SqT K _ t4 ((bs.map V.int).drop 1):=u5.tup (SqT.of upd_same)
     refine ⟨_,rfl,_,rfl,_,_,rfl,rfl,fun k6 ek6 => ⟨c,k6,2,rfl,by omega,by omega,by decide,fun r6 r60 r61 => ?_⟩⟩
     obtain ⟨rw6,l6,e6,g6,n6⟩ : ∃ rw6,∃ l6 : List Int,atI [V.ref q3,V.ref t4] r6 = some (.ref rw6)∧SqT K (upd (upd H3 t4 (.tup ((bs.map V.int).drop 1))) lr (.lst [V.ref q3,V.ref t4])) rw6 (l6.map V.int)∧l6.length ≤ 9:=by
       have : r6 = 0 ∨ r6 = 1:=by omega
       rcases this with rfl | rfl
       · exact ⟨q3,bs ++ [0],rfl,by rw [List.map_append]; exact g3,by rw [List.length_append]; simp only [List.length_cons,List.length_nil]; omega⟩
       · exact ⟨t4,bs.drop 1,rfl,by rw [List.map_drop]; exact g4,by rw [List.length_drop]; omega⟩
     refine ⟨lr,_,_,_,rfl,rfl,.inl (SqL.of upd_same),e6,?_⟩
     generalize upd (upd H3 t4 (.tup ((bs.map V.int).drop 1))) lr (.lst [V.ref q3,V.ref t4]) = H5 at u5 S5 g6 ⊢
     refine ⟨_,rfl,_,rfl,0,rfl,q,_,0,rfl,S5.tup e0,rfl,rfl,(by show 0 < 5; decide),fun t7 ht7 => ⟨_,rfl,sz1,fun t8 ht8 => ?_⟩⟩
     have u7:=same_upd (o:=.tup ([] : List V)) ht7
     have u8:=same_upd (o:=.tup [V.ref rw6]) ht8
     have S8:=(S5.trans u7).trans u8
     refine ⟨t7,t8,([] : List V),[V.ref rw6],rfl,rfl,SqT.of (u8 _ _ upd_same),SqT.of upd_same,small5 (Nat.le_of_ble_eq_true rfl),fun q9 H9 s9 h9 => ?_⟩
     have S9:=S8.trans s9
     refine ⟨_,rfl,_,rfl,_,_,rfl,rfl,fun y9 ey9 => ?_⟩
     obtain rfl : y9 = 1:=ey9
     refine ⟨1,rfl,q,_,1,rfl,S9.tup e0,rfl,rfl,by decide,(by show 1 ≤ 5; decide),fun t10 ht10 => ?_⟩
     have u10:=same_upd (o:=.tup [natV st.burn,.ref pw,.ref pF,.int hp0]) ht10
     refine ⟨q9,t10,([] : List V) ++ [V.ref rw6],[natV st.burn,.ref pw,.ref pF,.int hp0],rfl,rfl,u10.tup h9,SqT.of upd_same,small5 (Nat.le_of_ble_eq_true rfl),fun q6 H6 s6 h6 => ?_⟩
     have S6:=(S9.trans u10).trans s6
     have h26:=((((u7.trans u8).trans s9).trans u10).trans s6).tup g6
     exact fin S6 h6 h26 (S6.tup ew) (S6.tup ef) hb61 n6
   · refine ⟨_,rfl,rfl,_,rfl,iteN nofun ?_⟩
     refine ⟨_,rfl,rfl,_,rfl,iteN nofun ?_⟩
     refine ⟨_,rfl,rfl,_,rfl,iteN nofun ?_⟩
     refine ⟨_,rfl,rfl,_,rfl,iteN nofun ?_⟩
     refine ⟨_,rfl,_,_,rfl,rfl,_,rfl,iteN (by decide) ?_⟩
     refine ⟨sz3,fun la hla => ⟨_,rfl,_,_,rfl,rfl,fun y5 ey5 => ?_⟩⟩
     have u0:=same_upd (o:=.lst [V.int 0,V.int 2,V.int 3]) hla
     have S0:=s1.trans u0
     refine ⟨la,_,_,_,rfl,rfl,.inl (SqL.of upd_same),(by rw [ey5]; exact (rfl : atI [V.int 0,V.int 2,V.int 3] (7 - 6) = some (.int 2))),?_⟩
     generalize upd H1 la (.lst [V.int 0,V.int 2,V.int 3]) = H0 at u0 S0 ⊢
     refine ⟨_,rfl,_,rfl,q,_,_,_,rfl,rfl,.inr (S0.tup e0),rfl,sz1,fun t1 ht1 => ?_⟩
     have u1:=same_upd (o:=.tup [V.int 0]) ht1
     have S1:=S0.trans u1
     refine ⟨pw,t1,ws.map V.int,[V.int 0],rfl,rfl,S1.tup ew,SqT.of upd_same,small5 (by rw [List.length_map]; simp only [List.length_cons,List.length_nil]; omega),fun q3 H3 s3 h3 => ?_⟩
     have S3:=S1.trans s3
     refine ⟨_,rfl,_,rfl,q,_,_,_,rfl,rfl,.inr (S3.tup e0),rfl,1,rfl,pw,_,1,rfl,S3.tup ew,rfl,rfl,by decide,(by rw [List.length_map]; omega),fun t4 ht4 => ⟨sz2,fun lr hlr => ?_⟩⟩
     have u4:=same_upd (o:=.tup ((ws.map V.int).drop 1)) ht4
     have u5:=same_upd (o:=.lst [V.ref q3,V.ref t4]) hlr
     have S5:=(S3.trans u4).trans u5
     have g3:=(u4.trans u5).tup h3
     have g4 : SqT K _ t4 ((ws.map V.int).drop 1):=u5.tup (SqT.of upd_same)
     refine ⟨_,rfl,_,rfl,_,_,rfl,rfl,fun k6 ek6 => ⟨c,k6,2,rfl,by omega,by omega,by decide,fun r6 r60 r61 => ?_⟩⟩
     obtain ⟨rw6,l6,e6,g6,n6⟩ : ∃ rw6,∃ l6 : List Int,atI [V.ref q3,V.ref t4] r6 = some (.ref rw6)∧SqT K (upd (upd H3 t4 (.tup ((ws.map V.int).drop 1))) lr (.lst [V.ref q3,V.ref t4])) rw6 (l6.map V.int)∧l6.length ≤ 9:=by
       have : r6 = 0 ∨ r6 = 1:=by omega
       rcases this with rfl | rfl
       · exact ⟨q3,ws ++ [0],rfl,by rw [List.map_append]; exact g3,by rw [List.length_append]; simp only [List.length_cons,List.length_nil]; omega⟩
       · exact ⟨t4,ws.drop 1,rfl,by rw [List.map_drop]; exact g4,by rw [List.length_drop]; omega⟩
     refine ⟨lr,_,_,_,rfl,rfl,.inl (SqL.of upd_same),e6,?_⟩
     generalize upd (upd H3 t4 (.tup ((ws.map V.int).drop 1))) lr (.lst [V.ref q3,V.ref t4]) = H5 at u5 S5 g6 ⊢
     refine ⟨_,rfl,_,rfl,2,rfl,q,_,2,rfl,S5.tup e0,rfl,rfl,(by show 2 < 5; decide),fun t7 ht7 => ⟨_,rfl,sz1,fun t8 ht8 => ?_⟩⟩
     have u7:=same_upd (o:=.tup [.ref pb,natV st.burn]) ht7
     have u8:=same_upd (o:=.tup [V.ref rw6]) ht8
     have S8:=(S5.trans u7).trans u8
     refine ⟨t7,t8,[.ref pb,natV st.burn],[V.ref rw6],rfl,rfl,SqT.of (u8 _ _ upd_same),SqT.of upd_same,small5 (Nat.le_of_ble_eq_true rfl),fun q9 H9 s9 h9 => ?_⟩
     have S9:=S8.trans s9
     refine ⟨_,rfl,_,rfl,_,_,rfl,rfl,fun y9 ey9 => ?_⟩
     obtain rfl : y9 = 3:=ey9
     refine ⟨3,rfl,q,_,3,rfl,S9.tup e0,rfl,rfl,by decide,(by show 3 ≤ 5; decide),fun t10 ht10 => ?_⟩
     have u10:=same_upd (o:=.tup [.ref pF,.int hp0]) ht10
     refine ⟨q9,t10,[.ref pb,natV st.burn] ++ [V.ref rw6],[.ref pF,.int hp0],rfl,rfl,u10.tup h9,SqT.of upd_same,small5 (Nat.le_of_ble_eq_true rfl),fun q6 H6 s6 h6 => ?_⟩
     have S6:=(S9.trans u10).trans s6
     have h26:=((((u7.trans u8).trans s9).trans u10).trans s6).tup g6
     exact fin S6 h6 (S6.tup eb) h26 (S6.tup ef) hb61 (by omega)
   · refine ⟨_,rfl,rfl,_,rfl,iteN nofun ?_⟩
     refine ⟨_,rfl,rfl,_,rfl,iteN nofun ?_⟩
     refine ⟨_,rfl,rfl,_,rfl,iteN nofun ?_⟩
     refine ⟨_,rfl,rfl,_,rfl,iteN nofun ?_⟩
     refine ⟨_,rfl,_,_,rfl,rfl,_,rfl,iteN (by decide) ?_⟩
     refine ⟨sz3,fun la hla => ⟨_,rfl,_,_,rfl,rfl,fun y5 ey5 => ?_⟩⟩
     have u0:=same_upd (o:=.lst [V.int 0,V.int 2,V.int 3]) hla
     have S0:=s1.trans u0
     refine ⟨la,_,_,_,rfl,rfl,.inl (SqL.of upd_same),(by rw [ey5]; exact (rfl : atI [V.int 0,V.int 2,V.int 3] (8 - 6) = some (.int 3))),?_⟩
     generalize upd H1 la (.lst [V.int 0,V.int 2,V.int 3]) = H0 at u0 S0 ⊢
     refine ⟨_,rfl,_,rfl,q,_,_,_,rfl,rfl,.inr (S0.tup e0),rfl,sz1,fun t1 ht1 => ?_⟩
     have u1:=same_upd (o:=.tup [V.int 0]) ht1
     have S1:=S0.trans u1
     refine ⟨pF,t1,fs.map V.int,[V.int 0],rfl,rfl,S1.tup ef,SqT.of upd_same,small5 (by rw [List.length_map]; simp only [List.length_cons,List.length_nil]; omega),fun q3 H3 s3 h3 => ?_⟩
     have S3:=S1.trans s3
     refine ⟨_,rfl,_,rfl,q,_,_,_,rfl,rfl,.inr (S3.tup e0),rfl,1,rfl,pF,_,1,rfl,S3.tup ef,rfl,rfl,by decide,(by rw [List.length_map]; omega),fun t4 ht4 => ⟨sz2,fun lr hlr => ?_⟩⟩
     have u4:=same_upd (o:=.tup ((fs.map V.int).drop 1)) ht4
     have u5:=same_upd (o:=.lst [V.ref q3,V.ref t4]) hlr
     have S5:=(S3.trans u4).trans u5
     have g3:=(u4.trans u5).tup h3
     have g4 : SqT K _ t4 ((fs.map V.int).drop 1):=u5.tup (SqT.of upd_same)
     refine ⟨_,rfl,_,rfl,_,_,rfl,rfl,fun k6 ek6 => ⟨c,k6,2,rfl,by omega,by omega,by decide,fun r6 r60 r61 => ?_⟩⟩
     obtain ⟨rw6,l6,e6,g6,n6⟩ : ∃ rw6,∃ l6 : List Int,atI [V.ref q3,V.ref t4] r6 = some (.ref rw6)∧SqT K (upd (upd H3 t4 (.tup ((fs.map V.int).drop 1))) lr (.lst [V.ref q3,V.ref t4])) rw6 (l6.map V.int)∧l6.length ≤ 9:=by
       have : r6 = 0 ∨ r6 = 1:=by omega
       rcases this with rfl | rfl
       · exact ⟨q3,fs ++ [0],rfl,by rw [List.map_append]; exact g3,by rw [List.length_append]; simp only [List.length_cons,List.length_nil]; omega⟩
       · exact ⟨t4,fs.drop 1,rfl,by rw [List.map_drop]; exact g4,by rw [List.length_drop]; omega⟩
     refine ⟨lr,_,_,_,rfl,rfl,.inl (SqL.of upd_same),e6,?_⟩
     generalize upd (upd H3 t4 (.tup ((fs.map V.int).drop 1))) lr (.lst [V.ref q3,V.ref t4]) = H5 at u5 S5 g6 ⊢
     refine ⟨_,rfl,_,rfl,3,rfl,q,_,3,rfl,S5.tup e0,rfl,rfl,(by show 3 < 5; decide),fun t7 ht7 => ⟨_,rfl,sz1,fun t8 ht8 => ?_⟩⟩
     have u7:=same_upd (o:=.tup [.ref pb,natV st.burn,.ref pw]) ht7
     have u8:=same_upd (o:=.tup [V.ref rw6]) ht8
     have S8:=(S5.trans u7).trans u8
     refine ⟨t7,t8,[.ref pb,natV st.burn,.ref pw],[V.ref rw6],rfl,rfl,SqT.of (u8 _ _ upd_same),SqT.of upd_same,small5 (Nat.le_of_ble_eq_true rfl),fun q9 H9 s9 h9 => ?_⟩
     have S9:=S8.trans s9
     refine ⟨_,rfl,_,rfl,_,_,rfl,rfl,fun y9 ey9 => ?_⟩
     obtain rfl : y9 = 4:=ey9
     refine ⟨4,rfl,q,_,4,rfl,S9.tup e0,rfl,rfl,by decide,(by show 4 ≤ 5; decide),fun t10 ht10 => ?_⟩
     have u10:=same_upd (o:=.tup [.int hp0]) ht10
     refine ⟨q9,t10,[.ref pb,natV st.burn,.ref pw] ++ [V.ref rw6],[.int hp0],rfl,rfl,u10.tup h9,SqT.of upd_same,small5 (Nat.le_of_ble_eq_true rfl),fun q6 H6 s6 h6 => ?_⟩
     have S6:=(S9.trans u10).trans s6
     have h26:=((((u7.trans u8).trans s9).trans u10).trans s6).tup g6
     exact fin S6 h6 (S6.tup eb) (S6.tup ew) h26 hb61 (by omega)
theorem ok_law_room_right (T : Txt K mg Ad) : Def P w K mg base "_law_room_right" 1 ["_law_told","_law_state","_law_room"] (sp_rroom12 K):=by
 refine T.d_law_room_right.def sc_law_room_right (fun vs H Q E h => ?_) (fun _ _ _ _ _ _ us hl => match us,hl with | [_,_,_],_ => rfl) (fun f _ _ _ s H vs Q E hr h => ?_)
 · obtain ⟨p,tm,n,q,g,i,rfl,_⟩:=h
   rfl
 · obtain ⟨p,tm,n,q,g,i,rfl,hT,ok,n4,hs,lb,lw,lf,hi,k⟩:=h
   refine ⟨_,(pss_cons (ps_set (i:=3) sc_law_room_right.nd rfl (by first | exact Or.inl rfl | exact Or.inr rfl) (pe_ix ix_any (pe_dget (hu_of hr) (pv 0) pe_str (fun _ _ => rfl)) (pv 2) (fun _ _ => rfl)))
     (pss_cons (ps_set (i:=4) sc_law_room_right.nd rfl (by first | exact Or.inl rfl | exact Or.inr rfl) (pe_cmpR op_eq (pe_op op_modL (pe_op op_shrL (pe_ix ix_any (pv 1) pe_int (fun _ _ => rfl)) (pv 2)) pe_int) pe_int (nomark _)))
     (pss_cons (ps_if (pt_not (pt_chain op_le op_lt pe_int (pe_ix ix_any (pe_ix ix_any (pv 1) pe_int (fun _ _ => rfl)) (pv 2) (fun _ _ => rfl)) (pe_op op_subL (pe_callB call_lenL (by rfl) T.n_len bt_len (pa_cons (pe_ix ix_any (pe_dget (hu_of hr) (pv 0) pe_str (fun _ _ => rfl)) (pv 2) (fun _ _ => rfl)) pa_nil)) pe_int))) (pss_one (ps_ret pe_bl)) pss_nil)
     (pss_cons (ps_if (pt_cmpR op_isN (pv 3) pe_non (nomark _)) (pss_one (ps_ret (pe_and (pe_not (pv 4)) (pe_and (pe_cmpR op_eq (pe_ix ix_any (pe_ix ix_any (pv 1) pe_int (fun _ _ => rfl)) (pv 2) (fun _ _ => rfl)) pe_int (nomark _)) (pe_one (pe_cmpR op_eq (pe_ix ix_any (pe_ix ix_any (pv 1) pe_int (fun _ _ => rfl)) (pv 2) (fun _ _ => rfl)) pe_int (nomark _))))))) pss_nil)
     (pss_cons (ps_if (PW.pt (pw_or (pt_not (pt_chain op_le op_le pe_int (pe_ix ix_any (pe_ix ix_any (pv 1) pe_int (fun _ _ => rfl)) (pv 2) (fun _ _ => rfl)) (pe_ix ix_any (pv 3) pe_int (fun _ _ => rfl)))) (pw_or1 (pt_not (pt_chain op_le op_le pe_int (pe_ix ix_any (pe_ix ix_any (pv 1) pe_int (fun _ _ => rfl)) (pv 2) (fun _ _ => rfl)) (pe_ix ix_any (pv 3) pe_int (fun _ _ => rfl))))))) (pss_one (ps_ret pe_bl)) pss_nil)
     (pss_one (ps_ret (pe_or (pe_cmpR op_eq (pe_ix ix_any (pe_ix ix_any (pv 1) pe_int (fun _ _ => rfl)) (pv 2) (fun _ _ => rfl)) pe_int (nomark _)) (pe_one (pe_and (pe_not (pv 4)) (pe_one (pe_cmpR op_eq (pe_ix ix_any (pe_ix ix_any (pv 1) pe_int (fun _ _ => rfl)) (pv 2) (fun _ _ => rfl)) pe_int (nomark _))))))))))))),?_⟩
   obtain ⟨pm,ps,pt,pf,psc,pbo,vm,vs,vt,kvs,C0⟩:=id hT
   obtain ⟨pb,pw,pF,e0,eb,ew,ef⟩:=id hs
   have hti : i < tm.stoves.length:=by rw [ok.lt]; exact hi
   have him : i < tm.marks.length:=by rw [ok.lm]; exact hi
   have esv:=stv_m2 ok hi
   rw [get_nat hti] at esv
   have esv : (tm.m2 n n).stv i = tm.stoves[i].map tm.stoveAt:=esv
   have enb : (tm.m2 n n).nb i = (tm.marks[i].length : Int) - 1:=by
     obtain ⟨f1,_⟩:=m2_facts tm n n
     unfold HoldM.nb
     rw [f1,List.getD_eq_getElem?_getD,List.getElem?_map,List.getElem?_take,if_pos hi,get_nat him]
     show ((tm.row tm.marks[i]).length : Int) - 1 = _
     unfold ToldM.row
     rw [List.length_map]
   obtain ⟨vq,evq,dq⟩:=C0.dt.get (i:=i) (d:=stI tm.stoves[i]) (by rw [List.getElem?_map,get_nat hti]; rfl)
   obtain ⟨vk,evk,pk,ws',rfl,hpk,dws⟩:=C0.dm.get (i:=i) (d:=rowI tm.marks[i]) (by rw [List.getElem?_map,get_nat him]; rfl)
   obtain rfl:=dn_ints_inv dws
   have hlk : SqL K H pk (tm.marks[i].map V.int):=cut_same.seq hpk
   have fin : ∀ x : Bool,x = roomB ((tm.m2 n n).nb i) ((tm.m2 n n).sv i) (g.bands.getD i 0) (g.burn.testBit i) (g.waits.getD i 0) (g.failed.getD i 0)→Q (.bl x) H:=fun x e => by rw [e]; exact k
   unfold roomB HoldM.sv at fin
   rw [enb,esv] at fin
   have ab:=atI_getD (l:=g.bands) (i:=i) (by omega)
   have aw:=atI_getD (l:=g.waits) (i:=i) (by omega)
   have af:=atI_getD (l:=g.failed) (i:=i) (by omega)
   refine ⟨_,rfl,p,_,rfl,tget_stoves C0.hp,_,rfl,pt,vt,_,_,rfl,rfl,.inl (SqL.of C0.hpt),atI_nat evq,?_⟩
   refine ⟨_,rfl,q,_,_,_,rfl,rfl,.inr e0,rfl,_,rfl,_,_,rfl,rfl,Int.natCast_nonneg _,fun sh esh => ⟨_,_,rfl,rfl,by decide,fun mo _ _ emo => ⟨rfl,?_⟩⟩⟩
   rw [shr_odd g.burn i esh emo]
   refine ⟨_,rfl,q,_,_,_,rfl,rfl,.inr e0,rfl,_,rfl,pb,_,_,_,rfl,rfl,.inr eb,ab,_,_,rfl,rfl,_,rfl,?_⟩
   by_cases h1 : 0 ≤ g.bands.getD i 0
   case neg => exact iteN h1 ⟨_,rfl,iteT (fin _ (by rw [decide_eq_false h1]; rfl))⟩
   refine iteP h1 ⟨_,rfl,p,_,rfl,tget_marks C0.hp,_,rfl,pm,vm,_,_,rfl,rfl,.inl (SqL.of C0.hpm),atI_nat evk,pk,_,rfl,.inl hlk,fun y ey => ⟨_,_,rfl,rfl,fun z ez => ⟨_,_,rfl,rfl,_,rfl,?_⟩⟩⟩
   rw [List.length_map] at ey
   subst ey ez
   refine ite4 (fun h2 => fin _ (by rw [decide_eq_false h2,Bool.and_false]; rfl)) (fun h2 => ?_)
   rw [decide_eq_true h1,decide_eq_true h2] at fin
   cases est : tm.stoves[i] with
   | none =>
     rw [est] at dq fin
     have dq : vq = .non:=dq
     subst dq
     have fin : ∀ x : Bool,x = (!g.burn.testBit i && (decide (g.waits.getD i 0 = 0) && decide (g.failed.getD i 0 = 0)))→Q (.bl x) H:=fun x e => fin x e
     refine ⟨_,rfl,rfl,_,rfl,iteP rfl ⟨_,rfl,_,rfl,_,rfl,?_⟩⟩
     cases hf : g.burn.testBit i with
     | true =>
       rw [hf] at fin
       exact iteF (fin _ rfl)
     | false =>
       rw [hf] at fin
       refine iteT ⟨_,rfl,q,_,_,_,rfl,rfl,.inr e0,rfl,_,rfl,pw,_,_,_,rfl,rfl,.inr ew,aw,rfl,_,rfl,ite3 (fun h => ⟨_,rfl,q,_,_,_,rfl,rfl,.inr e0,rfl,_,rfl,pF,_,_,_,rfl,rfl,.inr ef,af,rfl,fin _ ?_⟩) (fun h => fin _ ?_)⟩
       · rw [dec_int,decide_eq_true (int_inj.mp h)]; rfl
       · rw [decide_eq_false (fun q => h (int_inj.mpr q))]; rfl
   | some zz =>
     rw [est] at dq fin
     obtain ⟨pq,wq,rfl,hpq,t1,r1,rfl,g1,t2,r2,rfl,g2,t3,r3,rfl,g3,t4,r4,rfl,g4,g5⟩:=dq
     have g5 : r4 = []:=g5
     have g1 : t1 = .int zz.1:=g1
     have g2 : t2 = .int zz.2.1:=g2
     have g3 : t3 = .int zz.2.2.1:=g3
     have g4 : t4 = .int zz.2.2.2:=g4
     subst g1 g2 g3 g4 g5
     have hq0 : SqT K H pq [.int zz.1,.int zz.2.1,.int zz.2.2.1,.int zz.2.2.2]:=cut_same.tup hpq
     have fin : ∀ x : Bool,x = ((decide (0 ≤ g.waits.getD i 0) && decide (g.waits.getD i 0 ≤ zz.2.2.1)) && ((decide (0 ≤ g.failed.getD i 0) && decide (g.failed.getD i 0 ≤ zz.2.2.2)) && (decide (g.failed.getD i 0 = 0) || (!g.burn.testBit i && decide (g.waits.getD i 0 = 0)))))→Q (.bl x) H:=fun x e => fin x e
     refine ⟨_,rfl,rfl,_,rfl,iteN nofun ?_⟩
     refine ⟨_,rfl,q,_,_,_,rfl,rfl,.inr e0,rfl,_,rfl,pw,_,_,_,rfl,rfl,.inr ew,aw,_,_,rfl,rfl,_,rfl,?_⟩
     by_cases h3 : 0 ≤ g.waits.getD i 0
     case neg => exact iteN h3 ⟨_,rfl,iteT (fin _ (by rw [decide_eq_false h3]; rfl))⟩
     refine iteP h3 ⟨_,rfl,pq,_,_,_,rfl,rfl,.inr hq0,rfl,_,_,rfl,rfl,_,rfl,ite4 (fun h4 => fin _ (by rw [decide_eq_false h4,Bool.and_false]; rfl)) (fun h4 => ?_)⟩
     refine ⟨_,rfl,q,_,_,_,rfl,rfl,.inr e0,rfl,_,rfl,pF,_,_,_,rfl,rfl,.inr ef,af,_,_,rfl,rfl,_,rfl,?_⟩
     by_cases h5 : 0 ≤ g.failed.getD i 0
     case neg => exact iteN h5 ⟨_,rfl,iteT (fin _ (by rw [decide_eq_false h5,Bool.false_and,Bool.false_and,Bool.and_false]))⟩
     refine iteP h5 ⟨_,rfl,pq,_,_,_,rfl,rfl,.inr hq0,rfl,_,_,rfl,rfl,_,rfl,ite4 (fun h6 => fin _ (by rw [decide_eq_false h6,Bool.and_false,Bool.false_and,Bool.and_false])) (fun h6 => ?_)⟩
     rw [decide_eq_true h3,decide_eq_true h4,decide_eq_true h5,decide_eq_true h6] at fin
     refine ⟨_,rfl,q,_,_,_,rfl,rfl,.inr e0,rfl,_,rfl,pF,_,_,_,rfl,rfl,.inr ef,af,rfl,_,rfl,ite3 (fun h7 => fin _ ?_) (fun h7 => ?_)⟩
     · rw [decide_eq_true (int_inj.mp h7)]; rfl
     rw [decide_eq_false (fun q => h7 (int_inj.mpr q))] at fin
     refine ⟨_,rfl,_,rfl,_,rfl,?_⟩
     cases hf : g.burn.testBit i with
     | true =>
       rw [hf] at fin
       exact iteF (fin _ rfl)
     | false =>
       rw [hf] at fin
       exact iteT ⟨_,rfl,q,_,_,_,rfl,rfl,.inr e0,rfl,_,rfl,pw,_,_,_,rfl,rfl,.inr ew,aw,rfl,fin _ (by rw [dec_int]; rfl)⟩
theorem pl_natsL {l : List Nat} : plD 1 (.list (l.map natD)):=by
 intro d hd
 obtain ⟨i,_,rfl⟩:=List.mem_map.mp hd
 exact trivial
theorem burn_iff {b n : Nat} (h : b < 2 ^ 61) : (Bit.rooms b).filter (fun r => decide (n ≤ r)) = [] ↔ b < 2 ^ n:=by
 rw [List.filter_eq_nil_iff]
 constructor
 · intro z
   refine Nat.lt_pow_two_of_testBit _ fun i hi => ?_
   by_cases h61 : i < 61
   · cases e : b.testBit i with
     | false => rfl
     | true => exact absurd (decide_eq_true hi) (z i (List.mem_filter.mpr ⟨List.mem_range.mpr h61,e⟩))
   · exact Bit.bit_small h (by omega)
 · intro z r hr
   have:=(List.mem_filter.mp hr).2
   intro q
   rw [Bit.bit_small z (of_decide_eq_true q)] at this
   cases this
set_option maxHeartbeats 0 in
theorem ok_law_right (T : Txt K mg Ad) : Def P w K mg base "_law_right" 2 ["_law_told","_law_state"] (sp_right12 K):=by
 refine T.d_law_right.def sc_law_right (fun vs H Q E h => ?_) (fun _ _ _ _ _ _ us hl => match us,hl with | [_,_],_ => rfl) (fun f _ _ _ s H vs Q E hr h => ?_)
 · obtain ⟨p,tm,n,q,g,rfl,_⟩:=h
   rfl
 · obtain ⟨p,tm,n,q,g,rfl,hT,ok,n4,hs,hb,k⟩:=h
   refine ⟨_,(pss_cons (ps_set (i:=2) sc_law_right.nd rfl (by first | exact Or.inl rfl | exact Or.inr rfl) (pe_callB call_lenL (by rfl) T.n_len bt_len (pa_cons (pe_dget (hu_of hr) (pv 0) pe_str (fun _ _ => rfl)) pa_nil)))
     (pss_cons (ps_if (PW.pt (pw_or (pt_cmpR op_ne (pe_callB call_lenL (by rfl) T.n_len bt_len (pa_cons (pe_ix ix_any (pv 1) pe_int (fun _ _ => rfl)) pa_nil)) (pv 2) (nomark _)) (pw_or (pt_cmpR op_ne (pe_callB call_lenL (by rfl) T.n_len bt_len (pa_cons (pe_ix ix_any (pv 1) pe_int (fun _ _ => rfl)) pa_nil)) (pv 2) (nomark _)) (pw_or1 (pt_cmpR op_ne (pe_callB call_lenL (by rfl) T.n_len bt_len (pa_cons (pe_ix ix_any (pv 1) pe_int (fun _ _ => rfl)) pa_nil)) (pv 2) (nomark _)))))) (pss_one (ps_ret pe_bl)) pss_nil)
     (pss_cons (ps_lc (yi:=3) ["_law_room"] ["_law_state"] [1] (.cons ⟨rfl,rfl,.inl rfl⟩ .nil) rfl (pi_range1 rfl T.n_range (pa_cons pe_int pa_nil)) (fun _ _ _ _ _ => (pg_name (i:=0) (show (["_law_room","_law_state"] : List Str).Nodup by decide +kernel) rfl (by first | exact Or.inl rfl | exact Or.inr rfl))) (fun _ _ _ _ _ => (pif_one (pt_cmpR op_eq (pe_op op_modL (pe_op op_shrL (pe_ix (ix_anyK (K:=K) rfl) (pv 1) pe_int (fun _ _ => rfl)) (pv 0)) pe_int) pe_int (nomark _)))) (fun _ _ _ _ _ => (pv 0)) rfl (by decide +kernel) (by decide +kernel) (by decide +kernel) sc_law_right.nd rfl (by first | exact Or.inl rfl | exact Or.inr rfl) rfl)
     (pss_cons (ps_if (PW.pt (pw_or (pt_cmpR op_gt (pe_callB call_lenL (by rfl) T.n_len bt_len (pa_cons (pv 3) pa_nil)) (pe_ix ix_any (pe_dget (hu_of hr) (pv 0) pe_str (fun _ _ => rfl)) pe_int (fun _ _ => rfl)) (nomark _)) (pw_or1 (pt_cmpR (op_neD hr.units) (pe_lc ["_law_room"] ["_law_many"] [2] (.cons ⟨rfl,rfl,.inl rfl⟩ .nil) rfl (pi_list (pv 3)) (fun _ _ _ _ _ => (pg_name (i:=0) (show (["_law_room","_law_many"] : List Str).Nodup by decide +kernel) rfl (by first | exact Or.inl rfl | exact Or.inr rfl))) (fun _ _ _ _ _ => (pif_one (pt_cmpR op_ge (pv 0) (pv 1) (nomark _)))) (fun _ _ _ _ _ => (pv 0)) rfl (by decide +kernel) (by decide +kernel) (by decide +kernel)) (pe_lst pa_nil) (nomark _))))) (pss_one (ps_ret pe_bl)) pss_nil)
     (pss_cons (ps_if (pt_not (pt_chain op_le op_le pe_int (pe_ix ix_any (pv 1) pe_int (fun _ _ => rfl)) (pe_ix ix_any (pe_dget (hu_of hr) (pv 0) pe_str (fun _ _ => rfl)) pe_int (fun _ _ => rfl)))) (pss_one (ps_ret pe_bl)) pss_nil)
     (pss_cons (ps_for PassesOwn.never rfl (pi_range1 rfl T.n_range (pa_cons (pv 2) pa_nil)) (pg_name (i:=4) sc_law_right.nd rfl (by first | exact Or.inl rfl | exact Or.inr rfl)) (pss_one (ps_if (pt_not (pt_val (pe_callD (ok_law_room_right T) (hr.mono (by decide)) (pa_cons (pv 0) (pa_cons (pv 1) (pa_cons (pv 4) pa_nil)))))) (pss_one (ps_ret pe_bl)) pss_nil)))
     (pss_one (ps_ret pe_bl)))))))),?_⟩
   obtain ⟨pm,ps,pt,pf,psc,pbo,vm,vs,vt,kvs,C0⟩:=id hT
   have lvm : vm.length = n:=by rw [C0.dm.length,List.length_map,ok.lm]
   have hbo : SqT K H pbo [.int tm.bounds.1,.int tm.bounds.2.1,.int tm.bounds.2.2]:=cut_same.tup C0.bo
   obtain ⟨pb,pw,pF,e0,eb,ew,ef⟩:=id hs
   obtain ⟨f1,f2,f3,f4⟩:=m2_facts tm n n
   have hl : (tm.m2 n n).rows.length = n:=by rw [f1,List.length_map,List.length_take,ok.lm]; omega
   have fin : ∀ x : Bool,x = isM (tm.m2 n n) g→∀ H',Same H H'→Q (.bl x) H':=fun x e H' s' => by rw [e]; exact k H' s'
   unfold isM isB at fin
   rw [hl,f2,f3] at fin
   refine ⟨_,rfl,p,_,rfl,tget_marks C0.hp,pm,vm,rfl,.inl (SqL.of C0.hpm),fun r er => ?_⟩
   obtain rfl : r = (n : Int):=by rw [er,lvm]
   refine ⟨_,rfl,q,_,_,_,rfl,rfl,.inr e0,rfl,pb,_,rfl,.inr eb,fun y ey => ⟨_,rfl,rfl,_,rfl,?_⟩⟩
   rw [List.length_map] at ey
   by_cases c1 : g.bands.length = n
   case neg => exact ite4 (fun _ => fin _ (by rw [decide_eq_false c1]; rfl) _ (Same.refl _)) (fun q => absurd (by have:=int_inj.mp q; omega) c1)
   refine iteNS (by rw [ey,c1]) ?_
   refine ⟨_,rfl,q,_,_,_,rfl,rfl,.inr e0,rfl,pw,_,rfl,.inr ew,fun y ey => ⟨_,rfl,rfl,_,rfl,?_⟩⟩
   rw [List.length_map] at ey
   by_cases c2 : g.waits.length = n
   case neg => exact ite4 (fun _ => fin _ (by rw [decide_eq_false c2,Bool.false_and,Bool.and_false]; rfl) _ (Same.refl _)) (fun q => absurd (by have:=int_inj.mp q; omega) c2)
   refine iteNS (by rw [ey,c2]) ?_
   refine ⟨_,rfl,q,_,_,_,rfl,rfl,.inr e0,rfl,pF,_,rfl,.inr ef,fun y ey => ⟨_,rfl,rfl,_,rfl,?_⟩⟩
   rw [List.length_map] at ey
   by_cases c3 : g.failed.length = n
   case neg => exact ite4 (fun _ => fin _ (by rw [decide_eq_false c3,Bool.and_false,Bool.and_false]; rfl) _ (Same.refl _)) (fun q => absurd (by have:=int_inj.mp q; omega) c3)
   refine iteNS (by rw [ey,c3]) ?_
   rw [decide_eq_true c1,decide_eq_true c2,decide_eq_true c3] at fin
   refine ⟨_,rfl,by decide,by decide,fun D hD => ?_⟩
   refine comp_range (lo:=0) (n:=61) (fun i acc σ H' => Same H H'∧H' D = some (.lst acc)∧acc = ((List.range i).filter g.burn.testBit).map natV∧∃ v,σ = [v,some (.ref q)]) ⟨same_upd hD,upd_same,rfl,none,rfl⟩ ?_ ?_
   · rintro i acc σ H1 hi ⟨s1,hD1,rfl,v,rfl⟩
     refine ⟨_,rfl,q,_,_,_,rfl,rfl,.inr (s1.tup e0),rfl,_,rfl,_,_,rfl,rfl,by omega,fun sh esh => ⟨_,_,rfl,rfl,by decide,fun mo _ _ emo => ⟨rfl,_,rfl,?_⟩⟩⟩
     rw [Int.zero_add] at esh
     rw [shr_odd g.burn i esh emo]
     rw [Ord.rooms_take]
     have lf:=List.length_filter_le g.burn.testBit (List.range i)
     rw [List.length_range] at lf
     cases tb : g.burn.testBit i with
     | true =>
       refine iteT ⟨_,rfl,hD1,small1000 (by rw [List.length_map]; omega),s1.put hD,upd_same,?_,_,rfl⟩
       rw [if_pos rfl,List.map_append,Int.zero_add]; rfl
     | false =>
       refine iteF ⟨s1,hD1,?_,_,rfl⟩
       rw [if_neg Bool.false_ne_true,List.append_nil]
   rintro acc σ H1 ⟨s1,hD1,rfl,v,rfl⟩
   have hD1 : H1 D = some (.lst ((Bit.rooms g.burn).map natV)):=hD1
   have l61 : (Bit.rooms g.burn).length ≤ 61:=by
     have:=List.length_filter_le g.burn.testBit (List.range 61)
     rw [List.length_range] at this
     exact this
   have C1:=C0.same s1
   refine ⟨_,rfl,D,_,rfl,.inl (SqL.of hD1),fun y ey => ⟨_,rfl,p,_,rfl,tget_bounds C1.hp,pbo,_,_,_,rfl,rfl,.inr (s1.tup hbo),rfl,_,_,rfl,rfl,_,rfl,?_⟩⟩
   rw [List.length_map] at ey
   refine ite3 (fun c5 => fin _ (by rw [decide_eq_false (by omega : ¬ ((Bit.rooms g.burn).length : Int) ≤ tm.bounds.1),Bool.and_false]; rfl) _ s1) (fun c5 => ?_)
   rw [decide_eq_true (by omega : ((Bit.rooms g.burn).length : Int) ≤ tm.bounds.1)] at fin
   refine ⟨_,rfl,D,rfl,⟨_,SqL.of hD1⟩,fun D2 hD2 => ?_⟩
   refine comp_list (K:=K) (a:=D) (xs:=(Bit.rooms g.burn).map natV) (fun j acc σ H' => Same H1 H'∧H' D2 = some (.lst acc)∧acc = (((Bit.rooms g.burn).take j).filter fun r => decide (n ≤ r)).map natV∧∃ v,σ = [v,some (.int (n : Int))])
     ⟨same_upd hD2,upd_same,rfl,none,rfl⟩ (fun j acc σ H' _ e => SqL.of (e.1 _ _ hD1)) ?_ ?_
   · rintro j x acc σ H2 hx ⟨s2,hE2,rfl,v,rfl⟩
     obtain ⟨r,er,rfl⟩:=get_natV hx
     have lf:=List.length_filter_le (fun r => decide (n ≤ r)) ((Bit.rooms g.burn).take j)
     rw [List.length_take] at lf
     have et : ((Bit.rooms g.burn).take (j + 1)).filter (fun r => decide (n ≤ r)) = ((Bit.rooms g.burn).take j).filter (fun r => decide (n ≤ r)) ++ (if n ≤ r then [r] else []):=by
       rw [take_next er,List.filter_append]
       by_cases z : n ≤ r <;> simp [z]
     rw [et]
     refine ⟨_,rfl,_,rfl,_,_,rfl,rfl,_,rfl,ite3 (fun z => ?_) (fun z => ?_)⟩
     · refine ⟨_,rfl,hE2,small1000 (by rw [List.length_map]; omega),s2.put hD2,upd_same,?_,_,rfl⟩
       rw [if_pos (by omega),List.map_append]; rfl
     · refine ⟨s2,hE2,?_,_,rfl⟩
       rw [if_neg (by omega),List.append_nil]
   rintro acc σ H2 ⟨s2,hE2,rfl,v,rfl⟩
   rw [List.length_map,List.take_length] at hE2
   have S2:=s1.trans s2
   refine ⟨sz0,fun pe hpe => ?_⟩
   have s3:=same_upd (o:=.lst []) hpe
   have S3:=S2.trans s3
   refine ⟨.list (((Bit.rooms g.burn).filter fun r => decide (n ≤ r)).map natD),.list [],dn_nats (SqL.of (s3 _ _ hE2)),dn_lst (SqL.of upd_same) dn_nil,plD_shaped pl_natsL (by decide),plD_shaped (pl_natsL (l:=[])) (by decide),_,rfl,?_⟩
   generalize upd H2 pe (.lst []) = H3 at s3 S3 ⊢
   by_cases c4 : g.burn < 2 ^ n
   case neg =>
     have ne : (Bit.rooms g.burn).filter (fun r => decide (n ≤ r)) ≠ []:=fun z => c4 ((burn_iff hb).mp z)
     obtain ⟨r0,rs,er⟩:=List.exists_cons_of_ne_nil ne
     rw [er]
     exact iteT (fin _ (by rw [decide_eq_false c4]; rfl) _ S3)
   rw [(burn_iff hb).mpr c4]
   rw [decide_eq_true c4] at fin
   refine iteF ?_
   have C3:=C0.same S3
   refine ⟨_,rfl,q,_,_,_,rfl,rfl,.inr (S3.tup e0),rfl,_,_,rfl,rfl,_,rfl,?_⟩
   by_cases c6 : 0 ≤ g.heap
   case neg => exact iteN c6 ⟨_,rfl,iteT (fin _ (by rw [decide_eq_false c6]; rfl) _ S3)⟩
   refine iteP c6 ⟨_,rfl,p,_,rfl,tget_bounds C3.hp,pbo,_,_,_,rfl,rfl,.inr (S3.tup hbo),rfl,_,_,rfl,rfl,_,rfl,ite4 (fun c7 => fin _ (by rw [decide_eq_false c7,Bool.and_false]; rfl) _ S3) (fun c7 => ?_)⟩
   rw [decide_eq_true c6,decide_eq_true c7] at fin
   have fin : ∀ x : Bool,x = (List.range n).all (fun i => roomB ((tm.m2 n n).nb i) ((tm.m2 n n).sv i) (g.bands.getD i 0) (g.burn.testBit i) (g.waits.getD i 0) (g.failed.getD i 0))→∀ H',Same H H'→Q (.bl x) H':=fun x e => fin x e
   refine ⟨_,rfl,_,rfl,by omega,by omega,?_⟩
   refine for_range (lo:=0) (n:=n) (fun i σ H' => H' = H3∧(∀ j,j < i→roomB ((tm.m2 n n).nb j) ((tm.m2 n n).sv j) (g.bands.getD j 0) (g.burn.testBit j) (g.waits.getD j 0) (g.failed.getD j 0) = true)∧∃ v4 : Option V,σ = [some (.ref p),some (.ref q),some (.int (n : Int)),some (.ref D),v4])
     ⟨rfl,fun j hj => absurd hj (Nat.not_lt_zero j),none,rfl⟩ ?_ ?_
   · rintro i σ H' hi ⟨eH,hall,v4,rfl⟩
     have eH:=eH.symm
     subst eH
     refine ⟨_,rfl,_,rfl,_,rfl,p,tm,n,q,g,i,(by rw [Int.zero_add]; rfl),hT.same S3,ok,n4,hs.same S3,c1,c2,c3,hi,_,rfl,?_⟩
     cases e : roomB ((tm.m2 n n).nb i) ((tm.m2 n n).sv i) (g.bands.getD i 0) (g.burn.testBit i) (g.waits.getD i 0) (g.failed.getD i 0) with
     | true =>
       refine iteF ⟨rfl,fun j hj => ?_,_,rfl⟩
       by_cases z : j < i
       · exact hall j z
       · obtain rfl : j = i:=by omega
         exact e
     | false =>
       refine iteT (fin _ ?_ _ S3)
       refine (Bool.eq_false_iff.mpr fun z => ?_).symm
       have:=List.all_eq_true.mp z i (List.mem_range.mpr hi)
       rw [e] at this
       cases this
   · rintro σ H' ⟨eH,hall,v4,rfl⟩
     have eH:=eH.symm
     subst eH
     exact fin _ (List.all_eq_true.mpr fun i hi => hall i (List.mem_range.mp hi)).symm _ S3
set_option maxHeartbeats 0 in
theorem okx_law_asked (T : Txt K mg Ad) : DefX P w K mg base "_law_asked" 11 ["_law_hold","_law_state","_law_way"] (sp_askX K Ad.Hold Ad.NoState):=by
 refine T.d_law_asked.defX sc_law_asked (fun vs H Q E h => ?_) (fun _ _ _ _ _ _ us hl => match us,hl with | [_,_,_],_ => rfl) (fun f _ _ _ s H vs Q E hr h => ?_)
 · obtain ⟨a,fp,m,p,way,rfl,_⟩:=h
   rfl
 · obtain ⟨a,fp,m,p,way,rfl,hh,hbd,w0,w5,hc⟩:=h
   refine ⟨_,(pss_one (ps_if (pt_cmpR op_eq (pv 2) pe_int (nomark _)) (pss_one (ps_expr (pe_callO (ok_orders_of T) (hr.mono (by decide)) (okx_orders_of T) (hr.mono (by decide)) (pass_of fun _ _ _ z => z) (pa_cons (pv 0) (pa_cons (pv 1) pa_nil))))) (pss_one (ps_if (pt_cmpR op_eq (pv 2) pe_int (nomark _)) (pss_one (ps_expr (pe_callO (ok_heeded T) (hr.mono (by decide)) (okx_heeded T) (hr.mono (by decide)) (pass_of fun _ _ _ z => z) (pa_cons (pv 0) (pa_cons (pv 1) (pa_cons pe_int pa_nil)))))) (pss_one (ps_if (pt_cmpR op_eq (pv 2) pe_int (nomark _)) (pss_one (ps_expr (pe_callX (okx_may_fail T) (hr.mono (by decide)) (pass_of fun _ _ _ z => z) (pa_cons (pv 0) (pa_cons (pv 1) (pa_cons pe_int pa_nil)))))) (pss_one (ps_if (pt_cmpR op_eq (pv 2) pe_int (nomark _)) (pss_one (ps_expr (pe_callX (okx_behind_turn T) (hr.mono (by decide)) (pass_of fun _ _ _ z => z) (pa_cons (pv 0) (pa_cons (pv 1) (pa_cons pe_int (pa_cons pe_int pa_nil))))))) (pss_one (ps_if (pt_cmpR op_eq (pv 2) pe_int (nomark _)) (pss_one (ps_expr (pe_callX (okx_outcomes T) (hr.mono (by decide)) (pass_of fun _ _ _ z => z) (pa_cons (pv 0) (pa_cons (pv 1) (pa_cons pe_int pa_nil)))))) (pss_one (ps_expr (pe_makeX T.mk_Walk (okx_Walk___init__ T) .nil (hr.mono (by decide)) (pass_of fun _ _ _ z => z) T.m_Walk (pa_cons (pv 0) (pa_cons (pv 1) pa_nil))))))))))))))),?_⟩
   rcases hc with ⟨st,hs,ok,hw,k⟩ | ⟨g,hs,hb,hf,k⟩
   · have hb61 : st.burn < 2 ^ 61:=Nat.lt_of_lt_of_le ok.burn (Nat.pow_le_pow_right (by decide) (by have:=hh.mx; omega))
     rcases hw with rfl | rfl | rfl
     · exact ⟨_,rfl,rfl,_,rfl,iteP rfl ⟨_,rfl,_,rfl,.inl ⟨a,fp,m,p,st,rfl,hh,hs,ok,fun q H' _ s' _ => k H' s'⟩⟩⟩
     · exact ⟨_,rfl,rfl,_,rfl,iteN nofun ⟨_,rfl,rfl,_,rfl,iteP rfl ⟨_,rfl,_,rfl,.inl ⟨a,fp,m,p,st,5,rfl,hh,hs,ok,fun _ H' s' => k H' s',fun _ H' s' => k H' s'⟩⟩⟩⟩
     · refine ⟨_,rfl,rfl,_,rfl,iteN nofun ⟨_,rfl,rfl,_,rfl,iteN nofun ⟨_,rfl,rfl,_,rfl,iteN nofun ⟨_,rfl,rfl,_,rfl,iteN nofun ⟨_,rfl,rfl,_,rfl,iteN nofun ?_⟩⟩⟩⟩⟩
       refine ⟨_,rfl,_,rfl,fun x dx hx hdx nx => ?_⟩
       have fa' : upd H dx (.own x) x = none:=by rw [upd_ne nx.symm]; exact hx
       have s0 : Same H (upd (upd H dx (.own x)) x (.ins Ad.Walk dx [])):=(same_upd hdx).trans (same_upd fa')
       refine ⟨x,dx,a,fp,m,p,.of st,rfl,upd_same,hh.same s0,(hs.same s0).gs,hb61,hbd,fun _ H' B => ⟨rfl,k H' fun b o e => B b o (s0 b o e) fun q => ?_⟩,fun e => absurd e (by rw [ok.isM]; nofun)⟩
       rw [List.mem_singleton.mp q,hx] at e
       cases e
   · have cw : way = 0 ∨ way = 1 ∨ way = 2 ∨ way = 3 ∨ way = 4 ∨ way = 5:=by omega
     rcases cw with rfl | rfl | rfl | rfl | rfl | rfl
     · exact ⟨_,rfl,rfl,_,rfl,iteP rfl ⟨_,rfl,_,rfl,.inr ⟨a,fp,m,p,g,rfl,hh,hs,hb,hf,k⟩⟩⟩
     · exact ⟨_,rfl,rfl,_,rfl,iteN nofun ⟨_,rfl,rfl,_,rfl,iteP rfl ⟨_,rfl,_,rfl,.inr ⟨a,fp,m,p,g,_,rfl,hh,hs,hb,hf,k⟩⟩⟩⟩
     · exact ⟨_,rfl,rfl,_,rfl,iteN nofun ⟨_,rfl,rfl,_,rfl,iteN nofun ⟨_,rfl,rfl,_,rfl,iteP rfl ⟨_,rfl,_,rfl,a,fp,m,p,g,_,rfl,hh,hs,hb,hf,k⟩⟩⟩⟩
     · exact ⟨_,rfl,rfl,_,rfl,iteN nofun ⟨_,rfl,rfl,_,rfl,iteN nofun ⟨_,rfl,rfl,_,rfl,iteN nofun ⟨_,rfl,rfl,_,rfl,iteP rfl ⟨_,rfl,_,rfl,a,fp,m,p,g,_,_,rfl,hh,hs,hb,hf,k⟩⟩⟩⟩⟩
     · exact ⟨_,rfl,rfl,_,rfl,iteN nofun ⟨_,rfl,rfl,_,rfl,iteN nofun ⟨_,rfl,rfl,_,rfl,iteN nofun ⟨_,rfl,rfl,_,rfl,iteN nofun ⟨_,rfl,rfl,_,rfl,iteP rfl ⟨_,rfl,_,rfl,a,fp,m,p,g,_,rfl,hh,hs,hb,hf,k⟩⟩⟩⟩⟩⟩
     · refine ⟨_,rfl,rfl,_,rfl,iteN nofun ⟨_,rfl,rfl,_,rfl,iteN nofun ⟨_,rfl,rfl,_,rfl,iteN nofun ⟨_,rfl,rfl,_,rfl,iteN nofun ⟨_,rfl,rfl,_,rfl,iteN nofun ?_⟩⟩⟩⟩⟩
       refine ⟨_,rfl,_,rfl,fun x dx hx hdx nx => ?_⟩
       have fa' : upd H dx (.own x) x = none:=by rw [upd_ne nx.symm]; exact hx
       have s0 : Same H (upd (upd H dx (.own x)) x (.ins Ad.Walk dx [])):=(same_upd hdx).trans (same_upd fa')
       exact ⟨x,dx,a,fp,m,p,g,rfl,upd_same,hh.same s0,hs.same s0,hb,hbd,fun e => absurd e (by rw [hf]; nofun),fun _ H' s' => k H' (s0.trans s')⟩
theorem ok_law_asked (T : Txt K mg Ad) : Def P w K mg base "_law_asked" 11 ["_law_hold","_law_state","_law_way"] (fun vs H Q _ => sp_askX K Ad.Hold Ad.NoState vs H Q E0):=(okx_law_asked T).to0
theorem sub7 {C1 C2 C3 C4 C5 C6 C7 : Addr} {x : V} (hx : x ∈ [V.ref C1,V.ref C2,V.ref C3,V.ref C4,V.ref C5,V.ref C6,V.ref C7]) : ∃ C,x = .ref C:=by
 simp only [List.mem_cons,List.not_mem_nil,or_false] at hx
 rcases hx with rfl | rfl | rfl | rfl | rfl | rfl | rfl <;> exact ⟨_,rfl⟩
theorem exc_NoState (T : Txt K mg Ad) : ExcCl K Ad.NoState:=⟨T.xga_NoState,T.xgt_NoState,T.xcl_NoState,T.gs,T.tk,T.xmo_NoState,T.xmb_NoState,T.xis_NoState⟩
theorem ok_law_none (T : Txt K mg Ad) : Def P w K mg base "_law_none" 12 ["_law_hold","_law_state","_law_way"] (sp_none12 K Ad.Hold):=by
 refine T.d_law_none.def sc_law_none (fun vs H Q E h => ?_) (fun _ _ _ _ _ _ us hl => match us,hl with | [_,_,_],_ => rfl) (fun f _ _ _ s H vs Q E hr h => ?_)
 · obtain ⟨a,fp,m,p,g,way,rfl,_⟩:=h
   rfl
 · obtain ⟨a,fp,m,p,g,way,rfl,hh,hbd,w0,w5,hs,hb,hf,k⟩:=h
   refine ⟨_,(pss_cons (ps_try (i:=3) rfl rfl sc_law_none.nd rfl rfl T.m_StokeError (psx_expr (px_callD (okx_law_asked T) (hr.mono (by decide)) (pa_cons (pv 0) (pa_cons (pv 1) (pa_cons (pv 2) pa_nil))))) (fun _ _ _ hcl => (pss_cons (ps_if (pt_val (pe_callB (call_isE K rfl (List.mem_append_right _ (List.mem_singleton.mpr rfl)) hcl) (by rfl) T.n_isinstance bt_isinstance (pa_cons (pv 3) (pa_cons (pe_tup (pa_cons (pe_glob (v:=V.ref _) rfl T.m_NoHold rfl) (pa_cons (pe_glob (v:=V.ref _) rfl T.m_NoOrder rfl) (pa_cons (pe_glob (v:=V.ref _) rfl T.m_NoRoom rfl) (pa_cons (pe_glob (v:=V.ref _) rfl T.m_NoTurn rfl) (pa_cons (pe_glob (v:=V.ref _) rfl T.m_NoBand rfl) (pa_cons (pe_glob (v:=V.ref _) rfl T.m_NoStove rfl) (pa_cons (pe_glob (v:=V.ref _) rfl T.m_TooMany rfl) pa_nil)))))))) pa_nil)))) (pss_one (ps_ret pe_bl)) pss_nil)
     (pss_one (ps_ret (pe_and (pe_callB (call_isE K rfl (List.mem_append_right _ (List.mem_singleton.mpr rfl)) hcl) (by rfl) T.n_isinstance bt_isinstance (pa_cons (pv 3) (pa_cons (pe_glob (v:=V.ref _) rfl T.m_NoState rfl) pa_nil))) (pe_one (pe_callB (call_isE K rfl (List.mem_append_right _ (List.mem_singleton.mpr rfl)) hcl) (by rfl) T.n_isinstance bt_isinstance (pa_cons (pv 3) (pa_cons (pe_bltn (v:=V.ty "ValueError") rfl T.n_ValueError bt_ValueError rfl) pa_nil))))))))))
     (pss_one (ps_ret pe_bl))),?_⟩
   refine ⟨_,rfl,_,rfl,_,rfl,a,fp,m,p,way,rfl,hh,hbd,w0,w5,.inr ⟨g,hs,hb,hf,fun H1 s1 => ⟨T.ex,fun e he => ?_⟩⟩⟩
   refine ⟨_,rfl,(by show 7 ≤ sizeLine; decide),fun pt hpt => ?_⟩
   refine ⟨_,_,_,rfl,rfl,exc_NoState T,IsE.many upd_same (fun x hx => ?_) T.k0,_,rfl,iteF ?_⟩
   · obtain ⟨C,rfl⟩:=sub7 hx
     rfl
   refine ⟨_,rfl,_,_,_,rfl,rfl,exc_NoState T,IsE.one (b:=true) rfl (by show W.kitOne K (.ref Ad.NoState) (.ref Ad.NoState) = some true; unfold W.kitOne; simp),_,rfl,iteT ?_⟩
   exact ⟨_,rfl,_,_,_,rfl,rfl,exc_NoState T,IsE.one (b:=true) rfl T.k1,k _ (s1.trans (same_upd hpt))⟩
theorem ok_law_started (T : Txt K mg Ad) : Def P w K mg base "_law_started" 9 ["_law_hold","_law_bands","_law_heap"] (sp_started12 K Ad.Hold):=by
 refine T.d_law_started.def sc_law_started (fun vs H Q E h => ?_) (fun _ _ _ _ _ _ us hl => match us,hl with | [_,_,_],_ => rfl) (fun f _ _ _ s H vs Q E hr h => ?_)
 · obtain ⟨a,fp,m,pV,bs,oh,rfl,_⟩:=h
   rfl
 · obtain ⟨a,fp,m,pV,bs,oh,rfl,hh,hv,hl,kt,kf⟩:=h
   refine ⟨_,(pss_cons (ps_set (i:=3) sc_law_started.nd rfl (by first | exact Or.inl rfl | exact Or.inr rfl) pe_bl)
     (pss_cons (ps_set (i:=4) sc_law_started.nd rfl (by first | exact Or.inl rfl | exact Or.inr rfl) pe_bl)
     (pss_cons (ps_set (i:=5) sc_law_started.nd rfl (by first | exact Or.inl rfl | exact Or.inr rfl) pe_non)
     (pss_cons (ps_try (i:=6) rfl rfl sc_law_started.nd rfl rfl T.m_StokeError (psx_if (pt_cmpR op_isN (pv 2) pe_non (nomark _)) (psx_set (i:=5) sc_law_started.nd rfl (by first | exact Or.inl rfl | exact Or.inr rfl) (px_callE (okx_start_state_1 T) (hr.mono (by decide)) (pa_cons (pv 0) (pa_cons (pv 1) pa_nil)))) (psx_set (i:=5) sc_law_started.nd rfl (by first | exact Or.inl rfl | exact Or.inr rfl) (px_callE (okx_start_state_0 T) (hr.mono (by decide)) (pa_cons (pv 0) (pa_cons (pv 1) (pa_cons (pv 2) pa_nil)))))) (fun _ _ _ hcl => (pss_cons (ps_set (i:=3) sc_law_started.nd rfl (by first | exact Or.inl rfl | exact Or.inr rfl) pe_bl)
     (pss_cons (ps_set (i:=4) sc_law_started.nd rfl (by first | exact Or.inl rfl | exact Or.inr rfl) (pe_and (pe_callB (call_isE K rfl (List.mem_append_right _ (List.mem_singleton.mpr rfl)) hcl) (by rfl) T.n_isinstance bt_isinstance (pa_cons (pv 6) (pa_cons (pe_glob (v:=V.ref _) rfl T.m_NoState rfl) pa_nil))) (pe_one (pe_callB (call_isE K rfl (List.mem_append_right _ (List.mem_singleton.mpr rfl)) hcl) (by rfl) T.n_isinstance bt_isinstance (pa_cons (pv 6) (pa_cons (pe_bltn (v:=V.ty "ValueError") rfl T.n_ValueError bt_ValueError rfl) pa_nil))))))
     (pss_one (ps_if (pt_val (pe_callB (call_isE K rfl (List.mem_append_right _ (List.mem_singleton.mpr rfl)) hcl) (by rfl) T.n_isinstance bt_isinstance (pa_cons (pv 6) (pa_cons (pe_tup (pa_cons (pe_glob (v:=V.ref _) rfl T.m_NoHold rfl) (pa_cons (pe_glob (v:=V.ref _) rfl T.m_NoOrder rfl) (pa_cons (pe_glob (v:=V.ref _) rfl T.m_NoRoom rfl) (pa_cons (pe_glob (v:=V.ref _) rfl T.m_NoTurn rfl) (pa_cons (pe_glob (v:=V.ref _) rfl T.m_NoBand rfl) (pa_cons (pe_glob (v:=V.ref _) rfl T.m_NoStove rfl) (pa_cons (pe_glob (v:=V.ref _) rfl T.m_TooMany rfl) pa_nil)))))))) pa_nil)))) (pss_one (ps_set (i:=4) sc_law_started.nd rfl (by first | exact Or.inl rfl | exact Or.inr rfl) pe_bl)) pss_nil))))))
     (pss_cons (ps_if (pt_val (pv 3)) (pss_one (ps_ret (pe_tup (pa_cons pe_str (pa_cons (pv 4) pa_nil))))) pss_nil)
     (pss_one (ps_ret (pe_tup (pa_cons pe_str (pa_cons (pv 5) pa_nil)))))))))),?_⟩
   refine ⟨_,rfl,rfl,_,rfl,?_⟩
   cases oh with
   | none =>
     refine iteP rfl ⟨_,rfl,_,rfl,a,fp,m,pV,bs,0,rfl,hh,hv,hl,fun e qs H1 s1 gs xt => ?_,fun e H1 s1 => ⟨T.ex,fun ex hex => ?_⟩⟩
     · obtain ⟨xs,hxs⟩:=xt
       exact ⟨_,rfl,_,rfl,iteF ⟨_,rfl,sz2,fun q hq => kt e q qs _ (s1.trans (same_upd hq)) upd_same (gs.same (same_upd hq)) ⟨xs,same_upd hq _ _ hxs⟩⟩⟩
     · refine ⟨_,rfl,_,_,_,rfl,rfl,exc_NoState T,IsE.one (b:=true) rfl (by show W.kitOne K (.ref Ad.NoState) (.ref Ad.NoState) = some true; unfold W.kitOne; simp),_,rfl,iteT ?_⟩
       refine ⟨_,rfl,_,_,_,rfl,rfl,exc_NoState T,IsE.one (b:=true) rfl T.k1,?_⟩
       refine ⟨_,rfl,(by show 7 ≤ sizeLine; decide),fun pt hpt => ?_⟩
       refine ⟨_,_,_,rfl,rfl,exc_NoState T,IsE.many upd_same (fun x hx => ?_) T.k0,_,rfl,iteF ?_⟩
       · obtain ⟨C,rfl⟩:=sub7 hx
         rfl
       exact ⟨_,rfl,_,rfl,iteT ⟨_,rfl,sz2,fun q hq => kf e q _ (s1.trans ((same_upd hpt).trans (same_upd hq))) upd_same⟩⟩
   | some hp =>
     refine iteN nofun ⟨_,rfl,_,rfl,_,rfl,a,fp,m,pV,bs,hp,rfl,hh,hv,hl,fun e qs H1 s1 gs xt => ?_,fun e H1 s1 => ⟨T.ex,fun ex hex => ?_⟩⟩
     · obtain ⟨xs,hxs⟩:=xt
       exact ⟨_,rfl,_,rfl,iteF ⟨_,rfl,sz2,fun q hq => kt e q qs _ (s1.trans (same_upd hq)) upd_same (gs.same (same_upd hq)) ⟨xs,same_upd hq _ _ hxs⟩⟩⟩
     · refine ⟨_,rfl,_,_,_,rfl,rfl,exc_NoState T,IsE.one (b:=true) rfl (by show W.kitOne K (.ref Ad.NoState) (.ref Ad.NoState) = some true; unfold W.kitOne; simp),_,rfl,iteT ?_⟩
       refine ⟨_,rfl,_,_,_,rfl,rfl,exc_NoState T,IsE.one (b:=true) rfl T.k1,?_⟩
       refine ⟨_,rfl,(by show 7 ≤ sizeLine; decide),fun pt hpt => ?_⟩
       refine ⟨_,_,_,rfl,rfl,exc_NoState T,IsE.many upd_same (fun x hx => ?_) T.k0,_,rfl,iteF ?_⟩
       · obtain ⟨C,rfl⟩:=sub7 hx
         rfl
       exact ⟨_,rfl,_,rfl,iteT ⟨_,rfl,sz2,fun q hq => kf e q _ (s1.trans ((same_upd hpt).trans (same_upd hq))) upd_same⟩⟩
theorem ok_law_says (T : Txt K mg Ad) : Def P w K mg base "_law_says" 7 ["_law_hold","_law_told","_law_state"] (sp_says12 K Ad.Hold):=by
 refine T.d_law_says.def sc_law_says (fun vs H Q E h => ?_) (fun _ _ _ _ _ _ us hl => match us,hl with | [_,_,_],_ => rfl) (fun f _ _ _ s H vs Q E hr h => ?_)
 · obtain ⟨a,fp,p,tm,n,q,g,rfl,_⟩:=h
   rfl
 · obtain ⟨a,fp,p,tm,n,q,g,rfl,hh,hT,ok,n4,hs,hb,k⟩:=h
   refine ⟨_,(pss_cons (ps_set (i:=3) sc_law_says.nd rfl (by first | exact Or.inl rfl | exact Or.inr rfl) (pe_callD (okg_is_state T) (hr.mono (by decide)) (pa_cons (pv 0) (pa_cons (pv 2) pa_nil))))
     (pss_one (ps_ret (pe_and (pe_callB call_isinst (by rfl) T.n_isinstance bt_isinstance (pa_cons (pv 3) (pa_cons (pe_bltn (v:=V.ty "bool") rfl T.n_bool bt_bool rfl) pa_nil))) (pe_one (pe_cmpR op_eq (pv 3) (pe_callD (ok_law_right T) (hr.mono (by decide)) (pa_cons (pv 1) (pa_cons (pv 2) pa_nil))) (nomark _))))))),?_⟩
   refine ⟨_,rfl,_,rfl,a,fp,_,q,g,rfl,hh,hs,hb,fun H1 s1 => ?_⟩
   refine ⟨_,rfl,_,_,_,_,_,rfl,.bl _,rfl,rfl,_,rfl,iteT ⟨_,rfl,_,rfl,_,rfl,p,tm,n,q,g,rfl,hT.same s1,ok,n4,hs.same s1,hb,fun H2 s2 => ⟨rfl,blT rfl (k H2 (s1.trans s2))⟩⟩⟩
theorem sh_refused : SeqAt.shaped (.tuple [.str (Str.ofString "refused"),.bool true]) = true:=by decide +kernel
theorem eqv_refused : PyData.eqv (.tuple [.str (Str.ofString "refused"),.bool true]) (.tuple [.str (Str.ofString "refused"),.bool true]) = true:=by decide +kernel
theorem pl_gs (g : GsM) : plD 2 (gsD g):=by
 intro d hd
 simp only [List.mem_cons,List.not_mem_nil,or_false] at hd
 rcases hd with rfl | rfl | rfl | rfl | rfl
 · exact pl_ints
 · exact trivial
 · exact pl_ints
 · exact pl_ints
 · exact trivial
theorem pl_intsL {l : List Int} : plD 1 (.list (l.map PyData.int)):=by
 intro d hd
 obtain ⟨i,_,rfl⟩:=List.mem_map.mp hd
 exact trivial
set_option maxHeartbeats 0 in
theorem ok_law_start_right (T : Txt K mg Ad) : Def P w K mg base "_law_start_right" 10 ["_law_hold","_law_told","_law_state","_law_k"] (sp_stright12 K Ad.Hold):=by
 refine T.d_law_start_right.def sc_law_start_right (fun vs H Q E h => ?_) (fun _ _ _ _ _ _ us hl => match us,hl with | [_,_,_,_],_ => rfl) (fun f _ _ _ s H vs Q E hr h => ?_)
 · obtain ⟨a,fp,p,tm,n,q,g,kk,rfl,_⟩:=h
   rfl
 · obtain ⟨a,fp,p,tm,n,q,g,kk,rfl,hh,hT,ok,n1,n4,hs,hb,hlb,hk,k⟩:=h
   refine ⟨_,(pss_cons (ps_set (i:=4) sc_law_start_right.nd rfl (by first | exact Or.inl rfl | exact Or.inr rfl) (pe_op op_repT (pe_tup (pa_cons pe_int pa_nil)) (pe_callB call_lenL (by rfl) T.n_len bt_len (pa_cons (pe_dget (hu_of hr) (pv 1) pe_str (fun _ _ => rfl)) pa_nil))))
     (pss_cons (ps_set (i:=5) sc_law_start_right.nd rfl (by first | exact Or.inl rfl | exact Or.inr rfl) (pe_ix ix_any (pe_lst (pa_cons (pe_ix ix_any (pv 2) pe_int (fun _ _ => rfl)) (pa_cons pe_non pa_nil))) (pe_op op_modL (pv 3) pe_int) (fun _ _ => rfl)))
     (pss_cons (ps_set (i:=6) sc_law_start_right.nd rfl (by first | exact Or.inl rfl | exact Or.inr rfl) (pe_tup (pa_cons (pe_ix ix_any (pv 2) pe_int (fun _ _ => rfl)) (pa_cons pe_int (pa_cons (pv 4) (pa_cons (pv 4) (pa_cons (pe_ix ix_any (pe_lst (pa_cons (pe_ix ix_any (pv 2) pe_int (fun _ _ => rfl)) (pa_cons pe_int pa_nil))) (pe_op op_modL (pv 3) pe_int) (fun _ _ => rfl)) pa_nil)))))))
     (pss_cons (ps_set (i:=7) sc_law_start_right.nd rfl (by first | exact Or.inl rfl | exact Or.inr rfl) (pe_ix ix_any (pe_lst (pa_cons (pe_callTy call_list_of (by rfl) T.n_list bt_list (pa_cons (pe_ix ix_any (pv 2) pe_int (fun _ _ => rfl)) pa_nil)) (pa_cons (pe_ix ix_any (pv 2) pe_int (fun _ _ => rfl)) pa_nil))) (pe_op op_modL (pe_op op_fdivL (pv 3) pe_int) pe_int) (fun _ _ => rfl)))
     (pss_cons (ps_set (i:=8) sc_law_start_right.nd rfl (by first | exact Or.inl rfl | exact Or.inr rfl) (pe_callD (ok_law_started T) (hr.mono (by decide)) (pa_cons (pv 0) (pa_cons (pv 7) (pa_cons (pv 5) pa_nil)))))
     (pss_cons (ps_if (pt_not (pt_val (pe_callD (ok_law_right T) (hr.mono (by decide)) (pa_cons (pv 1) (pa_cons (pv 6) pa_nil))))) (pss_one (ps_ret (pe_cmpR (op_eqD hr.units) (pv 8) (pe_tup (pa_cons pe_str (pa_cons pe_bl pa_nil))) (nomark _)))) pss_nil)
     (pss_cons (ps_if (pt_cmpR (op_neD hr.units) (pe_callTy call_list_of (by rfl) T.n_list bt_list (pa_cons (pv 7) pa_nil)) (pe_callTy call_list_of (by rfl) T.n_list bt_list (pa_cons (pe_ix ix_any (pv 2) pe_int (fun _ _ => rfl)) pa_nil)) (nomark _)) (pss_one (ps_ret pe_bl)) pss_nil)
     (pss_one (ps_ret (pe_and (pe_cmpR op_eq (pe_ix ix_any (pv 8) pe_int (fun _ _ => rfl)) pe_str (nomark _)) (pe_and (pe_callB call_isinst (by rfl) T.n_isinstance bt_isinstance (pa_cons (pe_ix ix_any (pv 8) pe_int (fun _ _ => rfl)) (pa_cons (pe_bltn (v:=V.ty "tuple") rfl T.n_tuple bt_tuple rfl) pa_nil))) (pe_one (pe_cmpR (op_eqD hr.units) (pe_ix ix_any (pv 8) pe_int (fun _ _ => rfl)) (pv 6) (nomark _)))))))))))))),?_⟩
   obtain ⟨pm,ps,pt,pf,psc,pbo,vm,vs,vt,kvs,C0⟩:=id hT
   have lvm : vm.length = n:=by rw [C0.dm.length,List.length_map,ok.lm]
   obtain ⟨pb,pw,pF,e0,eb,ew,ef⟩:=id hs
   obtain ⟨f1,f2,f3,f4⟩:=m2_facts tm n n
   have hl : (tm.m2 n n).rows.length = n:=by rw [f1,List.length_map,List.length_take,ok.lm]; omega
   -- noughts
   refine ⟨sz1,fun t1 ht1 => ?_⟩
   have u1:=same_upd (o:=.tup [V.int 0]) ht1
   have C1:=C0.same u1
   refine ⟨_,rfl,p,_,rfl,tget_marks C1.hp,pm,vm,rfl,.inl (SqL.of C1.hpm),fun r er => ?_⟩
   obtain rfl : r = (n : Int):=by rw [er,lvm]
   refine ⟨t1,_,_,rfl,rfl,SqT.of upd_same,by omega,by omega,fun pz H1 s1 hz => ?_⟩
   have S1:=u1.trans s1
   have hz : SqT K H1 pz ((List.replicate n (0 : Int)).map V.int):=by rw [List.map_replicate]; rw [Int.toNat_natCast] at hz; exact hz
   -- heap: told,or left out
   refine ⟨_,rfl,q,_,_,_,rfl,rfl,.inr (S1.tup e0),rfl,sz2,fun l1 hl1 => ⟨_,rfl,_,_,rfl,rfl,by decide,fun m2 m20 m21 em2 => ?_⟩⟩
   have u2:=same_upd (o:=.lst [V.int g.heap,V.non]) hl1
   obtain ⟨oh,eoh,hoh⟩ : ∃ oh : Option Int,atI [V.int g.heap,V.non] m2 = some (optV oh)∧atI [V.int g.heap,V.int 0] m2 = some (.int (oh.getD 0)):=by
     have : m2 = 0 ∨ m2 = 1:=by omega
     rcases this with z | z
     · rw [z]; exact ⟨some g.heap,rfl,rfl⟩
     · rw [z]; exact ⟨none,rfl,rfl⟩
   refine ⟨l1,_,_,_,rfl,rfl,.inl (SqL.of upd_same),eoh,?_⟩
   generalize upd H1 l1 (.lst [V.int g.heap,V.non]) = H2 at u2 ⊢
   have S2:=S1.trans u2
   -- due
   refine ⟨_,rfl,q,_,_,_,rfl,rfl,.inr (S2.tup e0),rfl,_,rfl,_,rfl,_,rfl,q,_,_,_,rfl,rfl,.inr (S2.tup e0),rfl,sz2,fun l2 hl2 => ⟨_,rfl,_,_,rfl,rfl,by decide,fun m3 m30 m31 em3 => ?_⟩⟩
   obtain rfl : m3 = m2:=by rw [em3,em2]
   refine ⟨l2,_,_,_,rfl,rfl,.inl (SqL.of upd_same),hoh,(by show 5 ≤ sizeLine; decide),fun qd hqd => ?_⟩
   have u3:=same_upd (o:=.lst [V.int g.heap,V.int 0]) hl2
   have u4:=same_upd (o:=.tup [.ref pb,.int 0,.ref pz,.ref pz,.int (oh.getD 0)]) hqd
   have S4:=(S2.trans u3).trans u4
   have gd : GsAt K (upd (upd H2 l2 (.lst [V.int g.heap,V.int 0])) qd (.tup [.ref pb,.int 0,.ref pz,.ref pz,.int (oh.getD 0)])) qd (.start n g.bands (oh.getD 0)) :=
     ⟨pb,pz,pz,SqT.of upd_same,S4.tup eb,((u2.trans u3).trans u4).tup hz,((u2.trans u3).trans u4).tup hz⟩
   generalize upd (upd H2 l2 (.lst [V.int g.heap,V.int 0])) qd (.tup [.ref pb,.int 0,.ref pz,.ref pz,.int (oh.getD 0)]) = H4 at S4 gd ⊢
   clear u1 u2 u3 u4 hz ht1 hl1 hl2 hqd
   -- handed
   refine ⟨_,rfl,q,_,_,_,rfl,rfl,.inr (S4.tup e0),rfl,pb,_,rfl,.inr (S4.tup eb),fun lh hlh => ?_⟩
   have u5:=same_upd (o:=.lst (g.bands.map V.int)) hlh
   refine ⟨_,rfl,q,_,_,_,rfl,rfl,.inr ((S4.trans u5).tup e0),rfl,sz2,fun l3 hl3 => ⟨_,rfl,_,_,rfl,rfl,⟨by decide,bdd⟩,fun d ed => ⟨_,_,rfl,rfl,by decide,fun m4 m40 m41 _ => ?_⟩⟩⟩
   have u6:=same_upd (o:=.lst [V.ref lh,V.ref pb]) hl3
   have S6:=(S4.trans u5).trans u6
   have hlh6:=u6 _ _ (upd_same (H:=H4) (a:=lh) (o:=.lst (g.bands.map V.int)))
   obtain ⟨ph,eph,hph⟩ : ∃ ph,atI [V.ref lh,V.ref pb] m4 = some (.ref ph)∧(SqL K (upd (upd H4 lh (.lst (g.bands.map V.int))) l3 (.lst [V.ref lh,V.ref pb])) ph (g.bands.map V.int) ∨ SqT K (upd (upd H4 lh (.lst (g.bands.map V.int))) l3 (.lst [V.ref lh,V.ref pb])) ph (g.bands.map V.int)):=by
     have : m4 = 0 ∨ m4 = 1:=by omega
     rcases this with rfl | rfl
     · exact ⟨lh,rfl,.inl (SqL.of hlh6)⟩
     · exact ⟨pb,rfl,.inr (S6.tup eb)⟩
   refine ⟨l3,_,_,_,rfl,rfl,.inl (SqL.of upd_same),eph,?_⟩
   have gd6:=gd.same (u5.trans u6)
   generalize upd (upd H4 lh (.lst (g.bands.map V.int))) l3 (.lst [V.ref lh,V.ref pb]) = H6 at S6 hph gd6 ⊢
   -- started,and what is due
   have key : ∀ {H7 : Hp},Same H6 H7→(SqL K H7 ph (g.bands.map V.int) ∨ SqT K H7 ph (g.bands.map V.int)):=fun s7 => hph.imp s7.seq s7.tup
   refine ⟨_,rfl,_,rfl,_,rfl,a,fp,_,ph,g.bands,oh,rfl,hh.same S6,hph,by omega,?_,?_⟩
   · intro e qf qs H7 s7 hqf gs7 xt
     rw [hl] at e gs7
     have S7:=S6.trans s7
     refine ⟨_,rfl,_,rfl,p,tm,n,qd,_,rfl,hT.same S7,ok,n4,gd6.same s7,(by show 0 < 2 ^ 61; decide),fun H8 s8 => ⟨_,rfl,?_⟩⟩
     rw [e]
     refine iteF ?_
     have S8:=S7.trans s8
     refine ⟨_,rfl,ph,_,rfl,key (s7.trans s8),fun k1 hk1 => ?_⟩
     have u9:=same_upd (o:=.lst (g.bands.map V.int)) hk1
     refine ⟨_,rfl,q,_,_,_,rfl,rfl,.inr ((S8.trans u9).tup e0),rfl,pb,_,rfl,.inr ((S8.trans u9).tup eb),fun k2 hk2 => ?_⟩
     have u10:=same_upd (o:=.lst (g.bands.map V.int)) hk2
     refine neD_refl (n:=1) (d:=.list (g.bands.map PyData.int)) (dn_lst (SqL.of (u10 _ _ upd_same)) (dn_ints _)) (dn_lst (SqL.of upd_same) (dn_ints _)) pl_intsL (by decide) ⟨_,rfl,iteF ?_⟩
     have S810:=(s8.trans u9).trans u10
     have S10:=(S8.trans u9).trans u10
     have hqf10:=S810 _ _ hqf
     obtain ⟨xs,hxs⟩:=xt
     have hxs10:=S810 _ _ hxs
     have gs10:=gs7.same S810
     have gd10:=(gd6.same s7).same S810
     generalize upd (upd H8 k1 (.lst (g.bands.map V.int))) k2 (.lst (g.bands.map V.int)) = H10 at S10 hqf10 hxs10 gs10 gd10 ⊢
     refine ⟨_,rfl,qf,_,_,_,rfl,rfl,.inr (SqT.of hqf10),rfl,rfl,_,rfl,iteP rfl ?_⟩
     refine ⟨_,rfl,qf,_,_,_,rfl,rfl,.inr (SqT.of hqf10),rfl,_,_,_,_,_,rfl,.tup hxs10,rfl,rfl,_,rfl,iteT ?_⟩
     exact ⟨_,rfl,qf,_,_,_,rfl,rfl,.inr (SqT.of hqf10),rfl,_,rfl,eqD_refl (n:=2) gs10.dn gd10.dn (pl_gs _) (by decide) (k _ S10)⟩
   · intro e qf H7 s7 hqf
     rw [hl] at e
     have S7:=S6.trans s7
     refine ⟨_,rfl,_,rfl,p,tm,n,qd,_,rfl,hT.same S7,ok,n4,gd6.same s7,(by show 0 < 2 ^ 61; decide),fun H8 s8 => ⟨_,rfl,?_⟩⟩
     rw [e]
     refine iteT ⟨_,rfl,sz2,fun q9 hq9 => ?_⟩
     have u9:=same_upd (o:=.tup [.str (Str.ofString "refused"),.bl true]) hq9
     refine ⟨.tuple [.str (Str.ofString "refused"),.bool true],.tuple [.str (Str.ofString "refused"),.bool true],dn_tup (SqT.of (u9 _ _ (s8 _ _ hqf))) (dn_cons rfl (dn_cons rfl dn_nil)),dn_tup (SqT.of upd_same) (dn_cons rfl (dn_cons rfl dn_nil)),sh_refused,sh_refused,?_⟩
     rw [eqv_refused]
     exact k _ ((S7.trans s8).trans u9)
set_option maxHeartbeats 0 in
theorem ok_law {f : Addr} {fd : FuncData} (F : Fun K "law" "law" s_law f fd) (T : Txt K mg Ad) : FnOk P w K mg base CX0 13 f fd ["_law_script"] (sp_law K):=by
 refine F.ok sc_law (fun vs H Q E h => ?_) (fun cdv A outer s H vs Q E hr h => ?_)
 · obtain ⟨a,ns,rfl,_⟩:=h
   rfl
 · obtain ⟨a,ns,rfl,hS,hlen,hbits,k⟩:=h
   refine ⟨_,(pss_cons (ps_set (i:=1) sc_law.nd rfl (by first | exact Or.inl rfl | exact Or.inr rfl) (pe_callD (ok_law_drawn T) (hr.mono (by decide)) (pa_cons (pv 0) pa_nil)))
     (pss_cons (ps_set (i:=2) sc_law.nd rfl (by first | exact Or.inl rfl | exact Or.inr rfl) (pe_callD (ok_law_built T) (hr.mono (by decide)) (pa_cons (pv 1) pa_nil)))
     (pss_cons (ps_for PassesOwn.never rfl (pi_range1 rfl T.n_range (pa_cons (pe_op op_addL pe_int (pe_op op_fdivL (pe_callB call_lenL (by rfl) T.n_len bt_len (pa_cons (pe_slice sl_list (pv 0) (po_some pe_int) (po_some pe_int)) pa_nil)) pe_int)) pa_nil)) (pg_name (i:=3) sc_law.nd rfl (by first | exact Or.inl rfl | exact Or.inr rfl)) (pss_cons (ps_set (i:=4) sc_law.nd rfl (by first | exact Or.inl rfl | exact Or.inr rfl) (pe_slice sl_list (pv 0) (po_some (pe_op op_addL pe_int (pe_op op_mulL pe_int (pv 3)))) (po_some (pe_op op_addL pe_int (pe_op op_mulL pe_int (pv 3))))))
     (pss_cons (ps_set (i:=5) sc_law.nd rfl (by first | exact Or.inl rfl | exact Or.inr rfl) (pe_callD (ok_law_state_by T) (hr.mono (by decide)) (pa_cons (pv 1) (pa_cons (pe_callD (ok_law_cell_at T) (hr.mono (by decide)) (pa_cons (pv 4) (pa_cons pe_int pa_nil))) (pa_cons (pv 3) pa_nil)))))
     (pss_cons (ps_set (i:=6) sc_law.nd rfl (by first | exact Or.inl rfl | exact Or.inr rfl) (pe_callD (ok_law_bent T) (hr.mono (by decide)) (pa_cons (pv 1) (pa_cons (pv 5) (pa_cons (pe_callD (ok_law_cell_at T) (hr.mono (by decide)) (pa_cons (pv 4) (pa_cons pe_int pa_nil))) (pa_cons (pv 3) pa_nil))))))
     (pss_cons (ps_if (pt_not (pt_val (pe_callD (ok_law_right T) (hr.mono (by decide)) (pa_cons (pv 1) (pa_cons (pv 5) pa_nil))))) (pss_one (ps_ret pe_bl)) pss_nil)
     (pss_cons (ps_for PassesOwn.never rfl (pi_list (pe_lst (pa_cons (pv 5) (pa_cons (pv 6) pa_nil)))) (pg_name (i:=7) sc_law.nd rfl (by first | exact Or.inl rfl | exact Or.inr rfl)) (pss_one (ps_if (PW.pt (pw_or (pt_not (pt_val (pe_callD (ok_law_says T) (hr.mono (by decide)) (pa_cons (pv 2) (pa_cons (pv 1) (pa_cons (pv 7) pa_nil)))))) (pw_or1 (pt_not (pt_val (pe_callD (ok_law_start_right T) (hr.mono (by decide)) (pa_cons (pv 2) (pa_cons (pv 1) (pa_cons (pv 7) (pa_cons (pv 3) pa_nil)))))))))) (pss_one (ps_ret pe_bl)) pss_nil)))
     (pss_cons (ps_if (PW.pt (pw_and (pt_not (pt_val (pe_callD (ok_law_right T) (hr.mono (by decide)) (pa_cons (pv 1) (pa_cons (pv 6) pa_nil))))) (pw_and1 (pt_not (pt_val (pe_callD (ok_law_none T) (hr.mono (by decide)) (pa_cons (pv 2) (pa_cons (pv 6) (pa_cons (pe_op op_modL (pv 3) pe_int) pa_nil))))))))) (pss_one (ps_ret pe_bl)) pss_nil)
     (pss_one (ps_expr (pe_callD (ok_law_asked T) (hr.mono (by decide)) (pa_cons (pv 2) (pa_cons (pv 5) (pa_cons (pe_ix ix_any (pe_lst (pa_cons pe_int (pa_cons pe_int (pa_cons pe_int pa_nil)))) (pe_op op_modL (pv 3) pe_int) (fun _ _ => rfl)) pa_nil)))))))))))))
     (pss_one (ps_ret pe_bl))))),?_⟩
   refine ⟨_,rfl,a,ns,rfl,hS,fun p H1 tm n n1 n4 ok S1 hT => ?_⟩
   refine ⟨_,rfl,p,tm,n,rfl,hT,ok,n1,n4,fun ha H2 fph S2 hh hF hn tw => ?_⟩
   obtain ⟨f1,f2,f3,f4⟩:=m2_facts tm n n
   have hl : (tm.m2 n n).rows.length = n:=by rw [f1,List.length_map,List.length_take,ok.lm]; omega
   have hbd : (tm.m2 n n).Bds:=by unfold HoldM.Bds; rw [f2,f3,f4]; exact ok.bounds
   refine ⟨_,rfl,4,rfl,43,rfl,a,_,rfl,(S1.trans S2).seq hS,fun pc hpc => ⟨_,_,rfl,.inl (SqL.of upd_same),fun c ec => ⟨_,_,rfl,rfl,⟨by decide,bdd⟩,fun d ed => ⟨_,_,rfl,rfl,fun e ee => ?_⟩⟩⟩⟩
   have hc : c ≤ 63:=by
     have:=cutV_length (ns.map V.int) (some 4) (some 43)
     rw [List.length_map] at this
     omega
   have hc0 : 0 ≤ c:=by omega
   rw [Int.fdiv_eq_ediv_of_nonneg c (by decide)] at ed
   have t0:=same_upd (o:=.lst (cutV (ns.map V.int) (some 4) (some 43))) hpc
   refine ⟨e,rfl,by omega,by omega,for_range (lo:=0) (n:=e.toNat) (fun i σ H' => Same H2 H'∧∃ v3 v4 v5 v6 v7 : Option V,σ = [some (.ref a),some (.ref p),some (.ref ha),v3,v4,v5,v6,v7]) ⟨t0,none,none,none,none,none,rfl⟩ ?_ ?_⟩
   · rintro i σ H3 hi ⟨s3,v3,v4,v5,v6,v7,rfl⟩
     have hS3:=((S1.trans S2).trans s3).seq hS
     have bk : Bd 100 (0 + (i : Int)):=bdS 100 (by omega) (by omega)
     refine ⟨_,rfl,_,rfl,_,_,rfl,rfl,⟨3,100,bdd,bk,by decide⟩,fun m1 em1 => ⟨_,_,rfl,rfl,fun m2 em2 => ⟨_,rfl,_,rfl,_,_,rfl,rfl,⟨3,100,bdd,bk,by decide⟩,fun m3 em3 => ⟨_,_,rfl,rfl,fun m4 em4 => ⟨_,rfl,a,_,rfl,hS3,fun p2 hp2 => ?_⟩⟩⟩⟩⟩
     have t4:=same_upd (o:=.lst (cutV (ns.map V.int) (some m2) (some m4))) hp2
     have k4 : (upd H3 p2 (.lst (cutV (ns.map V.int) (some m2) (some m4)))) p2 = some (.lst ((cutI ns (some m2) (some m4)).map V.int)):=by rw [← cutV_ints]; exact upd_same
     generalize upd H3 p2 (.lst (cutV (ns.map V.int) (some m2) (some m4))) = H4 at t4 k4 ⊢
     generalize cutI ns (some m2) (some m4) = two at k4
     have S4:=s3.trans t4
     have T4:=S2.trans S4
     refine ⟨_,rfl,_,rfl,p2,two,0,rfl,SqL.of k4,by decide,fun c0 _ => ⟨_,rfl,p,tm,n,c0,i,(by rw [Int.zero_add]; rfl),hT.same T4,ok,n4,by omega,fun qs st H5 s5 hs5 sok => ?_⟩⟩
     have S5:=S4.trans s5
     have hb16 : st.burn < 16:=Nat.lt_of_lt_of_le sok.burn (Nat.le_trans (Nat.pow_le_pow_right (by decide) (by rw [hl]; exact n4)) (by decide : 2 ^ 4 ≤ 16))
     refine ⟨_,rfl,_,rfl,_,rfl,p2,two,1,rfl,SqL.of (s5 _ _ k4),by decide,fun c1 _ => ⟨_,rfl,p,tm,n,qs,st,c1,i,(by rw [Int.zero_add]; rfl),hT.same (S2.trans S5),ok,n1,n4,hs5,by rw [sok.lb,hl],by rw [sok.lw,hl],by rw [sok.lf,hl],hb16,by omega,fun qb g H6 s6 hg6 hgb hgl => ?_⟩⟩
     have S6:=S5.trans s6
     have hs6:=hs5.same s6
     have hb61 : st.burn < 2 ^ 61:=Nat.lt_trans hb16 (by decide)
     -- the state drawn is one
     refine ⟨_,rfl,_,rfl,p,tm,n,qs,.of st,rfl,hT.same (S2.trans S6),ok,n4,hs6.gs,hb61,fun H7 s7 => ⟨_,rfl,?_⟩⟩
     rw [sok.isM]
     refine iteF ?_
     have S7:=S6.trans s7
     -- both,walked
     refine ⟨_,rfl,_,rfl,sz2,fun lo hlo => ⟨lo,rfl,⟨_,SqL.of upd_same⟩,?_⟩⟩
     have u8 : Same H7 (upd H7 lo (.lst [.ref qs,.ref qb])):=same_upd hlo
     have k8 : (upd H7 lo (.lst [.ref qs,.ref qb])) lo = some (.lst [.ref qs,.ref qb]):=upd_same
     generalize upd H7 lo (.lst [.ref qs,.ref qb]) = H8 at u8 k8 ⊢
     have S8:=S7.trans u8
     have hs8:=hs6.same (s7.trans u8)
     have hg8:=hg6.same (s7.trans u8)
     refine for_list (K:=K) (a:=lo) (xs:=[.ref qs,.ref qb]) (fun j σ H' => Same H8 H'∧∃ v7 : Option V,σ = [some (.ref a),some (.ref p),some (.ref ha),some (.int (0 + (i : Int))),some (.ref p2),some (.ref qs),some (.ref qb),v7]) ⟨Same.refl _,_,rfl⟩ (fun j σ H' _ e => SqL.of (e.1 _ _ k8)) ?_ ?_
     · rintro j x σ H9 hx ⟨s9,u7,rfl⟩
       have S9:=S8.trans s9
       obtain ⟨qx,gx,rfl,hgx,hbx,hlx⟩ : ∃ qx gx,x = .ref qx∧GsAt K H9 qx gx∧gx.burn < 2 ^ 61∧gx.bands.length ≤ 9:=by
         match j,hx with
         | 0,hx =>
           have : x = .ref qs:=(Option.some.inj hx).symm
           exact ⟨qs,.of st,this,(hs8.same s9).gs,hb61,by show (ofN st.bands).length ≤ 9; rw [len_of,sok.lb,hl]; omega⟩
         | 1,hx =>
           have : x = .ref qb:=(Option.some.inj hx).symm
           exact ⟨qb,g,this,hg8.same s9,hgb,hgl⟩
       refine ⟨_,rfl,_,rfl,_,rfl,ha,fph,p,tm,n,qx,gx,rfl,hh.same S9,hT.same (S2.trans S9),ok,n4,hgx,hbx,fun H10 s10 => ⟨_,rfl,iteF ?_⟩⟩
       have S10:=S9.trans s10
       refine ⟨_,rfl,_,rfl,_,rfl,_,rfl,ha,fph,p,tm,n,qx,gx,i,(by rw [Int.zero_add]; rfl),hh.same S10,hT.same (S2.trans S10),ok,n1,n4,hgx.same s10,hbx,hlx,by omega,fun H11 s11 => ⟨_,rfl,iteF ?_⟩⟩
       exact ⟨(s9.trans s10).trans s11,_,rfl⟩
     rintro σ H9 ⟨s9,u7,rfl⟩
     have S9:=S8.trans s9
     have hs9:=hs8.same s9
     have hg9:=hg8.same s9
     -- the asking of a right one,last
     refine ⟨_,rfl,_,rfl,p,tm,n,qb,g,rfl,hT.same (S2.trans S9),ok,n4,hg9,hgb,fun H10 s10 => ⟨_,rfl,?_⟩⟩
     have S10:=S9.trans s10
     cases e : isM (tm.m2 n n) g with
     | true =>
       refine iteF (iteF ?_)
       refine ⟨_,rfl,_,rfl,sz3,fun la hla => ⟨_,rfl,_,_,rfl,rfl,by decide,fun wy wy0 wy1 _ => ?_⟩⟩
       have ua:=same_upd (o:=.lst [V.int 0,V.int 1,V.int 5]) hla
       obtain ⟨w',ew',hw'⟩ : ∃ w' : Int,atI [V.int 0,V.int 1,V.int 5] wy = some (.int w')∧(w' = 0 ∨ w' = 1 ∨ w' = 5):=by
         have : wy = 0 ∨ wy = 1 ∨ wy = 2:=by omega
         rcases this with rfl | rfl | rfl
         · exact ⟨0,rfl,.inl rfl⟩
         · exact ⟨1,rfl,.inr (.inl rfl)⟩
         · exact ⟨5,rfl,.inr (.inr rfl)⟩
       exact ⟨la,_,_,_,rfl,rfl,.inl (SqL.of upd_same),ew',ha,fph,_,qs,w',rfl,hh.same (S10.trans ua),hbd,by omega,by omega,.inl ⟨st,hs9.same (s10.trans ua),sok,hw',fun H' s' => ⟨(S10.trans ua).trans s',_,_,_,_,_,rfl⟩⟩⟩
     | false =>
       refine iteT ⟨_,rfl,_,rfl,_,rfl,_,_,rfl,rfl,by decide,fun w6 w60 w61 _ => ⟨ha,fph,_,qb,g,w6,rfl,hh.same S10,hbd,w60,by omega,hg9.same s10,hgb,e,fun H11 s11 => ⟨_,rfl,iteF ?_⟩⟩⟩
       have S11:=S10.trans s11
       refine ⟨_,rfl,_,rfl,sz3,fun la hla => ⟨_,rfl,_,_,rfl,rfl,by decide,fun wy wy0 wy1 _ => ?_⟩⟩
       have ua:=same_upd (o:=.lst [V.int 0,V.int 1,V.int 5]) hla
       obtain ⟨w',ew',hw'⟩ : ∃ w' : Int,atI [V.int 0,V.int 1,V.int 5] wy = some (.int w')∧(w' = 0 ∨ w' = 1 ∨ w' = 5):=by
         have : wy = 0 ∨ wy = 1 ∨ wy = 2:=by omega
         rcases this with rfl | rfl | rfl
         · exact ⟨0,rfl,.inl rfl⟩
         · exact ⟨1,rfl,.inr (.inl rfl)⟩
         · exact ⟨5,rfl,.inr (.inr rfl)⟩
       exact ⟨la,_,_,_,rfl,rfl,.inl (SqL.of upd_same),ew',ha,fph,_,qs,w',rfl,hh.same (S11.trans ua),hbd,by omega,by omega,.inl ⟨st,hs9.same ((s10.trans s11).trans ua),sok,hw',fun H' s' => ⟨(S11.trans ua).trans s',_,_,_,_,_,rfl⟩⟩⟩
   · rintro σ H3 ⟨s3,v3,v4,v5,v6,v7,rfl⟩
     exact k H3
end
theorem walk {l : W.OpenLaw} {q : Program} {loose : List Str} {XP : (Str→Option Value)→Heap→Prop} {YP : World→Heap→Prop} {d : DefRec} {K : Params→W.Frag} (hn : l.most = some 63) (hdf : d.params.defaults = []) (hname : d.name = "law")
   (hY : ∀ (w : World) (h : Heap),YP w h→(K w.params).In h)
   (F : ∀ (w : World) (mg : Str→Option Value) (h : Heap),(K w.params).In h→h.Ns mainGlobals mg→∃ A,Txt (K w.params) mg A) :
   W.WalkO q loose XP YP l.row.toRowW d [] (fun f vs => PySem.call f vs) :=
 L2.walk_ofB (k:=13) (x:="_law_script") hn hdf ⟨rfl,by decide,by decide⟩ hY
   (fun w mg fa h KX G hmg => by
     obtain ⟨_,T⟩:=F w mg h KX G
     obtain ⟨f,fd,hm,Fd⟩:=id T.d_law
     rw [hname] at hmg
     have e:=hmg.symm.trans hm
     cases e
     exact ⟨fd,Fd.binds1 (fun _ _ _ _ _ _ _ => rfl),fun base _ _ => ok_law Fd T⟩)
end K12
namespace PySem.W.Fast
def tw16529328213955787019:=0
def tw9725364145210016153:=0
def tw3623909002854091935:=0
def tw8382253564197643731:=0
def tw5093130215376597840:=0
def tw12946873021029671983:=0
def tw10213483268712133187:=0
def tw1168429491985433364:=0
def tw8795355601032486018:=0
def tw692892059638096122:=0
def tw16806947775761164610:=0
def tw5141425375480432451:=0
def tw2222964253245328687:=0
def tw6258999486866030962:=0
def tw9343719245572799631:=0
def tw10473706508216341752:=0
def tw14539337382012417362:=0
def tw4003502292589020246:=0
def tw15235409740512948505:=0
def tw10969220677634012689:=0
def tw9044263648391684351:=0
def tw5451487521461624364:=0
def tw9652745232213342273:=0
def tw17630546783629016122:=0
def tw5648471653342805647:=0
def tw4871075968515167128:=0
def tw3666446525999859909:=0
def tw1887599851376827975:=0
def tw1924202169484230429:=0
def tw16153831277829808431:=0
def tw13902104082540742514:=0
def tw17078910474093915652:=0
def tw3844267337263729403:=0
def tw16856677782263137304:=0
def tw8001332906313732555:=0
def tw13567522959099244428:=0
def tw7417842609214317803:=0
def tw6254160152068533583:=0
def tw6486745108978145143:=0
def tw164012732371689337:=0
def tw4745346349660171181:=0
def tw15728637460801179603:=0
def tw10820255277676942222:=0
def tw6211813943951582987:=0
def tw3956122112406077334:=0
def tw5579780323829440725:=0
def tw17514847791703806926:=0
def tw15370793415298696524:=0
def tw2935807525309800291:=0
def tw1504201087820794450:=0
def tw14850912763090731847:=0
def tw10932271232338908698:=0
def tw12960542750185068880:=0
def tw4106623888128069061:=0
def tw6998027536769814003:=0
def tw17404713352583814940:=0
def tw10405522193021583103:=0
def tw6880768380269342468:=0
def tw15119818360685917023:=0
def tw5109525382448601664:=0
def tw17592285070593505626:=0
def tw11348574210427985705:=0
def tw663611158314490204:=0
def tw12316065491341628347:=0
def tw5606704949081541296:=0
def tw4189403996852753537:=0
def tw284557688403429625:=0
def tw10750084704781109707:=0
def tw10017367403232915824:=0
def tw1792736218686944035:=0
def tw12293152323024474800:=0
def tw17470836544897968378:=0
def tw16459512890068406725:=0
def tw8327218874057052133:=0
def tw7812645260738581467:=0
def tw1181961802709857668:=0
def tw10431303003321305181:=0
def tw541030862929570427:=0
def tw13867501654561776214:=0
def tw5940284897350599809:=0
def tw15883355211939056143:=0
def tw17990408558702910687:=0
def tw17318031753856404071:=0
def tw9692543475987784502:=0
def tw6525598728913816134:=0
def tw1584064962220283022:=0
def tw8049477421862377701:=0
def tw6107044487739710607:=0
def tw4002499627438793782:=0
def tw6536959011287044440:=0
def tw8186953012944672043:=0
def tw5596587439678339993:=0
def tw1716024734259956780:=0
def tw11793376363936746546:=0
def tw16182012974237368565:=0
def tw13349562107686883170:=0
def tw3004602708803985344:=0
def tw11252682200842557042:=0
def tw6274166167333632264:=0
def tw27668602262912294:=0
def tw4970890010911507665:=0
def tw6400130324932478875:=0
def tw15684725332324013036:=0
def tw1380413979045992072:=0
def tw9229997160843877615:=0
def tw12715331768031044301:=0
def tw11871767465431451060:=0
def tw428573635445454581:=0
def tw11842553911174520315:=0
def tw14591905119814531515:=0
def tw5502769049576706596:=0
def tw1147908093510098730:=0
def tw5780964809035045089:=0
def tw16717460080243924872:=0
def tw622491443830169372:=0
def tw12712770277708336122:=0
def tw3272344599606148496:=0
def tw16290053286859143703:=0
def tw15950624825726008090:=0
def tw9518882444172826584:=0
def tw17165338020013562355:=0
def tw3047363863732140016:=0
def tw234644322284421978:=0
def tw12929630353361877746:=0
def tw17052403950130845891:=0
def tw4779202539210477361:=0
def tw15136328961770499522:=0
def tw13736281462231196971:=0
def tw2047616934677341212:=0
def tw17488296055952017375:=0
def tw10333216377225654837:=0
def tw806984498208727305:=0
def tw2789223391930881582:=0
def tw6044468063826241653:=0
def tw12450186372598620323:=0
def tw4202601655636849003:=0
def tw3988981673444510409:=0
def tw2954742164036862651:=0
def tw2258157407149128245:=0
def tw9270385386333156851:=0
def tw17911620895881792709:=0
def tw14054262818703898949:=0
def tw8086734140071118662:=0
def tw5708365342447195365:=0
def tw17407898198683705494:=0
def tw13002939506781025625:=0
def tw8489437676612810515:=0
def tw15270579561582473341:=0
def tw2962876318281158084:=0
def tw8251430111276410567:=0
def tw12844076539343403487:=0
def tw11234357148373909664:=0
def tw10366111569202261973:=0
def tw2698608085074231659:=0
def tw7899626384572808432:=0
def tw6240863991639221828:=0
def tw4449887868696643580:=0
def tw8859223252969304212:=0
def tw14455235520150697999:=0
def tw1291112842373041476:=0
def tw8439435805594558338:=0
def tw12052621106248145986:=0
def tw2907749154394506629:=0
def tw13186761918882874159:=0
def tw13400211412151202248:=0
def tw13423203866745512036:=0
def tw8410901234283955741:=0
def tw16287154704995834856:=0
def tw12185079216155596020:=0
def tw5239195075311054837:=0
def tw1901310505788119556:=0
def tw15766727229490094527:=0
def tw1143600300200355198:=0
def tw5969496795827563391:=0
def tw4132755688167820735:=0
def tw10776613040192442880:=0
def tw14583949714935493596:=0
def tw15205655697606547750:=0
def tw3038946137739072718:=0
def tw7441592908711775952:=0
def tw4760623478074212723:=0
def tw10975750517699291848:=0
def tw9327762457802201051:=0
def tw275292368468603435:=0
def tw8663822824557349127:=0
def tw12439716649794534816:=0
def tw15210895526746499666:=0
def tw12962487227477117082:=0
def tw14402744656494866705:=0
def tw16391938387447996825:=0
def tw1196821260663793451:=0
def tw4913883147232157316:=0
def tw15997598670038078740:=0
def tw15048091929498566079:=0
def tw12630887133910490872:=0
def tw1481457879915808195:=0
def tw3980294823047294665:=0
def tw1806470709561264490:=0
def tw17671060266257808242:=0
def tw16058663015712143726:=0
def tw18446294035756535091:=0
def tw5564507968773728867:=0
def tw1592516103198622357:=0
def tw14134069967502557762:=0
def tw13159747437540889051:=0
def tw15268651761210881378:=0
def tw8020077085965495923:=0
def tw2110784396472809313:=0
def tw16933412322812788710:=0
def tw5468135250854370186:=0
def tw1358743126037092130:=0
def tw13214452020222635344:=0
def tw9481682618025142364:=0
def tw9734526973406042653:=0
def tw2827637802319948508:=0
def tw14335868387497604551:=0
def tw3032653226408014038:=0
def tw15571587876190965659:=0
def tw16217641201826184462:=0
def tw5589274239106241122:=0
def tw13208510678432048820:=0
def tw3904173111080706062:=0
def tw10914264186421701744:=0
def tw13312898572570970005:=0
def tw10500637462809281613:=0
def tw13345942301200541559:=0
def tw14810433388972150067:=0
def tw13743243953792648206:=0
def tw10656446742094945351:=0
def tw6983853522856371883:=0
def tw5381971226821057855:=0
def tw15465204454112900920:=0
def tw13808497734071770302:=0
def tw9733549957874166525:=0
def tw8495793189544965284:=0
def tw11241285190936129893:=0
def tw9052537469129198633:=0
def tw5793341725863910496:=0
def tw11542801488841919404:=0
def tw17104041373923490829:=0
def tw2719902537420307737:=0
def tw6051953337531079536:=0
def tw4101688551350665166:=0
def tw3207981869859336612:=0
def tw9457272148210526665:=0
def tw17954069142560664613:=0
def tw16073223170281247957:=0
def tw9012377795205153028:=0
def tw17608071887284846002:=0
def tw12562078961240370724:=0
def tw4998248518461394955:=0
def tw12743493031752195582:=0
def tw14988143100008143050:=0
def tw4887622452985201070:=0
def tw18315752144657001977:=0
def tw15524521296753836604:=0
def tw17363666224307885607:=0
def tw9428416220999334382:=0
def tw7509851551728490756:=0
def tw5040172431039029081:=0
def tw14089312688249463029:=0
def tw6871055983270354797:=0
def tw17722027270439381299:=0
def tw17486138386658508489:=0
def tw5260134860081976912:=0
def tw310603146301154922:=0
def tw6612089882262846514:=0
def tw4996318635514534990:=0
def tw8078655892559811167:=0
def tw5307589025024239242:=0
def tw3573459449604370253:=0
def tw16720931506220929764:=0
def tw12675722487991289979:=0
def tw12158116574273137438:=0
def tw11314294466090059092:=0
def tw9627662549260924229:=0
def tw4931118288601082507:=0
def tw12542520882967229855:=0
def tw2412018291219027654:=0
def tw12126744018786756478:=0
def tw14094640728286283137:=0
def tw2987315968587792224:=0
def tw17237973151226940318:=0
def tw17982932169833711121:=0
def tw18018438451723899705:=0
def tw9186921139905668774:=0
def tw1221847696745503837:=0
def tw11004493513555001998:=0
def tw4577976109964399401:=0
def tw9880023344046669979:=0
def tw8136243166936639524:=0
def tw4497547280835394933:=0
def tw264926489067595792:=0
def tw1665148037075651121:=0
def tw14071546529474718476:=0
def tw11886698456830074668:=0
def tw11341643373521687033:=0
def tw10893828856750462693:=0
def tw16185625718485043352:=0
def tw5675176380294138960:=0
def tw14063680160996849893:=0
def tw16821144441960147453:=0
def tw7151589156199580330:=0
def tw15714637850064621435:=0
def tw17322845278690795759:=0
def tw13619107224826853904:=0
def tw12792979005153636428:=0
def tw14052778876907882891:=0
def tw17207297136914468049:=0
def tw8300491655252382235:=0
def tw11809267008213517357:=0
def tw16881116780922738557:=0
def tw2243731873920226003:=0
def tw13628100271949325749:=0
def tw1853389127206378403:=0
def tw15598146644362998395:=0
def tw12366657629127143628:=0
def tw13732047282610286523:=0
def tw11439258214459394748:=0
def tw10890116451417242225:=0
def tw7843507725802822313:=0
def tw5935723520721537470:=0
def tw11694961461907253479:=0
def tw4441837863254617817:=0
def tw3204503953793090715:=0
def tw10349327587182023204:=0
def tw2932197958122295629:=0
def tw2073553102490149109:=0
def tw5604398905314325229:=0
def tw12260324350742481223:=0
def tw10367403872614005244:=0
def tw2238661647025276516:=0
def tw1259295687667961223:=0
def tw2264713056331512565:=0
def tw4906913406813152156:=0
def tw1942226277028896355:=0
def tw17908672731809881879:=0
def tw15314185385997556040:=0
def tw15676190877386978413:=0
def tw11534633593560698740:=0
def tw9315506704532670850:=0
def tw5148784853298755706:=0
def tw12782003076924044328:=0
def tw13975513889283575430:=0
def tw18439037328641575399:=0
def tw14754995328842076560:=0
def tw4766977574250478680:=0
def tw12440285931562872786:=0
def tw6376985146268223491:=0
def tw3609254809318114820:=0
def tw5638258589192065830:=0
def tw3733642647954241335:=0
def tw10755848143868498062:=0
def tw4721561658876884713:=0
def tw11751455531227633418:=0
def tw9792217624704564312:=0
def tw3098353177301695440:=0
def tw2693787436098421723:=0
def tw14130850682130286111:=0
def tw13809256632847472007:=0
def tw12904596139763567627:=0
def tw7717031102115162903:=0
def tw7509919769709235655:=0
def tw18279492216574493488:=0
def tw1117575653485586795:=0
def tw4099455079331549379:=0
def tw17087323765781895225:=0
def tw146841211004499714:=0
def tw11599416032709267759:=0
def tw1049777309513222133:=0
def tw16515362768095788826:=0
def tw4409457447303727064:=0
def tw3479268936326805096:=0
def tw15097587112426602941:=0
def tw12725492448798533927:=0
def tw7616629167888464188:=0
def tw5755005469827112104:=0
def tw11938683117873166222:=0
def tw11231045844947751173:=0
def tw4344509955596068132:=0
def tw13491190625097292902:=0
def tw18179875876577116843:=0
def tw8013963168427092921:=0
def tw10237822338537131800:=0
def tw13504867283708131059:=0
def tw5036421256251331642:=0
def tw9059429562676524938:=0
def tw7937505751888377535:=0
def tw1870540138259386067:=0
def tw9456622357734616388:=0
def tw14522506165729026081:=0
def tw13860497309247945058:=0
def tw12981638667460242308:=0
def tw5954206861161011490:=0
def tw4105344987348267436:=0
def tw4377372782837958470:=0
def tw16411863651806331687:=0
def tw12954589515948119861:=0
def tw15376237392542722693:=0
def tw13462977811748285919:=0
def tw89531499782638783:=0
def tw5209256923649046813:=0
def tw16542040974407755875:=0
def tw13230967018290546678:=0
def tw5061761346863733007:=0
def tw12603262044387404960:=0
def tw12383027565764263347:=0
def tw12302122793552501621:=0
def tw8161373366030341525:=0
def tw17918582062001682623:=0
def tw16070837093148619564:=0
def tw7906520900429694922:=0
def tw9482706033191951443:=0
def tw6998120499706071567:=0
def tw16269310693557662461:=0
def tw13838567149990061051:=0
def tw11182849318434475825:=0
def tw8218579598290992026:=0
def tw16623933819217101448:=0
def tw3194739036565221500:=0
def tw16173007572029335060:=0
def tw8699628106462455347:=0
def tw15633463030962308260:=0
def tw11485730384099227156:=0
def tw8296823617136807326:=0
def tw5663745129041736561:=0
def tw11918716937628340929:=0
def tw4085642150122318471:=0
def tw5536121071034738124:=0
def tw2584463339491514443:=0
def tw7282270324270435256:=0
def tw10301145342018798292:=0
def tw9178586534995894562:=0
def tw3060881243051642341:=0
def tw630672239608636730:=0
def tw3704991595378172514:=0
def tw12187111933384405980:=0
def tw9190285501381868505:=0
def tw7935676079575049354:=0
def tw4161917200709114479:=0
def tw2113578008989831388:=0
def tw15113948747865719819:=0
def tw829000207224779068:=0
def tw2198759872021737784:=0
def tw17389837624471748146:=0
def tw16676842715809751398:=0
def tw11405736884438902099:=0
def tw7907571892063359678:=0
def tw17617190726251084100:=0
def tw9958854401667333231:=0
def tw4372044191757362573:=0
def tw1713141755398336813:=0
def tw8969188124041255566:=0
def tw8903844426082880294:=0
def tw7384414004283267979:=0
def tw16144647823474643164:=0
def tw10723063337697682790:=0
def tw9357024023267042108:=0
def tw5593514235321721567:=0
def tw10977586881222529271:=0
def tw10183420163667280471:=0
def tw9157943083810413998:=0
def tw3644415319539123177:=0
def tw12819186312948978137:=0
def tw18083594370404554067:=0
def tw9204614002168165110:=0
def tw4382271946354677280:=0
def tw17837636275475088765:=0
def tw12957325464383926831:=0
def tw2975091937555820806:=0
def tw9754527565627050814:=0
def tw14724980419543898381:=0
def tw9341730294408380804:=0
def tw10101942128940810145:=0
def tw1449225415779140602:=0
def tw9142584310738085233:=0
def tw6095082891988269689:=0
def tw4323605833897514066:=0
def tw4468527388964713925:=0
def tw2832352019262622500:=0
def tw15997506537194698241:=0
def tw18261743353239749974:=0
def tw17392675607201938465:=0
def tw7908635878989087044:=0
def tw5065666173944618345:=0
def tw2124639305299114709:=0
def tw18159167432043862213:=0
def tw13425139852145593691:=0
def tw12012123797835632357:=0
def tw3167314606806563477:=0
def tw10487724872148845184:=0
def tw13075371570350561780:=0
def tw10347230519198318322:=0
def tw18047437604625212973:=0
def tw7403980952329117308:=0
def tw17272377865080319710:=0
def tw16586312626857096953:=0
def tw6762884780604761469:=0
def tw18040223718386845342:=0
def tw4774365127755180465:=0
def tw5581046273294368676:=0
def tw2745659582549772004:=0
def tw12781004039945921372:=0
def tw4683856603918423250:=0
def tw4662258484510382822:=0
def tw9160793236384771108:=0
def tw8059465877211093893:=0
def tw16250262817282898841:=0
def tw16050912205016713412:=0
def tw13019719378280193676:=0
def tw16675183495364195866:=0
def tw6610715439701388791:=0
def tw2949179616780078867:=0
def tw12556796221822254713:=0
def tw12295666514802176946:=0
def tw10346574893423857892:=0
def tw9812587730252764095:=0
def tw2299384597261249057:=0
def tw17279545442247496671:=0
def tw16159574462358085093:=0
def tw15464956556605765274:=0
def tw15120813659554932836:=0
def tw14206325453330102393:=0
def tw13820503914598686136:=0
def tw11468532769222794084:=0
def tw11453983736611944607:=0
def tw1065219591051364179:=0
def tw10597429095863151528:=0
def tw7931063423080174091:=0
def tw14981124693749123349:=0
def tw14563843624516329975:=0
def tw13840883156354545705:=0
def tw10238578288453038095:=0
def tw1794610342620347732:=0
def tw16122078955839938899:=0
def tw1583497288376689486:=0
def tw13346063986275922598:=0
def tw9992143577981262665:=0
def tw9111956619721059782:=0
def tw8005197185600024594:=0
def tw5763872668319509088:=0
def tw5399560145193207983:=0
def tw5193672529673334092:=0
def tw4027307253102429775:=0
def tw2382276481607092679:=0
def tw2096087879619860777:=0
def tw14805126234269081041:=0
def tw13152900062563888251:=0
def tw12011969152525862327:=0
def tw15654047931595702586:=0
def tw12905771570311886543:=0
def tw17113260273482742681:=0
def tw14358508117929717347:=0
def tw9878878080063007302:=0
def tw5112954325491482748:=0
def tw16558028347105603166:=0
def tw1426895927858374078:=0
def tw14141944407048713151:=0
def tw12606327053225786898:=0
def tw12200510460943362992:=0
def tw2482004283539631919:=0
def tw11154300119077105904:=0
def tw18312211001422303173:=0
def tw14458215033002939255:=0
def tw9687054829406401559:=0
def tw9104098685358168920:=0
def tw7541661106191414237:=0
def tw6722085854091682128:=0
def tw6303164835438298306:=0
def tw5635868437997025601:=0
def tw555503305834197926:=0
def tw5116164706682985833:=0
def tw3909853233493807432:=0
def tw3847228977948810367:=0
def tw3571495325164687234:=0
def tw2199288223437822581:=0
def tw2180562347185033072:=0
def tw17944120876306758578:=0
def tw16473893317602929576:=0
def tw13629614034387561915:=0
def tw12484540674833375099:=0
def tw12343067388435474540:=0
def tw9920531608386913173:=0
def tw9438301081510174934:=0
def tw8758320639358711070:=0
def tw8687702050230314203:=0
def tw6895069223152066184:=0
def tw6066024389870787887:=0
def tw264991568124747867:=0
def tw184115254274364012:=0
def tw18389400720435558409:=0
def tw18239089325284267842:=0
def tw1747705897134920188:=0
def tw16171302347350313670:=0
def tw15426395058570385944:=0
def tw14869151347340123185:=0
def tw13338079859111540787:=0
def tw1023963283705106289:=0
def tw10110919214573359197:=0
def tw3816482094659304325:=0
def tw2443585472248162047:=0
def tw14480965933494045285:=0
def tw15494154535647080908:=0
def tw11660258428867411489:=0
def tw9954903049323792480:=0
def tw1158818954205121912:=0
def tw7835189236432181127:=0
def tw8637972374184885850:=0
def tw591729096285965965:=0
def tw4265061696675352764:=0
def tw3948233785569439567:=0
def tw18440738793886784003:=0
def tw16402285772182288970:=0
def tw1557253634373297919:=0
def tw15158743620099211011:=0
def tw14220486708844599518:=0
def tw13075962036496698255:=0
def tw12960345704837208306:=0
def tw10686807874086059868:=0
def tw10414032558794835699:=0
def tw9950681795581707348:=0
def tw8682033413961153156:=0
def tw8341002083305536570:=0
def tw6607490222097877373:=0
def tw6321011708408902436:=0
def tw566422180252013958:=0
def tw3995959825860972413:=0
def tw18134824836841548537:=0
def tw1742525967651126116:=0
def tw16562358968154616535:=0
def tw16350301714302133952:=0
def tw15980380042067051683:=0
def tw14268046380515154800:=0
def tw13368541887811740743:=0
def tw12951121805688151666:=0
def tw11853423033094449718:=0
def tw11074445897768552212:=0
def tw10276902189624023466:=0
def tw7999814514256191760:=0
def tw9712848885088720:=0
def tw9655730612001967053:=0
def tw9573055623364312280:=0
def tw9562164223212781337:=0
def tw948589718124076322:=0
def tw9270991851246005998:=0
def tw9209099271494678536:=0
def tw9166884322753018926:=0
def tw9137296302448237716:=0
def tw9064266260501209832:=0
def tw8977442114297048304:=0
def tw8970229581357886823:=0
def tw8919491520758487234:=0
def tw8656788130017786052:=0
def tw8636522285217516883:=0
def tw859099058519500210:=0
def tw8537240422521216630:=0
def tw840849299659035157:=0
def tw8374102017331472639:=0
def tw8365856384751634095:=0
def tw8309910550366456988:=0
def tw8268643689234560902:=0
def tw8236205828400686744:=0
def tw8110789640078764488:=0
def tw8025828584780665718:=0
def tw7968549127647005059:=0
def tw7914878164636498795:=0
def tw7736028279199139419:=0
def tw7720702941167217449:=0
def tw7705748681213909538:=0
def tw7665203943477474587:=0
def tw7579688914447210330:=0
def tw7487380247851553276:=0
def tw7357098450954295581:=0
def tw7326585987225157065:=0
def tw7165672630201540566:=0
def tw7086896176439358044:=0
def tw7059132492777538265:=0
def tw7023936315254018532:=0
def tw6968908298660310860:=0
def tw6798049066329493679:=0
def tw6707130049902603915:=0
def tw6696691019099462734:=0
def tw6686325959229670770:=0
def tw6638623791519513503:=0
def tw6511531493183942764:=0
def tw649094329275218932:=0
def tw6362692576524891067:=0
def tw6262830124592047255:=0
def tw6258613200610773340:=0
def tw6154281288964126009:=0
def tw6064449661220035514:=0
def tw588012138827705927:=0
def tw5864057047996456327:=0
def tw5766154970286587777:=0
def tw5748093384036944117:=0
def tw5584721556574626817:=0
def tw5471689665149186731:=0
def tw544530934630839370:=0
def tw5393698218436177195:=0
def tw5307801222346508661:=0
def tw5177344219797947466:=0
def tw5151652257110421330:=0
def tw5112803937474354811:=0
def tw5100217682046253942:=0
def tw5011299112439939082:=0
def tw4981761534376422895:=0
def tw487039307102293426:=0
def tw4841864135996977689:=0
def tw4816471549454824159:=0
def tw4753642659181855161:=0
def tw471129316943871097:=0
def tw4594412435771118282:=0
def tw4574402886557333409:=0
def tw4538077523734738339:=0
def tw4525787786358873881:=0
def tw4490624866674924890:=0
def tw4490354865885716701:=0
def tw4379671984398657734:=0
def tw4375722102471666726:=0
def tw4300157380721107717:=0
def tw4292788894870316285:=0
def tw4230236424943308354:=0
def tw4052003264229850760:=0
def tw4048379373111333738:=0
def tw3915889906686335634:=0
def tw3881149639708759823:=0
def tw3538017135363515870:=0
def tw3427807224609570997:=0
def tw3329592807148081918:=0
def tw3284486648271685917:=0
def tw324867659502410259:=0
def tw3221973052429317127:=0
def tw3173192180099331318:=0
def tw3063255932153587467:=0
def tw2935311397597460532:=0
def tw2935205566695072132:=0
def tw2911460581852914406:=0
def tw2899887251713862404:=0
def tw2749053572859268889:=0
def tw2665561728536273313:=0
def tw2518394024384760379:=0
def tw2517757208599790749:=0
def tw2497454584511194970:=0
def tw24771042870950042:=0
def tw2346125393898437432:=0
def tw227350127259916823:=0
def tw2064581442485210791:=0
def tw1885768026861354317:=0
def tw18412300519326928460:=0
def tw18351456463742691544:=0
def tw18339982063328109734:=0
def tw18330995606342151041:=0
def tw1828038948270013553:=0
def tw18246161020850705872:=0
def tw18113448798566854804:=0
def tw18069785674354759725:=0
def tw18011494655721018610:=0
def tw17690491612660848038:=0
def tw17649271490069031240:=0
def tw17478730113666682227:=0
def tw17359687184512190506:=0
def tw17327790320266850710:=0
def tw17210004362357392864:=0
def tw17157683575620565976:=0
def tw16882108171448076271:=0
def tw16814125238811019898:=0
def tw16748208273382869267:=0
def tw16636354511741582565:=0
def tw16575261517737275865:=0
def tw16524744214269078947:=0
def tw16469529414896575013:=0
def tw16449079669270926951:=0
def tw16395064712520273754:=0
def tw1623997349167258606:=0
def tw16180090899987014054:=0
def tw16136108247439504658:=0
def tw16091233370031671560:=0
def tw16080472841078453835:=0
def tw16064370769426645049:=0
def tw15948326736911456443:=0
def tw15741376542007507123:=0
def tw1571671763332569405:=0
def tw15710786909879840627:=0
def tw15620035508861723699:=0
def tw15562287251139312872:=0
def tw15519913061199728021:=0
def tw15381213485264216777:=0
def tw1524726179215111457:=0
def tw15157020928903176985:=0
def tw15049741403229931284:=0
def tw15032721523256870937:=0
def tw15010131373212986569:=0
def tw14931883283019429706:=0
def tw147540335501098698:=0
def tw14724143036743467427:=0
def tw14714214799104695575:=0
def tw14633441003160354767:=0
def tw14464486276085116286:=0
def tw14181395861562064267:=0
def tw14085374517465358504:=0
def tw13988173128630565428:=0
def tw13965175764121844510:=0
def tw13683361279954656215:=0
def tw13644522153597298550:=0
def tw13573527731162905866:=0
def tw13442401172634459809:=0
def tw13130719054677403906:=0
def tw13051609356513284976:=0
def tw12955544004001431933:=0
def tw1292753770423112105:=0
def tw12844792621097491577:=0
def tw12843175575539432372:=0
def tw12786823776744568231:=0
def tw12695857345227068932:=0
def tw12695511915498066857:=0
def tw12694731234633865802:=0
def tw12677301223722477330:=0
def tw12649700769377201338:=0
def tw12540602986123401210:=0
def tw12449387883645018793:=0
def tw12432643981103070810:=0
def tw12349370700771809847:=0
def tw12300352613604352810:=0
def tw12232460202681907606:=0
def tw12172045145796640392:=0
def tw11903487232182096262:=0
def tw11799795369620757265:=0
def tw11730567369308007085:=0
def tw11564585800765663327:=0
def tw11550243079739138541:=0
def tw11479763659949571342:=0
def tw11424098882121448075:=0
def tw11307619582866499084:=0
def tw11258603990718540806:=0
def tw1125752393309407310:=0
def tw11157438214009449297:=0
def tw1097301998351536496:=0
def tw10958774824509192043:=0
def tw10823547306071883666:=0
def tw10798579724847368257:=0
def tw10653370285476203710:=0
def tw10639333160380654540:=0
def tw10455925580329645657:=0
def tw1044632891206148674:=0
def tw10398646953862935002:=0
def tw10251116033697870641:=0
def tw10108862256761960971:=0
def tw10076797016261936174:=0
def tw10073308614245161301:=0
def tw10042383345700496234:=0
end PySem.W.Fast
open PySem PySem.W PyProof.Rows
set_option maxRecDepth 100000 in
set_option maxHeartbeats 0 in
theorem PySem.Challenge.cw_stoke_k12_what_is_a_state_holds : PySem.Challenge.rw_stoke_k12_what_is_a_state.Holds := by
 w_on; o_law; k_head; (case hw => w_witness2)
 k_fill
 refine K12.walk (l:=PySem.Challenge.rw_stoke_k12_what_is_a_state) rfl rfl rfl (fun w h Y => PySem.W.kIn_of Y) ?F
 case F =>
   intro w mg h KX G
   refine' ⟨_,K12.txt_mk KX G ?z682 ?z683 ?z684 ?z685 ?z686 ?z687 ?z688 ?z689 ?z690 ?z691 ?z692 ?z693 ?z694 ?z695 ?z696 ?z697 ?z698 ?z699 ?z700 ?z701 ?z702 ?z703 ?z704 ?z705 ?z706 ?z707 ?z708 ?z709 ?z710 ?z711 ?z712 ?z713 ?z714 ?z715 ?z716 ?z717 ?z718 ?z719 ?z720 ?z721 ?z722 ?z723 ?z724 ?z725 ?z726 ?z727 ?z728 ?z729 ?z730 ?z731 ?z732 ?z733 ?z734 ?z735 ?z736 ?z737 ?z738 ?z739 ?z740 ?z741 ?z742 ?z743 ?z744 ?z745 ?z746 ?z747 ?z748 ?z749 ?z750 ?z751 ?z752 ?z753 ?z754 ?z755 ?z756 ?z757 ?z758 ?z759 ?z760 ?z761 ?z762 ?z763 ?z764 ?z765 ?z766 ?z767 ?z768 ?z769 ?z770 ?z771 ?z772 ?z773 ?z774 ?z775 ?z776 ?z777 ?z778 ?z779 ?z780 ?z781 ?z782 ?z783 ?z784 ?z785 ?z786 ?z787 ?z788 ?z789 ?z790 ?z791 ?z792 ?z793 ?z794 ?z795 ?z796 ?z797 ?z798 ?z799 ?z800 ?z801 ?z802 ?z803 ?z804 ?z805 ?z806 ?z807 ?z808 ?z809 ?z810 ?z811 ?z812 ?z813 ?z814 ?z815 ?z816 ?z817 ?z818 ?z819 ?z820 ?z821 ?z822 ?z823 ?z824 ?z825 ?z826 ?z827 ?z828 ?z829 ?z830 ?z831 ?z832 ?z833 ?z834 ?z835 ?z836 ?z837 ?z838 ?z839 ?z840 ?z841 ?z842 ?z843 ?z844 ?z845 ?z846 ?z847 ?z848 ?z849 ?z850 ?z851 ?z852 ?z853 ?z854 ?z855 ?z856 ?z857 ?z858 ?z859 ?z860 ?z861 ?z862 ?z863 ?z864 ?z865 ?z866 ?z867 ?z868 ?z869 ?z870 ?z871 ?z872 ?z873 ?z874 ?z875 ?z876 ?z877 ?z878 ?z879 ?z880 ?z881 ?z882 ?z883 ?z884 ?z885 ?z886 ?z887 ?z888 ?z889 ?z890 ?z891 ?z892 ?z893 ?z894 ?z895 ?z896 ?z897 ?z898 ?z899 ?z900 ?z901 ?z902 ?z903 ?z904 ?z905 ?z906 ?z907 ?z908 ?z909 ?z910 ?z911 ?z912 ?z913 ?z914 ?z915 ?z916 ?z917 ?z918 ?z919 ?z920 ?z921 ?z922 ?z923 ?z924 ?z925 ?z926 ?z927 ?z928 ?z929 ?z930 ?z931 ?z932 ?z933 ?z934 ?z935 ?z936 ?z937 ?z938 ?z939 ?z940 ?z941 ?z942 ?z943 ?z944 ?z945 ?z946 ?z947 ?z948 ?z949 ?z950 ?z951 ?z952 ?z953 ?z954 ?z955 ?z956 ?z957 ?z958 ?z959 ?z960 ?z961 ?z962 ?z963 ?z964 ?z965 ?z966 ?z967 ?z968 ?z969 ?z970 ?z971 ?z972 ?z973 ?z974 ?z975 ?z976 ?z977 ?z978 ?z979 ?z980 ?z981 ?z982 ?z983 ?z984 ?z985 ?z986 ?z987 ?z988 ?z989 ?z990 ?z991 ?z992 ?z993 ?z994 ?z995 ?z996 ?z997 ?z998 ?z999 ?z1000 ?z1001 ?z1002 ?z1003 ?z1004 ?z1005 ?z1006 ?z1007 ?z1008 ?z1009 ?z1010 ?z1011 ?z1012 ?z1013 ?z1014 ?z1015 ?z1016 ?z1017 ?z1018 ?z1019⟩
   (case z682 => k_is)
   (case z683 => k_is)
   (case z684 => k_is)
   (case z685 => k_is)
   (case z686 => k_is)
   (case z687 => k_is)
   (case z688 => k_is)
   (case z689 => k_is)
   (case z690 => k_is)
   (case z691 => k_is)
   (case z692 => k_is)
   (case z693 => k_is)
   (case z694 => k_is)
   (case z695 => k_is)
   (case z696 => k_exc)
   (case z697 => k_is)
   (case z698 => k_is)
   (case z699 => k_is)
   (case z700 => k_is)
   (case z701 => k_is)
   (case z702 => k_is)
   (case z703 => k_is)
   (case z704 => k_is)
   (case z705 => kts_exm)
   (case z706 => kit_is)
   (case z707 => kit_is)
   (case z708 => k_is)
   (case z709 => k_is)
   (case z710 => k_is)
   (case z711 => k_is)
   (case z712 => k_is)
   (case z713 => k_is)
   (case z714 => k_is)
   (case z715 => k_is)
   (case z716 => k_is)
   (case z717 => k_is)
   (case z718 => k_is)
   (case z719 => k_is)
   (case z720 => k_is)
   (case z721 => k_is)
   (case z722 => k_is)
   (case z723 => k_is)
   (case z724 => k_is)
   (case z725 => k_is)
   (case z726 => k_is)
   (case z727 => k_is)
   (case z728 => k_is)
   (case z729 => k_is)
   (case z730 => k_is)
   (case z731 => k_is)
   (case z732 => k_is)
   (case z733 => k_is)
   (case z734 => k_is)
   (case z735 => k_is)
   (case z736 => k_is)
   (case z737 => k_is)
   (case z738 => k_is)
   (case z739 => k_is)
   (case z740 => k_is)
   (case z741 => k_is)
   (case z742 => k_is)
   (case z743 => k_is)
   (case z744 => k_is)
   (case z745 => k_is)
   (case z746 => k_is)
   (case z747 => k_is)
   (case z748 => k_is)
   (case z749 => k_is)
   (case z750 => k_is)
   (case z751 => k_is)
   (case z752 => k_is)
   (case z753 => k_is)
   (case z754 => k_is)
   (case z755 => k_is)
   (case z756 => k_is)
   (case z757 => k_is)
   (case z758 => k_is)
   (case z759 => k_is)
   (case z760 => k_is)
   (case z761 => k_is)
   (case z762 => k_is)
   (case z763 => k_is)
   (case z764 => k_is)
   (case z765 => k_is)
   (case z766 => k_is)
   (case z767 => k_is)
   (case z768 => k_is)
   (case z769 => k_is)
   (case z770 => k_is)
   (case z771 => k_is)
   (case z772 => k_is)
   (case z773 => k_is)
   (case z774 => k_is)
   (case z775 => k_is)
   (case z776 => k_is)
   (case z777 => k_is)
   (case z778 => k_is)
   (case z779 => k_is)
   (case z780 => k_is)
   (case z781 => k_is)
   (case z782 => k_is)
   (case z783 => k_is)
   (case z784 => k_is)
   (case z785 => k_is)
   (case z786 => k_is)
   (case z787 => k_is)
   (case z788 => k_is)
   (case z789 => k_is)
   (case z790 => k_is)
   (case z791 => k_is)
   (case z792 => k_is)
   (case z793 => k_is)
   (case z794 => k_is)
   (case z795 => k_is)
   (case z796 => k_is)
   (case z797 => k_is)
   (case z798 => k_is)
   (case z799 => k_is)
   (case z800 => k_is)
   (case z801 => k_is)
   (case z802 => k_is)
   (case z803 => k_is)
   (case z804 => k_is)
   (case z805 => k_is)
   (case z806 => k_is)
   (case z807 => k_is)
   (case z808 => k_is)
   (case z809 => k_is)
   (case z810 => k_is)
   (case z811 => k_is)
   (case z812 => k_is)
   (case z813 => k_is)
   (case z814 => k_is)
   (case z815 => k_is)
   (case z816 => k_is)
   (case z817 => k_is)
   (case z818 => k_is)
   (case z819 => k_is)
   (case z820 => k_is)
   (case z821 => k_is)
   (case z822 => k_is)
   (case z823 => k_is)
   (case z824 => k_is)
   (case z825 => k_is)
   (case z826 => k_is)
   (case z827 => k_is)
   (case z828 => k_is)
   (case z829 => k_is)
   (case z830 => k_is)
   (case z831 => k_is)
   (case z832 => k_is)
   (case z833 => k_is)
   (case z834 => k_is)
   (case z835 => k_is)
   (case z836 => k_is)
   (case z837 => k_is)
   (case z838 => k_is)
   (case z839 => k_is)
   (case z840 => k_is)
   (case z841 => k_is)
   (case z842 => k_is)
   (case z843 => k_is)
   (case z844 => k_is)
   (case z845 => k_is)
   (case z846 => k_is)
   (case z847 => k_is)
   (case z848 => k_is)
   (case z849 => k_is)
   (case z850 => k_is)
   (case z851 => k_is)
   (case z852 => k_is)
   (case z853 => k_is)
   (case z854 => k_is)
   (case z855 => k_is)
   (case z856 => k_is)
   (case z857 => k_is)
   (case z858 => k_is)
   (case z859 => k_is)
   (case z860 => k_is)
   (case z861 => k_is)
   (case z862 => k_is)
   (case z863 => k_is)
   (case z864 => k_is)
   (case z865 => k_is)
   (case z866 => k_is)
   (case z867 => k_is)
   (case z868 => k_is)
   (case z869 => k_is)
   (case z870 => k_is)
   (case z871 => k_is)
   (case z872 => k_is)
   (case z873 => k_is)
   (case z874 => k_is)
   (case z875 => k_is)
   (case z876 => k_is)
   (case z877 => k_is)
   (case z878 => k_is)
   (case z879 => k_is)
   (case z880 => k_is)
   (case z881 => k_is)
   (case z882 => k_is)
   (case z883 => k_is)
   (case z884 => k_is)
   (case z885 => k_is)
   (case z886 => k_is)
   (case z887 => k_is)
   (case z888 => k_is)
   (case z889 => k_is)
   (case z890 => k_is)
   (case z891 => k_is)
   (case z892 => k_is)
   (case z893 => k_is)
   (case z894 => k_is)
   (case z895 => k_is)
   (case z896 => k_is)
   (case z897 => k_is)
   (case z898 => k_is)
   (case z899 => k_is)
   (case z900 => k_is)
   (case z901 => k_is)
   (case z902 => k_is)
   (case z903 => k_is)
   (case z904 => k_is)
   (case z905 => k_is)
   (case z906 => k_is)
   (case z907 => k_is)
   (case z908 => k_is)
   (case z909 => k_is)
   (case z910 => k_is)
   (case z911 => k_is)
   (case z912 => k_is)
   (case z913 => k_is)
   (case z914 => k_is)
   (case z915 => k_is)
   (case z916 => k_is)
   (case z917 => k_is)
   (case z918 => k_is)
   (case z919 => k_is)
   (case z920 => k_is)
   (case z921 => k_is)
   (case z922 => k_is)
   (case z923 => k_is)
   (case z924 => k_is)
   (case z925 => k_is)
   (case z926 => k_is)
   (case z927 => k_is)
   (case z928 => k_is)
   (case z929 => k_is)
   (case z930 => k_is)
   (case z931 => k_is)
   (case z932 => k_is)
   (case z933 => k_is)
   (case z934 => k_is)
   (case z935 => k_is)
   (case z936 => k_is)
   (case z937 => k_is)
   (case z938 => k_is)
   (case z939 => k_is)
   (case z940 => k_is)
   (case z941 => k_is)
   (case z942 => k_is)
   (case z943 => k_is)
   (case z944 => k_is)
   (case z945 => k_is)
   (case z946 => k_is)
   (case z947 => k_is)
   (case z948 => k_is)
   (case z949 => k_is)
   (case z950 => k_is)
   (case z951 => k_is)
   (case z952 => k_is)
   (case z953 => k_is)
   (case z954 => k_is)
   (case z955 => k_is)
   (case z956 => k_is)
   (case z957 => k_is)
   (case z958 => k_is)
   (case z959 => k_is)
   (case z960 => k_is)
   (case z961 => k_is)
   (case z962 => k_is)
   (case z963 => k_is)
   (case z964 => k_is)
   (case z965 => k_is)
   (case z966 => k_is)
   (case z967 => k_is)
   (case z968 => k_is)
   (case z969 => k_is)
   (case z970 => k_is)
   (case z971 => k_is)
   (case z972 => k_is)
   (case z973 => k_is)
   (case z974 => k_is)
   (case z975 => k_is)
   (case z976 => k_is)
   (case z977 => k_is)
   (case z978 => k_is)
   (case z979 => k_is)
   (case z980 => k_is)
   (case z981 => k_is)
   (case z982 => k_is)
   (case z983 => k_is)
   (case z984 => k_is)
   (case z985 => k_is)
   (case z986 => k_is)
   (case z987 => k_is)
   (case z988 => k_is)
   (case z989 => k_is)
   (case z990 => k_is)
   (case z991 => k_is)
   (case z992 => k_is)
   (case z993 => k_is)
   (case z994 => k_is)
   (case z995 => k_is)
   (case z996 => k_is)
   (case z997 => k_is)
   (case z998 => k_is)
   (case z999 => k_is)
   (case z1000 => k_is)
   (case z1001 => k_is)
   (case z1002 => k_is)
   (case z1003 => k_is)
   (case z1004 => k_is)
   (case z1005 => k_is)
   (case z1006 => k_is)
   (case z1007 => k_is)
   (case z1008 => k_is)
   (case z1009 => k_is)
   (case z1010 => k_is)
   (case z1011 => k_is)
   (case z1012 => k_is)
   (case z1013 => k_is)
   (case z1014 => k_is)
   (case z1015 => k_is)
   (case z1016 => k_is)
   (case z1017 => k_is)
   (case z1018 => k_is)
   (case z1019 => k_is)
