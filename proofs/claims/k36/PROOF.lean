import PyProof.Rows.All
import Wide.All
import OpenK.AllK
import Wide.FinOn
import Lean
import PyProof.EqAt
import PyProof.EqKinds
import PyProof.TupleCall
import PySem.Challenge.RW_stoke_k36_whole_keepers_put_together
set_option Elab.async false
set_option linter.all false
set_option maxRecDepth 100000
def be:=@PySem.Heap.get?_push_of_some
def oX:=@Nat.le_refl
def yB:=@PySem.wpAny_bind
def EE:=@Bool.false_ne_true
def ET:=@List.length_map
def T1:=@Nat.lt_of_lt_of_le
def Wf:=@PySem.wpAny_pure
def Ys:=@PySem.Heap.lt_size
def Yt:=@PySem.Heap.get?_push_size
def Yu:=@Option.some.inj
def Yv:=@List.size_toArray
def Yw:=@List.length_append
def Yx:=@List.getElem?_eq_getElem
def Yy:=@List.mem_cons_of_mem
def Yz:=@Nat.ne_of_lt
def YA:=@decide_eq_false
def YB:=@List.mem_append_right
def YC:=@List.getD_eq_getElem?_getD
def YD:=@Int.fdiv_eq_ediv_of_nonneg
def YE:=@Int.eq_ofNat_of_zero_le
def YF:=@List.eq_nil_of_length_eq_zero
def YG:=@if_neg
def YH:=@List.mem_of_getElem?
def YI:=@List.mem_cons_self
def YJ:=@List.find?_cons
def YK:=@if_pos
def YL:=@Nat.le_trans
def YM:=@PySem.W.mg_of
def YN:=@List.getElem?_map
def YO:=@Nat.le_of_ble_eq_true
def YQ:=@PySem.wpAny_mono
def YR:=@List.lookup_cons
def YS:=@Bool.and_eq_true
def YT:=@List.map_cons
def YU:=@decide_eq_true
def YV:=@PySem.mem_of_lookup
def YW:=@PySem.wpAny_truthy_bool
def YX:=@Nat.zero_le
def YY:=@List.map_append
def YZ:=@PySem.PassesOwn.never
def Y0:=@List.not_mem_nil
def Y1:=@List.length_cons
def Y2:=@List.getElem?_append_right
def Y3:=@Nat.div_lt_of_lt_mul
def Y4:=@PySem.wpAny_passesOwn
def Y5:=@PySem.W.mg_none_of
def Y6:=@List.getElem_mem
def Y7:=@Nat.lt_irrefl
def Y8:=@Bool.false_eq_true
def Y9:=@Bool.eq_iff_iff
def Za:=@PySem.wpAny_Call_Name_kw
def Zb:=@PySem.W.kia_one
def Zc:=@Nat.pow_le_pow_right
def Zd:=@if_true
def Ze:=@congrArg
def Zf:=@List.length_take
def Zg:=@List.length_drop
def Zh:=@PySem.wpAny_dictEntries
def Zi:=@Ne.symm
def Zj:=@Nat.mul_comm
def Zk:=@List.length_replicate
def Zl:=@if_false
def Zm:=@Nat.mod_lt
def Zn:=@Nat.pow_lt_pow_right
def Zo:=@List.filterMap_cons
def Zp:=@PySem.wpAny_specialOf
def Zq:=@PySem.wpAny_execs_nil
def Zr:=@decide_eq_true_iff
def Zs:=@List.any_cons
def Zt:=@Int.natCast_nonneg
def Zu:=@Nat.testBit_eq_decide_div_mod_eq
def Zv:=@Nat.pow_succ
def Zw:=@Nat.le_of_lt
def Zx:=@PySem.Heap.size_push
def Zy:=@Nat.lt_succ_self
def Zz:=@PyProof.Rows.callWith_type1
def ZA:=@List.of_mem_zip
def ZB:=@List.forIn_cons
def ZC:=@Int.fmod_eq_emod_of_nonneg
def ZD:=@List.nodup_nil
def ZE:=@List.getElem?_eq_none_iff
def ZF:=@List.getElem?_append_left
def ZG:=@Bool.not_false
def ZH:=@PySem.codeAny_mono
def ZI:=@PySem.W.callWith_K
def ZJ:=@PySem.F.type_list_append
def ZK:=@PySem.F.slot_list_append
def ZL:=@PySem.F.slot_dict_values
def ZM:=@PyProof.noPylong_of_log2
def ZN:=@PySem.F.plainAttrs_list
def ZO:=@Nat.add_sub_cancel_left
def ZP:=@List.getElem?_replicate
def ZQ:=@Bool.not_true
def ZR:=@List.getElem?_set_self
def ZS:=@PySem.W.methodCall_KW
def ZT:=@Nat.pow_zero
def ZU:=@List.map_nil
def ZV:=@List.mem_of_mem_drop
def ZW:=@List.mem_append_left
def ZX:=@List.getElem?_set_ne
def ZY:=@PySem.Calls.Name_function_global
def ZZ:=@Nat.le_succ
def Z0:=@Int.toNat_of_nonneg
def Z1:=@Array.length_toList
def Z2:=@Nat.lt_of_le_of_lt
def Z3:=@Array.forIn_toList
namespace L2
open PySem PySem.Spec PyProof.Rows
variable {C dx it:Addr} {H:Hp} {Q:VK} {X:Cx} {ch fp:List Addr} {es:List Expr} {i j t':Nat} {lo:Int} {o:HO} {pins:List (Addr×Obj)} {qual:Str} {s':Shared} {tb:TS} {te:TE} {tg:Expr} {u:Value} {us:List Value} {xs:List V} {U:St}
abbrev Key:=Sum Int Str
def jV:Key->Value->Bool
 | .inl k,v=>Value.isInt k v
 | .inr x,v=>Value.isStrOf x v
def NG (w:World):Key->Int
 | .inl k=>hashInt k
 | .inr x=>hashStr w x
theorem br:∀ {k:Key} {v:Value},jV k v=true->(∃ i t,k=Sum.inl i/\v=Value.int i t)∨(∃ x t,k=Sum.inr x/\v=Value.str x t)
 | .inl i,v,h=>by
   obtain ⟨t,e⟩:=Value.isInt_shape (k:=i) (v:=v) h
   exact .inl ⟨i,t,rfl,e⟩
 | .inr x,v,h=>by
   obtain ⟨t,e⟩:=Value.isStrOf_shape (x:=x) (v:=v) h
   exact .inr ⟨x,t,rfl,e⟩
theorem qF (i:Int) (t:Tok):jV (.inl i) (.int i t)=true:=by simp [jV,Value.isInt]
theorem qm (x:Str) (t:Tok):jV (.inr x) (.str x t)=true:=by simp [jV,Value.isStrOf]
theorem yp (a b:Int):decide ((Sum.inl a:Key)=Sum.inl b)=(a == b):=by
 by_cases e:a=b
 . subst e;simp
 . have h:¬ (Sum.inl a:Key)=Sum.inl b:=λ q=>e (Sum.inl.inj q)
   rw [YA h]
   exact (beq_eq_false_iff_ne.mpr e).symm
theorem yj (a b:Str):decide ((Sum.inr a:Key)=Sum.inr b)=decide (a=b):=by
 by_cases e:a=b
 . subst e;simp
 . have h:¬ (Sum.inr a:Key)=Sum.inr b:=λ q=>e (Sum.inr.inj q)
   rw [YA h,YA e]
theorem yh (a:Int) (b:Str):decide ((Sum.inl a:Key)=Sum.inr b)=false:=YA (λ q=>nomatch q)
theorem xN (a:Str) (b:Int):decide ((Sum.inr a:Key)=Sum.inl b)=false:=YA (λ q=>nomatch q)
def bL (prog:Program) (w:World):PySem.KeyKind prog w Key where
 is:=jV
 hash:=NG w
 inj:=λ v a b ha hb=>by
   rcases br ha with ⟨i,t,rfl,rfl⟩|⟨x,t,rfl,rfl⟩
   . rcases br hb with ⟨j,u,rfl,e⟩|⟨y,u,rfl,e⟩
     . injection e with e1 _;rw [e1]
     . exact nomatch e
   . rcases br hb with ⟨j,u,rfl,e⟩|⟨y,u,rfl,e⟩
     . exact nomatch e
     . injection e with e1 _;rw [e1]
 byValue:=λ k v h=>by
   rcases br h with ⟨i,t,rfl,rfl⟩|⟨x,t,rfl,rfl⟩<;>rfl
 pyHash:=λ hv h=>by
   rcases br hv with ⟨i,t,rfl,rfl⟩|⟨x,t,rfl,rfl⟩
   . exact wpAny_pyHash_int h
   . exact wpAny_pyHash_str h
 eqBool:=λ hu hv h=>by
   rcases br hu with ⟨i,t,rfl,rfl⟩|⟨x,t,rfl,rfl⟩
   . rcases br hv with ⟨j,u,rfl,rfl⟩|⟨y,u,rfl,rfl⟩
     . rw [yp] at h;exact wpAny_eqBool_int h
     . rw [yh] at h;exact SeqAt.EqAt.int_str i t y u _ _ _ _ h
   . rcases br hv with ⟨j,u,rfl,rfl⟩|⟨y,u,rfl,rfl⟩
     . rw [xN] at h;exact SeqAt.EqAt.str_int x t j u _ _ _ _ h
     . rw [yj] at h;exact wpAny_eqBool_str h
 «strs»:=λ k x t v h=>by
   rcases br h with ⟨i,u,rfl,e⟩|⟨y,u,rfl,e⟩
   . exact nomatch e
   . injection e with e1 _
     subst e1
     cases v<;>rfl
theorem nw (prog:Program) (w:World) (i:Int) (t:Tok):(bL prog w).is (.inl i) (.int i t)=true:=qF i t
theorem nW (prog:Program) (w:World) (x:Str) (t:Tok):(bL prog w).is (.inr x) (.str x t)=true:=qm x t
inductive V where
 | bG|bl (b:Bool)|int (i:Int)|str (x:Str)|qT (b:Array UInt8)|wM (b:UInt64)|ref (a:Addr)|ty (n:String)
 deriving DecidableEq
def RelV:V->Value->Prop
 | .bG,u=>u=Value.none
 | .bl b,u=>u=Value.bool b
 | .int i,u=>∃ t,u=Value.int i t
 | .str x,u=>∃ t,u=Value.str x t
 | .qT b,u=>∃ t,u=Value.bytes b t
 | .wM b,u=>∃ t,u=Value.float b t
 | .ref a,u=>u=Value.ref a
 | .ty n,u=>u=Value.type n
abbrev Vals:List V->List Value->Prop:=Paired RelV
theorem Vals.length (r:Vals xs us):xs.length=us.length:=Paired.length r
theorem Vals.get:∀ {xs:List V} {us:List Value} {i:Nat} {x:V},Vals xs us->xs[i]?=some x->∃ u,us[i]?=some u/\RelV x u
 | _,_,_,_,.nil,e=>by simp at e
 | _,_,0,_,.cons r _,e=>by simp at e;subst e;exact ⟨_,rfl,r⟩
 | _,_,i+1,x,.cons _ t,e=>by
   obtain ⟨u,h1,h2⟩:=Vals.get (i:=i) (x:=x) t (by simpa using e)
   exact ⟨u,by simpa using h1,h2⟩
theorem Vals.append:∀ {xs ys:List V} {us ws:List Value},Vals xs us->Vals ys ws->Vals (xs++ys) (us++ws)
 | _,_,_,_,.nil,s=>s
 | _,_,_,_,.cons r t,s => .cons r (Vals.append t s)
theorem Vals.take:∀ {xs:List V} {us:List Value} (n:Nat),Vals xs us->Vals (xs.take n) (us.take n)
 | _,_,0,_ => .nil
 | _,_,_+1,.nil => .nil
 | _,_,n+1,.cons r t => .cons r (Vals.take n t)
theorem Vals.drop:∀ {xs:List V} {us:List Value} (n:Nat),Vals xs us->Vals (xs.drop n) (us.drop n)
 | _,_,0,r=>r
 | _,_,_+1,.nil => .nil
 | _,_,n+1,.cons _ t=>Vals.drop n t
def fw:Option V->Option Value->Prop
 | some v,some u=>RelV v u
 | none,none=>True
 | _,_=>False
def KV {κ:Type}:List (κ×V)->List (κ×Value)->Prop:=Paired λ (p:κ×V) (q:κ×Value)=>p.1=q.1/\RelV p.2 q.2
def kV:Key->V
 | .inl i => .int i
 | .inr x => .str x
inductive HO where
 | lst (xs:List V)
 | tup (xs:List V)
 | dK (kvs:List (Key×V))|dT (kvs:List (List Key×V))
 | set (S:Int->Bool) (n:Nat)
 | ins (C dx:Addr) (fs:List (Str×V))
 | own (x:Addr)
 | xd (fs:List (Str×V))
 | met (f x:Addr)
 | M9 (lo hi:Int)
 | kY (o:Obj) (u:HO)
 | wJ (ps:Array Value)
 | ext (φ:Heap->Prop)
abbrev Hp:=Addr->Option HO
def upd (H:Hp) (a:Addr) (o:HO):Hp:=λ b=>if b=a then some o else H b
theorem ae {a:Addr}:upd H a o a=some o:=by unfold upd;rw [YK rfl]
theorem aB {a b:Addr} (h:b≠a):upd H a o b=H b:=by unfold upd;rw [YG h]
theorem vn {a:Addr} {u:HO}:upd (upd H a o) a u=upd H a u:=by
 funext b;unfold upd;split<;>rfl
theorem qa {a b:Addr} {u:HO} (h:H a=some o) (h':H b=some u) (d:o≠u):a≠b:=by
 intro e;subst e;rw [h] at h';exact d (Yu h')
theorem aH {a b:Addr} (h:H a=some o) (h':H b=none):a≠b:=by
 intro e;subst e;rw [h] at h';cases h'
section
variable (P:Program) (w:World)
def bt (H:Hp) (h:Heap) (a:Addr):HO->Prop
 | .lst xs=>xs.length<=sizeLine/\∃ (bx:List Value) (n:Nat),Vals xs bx/\h.get? a=some { cls:=.type "list",data:=.seq bx.toArray n }
 | .tup xs=>xs.length<=sizeLine/\∃ bx:List Value,Vals xs bx/\IsTup h a bx.toArray
 | .dK kvs=>kvs.length<=sizeLine/\(a == sysModules)=false/\∃ vs,KV kvs vs/\h.DictOf (bL P w) a vs
 | .dT kvs=>kvs.length<=sizeLine/\(a == sysModules)=false/\∃ xs:List (List Key×Addr×Value),
     Paired (λ (p:List Key×V) (q:List Key×Addr×Value)=>p.1=q.1/\H q.2.1=some (.tup (p.1.map kV))/\RelV p.2 q.2.2) kvs xs /\
     ∃ o es ep,h.get? a=some o/\o.ExactDict/\o.data = .dict es ep/\es.toList=xs.map (entryOfKey (tupleKind (bL P w)))/\(xs.map (·.1)).Nodup
 | .set S n=>h.SetOf (intKind P w) a S n
 | .ins C dx fs=>H dx=some (.own a)/\fs.length<=1000/\dx≠a/\h.get? a=some (W.instObj C dx) /\
     ∃ mA,h.Ns1 dx mA/\(∀ f,fw (fs.lookup f) (mA f))/\PySem.Within mA (fs.map (·.1))
 | .own _=>∃ o,h.get? a=some o
 | .xd fs=>∃ mA,h.Ns1 a mA/\∀ f,fw (fs.lookup f) (mA f)
 | .M9 lo hi=>∃ t u v,h.get? a=some { cls:=.type "range",data:=.fields #[.int lo t,.int hi u,.int 1 v]}
 | .kY o u=>h.get? a=some o/\bt H h a u
 | .wJ ps=>h.get? a=some { cls:=.none,data:=.fields ps }
 | .met f x=>h.get? a=some (W.methodObj (.ref f) (.ref x))
 | .ext φ=>φ h/\(∃ o,h.get? a=some o)/\∀ h1 h2:Heap,φ h1->(∀ o,h1.get? a=some o->h2.get? a=some o)->φ h2
def hJ (H:Hp) (h:Heap):Prop:=∀ a o,H a=some o->bt P w H h a o
end
section
variable {P:Program} {w:World} {H H':Hp} {h h':Heap} {a:Addr} {o:HO}
theorem bt.lt (x:bt P w H h a o):a<h.objs.size:=by
 cases o with
 | lst xs=>obtain ⟨_,_,_,_,e⟩:=x;exact Ys e
 | tup xs=>obtain ⟨_,_,_,p⟩:=x;exact p.lt
 | dK kvs=>obtain ⟨_,_,_,_,o,_,_,e,_⟩:=x;exact Ys e
 | dT kvs=>obtain ⟨_,_,_,_,o,_,_,e,_⟩:=x;exact Ys e
 | set S n=>obtain ⟨o,_,_,_,e,_⟩:=x;exact Ys e
 | ins C dx fs=>obtain ⟨_,_,_,e,_⟩:=x;exact Ys e
 | own y=>obtain ⟨_,e⟩:=x;exact Ys e
 | xd fs=>obtain ⟨_,⟨_,_,_,e,_⟩,_⟩:=x;exact Ys e
 | M9 lo hi=>obtain ⟨_,_,_,e⟩:=x;exact Ys e
 | kY ob u=>obtain ⟨e,_⟩:=x;exact Ys e
 | wJ ps=>exact Ys (show h.get? a=some _ from x)
 | met f y=>exact Ys (show h.get? a=some _ from x)
 | ext φ=>obtain ⟨_,⟨_,e⟩,_⟩:=x;exact Ys e
theorem Paired.Dt {α β:Type} {F G:α->β->Prop}:∀ {l₁:List α} {l₂:List β},Paired F l₁ l₂->(∀ a b,F a b->G a b)->Paired G l₁ l₂
 | _,_,.nil,_ => .nil
 | _,_,.cons r t,f => .cons (f _ _ r) (Paired.Dt t f)
theorem bt.qE (x:bt P w H h a o) (k:∀ b u,(b=a∨H b=some (.own a))->h.get? b=some u->h'.get? b=some u) (ho:∀ b,H b=some (.own a)->H' b=some (.own a)) (ht:∀ b xs,H b=some (.tup xs)->H' b=some (.tup xs)):bt P w H' h' a o:=by
 induction o with
 | lst xs=>obtain ⟨z,bx,n,r,e⟩:=x;exact ⟨z,bx,n,r,k _ _ (.inl rfl) e⟩
 | tup xs=>obtain ⟨z,bx,r,ob,e,c⟩:=x;exact ⟨z,bx,r,ob,k _ _ (.inl rfl) e,c⟩
 | dK kvs=>obtain ⟨z,y,vs,r,ob,es,ep,e,c⟩:=x;exact ⟨z,y,vs,r,ob,es,ep,k _ _ (.inl rfl) e,c⟩
 | dT kvs =>
   obtain ⟨z,y,xs,r,ob,es,ep,e,c⟩:=x
   exact ⟨z,y,xs,Paired.Dt r λ p q z=>⟨z.1,ht _ _ z.2.1,z.2.2⟩,ob,es,ep,k _ _ (.inl rfl) e,c⟩
 | set S n=>obtain ⟨ob,es,ep,t,e,c⟩:=x;exact ⟨ob,es,ep,t,k _ _ (.inl rfl) e,c⟩
 | ins C dx fs =>
   obtain ⟨d,z,ne,e,mA,⟨od,es,ep,e2,c⟩,r⟩:=x
   exact ⟨ho _ d,z,ne,k _ _ (.inl rfl) e,mA,⟨od,es,ep,k _ _ (.inr d) e2,c⟩,r⟩
 | own y=>obtain ⟨ob,e⟩:=x;exact ⟨ob,k _ _ (.inl rfl) e⟩
 | xd fs=>obtain ⟨mA,⟨od,es,ep,e,c⟩,r⟩:=x;exact ⟨mA,⟨od,es,ep,k _ _ (.inl rfl) e,c⟩,r⟩
 | M9 lo hi=>obtain ⟨t,u,v,e⟩:=x;exact ⟨t,u,v,k _ _ (.inl rfl) e⟩
 | kY ob u ih=>obtain ⟨e,q⟩:=x;exact ⟨k _ _ (.inl rfl) e,ih q⟩
 | wJ ps =>
   have e:h.get? a=some { cls:=.none,data:=.fields ps }:=x
   show h'.get? a=some { cls:=.none,data:=.fields ps }
   exact k a _ (.inl rfl) e
 | met f y =>
   have e:h.get? a=some (W.methodObj (.ref f) (.ref y)):=x
   show h'.get? a=some (W.methodObj (.ref f) (.ref y))
   exact k a _ (.inl rfl) e
 | ext φ=>obtain ⟨p,⟨o,e⟩,st⟩:=x;exact ⟨st _ _ p λ o q=>k _ _ (.inl rfl) q,⟨o,k _ _ (.inl rfl) e⟩,st⟩
theorem hJ.lt (x:hJ P w H h) (e:H a=some o):a<h.objs.size:=(x a o e).lt
theorem hJ.fresh (x:hJ P w H h) (e:h.objs.size<=a):H a=none:=by
 cases q:H a with
 | none=>rfl
 | some u=>exact absurd (T1 (x.lt q) e) (Y7 _)
theorem hJ.kept (x:hJ P w H h) (k:∀ b u,h.get? b=some u->h'.get? b=some u):hJ P w H h':=λ a o e =>
 (x a o e).qE (λ b u _ q=>k b u q) (λ _ q=>q) λ _ _ q=>q
theorem hJ.laid (x:hJ P w H h) (k:∀ b u,h.get? b=some u->h'.get? b=some u) (hp:h.objs.size<=a) (new:bt P w (upd H a o) h' a o):hJ P w (upd H a o) h':=λ b u e=>by
 have hn:=x.fresh hp
 by_cases hb:b=a
 . subst hb;rw [ae] at e;cases e;exact new
 . rw [aB hb] at e
   exact (x b u e).qE (λ c v _ q=>k c v q) (λ c q=>by rw [aB (aH q hn)];exact q) λ c xs q=>by rw [aB (aH q hn)];exact q
end
def Rd (H:Hp) (a:Addr) (u:HO):Prop:=H a=some u∨∃ o,H a=some (.kY o u)
theorem Rd.ok {P:Program} {w:World} {h:Heap} {a:Addr} {u:HO} (r:Rd H a u) (x:hJ P w H h):bt P w H h a u:=by
 rcases r with r|⟨o,r⟩
 . exact x a u r
 . obtain ⟨_,q⟩:=x a _ r
   exact q
def CA:Option HO->Prop
 | some (.lst _)=>True
 | some (.dK _)=>True
 | some (.dT _)=>True
 | some (.set _ _)=>True
 | some (.ins _ _ _)=>True
 | some (.ext _)=>True
 | _=>False
section
variable {P:Program} {w:World} {H:Hp} {h h':Heap} {x e:Addr} {o':HO}
theorem hJ.write (ok:hJ P w H h) (mu:CA (H x)) (he:e=x∨H e=some (.own x)) (k:∀ b u,b≠e->h.get? b=some u->h'.get? b=some u) (p9:∃ u,h'.get? e=some u) (new:bt P w (upd H x o') h' x o'):hJ P w (upd H x o') h':=λ b u q=>by
 have Dp:∀ c y,H c=some (.own y)->c≠x:=λ c y r z=>by subst z;rw [r] at mu;exact mu
 have Hd:∀ c xs,H c=some (.tup xs)->c≠x:=λ c xs r z=>by subst z;rw [r] at mu;exact mu
 by_cases hb:b=x
 . subst hb;rw [ae] at q;cases q;exact new
 .
  rw [aB hb] at q
  by_cases xz:b=e
  .
   have q':H b=some (.own x):=by
     rcases he with z|z
     . exact absurd (xz.trans z) hb
     . rw [xz];exact z
   rw [q] at q';cases q'
   obtain ⟨v,hv⟩:=p9
   exact ⟨v,by rw [xz];exact hv⟩
  .
   refine (ok b u q).qE (λ c v hc r=>k c v ?_ r) (λ c r=>by rw [aB (Dp c b r)];exact r) λ c xs r=>by rw [aB (Hd c xs r)];exact r
   rcases hc with rfl|hc
   . exact xz
   . rintro rfl
     rcases he with z|z
     . exact Dp c b hc z
     . rw [hc] at z;cases z;exact hb rfl
end
structure Un (fs ex:List Addr) (H H':Hp) (h h':Heap):Prop where
 keep:∀ b o,h.get? b=some o->H b=none->b∉fs->b∉ex->h'.get? b=some o
 slot:∀ b o,h.get? b=some o->H b=none->b∈fs->b∉ex->∃ sl,h'.get? b=some { o with slots:=sl }
 free:∀ b o,h.get? b=some o->H b=none->b∉ex->H' b=none
 there:∀ b o,h.get? b=some o->b∉ex->∃ o',h'.get? b=some o'
 l9:∀ b xs,H b=some (.tup xs)->H' b=some (.tup xs)
 jK:∀ b o u,H b=some (.kY o u)->H' b=some (.kY o u)
 mh:∀ b ps,H b=some (.wJ ps)->∃ more,H' b=some (.wJ (ps++more))
section
variable {fs fs' ex Yp:List Addr} {H H1 H2:Hp} {h h1 h2 h':Heap} {a x e:Addr} {o:HO}
theorem Un.any (u:Un fs ex H H1 h h1) {b:Addr} {ob:Obj} (q:h.get? b=some ob) (n:H b=none) (hx:b∉ex):∃ sl,h1.get? b=some { ob with slots:=sl }:=by
 by_cases hb:b∈fs
 . exact u.slot b ob q n hb hx
 . exact ⟨ob.slots,u.keep b ob q n hb hx⟩
theorem Un.kept (k:∀ b u,h.get? b=some u->h'.get? b=some u):Un fs ex H H h h' :=
 ⟨λ b ob q _ _ _=>k b ob q,λ b ob q _ _ _=>⟨ob.slots,k b ob q⟩,λ _ _ _ n _=>n,λ b ob q _=>⟨ob,k b ob q⟩,λ _ _ q=>q,λ _ _ _ q=>q,λ _ ps q=>⟨#[],by rw [q];simp⟩⟩
theorem Un.refl:Un fs ex H H h h:=Un.kept λ _ _ q=>q
theorem Un.laid (k:∀ b u,h.get? b=some u->h'.get? b=some u) (hp:h.objs.size<=a) (hn:H a=none):Un fs ex H (upd H a o) h h' where
 keep:=λ b u q _ _ _=>k b u q
 slot:=λ b u q _ _ _=>⟨u.slots,k b u q⟩
 free:=λ b u q n _=>by rw [aB (Yz (T1 (Ys q) hp))];exact n
 there:=λ b u q _=>⟨u,k b u q⟩
 l9:=λ b xs q=>by rw [aB (aH q hn)];exact q
 jK:=λ b u xs q=>by rw [aB (aH q hn)];exact q
 mh:=λ b ps q=>⟨#[],by rw [aB (aH q hn),q];simp⟩
theorem Un.write (mu:CA (H x)) (he:e=x∨H e=some (.own x)) (k:∀ b u,b≠e->h.get? b=some u->h'.get? b=some u) (p9:∃ u,h'.get? e=some u):Un fs ex H (upd H x o) h h':=by
 have hx:∀ b,H b=none->b≠x:=λ b n z=>by subst z;rw [n] at mu;exact mu
 have hb:∀ b,H b=none->b≠e:=λ b n z=>by
   subst z
   rcases he with r|r
   . exact hx b n r
   . rw [n] at r;cases r
 have hm:∀ b u,H b=some u->¬ CA (some u)->b≠x:=λ b u q nm z=>by subst z;rw [q] at mu;exact nm mu
 refine ⟨λ b u q n _ _=>k b u (hb b n) q,λ b u q n _ _=>⟨u.slots,k b u (hb b n) q⟩,λ b u q n _=>by rw [aB (hx b n)];exact n,λ b u q _=>?_,
   λ b xs q=>by rw [aB (hm b _ q λ z=>z)];exact q,λ b u xs q=>by rw [aB (hm b _ q λ z=>z)];exact q,λ b ps q=>⟨#[],by rw [aB (hm b _ q λ z=>z),q];simp⟩⟩
 by_cases xz:b=e
 . subst xz;exact p9
 . exact ⟨u,k b u xz q⟩
end
def EY (h:Heap) (H:Hp):List Addr:=(List.range h.objs.size).filter λ a=>(H a).isSome
def lV (h:Heap) (H:Hp):Heap:=W.hideAll h (EY h H)
theorem qN (h:Heap) (H:Hp):(lV h H).objs.size=h.objs.size:=W.hideAll_size _ _
theorem ui {h:Heap} {b:Addr} {o:Obj} (e:h.get? b=some o) (n:H b=none):(lV h H).get? b=some o :=
 W.hideAll_get _ e λ hm=>by
   have q:(H b).isSome=true:=(List.mem_filter.mp hm).2
   rw [n] at q;simp at q
theorem uW {h:Heap} {b:Addr} {o:Obj} (e:(lV h H).get? b=some o):h.get? b=some o/\H b=none:=by
 have e':h.get? b=some o:=W.of_hideAll (EY h H) e
 refine ⟨e',?_⟩
 cases q:H b with
 | none=>rfl
 | some x =>
   have hm:b∈EY h H:=List.mem_filter.mpr ⟨List.mem_range.mpr (Ys e'),by simp [q]⟩
   have z:(lV h H).get? b=none:=W.hideAll_none (EY h H) hm
   rw [z] at e;cases e
def uM (g h:Heap) (L:Addr):List (Addr×Obj):=(List.range h.objs.size).filterMap λ a=>if a=L∨(g.get? a).isSome=true then none else (h.get? a).map λ o=>(a,o)
def rest (g h:Heap) (L d:Addr):List (Addr×Obj):=(uM g h L).filter λ p=>decide (p.1≠d)
structure Mod (K:W.Frag) (mg:Str->Option Value) (base:Heap):Prop where
 uN:K.In base
 glob:base.Ns mainGlobals mg
 blt:∃ mb,base.Ns builtinsNs mb/\∀ x:Str,x ≠ "__name__"->mb x=bootBuiltins x
 nolimit:base.NoLimit
structure Cx where
 prog:Program
 w:World
 K:W.Frag
 mg:Str->Option Value
 base:Heap
 A:Around
 N:List Str
 s₀:Shared
 H₀:Hp
 env:Env
 outer:List Env
 stack:List Env
 ex:List Addr
 fn:Str->Bool
 calm:Bool
 pn:List (Addr×Obj)
 xe:Value->Shared->Prop
def rp (l:List Env):List Addr:=l.filterMap (·.frame)
abbrev Cx.fs (X:Cx):List Addr:=rp X.outer
def E1 (sc:Scope) (x:Str):Prop:=sc.names.lookup x=some .local∨sc.names.lookup x=some .cell∨sc.names.lookup x=some .free
def Loc (sc:Scope) (x:Str):Prop:=sc.names.lookup x=some .local∨sc.names.lookup x=some .cell
def Look (env:Env) (h:Heap) (m:Str->Option Value) (x:Str) (u:Value):Prop :=
 (env.kindOf x=some .local/\m x=some u)∨((env.kindOf x=some .cell∨env.kindOf x=some .free)/\∃ c,env.cells.lookup x=some c/\h.IsCell c (some u))
structure Cx.Ok (X:Cx):Prop where
 mod:Mod X.K X.mg X.base
 kind:X.env.scope.kind = .function
 glob:X.env.globals=mainGlobals
 blt:X.env.builtins=builtinsNs
 above:X.s₀.heap.objs.size<=X.env.locals
 inj:∀ x y c,X.env.cells.lookup x=some c->X.env.cells.lookup y=some c->x=y
 has:∀ x,(X.env.kindOf x=some .cell∨X.env.kindOf x=some .free)->∃ c,X.env.cells.lookup x=some c
 yX:∀ x c,X.fn x=true->X.env.cells.lookup x=some c->X.s₀.heap.objs.size<=c
 hd:X.calm=true->X.A.handled=none
 frames:X.A.frames=some X.stack
 E6:X.stack=X.outer∨(X.stack=X.env::X.outer/\X.env.frame=some X.env.locals)
 UO:∀ b∈X.ex,b≠X.env.locals/\∀ x c,X.env.cells.lookup x=some c->c≠b
 bs:∀ b o,X.base.get? b=some o->X.s₀.heap.get? b=some o/\X.H₀ b=none
 wI:X.base.objs.size<=X.s₀.heap.objs.size
 tf:∀ b o,X.base.get? b=some o->b∉X.ex
 vF:∀ b∈X.ex,b∉X.fs
 iT:X.s₀.heap.FunFrames X.base X.outer
 xB:∀ b∈X.fs,X.H₀ b=none
structure Inv (X:Cx) (pins:List (Addr×Obj)) (U:List (Option V)) (H:Hp) (s:Shared):Prop where
 ok:X.Ok
 os:s.os=X.s₀.os
 bare:AllBare s.gens
 base:Un X.fs X.ex X.H₀ H X.s₀.heap s.heap
 loc:∃ m,s.heap.Ns X.env.locals m/\∀ (i:Nat) (x:Str) (v:V),X.N[i]?=some x->U[i]?=some (some v)->E1 X.env.scope x->∃ u,RelV v u/\Look X.env s.heap m x u
 cell:∀ x c,X.env.cells.lookup x=some c->∃ v,s.heap.IsCell c v
 free:H X.env.locals=none
 fG:∀ x c,X.env.cells.lookup x=some c->H c=none
 pin:∀ p∈X.pn++pins,s.heap.get? p.1=some p.2/\H p.1=none/\p.1≠X.env.locals/\p.1∉X.fs/\∀ v,p.2.data ≠ .cell v
 bQ:hJ X.prog X.w H s.heap
 len:U.length=X.N.length
section
variable {X:Cx} {pins:List (Addr×Obj)} {U:List (Option V)} {H H':Hp} {s:Shared} {h':Heap}
theorem Cx.Ok.IW (ok:X.Ok) {b:Addr} {o:Obj} (e:X.base.get? b=some o):b∉X.fs:=λ hb=>by
 have:=(ok.iT.mem hb).1
 rw [e] at this;cases this
theorem Inv.bs (I:Inv X pins U H s):∀ b o,X.base.get? b=some o->s.heap.get? b=some o/\H b=none:=λ b o e =>
 ⟨I.base.keep b o (I.ok.bs b o e).1 (I.ok.bs b o e).2 (I.ok.IW e) (I.ok.tf b o e),I.base.free b o (I.ok.bs b o e).1 (I.ok.bs b o e).2 (I.ok.tf b o e)⟩
theorem Inv.bk (I:Inv X pins U H s):∀ b o,X.base.get? b=some o->s.heap.get? b=some o:=λ b o e=>(I.bs b o e).1
theorem Inv.mod (I:Inv X pins U H s):Mod X.K X.mg X.base:=I.ok.mod
theorem Inv.gE (I:Inv X pins U H s):X.K.In s.heap:=I.ok.mod.uN.keeps I.bk
theorem Inv.lt (I:Inv X pins U H s):X.env.locals<s.heap.objs.size:=let ⟨_,hn,_⟩:=I.loc;hn.lt
theorem Inv.sz (I:Inv X pins U H s):X.s₀.heap.objs.size<=s.heap.objs.size:=YL I.ok.above (Zw I.lt)
theorem Inv.Oy (I:Inv X pins U H s) {a:Addr} (h:s.heap.objs.size<=a):a∉X.fs:=λ hb=>by
 obtain ⟨_,o,ho,_⟩:=I.ok.iT.mem hb
 exact absurd (T1 (Ys ho) (YL I.sz h)) (Y7 _)
theorem Inv.xU (I:Inv X pins U H s):∀ x c,X.env.cells.lookup x=some c->c≠X.env.locals:=λ x c e z=>by
 obtain ⟨v,o,ho,hd⟩:=I.cell x c e
 obtain ⟨m,⟨o',es,ep,pX,DK,_⟩,_⟩:=I.loc
 rw [z,pX] at ho;cases ho;rw [DK] at hd;cases hd
theorem Inv.iT (I:Inv X pins U H s):s.heap.FunFrames X.base X.outer:=by
 have all:∀ (l:List Env),(∀ b∈rp l,b∈X.fs)->X.s₀.heap.FunFrames X.base l->s.heap.FunFrames X.base l:=by
   intro l
   induction l with
   | nil=>intro _ _;trivial
   | cons env r ih =>
     intro hs hl
     obtain ⟨hk,⟨L,o,hf,hn,ho,hd⟩,hr⟩:=hl
     have hL:L∈X.fs:=hs L (by unfold rp;rw [Zo,hf];exact YI)
     obtain ⟨sl,e⟩:=I.base.slot L o ho (I.ok.xB L hL) hL λ z=>I.ok.vF L z hL
     exact ⟨hk,⟨L,_,hf,hn,e,hd⟩,ih (λ b hb=>hs b (by unfold rp;rw [Zo,hf];exact Yy _ hb)) hr⟩
 exact all X.outer (λ _ hb=>hb) I.ok.iT
theorem Inv.stack (I:Inv X pins U H s):s.heap.FunFrames X.base X.stack:=by
 rcases I.ok.E6 with e|⟨e,hf⟩
 . rw [e];exact I.iT
 .
  rw [e]
  obtain ⟨m,hn,_⟩:=I.loc
  refine .cons (by rw [I.ok.kind];decide) hf hn ?_ I.iT
  exact Heap.get?_none_of_le (YL I.ok.wI I.ok.above)
theorem Inv.oY (I:Inv X pins U H s):∀ b∈rp X.stack,b∈X.env.locals::X.fs:=λ b hb=>by
 rcases I.ok.E6 with e|⟨e,hf⟩
 . rw [e] at hb;exact Yy _ hb
 .
  rw [e] at hb
  unfold rp at hb
  rw [Zo,hf] at hb
  exact hb
theorem Inv.pD (I:Inv X pins U H s):∀ b∈rp X.stack,H b=none:=λ b hb=>by
 rcases List.mem_cons.mp (I.oY b hb) with e|hb
 . rw [e];exact I.free
 . obtain ⟨_,o,ho,_⟩:=I.ok.iT.mem hb
   exact I.base.free b o ho (I.ok.xB b hb) λ z=>I.ok.vF b z hb
theorem Inv.step {g':Array GenState} {t':Nat} {d':Drawn} (I:Inv X pins U H s) (oJ:∀ b∈ch,(b∈X.ex∨X.s₀.heap.objs.size<=b)/\b≠X.env.locals/\(∀ x c,X.env.cells.lookup x=some c->c≠b)/\∀ p∈X.pn++pins,p.1≠b) (keep:∀ b o,b≠X.env.locals->b∉X.fs->b∉ch->s.heap.get? b=some o->H b=none->h'.get? b=some o) (slot:∀ b o,b≠X.env.locals->b∈X.fs->b∉ch->s.heap.get? b=some o->H b=none->∃ sl,h'.get? b=some { o with slots:=sl }) (free:∀ b o,b∉ch->s.heap.get? b=some o->H b=none->H' b=none) (there:∀ b o,b∉ch->s.heap.get? b=some o->∃ o',h'.get? b=some o') (l9:∀ b xs,H b=some (.tup xs)->H' b=some (.tup xs)) (jK:∀ b o u,H b=some (.kY o u)->H' b=some (.kY o u)) (mh:∀ b ps,H b=some (.wJ ps)->∃ more,H' b=some (.wJ (ps++more))) (ns:∀ m,s.heap.Ns X.env.locals m->h'.Ns X.env.locals m) (bQ:hJ X.prog X.w H' h') (hg:AllBare g') :
   Inv X pins U H' { s with heap:=h',gens:=g',drawn:=d',toks:=t' }:=by
 have TQ:∀ b o,X.s₀.heap.get? b=some o->b≠X.env.locals:=λ b o e=>Yz (T1 (Ys e) I.ok.above)
 have Fb:∀ b o,X.s₀.heap.get? b=some o->b∉X.ex->b∉ch:=λ b o e hx hb=>by
   rcases (oJ b hb).1 with z|z
   . exact hx z
   . exact absurd (T1 (Ys e) z) (Y7 _)
 have cellK:∀ x c,X.env.cells.lookup x=some c->∀ v,s.heap.IsCell c v->h'.IsCell c v:=λ x c e v ⟨o,ho,hd⟩=>by
   have Aw:c∉ch:=λ z=>(oJ c z).2.2.1 x c e rfl
   by_cases hc:c∈X.fs
   . obtain ⟨sl,q⟩:=slot c o (I.xU x c e) hc Aw ho (I.fG x c e)
     exact ⟨_,q,hd⟩
   . exact ⟨o,keep c o (I.xU x c e) hc Aw ho (I.fG x c e),hd⟩
 refine ⟨I.ok,I.os,hg,⟨λ b o e n hb hx=>?_,λ b o e n hb hx=>?_,λ b o e n hx=>?_,λ b o e hx=>?_,λ b xs e=>l9 b xs (I.base.l9 b xs e),λ b o xs e=>jK b o xs (I.base.jK b o xs e),λ b ps e=>?_⟩,?_,λ x c e=>?_,?_,λ x c e=>?_,λ p hp=>?_,bQ,I.len⟩
 . exact keep b o (TQ b o e) hb (Fb b o e hx) (I.base.keep b o e n hb hx) (I.base.free b o e n hx)
 . obtain ⟨sl,e1⟩:=I.base.slot b o e n hb hx
   obtain ⟨W8,e2⟩:=slot b _ (TQ b o e) hb (Fb b o e hx) e1 (I.base.free b o e n hx)
   exact ⟨W8,e2⟩
 . obtain ⟨o',e1⟩:=I.base.there b o e hx
   exact free b o' (Fb b o e hx) e1 (I.base.free b o e n hx)
 . obtain ⟨o',e1⟩:=I.base.there b o e hx
   exact there b o' (Fb b o e hx) e1
 . obtain ⟨m1,e1⟩:=I.base.mh b ps e
   obtain ⟨m2,e2⟩:=mh b _ e1
   exact ⟨m1++m2,by rw [e2,Array.append_assoc]⟩
 .
  obtain ⟨m,hn,hl⟩:=I.loc
  refine ⟨m,ns m hn,λ i x v e1 e2 e3=>?_⟩
  obtain ⟨u,r,l⟩:=hl i x v e1 e2 e3
  refine ⟨u,r,?_⟩
  rcases l with l|⟨k,c,e,z⟩
  . exact .inl l
  . exact .inr ⟨k,c,e,cellK x c e _ z⟩
 . obtain ⟨v,z⟩:=I.cell x c e
   exact ⟨v,cellK x c e v z⟩
 . obtain ⟨m,⟨o,_,_,ho,_⟩,_⟩:=I.loc
   exact free _ o (λ z=>(oJ _ z).2.1 rfl) ho I.free
 . obtain ⟨v,o,ho,hd⟩:=I.cell x c e
   exact free c o (λ z=>(oJ c z).2.2.1 x c e rfl) ho (I.fG x c e)
 . obtain ⟨e,n,ne,nf,d⟩:=I.pin p hp
   have Aw:p.1∉ch:=λ z=>(oJ p.1 z).2.2.2 p hp rfl
   exact ⟨keep p.1 p.2 ne nf Aw e n,free p.1 p.2 Aw e n,ne,nf,d⟩
theorem Inv.un {t':Nat} (I:Inv X pins U H s) (u:Un X.fs [] H H' s.heap h') (bQ:hJ X.prog X.w H' h'):Inv X pins U H' { s with heap:=h',toks:=t' }:=by
 obtain ⟨m,⟨o,es,ep,ho,r⟩,_⟩:=id I.loc
 obtain ⟨sl,hL⟩:=u.any ho I.free (by simp)
 exact I.step (g':=s.gens) (d':=s.drawn) (ch:=[]) (λ _ z=>nomatch z) (λ b o _ hb _ e n=>u.keep b o e n hb (by simp)) (λ b o _ hb _ e n=>u.slot b o e n hb (by simp)) (λ b o _ e n=>u.free b o e n (by simp)) (λ b o _ e=>u.there b o e (by simp)) u.l9 u.jK u.mh (λ m' hm=>by
   obtain ⟨o',Fj,Fh,pX,r'⟩:=hm
   rw [ho] at pX;cases pX
   exact ⟨_,Fj,Fh,hL,r'⟩) bQ I.bare
theorem Inv.call {g':Array GenState} {t':Nat} {d':Drawn} (I:Inv X pins U H s) (u:Un (rp X.stack) ch H H' s.heap h') (bQ:hJ X.prog X.w H' h') (hg:AllBare g') (oJ:∀ b∈ch,(b∈X.ex∨X.s₀.heap.objs.size<=b)/\b≠X.env.locals/\(∀ x c,X.env.cells.lookup x=some c->c≠b)/\∀ p∈X.pn++pins,p.1≠b) :
   Inv X pins U H' { s with heap:=h',gens:=g',drawn:=d',toks:=t' }:=by
 obtain ⟨m,⟨o,es,ep,ho,r⟩,_⟩:=id I.loc
 obtain ⟨sl,hL⟩:=u.any ho I.free λ z=>(oJ _ z).2.1 rfl
 exact I.step (ch:=ch) oJ (λ b o hL hb hc e n=>u.keep b o e n (λ z=>(List.mem_cons.mp (I.oY b z)).elim hL hb) hc) (λ b o _ _ hc e n=>u.any e n hc) (λ b o hc e n=>u.free b o e n hc) (λ b o hc e=>u.there b o e hc) u.l9 u.jK u.mh (λ m' hm=>by
   obtain ⟨o',Fj,Fh,pX,r'⟩:=hm
   rw [ho] at pX;cases pX
   exact ⟨_,Fj,Fh,hL,r'⟩) bQ hg
theorem Inv.turned {t':Nat} (I:Inv X pins U H s) (k:∀ b o,b≠it->s.heap.get? b=some o->h'.get? b=some o) (hn:H it=none) (hL:it≠X.env.locals) (h1:it∈X.ex∨X.s₀.heap.objs.size<=it) (h2:∀ x c,X.env.cells.lookup x=some c->c≠it) (h3:∀ p∈X.pn++pins,p.1≠it):Inv X pins U H { s with heap:=h',toks:=t' }:=by
 have UF:∀ b u,H b=some u->b≠it:=λ b u e z=>by rw [z,hn] at e;cases e
 refine I.step (g':=s.gens) (d':=s.drawn) (ch:=[it]) (λ b hb=>?_) (λ b o _ _ hc e _=>k b o (λ z=>hc (by simp [z])) e) (λ b o _ _ hc e _=>⟨o.slots,k b o (λ z=>hc (by simp [z])) e⟩) (λ _ _ _ _ n=>n)
   (λ b o hc e=>⟨o,k b o (λ z=>hc (by simp [z])) e⟩) (λ _ _ e=>e) (λ _ _ _ e=>e) (λ b ps e=>⟨#[],by rw [e];simp⟩) (λ m hm=>?_) (λ b u e=>?_) I.bare
 . have e:b=it:=by simpa using hb
   subst e
   exact ⟨h1,hL,h2,h3⟩
 . obtain ⟨o,es,ep,ho,r⟩:=hm
   exact ⟨o,es,ep,k _ o (Zi hL) ho,r⟩
 .
  refine (I.bQ b u e).qE (λ c v hc q=>k c v ?_ q) (λ _ q=>q) λ _ _ q=>q
  rcases hc with z|z
  . rw [z];exact UF b u e
  . exact UF c _ z
theorem Inv.tok (I:Inv X pins U H s) (t:Nat):Inv X pins U H { s with toks:=t }:=I.un (h':=s.heap) (t':=t) Un.refl I.bQ
theorem Inv.kept {t':Nat} (I:Inv X pins U H s) (k:∀ b u,s.heap.get? b=some u->h'.get? b=some u):Inv X pins U H { s with heap:=h',toks:=t' }:=I.un (Un.kept k) (I.bQ.kept k)
theorem Inv.laid {a:Addr} {t':Nat} (I:Inv X pins U H s) (k:∀ b u,s.heap.get? b=some u->h'.get? b=some u) (hp:s.heap.objs.size<=a) (new:bt X.prog X.w (upd H a o) h' a o) :
   Inv X pins U (upd H a o) { s with heap:=h',toks:=t' }:=I.un (Un.laid k hp (I.bQ.fresh hp)) (I.bQ.laid k hp new)
theorem Inv.write {x e:Addr} {t':Nat} (I:Inv X pins U H s) (mu:CA (H x)) (he:e=x∨H e=some (.own x)) (k:∀ b u,b≠e->s.heap.get? b=some u->h'.get? b=some u) (p9:∃ u,h'.get? e=some u) (new:bt X.prog X.w (upd H x o) h' x o):Inv X pins U (upd H x o) { s with heap:=h',toks:=t' }:=I.un (Un.write mu he k p9) (I.bQ.write mu he k p9 new)
theorem Inv.pF {wu:List (Addr×Obj)} (I:Inv X pins U H s) (h:∀ p∈wu,s.heap.get? p.1=some p.2/\H p.1=none/\p.1≠X.env.locals/\p.1∉X.fs/\∀ v,p.2.data ≠ .cell v):Inv X wu U H s :=
 ⟨I.ok,I.os,I.bare,I.base,I.loc,I.cell,I.free,I.fG,λ p hp=>(List.mem_append.mp hp).elim (λ z=>I.pin p (ZW _ z)) (h p),I.bQ,I.len⟩
theorem no {N:List Str} (hN:N.Nodup) {x:Str} (a:N[i]?=some x) (b:N[j]?=some x):i=j:=by
 obtain ⟨h1,e1⟩:=List.getElem?_eq_some_iff.mp a
 obtain ⟨h2,e2⟩:=List.getElem?_eq_some_iff.mp b
 exact (List.getElem_inj hN).mp (e1.trans e2.symm)
theorem lx {M:Model} {A:Around} {E:Value->Shared->Prop} {x:Str} {v:V} {Q:Unit->Shared->Prop} (I:Inv X pins U H s) (hN:X.N.Nodup) (hi:X.N[i]?=some x) (hx:Loc X.env.scope x) (r:RelV v u) (h:∀ s',Inv X pins (U.set i (some v)) H s'->(∃ a,Heap.SameBut a s.heap s'.heap/\(a=X.env.locals∨X.env.cells.lookup x=some a))->Q () s') (hf:X.fn x=true∨X.env.scope.names.lookup x=some .local:=by first|exact .inl rfl|exact .inr rfl|assumption):wpAny M A (storeName X.env x u) Q E s:=by
 obtain ⟨m,hn,hl⟩:=id I.loc
 have Ip:(X.env.scope.kind == .class || (X.env.scope.kind == .module && X.env.locals != X.env.globals))=false:=by rw [I.ok.kind];rfl
 have UH:i<U.length:=by rw [I.len];exact (List.getElem?_eq_some_iff.mp hi).1
 have xU:=I.xU
 have tracked:∀ {a:Addr} {h':Heap},(∃ o,s.heap.get? a=some o/\H a=none)->Heap.SameBut a s.heap h'->hJ X.prog X.w H h':=λ {a h'} ha hs b ob e=>by
   obtain ⟨_,_,eH⟩:=ha
   refine (I.bQ b ob e).qE (λ c w' hc q=>(hs.2 c ?_).trans q) (λ _ q=>q) λ _ _ q=>q
   rintro rfl
   rcases hc with rfl|hc
   . rw [eH] at e;cases e
   . rw [eH] at hc;cases hc
 rcases hx with hk|hk
 .
  refine wpAny_storeName_local hk hn (λ h' Xm hs=>?_) Ip
  obtain ⟨oL,_,_,Vl,_⟩:=id hn
  refine h _ ⟨I.ok,I.os,I.bare,⟨λ b o e n hb hx=>?_,λ b o e n hb hx=>?_,I.base.free,λ b o e hx=>?_,I.base.l9,I.base.jK,I.base.mh⟩,⟨_,Xm,λ j y v' e1 e2 e3=>?_⟩,λ y c e=>?_,I.free,I.fG,λ p hp=>?_,tracked ⟨oL,Vl,I.free⟩ hs,by simpa using I.len⟩ ⟨_,hs,.inl rfl⟩
  . exact (hs.2 b (Yz (T1 (Ys e) I.ok.above))).trans (I.base.keep b o e n hb hx)
  . obtain ⟨sl,e1⟩:=I.base.slot b o e n hb hx
    exact ⟨sl,(hs.2 b (Yz (T1 (Ys e) I.ok.above))).trans e1⟩
  . obtain ⟨o',e1⟩:=I.base.there b o e hx
    exact ⟨o',(hs.2 b (Yz (T1 (Ys e) I.ok.above))).trans e1⟩
  .
   by_cases hj:j=i
   . subst hj
     rw [hi] at e1;cases e1
     rw [ZR UH] at e2
     cases e2
     exact ⟨u,r,.inl ⟨hk,by simp⟩⟩
   .
    rw [ZX (Zi hj)] at e2
    obtain ⟨u',r',q⟩:=hl j y v' e1 e2 e3
    refine ⟨u',r',?_⟩
    rcases q with ⟨k,e⟩|⟨k,c,e,z⟩
    . refine .inl ⟨k,?_⟩
      have:y≠x:=λ e=>hj (no hN e1 (e ▸ hi))
      simp [this,e]
    . exact .inr ⟨k,c,e,z.sameBut hs (xU y c e)⟩
  . obtain ⟨w',z⟩:=I.cell y c e
    exact ⟨w',z.sameBut hs (xU y c e)⟩
  . obtain ⟨e,n,ne,nf,d⟩:=I.pin p hp
    exact ⟨(hs.2 p.1 ne).trans e,n,ne,nf,d⟩
 .
  have IZ:X.fn x=true:=by
    rcases hf with z|z
    . exact z
    . rw [z] at hk;cases hk
  obtain ⟨c,hc⟩:=I.ok.has x (.inl hk)
  obtain ⟨w',z⟩:=I.cell x c hc
  refine wpAny_storeName_cell I.ok.kind hk hc z (λ h' T7 hs=>?_)
  obtain ⟨oc,Uw,Qg⟩:=id z
  refine h { s with heap:=h' } ⟨I.ok,I.os,I.bare,⟨λ b o e n hb hx=>?_,λ b o e n hb hx=>?_,I.base.free,λ b o e hx=>?_,I.base.l9,I.base.jK,I.base.mh⟩,⟨m,hn.sameBut hs (Zi (xU x c hc)),λ j y v' e1 e2 e3=>?_⟩,λ y c' e=>?_,I.free,I.fG,λ p hp=>?_,tracked ⟨oc,Uw,I.fG x c hc⟩ hs,by simpa using I.len⟩ ⟨c,hs,.inr hc⟩
  . exact (hs.2 b (Yz (T1 (Ys e) (I.ok.yX x c IZ hc)))).trans (I.base.keep b o e n hb hx)
  . obtain ⟨sl,e1⟩:=I.base.slot b o e n hb hx
    exact ⟨sl,(hs.2 b (Yz (T1 (Ys e) (I.ok.yX x c IZ hc)))).trans e1⟩
  . obtain ⟨o',e1⟩:=I.base.there b o e hx
    exact ⟨o',(hs.2 b (Yz (T1 (Ys e) (I.ok.yX x c IZ hc)))).trans e1⟩
  .
   by_cases hj:j=i
   . subst hj
     rw [hi] at e1;cases e1
     rw [ZR UH] at e2
     cases e2
     exact ⟨u,r,.inr ⟨.inl hk,c,hc,T7⟩⟩
   .
    rw [ZX (Zi hj)] at e2
    obtain ⟨u',r',q⟩:=hl j y v' e1 e2 e3
    refine ⟨u',r',?_⟩
    rcases q with q|⟨k,c',e,z'⟩
    . exact .inl q
    . refine .inr ⟨k,c',e,z'.sameBut hs ?_⟩
      rintro rfl
      exact hj (no hN e1 (I.ok.inj _ _ _ e hc ▸ hi))
  . by_cases Uv:c'=c
    . subst Uv;exact ⟨_,T7⟩
    . obtain ⟨w2,z2⟩:=I.cell y c' e
      exact ⟨w2,z2.sameBut hs Uv⟩
  .
   obtain ⟨e,n,ne,nf,d⟩:=I.pin p hp
   refine ⟨(hs.2 p.1 ?_).trans e,n,ne,nf,d⟩
   intro q
   rw [q,Uw] at e
   have q':oc=p.2:=Yu e
   exact d w' (by rw [← q'];exact Qg)
theorem og {M:Model} {A:Around} {E:Value->Shared->Prop} {x:Str} {v:V} {Q:Unit->Shared->Prop} (I:Inv X pins U H s) (hN:X.N.Nodup) (hi:X.N[i]?=some x) (hx:Loc X.env.scope x) (r:RelV v u) (h:∀ s',Inv X pins (U.set i (some v)) H s'->Q () s') (hf:X.fn x=true∨X.env.scope.names.lookup x=some .local:=by first|exact .inl rfl|exact .inr rfl|assumption):wpAny M A (storeName X.env x u) Q E s :=
 lx I hN hi hx r (λ s' I' _=>h s' I') hf
theorem Inv.EI (I:Inv X pins U H s) (ho:s'.os=s.os) (u:Un (rp X.stack) ch H H' s.heap s'.heap) (bQ:hJ X.prog X.w H' s'.heap) (hg:AllBare s'.gens) (oJ:∀ b∈ch,(b∈X.ex∨X.s₀.heap.objs.size<=b)/\b≠X.env.locals/\(∀ x c,X.env.cells.lookup x=some c->c≠b)/\∀ p∈X.pn++pins,p.1≠b):Inv X pins U H' s':=by
 obtain ⟨h',g',d',t',o'⟩:=s'
 have e:o'=s.os:=ho
 subst e
 exact I.call (g':=g') (t':=t') (d':=d') u bQ hg oJ
end
abbrev XK:=Value->Option Addr->Hp->Prop
abbrev St:=List (Option V)
abbrev VK:=V->Hp->Prop
abbrev TE:=St->Hp->VK->Prop
abbrev TT:=St->Hp->(Bool->Hp->Prop)->Prop
abbrev TA:=St->Hp->(List V->Hp->Prop)->Prop
structure Ends where
 nx:St->Hp->Prop
 rt:VK
 bk:St->Hp->Prop:=λ _ _=>False
 ct:St->Hp->Prop:=λ _ _=>False
abbrev TS:=Ends->St->Hp->Prop
inductive EP (X:Cx) (pins:List (Addr×Obj)) (U:St) (Q:VK) (u:Value) (s':Shared):Prop
 | mk (v:V) (H':Hp) (_:Inv X pins U H' s') (_:RelV v u) (_:Q v H')
def TP (X:Cx) (pins:List (Addr×Obj)) (U:St) (Q:Bool->Hp->Prop) (b:Bool) (s':Shared):Prop:=∃ H',Inv X pins U H' s'/\Q b H'
inductive AP (X:Cx) (pins:List (Addr×Obj)) (U:St) (Q:List V->Hp->Prop) (us:List Value) (s':Shared):Prop
 | mk (vs:List V) (H':Hp) (_:Inv X pins U H' s') (_:Vals vs us) (_:Q vs H')
def SP (X:Cx) (pins:List (Addr×Obj)) (D:Ends) (f:Flow) (s':Shared):Prop :=
 match f with
 | .next=>∃ σ' H',Inv X pins σ' H' s'/\D.nx σ' H'
 | .brk=>∃ σ' H',Inv X pins σ' H' s'/\D.bk σ' H'
 | .cont=>∃ σ' H',Inv X pins σ' H' s'/\D.ct σ' H'
 | .ret u=>∃ v σ' H',Inv X pins σ' H' s'/\RelV v u/\D.rt v H'
def PE (X:Cx) (e:Expr) (t:TE):Prop :=
 ∀ (pins:List (Addr×Obj)) (s:Shared) (U:St) (H:Hp) (Q:VK),Inv X pins U H s->t U H Q->wpAny (model X.prog X.w) X.A (eval e X.env) (EP X pins U Q) X.xe s
def PT (X:Cx) (e:Expr) (t:TT):Prop :=
 ∀ (pins:List (Addr×Obj)) (s:Shared) (U:St) (H:Hp) (Q:Bool->Hp->Prop),Inv X pins U H s->t U H Q->wpAny (model X.prog X.w) X.A (isTrue e X.env (eval e X.env)) (TP X pins U Q) X.xe s
def PW (X:Cx) (e:Expr) (t:TT):Prop :=
 ∀ (whole:Sem Value) (pins:List (Addr×Obj)) (s:Shared) (U:St) (H:Hp) (Q:Bool->Hp->Prop),Inv X pins U H s->t U H Q->wpAny (model X.prog X.w) X.A (isTrue e X.env whole) (TP X pins U Q) X.xe s
theorem PW.pt {e:Expr} {t:TT} (h:PW X e t):PT X e t:=h _
def PA (X:Cx) (es:List Expr) (t:TA):Prop :=
 ∀ (pos:Pos) (pins:List (Addr×Obj)) (s:Shared) (U:St) (H:Hp) (Q:List V->Hp->Prop),Inv X pins U H s->t U H Q->wpAny (model X.prog X.w) X.A (spliced (backTo pos (starEach es X.env))) (AP X pins U Q) X.xe s
def PS (X:Cx) (st:Stmt) (t:TS):Prop :=
 ∀ (pins:List (Addr×Obj)) (s:Shared) (U:St) (H:Hp) (D:Ends),Inv X pins U H s->t D U H->wpAny (model X.prog X.w) X.A (exec st X.env) (SP X pins D) X.xe s
def k8 (X:Cx) (st:List Stmt) (t:TS):Prop :=
 ∀ (pins:List (Addr×Obj)) (s:Shared) (U:St) (H:Hp) (D:Ends),Inv X pins U H s->t D U H->wpAny (model X.prog X.w) X.A (execs st X.env) (SP X pins D) X.xe s
theorem bX {α:Type} {t:Sem α} {Q Q':α->Shared->Prop} {M:Model} {A:Around} {E:Value->Shared->Prop} {s:Shared} (h:wpAny M A t Q E s) (hQ:∀ a s,Q a s->Q' a s):wpAny M A t Q' E s:=YQ h hQ λ _ _ x=>x
section
variable {X:Cx}
inductive Co (i:Nat) (U:St) (H:Hp) (Q:VK):Prop
 | mk (v:_) (_:U[i]?=some (some v)) (_:Q v H)
def tC (v:V):TE:=λ _ H Q=>Q v H
theorem yc {x:Str} {pos:Pos} (hN:X.N[i]?=some x) (hv:E1 X.env.scope x) (hd:(x == ("__debug__" : Str))=false:=by decide) (mw:(x == ("__classdict__" : Str))=false:=by decide):PE X (.Name x pos) (Co i):=by
 intro pins s U H Q I h
 obtain ⟨v,e,h⟩:=h
 obtain ⟨m,hn,hl⟩:=I.loc
 obtain ⟨u,r,l⟩:=hl i x v hN e hv
 have fin:EP X pins U Q u s:=⟨v,H,I,r,h⟩
 rcases l with ⟨hk,hm⟩|⟨hk,c,hc,dk⟩
 . exact wpAny_Name (wpAny_loadName_local I.ok.kind hk hn hm fin) hd
 . rcases hk with hk|hk
   . exact wpAny_Name (wpAny_loadName_cell I.ok.kind hk hc dk fin) hd
   . exact wpAny_Name (wpAny_loadName_free I.ok.kind hk hc dk fin mw) hd
theorem ac {i j pos}:PE X (.Constant (.int i) j pos) (tC (.int i)):=λ _ _ _ H _ I h=>wpAny_Constant_int ⟨.int i,H,I.tok _,⟨_,rfl⟩,h⟩
theorem hE {b j pos}:PE X (.Constant (.bool b) j pos) (tC (.bl b)):=λ _ _ _ H _ I h=>Constant_bool ⟨.bl b,H,I,rfl,h⟩
theorem my {j pos}:PE X (.Constant .none j pos) (tC .bG):=λ _ _ _ H _ I h=>Constant_none ⟨.bG,H,I,rfl,h⟩
theorem ba {x j pos}:PE X (.Constant (.str x) j pos) (tC (.str x)):=λ _ _ _ H _ I h=>Calls.Constant_str ⟨.str x,H,I.tok _,⟨_,rfl⟩,h⟩
def Gl (X:Cx) (x:Str):Prop:=X.env.kindOf x=some .globalImplicit
theorem jh {E:Value->Shared->Prop} {s:Shared} {x:Str} {pos:Pos} {Q:Value->Shared->Prop} (I:Inv X pins U H s) (hg:Gl X x) (hm:X.mg x=some u) (h:Q u s) (hd:(x == ("__debug__" : Str))=false:=by decide):wpAny (model X.prog X.w) X.A (eval (.Name x pos) X.env) Q E s :=
 ZY I.ok.kind hg (Calls.loadGlobal_global (by rw [I.ok.glob];exact I.mod.glob.keeps I.bk) hm h) hd
theorem lR {E:Value->Shared->Prop} {s:Shared} {x:Str} {pos:Pos} {Q:Value->Shared->Prop} (I:Inv X pins U H s) (hg:Gl X x) (hm:X.mg x=none) (hv:bootBuiltins x=some u) (h:Q u s) (hn:x ≠ "__name__":=by decide) (hd:(x == ("__debug__" : Str))=false:=by decide):wpAny (model X.prog X.w) X.A (eval (.Name x pos) X.env) Q E s:=by
 obtain ⟨mb,h1,h2⟩:=I.mod.blt
 exact ZY I.ok.kind hg (Calls.loadGlobal_builtin (by rw [I.ok.glob];exact I.mod.glob.keeps I.bk) hm (by rw [I.ok.blt];exact h1.keeps I.bk) ((h2 x hn).trans hv) h) hd
theorem mx {x:Str} {v:V} {pos:Pos} (hg:Gl X x) (hm:X.mg x=some u) (r:RelV v u) (hd:(x == ("__debug__" : Str))=false:=by decide):PE X (.Name x pos) (tC v) :=
 λ _ _ _ H _ I h=>jh I hg hm ⟨v,H,I,r,h⟩ hd
theorem p7 {x:Str} {v:V} {pos:Pos} (hg:Gl X x) (hm:X.mg x=none) (hv:bootBuiltins x=some u) (r:RelV v u) (hn:x ≠ "__name__":=by decide) (hd:(x == ("__debug__" : Str))=false:=by decide):PE X (.Name x pos) (tC v) :=
 λ _ _ _ H _ I h=>lR I hg hm hv ⟨v,H,I,r,h⟩ hn hd
variable {a b:Expr} {ta tb:TE} {pos:Pos}
def tB (t:TE):TT:=λ U H Q=>t U H λ x H1=>∃ c,x = .bl c/\Q c H1
theorem eE {e:Expr} {t:TE} (h:PE X e t) (he:∀ whole,isTrue e X.env whole=(do let v ← whole;standAt e.pos;holding [v] (truthy v)):=by intro _;rfl):PT X e (tB t):=by
 intro pins s U H Q I hw
 refine isTrue_plain (bX (h pins s U H _ I hw) λ v s1 ⟨x,H1,I1,r1,q1⟩=>?_) (he _)
 obtain ⟨d,rfl,q⟩:=q1
 cases r1
 exact YW ⟨H1,I1,q⟩
variable {tA Uu:TT} {rest:List Expr}
def W0 (t u:TT):TT:=λ U H Q=>t U H λ c H1=>if c=true then Q true H1 else u U H1 Q
def Tq (t:TT):TT:=λ U H Q=>t U H λ c H1=>Q (!c) H1
theorem fF (ha:PT X a tA):PW X (.BoolOp .Or [a] pos) tA:=by
 intro wh pins s U H Q I h
 refine isTrue_or (bX (ha pins s U H Q I h) λ c s1 e=>?_)
 cases c with
 | false=>exact isTrue_or_nil e
 | true=>exact e
theorem iC (ha:PT X a tA) (hb:PW X (.BoolOp .Or (b::rest) pos) Uu):PW X (.BoolOp .Or (a::b::rest) pos) (W0 tA Uu):=by
 intro wh pins s U H Q I h
 refine isTrue_or (bX (ha pins s U H _ I h) λ c s1 ⟨H1,I1,q1⟩=>?_)
 cases c with
 | true=>exact ⟨H1,I1,q1⟩
 | false=>exact hb wh pins s1 U H1 Q I1 q1
theorem fg (ha:PT X a tA):PT X (.UnaryOp .Not a pos) (Tq tA):=by
 intro pins s U H Q I h
 exact isTrue_not (ha pins s U H (λ c H1=>Q (!c) H1) I h)
def BM (ta tb:TE):TE:=λ U H Q=>ta U H λ x H1=>∃ c,x = .bl c/\if c=true then tb U H1 Q else Q (.bl false) H1
def K9 (ta tb:TE):TE:=λ U H Q=>ta U H λ x H1=>∃ c,x = .bl c/\if c=true then Q (.bl true) H1 else tb U H1 Q
def EH (ta:TE):TE:=λ U H Q=>ta U H λ x H1=>∃ c,x = .bl c/\Q (.bl (!c)) H1
theorem oM {op} {t:TE} (h:PE X a t):PE X (.BoolOp op [a] pos) t:=λ pins s U H Q I hw=>BoolOp_one (h pins s U H Q I hw)
theorem rH (ha:PE X a ta) (hb:PE X (.BoolOp .And (b::rest) pos) tb):PE X (.BoolOp .And (a::b::rest) pos) (BM ta tb):=by
 intro pins s U H Q I h
 refine BoolOp_and (bX (ha pins s U H _ I h) λ v s1 ⟨x,H1,I1,r1,q1⟩=>?_)
 obtain ⟨c,rfl,q1⟩:=q1
 cases r1
 refine YW ?_
 cases c with
 | true=>exact hb pins s1 U H1 Q I1 q1
 | false=>exact ⟨.bl false,H1,I1,rfl,q1⟩
theorem DA (ha:PE X a ta) (hb:PE X (.BoolOp .Or (b::rest) pos) tb):PE X (.BoolOp .Or (a::b::rest) pos) (K9 ta tb):=by
 intro pins s U H Q I h
 refine BoolOp_or (bX (ha pins s U H _ I h) λ v s1 ⟨x,H1,I1,r1,q1⟩=>?_)
 obtain ⟨c,rfl,q1⟩:=q1
 cases r1
 refine YW ?_
 cases c with
 | false=>exact hb pins s1 U H1 Q I1 q1
 | true=>exact ⟨.bl true,H1,I1,rfl,q1⟩
theorem xM (ha:PE X a ta):PE X (.UnaryOp .Not a pos) (EH ta):=by
 intro pins s U H Q I h
 refine UnaryOp_ (bX (ha pins s U H _ I h) λ v s1 ⟨x,H1,I1,r1,q1⟩=>?_)
 obtain ⟨c,rfl,q1⟩:=q1
 cases r1
 exact not_of (YW ⟨.bl (!c),H1,I1,rfl,q1⟩)
def Wv (t:TT) (ta tb:TE):TE:=λ U H Q=>t U H λ c H1=>if c=true then ta U H1 Q else tb U H1 Q
theorem fH {c:Expr} (hc:PT X c tA) (ha:PE X a ta) (hb:PE X b tb):PE X (.IfExp c a b pos) (Wv tA ta tb):=by
 intro pins s U H Q I h
 refine wpAny_IfExp (bX (hc pins s U H _ I h) λ d s1 ⟨H1,I1,q1⟩=>?_)
 cases d with
 | true=>exact ha pins s1 U H1 Q I1 q1
 | false=>exact hb pins s1 U H1 Q I1 q1
end
def cg (K:W.Frag) (H:Hp) (a:Addr) (xs:List V):Prop :=
 Rd H a (.lst xs) ∨
   ∃ (o:Obj) (bx:Array Value) (n:Nat),K.lookup a=some o/\o.cls = .type "list"/\o.dict=none/\o.data = .seq bx n/\bx.size<=sizeLine/\Vals xs bx.toList
def aK (K:W.Frag) (H:Hp) (a:Addr) (xs:List V):Prop :=
 Rd H a (.tup xs) ∨
   ∃ (o:Obj) (bx:Array Value) (n:Nat),K.lookup a=some o/\o.cls = .type "tuple"/\o.data = .seq bx n/\bx.size<=sizeLine/\Vals xs bx.toList
def Kw:Value->Option V
 | .none=>some .bG
 | .bool b=>some (.bl b)
 | .int i _=>some (.int i)
 | .str x _=>some (.str x)
 | .bytes b _=>some (.qT b)
 | .float b _=>some (.wM b)
 | .ref a=>some (.ref a)
 | .type n=>some (.ty n)
 | _=>none
theorem RelV.abs {x:V} (r:RelV x u):Kw u=some x:=by
 cases x with
 | bG=>cases r;rfl
 | bl _=>cases r;rfl
 | int _=>obtain ⟨t,rfl⟩:=r;rfl
 | str _=>obtain ⟨t,rfl⟩:=r;rfl
 | qT _=>obtain ⟨t,rfl⟩:=r;rfl
 | wM _=>obtain ⟨t,rfl⟩:=r;rfl
 | ref _=>cases r;rfl
 | ty _=>cases r;rfl
theorem RelV.inj {x y:V} (r:RelV x u) (q:RelV y u):x=y:=Yu (r.abs.symm.trans q.abs)
theorem Vals.inj:∀ {xs ys:List V} {us:List Value},Vals xs us->Vals ys us->xs=ys
 | _,_,_,.nil,.nil=>rfl
 | _,_,_,.cons r t,.cons r' t'=>by rw [r.inj r',Vals.inj t t']
section
variable {X:Cx} {pins:List (Addr×Obj)} {U:St} {H:Hp} {s:Shared} {a:Addr} {xs ys:List V}
theorem cg.of {K:W.Frag} (h:H a=some (.lst xs)):cg K H a xs:=.inl (.inl h)
theorem aK.of {K:W.Frag} (h:H a=some (.tup xs)):aK K H a xs:=.inl (.inl h)
theorem Inv.list (I:Inv X pins U H s) (h:cg X.K H a xs):∃ bx:List Value,Vals xs bx/\PlainL s.heap a bx.toArray/\xs.length<=sizeLine:=by
 rcases h with h|⟨o,bx,n,hk,hc,hd,hs,hz,r⟩
 . obtain ⟨z,bx,n,r,e⟩:=h.ok I.bQ
   exact ⟨bx,r,⟨_,n,e,rfl,rfl,rfl⟩,z⟩
 .
  refine ⟨bx.toList,r,⟨o,n,I.gE a o hk,hc,hd,by simpa using hs⟩,?_⟩
  have e:=r.length
  simp only [Z1] at e
  lia
theorem Inv.tuple (I:Inv X pins U H s) (h:aK X.K H a xs):∃ bx:List Value,Vals xs bx/\IsTup s.heap a bx.toArray/\xs.length<=sizeLine:=by
 rcases h with h|⟨o,bx,n,hk,hc,hs,hz,r⟩
 . obtain ⟨z,bx,r,p⟩:=h.ok I.bQ
   exact ⟨bx,r,p,z⟩
 .
  refine ⟨bx.toList,r,⟨o,I.gE a o hk,hc,n,by simpa using hs⟩,?_⟩
  have e:=r.length
  simp only [Z1] at e
  lia
theorem Inv.sA (I:Inv X pins U H s) (h:cg X.K H a xs) (h':cg X.K H a ys):xs=ys:=by
 obtain ⟨bx,r,⟨o,n,e,_,_,d⟩,_⟩:=I.list h
 obtain ⟨its',r',⟨o',n',e',_,_,d'⟩,_⟩:=I.list h'
 rw [e] at e';cases e'
 rw [d] at d'
 injection d' with d1 _
 have:bx=its':=by simpa using Ze Array.toList d1
 subst this
 exact r.inj r'
end
abbrev Cx.ci (X:Cx) (E:Value->Shared->Prop):Cx:={ X with xe:=E }
abbrev Cx.rQ (X:Cx):Cx:=X.ci λ _ _=>False
theorem Cx.Ok.ci (ok:X.Ok) (E:Value->Shared->Prop):(X.ci E).Ok :=
 ⟨ok.mod,ok.kind,ok.glob,ok.blt,ok.above,ok.inj,ok.has,ok.yX,ok.hd,ok.frames,ok.E6,ok.UO,ok.bs,ok.wI,ok.tf,ok.vF,ok.iT,ok.xB⟩
theorem Cx.Ok.fD {E:Value->Shared->Prop} (ok:(X.ci E).Ok):X.Ok :=
 ⟨ok.mod,ok.kind,ok.glob,ok.blt,ok.above,ok.inj,ok.has,ok.yX,ok.hd,ok.frames,ok.E6,ok.UO,ok.bs,ok.wI,ok.tf,ok.vF,ok.iT,ok.xB⟩
section
variable {X:Cx} {pins:List (Addr×Obj)} {U:St} {H:Hp} {s:Shared} {E:Value->Shared->Prop}
theorem Inv.ci (I:Inv X pins U H s) (E:Value->Shared->Prop):Inv (X.ci E) pins U H s:=⟨I.ok.ci E,I.os,I.bare,I.base,I.loc,I.cell,I.free,I.fG,I.pin,I.bQ,I.len⟩
theorem Inv.fD (I:Inv (X.ci E) pins U H s):Inv X pins U H s:=⟨I.ok.fD,I.os,I.bare,I.base,I.loc,I.cell,I.free,I.fG,I.pin,I.bQ,I.len⟩
theorem SP.fD {D:Ends} {f:Flow} (h:SP (X.ci E) pins D f s'):SP X pins D f s':=by
 cases f with
 | next=>obtain ⟨σ',H',I,q⟩:=h;exact ⟨σ',H',I.fD,q⟩
 | brk=>obtain ⟨σ',H',I,q⟩:=h;exact ⟨σ',H',I.fD,q⟩
 | cont=>obtain ⟨σ',H',I,q⟩:=h;exact ⟨σ',H',I.fD,q⟩
 | ret u=>obtain ⟨v,σ',H',I,r,q⟩:=h;exact ⟨v,σ',H',I.fD,r,q⟩
theorem k8.rQ {st:List Stmt} {t:TS} (h:k8 X.rQ st t):k8 X st t:=λ pins s U H D I hw =>
 YQ (h pins s U H D (I.ci _) hw) (λ _ _ q=>q.fD) λ _ _ z=>False.elim z
end
section
variable {X:Cx} {st:Stmt} {rest:List Stmt} {t u:TS} {e:Expr} {te:TE} {pos:Pos}
def BA:TS:=λ D U H=>D.nx U H
def aX (t u:TS):TS:=λ D U H=>t { D with nx:=u D } U H
theorem aF:k8 X [] BA:=λ _ _ U H _ I h=>Zq ⟨U,H,I,h⟩
theorem aj (h1:PS X st t) (h2:k8 X rest u):k8 X (st::rest) (aX t u):=by
 intro pins s U H D I h
 refine wpAny_execs_cons (bX (h1 pins s U H { D with nx:=u D } I h) λ f s1 q=>?_)
 cases f with
 | next =>
   obtain ⟨σ',H',I',q⟩:=q
   exact h2 pins s1 σ' H' D I' q
 | ret v=>exact q
 | brk=>exact q
 | cont=>exact q
theorem ak (h1:PS X st t):k8 X [st] t:=by
 intro pins s U H D I h
 refine wpAny_execs_cons (bX (h1 pins s U H D I h) λ f s1 q=>?_)
 cases f with
 | next=>exact Zq q
 | ret v=>exact q
 | brk=>exact q
 | cont=>exact q
theorem Inv.quiet {s:Shared} (I:Inv X pins U H s):interactive X.env=false:=by simp [interactive,I.ok.kind]
def A7 (te:TE):TS:=λ D U H=>te U H λ _ H1=>D.nx U H1
theorem gT (he:PE X e te) (hs:swapsWith e none pos.line X.env=pure false:=by rfl):PS X (.Expr e pos) (A7 te):=by
 intro pins s U H D I h
 exact wpAny_Expr_any (bX (he pins s U H _ I h) λ v s1 ⟨x,H1,I1,r1,q1⟩=>⟨U,H1,I1,q1⟩) I.quiet hs
def RD (te:TE):TS:=λ D U H=>te U H D.rt
theorem aq (he:PE X e te):PS X (.Return (some e) pos) (RD te):=by
 intro pins s U H D I h
 exact wpAny_Return_some (bX (he pins s U H _ I h) λ v s1 ⟨x,H1,I1,r1,q1⟩=>⟨x,U,H1,I1,r1,q1⟩)
def Mv (c:TT) (t u:TS):TS:=λ D U H=>c U H λ b H1=>if b=true then t D U H1 else u D U H1
theorem bh {c:Expr} {a b:List Stmt} {tc:TT} (hc:PT X c tc) (ha:k8 X a t) (hb:k8 X b u):PS X (.If c a b pos) (Mv tc t u):=by
 intro pins s U H D I h
 refine wpAny_If (bX (hc pins s U H _ I h) λ d s1 ⟨H1,I1,q1⟩=>?_)
 cases d with
 | true=>exact ha pins s1 U H1 D I1 q1
 | false=>exact hb pins s1 U H1 D I1 q1
def xW:TS:=λ _ _ _=>False
theorem g7:PS X st xW:=λ _ _ _ _ _ _ h=>h.elim
end
abbrev TG:=V->St->Hp->(St->Hp->Prop)->Prop
abbrev xR:=List V->St->Hp->(St->Hp->Prop)->Prop
def PG (X:Cx) (target:Expr) (t:TG):Prop :=
 ∀ (pins:List (Addr×Obj)) (s:Shared) (U:St) (H:Hp) (v:V) (u:Value) (Q:St->Hp->Prop),Inv X pins U H s->RelV v u->t v U H Q ->
   wpAny (model X.prog X.w) X.A (assign target X.env u) (λ _ s'=>∃ σ' H',Inv X pins σ' H' s'/\Q σ' H') X.xe s
def yE (X:Cx) (ts:List Expr) (t:xR):Prop :=
 ∀ (pins:List (Addr×Obj)) (s:Shared) (U:St) (H:Hp) (vs:List V) (us:List Value) (Q:St->Hp->Prop),Inv X pins U H s->Vals vs us->t vs U H Q ->
   wpAny (model X.prog X.w) X.A (assignInOrder ((assignEach ts X.env).map (·.2)) us) (λ _ s'=>∃ σ' H',Inv X pins σ' H' s'/\Q σ' H') X.xe s
section
variable {X:Cx} {pos:Pos}
def qc (i:Nat):TG:=λ v U H Q=>Q (U.set i (some v)) H
theorem bE {x:Str} (hN:X.N.Nodup) (hi:X.N[i]?=some x) (hx:Loc X.env.scope x) (hf:X.fn x=true∨X.env.scope.names.lookup x=some .local:=by first|exact .inl rfl|exact .inr rfl|assumption):PG X (.Name x pos) (qc i):=by
 intro pins s U H v u Q I r h
 exact wpAny_assign_Name (og I hN hi hx r (λ s' I'=>⟨_,H,I',h⟩) hf)
def Oh:xR:=λ vs U H Q=>vs=[]/\Q U H
inductive zM (t:TG) (u:xR) (vs:List V) (U:St) (H:Hp) (Q:(St->Hp->Prop)):Prop
 | mk (v r:_) (_:vs=v::r) (_:t v U H λ σ' H'=>u r σ' H' Q)
theorem ma:yE X [] Oh:=by
 intro pins s U H vs us Q I r h
 obtain ⟨e,h⟩:=h
 subst e
 cases r
 exact assignInOrder_nil ⟨U,H,I,h⟩
theorem eO {e:Expr} {t:TG} {u:xR} (h1:PG X e t) (h2:yE X es u) (hs:(assignEach (e::es) X.env).map (·.2)=assign e X.env::(assignEach es X.env).map (·.2):=by rfl):yE X (e::es) (zM t u):=by
 intro pins s U H vs us Q I r h
 obtain ⟨v,vr,e1,h⟩:=h
 subst e1
 cases r with
 | cons r rr =>
   rw [hs]
   refine assignInOrder_cons (bX (h1 pins s U H _ _ _ I r h) λ _ s1 ⟨σ1,H1,I1,q1⟩=>?_)
   exact h2 pins s1 σ1 H1 _ _ Q I1 rr q1
inductive A1 (K:W.Frag) (n:Nat) (t:xR) (v:V) (U:St) (H:Hp) (Q:(St->Hp->Prop)):Prop
 | mk (a xs:_) (_:v = .ref a) (_:aK K H a xs) (_:xs.length=n) (_:t xs U H Q)
theorem xK {k:Nat} {t:xR} {n:Nat} (hc:X.calm=true) (h:yE X es t) (hn:(assignEach es X.env).length=n:=by rfl) (jU:(assignEach es X.env).findIdx? (·.1)=none:=by rfl):PG X (.Tuple es k pos) (A1 X.K n t):=by
 intro pins s U H v u Q I r hw
 obtain ⟨a,xs,e1,hq,hl,hw⟩:=hw
 subst e1
 cases r
 obtain ⟨bx,rv,ht,hz⟩:=I.tuple hq
 refine assign_Tuple_tuple (I.ok.hd hc) ht (by simp [hn,← hl,rv.length]) jU λ h' hx=>?_
 have I1:Inv X pins U H { s with heap:=h' }:=I.kept (t':=s.toks) λ b o e=>hx b o (Yz (Ys e)) e
 exact h pins _ U H xs _ Q I1 (by simpa using rv) hw
def uO (te:TE) (g:TG):TS:=λ D U H=>te U H λ x H1=>g x U H1 D.nx
theorem sP {e:Expr} {g:TG} (he:PE X e te) (hg:PG X tg g) (hs:swapsWithSole [tg] e pos.line X.env=pure false:=by rfl) (hw:swappedStores [tg] e X.env=pure none:=by rfl) (h1:(assignEach [tg] X.env).map (·.2)=[assign tg X.env]:=by rfl):PS X (.Assign [tg] e pos) (uO te g):=by
 intro pins s U H D I h
 refine wpAny_Assign_stores (bX (he pins s U H _ I h) λ v s1 ⟨x,H1,I1,r1,q1⟩=>?_) hs hw
 rw [h1]
 exact bX (hg pins s1 U H1 x v _ I1 r1 q1) λ _ s2 q=>q
theorem aL {x:Str} {e:Expr} {pos':Pos} (hN:X.N.Nodup) (hi:X.N[i]?=some x) (hx:Loc X.env.scope x) (he:PE X e te) (hs:swapsWith e (some (.Name x pos')) pos.line X.env=pure false:=by rfl) (hf:X.fn x=true∨X.env.scope.names.lookup x=some .local:=by first|exact .inl rfl|exact .inr rfl|assumption) :
   PS X (.Assign [.Name x pos'] e pos) (uO te (qc i)):=by
 intro pins s U H D I h
 refine wpAny_Assign_Name (bX (he pins s U H _ I h) λ v s1 ⟨y,H1,I1,r1,q1⟩=>?_) hs
 exact og I1 hN hi hx r1 (λ s2 I2=>⟨_,H1,I2,q1⟩) hf
end
section
variable {X:Cx} {pos:Pos}
def xS (c:TT) (tb:TS):TS:=λ D U H=>∃ W:Nat->St->Hp->Prop,(∃ m,W m U H)/\∀ m U H,W m U H ->
 c U H λ b H1=>if b=true then ∃ N:St->Hp->Prop,(∀ σ' H',N σ' H'->∃ m',m'<m/\W m' σ' H')/\tb { D with nx:=N,ct:=N,bk:=D.nx } U H1 else D.nx U H1
theorem uA {c:Expr} {body:List Stmt} {tc:TT} (hp:PassesOwn (model X.prog X.w) X.A X.env X.xe) (hc:PT X c tc) (hb:k8 X body tb):PS X (.While c body [] pos) (xS tc tb):=by
 intro pins s U H D I h
 obtain ⟨W,⟨m0,w0⟩,turn⟩:=h
 refine wpAny_While (codeAny_whileLoop (λ n s'=>∃ σ' H',Inv X pins σ' H' s'/\W n σ' H') ?_ m0 ⟨U,H,I,w0⟩)
 rintro n s1 ⟨σ1,H1,I1,w1⟩
 refine Y4 hp (bX (hc pins s1 σ1 H1 _ I1 (turn n σ1 H1 w1)) λ b s2 ⟨H2,I2,q2⟩=>?_)
 cases b with
 | true =>
   obtain ⟨N,hN,q2⟩:=q2
   rw [YK rfl]
   refine Y4 hp (bX (hb pins s2 σ1 H2 _ I2 q2) λ f s3 q3=>?_)
   cases f with
   | next =>
     obtain ⟨σ3,H3,I3,n3⟩:=q3
     obtain ⟨m',hm,w3⟩:=hN σ3 H3 n3
     exact ⟨m',hm,σ3,H3,I3,w3⟩
   | cont =>
     obtain ⟨σ3,H3,I3,n3⟩:=q3
     obtain ⟨m',hm,w3⟩:=hN σ3 H3 n3
     exact ⟨m',hm,σ3,H3,I3,w3⟩
   | brk=>exact q3
   | ret v=>exact q3
 | false =>
   rw [YG EE]
   exact Zq ⟨σ1,H2,I2,q2⟩
end
structure It where
 go:Nat->Hp->Prop
 xa:Nat->Hp->V->Hp->Prop
 stop:Nat->Hp->Prop
def nH (X:Cx) (pins:List (Addr×Obj)) (H:Hp) (b:Addr):Prop :=
 H b=none/\b≠X.env.locals/\b∉X.fs/\(b∈X.ex∨X.s₀.heap.objs.size<=b)/\(∀ x c,X.env.cells.lookup x=some c->c≠b)/\∀ p∈X.pn++pins,p.1≠b
theorem Inv.sw {H':Hp} {s:Shared} {b:Addr} (I:Inv X pins U H s) (hb:s.heap.objs.size<=b) (hn:H' b=none):nH X pins H' b:=by
 refine ⟨hn,Nat.ne_of_gt (T1 I.lt hb),I.Oy hb,.inr (YL I.sz hb),λ x c e z=>?_,λ p hp z=>?_⟩
 . obtain ⟨v,q⟩:=I.cell x c e
   exact absurd (T1 q.lt (by rw [z];exact hb)) (Y7 _)
 . exact absurd (T1 (Ys (I.pin p hp).1) (by rw [z];exact hb)) (Y7 _)
structure Turn (P:Program) (w:World) (K:W.Frag) (tg:Expr) (J:It) (fp:List Addr) (it:Addr) (tn:Nat->Heap->Prop):Prop where
 mem:it∈fp
 obj:∀ i h,tn i h->∀ b∈fp,∃ o,h.get? b=some o/\∀ v,o.data ≠ .cell v
 keep:∀ i h h',tn i h->(∀ b∈fp,∀ o,h.get? b=some o->h'.get? b=some o)->tn i h'
 item:∀ (X:Cx),X.prog=P->X.w=w->X.K=K->X.calm=true->∀ (i:Nat) (pins:List (Addr×Obj)) (s:Shared) (U:St) (H:Hp) (E:Value->Shared->Prop),Inv X pins U H s->(∀ b∈fp,nH X pins H b)->tn i s.heap->J.go i H ->
   wpAny (model P w) X.A (pyNext (.ref it)) (λ r s1=>∃ u,r=some u /\
     wpAny (model P w) X.A (letOwnedTupleGo tg (.ref it) u) (λ _ s2=>∃ x H',Inv X pins U H' s2/\RelV x u/\J.xa i H x H'/\tn (i+1) s2.heap/\∀ b∈fp,H' b=none) E s1) E s
 done:∀ (X:Cx),X.prog=P->X.w=w->X.K=K->X.calm=true->∀ (i:Nat) (pins:List (Addr×Obj)) (s:Shared) (U:St) (H:Hp) (E:Value->Shared->Prop),Inv X pins U H s->(∀ b∈fp,nH X pins H b)->tn i s.heap->J.stop i H ->
   wpAny (model P w) X.A (pyNext (.ref it)) (λ r s1=>r=none/\Inv X pins U H s1) E s
 self:∀ (A:Around) (i:Nat) (s:Shared) (Q:Value->Shared->Prop) (E:Value->Shared->Prop),tn i s.heap->Q (.ref it) s->wpAny (model P w) A (pyIter (.ref it)) Q E s
abbrev TI:=St->Hp->(It->Hp->Prop)->Prop
def Ur (X:Cx) (pins:List (Addr×Obj)) (U:St) (tg:Expr) (R:It->Hp->Prop) (IF:Value) (s2:Shared):Prop :=
 ∃ (it:Addr) (fp:List Addr) (tn:Nat->Heap->Prop) (J:It) (H':Hp),IF = .ref it/\Inv X pins U H' s2/\Turn X.prog X.w X.K tg J fp it tn/\tn 0 s2.heap/\(∀ b∈fp,nH X pins H' b)/\R J H'
def PI (X:Cx) (tg iter:Expr) (wi:TI):Prop :=
 ∀ (pins:List (Addr×Obj)) (s:Shared) (U:St) (H:Hp) (R:It->Hp->Prop),Inv X pins U H s->wi U H R ->
   wpAny (model X.prog X.w) X.A (eval iter X.env) (λ v s1=>wpAny (model X.prog X.w) X.A (pyIter v) (Ur X pins U tg R) X.xe s1) X.xe s
theorem pO {M:Model} {A:Around} {E:Value->Shared->Prop} {s:Shared} {o:Obj} {n:String} {vs:Array Value} {Q:Unit->Shared->Prop} (ho:s.heap.get? it=some o) (hc:o.cls = .type n) (hd:o.data = .fields vs) (hn:["enumerate","zip","dict_itemiterator","dict_reverseitemiterator","odict_iterator","itertools.zip_longest","itertools.pairwise"].contains n=false) (hQ:Q () s):wpAny M A (letOwnedTupleGo tg (.ref it) u) Q E s:=by
 unfold letOwnedTupleGo
 cases tg<;>first
   | exact Wf hQ
   | (cases u<;>first
       | exact Wf hQ
       | (refine yB (wpAny_load ho ?_)
          rw [hc,hd]
          show wpAny M A (if (["enumerate","zip","dict_itemiterator","dict_reverseitemiterator","odict_iterator","itertools.zip_longest","itertools.pairwise"].contains n && vs[0]? == some (rawInt _))=true then _ else _) Q E s
          rw [YG (by intro h;rw [hn,Bool.false_and] at h;cases h)]
          exact Wf hQ))
def BF (K:W.Frag) (a:Addr):It :=
 ⟨λ i H=>∃ xs x,cg K H a xs/\xs[i]?=some x,λ i H x H'=>H'=H/\∀ xs,cg K H a xs->xs[i]?=some x,λ i H=>∃ xs,cg K H a xs/\xs.length<=i⟩
def uP (lo:Int) (n:Nat):It:=⟨λ i _=>i<n,λ i H x H'=>H'=H/\x = .int (lo+i),λ i _=>n<=i⟩
theorem qL {P:Program} {w:World} {K:W.Frag} (a it:Addr):Turn P w K tg (BF K a) [it] it (λ i h=>h.IsListIter it a i) where
 mem:=by simp
 obj:=λ i h st b hb=>by
   have e:b=it:=by simpa using hb
   subst e
   obtain ⟨o,e,c,d⟩:=st
   exact ⟨o,e,λ v z=>by rw [d] at z;cases z⟩
 keep:=λ i h h' st k=>st.at λ o e=>k it (by simp) o e
 item:=by
   intro X hP hw hK hc i pins s U H E I hf st hg
   subst hP hw hK
   obtain ⟨xs,x,hq,hx⟩:=hg
   obtain ⟨bx,rv,p,hz⟩:=I.list hq
   obtain ⟨u,hu,ru⟩:=rv.get hx
   obtain ⟨f0,f1,f2,f3,f4,f5⟩:=hf it (by simp)
   refine wpAny_pyNext_list_item st p.isList (x:=u) (by simpa using hu) λ h' qk sb=>?_
   have I1:Inv X pins U H { s with heap:=h' }:=I.turned (t':=s.toks) (λ b o hb e=>(sb.2 b hb).trans e) f0 f1 f3 f4 f5
   obtain ⟨o,e,c,d⟩:=id qk
   exact ⟨u,rfl,pO (s:={ s with heap:=h' }) e c d (by decide) ⟨x,H,I1,ru,⟨rfl,λ ys hy=>by rw [I.sA hy hq];exact hx⟩,qk,λ b hb=>(hf b hb).1⟩⟩
 done:=by
   intro X hP hw hK hc i pins s U H E I hf st hg
   subst hP hw hK
   obtain ⟨xs,hq,hx⟩:=hg
   obtain ⟨bx,rv,p,hz⟩:=I.list hq
   obtain ⟨f0,f1,f2,f3,f4,f5⟩:=hf it (by simp)
   have hl:=rv.length
   exact wpAny_pyNext_list_end (I.ok.hd hc) st p.isList (by simp;lia) λ h' eb=>⟨rfl,I.turned (t':=s.toks) (λ b o hb e=>eb b o hb e) f0 f1 f3 f4 f5⟩
 self:=λ _ _ _ _ _ st h=>wpAny_pyIter_listiter st h
theorem oG {P:Program} {w:World} {K:W.Frag} (it:Addr) (lo:Int) (n:Nat):Turn P w K tg (uP lo n) [it] it (λ i h=>IsRangeIter h it (lo+(i:Nat) * 1) ((n:Int) - (i:Nat)) 1) where
 mem:=by simp
 obj:=λ i h st b hb=>by
   have e:b=it:=by simpa using hb
   subst e
   exact ⟨_,st,λ v z=>by
     have z':Data.fields _=Data.cell v:=z
     cases z'⟩
 keep:=λ i h h' st k=>k it (by simp) _ st
 item:=by
   intro X hP hw hK hc i pins s U H E I hf st hg
   subst hP hw hK
   obtain ⟨f0,f1,f2,f3,f4,f5⟩:=hf it (by simp)
   have W:=Walks.range (prog:=X.prog) (w:=X.w) (I.ok.hd hc) it lo 1 n
   refine W.item i s _ _ hg st λ v h' tk hv qk kk=>?_
   obtain ⟨t,rfl⟩:=hv
   have I1:Inv X pins U H { s with heap:=h',toks:=tk }:=I.turned (λ b o hb e=>kk b o (by simpa using hb) e) f0 f1 f3 f4 f5
   refine ⟨_,rfl,pO (s:={ s with heap:=h',toks:=tk }) (n:="range_iterator") qk rfl rfl (by decide) ⟨.int (lo+i),H,I1,⟨t,?_⟩,⟨rfl,rfl⟩,qk,λ b hb=>(hf b hb).1⟩⟩
   rw [Int.mul_one]
 done:=by
   intro X hP hw hK hc i pins s U H E I hf st hg
   subst hP hw hK
   obtain ⟨f0,f1,f2,f3,f4,f5⟩:=hf it (by simp)
   exact wpAny_pyNext_range_end (I.ok.hd hc) st (by have:n<=i:=hg;lia) λ h' eb=>⟨rfl,I.turned (t':=s.toks) (λ b o hb e=>eb b o hb e) f0 f1 f3 f4 f5⟩
 self:=λ _ _ _ _ _ st h=>wpAny_pyIter_rangeiter st h
section
variable {X:Cx} {tg:Expr}
inductive ML (K:W.Frag) (R:It->Hp->Prop) (x:V) (H1:Hp):Prop
 | mk (a:Addr) (h1:x = .ref a) (h2:∃ xs,cg K H1 a xs) (q:R (BF K a) H1)
def CL (K:W.Frag) (tl:TE):TI:=λ U H R=>tl U H (ML K R)
theorem jd {l:Expr} {tl:TE} (hl:PE X l tl):PI X tg l (CL X.K tl):=by
 intro pins s U H R I h
 refine bX (hl pins s U H _ I h) λ v s1 ⟨x,H1,I1,r1,q1⟩=>?_
 obtain ⟨a,e,⟨xs,hq⟩,q⟩:=q1
 subst e
 cases r1
 obtain ⟨bx,rv,p,hz⟩:=I1.list hq
 refine wpAny_pyIter_list p.isList ?_
 refine ⟨s1.heap.objs.size,[s1.heap.objs.size],_,_,H1,rfl,I1.kept (t':=s1.toks) λ b o e=>be _ e,qL a _,⟨_,Yt _ rfl,rfl,rfl⟩,λ b hb=>?_,q⟩
 have e:b=s1.heap.objs.size:=by simpa using hb
 subst e
 exact I1.sw (oX _) (I1.bQ.fresh (oX _))
theorem sZ {s:Shared} {R:It->Hp->Prop} {E:Value->Shared->Prop} {hi:Int} {t u v:Tok} {tk:Nat} (I:Inv X pins U H s) (h1 : -(2 ^ 62)<=lo) (h2:lo<2 ^ 62) (h3 : -(2 ^ 62)<=hi) (h4:hi<2 ^ 62) (q:R (uP lo (hi - lo).toNat) H):wpAny (model X.prog X.w) X.A (pyIter (.ref s.heap.objs.size)) (Ur X pins U tg R) E { s with heap:=s.heap.push { cls:=.type "range",data:=.fields #[.int lo t,.int hi u,.int 1 v]},toks:=tk }:=by
 refine wpAny_pyIter_range (IsRange.new ..) (small_one h1 h2 h3 h4) ?_
 have I1:Inv X pins U H { s with heap:=s.heap.push { cls:=.type "range",data:=.fields #[.int lo t,.int hi u,.int 1 v]},toks:=tk }:=I.kept λ b o e=>be _ e
 refine ⟨(s.heap.push { cls:=.type "range",data:=.fields #[.int lo t,.int hi u,.int 1 v]}).objs.size,[(s.heap.push { cls:=.type "range",data:=.fields #[.int lo t,.int hi u,.int 1 v]}).objs.size],_,_,H,rfl,
   I1.kept (t':=tk) λ b o e=>be _ e,oG _ lo (hi - lo).toNat,?_,λ b hb=>?_,q⟩
 .
  have e1:lo+((0:Nat):Int) * 1=lo:=by simp
  have e2:(((hi - lo).toNat:Nat):Int) - ((0:Nat):Int)=Builtin.Range.rangeSize lo hi 1:=by rw [rangeSize_one];split<;>lia
  show IsRangeIter _ _ (lo+((0:Nat):Int) * 1) ((((hi - lo).toNat:Nat):Int) - ((0:Nat):Int)) 1
  rw [e1,e2]
  exact Yt _ rfl
 . have e:b=(s.heap.push { cls:=.type "range",data:=.fields #[.int lo t,.int hi u,.int 1 v]}).objs.size:=by simpa using hb
   subst e
   exact I1.sw (oX _) (I1.bQ.fresh (oX _))
inductive Kv (R:It->Hp->Prop) (vs:List V) (H1:Hp):Prop
 | mk (j:Int) (h1:vs=[.int j]) (h2 : -(2 ^ 62)<=j) (h3:j<2 ^ 62) (q:R (uP 0 j.toNat) H1)
def Di (ta:TA):TI:=λ U H R=>ta U H (Kv R)
theorem cP {a:Expr} {ta:TA} {p pos:Pos} (hg:Gl X "range") (hm:X.mg "range" = none) (ha:PA X [a] ta) (hs:starEach [a] X.env=[(false,eval a X.env)]:=by rfl):PI X tg (.Call (.Name "range" p) [a] [] pos) (Di ta):=by
 intro pins s U H R I h
 refine Call_ (lR I hg hm boot_range (Zz (bX (ha pos pins s U H _ I h) λ us s1 ⟨vs,H1,I1,r1,q1⟩=>?_) hs rfl))
 obtain ⟨j,e,q1,q2,q⟩:=q1
 subst e
 cases r1 with
 | cons r rr =>
   cases rr
   obtain ⟨t,rfl⟩:=r
   exact call_range_1 (sZ I1 (by lia) (by lia) q1 q2 (by simpa using q))
def Rq (wi:TI) (g:TG) (tb:TS):TS:=λ D U H=>wi U H λ J H1=>∃ W:Nat->Nat->St->Hp->Prop,(∃ m,W 0 m U H1)/\∀ i m U H,W i m U H ->
 (J.stop i H/\D.nx U H)∨(J.go i H/\∃ N:St->Hp->Prop,(∀ σ' H',N σ' H'->∃ m',m'<m/\W (i+1) m' σ' H')/\∀ x H',J.xa i H x H'->g x U H' λ σ2 H2=>tb { D with nx:=N,ct:=N,bk:=D.nx } σ2 H2)
def jR (fp:List Addr) (h:Heap):List (Addr×Obj):=fp.filterMap λ b=>(h.get? b).map λ o=>(b,o)
theorem fe {h:Heap} {b:Addr} {o:Obj} (hb:b∈fp) (e:h.get? b=some o):(b,o)∈jR fp h:=List.mem_filterMap.mpr ⟨b,hb,by rw [e];rfl⟩
theorem qJ {h:Heap} {p:Addr×Obj} (hp:p∈jR fp h):p.1∈fp/\h.get? p.1=some p.2:=by
 obtain ⟨b,hb,e⟩:=List.mem_filterMap.mp hp
 cases q:h.get? b with
 | none=>rw [q] at e;cases e
 | some o =>
   rw [q] at e
   have e':(b,o)=p:=Yu e
   subst e'
   exact ⟨hb,q⟩
theorem Inv.pinned {s:Shared} (I:Inv X pins U H s) (hf:∀ b∈fp,nH X pins H b) (ho:∀ b∈fp,∃ o,s.heap.get? b=some o/\∀ v,o.data ≠ .cell v):Inv X (pins++jR fp s.heap) U H s :=
 I.pF λ p hp=>(List.mem_append.mp hp).elim (λ z=>I.pin p (YB _ z)) λ z=>by
   obtain ⟨hb,e⟩:=qJ z
   obtain ⟨f0,f1,f2,_⟩:=hf p.1 hb
   obtain ⟨o,e',d⟩:=ho p.1 hb
   rw [e] at e';cases e'
   exact ⟨e,f0,f1,f2,d⟩
theorem Inv.hR {pl:List (Addr×Obj)} {s:Shared} (I:Inv X (pins++pl) U H s):Inv X pins U H s:=I.pF λ p hp=>I.pin p (YB _ (ZW _ hp))
theorem gw {iter:Expr} {body:List Stmt} {wi:TI} {g:TG} {pos:Pos} (hp:PassesOwn (model X.prog X.w) X.A X.env X.xe) (hc:X.calm=true) (hi:PI X tg iter wi) (hg:PG X tg g) (hb:k8 X body tb) (hs:∀ x,foldedSetIterable iter X.env x=pure x:=by intro _;rfl):PS X (.For tg iter body [] pos) (Rq wi g tb):=by
 intro pins s U H D I h
 refine wpAny_For (bX (hi pins s U H _ I h) λ v s1 h1=>bX h1 λ IF s2 h2=>?_) hs
 obtain ⟨it,fp,tn,J,H2,e,I2,T,EW,f2,W,⟨m0,w0⟩,turn⟩:=h2
 subst e
 have yo:∀ {H':Hp},(∀ b∈fp,H' b=none)->∀ b∈fp,nH X pins H' b:=λ hn b hb=>⟨hn b hb,(f2 b hb).2⟩
 refine codeAny_forLoop_any (λ n s'=>∃ i σ' H',Inv X pins σ' H' s'/\tn i s'.heap/\(∀ b∈fp,H' b=none)/\W i n σ' H') ?_ m0 ⟨0,U,H2,I2,EW,λ b hb=>(f2 b hb).1,w0⟩
 rintro n s3 ⟨i,σ3,H3,I3,Ux,UD,w3⟩
 rcases turn i n σ3 H3 w3 with ⟨stop,qn⟩|⟨go,N,hN,step⟩
 . refine Y4 hp (bX (T.done X rfl rfl rfl hc i pins s3 σ3 H3 X.xe I3 (yo UD) Ux stop) λ r s4 ⟨hr,I4⟩=>?_)
   subst hr
   exact Zq ⟨σ3,H3,I4,qn⟩
 .
  refine Y4 hp (bX (T.item X rfl rfl rfl hc i pins s3 σ3 H3 X.xe I3 (yo UD) Ux go) λ r s4 ⟨u,hr,h4⟩=>?_)
  subst hr
  refine Y4 hp (bX h4 λ _ s5 ⟨x,H5,I5,r5,y5,yy,EO⟩=>?_)
  have V0:=I5.pinned (yo EO) (T.obj _ _ yy)
  refine Y4 hp (bX (hg _ s5 σ3 H5 x u _ V0 r5 (step x H5 y5)) λ _ s6 ⟨σ6,H6,I6,q6⟩=>?_)
  refine Y4 hp (bX (hb _ s6 σ6 H6 _ I6 q6) λ f s7 q7=>?_)
  have again:∀ {σ7:St} {H7:Hp},Inv X (pins++jR fp s5.heap) σ7 H7 s7->N σ7 H7->∃ m,m<n/\∃ i σ' H',Inv X pins σ' H' s7/\tn i s7.heap/\(∀ b∈fp,H' b=none)/\W i m σ' H':=λ {σ7 H7} I7 n7=>by
    obtain ⟨m',hm,w7⟩:=hN σ7 H7 n7
    refine ⟨m',hm,i+1,σ7,H7,I7.hR,T.keep _ _ _ yy λ b hb o e=>(I7.pin (b,o) (YB _ (YB _ (fe hb e)))).1,λ b hb=>?_,w7⟩
    obtain ⟨o,e,d⟩:=T.obj _ _ yy b hb
    exact (I7.pin (b,o) (YB _ (YB _ (fe hb e)))).2.1
  cases f with
  | next=>obtain ⟨σ7,H7,I7,n7⟩:=q7;exact again I7 n7
  | cont=>obtain ⟨σ7,H7,I7,n7⟩:=q7;exact again I7 n7
  | brk=>obtain ⟨σ7,H7,I7,q7⟩:=q7;exact ⟨σ7,H7,I7.hR,q7⟩
  | ret v=>obtain ⟨x7,σ7,H7,I7,r7,q7⟩:=q7;exact ⟨x7,σ7,H7,I7.hR,r7,q7⟩
end
theorem tR {K:W.Frag} {a:Addr} {g:TG} {D:Ends} (Pv:Nat->St->Hp->Prop) (h0:Pv 0 U H) (hl:∀ i U H,i<=xs.length->Pv i U H->cg K H a xs) (hs:∀ i x U H,xs[i]?=some x->Pv i U H->g x U H λ σ2 H2=>tb { D with nx:=Pv (i+1),ct:=Pv (i+1),bk:=D.nx } σ2 H2) (hd:∀ U H,Pv xs.length U H->D.nx U H) :
   ∃ W:Nat->Nat->St->Hp->Prop,(∃ m,W 0 m U H)/\∀ i m U H,W i m U H ->
     ((BF K a).stop i H/\D.nx U H)∨((BF K a).go i H/\∃ N:St->Hp->Prop,(∀ σ' H',N σ' H'->∃ m',m'<m/\W (i+1) m' σ' H')/\∀ x H',(BF K a).xa i H x H'->g x U H' λ σ2 H2=>tb { D with nx:=N,ct:=N,bk:=D.nx } σ2 H2):=by
 refine ⟨λ i m U H=>m=xs.length - i/\i<=xs.length/\Pv i U H,⟨xs.length,by simp,YX _,h0⟩,?_⟩
 rintro i m U H ⟨rfl,hi,p⟩
 have q:=hl i U H hi p
 by_cases oB:i<xs.length
 .
  refine .inr ⟨⟨xs,xs[i],q,by simp [oB]⟩,Pv (i+1),λ σ' H' p'=>⟨xs.length - (i+1),by lia,rfl,oB,p'⟩,λ x H' y=>?_⟩
  obtain ⟨e,y⟩:=y
  subst e
  exact hs i x U _ (y xs q) p
 . have e:i=xs.length:=by lia
   subst e
   exact .inl ⟨⟨xs,q,oX _⟩,hd U H p⟩
theorem qw {n:Nat} {g:TG} {D:Ends} (Pv:Nat->St->Hp->Prop) (h0:Pv 0 U H) (hs:∀ i U H,i<n->Pv i U H->g (.int (lo+i)) U H λ σ2 H2=>tb { D with nx:=Pv (i+1),ct:=Pv (i+1),bk:=D.nx } σ2 H2) (hd:∀ U H,Pv n U H->D.nx U H) :
   ∃ W:Nat->Nat->St->Hp->Prop,(∃ m,W 0 m U H)/\∀ i m U H,W i m U H ->
     ((uP lo n).stop i H/\D.nx U H)∨((uP lo n).go i H/\∃ N:St->Hp->Prop,(∀ σ' H',N σ' H'->∃ m',m'<m/\W (i+1) m' σ' H')/\∀ x H',(uP lo n).xa i H x H'->g x U H' λ σ2 H2=>tb { D with nx:=N,ct:=N,bk:=D.nx } σ2 H2):=by
 refine ⟨λ i m U H=>m=n - i/\i<=n/\Pv i U H,⟨n,by simp,YX _,h0⟩,?_⟩
 rintro i m U H ⟨rfl,hi,p⟩
 by_cases oB:i<n
 .
  refine .inr ⟨oB,Pv (i+1),λ σ' H' p'=>⟨n - (i+1),by lia,rfl,oB,p'⟩,λ x H' y=>?_⟩
  obtain ⟨e,y⟩:=y
  subst e y
  exact hs i U _ oB p
 . have e:i=n:=by lia
   subst e
   exact .inl ⟨oX _,hd U H p⟩
abbrev R2:=V->V->Hp->VK->Prop
def fq (X:Cx) (f:Value->Value->Sem Value) (r:R2):Prop :=
 ∀ (pins:List (Addr×Obj)) (s:Shared) (U:St) (H:Hp) (x y:V) (v u:Value) (Q:VK),Inv X pins U H s->RelV x v->RelV y u->r x y H Q ->
   wpAny (model X.prog X.w) X.A (f v u) (EP X pins U Q) X.xe s
def Sb (X:Cx) (f:Value->Sem Value) (r:V->Hp->VK->Prop):Prop :=
 ∀ (pins:List (Addr×Obj)) (s:Shared) (U:St) (H:Hp) (x:V) (v:Value) (Q:VK),Inv X pins U H s->RelV x v->r x H Q ->
   wpAny (model X.prog X.w) X.A (f v) (EP X pins U Q) X.xe s
def f6 (X:Cx) (f:Value) (r:List V->Hp->VK->Prop):Prop :=
 ∀ (pins:List (Addr×Obj)) (s:Shared) (U:St) (H:Hp) (xs:List V) (us:List Value) (Q:VK),Inv X pins U H s->Vals xs us->r xs H Q ->
   wpAny (model X.prog X.w) X.A (call f us) (EP X pins U Q) X.xe s
def E7 (r:R2) (ta tb:TE):TE:=λ U H Q=>ta U H λ x H1=>tb U H1 λ y H2=>r x y H2 Q
def Wq (r:V->Hp->VK->Prop) (ta:TE):TE:=λ U H Q=>ta U H λ x H1=>r x H1 Q
inductive rI (C:Int->Int->Prop) (g:Int->Int->V) (x:V) (y:V) (H:Hp) (Q:VK):Prop
 | mk (i j:_) (_:x = .int i) (_:y = .int j) (_:C i j) (_:Q (g i j) H)
inductive wm (g:Int->Int->V) (x:V) (y:V) (H:Hp) (Q:VK):Prop
 | mk (i j:_) (_:x = .int i) (_:y = .int j) (_:Q (g i j) H)
inductive rU (g:Int->V) (x:V) (H:Hp) (Q:VK):Prop
 | mk (i:_) (_:x = .int i) (_:Q (g i) H)
section
variable {X:Cx} {a b c:Expr} {ta tb tc:TE} {pos:Pos}
theorem xJ (ha:PE X a ta) (hb:PE X b tb) {s:Shared} {R:V->V->Hp->Prop} (I:Inv X pins U H s) (h:ta U H λ x H1=>tb U H1 λ y H2=>R x y H2) {Q:Value->Shared->Prop} {f:Value->Value->Sem Value} (hf:∀ v u s2 x y H2,Inv X pins U H2 s2->RelV x v->RelV y u->R x y H2->wpAny (model X.prog X.w) X.A (f v u) Q X.xe s2) :
   wpAny (model X.prog X.w) X.A (eval a X.env) (λ v s₁=>wpAny (model X.prog X.w) X.A (eval b X.env) (λ u s₂=>wpAny (model X.prog X.w) X.A (f v u) Q X.xe s₂) X.xe s₁) X.xe s:=by
 refine bX (ha pins s U H _ I h) λ v s1 ⟨x,H1,I1,r1,q1⟩=>?_
 refine bX (hb pins s1 U H1 _ I1 q1) λ u s2 ⟨y,H2,I2,r2,q2⟩=>?_
 exact hf v u s2 x y H2 I2 r1 r2 q2
theorem ar {op:Operator} {r:R2} (ho:fq X (binaryOp op) r) (ha:PE X a ta) (hb:PE X b tb):PE X (.BinOp a op b pos) (E7 r ta tb):=by
 intro pins s U H Q I h
 exact wpAny_BinOp (xJ ha hb I h λ v u s2 x y H2 I2 rx ry q=>ho pins s2 U H2 x y v u Q I2 rx ry q)
theorem Ey {op:UnaryOp} {r:V->Hp->VK->Prop} (ho:Sb X (unaryOp op) r) (ha:PE X a ta):PE X (.UnaryOp op a pos) (Wq r ta):=by
 intro pins s U H Q I h
 exact UnaryOp_ (bX (ha pins s U H _ I h) λ v s1 ⟨x,H1,I1,r1,q1⟩=>ho pins s1 U H1 x v Q I1 r1 q1)
theorem yx {f:Value->Value->Sem Value} {C:Int->Int->Prop} {g:Int->Int->Int} (rule:∀ (i j:Int) (t u:Tok) (s:Shared) (Q:Value->Shared->Prop) (E:Value->Shared->Prop),C i j->Q (.int (g i j) s.toks) { s with toks:=s.toks+1 }->wpAny (model X.prog X.w) X.A (f (.int i t) (.int j u)) Q E s) :
   fq X f (rI C λ i j => .int (g i j)):=by
 intro pins s U H x y v u Q I rx ry h
 obtain ⟨i,j,rfl,rfl,hc,q⟩:=h
 obtain ⟨t,rfl⟩:=rx
 obtain ⟨t',rfl⟩:=ry
 exact rule i j t t' s _ _ hc ⟨.int (g i j),H,I.tok _,⟨_,rfl⟩,q⟩
theorem vM {f:Value->Value->Sem Value} {g:Int->Int->Int} (rule:∀ (i j:Int) (t u:Tok) (s:Shared) (Q:Value->Shared->Prop) (E:Value->Shared->Prop),Q (.int (g i j) s.toks) { s with toks:=s.toks+1 }->wpAny (model X.prog X.w) X.A (f (.int i t) (.int j u)) Q E s) :
   fq X f (wm λ i j => .int (g i j)):=by
 intro pins s U H x y v u Q I rx ry h
 obtain ⟨i,j,rfl,rfl,q⟩:=h
 obtain ⟨t,rfl⟩:=rx
 obtain ⟨t',rfl⟩:=ry
 exact rule i j t t' s _ _ ⟨.int (g i j),H,I.tok _,⟨_,rfl⟩,q⟩
theorem xD {f:Value->Value->Sem Value} {g:Int->Int->Bool} (rule:∀ (i j:Int) (t u:Tok) (s:Shared) (Q:Value->Shared->Prop) (E:Value->Shared->Prop),Q (.bool (g i j)) s->wpAny (model X.prog X.w) X.A (f (.int i t) (.int j u)) Q E s) :
   fq X f (wm λ i j => .bl (g i j)):=by
 intro pins s U H x y v u Q I rx ry h
 obtain ⟨i,j,rfl,rfl,q⟩:=h
 obtain ⟨t,rfl⟩:=rx
 obtain ⟨t',rfl⟩:=ry
 exact rule i j t t' s _ _ ⟨.bl (g i j),H,I,rfl,q⟩
def u3 (i j:Int):Prop:=0<=j/\j<=1000000/\i.natAbs<2 ^ 64
theorem o1 (k:Nat):(0:Int)<=2 ^ k:=by
 rw [two_pow_cast]
 exact Zt _
theorem xq:fq X (binaryOp .Add) (wm λ i j => .int (i+j)):=vM λ _ _ _ _ _ _ _ q=>add_int q
theorem xV:fq X (binaryOp .Sub) (wm λ i j => .int (i - j)):=vM λ _ _ _ _ _ _ _ q=>sub_int q
theorem xu:fq X (binaryOp .Mod) (rI (λ _ j=>0<j) λ i j => .int (i % j)):=yx λ i j _ _ _ _ _ hc q=>by
 have h1:(0:Int)<j:=hc
 exact mod_int' (by lia) (by rw [ZC i (by lia)];exact q)
theorem xr:fq X (binaryOp .Pow) (rI u3 λ i j => .int (i ^ j.toNat)):=yx λ _ _ _ _ _ _ _ hc q=>pow_int_small hc.1 hc.2.1 hc.2.2 q
theorem yn:fq X (binaryOp .LShift) (rI u3 λ i j => .int (i * 2 ^ j.toNat)):=yx λ _ _ _ _ _ _ _ hc q=>lshift_int_small hc.1 hc.2.1 hc.2.2 q
theorem xX:fq X (binaryOp .RShift) (rI (λ _ j=>0<=j) λ i j => .int (i / 2 ^ j.toNat)):=yx λ i j _ _ _ _ _ hc q =>
 rshift_int hc (by rw [YD i (o1 _)];exact q)
theorem x5:fq X (binaryOp .BitAnd) (wm λ i j => .int (Builtin.bitAnd i j)):=vM λ _ _ _ _ _ _ _ q=>and_int q
theorem Bz:fq X (binaryOp .BitOr) (wm λ i j => .int (Builtin.bitOr i j)):=vM λ _ _ _ _ _ _ _ q=>or_int q
theorem W4 {f:Value->Sem Value} {g:Int->Int} (rule:∀ (i:Int) (t:Tok) (s:Shared) (Q:Value->Shared->Prop) (E:Value->Shared->Prop),Q (.int (g i) s.toks) { s with toks:=s.toks+1 }->wpAny (model X.prog X.w) X.A (f (.int i t)) Q E s) :
   Sb X f (rU λ i => .int (g i)):=by
 intro pins s U H x v Q I rx h
 obtain ⟨i,rfl,q⟩:=h
 obtain ⟨t,rfl⟩:=rx
 exact rule i t s _ _ ⟨.int (g i),H,I.tok _,⟨_,rfl⟩,q⟩
theorem xE:Sb X (unaryOp .USub) (rU λ i => .int (-i)):=W4 λ _ _ _ _ _ q=>neg_int q
end
def Cv:V->V->Bool
 | .bG,.bG=>true | .bG,.int _=>true | .int _,.bG=>true | .bG,.bl _=>true | .bl _,.bG=>true | .bG,.str _=>true | .str _,.bG=>true
 | .int _,.int _=>true | .bl _,.bl _=>true | .str _,.str _=>true | .qT _,.qT _=>true
 | .int _,.str _=>true | .str _,.int _=>true | .bl _,.str _=>true | .str _,.bl _=>true
 | _,_=>false
def WP:R2:=λ x y H Q=>Cv x y=true/\Q (.bl (decide (x=y))) H
def U6:R2:=λ x y H Q=>Cv x y=true/\Q (.bl (!decide (x=y))) H
theorem mI {i j:Int}:decide (V.int i=V.int j)=(i == j):=by
 rw [Y9]
 simp
theorem sL {i j:Bool}:decide (V.bl i=V.bl j)=(i == j):=by
 rw [Y9]
 simp
theorem pV {i j:Str}:decide (V.str i=V.str j)=(i == j):=by
 rw [Y9]
 simp
theorem pM {i j:Array UInt8}:decide (V.qT i=V.qT j)=(i.toList == j.toList):=by
 rw [Y9]
 cases i
 cases j
 simp
section
variable {X:Cx} {a b c:Expr} {ta tb tc:TE} {pos:Pos}
theorem aU {s:Shared} {k k':Bool} (I:Inv X pins U H s) (q:Q (.bl k) H) (e:k=k'):EP X pins U Q (.bool k') s:=by
 subst e
 exact ⟨.bl k,H,I,rfl,q⟩
theorem cy:fq X (compareOp .Eq) WP:=by
 intro pins s U H x y v u Q I rx ry h
 obtain ⟨hs,q⟩:=h
 cases x with
 | bG =>
   cases rx
   cases y with
   | bG=>cases ry;exact PySem.EqNone.eq_none_none (aU I q (by simp))
   | bl j=>cases ry;exact PySem.EqNone.eq_none_bool (aU I q (by simp))
   | int j=>obtain ⟨t',rfl⟩:=ry;exact PySem.EqNone.eq_none_int (aU I q (by simp))
   | str j=>obtain ⟨t',rfl⟩:=ry;exact PySem.EqNone.eq_none_str (aU I q (by simp))
   | _=>exact absurd (show false=true from hs) EE
 | bl i =>
   cases rx
   cases y with
   | bG=>cases ry;exact PySem.EqNone.eq_bool_none (aU I q (by simp))
   | bl j=>cases ry;exact eq_bool (aU I q sL)
   | str j=>obtain ⟨t',rfl⟩:=ry;exact PySem.EqMixed.eq_bool_str (aU I q (by simp))
   | _=>exact absurd (show false=true from hs) EE
 | int i =>
   obtain ⟨t,rfl⟩:=rx
   cases y with
   | bG=>cases ry;exact PySem.EqNone.eq_int_none (aU I q (by simp))
   | int j=>obtain ⟨t',rfl⟩:=ry;exact eq_int (aU I q mI)
   | str j=>obtain ⟨t',rfl⟩:=ry;exact PySem.EqMixed.eq_int_str (aU I q (by simp))
   | _=>exact absurd (show false=true from hs) EE
 | str i =>
   obtain ⟨t,rfl⟩:=rx
   cases y with
   | bG=>cases ry;exact PySem.EqNone.eq_str_none (aU I q (by simp))
   | bl j=>cases ry;exact PySem.EqMixed.eq_str_bool (aU I q (by simp))
   | int j=>obtain ⟨t',rfl⟩:=ry;exact PySem.EqMixed.eq_str_int (aU I q (by simp))
   | str j=>obtain ⟨t',rfl⟩:=ry;exact eq_str (aU I q pV)
   | _=>exact absurd (show false=true from hs) EE
 | qT i =>
   obtain ⟨t,rfl⟩:=rx
   cases y with
   | qT j=>obtain ⟨t',rfl⟩:=ry;exact W.eq_bytes (aU I q pM)
   | _=>exact absurd (show false=true from hs) EE
 | _=>cases y<;>exact absurd (show false=true from hs) EE
theorem wR:fq X (compareOp .NotEq) U6:=by
 intro pins s U H x y v u Q I rx ry h
 obtain ⟨hs,q⟩:=h
 cases x with
 | bG =>
   cases rx
   cases y with
   | bG=>cases ry;exact PySem.EqNone.ne_none_none (aU I q (by simp))
   | bl j=>cases ry;exact PySem.EqNone.ne_none_bool (aU I q (by simp))
   | int j=>obtain ⟨t',rfl⟩:=ry;exact PySem.EqNone.ne_none_int (aU I q (by simp))
   | str j=>obtain ⟨t',rfl⟩:=ry;exact PySem.EqNone.ne_none_str (aU I q (by simp))
   | _=>exact absurd (show false=true from hs) EE
 | bl i =>
   cases rx
   cases y with
   | bG=>cases ry;exact PySem.EqNone.ne_bool_none (aU I q (by simp))
   | bl j=>cases ry;exact ne_bool (aU I q (Ze not sL))
   | str j=>obtain ⟨t',rfl⟩:=ry;exact PySem.EqMixed.ne_bool_str (aU I q (by simp))
   | _=>exact absurd (show false=true from hs) EE
 | int i =>
   obtain ⟨t,rfl⟩:=rx
   cases y with
   | bG=>cases ry;exact PySem.EqNone.ne_int_none (aU I q (by simp))
   | int j=>obtain ⟨t',rfl⟩:=ry;exact ne_int (aU I q (Ze not mI))
   | str j=>obtain ⟨t',rfl⟩:=ry;exact PySem.EqMixed.ne_int_str (aU I q (by simp))
   | _=>exact absurd (show false=true from hs) EE
 | str i =>
   obtain ⟨t,rfl⟩:=rx
   cases y with
   | bG=>cases ry;exact PySem.EqNone.ne_str_none (aU I q (by simp))
   | bl j=>cases ry;exact PySem.EqMixed.ne_str_bool (aU I q (by simp))
   | int j=>obtain ⟨t',rfl⟩:=ry;exact PySem.EqMixed.ne_str_int (aU I q (by simp))
   | str j=>obtain ⟨t',rfl⟩:=ry;exact ne_str (aU I q (Ze not pV))
   | _=>exact absurd (show false=true from hs) EE
 | qT i =>
   obtain ⟨t,rfl⟩:=rx
   cases y with
   | qT j=>obtain ⟨t',rfl⟩:=ry;exact W.ne_bytes (aU I q (Ze not pM))
   | _=>exact absurd (show false=true from hs) EE
 | _=>cases y<;>exact absurd (show false=true from hs) EE
theorem jH:fq X (compareOp .Lt) (wm λ i j => .bl (decide (i<j))):=xD λ _ _ _ _ _ _ _ q=>lt_int q
theorem xl:fq X (compareOp .LtE) (wm λ i j => .bl (decide (i<=j))):=xD λ _ _ _ _ _ _ _ q=>le_int q
theorem iA:fq X (compareOp .Gt) (wm λ i j => .bl (decide (j<i))):=xD λ _ _ _ _ _ _ _ q=>gt_int q
theorem mo:fq X (compareOp .Is) (λ x y H Q=>y = .bG/\Q (.bl (decide (x = .bG))) H):=by
 intro pins s U H x y v u Q I rx ry h
 obtain ⟨rfl,q⟩:=h
 cases ry
 refine is_none_gen (aU I q ?_)
 cases x<;>first
   | (cases rx;rfl)
   | (obtain ⟨t,rfl⟩:=rx;rfl)
theorem aG (b:Expr) {op:CmpOp} (h:op ≠ .In:=by decide) (h2:op ≠ .NotIn:=by decide):behindInMarks op b=false:=by
 have e1:(op == CmpOp.In)=false:=by cases op<;>first|rfl|exact absurd rfl h
 have e2:(op == CmpOp.NotIn)=false:=by cases op<;>first|rfl|exact absurd rfl h2
 cases b<;>simp [behindInMarks,e1,e2]
theorem d7 {op:CmpOp} {r:R2} (ho:fq X (compareOp op) r) (ha:PE X a ta) (hb:PE X b tb) (hm:behindInMarks op b=false):PE X (.Compare a [op] [b] pos) (E7 r ta tb):=by
 intro pins s U H Q I h
 exact wpAny_Compare1 (xJ ha hb I h λ v u s2 x y H2 I2 rx ry q=>ho pins s2 U H2 x y v u Q I2 rx ry q) hm
inductive Js (Q:Bool->Hp->Prop) (x:V) (H:Hp):Prop
 | mk (k:Bool) (h:x = .bl k) (q:Q k H)
def xc (t:TE):TT:=λ U H Q=>t U H (Js Q)
theorem aC {op:CmpOp} {r:R2} (ho:fq X (compareOp op) r) (ha:PE X a ta) (hb:PE X b tb) (hm:behindInMarks op b=false):PT X (.Compare a [op] [b] pos) (xc (E7 r ta tb)):=by
 intro pins s U H Q I h
 refine wpAny_isTrue_Compare1 (bX (ha pins s U H _ I h) λ v s1 ⟨x,H1,I1,r1,q1⟩=>bX (hb pins s1 U H1 _ I1 q1) λ u s2 ⟨y,H2,I2,r2,q2⟩ =>
   bX (ho pins s2 U H2 x y v u _ I2 r1 r2 q2) λ c s3 ⟨z,H3,I3,r3,k,e,q3⟩=>?_) hm
 subst e
 cases r3
 exact YW ⟨H3,I3,q3⟩
def xw (r r':R2) (ta tb tc:TE):TE:=λ U H Q=>ta U H λ x H1=>tb U H1 λ y H2=>r x y H2 λ z H3=>∃ k,z = .bl k /\
 (if k=true then tc U H3 λ w' H4=>r' y w' H4 Q else Q (.bl false) H3)
theorem su {op IA:CmpOp} {r r':R2} (ho:fq X (compareOp op) r) (pX:fq X (compareOp IA) r') (ha:PE X a ta) (hb:PE X b tb) (hc:PE X c tc) (hm:lastMarks [op,IA] [b,c]=false:=by with_unfolding_all rfl):PT X (.Compare a [op,IA] [b,c] pos) (xc (xw r r' ta tb tc)):=by
 intro pins s U H Q I h
 refine isTrue_chain (bX (ha pins s U H _ I h) λ v s1 ⟨x,H1,I1,r1,q1⟩=>test_link (bX (hb pins s1 U H1 _ I1 q1) λ u s2 ⟨y,H2,I2,r2,q2⟩ =>
   bX (ho pins s2 U H2 x y v u _ I2 r1 r2 q2) λ d s3 ⟨z,H3,I3,r3,k,e,q3⟩=>?_)) hm
 subst e
 cases r3
 refine YW ?_
 cases k with
 | false =>
   obtain ⟨k',e',q'⟩:=q3
   cases e'
   exact ite_ff ⟨H3,I3,q'⟩
 | true =>
   refine ite_tt (test_last (bX (hc pins s3 U H3 _ I3 q3) λ w' s4 ⟨z',H4,I4,r4,q4⟩=>bX (pX pins s4 U H4 y z' u w' _ I4 r2 r4 q4) λ d' s5 ⟨z2,H5,I5,r5,k2,e2,q5⟩=>?_))
   subst e2
   cases r5
   exact YW ⟨H5,I5,q5⟩
theorem o5:(sizeLine:Nat)<2 ^ 63:=by rw [sizeLine_eq];decide
theorem vals1 {x:V} (r:Vals [x] us):∃ u,us=[u]/\RelV x u:=by
 cases r with
 | cons r1 r2=>cases r2;exact ⟨_,rfl,r1⟩
theorem vals2 {x y:V} (r:Vals [x,y] us):∃ u w',us=[u,w']/\RelV x u/\RelV y w':=by
 cases r with
 | cons r1 r2 =>
   cases r2 with
   | cons r3 r4=>cases r4;exact ⟨_,_,rfl,r1,r3⟩
theorem f9:f6 X (.type "int") (λ xs H Q=>(∃ i,xs=[.int i]/\Q (.int i) H)∨∃ k,xs=[.bl k]/\Q (.int (if k then 1 else 0)) H):=by
 intro pins s U H xs us Q I r h
 rcases h with ⟨i,rfl,q⟩|⟨k,rfl,q⟩
 . obtain ⟨u,rfl,t,rfl⟩:=vals1 r
   exact call_int_int ⟨.int i,H,I,⟨_,rfl⟩,q⟩
 . obtain ⟨u,rfl,r1⟩:=vals1 r
   cases r1
   exact call_int_bool ⟨.int (if k then 1 else 0),H,I.tok _,⟨_,rfl⟩,q⟩
end
structure oC (h:Heap) (x dx C:Addr) (mA:Str->Option Value):Prop where
 obj:h.get? x=some (W.instObj C dx)
 ns:h.Ns1 dx mA
 ne:dx≠x
theorem rf {h:Heap} {mA:Str->Option Value} (n:h.Ns1 dx mA):∃ od,h.get? dx=some od/\∀ name,W.lookIn name od=some (mA name):=by
 obtain ⟨o,es,ep,ho,hd,hk,_,hm⟩:=n
 refine ⟨o,ho,λ name=>?_⟩
 have e:=hm name
 unfold nsFind findBy at e
 rw [← Array.find?_toList] at e
 unfold W.lookIn
 rw [hd]
 dsimp only
 split
 . rename_i y q
   rw [q] at e
   exact Ze some e
 .
  rename_i q
  rw [q] at e
  have a:es.toList.any (·.refKey)=false:=by
    rw [List.any_eq_false]
    intro y hy
    obtain ⟨z,t,JB⟩:=hk y (Array.mem_toList_iff.mp hy)
    simp [DictEntry.refKey,JB]
  have a':¬ es.toList.any (·.refKey)=true:=by rw [a];exact EE
  rw [YG a']
  exact Ze some e
theorem oC.look {h:Heap} {x:Addr} {mA:Str->Option Value} (I:oC h x dx C mA):∃ od,W.InstAt h x (W.instObj C dx) C (some od)/\∀ name,W.lookIn name od=some (mA name) :=
 let ⟨od,ho,hl⟩:=rf I.ns
 ⟨od,⟨I.obj,rfl,rfl,ho⟩,hl⟩
section
variable {prog:Program} {w:World} {A:Around} {E:Value->Shared->Prop} {s:Shared} {K:W.Frag} {x dx C f:Addr} {mA:Str->Option Value} {name:Str} {v:Value}
theorem get_map {expr:Bool} {Q:Value->Shared->Prop} (X:K.In s.heap) (I:oC s.heap x dx C mA) (hg:W.plainGet K C name=true) (hh:W.hasDictIn K C=true) (ha:W.findIn K (.ref C) name=some none) (hv:mA name=some v) (Fg:W.handedIn v=true) (h:Q v { s with toks:=s.toks+1 }) :
   wpAny (model prog w) A (getAttr (.ref x) name expr) Q E s:=by
 obtain ⟨od,J,hl⟩:=I.look
 exact W.get_value X J (W.plainGet_of hg).1 (W.findObj_own hh ha rfl (by rw [hl,hv])) Fg h
theorem uD {pl:Sem Bool} {Q:Value×List Value->Shared->Prop} (X:K.In s.heap) (I:oC s.heap x dx C mA) (hg:W.plainGet K C name=true) (hf:W.findIn K (.ref C) name=some (some (.ref f))) (ht:W.isFn K (.ref f)=true) (hv:mA name=none) (h:Q (.ref f,[.ref x]) s) :
   wpAny (model prog w) A (getMethod (.ref x) name pl) Q E s:=by
 obtain ⟨od,J,hl⟩:=I.look
 exact W.method_fn X J (W.plainGet_of hg).1 (W.plainGet_of hg).2 hf (beq_iff_eq.mp ht) (by show (W.lookIn name od).map (·.isSome)=some false;rw [hl,hv];rfl) h
theorem vG {ns:List Str} {Q:Unit->Shared->Prop} (X:K.In s.heap) (I:oC s.heap x dx C mA) (hs:W.findIn K (.ref C) "__setattr__" = some (some (.builtin "object.__setattr__"))) (hp:W.plainOver K C=true) (ht:W.takerIn K C name=some none) (hh:W.hasDictIn K C=true) (hw:PySem.Within mA ns) (hsz:ns.length<=sizeLine) (h:∀ h',oC h' x dx C (λ y=>if y=name then some v else mA y)->Heap.SameBut dx s.heap h'->Q () { s with heap:=h',toks:=s.toks+2 }) :
   wpAny (model prog w) A (setAttr (.ref x) name v) Q E s:=by
 obtain ⟨od,J,hl⟩:=I.look
 refine W.set_plain X J hs (W.osa_open (s:={ s with toks:=s.toks+1 }) (r:=none) X J hp ht λ b=>?_)
 obtain ⟨cd,hc,DK⟩:=W.any_some hh
 have hx:s.heap.get? x=some ⟨.ref C,some dx,.plain,#[]⟩:=I.obj
 refine yB (Wf (yB (yB (wpAny_loadPart hx (yB (W.Looks.here (s:={ s with toks:=s.toks+1 }) (W.looks_clsIn X hc) ?_))))))
 rw [DK]
 refine Wf (a:=some dx) (yB (Wf (yB ?_)))
 refine wpAny_nsSet1 (s:={ s with toks:=s.toks+1 }) I.ns λ h' UA Ul=>?_
 obtain ⟨oD,Ya,Yb,Vg,VY,VE⟩:=UA.count (PySem.Within.cons name v hw)
 refine yB (wpAny_lookBehind Vg (by rw [VY];exact pastItsLine_dict (YL VE (by rw [Y1];lia))) ?_)
 exact Wf (h _ ⟨(Ul.2 _ (Zi I.ne)).trans I.obj,UA,I.ne⟩ Ul)
theorem uk {R:Result->Shared->Prop} {vs:List Value} {kw:List (Str×Value)} (X:K.In s.heap) (hm:W.makesIn K C=true) (hi:W.findIn K (.ref C) "__init__" = some (some (.ref f))) (hf:W.typeIn K (.ref f)=some (.type "function")) (h:codeAny (model prog w) (A.under (.builtin "type.__call__" ⟨.ref C::vs,kw⟩)) (.call (.ref f) ⟨.ref (s.heap.objs.size+1)::vs,kw⟩) (W.InitBack (s.heap.objs.size+1) R)
     { s with heap:=(s.heap.push W.emptyDict).push (W.instObj C s.heap.objs.size)}) :
   codeAny (model prog w) A (.call (.ref C) ⟨vs,kw⟩) R s:=by
 obtain ⟨hh,g,d,t,os⟩:=s
 exact W.make_core (W.makes_of X hm) (W.looks_findIn X hi) (λ self=>W.bind_fn X self hf) (.inl rfl) h
end
def cE (f:Str) (v:V):List (Str×V)->List (Str×V)
 | []=>[(f,v)]
 | (g,x)::r=>if g=f then (g,v)::r else (g,x)::cE f v r
theorem iK (f g:Str) (v:V):∀ fs:List (Str×V),(cE f v fs).lookup g=if g=f then some v else fs.lookup g
 | []=>by
   show List.lookup g [(f,v)]=_
   by_cases h:g=f
   . have hb:(g == f)=true:=beq_iff_eq.mpr h
     simp only [List.lookup,hb,YK h]
   . have hb:(g == f)=false:=beq_eq_false_iff_ne.mpr h
     simp only [List.lookup,hb,YG h]
 | (k,x)::r=>by
   have ih:=iK f g v r
   rw [show cE f v ((k,x)::r)=(if k=f then (k,v)::r else (k,x)::cE f v r) from rfl]
   by_cases hk:k=f
   .
    rw [YK hk]
    by_cases h:g=k
    . have hb:(g == k)=true:=beq_iff_eq.mpr h
      simp only [List.lookup,hb,YK (h.trans hk)]
    . have hb:(g == k)=false:=beq_eq_false_iff_ne.mpr h
      simp only [List.lookup,hb,YG (λ e:g=f=>h (e.trans hk.symm))]
   .
    rw [YG hk]
    by_cases h:g=k
    . have hb:(g == k)=true:=beq_iff_eq.mpr h
      simp only [List.lookup,hb,YG (λ e:g=f=>hk (h.symm.trans e))]
    . have hb:(g == k)=false:=beq_eq_false_iff_ne.mpr h
      simp only [List.lookup,hb]
      exact ih
theorem ib (f:Str) (v:V):∀ fs:List (Str×V),f∈(cE f v fs).map (·.1)/\∀ g,g∈fs.map (·.1)->g∈(cE f v fs).map (·.1)
 | []=>⟨by simp [cE],λ g h=>by simp at h⟩
 | (k,x)::r=>by
   obtain ⟨i1,i2⟩:=ib f v r
   rw [show cE f v ((k,x)::r)=(if k=f then (k,v)::r else (k,x)::cE f v r) from rfl]
   by_cases hk:k=f
   . rw [YK hk]
     subst hk
     exact ⟨by simp,λ g h=>by simpa using h⟩
   .
    rw [YG hk]
    refine ⟨?_,λ g h=>?_⟩
    . rw [YT]
      exact Yy _ i1
    . rw [YT] at h ⊢
      rcases List.mem_cons.mp h with e|e
      . exact List.mem_cons.mpr (.inl e)
      . exact Yy _ (i2 g e)
theorem iz (f:Str) (v:V):∀ fs:List (Str×V),(cE f v fs).length<=fs.length+1
 | []=>by simp [cE]
 | (k,x)::r=>by
   have ih:=iz f v r
   rw [show cE f v ((k,x)::r)=(if k=f then (k,v)::r else (k,x)::cE f v r) from rfl]
   by_cases hk:k=f
   . rw [YK hk,Y1,Y1];lia
   . rw [YG hk,Y1,Y1];lia
theorem fw.some_of {v:V} {o:Option Value} (r:fw (some v) o):∃ u,o=some u/\RelV v u:=by
 cases o with
 | none=>exact (show False from r).elim
 | some u=>exact ⟨u,rfl,r⟩
theorem fw.none_of {o:Option Value} (r:fw none o):o=none:=by
 cases o with
 | none=>rfl
 | some u=>exact (show False from r).elim
theorem qX {v:V} (r:RelV v u):W.handedIn u=true:=by
 cases v with
 | bG=>cases (show u=Value.none from r);rfl
 | bl b=>cases (show u=Value.bool b from r);rfl
 | int i=>obtain ⟨t,e⟩:=(show ∃ t,u=Value.int i t from r);cases e;rfl
 | str x=>obtain ⟨t,e⟩:=(show ∃ t,u=Value.str x t from r);cases e;rfl
 | qT b=>obtain ⟨t,e⟩:=(show ∃ t,u=Value.bytes b t from r);cases e;rfl
 | wM b=>obtain ⟨t,e⟩:=(show ∃ t,u=Value.float b t from r);cases e;rfl
 | ref a=>cases (show u=Value.ref a from r);rfl
 | ty n=>cases (show u=Value.type n from r);rfl
section
variable {P:Program} {w:World} {H H':Hp} {h h':Heap} {a C dx:Addr} {fs fs':List (Str×V)}
theorem jj (bQ:hJ P w H h) (e:H a=some (.ins C dx fs)):∃ mA,oC h a dx C mA/\(∀ f,fw (fs.lookup f) (mA f))/\PySem.Within mA (fs.map (·.1))/\fs.length<=1000/\H dx=some (.own a):=by
 obtain ⟨d,z,ne,ob,mA,n,r,q⟩:=(show bt P w H h a (.ins C dx fs) from bQ a _ e)
 exact ⟨mA,⟨ob,n,ne⟩,r,q,z,d⟩
end
structure k6 (K:W.Frag) (C:Addr):Prop where
 pg:W.plainGet K C Str.empty=true
 hd:W.hasDictIn K C=true
 po:W.plainOver K C=true
 sa:W.findIn K (.ref C) "__setattr__" = some (some (.builtin "object.__setattr__"))
theorem k6.get {K:W.Frag} (c:k6 K C) (f:Str):W.plainGet K C f=true:=c.pg
def bH (K:W.Frag) (C:Addr) (f:Str):Prop:=W.findIn K (.ref C) f=some none
theorem bH.D0 {K:W.Frag} {f:Str} (n:bH K C f):W.takerIn K C f=some none:=by
 unfold W.takerIn
 rw [show W.findIn K (.ref C) f=some none from n]
 rfl
structure Meth (K:W.Frag) (C:Addr) (m:Str) (f:Addr):Prop where
 at_:W.findIn K (.ref C) m=some (some (.ref f))
 fn:W.isFn K (.ref f)=true
 kp:W.keepIn K (.ref f)=true
section
variable {X:Cx} {pins:List (Addr×Obj)} {U:St} {H:Hp} {s:Shared} {a C dx:Addr} {fs:List (Str×V)} {f:Str} {v:V} {A:Around} {E:Value->Shared->Prop}
theorem oK {b:Bool} {Q:Value->Shared->Prop} (I:Inv X pins U H s) (e:H a=some (.ins C dx fs)) (c:k6 X.K C) (n:bH X.K C f) (l:fs.lookup f=some v) (h:∀ u s',Inv X pins U H s'->RelV v u->Q u s'):wpAny (model X.prog X.w) A (getAttr (.ref a) f b) Q E s:=by
 obtain ⟨mA,O,r,_,_,_⟩:=jj I.bQ e
 obtain ⟨u,hu,ru⟩:=fw.some_of (v:=v) (o:=mA f) (by rw [← l];exact r f)
 exact get_map I.gE O (c.get f) c.hd n hu (qX ru) (h u _ (I.tok _) ru)
theorem jX {m:Str} {g:Addr} {pl:Sem Bool} {Q:Value×List Value->Shared->Prop} (I:Inv X pins U H s) (e:H a=some (.ins C dx fs)) (c:k6 X.K C) (k:Meth X.K C m g) (l:fs.lookup m=none) (h:Q (.ref g,[.ref a]) s):wpAny (model X.prog X.w) A (getMethod (.ref a) m pl) Q E s:=by
 obtain ⟨mA,O,r,_,_,_⟩:=jj I.bQ e
 have hn:mA m=none:=fw.none_of (by rw [← l];exact r m)
 exact uD I.gE O (c.get m) k.at_ k.fn hn h
theorem oV {y:V} {Q:Unit->Shared->Prop} (I:Inv X pins U H s) (e:H a=some (.ins C dx fs)) (c:k6 X.K C) (n:bH X.K C f) (hl:fs.length<1000) (ry:RelV y u) (h:∀ s',Inv X pins U (upd H a (.ins C dx (cE f y fs))) s'->Q () s'):wpAny (model X.prog X.w) A (setAttr (.ref a) f u) Q E s:=by
 obtain ⟨mA,O,r,wi,_,ho⟩:=jj I.bQ e
 have hz:(fs.map (·.1)).length<=sizeLine:=by rw [ET,sizeLine_eq];lia
 refine vG I.gE O c.sa c.po n.D0 c.hd wi hz λ h' O' sb=>h _ ?_
 have hd:∃ o,h'.get? dx=some o:=let ⟨o,_,_,e',_⟩:=O'.ns;⟨o,e'⟩
 refine I.write (x:=a) (e:=dx) (by rw [e];exact True.intro) (.inr ho) (λ b q hb z=>(sb.2 b hb).trans z) hd ?_
 refine ⟨by rw [aB O.ne];exact ho,?_,O.ne,O'.obj,_,O'.ns,λ g=>?_,λ g hg=>?_⟩
 . have:=iz f y fs;lia
 .
  show fw ((cE f y fs).lookup g) (if g=f then some u else mA g)
  rw [iK]
  by_cases q:g=f
  . rw [YK q,YK q];exact ry
  . rw [YG q,YG q];exact r g
 .
  by_cases q:g=f
  . rw [q];exact (ib f y fs).1
  . refine (ib f y fs).2 g (wi g λ z=>hg ?_)
    show (if g=f then some u else mA g)=none
    rw [YG q];exact z
theorem Inv.made (I:Inv X pins U H s):Inv X pins U (upd (upd H s.heap.objs.size (.own (s.heap.objs.size+1))) (s.heap.objs.size+1) (.ins C s.heap.objs.size []))
   { s with heap:=(s.heap.push W.emptyDict).push (W.instObj C s.heap.objs.size)}:=by
 have e1:(s.heap.push W.emptyDict).get? s.heap.objs.size=some W.emptyDict:=Yt s.heap rfl
 have e2:((s.heap.push W.emptyDict).push (W.instObj C s.heap.objs.size)).get? (s.heap.objs.size+1)=some (W.instObj C s.heap.objs.size):=by
   have:=Yt (s.heap.push W.emptyDict) (o:=W.instObj C s.heap.objs.size) rfl
   rwa [Zx] at this
 have e3:(s.heap.push W.emptyDict).Ns s.heap.objs.size (λ _=>none):=⟨W.emptyDict,#[],_,e1,rfl,(λ e he=>absurd he (by simp)),λ _=>rfl⟩
 have I1:=I.laid (a:=s.heap.objs.size) (o:=.own (s.heap.objs.size+1)) (h':=s.heap.push W.emptyDict) (t':=s.toks) (λ b u q=>be _ q) (oX _) ⟨_,e1⟩
 refine I1.laid (a:=s.heap.objs.size+1) (o:=.ins C s.heap.objs.size []) (t':=s.toks) (λ b u q=>be _ q) (Nat.le_of_eq (Zx _ _)) ?_
 have ne:s.heap.objs.size≠s.heap.objs.size+1:=Yz (Zy _)
 refine ⟨by rw [aB ne,ae],YX _,ne,e2,λ _=>none,(Heap.Ns1.of_empty e3).at λ o q=>be _ q,λ _=>True.intro,λ y hy=>absurd rfl hy⟩
theorem va {prog:Program} {w:World} {env:Env} {e:Expr} {f:Str} {pos:Pos} {s:Shared} {Q:Value->Shared->Prop} (hb:attributeBase e f env (eval e env)=eval e env) (h:wpAny (model prog w) A (eval e env) (λ o s₁=>wpAny (model prog w) A (getAttr o f true) Q E s₁) E s):wpAny (model prog w) A (eval (.Attribute e f pos) env) Q E s :=
 Attribute_any_ h (by rw [arm_eval_Attribute,hb])
end
inductive Ce (K:W.Frag) (f:Str) (Q:VK) (x:V) (H1:Hp):Prop
 | mk (a C dx:Addr) (fs:List (Str×V)) (v:V) (h1:x = .ref a) (h2:H1 a=some (.ins C dx fs)) (h3:k6 K C) (h4:bH K C f) (h5:fs.lookup f=some v) (q:Q v H1)
def Md (K:W.Frag) (ta:TE) (f:Str):TE:=λ U H Q=>ta U H (Ce K f Q)
def OJ (K:W.Frag) (ta tv:TE) (f:Str):TS:=λ D U H=>tv U H λ y H1=>ta U H1 λ x H2=>∃ a C dx fs,x = .ref a/\H2 a=some (.ins C dx fs)/\k6 K C/\bH K C f/\fs.length<1000 /\
 D.nx U (upd H2 a (.ins C dx (cE f y fs)))
section
variable {X:Cx} {o e value:Expr} {f:Str} {pos pos' AQ:Pos} {ta tv:TE}
theorem aZ (he:PE X e ta) (hb:attributeBase e f X.env (eval e X.env)=eval e X.env):PE X (.Attribute e f pos) (Md X.K ta f):=by
 intro pins s U H Q I h
 refine va hb (bX (he pins s U H _ I h) λ u s1 ⟨x,H1,I1,rx,a,C,dx,fs,v,ex,ea,c,n,l,q⟩=>?_)
 subst ex
 obtain rfl:u=Value.ref a:=rx
 exact oK I1 ea c n l λ u' s2 I2 ru=>⟨v,H1,I2,ru,q⟩
theorem fY (ha:PE X o ta) (hv:PE X value tv) (hs:swapsWith value (some (.Attribute o f pos')) pos.line X.env=pure false):PS X (.Assign [.Attribute o f pos'] value pos) (OJ X.K ta tv f):=by
 intro pins s U H D I h
 refine plainObj_wpAny_Assign_Attribute (bX (hv pins s U H _ I h) λ u s1 ⟨y,H1,I1,ry,q⟩=>bX (ha pins s1 U H1 _ I1 q) λ ov s2 ⟨x,H2,I2,rx,a,C,dx,fs,ex,ea,c,n,l,q2⟩=>?_) hs
 subst ex
 obtain rfl:ov=Value.ref a:=rx
 exact oV I2 ea c n l ry λ s3 I3=>⟨U,_,I3,q2⟩
end
section
variable {X:Cx} {pins:List (Addr×Obj)} {U:St} {H:Hp} {s:Shared} {A:Around} {E:Value->Shared->Prop} {Q:Value->Shared->Prop} {c:Value} {b:Bool}
inductive gf (K:W.Frag) (H:Hp):V->Value->Prop where
 | bG:gf K H .bG (.type "NoneType")
 | bl (x:Bool):gf K H (.bl x) (.type "bool")
 | int (i:Int):gf K H (.int i) (.type "int")
 | str (x:Str):gf K H (.str x) (.type "str")
 | wM (x:UInt64):gf K H (.wM x) (.type "float")
 | lst {a:Addr} {xs:List V} (e:H a=some (.lst xs)):gf K H (.ref a) (.type "list")
 | kY {a:Addr} {o:Obj} {xs:List V} (e:H a=some (.kY o (.lst xs))):gf K H (.ref a) (.type "list")
 | tup {a:Addr} {xs:List V} (e:H a=some (.tup xs)):gf K H (.ref a) (.type "tuple")
 | dK {a:Addr} {kvs:List (Key×V)} (e:H a=some (.dK kvs)):gf K H (.ref a) (.type "dict")
 | dT {a:Addr} {kvs:List (List Key×V)} (e:H a=some (.dT kvs)):gf K H (.ref a) (.type "dict")
 | ins {a C dx:Addr} {fs:List (Str×V)} (e:H a=some (.ins C dx fs)) (cl:k6 K C) (ha:W.findIn K (.ref C) "__class__" = some (some (.builtin "object.__class__")))
     (hn:W.specialIn K (.builtin "object.__class__") "__get__" = some (some (.builtin "getset_descriptor.__get__"))) (UL:W.takesIn K (.builtin "object.__class__")=some true)
     (hm:W.mroIn K C (.type "object")=some true):gf K H (.ref a) (.ref C)
theorem qV {x:V} {t:Value} (I:Inv X pins U H s) (rx:RelV x u) (ty:gf X.K H x t) (e:W.kitOne X.K t c=some b) (h:∀ tk,Q (.bool b) { s with toks:=tk }) :
   wpAny (model X.prog X.w) A (call (.builtin "isinstance") [u,c]) Q E s:=by
 cases ty with
 | bG=>cases (show u=Value.none from rx);exact Zb W.kitx_none I.gE True.intro e (λ z=>nomatch z) h
 | bl y=>cases (show u=Value.bool y from rx);exact Zb W.kitx_bool I.gE True.intro e (λ z=>nomatch z) h
 | int i=>obtain ⟨t,q⟩:=(show ∃ t,u=Value.int i t from rx);cases q;exact Zb W.kitx_int I.gE True.intro e (λ z=>nomatch z) h
 | str y=>obtain ⟨t,q⟩:=(show ∃ t,u=Value.str y t from rx);cases q;exact Zb W.kitx_str I.gE True.intro e (λ z=>nomatch z) h
 | wM y=>obtain ⟨t,q⟩:=(show ∃ t,u=Value.float y t from rx);cases q;exact Zb W.kitx_float I.gE True.intro e (λ z=>nomatch z) h
 | @lst a xs ea =>
   cases (show u=Value.ref a from rx)
   obtain ⟨_,_,n,_,h1⟩:=(show bt X.prog X.w H s.heap a (.lst xs) from I.bQ a _ ea)
   exact Zb W.kitx_list I.gE ⟨_,h1,rfl⟩ e (λ z=>nomatch z) h
 | @kY a ob xs ea =>
   cases (show u=Value.ref a from rx)
   obtain ⟨_,_,_,n,_,h1⟩:=(show bt X.prog X.w H s.heap a (.kY ob (.lst xs)) from I.bQ a _ ea)
   exact Zb W.kitx_list I.gE ⟨_,h1,rfl⟩ e (λ z=>nomatch z) h
 | @tup a xs ea =>
   cases (show u=Value.ref a from rx)
   obtain ⟨_,_,_,p⟩:=(show bt X.prog X.w H s.heap a (.tup xs) from I.bQ a _ ea)
   obtain ⟨o,h1,h2,_⟩:=p
   exact Zb W.kitx_tuple I.gE ⟨o,h1,h2⟩ e (λ z=>nomatch z) h
 | @dK a kvs ea =>
   cases (show u=Value.ref a from rx)
   obtain ⟨_,_,vs,_,p⟩:=(show bt X.prog X.w H s.heap a (.dK kvs) from I.bQ a _ ea)
   obtain ⟨o,es,ep,h1,h2,_⟩:=p
   exact Zb W.kitx_dict I.gE ⟨o,h1,h2.1⟩ e (λ z=>nomatch z) h
 | @dT a kvs ea =>
   cases (show u=Value.ref a from rx)
   obtain ⟨_,_,xs,_,o,es,ep,h1,h2,_⟩:=(show bt X.prog X.w H s.heap a (.dT kvs) from I.bQ a _ ea)
   exact Zb W.kitx_dict I.gE ⟨o,h1,h2.1⟩ e (λ z=>nomatch z) h
 | @ins a C dx fs ea cl ha hn UL hm =>
   cases (show u=Value.ref a from rx)
   obtain ⟨mA,O,_⟩:=jj I.bQ ea
   obtain ⟨od,J,_⟩:=O.look
   exact Zb (W.kitx_own (cl.get _) cl.hd ha hn UL hm) I.gE J e (λ z=>nomatch z) h
end
structure bS (k:Nat) (A:Around):Prop where
 hd:A.handled=none
 dp:A.depth+3 * k+5<recursionLimit
 un:A.units+16 * k+200<cLine
theorem bS.mono {k:Nat} {A:Around} (r:bS k A) (h:j<=k):bS j A:=⟨r.hd,by have:=r.dp;lia,by have:=r.un;lia⟩
theorem bS.deeper {k:Nat} {A:Around} (r:bS (k+1) A) (env:Env):bS k (A.deeper env) :=
 ⟨r.hd,by have:=r.dp;show A.depth+1+3 * k+5<_;lia,by have:=r.un;show A.units+3+16 * k+200<_;lia⟩
theorem ph {A:Around} {kw:List (Str×Value)}:(A.under (.builtin "type.__call__" ⟨.ref C::us,kw⟩)).depth=A.depth+1:=by
 first|rfl|simp [Around.under,Code.weight,Code.isCreation,Code.isGuard,Code.isCaller,Code.frames,Code.isFrame,guardIds]
theorem o9 {A:Around} {kw:List (Str×Value)}:(A.under (.builtin "type.__call__" ⟨.ref C::us,kw⟩)).units=A.units+1:=by
 first|rfl|simp [Around.under,Code.cUnits,Code.frames,Code.isFrame]
theorem bS.make {k:Nat} {A:Around} (r:bS (k+1) A) (C:Addr) (us:List Value) (kw:List (Str×Value)):bS k (A.under (.builtin "type.__call__" ⟨.ref C::us,kw⟩)) :=
 ⟨r.hd,by have:=r.dp;rw [ph];lia,by have:=r.un;rw [o9];lia⟩
theorem bS.depth {k:Nat} {A:Around} (r:bS k A):A.depth<recursionLimit:=by have:=r.dp;lia
theorem bS.units {k:Nat} {A:Around} (r:bS k A):A.units+64<cLine:=by have:=r.un;lia
def B4:TA:=λ _ H Q=>Q [] H
def Ar (ta:TE) (tr:TA):TA:=λ U H Q=>ta U H λ x H1=>tr U H1 λ xs H2=>Q (x::xs) H2
section
variable {X:Cx} {e:Expr} {es:List Expr} {te:TE} {t:TA} {pos:Pos}
theorem ag:PA X [] B4:=λ _ _ _ _ H Q I h=>Calls.spliced_nil ⟨[],H,I,.nil,h⟩
theorem aa (ha:PE X e te) (hr:PA X es t) (hs:starEach (e::es) X.env=(false,eval e X.env)::starEach es X.env:=by rfl):PA X (e::es) (Ar te t):=by
 intro pos pins s U H Q I h
 rw [hs]
 show wpAny _ _ (spliced ((false,eval e X.env)::backTo pos (starEach es X.env))) _ _ s
 refine Calls.spliced_cons (bX (ha pins s U H _ I h) λ u s1 ⟨x,H1,I1,r1,q1⟩=>?_)
 exact bX (hr pos pins s1 U H1 _ I1 q1) λ us s2 ⟨xs,H2,I2,r2,q2⟩=>⟨x::xs,H2,I2,.cons r1 r2,q2⟩
def NH (t:TA):TE:=λ U H Q=>t U H λ xs H1=>xs.length<=sizeLine/\∀ p,H1 p=none->Q (.ref p) (upd H1 p (.tup xs))
def O7 (t:TA):TE:=λ U H Q=>t U H λ xs H1=>xs.length<=sizeLine/\∀ p,H1 p=none->Q (.ref p) (upd H1 p (.lst xs))
theorem bq {x1} (h:PA X es t):PE X (.Tuple es x1 pos) (NH t):=by
 intro pins s U H Q I hq
 refine wpAny_Tuple_spliced (bX (h pos pins s U H _ I hq) λ us s1 ⟨xs,H1,I1,r,z,q⟩=>⟨by rw [← r.length];exact z,?_⟩)
 have hf:H1 s1.heap.objs.size=none:=I1.bQ.fresh (oX _)
 refine ⟨.ref s1.heap.objs.size,upd H1 s1.heap.objs.size (.tup xs),I1.laid (t':=s1.toks) (λ b u e=>be _ e) (oX _) ?_,rfl,q _ hf⟩
 exact ⟨z,us,r,⟨_,Yt _ rfl,rfl,_,rfl⟩⟩
theorem fT (h:PA X es t):PE X (.List es pos) (O7 t):=by
 intro pins s U H Q I hq
 refine wpAny_List_spliced (bX (h pos pins s U H _ I hq) λ us s1 ⟨xs,H1,I1,r,z,q⟩=>⟨by rw [← r.length];exact z,?_⟩)
 have hf:H1 s1.heap.objs.size=none:=I1.bQ.fresh (oX _)
 refine ⟨.ref s1.heap.objs.size,upd H1 s1.heap.objs.size (.lst xs),I1.laid (t':=s1.toks) (λ b u e=>be _ e) (oX _) ?_,rfl,q _ hf⟩
 exact ⟨z,us,0,r,Yt _ rfl⟩
end
abbrev Sp:=List V->Hp->VK->XK->Prop
abbrev ux:=List Env->Hp->Shared->XK->Value->Shared->Prop
structure oR (P:Program) (w:World) (K:W.Frag) (mg:Str->Option Value) (base:Heap) (A:Around) (outer:List Env) (s:Shared) (H:Hp):Prop where
 frames:A.frames=some outer
 mod:Mod K mg base
 bs:∀ b o,base.get? b=some o->s.heap.get? b=some o/\H b=none
 wI:base.objs.size<=s.heap.objs.size
 iT:s.heap.FunFrames base outer
 xB:∀ b∈rp outer,H b=none
 bQ:hJ P w H s.heap
 bare:AllBare s.gens
def CE (outer:List Env) (P:Program) (w:World) (H:Hp) (s:Shared) (Q:VK) (u:Value) (s':Shared):Prop :=
 ∃ v H',s'.os=s.os/\AllBare s'.gens/\Un (rp outer) [] H H' s.heap s'.heap/\hJ P w H' s'.heap/\RelV v u/\Q v H'
def CR (CX:ux) (outer:List Env) (P:Program) (w:World) (H:Hp) (s:Shared) (Q:VK) (E:XK) (r:Result) (s':Shared):Prop :=
 match r with
 | .ok (.ret u)=>CE outer P w H s Q u s'
 | .ok _=>False
 | .error e=>CX outer H s E e s'
structure dg (P:Program) (w:World) (K:W.Frag) (mg:Str->Option Value) (base:Heap) (CX:ux) (k:Nat) (f:Addr) (fd:FuncData) (ps:List Str) (sp:Sp):Prop where
 len:∀ vs H Q E,sp vs H Q E->vs.length=ps.length
 run:∀ (A:Around) (outer:List Env) (s:Shared) (H:Hp) (args:Args) (us:List Value) (vs:List V) (Q:VK) (E:XK),bS k A->oR P w K mg base A outer s H->BindsTo s fd args (ps.zip us)->Vals vs us->sp vs H Q E ->
   codeAny (model P w) A (.call (.ref f) args) (CR CX outer P w H s Q E) s
theorem dg.mono {P:Program} {w:World} {K:W.Frag} {mg:Str->Option Value} {base:Heap} {CX:ux} {k:Nat} {f:Addr} {fd:FuncData} {ps:List Str} {sp:Sp} (F:dg P w K mg base CX j f fd ps sp) (h:j<=k) :
   dg P w K mg base CX k f fd ps sp:=⟨F.len,λ A outer s H args us vs Q E hr=>F.run A outer s H args us vs Q E (hr.mono h)⟩
theorem oR.make {P:Program} {w:World} {K:W.Frag} {mg:Str->Option Value} {base:Heap} {A:Around} {outer:List Env} {s:Shared} (e:oR P w K mg base A outer s H) (C:Addr) (us:List Value) (kw:List (Str×Value)) :
   oR P w K mg base (A.under (.builtin "type.__call__" ⟨.ref C::us,kw⟩)) outer s H:=⟨by first|exact e.frames|(simpa [Around.under,Code.envs,Code.isFrame,pushEnvs] using e.frames),e.mod,e.bs,e.wI,e.iT,e.xB,e.bQ,e.bare⟩
section
variable {X:Cx} {pins:List (Addr×Obj)} {U:St} {H:Hp} {s s':Shared}
theorem Inv.Ep (I:Inv X pins U H s):oR X.prog X.w X.K X.mg X.base X.A X.stack s H :=
 ⟨I.ok.frames,I.ok.mod,I.bs,YL I.ok.wI I.sz,I.stack,I.pD,I.bQ,I.bare⟩
theorem Inv.after (I:Inv X pins U H s) (h:CE X.stack X.prog X.w H s Q u s'):EP X pins U Q u s':=by
 obtain ⟨v,H',os,bare,un,bQ,r,q⟩:=h
 obtain ⟨hh,g,d,t,Vj⟩:=s'
 obtain rfl:Vj=s.os:=os
 exact ⟨v,H',I.call (h':=hh) (g':=g) (d':=d) (t':=t) (ch:=[]) un bQ bare (λ b z=>absurd z (by simp)),r,q⟩
end
def pp (sp:Sp) (hV:List V) (E:XK) (t:TA):TE:=λ U H Q=>t U H λ vs H1=>sp (vs++hV) H1 Q E
def sh (C:Addr) (sp:Sp) (hV:List V) (E:XK) (t:TA):TE:=λ U H Q=>t U H λ vs H1=>∀ x dx,H1 x=none->H1 dx=none->dx≠x ->
 sp (.ref x::(vs++hV)) (upd (upd H1 dx (.own x)) x (.ins C dx [])) (λ v H2=>v = .bG/\Q (.ref x) H2) E
def Binds (K:W.Frag) (fd:FuncData) (ps:List Str) (ds:List Value):Prop :=
 ∀ (s:Shared) (us:List Value),K.In s.heap->(us++ds).length=ps.length->BindsTo s fd ⟨us,[]⟩ (ps.zip (us++ds))
theorem Binds.all {K:W.Frag} {fd:FuncData} {ps:List Str} (h:∀ us:List Value,us.length=ps.length->bindArgs fd ⟨us,[]⟩=pure (ps.zip us)):Binds K fd ps []:=λ s us _ hl=>by
 rw [List.append_nil] at hl ⊢
 exact .of_eq (h us hl)
def Passes (CX:ux) (X:Cx) (E:XK):Prop:=∀ (pins:List (Addr×Obj)) (U:St) (H:Hp) (s:Shared) (e:Value) (s':Shared),Inv X pins U H s->CX X.stack H s E e s'->X.xe e s'
section
variable {X:Cx} {CX:ux} {k:Nat} {f C:Addr} {fd:FuncData} {ps:List Str} {sp:Sp} {hV:List V} {ds:List Value} {E:XK} {x m:Str} {p pos apos:Pos} {e o:Expr} {es:List Expr} {ta:TE} {t:TA}
theorem lE {s:Shared} {vs:List V} (F:dg X.prog X.w X.K X.mg X.base CX k f fd ps sp) (hr:bS k X.A) (hb:Binds X.K fd ps ds) (hd:Vals hV ds) (hx:Passes CX X E) (I:Inv X pins U H s) (r:Vals vs us) (h:sp (vs++hV) H Q E):wpAny (model X.prog X.w) X.A (call (.ref f) us) (EP X pins U Q) X.xe s:=by
 have r2:Vals (vs++hV) (us++ds):=r.append hd
 have hl:(us++ds).length=ps.length:=by rw [← r2.length];exact F.len _ _ _ _ h
 refine wpAny_call (ZH (F.run X.A X.stack s H ⟨us,[]⟩ (us++ds) (vs++hV) Q E hr I.Ep (hb s us I.gE hl) r2 h) λ r s' hq=>?_)
 cases r with
 | error e=>exact hx pins U H s e s' I hq
 | ok fl =>
   cases fl with
   | ret u=>exact I.after hq
   | next=>exact False.elim hq
   | brk=>exact False.elim hq
   | cont=>exact False.elim hq
theorem vd (F:dg X.prog X.w X.K X.mg X.base CX k f fd ps sp) (hr:bS k X.A) (hg:Gl X x) (hm:X.mg x=some (.ref f)) (hk:W.keepIn X.K (.ref f)=true) (hb:Binds X.K fd ps ds) (hd:Vals hV ds) (hx:Passes CX X E) (ha:PA X (e::es) t) (lU:(x == ("__debug__" : Str))=false:=by decide) (he:starEach (e::es) X.env=(false,eval e X.env)::starEach es X.env:=by rfl) (eF:(backTo pos (starEach es X.env)).any (·.1)=false:=by rfl) :
   PE X (.Call (.Name x p) (e::es) [] pos) (pp sp hV E t):=by
 intro pins s U H Q I h
 refine Za (jh I hg hm ?_ lU)
 refine ZI (h₀:=X.base) I.ok.mod.uN hk (bX (ha pos pins s U H _ I h) λ us s1 ⟨vs,H1,I1,r,q⟩=>⟨I1.gE,?_⟩) he eF
 exact lE F hr hb hd hx I1 r q
structure Mk (K:W.Frag) (C f:Addr):Prop where
 makes:W.makesIn K C=true
 init:W.findIn K (.ref C) "__init__" = some (some (.ref f))
 fn:W.isFn K (.ref f)=true
 kp:W.keepIn K (.ref C)=true
theorem sC {s:Shared} {vs:List V} (M:Mk X.K C f) (F:dg X.prog X.w X.K X.mg X.base CX k f fd ps sp) (hr:bS (k+1) X.A) (hb:Binds X.K fd ps ds) (hd:Vals hV ds) (hx:Passes CX X E) (I:Inv X pins U H s) (r:Vals vs us) (h:∀ x dx,H x=none->H dx=none->dx≠x->sp (.ref x::(vs++hV)) (upd (upd H dx (.own x)) x (.ins C dx [])) (λ v H2=>v = .bG/\Q (.ref x) H2) E) :
   wpAny (model X.prog X.w) X.A (call (.ref C) us) (EP X pins U Q) X.xe s:=by
 have hq:=h (s.heap.objs.size+1) s.heap.objs.size (I.bQ.fresh (ZZ _)) (I.bQ.fresh (oX _)) (Yz (Zy _))
 have I2:=Inv.made (C:=C) I
 have r2:Vals (V.ref (s.heap.objs.size+1)::(vs++hV)) (Value.ref (s.heap.objs.size+1)::(us++ds)):=.cons rfl (r.append hd)
 have hl:(Value.ref (s.heap.objs.size+1)::us++ds).length=ps.length:=by
   have e:=r2.length
   rw [F.len _ _ _ _ hq] at e
   exact e.symm
 refine wpAny_call (uk (f:=f) I.gE M.makes M.init (beq_iff_eq.mp M.fn) (ZH (F.run _ X.stack _ _ ⟨Value.ref (s.heap.objs.size+1)::us,[]⟩ (Value.ref (s.heap.objs.size+1)::(us++ds)) _ _ E (hr.make C us [])
   (I2.Ep.make C us []) (hb _ (Value.ref (s.heap.objs.size+1)::us) I2.gE hl) r2 hq) λ r s' C8=>?_))
 cases r with
 | error e=>exact hx pins U _ _ e s' I2 C8
 | ok fl =>
   cases fl with
   | ret u =>
     obtain ⟨v,H',I3,rv,ev,q3⟩:=I2.after C8
     subst ev
     exact ⟨rv,⟨V.ref (s.heap.objs.size+1),H',I3,rfl,q3⟩⟩
   | next=>exact False.elim C8
   | brk=>exact False.elim C8
   | cont=>exact False.elim C8
theorem vZ (M:Mk X.K C f) (F:dg X.prog X.w X.K X.mg X.base CX k f fd ps sp) (hr:bS (k+1) X.A) (hg:Gl X x) (hm:X.mg x=some (.ref C)) (hb:Binds X.K fd ps ds) (hd:Vals hV ds) (hx:Passes CX X E) (ha:PA X (e::es) t) (lU:(x == ("__debug__" : Str))=false:=by decide) (he:starEach (e::es) X.env=(false,eval e X.env)::starEach es X.env:=by rfl) (eF:(backTo pos (starEach es X.env)).any (·.1)=false:=by rfl) :
   PE X (.Call (.Name x p) (e::es) [] pos) (sh C sp hV E t):=by
 intro pins s U H Q I h
 refine Za (jh I hg hm ?_ lU)
 refine ZI (h₀:=X.base) I.ok.mod.uN M.kp (bX (ha pos pins s U H _ I h) λ us s1 ⟨vs,H1,I1,r,q⟩=>⟨I1.gE,?_⟩) he eF
 exact sC M F hr hb hd hx I1 r q
end
section
variable {X:Cx} {CX:ux} {k:Nat} {f C:Addr} {fd:FuncData} {ps ks:List Str} {sp:Sp} {E:XK} {x m:Str} {p pos apos Xb:Pos} {e o:Expr} {es:List Expr} {XT:List Keyword} {te ta:TE} {t tk:TA} {nm:Option Str}
variable {g:List Value->List Value->List Value} {gV:List V->List V->List V}
end
structure av (N P:List Str) (sc:Scope):Prop where
 kind:sc.kind = .function
 co:sc.isCoroutine=false
 gen:sc.isGenerator=false
 nd:N.Nodup
 pre:N.take P.length=P
 par:∀ x∈P,sc.names.lookup x=some .local∨sc.names.lookup x=some .cell
 xH:∀ y∈sc.names,y.2 ≠ .free
theorem lz {kindOf:Str->Option NameKind} {x:Str}:∀ {binds:List (Str×Value)} {m:Str->Option Value},(∀ v,(x,v)∉binds)->bindL kindOf binds m x=m x
 | [],_,_=>rfl
 | (n,v)::r,m,h=>by
   unfold bindL
   rw [lz λ w hw=>h w (Yy _ hw)]
   split
   . have:x≠n:=by rintro rfl;exact h v YI
     simp [this]
   . rfl
theorem kU {kindOf:Str->Option NameKind} {x:Str}:∀ {binds:List (Str×Value)} {m:Str->Option Value},(∀ v,(x,v)∉binds)->bindC kindOf binds m x=m x
 | [],_,_=>rfl
 | (n,v)::r,m,h=>by
   unfold bindC
   rw [kU λ w hw=>h w (Yy _ hw)]
   split
   . rfl
   . have:x≠n:=by rintro rfl;exact h v YI
     simp [this]
theorem k7 {kindOf:Str->Option NameKind} {x:Str} {v:Value}:∀ {P:List Str} {vs:List Value} {i:Nat} {m:Str->Option Value},P.Nodup->P[i]?=some x->vs[i]?=some v->kindOf x=some .local ->
   bindL kindOf (P.zip vs) m x=some v
 | [],_,_,_,_,h,_,_=>by simp at h
 | _::_,[],_,_,_,_,h,_=>by simp at h
 | p::P,w::vs,0,m,nd,h1,h2,hk=>by
   simp at h1 h2;subst h1;subst h2
   show bindL kindOf ((p,w)::P.zip vs) m p=_
   unfold bindL
   rw [lz λ v hv=>(List.nodup_cons.mp nd).1 (ZA hv).1,YK hk]
   simp
 | p::P,w::vs,i+1,m,nd,h1,h2,hk=>by
   show bindL kindOf ((p,w)::P.zip vs) m x=_
   unfold bindL
   exact k7 (i:=i) (List.nodup_cons.mp nd).2 (by simpa using h1) (by simpa using h2) hk
theorem kX {kindOf:Str->Option NameKind} {x:Str} {v:Value}:∀ {P:List Str} {vs:List Value} {i:Nat} {m:Str->Option Value},P.Nodup->P[i]?=some x->vs[i]?=some v->kindOf x≠some .local ->
   bindC kindOf (P.zip vs) m x=some v
 | [],_,_,_,_,h,_,_=>by simp at h
 | _::_,[],_,_,_,_,h,_=>by simp at h
 | p::P,w::vs,0,m,nd,h1,h2,hk=>by
   simp at h1 h2;subst h1;subst h2
   show bindC kindOf ((p,w)::P.zip vs) m p=_
   unfold bindC
   rw [kU λ v hv=>(List.nodup_cons.mp nd).1 (ZA hv).1,YG hk]
   simp
 | p::P,w::vs,i+1,m,nd,h1,h2,hk=>by
   show bindC kindOf ((p,w)::P.zip vs) m x=_
   unfold bindC
   exact kX (i:=i) (List.nodup_cons.mp nd).2 (by simpa using h1) (by simpa using h2) hk
def start (N:List Str) (vs:List V):St:=vs.map some++List.replicate (N.length - vs.length) none
def iN (CX:ux) (P:Program) (w:World) (K:W.Frag) (mg:Str->Option Value) (base:Heap) (N:List Str) (qual:Str) (scope:Scope) (f:Addr) (cd:Value) (A:Around) (outer:List Env) (s:Shared) (H:Hp) (E:XK):Cx where
 prog:=P
 w:=w
 K:=K
 mg:=mg
 base:=base
 A:=A.deeper (envOfC qual scope s.heap.objs.size f cd)
 N:=N
 s₀:=s
 H₀:=H
 env:=envOfC qual scope s.heap.objs.size f cd
 outer:=outer
 stack:=envOfC qual scope s.heap.objs.size f cd::outer
 ex:=[]
 calm:=true
 fn:=λ _=>true
 pn:=[]
 xe:=λ e s'=>wpAny (model P w) (A.deeper (envOfC qual scope s.heap.objs.size f cd)) (leaving (envOfC qual scope s.heap.objs.size f cd) e) (λ _ KW=>CX outer H s E e KW) (λ e' KW=>CX outer H s E e' KW) s'
theorem m9 {sc:Scope} {n:Nat} {x:Str} (h:sc.names.lookup x=some .cell):∃ c,(cellsFrom n sc.names []).lookup x=some c:=by
 have q:=W.cellsFrom_some sc.names n [] (.inl h)
 exact Option.isSome_iff_exists.mp q
theorem qP {CX:ux} {P:Program} {w:World} {K:W.Frag} {mg:Str->Option Value} {base:Heap} {N ps:List Str} {scope:Scope} {f:Addr} {cd:Value} {A:Around} {outer:List Env} {s s1:Shared} {E:XK} {vs:List V} (S:av N ps scope) (hd:A.handled=none) (e0:oR P w K mg base A outer s H) (hl:vs.length=ps.length) (r:Vals vs us) (x:InCallC s s.heap.objs.size (bindL (envOfC qual scope s.heap.objs.size f cd).kindOf (ps.zip us) λ _=>none) (cellsFrom (s.heap.objs.size+1) scope.names []) (bindC (envOfC qual scope s.heap.objs.size f cd).kindOf (ps.zip us) λ _=>none) s1) :
   Inv (iN CX P w K mg base N qual scope f cd A outer s H E) [] (start N vs) H s1:=by
 have eF:ps.length<=N.length:=by have:=Ze List.length S.pre;rw [Zf] at this;lia
 obtain ⟨h1,tk,rfl,hk⟩:=x.done
 have BO:∀ b:Addr,b∉(iN CX P w K mg base N qual scope f cd A outer s H E).ex:=λ b z=>absurd (show b∈([]:List Addr) from z) (by simp)
 refine ⟨⟨e0.mod,S.kind,rfl,rfl,oX _,λ y z c h1 h2=>?_,λ y hy=>?_,λ y c _ h=>?_,λ _=>hd,Around.frames_deeper e0.frames,.inr ⟨rfl,rfl⟩,λ b z=>absurd z (BO b),e0.bs,e0.wI,λ b _ _=>BO b,λ b z=>absurd z (BO b),e0.iT,e0.xB⟩,
   rfl,e0.bare,Un.kept hk,⟨_,x.toInCall.ns,λ i y v h1 h2 h3=>?_⟩,λ y c h=>⟨_,x.cell y c h⟩,e0.bQ.fresh (oX _),λ y c h=>?_,λ p hp=>absurd (show p∈([]:List (Addr×Obj)) from hp) (by simp),e0.bQ.kept hk,?_⟩
 . exact name_of_addr x.apart (YV h1) (YV h2)
 .
  have hy:scope.names.lookup y=some .cell∨scope.names.lookup y=some .free:=hy
  rcases hy with hy|hy
  . exact m9 hy
  . exact absurd rfl (S.xH _ (YV hy))
 . exact Zw (x.above y c (YV h))
 .
  have hi:i<vs.length:=by
    unfold start at h2
    by_cases hi:i<vs.length
    . exact hi
    . rw [Y2 (by simpa using hi)] at h2
      rw [ZP] at h2
      split at h2<;>cases h2
  have ha:vs[i]?=some v:=by
    unfold start at h2
    rw [ZF (by simpa using hi),YN] at h2
    cases e:vs[i]? with
    | none=>rw [e] at h2;cases h2
    | some a=>rw [e] at h2;cases h2;rfl
  obtain ⟨u,hu,rv⟩:=r.get ha
  have hp:ps[i]?=some y:=by
    rw [← S.pre,List.getElem?_take_of_lt (by lia)];exact h1
  have UQ:ps.Nodup:=by rw [← S.pre];exact S.nd.sublist (List.take_sublist _ _)
  refine ⟨u,rv,?_⟩
  rcases S.par y (YH hp) with k|k
  . exact .inl ⟨k,k7 UQ hp hu k⟩
  .
   obtain ⟨c,e⟩:=m9 (n:=s.heap.objs.size+1) k
   refine .inr ⟨.inl k,c,e,?_⟩
   have q:=x.cell y c e
   rw [kX UQ hp hu (by show scope.names.lookup y≠_;rw [k];decide)] at q
   exact q
 . exact e0.bQ.fresh (Zw (x.above y c (YV h)))
 .
  unfold start
  show _=N.length
  rw [Yw,ET,Zk]
  lia
theorem wr {CX:ux} {P:Program} {w:World} {K:W.Frag} {mg:Str->Option Value} {base:Heap} {k:Nat} {f:Addr} {name:Str} {params:Arguments} {body:List Stmt} {scope:Scope} {dV kV doc pm aP ct oc:Value} {an od:Option Addr} {oh:Array (Option Value)} {N ps:List Str} {sp:Sp} (lk:K.lookup f=some ⟨oc,od,.func (W.fnOf name qual params body scope dV kV doc pm an aP ct),oh⟩) (mw:W.codeIn K aP qual=true) (S:av N ps scope) (len:∀ vs H Q E,sp vs H Q E->vs.length=ps.length) (dO:∀ (A:Around) (outer:List Env) (s:Shared) (H:Hp) (vs:List V) (Q:VK) (E:XK),bS k (A.deeper (envOfC qual scope s.heap.objs.size f aP))->sp vs H Q E ->
     ∃ t,k8 (iN CX P w K mg base N qual scope f aP A outer s H E) body t/\t { nx:=λ _ H'=>Q .bG H',rt:=Q } (start N vs) H) :
   dg P w K mg base CX (k+1) f (W.fnOf name qual params body scope dV kV doc pm an aP ct) ps sp:=by
 refine ⟨len,λ A outer s H args us vs Q E hr e0 hb r wS=>?_⟩
 have hl:=len _ _ _ _ wS
 have KX:K.In s.heap:=e0.mod.uN.keeps λ b o e=>(e0.bs b o e).1
 have lim:s.heap.NoLimit:=e0.mod.nolimit.keeps λ b o e=>(e0.bs b o e).1
 have CW:∀ y∈ps.zip us,scope.names.lookup y.1=some .local∨(scope.names.lookup y.1=some .cell/\((cellsFrom (s.heap.objs.size+1) scope.names []).lookup y.1).isSome=true):=λ ⟨n,v⟩ hy=>by
   rcases S.par n (ZA hy).1 with q|q
   . exact .inl q
   . exact .inr ⟨q,W.cellsFrom_some _ _ _ (.inl q)⟩
 refine codeAny_call_function hr.depth (KX _ _ lk) rfl S.co S.gen rfl (W.codeRec_of KX mw) (hb _ _ _ _ ?_)
 refine wpAny_newFunctionEnv_cells S.kind CW λ env he s1 x=>?_
 subst he
 refine ⟨lim.keeps x.toInCall.keep,codeAny_func ?_⟩
 obtain ⟨t,ht,hq⟩:=dO A outer s H vs Q E (hr.deeper _) wS
 have I:Inv (iN CX P w K mg base N qual scope f aP A outer s H E) [] (start N vs) H s1:=qP S hr.hd e0 hl r x
 refine YQ (ht [] s1 (start N vs) H _ I hq) (λ fl s' hs=>?_) λ e s' hs=>hs
 have fin:∀ {σ':St} {H':Hp} {v:V} {u:Value},Inv (iN CX P w K mg base N qual scope f aP A outer s H E) [] σ' H' s'->RelV v u->Q v H'->CE outer P w H s Q u s' :=
   λ {σ' H' v u} J rv q=>⟨v,H',J.os,J.bare,J.base,J.bQ,rv,q⟩
 cases fl with
 | ret u =>
   obtain ⟨v,σ',H',J,rv,q⟩:=hs
   exact fin J rv q
 | next =>
   obtain ⟨σ',H',J,q⟩:=hs
   exact fin (v:=V.bG) (u:=Value.none) J rfl q
 | brk =>
   obtain ⟨_,_,_,q⟩:=hs
   exact False.elim q
 | cont =>
   obtain ⟨_,_,_,q⟩:=hs
   exact False.elim q
section
variable {X:Cx} {x:Str} {p pos:Pos} {e:Expr} {es:List Expr} {t:TA} {id T:String} {r:List V->Hp->VK->Prop}
def Up (r:List V->Hp->VK->Prop) (t:TA):TE:=λ U H Q=>t U H λ vs H1=>r vs H1 Q
theorem bK (hc:f6 X (.builtin id) r) (hg:Gl X x) (hm:X.mg x=none) (hv:bootBuiltins x=some (.builtin id)) (ha:PA X (e::es) t) (hn:x ≠ "__name__":=by decide) (lU:(x == ("__debug__" : Str))=false:=by decide) (he:starEach (e::es) X.env=(false,eval e X.env)::starEach es X.env:=by rfl) (eF:(backTo pos (starEach es X.env)).any (·.1)=false:=by rfl):PE X (.Call (.Name x p) (e::es) [] pos) (Up r t):=by
 intro pins s U H Q I h
 refine Za (lR I hg hm hv ?_ hn lU)
 exact PyProof.Rows.callWith_builtin1 (bX (ha pos pins s U H _ I h) λ us s1 ⟨vs,H1,I1,r1,q1⟩=>hc pins s1 U H1 vs us Q I1 r1 q1) he eF
theorem bA (hc:f6 X (.type T) r) (hg:Gl X x) (hm:X.mg x=none) (hv:bootBuiltins x=some (.type T)) (ha:PA X (e::es) t) (hn:x ≠ "__name__":=by decide) (lU:(x == ("__debug__" : Str))=false:=by decide) (he:starEach (e::es) X.env=(false,eval e X.env)::starEach es X.env:=by rfl) (eF:(backTo pos (starEach es X.env)).any (·.1)=false:=by rfl):PE X (.Call (.Name x p) (e::es) [] pos) (Up r t):=by
 intro pins s U H Q I h
 refine Za (lR I hg hm hv ?_ hn lU)
 exact Zz (bX (ha pos pins s U H _ I h) λ us s1 ⟨vs,H1,I1,r1,q1⟩=>hc pins s1 U H1 vs us Q I1 r1 q1) he eF
end
end L2
namespace HT
open PySem PyProof.Rows
def lexLt:List Int->List Int->Bool
 | [],[]=>false
 | [],_::_=>true
 | _::_,[]=>false
 | x::xs,y::ys=>if x=y then lexLt xs ys else decide (x<y)
section
open PySem.SeqAt
open PySem.AutoSeq1 (wpAny_loadPart')
open PySem.MeetsSeq PySem.MeetsSeq2 PySem.MeetsSeq3
end
section
variable {prog:Program} {w:World} {A:Around} {E:Value->Shared->Prop} {s:Shared}
def ke (n d:Nat):Option Int->Nat
 | none=>d
 | some v=>if v<0 then (v+(n:Int)).toNat else min v.toNat n
end
end HT
namespace L2
open PySem PySem.Spec PyProof.Rows
variable {H:Hp} {X:Cx} {h':Heap} {bx:List Value} {j t':Nat} {pins:List (Addr×Obj)} {u:Value} {U:St}
abbrev TO:=St->Hp->(Option Int->Hp->Prop)->Prop
def PO (X:Cx) (e:Option Expr) (t:TO):Prop :=
 ∀ (pins:List (Addr×Obj)) (s:Shared) (U:St) (H:Hp) (Q:Option Int->Hp->Prop),Inv X pins U H s->t U H Q ->
   wpAny (model X.prog X.w) X.A (evalPart e X.env) (λ u s'=>∃ o H',Inv X pins U H' s'/\IsPart u o/\Q o H') X.xe s
def vU:TO:=λ _ H Q=>Q none H
def Ag (t:TE):TO:=λ U H Q=>t U H λ x H1=>∃ i,x = .int i/\Q (some i) H1
section
variable {X:Cx} {e:Expr} {te:TE} {lo hi:Option Expr} {tl th:TO} {pos p2:Pos}
theorem lK:PO X none vU:=by
 intro pins s U H Q I h
 rw [evalPart_none]
 exact Wf ⟨none,H,I,.none,h⟩
theorem g8 (h:PE X e te):PO X (some e) (Ag te):=by
 intro pins s U H Q I hw
 rw [evalPart_some]
 refine bX (h pins s U H _ I hw) λ u s1 ⟨x,H1,I1,r1,q1⟩=>?_
 obtain ⟨i,rfl,q⟩:=q1
 obtain ⟨t,rfl⟩:=r1
 exact ⟨some i,H1,I1,.int i t,q⟩
def UC (X:Cx) (r:V->Option Int->Option Int->Hp->VK->Prop):Prop :=
 ∀ (pins:List (Addr×Obj)) (s:Shared) (U:St) (H:Hp) (x:V) (v vl vu:Value) (lo hi:Option Int) (sl:Addr) (Q:VK),Inv X pins U H s->RelV x v->s.heap.IsSliceOf sl vl vu .none->IsPart vl lo->IsPart vu hi->r x lo hi H Q ->
   ∃ T id,typeLookup (.type T) "__getitem__" = pure (some (.builtin id))/\s.TypeIs v T/\wpAny (model X.prog X.w) X.A (getItem v (.ref sl)) (EP X pins U Q) X.xe s
def Wc (r:V->Option Int->Option Int->Hp->VK->Prop) (te:TE) (tl th:TO):TE:=λ U H Q=>te U H λ x H1=>tl U H1 λ l H2=>th U H2 λ u H3=>r x l u H3 Q
theorem gP {r:V->Option Int->Option Int->Hp->VK->Prop} (hr:UC X r) (he:PE X e te) (hl:PO X lo tl) (hu:PO X hi th):PE X (.Subscript e (.Slice lo hi none p2) pos) (Wc r te tl th):=by
 intro pins s U H Q I h
 refine Subscript_ (bX (he pins s U H _ I h) λ v s1 ⟨x,H1,I1,r1,q1⟩=>?_)
 refine wpAny_Slice (bX (hl pins s1 U H1 _ I1 q1) λ vl s2 ⟨l,H2,I2,pl,q2⟩=>bX (hu pins s2 U H2 _ I2 q2) λ vu s3 ⟨u,H3,I3,pu,q3⟩=>?_)
 rw [evalPart_none]
 refine Wf ?_
 have I4:Inv X pins U H3 { s3 with heap:=s3.heap.push { cls:=.type "slice",data:=.fields #[vl,vu,.none]}}:=I3.kept (t':=s3.toks) λ b ob q=>be _ q
 obtain ⟨T,id,hT,ht,hg⟩:=hr pins { s3 with heap:=s3.heap.push { cls:=.type "slice",data:=.fields #[vl,vu,.none]}} U H3 x v vl vu l u s3.heap.objs.size Q I4 r1 (Heap.IsSliceOf.new ..) pl pu q3
 show wpAny (model X.prog X.w) X.A (subscriptTail e (.Slice lo hi none p2) v (.ref s3.heap.objs.size)) (EP X pins U Q) X.xe { s3 with heap:=s3.heap.push { cls:=.type "slice",data:=.fields #[vl,vu,.none]}}
 exact tail_any (ops:=[.ref s3.heap.objs.size,v]) ht hT hg (by with_unfolding_all rfl)
def cG (xs:List V) (lo hi:Option Int):List V:=(xs.drop (HT.ke xs.length 0 lo)).take (HT.ke xs.length xs.length hi - HT.ke xs.length 0 lo)
theorem fR (xs:List V) (lo hi:Option Int):(cG xs lo hi).length<=xs.length:=by
 unfold cG
 rw [Zf,Zg]
 lia
end
def yw (n:Nat) (i:Int):Option Nat:=if 0<=i then (if i<n then some i.toNat else none) else if -(n:Int)<=i then some (i+n).toNat else none
def mS {α:Type} (xs:List α) (i:Int):Option α:=(yw xs.length i).bind λ j=>xs[j]?
theorem vN {n:Nat} {i:Int} (h:yw n i=some j):seqIndex? i n=some j/\j<n/\-(n:Int)<=i/\i<n:=by
 unfold yw at h
 by_cases h0:0<=i
 .
  rw [YK h0] at h
  by_cases h1:i<n
  . rw [YK h1] at h
    have e:i.toNat=j:=Yu h
    exact ⟨by rw [seqIndex_of h0 h1,e],by lia,by lia,h1⟩
  . rw [YG h1] at h;cases h
 .
  rw [YG h0] at h
  by_cases h1 : -(n:Int)<=i
  . rw [YK h1] at h
    have e:(i+n).toNat=j:=Yu h
    exact ⟨by rw [seqIndex_neg (by lia) h1,e],by lia,h1,by lia⟩
  . rw [YG h1] at h;cases h
theorem qd {α:Type} {xs:List α} {i:Int} {v:α} (h:mS xs i=some v):∃ j,seqIndex? i xs.length=some j/\xs[j]?=some v/\j<xs.length/\-(xs.length:Int)<=i/\i<xs.length:=by
 unfold mS at h
 cases e:yw xs.length i with
 | none=>rw [e] at h;cases h
 | some j =>
   rw [e] at h
   obtain ⟨h1,h2,h3,h4⟩:=vN e
   exact ⟨j,h1,h,h2,h3,h4⟩
theorem aJ {α:Type} {xs:List α} {v:α} (h:xs[j]?=some v):mS xs (j:Int)=some v:=by
 have hj:j<xs.length:=(List.getElem?_eq_some_iff.mp h).1
 have e:yw xs.length (j:Int)=some j:=by
   unfold yw
   rw [YK (by lia),YK (by lia)];simp
 unfold mS;rw [e];exact h
def wn (b:Expr):Prop:=∀ o i,subscripted b false o i=operate [o,i] (getItem o i)
def CJ (X:Cx) (r:R2):Prop :=
 ∀ (value slice:Expr) (pins:List (Addr×Obj)) (s:Shared) (U:St) (H:Hp) (x y:V) (v u:Value) (Q:VK),Inv X pins U H s->RelV x v->RelV y u->r x y H Q ->
   subscripted slice false v u=operate [v,u] (getItem v u)->wpAny (model X.prog X.w) X.A (subscriptTail value slice v u) (EP X pins U Q) X.xe s
def Wr (X:Cx) (id:String) (r:V->List V->Hp->VK->Prop):Prop :=
 ∀ (pins:List (Addr×Obj)) (s:Shared) (U:St) (H:Hp) (x:V) (xs:List V) (v:Value) (us:List Value) (Q:VK),Inv X pins U H s->RelV x v->Vals xs us->r x xs H Q ->
   wpAny (model X.prog X.w) X.A (call (.builtin id) (v::us)) (EP X pins U Q) X.xe s
section
variable {X:Cx} {a b:Expr} {ta tb:TE} {pos:Pos}
theorem ao {r:R2} (hr:CJ X r) (ha:PE X a ta) (hb:PE X b tb) (hs:wn b):PE X (.Subscript a b pos) (E7 r ta tb):=by
 intro pins s U H Q I h
 exact Subscript_ (xJ ha hb I h λ v u s2 x y H2 I2 rx ry q=>hr a b pins s2 U H2 x y v u Q I2 rx ry q (hs _ _))
inductive SX (K:W.Frag) (x:V) (y:V) (H:Hp) (Q:VK):Prop
 | mk (p xs i v:_) (_:x = .ref p) (_:y = .int i) (_:cg K H p xs) (_:mS xs i=some v) (_:Q v H)
inductive FZ (K:W.Frag) (x:V) (y:V) (H:Hp) (Q:VK):Prop
 | mk (p xs i v:_) (_:x = .ref p) (_:y = .int i) (_:aK K H p xs) (_:mS xs i=some v) (_:Q v H)
theorem wd:CJ X (SX X.K):=by
 intro value slice pins s U H x y v u Q I rx ry h hs
 obtain ⟨p,xs,i,z,rfl,rfl,hq,he,q⟩:=h
 cases rx
 obtain ⟨t,rfl⟩:=ry
 obtain ⟨bx,r,pl,hz⟩:=I.list hq
 obtain ⟨j,h1,h2,h3,h4,h5⟩:=qd he
 obtain ⟨w,ew,tZ⟩:=r.get h2
 have hl:=r.length
 have hn:=o5
 have fin:EP X pins U Q w s:=⟨z,H,I,tZ,q⟩
 by_cases h0:0<=i
 .
  have hj:i.toNat=j:=by
    rw [seqIndex_of h0 h5] at h1
    exact Yu h1
  exact item_listR pl.isList h0 (by lia) (by rw [hj];simpa using ew) fin hs
 .
  have hj:(i+(bx.toArray.size:Int)).toNat=j:=by
    rw [seqIndex_neg (by lia) h4] at h1
    rw [Yv,← hl]
    exact Yu h1
  exact subscriptTail_builtinR (x:=w) pl.isList.typeIs slot_list_getitem.lookup
    (wpAny_getItem_list_neg (Q:=λ r s'=>r=w/\EP X pins U Q r s') pl.isList (by lia) (by rw [Yv]<;>lia) (by lia) (by rw [hj];simpa using ew) ⟨rfl,fin⟩) hs
theorem xP:CJ X (FZ X.K):=by
 intro value slice pins s U H x y v u Q I rx ry h hs
 obtain ⟨p,xs,i,z,rfl,rfl,hq,he,q⟩:=h
 cases rx
 obtain ⟨t,rfl⟩:=ry
 obtain ⟨bx,r,pl,hz⟩:=I.tuple hq
 obtain ⟨j,h1,h2,h3,h4,h5⟩:=qd he
 obtain ⟨w,ew,tZ⟩:=r.get h2
 have hl:=r.length
 have hn:=o5
 have fin:EP X pins U Q w s:=⟨z,H,I,tZ,q⟩
 exact subscriptTail_builtinR (x:=w) pl.typeIs slot_tuple_getitem.lookup
   (getItem_tuple (j:=j) (Q:=λ r s'=>r=w/\EP X pins U Q r s') pl (by lia) (by lia) (by rw [Yv,← hl];exact h1) (by simpa using ew) ⟨rfl,fin⟩) hs
theorem mQ (lo hi:Option Int) (n:Nat):(sliceBounds lo hi none n).1=((HT.ke n 0 lo:Nat):Int)/\(sliceBounds lo hi none n).2.1=((HT.ke n n hi:Nat):Int)/\(sliceBounds lo hi none n).2.2=1:=by
 refine ⟨?_,?_,rfl⟩
 .
  cases lo with
  | none=>simp [sliceBounds,HT.ke]
  | some i =>
    simp only [sliceBounds,HT.ke,Option.getD_none,show (1:Int) > 0 by decide,Zd]
    by_cases h:i<0
    . simp only [h,Zd]<;>lia
    . simp only [h,Zl]<;>lia
 .
  cases hi with
  | none=>simp [sliceBounds,HT.ke]
  | some i =>
    simp only [sliceBounds,HT.ke,Option.getD_none,show (1:Int) > 0 by decide,Zd]
    by_cases h:i<0
    . simp only [h,Zd]<;>lia
    . simp only [h,Zl]<;>lia
theorem kO (bx:List Value) (lo hi:Option Int):slicePick bx.toArray lo hi none=((bx.drop (HT.ke bx.length 0 lo)).take (HT.ke bx.length bx.length hi - HT.ke bx.length 0 lo)).toArray:=by
 obtain ⟨h1,h2,h3⟩:=mQ lo hi bx.toArray.size
 unfold slicePick
 rw [h1,h2,h3]
 simp only [sliceRange_one,pick_run,Yv]<;>rfl
inductive QB (K:W.Frag) (x:V) (lo:Option Int) (hi:Option Int) (H:Hp) (Q:VK):Prop
 | mk (a xs:_) (_:x = .ref a) (_:cg K H a xs) (_:∀ p,H p=none->Q (.ref p) (upd H p (.lst (cG xs lo hi))))
theorem je:UC X (QB X.K):=by
 intro pins s U H x v vl vu lo hi sl Q I rx hs pl pu h
 obtain ⟨a,xs,rfl,hx,q⟩:=h
 cases rx
 obtain ⟨bx,r,ht,hz⟩:=I.list hx
 have hlen:=r.length
 refine ⟨"list",_,slot_list_getitem.lookup,ht.isList.typeIs,?_⟩
 refine wpAny_getItem_list_slice ht.isList hs pl pu .none (by simp) ?_ (by rw [Yv]<;>lia)
 rw [kO,← hlen]
 refine ⟨.ref s.heap.objs.size,_,I.laid (t':=s.toks) (o:=.lst (cG xs lo hi)) (λ b ob q=>be _ q) (oX _) ?_,rfl,q _ (I.bQ.fresh (oX _))⟩
 exact ⟨YL (fR xs lo hi) hz,_,0,(r.drop (HT.ke xs.length 0 lo)).take (HT.ke xs.length xs.length hi - HT.ke xs.length 0 lo),Yt _ rfl⟩
def iM:V->Bool
 | .bG=>true
 | .bl _=>true
 | .int _=>true
 | .str _=>true
 | _=>false
def w9:V->V->Bool
 | .bG,.bG=>true
 | .bl a,.bl b=>a == b
 | .bl a,.int b=>(if a then 1 else 0) == b
 | .int a,.bl b=>a == (if b then 1 else 0)
 | .int a,.int b=>a == b
 | .str a,.str b=>a == b
 | _,_=>false
theorem xZ {A:Around} {s:Shared} {y x:V} {v:Value} (ry:RelV y u) (rx:RelV x v) (fy:iM y=true) (fx:iM x=true):SeqAt.EqAt A s u v (w9 y x):=by
 cases y with
 | bG =>
   cases ry
   cases x with
   | bG=>cases rx;exact SeqAt.EqAt.same _
   | bl b=>cases rx;exact SeqAt.EqAt.none_bool b
   | int b=>obtain ⟨t,rfl⟩:=rx;exact SeqAt.EqAt.none_int b t
   | str b=>obtain ⟨t,rfl⟩:=rx;exact SeqAt.EqAt.none_str b t
   | _=>exact absurd (show false=true from fx) EE
 | bl a =>
   cases ry
   cases x with
   | bG=>cases rx;exact SeqAt.EqAt.bool_none a
   | bl b=>cases rx;exact SeqAt.EqAt.bool_bool a b
   | int b=>obtain ⟨t,rfl⟩:=rx;exact SeqAt.EqAt.bool_int a b t
   | str b=>obtain ⟨t,rfl⟩:=rx;exact SeqAt.EqAt.bool_str a b t
   | _=>exact absurd (show false=true from fx) EE
 | int a =>
   obtain ⟨t',rfl⟩:=ry
   cases x with
   | bG=>cases rx;exact SeqAt.EqAt.int_none a t'
   | bl b=>cases rx;exact SeqAt.EqAt.int_bool a t' b
   | int b=>obtain ⟨t,rfl⟩:=rx;exact SeqAt.EqAt.int_int a t' b t
   | str b=>obtain ⟨t,rfl⟩:=rx;exact SeqAt.EqAt.int_str a t' b t
   | _=>exact absurd (show false=true from fx) EE
 | str a =>
   obtain ⟨t',rfl⟩:=ry
   cases x with
   | bG=>cases rx;exact SeqAt.EqAt.str_none a t'
   | bl b=>cases rx;exact SeqAt.EqAt.str_bool a t' b
   | int b=>obtain ⟨t,rfl⟩:=rx;exact SeqAt.EqAt.str_int a t' b t
   | str b=>obtain ⟨t,rfl⟩:=rx;exact SeqAt.EqAt.str_str a t' b t
   | _=>exact absurd (show false=true from fx) EE
 | _=>exact absurd (show false=true from fy) EE
def v8 (x:V) (u:Value):Bool:=match u with
 | .none=>w9 .bG x
 | .bool b=>w9 (.bl b) x
 | .int i _=>w9 (.int i) x
 | .str z _=>w9 (.str z) x
 | _=>false
theorem sW {x y:V} (r:RelV y u) (f:iM y=true):v8 x u=w9 y x:=by
 cases y with
 | bG=>cases r;rfl
 | bl b=>cases r;rfl
 | int i=>obtain ⟨t,rfl⟩:=r;rfl
 | str z=>obtain ⟨t,rfl⟩:=r;rfl
 | _=>exact absurd (show false=true from f) EE
theorem lH {x:V}:∀ {xs:List V} {us:List Value},Vals xs us->xs.all iM=true->us.any (v8 x)=xs.any λ y=>w9 y x
 | _,_,.nil,_=>rfl
 | y::xs,u::us,.cons r t,f=>by
   rw [List.all_cons,YS] at f
   rw [Zs,Zs,sW r f.1,lH t f.2]
theorem j3 {A:Around} {s:Shared} {x:V} {v:Value} (rx:RelV x v) (fx:iM x=true):∀ {xs:List V} {us:List Value},Vals xs us->xs.all iM=true->∀ u∈us,SeqAt.EqAt A s u v (v8 x u)
 | _,_,.nil,_=>λ u hu=>by cases hu
 | y::xs,u::us,.cons r t,f=>λ u' hu=>by
   rw [List.all_cons,YS] at f
   rcases List.mem_cons.mp hu with rfl|hu
   . rw [sW r f.1];exact xZ r rx f.1 fx
   . exact j3 rx fx t f.2 u' hu
def Fk (x:V) (xs:List V):Bool:=xs.any λ y=>w9 y x
inductive Wy (K:W.Frag) (neg:Bool) (x:V) (y:V) (H:Hp) (Q:VK):Prop
 | mk (p xs:_) (_:y = .ref p) (_:(cg K H p xs∨aK K H p xs)) (_:iM x=true) (_:xs.all iM=true) (_:Q (.bl (if neg then !Fk x xs else Fk x xs)) H)
theorem hZ:fq X (compareOp .In) (Wy X.K false):=by
 intro pins s U H x y v u Q I rx ry h
 obtain ⟨p,xs,rfl,hq,fx,fs,q⟩:=h
 cases ry
 rcases hq with hq|hq
 .
  obtain ⟨bx,r,pl,hz⟩:=I.list hq
  refine SeqAt.in_listAt (v8 x) pl.isList (λ w hw=>j3 rx fx r fs w (by simpa using hw)) ⟨.bl _,H,I,rfl,?_⟩
  rw [show bx.toArray.any (v8 x)=bx.any (v8 x) by simp,lH r fs]
  exact q
 .
  obtain ⟨bx,r,pl,hz⟩:=I.tuple hq
  refine SeqAt.in_tupleAt (v8 x) pl (λ w hw=>j3 rx fx r fs w (by simpa using hw)) ⟨.bl _,H,I,rfl,?_⟩
  rw [show bx.toArray.any (v8 x)=bx.any (v8 x) by simp,lH r fs]
  exact q
theorem lO:f6 X (.builtin "len") (λ xs H Q=>∃ p ys,xs=[.ref p]/\(cg X.K H p ys∨aK X.K H p ys)/\Q (.int ys.length) H):=by
 intro pins s U H xs us Q I r h
 obtain ⟨p,ys,rfl,hq,q⟩:=h
 obtain ⟨u,rfl,rx⟩:=vals1 r
 cases rx
 have hn:=o5
 rcases hq with hq|hq
 . obtain ⟨bx,r',pl,hz⟩:=I.list hq
   have hlen:=r'.length
   exact Calls.call_len_list pl.isList (by simp only [Yv]<;>lia) ⟨.int ys.length,H,I.tok _,⟨s.toks+1,by rw [Yv,hlen]⟩,q⟩
 . obtain ⟨bx,r',pl,hz⟩:=I.tuple hq
   have hlen:=r'.length
   exact len_tuple pl (by simp only [Yv]<;>lia) ⟨.int ys.length,H,I.tok _,⟨s.toks+1,by rw [Yv,hlen]⟩,q⟩
theorem gR:f6 X (.type "list") (λ xs H Q=>∃ p ys,xs=[.ref p]/\(cg X.K H p ys∨aK X.K H p ys)/\∀ l,H l=none->Q (.ref l) (upd H l (.lst ys))):=by
 intro pins s U H xs us Q I r h
 obtain ⟨p,ys,rfl,hq,q⟩:=h
 obtain ⟨u,rfl,rx⟩:=vals1 r
 cases rx
 have fin:∀ (bx:List Value),Vals ys bx->ys.length<=sizeLine->∀ (h':Heap) (c':Nat),(∀ b o',s.heap.get? b=some o'->h'.get? b=some o') ->
     h'.get? s.heap.objs.size=some { cls:=.type "list",dict:=none,data:=.seq bx.toArray c',slots:=#[]}->EP X pins U Q (.ref s.heap.objs.size) { s with heap:=h' }:=λ bx r' hz h' c' kp e =>
   ⟨.ref s.heap.objs.size,_,I.laid (t':=s.toks) kp (oX _) (show bt X.prog X.w _ h' _ (.lst ys) from ⟨hz,bx,c',r',e⟩),rfl,q _ (I.bQ.fresh (oX _))⟩
 rcases hq with hq|hq
 .
  obtain ⟨bx,r',pl,hz⟩:=I.list hq
  have hlen:=r'.length
  obtain ⟨o,ho,hc,n,hd⟩:=pl.isList
  exact call_list_seq p (.inl rfl) ho hc hd (λ h' c' kp e=>fin bx r' hz h' c' kp e) (by simp only [Yv]<;>lia)
 .
  obtain ⟨bx,r',pl,hz⟩:=I.tuple hq
  have hlen:=r'.length
  obtain ⟨o,ho,hc,n,hd⟩:=pl
  exact call_list_seq p (.inr rfl) ho hc hd (λ h' c' kp e=>fin bx r' hz h' c' kp e) (by simp only [Yv]<;>lia)
theorem ek:f6 X (.type "tuple") (λ xs H Q=>∃ p ys,xs=[.ref p]/\((cg X.K H p ys/\∀ l,H l=none->Q (.ref l) (upd H l (.tup ys)))∨(aK X.K H p ys/\Q (.ref p) H))):=by
 intro pins s U H xs us Q I r h
 obtain ⟨p,ys,rfl,h⟩:=h
 obtain ⟨u,rfl,rx⟩:=vals1 r
 cases rx
 rcases h with ⟨hq,q⟩|⟨hq,q⟩
 .
  obtain ⟨bx,r',pl,hz⟩:=I.list hq
  have hlen:=r'.length
  refine call_tuple_list pl.isList (λ h' kp=>?_) (by simp only [Yv]<;>lia)
  have I1:Inv X pins U H { s with heap:=h' }:=I.kept (t':=s.toks) kp
  have I2:Inv X pins U (upd H h'.objs.size (.tup ys)) { s with heap:=h'.push { cls:=.type "tuple",data:=.seq bx.toArray }} :=
    I1.laid (t':=s.toks) (λ b o e=>be _ e) (oX _) (show bt X.prog X.w _ _ _ (.tup ys) from ⟨hz,bx,r',IsTup.new _ _⟩)
  exact ⟨.ref h'.objs.size,_,I2,rfl,q _ (I1.bQ.fresh (oX _))⟩
 . obtain ⟨bx,r',pl,hz⟩:=I.tuple hq
   exact call_tuple_same pl ⟨.ref p,H,I,rfl,q⟩
def TX (K:W.Frag) (T:String) (x:V) (H:Hp):Prop:=match x with
 | .str _=>T = "str"
 | .int _=>T = "int"
 | .ref p=>(T = "list"/\∃ xs,cg K H p xs)∨(T = "tuple"/\∃ o,K.lookup p=some o/\o.cls = .type "tuple"/\o.dict=none) ∨
     (T = "dict"/\((∃ kvs,H p=some (.dK kvs))∨∃ kvs,H p=some (.dT kvs)))∨(T = "set"/\∃ S n,H p=some (.set S n))
 | _=>False
theorem xF {s:Shared} {T:String} {x:V} {v:Value} (I:Inv X pins U H s) (r:RelV x v) (ty:TX X.K T x H) :
   s.TypeIs v T/\∀ a,v = .ref a->∃ ob,s.heap.get? a=some ob/\ob.dict=none:=by
 cases x with
 | str z =>
   obtain ⟨t,rfl⟩:=r
   cases (show T = "str" from ty)
   exact ⟨typeIs_str s z t,λ _ e=>nomatch e⟩
 | int i =>
   obtain ⟨t,rfl⟩:=r
   cases (show T = "int" from ty)
   exact ⟨typeIs_int s i t,λ _ e=>nomatch e⟩
 | ref p =>
   cases r
   rcases ty with ⟨rfl,xs,hq⟩|⟨rfl,o,hk,hc,hd⟩|⟨rfl,hk⟩|⟨rfl,S,n,hk⟩
   . obtain ⟨bx,_,pl,_⟩:=I.list hq
     refine ⟨pl.isList.typeIs,λ a e=>?_⟩
     cases e
     obtain ⟨o,n,e,c,hd,_⟩:=pl
     exact ⟨o,e,hd⟩
   . refine ⟨⟨o,I.gE p o hk,hc⟩,λ a e=>?_⟩
     cases e
     exact ⟨o,I.gE _ o hk,hd⟩
   .
    have z:∃ o,s.heap.get? p=some o/\o.ExactDict:=by
      rcases hk with ⟨kvs,hk⟩|⟨kvs,hk⟩
      . obtain ⟨_,_,_,_,o,_,_,e,ex,_⟩:=I.bQ p _ hk
        exact ⟨o,e,ex⟩
      . obtain ⟨_,_,_,_,o,_,_,e,ex,_⟩:=I.bQ p _ hk
        exact ⟨o,e,ex⟩
    obtain ⟨o,e,ex⟩:=z
    refine ⟨⟨o,e,ex.1⟩,λ a e2=>?_⟩
    cases e2
    exact ⟨o,e,ex.2.1⟩
   . obtain ⟨o,_,_,_,e,ex,_⟩:=I.bQ p _ hk
     refine ⟨⟨o,e,ex.1⟩,λ a e2=>?_⟩
     cases e2
     exact ⟨o,e,ex.2.1⟩
 | _=>exact False.elim ty
def WT (K:W.Frag) (T:String) (r:V->List V->Hp->VK->Prop) (to:TE) (t:TA):TE:=λ U H Q=>to U H λ x H1=>TX K T x H1/\t U H1 λ xs H2=>r x xs H2 Q
variable {o e:Expr} {es:List Expr} {to:TE} {t:TA} {name:Str} {apos kn:Pos} {T id:String} {r:V->List V->Hp->VK->Prop}
theorem wF (pa:PlainAttrs T) (slot:Slot T name id) (zO:typeOf (.builtin id)=pure (.type "method_descriptor")) (hm:Wr X id r) (ho:PE X o to) (ha:PA X (e::es) t) (rV:attributeBase o name X.env (eval o X.env)=eval o X.env:=by rfl) (Qi:((backTo kn (starEach (e::es) X.env)).all (λ x => !x.1) && (backToKw kn (keywordEach [] X.env)).all (λ x=>x.1.isSome)
     && decide ((e::es).length+([]:List Keyword).length+(if ([]:List Keyword).isEmpty then 0 else 1)<30))=true:=by rfl) (rK:(apos.endLine == kn.line)=true:=by rfl) (hs:starEach (e::es) X.env=(false,eval e X.env)::starEach es X.env:=by rfl) (xG:(backTo kn (starEach es X.env)).any (·.1)=false:=by rfl) :
   PE X (.Call (.Attribute o name apos) (e::es) [] kn) (WT X.K T r to t):=by
 intro pins s U H Q I h
 refine wpAny_Call_method_late rV Qi rK rfl (bX (ho pins s U H _ I h) λ v s1 ⟨x,H1,I1,r1,ty,q1⟩=>?_)
 obtain ⟨h1,h2⟩:=xF I1 r1 ty
 refine ⟨T,id,pa,slot,zO,h1,h2,?_⟩
 have hA:=ha kn pins s1 U H1 _ I1 q1
 rw [hs] at hA ⊢
 refine Calls.callWith_builtin (by show (false || (backTo kn (starEach es X.env)).any (·.1))=false;rw [xG]<;>rfl) (Calls.evalArgs_plain ?_)
 exact bX hA λ us s2 ⟨vs,H2,I2,r2,q2⟩=>hm pins s2 U H2 x vs v us Q I2 r1 r2 q2
end
def Xh (X:Cx) (id:String) (r:V->List V->Hp->VK->Prop):Prop :=
 ∀ (pins:List (Addr×Obj)) (s:Shared) (U:St) (H:Hp) (x:V) (xs:List V) (v:Value) (us:List Value) (Q:VK),Inv X pins U H s->RelV x v->Vals xs us->r x xs H Q ->
   wpAny (model X.prog X.w) X.A (call (.builtin id) (v::us)) (EP X pins U Q) X.xe s
theorem Vals.one:∀ {x:V} {us:List Value},Vals [x] us->∃ u,us=[u]/\RelV x u
 | _,_,.cons r .nil=>⟨_,rfl,r⟩
theorem Vals.zero:∀ {us:List Value},Vals [] us->us=[]
 | _,.nil=>rfl
section
variable {X:Cx} {pins:List (Addr×Obj)} {U:St} {H:Hp} {s:Shared} {l b:Addr} {xs ys zs:List V}
theorem Inv.M5 {its':List Value} {n:Nat} {f:Array Value->Array Value} {t':Nat} (I:Inv X pins U H s) (hH:H l=some (.lst xs)) (e:s.heap.get? l=some { cls:=.type "list",data:=.seq bx.toArray n }) (hf:f bx.toArray=its'.toArray) (hv:Vals ys its') (hz:ys.length<=sizeLine) :
   Inv X pins U (upd H l (.lst ys)) { s with heap:=s.heap.update l (Obj.mapSeq f),toks:=t' }:=by
 have q:=PySem.IsL.update e f
 rw [hf] at q
 refine I.write (x:=l) (e:=l) (by rw [hH];exact trivial) (.inl rfl) (λ b' u hb hu=>(Heap.get?_update_other s.heap (Obj.mapSeq f) (Zi hb)).trans hu) ⟨_,q⟩ ?_
 exact ⟨hz,its',_,hv,q⟩
theorem Inv.TB {t':Nat} (I:Inv X pins U H s) (hv:Vals ys bx) (hz:ys.length<=sizeLine) :
   Inv X pins U (upd H s.heap.objs.size (.lst ys)) { s with heap:=s.heap.push { cls:=.type "list",data:=.seq bx.toArray },toks:=t' } :=
 I.laid (λ _ _ q=>be _ q) (oX _) ⟨hz,bx,0,hv,Yt _ rfl⟩
theorem Inv.fresh (I:Inv X pins U H s):H s.heap.objs.size=none:=I.bQ.fresh (oX _)
theorem Inv.yr (I:Inv X pins U H s) (hH:H l=some (.lst xs)):xs.length<=sizeLine/\∃ (bx:List Value) (n:Nat),Vals xs bx/\xs.length=bx.length/\s.heap.get? l=some { cls:=.type "list",data:=.seq bx.toArray n }:=by
 obtain ⟨z,bx,n,r,e⟩:=I.bQ l _ hH
 exact ⟨z,bx,n,r,r.length,e⟩
end
section
variable {X:Cx}
inductive uS  (x:V) (vs:List V) (H:Hp) (Q:VK):Prop
 | mk (l xs y:_) (_:x = .ref l) (_:vs=[y]) (_:H l=some (.lst xs)) (_:xs.length<sizeLine) (_:Q .bG (upd H l (.lst (xs++[y]))))
theorem ik:Xh X "list.append" uS:=by
 intro pins s U H x vs v us Q I rx rv h
 obtain ⟨l,xs,y,rfl,rfl,hH,hz,q⟩:=h
 cases rx
 obtain ⟨u,rfl,ru⟩:=rv.one
 obtain ⟨z,bx,n,r,hl,e⟩:=I.yr hH
 refine call_meets F.slot_list_append ⟨_,e,rfl⟩ F.entry_list_append (F.args_list_append_2 _ _) (PySem.list_append l bx.toArray n u (by rw [Yv];lia)) ⟨e,?_⟩
 refine ⟨.bG,_,I.M5 (its':=bx++[u]) hH e (by simp) (r.append (.cons ru .nil)) ?_,rfl,q⟩
 rw [Yw,List.length_singleton]
 lia
inductive HS  (x:V) (y:V) (H:Hp) (Q:VK):Prop
 | mk (l b xs zs:_) (_:x = .ref l) (_:y = .ref b) (_:H l=some (.lst xs)) (_:H b=some (.lst zs)) (_:xs.length+zs.length<=sizeLine) (_:∀ p,H p=none->Q (.ref p) (upd H p (.lst (xs++zs))))
theorem xT:fq X (binaryOp .Add) HS:=by
 intro pins s U H x y v u Q I rx ry h
 obtain ⟨l,b,xs,zs,rfl,rfl,hH,hB,hz,q⟩:=h
 cases rx
 cases ry
 obtain ⟨z,bx,n,r,hl,e⟩:=I.yr hH
 obtain ⟨z2,Ao,n2,r2,KB,e2⟩:=I.yr hB
 refine PySem.P.add_list e e2 ?_ (by rw [Yv,Yv];lia)
 have ea:bx.toArray++Ao.toArray=(bx++Ao).toArray:=by simp
 rw [ea]
 exact ⟨.ref _,_,I.TB (t':=s.toks) (r.append r2) (by rw [Yw];lia),rfl,q _ I.fresh⟩
end
section
variable {κ:Type} [DecidableEq κ]
def il (kvs:List (κ×V)) (k:κ):Option V:=(kvs.find? λ kv=>decide (kv.1=k)).map (·.2)
def putK (kvs:List (κ×V)) (k:κ) (v:V):List (κ×V) :=
 if (kvs.any λ kv=>decide (kv.1=k))=true then kvs.map (λ kv=>if kv.1=k then (kv.1,v) else kv) else kvs++[(k,v)]
theorem n9 {p:κ×V} {r:List (κ×V)} {k:κ} (e:p.1=k):il (p::r) k=some p.2:=by simp [il,YJ,e]
theorem nR {p:κ×V} {r:List (κ×V)} {k:κ} (e:¬ p.1=k):il (p::r) k=il r k:=by simp [il,YJ,e]
theorem or (kvs:List (κ×V)) (k:κ) (v:V):(putK kvs k v).length<=kvs.length+1:=by
 unfold putK
 split
 . rw [ET];lia
 . rw [Yw,Y1,List.length_nil];lia
theorem fw.ql {o:Option V} {u:Option Value} (r:fw o u):o.isSome=u.isSome:=by
 cases o with
 | none=>cases u with
   | none=>rfl
   | some _=>exact (show False from r).elim
 | some _=>cases u with
   | none=>exact (show False from r).elim
   | some _=>rfl
theorem KV.val {kvs:List (κ×V)} {vs:List (κ×Value)} (r:KV kvs vs) (k:κ):fw (il kvs k) (valueAt vs k):=by
 unfold KV at r
 induction r with
 | nil=>exact True.intro
 | @cons p q ps qs h t ih =>
   obtain ⟨h1,h2⟩:=h
   by_cases e:p.1=k
   . have e':q.1=k:=h1.symm.trans e
     have b:valueAt (q::qs) k=some q.2:=by simp [valueAt,YJ,e']
     rw [n9 e,b];exact h2
   . have e':¬ q.1=k:=λ z=>e (h1.trans z)
     have b:valueAt (q::qs) k=valueAt qs k:=by simp [valueAt,YJ,e']
     rw [nR e,b];exact ih
theorem KV.any {kvs:List (κ×V)} {vs:List (κ×Value)} (r:KV kvs vs) (k:κ):(kvs.any λ kv=>decide (kv.1=k))=vs.any λ kv=>decide (kv.1=k):=by
 unfold KV at r
 induction r with
 | nil=>rfl
 | cons h t ih=>rw [Zs,Zs,ih,h.1]
theorem KV.OI {kvs:List (κ×V)} {vs:List (κ×Value)} (r:KV kvs vs) (k:κ) {y:V} (ry:RelV y u) :
   KV (kvs.map λ kv=>if kv.1=k then (kv.1,y) else kv) (vs.map λ kv=>if kv.1=k then (kv.1,u) else kv):=by
 unfold KV at r ⊢
 induction r with
 | nil=>exact .nil
 | @cons p q ps qs h t ih =>
   rw [YT,YT]
   refine .cons ?_ ih
   obtain ⟨h1,h2⟩:=h
   by_cases e:p.1=k
   . rw [YK e,YK (h1.symm.trans e)];exact ⟨h1,ry⟩
   . rw [YG e,YG (λ z=>e (h1.trans z))];exact ⟨h1,h2⟩
theorem KV.put {kvs:List (κ×V)} {vs:List (κ×Value)} (r:KV kvs vs) (k:κ) {y:V} (ry:RelV y u):KV (putK kvs k y) (stored vs k u):=by
 unfold putK stored
 rw [r.any k]
 by_cases e:(vs.any λ kv=>decide (kv.1=k))=true
 . rw [YK e,YK e];exact r.OI k ry
 . rw [YG e,YG e];exact Paired.snoc r ⟨rfl,ry⟩
theorem KV.length {kvs:List (κ×V)} {vs:List (κ×Value)} (r:KV kvs vs):kvs.length=vs.length:=Paired.length r
end
theorem uE {P:Program} {w:World} {k:Key} (r:RelV (kV k) u):(bL P w).is k u=true:=by
 cases k with
 | inl i=>obtain ⟨t,e⟩:=(show ∃ t,u=Value.int i t from r);subst e;exact nw P w i t
 | inr x=>obtain ⟨t,e⟩:=(show ∃ t,u=Value.str x t from r);subst e;exact nW P w x t
theorem ll {P:Program} {w:World}:∀ {ks:List Key} {us:List Value},Vals (ks.map kV) us->ItemsAre (bL P w) ks us
 | [],_,r=>by rw [ZU] at r;cases r;exact .nil
 | k::ks,_,r=>by
   rw [YT] at r
   cases r with
   | cons h t=>exact .cons (uE h) (ll t)
abbrev KT (H:Hp):List (List Key×V)->List (List Key×Addr×Value)->Prop:=Paired λ p q=>p.1=q.1/\H q.2.1=some (.tup (p.1.map kV))/\RelV p.2 q.2.2
theorem KT.val {kvs:List (List Key×V)} {xs:List (List Key×Addr×Value)} (r:KT H kvs xs) (k:List Key):fw (il kvs k) ((atKey xs k).map (·.2)):=by
 induction r with
 | nil=>exact True.intro
 | @cons p q ps qs h t ih =>
   obtain ⟨h1,_,h2⟩:=h
   by_cases e:p.1=k
   . have e':q.1=k:=h1.symm.trans e
     have b:atKey (q::qs) k=some q.2:=by simp [atKey,YJ,e']
     rw [n9 e,b];exact h2
   . have e':¬ q.1=k:=λ z=>e (h1.trans z)
     have b:atKey (q::qs) k=atKey qs k:=by simp [atKey,YJ,e']
     rw [nR e,b];exact ih
section
variable {P:Program} {w:World} {H:Hp} {h:Heap} {a:Addr}
theorem wX {u:HO} (ok:hJ P w H h) (e:Rd H a u):bt P w H h a u:=e.ok ok
theorem qi {kvs:List (Key×V)} (ok:hJ P w H h) (e:Rd H a (.dK kvs)):kvs.length<=sizeLine/\(a == sysModules)=false/\∃ vs,KV kvs vs/\h.DictOf (bL P w) a vs :=
 show bt P w H h a (.dK kvs) from wX ok e
theorem wT {kvs:List (Key×V)} (ok:hJ P w H h) (e:H a=some (.dK kvs)):kvs.length<=sizeLine/\(a == sysModules)=false/\∃ vs,KV kvs vs/\h.DictOf (bL P w) a vs:=qi ok (.inl e)
theorem uj {ks:List Key} (ok:hJ P w H h) (e:H a=some (.tup (ks.map kV))):(tupleKind (bL P w)).is h ks a:=by
 obtain ⟨_,bx,r,o,h1,h2,n,h3⟩:=(show bt P w H h a (.tup (ks.map kV)) from ok a _ e)
 exact ⟨o,bx.toArray,n,h1,h2,h3,by simpa using ll r⟩
theorem xi {kvs:List (List Key×V)} (ok:hJ P w H h) (e:Rd H a (.dT kvs)):kvs.length<=sizeLine/\(a == sysModules)=false /\
   ∃ xs,KT H kvs xs/\h.DictOfH (tupleKind (bL P w)) a xs:=by
 obtain ⟨z,y,xs,r,o,es,ep,h1,h2,h3,h4,h5⟩:=(show bt P w H h a (.dT kvs) from wX ok e)
 refine ⟨z,y,xs,r,o,es,ep,h1,h2,h3,h4,λ x hx=>?_,h5⟩
 have all:∀ {l:List (List Key×V)} {m:List (List Key×Addr×Value)},KT H l m->∀ x∈m,(tupleKind (bL P w)).is h x.1 x.2.1:=by
   intro l m q
   induction q with
   | nil=>intro x hx;exact nomatch hx
   | @cons p q ps qs hq t ih =>
     intro x hx
     rcases List.mem_cons.mp hx with e|hx
     . subst e
       exact uj ok (by rw [← hq.1];exact hq.2.1)
     . exact ih x hx
 exact all r x hx
end
def yb (H:Hp) (a:Addr) (y:V) (r:Option V):Prop :=
 (∃ kvs k,Rd H a (.dK kvs)/\y=kV k/\r=il kvs k)∨∃ kvs k b,Rd H a (.dT kvs)/\y = .ref b/\H b=some (.tup (k.map kV))/\r=il kvs k
section
variable {X:Cx} {pins:List (Addr×Obj)} {U:St} {H:Hp} {s:Shared} {a:Addr} {y v:V} {u r:Value} {o:Option V} {A:Around} {E:Value->Shared->Prop}
theorem Inv.big (I:Inv X pins U H s):sysModules<s.heap.objs.size:=by
 have h:mainGlobals<s.heap.objs.size:=(I.mod.glob.keeps I.bk).lt
 exact Nat.lt_trans (by decide) h
theorem qB {Q:Value->Shared->Prop} (hu:A.units+1<cLine) (I:Inv X pins U H s) (g:yb H a y (some v)) (ry:RelV y u) (h:∀ w' s',Inv X pins U H s'->RelV v w'->Q w' s') :
   wpAny (model X.prog X.w) A (getItem (.ref a) u) Q E s:=by
 rcases g with ⟨kvs,k,e,ey,l⟩|⟨kvs,k,b,e,ey,eb,l⟩
 .
  subst ey
  obtain ⟨z,hd,vs,rel,dd⟩:=qi I.bQ e
  obtain ⟨w',hw,tZ⟩:=fw.some_of (v:=v) (o:=valueAt vs k) (by rw [l];exact rel.val k)
  exact wpAny_getItem_of (uE ry) dd.mapOf hw (h w' _ (I.tok _) tZ)
 .
  subst ey
  cases (show u=Value.ref b from ry)
  obtain ⟨z,hd,xs,rel,dd⟩:=xi I.bQ e
  obtain ⟨w',hw,tZ⟩:=fw.some_of (v:=v) (o:=(atKey xs k).map (·.2)) (by rw [l];exact rel.val k)
  obtain ⟨p,hp,xj⟩:=Option.map_eq_some_iff.mp hw
  refine wpAny_getItem_heap (tupleKind_room_in1 hu) (uj I.bQ eb) dd hp ?_
  rw [xj]
  exact h w' _ (I.tok _) tZ
theorem pB {t':Nat} {ob:HO} (I:Inv X pins U H s) (mu:CA (H a)) (hs:Heap.SameBut a s.heap h') (he:∃ q,h'.get? a=some q) (new:bt X.prog X.w (upd H a ob) h' a ob) :
   Inv X pins U (upd H a ob) { s with heap:=h',toks:=t' } :=
 I.write (x:=a) (e:=a) mu (.inl rfl) (λ b q hb z=>(hs.2 b hb).trans z) he new
theorem tI {P:Program} {w:World} {H':Hp} {kvs:List (Key×V)} {vs:List (Key×Value)} (z:kvs.length<=sizeLine) (hd:(a == sysModules)=false) (rel:KV kvs vs) (dd:h'.DictOf (bL P w) a vs) :
   bt P w H' h' a (.dK kvs):=⟨z,hd,vs,rel,dd⟩
end
def yg (i:Expr):Prop:=∀ ov iv,subscripted i false ov iv=operate [ov,iv] (getItem ov iv)
theorem pK {prog:Program} {w:World} {A:Around} {E:Value->Shared->Prop} {s:Shared} {env:Env} {value slice:Expr} {pos:Pos} {T id:String} {Q:Value->Shared->Prop} (hl:typeLookup (.type T) "__getitem__" = pure (some (.builtin id))) (hs:yg slice) (h:wpAny (model prog w) A (eval value env) (λ o s₁=>wpAny (model prog w) A (eval slice env) (λ i s₂=>s₂.TypeIs o T/\wpAny (model prog w) A (getItem o i) Q E s₂) E s₁) E s) :
   wpAny (model prog w) A (eval (.Subscript value slice pos) env) Q E s:=by
 refine Subscript_ (YQ h (λ o s₁ h₁=>YQ h₁ (λ i s₂ h₂=>?_) λ _ _ x=>x) λ _ _ x=>x)
 obtain ⟨hT,h₂⟩:=h₂
 unfold subscriptTail
 refine yB ?_
 rw [getitemInPython_of_ne hT.not_modules]
 refine yB (Zp hT hl ?_)
 have fin:wpAny (model prog w) A (subscripted slice false o i) (λ r s₃=>wpAny (model prog w) A (letTemporaryGo value o r >>= λ _=>pure r) Q E s₃) E s₂:=by
   rw [hs o i]
   exact wpAny_operating (YQ h₂ (λ r s₃ h₃=>yB (wpAny_letTemporaryGo (Wf h₃))) λ _ _ x=>x)
 first
   | exact Wf (yB fin)
   | exact yB (Wf (yB fin))
   | exact yB fin
theorem nl {s:Shared} {a:Addr} {y:V} {o:Option V} (I:Inv X pins U H s) (g:yb H a y o):s.TypeIs (.ref a) "dict":=by
 rcases g with ⟨kvs,k,e,_,_⟩|⟨kvs,k,b,e,_,_,_⟩
 . obtain ⟨_,_,vs,_,dd⟩:=qi I.bQ e
   exact dd.typeIs
 . obtain ⟨_,_,xs,_,dd⟩:=xi I.bQ e
   exact dd.typeIs
inductive Gm (Q:VK) (x y:V) (H2:Hp):Prop
 | mk (a:Addr) (v:V) (h1:x = .ref a) (h2:yb H2 a y (some v)) (q:Q v H2)
def Ch (td ty:TE):TE:=λ U H Q=>td U H λ x H1=>ty U H1 (Gm Q x)
section
variable {X:Cx} {o i e value:Expr} {pos pos' AQ:Pos} {td ty tv:TE}
theorem uT (hu:X.A.units+1<cLine) (ho:PE X o td) (hi:PE X i ty) (hs:yg i):PE X (.Subscript o i pos) (Ch td ty):=by
 intro pins s U H Q I h
 refine pK PySem.F.slot_dict_getitem.lookup hs (bX (ho pins s U H _ I h) λ u s1 ⟨x,H1,I1,rx,q1⟩=>bX (hi pins s1 U H1 _ I1 q1) λ iv s2 ⟨y,H2,I2,ry,a,v,ex,g,q2⟩=>?_)
 subst ex
 obtain rfl:u=Value.ref a:=rx
 exact ⟨nl I2 g,qB hu I2 g ry λ w' s3 I3 tZ=>⟨v,H2,I3,tZ,q2⟩⟩
end
theorem sF {P:Program} {w:World} (h:Heap) (hb:sysModules<h.objs.size):bt P w H (h.push { cls:=.type "dict",data:=.dict #[]}) h.objs.size (.dK []) :=
 ⟨YX _,beq_eq_false_iff_ne.mpr (Zi (Yz hb)),[],.nil,Heap.DictOf.new h⟩
def mf:List (TE×TE)->St->Hp->(List (V×V)->Hp->Prop)->Prop
 | [],_,H,Q=>Q [] H
 | (tk,tv)::r,U,H,Q=>tk U H λ x H1=>tv U H1 λ y H2=>mf r U H2 λ ps H3=>Q ((x,y)::ps) H3
abbrev VV:List (V×V)->List (Value×Value)->Prop:=Paired λ p q=>RelV p.1 q.1/\RelV p.2 q.2
def yu (X:Cx) (pos:Pos) (keys:List (Option Expr)) (values:List Expr) (pG:List (TE×TE)):Prop :=
 ∀ (pins:List (Addr×Obj)) (s:Shared) (U:St) (H:Hp) (Q:List (V×V)->Hp->Prop),Inv X pins U H s->mf pG U H Q ->
   wpAny (model X.prog X.w) X.A (evalPairs (pairTrees keys values X.env pos)) (λ vs s'=>∃ ps H',Inv X pins U H' s'/\VV ps vs/\Q ps H') X.xe s
theorem pH {pos:Pos}:yu X pos [] [] []:=λ pins s U H Q I h=>pairTrees_nil_walk ⟨[],H,I,.nil,h⟩
theorem oa {pos:Pos} {k v:Expr} {ks:List (Option Expr)} {vs:List Expr} {tk tv:TE} {pG:List (TE×TE)} (hk:PE X k tk) (hv:PE X v tv) (hr:yu X pos ks vs pG) :
   yu X pos (some k::ks) (v::vs) ((tk,tv)::pG):=λ pins s U H Q I h =>
 pairTrees_cons_walk (bX (hk pins s U H _ I h) λ u s1 ⟨x,H1,I1,rx,q1⟩=>bX (hv pins s1 U H1 _ I1 q1) λ w2 s2 ⟨y,H2,I2,ry,q2⟩ =>
   bX (hr pins s2 U H2 _ I2 q2) λ ws s3 ⟨ps,H3,I3,rel,q3⟩=>⟨(x,y)::ps,H3,I3,.cons ⟨rx,ry⟩ rel,q3⟩)
def e9 (kvs more:List (Key×V)):List (Key×V):=more.foldl (λ acc kv=>putK acc kv.1 kv.2) kvs
theorem KV.merge:∀ {more:List (Key×V)} {rs:List (Key×Value)} {kvs:List (Key×V)} {vs:List (Key×Value)},KV more rs->KV kvs vs->KV (e9 kvs more) (merged vs rs):=by
 intro more rs kvs vs r
 unfold KV at r
 induction r generalizing kvs vs with
 | nil=>intro q;exact q
 | @cons p q ps qs h t ih =>
   intro r0
   have e:KV (putK kvs p.1 p.2) (stored vs q.1 q.2):=by
     have:=r0.put p.1 h.2
     rw [← h.1];exact this
   exact ih e
theorem gn:∀ (more kvs:List (Key×V)),(e9 kvs more).length<=kvs.length+more.length
 | [],kvs=>by show kvs.length<=kvs.length+0;lia
 | p::r,kvs=>by
   have h1:=gn r (putK kvs p.1 p.2)
   have h2:=or kvs p.1 p.2
   show (e9 (putK kvs p.1 p.2) r).length<=_
   rw [Y1];lia
theorem jN {P:Program} {w:World}:∀ {kvs:List (Key×V)} {ws:List (Value×Value)},VV (kvs.map λ kv=>(kV kv.1,kv.2)) ws->∃ rs,Carries (bL P w) ws rs/\KV kvs rs
 | [],_,r=>by rw [ZU] at r;cases r;exact ⟨[],True.intro,.nil⟩
 | p::kvs,_,r=>by
   rw [YT] at r
   cases r with
   | @cons a b as bs h t =>
     obtain ⟨rs,c,q⟩:=jN (P:=P) (w:=w) t
     obtain ⟨b1,b2⟩:=b
     exact ⟨(p.1,b2)::rs,⟨uE h.1,rfl,c⟩,.cons ⟨rfl,h.2⟩ q⟩
def zf (pG:List (TE×TE)):TE:=λ U H Q=>∀ p,H p=none->mf pG U (upd H p (.dK [])) λ ps H2=>H2 p=some (.dK [])/\∃ kvs:List (Key×V),ps=kvs.map (λ kv=>(kV kv.1,kv.2))/\kvs.length<=15/\Q (.ref p) (upd H2 p (.dK (e9 [] kvs)))
theorem ve {pos:Pos} {keys:List (Option Expr)} {values:List Expr} {pG:List (TE×TE)} (h:yu X pos keys values pG) (nV:keys.all (·.isSome)=true) (hl:keys.length=values.length) (h0:keys≠[]) (IM:keys.length<=15):PE X (.Dict keys values pos) (zf pG):=by
 intro pins s U H Q I q
 have hn:=I.bQ.fresh (oX s.heap.objs.size)
 have I1:=I.laid (a:=s.heap.objs.size) (o:=.dK []) (h':=s.heap.push { cls:=.type "dict",data:=.dict #[]}) (t':=s.toks) (λ _ _ q=>be _ q) (oX _) (sF s.heap I.big)
 refine wpAny_Dict_walk (knd:=bL X.prog X.w) nV hl h0 IM (bX (h pins _ U _ _ I1 (q _ hn)) λ ws s2 ⟨ps,H2,I2,rel,e,kvs,ep,lk,q2⟩=>?_)
 subst ep
 obtain ⟨rs,c,rk⟩:=jN (P:=X.prog) (w:=X.w) rel
 obtain ⟨z,hd,X0,r0,dd⟩:=wT I2.bQ e
 cases r0
 refine ⟨rs,c,dd,λ h' wN hs=>⟨.ref s.heap.objs.size,_,?_,rfl,q2⟩⟩
 have hz:(e9 [] kvs).length<=sizeLine:=by
   have h1:=gn kvs []
   rw [List.length_nil] at h1
   rw [sizeLine_eq];lia
 have he:∃ q,h'.get? s.heap.objs.size=some q:=let ⟨q,_,_,hq,_⟩:=wN;⟨q,hq⟩
 exact pB I2 (by rw [e];exact True.intro) hs he (tI hz hd (rk.merge .nil) wN)
section
variable {X:Cx} {pins:List (Addr×Obj)} {U:St} {H:Hp} {s:Shared} {a:Addr} {kvs:List (Key×V)} {A:Around} {E:Value->Shared->Prop}
theorem sH {Q:Value->Shared->Prop} (I:Inv X pins U H s) (e:Rd H a (.dK kvs)) (h:∀ p s',H p=none->Inv X pins U (upd H p (.dK kvs)) s'->Q (.ref p) s'):wpAny (model X.prog X.w) A (call (.type "dict") [.ref a]) Q E s:=by
 obtain ⟨z,hd,vs,rel,dd⟩:=qi I.bQ e
 refine kt_call_dict hd dd (by rw [← rel.length];exact z) λ h' wN hs=>?_
 refine h _ _ (I.bQ.fresh (oX _)) (I.laid (a:=s.heap.objs.size) (o:=.dK kvs) (t':=s.toks) (λ b q hq=>?_) (oX _) (tI z (beq_eq_false_iff_ne.mpr (Zi (Yz I.big))) rel wN))
 exact (hs.2 b (Yz (Ys hq))).trans (be _ hq)
end
end L2
namespace Att
open PySem PySem.W PySem.Calls PyProof.Rows
theorem jb {P:Params} {h:Heap}:∀ (ns:List Int) (vs:List Value),WellAll P h vs (ns.map WData.int)->IntsAre vs ns:=by
 intro ns
 induction ns with
 | nil =>
   intro vs w
   rw [ZU] at w
   cases w
   exact .nil
 | cons n ns ih =>
   intro vs w
   rw [YT] at w
   cases w with
   | cons a b =>
     cases a
     exact .cons _ _ (ih _ b)
theorem qQ {l:OpenLaw} {n:Nat} (hn:l.most=some n) {P:Params} {h:Heap} {args:List WData} {vals:List Value}
   (vA:l.row.toRowW.claim.pre args=true) (L4:WellAll P h vals args) :
   ∃ a vs ns,vals=[Value.ref a]/\args=[WData.list (ns.map WData.int)]/\h.get? a=some { cls:=.type "list",data:=.seq vs.toArray }/\IntsAre vs ns/\ns.length<=n:=by
 have Wo:WShape.hasAll [] args [.list .int]=true:=(pre_splitW vA).1
 have hc:l.pre.holds [] { args:=args }=true:=(pre_splitW vA).2
 obtain ⟨d,r,rfl,h1,h2⟩:=hasAllW_cons Wo
 obtain rfl:=hasAllW_nil h2
 obtain ⟨xs,rfl,h3⟩:=hasW_list h1
 obtain ⟨ns,rfl⟩:=items_int h3
 have hlen:ns.length<=n:=by
   unfold OpenLaw.pre at hc
   have h4:(WTm.not (.lt (.lit (.int (n:Int))) (.len (.arg 0)))).holds [] { args:=[.list (ns.map .int)]}=true:=by
     have h4:=(holds_andW hc).1
     rw [hn] at h4
     exact h4
   have h5:=condW_of h4 (w_not (w_lt w_lit (w_len_list (w_arg rfl))))
   rw [ET] at h5
   refine Nat.le_of_not_lt λ q=>?_
   have q':(n:Int)<((ns.length:Nat):Int):=by lia
   first
     | (rw [YU q'] at h5;exact absurd h5 (by decide))
     | (simp at h5;lia)
 cases L4 with
 | cons w1 w2 =>
   cases w2
   cases w1 with
   | list ho nV=>exact ⟨_,_,ns,rfl,rfl,ho,jb ns _ nV,hlen⟩
theorem qu (l:OpenLaw) (args:List WData):l.row.toRowW.claim.post args (.bool true) args=true :=
 postW_of (r:=l.row.toRowW) (X:=(true == true))
   (show WShape.has [] (.bool true) .bool=true by first|rfl|decide|simp [WShape.has,WShape.arms,WShape.armsAll])
   (show (WTm.eq .res (.lit (.bool true))).value [] { args:=args,res:=some (.bool true),after:=args }=some (.bool (true == true)) from w_eq_bool (w_res rfl) w_lit) rfl
section
variable {prog:Program} {w:World} {A:Around} {E:Value->Shared->Prop} {s:Shared} {K:Frag}
def SI (h:Heap):Heap:={ h with objs:=#[]}
def ledger (h:Heap) (L d:Addr):List (Addr×Obj):=(List.range h.objs.size).filterMap λ a=>if a=L∨a=d then none else (h.get? a).map λ o=>(a,o)
end
end Att
namespace L2
open PySem PySem.Spec PyProof.Rows
variable {H:Hp} {qual:Str}
theorem kT:∀ {vs:List Value} {ns:List Int},IntsAre vs ns->Vals (ns.map V.int) vs
 | _,_,.nil => .nil
 | _,_,.cons n t h => .cons ⟨t,rfl⟩ (kT h)
def B9 (H:Hp):Prop:=∀ b,H b=none∨∃ o xs,H b=some (.kY o (.lst xs))
theorem uc {P:Program} {w:World} {K:W.Frag} {mg mb:Str->Option Value} {CX:ux} {k:Nat} {fa a:Addr} {fd:FuncData} {x:Str} {sp:Sp} {s₁:Shared} {vs:List Value} {ns:List Int} (KX:K.In s₁.heap) (ER:s₁.heap.Ns mainGlobals mg) (hb:s₁.heap.Ns builtinsNs mb) (V2:∀ x:Str,x ≠ "__name__"->mb x=bootBuiltins x) (Tg:s₁.heap.NoLimit) (hg:s₁.gens=#[]) (ha:s₁.heap.get? a=some { cls:=.type "list",data:=.seq vs.toArray }) (hi:IntsAre vs ns) (hl:ns.length<=sizeLine) (hr:bS k callerA) (F:∀ base:Heap,K.In base->base.Ns mainGlobals mg->dg P w K mg base CX k fa fd [x] sp) (Cc:∀ (s:Shared) (u:Value),BindsTo s fd ⟨[u],[]⟩ [(x,u)]) (wS:∀ H:Hp,B9 H->cg K H a (ns.map V.int)->sp [.ref a] H (λ v _=>v = .bl true) λ _ _ _=>False) (V6:∀ H e s',CX [] H s₁ (λ _ _ _=>False) e s'->False) :
   codeAny (model P w) callerA (.call (.ref fa) ⟨[.ref a],[]⟩) (λ r s'=>r = .ok (.ret (.bool true))/\OldK s₁.heap s'.heap/\s'.os=s₁.os/\AllBare s'.gens) s₁:=by
 have rv:=kT hi
 have QC:=hi.length
 have core:∀ H:Hp,B9 H->cg K H a (ns.map V.int)->hJ P w H s₁.heap->(∀ b,H b≠none->b=a)->(H a≠none->K.lookup a=none) ->
     codeAny (model P w) callerA (.call (.ref fa) ⟨[.ref a],[]⟩) (λ r s'=>r = .ok (.ret (.bool true))/\OldK s₁.heap s'.heap/\s'.os=s₁.os/\AllBare s'.gens) s₁:=by
   intro H hO hS bQ hA hK
   have qf:∀ {b:Addr} {o:Obj},s₁.heap.get? b=some o->H b=none->(lV s₁.heap H).get? b=some o:=λ e n=>ui e n
   have BO:∀ {b:Addr} {o:Obj} {es:Array DictEntry} {ep:Nat},s₁.heap.get? b=some o->o.data = .dict es ep->H b=none:=λ {b o es ep} e d=>by
     cases q:H b with
     | none=>rfl
     | some u =>
       have e':b=a:=hA b (by rw [q];simp)
       subst e'
       rw [ha] at e;cases e
       have d':Data.seq vs.toArray _=Data.dict es ep:=d
       cases d'
   have EX:∀ {b:Addr} {m:Str->Option Value},s₁.heap.Ns b m->(lV s₁.heap H).Ns b m:=λ {b m} ⟨o,es,ep,e,d,r⟩=>⟨o,es,ep,qf e (BO e d),d,r⟩
   have TY:K.In (lV s₁.heap H):=λ b o e=>qf (KX b o e) (by
     cases q:H b with
     | none=>rfl
     | some u =>
       have e':b=a:=hA b (by rw [q];simp)
       subst e'
       rw [hK (by rw [q];simp)] at e;cases e)
   have hM:Mod K mg (lV s₁.heap H):=⟨TY,EX ER,⟨mb,EX hb,V2⟩,let ⟨mc,h1,h2⟩:=Tg;⟨mc,EX h1,h2⟩⟩
   have e0:oR P w K mg (lV s₁.heap H) callerA [] s₁ H:=⟨rfl,hM,λ b o e=>uW e,Nat.le_of_eq (qN _ _),trivial,λ b hb=>absurd (show b∈([]:List Addr) from hb) (by simp),bQ,.of_eq hg⟩
   refine ZH ((F _ TY (EX ER)).run callerA [] s₁ H ⟨[.ref a],[]⟩ [.ref a] [.ref a] _ _ hr e0 (Cc s₁ (.ref a)) (.cons rfl .nil) (wS H hO hS)) λ r s' h=>?_
   cases r with
   | error e=>exact (V6 H e s' h).elim
   | ok fl =>
     cases fl with
     | next=>exact False.elim h
     | brk=>exact False.elim h
     | cont=>exact False.elim h
     | ret u =>
       obtain ⟨v,H',os,bare,un,Kq,r',q⟩:=h
       have q':v = .bl true:=q
       subst q'
       obtain rfl:u=Value.bool true:=r'
       refine ⟨rfl,OldK.of_keep λ b o e=>?_,os,bare⟩
       cases q:H b with
       | none=>exact un.keep b o e q (by intro z;exact absurd (show b∈([]:List Addr) from z) (by simp)) (by simp)
       | some u =>
         rcases hO b with z|⟨ob,xs,z⟩
         . rw [q] at z;cases z
         . have z2:=un.jK b ob _ z
           obtain ⟨e1,_⟩:=bQ b _ z
           obtain ⟨e2,_⟩:=Kq b _ z2
           rw [e] at e1;cases e1
           exact e2
 cases hk:K.lookup a with
 | some o =>
   have e:=KX a o hk
   rw [ha] at e
   cases e
   refine core (λ _=>none) (λ _ => .inl rfl) (.inr ⟨_,vs.toArray,_,hk,rfl,rfl,rfl,by rw [Yv,QC];exact hl,by simpa using rv⟩) (λ b u z=>by have z':(none:Option HO)=some u:=z;cases z') (λ b z=>absurd rfl z) λ z=>absurd rfl z
 | none =>
   refine core (λ b=>if b=a then some (.kY { cls:=.type "list",data:=.seq vs.toArray } (.lst (ns.map V.int))) else none) (λ b=>?_) (.inl (.inr ⟨{ cls:=.type "list",data:=.seq vs.toArray },YK rfl⟩)) (λ b u z=>?_) (λ b z=>?_) λ _=>hk
   . by_cases hb:b=a
     . exact .inr ⟨_,_,YK hb⟩
     . exact .inl (YG hb)
   .
    by_cases hb:b=a
    . have z':=(YK hb).symm.trans z
      cases z'
      subst hb
      exact ⟨ha,by rw [ET];exact hl,vs,_,rv,ha⟩
    . have z':=(YG hb).symm.trans z
      cases z'
   . by_cases hb:b=a
     . exact hb
     . exact absurd (YG hb) z
def inClass (s:Stmt) (j:Nat):Stmt:=match s with
 | .ClassDef _ _ _ body _ _ _ _ _ _ _=>body.getD j (.Pass ⟨0,0,0,0⟩)
 | _ => .Pass ⟨0,0,0,0⟩
def bc (s:Stmt):Arguments:=match s with
 | .FunctionDef _ a _ _ _ _ _ _ _ _=>a
 | _=>{ posonlyargs:=[],args:=[],vararg:=none,kwonlyargs:=[],kw_defaults:=[],kwarg:=none,defaults:=[]}
def aM (s:Stmt):List Stmt:=match s with
 | .FunctionDef _ _ b _ _ _ _ _ _ _=>b
 | _=>[]
def ah (s:Stmt):Scope:=match s with
 | .FunctionDef _ _ _ _ _ _ sc _ _ _=>sc
 | _=>{ kind:=.function,names:=[],isGenerator:=false,isCoroutine:=false }
abbrev iP:ux:=λ _ _ _ _ _ _=>False
abbrev E0:XK:=λ _ _ _=>False
theorem mZ {X:Cx}:Passes iP X E0:=λ _ _ _ _ _ _ _ h=>h.elim
structure uY (K:W.Frag) (x qual:Str) (st:Stmt) (f:Addr) (fd:FuncData):Prop where
 ex:∃ (oc:Value) (od:Option Addr) (kV doc pm:Value) (an:Option Addr) (aP ct:Value) (oh:Array (Option Value)),
   fd=W.fnOf x qual (bc st) (aM st) (ah st) .none kV doc pm an aP ct/\K.lookup f=some ⟨oc,od,.func fd,oh⟩/\W.codeIn K aP qual=true
 kp:W.keepIn K (.ref f)=true
section
variable {P:Program} {w:World} {K:W.Frag} {mg:Str->Option Value} {base:Heap}
theorem uY.ok {x:Str} {st:Stmt} {f:Addr} {fd:FuncData} {N ps:List Str} {k:Nat} {sp:Sp} (F:uY K x qual st f fd) (S:av N ps (ah st)) (len:∀ vs H Q E,sp vs H Q E->vs.length=ps.length) (dO:∀ (aP:Value) (A:Around) (outer:List Env) (s:Shared) (H:Hp) (vs:List V) (Q:VK) (E:XK),bS k (A.deeper (envOfC qual (ah st) s.heap.objs.size f aP))->sp vs H Q E ->
     ∃ t,k8 (iN iP P w K mg base N qual (ah st) f aP A outer s H E).rQ (aM st) t/\t { nx:=λ _ H'=>Q .bG H',rt:=Q } (start N vs) H):dg P w K mg base iP (k+1) f fd ps sp:=by
 obtain ⟨oc,od,kV,doc,pm,an,aP,ct,oh,rfl,lk,mw⟩:=F.ex
 refine wr lk mw S len λ A outer s H vs Q E hr wS=>?_
 obtain ⟨t,h,q⟩:=dO aP A outer s H vs Q E hr wS
 exact ⟨t,h.rQ,q⟩
theorem uY.binds {x:Str} {st:Stmt} {f:Addr} {fd:FuncData} {ps:List Str} (F:uY K x qual st f fd) (h:∀ (kV doc pm:Value) (an:Option Addr) (aP ct:Value) (us:List Value),us.length=ps.length->bindArgs (W.fnOf x qual (bc st) (aM st) (ah st) .none kV doc pm an aP ct) ⟨us,[]⟩=pure (ps.zip us)):Binds K fd ps []:=by
 obtain ⟨oc,od,kV,doc,pm,an,aP,ct,oh,rfl,lk,mw⟩:=F.ex
 exact .all (h kV doc pm an aP ct)
theorem bT {x:Str} {st:Stmt} {f:Addr} {oc:Value} {od an:Option Addr} {oh:Array (Option Value)} {kV doc pm aP ct:Value} (l:K.lookup f=some ⟨oc,od,.func (W.fnOf x qual (bc st) (aM st) (ah st) .none kV doc pm an aP ct),oh⟩) (c:W.codeIn K aP qual=true) (k:W.keepIn K (.ref f)=true):uY K x qual st f (W.fnOf x qual (bc st) (aM st) (ah st) .none kV doc pm an aP ct):=⟨⟨oc,od,kV,doc,pm,an,aP,ct,oh,rfl,l,c⟩,k⟩
end
theorem Dw {A:Around} {k:Nat} (hr:bS k A):A.units+1<cLine:=Z2 (Nat.add_le_add_left (by decide:1<=64) _) hr.units
theorem cu {n:Nat} (h:n<=1000):n<sizeLine:=Z2 h (by decide)
section
variable {X:Cx}
theorem pv (i:Nat) {x:Str} {pos:Pos} (hN:X.N[i]?=some x:=by rfl) (hv:E1 X.env.scope x:=by first|exact Or.inl rfl|exact Or.inr (Or.inl rfl)|exact Or.inr (Or.inr rfl)) (hd:(x == ("__debug__" : Str))=false:=by decide) (mw:(x == ("__classdict__" : Str))=false:=by decide):PE X (.Name x pos) (Co i):=yc hN hv hd mw
end
theorem fP {A B:Prop} (h:B):if false=true then A else B:=by
 rw [YG EE]
 exact h
theorem eN {A B:Prop} (h:A):if true=true then A else B:=by
 rw [YK rfl]
 exact h
theorem rE {c A B:Prop} [Decidable c] (hc:c) (h:B):if (!decide c)=true then A else B:=by
 rw [YU hc]
 exact fP h
def az (H H':Hp):Prop:=∀ b o,H b=some o->H' b=some o
theorem az.refl (H:Hp):az H H:=λ _ _ h=>h
theorem az.trans {H1 H2:Hp} (a:az H H1) (b:az H1 H2):az H H2:=λ c o h=>b c o (a c o h)
theorem az.seq {K:W.Frag} {H':Hp} {a:Addr} {xs:List V} (e:az H H') (h:cg K H a xs):cg K H' a xs:=by
 rcases h with (h|⟨o,h⟩)|h
 . exact .inl (.inl (e _ _ h))
 . exact .inl (.inr ⟨o,e _ _ h⟩)
 . exact .inr h
end L2
namespace Mth
def Bd (n:Nat) (x:Int):Prop:=x.natAbs<2 ^ n
theorem Bd.log {n:Nat} {x:Int} (h:Bd n x) (hn:0<n):x.natAbs.log2<n:=by
 by_cases h0:x.natAbs=0
 . rw [h0];simpa using hn
 . exact (Nat.log2_lt h0).mpr h
end Mth
namespace Bit
def rooms (n:Nat):List Nat:=(List.range 61).filter n.testBit
def sumOf (l:List Nat):Nat:=l.foldl (λ n r=>n ||| 2 ^ r) 0
def parts (l:List Nat):List Nat:=l.foldl (λ ps r=>ps++ps.map (· ||| 2 ^ r)) [0]
structure Ok (ps l:List Nat):Prop where
 len:ps.length=2 ^ l.length
 first:ps[0]?=some 0
 last:ps[ps.length - 1]?=some (sumOf l)
 rise:ps.Pairwise (· < ·)
 sub:∀ p∈ps,∀ k,p.testBit k=true->k∈l
end Bit
namespace L2
open PySem PySem.Spec PyProof.Rows Mth
theorem eo:bootBuiltins "len" = some (.builtin "len"):=by decide +kernel
theorem eA:bootBuiltins "isinstance" = some (.builtin "isinstance"):=by decide +kernel
theorem jL:bootBuiltins "tuple" = some (.type "tuple"):=by decide +kernel
theorem pT:bootBuiltins "list" = some (.type "list"):=by decide +kernel
theorem jA:bootBuiltins "int" = some (.type "int"):=by decide +kernel
theorem wg:bootBuiltins "bool" = some (.type "bool"):=by decide +kernel
theorem p8 {n:Nat} {x:Int} (h:Bd n x):Builtin.Int.intBits x<=n:=PySem.intBits_le_iff.mpr h
theorem uJ {n:Nat} {x:Int} (h:Builtin.Int.intBits x<=n):Bd n x:=PySem.intBits_le_iff.mp h
section
variable {X:Cx}
def ww (i j:Int):Prop:=∃ m n,Bd m i/\Bd n j/\m+n<=100000000
def wL (_ j:Int):Prop:=j≠0/\Bd 8999 j
theorem vQ:fq X (binaryOp .Mult) (rI ww λ i j => .int (i * j)):=yx λ _ _ _ _ _ _ _ hc q=>by
 obtain ⟨m,n,h1,h2,h3⟩:=hc
 exact mul_int q (IntMulOk.of_le (p8 h1) (p8 h2) (by lia))
theorem rY:fq X (binaryOp .FloorDiv) (rI wL λ i j => .int (i.fdiv j)):=yx λ _ _ _ _ _ _ _ hc q=>by
 have h2:Bd 8999 _:=hc.2
 exact floordiv_int hc.1 q (.inl (ZM (T1 (h2.log (by decide)) (by decide))))
inductive Bp (K:W.Frag) (x:V) (y:V) (H:Hp) (Q:VK):Prop
 | mk (p xs i v:_) (_:x = .ref p) (_:y = .int i) (_:(cg K H p xs∨aK K H p xs)) (_:mS xs i=some v) (_:Q v H)
theorem al:CJ X (Bp X.K):=by
 intro value slice pins s U H x y v u Q I rx ry h hs
 obtain ⟨p,xs,i,w,e1,e2,hq,e3,q⟩:=h
 rcases hq with hq|hq
 . exact wd value slice pins s U H x y v u Q I rx ry ⟨p,xs,i,w,e1,e2,hq,e3,q⟩ hs
 . exact xP value slice pins s U H x y v u Q I rx ry ⟨p,xs,i,w,e1,e2,hq,e3,q⟩ hs
theorem fI:f6 X (.builtin "isinstance") (λ xs H Q=>∃ x c t cv b,xs=[x,c]/\gf X.K H x t/\RelV c cv/\W.kitOne X.K t cv=some b/\Q (.bl b) H):=by
 intro pins s U H xs us Q I r h
 obtain ⟨x,c,t,cv,b,rfl,ty,rc,e,q⟩:=h
 obtain ⟨u,w',rfl,r1,r2⟩:=vals2 r
 have:w'=cv:=by
   cases c with
   | bG=>cases r2;cases rc;rfl
   | bl b=>cases r2;cases rc;rfl
   | ref a=>cases r2;cases rc;rfl
   | ty n=>cases r2;cases rc;rfl
   | int i=>exact absurd e (by obtain ⟨k,rfl⟩:=rc;intro z;unfold W.kitOne W.kitCls at z;cases ty<;>simp at z)
   | str i=>exact absurd e (by obtain ⟨k,rfl⟩:=rc;intro z;unfold W.kitOne W.kitCls at z;cases ty<;>simp at z)
   | qT i=>exact absurd e (by obtain ⟨k,rfl⟩:=rc;intro z;unfold W.kitOne W.kitCls at z;cases ty<;>simp at z)
   | wM i=>exact absurd e (by obtain ⟨k,rfl⟩:=rc;intro z;unfold W.kitOne W.kitCls at z;cases ty<;>simp at z)
 subst this
 exact qV I r1 ty e λ tk=>⟨.bl b,H,I.tok _,rfl,q⟩
end
def jk (K:W.Frag) (mg:Str->Option Value) (x:Str) (st:Stmt):Prop:=∃ f fd,mg x=some (.ref f)/\uY K x x st f fd
def Def (P:Program) (w:World) (K:W.Frag) (mg:Str->Option Value) (base:Heap) (x:Str) (k:Nat) (ps:List Str) (sp:Sp):Prop :=
 ∃ f fd,mg x=some (.ref f)/\W.keepIn K (.ref f)=true/\Binds K fd ps []/\dg P w K mg base iP k f fd ps sp
section
variable {P:Program} {w:World} {K:W.Frag} {mg:Str->Option Value} {base:Heap}
theorem jk.def {x:Str} {st:Stmt} {N ps:List Str} {k:Nat} {sp:Sp} (h:jk K mg x st) (S:av N ps (ah st)) (len:∀ vs H Q E,sp vs H Q E->vs.length=ps.length)
   (hb:∀ (kV doc pm:Value) (an:Option Addr) (aP ct:Value) (us:List Value),us.length=ps.length->bindArgs (W.fnOf x x (bc st) (aM st) (ah st) .none kV doc pm an aP ct) ⟨us,[]⟩=pure (ps.zip us))
   (dO:∀ (f:Addr) (aP:Value) (A:Around) (outer:List Env) (s:Shared) (H:Hp) (vs:List V) (Q:VK) (E:XK),bS k (A.deeper (envOfC x (ah st) s.heap.objs.size f aP))->sp vs H Q E ->
     ∃ t,k8 (iN iP P w K mg base N x (ah st) f aP A outer s H E).rQ (aM st) t/\t { nx:=λ _ H'=>Q .bG H',rt:=Q } (start N vs) H):Def P w K mg base x (k+1) ps sp:=by
 obtain ⟨f,fd,hm,F⟩:=h
 exact ⟨f,fd,hm,F.kp,F.binds hb,F.ok S len λ aP A outer s H vs Q E hr hs=>dO f aP A outer s H vs Q E hr hs⟩
theorem uY.xL {x qual:Str} {st:Stmt} {f:Addr} {fd:FuncData} {p:Str} (F:uY K x qual st f fd)
   (h:∀ (kV doc pm:Value) (an:Option Addr) (aP ct:Value) (u:Value),bindArgs (W.fnOf x qual (bc st) (aM st) (ah st) .none kV doc pm an aP ct) ⟨[u],[]⟩=pure [(p,u)]) (s:Shared) (u:Value):BindsTo s fd ⟨[u],[]⟩ [(p,u)]:=by
 obtain ⟨oc,od,kV,doc,pm,an,aP,ct,oh,rfl,lk,mw⟩:=F.ex
 exact .of_eq (h kV doc pm an aP ct u)
end
section
variable {X:Cx} {x:Str} {p pos:Pos} {e:Expr} {es:List Expr} {t:TA} {k:Nat} {ps:List Str} {sp:Sp}
theorem au (D:Def X.prog X.w X.K X.mg X.base x k ps sp) (hr:bS k X.A) (ha:PA X (e::es) t) (hg:Gl X x:=by rfl) (lU:(x == ("__debug__" : Str))=false:=by decide)
   (he:starEach (e::es) X.env=(false,eval e X.env)::starEach es X.env:=by rfl) (eF:(backTo pos (starEach es X.env)).any (·.1)=false:=by rfl):PE X (.Call (.Name x p) (e::es) [] pos) (pp sp [] E0 t):=by
 obtain ⟨f,fd,hm,hk,hb,F⟩:=D
 exact vd F hr hg hm hk hb .nil mZ ha lU he eF
end
theorem pi {n:Int} {m:Nat} (h:(W.WData.int n).weight<=m):Bd m n:=by
 refine uJ ?_
 simpa only [W.WData.weight,Builtin.Int.intBits] using h
end L2
namespace Att
open PySem PySem.W PySem.Calls PyProof.Rows Mth
theorem mq {l:OpenLaw} {n:Nat} {q:Program} {loose:List Str} {XP:(Str->Option Value)->Heap->Prop} {YP:World->Heap->Prop} {d:DefRec}
   (hn:l.most=some n) (Cd:d.params.defaults=[])
   (call:∀ (w:World) (s₀ s₁:Shared) (mg mb:Str->Option Value) (fa:Addr) (o:Obj) (pm cd doc:Value) (a:Addr) (vs:List Value) (ns:List Int),
     Ground q loose [] XP w s₀ mg mb s₁.heap->YP w s₁.heap ->
     s₁.heap.get? fa=some o->o.data = .func (docDef d.name d.params d.body d.scope pm cd doc)->s₁.heap.CodeRec cd d.name->mg d.name=some (.ref fa) ->
     s₁.heap.get? a=some { cls:=.type "list",data:=.seq vs.toArray }->IntsAre vs ns->ns.length<=n->(∀ z∈ns,Bd 1048576 z)->s₁.gens=#[] ->
     codeAny (model l.prog w) callerA (.call (.ref fa) ⟨[.ref a],[]⟩) (λ r s'=>r = .ok (.ret (.bool true))/\OldK s₁.heap s'.heap/\s'.os=s₁.os/\AllBare s'.gens) s₁) :
   WalkO q loose XP YP l.row.toRowW d [] (λ f vs=>PySem.call f vs):=by
 intro w s₀ s₁ mg mb G Y fa o pm cd doc dV kV ho hd mw hD yD hg args vals as vA Gc XM L4 Yg
 obtain rfl:dV = .none:=Dflts.none hD Cd
 obtain rfl:kV = .none:=Dflts.noKw hD
 obtain ⟨a,vs,ns,rfl,rfl,xm,hints,hlen⟩:=qQ hn vA L4
 have pR:∀ z∈ns,Bd 1048576 z:=λ z hz=>by
   have h1:=layableW_arg Gc _ (List.mem_singleton.mpr rfl)
   have h2:=layableW_item h1 (.int z) (List.mem_map.mpr ⟨z,hz,rfl⟩)
   exact L2.pi (YL (layableW_iff.mp h2).2.2 (by decide))
 refine enter_call (ZH (call w s₀ s₁ mg mb fa o pm cd doc a vs ns G Y ho (fd_plain hd) mw yD xm hints hlen pR hg) λ r s' hq=>?_)
 obtain ⟨rfl,h2,h3,h4⟩:=hq
 exact ⟨.inl ⟨.bool true,.bool true,[],rfl,λ _=>rfl,.bool true,qu l _,λ _=>⟨List.Pairwise.nil,λ _ hm=>(nomatch hm)⟩⟩,h2,h3,h4⟩
end Att
namespace L2
open PySem PySem.Spec PyProof.Rows Mth
variable {H H':Hp} {T:Addr} {X:Cx} {elt iter tg:Expr} {ifs:List Expr} {nt:Nat} {o:HO} {sl:List Nat} {te:TE} {xs:List V} {U:St}
inductive uC (K:W.Frag) (vs:List V) (H:Hp) (Q:VK) (_E:XK):Prop
 | mk (a:Addr) (ns:List Int) (_:vs=[.ref a]) (_:cg K H a (ns.map V.int)) (_:ns.length<=63) (_:(∀ z∈ns,Bd 1048576 z)) (_:∀ H',Q (.bl true) H')
theorem rP {l:W.OpenLaw} {k:Nat} {q:Program} {loose:List Str} {XP:(Str->Option Value)->Heap->Prop} {YP:World->Heap->Prop} {d:DefRec} {K:Params->W.Frag} {x:Str} (hn:l.most=some 63) (Cd:d.params.defaults=[]) (hr:bS k callerA) (hY:∀ (w:World) (h:Heap),YP w h->(K w.params).In h) (F:∀ (w:World) (mg:Str->Option Value) (fa:Addr) (h:Heap),(K w.params).In h->h.Ns mainGlobals mg->mg d.name=some (.ref fa) ->
     ∃ fd:FuncData,(∀ (s:Shared) (u:Value),BindsTo s fd ⟨[u],[]⟩ [(x,u)]) /\
       ∀ base:Heap,(K w.params).In base->base.Ns mainGlobals mg->dg l.prog w (K w.params) mg base iP k fa fd [x] (uC (K w.params))) :
   W.WalkO q loose XP YP l.row.toRowW d [] (λ f vs=>PySem.call f vs):=by
 refine Att.mq hn Cd λ w s₀ s₁ mg mb fa o pm cd doc a vs ns G Y ho hd mw yD xm hints hlen pR hg=>?_
 have KX:=hY w _ Y
 obtain ⟨fd,hb,hF⟩:=F w mg fa _ KX G.T.g yD
 exact uc KX G.T.g G.T.b G.T.builtins G.T.nolimit hg xm hints (YL hlen (by decide)) hr hF hb (λ H hO hS=>⟨a,ns,rfl,hS,hlen,pR,λ _=>rfl⟩) λ H e s' z=>z
section
variable {X:Cx}
inductive CD  (x:V) (y:V) (H:Hp) (Q:VK):Prop
 | mk (i j:_) (_:x = .int i) (_:y = .int j) (_:∀ r:Int,r=i+j->Q (.int r) H)
inductive Dy  (x:V) (y:V) (H:Hp) (Q:VK):Prop
 | mk (i j:_) (_:x = .int i) (_:y = .int j) (_:∀ r:Int,r=i - j->Q (.int r) H)
inductive yY  (x:V) (y:V) (H:Hp) (Q:VK):Prop
 | mk (i j:_) (_:x = .int i) (_:y = .int j) (_:ww i j) (_:∀ r:Int,r=i * j->Q (.int r) H)
inductive AZ  (x:V) (y:V) (H:Hp) (Q:VK):Prop
 | mk (i j:_) (_:x = .int i) (_:y = .int j) (_:wL i j) (_:∀ r:Int,r=i.fdiv j->Q (.int r) H)
inductive Dd  (x:V) (y:V) (H:Hp) (Q:VK):Prop
 | mk (i j:_) (_:x = .int i) (_:y = .int j) (_:u3 i j) (_:∀ r:Int,r=i ^ j.toNat->Q (.int r) H)
inductive DS  (x:V) (y:V) (H:Hp) (Q:VK):Prop
 | mk (i j:_) (_:x = .int i) (_:y = .int j) (_:u3 i j) (_:∀ r:Int,r=i * 2 ^ j.toNat->Q (.int r) H)
inductive AE  (x:V) (y:V) (H:Hp) (Q:VK):Prop
 | mk (i j:_) (_:x = .int i) (_:y = .int j) (_:0<=j) (_:∀ r:Int,r=i / 2 ^ j.toNat->Q (.int r) H)
inductive LU  (x:V) (y:V) (H:Hp) (Q:VK):Prop
 | mk (i j:_) (_:x = .int i) (_:y = .int j) (_:∀ r:Int,r=Builtin.bitOr i j->Q (.int r) H)
inductive BP  (x:V) (y:V) (H:Hp) (Q:VK):Prop
 | mk (i j:_) (_:x = .int i) (_:y = .int j) (_:∀ r:Int,r=Builtin.bitAnd i j->Q (.int r) H)
inductive WX  (x:V) (y:V) (H:Hp) (Q:VK):Prop
 | mk (i j:_) (_:x = .int i) (_:y = .int j) (_:0<j) (_:∀ r:Int,0<=r->r<j->r=i % j->Q (.int r) H)
theorem aS:fq X (binaryOp .Add) CD:=λ pins s U H x y v u Q I rx ry ⟨i,j,e1,e2,q⟩=>xq pins s U H x y v u Q I rx ry ⟨i,j,e1,e2,q _ rfl⟩
theorem qb:fq X (binaryOp .Sub) Dy:=λ pins s U H x y v u Q I rx ry ⟨i,j,e1,e2,q⟩=>xV pins s U H x y v u Q I rx ry ⟨i,j,e1,e2,q _ rfl⟩
theorem cw:fq X (binaryOp .Mult) yY:=λ pins s U H x y v u Q I rx ry ⟨i,j,e1,e2,c,q⟩=>vQ pins s U H x y v u Q I rx ry ⟨i,j,e1,e2,c,q _ rfl⟩
theorem cL:fq X (binaryOp .FloorDiv) AZ:=λ pins s U H x y v u Q I rx ry ⟨i,j,e1,e2,c,q⟩=>rY pins s U H x y v u Q I rx ry ⟨i,j,e1,e2,c,q _ rfl⟩
theorem p0:fq X (binaryOp .Pow) Dd:=λ pins s U H x y v u Q I rx ry ⟨i,j,e1,e2,c,q⟩=>xr pins s U H x y v u Q I rx ry ⟨i,j,e1,e2,c,q _ rfl⟩
theorem vK:fq X (binaryOp .LShift) DS:=λ pins s U H x y v u Q I rx ry ⟨i,j,e1,e2,c,q⟩=>yn pins s U H x y v u Q I rx ry ⟨i,j,e1,e2,c,q _ rfl⟩
theorem u7:fq X (binaryOp .RShift) AE:=λ pins s U H x y v u Q I rx ry ⟨i,j,e1,e2,c,q⟩=>xX pins s U H x y v u Q I rx ry ⟨i,j,e1,e2,c,q _ rfl⟩
theorem uf:fq X (binaryOp .BitOr) LU:=λ pins s U H x y v u Q I rx ry ⟨i,j,e1,e2,q⟩=>Bz pins s U H x y v u Q I rx ry ⟨i,j,e1,e2,q _ rfl⟩
theorem vb:fq X (binaryOp .BitAnd) BP:=λ pins s U H x y v u Q I rx ry ⟨i,j,e1,e2,q⟩=>x5 pins s U H x y v u Q I rx ry ⟨i,j,e1,e2,q _ rfl⟩
theorem aD:fq X (binaryOp .Mod) WX:=λ pins s U H x y v u Q I rx ry ⟨i,j,e1,e2,c,q⟩ =>
 xu pins s U H x y v u Q I rx ry ⟨i,j,e1,e2,c,q _ (Int.emod_nonneg _ (by lia)) (Int.emod_lt_of_pos _ c) rfl⟩
theorem cb:f6 X (.builtin "len") (λ xs H Q=>∃ p ys,xs=[.ref p]/\(cg X.K H p ys∨aK X.K H p ys)/\∀ r:Int,r=ys.length->Q (.int r) H) :=
 λ pins s U H xs us Q I r ⟨p,ys,e,hq,q⟩=>lO pins s U H xs us Q I r ⟨p,ys,e,hq,q _ rfl⟩
def SN (t:TS):TS:=λ D U H=>∃ P:St->Hp->Prop,t { D with nx:=P } U H/\∀ σ' H',P σ' H'->D.nx σ' H'
theorem yd {st:Stmt} {t:TS} (h:PS X st t):PS X st (SN t):=by
 intro pins s U H D I hw
 obtain ⟨P,h1,h2⟩:=hw
 refine bX (h pins s U H { D with nx:=P } I h1) λ f s1 q=>?_
 cases f with
 | next =>
   obtain ⟨σ',H',I',q⟩:=q
   exact ⟨σ',H',I',h2 σ' H' q⟩
 | ret v=>exact q
 | brk=>exact q
 | cont=>exact q
end
theorem iq {c A B:Prop} [Decidable c] (hc:c) (h:A):if decide c=true then A else B:=by
 rw [YU hc];exact eN h
theorem cn {c A B:Prop} [Decidable c] (hc:¬ c) (h:B):if decide c=true then A else B:=by
 rw [YA hc];exact fP h
theorem fu {c A B:Prop} [Decidable c] (h1:c->A) (h2:¬ c->B):if decide c=true then A else B:=by
 by_cases h:c
 . exact iq h (h1 h)
 . exact cn h (h2 h)
theorem vS {a b:Int}:V.int a=V.int b↔a=b:=⟨λ e=>by cases e;rfl,λ e=>by rw [e]⟩
theorem ap {p:Addr} (h:H p=none):az H (upd H p o):=λ b u e=>by rw [aB (aH e h)];exact e
theorem az.tup {K:W.Frag} {a:Addr} (e:az H H') (h:aK K H a xs):aK K H' a xs:=by
 rcases h with (h|⟨o,h⟩)|h
 . exact .inl (.inl (e _ _ h))
 . exact .inl (.inr ⟨o,e _ _ h⟩)
 . exact .inr h
theorem uI {n:Nat} {x:Int} (h:x.natAbs<2 ^ n:=by decide):Bd n x:=h
theorem mR (K:W.Frag):W.kitOne K (.type "int") (.type "bool")=some false:=by
 show (if W.kitMeta "bool" = true then ((PySem.fastBuiltinMro "int").map (·.contains (Value.type "bool"))) else none)=some false
 decide +kernel
theorem jQ {x y:V}:[x,y].length<=sizeLine:=by show 2<=sizeLine;decide
theorem xg {x y z:V}:[x,y,z].length<=sizeLine:=by show 3<=sizeLine;decide
inductive oE (K:W.Frag) (vs:List V) (H:Hp) (Q:VK) (_E:XK):Prop
 | mk (a:Addr) (ns:List Int) (k:Int) (_:vs=[.ref a,.int k]) (_:cg K H a (ns.map V.int)) (_:0<=k) (_:∀ z,(z∈ns∨z=0)->Q (.int z) H)
def bp (X:Cx) (N':List Str) (scope:Scope) (cl:List (Str×Addr)) (C:Addr) (s:Shared) (H:Hp) (ex:List Addr):Cx :=
 { X with N:=N',env:=compEnvC scope cl C X.env,s₀:=s,H₀:=H,outer:=X.stack,ex:=ex,fn:=λ _=>false,pn:=[],xe:=λ _ _=>False }
def wC (X:Cx) (ifs:List Expr) (tt:TT):Prop :=
 ∀ (pins:List (Addr×Obj)) (s:Shared) (U:St) (H:Hp) (Q:Bool->Hp->Prop),Inv X pins U H s->tt U H Q ->
   wpAny (model X.prog X.w) X.A (forIn ifs true λ c r=>if r=true then do let ok ← isTrue c X.env (eval c X.env);pure (ForInStep.yield ok) else pure (ForInStep.yield r)) (TP X pins U Q) X.xe s
def Qe:TT:=λ _ H Q=>Q true H
theorem gH:wC X [] Qe:=λ _ _ _ H _ I h=>wpAny_tests_nil ⟨H,I,h⟩
theorem uK {c:Expr} {tt:TT} (hc:PT X c tt):wC X [c] tt:=λ pins s U H Q I h=>wpAny_tests_one (hc pins s U H Q I h)
def cJ (env:Env):List (Str×NameKind)->List (Str×Addr)->List (Str×Addr)
 | [],acc=>acc
 | y::r,acc=>cJ env r (if (y.2 == NameKind.free)=true then (y.1,(env.cells.lookup y.1).getD 0)::acc else acc)
theorem mm (env:Env):∀ (names:List (Str×NameKind)) (acc:List (Str×Addr)),(∀ y∈names,y.2 = .free->∃ c,env.cells.lookup y.1=some c) ->
   (forIn names acc λ x __s=>if (x.snd == NameKind.free)=true then do
       let __do_lift ← cellOf env x.fst
       pure (ForInStep.yield ((x.fst,__do_lift)::__s))
     else pure (ForInStep.yield __s))=(pure (cJ env names acc):Sem _)
 | [],acc,_=>rfl
 | y::r,acc,h=>by
   rw [ZB]
   by_cases hk:(y.2 == NameKind.free)=true
   .
    obtain ⟨c,e⟩:=h y YI (beq_iff_eq.mp hk)
    rw [YK hk]
    have ec:cellOf env y.1=pure c:=by unfold cellOf;rw [e]
    rw [ec]
    simp only [pure_bind]
    rw [mm env r _ λ z hz=>h z (Yy _ hz)]
    simp only [cJ,hk,Zd,e,Option.getD_some]
   . rw [YG hk]
     simp only [pure_bind]
     rw [mm env r _ λ z hz=>h z (Yy _ hz)]
     simp only [cJ,hk,Zl]
     rfl
theorem vj {scope:Scope} {env:Env} (h:∀ y∈scope.names,y.2 = .free->∃ c,env.cells.lookup y.1=some c):closureFor scope env=pure (cJ env scope.names []):=by
 simp only [closureFor]
 rw [mm env scope.names [] h]
 simp only [pure_bind]
theorem lC {env:Env}:∀ {names:List (Str×NameKind)} {acc:List (Str×Addr)},(∀ y∈names,y.2 = .free->∃ c,env.cells.lookup y.1=some c)->(∀ x c,acc.lookup x=some c->env.cells.lookup x=some c) ->
   ∀ x c,(cJ env names acc).lookup x=some c->env.cells.lookup x=some c
 | [],_,_,ha,x,c,e=>ha x c e
 | y::r,acc,h,ha,x,c,e=>by
   refine lC (names:=r) (λ z hz=>h z (Yy _ hz)) ?_ x c e
   intro x c e
   by_cases hk:(y.2 == NameKind.free)=true
   .
    rw [YK hk] at e
    obtain ⟨c',e'⟩:=h y YI (beq_iff_eq.mp hk)
    rw [e',Option.getD_some,YR] at e
    cases q:x == y.1 with
    | true=>rw [q] at e;cases e;rw [beq_iff_eq.mp q];exact e'
    | false=>rw [q] at e;exact ha x c e
   . rw [YG hk] at e;exact ha x c e
theorem ly {env:Env}:∀ {names:List (Str×NameKind)} {acc:List (Str×Addr)} {x:Str},(∃ c,acc.lookup x=some c)->∃ c,(cJ env names acc).lookup x=some c
 | [],_,_,h=>h
 | y::r,acc,x,⟨c,h⟩=>by
   refine ly (names:=r) ?_
   by_cases hk:(y.2 == NameKind.free)=true
   . rw [YK hk,YR]
     cases q:x == y.1 with
     | true=>exact ⟨_,rfl⟩
     | false=>exact ⟨c,h⟩
   . rw [YG hk];exact ⟨c,h⟩
theorem ie {env:Env}:∀ {names:List (Str×NameKind)} {acc:List (Str×Addr)} {y:Str×NameKind},y∈names->y.2 = .free->∃ c,(cJ env names acc).lookup y.1=some c
 | z::r,acc,y,hm,hk=>by
   rcases List.mem_cons.mp hm with rfl|hm
   . refine ly (names:=r) ?_
     rw [YK (beq_iff_eq.mpr hk),YR]
     simp
   . exact ie (names:=r) hm hk
theorem j5 {scope:Scope} {env:Env} {x:Str} {k:NameKind} (h:(relabel scope env).names.lookup x=some k) (hk:k = .cell∨k = .free) (dk:∀ y∈scope.names,y.2 ≠ .cell):(x,NameKind.free)∈scope.names:=by
 have hm:=YV h
 obtain ⟨⟨n,k0⟩,h1,h2⟩:=List.mem_map.mp hm
 dsimp only at h2
 split at h2
 .
  rename_i hc
  cases h2
  have:(k0 == NameKind.free)=true:=by
    simp only [YS] at hc
    exact hc.1.1
  rw [beq_iff_eq.mp this] at h1
  exact h1
 .
  cases h2
  rcases hk with rfl|rfl
  . exact absurd rfl (dk _ h1)
  . exact h1
theorem dm {env:Env}:∀ {names:List (Str×NameKind)} {x:Str},names.lookup x=some .free ->
   (names.map λ (n,k)=>if (k == NameKind.free && env.scope.kind == .function && env.kindOf n == some .cell) then (n,NameKind.cell) else (n,k)).lookup x=some .cell ∨
   (names.map λ (n,k)=>if (k == NameKind.free && env.scope.kind == .function && env.kindOf n == some .cell) then (n,NameKind.cell) else (n,k)).lookup x=some .free
 | [],_,h=>by simp at h
 | (n,k)::r,x,h=>by
   have ih:=@dm env r x
   show List.lookup x ((if (k == NameKind.free && env.scope.kind == .function && env.kindOf n == some .cell)=true then (n,NameKind.cell) else (n,k))::_)=_∨List.lookup x ((if (k == NameKind.free && env.scope.kind == .function && env.kindOf n == some .cell)=true then (n,NameKind.cell) else (n,k))::_)=_
   cases hx:x == n with
   | true =>
     simp only [YR,hx] at h
     cases h
     by_cases hc:(NameKind.free == NameKind.free && env.scope.kind == .function && env.kindOf n == some .cell)=true
     . rw [YK hc];simp [YR,hx]
     . rw [YG hc];simp [YR,hx]
   | false =>
     simp only [YR,hx] at h
     by_cases hc:(k == NameKind.free && env.scope.kind == .function && env.kindOf n == some .cell)=true
     . rw [YK hc];simp only [YR,hx];exact ih h
     . rw [YG hc];simp only [YR,hx];exact ih h
section
variable {prog:Program} {w:World} {A:Around} {E:Value->Shared->Prop} {R:Result->Shared->Prop} {s:Shared}
theorem m5 {target:Expr} {scope:Scope} {pos:Pos} {it acc:Value} {env:Env} (I:Nat->Shared->Prop) (turn:∀ n s,I n s->wpAny (model prog w) A (pyNext it) (λ r s₁=>match r with
     | none=>R (.ok .next) s₁
     | some v=>wpAny (model prog w) A (letOwnedTupleGo target it v) (λ _ s₁=>wpAny (model prog w) A (assign target env v) (λ _ s₂ =>
         wpAny (model prog w) A (forIn ifs true λ c r=>if r=true then do let ok ← isTrue c env (eval c env);pure (ForInStep.yield ok) else pure (ForInStep.yield r)) (λ ok s₃ =>
           if ok=true then wpAny (model prog w) A (eval elt env) (λ x s₄ =>
             wpAny (model prog w) A (call (.builtin "list.append") [acc,x]) (λ _ s₅=>∃ m,m<n/\I m s₅) (notedBy (model prog w) A env λ e s'=>R (.error e) s') s₄) (notedBy (model prog w) A env λ e s'=>R (.error e) s') s₃
           else ∃ m,m<n/\I m s₃) (notedBy (model prog w) A env λ e s'=>R (.error e) s') s₂) (notedBy (model prog w) A env λ e s'=>R (.error e) s') s₁) (notedBy (model prog w) A env λ e s'=>R (.error e) s') s₁) (notedBy (model prog w) A env λ e s'=>R (.error e) s') s) (n:Nat) (h:I n s) :
   codeAny (model prog w) A (.compLoop (.ListComp elt [⟨target,iter,ifs,0⟩] scope pos) 0 it acc env) R s:=by
 refine codeAny_loop rfl I (λ n s hI=>?_) n h
 show wpAny _ A ((compTurn (.ListComp elt [⟨target,iter,ifs,0⟩] scope pos) 0 it acc env).onRaise (λ x=>do noteFrame x env;theTreesLotGoes x)) _ _ s
 refine wpAny_noted ?_
 rw [compTurn_list]
 refine yB (wpAny_standAt (yB (YQ (turn n s hI) (λ r s₁ h₁=>?_) λ _ _ h'=>h')))
 cases r with
 | none=>exact Wf h₁
 | some v =>
   refine yB (YQ h₁ (λ _ Yk VF=>?_) λ _ _ h'=>h')
   refine yB (YQ VF (λ _ s₂ h₂=>yB (YQ h₂ (λ ok s₃ h₃=>?_) λ _ _ h'=>h')) λ _ _ h'=>h')
   cases ok with
   | false=>exact Wf ⟨rfl,h₃⟩
   | true =>
     exact yB (yB (YQ h₃ (λ x s₄ h₄=>yB (YQ h₄ (λ _ s₅ h₅=>Wf (Wf ⟨rfl,h₅⟩)) λ _ _ h'=>h')) λ _ _ h'=>h'))
end
section
variable {X:Cx}
def mX (wi:TI) (g:TG) (tt:TT) (te:TE) (nt:Nat) (sl:List Nat):TE:=λ U H Q=>wi U H λ J H1=>∀ D,H1 D=none ->
 ∃ W:Nat->Nat->List V->St->Hp->Prop,(∃ m,W 0 m [] (List.replicate nt none++sl.map λ j=>(U[j]?).join) (upd H1 D (.lst []))) /\
   ∀ i m acc σ' H',W i m acc σ' H' ->
     (J.stop i H'/\Q (.ref D) H') ∨
     (J.go i H'/\∃ N:List V->St->Hp->Prop,(∀ gO σ2 H4,N gO σ2 H4->∃ m',m'<m/\W (i+1) m' gO σ2 H4)/\∀ x H2,J.xa i H' x H2->g x σ' H2 λ σ2 H3=>tt σ2 H3 λ b H4 =>
       if b=true then te σ2 H4 λ y H5=>H5 D=some (.lst acc)/\acc.length<sizeLine/\N (acc++[y]) σ2 (upd H5 D (.lst (acc++[y])))
       else N acc σ2 H4)
theorem lB {scope:Scope} {pos:Pos} {wi:TI} {g:TG} {tt:TT} {N':List Str} (hc:X.calm=true) (hi:PI X tg iter wi) (hg:∀ cl C s H ex,PG (bp X N' scope cl C s H ex) tg g) (ht:∀ cl C s H ex,wC (bp X N' scope cl C s H ex) ifs tt) (he:∀ cl C s H ex,PE (bp X N' scope cl C s H ex) elt te) (AB:N'.length=nt+sl.length) (CN:∀ k j:Nat,sl[k]?=some j->∃ x,N'[nt+k]?=some x/\X.N[j]?=some x/\scope.names.lookup x=some .free) (hk:scope.kind = .function) (dk:∀ y∈scope.names,y.2 ≠ .cell) (fi:∀ y∈scope.names,y.2 = .local->scope.names.lookup y.1=some .local) (eH:∀ y∈scope.names,y.2 = .free->X.env.kindOf y.1=some .cell∨X.env.kindOf y.1=some .free) (hs:∀ x,foldedSetIterable iter X.env x=pure x) {use:Option (Value->Sem Unit)} {Qp:Value->Shared->Prop} {pins:List (Addr×Obj)} {s:Shared} {Q:V->Hp->Prop} {pos':Pos} (I:Inv X pins U H s) (h:mX wi g tt te nt sl U H Q) (fin:∀ (s6:Shared) (H5:Hp) (d c:Addr) m,Inv X pins U H5 s6->nH X pins H5 c->s6.heap.Ns c m->Q (.ref d) H5->compPost (model X.prog X.w) X.A X.xe use Qp (.ref d) c (.ok .next) s6) :
   wpAny (model X.prog X.w) X.A (comprehension (.ListComp elt [⟨tg,iter,ifs,0⟩] scope pos) scope X.env pos' (newList []) false (eval iter X.env) use) Qp X.xe s:=by
 have UV:∀ y∈scope.names,y.2 = .free->∃ c,X.env.cells.lookup y.1=some c:=λ y hy hf=>I.ok.has y.1 (eH y hy hf)
 have nA:=lC (env:=X.env) (names:=scope.names) (acc:=[]) UV (λ x c e=>by simp at e)
 refine wpAny_comprehension_free (use:=use) (cl:=cJ X.env scope.names []) rfl hs (vj UV) hk fi (bX (hi pins s U H _ I h) λ v s1 h1=>bX h1 λ IF s2 h2=>?_)
 obtain ⟨it,fp,tn,J,H2,rfl,I2,T,EW,f2,q⟩:=h2
 have nD:H2 s2.heap.objs.size=none:=I2.bQ.fresh (oX _)
 obtain ⟨W,⟨m0,w0⟩,turn⟩:=q s2.heap.objs.size nD
 refine wpAny_newObj_type ?_ (by show 0<=sizeLine;exact YX _)
 have I3:Inv X pins U (upd H2 s2.heap.objs.size (.lst [])) { s2 with heap:=s2.heap.push { cls:=.type "list",data:=.seq ([]:List Value).toArray }} :=
   I2.laid (t':=s2.toks) (λ b u e=>be _ e) (oX _) ⟨YX _,[],0,.nil,Yt _ rfl⟩
 generalize Ui:({ s2 with heap:=s2.heap.push { cls:=.type "list",data:=.seq ([]:List Value).toArray }}:Shared)=s3 at I3 ⊢
 have hle:s2.heap.objs.size<=s3.heap.objs.size:=by rw [← Ui];show _<=(Heap.push _ _).objs.size;rw [Zx];exact ZZ _
 have u2:∀ b o,s2.heap.get? b=some o->s3.heap.get? b=some o:=λ b o e=>by rw [← Ui];exact be _ e
 refine wpAny_newFunctionEnv dk (by intro y hy;simp at hy) (λ h₁ ER U7=>?_) hk
 have nU:∀ b o,s3.heap.get? b=some o->h₁.get? b=some o:=λ b o e=>U7.extBut b o (Yz (Ys e)) (be _ e)
 have nC:(upd H2 s2.heap.objs.size (.lst [])) s3.heap.objs.size=none:=I3.bQ.fresh (oX _)
 have Yr:s3.heap.get? s3.heap.objs.size=none:=Heap.get?_none_of_le (oX _)
 have Bg:∀ b∈fp,b<s2.heap.objs.size:=λ b hb=>by
   obtain ⟨o,e,_⟩:=T.obj _ _ EW b hb
   exact Ys e
 have UK:∀ b∈fp,b≠s3.heap.objs.size:=λ b hb=>Yz (T1 (Bg b hb) hle)
 have Xt:∀ b∈fp,b≠s2.heap.objs.size:=λ b hb=>Yz (Bg b hb)
 have UE:∀ b∈fp,b∉rp X.stack:=λ b hb hm=>by
   rcases List.mem_cons.mp (I2.oY b hm) with z|z
   . exact (f2 b hb).2.1 z
   . exact (f2 b hb).2.2.1 z
 have UW:∀ x c,(cJ X.env scope.names []).lookup x=some c->X.env.cells.lookup x=some c:=nA
 have oJ:∀ b∈fp,(b∈X.ex∨X.s₀.heap.objs.size<=b)/\b≠X.env.locals/\(∀ x c,X.env.cells.lookup x=some c->c≠b)/\∀ p∈X.pn++pins,p.1≠b:=λ b hb =>
   ⟨(f2 b hb).2.2.2.1,(f2 b hb).2.1,(f2 b hb).2.2.2.2.1,(f2 b hb).2.2.2.2.2⟩
 have Wn:(bp X N' scope (cJ X.env scope.names []) s3.heap.objs.size s3 (upd H2 s2.heap.objs.size (.lst [])) fp).Ok:=by
   refine ⟨I3.ok.mod,hk,I3.ok.glob,I3.ok.blt,oX _,λ x y c h1 h2=>I3.ok.inj x y c (nA x c h1) (nA y c h2),λ x hx=>?_,(λ x c hf=>nomatch hf),I3.ok.hd,I3.ok.frames,.inl rfl,λ b hb=>⟨UK b hb,λ x c e=>(oJ b hb).2.2.1 x c (nA x c e)⟩,
     I3.bs,YL I3.ok.wI I3.sz,λ b o e hb=>?_,UE,I3.stack,I3.pD⟩
   . have hm:(x,NameKind.free)∈scope.names:=by
       rcases hx with hx|hx
       . exact j5 hx (.inl rfl) dk
       . exact j5 hx (.inr rfl) dk
     exact ie hm rfl
   . rcases (oJ b hb).1 with z|z
     . exact I3.ok.tf b o e z
     . exact absurd (T1 (Ys (I3.ok.bs b o e).1) z) (Y7 _)
 have I4:Inv (bp X N' scope (cJ X.env scope.names []) s3.heap.objs.size s3 (upd H2 s2.heap.objs.size (.lst [])) fp) [] (List.replicate nt none++sl.map λ j=>(U[j]?).join) (upd H2 s2.heap.objs.size (.lst []))
     { s3 with heap:=h₁,toks:=s3.toks+([]:List (Str×Value)).length }:=by
   refine ⟨Wn,rfl,I3.bare,Un.kept nU,⟨_,ER,λ i x v e1 e2 e3=>?_⟩,λ x c e=>?_,nC,λ x c e=>I3.fG x c (nA x c e),λ p hp=>absurd hp (by simp [bp]),I3.bQ.kept nU,?_⟩
   .
    by_cases hi:i<nt
    . rw [ZF (by simpa using hi),ZP] at e2
      split at e2<;>cases e2
    .
     rw [Y2 (by simpa using hi),Zk,YN] at e2
     cases ej:sl[i - nt]? with
     | none=>rw [ej] at e2;cases e2
     | some j =>
       rw [ej] at e2
       have EM:(U[j]?).join=some v:=Yu e2
       have eσ:U[j]?=some (some v):=by
         cases q:U[j]? with
         | none=>rw [q] at EM;cases EM
         | some o=>rw [q] at EM;cases EM;rfl
       obtain ⟨y,n1,n2,n3⟩:=CN _ j ej
       have:nt+(i - nt)=i:=by lia
       rw [this] at n1
       have Xd:y=x:=Yu (n1.symm.trans e1)
       subst Xd
       have hm:(y,NameKind.free)∈scope.names:=YV n3
       have Ue:=eH _ hm rfl
       obtain ⟨m,hn,hl⟩:=I3.loc
       have WQ:E1 X.env.scope y:=by
         rcases Ue with z|z
         . exact .inr (.inl z)
         . exact .inr (.inr z)
       obtain ⟨u,r,l⟩:=hl j y v n2 eσ WQ
       refine ⟨u,r,.inr ⟨dm n3,?_⟩⟩
       obtain ⟨c,ec⟩:=ie (env:=X.env) (acc:=[]) hm rfl
       refine ⟨c,ec,?_⟩
       rcases l with ⟨k1,_⟩|⟨_,c',e',xo⟩
       . rcases Ue with z|z
         . rw [show X.env.kindOf y=some .local from k1] at z;cases z
         . rw [show X.env.kindOf y=some .local from k1] at z;cases z
       . have WN:c=c':=Yu ((nA y c ec).symm.trans e')
         subst WN
         obtain ⟨o,ho,hd⟩:=xo
         exact ⟨o,nU c o ho,hd⟩
   . obtain ⟨v,o,ho,hd⟩:=I3.cell x c (nA x c e)
     exact ⟨v,o,nU c o ho,hd⟩
   . show _=N'.length
     rw [AB,Yw,Zk,ET]
 have yz:tn 0 h₁:=T.keep _ _ _ EW λ b hb o e=>nU b o (u2 b o e)
 have xY:∀ {pl:List (Addr×Obj)} {H':Hp},pl=[]->(∀ b∈fp,H' b=none)->∀ b∈fp,nH (bp X N' scope (cJ X.env scope.names []) s3.heap.objs.size s3 (upd H2 s2.heap.objs.size (.lst [])) fp) pl H' b:=λ {pl H'} eF hn b hb=>by
   subst eF
   exact ⟨hn b hb,UK b hb,UE b hb,.inl hb,λ x c e=>(oJ b hb).2.2.1 x c (nA x c e),λ p hp=>absurd hp (by simp [bp])⟩
 have Vb:∀ b∈fp,(upd H2 s2.heap.objs.size (.lst [])) b=none:=λ b hb=>by rw [aB (Xt b hb)];exact (f2 b hb).1
 have loop:codeAny (model X.prog X.w) X.A (.compLoop (.ListComp elt [⟨tg,iter,ifs,0⟩] scope pos) 0 (.ref it) (.ref s2.heap.objs.size) (compEnvC scope (cJ X.env scope.names []) s3.heap.objs.size X.env))
     (compPost (model X.prog X.w) X.A X.xe use Qp (.ref s2.heap.objs.size) s3.heap.objs.size) { s3 with heap:=h₁,toks:=s3.toks+([]:List (Str×Value)).length }:=by
   refine m5 (λ n s'=>∃ i acc σ' H',Inv (bp X N' scope (cJ X.env scope.names []) s3.heap.objs.size s3 (upd H2 s2.heap.objs.size (.lst [])) fp) [] σ' H' s'/\tn i s'.heap/\(∀ b∈fp,H' b=none)/\W i n acc σ' H') ?_ m0 ⟨0,[],_,_,I4,yz,Vb,w0⟩
   rintro n s5 ⟨i,acc,σ5,H5,I5,yy,EO,w5⟩
   rcases turn i n acc σ5 H5 w5 with ⟨stop,qn⟩|⟨go,N,hN,step⟩
   . refine bX (T.done (bp X N' scope (cJ X.env scope.names []) s3.heap.objs.size s3 (upd H2 s2.heap.objs.size (.lst [])) fp) rfl rfl rfl hc i [] s5 σ5 H5 _ I5 (xY rfl EO) yy stop) λ r s6 ⟨hr,I6⟩=>?_
     subst hr
     obtain ⟨m,hn,_⟩:=id I6.loc
     exact fin s6 H5 _ _ m (I3.EI (s':=s6) I6.os I6.base I6.bQ I6.bare oJ) (I3.sw (oX _) I6.free) hn qn
   .
    refine bX (T.item (bp X N' scope (cJ X.env scope.names []) s3.heap.objs.size s3 (upd H2 s2.heap.objs.size (.lst [])) fp) rfl rfl rfl hc i [] s5 σ5 H5 _ I5 (xY rfl EO) yy go) λ r s6 ⟨u,hr,h6⟩=>?_
    subst hr
    refine bX h6 λ _ s7 ⟨x,H7,I7,r7,y7,OL,Wx⟩=>?_
    have Vh:=I7.pinned (xY rfl Wx) (T.obj _ _ OL)
    have again:∀ {s8:Shared} {σ8:St} {H8:Hp} {gO:List V},Inv (bp X N' scope (cJ X.env scope.names []) s3.heap.objs.size s3 (upd H2 s2.heap.objs.size (.lst [])) fp) ([]++jR fp s7.heap) σ8 H8 s8->(∃ m',m'<n/\W (i+1) m' gO σ8 H8) ->
        ∃ m,m<n/\∃ i acc σ' H',Inv (bp X N' scope (cJ X.env scope.names []) s3.heap.objs.size s3 (upd H2 s2.heap.objs.size (.lst [])) fp) [] σ' H' s8/\tn i s8.heap/\(∀ b∈fp,H' b=none)/\W i m acc σ' H':=λ {s8 σ8 H8 gO} I8 ⟨m',hm,w8⟩=>by
      refine ⟨m',hm,i+1,gO,σ8,H8,I8.hR,T.keep _ _ _ OL λ b hb o e=>(I8.pin (b,o) (YB _ (YB _ (fe hb e)))).1,λ b hb=>?_,w8⟩
      obtain ⟨o,e,d⟩:=T.obj _ _ OL b hb
      exact (I8.pin (b,o) (YB _ (YB _ (fe hb e)))).2.1
    refine YQ (hg _ _ _ _ _ _ s7 σ5 H7 x u _ Vh r7 (step x H7 y7)) (λ _ s8 ⟨σ8,H8,I8,q8⟩=>?_) λ _ _ z=>False.elim z
    refine YQ (ht _ _ _ _ _ _ s8 σ8 H8 _ I8 q8) (λ ok s9 ⟨H9,I9,q9⟩=>?_) λ _ _ z=>False.elim z
    cases ok with
    | false =>
      rw [YG EE] at q9 ⊢
      exact again I9 (hN _ _ _ q9)
    | true =>
      rw [YK rfl] at q9 ⊢
      refine YQ (he _ _ _ _ _ _ s9 σ8 H9 _ I9 q9) (λ y U2 ⟨yv,Uk,Wl,Vp,hD,hz,WB⟩=>?_) λ _ _ z=>False.elim z
      refine YQ (ik (X:=(bp X N' scope (cJ X.env scope.names []) s3.heap.objs.size s3 (upd H2 s2.heap.objs.size (.lst [])) fp)) _ U2 σ8 Uk (.ref s2.heap.objs.size) [yv] (.ref s2.heap.objs.size) [y] (λ _ Ln=>N (acc++[yv]) σ8 Ln) Wl rfl (.cons Vp .nil) ⟨_,acc,yv,rfl,rfl,hD,hz,WB⟩) (λ _ XZ ⟨v11,Ln,WO,Yj,W6⟩=>?_) λ _ _ z=>False.elim z
      exact again WO (hN _ _ _ W6)
 exact codeAny_compStart_list loop (T.self _ 0 _ _ _ yz loop)
theorem vI {scope:Scope} {pos:Pos} {wi:TI} {g:TG} {tt:TT} {N':List Str} (hc:X.calm=true) (hi:PI X tg iter wi) (hg:∀ cl C s H ex,PG (bp X N' scope cl C s H ex) tg g) (ht:∀ cl C s H ex,wC (bp X N' scope cl C s H ex) ifs tt) (he:∀ cl C s H ex,PE (bp X N' scope cl C s H ex) elt te) (AB:N'.length=nt+sl.length) (CN:∀ k j:Nat,sl[k]?=some j->∃ x,N'[nt+k]?=some x/\X.N[j]?=some x/\scope.names.lookup x=some .free) (hk:scope.kind = .function) (dk:∀ y∈scope.names,y.2 ≠ .cell) (fi:∀ y∈scope.names,y.2 = .local->scope.names.lookup y.1=some .local) (eH:∀ y∈scope.names,y.2 = .free->X.env.kindOf y.1=some .cell∨X.env.kindOf y.1=some .free) (hs:∀ x,foldedSetIterable iter X.env x=pure x:=by intro _;rfl) :
   PE X (.ListComp elt [⟨tg,iter,ifs,0⟩] scope pos) (mX wi g tt te nt sl):=by
 intro pins s U H Q I h
 rw [eval_ListComp]
 exact lB hc hi hg ht he AB CN hk dk fi eH hs I h λ s6 H5 d c m J F hn q=>⟨m,hn,λ h' sb=>⟨.ref d,H5,J.turned (t':=s6.toks) (λ b _ hb q=>(sb.2 b hb).trans q) F.1 F.2.1 F.2.2.2.1 F.2.2.2.2.1 F.2.2.2.2.2,rfl,q⟩⟩
theorem p6 {scope:Scope} {pos:Pos} {wi:TI} {g:TG} {tt:TT} (tn fr:List Str) (sl:List Nat) (hp:Paired (λ (j:Nat) (x:Str)=>X.N[j]?=some x/\scope.names.lookup x=some .free/\(X.env.kindOf x=some .cell∨X.env.kindOf x=some .free)) sl fr) (hc:X.calm=true) (hi:PI X tg iter wi) (hg:∀ cl C s H ex,PG (bp X (tn++fr) scope cl C s H ex) tg g) (ht:∀ cl C s H ex,wC (bp X (tn++fr) scope cl C s H ex) ifs tt) (he:∀ cl C s H ex,PE (bp X (tn++fr) scope cl C s H ex) elt te) (hk:scope.kind = .function) (dk:∀ y∈scope.names,y.2 ≠ .cell) (fi:∀ y∈scope.names,y.2 = .local->scope.names.lookup y.1=some .local) (eH:∀ y∈scope.names,y.2 = .free->y.1∈fr) (hs:∀ x,foldedSetIterable iter X.env x=pure x:=by intro _;rfl) :
   PE X (.ListComp elt [⟨tg,iter,ifs,0⟩] scope pos) (mX wi g tt te tn.length sl):=by
 have key:∀ {sl:List Nat} {fr:List Str},Paired (λ (j:Nat) (x:Str)=>X.N[j]?=some x/\scope.names.lookup x=some .free/\(X.env.kindOf x=some .cell∨X.env.kindOf x=some .free)) sl fr ->
     (∀ k j:Nat,sl[k]?=some j->∃ x,fr[k]?=some x/\X.N[j]?=some x/\scope.names.lookup x=some .free)/\∀ x∈fr,X.env.kindOf x=some .cell∨X.env.kindOf x=some .free:=by
   intro sl fr hp
   induction hp with
   | nil=>exact ⟨λ k j h=>by simp at h,λ x hx=>by simp at hx⟩
   | cons r t ih =>
     refine ⟨λ k j h=>?_,λ x hx=>?_⟩
     . cases k with
       | zero =>
         have e:_=j:=Yu h
         subst e
         exact ⟨_,rfl,r.1,r.2.1⟩
       | succ k=>exact ih.1 k j (by simpa using h)
     . rcases List.mem_cons.mp hx with z|z
       . rw [z];exact r.2.2
       . exact ih.2 x z
 refine vI (N':=tn++fr) hc hi hg ht he (by rw [Yw,hp.length]) (λ k j h=>?_) hk dk fi (λ y hy hf=>(key hp).2 _ (eH y hy hf)) hs
 obtain ⟨x,e1,e2⟩:=(key hp).1 k j h
 exact ⟨x,by rw [Y2 (Nat.le_add_right _ _),ZO];exact e1,e2⟩
end
theorem dL {lo:Int} {n:Nat} {g:TG} {tt:TT} {D:Addr} {Q:Hp->Prop} (Pv:Nat->List V->St->Hp->Prop) (h0:Pv 0 [] U H) (hs:∀ i acc U H,i<n->Pv i acc U H->g (.int (lo+i)) U H λ σ2 H3=>tt σ2 H3 λ b H4 =>
     if b=true then te σ2 H4 λ y H5=>H5 D=some (.lst acc)/\acc.length<sizeLine/\Pv (i+1) (acc++[y]) σ2 (upd H5 D (.lst (acc++[y]))) else Pv (i+1) acc σ2 H4) (hd:∀ acc U H,Pv n acc U H->Q H) :
   ∃ W:Nat->Nat->List V->St->Hp->Prop,(∃ m,W 0 m [] U H)/\∀ i m acc σ' H',W i m acc σ' H'->((uP lo n).stop i H'/\Q H') ∨
     ((uP lo n).go i H'/\∃ N:List V->St->Hp->Prop,(∀ gO σ2 H4,N gO σ2 H4->∃ m',m'<m/\W (i+1) m' gO σ2 H4)/\∀ x H2,(uP lo n).xa i H' x H2->g x σ' H2 λ σ2 H3=>tt σ2 H3 λ b H4 =>
       if b=true then te σ2 H4 λ y H5=>H5 D=some (.lst acc)/\acc.length<sizeLine/\N (acc++[y]) σ2 (upd H5 D (.lst (acc++[y]))) else N acc σ2 H4):=by
 refine ⟨λ i m acc U H=>m=n - i/\i<=n/\Pv i acc U H,⟨n,by simp,YX _,h0⟩,?_⟩
 rintro i m acc U H ⟨rfl,hi,p⟩
 by_cases oB:i<n
 .
  refine .inr ⟨oB,Pv (i+1),λ gO σ' H' p'=>⟨n - (i+1),by lia,rfl,oB,p'⟩,λ x H' y=>?_⟩
  obtain ⟨e,y⟩:=y
  subst e y
  exact hs i acc U _ oB p
 . have e:i=n:=by lia
   subst e
   exact .inl ⟨oX _,hd acc U H p⟩
section
variable {X:Cx}
theorem k9 (a b:Nat):Builtin.bitOr (a:Int) (b:Int)=((a ||| b:Nat):Int):=by
 have d1:decide (0<=Builtin.bitNot (a:Int))=false:=YA (by unfold Builtin.bitNot;lia)
 have d2:decide (0<=Builtin.bitNot (b:Int))=false:=YA (by unfold Builtin.bitNot;lia)
 have n1:(Builtin.bitNot (Builtin.bitNot (a:Int))).toNat=a:=by unfold Builtin.bitNot;lia
 have n2:(Builtin.bitNot (Builtin.bitNot (b:Int))).toNat=b:=by unfold Builtin.bitNot;lia
 unfold Builtin.bitOr Builtin.bitAnd
 rw [d1,d2]
 dsimp only
 rw [n1,n2]
 unfold Builtin.bitNot
 lia
theorem oH (a b:Nat):Builtin.bitAnd (a:Int) (b:Int)=((a &&& b:Nat):Int):=by simp [Builtin.bitAnd]
end
def aw (k:Nat):V:=.int (k:Int)
inductive nZ  (vs:List V) (H:Hp) (Q:VK) (_E:XK):Prop
 | mk (n r:Nat) (_:vs=[aw n,aw r]) (_:Q (.bl (n.testBit r)) H)
inductive mK  (vs:List V) (H:Hp) (Q:VK) (_E:XK):Prop
 | mk (n r:Nat) (_:vs=[aw n,aw r]) (_:r<=1000) (_:Q (aw (n ||| 2 ^ r)) H)
theorem vX (n r:Nat) {s m:Int} (es:s=(n:Int) / 2 ^ ((r:Int)).toNat) (em:m=s % 2):decide (V.int m=V.int 1)=n.testBit r:=by
 rw [Zu]
 have e1:s=((n / 2 ^ r:Nat):Int):=by
   rw [es,Int.toNat_natCast]
   have:((2:Int) ^ r)=((2 ^ r:Nat):Int):=by rw [Int.natCast_pow];rfl
   rw [this,← Int.natCast_ediv]
 have e2:m=((n / 2 ^ r % 2:Nat):Int):=by rw [em,e1];exact (Int.natCast_emod _ _).symm
 have e3:(V.int m=V.int 1)↔(n / 2 ^ r % 2=1):=by rw [vS,e2];lia
 exact decide_eq_decide.mpr e3
theorem sB {l:List Nat} {i:Nat} {x:V} (h:(l.map aw)[i]?=some x):∃ k,l[i]?=some k/\x=aw k:=by
 rw [YN] at h
 cases e:l[i]? with
 | none=>rw [e] at h;cases h
 | some k=>rw [e] at h;exact ⟨k,rfl,(Yu h).symm⟩
section
open PySem.Builtin PySem.Builtin.ObjectAttr PySem.Builtin.Getset_descriptor
variable {K:W.Frag} {C e:Addr}
variable {prog:Program} {w:World} {A:Around} {s:Shared} {oe:Obj}
end
open PySem.Builtin PySem.Builtin.ObjectAttr
open PySem.Builtin PySem.Builtin.ObjectAttr
section
variable {prog:Program} {w:World} {A:Around} {E:Value->Shared->Prop} {h:Heap} {g:Array GenState} {d:Drawn} {t:Nat} {os:OsState}
variable {nm q:Str} {C N:Addr} {bs bm UJ:List Value} {zq:Bool} {sn:List Str} {sub:List Value} {ab:Bool} {col:Option Bool} {dd:Option Addr} {k0 k1 k2 k3 k5:Option Value} {B newId sJ:String}
end
section
variable {M:Model} {A:Around} {E:Value->Shared->Prop} {env:Env}
variable {nm q:Str} {C N:Addr} {bs bm UJ:List Value} {zq:Bool} {sn:List Str} {sub:List Value} {ab:Bool} {col:Option Bool} {dd:Option Addr} {k0 k1 k2 k3 k5:Option Value} {B newId sJ:String}
end
section
variable {prog:Program} {w:World} {A:Around} {E:Value->Shared->Prop} {s:Shared} {env:Env}
variable {nm q:Str} {C N:Addr} {bs bm UJ:List Value} {zq:Bool} {sn:List Str} {sub:List Value} {ab:Bool} {col:Option Bool} {dd:Option Addr} {k0 k1 k2 k3 k5:Option Value} {B newId sJ:String}
end
@[elab_as_elim] theorem bN {α:Type} {motive:List α->Prop} {n:Nat} {us:List α} (h:us.length=n+1) (k:∀ a t,t.length=n->motive (a::t)):motive us:=by
 cases us with
 | nil=>cases h
 | cons a t=>exact k a t (Nat.succ.inj h)
theorem T8 {α:Type} {n:Nat} {l:List α} (h:l.length=n+1):∃ a t,l=a::t/\t.length=n:=bN h λ a t h=>⟨a,t,rfl,h⟩
section
variable {X:Cx} {x:Str} {pos:Pos}
theorem jw {i:Int} (hg:Gl X x) (hm:∃ t,X.mg x=some (.int i t)) (hd:(x == ("__debug__" : Str))=false:=by decide):PE X (.Name x pos) (tC (.int i)):=by
 obtain ⟨t,hm⟩:=hm
 exact mx hg hm ⟨t,rfl⟩ hd
end
def U3 (K:W.Frag) (a:Addr) (xs:List V):Prop :=
 ∃ (o:Obj) (bx:Array Value) (n:Nat),K.lookup a=some o/\o.cls = .type "tuple"/\o.data = .seq bx n/\bx.size<=sizeLine/\Vals xs bx.toList
def B7 (K:W.Frag) (T:Addr) (hV:List V):Prop:=∃ o n items,K.lookup T=some o/\o.data = .seq items n/\Vals hV items.toList
structure eS (K:W.Frag) (x qual:Str) (st:Stmt) (dV:Value) (f:Addr) (fd:FuncData):Prop where
 ex:∃ (oc:Value) (od:Option Addr) (kV doc pm:Value) (an:Option Addr) (aP ct:Value) (oh:Array (Option Value)),
   fd=W.fnOf x qual (bc st) (aM st) (ah st) dV kV doc pm an aP ct/\K.lookup f=some ⟨oc,od,.func fd,oh⟩/\W.codeIn K aP qual=true
 kp:W.keepIn K (.ref f)=true
theorem ay {K:W.Frag} {x qual:Str} {st:Stmt} {f:Addr} {oc:Value} {od an:Option Addr} {oh:Array (Option Value)} {dV kV doc pm aP ct:Value} (l:K.lookup f=some ⟨oc,od,.func (W.fnOf x qual (bc st) (aM st) (ah st) dV kV doc pm an aP ct),oh⟩) (c:W.codeIn K aP qual=true) (k:W.keepIn K (.ref f)=true):eS K x qual st dV f (W.fnOf x qual (bc st) (aM st) (ah st) dV kV doc pm an aP ct):=⟨⟨oc,od,kV,doc,pm,an,aP,ct,oh,rfl,l,c⟩,k⟩
section
variable {P:Program} {w:World} {K:W.Frag} {mg:Str->Option Value} {base:Heap} {x qual m:Str} {st:Stmt} {dV:Value} {f C:Addr} {fd:FuncData} {N ps:List Str} {k:Nat} {sp:Sp} {ds:List Value}
theorem eS.ok (F:eS K x qual st dV f fd) (S:av N ps (ah st)) (len:∀ vs H Q E,sp vs H Q E->vs.length=ps.length) (dO:∀ (aP:Value) (A:Around) (outer:List Env) (s:Shared) (H:Hp) (vs:List V) (Q:VK) (E:XK),bS k (A.deeper (envOfC qual (ah st) s.heap.objs.size f aP))->sp vs H Q E ->
     ∃ t,k8 (iN iP P w K mg base N qual (ah st) f aP A outer s H E).rQ (aM st) t/\t { nx:=λ _ H'=>Q .bG H',rt:=Q } (start N vs) H):dg P w K mg base iP (k+1) f fd ps sp:=by
 obtain ⟨oc,od,kV,doc,pm,an,aP,ct,oh,rfl,lk,mw⟩:=F.ex
 refine wr lk mw S len λ A outer s H vs Q E hr wS=>?_
 obtain ⟨t,h,q⟩:=dO aP A outer s H vs Q E hr wS
 exact ⟨t,h.rQ,q⟩
theorem eS.binds {o:Obj} {n:Nat} {items:Array Value} (F:eS K x qual st (.ref T) f fd) (hT:K.lookup T=some o) (ho:o.data = .seq items n) (h:∀ (kV doc pm:Value) (an:Option Addr) (aP ct:Value) (us:List Value),(us++ds).length=ps.length->∃ k,bindArgs (W.fnOf x qual (bc st) (aM st) (ah st) (.ref T) kV doc pm an aP ct) ⟨us,[]⟩=seqItems? (.ref T) >>= k/\k (some items)=pure (ps.zip (us++ds))):Binds K fd ps ds:=by
 obtain ⟨oc,od,kV,doc,pm,an,aP,ct,oh,rfl,lk,mw⟩:=F.ex
 intro s us X hl
 obtain ⟨k,h1,h2⟩:=h kV doc pm an aP ct us hl
 exact W.binds_K X rfl hT ho h1 h2
theorem eS.oW (F:eS K x qual st .none f fd) (h:∀ (kV doc pm:Value) (an:Option Addr) (aP ct:Value) (us:List Value),us.length=ps.length->bindArgs (W.fnOf x qual (bc st) (aM st) (ah st) .none kV doc pm an aP ct) ⟨us,[]⟩=pure (ps.zip us)):Binds K fd ps []:=by
 obtain ⟨oc,od,kV,doc,pm,an,aP,ct,oh,rfl,lk,mw⟩:=F.ex
 exact .all (h kV doc pm an aP ct)
def bg (K:W.Frag) (C:Addr) (m qual:Str) (st:Stmt) (dV:Value):Prop:=∃ f fd,Meth K C m f/\eS K m qual st dV f fd
def bv (P:Program) (w:World) (K:W.Frag) (mg:Str->Option Value) (base:Heap) (C:Addr) (m:Str) (k:Nat) (ps:List Str) (ds:List Value) (sp:Sp):Prop :=
 ∃ f fd,Meth K C m f/\Binds K fd ps ds/\dg P w K mg base iP k f fd ps sp
theorem bg.u4 (h:bg K C m qual st .none) (S:av N ps (ah st)) (len:∀ vs H Q E,sp vs H Q E->vs.length=ps.length) (hb:∀ (kV doc pm:Value) (an:Option Addr) (aP ct:Value) (us:List Value),us.length=ps.length->bindArgs (W.fnOf m qual (bc st) (aM st) (ah st) .none kV doc pm an aP ct) ⟨us,[]⟩=pure (ps.zip us)) (dO:∀ (f:Addr) (aP:Value) (A:Around) (outer:List Env) (s:Shared) (H:Hp) (vs:List V) (Q:VK) (E:XK),bS k (A.deeper (envOfC qual (ah st) s.heap.objs.size f aP))->sp vs H Q E ->
     ∃ t,k8 (iN iP P w K mg base N qual (ah st) f aP A outer s H E).rQ (aM st) t/\t { nx:=λ _ H'=>Q .bG H',rt:=Q } (start N vs) H):bv P w K mg base C m (k+1) ps [] sp:=by
 obtain ⟨f,fd,M,F⟩:=h
 exact ⟨f,fd,M,F.oW hb,F.ok S len λ aP A outer s H vs Q E hr hs=>dO f aP A outer s H vs Q E hr hs⟩
structure kE (K:W.Frag) (C:Addr):Prop where
 makes:W.makesIn K C=true
 kp:W.keepIn K (.ref C)=true
end
section
variable {X:Cx} {C:Addr} {m x:Str} {p pos apos:Pos} {e o:Expr} {es:List Expr} {ta:TE} {t:TA} {k:Nat} {ps:List Str} {sp:Sp} {ds:List Value} {hV:List V}
theorem dJ (M:kE X.K C) (D:bv X.prog X.w X.K X.mg X.base C "__init__" k ps ds sp) (hd:Vals hV ds) (hr:bS (k+1) X.A) (hm:X.mg x=some (.ref C)) (ha:PA X (e::es) t) (hg:Gl X x:=by rfl) (lU:(x == ("__debug__" : Str))=false:=by decide) (he:starEach (e::es) X.env=(false,eval e X.env)::starEach es X.env:=by rfl) (eF:(backTo pos (starEach es X.env)).any (·.1)=false:=by rfl):PE X (.Call (.Name x p) (e::es) [] pos) (sh C sp hV E0 t):=by
 obtain ⟨f,fd,me,hb,F⟩:=D
 exact vZ ⟨M.makes,me.at_,me.fn,M.kp⟩ F hr hg hm hb hd mZ ha lU he eF
end
mutual
def Dn (K:W.Frag) (H:Hp):PyData->V->Prop
 | .none,v=>v = .bG
 | .bool b,v=>v = .bl b
 | .int i,v=>v = .int i
 | .str x,v=>v = .str x
 | .list ds,v=>∃ a xs,v = .ref a/\cg K H a xs/\iV K H ds xs
 | .tuple ds,v=>∃ a xs,v = .ref a/\aK K H a xs/\iV K H ds xs
 | .dict _,_=>False
def iV (K:W.Frag) (H:Hp):List PyData->List V->Prop
 | [],xs=>xs=[]
 | d::ds,xs=>∃ x r,xs=x::r/\Dn K H d x/\iV K H ds r
end
def fC:PyData->Bool
 | .list _=>false
 | .dict _=>false
 | .tuple ds=>ds.attach.all λ ⟨d,_⟩=>fC d
 | _=>true
theorem iH {ds:List PyData}:fC (.tuple ds)=true↔∀ d∈ds,fC d=true:=by
 rw [fC,List.all_eq_true]
 constructor
 . intro h d hd
   exact h ⟨d,hd⟩ (List.mem_attach ..)
 . intro h x _
   exact h x.1 x.2
def eK (K:W.Frag) (H H':Hp):Prop:=∀ a xs,aK K H a xs->aK K H' a xs
theorem eK.refl {K:W.Frag} (H:Hp):eK K H H:=λ _ _ h=>h
theorem eK.trans {K:W.Frag} {H1 H2:Hp} (a:eK K H H1) (b:eK K H1 H2):eK K H H2:=λ c xs h=>b c xs (a c xs h)
theorem az.ts {K:W.Frag} (s:az H H'):eK K H H':=λ _ _ h=>s.tup h
def wE:HO->Bool
 | .tup _=>false
 | .kY _ _=>false
 | _=>true
theorem sv {K:W.Frag} {a:Addr} {o':HO} (h:H a=some o) (n:wE o=true):eK K H (upd H a o'):=λ b xs q=>by
 have ne:∀ u,H b=some u->wE u=false->b≠a:=λ u e z y=>by
   subst y
   rw [h] at e
   cases e
   rw [n] at z
   cases z
 rcases q with (q|⟨ob,q⟩)|q
 . exact .inl (.inl (by rw [aB (ne _ q rfl)];exact q))
 . exact .inl (.inr ⟨ob,by rw [aB (ne _ q rfl)];exact q⟩)
 . exact .inr q
section
variable {K:W.Frag} {H H':Hp}
mutual
theorem Dn.same (s:az H H'):∀ (d:PyData) {v:V},Dn K H d v->Dn K H' d v
 | .none,_,h=>by rw [Dn] at h ⊢;exact h
 | .bool _,_,h=>by rw [Dn] at h ⊢;exact h
 | .int _,_,h=>by rw [Dn] at h ⊢;exact h
 | .str _,_,h=>by rw [Dn] at h ⊢;exact h
 | .list ds,_,h=>by
   rw [Dn] at h ⊢
   obtain ⟨a,xs,e,q,r⟩:=h
   exact ⟨a,xs,e,s.seq q,iV.same s ds r⟩
 | .tuple ds,_,h=>by
   rw [Dn] at h ⊢
   obtain ⟨a,xs,e,q,r⟩:=h
   exact ⟨a,xs,e,s.tup q,iV.same s ds r⟩
 | .dict _,_,h=>by rw [Dn] at h;exact h.elim
theorem iV.same (s:az H H'):∀ (ds:List PyData) {xs:List V},iV K H ds xs->iV K H' ds xs
 | [],_,h=>by rw [iV] at h ⊢;exact h
 | d::ds,_,h=>by
   rw [iV] at h ⊢
   obtain ⟨x,r,e,q,t⟩:=h
   exact ⟨x,r,e,Dn.same s d q,iV.same s ds t⟩
end
mutual
theorem Dn.ts (s:eK K H H'):∀ (d:PyData) {v:V},fC d=true->Dn K H d v->Dn K H' d v
 | .none,_,_,h=>by rw [Dn] at h ⊢;exact h
 | .bool _,_,_,h=>by rw [Dn] at h ⊢;exact h
 | .int _,_,_,h=>by rw [Dn] at h ⊢;exact h
 | .str _,_,_,h=>by rw [Dn] at h ⊢;exact h
 | .list ds,_,f,_=>by rw [fC] at f;cases f
 | .tuple ds,_,f,h=>by
   rw [Dn] at h ⊢
   obtain ⟨a,xs,e,q,r⟩:=h
   exact ⟨a,xs,e,s _ _ q,iV.ts s ds (iH.mp f) r⟩
 | .dict _,_,_,h=>by rw [Dn] at h;exact h.elim
theorem iV.ts (s:eK K H H'):∀ (ds:List PyData) {xs:List V},(∀ d∈ds,fC d=true)->iV K H ds xs->iV K H' ds xs
 | [],_,_,h=>by rw [iV] at h ⊢;exact h
 | d::ds,_,f,h=>by
   rw [iV] at h ⊢
   obtain ⟨x,r,e,q,t⟩:=h
   exact ⟨x,r,e,Dn.ts s d (f d YI) q,iV.ts s ds (λ d hd=>f d (Yy _ hd)) t⟩
end
theorem mH:iV K H [] []:=rfl
theorem cT {d:PyData} {ds:List PyData} {x:V} (a:Dn K H d x) (b:iV K H ds xs):iV K H (d::ds) (x::xs):=⟨x,xs,rfl,a,b⟩
theorem ub {a:Addr} {ds:List PyData} (h:aK K H a xs) (r:iV K H ds xs):Dn K H (.tuple ds) (.ref a):=⟨a,xs,rfl,h,r⟩
theorem tM {a:Addr} {ds:List PyData} (h:cg K H a xs) (r:iV K H ds xs):Dn K H (.list ds) (.ref a):=⟨a,xs,rfl,h,r⟩
end
section
variable {X:Cx} {pins:List (Addr×Obj)} {U:St} {H:Hp} {s:Shared}
mutual
theorem Inv.reads (I:Inv X pins U H s):∀ (d:PyData) {v:V} {u:Value},Dn X.K H d v->RelV v u->∃ as,Reads s.heap u d as
 | .none,_,_,h,r=>by
   have h:_=V.bG:=h
   subst h
   obtain rfl:=(show _=Value.none from r)
   exact ⟨_,.none⟩
 | .bool b,_,_,h,r=>by
   have h:_=V.bl b:=h
   subst h
   obtain rfl:=(show _=Value.bool b from r)
   exact ⟨_,.bool b⟩
 | .int i,_,_,h,r=>by
   have h:_=V.int i:=h
   subst h
   obtain ⟨t,rfl⟩:=r
   exact ⟨_,.int i t⟩
 | .str x,_,_,h,r=>by
   have h:_=V.str x:=h
   subst h
   obtain ⟨t,rfl⟩:=r
   exact ⟨_,.str x t⟩
 | .list ds,_,_,h,r=>by
   obtain ⟨a,xs,rfl,q,t⟩:=h
   obtain rfl:=(show _=Value.ref a from r)
   obtain ⟨bx,rv,p,_⟩:=I.list q
   obtain ⟨o,ho,hc,n,hd⟩:=p.isList
   obtain ⟨as,ra⟩:=Inv.readsAll I ds t rv
   exact ⟨_,.list ho hc hd (by simpa using ra)⟩
 | .tuple ds,_,_,h,r=>by
   obtain ⟨a,xs,rfl,q,t⟩:=h
   obtain rfl:=(show _=Value.ref a from r)
   obtain ⟨bx,rv,p,_⟩:=I.tuple q
   obtain ⟨o,ho,hc,n,hd⟩:=p
   obtain ⟨as,ra⟩:=Inv.readsAll I ds t rv
   exact ⟨_,.tuple ho hc hd (by simpa using ra)⟩
 | .dict _,_,_,h,_=>(show False from h).elim
theorem Inv.readsAll (I:Inv X pins U H s):∀ (ds:List PyData) {xs:List V} {us:List Value},iV X.K H ds xs->Vals xs us->∃ as,ReadsAll s.heap us ds as
 | [],_,_,h,r=>by
   have h:_=[]:=h
   subst h
   obtain rfl:=Vals.zero r
   exact ⟨_,.nil⟩
 | d::ds,_,_,h,r=>by
   obtain ⟨x,t,rfl,q,qt⟩:=h
   cases r with
   | cons r1 r2 =>
     obtain ⟨as,ra⟩:=Inv.reads I d q r1
     obtain ⟨bs,rb⟩:=Inv.readsAll I ds qt r2
     exact ⟨_,.cons ra rb⟩
end
inductive Aj (K:W.Frag) (x:V) (y:V) (H:Hp) (Q:VK):Prop
 | mk (d e:_) (_:Dn K H d x) (_:Dn K H e y) (_:SeqAt.shaped d=true) (_:SeqAt.shaped e=true) (_:Q (.bl (PyData.eqv d e)) H)
theorem ym (hu:X.A.units+64<cLine):fq X (compareOp .Eq) (Aj X.K):=by
 intro pins s U H x y v u Q I rx ry h
 obtain ⟨d,e,h1,h2,s1,s2,q⟩:=h
 obtain ⟨as,r1⟩:=I.reads d h1 rx
 obtain ⟨bs,r2⟩:=I.reads e h2 ry
 exact eq_dataH r1 r2 s1 s2 hu ⟨.bl _,H,I,rfl,q⟩
end
section
variable {P:Program} {w:World} {K:W.Frag} {mg:Str->Option Value} {base:Heap} {x qual m:Str} {st:Stmt} {dV:Value} {f C:Addr} {fd:FuncData} {N ps:List Str} {k:Nat} {sp:Sp} {ds:List Value} {hV:List V}
def E8 (P:Program) (w:World) (K:W.Frag) (mg:Str->Option Value) (base:Heap) (C:Addr) (m qual:Str) (st:Stmt) (dV:Value) (k:Nat) (ps:List Str) (sp:Sp):Prop :=
 ∃ f fd,Meth K C m f/\eS K m qual st dV f fd/\dg P w K mg base iP k f fd ps sp
def pA (P:Program) (w:World) (K:W.Frag) (mg:Str->Option Value) (base:Heap) (C:Addr) (m:Str) (k:Nat) (ps:List Str) (hV:List V) (sp:Sp):Prop :=
 ∃ ds,Vals hV ds/\bv P w K mg base C m k ps ds sp
theorem bg.Vd (h:bg K C m qual st dV) (S:av N ps (ah st)) (len:∀ vs H Q E,sp vs H Q E->vs.length=ps.length) (dO:∀ (f:Addr) (aP:Value) (A:Around) (outer:List Env) (s:Shared) (H:Hp) (vs:List V) (Q:VK) (E:XK),bS k (A.deeper (envOfC qual (ah st) s.heap.objs.size f aP))->sp vs H Q E ->
     ∃ t,k8 (iN iP P w K mg base N qual (ah st) f aP A outer s H E).rQ (aM st) t/\t { nx:=λ _ H'=>Q .bG H',rt:=Q } (start N vs) H):E8 P w K mg base C m qual st dV (k+1) ps sp:=by
 obtain ⟨f,fd,M,F⟩:=h
 exact ⟨f,fd,M,F,F.ok S len λ aP A outer s H vs Q E hr hs=>dO f aP A outer s H vs Q E hr hs⟩
theorem E8.u4 {Bf:List V} (h:E8 P w K mg base C m qual st (.ref T) k ps sp) (hT:B7 K T Bf) (hb:∀ items:Array Value,Vals Bf items.toList->∃ ds,Vals hV ds/\∀ (kV doc pm:Value) (an:Option Addr) (aP ct:Value) (us:List Value),(us++ds).length=ps.length->∃ k,bindArgs (W.fnOf m qual (bc st) (aM st) (ah st) (.ref T) kV doc pm an aP ct) ⟨us,[]⟩=seqItems? (.ref T) >>= k/\k (some items)=pure (ps.zip (us++ds))) :
   pA P w K mg base C m k ps hV sp:=by
 obtain ⟨f,fd,M,F,O⟩:=h
 obtain ⟨o,n,items,hT,ho,hv⟩:=hT
 obtain ⟨ds,hd,hb⟩:=hb items hv
 exact ⟨ds,hd,f,fd,M,F.binds hT ho hb,O⟩
end
section
variable {X:Cx} {C:Addr} {m x:Str} {p pos apos:Pos} {e o:Expr} {es:List Expr} {ta:TE} {t:TA} {k:Nat} {ps:List Str} {sp:Sp} {hV:List V}
theorem nN (M:kE X.K C) (D:pA X.prog X.w X.K X.mg X.base C "__init__" k ps hV sp) (hr:bS (k+1) X.A) (hm:X.mg x=some (.ref C)) (ha:PA X (e::es) t) (hg:Gl X x:=by rfl) (lU:(x == ("__debug__" : Str))=false:=by decide) (he:starEach (e::es) X.env=(false,eval e X.env)::starEach es X.env:=by rfl) (eF:(backTo pos (starEach es X.env)).any (·.1)=false:=by rfl):PE X (.Call (.Name x p) (e::es) [] pos) (sh C sp hV E0 t):=by
 obtain ⟨ds,hd,D⟩:=D
 exact dJ M D hd hr hm ha hg lU he eF
end
theorem mC {K:W.Frag} {es:List Expr} {k:Nat} {pos:Pos} {t:xR} {n:Nat} (hK:X.K=K) (hc:X.calm=true) (h:yE X es t) (hn:(assignEach es X.env).length=n:=by rfl) (jU:(assignEach es X.env).findIdx? (·.1)=none:=by rfl):PG X (.Tuple es k pos) (A1 K n t):=by
 subst hK
 exact xK hc h hn jU
end L2
namespace PySem
open Sem (wp)
theorem fW:∀ (l:List DictEntry) (c:Int),(l.map (·.hash)).Nodup->(l.filter (·.hash == c)).length<=1
 | [],_,_=>YX _
 | e::l,c,h=>by
   rw [YT,List.nodup_cons] at h
   rw [List.filter_cons]
   split
   .
    rename_i q
    have q:e.hash=c:=by simpa using q
    have:l.filter (·.hash == c)=[]:=by
      rw [List.filter_eq_nil_iff]
      intro x hx z
      exact h.1 (List.mem_map.mpr ⟨x,hx,by rw [q];simpa using z⟩)
    rw [this]
    exact oX _
   . exact fW l c h.2
end PySem
namespace L2
open PySem PySem.Spec PyProof.Rows Mth
variable {elt iter tg:Expr} {ifs:List Expr} {py uR:Pos} {te:TE} {yi:Nat}
theorem jf:bootBuiltins "dict" = some (.type "dict"):=by decide +kernel
section
variable {X:Cx}
theorem wl {y:Str} {scope:Scope} {pos:Pos} {wi:TI} {g:TG} {tt:TT} {N':List Str} {nt:Nat} {sl:List Nat} (hc:X.calm=true) (hi:PI X tg iter wi) (hg:∀ cl C s H ex,PG (bp X N' scope cl C s H ex) tg g) (ht:∀ cl C s H ex,wC (bp X N' scope cl C s H ex) ifs tt) (he:∀ cl C s H ex,PE (bp X N' scope cl C s H ex) elt te) (AB:N'.length=nt+sl.length) (CN:∀ k j:Nat,sl[k]?=some j->∃ x,N'[nt+k]?=some x/\X.N[j]?=some x/\scope.names.lookup x=some .free) (hk:scope.kind = .function) (dk:∀ y∈scope.names,y.2 ≠ .cell) (fi:∀ y∈scope.names,y.2 = .local->scope.names.lookup y.1=some .local) (eH:∀ y∈scope.names,y.2 = .free->X.env.kindOf y.1=some .cell∨X.env.kindOf y.1=some .free) (hN:X.N.Nodup) (RK:X.N[yi]?=some y) (hy:Loc X.env.scope y) (hf:X.fn y=true∨X.env.scope.names.lookup y=some .local) (Ij:swapsWith (.ListComp elt [⟨tg,iter,ifs,0⟩] scope pos) (some (.Name y py)) uR.line X.env=pure true) (hs:∀ x,foldedSetIterable iter X.env x=pure x:=by intro _;rfl) :
   PS X (.Assign [.Name y py] (.ListComp elt [⟨tg,iter,ifs,0⟩] scope pos) uR) (uO (mX wi g tt te nt sl) (qc yi)):=by
 intro pins s U H DD I h
 rw [exec_Assign_Name_used _ _ _ _ Ij]
 refine yB (wpAny_standAt (yB ?_))
 show wpAny _ X.A (do let _ ← comprehension (.ListComp elt [⟨tg,iter,ifs,0⟩] scope pos) scope X.env _ (newList []) false (eval iter X.env) (some (assign (.Name y py) X.env))) _ _ s
 refine yB (YQ (lB (use:=some (assign (.Name y py) X.env)) (Qp:=λ _ s'=>SP X pins DD .next s') hc hi hg ht he AB CN hk dk fi eH hs I h λ s6 H5 d c m J F hn q=>?_)
   (λ _ s' hq=>Wf (Wf hq)) λ _ _ e=>e)
 refine wpAny_assign_Name (lx (v:=.ref d) J hN RK hy rfl (λ s7 I7 ⟨a,Vq,ha⟩=>?_) hf)
 have na:c≠a:=λ z=>by
   rcases ha with q|q
   . exact F.2.1 (z.trans q)
   . exact F.2.2.2.2.1 _ a q z.symm
 refine ⟨m,?_,λ h' sb=>?_⟩
 . obtain ⟨o,es,ep,ho,r⟩:=hn
   exact ⟨o,es,ep,(Vq.2 _ na).trans ho,r⟩
 . exact ⟨_,H5,I7.turned (t':=s7.toks) (λ b _ hb q=>(sb.2 b hb).trans q) F.1 F.2.1 F.2.2.2.1 F.2.2.2.2.1 F.2.2.2.2.2,q⟩
theorem wt {y:Str} {scope:Scope} {pos:Pos} {wi:TI} {g:TG} {tt:TT} (tn fr:List Str) (sl:List Nat) (hp:Paired (λ (j:Nat) (x:Str)=>X.N[j]?=some x/\scope.names.lookup x=some .free/\(X.env.kindOf x=some .cell∨X.env.kindOf x=some .free)) sl fr) (hc:X.calm=true) (hi:PI X tg iter wi) (hg:∀ cl C s H ex,PG (bp X (tn++fr) scope cl C s H ex) tg g) (ht:∀ cl C s H ex,wC (bp X (tn++fr) scope cl C s H ex) ifs tt) (he:∀ cl C s H ex,PE (bp X (tn++fr) scope cl C s H ex) elt te) (hk:scope.kind = .function) (dk:∀ y∈scope.names,y.2 ≠ .cell) (fi:∀ y∈scope.names,y.2 = .local->scope.names.lookup y.1=some .local) (eH:∀ y∈scope.names,y.2 = .free->y.1∈fr) (hN:X.N.Nodup) (RK:X.N[yi]?=some y) (hy:Loc X.env.scope y) (Ij:swapsWith (.ListComp elt [⟨tg,iter,ifs,0⟩] scope pos) (some (.Name y py)) uR.line X.env=pure true) (hf:X.fn y=true∨X.env.scope.names.lookup y=some .local:=by first|exact .inl rfl|exact .inr rfl|assumption) (hs:∀ x,foldedSetIterable iter X.env x=pure x:=by intro _;rfl) :
   PS X (.Assign [.Name y py] (.ListComp elt [⟨tg,iter,ifs,0⟩] scope pos) uR) (uO (mX wi g tt te tn.length sl) (qc yi)):=by
 have key:∀ {sl:List Nat} {fr:List Str},Paired (λ (j:Nat) (x:Str)=>X.N[j]?=some x/\scope.names.lookup x=some .free/\(X.env.kindOf x=some .cell∨X.env.kindOf x=some .free)) sl fr ->
     (∀ k j:Nat,sl[k]?=some j->∃ x,fr[k]?=some x/\X.N[j]?=some x/\scope.names.lookup x=some .free)/\∀ x∈fr,X.env.kindOf x=some .cell∨X.env.kindOf x=some .free:=by
   intro sl fr hp
   induction hp with
   | nil=>exact ⟨λ k j h=>by simp at h,λ x hx=>by simp at hx⟩
   | cons r t ih =>
     refine ⟨λ k j h=>?_,λ x hx=>?_⟩
     . cases k with
       | zero =>
         have e:_=j:=Yu h
         subst e
         exact ⟨_,rfl,r.1,r.2.1⟩
       | succ k=>exact ih.1 k j (by simpa using h)
     . rcases List.mem_cons.mp hx with z|z
       . rw [z];exact r.2.2
       . exact ih.2 x z
 refine wl (N':=tn++fr) hc hi hg ht he (by rw [Yw,hp.length]) (λ k j h=>?_) hk dk fi (λ y hy hf=>(key hp).2 _ (eH y hy hf)) hN RK hy hf Ij hs
 obtain ⟨x,e1,e2⟩:=(key hp).1 k j h
 exact ⟨x,by rw [Y2 (Nat.le_add_right _ _),ZO];exact e1,e2⟩
end
abbrev j6:=Int×Int
structure aY where
 most:Int
 Fa:Int
 load:Int
 rows:List (List j6)
 gY:Int->Int->Option j6
 mV:List (j6×j6×j6)
 eW:List (Option (j6×Int×Int×Int))
end L2
namespace Mth
def nf (t b:Int):Int×Int:=(t.fdiv (Int.gcd t b:Nat),b.fdiv (Int.gcd t b:Nat))
def tL (x y:Int×Int):Int×Int:=nf (x.1 * y.2 - y.1 * x.2) (x.2 * y.2)
end Mth
namespace L2
open PySem PySem.Spec PyProof.Rows Mth
variable {H:Hp} {o:HO}
def aY.Np (m:aY) (i j:Nat):j6:=(m.gY i j).getD (0,1)
def aY.Ow (m:aY) (i:Nat):j6:=((m.mV[i]?).map (·.1)).getD (0,1)
def aY.zy (m:aY) (i n:Nat):j6:=(List.range n).foldl (λ acc j=>tL acc (m.Np i j)) (tL (1,1) (m.Ow i))
def aY.own (m:aY) (i:Nat):j6:=m.zy i m.rows.length
theorem dv {α:Type} {l:List α} {i:Nat} (h:i<l.length):l[i]?=some l[i]:=Yx h
theorem yN {x y z t:V}:[x,y,z,t].length<=sizeLine:=by show 4<=sizeLine;decide
theorem Uc {x:V}:[x].length<=sizeLine:=by show 1<=sizeLine;decide
def aY.pJ (m:aY) (i j:Nat) (f:j6):aY:={ m with gY:=λ a b=>if a=(i:Int)/\b=(j:Int) then some f else m.gY a b }
def aY.xA (m:aY) (i:Nat) (s:j6×j6×j6):aY:={ m with mV:=m.mV.set i s }
def aY.se (m:aY) (i:Nat) (s:j6×Int×Int×Int):aY:={ m with eW:=m.eW.set i (some s)}
def aY.v4 (m:aY) (r:List j6):aY:={ m with rows:=m.rows++[r],mV:=m.mV++[((0,1),(0,1),(0,1))],eW:=m.eW++[none]}
def aY.new (most Fa load:Int):aY:=⟨most,Fa,load,[],λ _ _=>none,[],[]⟩
theorem js {a b:Addr} {u:HO} (h:H a=some o) (k:H b=some u) (n:o≠u):a≠b:=λ e=>by
 subst e
 rw [h] at k
 exact n (Yu k)
theorem az.put {H':Hp} {D:Addr} (s:az H H') (h:H D=none):az H (upd H' D o):=λ b u e=>by
 rw [aB (aH e h)]
 exact s b u e
structure oq (K:W.Frag) (C x dx:Addr) (H H':Hp) (fs:List (Str×V)):Prop where
 st:∀ b o,H b=some o->b≠x->H' b=some o
 ts:eK K H H'
 at_:H' x=some (.ins C dx fs)
section
variable {K:W.Frag} {C x dx:Addr} {H H':Hp} {fs fs':List (Str×V)}
theorem oq.start (h:H x=some (.ins C dx fs)):oq K C x dx H H fs:=⟨λ _ _ h _=>h,eK.refl _,h⟩
theorem oq.put (B:oq K C x dx H H' fs):oq K C x dx H (upd H' x (.ins C dx fs')) fs':=⟨λ b o h n=>by rw [aB n];exact B.st b o h n,B.ts.trans (sv B.at_ rfl),ae⟩
end
theorem lt1000 {n:Nat} (h:Nat.ble (n+1) 1000=true):n<1000:=YO h
def aY.with (m:aY) (x y z:Option Int):aY:={ m with most:=x.getD m.most,Fa:=y.getD m.Fa,load:=z.getD m.load }
theorem g5 {ns:List Int} {r:Int} (h0:0<=r) (h1:r<ns.length):∃ z∈ns,mS (ns.map V.int) r=some (.int z):=by
 have hl:r.toNat<ns.length:=by lia
 have e:(ns.map V.int)[r.toNat]?=some (.int (ns[r.toNat]'hl)):=by simp [hl]
 have e2:=aJ e
 rw [Z0 h0] at e2
 exact ⟨_,Y6 hl,e2⟩
structure wW where
 a:Int
 b:Int
 t:Int
 d:Int
structure wW.Ok (s:wW):Prop where
 a0:1<=s.a
 a1:s.a<=10 ^ 9
 b0:1<=s.b
 b1:s.b<=10 ^ 9
 t0 : -(10 ^ 9)<=s.t
 t1:s.t<=10 ^ 9
 d0:1<=s.d
 d1:s.d<=10 ^ 9
abbrev wW.vs (s:wW):List V:=[.int s.a,.int s.b,.int s.t,.int s.d]
def Ed (num parts:Int) (s:wW):Int:=num * s.a * s.d+parts * s.t * s.b
def CF (parts:Int) (s:wW):Int:=parts * s.b * s.d
def so (num parts:Int) (s:wW):j6:=nf (Ed num parts s) (CF parts s)
structure Xu (z:Int×Int×Int×Int):Prop where
 h:0<=z.1/\z.1<=25
 w:0<=z.2.1/\z.2.1<=9
 s:0<=z.2.2.1/\z.2.2.1<=3
 f:0<=z.2.2.2/\z.2.2.2<=3
structure bW where
 marks:List (List Int)
 EN:List (Int×Int×Int)
 eW:List (Option (Int×Int×Int×Int))
 gY:Nat->Nat->Option Int
 scale:wW
 bounds:Int×Int×Int
section
variable {K:W.Frag} {H H':Hp} {p pm ps pt pf Yl pb:Addr} {vm vs vt:List V} {kvs:List (List Key×V)} {m:bW}
def bW.pJ (m:bW) (i j:Nat) (k:Int):bW:={ m with gY:=λ a b=>if a=i/\b=j then some k else m.gY a b }
end
def v7 (l:List Int):Prop:=∀ i x y,l[i]?=some x->l[i+1]?=some y->x<y
structure Ab (n:Nat) (l:List Int):Prop where
 two:2<=l.length
 most:l.length<=if n<=2 then 7 else 5
 XO:v7 l
 bd:∀ x∈l,-200<=x/\x<=200
structure bW.Ok (n i:Nat) (m:bW):Prop where
 lm:m.marks.length=i
 ls:m.EN.length=i
 lt:m.eW.length=i
 rows:∀ l∈m.marks,Ab n l
 EN:∀ z∈m.EN,(0<=z.1/\z.1<=3)/\(-30<=z.2.1/\z.2.2<=60)/\z.2.1<=z.2.2/\z.2.2<=z.2.1+30
 eW:∀ z,some z∈m.eW->Xu z
 gY:∀ a b,a<i->b<n->a≠b->∃ k,m.gY a b=some k/\0<=k/\k<=3
 scale:m.scale.Ok
 bounds:(0<=m.bounds.1/\m.bounds.1<=4)/\(0<=m.bounds.2.1/\m.bounds.2.1<=30)/\(0<=m.bounds.2.2/\m.bounds.2.2<=30)
end L2
namespace Mth
end Mth
namespace L2
open PySem PySem.Spec PyProof.Rows Mth
variable {C:Addr} {H H':Hp} {X:Cx} {ep j:Nat} {qual:Str} {tg:Expr} {U:St}
def bW.row (tm:bW) (l:List Int):List j6:=l.map λ x=>so x 1 tm.scale
def bW.m1 (tm:bW) (k:Nat):aY:=((tm.marks.take k).map tm.row).foldl aY.v4 (aY.new tm.bounds.1 tm.bounds.2.1 tm.bounds.2.2)
def bW.Bs (tm:bW) (z:Int×Int×Int):j6×j6×j6:=(nf z.1 12,so z.2.1 1 tm.scale,so z.2.2 1 tm.scale)
def bW.vw (tm:bW) (z:Int×Int×Int×Int):j6×Int×Int×Int:=(nf (z.1 * tm.scale.a) tm.scale.b,z.2.1,z.2.2.1,z.2.2.2)
def bW.vf (tm:bW) (m:aY) (i:Nat):aY:=match tm.EN[i]? with|some z=>m.xA i (tm.Bs z)|none=>m
def bW.qo (tm:bW) (m:aY) (i:Nat):aY:=match tm.eW[i]? with|some (some z)=>m.se i (tm.vw z)|_=>m
def bW.rA (tm:bW) (i:Nat) (m:aY) (j:Nat):aY:=if j=i then m else match tm.gY i j with|some k=>m.pJ i j (nf k 12)|none=>m
def bW.wf (tm:bW) (i:Nat) (m:aY) (j:Nat):aY:=(List.range j).foldl (tm.rA i) m
def bW.ur (tm:bW) (n:Nat) (m:aY) (i:Nat):aY:=tm.wf i (tm.qo (tm.vf m i) i) n
def bW.m2 (tm:bW) (n k:Nat):aY:=(List.range k).foldl (tm.ur n) (tm.m1 n)
def wk:Nat->PyData->Prop
 | _,.none=>True
 | _,.bool _=>True
 | _,.int _=>True
 | n+1,.list ds=>∀ d∈ds,wk n d
 | n+1,.tuple ds=>∀ d∈ds,wk n d
 | _,_=>False
theorem lZ {n:Nat} (h:∀ d,wk n d->PyData.eqv d d=true/\d.canLay0=true/\d.depth<=n):∀ ds:List PyData,(∀ d∈ds,wk n d)->PyData.eqvAll ds ds=true/\PyData.canLayAll0 ds=true/\PyData.depthAll ds<=n
 | [],_=>by simp [PyData.eqvAll,PyData.canLayAll0,PyData.depthAll]
 | d::ds,k=>by
   obtain ⟨a,b,c⟩:=h d (k d YI)
   obtain ⟨a',b',c'⟩:=lZ h ds (λ e he=>k e (Yy _ he))
   simp only [PyData.eqvAll,PyData.canLayAll0,PyData.depthAll,a,b,a',b',Bool.and_self,true_and]
   lia
theorem g6:∀ (n:Nat) (d:PyData),wk n d->PyData.eqv d d=true/\d.canLay0=true/\d.depth<=n
 | n,.none,_=>by simp [PyData.eqv,PyData.canLay0,PyData.depth]
 | n,.bool b,_=>by simp [PyData.eqv,PyData.canLay0,PyData.depth]
 | n,.int i,_=>by simp [PyData.eqv,PyData.canLay0,PyData.depth]
 | n+1,.list ds,h=>by
   obtain ⟨a,b,c⟩:=lZ (g6 n) ds h
   simp only [PyData.eqv,PyData.canLay0,PyData.depth,a,b,true_and]
   lia
 | n+1,.tuple ds,h=>by
   obtain ⟨a,b,c⟩:=lZ (g6 n) ds h
   simp only [PyData.eqv,PyData.canLay0,PyData.depth,a,b,true_and]
   lia
 | 0,.list _,h=>h.elim
 | 0,.tuple _,h=>h.elim
 | 0,.str _,h=>h.elim
 | _+1,.str _,h=>h.elim
 | 0,.dict _,h=>h.elim
 | _+1,.dict _,h=>h.elim
theorem gA {n:Nat} {d:PyData} (h:wk n d) (hn:n<=64):SeqAt.shaped d=true:=by
 obtain ⟨_,b,c⟩:=g6 n d h
 unfold SeqAt.shaped
 rw [b,YU (YL c hn)];rfl
theorem tK {n:Nat} {d:PyData} (h:wk n d):PyData.eqv d d=true:=(g6 n d h).1
theorem uB {K:W.Frag} {x y:V} {d:PyData} {n:Nat} {Q:VK} (hx:Dn K H d x) (hy:Dn K H d y) (p:wk n d) (hn:n<=64) (q:Q (.bl true) H):Aj K x y H Q :=
 ⟨d,d,hx,hy,gA p hn,gA p hn,by rw [tK p];exact q⟩
theorem eR {K:W.Frag} (h:X.K=K):CJ X (Bp K):=by
 subst h
 exact al
theorem TV:([]:List V).length<=sizeLine:=YX _
def o7 (ns:List Int) (lo hi:Option Int):List Int:=(ns.drop (HT.ke ns.length 0 lo)).take (HT.ke ns.length ns.length hi - HT.ke ns.length 0 lo)
theorem kZ (ns:List Int) (lo hi:Option Int):cG (ns.map V.int) lo hi=(o7 ns lo hi).map V.int:=by
 unfold cG o7
 rw [ET,← List.map_drop,← List.map_take]
theorem uo (ns:List Int) (lo hi:Option Int):(o7 ns lo hi).length<=ns.length:=by
 unfold o7
 rw [Zf,Zg]
 lia
def DL (P:Program) (w:World) (K:W.Frag) (mg:Str->Option Value) (base:Heap) (m:Str) (k:Nat) (ta:TE) (t:TA):TE:=λ U H Q=>ta U H λ x H1 =>
 ∃ C a dx fs ps sp,x = .ref a/\H1 a=some (.ins C dx fs)/\fs.lookup m=none/\k6 K C/\bv P w K mg base C m k ps [] sp/\t U H1 λ vs H2=>sp (.ref a::(vs++[])) H2 Q E0
section
variable {X:Cx} {P:Program} {w:World} {K:W.Frag} {mg:Str->Option Value} {base:Heap} {m x:Str} {p pos apos:Pos} {e o:Expr} {es:List Expr} {ta:TE} {t:TA} {k:Nat}
theorem cz {pl:Sem Bool} (hX:X.prog=P/\X.w=w/\X.K=K/\X.mg=mg/\X.base=base) (he:PE X o ta) (hr:bS k X.A) (ha:PA X (e::es) t) (jU:starEach (e::es) X.env=(false,eval e X.env)::starEach es X.env:=by rfl) (eF:(backTo pos (starEach es X.env)).any (·.1)=false:=by rfl) (ht:eval (.Call (.Attribute o m apos) (e::es) [] pos) X.env=(do
     let ov ← eval o X.env
     standAt apos.atName
     let (f,first) ← holding [ov] (getMethod ov m pl)
     callWith pos f first (backTo pos (starEach (e::es) X.env)) (backToKw pos (keywordEach [] X.env))):=by rfl) :
   PE X (.Call (.Attribute o m apos) (e::es) [] pos) (DL P w K mg base m k ta t):=by
 obtain ⟨rfl,rfl,rfl,rfl,rfl⟩:=hX
 intro pins s U H Q I h
 refine ZS (pl:=pl) (bX (he pins s U H _ I h) λ u s1 z=>?_) ht
 obtain ⟨x,H1,I1,rx,C,a,dx,fs,ps,sp,ex,ea,l,c,⟨f,fd,hm,hb,F⟩,q⟩:=z
 subst ex
 obtain rfl:u=Value.ref a:=rx
 refine jX I1 ea c hm l ?_
 refine ZI (first:=[.ref a]) (h₀:=X.base) I.ok.mod.uN hm.kp (bX (ha pos pins s1 U H1 _ I1 q) λ us s2 ⟨vs,H2,I2,r,q2⟩=>⟨I2.gE,?_⟩) jU eF
 exact lE (us:=.ref a::us) (vs:=.ref a::vs) F hr hb .nil mZ I2 (.cons rfl r) q2
theorem cc {pl:Sem Bool} (hX:X.prog=P/\X.w=w/\X.K=K/\X.mg=mg/\X.base=base) (he:PE X o ta) (hr:bS k X.A) (ht:eval (.Call (.Attribute o m apos) [] [] pos) X.env=(do
     let ov ← eval o X.env
     standAt apos.atName
     let (f,first) ← holding [ov] (getMethod ov m pl)
     callWith pos f first (backTo pos (starEach [] X.env)) (backToKw pos (keywordEach [] X.env))):=by rfl) :
   PE X (.Call (.Attribute o m apos) [] [] pos) (DL P w K mg base m k ta B4):=by
 obtain ⟨rfl,rfl,rfl,rfl,rfl⟩:=hX
 intro pins s U H Q I h
 refine ZS (pl:=pl) (bX (he pins s U H _ I h) λ u s1 z=>?_) ht
 obtain ⟨x,H1,I1,rx,C,a,dx,fs,ps,sp,ex,ea,l,c,⟨f,fd,hm,hb,F⟩,q⟩:=z
 subst ex
 obtain rfl:u=Value.ref a:=rx
 refine jX I1 ea c hm l ?_
 exact W.callWith_K0 (first:=[.ref a]) I1.gE hm.kp (lE (us:=[.ref a]) (vs:=[.ref a]) F hr hb .nil mZ I1 (.cons rfl .nil) q)
structure pU (K:W.Frag) (C:Addr) (m:Str) (f:Addr):Prop where
 ga:W.specialIn K (.ref C) "__getattribute__" = some (some (.builtin "type.__getattribute__"))
 rd:∃ mc,W.readsIn K C mc=true/\W.findCls K (.ref C) mc m=some (.val (.ref f))
 kp:W.keepIn K (.ref f)=true
theorem sf {pl:Sem Bool} {f:Addr} {fd:FuncData} {ps:List Str} {sp:Sp} (c:pU X.K C m f) (hb:Binds X.K fd ps []) (F:dg X.prog X.w X.K X.mg X.base iP k f fd ps sp) (hr:bS k X.A) (hm:X.mg x=some (.ref C)) (ha:PA X (e::es) t) (hg:Gl X x:=by rfl) (lU:(x == ("__debug__" : Str))=false:=by decide) (jU:starEach (e::es) X.env=(false,eval e X.env)::starEach es X.env:=by rfl) (eF:(backTo pos (starEach es X.env)).any (·.1)=false:=by rfl) (ht:eval (.Call (.Attribute (.Name x p) m apos) (e::es) [] pos) X.env=(do
     let ov ← eval (.Name x p) X.env
     standAt apos.atName
     let (f,first) ← holding [ov] (getMethod ov m pl)
     callWith pos f first (backTo pos (starEach (e::es) X.env)) (backToKw pos (keywordEach [] X.env))):=by rfl) :
   PE X (.Call (.Attribute (.Name x p) m apos) (e::es) [] pos) (pp sp [] E0 t):=by
 have he:PE X (.Name x p) (tC (.ref C)):=mx (v:=V.ref C) hg hm rfl lU
 intro pins s U H Q I h
 refine ZS (pl:=pl) (bX (he pins s U H (λ v H1=>v = .ref C/\H1=H) I ⟨rfl,rfl⟩) λ u s1 z=>?_) ht
 obtain ⟨v,H1,I1,rx,rfl,rfl⟩:=z
 obtain rfl:u=Value.ref C:=rx
 obtain ⟨mc,h1,h2⟩:=c.rd
 refine W.method_cls I1.gE c.ga (W.cls_value I1.gE h1 h2 rfl ?_)
 have I2:Inv X pins U H1 { s1 with toks:=s1.toks+1 }:=I1.tok _
 refine ZI (first:=[]) (h₀:=X.base) I.ok.mod.uN c.kp (bX (ha pos pins _ U H1 _ I2 h) λ us s2 ⟨vs,H2,I3,r,q2⟩=>⟨I3.gE,?_⟩) jU eF
 exact lE (us:=us) (vs:=vs) F hr hb .nil mZ I3 r q2
theorem lF:f6 X (.builtin "divmod") (λ xs H Q=>∃ i j:Int,xs=[.int i,.int j]/\j≠0/\Bd 8999 j/\∀ p,H p=none->Q (.ref p) (upd H p (.tup [.int (i.fdiv j),.int (i.fmod j)]))):=by
 intro pins s U H xs us Q I r h
 obtain ⟨i,j,rfl,hj,bj,q⟩:=h
 obtain ⟨u,w',rfl,⟨t,rfl⟩,⟨t',rfl⟩⟩:=vals2 r
 have hf:H s.heap.objs.size=none:=I.bQ.fresh (oX _)
 refine divmod_int hj ?_ (.inl (ZM (T1 (bj.log (by decide)) (by decide))))
 refine ⟨.ref s.heap.objs.size,_,(I.laid (o:=.tup [.int (i.fdiv j),.int (i.fmod j)]) (t':=s.toks+1+1) (λ b u e=>be _ e) (oX _) ?_),rfl,q _ hf⟩
 exact ⟨by show 2<=sizeLine;decide,[_,_],.cons ⟨_,rfl⟩ (.cons ⟨_,rfl⟩ .nil),⟨_,Yt _ rfl,rfl,_,rfl⟩⟩
end
def ya (P:Program) (w:World) (K:W.Frag) (mg:Str->Option Value) (base:Heap) (C:Addr) (m:Str) (k:Nat) (ps:List Str) (sp:Sp):Prop :=
 ∃ f fd,pU K C m f/\Binds K fd ps []/\dg P w K mg base iP k f fd ps sp
theorem wc {m x:Str} {p pos apos:Pos} {e:Expr} {es:List Expr} {t:TA} {k:Nat} {pl:Sem Bool} {ps:List Str} {sp:Sp} (c:ya X.prog X.w X.K X.mg X.base C m k ps sp) (hr:bS k X.A) (hm:X.mg x=some (.ref C)) (ha:PA X (e::es) t) (hg:Gl X x:=by rfl) (lU:(x == ("__debug__" : Str))=false:=by decide) (jU:starEach (e::es) X.env=(false,eval e X.env)::starEach es X.env:=by rfl) (eF:(backTo pos (starEach es X.env)).any (·.1)=false:=by rfl) (ht:eval (.Call (.Attribute (.Name x p) m apos) (e::es) [] pos) X.env=(do
     let ov ← eval (.Name x p) X.env
     standAt apos.atName
     let (f,first) ← holding [ov] (getMethod ov m pl)
     callWith pos f first (backTo pos (starEach (e::es) X.env)) (backToKw pos (keywordEach [] X.env))):=by rfl) :
   PE X (.Call (.Attribute (.Name x p) m apos) (e::es) [] pos) (pp sp [] E0 t):=by
 obtain ⟨f,fd,c,hb,F⟩:=c
 exact sf (pl:=pl) c hb F hr hm ha hg lU jU eF ht
theorem qS:bootBuiltins "divmod" = some (.builtin "divmod"):=by decide +kernel
theorem bv.mono {P:Program} {w:World} {K:W.Frag} {mg:Str->Option Value} {base:Heap} {m:Str} {k:Nat} {ps:List Str} {ds:List Value} {sp:Sp} (h:bv P w K mg base C m j ps ds sp) (hk:j<=k):bv P w K mg base C m k ps ds sp:=by
 obtain ⟨f,fd,M,B,F⟩:=h
 exact ⟨f,fd,M,B,F.mono hk⟩
def eT (C:Addr) (H:Hp) (a:Addr) (ws:List Int):Prop:=∃ dx pw,H a=some (.ins C dx [("wishes",.ref pw)])/\H dx=some (.own a)/\H pw=some (.lst (ws.map V.int))/\1<=ws.length/\ws.length<=24
theorem eT.same {a:Addr} {ws:List Int} (h:eT C H a ws) (s:az H H'):eT C H' a ws:=by
 obtain ⟨dx,pw,h1,h2,h3,h4⟩:=h
 exact ⟨dx,pw,s _ _ h1,s _ _ h2,s _ _ h3,h4⟩
section
variable (C:Addr)
inductive qp  (vs:List V) (H:Hp) (Q:VK) (_E:XK):Prop
 | mk (a ws:_) (_:vs=[.ref a]) (_:eT C H a ws) (_:Q (aw ws.length) H)
inductive rX  (vs:List V) (H:Hp) (Q:VK) (_E:XK):Prop
 | mk (v:_) (_:vs=[v]) (_:Q (.int 1) H)
inductive rF  (vs:List V) (H:Hp) (Q:VK) (_E:XK):Prop
 | mk (a ws:_) (i:Nat) (z st:_) (_:vs=[.ref a,aw i,st]) (_:eT C H a ws) (_:ws[i]?=some z) (_:Q (.int z) H)
inductive qY  (vs:List V) (H:Hp) (Q:VK) (_E:XK):Prop
 | mk (a ws:_) (i:Nat) (st:_) (_:vs=[.ref a,aw i,st]) (_:eT C H a ws) (_:Q (aw ((i+1) % ws.length)) H)
end
structure T9 (K:W.Frag) (C:Addr):Prop where
 cl:k6 K C
 n1:bH K C "one"
 n2:bH K C "other"
theorem bg.of {P:Program} {w:World} {K:W.Frag} {mg:Str->Option Value} {base:Heap} {m:Str} {st:Stmt} {k:Nat} {ps:List Str} {sp:Sp} (h:bg K C m qual st .none) (hb:∀ (kV doc pm:Value) (an:Option Addr) (aP ct:Value) (us:List Value),us.length=ps.length->bindArgs (W.fnOf m qual (bc st) (aM st) (ah st) .none kV doc pm an aP ct) ⟨us,[]⟩=pure (ps.zip us)) (hf:∀ f fd,eS K m qual st .none f fd->dg P w K mg base iP k f fd ps sp):bv P w K mg base C m k ps [] sp:=by
 obtain ⟨f,fd,M,F⟩:=h
 exact ⟨f,fd,M,F.oW hb,hf f fd F⟩
theorem vv {P:Program} {w:World} {K:W.Frag} {mg:Str->Option Value} {base:Heap} {m:Str} {st:Stmt} {k:Nat} {ps:List Str} {sp:Sp} (h:∃ f fd,pU K C m f/\eS K m qual st .none f fd) (hb:∀ (kV doc pm:Value) (an:Option Addr) (aP ct:Value) (us:List Value),us.length=ps.length->bindArgs (W.fnOf m qual (bc st) (aM st) (ah st) .none kV doc pm an aP ct) ⟨us,[]⟩=pure (ps.zip us)) (hf:∀ f fd,eS K m qual st .none f fd->dg P w K mg base iP k f fd ps sp):ya P w K mg base C m k ps sp:=by
 obtain ⟨f,fd,M,F⟩:=h
 exact ⟨f,fd,M,F.oW hb,hf f fd F⟩
inductive rj  (vs:List V) (H:Hp) (Q:VK) (_E:XK):Prop
 | mk (c:Int) (m:Nat) (_:vs=[.int c,aw m]) (_:m<=100) (_:∀ p (ns:List Int) H',az H H'->H' p=some (.lst (ns.map V.int))->ns.length=m->(∀ z∈ns,0<=z/\z<2 ^ 31)->Q (.ref p) H')
theorem FH {ns:List Int} {n:Nat} (h:ns.length=n+2):cG (ns.map V.int) (some 2) none=(ns.drop 2).map V.int:=by
 rw [kZ]
 unfold o7
 have e:HT.ke ns.length 0 (some 2)=2:=by
   unfold HT.ke
   simp
   lia
 rw [e]
 have e2:HT.ke ns.length ns.length none=ns.length:=rfl
 rw [e2,List.take_of_length_le (by rw [Zg];lia)]
def mY (H:Hp) (ps:Addr) (bs ws fs:List Int) (bu hp:Int):Prop:=∃ pb pw pf,H ps=some (.tup [.ref pb,.int bu,.ref pw,.ref pf,.int hp])/\H pb=some (.tup (bs.map V.int))/\H pw=some (.tup (ws.map V.int))/\H pf=some (.tup (fs.map V.int))
theorem mY.same {ps:Addr} {bs ws fs:List Int} {bu hp:Int} (h:mY H ps bs ws fs bu hp) (s:az H H'):mY H' ps bs ws fs bu hp:=by
 obtain ⟨pb,pw,pf,h1,h2,h3,h4⟩:=h
 exact ⟨pb,pw,pf,s _ _ h1,s _ _ h2,s _ _ h3,s _ _ h4⟩
inductive sU (K:W.Frag) (vs:List V) (H:Hp) (Q:VK) (_E:XK):Prop
 | mk (p:_) (ns:List Int) (r:Nat) (_:vs=[.ref p,aw r]) (_:cg K H p (ns.map V.int)) (_:6<=ns.length) (_:(∀ z∈ns,0<=z/\z<2 ^ 31)) (_:1<=r) (_:r<=4) (_:∀ ps (bs ws fs:List Int) (bu hp:Int) H',az H H'->mY H' ps bs ws fs bu hp->bs.length=r->ws.length=r->fs.length=r->(∀ z∈bs,0<=z/\z<=6)->0<=bu->bu<16->0<=hp->hp<=30->Q (.ref ps) H')
inductive sR  (vs:List V) (H:Hp) (Q:VK) (_E:XK):Prop
 | mk (z:Int) (_:vs=[.int z]) (_:Q (.bl true) H)
theorem ints_get {l:List Int} (h:j<l.length):(l.map V.int)[j]?=some (.int l[j]):=by rw [YN,dv h];rfl
def rh (any:Bool) (a b:Nat):Nat:=if any then a ||| b else a &&& b
def mG (any:Bool) (a b:Nat):Nat:=if a % 2+b % 2 > 1 - (if any then 1 else 0) then 1 else 0
theorem vB (any:Bool) (a b:Nat):rh any a b % 2=mG any a b:=by
 have ha:a % 2=0∨a % 2=1:=by lia
 have hb:b % 2=0∨b % 2=1:=by lia
 have e1:=Nat.or_mod_two_pow (a:=a) (b:=b) (n:=1)
 have e2:=Nat.and_mod_two_pow (a:=a) (b:=b) (n:=1)
 simp only [Nat.pow_one] at e1 e2
 unfold rh mG
 cases any with
 | true =>
   simp only [Zd]
   rw [e1]
   rcases ha with h|h<;>rcases hb with g|g<;>rw [h,g]<;>decide
 | false =>
   simp only [Y8,Zl]
   rw [e2]
   rcases ha with h|h<;>rcases hb with g|g<;>rw [h,g]<;>decide
theorem uU (any:Bool) (a b:Nat):rh any a b / 2=rh any (a / 2) (b / 2):=by
 unfold rh
 cases any with
 | true=>simp only [Zd];exact Nat.or_div_two
 | false=>simp only [Y8,Zl];exact Nat.and_div_two
theorem tu (any:Bool) (a b:Nat):rh any a b=mG any a b+2 * rh any (a / 2) (b / 2):=by
 rw [← vB,← uU];lia
theorem rO (any:Bool):rh any 0 0=0:=by cases any<;>rfl
inductive uw  (vs:List V) (H:Hp) (Q:VK) (_E:XK):Prop
 | mk (a b:Nat) (any:Bool) (_:vs=[aw a,aw b,.bl any]) (_:a<2 ^ 61) (_:b<2 ^ 61) (_:Q (aw (rh any a b)) H)
inductive A3 (a b c:Prop):Prop|mk (_:a) (_:b) (_:c)
inductive A4 (a b c d:Prop):Prop|mk (_:a) (_:b) (_:c) (_:d)
inductive A6 (a b c d e f:Prop):Prop|mk (_:a) (_:b) (_:c) (_:d) (_:e) (_:f)
inductive E2 {a b:Type} (p:a->b->Prop):Prop|mk (x:a) (y:b) (_:p x y)
inductive E3 {a b c:Type} (p:a->b->c->Prop):Prop|mk (x:a) (y:b) (z:c) (_:p x y z)
inductive E4 {a b c d:Type} (p:a->b->c->d->Prop):Prop|mk (x:a) (y:b) (z:c) (u:d) (_:p x y z u)
section
variable {X:Cx} {pins:List (Addr×Obj)} {U:St} {H:Hp} {s:Shared} {d:Addr} {u u':HO}
theorem iI {P:Program} {w:World} {h:Heap} {a:Addr} {o:HO} (e:H d=some u) (h1:∀ xs,u ≠ .tup xs) (h2:∀ y,u ≠ .own y) (ok:bt P w H h a o):bt P w (upd H d u') h a o :=
 ok.qE (λ _ _ _ q=>q) (λ b q=>by rw [aB (λ z=>by subst z;rw [e] at q;exact h2 _ (Yu q))];exact q) (λ b xs q=>by rw [aB (λ z=>by subst z;rw [e] at q;exact h1 _ (Yu q))];exact q)
theorem Inv.wU (I:Inv X pins U H s) (e:H d=some u) (h1:∀ xs,u ≠ .tup xs) (h2:∀ y,u ≠ .own y) (h3:∀ ps,u ≠ .wJ ps) (h4:∀ o v,X.H₀ d≠some (.kY o v)) (ok:bt X.prog X.w H s.heap d u'):Inv X pins U (upd H d u') s:=by
 have ne:∀ {b},H b=none->b≠d:=λ {b} h z=>by subst z;rw [e] at h;cases h
 refine ⟨I.ok,I.os,I.bare,⟨I.base.keep,I.base.slot,λ b o q n hx=>?_,I.base.there,λ b xs q=>?_,λ b o v q=>?_,λ b ps q=>?_⟩,I.loc,I.cell,?_,λ x c q=>?_,λ p hp=>?_,?_,I.len⟩
 . have:=I.base.free b o q n hx
   rw [aB (ne this)];exact this
 . have:=I.base.l9 b xs q
   rw [aB (λ z=>by subst z;rw [e] at this;exact h1 _ (Yu this))];exact this
 . have:=I.base.jK b o v q
   rw [aB (λ z=>by subst z;exact h4 _ _ q)];exact this
 . obtain ⟨m,this⟩:=I.base.mh b ps q
   exact ⟨m,by rw [aB (λ z=>by subst z;rw [e] at this;exact h3 _ (Yu this))];exact this⟩
 . rw [aB (ne I.free)];exact I.free
 . have:=I.fG x c q
   rw [aB (ne this)];exact this
 . obtain ⟨a,b,c⟩:=I.pin p hp
   exact ⟨a,by rw [aB (ne b)];exact b,c⟩
 .
  intro b o q
  by_cases hb:b=d
  . subst hb;rw [ae] at q;cases q;exact iI e h1 h2 ok
  . rw [aB hb] at q;exact iI e h1 h2 (I.bQ b o q)
abbrev Fd (ob:Obj) (kvs:List (Key×V)):HO:=.kY ob (.dK kvs)
theorem Inv.xb {kvs:List (Key×V)} (I:Inv X pins U H s) (e:H d=some (.dK kvs)):(∀ o v,X.H₀ d≠some (.kY o v))/\∃ ob,Inv X pins U (upd H d (Fd ob kvs)) s:=by
 have nf:∀ o v,X.H₀ d≠some (.kY o v):=λ o v q=>by
   have:=I.base.jK d o v q
   rw [e] at this;cases this
 obtain ⟨z,y,vs,rel,ob,es,ep,hg,r⟩:=wT I.bQ e
 exact ⟨nf,ob,I.wU e nofun nofun nofun nf ⟨hg,z,y,vs,rel,ob,es,ep,hg,r⟩⟩
theorem Inv.pj {kvs:List (Key×V)} {ob:Obj} (I:Inv X pins U H s) (nf:∀ o v,X.H₀ d≠some (.kY o v)) (e:H d=some (Fd ob kvs)):Inv X pins U (upd H d (.dK kvs)) s :=
 I.wU e nofun nofun nofun nf (I.bQ d _ e).2
end
section
variable {X:Cx} {pos:Pos}
inductive Cf (t:TE) (U:St) (H:Hp) (Q:VK):Prop
 | mk (d kvs:_) (_:H d=some (.dK kvs)) (_:∀ ob,t U (upd H d (Fd ob kvs)) λ v H'=>H' d=some (Fd ob kvs)/\Q v (upd H' d (.dK kvs)))
theorem vo {e:Expr} {t:TE} (he:PE X e t):PE X e (Cf t):=by
 rintro pins s U H Q I ⟨d,kvs,hd,h⟩
 obtain ⟨nf,ob,I1⟩:=I.xb hd
 exact bX (he pins s U _ _ I1 (h ob)) λ v s1 ⟨x,H1,I2,r,e,q⟩=>⟨x,_,I2.pj nf e,r,q⟩
def Ends.pj (D:Ends) (d:Addr) (ob:Obj) (kvs:List (Key×V)):Ends :=
 ⟨λ U H=>H d=some (Fd ob kvs)/\D.nx U (upd H d (.dK kvs)),λ v H=>H d=some (Fd ob kvs)/\D.rt v (upd H d (.dK kvs)),λ U H=>H d=some (Fd ob kvs)/\D.bk U (upd H d (.dK kvs)),λ U H=>H d=some (Fd ob kvs)/\D.ct U (upd H d (.dK kvs))⟩
def AA (t:TS):TS:=λ D U H=>∃ d kvs,H d=some (.dK kvs)/\∀ ob,t (D.pj d ob kvs) U (upd H d (Fd ob kvs))
theorem v5 {st:Stmt} {t:TS} (he:PS X st t):PS X st (AA t):=by
 rintro pins s U H D I ⟨d,kvs,hd,h⟩
 obtain ⟨nf,ob,I1⟩:=I.xb hd
 refine bX (he pins s U _ _ I1 (h ob)) λ f s1 q=>?_
 cases f with
 | next=>obtain ⟨σ',H',I',e,q⟩:=q;exact ⟨σ',_,I'.pj nf e,q⟩
 | brk=>obtain ⟨σ',H',I',e,q⟩:=q;exact ⟨σ',_,I'.pj nf e,q⟩
 | cont=>obtain ⟨σ',H',I',e,q⟩:=q;exact ⟨σ',_,I'.pj nf e,q⟩
 | ret v=>obtain ⟨x,σ',H',I',r,e,q⟩:=q;exact ⟨x,σ',_,I'.pj nf e,r,q⟩
end
theorem uZ {k:Key} {v:Value} (h:jV k v=true):RelV (kV k) v:=by
 rcases br h with ⟨i,t,rfl,rfl⟩|⟨x,t,rfl,rfl⟩
 . exact ⟨t,rfl⟩
 . exact ⟨t,rfl⟩
def B8 (d:Addr) (ob:Obj) (kvs:List (Key×V)):It :=
 ⟨λ i H=>H d=some (Fd ob kvs)/\i<kvs.length,λ i H x H'=>H'=H/\∃ p,kvs[i]?=some p/\x=kV p.1,λ i H=>H d=some (Fd ob kvs)/\kvs.length<=i⟩
def zg (d:Addr) (ob:Obj) (kvs:List (Key×V)):It :=
 ⟨λ i H=>H d=some (Fd ob kvs)/\i<kvs.length,λ i H x H'=>H'=H/\∃ p,kvs[i]?=some p/\x=p.2,λ i H=>H d=some (Fd ob kvs)/\kvs.length<=i⟩
theorem lg {pins:List (Addr×Obj)} {s:Shared} {d:Addr} {ob:Obj} {kvs:List (Key×V)} {es:Array DictEntry} (I:Inv X pins U H s) (e:H d=some (Fd ob kvs)) (ho:ob.data = .dict es ep) :
   kvs.length<=sizeLine/\(d == sysModules)=false/\∃ vs,KV kvs vs/\s.heap.DictAt (bL X.prog X.w) d vs ep:=by
 obtain ⟨hg,z,y,vs,rel,o,Fj,Fh,wA,hx,hd,r⟩:=I.bQ d _ e
 rw [hg] at wA
 cases wA
 rw [ho] at hd
 cases hd
 exact ⟨z,y,vs,rel,_,_,hg,hx,ho,r⟩
theorem KV.get {κ:Type}:∀ {kvs:List (κ×V)} {vs:List (κ×Value)} {i:Nat} {p:κ×V},KV kvs vs->kvs[i]?=some p->∃ q,vs[i]?=some q/\p.1=q.1/\RelV p.2 q.2
 | _,_,0,_,.cons r _,e=>by cases e;exact ⟨_,rfl,r⟩
 | _,_,i+1,_,.cons _ t,e=>KV.get (i:=i) t e
theorem qW {P:Program} {w:World} {K:W.Frag} (d it:Addr) {ob:Obj} {kvs:List (Key×V)} {es:Array DictEntry} (ho:ob.data = .dict es ep):Turn P w K tg (B8 d ob kvs) [it] it (λ i h=>h.IsKeyIter it d i kvs.length ep) where
 mem:=by simp
 obj:=λ i h st b hb=>by
   have e:b=it:=by simpa using hb
   subst e
   obtain ⟨o,e,c,d⟩:=st
   exact ⟨o,e,λ v z=>by rw [d] at z;cases z⟩
 keep:=λ i h h' st k=>st.at λ o e=>k it (by simp) o e
 item:=by
   intro X hP hw hK hc i pins s U H E I hf st hg
   subst hP hw hK
   obtain ⟨hd,hi⟩:=hg
   obtain ⟨z,y,vs,rel,da⟩:=lg I hd ho
   obtain ⟨q,hq,e1,r2⟩:=KV.get rel (Yx hi)
   obtain ⟨f0,f1,f2,f3,f4,f5⟩:=hf it (by simp)
   have yG:=st
   have ln:kvs.length=vs.length:=rel.length
   rw [ln] at yG
   refine wpAny_pyNext_dict_item yG da (k:=q.1) (v:=q.2) hq λ key h' hk qk sb=>?_
   rw [← ln] at qk
   have I1:Inv X pins U H { s with heap:=h' }:=I.turned (t':=s.toks) (λ b o hb e=>(sb.2 b hb).trans e) f0 f1 f3 f4 f5
   obtain ⟨o,e,c,d'⟩:=id qk
   exact ⟨key,rfl,pO (s:={ s with heap:=h' }) e c d' (by decide) ⟨kV q.1,H,I1,uZ hk,⟨rfl,_,Yx hi,by rw [e1]⟩,qk,λ b hb=>(hf b hb).1⟩⟩
 done:=by
   intro X hP hw hK hc i pins s U H E I hf st hg
   subst hP hw hK
   obtain ⟨hd,hi⟩:=hg
   obtain ⟨z,y,vs,rel,da⟩:=lg I hd ho
   obtain ⟨f0,f1,f2,f3,f4,f5⟩:=hf it (by simp)
   have ln:kvs.length=vs.length:=rel.length
   rw [ln] at st
   exact wpAny_pyNext_dict_end (I.ok.hd hc) st da (by rw [ZE];lia) λ h' eb=>⟨rfl,I.turned (t':=s.toks) (λ b o hb e=>eb b o hb e) f0 f1 f3 f4 f5⟩
 self:=λ _ _ _ _ _ st h=>wpAny_pyIter_keyiter st h
theorem qG {P:Program} {w:World} {K:W.Frag} (d it:Addr) {ob:Obj} {kvs:List (Key×V)} {es:Array DictEntry} (ho:ob.data = .dict es ep):Turn P w K tg (zg d ob kvs) [it] it (λ i h=>h.IsValIter it d i kvs.length ep) where
 mem:=by simp
 obj:=λ i h st b hb=>by
   have e:b=it:=by simpa using hb
   subst e
   obtain ⟨o,e,c,d⟩:=st
   exact ⟨o,e,λ v z=>by rw [d] at z;cases z⟩
 keep:=λ i h h' st k=>st.at λ o e=>k it (by simp) o e
 item:=by
   intro X hP hw hK hc i pins s U H E I hf st hg
   subst hP hw hK
   obtain ⟨hd,hi⟩:=hg
   obtain ⟨z,y,vs,rel,da⟩:=lg I hd ho
   obtain ⟨q,hq,e1,r2⟩:=KV.get rel (Yx hi)
   obtain ⟨f0,f1,f2,f3,f4,f5⟩:=hf it (by simp)
   have yG:=st
   have ln:kvs.length=vs.length:=rel.length
   rw [ln] at yG
   refine wpAny_pyNext_values_item yG da (k:=q.1) (v:=q.2) hq λ h' qk sb=>?_
   rw [← ln] at qk
   have I1:Inv X pins U H { s with heap:=h' }:=I.turned (t':=s.toks) (λ b o hb e=>(sb.2 b hb).trans e) f0 f1 f3 f4 f5
   obtain ⟨o,e,c,d'⟩:=id qk
   exact ⟨q.2,rfl,pO (s:={ s with heap:=h' }) e c d' (by decide) ⟨_,H,I1,r2,⟨rfl,_,Yx hi,rfl⟩,qk,λ b hb=>(hf b hb).1⟩⟩
 done:=by
   intro X hP hw hK hc i pins s U H E I hf st hg
   subst hP hw hK
   obtain ⟨hd,hi⟩:=hg
   obtain ⟨z,y,vs,rel,da⟩:=lg I hd ho
   obtain ⟨f0,f1,f2,f3,f4,f5⟩:=hf it (by simp)
   have ln:kvs.length=vs.length:=rel.length
   rw [ln] at st
   exact wpAny_pyNext_values_end (I.ok.hd hc) st da (by rw [ZE];lia) λ h' eb=>⟨rfl,I.turned (t':=s.toks) (λ b o hb e=>eb b o hb e) f0 f1 f3 f4 f5⟩
 self:=λ _ _ _ _ _ st h=>wpAny_pyIter_valiter st h
section
variable {X:Cx} {tg:Expr}
def Ai (tl:TE):TI:=λ U H R=>tl U H λ x H1=>∃ d ob kvs,x = .ref d/\H1 d=some (Fd ob kvs)/\R (B8 d ob kvs) H1
theorem vc {l:Expr} {tl:TE} (hl:PE X l tl):PI X tg l (Ai tl):=by
 intro pins s U H R I h
 refine bX (hl pins s U H _ I h) λ v s1 ⟨x,H1,I1,r1,q1⟩=>?_
 obtain ⟨d,ob,kvs,e,hd,q⟩:=q1
 subst e
 cases r1
 obtain ⟨hg,_,_,vs,_,o,es,ep,wA,_,sq,_⟩:=I1.bQ d _ hd
 rw [hg] at wA
 cases wA
 obtain ⟨z,y,vs,rel,da⟩:=lg I1 hd sq
 refine wpAny_pyIter_dict y da ?_
 refine ⟨s1.heap.objs.size,[s1.heap.objs.size],_,_,H1,rfl,I1.kept (t':=s1.toks) λ b o e=>be _ e,qW d _ sq,⟨_,Yt _ rfl,rfl,by rw [rel.length];rfl⟩,λ b hb=>?_,q⟩
 have e:b=s1.heap.objs.size:=by simpa using hb
 subst e
 exact I1.sw (oX _) (I1.bQ.fresh (oX _))
end
section
variable {X:Cx} {tg o:Expr} {to:TE} {apos kn:Pos}
def yW (to:TE):TI:=λ U H R=>to U H λ x H1=>∃ d ob kvs,x = .ref d/\H1 d=some (Fd ob kvs)/\R (zg d ob kvs) H1
theorem vx (ho:PE X o to) (rV:attributeBase o "values" X.env (eval o X.env)=eval o X.env:=by rfl) (rK:(apos.endLine == kn.line)=true:=by rfl):PI X tg (.Call (.Attribute o "values" apos) [] [] kn) (yW to):=by
 intro pins s U H R I h
 refine wpAny_Call_method0_late rV rK (bX (ho pins s U H _ I h) λ v s1 ⟨x,H1,I1,r1,q1⟩=>?_)
 obtain ⟨d,ob,kvs,e,hd,q⟩:=q1
 subst e
 cases r1
 obtain ⟨hg,_,_,vs,_,o',es,ep,wA,hx,sq,_⟩:=I1.bQ d _ hd
 rw [hg] at wA
 cases wA
 obtain ⟨z,y,vs,rel,da⟩:=lg I1 hd sq
 refine ⟨"dict","dict.values",PySem.F.plainAttrs_dict,ZL,PySem.F.type_dict_values,da.dictOf.typeIs,λ a e=>?_,Calls.callWith_builtin rfl (PySem.evalArgs_none ?_)⟩
 . cases e
   exact ⟨_,hg,hx.2.1⟩
 .
  refine call_meetsIn ZL da.dictOf.typeIs PySem.F.entry_dict_values (PySem.F.args_dict_values_1 _) (meets_dict_values (bL X.prog X.w) d y) ⟨⟨_,da.dictOf⟩,?_⟩
  have Xn:(s1.heap.push { cls:=.type "dict_values",data:=.fields #[.ref d]}).DictAt (bL X.prog X.w) d vs ep:=da.push _
  refine wpAny_pyIter_values (s:={ s1 with heap:=s1.heap.push { cls:=.type "dict_values",data:=.fields #[.ref d]}}) ⟨_,Yt _ rfl,rfl,rfl⟩ Xn ?_
  have I2:=I1.kept (t':=s1.toks) (h':=s1.heap.push { cls:=.type "dict_values",data:=.fields #[.ref d]}) λ b o e=>be _ e
  refine ⟨_,[_],_,_,H1,rfl,I2.kept (t':=s1.toks) λ b o e=>be _ e,qG d _ sq,⟨_,Yt _ rfl,rfl,by rw [rel.length];rfl⟩,λ b hb=>?_,q⟩
  have e:b=(s1.heap.push { cls:=.type "dict_values",data:=.fields #[.ref d]}).objs.size:=by simpa using hb
  subst e
  exact I2.sw (oX _) (I2.bQ.fresh (oX _))
theorem kK:f6 X (.type "dict") (λ xs H Q=>∃ p kvs,xs=[.ref p]/\Rd H p (.dK kvs)/\∀ l,H l=none->Q (.ref l) (upd H l (.dK kvs))):=by
 intro pins s U H xs us Q I r h
 obtain ⟨p,kvs,rfl,hq,q⟩:=h
 obtain ⟨u,rfl,rx⟩:=vals1 r
 cases rx
 exact sH I hq λ l s' hl I'=>⟨.ref l,_,I',rfl,q l hl⟩
end
structure Ve (K:W.Frag) (C:Addr):Prop where
 makes:W.makesIn K C=true
 init:W.findIn K (.ref C) "__init__" = some (some (.builtin "object.__init__"))
 kp:W.keepIn K (.ref C)=true
section
variable {X:Cx} {C:Addr} {x:Str} {p pos:Pos}
def x4 (C:Addr):TE:=λ _ H Q=>∀ x dx,H x=none->H dx=none->dx≠x->Q (.ref x) (upd (upd H dx (.own x)) x (.ins C dx []))
theorem sD (M:Ve X.K C) (hm:X.mg x=some (.ref C)) (hg:Gl X x:=by rfl) (lU:(x == ("__debug__" : Str))=false:=by decide):PE X (.Call (.Name x p) [] [] pos) (x4 C):=by
 intro pins s U H Q I h
 refine Za (jh I hg hm ?_ lU)
 refine W.callWith_K0 I.gE M.kp (wpAny_call ?_)
 have hq:=h (s.heap.objs.size+1) s.heap.objs.size (I.bQ.fresh (ZZ _)) (I.bQ.fresh (oX _)) (Yz (Zy _))
 have I2:=Inv.made (C:=C) I
 have uN:=I.gE
 obtain ⟨hh,g,d,t,os⟩:=s
 have Y:=W.makes_of (M:=model X.prog X.w) uN M.makes
 refine W.make_core Y (W.looks_findIn uN M.init) (λ self=>W.Looks.of_pure (W.oi_bind self)) (.inr ⟨rfl,rfl⟩) ?_
 have gi:((hh.push W.emptyDict).push (W.instObj C hh.objs.size)).get? (hh.objs.size+1)=some (W.instObj C hh.objs.size):=by
   have:((hh.push W.emptyDict).push (W.instObj C hh.objs.size)).get? (hh.push W.emptyDict).objs.size=some (W.instObj C hh.objs.size):=Yt _ rfl
   rwa [Zx] at this
 have t1:W.Looks (model X.prog X.w) ((hh.push W.emptyDict).push (W.instObj C hh.objs.size)) (typeOf (.ref (hh.objs.size+1))) (.ref C):=(W.Looks.ld gi).andThen .now
 have t2:W.Looks (model X.prog X.w) ((hh.push W.emptyDict).push (W.instObj C hh.objs.size)) (isInstance (.ref (hh.objs.size+1)) (.type "object")) true:=t1.andThen (Y.top.keeps λ b o e=>be _ (be _ e))
 refine codeAny_call_builtin W.oi_plain W.entry_oi (@W.check_slot (model X.prog X.w) _ _ _ "object.__init__" "object" "__init__" (.ref (hh.objs.size+1)) [] [] _ W.oi_kind W.oi_split t2 (W.oi_args (.ref (hh.objs.size+1))) ?_)
 show wpAny _ _ (Builtin.«object.__init__» ⟨[.ref (hh.objs.size+1)],[]⟩) _ _ _
 rw [W.oi_run]
 exact Wf (And.intro rfl ⟨.ref (hh.objs.size+1),_,I2,rfl,hq⟩)
end
theorem qK {d:Addr} {ob:Obj} {kvs:List (Key×V)} {g:TG} {tt:TT} {te:TE} {D:Addr} {Q:Hp->Prop} (Pv:Nat->List V->St->Hp->Prop) (h0:Pv 0 [] U H) (hl:∀ i acc U H,i<=kvs.length->Pv i acc U H->H d=some (Fd ob kvs)) (hs:∀ i p acc U H,kvs[i]?=some p->Pv i acc U H->g (kV p.1) U H λ σ2 H3=>tt σ2 H3 λ b H4 =>
     if b=true then te σ2 H4 λ y H5=>H5 D=some (.lst acc)/\acc.length<sizeLine/\Pv (i+1) (acc++[y]) σ2 (upd H5 D (.lst (acc++[y]))) else Pv (i+1) acc σ2 H4) (hd:∀ acc U H,Pv kvs.length acc U H->Q H) :
   ∃ W:Nat->Nat->List V->St->Hp->Prop,(∃ m,W 0 m [] U H)/\∀ i m acc σ' H',W i m acc σ' H'->((B8 d ob kvs).stop i H'/\Q H') ∨
     ((B8 d ob kvs).go i H'/\∃ N:List V->St->Hp->Prop,(∀ gO σ2 H4,N gO σ2 H4->∃ m',m'<m/\W (i+1) m' gO σ2 H4)/\∀ x H2,(B8 d ob kvs).xa i H' x H2->g x σ' H2 λ σ2 H3=>tt σ2 H3 λ b H4 =>
       if b=true then te σ2 H4 λ y H5=>H5 D=some (.lst acc)/\acc.length<sizeLine/\N (acc++[y]) σ2 (upd H5 D (.lst (acc++[y]))) else N acc σ2 H4):=by
 refine ⟨λ i m acc U H=>m=kvs.length - i/\i<=kvs.length/\Pv i acc U H,⟨kvs.length,by simp,YX _,h0⟩,?_⟩
 rintro i m acc U H ⟨rfl,hi,p⟩
 have q:=hl i acc U H hi p
 by_cases oB:i<kvs.length
 .
  refine .inr ⟨⟨q,oB⟩,Pv (i+1),λ gO σ' H' p'=>⟨kvs.length - (i+1),by lia,rfl,oB,p'⟩,λ x H' y=>?_⟩
  obtain ⟨e,r,y,e2⟩:=y
  subst e e2
  exact hs i r acc U _ y p
 . have e:i=kvs.length:=by lia
   subst e
   exact .inl ⟨⟨q,oX _⟩,hd acc U H p⟩
theorem ud {d:Addr} {ob:Obj} {kvs:List (Key×V)} {g:TG} {tb:TS} {D:Ends} (Pv:Nat->St->Hp->Prop) (h0:Pv 0 U H) (hl:∀ i U H,i<=kvs.length->Pv i U H->H d=some (Fd ob kvs)) (hs:∀ i p U H,kvs[i]?=some p->Pv i U H->g p.2 U H λ σ2 H2=>tb { D with nx:=Pv (i+1),ct:=Pv (i+1),bk:=D.nx } σ2 H2) (hd:∀ U H,Pv kvs.length U H->D.nx U H) :
   ∃ W:Nat->Nat->St->Hp->Prop,(∃ m,W 0 m U H)/\∀ i m U H,W i m U H ->
     ((zg d ob kvs).stop i H/\D.nx U H)∨((zg d ob kvs).go i H/\∃ N:St->Hp->Prop,(∀ σ' H',N σ' H'->∃ m',m'<m/\W (i+1) m' σ' H')/\∀ x H',(zg d ob kvs).xa i H x H'->g x U H' λ σ2 H2=>tb { D with nx:=N,ct:=N,bk:=D.nx } σ2 H2):=by
 refine ⟨λ i m U H=>m=kvs.length - i/\i<=kvs.length/\Pv i U H,⟨kvs.length,by simp,YX _,h0⟩,?_⟩
 rintro i m U H ⟨rfl,hi,p⟩
 have q:=hl i U H hi p
 by_cases oB:i<kvs.length
 .
  refine .inr ⟨⟨q,oB⟩,Pv (i+1),λ σ' H' p'=>⟨kvs.length - (i+1),by lia,rfl,oB,p'⟩,λ x H' y=>?_⟩
  obtain ⟨e,r,y,e2⟩:=y
  subst e e2
  exact hs i r U _ y p
 . have e:i=kvs.length:=by lia
   subst e
   exact .inl ⟨⟨q,oX _⟩,hd U H p⟩
def xy (l:List Nat) (b:Nat):Nat:=l.foldl (λ a r=>a ||| 2 ^ r) b
theorem ue {l:List Nat} {i r:Nat} (h:l[i]?=some r):xy (l.take (i+1)) 0=xy (l.take i) 0 ||| 2 ^ r:=by
 have:l.take (i+1)=l.take i++[r]:=by rw [List.take_succ,h];rfl
 rw [this]
 unfold xy
 rw [List.foldl_append]
 rfl
end L2
namespace PySem
open Sem (wp)
mutual
def kd:PyData->Bool
 | .bool _=>true
 | .int _=>true
 | .tuple ds=>mT ds
 | _=>false
def mT:List PyData->Bool
 | []=>true
 | d::ds=>kd d && mT ds
end
mutual
def ji:PyData->PyData
 | .bool b => .int (if b then 1 else 0)
 | .tuple ds => .tuple (gl ds)
 | d=>d
def gl:List PyData->List PyData
 | []=>[]
 | d::ds=>ji d::gl ds
end
mutual
def j8:PyData->Nat
 | .tuple ds=>kA ds+1
 | _=>0
def kA:List PyData->Nat
 | []=>0
 | d::ds=>max (j8 d) (kA ds)
end
mutual
def iL:PyData->Int
 | .int i=>hashInt i
 | .bool b=>hashInt (if b then 1 else 0)
 | .tuple ds=>reduceHash (Builtin.Tuple.tupleHashOf (fE ds))
 | _=>0
def fE:List PyData->List Int
 | []=>[]
 | d::ds=>iL d::fE ds
end
mutual
def iG:PyData->Nat
 | .tuple ds=>gv ds+1
 | _=>1
def gv:List PyData->Nat
 | []=>0
 | d::ds=>iG d+gv ds
end
mutual
theorem lj:∀ d,kd d=true->iL (ji d)=iL d
 | .bool b,_=>by simp only [ji,iL]
 | .int i,_=>by simp only [ji,iL]
 | .tuple ds,h=>by simp only [ji,iL];rw [jq ds h]
 | .none,_ | .str _,_ | .list _,_ | .dict _,_=>by simp only [ji]
theorem jq:∀ ds,mT ds=true->fE (gl ds)=fE ds
 | [],_=>rfl
 | d::ds,h=>by
   rw [mT,YS] at h
   simp only [gl,fE]
   rw [lj d h.1,jq ds h.2]
end
mutual
theorem lA:∀ d,iG (ji d)=iG d
 | .bool b=>by simp only [ji,iG]
 | .tuple ds=>by simp only [ji,iG];rw [jC ds]
 | .int _ | .none | .str _ | .list _ | .dict _=>by simp only [ji]
theorem jC:∀ ds,gv (gl ds)=gv ds
 | []=>rfl
 | d::ds=>by
   simp only [gl,gv]
   rw [lA d,jC ds]
end
mutual
theorem mE:∀ (d e:PyData),kd d=true->kd e=true->(PyData.eqv d e=true↔ji d=ji e)
 | .bool a,.bool b,_,_=>by cases a<;>cases b<;>simp [PyData.eqv,ji]
 | .bool a,.int j,_,_=>by simp [PyData.eqv,ji]
 | .int i,.bool b,_,_=>by simp [PyData.eqv,ji]
 | .int i,.int j,_,_=>by simp [PyData.eqv,ji]
 | .tuple xs,.tuple ys,h,k=>by
   simp only [PyData.eqv,ji,PyData.tuple.injEq]
   exact n5 xs ys h k
 | .bool _,.tuple _,_,_ | .int _,.tuple _,_,_ | .tuple _,.bool _,_,_ | .tuple _,.int _,_,_=>by simp [PyData.eqv,ji]
theorem n5:∀ (ds es:List PyData),mT ds=true->mT es=true->(PyData.eqvAll ds es=true↔gl ds=gl es)
 | [],[],_,_=>by simp [PyData.eqvAll,gl]
 | [],_::_,_,_=>by simp [PyData.eqvAll,gl]
 | _::_,[],_,_=>by simp [PyData.eqvAll,gl]
 | d::ds,e::es,h,k=>by
   rw [mT,YS] at h k
   simp only [PyData.eqvAll,gl,YS,List.cons.injEq]
   rw [mE d e h.1 k.1,n5 ds es h.2 k.2]
end
section
variable {prog:Program} {w:World} {E:Value->Shared->Prop}
set_option maxHeartbeats 0 in
mutual
theorem jt:∀ (d:PyData) (v:Value) (as:List Addr) (A:Around) (s:Shared) (Q:Int->Shared->Prop),kd d=true->Reads s.heap v d as->A.units+j8 d<cLine ->
   Q (iL d) { s with toks:=s.toks+iG d }->wpAny (model prog w) A (pyHash v) Q E s
 | .int i,_,_,A,s,Q,_,x,_,h=>by cases x;exact wpAny_pyHash_int h
 | .bool b,_,_,A,s,Q,_,x,hu,h=>by
   cases x
   refine W.pyHash_slot (T:="bool") rfl F.slot_bool_hash entry_int_hash (args_int_hash _) (beq_builtin_none _) (.inl rfl) ?_
   cases b
   . exact (show wpAny _ _ (do ret (← mkInt 0)) _ _ s from yB (wpAny_mkInt (Wf ⟨_,_,rfl,h⟩)))
   . exact (show wpAny _ _ (do ret (← mkInt 1)) _ _ s from yB (wpAny_mkInt (Wf ⟨_,_,rfl,h⟩)))
 | .tuple ds,_,_,A,s,Q,hk,x,hu,h=>by
   cases x with
   | @tuple a o vs n _ _ hg hc hd hr =>
     rw [j8] at hu
     refine W.pyHash_slot (T:="tuple") ⟨_,hg,hc⟩ F.slot_tuple_hash F.entry_tuple_hash (F.args_tuple_hash_1 _) (beq_builtin_none _) (.inr (by lia)) ?_
     show wpAny _ _ (Builtin.Tuple.tupleItemsOf (.ref a) >>= _) _ _ s
     refine yB (wpAny_tupleItemsOf hg hd ?_)
     refine yB ?_
     rw [← Z3]
     refine iB ds vs.toList _ A.in1 s #[] _ hk hr (by rw [Around.in1_units];lia) λ b hb=>?_
     show wpAny _ _ (retInt (Builtin.Tuple.tupleHashOf b.toList)) _ _ _
     rw [hb]
     exact yB (wpAny_mkInt (Wf ⟨_,_,rfl,h⟩))
 | .none,_,_,_,_,_,hk,_,_,_ | .str _,_,_,_,_,_,hk,_,_,_ | .list _,_,_,_,_,_,hk,_,_,_ | .dict _,_,_,_,_,_,hk,_,_,_=>by rw [kd] at hk<;>first|cases hk|nofun
theorem iB:∀ (ds:List PyData) (vs:List Value) (as:List Addr) (A:Around) (s:Shared) (b:Array Int) (Q:Array Int->Shared->Prop),mT ds=true->ReadsAll s.heap vs ds as->A.units+kA ds<cLine ->
   (∀ b',b'.toList=b.toList++fE ds->Q b' { s with toks:=s.toks+gv ds }) ->
   wpAny (model prog w) A (forIn vs b λ x r=>do let h ← pyHash x;pure PUnit.unit;pure (ForInStep.yield (r.push h))) Q E s
 | [],_,_,A,s,b,Q,_,x,_,h=>by cases x;exact Wf (h b (by simp [fE]))
 | d::ds,_,_,A,s,b,Q,hk,x,hu,h=>by
   cases x with
   | cons x1 x2 =>
     rw [mT,YS] at hk
     rw [kA] at hu
     rw [ZB]
     refine yB (yB (jt d _ _ A s _ hk.1 x1 (by lia) ?_))
     refine yB (Wf (Wf ?_))
     exact iB ds _ _ A { s with toks:=s.toks+iG d } _ Q hk.2 x2 (by lia) λ b' hb=>by
       have:=h b' (by simp [hb,fE])
       rw [gv,← Nat.add_assoc] at this
       exact this
end
set_option maxHeartbeats 0 in
theorem iE:∀ (n:Nat) (d:PyData) (v:Value) (as:List Addr) (A:Around) (s:Shared) (Q:Bool->Shared->Prop),kd d=true->j8 d<=n->Reads s.heap v d as->Q true s->wpAny (model prog w) A (eqIsQuiet n v) Q E s
 | n,.int i,_,_,A,s,Q,_,_,x,h=>by cases x;rw [eqIsQuiet_byValue n rfl];exact Wf h
 | n,.bool i,_,_,A,s,Q,_,_,x,h=>by cases x;rw [eqIsQuiet_byValue n rfl];exact Wf h
 | 0,.tuple ds,_,_,A,s,Q,_,hn,_,_=>by rw [j8] at hn;lia
 | n+1,.tuple ds,_,_,A,s,Q,hk,hn,x,h=>by
   cases x with
   | @tuple a o vs m _ _ hg hc hd hr =>
     rw [j8] at hn
     unfold eqIsQuiet
     refine yB (Zp ⟨_,hg,hc⟩ F.slot_tuple_eq.lookup ?_)
     show wpAny _ _ (isInstance (.ref a) (.type "tuple") >>= _) _ _ s
     refine yB (wpAny_isInstance ⟨_,hg,hc⟩ isSubtype_tuple_tuple ?_)
     simp only [ZQ,Y8,Zl]
     refine yB (wpAny_seqItems hg hd ?_)
     refine yB ?_
     show wpAny _ _ (forIn vs _ _) _ _ s
     rw [← Z3]
     refine wpAny_forIn_list _ (λ rest r s'=>r.1=none/\s'=s/\∃ es PJ,mT es=true/\kA es<=n/\ReadsAll s.heap rest es PJ) _ ?_ ?_ _ _ ⟨rfl,rfl,ds,_,hk,by lia,hr⟩
     .
      rintro v rest r s' ⟨hr,rfl,es,PJ,h1,h2,h3⟩
      cases h3 with
      | @cons _ _ e es _ _ x1 x2 =>
        rw [mT,YS] at h1
        rw [kA] at h2
        refine yB (iE n e v _ _ _ _ h1.1 (by lia) x1 ?_)
        simp only [ZQ,Y8,Zl]
        exact Wf ⟨rfl,rfl,es,_,h1.2,by lia,x2⟩
     . rintro ⟨r1,r2⟩ s' ⟨hq,rfl,_⟩
       have hq:r1=none:=hq
       subst hq
       exact Wf h
 | _,.none,_,_,_,_,_,hk,_,_,_|_,.str _,_,_,_,_,_,hk,_,_,_|_,.list _,_,_,_,_,_,hk,_,_,_|_,.dict _,_,_,_,_,_,hk,_,_,_=>by rw [kd] at hk<;>first|cases hk|nofun
theorem rS {a b:Addr} {d e:PyData} {as bs:List Addr} {A:Around} {s:Shared} {Q:Bool->Shared->Prop} (ra:Reads s.heap (.ref a) d as) (rb:Reads s.heap (.ref b) e bs) (ha:SeqAt.shaped d=true) (hb:SeqAt.shaped e=true) (ka:kd d=true) (kb:kd e=true) (hu:A.units+64<cLine)
   (h:Q (PyData.eqv d e) s):wpAny (model prog w) A (eqBool (.ref a) (.ref b)) Q E s:=by
 unfold eqBool
 try with_reducible refine wpAny_holding ?_
 show wpAny _ _ (if (Value.ref a == Value.ref b)=true then _ else _) Q E s
 by_cases RZ:(Value.ref a == Value.ref b)=true
 .
  rw [YK RZ]
  have z:a=b:=by have:=eq_of_beq RZ;injection this
  subst z
  obtain rfl:=(Reads.unique ra _ _ rb).1
  rw [(mE d d ka ka).mpr rfl] at h
  exact yB (wpAny_rule (Wf h))
 . rw [YG RZ]
   exact yB (show wpAny _ _ (compareOp .Eq (.ref a) (.ref b)) _ _ _ from SeqAt.compareEq_shaped ra rb ha hb hu (YW h))
end
mutual
theorem gx {h h':Heap} (hk:∀ b o,h.get? b=some o->∀ n vs,o.data = .seq vs n->h'.get? b=some o):∀ (d:PyData) {v:Value} {as:List Addr},kd d=true->Reads h v d as->Reads h' v d as
 | _,_,_,_,.none => .none
 | _,_,_,_,.bool b => .bool b
 | _,_,_,_,.int i t => .int i t
 | _,_,_,_,.str x t => .str x t
 | _,_,_,k,.tuple h1 h2 h3 h4 => .tuple (hk _ _ h1 _ _ h3) h2 h3 (iF hk _ k h4)
 | _,_,_,k,.list h1 h2 h3 h4=>by rw [kd] at k<;>first|cases k|nofun
 | _,_,_,k,.dict h1 h2 h3 h4 h5=>by rw [kd] at k<;>first|cases k|nofun
theorem iF {h h':Heap} (hk:∀ b o,h.get? b=some o->∀ n vs,o.data = .seq vs n->h'.get? b=some o):∀ (ds:List PyData) {vs:List Value} {as:List Addr},mT ds=true->ReadsAll h vs ds as->ReadsAll h' vs ds as
 | _,_,_,_,.nil => .nil
 | _,_,_,k,.cons h1 h2 => .cons (gx hk _ (Bool.and_eq_true_iff.mp k).1 h1) (iF hk _ (Bool.and_eq_true_iff.mp k).2 h2)
end
noncomputable instance:DecidableEq PyData:=λ a b=>Classical.propDecidable (a=b)
def o2 (h:Heap) (k:PyData) (a:Addr):Prop:=∃ d as,Reads h (.ref a) d as/\kd d=true/\SeqAt.shaped d=true/\j8 d<=8/\ji d=k
noncomputable def gX (prog:Program) (w:World):HeapKind prog w PyData where
 is:=o2
 hash:=iL
 draws:=iG
 room:=λ A=>A.units+64<cLine
 inj:=λ ⟨d,_,r,_,_,_,e⟩ ⟨d',_,r',_,_,_,e'⟩=>by
   obtain rfl:=(Reads.unique r _ _ r').1
   exact e.symm.trans e'
 keeps:=λ {h h' k a d o es ep} x ho hd hs=>by
   obtain ⟨x,as,r,k1,k2,k3,e⟩:=x
   refine ⟨x,as,gx (λ b ob q m vs hv=>?_) x k1 r,k1,k2,k3,e⟩
   rw [hs.2 b λ z=>?_]
   . exact q
   . subst z
     rw [ho] at q
     cases q
     rw [hd] at hv
     cases hv
 pyHash:=λ {A E s k a Q} hu ⟨d,as,r,k1,k2,k3,e⟩ h=>by
   subst e
   rw [lj d k1,lA d] at h
   exact jt d _ as A s Q k1 r (by lia) h
 eqBool:=λ {A E s x y a b Q} hu ⟨d,as,r,k1,k2,k3,e⟩ ⟨d',PJ,r',Ub,Vo,XE,e'⟩ h=>by
   subst e e'
   refine rS r r' k2 Vo k1 Ub hu ?_
   have q:PyData.eqv d d'=decide (ji d=ji d'):=by
     rw [Y9,Zr]
     exact mE d d' k1 Ub
   rw [q]
   exact h
 quiet:=λ {A E s k a Q} ⟨d,as,r,k1,k2,k3,e⟩ h=>iE 8 d _ as A s Q k1 k3 r h
end PySem
namespace L2
open PySem PySem.Spec PyProof.Rows Mth
variable {D:L2.Ends} {H H':Hp} {a2 a3 a4 a5 a6 a7:TS}
mutual
theorem pQ:∀ d:PyData,kd d=true->fC d=true
 | .bool _,_=>by simp [fC]
 | .int _,_=>by simp [fC]
 | .tuple ds,h=>iH.mpr (nO ds h)
 | .none,h | .str _,h | .list _,h | .dict _,h=>by rw [kd] at h<;>first|cases h|nofun
theorem nO:∀ ds:List PyData,mT ds=true->∀ d∈ds,fC d=true
 | [],_,d,h=>absurd h Y0
 | e::ds,h,d,m=>by
   rw [mT,YS] at h
   rcases List.mem_cons.mp m with z|z
   . rw [z];exact pQ e h.1
   . exact nO ds h.2 d z
end
def fZ (K:W.Frag) (H:Hp) (k:PyData) (b:Addr):Prop:=∃ d,Dn K H d (.ref b)/\kd d=true/\SeqAt.shaped d=true/\j8 d<=8/\ji d=k
theorem fZ.ts {K:W.Frag} {k:PyData} {b:Addr} (s:eK K H H') (h:fZ K H k b):fZ K H' k b:=by
 obtain ⟨d,h1,h2,h3,h4,h5⟩:=h
 exact ⟨d,Dn.ts s d (pQ d h2) h1,h2,h3,h4,h5⟩
section
variable {X:Cx} {pins:List (Addr×Obj)} {U:St} {H:Hp} {s:Shared}
theorem fZ.is {k:PyData} {b:Addr} (I:Inv X pins U H s) (h:fZ X.K H k b):o2 s.heap k b:=by
 obtain ⟨d,h1,h2,h3,h4,h5⟩:=h
 obtain ⟨as,r⟩:=I.reads d h1 rfl
 exact ⟨d,as,r,h2,h3,h4,h5⟩
end
abbrev uF:=List (PyData×Addr×V)
abbrev XR:uF->List (PyData×Addr×Value)->Prop:=Paired λ p q=>p.1=q.1/\p.2.1=q.2.1/\RelV p.2.2 q.2.2
def Ud (P:Program) (w:World) (a:Addr) (kvs:uF) (h:Heap):Prop:=kvs.length<=sizeLine/\(a == sysModules)=false/\∃ xs,XR kvs xs /\
 ∃ o es ep,h.get? a=some o/\o.ExactDict/\o.data = .dict es ep/\es.toList=xs.map (entryOfKey (gX P w))/\(xs.map (·.1)).Nodup
def gD (P:Program) (w:World) (a:Addr) (kvs:uF):HO:=.ext (Ud P w a kvs)
theorem tT {P:Program} {w:World} {h:Heap} {a:Addr} {kvs:uF} (x:Ud P w a kvs h):bt P w H h a (gD P w a kvs):=by
 refine ⟨x,?_,λ h1 h2 ⟨z,y,xs,r,o,es,ep,e,q⟩ k=>⟨z,y,xs,r,o,es,ep,k o e,q⟩⟩
 obtain ⟨_,_,_,_,o,_,_,e,_⟩:=x
 exact ⟨o,e⟩
noncomputable def i5 (kvs:uF) (k:PyData):Option V:=(kvs.find? λ x=>decide (x.1=k)).map (·.2.2)
theorem nX {kvs:uF} {xs:List (PyData×Addr×Value)} (r:XR kvs xs) (k:PyData):fw (i5 kvs k) ((atKey xs k).map (·.2)):=by
 induction r with
 | nil=>exact True.intro
 | @cons p q ps qs h t ih =>
   obtain ⟨h1,h2,h3⟩:=h
   unfold i5 atKey at ih ⊢
   rw [YJ,YJ,h1]
   by_cases e:q.1=k
   . rw [YU e];exact h3
   . rw [YA e];exact ih
structure eD (P:Program) (w:World) (K:W.Frag) (H:Hp) (a:Addr) (kvs:uF):Prop where
 ob:H a=some (gD P w a kvs)
 keys:∀ e∈kvs,fZ K H e.1 e.2.1
theorem eD.nil {P:Program} {w:World} {K:W.Frag} {a:Addr} (h:H a=some (gD P w a [])):eD P w K H a []:=⟨h,λ _ h=>absurd h Y0⟩
theorem eD.same {P:Program} {w:World} {K:W.Frag} {a:Addr} {kvs:uF} (x:eD P w K H a kvs) (s:az H H'):eD P w K H' a kvs:=⟨s _ _ x.ob,λ y hy=>(x.keys y hy).ts s.ts⟩
section
variable {X:Cx} {pins:List (Addr×Obj)} {U:St} {H:Hp} {s:Shared} {a b:Addr} {kvs:uF} {k:PyData} {v:V}
theorem eD.dict (I:Inv X pins U H s) (x:eD X.prog X.w X.K H a kvs):kvs.length<=sizeLine/\(a == sysModules)=false/\∃ xs,XR kvs xs/\s.heap.DictOfH (gX X.prog X.w) a xs:=by
 obtain ⟨z,y,xs,r,o,es,ep,h1,h2,h3,h4,h5⟩:=(show bt X.prog X.w H s.heap a (gD X.prog X.w a kvs) from I.bQ a _ x.ob).1
 refine ⟨z,y,xs,r,o,es,ep,h1,h2,h3,h4,λ e he=>?_,h5⟩
 have all:∀ {l:uF} {m:List (PyData×Addr×Value)},XR l m->(∀ e∈l,fZ X.K H e.1 e.2.1)->∀ x∈m,o2 s.heap x.1 x.2.1:=by
   intro l m q
   induction q with
   | nil=>intro _ x hx;exact absurd hx Y0
   | @cons p q ps qs hq t ih =>
     intro hl x hx
     rcases List.mem_cons.mp hx with e|hx
     . subst e
       rw [← hq.1,← hq.2.1]
       exact (hl p YI).is I
     . exact ih (λ e he=>hl e (Yy _ he)) x hx
 exact all r x.keys e he
theorem pz {A:Around} {P:Program} {w:World} (hu:A.units+65<cLine):(gX P w).room A.in1:=by
 show A.in1.units+64<cLine
 rw [Around.in1_units]
 lia
end
def Ee (P:Program) (w:World) (K:W.Frag) (td ty:TE):TE:=λ U H Q=>td U H λ x H1=>ty U H1 λ y H2=>∃ a b kvs k v,x = .ref a/\y = .ref b/\eD P w K H2 a kvs/\fZ K H2 k b/\i5 kvs k=some v/\Q v H2
inductive MC (P:Program) (w:World) (K:W.Frag) (y:V) (x:V) (H:Hp) (Q:VK):Prop
 | mk (a b kvs k:_) (_:x = .ref a) (_:y = .ref b) (_:eD P w K H a kvs) (_:fZ K H k b) (_:Q (.bl (i5 kvs k).isSome) H)
theorem bS.zR {k:Nat} {A:Around} (r:bS k A):A.units+65<cLine:=by have:=r.un;lia
section
variable {X:Cx} {o i e value:Expr} {pos pos' AQ:Pos} {td ty tv:TE} {P:Program} {w:World} {K:W.Frag}
theorem pS (hP:X.prog=P) (hw:X.w=w) (hK:X.K=K) (hu:X.A.units+65<cLine) (ho:PE X o td) (hi:PE X i ty) (hs:yg i):PE X (.Subscript o i pos) (Ee P w K td ty):=by
 subst hP hw hK
 intro pins s U H Q I h
 refine pK PySem.F.slot_dict_getitem.lookup hs (bX (ho pins s U H _ I h) λ u s1 ⟨x,H1,I1,rx,q1⟩=>bX (hi pins s1 U H1 _ I1 q1) λ iv s2 ⟨y,H2,I2,ry,a,b,kvs,k,v,ex,ey,g,hk,hv,q2⟩=>?_)
 subst ex ey
 obtain rfl:u=Value.ref a:=rx
 obtain rfl:iv=Value.ref b:=ry
 obtain ⟨z,hd,xs,rel,dd⟩:=g.dict I2
 refine ⟨dd.typeIs,?_⟩
 obtain ⟨w',hw,tZ⟩:=fw.some_of (v:=v) (o:=(atKey xs k).map (·.2)) (by rw [← hv];exact nX rel k)
 obtain ⟨p,hp,xj⟩:=Option.map_eq_some_iff.mp hw
 refine wpAny_getItem_heap (pz hu) (hk.is I2) dd hp ?_
 rw [xj]
 exact ⟨v,H2,I2.tok _,tZ,q2⟩
theorem tU (hP:X.prog=P) (hw:X.w=w) (hK:X.K=K) (hu:X.A.units+65<cLine):fq X (compareOp .In) (MC P w K):=by
 subst hP hw hK
 intro pins s U H x y v u Q I rx ry h
 obtain ⟨a,b,kvs,k,rfl,rfl,g,hk,q2⟩:=h
 obtain rfl:u=Value.ref a:=ry
 obtain rfl:v=Value.ref b:=rx
 obtain ⟨z,hd,xs,rel,dd⟩:=g.dict I
 refine wpAny_in_heap (pz hu) (hk.is I) hd dd ⟨.bl _,H,I.tok _,?_,q2⟩
 have q:=(nX rel k).ql
 rw [Option.isSome_map] at q
 rw [q]
 rfl
end
theorem eJ {a1:TS} {U:L2.St} (h:let d:L2.Ends:=D;let z:L2.St:=U;let r2:TS:=a3;let r1:TS:=aX a2 r2;aX a1 r1 d z H):(aX a1 (aX a2 (a3))) D U H:=h
theorem fO {a1:TS} {U:L2.St} (h:let d:L2.Ends:=D;let z:L2.St:=U;let r3:TS:=a4;let r2:TS:=aX a3 r3;let r1:TS:=aX a2 r2;aX a1 r1 d z H):(aX a1 (aX a2 (aX a3 (a4)))) D U H:=h
theorem sX {a1:TS} {U:L2.St} (h:let d:L2.Ends:=D;let z:L2.St:=U;let r4:TS:=a5;let r3:TS:=aX a4 r4;let r2:TS:=aX a3 r3;let r1:TS:=aX a2 r2;aX a1 r1 d z H):(aX a1 (aX a2 (aX a3 (aX a4 (a5))))) D U H:=h
theorem tV {a1:TS} {U:L2.St} (h:let d:L2.Ends:=D;let z:L2.St:=U;let r5:TS:=a6;let r4:TS:=aX a5 r5;let r3:TS:=aX a4 r4;let r2:TS:=aX a3 r3;let r1:TS:=aX a2 r2;aX a1 r1 d z H):(aX a1 (aX a2 (aX a3 (aX a4 (aX a5 (a6)))))) D U H:=h
theorem nK {a1:TS} {U:L2.St} (h:let d:L2.Ends:=D;let z:L2.St:=U;let r6:TS:=a7;let r5:TS:=aX a6 r6;let r4:TS:=aX a5 r5;let r3:TS:=aX a4 r4;let r2:TS:=aX a3 r3;let r1:TS:=aX a2 r2;aX a1 r1 d z H):(aX a1 (aX a2 (aX a3 (aX a4 (aX a5 (aX a6 (a7))))))) D U H:=h
theorem rg {a1 a8 a9 Uf:TS} {U:L2.St} (h:let d:L2.Ends:=D;let z:L2.St:=U;let r9:TS:=Uf;let r8:TS:=aX a9 r9;let r7:TS:=aX a8 r8;let r6:TS:=aX a7 r7;let r5:TS:=aX a6 r6;let r4:TS:=aX a5 r5;let r3:TS:=aX a4 r4;let r2:TS:=aX a3 r3;let r1:TS:=aX a2 r2;aX a1 r1 d z H):(aX a1 (aX a2 (aX a3 (aX a4 (aX a5 (aX a6 (aX a7 (aX a8 (aX a9 (Uf)))))))))) D U H:=h
@[elab_as_elim] theorem qg {α:Type} {motive:List α->Prop} {us:List α} (h:us.length=1) (k:∀ a,motive [a]):motive us :=
 bN h λ a _ h=>YF h ▸ k a
@[elab_as_elim] theorem t4 {α:Type} {motive:List α->Prop} {us:List α} (h:us.length=2) (k:∀ a b,motive [a,b]):motive us :=
 bN h λ a _ h=>bN h λ b _ h=>YF h ▸ k a b
@[elab_as_elim] theorem jl {α:Type} {motive:List α->Prop} {us:List α} (h:us.length=3) (k:∀ a b c,motive [a,b,c]):motive us :=
 bN h λ a _ h=>bN h λ b _ h=>bN h λ c _ h=>YF h ▸ k a b c
@[elab_as_elim] theorem wQ {α:Type} {motive:List α->Prop} {us:List α} (h:us.length=4) (k:∀ a b c d,motive [a,b,c,d]):motive us :=
 bN h λ a _ h=>bN h λ b _ h=>bN h λ c _ h=>bN h λ d _ h=>YF h ▸ k a b c d
@[elab_as_elim] theorem xf {α:Type} {motive:List α->Prop} {us:List α} (h:us.length=5) (k:∀ a b c d e,motive [a,b,c,d,e]):motive us :=
 bN h λ a _ h=>bN h λ b _ h=>bN h λ c _ h=>bN h λ d _ h=>bN h λ e _ h=>YF h ▸ k a b c d e
@[elab_as_elim] theorem xh {α:Type} {motive:List α->Prop} {us:List α} (h:us.length=6) (k:∀ a b c d e f,motive [a,b,c,d,e,f]):motive us :=
 bN h λ a _ h=>bN h λ b _ h=>bN h λ c _ h=>bN h λ d _ h=>bN h λ e _ h=>bN h λ f _ h=>YF h ▸ k a b c d e f
@[elab_as_elim] theorem wO {α:Type} {motive:List α->Prop} {us:List α} (h:us.length=7) (k:∀ a b c d e f g,motive [a,b,c,d,e,f,g]):motive us :=
 bN h λ a _ h=>bN h λ b _ h=>bN h λ c _ h=>bN h λ d _ h=>bN h λ e _ h=>bN h λ f _ h=>bN h λ g _ h=>YF h ▸ k a b c d e f g
theorem lc {sc:Scope} {x:Str} (h:(match sc.names.lookup x with|some .local=>true|some .cell=>true|_=>false)=true):Loc sc x:=by
 unfold Loc
 split at h
 . rename_i e;exact .inl e
 . rename_i e;exact .inr e
 . cases h
theorem bS.m {j k:Nat} {A:Around} (r:bS k A) (h:j<=k:=by first|decide|lia):bS j A:=r.mono h
section
variable {P:Program} {w:World} {K:W.Frag} {mg:Str->Option Value} {base:Heap} {x qual:Str} {st:Stmt} {N ps:List Str} {k:Nat} {sp:Sp} {C:Addr}
theorem jk.eZ (h:jk K mg x st) (S:av N ps (ah st)) (dO:∀ (f:Addr) (aP:Value) (A:Around) (outer:List Env) (s:Shared) (H:Hp) (vs:List V) (Q:VK) (E:XK),bS k (A.deeper (envOfC x (ah st) s.heap.objs.size f aP))->sp vs H Q E ->
     ∃ t,k8 (iN iP P w K mg base N x (ah st) f aP A outer s H E).rQ (aM st) t/\t { nx:=λ _ H'=>Q .bG H',rt:=Q } (start N vs) H) (len:∀ vs H Q E,sp vs H Q E->vs.length=ps.length:=by intro _ _ _ _ h;first|(cases h;subst_vars;rfl)|(obtain ⟨_,rfl,_⟩:=h;rfl)|(obtain ⟨_,_,rfl,_⟩:=h;rfl)|(obtain ⟨_,_,_,rfl,_⟩:=h;rfl)|(obtain ⟨_,_,_,_,rfl,_⟩:=h;rfl)|(obtain ⟨_,_,_,_,_,rfl,_⟩:=h;rfl)) (hb:∀ (kV doc pm:Value) (an:Option Addr) (aP ct:Value) (us:List Value),us.length=ps.length->bindArgs (W.fnOf x x (bc st) (aM st) (ah st) .none kV doc pm an aP ct) ⟨us,[]⟩=pure (ps.zip us):=by intro _ _ _ _ _ _ us hl;first|exact qg hl λ _=>rfl|exact t4 hl λ _ _=>rfl|exact jl hl λ _ _ _=>rfl|exact wQ hl λ _ _ _ _=>rfl|exact xf hl λ _ _ _ _ _=>rfl|exact xh hl λ _ _ _ _ _ _=>rfl|exact wO hl λ _ _ _ _ _ _ _=>rfl):Def P w K mg base x (k+1) ps sp:=h.def S len hb dO
theorem bg.cf {m:Str} (h:bg K C m qual st .none) (S:av N ps (ah st)) (dO:∀ (f:Addr) (aP:Value) (A:Around) (outer:List Env) (s:Shared) (H:Hp) (vs:List V) (Q:VK) (E:XK),bS k (A.deeper (envOfC qual (ah st) s.heap.objs.size f aP))->sp vs H Q E ->
     ∃ t,k8 (iN iP P w K mg base N qual (ah st) f aP A outer s H E).rQ (aM st) t/\t { nx:=λ _ H'=>Q .bG H',rt:=Q } (start N vs) H) (len:∀ vs H Q E,sp vs H Q E->vs.length=ps.length:=by intro _ _ _ _ h;first|(cases h;subst_vars;rfl)|(obtain ⟨_,rfl,_⟩:=h;rfl)|(obtain ⟨_,_,rfl,_⟩:=h;rfl)|(obtain ⟨_,_,_,rfl,_⟩:=h;rfl)|(obtain ⟨_,_,_,_,rfl,_⟩:=h;rfl)|(obtain ⟨_,_,_,_,_,rfl,_⟩:=h;rfl)) (hb:∀ (kV doc pm:Value) (an:Option Addr) (aP ct:Value) (us:List Value),us.length=ps.length->bindArgs (W.fnOf m qual (bc st) (aM st) (ah st) .none kV doc pm an aP ct) ⟨us,[]⟩=pure (ps.zip us):=by intro _ _ _ _ _ _ us hl;first|exact qg hl λ _=>rfl|exact t4 hl λ _ _=>rfl|exact jl hl λ _ _ _=>rfl|exact wQ hl λ _ _ _ _=>rfl|exact xf hl λ _ _ _ _ _=>rfl|exact xh hl λ _ _ _ _ _ _=>rfl|exact wO hl λ _ _ _ _ _ _ _=>rfl):bv P w K mg base C m (k+1) ps [] sp:=h.u4 S len hb dO
end
structure oA where
 bs:List Int
 ws:List Int
 fs:List Int
 bu:Nat
 hp:Int
abbrev ox (H:Hp) (ps:Addr) (s:oA):Prop:=mY H ps s.bs s.ws s.fs (s.bu:Int) s.hp
abbrev ny (l:List Int):PyData:=.tuple (l.map PyData.int)
def dN (s:oA):PyData:=.tuple [ny s.bs,.int (s.bu:Int),ny s.ws,ny s.fs,.int s.hp]
theorem nY {K:W.Frag}:∀ l:List Int,iV K H (l.map PyData.int) (l.map V.int)
 | []=>mH
 | x::l=>cT rfl (nY l)
theorem nk:∀ l:List Int,mT (l.map PyData.int)=true
 | []=>by simp [mT]
 | x::l=>by rw [YT,mT,nk l];simp [kd]
theorem k4:∀ l:List Int,gl (l.map PyData.int)=l.map PyData.int
 | []=>by simp [gl]
 | x::l=>by rw [YT,gl,k4 l];simp [ji]
theorem ge:∀ l:List Int,kA (l.map PyData.int)<=1
 | []=>by simp [kA]
 | x::l=>by
   rw [YT,kA]
   have:=ge l
   simp only [j8]
   lia
theorem jO (l:List Int):wk 1 (ny l):=λ d hd=>by
 obtain ⟨x,_,rfl⟩:=List.mem_map.mp hd
 exact trivial
theorem oF {K:W.Frag} {p:Addr} {s:oA} (h:ox H p s):fZ K H (dN s) p:=by
 obtain ⟨pb,pw,pf,h0,h1,h2,h3⟩:=h
 have t:∀ {q:Addr} {l:List Int},H q=some (.tup (l.map V.int))->Dn K H (ny l) (.ref q):=λ e=>ub (aK.of e) (nY _)
 refine ⟨dN s,ub (aK.of h0) (cT (t h1) (cT rfl (cT (t h2) (cT (t h3) (cT rfl mH))))),?_,gA (n:=2) ?_ (by decide),?_,?_⟩
 . simp only [dN,kd,mT,nk];rfl
 .
  intro d hd
  simp only [List.mem_cons,Y0,or_false] at hd
  rcases hd with rfl|rfl|rfl|rfl|rfl
  . exact jO _
  . exact trivial
  . exact jO _
  . exact jO _
  . exact trivial
 .
  have:=ge s.bs
  have:=ge s.ws
  have:=ge s.fs
  simp only [dN,j8,kA]
  lia
 . simp only [dN,ji,gl,k4]
def gI (lo hi:Int) (bs:List Int) (bu r:Nat):Bool:=decide (bs.getD r 0<if bu.testBit r=true then hi else lo)
inductive ND where
 | bG
 | cH (ws:List Nat)
 | eQ (r:Nat) (lo hi:Int)
 | table (k:oA) (v:Nat) (sub:ND) (has:Bool)
 | join (way:Nat) (a b:ND) (r:Nat) (bd:Int)
namespace ND
def am:ND->Nat
 | bG=>1
 | cH ws=>ws.length
 | eQ ..=>1
 | table _ _ sub _=>sub.am
 | join _ a b _ _=>a.am * b.am
def size:ND->Nat
 | bG=>1
 | cH _=>1
 | eQ ..=>1
 | table _ _ sub has=>1+if has then sub.size else 0
 | join _ a b _ _=>1+a.size+b.size
def mix (way a b:Nat) (c:Bool):Nat:=if way=1 then a else if way=4 then (if c then a else b) else rh (way == 2) a b
noncomputable def ci:ND->Nat->oA->Nat
 | bG,_,_=>0
 | cH ws,i,_=>ws.getD i 0
 | eQ r lo hi,_,s=>if gI lo hi s.bs s.bu r then 2 ^ r else 0
 | table k v sub _,i,s=>if dN s=dN k then v else sub.ci i s
 | join way a b r bd,i,s=>mix way (a.ci (i / b.am) s) (b.ci (i % b.am) s) (decide (s.bs.getD r 0<bd))
def after:ND->Nat->Nat
 | bG,_=>0
 | cH ws,i=>(i+1) % ws.length
 | eQ ..,_=>0
 | table _ _ sub _,i=>sub.after i
 | join _ a b _ _,i=>a.after (i / b.am) * b.am+b.after (i % b.am)
def depth:ND->Nat
 | bG=>1
 | cH _=>1
 | eQ ..=>1
 | table _ _ sub _=>1+sub.depth
 | join _ a b _ _=>1+max a.depth b.depth
def Ok (n:Nat):ND->Prop
 | bG=>True
 | cH ws=>1<=ws.length/\ws.length<=4/\∀ w∈ws,w<2 ^ 61
 | eQ r lo hi=>r<n/\lo<=hi
 | table _ v sub has=>v<16/\sub.Ok n/\(has=false->sub=bG)
 | join way a b r _=>1<=way/\way<=4/\a.Ok n/\b.Ok n/\r<n
theorem pos {n:Nat}:∀ {t:ND},t.Ok n->1<=t.am
 | bG,_=>oX _
 | cH _,h=>h.1
 | eQ ..,_=>oX _
 | table _ _ sub _,h=>pos (t:=sub) h.2.1
 | join _ a b _ _,h=>Nat.mul_pos (pos (t:=a) h.2.2.1) (pos (t:=b) h.2.2.2.1)
theorem bP {n:Nat}:∀ {t:ND},t.Ok n->t.depth<=t.size+1
 | bG,_=>by decide
 | cH _,_=>by show 1<=2;decide
 | eQ ..,_=>by show 1<=2;decide
 | table _ _ sub has,h=>by
   have:=bP (t:=sub) h.2.1
   show 1+sub.depth<=1+(if has=true then sub.size else 0)+1
   cases has with
   | true=>rw [YK rfl];lia
   | false=>rw [h.2.2 rfl];show 1+1<=_;simp
 | join _ a b _ _,h=>by
   have:=bP (t:=a) h.2.2.1
   have:=bP (t:=b) h.2.2.2.1
   show 1+max a.depth b.depth<=1+a.size+b.size+1
   lia
theorem eL {n:Nat}:∀ {t:ND} {i:Nat},t.Ok n->i<t.am->t.after i<t.am
 | bG,_,_,_=>by show 0<1;decide
 | cH ws,_,h,_=>Zm _ h.1
 | eQ ..,_,_,_=>by show 0<1;decide
 | table _ _ sub _,i,h,hi=>eL (t:=sub) h.2.1 hi
 | join _ a b _ _,i,h,hi=>by
   have pb:=pos h.2.2.2.1
   have hi:i<a.am * b.am:=hi
   have h1:=eL (t:=a) (i:=i / b.am) h.2.2.1 (Y3 (by rw [Zj];exact hi))
   have h2:=eL (t:=b) (i:=i % b.am) h.2.2.2.1 (Zm _ pb)
   show a.after (i / b.am) * b.am+b.after (i % b.am)<a.am * b.am
   have:(a.after (i / b.am)+1) * b.am<=a.am * b.am:=Nat.mul_le_mul_right _ h1
   rw [Nat.succ_mul] at this
   lia
theorem xt {way a b:Nat} {c:Bool} (ha:a<2 ^ 61) (hb:b<2 ^ 61):mix way a b c<2 ^ 61:=by
 unfold mix
 split
 . exact ha
 .
  split
  . split
    . exact ha
    . exact hb
  . unfold rh
    split
    . exact Nat.or_lt_two_pow ha hb
    . exact Nat.and_lt_two_pow _ hb
theorem gU {n:Nat} (hn:n<=4):∀ {t:ND} {i:Nat} {s:oA},t.Ok n->t.ci i s<2 ^ 61
 | bG,_,_,_=>by show 0<2 ^ 61;decide
 | cH ws,i,_,h=>by
   show ws.getD i 0<_
   rw [YC]
   cases e:ws[i]? with
   | none=>show 0<2 ^ 61;decide
   | some w=>exact h.2.2 w (YH e)
 | eQ r lo hi,_,s,h=>by
   show (if _ then 2 ^ r else 0)<2 ^ 61
   split
   . exact Zn (by decide) (by have:=h.1;lia)
   . decide
 | table k v sub _,i,s,h=>by
   show (if dN s=dN k then v else sub.ci i s)<2 ^ 61
   split
   . have:=h.1
     exact T1 this (by decide)
   . exact gU hn h.2.1
 | join way a b r bd,i,s,h=>xt (gU hn h.2.2.1) (gU hn h.2.2.2.1)
end ND
def jZ (way:Nat):Str:=if way=1 then "pair" else if way=2 then "either" else if way=3 then "together" else "below"
def pC (way r:Nat) (bd:Int):List V:=if way=4 then [aw r,.int bd] else []
section
variable (P:Program) (w:World) (K:W.Frag)
def ck (H:Hp):V->ND->Prop
 | v,.bG=>∃ p,v = .ref p/\H p=some (.tup [.str "none"])
 | v,.cH ws=>∃ p q,v = .ref p/\H p=some (.tup [.str "clock",.ref q])/\H q=some (.lst (ws.map aw))
 | v,.eQ r lo hi=>∃ p,v = .ref p/\H p=some (.tup [.str "sill",aw r,.int lo,.int hi])
 | v,.table k x sub has=>∃ p d y b,v = .ref p/\H p=some (.tup [.str "table",.ref d,y,.bl has])/\eD P w K H d [(dN k,b,aw x)]/\ck H y sub
 | v,.join way a b r bd=>∃ p x y,v = .ref p/\H p=some (.tup (.str (jZ way)::x::y::pC way r bd))/\ck H x a/\ck H y b
end
section
variable {P:Program} {w:World} {K:W.Frag}
theorem ck.same {H H':Hp} (s:az H H'):∀ {t:ND} {v:V},ck P w K H v t->ck P w K H' v t
 | .bG,_,⟨p,e,h⟩=>⟨p,e,s _ _ h⟩
 | .cH _,_,⟨p,q,e,h,h2⟩=>⟨p,q,e,s _ _ h,s _ _ h2⟩
 | .eQ ..,_,⟨p,e,h⟩=>⟨p,e,s _ _ h⟩
 | .table ..,_,⟨p,d,y,b,e,h,h2,h3⟩=>⟨p,d,y,b,e,s _ _ h,h2.same s,ck.same s h3⟩
 | .join ..,_,⟨p,x,y,e,h,h2,h3⟩=>⟨p,x,y,e,s _ _ h,ck.same s h2,ck.same s h3⟩
structure KX (P:Program) (w:World) (K:W.Frag) (mg:Str->Option Value) (base:Heap) (CK:Addr) (n:Nat) (H:Hp) (a:Addr) (t:ND) (k:Nat):Prop where
 ex:∃ C dx fs oZ oI rW sI,H a=some (.ins C dx fs)/\(fs.lookup ("minds" : Str)=none/\fs.lookup ("size" : Str)=none/\fs.lookup ("wish" : Str)=none/\fs.lookup ("after" : Str)=none)/\k6 K C /\
   bv P w K mg base C "minds" k ["self"] [] oZ/\bv P w K mg base C "size" k ["self"] [] oI/\bv P w K mg base C "wish" k ["self","mind","state"] [] rW/\bv P w K mg base C "after" k ["self","mind","state"] [] sI /\
   (∀ {H':Hp} {Q:VK},az H H'->Q (aw t.am) H'->oZ [.ref a] H' Q E0)/\(∀ {H':Hp} {Q:VK},az H H'->Q (aw t.size) H'->oI [.ref a] H' Q E0) /\
   (∀ {H':Hp} {Q:VK} {i:Nat} {ps:Addr} {s:oA},az H H'->i<t.am->ox H' ps s->s.bs.length=n->(∀ qI,az H' qI->Q (aw (t.ci i s)) qI)->rW [.ref a,aw i,.ref ps] H' Q E0) /\
   (∀ {H':Hp} {Q:VK} {i:Nat} {ps:Addr} {s:oA},az H H'->i<t.am->ox H' ps s->s.bs.length=n->(∀ qI,az H' qI->Q (aw (t.after i)) qI)->sI [.ref a,aw i,.ref ps] H' Q E0) /\
   gf K H (.ref a) (.ref C)/\(∀ {H'},az H H'->gf K H' (.ref a) (.ref C))/\W.kitOne K (.ref C) (.ref CK)=some true
 ok:t.Ok n
 n4:n<=4
 hm:t.am<=60
 hs:t.size<=15
variable {mg:Str->Option Value} {base:Heap} {CK a:Addr} {n k j:Nat} {H H':Hp} {t:ND}
theorem KX.same (h:KX P w K mg base CK n H a t k) (q:az H H'):KX P w K mg base CK n H' a t k:=by
 obtain ⟨⟨C,dx,fs,oZ,oI,rW,sI,h1,h2,h3,h4,h5,h6,h7,h8,h9,Fi,SW,Yc,Uz,Xl⟩,ok,n4,hm,hs⟩:=h
 exact ⟨⟨C,dx,fs,oZ,oI,rW,sI,q _ _ h1,h2,h3,h4,h5,h6,h7,λ q'=>h8 (q.trans q'),λ q'=>h9 (q.trans q'),λ q'=>Fi (q.trans q'),λ q'=>SW (q.trans q'),Uz q,λ q'=>Uz (q.trans q'),Xl⟩,ok,n4,hm,hs⟩
theorem KX.mono (h:KX P w K mg base CK n H a t k) (q:k<=j):KX P w K mg base CK n H a t j:=by
 obtain ⟨⟨C,dx,fs,oZ,oI,rW,sI,h1,h2,h3,h4,h5,h6,h7,h8⟩,ok,n4,hm,hs⟩:=h
 exact ⟨⟨C,dx,fs,oZ,oI,rW,sI,h1,h2,h3,h4.mono q,h5.mono q,h6.mono q,h7.mono q,h8⟩,ok,n4,hm,hs⟩
end
section
variable (P:Program) (w:World) (K:W.Frag)
inductive pE (d:Nat) (vs:List V) (H:Hp) (Q:VK) (_E:XK):Prop
 | mk (v t n:_) (_:vs=[v]) (_:ck P w K H v t) (_:t.Ok n) (_:t.depth<=d) (_:t.am<=60) (_:∀ H',az H H'->Q (aw t.am) H')
inductive pN (d:Nat) (vs:List V) (H:Hp) (Q:VK) (_E:XK):Prop
 | mk (v t n:_) (_:vs=[v]) (_:ck P w K H v t) (_:t.Ok n) (_:t.depth<=d) (_:t.size<=15) (_:∀ H',az H H'->Q (aw t.size) H')
inductive qe (d:Nat) (vs:List V) (H:Hp) (Q:VK) (_E:XK):Prop
 | mk (v t n:_) (i:Nat) (_:vs=[v,aw i]) (_:ck P w K H v t) (_:t.Ok n) (_:t.depth<=d) (_:t.am<=60) (_:i<t.am) (_:∀ H',az H H'->Q (aw (t.after i)) H')
inductive pY (d:Nat) (vs:List V) (H:Hp) (Q:VK) (_E:XK):Prop
 | mk (v t n:_) (i:Nat) (ps s:_) (_:vs=[v,aw i,.ref ps]) (_:ck P w K H v t) (_:t.Ok n) (_:n<=4) (_:t.depth<=d) (_:t.am<=60) (_:i<t.am) (_:ox H ps s) (_:s.bs.length=n) (_:∀ H',az H H'->Q (aw (t.ci i s)) H')
end
theorem ND.mJ {n way r:Nat} {a b:ND} {bd:Int} (h:(ND.join way a b r bd).Ok n) (m:(ND.join way a b r bd).am<=60):a.am<=60/\b.am<=60:=by
 have pa:=ND.pos h.2.2.1
 have pb:=ND.pos h.2.2.2.1
 have m:a.am * b.am<=60:=m
 exact ⟨YL (Nat.le_mul_of_pos_right _ pb) m,YL (Nat.le_mul_of_pos_left _ pa) m⟩
end L2
namespace PySem
open Sem (wp)
section
variable {prog:Program} {w:World} {K:Type} [DecidableEq K] {knd:HeapKind prog w K} {A:Around} {E:Value->Shared->Prop} {s:Shared}
theorem nM {a:Addr} {Q:Bool->Shared->Prop} (hT:s.TypeIs (.ref a) "tuple") (h:Q false s):wpAny (model prog w) A (Builtin.Dict.quietEq (.ref a)) Q E s:=by
 unfold Builtin.Dict.quietEq
 exact yB (Zp hT F.slot_tuple_eq.lookup (Wf h))
theorem ii {id:String} {d:Addr} {o:Obj} {es ep} {xs:List (K×Addr×Value)} {Q:Array DictEntry->Shared->Prop} (ho:s.heap.get? d=some o) (hd:o.data = .dict es ep) (he:es.toList=xs.map (entryOfKey knd))
   (hi:∀ x∈xs,s.TypeIs (.ref x.2.1) "tuple") (hh:(xs.map λ x=>knd.hash x.1).Nodup) (h:Q es s) :
   wpAny (model prog w) A (Builtin.Dict.entriesForEmpty id d) Q E s:=by
 unfold Builtin.Dict.entriesForEmpty
 refine yB (Zh ho hd ?_)
 have hn:(es.toList.map (·.hash)).Nodup:=by
   rw [he,List.map_map]
   exact hh
 refine yB ?_
 refine wpAny_forIn_array' _ (λ rest _ s'=>s'=s/\∀ e∈rest,e∈es.toList) _ ?_ ?_ _ _ ⟨rfl,λ _ h=>h⟩
 .
  rintro e rest b s' ⟨rfl,hm⟩
  have U0:=hm e YI
  rw [he] at U0
  obtain ⟨x,hx,rfl⟩:=List.mem_map.mp U0
  refine yB (nM (hi x hx) ?_)
  have hc:¬ ((es.filter λ y=>y.hash == (entryOfKey knd x).hash).size > 1):=by
    have:=fW es.toList (entryOfKey knd x).hash hn
    have e2:(es.filter λ y=>y.hash == (entryOfKey knd x).hash).size=(es.toList.filter λ y=>y.hash == (entryOfKey knd x).hash).length:=by
      obtain ⟨l⟩:=es
      simp
    lia
  simp only [ZG,Zd,YG hc]
  exact Wf ⟨rfl,λ e he=>hm e (Yy _ he)⟩
 . rintro b s' ⟨rfl,_⟩
   exact Wf h
theorem oS {nm:String} {d o:Addr} {xs:List (K×Addr×Value)} {Q:Unit->Shared->Prop} (J6:d≠o) (Il:(o == sysModules)=false)
   (hd:s.heap.DictOfH knd d []) (ho:s.heap.DictOfH knd o xs) (zO:∀ x∈xs,s.TypeIs (.ref x.2.1) "tuple") (hh:(xs.map λ x=>knd.hash x.1).Nodup)
   (hQ:∀ h',(∃ q es ep,h'.get? d=some q/\q.ExactDict/\q.data = .dict es ep/\es.toList=xs.map (entryOfKey knd)/\(xs.map (·.1)).Nodup)->Heap.SameBut d s.heap h'->Q () { s with heap:=h' }) (hsz:xs.length<=sizeLine) :
   wpAny (model prog w) A (Builtin.Dict.mergeDict nm d o) Q E s:=by
 obtain ⟨od,QU,UY,EV,mw,sq,UU,Vv,XN⟩:=id hd
 obtain ⟨oo,uG,TW,yt,UB,qA,p9,Kt,Ff⟩:=id ho
 have V8:QU=#[]:=by
   obtain ⟨l⟩:=QU
   have:l=[]:=by simpa using UU
   rw [this]
 have hlen:uG.size=xs.length:=by
   obtain ⟨l⟩:=uG
   have:l.length=_:=Ze List.length p9
   simpa using this
 unfold Builtin.Dict.mergeDict
 rw [YG (by simpa using J6)]
 unfold Builtin.Dict.showsAll
 rw [YG (by rw [Il];exact EE)]
 refine yB (Wf ?_)
 refine yB (Zh yt qA ?_)
 dsimp only
 cases xs with
 | nil =>
   have h0:uG=#[]:=by
     obtain ⟨l⟩:=uG
     have:l=[]:=by simpa using p9
     rw [this]
   subst h0
   have fin:Q () s:=by
     have:=hQ s.heap ⟨od,QU,UY,EV,mw,sq,UU,Ff⟩ (Heap.SameBut.refl _ _)
     exact this
   split
   . rename_i hf
     exact absurd hf (by simp)
   . refine yB (wpAny_dictEpoch yt qA ?_)
     refine yB (Zh yt qA ?_)
     refine yB ?_
     rw [Std.Legacy.Range.forIn_eq_forIn_range']
     exact Wf (Wf fin)
 | cons x xs =>
   have hf:(decide (uG.size<=8) && uG.all λ e=>(keyPart e.key).isSome)=false:=by
     obtain ⟨l⟩:=uG
     have e1:l=_:=p9
     subst e1
     have:keyPart (entryOfKey knd x).key=none:=rfl
     simp [this]
   rw [hf]
   simp only [ZG,Zd]
   refine yB (Zh EV sq ?_)
   rw [V8]
   simp only [Array.isEmpty_empty,Zd]
   refine yB (ii yt qA p9 zO hh ?_)
   have U1:uG.isEmpty=false:=by
     rw [Array.isEmpty_eq_false_iff]
     intro z
     rw [z] at hlen
     simp at hlen
   rw [U1]
   simp only [ZG,Zd]
   refine yB (wpAny_updateDictKeysTo EV sq (Wf (hQ _ ⟨_,_,UY+1,Heap.get?_update_self _ EV (Obj.isFreed_of_dict (Obj.data_mapDictKeys sq _)),mw.mapDictKeys _,Obj.data_mapDictKeys sq _,p9,Ff⟩ (Heap.SameBut.update ..))) (by rw [hlen];lia))
theorem kH {o:Addr} {xs:List (K×Addr×Value)} {Q:Value->Shared->Prop} (Il:(o == sysModules)=false) (ho:s.heap.DictOfH knd o xs) (hsz:xs.length<=sizeLine) (zO:∀ x∈xs,s.TypeIs (.ref x.2.1) "tuple") (Xe:∀ x∈xs,knd.is (s.heap.push { cls:=.type "dict",data:=.dict #[]}) x.1 x.2.1) (hh:(xs.map λ x=>knd.hash x.1).Nodup)
   (h:∀ h',(∃ q es ep,h'.get? s.heap.objs.size=some q/\q.ExactDict/\q.data = .dict es ep/\es.toList=xs.map (entryOfKey knd)/\(xs.map (·.1)).Nodup)->Heap.SameBut s.heap.objs.size (s.heap.push { cls:=.type "dict",data:=.dict #[]}) h'->Q (.ref s.heap.objs.size) { s with heap:=h' }) :
   wpAny (model prog w) A (call (.type "dict") [.ref o]) Q E s:=by
 refine callType_codes (Q₁:=λ obj s₁=>obj = .ref s.heap.objs.size/\s₁={ s with heap:=s.heap.push { cls:=.type "dict",data:=.dict #[]}}) F.kt_called_dict (F.kt_typeCall_dict_1 _) F.entry_dict_init (kt_code_dict_new _ ⟨rfl,rfl⟩) ?_
 rintro obj s₁ ⟨rfl,rfl⟩
 have ye:(s.heap.push { cls:=.type "dict",data:=.dict #[]}).DictOfH knd s.heap.objs.size []:=Heap.DictOfH.new s.heap
 have pX:(s.heap.push { cls:=.type "dict",data:=.dict #[]}).DictOfH knd o xs:=by
   obtain ⟨oo,uG,TW,yt,UB,qA,p9,Kt,Ff⟩:=id ho
   exact ⟨oo,uG,TW,be _ yt,UB,qA,p9,Xe,Ff⟩
 have J6:s.heap.objs.size≠o:=by
   obtain ⟨_,_,_,hg,_⟩:=ho
   exact λ e=>absurd (Ys hg) (by rw [e];exact Y7 _)
 refine ⟨ye.typeIs,F.args_dict_init_2 _ _,?_⟩
 unfold Builtin.«dict.__init__»
 refine yB ?_
 unfold Builtin.Dict.selfAndRest
 refine yB (wpAny_notOrdered_dict ye.typeIs ?_)
 show wpAny _ _ (pure (s.heap.objs.size,[Value.ref o])) _ _ _
 refine Wf ?_
 show wpAny _ _ (Builtin.Dict.updateFrom "dict.__init__" s.heap.objs.size (.ref o) [] .none) _ _ _
 unfold Builtin.Dict.updateFrom
 refine yB (wpAny_typeOf pX.typeIs ?_)
 rw [YG (by decide)]
 refine yB ?_
 unfold Builtin.Dict.merge
 refine yB ?_
 unfold Builtin.Dict.readDirectly
 refine yB (wpAny_isInstance pX.typeIs isSubtype_dict_dict ?_)
 simp only [ZQ,Y8,Zl]
 refine yB (Zp pX.typeIs F.slot_dict_iter.lookup (Wf ?_))
 simp only [beq_self_eq_true,Zd]
 refine yB (Wf ?_)
 refine oS (hsz:=hsz) J6 Il ye pX (λ x hx=>let ⟨q,e1,e2⟩:=zO x hx;⟨q,be _ e1,e2⟩) hh λ h' DK WH=>?_
 show wpAny _ _ (Builtin.Dict.addKeywords s.heap.objs.size [] >>= _) _ _ _
 exact yB (Wf (Wf ⟨rfl,h h' DK WH⟩))
end
end PySem
namespace L2
open PySem PySem.Spec PyProof.Rows Mth
theorem Am {s:Shared} {k:PyData} {a:Addr} (h:o2 s.heap k a):s.TypeIs (.ref a) "tuple":=by
 obtain ⟨d,as,r,k1,k2,k3,e⟩:=h
 cases r with
 | tuple h1 h2 h3 h4=>exact ⟨_,h1,h2⟩
 | list h1 h2 h3 h4=>rw [kd] at k1<;>first|cases k1|nofun
 | dict h1 h2 h3 h4 h5=>rw [kd] at k1<;>first|cases k1|nofun
theorem uQ {h h':Heap} {k:PyData} {a:Addr} (x:o2 h k a) (g:∀ b o,h.get? b=some o->h'.get? b=some o):o2 h' k a:=by
 obtain ⟨d,as,r,k1,q⟩:=x
 exact ⟨d,as,gx (λ b o e _ _ _=>g b o e) d k1 r,k1,q⟩
section
variable {X:Cx} {P:Program} {w:World} {K:W.Frag}
theorem d9 (hP:X.prog=P) (hw:X.w=w) (hK:X.K=K):f6 X (.type "dict") (λ xs H Q=>∃ p k b v,xs=[.ref p]/\eD P w K H p [(k,b,v)]/\∀ l,H l=none->Q (.ref l) (upd H l (gD P w l [(k,b,v)]))):=by
 subst hP hw hK
 intro pins s U H xs us Q I r h
 obtain ⟨p,k,b,v,rfl,hp,q⟩:=h
 obtain ⟨u,rfl,rx⟩:=vals1 r
 cases rx
 obtain ⟨z,hd,xs,rel,dd⟩:=hp.dict I
 have hk:∀ x∈xs,o2 s.heap x.1 x.2.1:=by obtain ⟨_,_,_,_,_,_,_,h,_⟩:=dd;exact h
 have one:∃ x,xs=[x]:=by
   cases rel with
   | cons _ t=>cases t;exact ⟨_,rfl⟩
 obtain ⟨x,rfl⟩:=one
 refine kH hd dd (by rw [← Paired.length rel];exact z) (λ x hx=>Am (hk x hx)) (λ x hx=>uQ (hk x hx) λ b o e=>be _ e) (List.nodup_cons.mpr ⟨Y0,ZD⟩) λ h' wN hs=>?_
 have hn:H s.heap.objs.size=none:=I.bQ.fresh (oX _)
 obtain ⟨o,es,ep,e1,e2,e3,e4,e5⟩:=wN
 refine ⟨.ref _,_,I.laid (a:=s.heap.objs.size) (o:=gD X.prog X.w s.heap.objs.size [(k,b,v)]) (t':=s.toks) (λ b q hq=>?_) (oX _) (tT ⟨z,beq_eq_false_iff_ne.mpr (Zi (Yz I.big)),_,rel,o,es,ep,e1,e2,e3,e4,e5⟩),rfl,q _ hn⟩
 exact (hs.2 b (Yz (Ys hq))).trans (be _ hq)
def yl (P:Program) (w:World) (K:W.Frag) (pG:List (TE×TE)):TE:=λ U H Q=>∀ p,H p=none->mf pG U (upd H p (gD P w p [])) λ ps H2=>H2 p=some (gD P w p [])/\∃ k b v,ps=[(.ref b,v)]/\fZ K H2 k b/\Q (.ref p) (upd H2 p (gD P w p [(k,b,v)]))
theorem rG {pos:Pos} {keys:List (Option Expr)} {values:List Expr} {pG:List (TE×TE)} (hP:X.prog=P) (hw:X.w=w) (hK:X.K=K) (hu:X.A.units+65<cLine) (h:yu X pos keys values pG) (nV:keys.all (·.isSome)=true) (hl:keys.length=values.length) (h0:keys≠[]) (IM:keys.length<=15):PE X (.Dict keys values pos) (yl P w K pG):=by
 subst hP hw hK
 intro pins s U H Q I q
 have hn:=I.bQ.fresh (oX s.heap.objs.size)
 have ns:(s.heap.objs.size == sysModules)=false:=beq_eq_false_iff_ne.mpr (Zi (Yz I.big))
 have I1:=I.laid (a:=s.heap.objs.size) (o:=gD X.prog X.w s.heap.objs.size []) (h':=s.heap.push { cls:=.type "dict",data:=.dict #[]}) (t':=s.toks) (λ _ _ q=>be _ q) (oX _)
   (tT ⟨YX _,ns,[],.nil,_,#[],0,Yt _ rfl,⟨rfl,rfl,rfl⟩,rfl,rfl,ZD⟩)
 refine wpAny_Dict_any nV hl h0 IM (bX (h pins _ U _ _ I1 (q _ hn)) λ ws s2 ⟨ps,H2,I2,rel,e,k,b,v,ep,hk,q2⟩=>?_)
 subst ep
 cases rel with
 | @cons _ b' _ bs hr t =>
   cases t
   obtain ⟨b1,b2⟩:=b'
   obtain rfl:b1=Value.ref b:=hr.1
   obtain ⟨z,hd,xs,rx,dd⟩:=(eD.nil (K:=X.K) e).dict I2
   cases rx
   unfold storeAll
   rw [ZB]
   refine yB (yB (wpAny_dictSet_heap (knd:=gX X.prog X.w) (by show X.A.units+64<cLine;lia) (hk.is I2) dd λ h' wN hs=>Wf ?_))
   refine Wf ?_
   obtain ⟨o,es,ep,hq,h2,h3,h4,_,h5⟩:=wN
   exact ⟨.ref _,_,pB I2 (by rw [e];exact True.intro) hs ⟨o,hq⟩ (tT ⟨by show 1<=sizeLine;decide,hd,_,.cons ⟨rfl,rfl,hr.2⟩ .nil,o,es,ep,hq,h2,h3,h4,h5⟩),rfl,q2⟩
end
end L2
namespace K36
open PySem PySem.Spec PyProof.Rows L2 Mth
seal PE PS k8 yu PA PG yE PT wC PI
def top (i:Nat):Stmt:=PySem.Challenge.pw_stoke_k36_whole_keepers_put_together.main.body.getD i (.Pass ⟨0,0,0,0⟩)
abbrev eV:Stmt:=top 1
theorem ni:av ["bits","room"] ["bits","room"] (ah eV):=⟨rfl,rfl,rfl,by decide +kernel,rfl,by decide +kernel,by decide +kernel⟩
abbrev dY:Stmt:=top 2
theorem l8:av ["bits","room"] ["bits","room"] (ah dY):=⟨rfl,rfl,rfl,by decide +kernel,rfl,by decide +kernel,by decide +kernel⟩
abbrev gc:Stmt:=top 3
theorem eY:av ["rooms","bits","room"] ["rooms"] (ah gc):=⟨rfl,rfl,rfl,by decide +kernel,rfl,by decide +kernel,by decide +kernel⟩
abbrev bD:Stmt:=inClass (top 12) 0
theorem fj:av ["self"] ["self"] (ah bD):=⟨rfl,rfl,rfl,by decide +kernel,rfl,by decide +kernel,by decide +kernel⟩
abbrev aW:Stmt:=inClass (top 12) 1
theorem dP:av ["self"] ["self"] (ah aW):=⟨rfl,rfl,rfl,by decide +kernel,rfl,by decide +kernel,by decide +kernel⟩
abbrev cZ:Stmt:=inClass (top 12) 2
theorem jF:av ["self","mind","state"] ["self","mind","state"] (ah cZ):=⟨rfl,rfl,rfl,by decide +kernel,rfl,by decide +kernel,by decide +kernel⟩
abbrev bB:Stmt:=inClass (top 12) 3
theorem fk:av ["self","mind","state"] ["self","mind","state"] (ah bB):=⟨rfl,rfl,rfl,by decide +kernel,rfl,by decide +kernel,by decide +kernel⟩
abbrev cM:Stmt:=top 13
theorem iR:av ["keeper"] ["keeper"] (ah cM):=⟨rfl,rfl,rfl,by decide +kernel,rfl,by decide +kernel,by decide +kernel⟩
abbrev cm:Stmt:=inClass (top 14) 0
theorem cO:av ["self","sills","low","high"] ["self","sills"] (ah cm):=⟨rfl,rfl,rfl,by decide +kernel,rfl,by decide +kernel,by decide +kernel⟩
abbrev dy:Stmt:=inClass (top 14) 1
theorem ki:av ["self","mind","state"] ["self","mind","state"] (ah dy):=⟨rfl,rfl,rfl,by decide +kernel,rfl,by decide +kernel,by decide +kernel⟩
abbrev ce:Stmt:=inClass (top 14) 2
theorem cF:av ["self","room","state","low","high"] ["self","room","state"] (ah ce):=⟨rfl,rfl,rfl,by decide +kernel,rfl,by decide +kernel,by decide +kernel⟩
abbrev cq:Stmt:=inClass (top 15) 0
theorem g9:av ["self","wishes"] ["self","wishes"] (ah cq):=⟨rfl,rfl,rfl,by decide +kernel,rfl,by decide +kernel,by decide +kernel⟩
abbrev cW:Stmt:=inClass (top 15) 1
theorem jm:av ["self"] ["self"] (ah cW):=⟨rfl,rfl,rfl,by decide +kernel,rfl,by decide +kernel,by decide +kernel⟩
abbrev dw:Stmt:=inClass (top 15) 2
theorem kg:av ["self","mind","state"] ["self","mind","state"] (ah dw):=⟨rfl,rfl,rfl,by decide +kernel,rfl,by decide +kernel,by decide +kernel⟩
abbrev dc:Stmt:=inClass (top 15) 3
theorem jx:av ["self","mind","state"] ["self","mind","state"] (ah dc):=⟨rfl,rfl,rfl,by decide +kernel,rfl,by decide +kernel,by decide +kernel⟩
abbrev bo:Stmt:=inClass (top 16) 0
theorem hG:av ["self","rows","other"] ["self","rows","other"] (ah bo):=⟨rfl,rfl,rfl,by decide +kernel,rfl,by decide +kernel,by decide +kernel⟩
abbrev c0:Stmt:=inClass (top 16) 1
theorem j2:av ["self"] ["self"] (ah c0):=⟨rfl,rfl,rfl,by decide +kernel,rfl,by decide +kernel,by decide +kernel⟩
abbrev dB:Stmt:=inClass (top 16) 2
theorem j9:av ["self"] ["self"] (ah dB):=⟨rfl,rfl,rfl,by decide +kernel,rfl,by decide +kernel,by decide +kernel⟩
abbrev dn:Stmt:=inClass (top 16) 3
theorem kz:av ["self","mind","state"] ["self","mind","state"] (ah dn):=⟨rfl,rfl,rfl,by decide +kernel,rfl,by decide +kernel,by decide +kernel⟩
abbrev df:Stmt:=inClass (top 16) 4
theorem ju:av ["self","mind","state"] ["self","mind","state"] (ah df):=⟨rfl,rfl,rfl,by decide +kernel,rfl,by decide +kernel,by decide +kernel⟩
abbrev aE:Stmt:=inClass (top 17) 0
theorem ia:av ["self","one","other"] ["self","one","other"] (ah aE):=⟨rfl,rfl,rfl,by decide +kernel,rfl,by decide +kernel,by decide +kernel⟩
abbrev aO:Stmt:=inClass (top 17) 1
theorem kL:av ["self"] ["self"] (ah aO):=⟨rfl,rfl,rfl,by decide +kernel,rfl,by decide +kernel,by decide +kernel⟩
abbrev aQ:Stmt:=inClass (top 17) 2
theorem mP:av ["self"] ["self"] (ah aQ):=⟨rfl,rfl,rfl,by decide +kernel,rfl,by decide +kernel,by decide +kernel⟩
abbrev d3:Stmt:=inClass (top 17) 3
theorem mz:av ["self","mind","state"] ["self","mind","state"] (ah d3):=⟨rfl,rfl,rfl,by decide +kernel,rfl,by decide +kernel,by decide +kernel⟩
abbrev aN:Stmt:=inClass (top 17) 4
theorem eg:av ["self","mind","state","ones","others"] ["self","mind","state"] (ah aN):=⟨rfl,rfl,rfl,by decide +kernel,rfl,by decide +kernel,by decide +kernel⟩
abbrev aA:Stmt:=inClass (top 17) 5
theorem gg:av ["self","mind","state"] ["self","mind","state"] (ah aA):=⟨rfl,rfl,rfl,by decide +kernel,rfl,by decide +kernel,by decide +kernel⟩
abbrev ax:Stmt:=inClass (top 17) 6
theorem fv:av ["self","mind","state"] ["self","mind","state"] (ah ax):=⟨rfl,rfl,rfl,by decide +kernel,rfl,by decide +kernel,by decide +kernel⟩
abbrev cR:Stmt:=inClass (top 18) 0
theorem jT:av ["self","mind","state"] ["self","mind","state"] (ah cR):=⟨rfl,rfl,rfl,by decide +kernel,rfl,by decide +kernel,by decide +kernel⟩
abbrev cC:Stmt:=inClass (top 19) 0
theorem ir:av ["self","mind","state"] ["self","mind","state"] (ah cC):=⟨rfl,rfl,rfl,by decide +kernel,rfl,by decide +kernel,by decide +kernel⟩
abbrev cp:Stmt:=inClass (top 20) 0
theorem gM:av ["self","room","band","one","other"] ["self","room","band","one","other"] (ah cp):=⟨rfl,rfl,rfl,by decide +kernel,rfl,by decide +kernel,by decide +kernel⟩
abbrev dA:Stmt:=inClass (top 20) 1
theorem kP:av ["self","mind","state"] ["self","mind","state"] (ah dA):=⟨rfl,rfl,rfl,by decide +kernel,rfl,by decide +kernel,by decide +kernel⟩
abbrev cU:Stmt:=top 22
theorem jJ:av ["_law_script","_law_k"] ["_law_script","_law_k"] (ah cU):=⟨rfl,rfl,rfl,by decide +kernel,rfl,by decide +kernel,by decide +kernel⟩
abbrev d5:Stmt:=top 23
theorem mF:av ["_law_found"] ["_law_found"] (ah d5):=⟨rfl,rfl,rfl,by decide +kernel,rfl,by decide +kernel,by decide +kernel⟩
abbrev dz:Stmt:=top 24
theorem cA:av ["_law_cell","_law_many","_law_found","_law_number","_law_k"] ["_law_cell","_law_many"] (ah dz):=⟨rfl,rfl,rfl,by decide +kernel,rfl,by decide +kernel,by decide +kernel⟩
abbrev cY:Stmt:=top 25
theorem dQ:av ["_law_bits","_law_room","_law_k"] ["_law_bits","_law_room"] (ah cY):=⟨rfl,rfl,rfl,by decide +kernel,rfl,by decide +kernel,by decide +kernel⟩
abbrev dW:Stmt:=top 26
theorem dr:av ["_law_xs","_law_rooms","_law_bands","_law_waits","_law_failed"] ["_law_xs","_law_rooms"] (ah dW):=⟨rfl,rfl,rfl,by decide +kernel,rfl,by decide +kernel,by decide +kernel⟩
abbrev de:Stmt:=top 27
theorem bC:av ["_law_node","_law_mind","_law_state_here","_law_band","_law_fires","_law_many","_law_one","_law_other"] ["_law_node","_law_mind","_law_state_here"] (ah de):=⟨rfl,rfl,rfl,by decide +kernel,rfl,by decide +kernel,by decide +kernel⟩
abbrev dZ:Stmt:=top 28
theorem bY:av ["_law_one","_law_other","_law_any_of","_law_bits","_law_step"] ["_law_one","_law_other","_law_any_of"] (ah dZ):=⟨rfl,rfl,rfl,by decide +kernel,rfl,by decide +kernel,by decide +kernel⟩
abbrev cN:Stmt:=top 29
theorem fo:av ["_law_node"] ["_law_node"] (ah cN):=⟨rfl,rfl,rfl,by decide +kernel,rfl,by decide +kernel,by decide +kernel⟩
abbrev cK:Stmt:=top 30
theorem dj:av ["_law_node","_law_mind","_law_many"] ["_law_node","_law_mind"] (ah cK):=⟨rfl,rfl,rfl,by decide +kernel,rfl,by decide +kernel,by decide +kernel⟩
abbrev db:Stmt:=top 31
theorem fS:av ["_law_node"] ["_law_node"] (ah db):=⟨rfl,rfl,rfl,by decide +kernel,rfl,by decide +kernel,by decide +kernel⟩
abbrev cS:Stmt:=top 32
theorem cj:av ["_law_xs","_law_rooms","_law_room","_law_low","_law_high","_law_wishes"] ["_law_xs","_law_rooms"] (ah cS):=⟨rfl,rfl,rfl,by decide +kernel,rfl,by decide +kernel,by decide +kernel⟩
abbrev dq:Stmt:=top 33
theorem d8:av ["_law_xs","_law_one","_law_other","_law_states","_law_room","_law_rows"] ["_law_xs","_law_one","_law_other","_law_states"] (ah dq):=⟨rfl,rfl,rfl,by decide +kernel,rfl,by decide +kernel,by decide +kernel⟩
abbrev fh:Stmt:=top 34
theorem d6:av ["_law_xs","_law_some","_law_rooms","_law_states","_law_one","_law_other","_law_size"] ["_law_xs","_law_some","_law_rooms","_law_states"] (ah fh):=⟨rfl,rfl,rfl,by decide +kernel,rfl,by decide +kernel,by decide +kernel⟩
abbrev cx:Stmt:=top 35
theorem dU:av ["_law_keeper","_law_node","_law_found"] ["_law_keeper","_law_node"] (ah cx):=⟨rfl,rfl,rfl,by decide +kernel,rfl,by decide +kernel,by decide +kernel⟩
abbrev dC:Stmt:=top 36
theorem cB:av ["_law_keeper","_law_node","_law_states","_law_mind","_law_state_here","_law_wish","_law_behind"] ["_law_keeper","_law_node","_law_states","_law_mind"] (ah dC):=⟨rfl,rfl,rfl,by decide +kernel,rfl,by decide +kernel,by decide +kernel⟩
abbrev n6:Stmt:=top 37
theorem fc:av ["_law_script","_law_first","_law_rooms","_law_states","_law_some","_law_cell","_law_made","_law_mind"] ["_law_script"] (ah n6):=⟨rfl,rfl,rfl,by decide +kernel,rfl,by decide +kernel,by decide +kernel⟩
structure UP where
 Keeper:Addr
 bV:Addr
 Clock:Addr
 Table:Addr
 Pair:Addr
 bO:Addr
 aR:Addr
 Below:Addr
 cQ:Addr
structure Txt (K:W.Frag) (mg:Str->Option Value) (A:UP):Prop where
 nE:mg "Keeper" = some (.ref A.Keeper)
 vR:mg "Sills" = some (.ref A.bV)
 vW:mg "Clock" = some (.ref A.Clock)
 pZ:mg "Table" = some (.ref A.Table)
 t9:mg "Pair" = some (.ref A.Pair)
 ti:mg "Either" = some (.ref A.bO)
 o8:mg "Together" = some (.ref A.aR)
 vp:mg "Below" = some (.ref A.Below)
 kW:W.findIn K (.ref A.Keeper) "__class__" = some (some (.builtin "object.__class__"))
 lr:W.mroIn K A.Keeper (.type "object")=some true
 qU:W.kitOne K (.ref A.Keeper) (.ref A.Keeper)=some true
 m4:W.findIn K (.ref A.bV) "__class__" = some (some (.builtin "object.__class__"))
 nJ:W.mroIn K A.bV (.type "object")=some true
 tq:W.kitOne K (.ref A.bV) (.ref A.Keeper)=some true
 nn:W.findIn K (.ref A.Clock) "__class__" = some (some (.builtin "object.__class__"))
 ng:W.mroIn K A.Clock (.type "object")=some true
 tD:W.kitOne K (.ref A.Clock) (.ref A.Keeper)=some true
 nT:W.findIn K (.ref A.Table) "__class__" = some (some (.builtin "object.__class__"))
 nB:W.mroIn K A.Table (.type "object")=some true
 uq:W.kitOne K (.ref A.Table) (.ref A.Keeper)=some true
 vz:W.findIn K (.ref A.Pair) "__class__" = some (some (.builtin "object.__class__"))
 vP:W.mroIn K A.Pair (.type "object")=some true
 wj:W.kitOne K (.ref A.Pair) (.ref A.Keeper)=some true
 qr:W.findIn K (.ref A.bO) "__class__" = some (some (.builtin "object.__class__"))
 re:W.mroIn K A.bO (.type "object")=some true
 qC:W.kitOne K (.ref A.bO) (.ref A.Keeper)=some true
 om:W.findIn K (.ref A.aR) "__class__" = some (some (.builtin "object.__class__"))
 mU:W.mroIn K A.aR (.type "object")=some true
 oy:W.kitOne K (.ref A.aR) (.ref A.Keeper)=some true
 sr:W.findIn K (.ref A.Below) "__class__" = some (some (.builtin "object.__class__"))
 sY:W.mroIn K A.Below (.type "object")=some true
 sk:W.kitOne K (.ref A.Below) (.ref A.Keeper)=some true
 dh:W.specialIn K (.builtin "object.__class__") "__get__" = some (some (.builtin "getset_descriptor.__get__"))
 ca:W.takesIn K (.builtin "object.__class__")=some true
 rl:W.findIn K (.ref A.Keeper) "__init__" = some (some (.builtin "object.__init__"))
 lM:∃ t,mg "MOST_MINDS" = some (.int 60 t)
 nr:∃ t,mg "MOST_SIZE" = some (.int 15 t)
 kt:∃ t,mg "MOST_WISHES" = some (.int 24 t)
 iy:k6 K A.Keeper
 li:kE K A.Keeper
 jz:bg K A.Keeper "minds" "Keeper.minds" bD .none
 kh:bg K A.Keeper "size" "Keeper.size" aW .none
 ky:bg K A.Keeper "wish" "Keeper.wish" cZ .none
 jo:bg K A.Keeper "after" "Keeper.after" bB .none
 dG:k6 K A.bV
 rL:kE K A.bV
 dH:bH K A.bV "sills"
 ix:bg K A.bV "__init__" "Sills.__init__" cm .none
 md:bg K A.bV "wish" "Sills.wish" dy .none
 gW:bg K A.bV "is_wished" "Sills.is_wished" ce .none
 kD:bg K A.bV "minds" "Keeper.minds" bD .none
 lP:bg K A.bV "size" "Keeper.size" aW .none
 kM:bg K A.bV "after" "Keeper.after" bB .none
 dR:k6 K A.Clock
 rz:kE K A.Clock
 cD:bH K A.Clock "wishes"
 io:bg K A.Clock "__init__" "Clock.__init__" cq .none
 kS:bg K A.Clock "minds" "Clock.minds" cW .none
 mM:bg K A.Clock "wish" "Clock.wish" dw .none
 kF:bg K A.Clock "after" "Clock.after" dc .none
 mO:bg K A.Clock "size" "Keeper.size" aW .none
 aV:k6 K A.Table
 ow:kE K A.Table
 eC:bH K A.Table "rows"
 aI:bH K A.Table "other"
 iu:bg K A.Table "__init__" "Table.__init__" bo (.ref A.cQ)
 eI:B7 K A.cQ [.bG]
 km:bg K A.Table "minds" "Table.minds" c0 .none
 lQ:bg K A.Table "size" "Table.size" dB .none
 lW:bg K A.Table "wish" "Table.wish" dn .none
 ko:bg K A.Table "after" "Table.after" df .none
 pL:k6 K A.Pair
 vL:kE K A.Pair
 nv:bH K A.Pair "one"
 kI:bH K A.Pair "other"
 iO:bg K A.Pair "__init__" "Pair.__init__" aE .none
 lJ:bg K A.Pair "minds" "Pair.minds" aO .none
 mW:bg K A.Pair "size" "Pair.size" aQ .none
 oi:bg K A.Pair "wish" "Pair.wish" d3 .none
 lY:bg K A.Pair "after" "Pair.after" aN .none
 gz:bg K A.Pair "wish_of_one" "Pair.wish_of_one" aA .none
 fQ:bg K A.Pair "wish_of_other" "Pair.wish_of_other" ax .none
 lq:k6 K A.bO
 ri:kE K A.bO
 kJ:bH K A.bO "one"
 i4:bH K A.bO "other"
 kG:bg K A.bO "wish" "Either.wish" cR .none
 hC:bg K A.bO "__init__" "Pair.__init__" aE .none
 jI:bg K A.bO "minds" "Pair.minds" aO .none
 kj:bg K A.bO "size" "Pair.size" aQ .none
 jS:bg K A.bO "after" "Pair.after" aN .none
 fK:bg K A.bO "wish_of_one" "Pair.wish_of_one" aA .none
 eX:bg K A.bO "wish_of_other" "Pair.wish_of_other" ax .none
 iD:k6 K A.aR
 m7:kE K A.aR
 jc:bH K A.aR "one"
 gS:bH K A.aR "other"
 iZ:bg K A.aR "wish" "Together.wish" cC .none
 gm:bg K A.aR "__init__" "Pair.__init__" aE .none
 iw:bg K A.aR "minds" "Pair.minds" aO .none
 iU:bg K A.aR "size" "Pair.size" aQ .none
 ip:bg K A.aR "after" "Pair.after" aN .none
 eU:bg K A.aR "wish_of_one" "Pair.wish_of_one" aA .none
 ee:bg K A.aR "wish_of_other" "Pair.wish_of_other" ax .none
 eP:k6 K A.Below
 rq:kE K A.Below
 lI:bH K A.Below "one"
 jM:bH K A.Below "other"
 gu:bH K A.Below "room"
 gs:bH K A.Below "band"
 ic:bg K A.Below "__init__" "Below.__init__" cp .none
 mD:bg K A.Below "wish" "Below.wish" dA .none
 kC:bg K A.Below "minds" "Pair.minds" aO .none
 lN:bg K A.Below "size" "Pair.size" aQ .none
 kR:bg K A.Below "after" "Pair.after" aN .none
 gj:bg K A.Below "wish_of_one" "Pair.wish_of_one" aA .none
 fz:bg K A.Below "wish_of_other" "Pair.wish_of_other" ax .none
 iS:∃ f fd,pU K A.Pair "__init__" f/\eS K "__init__" "Pair.__init__" aE .none f fd
 oQ:jk K mg "has_room" eV
 ol:jk K mg "with_room" dY
 qR:jk K mg "bits_of" gc
 jn:jk K mg "look_at_size" cM
 kQ:jk K mg "_law_cell_at" cU
 nz:jk K mg "_law_whole" d5
 lX:jk K mg "_law_stream" dz
 j7:jk K mg "_law_in_bits" cY
 oj:jk K mg "_law_state" dW
 gr:jk K mg "_law_wish_by" de
 n8:jk K mg "_law_mixed" dZ
 fN:jk K mg "_law_minds_by" cN
 fX:jk K mg "_law_after_by" cK
 gp:jk K mg "_law_size_by" db
 kB:jk K mg "_law_leaf_by" cS
 lD:jk K mg "_law_joined" dq
 oT:jk K mg "_law_more" fh
 im:jk K mg "_law_told_right" cx
 mr:jk K mg "_law_walked" dC
 DN:jk K mg "law" n6
 yk:mg "bool" = none
 mn:mg "dict" = none
 tS:mg "divmod" = none
 nP:mg "int" = none
 ff:mg "isinstance" = none
 gq:mg "len" = none
 rR:mg "list" = none
 fb:mg "range" = none
 l7:mg "tuple" = none
abbrev kq_ (K:W.Frag) (a:Addr):Prop:=W.keepIn K (.ref a)=true
abbrev kc_ (K:W.Frag) (a:Value) (x:Str):Prop:=W.codeIn K a x=true
abbrev kf_ (K:W.Frag) (a:Addr) (b:Value) (c:Option Addr) (x y:Str) (s:Stmt) (d e f:Value) (g:Option Addr) (h i:Value) (n:Array (Option Value)):Prop:=K.lookup a=some ⟨b,c,.func (W.fnOf x y (bc s) (aM s) (ah s) .none d e f g h i),n⟩
abbrev kn_ (K:W.Frag) (x:Str) (a:Addr):Prop:=W.nsIn K mainGlobals x=some (some (.ref a))
abbrev kg_ (K:W.Frag) (a:Addr) (x:Str) (b:Addr):Prop:=W.findIn K (.ref a) x=some (some (.ref b))
theorem txt_mk {K:W.Frag} {h:Heap} {mg:Str->Option Value} (X:K.In h) (G:h.Ns mainGlobals mg)
 {z0 z1 z2 z3 z4 z5 z6 z7 Ea DB zp AW zx yH BH CC zd uh sg tX rC tz sK sQ x8 sy sV tQ tW tF tj tO ut tJ t6 tw ua sm sx rM tx tP rJ tE rT sE rD tN sT rN rZ tH sG rB sd sS up u5 we u8 vg vC vy vh vD vJ v6 v9 vO vV vY vT uX wo u9 vH uL u6:Addr}
 {z8 z9 VP:Tok}
 {VI VS V7 Wu VD VG Vw V1 Vk W3 WW U8 Vi WJ Xa Wt VQ Wp Qa J3 RR OA IR KO Sr O8 NN Ia Le FS Fq LF SM NW QM OD PY Qc SV Tu ON JQ FX HD Pg PD R1 M2 R8 FB Sj Hc Kb JM Q7 J1 HF Rr To M6 Lq Qh Iw LP OU GH RN Qq OY JA Jp JF Hh Pt RJ R4 Ox OE MI FU Pb N4 LK JV QY Nj Nu No OZ QD Lf Ly L3 PQ Gv K0 IT Jd Mb K7 TL JJ Pq Sa Lu JS JC Oz RO Pm N1 LR Ms LB KN Ro MU Mm KC K4 Qs FM SG F9 QT QA Pz R3 FC JT II Nk OT Ta GW Fu Kz GP LJ:Option Addr}
 {WE Vc WZ WV WY VB Xz VC VX LZ Ka MW PK NR GJ PR SY Qy Qt FN M1 Rt Jh SB Jk IB Rb Hg KD G7 F6 JO P1 Lv LO MS O9 Qm N0 Su QX JK Ph Og L0 RA Kj G2 Gd Ge Kf Me P8 FK Pj FF Tz FG Hk SE RV Tw NP Qj JP Ji MA SF RG J7:Array (Option Value)}
 {V5 Xv Xq Xr UT XA VN U5 Vt VR Uy W9 XB VU Ws VM Ua VZ Wm V9 Xo V4 Um W7 W5 WK Xy W1 TR WR Xj Vm V3 VT UN WM Wg Xw WD VJ UZ WS Wa Vz WG Va Uj Xg Xc Wj Vx WU UX Gs Tc G1 OO N7 zY Oi Q8 Gg LX Ho DG Tf Lg FW TK LI BG MN Mj Nv Jv O2 BC FO Jq Kx FD N2 Dj Qz QI Go Hv Fn Cm QR HC Hl M0 Px DH Mr KF Hb Ou Ii GN Eg Jx Gn FL F7 N3 Em KM Tb OM Gr Gj D9 QJ Ra QH TH So Ay Lm O0 LL Sz M7 Bj Nd FQ J4 Jn MP DX Lp NT G4 Qk RU zV Nq Sd Gk Jj Tp yU Lb P6 FR KS Ot EG Kr Tn Ma FY P2 Cq IC K3 NM LN KI zz LH Im HZ QZ Mx CU Ir Q6 LQ KA Ku AV R5 KZ NA Rx FV D7 Fx Ov GZ LG Rk Dk Nr J9 Ic Fz GS EC OB RT K2 MT Sv zb FA Td Jy TC NE AD OV Ps PH Q5 SS Bt Qr KE HH L7 JH Aq Jm GM IU Ga G9 Er Hm Oj NB RB Ml Dh PL SA PC Ol My zA Q0 Q3 LC N8 O3 AS Ld RQ RX Tt Ib Bh SQ K1 HR KJ Nx AK HM Hs Tl QO Ik Bw Ix TJ OC FP RL DM Ls LA Jw Rn Rp BY NU Km HQ Tv Lz C6 Q4 Ky RP SD PP Bb QS TD Po Lk Sg Eu F0 Gx RI Oa P0 As Nf Th Sq KR OR Au KP Rg Mt Pd IJ CM Sc Mp G6 Ig Lw yT QG Pr Lr Iv QQ Az Gq Rm K6 Kp SC Cb Iz MX P3 Od JY yZ MO TF G5 Ql Nh zi OS Ft GB SO Mo CG NO Hy JZ JL IP zt Oq Rl GF Kc Rf CP LW Kg GO Qb MJ CI Gh L6 N6 MB Pf C3 IE Q2 GL Ja QW CH Mz MM Kh He Fv DT LS Sw MH Tx Jo Ae PN JE O6 SL Os BW Sh NS Hr IQ Kd DV JR Pn OQ R7 Sm B3 L8 OX IX OG RE Ci NK F2 HY Hw Ki Cs Rw:Value}
 {Gy:Nat}
 (Jg:kn_ K "Keeper" z0)
 (Qu:kn_ K "Sills" z1)
 (JW:kn_ K "Clock" z2)
 (F4:kn_ K "Table" z3)
 (Hj:kn_ K "Pair" z4)
 (Mu:kn_ K "Either" z5)
 (Se:kn_ K "Together" z6)
 (Rh:kn_ K "Below" z7)
 (Rs:W.findIn K (.ref z0) "__class__" = some (some (.builtin "object.__class__")))
 (Mq:W.mroIn K z0 (.type "object")=some true)
 (Oo:W.kitOne K (.ref z0) (.ref z0)=some true)
 (RC:W.findIn K (.ref z1) "__class__" = some (some (.builtin "object.__class__")))
 (Pc:W.mroIn K z1 (.type "object")=some true)
 (PM:W.kitOne K (.ref z1) (.ref z0)=some true)
 (M4:W.findIn K (.ref z2) "__class__" = some (some (.builtin "object.__class__")))
 (Ko:W.mroIn K z2 (.type "object")=some true)
 (Nm:W.kitOne K (.ref z2) (.ref z0)=some true)
 (NX:W.findIn K (.ref z3) "__class__" = some (some (.builtin "object.__class__")))
 (Mn:W.mroIn K z3 (.type "object")=some true)
 (Jr:W.kitOne K (.ref z3) (.ref z0)=some true)
 (Mh:W.findIn K (.ref z4) "__class__" = some (some (.builtin "object.__class__")))
 (TM:W.mroIn K z4 (.type "object")=some true)
 (OK:W.kitOne K (.ref z4) (.ref z0)=some true)
 (Q1:W.findIn K (.ref z5) "__class__" = some (some (.builtin "object.__class__")))
 (Qd:W.mroIn K z5 (.type "object")=some true)
 (Mf:W.kitOne K (.ref z5) (.ref z0)=some true)
 (Lj:W.findIn K (.ref z6) "__class__" = some (some (.builtin "object.__class__")))
 (HG:W.mroIn K z6 (.type "object")=some true)
 (GU:W.kitOne K (.ref z6) (.ref z0)=some true)
 (JN:W.findIn K (.ref z7) "__class__" = some (some (.builtin "object.__class__")))
 (NV:W.mroIn K z7 (.type "object")=some true)
 (Rc:W.kitOne K (.ref z7) (.ref z0)=some true)
 (HL:W.specialIn K (.builtin "object.__class__") "__get__" = some (some (.builtin "getset_descriptor.__get__")))
 (LD:W.takesIn K (.builtin "object.__class__")=some true)
 (Li:W.findIn K (.ref z0) "__init__" = some (some (.builtin "object.__init__")))
 (RY:W.nsIn K mainGlobals "MOST_MINDS" = some (some (.int 60 z8)))
 (KL:W.nsIn K mainGlobals "MOST_SIZE" = some (some (.int 15 z9)))
 (HE:W.nsIn K mainGlobals "MOST_WISHES" = some (some (.int 24 VP)))
 (QN:W.plainGet K z0 Str.empty=true)
 (Ru:W.hasDictIn K z0=true)
 (Qn:W.plainOver K z0=true)
 (MY:W.findIn K (.ref z0) "__setattr__" = some (some (.builtin "object.__setattr__")))
 (Fm:W.makesIn K z0=true)
 (NQ:kq_ K z0)
 (K8:kg_ K z0 "minds" Ea)
 (JG:W.isFn K (.ref Ea)=true)
 (Jz:kf_ K Ea V5 VI "minds" "Keeper.minds" bD Xv Xq Xr VS UT XA WE)
 (PB:kc_ K UT "Keeper.minds")
 (yL:kq_ K Ea)
 (PX:kg_ K z0 "size" DB)
 (G8:W.isFn K (.ref DB)=true)
 (SZ:kf_ K DB VN V7 "size" "Keeper.size" aW U5 Vt VR Wu Uy W9 Vc)
 (Re:kc_ K Uy "Keeper.size")
 (Be:kq_ K DB)
 (Fs:kg_ K z0 "wish" zp)
 (PF:W.isFn K (.ref zp)=true)
 (J0:kf_ K zp XB VD "wish" "Keeper.wish" cZ VU Ws VM VG Ua VZ WZ)
 (MZ:kc_ K Ua "Keeper.wish")
 (Bu:kq_ K zp)
 (Pp:kg_ K z0 "after" AW)
 (Ob:W.isFn K (.ref AW)=true)
 (Ry:kf_ K AW Wm Vw "after" "Keeper.after" bB V9 Xo V4 V1 Um W7 WV)
 (P9:kc_ K Um "Keeper.after")
 (Bx:kq_ K AW)
 (Io:W.plainGet K z1 Str.empty=true)
 (RH:W.hasDictIn K z1=true)
 (HN:W.plainOver K z1=true)
 (OW:W.findIn K (.ref z1) "__setattr__" = some (some (.builtin "object.__setattr__")))
 (JD:W.makesIn K z1=true)
 (Ks:kq_ K z1)
 (Ni:W.findIn K (.ref z1) "sills" = some none)
 (Hn:kg_ K z1 "__init__" zx)
 (La:W.isFn K (.ref zx)=true)
 (RS:kf_ K zx W5 Vk "__init__" "Sills.__init__" cm WK Xy W1 W3 TR WR WY)
 (SU:kc_ K TR "Sills.__init__")
 (A0:kq_ K zx)
 (MG:kg_ K z1 "wish" yH)
 (TN:W.isFn K (.ref yH)=true)
 (K5:kf_ K yH Xj WW "wish" "Sills.wish" dy Vm V3 VT U8 UN WM VB)
 (Nz:kc_ K UN "Sills.wish")
 (yS:kq_ K yH)
 (HB:kg_ K z1 "is_wished" BH)
 (HU:W.isFn K (.ref BH)=true)
 (Hq:kf_ K BH Wg Vi "is_wished" "Sills.is_wished" ce Xw WD VJ WJ UZ WS Xz)
 (GV:kc_ K UZ "Sills.is_wished")
 (CZ:kq_ K BH)
 (F5:kg_ K z1 "minds" CC)
 (R6:W.isFn K (.ref CC)=true)
 (OP:kf_ K CC Wa Xa "minds" "Keeper.minds" bD Vz WG Va Wt Uj Xg VC)
 (Kn:kc_ K Uj "Keeper.minds")
 (DR:kq_ K CC)
 (Sn:kg_ K z1 "size" zd)
 (Mi:W.isFn K (.ref zd)=true)
 (QE:kf_ K zd Xc VQ "size" "Keeper.size" aW Wj Vx WU Wp UX Gs VX)
 (Qx:kc_ K UX "Keeper.size")
 (zB:kq_ K zd)
 (NY:kg_ K z1 "after" uh)
 (Ts:W.isFn K (.ref uh)=true)
 (HP:kf_ K uh Tc Qa "after" "Keeper.after" bB G1 OO N7 J3 zY Oi LZ)
 (Hz:kc_ K zY "Keeper.after")
 (ED:kq_ K uh)
 (F3:W.plainGet K z2 Str.empty=true)
 (Rz:W.hasDictIn K z2=true)
 (IV:W.plainOver K z2=true)
 (R0:W.findIn K (.ref z2) "__setattr__" = some (some (.builtin "object.__setattr__")))
 (IS:W.makesIn K z2=true)
 (QV:kq_ K z2)
 (HK:W.findIn K (.ref z2) "wishes" = some none)
 (Pw:kg_ K z2 "__init__" sg)
 (PV:W.isFn K (.ref sg)=true)
 (GR:kf_ K sg Q8 RR "__init__" "Clock.__init__" cq Gg LX Ho OA DG Tf Ka)
 (P4:kc_ K DG "Clock.__init__")
 (Bc:kq_ K sg)
 (Ny:kg_ K z2 "minds" tX)
 (O4:W.isFn K (.ref tX)=true)
 (GC:kf_ K tX Lg IR "minds" "Clock.minds" cW FW TK LI KO BG MN MW)
 (Nt:kc_ K BG "Clock.minds")
 (Bv:kq_ K tX)
 (Q9:kg_ K z2 "wish" rC)
 (Tk:W.isFn K (.ref rC)=true)
 (FE:kf_ K rC Mj Sr "wish" "Clock.wish" dw Nv Jv O2 O8 BC FO PK)
 (QK:kc_ K BC "Clock.wish")
 (AX:kq_ K rC)
 (Hx:kg_ K z2 "after" tz)
 (G3:W.isFn K (.ref tz)=true)
 (ME:kf_ K tz Jq NN "after" "Clock.after" dc Kx FD N2 Ia Dj Qz NR)
 (Op:kc_ K Dj "Clock.after")
 (Ei:kq_ K tz)
 (Ha:kg_ K z2 "size" sK)
 (IG:W.isFn K (.ref sK)=true)
 (Je:kf_ K sK QI Le "size" "Keeper.size" aW Go Hv Fn FS Cm QR GJ)
 (PU:kc_ K Cm "Keeper.size")
 (zE:kq_ K sK)
 (M8:W.plainGet K z3 Str.empty=true)
 (Nn:W.hasDictIn K z3=true)
 (L5:W.plainOver K z3=true)
 (F1:W.findIn K (.ref z3) "__setattr__" = some (some (.builtin "object.__setattr__")))
 (R9:W.makesIn K z3=true)
 (Hu:kq_ K z3)
 (MK:W.findIn K (.ref z3) "rows" = some none)
 (GI:W.findIn K (.ref z3) "other" = some none)
 (GQ:kg_ K z3 "__init__" sQ)
 (RF:W.isFn K (.ref sQ)=true)
 (NF:K.lookup sQ=some ⟨HC,Fq,.func (W.fnOf "__init__" "Table.__init__" (bc bo) (aM bo) (ah bo) (.ref x8) Hl M0 Px LF DH Mr),PR⟩)
 (Jc:kc_ K DH "Table.__init__")
 (Ac:kq_ K sQ)
 (LY:K.lookup x8=some ⟨KF,SM,.seq #[.none] Gy,SY⟩)
 (Oe:kg_ K z3 "minds" sy)
 (PZ:W.isFn K (.ref sy)=true)
 (GA:kf_ K sy Hb NW "minds" "Table.minds" c0 Ou Ii GN QM Eg Jx Qy)
 (Qo:kc_ K Eg "Table.minds")
 (zu:kq_ K sy)
 (On:kg_ K z3 "size" sV)
 (SR:W.isFn K (.ref sV)=true)
 (Gf:kf_ K sV Gn OD "size" "Table.size" dB FL F7 N3 PY Em KM Qt)
 (MV:kc_ K Em "Table.size")
 (A5:kq_ K sV)
 (NC:kg_ K z3 "wish" tQ)
 (SJ:W.isFn K (.ref tQ)=true)
 (MD:kf_ K tQ Tb Qc "wish" "Table.wish" dn OM Gr Gj SV D9 QJ FN)
 (Lx:kc_ K D9 "Table.wish")
 (Al:kq_ K tQ)
 (Qw:kg_ K z3 "after" tW)
 (JU:W.isFn K (.ref tW)=true)
 (Kk:kf_ K tW Ra Tu "after" "Table.after" df QH TH So ON Ay Lm M1)
 (Ht:kc_ K Ay "Table.after")
 (Ej:kq_ K tW)
 (IY:W.plainGet K z4 Str.empty=true)
 (Ti:W.hasDictIn K z4=true)
 (NJ:W.plainOver K z4=true)
 (FJ:W.findIn K (.ref z4) "__setattr__" = some (some (.builtin "object.__setattr__")))
 (IL:W.makesIn K z4=true)
 (Nl:kq_ K z4)
 (Mg:W.findIn K (.ref z4) "one" = some none)
 (Te:W.findIn K (.ref z4) "other" = some none)
 (Nb:kg_ K z4 "__init__" tF)
 (Ri:W.isFn K (.ref tF)=true)
 (HA:kf_ K tF O0 JQ "__init__" "Pair.__init__" aE LL Sz M7 FX Bj Nd Rt)
 (Gb:kc_ K Bj "Pair.__init__")
 (BE:kq_ K tF)
 (Gw:kg_ K z4 "minds" tj)
 (Fp:W.isFn K (.ref tj)=true)
 (OF:kf_ K tj FQ HD "minds" "Pair.minds" aO J4 Jn MP Pg DX Lp Jh)
 (Sy:kc_ K DX "Pair.minds")
 (EA:kq_ K tj)
 (Jl:kg_ K z4 "size" tO)
 (M3:W.isFn K (.ref tO)=true)
 (Gp:kf_ K tO NT PD "size" "Pair.size" aQ G4 Qk RU R1 zV Nq SB)
 (GG:kc_ K zV "Pair.size")
 (Bk:kq_ K tO)
 (JI:kg_ K z4 "wish" ut)
 (NZ:W.isFn K (.ref ut)=true)
 (HI:kf_ K ut Sd M2 "wish" "Pair.wish" d3 Gk Jj Tp R8 yU Lb Jk)
 (LM:kc_ K yU "Pair.wish")
 (B5:kq_ K ut)
 (Gz:kg_ K z4 "after" tJ)
 (Sl:W.isFn K (.ref tJ)=true)
 (J2:kf_ K tJ P6 FB "after" "Pair.after" aN FR KS Ot Sj EG Kr IB)
 (Ss:kc_ K EG "Pair.after")
 (DO:kq_ K tJ)
 (Fw:kg_ K z4 "wish_of_one" t6)
 (Ll:W.isFn K (.ref t6)=true)
 (Hf:kf_ K t6 Tn Hc "wish_of_one" "Pair.wish_of_one" aA Ma FY P2 Kb Cq IC Rb)
 (Pk:kc_ K Cq "Pair.wish_of_one")
 (Dx:kq_ K t6)
 (Ju:kg_ K z4 "wish_of_other" tw)
 (F8:W.isFn K (.ref tw)=true)
 (L1:kf_ K tw K3 JM "wish_of_other" "Pair.wish_of_other" ax NM LN KI Q7 zz LH Hg)
 (O5:kc_ K zz "Pair.wish_of_other")
 (BU:kq_ K tw)
 (G0:W.plainGet K z5 Str.empty=true)
 (Tr:W.hasDictIn K z5=true)
 (KH:W.plainOver K z5=true)
 (N5:W.findIn K (.ref z5) "__setattr__" = some (some (.builtin "object.__setattr__")))
 (Sk:W.makesIn K z5=true)
 (Lc:kq_ K z5)
 (Om:W.findIn K (.ref z5) "one" = some none)
 (L9:W.findIn K (.ref z5) "other" = some none)
 (Nw:kg_ K z5 "wish" ua)
 (N9:W.isFn K (.ref ua)=true)
 (Gi:kf_ K ua Im J1 "wish" "Either.wish" cR HZ QZ Mx HF CU Ir KD)
 (MF:kc_ K CU "Either.wish")
 (DJ:kq_ K ua)
 (FI:kg_ K z5 "__init__" sm)
 (Lh:W.isFn K (.ref sm)=true)
 (RW:kf_ K sm Q6 Rr "__init__" "Pair.__init__" aE LQ KA Ku To AV R5 G7)
 (MQ:kc_ K AV "Pair.__init__")
 (yK:kq_ K sm)
 (Qf:kg_ K z5 "minds" sx)
 (HW:W.isFn K (.ref sx)=true)
 (GY:kf_ K sx KZ M6 "minds" "Pair.minds" aO NA Rx FV Lq D7 Fx F6)
 (Iq:kc_ K D7 "Pair.minds")
 (zW:kq_ K sx)
 (NL:kg_ K z5 "size" rM)
 (JX:W.isFn K (.ref rM)=true)
 (FT:kf_ K rM Ov Qh "size" "Pair.size" aQ GZ LG Rk Iw Dk Nr JO)
 (Fo:kc_ K Dk "Pair.size")
 (AT:kq_ K rM)
 (J5:kg_ K z5 "after" tx)
 (Rv:W.isFn K (.ref tx)=true)
 (Oc:kf_ K tx J9 LP "after" "Pair.after" aN Ic Fz GS OU EC OB P1)
 (KG:kc_ K EC "Pair.after")
 (zX:kq_ K tx)
 (HV:kg_ K z5 "wish_of_one" tP)
 (Mc:W.isFn K (.ref tP)=true)
 (Sx:kf_ K tP RT GH "wish_of_one" "Pair.wish_of_one" aA K2 MT Sv RN zb FA Lv)
 (Rj:kc_ K zb "Pair.wish_of_one")
 (AF:kq_ K tP)
 (MR:kg_ K z5 "wish_of_other" rJ)
 (IH:W.isFn K (.ref rJ)=true)
 (Py:kf_ K rJ Td Qq "wish_of_other" "Pair.wish_of_other" ax Jy TC NE OY AD OV LO)
 (Jt:kc_ K AD "Pair.wish_of_other")
 (AM:kq_ K rJ)
 (OH:W.plainGet K z6 Str.empty=true)
 (QL:W.hasDictIn K z6=true)
 (Of:W.plainOver K z6=true)
 (Lo:W.findIn K (.ref z6) "__setattr__" = some (some (.builtin "object.__setattr__")))
 (Ke:W.makesIn K z6=true)
 (Tj:kq_ K z6)
 (P5:W.findIn K (.ref z6) "one" = some none)
 (SK:W.findIn K (.ref z6) "other" = some none)
 (Mw:kg_ K z6 "wish" tE)
 (QP:W.isFn K (.ref tE)=true)
 (Si:kf_ K tE Ps JA "wish" "Together.wish" cC PH Q5 SS Jp Bt Qr MS)
 (O1:kc_ K Bt "Together.wish")
 (Et:kq_ K tE)
 (Fy:kg_ K z6 "__init__" rT)
 (IK:W.isFn K (.ref rT)=true)
 (Nc:kf_ K rT KE JF "__init__" "Pair.__init__" aE HH L7 JH Hh Aq Jm O9)
 (NI:kc_ K Aq "Pair.__init__")
 (yJ:kq_ K rT)
 (Qv:kg_ K z6 "minds" sE)
 (I0:W.isFn K (.ref sE)=true)
 (Pa:kf_ K sE GM Pt "minds" "Pair.minds" aO IU Ga G9 RJ Er Hm Qm)
 (Gu:kc_ K Er "Pair.minds")
 (Ck:kq_ K sE)
 (QF:kg_ K z6 "size" rD)
 (IN:W.isFn K (.ref rD)=true)
 (Hi:kf_ K rD Oj R4 "size" "Pair.size" aQ NB RB Ml Ox Dh PL N0)
 (Ih:kc_ K Dh "Pair.size")
 (yP:kq_ K rD)
 (P7:kg_ K z6 "after" tN)
 (J8:W.isFn K (.ref tN)=true)
 (Na:kf_ K tN SA OE "after" "Pair.after" aN PC Ol My MI zA Q0 Su)
 (ID:kc_ K zA "Pair.after")
 (Dg:kq_ K tN)
 (GK:kg_ K z6 "wish_of_one" sT)
 (Ie:W.isFn K (.ref sT)=true)
 (KU:kf_ K sT Q3 FU "wish_of_one" "Pair.wish_of_one" aA LC N8 O3 Pb AS Ld QX)
 (Kl:kc_ K AS "Pair.wish_of_one")
 (DC:kq_ K sT)
 (Ng:kg_ K z6 "wish_of_other" rN)
 (HX:W.isFn K (.ref rN)=true)
 (RM:kf_ K rN RQ N4 "wish_of_other" "Pair.wish_of_other" ax RX Tt Ib LK Bh SQ JK)
 (zN:kc_ K Bh "Pair.wish_of_other")
 (wv:kq_ K rN)
 (An:W.plainGet K z7 Str.empty=true)
 (D4:W.hasDictIn K z7=true)
 (zn:W.plainOver K z7=true)
 (DZ:W.findIn K (.ref z7) "__setattr__" = some (some (.builtin "object.__setattr__")))
 (Es:W.makesIn K z7=true)
 (Ah:kq_ K z7)
 (DI:W.findIn K (.ref z7) "one" = some none)
 (zK:W.findIn K (.ref z7) "other" = some none)
 (zv:W.findIn K (.ref z7) "room" = some none)
 (By:W.findIn K (.ref z7) "band" = some none)
 (yQ:kg_ K z7 "__init__" rZ)
 (Ak:W.isFn K (.ref rZ)=true)
 (zo:kf_ K rZ K1 JV "__init__" "Below.__init__" cp HR KJ Nx QY AK HM Ph)
 (Do:kc_ K AK "Below.__init__")
 (wz:kq_ K rZ)
 (Dm:kg_ K z7 "wish" tH)
 (BZ:W.isFn K (.ref tH)=true)
 (Dz:kf_ K tH Hs Nj "wish" "Below.wish" dA Tl QO Ik Nu Bw Ix Og)
 (Ba:kc_ K Bw "Below.wish")
 (wH:kq_ K tH)
 (Eb:kg_ K z7 "minds" sG)
 (zH:W.isFn K (.ref sG)=true)
 (AI:kf_ K sG TJ No "minds" "Pair.minds" aO OC FP RL OZ DM Ls L0)
 (BQ:kc_ K DM "Pair.minds")
 (wV:kq_ K sG)
 (BJ:kg_ K z7 "size" rB)
 (BN:W.isFn K (.ref rB)=true)
 (CS:kf_ K rB LA QD "size" "Pair.size" aQ Jw Rn Rp Lf BY NU RA)
 (D5:kc_ K BY "Pair.size")
 (wK:kq_ K rB)
 (zL:kg_ K z7 "after" sd)
 (Aa:W.isFn K (.ref sd)=true)
 (zh:kf_ K sd Km Ly "after" "Pair.after" aN HQ Tv Lz L3 C6 Q4 Kj)
 (A8:kc_ K C6 "Pair.after")
 (wY:kq_ K sd)
 (D8:kg_ K z7 "wish_of_one" sS)
 (C7:W.isFn K (.ref sS)=true)
 (Ax:kf_ K sS Ky PQ "wish_of_one" "Pair.wish_of_one" aA RP SD PP Gv Bb QS G2)
 (Dv:kc_ K Bb "Pair.wish_of_one")
 (wD:kq_ K sS)
 (AO:kg_ K z7 "wish_of_other" up)
 (BI:W.isFn K (.ref up)=true)
 (Da:kf_ K up TD K0 "wish_of_other" "Pair.wish_of_other" ax Po Lk Sg IT Eu F0 Gd)
 (C5:kc_ K Eu "Pair.wish_of_other")
 (wG:kq_ K up)
 (zU:W.specialIn K (.ref z4) "__getattribute__" = some (some (.builtin "type.__getattribute__")))
 (AG:W.findCls K (.ref z4) (.type "type") "__init__" = some (.val (.ref u5)))
 (EJ:W.readsIn K z4 (.type "type")=true)
 (Ef:kf_ K u5 Gx Jd "__init__" "Pair.__init__" aE RI Oa P0 Mb As Nf Ge)
 (C9:kc_ K As "Pair.__init__")
 (wy:kq_ K u5)
 (BS:kn_ K "has_room" we)
 (C4:kf_ K we Th K7 "has_room" "has_room" eV Sq KR OR TL Au KP Kf)
 (AL:kc_ K Au "has_room")
 (zZ:kq_ K we)
 (Cg:kn_ K "with_room" u8)
 (Eh:kf_ K u8 Rg JJ "with_room" "with_room" dY Mt Pd IJ Pq CM Sc Me)
 (B6:kc_ K CM "with_room")
 (D6:kq_ K u8)
 (Dc:kn_ K "bits_of" vg)
 (CQ:kf_ K vg Mp Sa "bits_of" "bits_of" gc G6 Ig Lw Lu yT QG P8)
 (Af:kc_ K yT "bits_of")
 (AH:kq_ K vg)
 (Cj:kn_ K "look_at_size" vC)
 (Cz:kf_ K vC Pr JS "look_at_size" "look_at_size" cM Lr Iv QQ JC Az Gq FK)
 (AR:kc_ K Az "look_at_size")
 (Cn:kq_ K vC)
 (yM:kn_ K "_law_cell_at" vy)
 (BL:kf_ K vy Rm Oz "_law_cell_at" "_law_cell_at" cU K6 Kp SC RO Cb Iz Pj)
 (Bn:kc_ K Cb "_law_cell_at")
 (zG:kq_ K vy)
 (BX:kn_ K "_law_whole" vh)
 (zD:kf_ K vh MX Pm "_law_whole" "_law_whole" d5 P3 Od JY N1 yZ MO FF)
 (yR:kc_ K yZ "_law_whole")
 (BR:kq_ K vh)
 (AJ:kn_ K "_law_stream" vD)
 (EF:kf_ K vD TF LR "_law_stream" "_law_stream" dz G5 Ql Nh Ms zi OS Tz)
 (BD:kc_ K zi "_law_stream")
 (BB:kq_ K vD)
 (Cu:kn_ K "_law_in_bits" vJ)
 (Ez:kf_ K vJ Ft LB "_law_in_bits" "_law_in_bits" cY GB SO Mo KN CG NO FG)
 (zw:kc_ K CG "_law_in_bits")
 (Bq:kq_ K vJ)
 (DU:kn_ K "_law_state" v6)
 (EB:kf_ K v6 Hy Ro "_law_state" "_law_state" dW JZ JL IP MU zt Oq Hk)
 (zJ:kc_ K zt "_law_state")
 (Ds:kq_ K v6)
 (EK:kn_ K "_law_wish_by" v9)
 (En:kf_ K v9 Rl Mm "_law_wish_by" "_law_wish_by" de GF Kc Rf KC CP LW SE)
 (DW:kc_ K CP "_law_wish_by")
 (Av:kq_ K v9)
 (De:kn_ K "_law_mixed" vO)
 (Dr:kf_ K vO Kg K4 "_law_mixed" "_law_mixed" dZ GO Qb MJ Qs CI Gh RV)
 (Du:kc_ K CI "_law_mixed")
 (zF:kq_ K vO)
 (DQ:kn_ K "_law_minds_by" vV)
 (AN:kf_ K vV L6 FM "_law_minds_by" "_law_minds_by" cN N6 MB Pf SG C3 IE Tw)
 (DF:kc_ K C3 "_law_minds_by")
 (Cr:kq_ K vV)
 (CO:kn_ K "_law_after_by" vY)
 (y9:kf_ K vY Q2 F9 "_law_after_by" "_law_after_by" cK GL Ja QW QT CH Mz NP)
 (AY:kc_ K CH "_law_after_by")
 (zk:kq_ K vY)
 (EL:kn_ K "_law_size_by" vT)
 (Bm:kf_ K vT MM QA "_law_size_by" "_law_size_by" db Kh He Fv Pz DT LS Qj)
 (DE:kc_ K DT "_law_size_by")
 (Ca:kq_ K vT)
 (zm:kn_ K "_law_leaf_by" uX)
 (Db:kf_ K uX Sw R3 "_law_leaf_by" "_law_leaf_by" cS MH Tx Jo FC Ae PN JP)
 (yI:kc_ K Ae "_law_leaf_by")
 (AC:kq_ K uX)
 (Bo:kn_ K "_law_joined" wo)
 (zc:kf_ K wo JE JT "_law_joined" "_law_joined" dq O6 SL Os II BW Sh Ji)
 (Br:kc_ K BW "_law_joined")
 (Df:kq_ K wo)
 (zQ:kn_ K "_law_more" u9)
 (CY:kf_ K u9 NS Nk "_law_more" "_law_more" fh Hr IQ Kd OT DV JR MA)
 (Cp:kc_ K DV "_law_more")
 (Cy:kq_ K u9)
 (Cw:kn_ K "_law_told_right" vH)
 (Ex:kf_ K vH Pn Ta "_law_told_right" "_law_told_right" cx OQ R7 Sm GW B3 L8 SF)
 (At:kc_ K B3 "_law_told_right")
 (Ew:kq_ K vH)
 (zS:kn_ K "_law_walked" uL)
 (zC:kf_ K uL OX Fu "_law_walked" "_law_walked" dC IX OG RE Kz Ci NK RG)
 (za:kc_ K Ci "_law_walked")
 (C0:kq_ K uL)
 (zr:kn_ K "law" u6)
 (CB:kf_ K u6 F2 GP "law" "law" n6 HY Hw Ki LJ Cs Rw J7)
 (Ec:kc_ K Cs "law")
 (zT:kq_ K u6)
 (Eo:W.nsIn K mainGlobals "bool" = some none)
 (Ev:W.nsIn K mainGlobals "dict" = some none)
 (yV:W.nsIn K mainGlobals "divmod" = some none)
 (zj:W.nsIn K mainGlobals "int" = some none)
 (A2:W.nsIn K mainGlobals "isinstance" = some none)
 (El:W.nsIn K mainGlobals "len" = some none)
 (Dl:W.nsIn K mainGlobals "list" = some none)
 (DY:W.nsIn K mainGlobals "range" = some none)
 (A9:W.nsIn K mainGlobals "tuple" = some none)
 : Txt K mg ⟨z0,z1,z2,z3,z4,z5,z6,z7,x8⟩ :=
⟨YM X G Jg,
YM X G Qu,
YM X G JW,
YM X G F4,
YM X G Hj,
YM X G Mu,
YM X G Se,
YM X G Rh,
Rs,
Mq,
Oo,
RC,
Pc,
PM,
M4,
Ko,
Nm,
NX,
Mn,
Jr,
Mh,
TM,
OK,
Q1,
Qd,
Mf,
Lj,
HG,
GU,
JN,
NV,
Rc,
HL,
LD,
Li,
⟨_,YM X G RY⟩,
⟨_,YM X G KL⟩,
⟨_,YM X G HE⟩,
⟨QN,Ru,Qn,MY⟩,
⟨Fm,NQ⟩,
⟨Ea,_,⟨K8,JG,yL⟩,ay (st:=bD) Jz PB yL⟩,
⟨DB,_,⟨PX,G8,Be⟩,ay (st:=aW) SZ Re Be⟩,
⟨zp,_,⟨Fs,PF,Bu⟩,ay (st:=cZ) J0 MZ Bu⟩,
⟨AW,_,⟨Pp,Ob,Bx⟩,ay (st:=bB) Ry P9 Bx⟩,
⟨Io,RH,HN,OW⟩,
⟨JD,Ks⟩,
Ni,
⟨zx,_,⟨Hn,La,A0⟩,ay (st:=cm) RS SU A0⟩,
⟨yH,_,⟨MG,TN,yS⟩,ay (st:=dy) K5 Nz yS⟩,
⟨BH,_,⟨HB,HU,CZ⟩,ay (st:=ce) Hq GV CZ⟩,
⟨CC,_,⟨F5,R6,DR⟩,ay (st:=bD) OP Kn DR⟩,
⟨zd,_,⟨Sn,Mi,zB⟩,ay (st:=aW) QE Qx zB⟩,
⟨uh,_,⟨NY,Ts,ED⟩,ay (st:=bB) HP Hz ED⟩,
⟨F3,Rz,IV,R0⟩,
⟨IS,QV⟩,
HK,
⟨sg,_,⟨Pw,PV,Bc⟩,ay (st:=cq) GR P4 Bc⟩,
⟨tX,_,⟨Ny,O4,Bv⟩,ay (st:=cW) GC Nt Bv⟩,
⟨rC,_,⟨Q9,Tk,AX⟩,ay (st:=dw) FE QK AX⟩,
⟨tz,_,⟨Hx,G3,Ei⟩,ay (st:=dc) ME Op Ei⟩,
⟨sK,_,⟨Ha,IG,zE⟩,ay (st:=aW) Je PU zE⟩,
⟨M8,Nn,L5,F1⟩,
⟨R9,Hu⟩,
MK,
GI,
⟨sQ,_,⟨GQ,RF,Ac⟩,ay (st:=bo) NF Jc Ac⟩,
⟨_,_,_,LY,rfl,(.cons rfl .nil)⟩,
⟨sy,_,⟨Oe,PZ,zu⟩,ay (st:=c0) GA Qo zu⟩,
⟨sV,_,⟨On,SR,A5⟩,ay (st:=dB) Gf MV A5⟩,
⟨tQ,_,⟨NC,SJ,Al⟩,ay (st:=dn) MD Lx Al⟩,
⟨tW,_,⟨Qw,JU,Ej⟩,ay (st:=df) Kk Ht Ej⟩,
⟨IY,Ti,NJ,FJ⟩,
⟨IL,Nl⟩,
Mg,
Te,
⟨tF,_,⟨Nb,Ri,BE⟩,ay (st:=aE) HA Gb BE⟩,
⟨tj,_,⟨Gw,Fp,EA⟩,ay (st:=aO) OF Sy EA⟩,
⟨tO,_,⟨Jl,M3,Bk⟩,ay (st:=aQ) Gp GG Bk⟩,
⟨ut,_,⟨JI,NZ,B5⟩,ay (st:=d3) HI LM B5⟩,
⟨tJ,_,⟨Gz,Sl,DO⟩,ay (st:=aN) J2 Ss DO⟩,
⟨t6,_,⟨Fw,Ll,Dx⟩,ay (st:=aA) Hf Pk Dx⟩,
⟨tw,_,⟨Ju,F8,BU⟩,ay (st:=ax) L1 O5 BU⟩,
⟨G0,Tr,KH,N5⟩,
⟨Sk,Lc⟩,
Om,
L9,
⟨ua,_,⟨Nw,N9,DJ⟩,ay (st:=cR) Gi MF DJ⟩,
⟨sm,_,⟨FI,Lh,yK⟩,ay (st:=aE) RW MQ yK⟩,
⟨sx,_,⟨Qf,HW,zW⟩,ay (st:=aO) GY Iq zW⟩,
⟨rM,_,⟨NL,JX,AT⟩,ay (st:=aQ) FT Fo AT⟩,
⟨tx,_,⟨J5,Rv,zX⟩,ay (st:=aN) Oc KG zX⟩,
⟨tP,_,⟨HV,Mc,AF⟩,ay (st:=aA) Sx Rj AF⟩,
⟨rJ,_,⟨MR,IH,AM⟩,ay (st:=ax) Py Jt AM⟩,
⟨OH,QL,Of,Lo⟩,
⟨Ke,Tj⟩,
P5,
SK,
⟨tE,_,⟨Mw,QP,Et⟩,ay (st:=cC) Si O1 Et⟩,
⟨rT,_,⟨Fy,IK,yJ⟩,ay (st:=aE) Nc NI yJ⟩,
⟨sE,_,⟨Qv,I0,Ck⟩,ay (st:=aO) Pa Gu Ck⟩,
⟨rD,_,⟨QF,IN,yP⟩,ay (st:=aQ) Hi Ih yP⟩,
⟨tN,_,⟨P7,J8,Dg⟩,ay (st:=aN) Na ID Dg⟩,
⟨sT,_,⟨GK,Ie,DC⟩,ay (st:=aA) KU Kl DC⟩,
⟨rN,_,⟨Ng,HX,wv⟩,ay (st:=ax) RM zN wv⟩,
⟨An,D4,zn,DZ⟩,
⟨Es,Ah⟩,
DI,
zK,
zv,
By,
⟨rZ,_,⟨yQ,Ak,wz⟩,ay (st:=cp) zo Do wz⟩,
⟨tH,_,⟨Dm,BZ,wH⟩,ay (st:=dA) Dz Ba wH⟩,
⟨sG,_,⟨Eb,zH,wV⟩,ay (st:=aO) AI BQ wV⟩,
⟨rB,_,⟨BJ,BN,wK⟩,ay (st:=aQ) CS D5 wK⟩,
⟨sd,_,⟨zL,Aa,wY⟩,ay (st:=aN) zh A8 wY⟩,
⟨sS,_,⟨D8,C7,wD⟩,ay (st:=aA) Ax Dv wD⟩,
⟨up,_,⟨AO,BI,wG⟩,ay (st:=ax) Da C5 wG⟩,
⟨u5,_,⟨zU,⟨_,EJ,AG⟩,wy⟩,ay (st:=aE) Ef C9 wy⟩,
⟨we,_,YM X G BS,bT (st:=eV) C4 AL zZ⟩,
⟨u8,_,YM X G Cg,bT (st:=dY) Eh B6 D6⟩,
⟨vg,_,YM X G Dc,bT (st:=gc) CQ Af AH⟩,
⟨vC,_,YM X G Cj,bT (st:=cM) Cz AR Cn⟩,
⟨vy,_,YM X G yM,bT (st:=cU) BL Bn zG⟩,
⟨vh,_,YM X G BX,bT (st:=d5) zD yR BR⟩,
⟨vD,_,YM X G AJ,bT (st:=dz) EF BD BB⟩,
⟨vJ,_,YM X G Cu,bT (st:=cY) Ez zw Bq⟩,
⟨v6,_,YM X G DU,bT (st:=dW) EB zJ Ds⟩,
⟨v9,_,YM X G EK,bT (st:=de) En DW Av⟩,
⟨vO,_,YM X G De,bT (st:=dZ) Dr Du zF⟩,
⟨vV,_,YM X G DQ,bT (st:=cN) AN DF Cr⟩,
⟨vY,_,YM X G CO,bT (st:=cK) y9 AY zk⟩,
⟨vT,_,YM X G EL,bT (st:=db) Bm DE Ca⟩,
⟨uX,_,YM X G zm,bT (st:=cS) Db yI AC⟩,
⟨wo,_,YM X G Bo,bT (st:=dq) zc Br Df⟩,
⟨u9,_,YM X G zQ,bT (st:=fh) CY Cp Cy⟩,
⟨vH,_,YM X G Cw,bT (st:=cx) Ex At Ew⟩,
⟨uL,_,YM X G zS,bT (st:=dC) zC za C0⟩,
⟨u6,_,YM X G zr,bT (st:=n6) CB Ec zT⟩,
Y5 X G Eo,
Y5 X G Ev,
Y5 X G yV,
Y5 X G zj,
Y5 X G A2,
Y5 X G El,
Y5 X G Dl,
Y5 X G DY,
Y5 X G A9⟩
section
variable {P:Program} {w:World} {K:W.Frag} {mg:Str->Option Value} {base:Heap} {Ad:UP}
def jv {lo:Int} {n:Nat} {g:TG} {tb:TS} {D:Ends} {U:L2.St} {H:Hp} (Pv:Nat->L2.St->Hp->Prop) (h0:Pv 0 U H) (hs:let G:Nat->L2.St->Hp->Prop:=λ i U H=>g (.int (lo+i)) U H λ σ2 H2=>tb { D with nx:=Pv (i+1),ct:=Pv (i+1),bk:=D.nx } σ2 H2
   ∀ (i:Nat) (U:L2.St) (H:Hp),i<n->Pv i U H->G i U H) (hd:∀ U H,Pv n U H->D.nx U H):=qw (lo:=lo) (n:=n) (g:=g) (tb:=tb) (D:=D) (U:=U) (H:=H) Pv h0 hs hd
def f8 {K:W.Frag} {a:Addr} {xs:List V} {g:TG} {tb:TS} {D:Ends} {U:L2.St} {H:Hp} (Pv:Nat->L2.St->Hp->Prop) (h0:Pv 0 U H) (hl:∀ i U H,i<=xs.length->Pv i U H->cg K H a xs) (hs:let G:Nat->V->L2.St->Hp->Prop:=λ i x U H=>g x U H λ σ2 H2=>tb { D with nx:=Pv (i+1),ct:=Pv (i+1),bk:=D.nx } σ2 H2
   ∀ (i:Nat) (x:V) (U:L2.St) (H:Hp),xs[i]?=some x->Pv i U H->G i x U H) (hd:∀ U H,Pv xs.length U H->D.nx U H):=tR (K:=K) (a:=a) (xs:=xs) (g:=g) (tb:=tb) (D:=D) (U:=U) (H:=H) Pv h0 hl hs hd
theorem nF (T:Txt K mg Ad):Def P w K mg base "has_room" 1 ["bits","room"] nZ:=by
 refine T.oQ.eZ ni λ f aP A outer s H vs Q E hr h=>?_
 obtain ⟨n,r,rfl,k⟩:=h
 refine ⟨_,(ak (aq (d7 cy (ar aD (ar u7 (pv 0) (pv 1)) ac) ac (aG _)))),?_⟩
 try dsimp only [eG,aT]
 refine ⟨_,rfl,_,rfl,_,_,rfl,rfl,Zt _,λ s es=>⟨_,_,rfl,rfl,by decide,λ m _ _ em=>⟨rfl,?_⟩⟩⟩
 rw [vX n r es em]
 exact k
theorem l5 (T:Txt K mg Ad):Def P w K mg base "with_room" 1 ["bits","room"] mK:=by
 refine T.ol.eZ l8 λ f aP A outer s H vs Q E hr h=>?_
 obtain ⟨n,r,rfl,Ye,k⟩:=h
 refine ⟨_,(ak (aq (ar uf (pv 0) (ar vK ac (pv 1))))),?_⟩
 try dsimp only [eG,aT]
 refine ⟨_,rfl,_,rfl,_,_,rfl,rfl,⟨Zt _,by lia,by decide⟩,λ s es=>⟨_,_,rfl,rfl,λ m em=>?_⟩⟩
 have e1:s=((2 ^ r:Nat):Int):=by rw [es,Int.toNat_natCast,Int.one_mul,Int.natCast_pow];rfl
 rw [em,e1,k9]
 exact k
theorem lS {l:List Int} {r n:Nat} (hl:l.length=n) (h:r<n):mS (l.map V.int) (r:Int)=some (.int (l.getD r 0)):=by
 have h':r<l.length:=by lia
 rw [YC,dv h']
 exact aJ (by rw [YN,dv h'];rfl)
inductive oN (K:W.Frag) (vs:List V) (H:Hp) (Q:VK) (_E:XK):Prop
 | mk (p l:_) (_:vs=[.ref p]) (_:cg K H p (l.map aw)) (_:(∀ r∈l,r<=1000)) (_:Q (aw (xy l 0)) H)
theorem oP (T:Txt K mg Ad):Def P w K mg base "bits_of" 2 ["rooms"] (oN K):=by
 refine T.qR.eZ eY λ f aP A outer s H vs Q E hr h=>?_
 obtain ⟨p,l,rfl,hp,hl,k⟩:=h
 refine ⟨_,(aj (aL (i:=1) eY.nd rfl (lc rfl) ac)
     (aj (gw YZ rfl (jd (pv 0)) (bE (i:=2) eY.nd rfl (lc rfl)) (ak (aL (i:=1) eY.nd rfl (lc rfl) (au (l5 (K:=K) T) hr.m (aa (pv 1) (aa (pv 2) ag))))))
     (ak (aq (pv 1))))),?_⟩
 try dsimp only [eG,aT]
 first|(refine eJ ?_;intro _ _ _ _)|skip
 refine ⟨_,rfl,p,rfl,⟨_,hp⟩,?_⟩
 refine f8 (K:=K) (a:=p) (xs:=l.map aw) (λ i U H'=>H'=H/\∃ v,U=[some (.ref p),some (aw (xy (l.take i) 0)),v]) ⟨rfl,none,rfl⟩ (λ i U H' _ e=>by rw [e.1];exact hp) ?_ ?_
 . rintro _ i x U H' hx ⟨rfl,v,rfl⟩
   obtain ⟨r,er,rfl⟩:=sB hx
   exact ⟨_,rfl,_,rfl,_,r,rfl,hl r (YH er),rfl,_,by rw [ue er];rfl⟩
 . rintro U H' ⟨rfl,v,rfl⟩
   rw [ET,List.take_length]
   exact ⟨_,rfl,k⟩
inductive jg  (vs:List V) (H:Hp) (Q:VK) (_E:XK):Prop
 | mk (v:_) (_:vs=[v]) (_:Q (.int 1) H)
inductive mj  (vs:List V) (H:Hp) (Q:VK) (_E:XK):Prop
 | mk (a b c:_) (_:vs=[a,b,c]) (_:Q (.int 0) H)
theorem hW (T:Txt K mg Ad):bv P w K mg base Ad.Keeper "minds" 1 ["self"] [] jg:=by
 refine T.jz.cf fj λ f aP A outer s H vs Q E hr h=>?_
 obtain ⟨v,rfl,k⟩:=h
 exact ⟨_,(ak (aq ac)),k⟩
theorem i9 (T:Txt K mg Ad):bv P w K mg base Ad.Keeper "size" 1 ["self"] [] jg:=by
 refine T.kh.cf dP λ f aP A outer s H vs Q E hr h=>?_
 obtain ⟨v,rfl,k⟩:=h
 exact ⟨_,(ak (aq ac)),k⟩
theorem iY (T:Txt K mg Ad):bv P w K mg base Ad.Keeper "wish" 1 ["self","mind","state"] [] mj:=by
 refine T.ky.cf jF λ f aP A outer s H vs Q E hr h=>?_
 obtain ⟨a,b,c,rfl,k⟩:=h
 exact ⟨_,(ak (aq ac)),k⟩
theorem ig (T:Txt K mg Ad):bv P w K mg base Ad.Keeper "after" 1 ["self","mind","state"] [] mj:=by
 refine T.jo.cf fk λ f aP A outer s H vs Q E hr h=>?_
 obtain ⟨a,b,c,rfl,k⟩:=h
 exact ⟨_,(ak (aq ac)),k⟩
theorem iX (T:Txt K mg Ad):bv P w K mg base Ad.bV "minds" 1 ["self"] [] jg:=by
 refine T.kD.cf fj λ f aP A outer s H vs Q E hr h=>?_
 obtain ⟨v,rfl,k⟩:=h
 exact ⟨_,(ak (aq ac)),k⟩
theorem jB (T:Txt K mg Ad):bv P w K mg base Ad.bV "size" 1 ["self"] [] jg:=by
 refine T.lP.cf dP λ f aP A outer s H vs Q E hr h=>?_
 obtain ⟨v,rfl,k⟩:=h
 exact ⟨_,(ak (aq ac)),k⟩
theorem i7 (T:Txt K mg Ad):bv P w K mg base Ad.bV "after" 1 ["self","mind","state"] [] mj:=by
 refine T.kM.cf fk λ f aP A outer s H vs Q E hr h=>?_
 obtain ⟨a,b,c,rfl,k⟩:=h
 exact ⟨_,(ak (aq ac)),k⟩
def xO (H:Hp) (kvs:List (Key×V)) (S:List (Nat×Int×Int)):Prop:=kvs.length=S.length/\∀ (i:Nat) (kv:Key×V) (r:Nat×Int×Int),kvs[i]?=some kv->S[i]?=some r->kv.1 = .inl (r.1:Int)/\∃ p,kv.2 = .ref p/\H p=some (.tup [.int r.2.1,.int r.2.2])
theorem xx {H:Hp} {a:Addr} {o:HO} (h:H a=some o):upd H a o=H:=by
 funext b;unfold upd;split
 . subst_vars;exact h.symm
 . rfl
def Ug (H:Hp) (d:Addr) (kvs:List (Key×V)) (S:List (Nat×Int×Int)):Prop:=H d=some (.dK kvs)/\xO H kvs S
inductive tG (C:Addr) (vs:List V) (H:Hp) (Q:VK) (_E:XK):Prop
 | mk (x dx p kvs S:_) (_:vs=[.ref x,.ref p]) (_:H x=some (.ins C dx [])) (_:H dx=some (.own x)) (_:Ug H p kvs S) (_:(∀ r∈S,r.2.1<=r.2.2)) (_:∀ pd H',(∀ b o,H b=some o->b≠x->H' b=some o)->H' x=some (.ins C dx [("sills",.ref pd)])->H pd=none->H' pd=some (.dK kvs)->Q .bG H')
theorem gy (T:Txt K mg Ad):bv P w K mg base Ad.bV "__init__" 1 ["self","sills"] [] (tG Ad.bV):=by
 refine T.ix.cf cO λ f aP A outer s H vs Q E hr h=>?_
 obtain ⟨x,dx,p,kvs,S,rfl,hx,dI,⟨hp,hv⟩,ok,k⟩:=h
 refine ⟨_,(aj (v5 (gw YZ rfl (vx (pv 1)) (mC (K:=K) (n:=2) rfl rfl (eO (bE (i:=2) cO.nd rfl (lc rfl)) (eO (bE (i:=3) cO.nd rfl (lc rfl)) ma))) (ak (bh (aC iA (pv 2) (pv 3) (aG _)) (ak g7) aF))))
     (ak (fY (pv 0) (bA kK (by rfl) T.mn jf (aa (pv 1) ag)) rfl))),?_⟩
 try dsimp only [eG,aT]
 refine ⟨p,kvs,hp,λ ob=>⟨_,rfl,p,ob,kvs,rfl,ae,?_⟩⟩
 refine ud (λ i U H'=>H'=upd H p (Fd ob kvs)/\E2 λ (v1 v2:Option V)=>U=[some (.ref x),some (.ref p),v1,v2]) ⟨rfl,none,none,rfl⟩ (λ i U H' _ e=>by rw [e.1];exact ae) ?_ ?_
 .
  rintro i kv U H' hk ⟨rfl,v1,v2,rfl⟩
  obtain ⟨r,sN⟩:∃ r,S[i]?=some r:=⟨_,Yx (by rw [← hv.1];exact (List.getElem?_eq_some_iff.mp hk).1)⟩
  obtain ⟨e,t,e2,ht⟩:=hv.2 i kv r hk sN
  have:=ok r (YH sN)
  have tp:t≠p:=qa ht hp nofun
  refine ⟨t,_,e2,aK.of (by rw [aB tp];exact ht),rfl,_,_,rfl,_,_,rfl,rfl,?_⟩
  refine ⟨_,rfl,_,rfl,_,_,rfl,rfl,_,rfl,cn (by lia) ⟨rfl,_,_,rfl⟩⟩
 .
  rintro U H' ⟨rfl,v1,v2,rfl⟩
  refine ⟨ae,?_⟩
  rw [vn,xx hp]
  refine ⟨_,rfl,p,kvs,rfl,.inl hp,λ pd oz=>?_⟩
  have x3:x≠pd:=aH hx oz
  refine ⟨_,rfl,x,_,dx,_,rfl,by rw [aB x3];exact hx,T.dG,T.dH,lt1000 rfl,k pd _ (λ b o hb n=>?_) ae oz ?_⟩
  . rw [aB n,aB (aH hb oz)];exact hb
  . rw [aB x3.symm];exact ae
def gL (lo hi:Int) (bs:List Int) (bu r:Nat):Bool:=decide (bs.getD r 0<if bu.testBit r=true then hi else lo)
inductive nh (C:Addr) (vs:List V) (H:Hp) (Q:VK) (_E:XK):Prop
 | mk (a dx pd kvs:_) (r:Nat) (p ps lo hi:_) (bs ws fs:List Int) (bu:Nat) (hp:_) (n:Nat) (_:vs=[.ref a,aw r,.ref ps]) (_:H a=some (.ins C dx [("sills",.ref pd)])) (_:Rd H pd (.dK kvs)) (_:il kvs (.inl (r:Int))=some (.ref p)) (_:H p=some (.tup [.int lo,.int hi])) (_:mY H ps bs ws fs (bu:Int) hp) (_:bs.length=n) (_:r<n) (_:n<=4) (_:Q (.bl (gL lo hi bs bu r)) H)
theorem gk (T:Txt K mg Ad):bv P w K mg base Ad.bV "is_wished" 2 ["self","room","state"] [] (nh Ad.bV):=by
 refine T.gW.cf cF λ f aP A outer s H vs Q E hr h=>?_
 obtain ⟨a,dx,pd,kvs,r,p,ps,lo,hi,bs,ws,fs,bu,hp,n,rfl,ha,oz,hv,Xk,⟨pb,pw,pf,h1,h2,h3,h4⟩,lb,rn,n4,k⟩:=h
 refine ⟨_,(aj (sP (uT (Dw hr) (aZ (pv 0) rfl) (pv 1) (λ _ _=>rfl)) (mC (K:=K) (n:=2) rfl rfl (eO (bE (i:=3) cF.nd rfl (lc rfl)) (eO (bE (i:=4) cF.nd rfl (lc rfl)) ma))))
     (ak (aq (d7 jH (ao al (ao al (pv 2) ac (λ _ _=>rfl)) (pv 1) (λ _ _=>rfl)) (fH (eE (au (nF (K:=K) T) hr.m (aa (ao al (pv 2) ac (λ _ _=>rfl)) (aa (pv 1) ag)))) (pv 4) (pv 3)) (aG _))))),?_⟩
 try dsimp only [eG,aT]
 refine ⟨_,rfl,a,_,dx,_,_,rfl,ha,T.dG,T.dH,rfl,_,rfl,pd,_,rfl,.inl ⟨kvs,.inl r,oz,rfl,hv.symm⟩,?_⟩
 refine ⟨p,_,rfl,aK.of Xk,rfl,_,_,rfl,_,_,rfl,rfl,?_⟩
 refine ⟨_,rfl,_,_,_,_,rfl,rfl,.inr (aK.of h1),rfl,_,rfl,_,_,_,_,rfl,rfl,.inr (aK.of h2),lS lb rn,?_⟩
 refine ⟨_,rfl,_,_,_,_,rfl,rfl,.inr (aK.of h1),rfl,_,rfl,bu,r,rfl,_,rfl,?_⟩
 unfold gL at k
 cases q:bu.testBit r with
 | true=>rw [q,YK rfl] at k;exact eN ⟨_,rfl,_,_,rfl,rfl,k⟩
 | false=>rw [q,YG EE] at k;exact fP ⟨_,rfl,_,_,rfl,rfl,k⟩
def gK (S:List (Nat×Int×Int)) (bs:List Int) (bu:Nat):List Nat:=(S.filter λ r=>gL r.2.1 r.2.2 bs bu r.1).map (·.1)
def AU (C:Addr) (H:Hp) (a:Addr) (kvs:List (Key×V)) (S:List (Nat×Int×Int)):Prop:=∃ dx pd,H a=some (.ins C dx [("sills",.ref pd)])/\H dx=some (.own a)/\Ug H pd kvs S
theorem o6 {S:List (Nat×Int×Int)} {bs:List Int} {bu i:Nat} {r:Nat×Int×Int} (h:S[i]?=some r):(gK (S.take (i+1)) bs bu).map aw=(gK (S.take i) bs bu).map aw++(if gL r.2.1 r.2.2 bs bu r.1=true then [aw r.1] else []):=by
 have:S.take (i+1)=S.take i++[r]:=by rw [List.take_succ,h];rfl
 unfold gK
 rw [this,List.filter_append,YY,YY]
 by_cases q:gL r.2.1 r.2.2 bs bu r.1=true<;>simp [q]
theorem uv:∀ {kvs:List (Key×V)} {i:Nat} {kv:Key×V},(kvs.map (·.1)).Nodup->kvs[i]?=some kv->il kvs kv.1=some kv.2
 | c::kvs,0,kv,_,e=>by cases e;simp [il]
 | c::kvs,i+1,kv,nd,e=>by
   have e:kvs[i]?=some kv:=e
   have UM:=List.nodup_cons.mp nd
   have ne:¬ c.1=kv.1:=λ z=>UM.1 (by show c.1∈_;rw [z];exact List.mem_map.mpr ⟨kv,YH e,rfl⟩)
   have:=uv UM.2 e
   unfold il at this ⊢
   rw [List.find?_cons_of_neg (by simpa using ne)]
   exact this
inductive um (C:Addr) (vs:List V) (H:Hp) (Q:VK) (_E:XK):Prop
 | mk (a m ps kvs S:_) (bs ws fs:List Int) (bu:Nat) (hp:_) (n:Nat) (_:vs=[.ref a,m,.ref ps]) (_:AU C H a kvs S) (_:(kvs.map (·.1)).Nodup) (_:mY H ps bs ws fs (bu:Int) hp) (_:bs.length=n) (_:n<=4) (_:S.length<=10) (_:(∀ r∈S,r.1<n)) (_:∀ H',az H H'->Q (aw (xy (gK S bs bu) 0)) H')
theorem jY (T:Txt K mg Ad):bv P w K mg base Ad.bV "wish" 5 ["self","mind","state"] [] (um Ad.bV):=by
 refine T.md.cf ki λ f aP A outer s H vs Q E hr h=>?_
 obtain ⟨a,m,ps,kvs,S,bs,ws,fs,bu,hp,n,rfl,⟨dx,pd,ha,dI,oz,hv⟩,nd,sa,lb,n4,X4,ok,k⟩:=h
 refine ⟨_,(ak (aq (au (oP (K:=K) T) hr.m (aa (vo (p6 ["room"] ["state","self"] [2,0] (.cons ⟨rfl,rfl,.inl rfl⟩ (.cons ⟨rfl,rfl,.inl rfl⟩ .nil)) rfl (vc (aZ (pv 0) rfl)) (λ _ _ _ _ _=>(bE (i:=0) (show (["room","state","self"]:List Str).Nodup by decide +kernel) rfl (lc rfl))) (λ _ _ _ _ _=>(uK (eE (cz (P:=P) (w:=w) (K:=K) (mg:=mg) (base:=base) (k:=4) ⟨rfl,rfl,rfl,rfl,rfl⟩ (pv 2) hr (aa (pv 0) (aa (pv 1) ag)))))) (λ _ _ _ _ _=>(pv 0)) rfl (by decide +kernel) (by decide +kernel) (by decide +kernel))) ag)))),?_⟩
 try dsimp only [eG,aT]
 have na:a≠pd:=qa ha oz nofun
 refine ⟨pd,kvs,oz,λ ob=>⟨_,rfl,a,_,dx,_,_,rfl,by rw [aB na];exact ha,T.dG,T.dH,rfl,pd,ob,kvs,rfl,ae,λ D hD=>?_⟩⟩
 have s0:=ap (o:=.lst []) hD
 have tp:∀ b xs,H b=some (.tup xs)->upd H pd (Fd ob kvs) b=some (.tup xs):=λ b xs e=>by rw [aB (qa e oz nofun)];exact e
 refine qK (d:=pd) (ob:=ob) (kvs:=kvs) (λ i acc U H'=>A4 (az (upd H pd (Fd ob kvs)) H') (H' D=some (.lst acc)) (acc=(gK (S.take i) bs bu).map aw) (∃ (v1:Option V),U=[v1,some (.ref ps),some (.ref a)]))
   ⟨s0,ae,rfl,none,rfl⟩ (λ i acc U H' _ e=>e.1 _ _ ae) ?_ ?_
 .
  rintro i kv acc U H' hk ⟨s1,qv,rfl,v1,rfl⟩
  obtain ⟨r,sN⟩:∃ r,S[i]?=some r:=⟨_,Yx (by rw [← hv.1];exact (List.getElem?_eq_some_iff.mp hk).1)⟩
  obtain ⟨e,t,e2,ht⟩:=hv.2 i kv r hk sN
  have VA:=ok r (YH sN)
  have vk:=uv nd hk
  rw [e,e2] at vk
  have Wi:mY H' ps bs ws fs (bu:Int) hp:=by
    obtain ⟨pb,pw,pf,h1,h2,h3,h4⟩:=sa
    exact ⟨pb,pw,pf,s1 _ _ (tp _ _ h1),s1 _ _ (tp _ _ h2),s1 _ _ (tp _ _ h3),s1 _ _ (tp _ _ h4)⟩
  have Uh:H' a=some (.ins Ad.bV dx [("sills",.ref pd)]):=s1 _ _ (by rw [aB na];exact ha)
  have nx:=o6 (bs:=bs) (bu:=bu) sN
  have ln:((gK (S.take i) bs bu).map aw).length<=10:=by
    unfold gK
    rw [ET,ET]
    exact YL (List.length_filter_le _ _) (by rw [Zf];lia)
  rw [e]
  refine ⟨_,rfl,Ad.bV,a,dx,_,_,_,rfl,Uh,rfl,T.dG,(gk T).mono (by decide),_,rfl,_,rfl,a,dx,pd,kvs,r.1,t,ps,r.2.1,r.2.2,bs,ws,fs,bu,hp,n,rfl,Uh,.inr ⟨ob,s1 _ _ ae⟩,vk,s1 _ _ (tp _ _ ht),Wi,lb,VA,n4,_,rfl,?_⟩
  cases q:gL r.2.1 r.2.2 bs bu r.1 with
  | true =>
    rw [q,YK rfl] at nx
    exact eN ⟨_,rfl,qv,cu (by lia),s1.put hD,ae,nx.symm,_,rfl⟩
  | false =>
    rw [q,YG EE,List.append_nil] at nx
    exact fP ⟨s1,qv,nx.symm,_,rfl⟩
 .
  rintro acc U H' ⟨s1,qv,rfl,v1,rfl⟩
  rw [hv.1,List.take_length] at qv
  have nD:D≠pd:=λ z=>by rw [z,ae] at hD;cases hD
  refine ⟨s1 _ _ ae,D,_,rfl,cg.of (by rw [aB nD];exact qv),λ r hr=>?_,k _ λ b o hb=>?_⟩
  . obtain ⟨x,hm,rfl⟩:=List.mem_map.mp hr
    have:=ok x (List.mem_filter.mp hm).1
    lia
  . by_cases Jb:b=pd
    . subst Jb;rw [ae,← oz,hb]
    . rw [aB Jb];exact s1 _ _ (by rw [aB Jb];exact hb)
theorem i3 (T:Txt K mg Ad):bv P w K mg base Ad.Clock "minds" 1 ["self"] [] (qp Ad.Clock):=by
 refine T.kS.cf jm λ f aP A outer s H vs Q E hr h=>?_
 obtain ⟨a,ws,rfl,⟨dx,pw,ha,dI,ro,_⟩,k⟩:=h
 refine ⟨_,(ak (aq (bK cb (by rfl) T.gq eo (aa (aZ (pv 0) rfl) ag)))),?_⟩
 try dsimp only [eG,aT]
 exact ⟨_,rfl,a,_,dx,_,_,rfl,ha,T.dR,T.cD,rfl,pw,_,rfl,.inl (cg.of ro),λ r er=>by rw [er,ET];exact k⟩
theorem jE (T:Txt K mg Ad):bv P w K mg base Ad.Clock "size" 1 ["self"] [] rX:=by
 refine T.mO.cf dP λ f aP A outer s H vs Q E hr h=>?_
 obtain ⟨v,rfl,k⟩:=h
 exact ⟨_,(ak (aq ac)),k⟩
theorem jP (T:Txt K mg Ad):bv P w K mg base Ad.Clock "wish" 1 ["self","mind","state"] [] (rF Ad.Clock):=by
 refine T.mM.cf kg λ f aP A outer s H vs Q E hr h=>?_
 obtain ⟨a,ws,i,z,st,rfl,⟨dx,pw,ha,dI,ro,_⟩,hz,k⟩:=h
 refine ⟨_,(ak (aq (ao al (aZ (pv 0) rfl) (pv 1) (λ _ _=>rfl)))),?_⟩
 try dsimp only [eG,aT]
 exact ⟨_,rfl,a,_,dx,_,_,rfl,ha,T.dR,T.cD,rfl,_,rfl,pw,_,_,_,rfl,rfl,.inl (cg.of ro),aJ (by rw [YN,hz];rfl),k⟩
theorem iQ (T:Txt K mg Ad):bv P w K mg base Ad.Clock "after" 1 ["self","mind","state"] [] (qY Ad.Clock):=by
 refine T.kF.cf jx λ f aP A outer s H vs Q E hr h=>?_
 obtain ⟨a,ws,i,st,rfl,⟨dx,pw,ha,dI,ro,l1,_⟩,k⟩:=h
 refine ⟨_,(ak (aq (ar aD (ar aS (pv 1) ac) (bK cb (by rfl) T.gq eo (aa (aZ (pv 0) rfl) ag))))),?_⟩
 try dsimp only [eG,aT]
 refine ⟨_,rfl,_,_,rfl,rfl,λ y ey=>⟨_,rfl,a,_,dx,_,_,rfl,ha,T.dR,T.cD,rfl,pw,_,rfl,.inl (cg.of ro),λ r er=>⟨_,_,rfl,rfl,by rw [er,ET];lia,λ q q0 q1 eq=>?_⟩⟩⟩
 have e:q=(((i+1) % ws.length:Nat):Int):=by rw [eq,ey,er,ET];push_cast;rfl
 rw [e]
 exact k
inductive o0 (C:Addr) (K:W.Frag) (vs:List V) (H:Hp) (Q:VK) (_E:XK):Prop
 | mk (x dx p:_) (ws:List Int) (_:vs=[.ref x,.ref p]) (_:H x=some (.ins C dx [])) (_:H dx=some (.own x)) (_:cg K H p (ws.map V.int)) (_:1<=ws.length) (_:ws.length<=24) (_:∀ pw H',(∀ b o,H b=some o->b≠x->H' b=some o)->H pw=none->H' x=some (.ins C dx [("wishes",.ref pw)])->H' dx=some (.own x)->H' pw=some (.lst (ws.map V.int))->Q .bG H')
theorem gB (T:Txt K mg Ad):bv P w K mg base Ad.Clock "__init__" 1 ["self","wishes"] [] (o0 Ad.Clock K):=by
 refine T.io.cf g9 λ f aP A outer s H vs Q E hr h=>?_
 obtain ⟨x,dx,p,ws,rfl,hx,dI,hp,l1,l2,k⟩:=h
 refine ⟨_,(aj (bh (fg (su xl xl ac (bK cb (by rfl) T.gq eo (aa (pv 1) ag)) (jw rfl T.kt))) (ak g7) aF)
     (ak (fY (pv 0) (bA gR (by rfl) T.rR pT (aa (pv 1) ag)) rfl))),?_⟩
 try dsimp only [eG,aT]
 refine ⟨_,rfl,p,_,rfl,.inl hp,λ r er=>?_⟩
 rw [ET] at er
 refine ⟨_,_,rfl,rfl,_,rfl,iq (by lia) ⟨_,_,rfl,rfl,_,rfl,rE (by lia) ?_⟩⟩
 refine ⟨_,rfl,p,_,rfl,.inl hp,λ pw ro=>?_⟩
 have x3:x≠pw:=aH hx ro
 refine ⟨_,rfl,x,_,dx,_,rfl,by rw [aB x3];exact hx,T.dR,T.cD,lt1000 rfl,k pw _ (λ b o hb n=>?_) ro ae ?_ ?_⟩
 . rw [aB n,aB (aH hb ro)];exact hb
 . rw [aB (js dI hx nofun),aB (aH dI ro)];exact dI
 . rw [aB x3.symm];exact ae
theorem qO (T:Txt K mg Ad) {H:Hp} {a dx:Addr} {n:Nat} (h:H a=some (.ins Ad.Keeper dx [])) (n4:n<=4):KX P w K mg base Ad.Keeper n H a .bG 5 :=
 ⟨⟨_,dx,[],_,_,_,_,h,⟨rfl,rfl,rfl,rfl⟩,T.iy,(hW T).mono (by decide),(i9 T).mono (by decide),(iY T).mono (by decide),(ig T).mono (by decide),λ _ k=>⟨_,rfl,k⟩,λ _ k=>⟨_,rfl,k⟩,λ _ _ _ _ k=>⟨_,_,_,rfl,k _ (az.refl _)⟩,λ _ _ _ _ k=>⟨_,_,_,rfl,k _ (az.refl _)⟩,
   .ins h T.iy T.kW T.dh T.ca T.lr,λ q => .ins (q _ _ h) T.iy T.kW T.dh T.ca T.lr,T.qU⟩,trivial,n4,by decide,by decide⟩
theorem sO (T:Txt K mg Ad) {H:Hp} {a:Addr} {n:Nat} {ws:List Nat} (h:eT Ad.Clock H a (ws.map Int.ofNat)) (ok:ND.Ok n (.cH ws)) (n4:n<=4):KX P w K mg base Ad.Keeper n H a (.cH ws) 5:=by
 obtain ⟨dx,pw,h1,h2,h3,h4,h5⟩:=id h
 have lw:(ws.map Int.ofNat).length=ws.length:=ET ..
 refine ⟨⟨_,dx,_,_,_,_,_,h1,⟨rfl,rfl,rfl,rfl⟩,T.dR,(i3 T).mono (by decide),(jE T).mono (by decide),(jP T).mono (by decide),(iQ T).mono (by decide),λ q k=>⟨a,_,rfl,h.same q,by rw [lw];exact k⟩,λ _ k=>⟨_,rfl,k⟩,λ {H' Q i ps s} q hi _ _ k=>⟨a,_,i,(ws.getD i 0:Nat),_,rfl,h.same q,?_,k _ (az.refl _)⟩,λ {H' Q i ps s} q hi _ _ k=>⟨a,_,i,_,rfl,h.same q,by rw [lw];exact k _ (az.refl _)⟩,
   .ins h1 T.dR T.nn T.dh T.ca T.ng,λ q => .ins (q _ _ h1) T.dR T.nn T.dh T.ca T.ng,T.tD⟩,ok,n4,by have:=ok.2.1;show ws.length<=60;lia,by show 1<=15;decide⟩
 have hi:i<ws.length:=hi
 rw [YN,Yx hi,YC,Yx hi]
 rfl
theorem Wb (b:Bool) (r:Nat):xy (if b=true then [r] else []) 0=if b=true then 2 ^ r else 0:=by
 cases b with
 | true=>show 0 ||| 2 ^ r=_;rw [Nat.zero_or];rfl
 | false=>rfl
theorem uy (T:Txt K mg Ad) {H:Hp} {a dx pd p:Addr} {n r:Nat} {lo hi:Int} (ha:H a=some (.ins Ad.bV dx [("sills",.ref pd)])) (dI:H dx=some (.own a)) (hd:H pd=some (.dK [(.inl (r:Int),.ref p)])) (hp:H p=some (.tup [.int lo,.int hi])) (hr:r<n) (le:lo<=hi) (n4:n<=4) :
   KX P w K mg base Ad.Keeper n H a (.eQ r lo hi) 5:=by
 have sl:∀ {H'},az H H'->AU Ad.bV H' a [(.inl (r:Int),.ref p)] [(r,lo,hi)]:=λ q=>⟨dx,pd,q _ _ ha,q _ _ dI,q _ _ hd,rfl,λ i kv x e e'=>by
   cases i with
   | zero=>cases e;cases e';exact ⟨rfl,p,rfl,q _ _ hp⟩
   | succ i=>simp at e⟩
 refine ⟨⟨_,dx,_,_,_,_,_,ha,⟨rfl,rfl,rfl,rfl⟩,T.dG,(iX T).mono (by decide),(jB T).mono (by decide),jY T,(i7 T).mono (by decide),λ _ k=>⟨_,rfl,k⟩,λ _ k=>⟨_,rfl,k⟩,λ {H' Q i ps s} q Yh hs hn k=>⟨a,_,ps,_,_,s.bs,s.ws,s.fs,s.bu,s.hp,n,rfl,sl q,List.nodup_cons.mpr ⟨Y0,ZD⟩,hs,hn,n4,(by show 1<=10;decide),λ x hx=>by rw [List.mem_singleton.mp hx];exact hr,λ qI q2=>?_⟩,λ _ _ _ _ k=>⟨_,_,_,rfl,k _ (az.refl _)⟩,
   .ins ha T.dG T.m4 T.dh T.ca T.nJ,λ q => .ins (q _ _ ha) T.dG T.m4 T.dh T.ca T.nJ,T.tq⟩,⟨hr,le⟩,n4,by show 1<=60;decide,by show 1<=15;decide⟩
 have e:gK [(r,lo,hi)] s.bs s.bu=if gI lo hi s.bs s.bu r=true then [r] else []:=by
   unfold gK
   rw [List.filter_cons]
   show List.map _ (if gL lo hi s.bs s.bu r=true then _ else _)=if gL lo hi s.bs s.bu r=true then [r] else []
   cases gL lo hi s.bs s.bu r<;>rfl
 rw [e,Wb]
 exact k qI q2
def wB (P:Program) (w:World) (K:W.Frag) (mg:Str->Option Value) (base:Heap) (CK CT:Addr) (n:Nat) (H:Hp) (a:Addr) (key:oA) (v:Nat) (sub:ND) (has:Bool) (k:Nat):Prop:=∃ dx pr x b0,H a=some (.ins CT dx [("rows",.ref pr),("other",x)])/\eD P w K H pr [(dN key,b0,aw v)] /\
 ((has=false/\sub = .bG/\x = .bG)∨(has=true/\∃ b,x = .ref b/\KX P w K mg base CK n H b sub k))
theorem wB.same {CT a:Addr} {n v k:Nat} {H H':Hp} {key:oA} {sub:ND} {has:Bool} (h:wB P w K mg base Ad.Keeper CT n H a key v sub has k) (q:az H H'):wB P w K mg base Ad.Keeper CT n H' a key v sub has k:=by
 obtain ⟨dx,pr,x,b0,h1,h2,h3⟩:=h
 refine ⟨dx,pr,x,b0,q _ _ h1,h2.same q,h3.imp id ?_⟩
 rintro ⟨e,b,e2,kx⟩
 exact ⟨e,b,e2,kx.same q⟩
inductive uu (P:Program) (w:World) (K:W.Frag) (mg:Str->Option Value) (base:Heap) (CK CT:Addr) (k:Nat) (f:ND->Nat) (vs:List V) (H:Hp) (Q:VK) (_E:XK):Prop
 | mk (a n key v sub has:_) (_:vs=[.ref a]) (_:wB P w K mg base CK CT n H a key v sub has k) (_:Q (aw (f (.table key v sub has))) H)
inductive xp (P:Program) (w:World) (K:W.Frag) (mg:Str->Option Value) (base:Heap) (CK CT:Addr) (k:Nat) (vs:List V) (H:Hp) (Q:VK) (_E:XK):Prop
 | mk (a n key v sub has:_) (i:Nat) (ps s:_) (_:vs=[.ref a,aw i,.ref ps]) (_:wB P w K mg base CK CT n H a key v sub has k) (_:i<sub.am) (_:ox H ps s) (_:s.bs.length=n) (_:∀ H',az H H'->Q (aw (ND.ci (.table key v sub has) i s)) H')
inductive xQ (P:Program) (w:World) (K:W.Frag) (mg:Str->Option Value) (base:Heap) (CK CT:Addr) (k:Nat) (vs:List V) (H:Hp) (Q:VK) (_E:XK):Prop
 | mk (a n key v sub has:_) (i:Nat) (ps s:_) (_:vs=[.ref a,aw i,.ref ps]) (_:wB P w K mg base CK CT n H a key v sub has k) (_:i<sub.am) (_:ox H ps s) (_:s.bs.length=n) (_:∀ H',az H H'->Q (aw (ND.after (.table key v sub has) i)) H')
theorem fm (T:Txt K mg Ad) {k:Nat}:bv P w K mg base Ad.Table "minds" (k+1) ["self"] [] (uu P w K mg base Ad.Keeper Ad.Table k ND.am):=by
 refine T.km.cf j2 λ f aP A outer s H vs Q E hr h=>?_
 obtain ⟨a,n,key,v,sub,has,rfl,⟨dx,pr,x,b0,ha,hd,hx⟩,q⟩:=h
 refine ⟨_,(ak (aq (fH (aC mo (aZ (pv 0) rfl) my (aG _)) ac (cc (P:=P) (w:=w) (K:=K) (mg:=mg) (base:=base) (k:=k) ⟨rfl,rfl,rfl,rfl,rfl⟩ (aZ (pv 0) rfl) hr)))),?_⟩
 try dsimp only [eG,aT]
 rcases hx with ⟨rfl,rfl,rfl⟩|⟨rfl,b,rfl,kx⟩
 . exact ⟨_,rfl,a,_,dx,_,_,rfl,ha,T.aV,T.aI,rfl,rfl,_,rfl,eN q⟩
 . obtain ⟨C,x9,fs,oZ,oI,rW,sI,h1,h2,h3,h4,h5,h6,h7,h8,h9,_⟩:=kx.ex
   exact ⟨_,rfl,a,_,dx,_,_,rfl,ha,T.aV,T.aI,rfl,rfl,_,rfl,cn nofun ⟨_,rfl,a,_,dx,_,_,rfl,ha,T.aV,T.aI,rfl,C,b,x9,fs,_,oZ,rfl,h1,h2.1,h3,h4,h8 (az.refl _) q⟩⟩
theorem fM (T:Txt K mg Ad) {k:Nat}:bv P w K mg base Ad.Table "size" (k+1) ["self"] [] (uu P w K mg base Ad.Keeper Ad.Table k ND.size):=by
 refine T.lQ.cf j9 λ f aP A outer s H vs Q E hr h=>?_
 obtain ⟨a,n,key,v,sub,has,rfl,⟨dx,pr,x,b0,ha,hd,hx⟩,q⟩:=h
 refine ⟨_,(ak (aq (fH (aC mo (aZ (pv 0) rfl) my (aG _)) ac (ar aS ac (cc (P:=P) (w:=w) (K:=K) (mg:=mg) (base:=base) (k:=k) ⟨rfl,rfl,rfl,rfl,rfl⟩ (aZ (pv 0) rfl) hr))))),?_⟩
 try dsimp only [eG,aT]
 rcases hx with ⟨rfl,rfl,rfl⟩|⟨rfl,b,rfl,kx⟩
 . exact ⟨_,rfl,a,_,dx,_,_,rfl,ha,T.aV,T.aI,rfl,rfl,_,rfl,eN q⟩
 .
  obtain ⟨C,x9,fs,oZ,oI,rW,sI,h1,h2,h3,h4,h5,h6,h7,h8,h9,_⟩:=kx.ex
  refine ⟨_,rfl,a,_,dx,_,_,rfl,ha,T.aV,T.aI,rfl,rfl,_,rfl,cn nofun ⟨_,rfl,a,_,dx,_,_,rfl,ha,T.aV,T.aI,rfl,C,b,x9,fs,_,oI,rfl,h1,h2.2.1,h3,h5,h9 (az.refl _) ⟨_,_,rfl,rfl,λ y ey=>?_⟩⟩⟩
  have e:y=((1+sub.size:Nat):Int):=by rw [ey];push_cast;rfl
  rw [e];exact q
theorem jp (T:Txt K mg Ad) {k:Nat}:bv P w K mg base Ad.Table "wish" (k+1) ["self","mind","state"] [] (xp P w K mg base Ad.Keeper Ad.Table k):=by
 refine T.lW.cf kz λ f aP A outer s H vs Q E hr h=>?_
 obtain ⟨a,n,key,v,sub,has,i,ps,st,rfl,⟨dx,pr,x,b0,ha,hd,hx⟩,hi,hs,hn,q⟩:=h
 refine ⟨_,(aj (bh (aC (tU (P:=P) (w:=w) (K:=K) rfl rfl rfl hr.zR) (pv 2) (aZ (pv 0) rfl) (by with_unfolding_all rfl)) (ak (aq (pS (P:=P) (w:=w) (K:=K) rfl rfl rfl hr.zR (aZ (pv 0) rfl) (pv 2) (λ _ _=>rfl)))) aF)
     (ak (aq (fH (aC mo (aZ (pv 0) rfl) my (aG _)) ac (cz (P:=P) (w:=w) (K:=K) (mg:=mg) (base:=base) (k:=k) ⟨rfl,rfl,rfl,rfl,rfl⟩ (aZ (pv 0) rfl) hr (aa (pv 1) (aa (pv 2) ag))))))),?_⟩
 try dsimp only [eG,aT]
 refine ⟨_,rfl,_,rfl,a,_,dx,_,_,rfl,ha,T.aV,T.eC,rfl,pr,ps,_,_,rfl,rfl,hd,oF hs,_,rfl,?_⟩
 by_cases e:dN st=dN key
 .
  have ev:i5 [(dN key,b0,aw v)] (dN st)=some (aw v):=by unfold i5;rw [YJ,YU e.symm];rfl
  rw [ev]
  refine eN ⟨_,rfl,a,_,dx,_,_,rfl,ha,T.aV,T.eC,rfl,_,rfl,pr,ps,_,_,_,rfl,rfl,hd,oF hs,ev,?_⟩
  have:=q H (az.refl _)
  unfold ND.ci at this
  rw [YK e] at this
  exact this
 .
  have ev:i5 [(dN key,b0,aw v)] (dN st)=none:=by unfold i5;rw [YJ,YA (λ z=>e z.symm)];rfl
  rw [ev]
  have q':∀ H',az H H'->Q (aw (sub.ci i st)) H':=λ H' z=>by
    have:=q H' z
    unfold ND.ci at this
    rw [YG e] at this
    exact this
  clear q
  refine fP ?_
  rcases hx with ⟨rfl,rfl,rfl⟩|⟨rfl,b,rfl,kx⟩
  . exact ⟨_,rfl,a,_,dx,_,_,rfl,ha,T.aV,T.aI,rfl,rfl,_,rfl,eN (q' H (az.refl _))⟩
  . obtain ⟨C,x9,fs,oZ,oI,rW,sI,h1,h2,h3,h4,h5,h6,h7,h8,h9,Fi,_⟩:=kx.ex
    exact ⟨_,rfl,a,_,dx,_,_,rfl,ha,T.aV,T.aI,rfl,rfl,_,rfl,cn nofun ⟨_,rfl,a,_,dx,_,_,rfl,ha,T.aV,T.aI,rfl,C,b,x9,fs,_,rW,rfl,h1,h2.2.2.1,h3,h6,_,rfl,_,rfl,Fi (az.refl _) hi hs hn q'⟩⟩
theorem i6 (T:Txt K mg Ad) {k:Nat}:bv P w K mg base Ad.Table "after" (k+1) ["self","mind","state"] [] (xQ P w K mg base Ad.Keeper Ad.Table k):=by
 refine T.ko.cf ju λ f aP A outer s H vs Q E hr h=>?_
 obtain ⟨a,n,key,v,sub,has,i,ps,st,rfl,⟨dx,pr,x,b0,ha,hd,hx⟩,hi,hs,hn,q⟩:=h
 refine ⟨_,(ak (aq (fH (aC mo (aZ (pv 0) rfl) my (aG _)) ac (cz (P:=P) (w:=w) (K:=K) (mg:=mg) (base:=base) (k:=k) ⟨rfl,rfl,rfl,rfl,rfl⟩ (aZ (pv 0) rfl) hr (aa (pv 1) (aa (pv 2) ag)))))),?_⟩
 try dsimp only [eG,aT]
 rcases hx with ⟨rfl,rfl,rfl⟩|⟨rfl,b,rfl,kx⟩
 . exact ⟨_,rfl,a,_,dx,_,_,rfl,ha,T.aV,T.aI,rfl,rfl,_,rfl,eN (q H (az.refl _))⟩
 . obtain ⟨C,x9,fs,oZ,oI,rW,sI,h1,h2,h3,h4,h5,h6,h7,h8,h9,Fi,SW,_⟩:=kx.ex
   exact ⟨_,rfl,a,_,dx,_,_,rfl,ha,T.aV,T.aI,rfl,rfl,_,rfl,cn nofun ⟨_,rfl,a,_,dx,_,_,rfl,ha,T.aV,T.aI,rfl,C,b,x9,fs,_,sI,rfl,h1,h2.2.2.2,h3,h7,_,rfl,_,rfl,SW (az.refl _) hi hs hn q⟩⟩
def w6 (P:Program) (w:World) (K:W.Frag) (mg:Str->Option Value) (base:Heap) (CK C:Addr) (n:Nat) (H:Hp) (a:Addr) (x y:ND) (ex:List (Str×V)) (k:Nat):Prop:=T9 K C/\(ex.lookup ("minds" : Str)=none/\ex.lookup ("size" : Str)=none/\ex.lookup ("wish" : Str)=none/\ex.lookup ("after" : Str)=none/\ex.lookup ("wish_of_one" : Str)=none/\ex.lookup ("wish_of_other" : Str)=none)/\∃ dx b c,H a=some (.ins C dx (("one",.ref b)::("other",.ref c)::ex))/\KX P w K mg base CK n H b x k/\KX P w K mg base CK n H c y k
theorem w6.same {C a:Addr} {n k:Nat} {H H':Hp} {x y:ND} {ex:List (Str×V)} (h:w6 P w K mg base Ad.Keeper C n H a x y ex k) (q:az H H'):w6 P w K mg base Ad.Keeper C n H' a x y ex k:=by
 obtain ⟨pc,e,dx,b,c,h1,h2,h3⟩:=h
 exact ⟨pc,e,dx,b,c,q _ _ h1,h2.same q,h3.same q⟩
inductive lT (P:Program) (w:World) (K:W.Frag) (mg:Str->Option Value) (base:Heap) (CK:Addr) (k:Nat) (f:ND->ND->Nat) (vs:List V) (H:Hp) (Q:VK) (_E:XK):Prop
 | mk (C a n x y ex:_) (_:vs=[.ref a]) (_:w6 P w K mg base CK C n H a x y ex k) (_:Q (aw (f x y)) H)
inductive ij (P:Program) (w:World) (K:W.Frag) (mg:Str->Option Value) (base:Heap) (CK:Addr) (k:Nat) (f:ND->ND->Nat->oA->Nat) (vs:List V) (H:Hp) (Q:VK) (_E:XK):Prop
 | mk (C a n x y ex:_) (i:Nat) (ps s:_) (_:vs=[.ref a,aw i,.ref ps]) (_:w6 P w K mg base CK C n H a x y ex k) (_:i<x.am * y.am) (_:ox H ps s) (_:s.bs.length=n) (_:∀ H',az H H'->Q (aw (f x y i s)) H')
theorem cV (T:Txt K mg Ad) {k:Nat} {f:Addr} {fd:FuncData} (F:eS K "minds" "Pair.minds" aO .none f fd):dg P w K mg base iP (k+1) f fd ["self"] (lT P w K mg base Ad.Keeper k λ x y=>x.am * y.am):=by
 refine F.ok kL (λ vs H Q E h=>?_) (λ aP A outer s H vs Q E hr h=>?_)
 . obtain ⟨C,a,n,x,y,ex,rfl,_⟩:=h
   rfl
 .
  obtain ⟨C,a,n,x,y,ex,rfl,⟨pc,e0,dx,b,c,ha,hb,hc⟩,q⟩:=h
  refine ⟨_,(ak (aq (ar cw (cc (P:=P) (w:=w) (K:=K) (mg:=mg) (base:=base) (k:=k) ⟨rfl,rfl,rfl,rfl,rfl⟩ (aZ (pv 0) rfl) hr) (cc (P:=P) (w:=w) (K:=K) (mg:=mg) (base:=base) (k:=k) ⟨rfl,rfl,rfl,rfl,rfl⟩ (aZ (pv 0) rfl) hr)))),?_⟩
  try dsimp only [eG,aT]
  obtain ⟨C1,d1,f1,wP,xk,wx,wZ,b1,b2,b3,b4,b5,b6,b7,b8,b9,x6,yf,_⟩:=hb.ex
  obtain ⟨C2,d2,f2,vE,zl,ze,CV,c1,c2,c3,c4,c5,c6,c7,c8,c9,Ap,Bi,_⟩:=hc.ex
  refine ⟨_,rfl,a,_,dx,_,_,rfl,ha,pc.cl,pc.n1,rfl,C1,b,d1,f1,_,wP,rfl,b1,b2.1,b3,b4,b8 (az.refl _) ?_⟩
  refine ⟨_,rfl,a,_,dx,_,_,rfl,ha,pc.cl,pc.n2,rfl,C2,c,d2,f2,_,vE,rfl,c1,c2.1,c3,c4,c8 (az.refl _) ?_⟩
  have:=hb.hm
  have:=hc.hm
  refine ⟨_,_,rfl,rfl,⟨12,12,(show Int.natAbs _<2 ^ 12 by lia),(show Int.natAbs _<2 ^ 12 by lia),by decide⟩,λ r er=>?_⟩
  have e:r=((x.am * y.am:Nat):Int):=by rw [er];push_cast;rfl
  rw [e]
  exact q
theorem dD (T:Txt K mg Ad) {k:Nat} {f:Addr} {fd:FuncData} (F:eS K "size" "Pair.size" aQ .none f fd):dg P w K mg base iP (k+1) f fd ["self"] (lT P w K mg base Ad.Keeper k λ x y=>1+x.size+y.size):=by
 refine F.ok mP (λ vs H Q E h=>?_) (λ aP A outer s H vs Q E hr h=>?_)
 . obtain ⟨C,a,n,x,y,ex,rfl,_⟩:=h
   rfl
 .
  obtain ⟨C,a,n,x,y,ex,rfl,⟨pc,e0,dx,b,c,ha,hb,hc⟩,q⟩:=h
  refine ⟨_,(ak (aq (ar aS (ar aS ac (cc (P:=P) (w:=w) (K:=K) (mg:=mg) (base:=base) (k:=k) ⟨rfl,rfl,rfl,rfl,rfl⟩ (aZ (pv 0) rfl) hr)) (cc (P:=P) (w:=w) (K:=K) (mg:=mg) (base:=base) (k:=k) ⟨rfl,rfl,rfl,rfl,rfl⟩ (aZ (pv 0) rfl) hr)))),?_⟩
  try dsimp only [eG,aT]
  obtain ⟨C1,d1,f1,wP,xk,wx,wZ,b1,b2,b3,b4,b5,b6,b7,b8,b9,x6,yf,_⟩:=hb.ex
  obtain ⟨C2,d2,f2,vE,zl,ze,CV,c1,c2,c3,c4,c5,c6,c7,c8,c9,Ap,Bi,_⟩:=hc.ex
  refine ⟨_,rfl,a,_,dx,_,_,rfl,ha,pc.cl,pc.n1,rfl,C1,b,d1,f1,_,xk,rfl,b1,b2.2.1,b3,b5,b9 (az.refl _) ⟨_,_,rfl,rfl,λ y' ey=>?_⟩⟩
  refine ⟨_,rfl,a,_,dx,_,_,rfl,ha,pc.cl,pc.n2,rfl,C2,c,d2,f2,_,zl,rfl,c1,c2.2.1,c3,c5,c9 (az.refl _) ⟨_,_,rfl,rfl,λ z ez=>?_⟩⟩
  have e:z=((1+x.size+y.size:Nat):Int):=by rw [ez,ey];push_cast;rfl
  rw [e]
  exact q
theorem bR (T:Txt K mg Ad) {k:Nat} {f:Addr} {fd:FuncData} (F:eS K "wish_of_one" "Pair.wish_of_one" aA .none f fd):dg P w K mg base iP (k+1) f fd ["self","mind","state"] (ij P w K mg base Ad.Keeper k λ x y i s=>x.ci (i / y.am) s):=by
 refine F.ok gg (λ vs H Q E h=>?_) (λ aP A outer s H vs Q E hr h=>?_)
 . obtain ⟨C,a,n,x,y,ex,i,ps,s,rfl,_⟩:=h
   rfl
 .
  obtain ⟨C,a,n,x,y,ex,i,ps,st,rfl,⟨pc,e0,dx,b,c,ha,hb,hc⟩,hi,hs,hn,q⟩:=h
  refine ⟨_,(ak (aq (cz (P:=P) (w:=w) (K:=K) (mg:=mg) (base:=base) (k:=k) ⟨rfl,rfl,rfl,rfl,rfl⟩ (aZ (pv 0) rfl) hr (aa (ar cL (pv 1) (cc (P:=P) (w:=w) (K:=K) (mg:=mg) (base:=base) (k:=k) ⟨rfl,rfl,rfl,rfl,rfl⟩ (aZ (pv 0) rfl) hr)) (aa (pv 2) ag))))),?_⟩
  try dsimp only [eG,aT]
  obtain ⟨C1,d1,f1,wP,xk,wx,wZ,b1,b2,b3,b4,b5,b6,b7,b8,b9,x6,yf,_⟩:=hb.ex
  obtain ⟨C2,d2,f2,vE,zl,ze,CV,c1,c2,c3,c4,c5,c6,c7,c8,c9,Ap,Bi,_⟩:=hc.ex
  have:=hc.hm
  have py:=ND.pos hc.ok
  refine ⟨_,rfl,a,_,dx,_,_,rfl,ha,pc.cl,pc.n1,rfl,C1,b,d1,f1,_,wx,rfl,b1,b2.2.2.1,b3,b6,?_⟩
  refine ⟨_,rfl,_,rfl,a,_,dx,_,_,rfl,ha,pc.cl,pc.n2,rfl,C2,c,d2,f2,_,vE,rfl,c1,c2.1,c3,c4,c8 (az.refl _) ?_⟩
  refine ⟨_,_,rfl,rfl,⟨by lia,(show Int.natAbs _<2 ^ 8999 from T1 (show Int.natAbs _<2 ^ 10 by lia) (Zc (by decide) (by decide)))⟩,λ q' eq=>?_⟩
  have e:q'=((i / y.am:Nat):Int):=by rw [eq,YD _ (by lia)];push_cast;rfl
  rw [e]
  exact ⟨_,rfl,x6 (az.refl _) (Y3 (by rw [Zj];exact hi)) hs hn q⟩
theorem bF (T:Txt K mg Ad) {k:Nat} {f:Addr} {fd:FuncData} (F:eS K "wish_of_other" "Pair.wish_of_other" ax .none f fd):dg P w K mg base iP (k+1) f fd ["self","mind","state"] (ij P w K mg base Ad.Keeper k λ x y i s=>y.ci (i % y.am) s):=by
 refine F.ok fv (λ vs H Q E h=>?_) (λ aP A outer s H vs Q E hr h=>?_)
 . obtain ⟨C,a,n,x,y,ex,i,ps,s,rfl,_⟩:=h
   rfl
 .
  obtain ⟨C,a,n,x,y,ex,i,ps,st,rfl,⟨pc,e0,dx,b,c,ha,hb,hc⟩,hi,hs,hn,q⟩:=h
  refine ⟨_,(ak (aq (cz (P:=P) (w:=w) (K:=K) (mg:=mg) (base:=base) (k:=k) ⟨rfl,rfl,rfl,rfl,rfl⟩ (aZ (pv 0) rfl) hr (aa (ar aD (pv 1) (cc (P:=P) (w:=w) (K:=K) (mg:=mg) (base:=base) (k:=k) ⟨rfl,rfl,rfl,rfl,rfl⟩ (aZ (pv 0) rfl) hr)) (aa (pv 2) ag))))),?_⟩
  try dsimp only [eG,aT]
  obtain ⟨C2,d2,f2,vE,zl,ze,CV,c1,c2,c3,c4,c5,c6,c7,c8,c9,Ap,Bi,_⟩:=hc.ex
  have:=hc.hm
  have py:=ND.pos hc.ok
  refine ⟨_,rfl,a,_,dx,_,_,rfl,ha,pc.cl,pc.n2,rfl,C2,c,d2,f2,_,ze,rfl,c1,c2.2.2.1,c3,c6,?_⟩
  refine ⟨_,rfl,_,rfl,a,_,dx,_,_,rfl,ha,pc.cl,pc.n2,rfl,C2,c,d2,f2,_,vE,rfl,c1,c2.1,c3,c4,c8 (az.refl _) ?_⟩
  refine ⟨_,_,rfl,rfl,by lia,λ q' q0 q1 eq=>?_⟩
  have e:q'=((i % y.am:Nat):Int):=by rw [eq];push_cast;rfl
  rw [e]
  exact ⟨_,rfl,Ap (az.refl _) (Zm _ py) hs hn q⟩
theorem cX (T:Txt K mg Ad) {k:Nat} {f:Addr} {fd:FuncData} (F:eS K "after" "Pair.after" aN .none f fd):dg P w K mg base iP (k+1) f fd ["self","mind","state"] (ij P w K mg base Ad.Keeper k λ x y i _=>x.after (i / y.am) * y.am+y.after (i % y.am)):=by
 refine F.ok eg (λ vs H Q E h=>?_) (λ aP A outer s H vs Q E hr h=>?_)
 . obtain ⟨C,a,n,x,y,ex,i,ps,s,rfl,_⟩:=h
   rfl
 .
  obtain ⟨C,a,n,x,y,ex,i,ps,st,rfl,px,hi,hs,hn,q⟩:=h
  obtain ⟨pc,e0,dx,b,c,ha,hb,hc⟩:=id px
  refine ⟨_,(aj (sP (bK lF (by rfl) T.tS qS (aa (pv 1) (aa (cc (P:=P) (w:=w) (K:=K) (mg:=mg) (base:=base) (k:=k) ⟨rfl,rfl,rfl,rfl,rfl⟩ (aZ (pv 0) rfl) hr) ag))) (mC (K:=K) (n:=2) rfl rfl (eO (bE (i:=3) eg.nd rfl (lc rfl)) (eO (bE (i:=4) eg.nd rfl (lc rfl)) ma))))
    (ak (aq (ar aS (ar cw (cz (P:=P) (w:=w) (K:=K) (mg:=mg) (base:=base) (k:=k) ⟨rfl,rfl,rfl,rfl,rfl⟩ (aZ (pv 0) rfl) hr (aa (pv 3) (aa (pv 2) ag))) (cc (P:=P) (w:=w) (K:=K) (mg:=mg) (base:=base) (k:=k) ⟨rfl,rfl,rfl,rfl,rfl⟩ (aZ (pv 0) rfl) hr)) (cz (P:=P) (w:=w) (K:=K) (mg:=mg) (base:=base) (k:=k) ⟨rfl,rfl,rfl,rfl,rfl⟩ (aZ (pv 0) rfl) hr (aa (pv 4) (aa (pv 2) ag))))))),?_⟩
  try dsimp only [eG,aT]
  obtain ⟨C1,d1,f1,wP,xk,wx,wZ,b1,b2,b3,b4,b5,b6,b7,b8,b9,x6,yf,_⟩:=hb.ex
  obtain ⟨C2,d2,f2,vE,zl,ze,CV,c1,c2,c3,c4,c5,c6,c7,c8,c9,Ap,Bi,_⟩:=hc.ex
  have:=hc.hm
  have:=hb.hm
  have py:=ND.pos hc.ok
  have di:i / y.am<x.am:=Y3 (by rw [Zj];exact hi)
  have mi:i % y.am<y.am:=Zm _ py
  have KQ:∀ {z:Int},0<=z->z<=1000->Bd 8999 z:=λ h0 h1=>T1 (show Int.natAbs _<2 ^ 10 by lia) (Zc (by decide) (by decide))
  refine ⟨_,rfl,_,rfl,a,_,dx,_,_,rfl,ha,pc.cl,pc.n2,rfl,C2,c,d2,f2,_,vE,rfl,c1,c2.1,c3,c4,c8 (az.refl _) ⟨_,_,rfl,by lia,KQ (by lia) (by lia),λ pq VO=>?_⟩⟩
  have e1:((i:Int)).fdiv (y.am:Int)=((i / y.am:Nat):Int):=by rw [YD _ (by lia)];push_cast;rfl
  have e2:((i:Int)).fmod (y.am:Int)=((i % y.am:Nat):Int):=by rw [ZC _ (by lia)];push_cast;rfl
  rw [e1,e2]
  have S:=ap (o:=.tup [.int ((i / y.am:Nat):Int),.int ((i % y.am:Nat):Int)]) VO
  have kq:(upd H pq (.tup [aw (i / y.am),aw (i % y.am)])) pq=some (.tup [aw (i / y.am),aw (i % y.am)]):=ae
  refine ⟨pq,_,rfl,aK.of kq,rfl,_,_,rfl,_,_,rfl,rfl,?_⟩
  generalize upd H pq (.tup [.int ((i / y.am:Nat):Int),.int ((i % y.am:Nat):Int)])=H1 at S ⊢
  refine ⟨_,rfl,a,_,dx,_,_,rfl,S _ _ ha,pc.cl,pc.n1,rfl,C1,b,d1,f1,_,wZ,rfl,S _ _ b1,b2.2.2.2,b3,b7,_,rfl,_,rfl,yf S di (hs.same S) hn λ H2 S2=>?_⟩
  have S2:=S.trans S2
  refine ⟨_,rfl,a,_,dx,_,_,rfl,S2 _ _ ha,pc.cl,pc.n2,rfl,C2,c,d2,f2,_,vE,rfl,S2 _ _ c1,c2.1,c3,c4,c8 S2 ?_⟩
  have Vn:=ND.eL hb.ok di
  refine ⟨_,_,rfl,rfl,⟨10,10,(show Int.natAbs _<2 ^ 10 by lia),(show Int.natAbs _<2 ^ 10 by lia),by decide⟩,λ y' ey=>?_⟩
  refine ⟨_,rfl,a,_,dx,_,_,rfl,S2 _ _ ha,pc.cl,pc.n2,rfl,C2,c,d2,f2,_,CV,rfl,S2 _ _ c1,c2.2.2.2,c3,c7,_,rfl,_,rfl,Bi S2 mi (hs.same S2) hn λ H3 S3=>⟨_,_,rfl,rfl,λ z ez=>?_⟩⟩
  have e:z=((x.after (i / y.am) * y.am+y.after (i % y.am):Nat):Int):=by rw [ez,ey];push_cast;rfl
  rw [e]
  exact q H3 (S2.trans S3)
structure yF (P:Program) (w:World) (K:W.Frag) (mg:Str->Option Value) (base:Heap) (CK C:Addr):Prop where
 pc:T9 K C
 mi:∀ k,bv P w K mg base C "minds" (k+1) ["self"] [] (lT P w K mg base CK k λ x y=>x.am * y.am)
 si:∀ k,bv P w K mg base C "size" (k+1) ["self"] [] (lT P w K mg base CK k λ x y=>1+x.size+y.size)
 on:∀ k,bv P w K mg base C "wish_of_one" (k+1) ["self","mind","state"] [] (ij P w K mg base CK k λ x y i s=>x.ci (i / y.am) s)
 ot:∀ k,bv P w K mg base C "wish_of_other" (k+1) ["self","mind","state"] [] (ij P w K mg base CK k λ x y i s=>y.ci (i % y.am) s)
 af:∀ k,bv P w K mg base C "after" (k+1) ["self","mind","state"] [] (ij P w K mg base CK k λ x y i _=>x.after (i / y.am) * y.am+y.after (i % y.am))
theorem wq {m qual:Str} {st:Stmt} (h:∀ (kV doc pm:Value) (an:Option Addr) (aP ct u:Value),bindArgs (W.fnOf m qual (bc st) (aM st) (ah st) .none kV doc pm an aP ct) ⟨[u],[]⟩=pure ((["self"]:List Str).zip [u])) (kV doc pm:Value) (an:Option Addr) (aP ct:Value) (us:List Value) (hl:us.length=(["self"]:List Str).length) :
   bindArgs (W.fnOf m qual (bc st) (aM st) (ah st) .none kV doc pm an aP ct) ⟨us,[]⟩=pure ((["self"]:List Str).zip us):=match us,hl with | [u],_=>h kV doc pm an aP ct u
theorem rm {m qual:Str} {st:Stmt} (h:∀ (kV doc pm:Value) (an:Option Addr) (aP ct u v z:Value),bindArgs (W.fnOf m qual (bc st) (aM st) (ah st) .none kV doc pm an aP ct) ⟨[u,v,z],[]⟩=pure ((["self","mind","state"]:List Str).zip [u,v,z])) (kV doc pm:Value) (an:Option Addr) (aP ct:Value) (us:List Value) (hl:us.length=(["self","mind","state"]:List Str).length) :
   bindArgs (W.fnOf m qual (bc st) (aM st) (ah st) .none kV doc pm an aP ct) ⟨us,[]⟩=pure ((["self","mind","state"]:List Str).zip us):=match us,hl with | [u,v,z],_=>h kV doc pm an aP ct u v z
theorem mN (T:Txt K mg Ad):yF P w K mg base Ad.Keeper Ad.Pair:=⟨⟨T.pL,T.nv,T.kI⟩,λ _=>T.lJ.of (wq λ _ _ _ _ _ _ _=>rfl) λ _ _ F=>cV T F,λ _=>T.mW.of (wq λ _ _ _ _ _ _ _=>rfl) λ _ _ F=>dD T F,λ _=>T.gz.of (rm λ _ _ _ _ _ _ _ _ _=>rfl) λ _ _ F=>bR T F,λ _=>T.fQ.of (rm λ _ _ _ _ _ _ _ _ _=>rfl) λ _ _ F=>bF T F,λ _=>T.lY.of (rm λ _ _ _ _ _ _ _ _ _=>rfl) λ _ _ F=>cX T F⟩
theorem gb (T:Txt K mg Ad):yF P w K mg base Ad.Keeper Ad.bO:=⟨⟨T.lq,T.kJ,T.i4⟩,λ _=>T.jI.of (wq λ _ _ _ _ _ _ _=>rfl) λ _ _ F=>cV T F,λ _=>T.kj.of (wq λ _ _ _ _ _ _ _=>rfl) λ _ _ F=>dD T F,λ _=>T.fK.of (rm λ _ _ _ _ _ _ _ _ _=>rfl) λ _ _ F=>bR T F,λ _=>T.eX.of (rm λ _ _ _ _ _ _ _ _ _=>rfl) λ _ _ F=>bF T F,λ _=>T.jS.of (rm λ _ _ _ _ _ _ _ _ _=>rfl) λ _ _ F=>cX T F⟩
theorem d4 (T:Txt K mg Ad):yF P w K mg base Ad.Keeper Ad.aR:=⟨⟨T.iD,T.jc,T.gS⟩,λ _=>T.iw.of (wq λ _ _ _ _ _ _ _=>rfl) λ _ _ F=>cV T F,λ _=>T.iU.of (wq λ _ _ _ _ _ _ _=>rfl) λ _ _ F=>dD T F,λ _=>T.eU.of (rm λ _ _ _ _ _ _ _ _ _=>rfl) λ _ _ F=>bR T F,λ _=>T.ee.of (rm λ _ _ _ _ _ _ _ _ _=>rfl) λ _ _ F=>bF T F,λ _=>T.ip.of (rm λ _ _ _ _ _ _ _ _ _=>rfl) λ _ _ F=>cX T F⟩
theorem gZ (T:Txt K mg Ad):yF P w K mg base Ad.Keeper Ad.Below:=⟨⟨T.eP,T.lI,T.jM⟩,λ _=>T.kC.of (wq λ _ _ _ _ _ _ _=>rfl) λ _ _ F=>cV T F,λ _=>T.lN.of (wq λ _ _ _ _ _ _ _=>rfl) λ _ _ F=>dD T F,λ _=>T.gj.of (rm λ _ _ _ _ _ _ _ _ _=>rfl) λ _ _ F=>bR T F,λ _=>T.fz.of (rm λ _ _ _ _ _ _ _ _ _=>rfl) λ _ _ F=>bF T F,λ _=>T.kR.of (rm λ _ _ _ _ _ _ _ _ _=>rfl) λ _ _ F=>cX T F⟩
inductive jD (P:Program) (w:World) (K:W.Frag) (mg:Str->Option Value) (base:Heap) (CK C:Addr) (way k:Nat) (vs:List V) (H:Hp) (Q:VK) (_E:XK):Prop
 | mk (a n x y:_) (r i:Nat) (bd ps s:_) (_:vs=[.ref a,aw i,.ref ps]) (_:w6 P w K mg base CK C n H a x y (if way=4 then [("room",aw r),("band",.int bd)] else []) k) (_:i<x.am * y.am) (_:r<n) (_:ox H ps s) (_:s.bs.length=n) (_:∀ H',az H H'->Q (aw (ND.ci (.join way x y r bd) i s)) H')
theorem kN (T:Txt K mg Ad) {k:Nat}:bv P w K mg base Ad.Pair "wish" (k+2) ["self","mind","state"] [] (jD P w K mg base Ad.Keeper Ad.Pair 1 k):=by
 refine T.oi.cf mz λ f aP A outer s H vs Q E hr h=>?_
 obtain ⟨a,n,x,y,r,i,bd,ps,st,rfl,px,hi,sN,hs,hn,q⟩:=h
 refine ⟨_,(ak (aq (cz (P:=P) (w:=w) (K:=K) (mg:=mg) (base:=base) (k:=(k+1)) ⟨rfl,rfl,rfl,rfl,rfl⟩ (pv 0) hr (aa (pv 1) (aa (pv 2) ag))))),?_⟩
 try dsimp only [eG,aT]
 obtain ⟨pc,e0,dx,b,c,ha,hb,hc⟩:=id px
 exact ⟨_,rfl,_,a,dx,_,_,_,rfl,ha,e0.2.2.2.2.1,pc.cl,(mN T).on k,_,rfl,_,rfl,_,a,n,x,y,_,i,ps,st,rfl,px,hi,hs,hn,q⟩
theorem iW (T:Txt K mg Ad) {k:Nat}:bv P w K mg base Ad.bO "wish" (k+2) ["self","mind","state"] [] (jD P w K mg base Ad.Keeper Ad.bO 2 k):=by
 refine T.kG.cf jT λ f aP A outer s H vs Q E hr h=>?_
 obtain ⟨a,n,x,y,r,i,bd,ps,st,rfl,px,hi,sN,hs,hn,q⟩:=h
 refine ⟨_,(ak (aq (ar uf (cz (P:=P) (w:=w) (K:=K) (mg:=mg) (base:=base) (k:=(k+1)) ⟨rfl,rfl,rfl,rfl,rfl⟩ (pv 0) hr (aa (pv 1) (aa (pv 2) ag))) (cz (P:=P) (w:=w) (K:=K) (mg:=mg) (base:=base) (k:=(k+1)) ⟨rfl,rfl,rfl,rfl,rfl⟩ (pv 0) hr (aa (pv 1) (aa (pv 2) ag)))))),?_⟩
 try dsimp only [eG,aT]
 obtain ⟨pc,e0,dx,b,c,ha,hb,hc⟩:=id px
 refine ⟨_,rfl,_,a,dx,_,_,_,rfl,ha,e0.2.2.2.2.1,pc.cl,(gb T).on k,_,rfl,_,rfl,_,a,n,x,y,_,i,ps,st,rfl,px,hi,hs,hn,λ H1 S1=>?_⟩
 refine ⟨_,rfl,_,a,dx,_,_,_,rfl,S1 _ _ ha,e0.2.2.2.2.2,pc.cl,(gb T).ot k,_,rfl,_,rfl,_,a,n,x,y,_,i,ps,st,rfl,px.same S1,hi,hs.same S1,hn,λ H2 S2=>⟨_,_,rfl,rfl,λ z ez=>?_⟩⟩
 rw [ez,k9]
 exact q H2 (S1.trans S2)
theorem gN (T:Txt K mg Ad) {k:Nat}:bv P w K mg base Ad.aR "wish" (k+2) ["self","mind","state"] [] (jD P w K mg base Ad.Keeper Ad.aR 3 k):=by
 refine T.iZ.cf ir λ f aP A outer s H vs Q E hr h=>?_
 obtain ⟨a,n,x,y,r,i,bd,ps,st,rfl,px,hi,sN,hs,hn,q⟩:=h
 refine ⟨_,(ak (aq (ar vb (cz (P:=P) (w:=w) (K:=K) (mg:=mg) (base:=base) (k:=(k+1)) ⟨rfl,rfl,rfl,rfl,rfl⟩ (pv 0) hr (aa (pv 1) (aa (pv 2) ag))) (cz (P:=P) (w:=w) (K:=K) (mg:=mg) (base:=base) (k:=(k+1)) ⟨rfl,rfl,rfl,rfl,rfl⟩ (pv 0) hr (aa (pv 1) (aa (pv 2) ag)))))),?_⟩
 try dsimp only [eG,aT]
 obtain ⟨pc,e0,dx,b,c,ha,hb,hc⟩:=id px
 refine ⟨_,rfl,_,a,dx,_,_,_,rfl,ha,e0.2.2.2.2.1,pc.cl,(d4 T).on k,_,rfl,_,rfl,_,a,n,x,y,_,i,ps,st,rfl,px,hi,hs,hn,λ H1 S1=>?_⟩
 refine ⟨_,rfl,_,a,dx,_,_,_,rfl,S1 _ _ ha,e0.2.2.2.2.2,pc.cl,(d4 T).ot k,_,rfl,_,rfl,_,a,n,x,y,_,i,ps,st,rfl,px.same S1,hi,hs.same S1,hn,λ H2 S2=>⟨_,_,rfl,rfl,λ z ez=>?_⟩⟩
 rw [ez,oH]
 exact q H2 (S1.trans S2)
theorem jW (T:Txt K mg Ad) {k:Nat}:bv P w K mg base Ad.Below "wish" (k+2) ["self","mind","state"] [] (jD P w K mg base Ad.Keeper Ad.Below 4 k):=by
 refine T.mD.cf kP λ f aP A outer s H vs Q E hr h=>?_
 obtain ⟨a,n,x,y,r,i,bd,ps,st,rfl,px,hi,sN,hs,hn,q⟩:=h
 refine ⟨_,(aj (bh (aC jH (ao al (ao al (pv 2) ac (λ _ _=>rfl)) (aZ (pv 0) rfl) (λ _ _=>rfl)) (aZ (pv 0) rfl) (aG _)) (ak (aq (cz (P:=P) (w:=w) (K:=K) (mg:=mg) (base:=base) (k:=(k+1)) ⟨rfl,rfl,rfl,rfl,rfl⟩ (pv 0) hr (aa (pv 1) (aa (pv 2) ag))))) aF)
     (ak (aq (cz (P:=P) (w:=w) (K:=K) (mg:=mg) (base:=base) (k:=(k+1)) ⟨rfl,rfl,rfl,rfl,rfl⟩ (pv 0) hr (aa (pv 1) (aa (pv 2) ag)))))),?_⟩
 try dsimp only [eG,aT]
 obtain ⟨pc,e0,dx,b,c,ha,hb,hc⟩:=id px
 obtain ⟨pb,pw,pf,h1,h2,h3,h4⟩:=id hs
 refine ⟨_,rfl,ps,_,_,_,rfl,rfl,.inr (aK.of h1),aJ (j:=0) rfl,_,rfl,a,_,dx,_,_,rfl,ha,T.eP,T.gu,rfl,pb,_,_,_,rfl,rfl,.inr (aK.of h2),lS hn sN,_,rfl,a,_,dx,_,_,rfl,ha,T.eP,T.gs,rfl,_,_,rfl,rfl,_,rfl,?_⟩
 refine fu (λ h=>?_) (λ h=>?_)
 .
  refine ⟨_,rfl,_,a,dx,_,_,_,rfl,ha,e0.2.2.2.2.1,pc.cl,(gZ T).on k,_,rfl,_,rfl,_,a,n,x,y,_,i,ps,st,rfl,px,hi,hs,hn,λ H1 S1=>?_⟩
  have:=q H1 S1
  unfold ND.ci ND.mix at this
  rw [YG (by decide),YK rfl,YU h] at this
  exact this
 .
  refine ⟨_,rfl,_,a,dx,_,_,_,rfl,ha,e0.2.2.2.2.2,pc.cl,(gZ T).ot k,_,rfl,_,rfl,_,a,n,x,y,_,i,ps,st,rfl,px,hi,hs,hn,λ H1 S1=>?_⟩
  have:=q H1 S1
  unfold ND.ci ND.mix at this
  rw [YG (by decide),YK rfl,YA h] at this
  exact this
theorem uz (T:Txt K mg Ad) {H:Hp} {a:Addr} {n v k:Nat} {key:oA} {sub:ND} {has:Bool} (h:wB P w K mg base Ad.Keeper Ad.Table n H a key v sub has k) (ok:ND.Ok n (.table key v sub has)) (n4:n<=4) (hm:sub.am<=60) (hs:ND.size (.table key v sub has)<=15):KX P w K mg base Ad.Keeper n H a (.table key v sub has) (k+1):=by
 obtain ⟨dx,pr,x,b0,h1,h2,h3⟩:=id h
 exact ⟨⟨_,dx,_,_,_,_,_,h1,⟨rfl,rfl,rfl,rfl⟩,T.aV,fm T,fM T,jp T,i6 T,λ q k'=>⟨a,n,key,v,sub,has,rfl,h.same q,k'⟩,λ q k'=>⟨a,n,key,v,sub,has,rfl,h.same q,k'⟩,
   λ q hi jU hn k'=>⟨a,n,key,v,sub,has,_,_,_,rfl,h.same q,hi,jU,hn,k'⟩,λ q hi jU hn k'=>⟨a,n,key,v,sub,has,_,_,_,rfl,h.same q,hi,jU,hn,k'⟩,
   .ins h1 T.aV T.nT T.dh T.ca T.nB,λ q => .ins (q _ _ h1) T.aV T.nT T.dh T.ca T.nB,T.uq⟩,ok,n4,hm,hs⟩
structure yC (P:Program) (w:World) (K:W.Frag) (mg:Str->Option Value) (base:Heap) (CK C:Addr) (way:Nat):Prop where
 pk:yF P w K mg base CK C
 wi:∀ k,bv P w K mg base C "wish" (k+2) ["self","mind","state"] [] (jD P w K mg base CK C way k)
 ty:∀ {H:Hp} {a dx:Addr} {fs},H a=some (.ins C dx fs)->gf K H (.ref a) (.ref C)
 kk:W.kitOne K (.ref C) (.ref CK)=some true
abbrev uH (way r:Nat) (bd:Int):List (Str×V):=if way=4 then [("room",aw r),("band",.int bd)] else []
theorem m8 {way r:Nat} {bd:Int}:(uH way r bd).lookup ("minds" : Str)=none/\(uH way r bd).lookup ("size" : Str)=none/\(uH way r bd).lookup ("wish" : Str)=none/\(uH way r bd).lookup ("after" : Str)=none/\(uH way r bd).lookup ("wish_of_one" : Str)=none/\(uH way r bd).lookup ("wish_of_other" : Str)=none:=by
 unfold uH
 split<;>exact ⟨rfl,rfl,rfl,rfl,rfl,rfl⟩
theorem uV {C:Addr} {way:Nat} (pk:yC P w K mg base Ad.Keeper C way) {H:Hp} {a dx b c:Addr} {n k r:Nat} {bd:Int} {x y:ND} (ha:H a=some (.ins C dx (("one",.ref b)::("other",.ref c)::uH way r bd))) (hb:KX P w K mg base Ad.Keeper n H b x k) (hc:KX P w K mg base Ad.Keeper n H c y k) (w1:1<=way) (w4:way<=4) (hr:r<n) (hm:x.am * y.am<=60) (hs:1+x.size+y.size<=15):KX P w K mg base Ad.Keeper n H a (.join way x y r bd) (k+2):=by
 have px:w6 P w K mg base Ad.Keeper C n H a x y (uH way r bd) k:=⟨pk.pk.pc,m8,dx,b,c,ha,hb,hc⟩
 have e:=@m8 way r bd
 exact ⟨⟨C,dx,_,_,_,_,_,ha,⟨e.1,e.2.1,e.2.2.1,e.2.2.2.1⟩,pk.pk.pc.cl,(pk.pk.mi k).mono (by lia),(pk.pk.si k).mono (by lia),pk.wi k,(pk.pk.af k).mono (by lia),λ q k'=>⟨C,a,n,x,y,_,rfl,px.same q,k'⟩,λ q k'=>⟨C,a,n,x,y,_,rfl,px.same q,k'⟩,
   λ q hi jU hn k'=>⟨a,n,x,y,r,_,bd,_,_,rfl,px.same q,hi,hr,jU,hn,k'⟩,λ q hi jU hn k'=>⟨C,a,n,x,y,_,_,_,_,rfl,px.same q,hi,jU,hn,k'⟩,pk.ty ha,λ q=>pk.ty (q _ _ ha),pk.kk⟩,⟨w1,w4,hb.ok,hc.ok,hr⟩,hb.n4,hm,hs⟩
theorem vi (T:Txt K mg Ad):yC P w K mg base Ad.Keeper Ad.Pair 1:=⟨mN T,λ _=>kN T,λ h => .ins h T.pL T.vz T.dh T.ca T.vP,T.wj⟩
theorem qq (T:Txt K mg Ad):yC P w K mg base Ad.Keeper Ad.bO 2:=⟨gb T,λ _=>iW T,λ h => .ins h T.lq T.qr T.dh T.ca T.re,T.qC⟩
theorem nj (T:Txt K mg Ad):yC P w K mg base Ad.Keeper Ad.aR 3:=⟨d4 T,λ _=>gN T,λ h => .ins h T.iD T.om T.dh T.ca T.mU,T.oy⟩
theorem sj (T:Txt K mg Ad):yC P w K mg base Ad.Keeper Ad.Below 4:=⟨gZ T,λ _=>jW T,λ h => .ins h T.eP T.sr T.dh T.ca T.sY,T.sk⟩
inductive qZ (P:Program) (w:World) (K:W.Frag) (mg:Str->Option Value) (base:Heap) (vs:List V) (H:Hp) (Q:VK) (_E:XK):Prop
 | mk (a C dx fs oZ oI:_) (m s:Nat) (_:vs=[.ref a]) (_:H a=some (.ins C dx fs)) (_:fs.lookup ("minds" : Str)=none) (_:fs.lookup ("size" : Str)=none) (_:k6 K C) (_:bv P w K mg base C "minds" 37 ["self"] [] oZ) (_:bv P w K mg base C "size" 37 ["self"] [] oI) (_:(∀ {Q:VK},Q (aw m) H->oZ [.ref a] H Q E0)) (_:(∀ {Q:VK},Q (aw s) H->oI [.ref a] H Q E0)) (_:m<=60) (_:s<=15) (_:Q .bG H)
theorem ft (T:Txt K mg Ad):Def P w K mg base "look_at_size" 38 ["keeper"] (qZ P w K mg base):=by
 refine T.jn.eZ iR λ f aP A outer s H vs Q E hr h=>?_
 obtain ⟨a,C,dx,fs,oZ,oI,m,s,rfl,ha,e1,e2,cl,d1,d2,p1,p2,hm,hs,q⟩:=h
 refine ⟨_,(aj (bh (aC iA (cc (P:=P) (w:=w) (K:=K) (mg:=mg) (base:=base) (k:=37) ⟨rfl,rfl,rfl,rfl,rfl⟩ (pv 0) hr) (jw rfl T.lM) (aG _)) (ak g7) aF)
     (ak (bh (aC iA (cc (P:=P) (w:=w) (K:=K) (mg:=mg) (base:=base) (k:=37) ⟨rfl,rfl,rfl,rfl,rfl⟩ (pv 0) hr) (jw rfl T.nr) (aG _)) (ak g7) aF))),?_⟩
 try dsimp only [eG,aT]
 exact ⟨_,rfl,C,a,dx,_,_,_,rfl,ha,e1,cl,d1,p1 ⟨_,_,rfl,rfl,_,rfl,cn (by lia) ⟨_,rfl,C,a,dx,_,_,_,rfl,ha,e2,cl,d2,p2 ⟨_,_,rfl,rfl,_,rfl,cn (by lia) q⟩⟩⟩⟩
inductive gJ (P:Program) (w:World) (K:W.Frag) (mg:Str->Option Value) (base:Heap) (CK:Addr) (vs:List V) (H:Hp) (Q:VK) (_E:XK):Prop
 | mk (C x dx b c n k t u:_) (_:vs=[.ref x,.ref b,.ref c]) (_:yF P w K mg base CK C) (_:H x=some (.ins C dx [])) (_:(∃ H0,az H0 H/\H0 x=none/\KX P w K mg base CK n H0 b t k/\KX P w K mg base CK n H0 c u k)) (_:k<=35) (_:t.am * u.am<=60) (_:1+t.size+u.size<=15) (_:∀ H',(∀ b o,H b=some o->b≠x->H' b=some o)->H' x=some (.ins C dx [("one",.ref b),("other",.ref c)])->Q .bG H')
theorem cr (T:Txt K mg Ad) {f:Addr} {fd:FuncData} (F:eS K "__init__" "Pair.__init__" aE .none f fd):dg P w K mg base iP 39 f fd ["self","one","other"] (gJ P w K mg base Ad.Keeper):=by
 refine F.ok ia (λ vs H Q E h=>?_) (λ aP A outer s H vs Q E hr h=>?_)
 . obtain ⟨C,x,dx,b,c,n,k,t,u,rfl,_⟩:=h
   rfl
 .
  obtain ⟨C,x,dx,b,c,n,k,t,u,rfl,pk,hx,⟨H0,S0,f0,hb,hc⟩,yq,z1,z2,q⟩:=h
  refine ⟨_,(aj (fY (pv 0) (pv 1) rfl)
    (aj (fY (pv 0) (pv 2) rfl)
    (ak (gT (au (ft (K:=K) T) hr.m (aa (pv 0) ag)))))),?_⟩
  try dsimp only [eG,aT]
  first|(refine eJ ?_;intro _ _ _ _)|skip
  have B0:oq K C x dx H H []:=.start hx
  refine ⟨_,rfl,_,rfl,x,_,dx,_,rfl,B0.at_,pk.pc.cl,pk.pc.n1,lt1000 rfl,?_⟩
  have B1:=B0.put (fs':=cE "one" (.ref b) [])
  refine ⟨_,rfl,_,rfl,x,_,dx,_,rfl,B1.at_,pk.pc.cl,pk.pc.n2,lt1000 rfl,?_⟩
  have B2:=B1.put (fs':=cE "other" (.ref c) (cE "one" (.ref b) []))
  generalize upd (upd H x (.ins C dx (cE "one" (.ref b) []))) x (.ins C dx (cE "other" (.ref c) (cE "one" (.ref b) [])))=H2 at B2 ⊢
  have S2:az H0 H2:=λ a o e=>B2.st a o (S0 _ _ e) (aH e f0)
  have px:w6 P w K mg base Ad.Keeper C n H2 x t u [] k:=⟨pk.pc,⟨rfl,rfl,rfl,rfl,rfl,rfl⟩,dx,b,c,B2.at_,hb.same S2,hc.same S2⟩
  exact ⟨_,rfl,x,C,dx,_,_,_,t.am * u.am,1+t.size+u.size,rfl,B2.at_,rfl,rfl,pk.pc.cl,(pk.mi k).mono (by lia),(pk.si k).mono (by lia),λ q'=>⟨C,x,n,t,u,[],rfl,px,q'⟩,λ q'=>⟨C,x,n,t,u,[],rfl,px,q'⟩,z1,z2,q _ B2.st B2.at_⟩
theorem gG (T:Txt K mg Ad):bv P w K mg base Ad.Pair "__init__" 39 ["self","one","other"] [] (gJ P w K mg base Ad.Keeper):=T.iO.of (λ _ _ _ _ _ _ us hl=>jl hl λ _ _ _=>rfl) (λ _ _ F=>cr T F)
theorem gh (T:Txt K mg Ad):bv P w K mg base Ad.bO "__init__" 39 ["self","one","other"] [] (gJ P w K mg base Ad.Keeper):=T.hC.of (λ _ _ _ _ _ _ us hl=>jl hl λ _ _ _=>rfl) (λ _ _ F=>cr T F)
theorem fA (T:Txt K mg Ad):bv P w K mg base Ad.aR "__init__" 39 ["self","one","other"] [] (gJ P w K mg base Ad.Keeper):=T.gm.of (λ _ _ _ _ _ _ us hl=>jl hl λ _ _ _=>rfl) (λ _ _ F=>cr T F)
theorem gF (T:Txt K mg Ad):ya P w K mg base Ad.Pair "__init__" 39 ["self","one","other"] (gJ P w K mg base Ad.Keeper):=vv T.iS (λ _ _ _ _ _ _ us hl=>jl hl λ _ _ _=>rfl) (λ _ _ F=>cr T F)
inductive vq (P:Program) (w:World) (K:W.Frag) (mg:Str->Option Value) (base:Heap) (CK C:Addr) (vs:List V) (H:Hp) (Q:VK) (_E:XK):Prop
 | mk (x dx b c n k t u:_) (r bd:Int) (_:vs=[.ref x,.int r,.int bd,.ref b,.ref c]) (_:H x=some (.ins C dx [])) (_:(∃ H0,az H0 H/\H0 x=none/\KX P w K mg base CK n H0 b t k/\KX P w K mg base CK n H0 c u k)) (_:k<=35) (_:t.am * u.am<=60) (_:1+t.size+u.size<=15) (_:∀ H',(∀ b o,H b=some o->b≠x->H' b=some o)->H' x=some (.ins C dx [("one",.ref b),("other",.ref c),("room",.int r),("band",.int bd)])->Q .bG H')
theorem gC (T:Txt K mg Ad):bv P w K mg base Ad.Below "__init__" 40 ["self","room","band","one","other"] [] (vq P w K mg base Ad.Keeper Ad.Below):=by
 refine T.ic.cf gM λ f aP A outer s H vs Q E hr h=>?_
 obtain ⟨x,dx,b,c,n,k,t,u,r,bd,rfl,hx,hk,yq,z1,z2,q⟩:=h
 refine ⟨_,(aj (gT (wc (gF T) hr.m T.t9 (aa (pv 0) (aa (pv 3) (aa (pv 4) ag)))))
     (aj (fY (pv 0) (pv 1) rfl)
     (ak (fY (pv 0) (pv 2) rfl)))),?_⟩
 try dsimp only [eG,aT]
 first|(refine eJ ?_;intro _ _ _ _)|skip
 refine ⟨_,rfl,_,rfl,_,rfl,Ad.Below,x,dx,b,c,n,k,t,u,rfl,gZ T,hx,hk,yq,z1,z2,λ H1 U4 Sf=>?_⟩
 have B0:oq K Ad.Below x dx H1 H1 [("one",.ref b),("other",.ref c)]:=.start Sf
 refine ⟨_,rfl,_,rfl,x,_,dx,_,rfl,B0.at_,T.eP,T.gu,lt1000 rfl,?_⟩
 have B1:=B0.put (fs':=cE "room" (.int r) [("one",.ref b),("other",.ref c)])
 refine ⟨_,rfl,_,rfl,x,_,dx,_,rfl,B1.at_,T.eP,T.gs,lt1000 rfl,?_⟩
 have B2:=B1.put (fs':=cE "band" (.int bd) (cE "room" (.int r) [("one",.ref b),("other",.ref c)]))
 exact q _ (λ b o hb n=>B2.st b o (U4 b o hb n) n) B2.at_
inductive lL (P:Program) (w:World) (K:W.Frag) (mg:Str->Option Value) (base:Heap) (CK C:Addr) (vs:List V) (H:Hp) (Q:VK) (_E:XK):Prop
 | mk (x dx p b0 y n k key sub:_) (v:Nat) (has:_) (_:vs=[.ref x,.ref p,y]) (_:H x=some (.ins C dx [])) (_:eD P w K H p [(dN key,b0,aw v)]) (_:(∃ H0,az H0 H/\H0 x=none/\((has=false/\sub = .bG/\y = .bG)∨(has=true/\∃ b,y = .ref b/\KX P w K mg base CK n H0 b sub k)))) (_:k<=36) (_:sub.am<=60) (_:ND.size (.table key v sub has)<=15) (_:∀ pr H',(∀ b o,H b=some o->b≠x->H' b=some o)->H' x=some (.ins C dx [("rows",.ref pr),("other",y)])->eD P w K H' pr [(dN key,b0,aw v)]->Q .bG H')
theorem dX (T:Txt K mg Ad):E8 P w K mg base Ad.Table "__init__" "Table.__init__" bo (.ref Ad.cQ) 39 ["self","rows","other"] (lL P w K mg base Ad.Keeper Ad.Table):=by
 refine T.iu.Vd hG (λ vs H Q E h=>?_) (λ f _ _ _ s H vs Q E hr h=>?_)
 . obtain ⟨x,dx,p,b0,y,n,k,key,sub,v,has,rfl,_⟩:=h
   rfl
 .
  obtain ⟨x,dx,p,b0,y,n,k,key,sub,v,has,rfl,hx,hp,⟨H0,S0,f0,hy⟩,X5,z1,z2,q⟩:=h
  refine ⟨_,(aj (fY (pv 0) (bA (d9 (P:=P) (w:=w) (K:=K) rfl rfl rfl) (by rfl) T.mn jf (aa (pv 1) ag)) rfl)
    (aj (fY (pv 0) (pv 2) rfl)
    (ak (gT (au (ft (K:=K) T) hr.m (aa (pv 0) ag)))))),?_⟩
  try dsimp only [eG,aT]
  first|(refine eJ ?_;intro _ _ _ _)|skip
  refine ⟨_,rfl,p,_,_,_,rfl,hp,λ pr E9=>?_⟩
  have x3:x≠pr:=aH hx E9
  have s1:=ap (o:=gD P w pr [(dN key,b0,aw v)]) E9
  have hk:=hp.keys _ YI
  have Ct:(upd H pr (gD P w pr [(dN key,b0,aw v)])) pr=some (gD P w pr [(dN key,b0,aw v)]):=ae
  generalize upd H pr (gD P w pr [(dN key,b0,aw v)])=H1 at s1 Ct ⊢
  have B0:oq K Ad.Table x dx H1 H1 []:=.start (s1 _ _ hx)
  refine ⟨_,rfl,x,_,dx,_,rfl,B0.at_,T.aV,T.eC,lt1000 rfl,?_⟩
  have B1:=B0.put (fs':=cE "rows" (.ref pr) [])
  refine ⟨_,rfl,_,rfl,x,_,dx,_,rfl,B1.at_,T.aV,T.aI,lt1000 rfl,?_⟩
  have B2:=B1.put (fs':=cE "other" y (cE "rows" (.ref pr) []))
  generalize upd (upd H1 x (.ins Ad.Table dx (cE "rows" (.ref pr) []))) x (.ins Ad.Table dx (cE "other" y (cE "rows" (.ref pr) [])))=H2 at B2 ⊢
  have S2:az H0 H2:=λ a o e=>B2.st a o (s1 _ _ (S0 _ _ e)) (aH e f0)
  have dd:eD P w K H2 pr [(dN key,b0,aw v)]:=⟨B2.st _ _ Ct x3.symm,λ e he=>by rw [List.mem_singleton.mp he];exact (hk.ts s1.ts).ts B2.ts⟩
  have tb:wB P w K mg base Ad.Keeper Ad.Table n H2 x key v sub has k:=⟨dx,pr,y,b0,B2.at_,dd,hy.imp id λ ⟨e,b,e2,kx⟩=>⟨e,b,e2,kx.same S2⟩⟩
  exact ⟨_,rfl,x,_,dx,_,_,_,sub.am,ND.size (.table key v sub has),rfl,B2.at_,rfl,rfl,T.aV,(fm T (k:=k)).mono (by lia),(fM T (k:=k)).mono (by lia),λ q'=>⟨x,n,key,v,sub,has,rfl,tb,q'⟩,λ q'=>⟨x,n,key,v,sub,has,rfl,tb,q'⟩,z1,z2,q pr _ (λ b o hb n=>B2.st b o (s1 _ _ hb) n) B2.at_ dd⟩
theorem ul {a:V} {items:Array Value} (h:Vals [a] items.toList):∃ u,items=#[u]/\RelV a u:=by
 obtain ⟨l⟩:=items
 cases h with
 | cons h1 h=>cases h with
   | nil=>exact ⟨_,rfl,h1⟩
theorem fJ (T:Txt K mg Ad):pA P w K mg base Ad.Table "__init__" 39 ["self","rows","other"] [] (lL P w K mg base Ad.Keeper Ad.Table) :=
 (dX T).u4 T.eI λ items hv=>by
   obtain ⟨u1,rfl,r1⟩:=ul hv
   exact ⟨[],.nil,λ _ _ _ _ _ _ us hl=>match us,hl with | [_,_,_],_=>⟨_,rfl,rfl⟩⟩
theorem fL (T:Txt K mg Ad):pA P w K mg base Ad.Table "__init__" 39 ["self","rows","other"] [.bG] (lL P w K mg base Ad.Keeper Ad.Table) :=
 (dX T).u4 T.eI λ items hv=>by
   obtain ⟨u1,rfl,r1⟩:=ul hv
   exact ⟨[u1],.cons r1 .nil,λ _ _ _ _ _ _ us hl=>match us,(by simpa using hl:us.length=2) with | [_,_],_=>⟨_,rfl,rfl⟩⟩
theorem ef (T:Txt K mg Ad):Def P w K mg base "_law_stream" 1 ["_law_cell","_law_many"] rj:=by
 refine T.lX.eZ cA λ f aP A outer s H vs Q E hr h=>?_
 obtain ⟨c,m,rfl,hm,k⟩:=h
 refine ⟨_,(aj (aL (i:=2) cA.nd rfl (lc rfl) (fT ag))
     (aj (aL (i:=3) cA.nd rfl (lc rfl) (ar aS (ar aD (pv 0) ac) ac))
     (aj (gw YZ rfl (cP rfl T.fb (aa (ar aS (pv 1) ac) ag)) (bE (i:=4) cA.nd rfl (lc rfl)) (aj (aL (i:=3) cA.nd rfl (lc rfl) (ar aD (ar aS (ar aS (ar cw (pv 3) ac) (ar cw (ar cw ac (pv 4)) (pv 4))) ac) ac))
     (ak (gT (wF ZN ZK ZJ ik (pv 2) (aa (ar cL (pv 3) ac) ag))))))
     (ak (aq (gP je (pv 2) (g8 ac) lK)))))),?_⟩
 try dsimp only [eG,aT]
 first|(refine fO ?_;intro _ _ _ _ _)|skip
 refine ⟨TV,λ pf Fc=>?_⟩
 refine ⟨_,rfl,_,_,rfl,rfl,by decide,λ q q0 q1 eq=>⟨_,_,rfl,rfl,λ nu XD=>?_⟩⟩
 refine ⟨_,rfl,_,_,rfl,rfl,λ y ey=>⟨_,rfl,by lia,by lia,?_⟩⟩
 obtain rfl:y=((m+2:Nat):Int):=by rw [ey];push_cast;rfl
 refine jv (lo:=0) (n:=m+2) (λ i U H'=>A3 (az H H') (∃ (ns:List Int),A3 (H' pf=some (.lst (ns.map V.int))) (ns.length=i) (∀ z∈ns,0<=z/\z<2 ^ 31)) (E2 λ nu v=>A3 (0<=nu) (nu<=2147483647) (U=[some (.int c),some (aw m),some (.ref pf),some (.int nu),v])))
   ⟨ap Fc,⟨[],ae,rfl,nofun⟩,nu,none,by lia,by lia,rfl⟩ ?_ ?_
 .
  rintro _ i U H' hi ⟨s1,⟨ns,hp,ln,bn⟩,nu,v,n0,n1,rfl⟩
  refine ⟨_,rfl,_,_,rfl,rfl,⟨31,16,(show nu.natAbs<2 ^ 31 by lia),uI,by decide⟩,λ y1 e1=>?_⟩
  refine ⟨_,rfl,_,_,rfl,rfl,⟨13,7,uI,(show Int.natAbs _<2 ^ 7 by lia),by decide⟩,λ y2 e2=>?_⟩
  have e2:y2=7919 * (0+(i:Int)):=e2
  refine ⟨_,rfl,_,_,rfl,rfl,⟨20,7,(show Int.natAbs _<2 ^ 20 by lia),(show Int.natAbs _<2 ^ 7 by lia),by decide⟩,λ y3 e3=>⟨_,_,rfl,rfl,λ y4 e4=>⟨_,_,rfl,rfl,λ y5 e5=>⟨_,_,rfl,rfl,by decide,λ y6 g0 g1 e6=>?_⟩⟩⟩⟩
  refine ⟨_,rfl,.inl ⟨rfl,_,cg.of hp⟩,_,rfl,_,_,rfl,rfl,⟨by decide,uI⟩,λ y7 e7=>?_⟩
  rw [YD _ (by decide)] at e7
  have e7:y7=y6 / 3:=e7
  refine ⟨pf,_,_,rfl,rfl,hp,cu (by rw [ET];lia),s1.put Fc,⟨ns++[y7],by rw [YY];exact ae,by rw [Yw,ln];rfl,λ z hz=>?_⟩,y6,_,g0,by lia,rfl⟩
  rcases List.mem_append.mp hz with h|h
  . exact bn z h
  . rw [List.mem_singleton.mp h];lia
 .
  rintro U H' ⟨s1,⟨ns,hp,ln,bn⟩,nu,v,n0,n1,rfl⟩
  refine ⟨_,rfl,2,rfl,pf,_,rfl,cg.of hp,λ p2 xj=>?_⟩
  rw [FH ln]
  exact k p2 (ns.drop 2) _ (s1.trans (ap xj)) ae (by rw [Zg];lia) (λ z hz=>bn z (ZV hz))
theorem dF (T:Txt K mg Ad):Def P w K mg base "_law_whole" 1 ["_law_found"] sR:=by
 refine T.nz.eZ mF λ f aP A outer s H vs Q E hr h=>?_
 obtain ⟨z,rfl,k⟩:=h
 refine ⟨_,(ak (aq (rH (bK fI (by rfl) T.ff eA (aa (pv 0) (aa (p7 (v:=V.ty "int") rfl T.nP jA rfl) ag))) (oM (xM (bK fI (by rfl) T.ff eA (aa (pv 0) (aa (p7 (v:=V.ty "bool") rfl T.yk wg rfl) ag)))))))),?_⟩
 try dsimp only [eG,aT]
 exact ⟨_,rfl,_,_,_,_,_,rfl,.int z,rfl,rfl,_,rfl,eN ⟨_,rfl,_,_,_,_,_,rfl,.int z,rfl,mR K,_,rfl,k⟩⟩
theorem lG (T:Txt K mg Ad):Def P w K mg base "_law_state" 1 ["_law_xs","_law_rooms"] (sU K):=by
 refine T.oj.eZ dr λ f aP A outer s H vs Q E hr h=>?_
 obtain ⟨p,ns,r,rfl,hp,l6,bn,r1,r4,k⟩:=h
 refine ⟨_,(aj (aL (i:=2) dr.nd rfl (lc rfl) (bA ek (by rfl) T.l7 jL (aa (p6 ["_law_k"] ["_law_xs"] [0] (.cons ⟨rfl,rfl,.inl rfl⟩ .nil) rfl (cP rfl T.fb (aa (pv 1) ag)) (λ _ _ _ _ _=>(bE (i:=0) (show (["_law_k","_law_xs"]:List Str).Nodup by decide +kernel) rfl (lc rfl))) (λ _ _ _ _ _=>gH) (λ _ _ _ _ _=>(ar aD (ao (eR (K:=K) rfl) (pv 1) (pv 0) (λ _ _=>rfl)) ac)) rfl (by decide +kernel) (by decide +kernel) (by decide +kernel)) ag)))
     (aj (aL (i:=3) dr.nd rfl (lc rfl) (bA ek (by rfl) T.l7 jL (aa (p6 ["_law_k"] ["_law_xs"] [0] (.cons ⟨rfl,rfl,.inl rfl⟩ .nil) rfl (cP rfl T.fb (aa (pv 1) ag)) (λ _ _ _ _ _=>(bE (i:=0) (show (["_law_k","_law_xs"]:List Str).Nodup by decide +kernel) rfl (lc rfl))) (λ _ _ _ _ _=>gH) (λ _ _ _ _ _=>(ar aD (ar cL (ao (eR (K:=K) rfl) (pv 1) (pv 0) (λ _ _=>rfl)) ac) ac)) rfl (by decide +kernel) (by decide +kernel) (by decide +kernel)) ag)))
     (aj (aL (i:=4) dr.nd rfl (lc rfl) (bA ek (by rfl) T.l7 jL (aa (p6 ["_law_k"] ["_law_xs"] [0] (.cons ⟨rfl,rfl,.inl rfl⟩ .nil) rfl (cP rfl T.fb (aa (pv 1) ag)) (λ _ _ _ _ _=>(bE (i:=0) (show (["_law_k","_law_xs"]:List Str).Nodup by decide +kernel) rfl (lc rfl))) (λ _ _ _ _ _=>gH) (λ _ _ _ _ _=>(ar aD (ar cL (ao (eR (K:=K) rfl) (pv 1) (pv 0) (λ _ _=>rfl)) ac) ac)) rfl (by decide +kernel) (by decide +kernel) (by decide +kernel)) ag)))
     (ak (aq (bq (aa (pv 2) (aa (ar aD (ar aD (ao al (pv 0) ac (λ _ _=>rfl)) ac) (ao al (fT (aa ac (aa ac (aa ac (aa ac ag))))) (ar qb (pv 1) ac) (λ _ _=>rfl))) (aa (pv 3) (aa (pv 4) (aa (ar aD (ao al (pv 0) ac (λ _ _=>rfl)) ac) ag))))))))))),?_⟩
 try dsimp only [eG,aT]
 first|(refine fO ?_;intro _ _ _ _ _)|skip
 have at_:∀ {j:Nat},j<ns.length->mS (ns.map V.int) (0+(j:Int))=some (.int (ns.getD j 0)):=λ {j} h=>by
   rw [Int.zero_add,YC,dv h];exact aJ (ints_get h)
 have bd:∀ {j:Nat},j<ns.length->0<=ns.getD j 0/\ns.getD j 0<2 ^ 31:=λ {j} h=>by
   rw [YC,dv h];exact bn _ (Y6 h)
 refine ⟨_,rfl,_,rfl,by lia,by lia,λ D1 qv=>?_⟩
 refine dL (lo:=0) (n:=r) (λ i acc U H'=>A4 (az H H') (H' D1=some (.lst acc)) (∃ (bs:List Int),A3 (acc=bs.map V.int) (bs.length=i) (∀ z∈bs,0<=z/\z<=6)) (∃ v,U=[v,some (.ref p)]))
   ⟨ap qv,ae,⟨[],rfl,rfl,nofun⟩,none,rfl⟩ ?_ ?_
 .
  rintro i acc U H' hi ⟨s1,hD,⟨bs,rfl,lb,bb⟩,v,rfl⟩
  refine ⟨_,rfl,_,rfl,p,_,_,_,rfl,rfl,.inl (s1.seq hp),at_ (by lia),_,_,rfl,rfl,by decide,λ y g0 g1 ey=>?_⟩
  refine ⟨hD,cu (by rw [ET];lia),s1.put qv,ae,⟨bs++[y],by rw [YY];rfl,by rw [Yw,lb];rfl,λ z hz=>?_⟩,_,rfl⟩
  rcases List.mem_append.mp hz with h|h
  . exact bb z h
  . rw [List.mem_singleton.mp h];lia
 .
  rintro acc U H1 ⟨s1,hD,⟨bs,rfl,lb,bb⟩,v,rfl⟩
  refine ⟨D1,_,rfl,.inl ⟨cg.of hD,λ pb Xf=>?_⟩⟩
  have t1:=s1.trans (ap (o:=.tup (bs.map V.int)) Xf)
  have kb:(upd H1 pb (.tup (bs.map V.int))) pb=some (.tup (bs.map V.int)):=ae
  generalize upd H1 pb (.tup (bs.map V.int))=H2 at t1 kb ⊢
  refine ⟨_,rfl,_,rfl,by lia,by lia,λ D2 sM=>?_⟩
  refine dL (lo:=0) (n:=r) (λ i acc U H'=>A4 (az H2 H') (H' D2=some (.lst acc)) (∃ (bs:List Int),acc=bs.map V.int/\bs.length=i) (∃ v,U=[v,some (.ref p)]))
    ⟨ap sM,ae,⟨[],rfl,rfl⟩,none,rfl⟩ ?_ ?_
  . rintro i acc U H' hi ⟨s1,hD,⟨bs,rfl,lb⟩,v,rfl⟩
    refine ⟨_,rfl,_,rfl,p,_,_,_,rfl,rfl,.inl ((t1.trans s1).seq hp),at_ (by lia),_,_,rfl,rfl,⟨by decide,uI⟩,λ y0 Wd=>⟨_,_,rfl,rfl,by decide,λ y g0 g1 ey=>?_⟩⟩
    exact ⟨hD,cu (by rw [ET];lia),s1.put sM,ae,⟨bs++[y],by rw [YY];rfl,by rw [Yw,lb];rfl⟩,_,rfl⟩
  .
   rintro acc U H3 ⟨s3,hD,⟨us,rfl,lu⟩,v,rfl⟩
   refine ⟨D2,_,rfl,.inl ⟨cg.of hD,λ pw ro=>?_⟩⟩
   have t3:=s3.trans (ap (o:=.tup (us.map V.int)) ro)
   have ku:(upd H3 pw (.tup (us.map V.int))) pw=some (.tup (us.map V.int)):=ae
   generalize upd H3 pw (.tup (us.map V.int))=H4 at t3 ku ⊢
   refine ⟨_,rfl,_,rfl,by lia,by lia,λ D3 UI=>?_⟩
   refine dL (lo:=0) (n:=r) (λ i acc U H'=>A4 (az H4 H') (H' D3=some (.lst acc)) (∃ (bs:List Int),acc=bs.map V.int/\bs.length=i) (∃ v,U=[v,some (.ref p)]))
     ⟨ap UI,ae,⟨[],rfl,rfl⟩,none,rfl⟩ ?_ ?_
   . rintro i acc U H' hi ⟨s1,hD,⟨bs,rfl,lb⟩,v,rfl⟩
     refine ⟨_,rfl,_,rfl,p,_,_,_,rfl,rfl,.inl (((t1.trans t3).trans s1).seq hp),at_ (by lia),_,_,rfl,rfl,⟨by decide,uI⟩,λ y0 Wd=>⟨_,_,rfl,rfl,by decide,λ y g0 g1 ey=>?_⟩⟩
     exact ⟨hD,cu (by rw [ET];lia),s1.put UI,ae,⟨bs++[y],by rw [YY];rfl,by rw [Yw,lb];rfl⟩,_,rfl⟩
   .
    rintro acc U H5 ⟨s5,hD,⟨fs,rfl,lf⟩,v,rfl⟩
    refine ⟨D3,_,rfl,.inl ⟨cg.of hD,λ pf Fc=>?_⟩⟩
    have t5:=s5.trans (ap (o:=.tup (fs.map V.int)) Fc)
    have kf:(upd H5 pf (.tup (fs.map V.int))) pf=some (.tup (fs.map V.int)):=ae
    generalize upd H5 pf (.tup (fs.map V.int))=H6 at t5 kf ⊢
    have T6:=(t1.trans t3).trans t5
    have WL:=T6.seq hp
    have b4:=bd (j:=4) (by lia)
    have b5:=bd (j:=5) (by lia)
    have a4:mS (ns.map V.int) 4=some (.int (ns.getD 4 0)):=at_ (j:=4) (by lia)
    have a5:mS (ns.map V.int) 5=some (.int (ns.getD 5 0)):=at_ (j:=5) (by lia)
    refine ⟨_,rfl,_,rfl,p,_,_,_,rfl,rfl,.inl WL,a4,_,_,rfl,rfl,by decide,λ y1 g0 g1 e1=>⟨yN,λ pl eF=>?_⟩⟩
    have t7:=T6.trans (ap (o:=.lst [.int 2,.int 4,.int 8,.int 16]) eF)
    refine ⟨_,rfl,_,_,rfl,rfl,λ y2 e2=>?_⟩
    have e2:y2=(r:Int) - 1:=e2
    obtain ⟨z,hz,ez⟩:=g5 (ns:=[2,4,8,16]) (r:=y2) (by lia) (by show y2<4;lia)
    have hz:z=2∨z=4∨z=8∨z=16:=by simpa using hz
    refine ⟨pl,_,_,_,rfl,rfl,.inl (cg.of ae),ez,_,_,rfl,rfl,by lia,λ y3 h0 h1 e3=>?_⟩
    refine ⟨_,rfl,_,rfl,_,rfl,p,_,_,_,rfl,rfl,.inl (t7.seq hp),a5,_,_,rfl,rfl,by decide,λ y4 i0 i1 e4=>⟨YO rfl,λ ps Ek=>?_⟩⟩
    have t8:=ap (o:=.tup [.ref pb,.int y3,.ref pw,.ref pf,.int y4]) Ek
    have Iu:=(ap (o:=.lst [.int 2,.int 4,.int 8,.int 16]) eF).trans t8
    exact k ps bs us fs y3 y4 _ (t7.trans t8) ⟨pb,pw,pf,ae,Iu _ _ (t5 _ _ (t3 _ _ kb)),Iu _ _ (t5 _ _ ku),Iu _ _ kf⟩ lb lu lf bb h0 (by lia) i0 (by lia)
theorem mB (T:Txt K mg Ad):Def P w K mg base "_law_mixed" 1 ["_law_one","_law_other","_law_any_of"] uw:=by
 refine T.n8.eZ bY λ f aP A outer s H vs Q E hr h=>?_
 obtain ⟨a,b,any,rfl,ha,hb,k⟩:=h
 refine ⟨_,(aj (aL (i:=3) bY.nd rfl (lc rfl) ac)
     (aj (aL (i:=4) bY.nd rfl (lc rfl) ac)
     (aj (uA YZ (PW.pt (iC (aC iA (pv 0) ac (aG _)) (fF (aC iA (pv 1) ac (aG _))))) (aj (yd (bh (aC iA (ar aS (ar aD (pv 0) ac) (ar aD (pv 1) ac)) (ar qb ac (bA f9 (by rfl) T.nP jA (aa (pv 2) ag))) (aG _)) (ak (aL (i:=3) bY.nd rfl (lc rfl) (ar aS (pv 3) (pv 4)))) aF))
     (aj (aL (i:=0) bY.nd rfl (lc rfl) (ar cL (pv 0) ac))
     (aj (aL (i:=1) bY.nd rfl (lc rfl) (ar cL (pv 1) ac))
     (ak (aL (i:=4) bY.nd rfl (lc rfl) (ar cw (pv 4) ac)))))))
     (ak (aq (pv 3)))))),?_⟩
 try dsimp only [eG,aT]
 first|(refine fO ?_;intro _ _ _ _ _)|skip
 refine ⟨λ m U H'=>H'=H/\E4 λ (x y bits j:Nat)=>A6 (U=[some (aw x),some (aw y),some (.bl any),some (aw bits),some (aw (2 ^ j))]) (m=x+y) (j<=61) (x<2 ^ (61 - j)) (y<2 ^ (61 - j)) (bits+2 ^ j * rh any x y=rh any a b),
   ⟨_,rfl,a,b,0,0,rfl,rfl,by decide,ha,hb,by rw [ZT,Nat.one_mul,Nat.zero_add]⟩,?_⟩
 rintro m U H' ⟨rfl,x,y,bits,j,rfl,rfl,hj,hx,hy,e⟩
 refine ⟨_,rfl,_,_,rfl,rfl,_,rfl,fu (λ h=>eN ?_) (λ h=>⟨_,rfl,_,_,rfl,rfl,_,rfl,fu (λ h'=>?_) (λ h'=>?_)⟩)⟩
 rotate_left 2
 .
  have x0:x=0:=by lia
  have y0:y=0:=by lia
  subst x0 y0
  rw [rO,Nat.mul_zero,Nat.add_zero] at e
  exact ⟨_,rfl,by rw [e];exact k⟩
 all_goals
   have Yi:0<x+y:=by lia
   have XV:j<61:=by
     rcases Nat.lt_or_ge j 61 with q|q
     . exact q
     . have:61 - j=0:=by lia
       rw [this,ZT] at hx hy
       lia
   have VH:61 - j=(61 - (j+1))+1:=by lia
   rw [VH,Zv] at hx hy
   refine ⟨λ σ' qI=>qI=H'/\σ'=[some (aw (x / 2)),some (aw (y / 2)),some (.bl any),some (aw (bits+2 ^ j * mG any x y)),some (aw (2 ^ (j+1)))],λ σ' qI ⟨q1,q2⟩=>?_,?_⟩
   . refine ⟨x / 2+y / 2,by lia,q1,x / 2,y / 2,_,j+1,q2,rfl,by lia,by lia,by lia,?_⟩
     rw [← e,tu any x y,Zv,Nat.mul_add,Nat.add_assoc,Nat.mul_assoc]
   .
    refine ⟨λ σ' qI=>qI=H'/\σ'=[some (aw x),some (aw y),some (.bl any),some (aw (bits+2 ^ j * mG any x y)),some (aw (2 ^ j))],?_,?_⟩
    .
     refine ⟨_,rfl,_,_,rfl,rfl,by decide,λ u u0 u1 eu=>⟨_,rfl,_,_,rfl,rfl,by decide,λ v v0 v1 ev=>⟨_,_,rfl,rfl,λ s es=>⟨_,rfl,.inr ⟨any,rfl,_,_,rfl,rfl,λ t et=>⟨_,_,rfl,rfl,_,rfl,fu (λ h1=>?_) (λ h1=>?_)⟩⟩⟩⟩⟩⟩
     .
      have d1:mG any x y=1:=by
        unfold mG
        rw [YK]
        cases any<;>simp at et ⊢ <;> lia
      rw [d1,Nat.mul_one]
      refine ⟨_,rfl,_,rfl,_,_,rfl,rfl,λ z ez=>⟨rfl,?_⟩⟩
      rw [ez]
      rfl
     . have d0:mG any x y=0:=by
         unfold mG
         rw [YG]
         cases any<;>simp at et ⊢ <;> lia
       rw [d0,Nat.mul_zero,Nat.add_zero]
       exact ⟨rfl,rfl⟩
    . rintro σ' qI ⟨rfl,rfl⟩
      refine ⟨_,rfl,_,_,rfl,rfl,⟨by decide,uI⟩,λ z1 e1=>⟨_,rfl,_,_,rfl,rfl,⟨by decide,uI⟩,λ z2 e2=>⟨_,rfl,_,_,rfl,rfl,⟨62,2,(show Int.natAbs ((2 ^ j:Nat):Int)<2 ^ 62 by rw [Int.natAbs_natCast];exact Zn (by decide) (by lia)),uI,by decide⟩,λ z3 e3=>⟨rfl,?_⟩⟩⟩⟩
      rw [YD _ (by decide)] at e1 e2
      rw [e1,e2,e3,Zv]
      rfl
inductive o4  (vs:List V) (H:Hp) (Q:VK) (_E:XK):Prop
 | mk (n r:Nat) (_:vs=[aw n,aw r]) (_:r<=4) (_:Q (.bl (n.testBit r)) H)
theorem jr (T:Txt K mg Ad):Def P w K mg base "_law_in_bits" 1 ["_law_bits","_law_room"] o4:=by
 refine T.j7.eZ dQ λ f aP A outer s H vs Q E hr h=>?_
 obtain ⟨n,r,rfl,r4,k⟩:=h
 refine ⟨_,(aj (gw YZ rfl (cP rfl T.fb (aa (pv 1) ag)) (bE (i:=2) dQ.nd rfl (lc rfl)) (ak (aL (i:=0) dQ.nd rfl (lc rfl) (ar cL (pv 0) ac))))
     (ak (aq (d7 cy (ar aD (pv 0) ac) ac (aG _))))),?_⟩
 try dsimp only [eG,aT]
 refine ⟨_,rfl,_,rfl,by lia,by lia,?_⟩
 refine jv (lo:=0) (n:=r) (λ i U H'=>H'=H/\∃ v,U=[some (aw (n / 2 ^ i)),some (aw r),v]) ⟨rfl,none,by rw [ZT,Nat.div_one];rfl⟩ ?_ ?_
 .
  rintro _ i U H' hi ⟨rfl,v,rfl⟩
  refine ⟨_,rfl,_,_,rfl,rfl,⟨by decide,uI⟩,λ y ey=>?_⟩
  have:y=((n / 2 ^ (i+1):Nat):Int):=by
    rw [ey,Zv,← Nat.div_div_eq_div_mul]
    rw [YD _ (by decide)]
    push_cast;rfl
  rw [this]
  exact ⟨rfl,_,rfl⟩
 .
  rintro U H' ⟨rfl,v,rfl⟩
  refine ⟨_,rfl,_,_,rfl,rfl,by decide,λ y y0 y1 ey=>⟨rfl,?_⟩⟩
  have:decide (V.int y=V.int 1)=n.testBit r:=by
    rw [mI,Zu]
    show decide (y=1)=_
    rw [decide_eq_decide]
    lia
  rw [this];exact k
theorem mL {way:Nat}:V.str (jZ way) ≠ .str "clock"/\V.str (jZ way) ≠ .str "none"/\V.str (jZ way) ≠ .str "sill"/\V.str (jZ way) ≠ .str "table"/\Fk (.str (jZ way)) [.str "none",.str "sill"]=false/\Fk (.str (jZ way)) [.str "clock",.str "none",.str "sill"]=false:=by
 unfold jZ
 split
 . decide
 . split
   . decide
   . split<;>decide
theorem tY {b:Bool} {A B:Prop} (e:b=false) (h:B):if b=true then A else B:=by rw [e];exact h
theorem oO {j d:Nat} (T:Txt K mg Ad) (D:Def P w K mg base "_law_minds_by" (j+1) ["_law_node"] (pE P w K d)):Def P w K mg base "_law_minds_by" (j+2) ["_law_node"] (pE P w K (d+1)):=by
 refine T.fN.eZ fo λ f aP A outer s H vs Q E hr h=>?_
 obtain ⟨v,t,n,rfl,hn,ok,hd,hm,q⟩:=h
 refine ⟨_,(aj (bh (aC cy (ao al (pv 0) ac (λ _ _=>rfl)) ba (aG _)) (ak (aq (bK cb (by rfl) T.gq eo (aa (ao al (pv 0) ac (λ _ _=>rfl)) ag)))) aF)
     (aj (bh (aC hZ (ao al (pv 0) ac (λ _ _=>rfl)) (bq (aa ba (aa ba ag))) (by with_unfolding_all rfl)) (ak (aq ac)) aF)
     (aj (bh (aC cy (ao al (pv 0) ac (λ _ _=>rfl)) ba (aG _)) (ak (aq (au D (hr.mono (oX _)) (aa (ao al (pv 0) ac (λ _ _=>rfl)) ag)))) aF)
     (ak (aq (ar cw (au D (hr.mono (oX _)) (aa (ao al (pv 0) ac (λ _ _=>rfl)) ag)) (au D (hr.mono (oX _)) (aa (ao al (pv 0) ac (λ _ _=>rfl)) ag)))))))),?_⟩
 try dsimp only [eG,aT]
 first|(refine fO ?_;intro _ _ _ _ _)|skip
 cases t with
 | cH ws =>
   obtain ⟨p,pw,rfl,h1,h2⟩:=hn
   refine ⟨_,rfl,p,_,_,_,rfl,rfl,.inr (aK.of h1),rfl,rfl,_,rfl,iq rfl ?_⟩
   exact ⟨_,rfl,p,_,_,_,rfl,rfl,.inr (aK.of h1),rfl,pw,_,rfl,.inl (cg.of h2),λ r er=>by rw [er,ET];exact q H (az.refl _)⟩
 | bG =>
   obtain ⟨p,rfl,h1⟩:=hn
   refine ⟨_,rfl,p,_,_,_,rfl,rfl,.inr (aK.of h1),rfl,rfl,_,rfl,cn (by decide) ?_⟩
   refine ⟨_,rfl,p,_,_,_,rfl,rfl,.inr (aK.of h1),rfl,jQ,λ pt fB=>⟨pt,_,rfl,.inr (aK.of ae),rfl,rfl,_,rfl,eN (q _ (ap fB))⟩⟩
 | eQ r lo hi =>
   obtain ⟨p,rfl,h1⟩:=hn
   refine ⟨_,rfl,p,_,_,_,rfl,rfl,.inr (aK.of h1),rfl,rfl,_,rfl,cn (by decide) ?_⟩
   refine ⟨_,rfl,p,_,_,_,rfl,rfl,.inr (aK.of h1),rfl,jQ,λ pt fB=>⟨pt,_,rfl,.inr (aK.of ae),rfl,rfl,_,rfl,eN (q _ (ap fB))⟩⟩
 | table key x sub has =>
   obtain ⟨p,dd,y,b,rfl,h1,h2,h3⟩:=hn
   refine ⟨_,rfl,p,_,_,_,rfl,rfl,.inr (aK.of h1),rfl,rfl,_,rfl,cn (by decide) ?_⟩
   refine ⟨_,rfl,p,_,_,_,rfl,rfl,.inr (aK.of h1),rfl,jQ,λ pt fB=>⟨pt,_,rfl,.inr (aK.of ae),rfl,rfl,_,rfl,fP ?_⟩⟩
   have S:=ap (o:=.tup [.str "none",.str "sill"]) fB
   refine ⟨_,rfl,p,_,_,_,rfl,rfl,.inr (aK.of (S _ _ h1)),rfl,rfl,_,rfl,iq rfl ?_⟩
   exact ⟨_,rfl,p,_,_,_,rfl,rfl,.inr (aK.of (S _ _ h1)),rfl,_,sub,n,rfl,h3.same S,ok.2.1,by have hd:1+sub.depth<=d+1:=hd;lia,hm,λ H2 S2=>q H2 (S.trans S2)⟩
 | join way a b r bd =>
   obtain ⟨p,x,y,rfl,h1,h2,h3⟩:=hn
   have ne:=@mL way
   refine ⟨_,rfl,p,_,_,_,rfl,rfl,.inr (aK.of h1),aJ (j:=0) rfl,rfl,_,rfl,cn ne.1 ?_⟩
   refine ⟨_,rfl,p,_,_,_,rfl,rfl,.inr (aK.of h1),aJ (j:=0) rfl,jQ,λ pt fB=>⟨pt,_,rfl,.inr (aK.of ae),rfl,rfl,_,rfl,?_⟩⟩
   have S:=ap (o:=.tup [.str "none",.str "sill"]) fB
   generalize upd H pt (.tup [.str "none",.str "sill"])=H1 at S ⊢
   have e5:=ne.2.2.2.2.1
   refine tY e5 ?_
   have hd:1+max a.depth b.depth<=d+1:=hd
   have ml:=ND.mJ ok hm
   refine ⟨_,rfl,p,_,_,_,rfl,rfl,.inr (aK.of (S _ _ h1)),aJ (j:=0) rfl,rfl,_,rfl,cn ne.2.2.2.1 ?_⟩
   refine ⟨_,rfl,p,_,_,_,rfl,rfl,.inr (aK.of (S _ _ h1)),aJ (j:=1) rfl,_,a,n,rfl,h2.same S,ok.2.2.1,by lia,ml.1,λ H2 S2=>?_⟩
   have S2:=S.trans S2
   refine ⟨_,rfl,p,_,_,_,rfl,rfl,.inr (aK.of (S2 _ _ h1)),aJ (j:=2) rfl,_,b,n,rfl,h3.same S2,ok.2.2.2.1,by lia,ml.2,λ H3 S3=>?_⟩
   refine ⟨_,_,rfl,rfl,⟨12,12,(show Int.natAbs _<2 ^ 12 by lia),(show Int.natAbs _<2 ^ 12 by lia),by decide⟩,λ z ez=>?_⟩
   have e:z=((a.am * b.am:Nat):Int):=by rw [ez];push_cast;rfl
   rw [e]
   exact q H3 (S2.trans S3)
theorem gd:∀ t:ND,1<=t.depth
 | .bG=>by decide
 | .cH _=>by show 1<=1;decide
 | .eQ ..=>by show 1<=1;decide
 | .table _ _ sub _=>by show 1<=1+sub.depth;lia
 | .join _ a b _ _=>by show 1<=1+max a.depth b.depth;lia
theorem m6 (T:Txt K mg Ad):∀ d,Def P w K mg base "_law_minds_by" (d+1) ["_law_node"] (pE P w K d)
 | 0=>by
   refine T.fN.def fo (λ vs H Q E h=>?_) (λ _ _ _ _ _ _ us hl=>qg hl λ _=>rfl) (λ f _ _ _ s H vs Q E hr h=>?_)
   all_goals
     obtain ⟨v,t,n,_,_,_,hd,_⟩:=h
     have:=gd t
     lia
 | d+1=>oO T (m6 T d)
theorem bI (T:Txt K mg Ad):Def P w K mg base "_law_minds_by" 17 ["_law_node"] (pE P w K 16):=m6 T 16
theorem qz {j d:Nat} (T:Txt K mg Ad) (D:Def P w K mg base "_law_size_by" (j+1) ["_law_node"] (pN P w K d)):Def P w K mg base "_law_size_by" (j+2) ["_law_node"] (pN P w K (d+1)):=by
 refine T.gp.eZ fS λ f aP A outer s H vs Q E hr h=>?_
 obtain ⟨v,t,n,rfl,hn,ok,hd,hm,q⟩:=h
 refine ⟨_,(aj (bh (aC hZ (ao al (pv 0) ac (λ _ _=>rfl)) (bq (aa ba (aa ba (aa ba ag)))) (by with_unfolding_all rfl)) (ak (aq ac)) aF)
     (aj (bh (aC cy (ao al (pv 0) ac (λ _ _=>rfl)) ba (aG _)) (ak (aq (ar aS ac (ar cw (bA f9 (by rfl) T.nP jA (aa (ao al (pv 0) ac (λ _ _=>rfl)) ag)) (au D (hr.mono (oX _)) (aa (ao al (pv 0) ac (λ _ _=>rfl)) ag)))))) aF)
     (ak (aq (ar aS (ar aS ac (au D (hr.mono (oX _)) (aa (ao al (pv 0) ac (λ _ _=>rfl)) ag))) (au D (hr.mono (oX _)) (aa (ao al (pv 0) ac (λ _ _=>rfl)) ag))))))),?_⟩
 try dsimp only [eG,aT]
 first|(refine eJ ?_;intro _ _ _ _)|skip
 cases t with
 | cH ws =>
   obtain ⟨p,pw,rfl,h1,h2⟩:=hn
   exact ⟨_,rfl,p,_,_,_,rfl,rfl,.inr (aK.of h1),rfl,xg,λ pt fB=>⟨pt,_,rfl,.inr (aK.of ae),rfl,rfl,_,rfl,eN (q _ (ap fB))⟩⟩
 | bG =>
   obtain ⟨p,rfl,h1⟩:=hn
   exact ⟨_,rfl,p,_,_,_,rfl,rfl,.inr (aK.of h1),rfl,xg,λ pt fB=>⟨pt,_,rfl,.inr (aK.of ae),rfl,rfl,_,rfl,eN (q _ (ap fB))⟩⟩
 | eQ r lo hi =>
   obtain ⟨p,rfl,h1⟩:=hn
   exact ⟨_,rfl,p,_,_,_,rfl,rfl,.inr (aK.of h1),rfl,xg,λ pt fB=>⟨pt,_,rfl,.inr (aK.of ae),rfl,rfl,_,rfl,eN (q _ (ap fB))⟩⟩
 | table key x sub has =>
   obtain ⟨p,dd,y,b,rfl,h1,h2,h3⟩:=hn
   refine ⟨_,rfl,p,_,_,_,rfl,rfl,.inr (aK.of h1),rfl,xg,λ pt fB=>⟨pt,_,rfl,.inr (aK.of ae),rfl,rfl,_,rfl,fP ?_⟩⟩
   have S:=ap (o:=.tup [.str "clock",.str "none",.str "sill"]) fB
   generalize upd H pt (.tup [.str "clock",.str "none",.str "sill"])=H1 at S ⊢
   have hd:1+sub.depth<=d+1:=hd
   have hm:1+(if has=true then sub.size else 0)<=15:=hm
   have WC:sub.size<=15:=by
     cases has with
     | true=>rw [YK rfl] at hm;lia
     | false=>rw [ok.2.2 rfl];decide
   refine ⟨_,rfl,p,_,_,_,rfl,rfl,.inr (aK.of (S _ _ h1)),rfl,rfl,_,rfl,iq rfl ?_⟩
   refine ⟨_,rfl,p,_,_,_,rfl,rfl,.inr (aK.of (S _ _ h1)),rfl,.inr ⟨has,rfl,_,rfl,p,_,_,_,rfl,rfl,.inr (aK.of (S _ _ h1)),rfl,_,sub,n,rfl,h3.same S,ok.2.1,by lia,WC,λ H2 S2=>?_⟩⟩
   refine ⟨_,_,rfl,rfl,⟨12,12,(show Int.natAbs _<2 ^ 12 by cases has<;>decide),(show Int.natAbs _<2 ^ 12 by lia),by decide⟩,λ z ez=>⟨_,_,rfl,rfl,λ u eu=>?_⟩⟩
   have e:u=((1+(if has=true then sub.size else 0):Nat):Int):=by
     rw [eu,ez]
     cases has<;>simp
   rw [e]
   exact q H2 (S.trans S2)
 | join way a b r bd =>
   obtain ⟨p,x,y,rfl,h1,h2,h3⟩:=hn
   have ne:=@mL way
   refine ⟨_,rfl,p,_,_,_,rfl,rfl,.inr (aK.of h1),aJ (j:=0) rfl,xg,λ pt fB=>⟨pt,_,rfl,.inr (aK.of ae),rfl,rfl,_,rfl,?_⟩⟩
   have S:=ap (o:=.tup [.str "clock",.str "none",.str "sill"]) fB
   generalize upd H pt (.tup [.str "clock",.str "none",.str "sill"])=H1 at S ⊢
   refine tY ne.2.2.2.2.2 ?_
   have hd:1+max a.depth b.depth<=d+1:=hd
   have hm:1+a.size+b.size<=15:=hm
   refine ⟨_,rfl,p,_,_,_,rfl,rfl,.inr (aK.of (S _ _ h1)),aJ (j:=0) rfl,rfl,_,rfl,cn ne.2.2.2.1 ?_⟩
   refine ⟨_,rfl,p,_,_,_,rfl,rfl,.inr (aK.of (S _ _ h1)),aJ (j:=1) rfl,_,a,n,rfl,h2.same S,ok.2.2.1,by lia,by lia,λ H2 S2=>⟨_,_,rfl,rfl,λ u eu=>?_⟩⟩
   have S2:=S.trans S2
   refine ⟨_,rfl,p,_,_,_,rfl,rfl,.inr (aK.of (S2 _ _ h1)),aJ (j:=2) rfl,_,b,n,rfl,h3.same S2,ok.2.2.2.1,by lia,by lia,λ H3 S3=>⟨_,_,rfl,rfl,λ z ez=>?_⟩⟩
   have e:z=((1+a.size+b.size:Nat):Int):=by rw [ez,eu];push_cast;rfl
   rw [e]
   exact q H3 (S2.trans S3)
theorem pI (T:Txt K mg Ad):∀ d,Def P w K mg base "_law_size_by" (d+1) ["_law_node"] (pN P w K d)
 | 0=>by
   refine T.gp.def fS (λ vs H Q E h=>?_) (λ _ _ _ _ _ _ us hl=>qg hl λ _=>rfl) (λ f _ _ _ s H vs Q E hr h=>?_)
   all_goals
     obtain ⟨v,t,n,_,_,_,hd,_⟩:=h
     have:=gd t
     lia
 | d+1=>qz T (pI T d)
theorem dM (T:Txt K mg Ad):Def P w K mg base "_law_size_by" 17 ["_law_node"] (pN P w K 16):=pI T 16
theorem oU {j d:Nat} (T:Txt K mg Ad) (Wz:d<=15) (D:Def P w K mg base "_law_after_by" (j+18) ["_law_node","_law_mind"] (qe P w K d)):Def P w K mg base "_law_after_by" (j+19) ["_law_node","_law_mind"] (qe P w K (d+1)):=by
 refine T.fX.eZ dj λ f aP A outer s H vs Q E hr h=>?_
 obtain ⟨v,t,n,i,rfl,hn,ok,hd,hm,hi,q⟩:=h
 refine ⟨_,(aj (bh (aC cy (ao al (pv 0) ac (λ _ _=>rfl)) ba (aG _)) (ak (aq (ar aD (ar aS (pv 1) ac) (bK cb (by rfl) T.gq eo (aa (ao al (pv 0) ac (λ _ _=>rfl)) ag))))) aF)
     (aj (bh (aC hZ (ao al (pv 0) ac (λ _ _=>rfl)) (bq (aa ba (aa ba ag))) (by with_unfolding_all rfl)) (ak (aq ac)) aF)
     (aj (bh (aC cy (ao al (pv 0) ac (λ _ _=>rfl)) ba (aG _)) (ak (aq (au D (hr.mono (oX _)) (aa (ao al (pv 0) ac (λ _ _=>rfl)) (aa (pv 1) ag))))) aF)
     (aj (aL (i:=2) dj.nd rfl (lc rfl) (au (bI (K:=K) T) (hr.mono (by lia)) (aa (ao al (pv 0) ac (λ _ _=>rfl)) ag)))
     (ak (aq (ar aS (ar cw (au D (hr.mono (oX _)) (aa (ao al (pv 0) ac (λ _ _=>rfl)) (aa (ar cL (pv 1) (pv 2)) ag))) (pv 2)) (au D (hr.mono (oX _)) (aa (ao al (pv 0) ac (λ _ _=>rfl)) (aa (ar aD (pv 1) (pv 2)) ag)))))))))),?_⟩
 try dsimp only [eG,aT]
 first|(refine sX ?_;intro _ _ _ _ _ _)|skip
 cases t with
 | cH ws =>
   obtain ⟨p,pw,rfl,h1,h2⟩:=hn
   have l1:=ok.1
   refine ⟨_,rfl,p,_,_,_,rfl,rfl,.inr (aK.of h1),rfl,rfl,_,rfl,iq rfl ?_⟩
   refine ⟨_,rfl,_,_,rfl,rfl,λ y ey=>⟨_,rfl,p,_,_,_,rfl,rfl,.inr (aK.of h1),rfl,pw,_,rfl,.inl (cg.of h2),λ r er=>⟨_,_,rfl,rfl,by rw [er,ET];lia,λ q' q0 q1 eq=>?_⟩⟩⟩
   have e:q'=(((i+1) % ws.length:Nat):Int):=by rw [eq,ey,er,ET];push_cast;rfl
   rw [e]
   exact q H (az.refl _)
 | bG =>
   obtain ⟨p,rfl,h1⟩:=hn
   refine ⟨_,rfl,p,_,_,_,rfl,rfl,.inr (aK.of h1),rfl,rfl,_,rfl,cn (by decide) ?_⟩
   exact ⟨_,rfl,p,_,_,_,rfl,rfl,.inr (aK.of h1),rfl,jQ,λ pt fB=>⟨pt,_,rfl,.inr (aK.of ae),rfl,rfl,_,rfl,eN (q _ (ap fB))⟩⟩
 | eQ r lo hi =>
   obtain ⟨p,rfl,h1⟩:=hn
   refine ⟨_,rfl,p,_,_,_,rfl,rfl,.inr (aK.of h1),rfl,rfl,_,rfl,cn (by decide) ?_⟩
   exact ⟨_,rfl,p,_,_,_,rfl,rfl,.inr (aK.of h1),rfl,jQ,λ pt fB=>⟨pt,_,rfl,.inr (aK.of ae),rfl,rfl,_,rfl,eN (q _ (ap fB))⟩⟩
 | table key x sub has =>
   obtain ⟨p,dd,y,b,rfl,h1,h2,h3⟩:=hn
   refine ⟨_,rfl,p,_,_,_,rfl,rfl,.inr (aK.of h1),rfl,rfl,_,rfl,cn (by decide) ?_⟩
   refine ⟨_,rfl,p,_,_,_,rfl,rfl,.inr (aK.of h1),rfl,jQ,λ pt fB=>⟨pt,_,rfl,.inr (aK.of ae),rfl,rfl,_,rfl,fP ?_⟩⟩
   have S:=ap (o:=.tup [.str "none",.str "sill"]) fB
   refine ⟨_,rfl,p,_,_,_,rfl,rfl,.inr (aK.of (S _ _ h1)),rfl,rfl,_,rfl,iq rfl ?_⟩
   exact ⟨_,rfl,p,_,_,_,rfl,rfl,.inr (aK.of (S _ _ h1)),rfl,_,rfl,_,sub,n,i,rfl,h3.same S,ok.2.1,by have hd:1+sub.depth<=d+1:=hd;lia,hm,hi,λ H2 S2=>q H2 (S.trans S2)⟩
 | join way a b r bd =>
   obtain ⟨p,x,y,rfl,h1,h2,h3⟩:=hn
   have ne:=@mL way
   refine ⟨_,rfl,p,_,_,_,rfl,rfl,.inr (aK.of h1),aJ (j:=0) rfl,rfl,_,rfl,cn ne.1 ?_⟩
   refine ⟨_,rfl,p,_,_,_,rfl,rfl,.inr (aK.of h1),aJ (j:=0) rfl,jQ,λ pt fB=>⟨pt,_,rfl,.inr (aK.of ae),rfl,rfl,_,rfl,?_⟩⟩
   have S:=ap (o:=.tup [.str "none",.str "sill"]) fB
   generalize upd H pt (.tup [.str "none",.str "sill"])=H1 at S ⊢
   refine tY ne.2.2.2.2.1 ?_
   have hd:1+max a.depth b.depth<=d+1:=hd
   have ml:=ND.mJ ok hm
   have pb:=ND.pos ok.2.2.2.1
   have hi:i<a.am * b.am:=hi
   have di:i / b.am<a.am:=Y3 (by rw [Zj];exact hi)
   have mi:i % b.am<b.am:=Zm _ pb
   have Vn:=ND.eL ok.2.2.1 di
   refine ⟨_,rfl,p,_,_,_,rfl,rfl,.inr (aK.of (S _ _ h1)),aJ (j:=0) rfl,rfl,_,rfl,cn ne.2.2.2.1 ?_⟩
   refine ⟨_,rfl,p,_,_,_,rfl,rfl,.inr (aK.of (S _ _ h1)),aJ (j:=2) rfl,_,b,n,rfl,h3.same S,ok.2.2.2.1,by lia,ml.2,λ H2 S2=>?_⟩
   have S2:=S.trans S2
   refine ⟨_,rfl,p,_,_,_,rfl,rfl,.inr (aK.of (S2 _ _ h1)),aJ (j:=1) rfl,_,rfl,_,rfl,_,_,rfl,rfl,⟨by lia,(show Int.natAbs _<2 ^ 8999 from T1 (show Int.natAbs _<2 ^ 10 by lia) (Zc (by decide) (by decide)))⟩,λ q' eq=>?_⟩
   have e1:q'=((i / b.am:Nat):Int):=by rw [eq,YD _ (by lia)];push_cast;rfl
   subst e1
   refine ⟨_,a,n,_,rfl,h2.same S2,ok.2.2.1,by lia,ml.1,di,λ H3 S3=>?_⟩
   have S3:=S2.trans S3
   refine ⟨_,rfl,_,_,rfl,rfl,⟨10,10,(show Int.natAbs _<2 ^ 10 by lia),(show Int.natAbs _<2 ^ 10 by lia),by decide⟩,λ y' ey=>?_⟩
   refine ⟨_,rfl,p,_,_,_,rfl,rfl,.inr (aK.of (S3 _ _ h1)),aJ (j:=2) rfl,_,rfl,_,rfl,_,_,rfl,rfl,by lia,λ q' q0 q1 Pe=>?_⟩
   have e2:q'=((i % b.am:Nat):Int):=by rw [Pe];push_cast;rfl
   subst e2
   refine ⟨_,b,n,_,rfl,h3.same S3,ok.2.2.2.1,by lia,ml.2,mi,λ H4 S4=>⟨_,_,rfl,rfl,λ z ez=>?_⟩⟩
   have e:z=((a.after (i / b.am) * b.am+b.after (i % b.am):Nat):Int):=by rw [ez,ey];push_cast;rfl
   rw [e]
   exact q H4 (S3.trans S4)
theorem nQ (T:Txt K mg Ad):∀ d,d<=16->Def P w K mg base "_law_after_by" (d+18) ["_law_node","_law_mind"] (qe P w K d)
 | 0,_=>by
   refine T.fX.def dj (λ vs H Q E h=>?_) (λ _ _ _ _ _ _ us hl=>t4 hl λ _ _=>rfl) (λ f _ _ _ s H vs Q E hr h=>?_)
   all_goals
     obtain ⟨v,t,n,i,_,_,_,hd,_⟩:=h
     have:=gd t
     lia
 | d+1,h=>oU T (by lia) (nQ T d (by lia))
theorem ja (T:Txt K mg Ad):Def P w K mg base "_law_after_by" 34 ["_law_node","_law_mind"] (qe P w K 16):=nQ T 16 (by lia)
theorem ug {lo hi b:Int} {f:Bool} (h:lo<=hi):(decide (b<lo) || (decide (b<hi) && f))=decide (b<if f=true then hi else lo):=by
 cases f with
 | true =>
   rw [YK rfl,Bool.and_true,Y9,Bool.or_eq_true,Zr,Zr]
   lia
 | false=>rw [YG EE,Bool.and_false,Bool.or_false]
theorem o3 {r:Nat} (h:r<4):mS [V.int 1,V.int 2,V.int 4,V.int 8] (r:Int)=some (aw (2 ^ r)):=by
 have:r=0∨r=1∨r=2∨r=3:=by lia
 rcases this with rfl|rfl|rfl|rfl<;>rfl
theorem qy {j d:Nat} (T:Txt K mg Ad) (Wz:d<=15) (D:Def P w K mg base "_law_wish_by" (j+18) ["_law_node","_law_mind","_law_state_here"] (pY P w K d)):Def P w K mg base "_law_wish_by" (j+19) ["_law_node","_law_mind","_law_state_here"] (pY P w K (d+1)):=by
 refine T.gr.eZ bC λ f aP A outer s H vs Q E hr h=>?_
 obtain ⟨v,t,n,i,ps,st,rfl,hn,ok,n4,hd,hm,hi,hs,hl,q⟩:=h
 refine ⟨_,(aj (bh (aC cy (ao al (pv 0) ac (λ _ _=>rfl)) ba (aG _)) (ak (aq ac)) aF)
     (aj (bh (aC cy (ao al (pv 0) ac (λ _ _=>rfl)) ba (aG _)) (ak (aq (ao al (ao al (pv 0) ac (λ _ _=>rfl)) (pv 1) (λ _ _=>rfl)))) aF)
     (aj (bh (aC cy (ao al (pv 0) ac (λ _ _=>rfl)) ba (aG _)) (aj (aL (i:=3) bC.nd rfl (lc rfl) (ao al (ao al (pv 2) ac (λ _ _=>rfl)) (ao al (pv 0) ac (λ _ _=>rfl)) (λ _ _=>rfl)))
     (aj (aL (i:=4) bC.nd rfl (lc rfl) (au (jr (K:=K) T) (hr.mono (by lia)) (aa (ao al (pv 2) ac (λ _ _=>rfl)) (aa (ao al (pv 0) ac (λ _ _=>rfl)) ag))))
     (ak (aq (ar cw (bA f9 (by rfl) T.nP jA (aa (DA (d7 jH (pv 3) (ao al (pv 0) ac (λ _ _=>rfl)) (aG _)) (oM (rH (d7 jH (pv 3) (ao al (pv 0) ac (λ _ _=>rfl)) (aG _)) (oM (pv 4))))) ag)) (ao al (fT (aa ac (aa ac (aa ac (aa ac ag))))) (ao al (pv 0) ac (λ _ _=>rfl)) (λ _ _=>rfl))))))) aF)
     (aj (bh (aC cy (ao al (pv 0) ac (λ _ _=>rfl)) ba (aG _)) (aj (bh (aC (tU (P:=P) (w:=w) (K:=K) rfl rfl rfl hr.zR) (pv 2) (ao al (pv 0) ac (λ _ _=>rfl)) (by with_unfolding_all rfl)) (ak (aq (pS (P:=P) (w:=w) (K:=K) rfl rfl rfl hr.zR (ao al (pv 0) ac (λ _ _=>rfl)) (pv 2) (λ _ _=>rfl)))) aF)
     (ak (aq (au D (hr.mono (oX _)) (aa (ao al (pv 0) ac (λ _ _=>rfl)) (aa (pv 1) (aa (pv 2) ag))))))) aF)
     (aj (aL (i:=5) bC.nd rfl (lc rfl) (au (bI (K:=K) T) (hr.mono (by lia)) (aa (ao al (pv 0) ac (λ _ _=>rfl)) ag)))
     (aj (aL (i:=6) bC.nd rfl (lc rfl) (au D (hr.mono (oX _)) (aa (ao al (pv 0) ac (λ _ _=>rfl)) (aa (ar cL (pv 1) (pv 5)) (aa (pv 2) ag)))))
     (aj (aL (i:=7) bC.nd rfl (lc rfl) (au D (hr.mono (oX _)) (aa (ao al (pv 0) ac (λ _ _=>rfl)) (aa (ar aD (pv 1) (pv 5)) (aa (pv 2) ag)))))
     (aj (bh (aC cy (ao al (pv 0) ac (λ _ _=>rfl)) ba (aG _)) (ak (aq (pv 6))) aF)
     (aj (bh (aC cy (ao al (pv 0) ac (λ _ _=>rfl)) ba (aG _)) (ak (aq (ao al (fT (aa (pv 7) (aa (pv 6) ag))) (bA f9 (by rfl) T.nP jA (aa (d7 jH (ao al (ao al (pv 2) ac (λ _ _=>rfl)) (ao al (pv 0) ac (λ _ _=>rfl)) (λ _ _=>rfl)) (ao al (pv 0) ac (λ _ _=>rfl)) (aG _)) ag)) (λ _ _=>rfl)))) aF)
     (ak (aq (au (mB (K:=K) T) (hr.mono (by lia)) (aa (pv 6) (aa (pv 7) (aa (d7 cy (ao al (pv 0) ac (λ _ _=>rfl)) ba (aG _)) ag))))))))))))))),?_⟩
 try dsimp only [eG,aT]
 first|(refine rg ?_;intro _ _ _ _ _ _ _ _ _ _ _)|skip
 cases t with
 | bG =>
   obtain ⟨p,rfl,h1⟩:=hn
   exact ⟨_,rfl,p,_,_,_,rfl,rfl,.inr (aK.of h1),rfl,rfl,_,rfl,iq rfl (q _ (az.refl _))⟩
 | cH ws =>
   obtain ⟨p,pw,rfl,h1,h2⟩:=hn
   have hi:i<ws.length:=hi
   refine ⟨_,rfl,p,_,_,_,rfl,rfl,.inr (aK.of h1),rfl,rfl,_,rfl,cn (by decide) ?_⟩
   refine ⟨_,rfl,p,_,_,_,rfl,rfl,.inr (aK.of h1),rfl,rfl,_,rfl,iq rfl ?_⟩
   refine ⟨_,rfl,p,_,_,_,rfl,rfl,.inr (aK.of h1),rfl,_,rfl,pw,_,_,_,rfl,rfl,.inl (cg.of h2),aJ (v:=aw (ws.getD i 0)) ?_,q _ (az.refl _)⟩
   rw [YN,Yx hi,YC,Yx hi]
   rfl
 | eQ r lo E5 =>
   obtain ⟨p,rfl,h1⟩:=hn
   have Iy:r<4:=by have:=ok.1;lia
   obtain ⟨pb,pw,pf,g1,g2,g3,g4⟩:=id hs
   refine ⟨_,rfl,p,_,_,_,rfl,rfl,.inr (aK.of h1),rfl,rfl,_,rfl,cn (by decide) ?_⟩
   refine ⟨_,rfl,p,_,_,_,rfl,rfl,.inr (aK.of h1),rfl,rfl,_,rfl,cn (by decide) ?_⟩
   refine ⟨_,rfl,p,_,_,_,rfl,rfl,.inr (aK.of h1),rfl,rfl,_,rfl,iq rfl ?_⟩
   refine ⟨_,rfl,ps,_,_,_,rfl,rfl,.inr (aK.of g1),rfl,_,rfl,p,_,_,_,rfl,rfl,.inr (aK.of h1),rfl,pb,_,_,_,rfl,rfl,.inr (aK.of g2),lS hl ok.1,?_⟩
   refine ⟨_,rfl,ps,_,_,_,rfl,rfl,.inr (aK.of g1),rfl,_,rfl,p,_,_,_,rfl,rfl,.inr (aK.of h1),rfl,st.bu,r,rfl,by lia,?_⟩
   have fin:∀ c:Bool,c=gI lo E5 st.bs st.bu r->∀ H2,az H H2->Q (aw ((if c=true then 1 else 0) * 2 ^ r)) H2:=λ c ec H2 S2=>by
     have:=q H2 S2
     unfold ND.ci at this
     rw [← ec] at this
     cases c with
     | true=>rw [YK rfl,Nat.one_mul];exact this
     | false=>rw [YG EE,Nat.zero_mul];exact this
   have e6:=ug (b:=st.bs.getD r 0) (f:=st.bu.testBit r) ok.2
   have Pu:2 ^ r<2 ^ 5:=Zn (by decide) (by lia)
   have bM:∀ c:Bool,(if c=true then (1:Int) else 0).natAbs<2 ^ 1:=λ c=>by cases c<;>decide
   have eM:∀ (c:Bool) {z:Int},z=(if c=true then (1:Int) else 0) * ((2 ^ r:Nat):Int)->z=(((if c=true then 1 else 0) * 2 ^ r:Nat):Int):=λ c z e=>by rw [e];cases c<;>simp
   refine ⟨_,rfl,_,rfl,p,_,_,_,rfl,rfl,.inr (aK.of h1),rfl,_,_,rfl,rfl,_,rfl,fu (λ z=>?_) λ z=>?_⟩
   . have ec:true=gI lo E5 st.bs st.bu r:=by unfold gI;rw [← e6,YU z];rfl
     exact .inr ⟨true,rfl,yN,λ pl eF=>⟨_,rfl,p,_,_,_,rfl,rfl,.inr (aK.of (ap eF _ _ h1)),rfl,pl,_,_,_,rfl,rfl,.inl (cg.of ae),o3 Iy,_,_,rfl,rfl,⟨1,5,bM true,Pu,by decide⟩,λ u eu=>by rw [eM true eu];exact fin true ec _ (ap eF)⟩⟩
   . refine ⟨_,rfl,_,rfl,p,_,_,_,rfl,rfl,.inr (aK.of h1),rfl,_,_,rfl,rfl,_,rfl,fu (λ z2=>?_) λ z2=>?_⟩
     . have ec:st.bu.testBit r=gI lo E5 st.bs st.bu r:=by unfold gI;rw [← e6,YA z,YU z2];rfl
       exact ⟨_,rfl,.inr ⟨st.bu.testBit r,rfl,yN,λ pl eF=>⟨_,rfl,p,_,_,_,rfl,rfl,.inr (aK.of (ap eF _ _ h1)),rfl,pl,_,_,_,rfl,rfl,.inl (cg.of ae),o3 Iy,_,_,rfl,rfl,⟨1,5,bM _,Pu,by decide⟩,λ u eu=>by rw [eM _ eu];exact fin _ ec _ (ap eF)⟩⟩⟩
     . have ec:false=gI lo E5 st.bs st.bu r:=by unfold gI;rw [← e6,YA z,YA z2];rfl
       exact .inr ⟨false,rfl,yN,λ pl eF=>⟨_,rfl,p,_,_,_,rfl,rfl,.inr (aK.of (ap eF _ _ h1)),rfl,pl,_,_,_,rfl,rfl,.inl (cg.of ae),o3 Iy,_,_,rfl,rfl,⟨1,5,bM false,Pu,by decide⟩,λ u eu=>by rw [eM false eu];exact fin false ec _ (ap eF)⟩⟩
 | table key x sub has =>
   obtain ⟨p,dd,y,b,rfl,h1,h2,h3⟩:=hn
   refine ⟨_,rfl,p,_,_,_,rfl,rfl,.inr (aK.of h1),rfl,rfl,_,rfl,cn (by decide) ?_⟩
   refine ⟨_,rfl,p,_,_,_,rfl,rfl,.inr (aK.of h1),rfl,rfl,_,rfl,cn (by decide) ?_⟩
   refine ⟨_,rfl,p,_,_,_,rfl,rfl,.inr (aK.of h1),rfl,rfl,_,rfl,cn (by decide) ?_⟩
   refine ⟨_,rfl,p,_,_,_,rfl,rfl,.inr (aK.of h1),rfl,rfl,_,rfl,iq rfl ?_⟩
   refine ⟨_,rfl,_,rfl,p,_,_,_,rfl,rfl,.inr (aK.of h1),rfl,dd,ps,_,_,rfl,rfl,h2,oF hs,_,rfl,?_⟩
   by_cases e:dN st=dN key
   .
    have ev:i5 [(dN key,b,aw x)] (dN st)=some (aw x):=by unfold i5;rw [YJ,YU e.symm];rfl
    rw [ev]
    refine eN ⟨_,rfl,p,_,_,_,rfl,rfl,.inr (aK.of h1),rfl,_,rfl,dd,ps,_,_,_,rfl,rfl,h2,oF hs,ev,?_⟩
    have:=q H (az.refl _)
    unfold ND.ci at this
    rw [YK e] at this
    exact this
   .
    have ev:i5 [(dN key,b,aw x)] (dN st)=none:=by unfold i5;rw [YJ,YA (λ z=>e z.symm)];rfl
    rw [ev]
    refine fP ⟨_,rfl,p,_,_,_,rfl,rfl,.inr (aK.of h1),rfl,_,rfl,_,rfl,_,sub,n,i,ps,st,rfl,h3,ok.2.1,n4,by have hd:1+sub.depth<=d+1:=hd;lia,hm,hi,hs,hl,λ H2 S2=>?_⟩
    have:=q H2 S2
    unfold ND.ci at this
    rw [YG e] at this
    exact this
 | join way a b r bd =>
   obtain ⟨p,x,y,rfl,h1,h2,h3⟩:=hn
   have ne:=@mL way
   refine ⟨_,rfl,p,_,_,_,rfl,rfl,.inr (aK.of h1),aJ (j:=0) rfl,rfl,_,rfl,cn ne.2.1 ?_⟩
   refine ⟨_,rfl,p,_,_,_,rfl,rfl,.inr (aK.of h1),aJ (j:=0) rfl,rfl,_,rfl,cn ne.1 ?_⟩
   refine ⟨_,rfl,p,_,_,_,rfl,rfl,.inr (aK.of h1),aJ (j:=0) rfl,rfl,_,rfl,cn ne.2.2.1 ?_⟩
   refine ⟨_,rfl,p,_,_,_,rfl,rfl,.inr (aK.of h1),aJ (j:=0) rfl,rfl,_,rfl,cn ne.2.2.2.1 ?_⟩
   have hd:1+max a.depth b.depth<=d+1:=hd
   have ml:=ND.mJ ok hm
   have pb:=ND.pos ok.2.2.2.1
   have hi:i<a.am * b.am:=hi
   have di:i / b.am<a.am:=Y3 (by rw [Zj];exact hi)
   have mi:i % b.am<b.am:=Zm _ pb
   refine ⟨_,rfl,p,_,_,_,rfl,rfl,.inr (aK.of h1),aJ (j:=2) rfl,_,b,n,rfl,h3,ok.2.2.2.1,by lia,ml.2,λ H2 S2=>?_⟩
   refine ⟨_,rfl,p,_,_,_,rfl,rfl,.inr (aK.of (S2 _ _ h1)),aJ (j:=1) rfl,_,rfl,_,rfl,_,_,rfl,rfl,⟨by lia,(show Int.natAbs _<2 ^ 8999 from T1 (show Int.natAbs _<2 ^ 10 by lia) (Zc (by decide) (by decide)))⟩,λ q' eq=>?_⟩
   have e1:q'=((i / b.am:Nat):Int):=by rw [eq,YD _ (by lia)];push_cast;rfl
   subst e1
   refine ⟨_,rfl,_,a,n,_,ps,st,rfl,h2.same S2,ok.2.2.1,n4,by lia,ml.1,di,hs.same S2,hl,λ H3 S3=>?_⟩
   have S3:=S2.trans S3
   refine ⟨_,rfl,p,_,_,_,rfl,rfl,.inr (aK.of (S3 _ _ h1)),aJ (j:=2) rfl,_,rfl,_,rfl,_,_,rfl,rfl,by lia,λ q' q0 q1 Pe=>?_⟩
   have e2:q'=((i % b.am:Nat):Int):=by rw [Pe];push_cast;rfl
   subst e2
   refine ⟨_,rfl,_,b,n,_,ps,st,rfl,h3.same S3,ok.2.2.2.1,n4,by lia,ml.2,mi,hs.same S3,hl,λ H4 S4=>?_⟩
   have S4:=S3.trans S4
   have la:=ND.gU n4 (t:=a) (i:=i / b.am) (s:=st) ok.2.2.1
   have lb:=ND.gU n4 (t:=b) (i:=i % b.am) (s:=st) ok.2.2.2.1
   have h1:=S4 _ _ h1
   have q4:∀ H',az H4 H'->Q (aw (ND.mix way (a.ci (i / b.am) st) (b.ci (i % b.am) st) (decide (st.bs.getD r 0<bd)))) H':=λ H' z=>q H' (S4.trans z)
   generalize a.ci (i / b.am) st=wa at la q4 ⊢
   generalize b.ci (i % b.am) st=wb at lb q4 ⊢
   have We:way=1∨way=2∨way=3∨way=4:=by have:=ok.1;have:=ok.2.1;lia
   rcases We with rfl|rfl|rfl|rfl
   . exact ⟨_,rfl,p,_,_,_,rfl,rfl,.inr (aK.of h1),rfl,rfl,_,rfl,iq rfl ⟨_,rfl,q4 _ (az.refl _)⟩⟩
   . refine ⟨_,rfl,p,_,_,_,rfl,rfl,.inr (aK.of h1),rfl,rfl,_,rfl,cn (by decide) ?_⟩
     refine ⟨_,rfl,p,_,_,_,rfl,rfl,.inr (aK.of h1),rfl,rfl,_,rfl,cn (by decide) ?_⟩
     exact ⟨_,rfl,_,rfl,_,rfl,p,_,_,_,rfl,rfl,.inr (aK.of h1),rfl,rfl,wa,wb,true,rfl,la,lb,q4 _ (az.refl _)⟩
   . refine ⟨_,rfl,p,_,_,_,rfl,rfl,.inr (aK.of h1),rfl,rfl,_,rfl,cn (by decide) ?_⟩
     refine ⟨_,rfl,p,_,_,_,rfl,rfl,.inr (aK.of h1),rfl,rfl,_,rfl,cn (by decide) ?_⟩
     exact ⟨_,rfl,_,rfl,_,rfl,p,_,_,_,rfl,rfl,.inr (aK.of h1),rfl,rfl,wa,wb,false,rfl,la,lb,q4 _ (az.refl _)⟩
   .
    refine ⟨_,rfl,p,_,_,_,rfl,rfl,.inr (aK.of h1),rfl,rfl,_,rfl,cn (by decide) ?_⟩
    refine ⟨_,rfl,p,_,_,_,rfl,rfl,.inr (aK.of h1),rfl,rfl,_,rfl,iq rfl ?_⟩
    have at2:∀ c:Bool,mS [aw wb,aw wa] (if c=true then 1 else 0)=some (aw (if c=true then wa else wb)):=λ c=>by cases c<;>rfl
    obtain ⟨Xs,XU,X9,g1,g2,g3,g4⟩:=hs.same S4
    refine ⟨_,rfl,_,rfl,jQ,λ pl eF=>?_⟩
    have S5:=ap (o:=.lst [aw wb,aw wa]) eF
    have kl:(upd H4 pl (.lst [aw wb,aw wa])) pl=some (.lst [aw wb,aw wa]):=ae
    generalize upd H4 pl (.lst [aw wb,aw wa])=H5 at S5 kl ⊢
    refine ⟨_,rfl,ps,_,_,_,rfl,rfl,.inr (aK.of (S5 _ _ g1)),rfl,_,rfl,p,_,_,_,rfl,rfl,.inr (aK.of (S5 _ _ h1)),rfl,Xs,_,_,_,rfl,rfl,.inr (aK.of (S5 _ _ g2)),lS hl ok.2.2.2.2,?_⟩
    exact ⟨_,rfl,p,_,_,_,rfl,rfl,.inr (aK.of (S5 _ _ h1)),rfl,_,_,rfl,rfl,.inr ⟨_,rfl,pl,_,_,_,rfl,rfl,.inl (cg.of kl),at2 _,q4 _ S5⟩⟩
theorem qh (T:Txt K mg Ad):∀ d,d<=16->Def P w K mg base "_law_wish_by" (d+18) ["_law_node","_law_mind","_law_state_here"] (pY P w K d)
 | 0,_=>by
   refine T.gr.def bC (λ vs H Q E h=>?_) (λ _ _ _ _ _ _ us hl=>jl hl λ _ _ _=>rfl) (λ f _ _ _ s H vs Q E hr h=>?_)
   all_goals
     obtain ⟨v,t,n,i,ps,st,_,_,_,_,hd,_⟩:=h
     have:=gd t
     lia
 | d+1,h=>qy T (by lia) (qh T d (by lia))
theorem j4 (T:Txt K mg Ad):Def P w K mg base "_law_wish_by" 34 ["_law_node","_law_mind","_law_state_here"] (pY P w K 16):=qh T 16 (by lia)
def eB (P:Program) (w:World) (K:W.Frag) (mg:Str->Option Value) (base:Heap) (CK:Addr) (n:Nat) (H:Hp) (v:V) (t:ND):Prop:=∃ pm a x,v = .ref pm/\H pm=some (.tup [.ref a,x])/\KX P w K mg base CK n H a t (3+2 * t.depth)/\ck P w K H x t
theorem eB.same {n:Nat} {H H':Hp} {v:V} {t:ND} (h:eB P w K mg base Ad.Keeper n H v t) (q:az H H'):eB P w K mg base Ad.Keeper n H' v t:=by
 obtain ⟨pm,a,x,e,h1,h2,h3⟩:=h
 exact ⟨pm,a,x,e,q _ _ h1,h2.same q,h3.same q⟩
def nG (K:W.Frag) (H:Hp) (p:Addr) (ns:List Int):Prop:=cg K H p (ns.map V.int)/\ns.length=8/\∀ z∈ns,0<=z/\z<2 ^ 31
theorem nG.at_ {H:Hp} {p:Addr} {ns:List Int} (h:nG K H p ns) {j:Nat} (hj:j<8):mS (ns.map V.int) (j:Int)=some (.int (ns.getD j 0))/\0<=ns.getD j 0/\ns.getD j 0<2 ^ 31:=by
 have h8:j<ns.length:=by rw [h.2.1];exact hj
 refine ⟨?_,?_⟩
 . rw [YC,dv h8];exact aJ (ints_get h8)
 . rw [YC,dv h8];exact h.2.2 _ (Y6 h8)
theorem nG.same {H H':Hp} {p:Addr} {ns:List Int} (h:nG K H p ns) (q:az H H'):nG K H' p ns:=⟨q.seq h.1,h.2⟩
def er (q:Addr) (H:Hp):Hp:=λ b=>if b=q then none else H b
theorem bU {q b:Addr} {H:Hp} {o:HO} (n:b≠q) (h:H b=some o):er q H b=some o:=by unfold er;rw [YG n];exact h
theorem f7 {q:Addr} {H:Hp}:az (er q H) H:=λ b o h=>by
 unfold er at h
 split at h
 . cases h
 . exact h
theorem bZ {q:Addr} {H H':Hp} (s:az H H'):az (er q H) (er q H'):=λ b o h=>by
 unfold er at h ⊢
 split at h
 . cases h
 . rename_i n
   rw [YG n];exact s _ _ h
theorem xv {q:Addr} {H:Hp} {o:HO}:er q (upd H q o)=er q H:=by
 funext b
 unfold er
 split
 . rfl
 . rename_i n
   exact aB n
theorem xI {q a:Addr} {H:Hp} {l:List V} {s:oA} (hq:H q=some (.lst l)) (h:ox H a s):ox (er q H) a s:=by
 obtain ⟨pb,pw,pf,h1,h2,h3,h4⟩:=h
 have n:∀ {b:Addr} {xs:List V},H b=some (.tup xs)->b≠q:=λ e=>js e hq nofun
 exact ⟨pb,pw,pf,bU (n h1) h1,bU (n h2) h2,bU (n h3) h3,bU (n h4) h4⟩
inductive qj (P:Program) (w:World) (K:W.Frag) (mg:Str->Option Value) (base:Heap) (CK:Addr) (vs:List V) (H:Hp) (Q:VK) (_E:XK):Prop
 | mk (p ns n q l:_) (_:vs=[.ref p,aw n]) (_:H q=some (.lst l)) (_:nG K H p ns) (_:1<=n) (_:n<=4) (_:∀ v t H',az H H'->eB P w K mg base CK n (er q H') v t->Q v H')
theorem bJ {H:Hp} {C x dx:Addr} (hx:H x=none) (dI:H dx=none):az H (upd (upd H dx (.own x)) x (.ins C dx [])):=λ b o hb=>by
 rw [aB (aH hb hx),aB (aH hb dI)];exact hb
theorem cI {H H':Hp} {C x dx:Addr} (hx:H x=none) (dI:H dx=none) (q:∀ b o,(upd (upd H dx (.own x)) x (.ins C dx [])) b=some o->b≠x->H' b=some o):az H H':=λ b o hb=>q b o (bJ hx dI b o hb) (aH hb hx)
theorem jG {H:Hp} {C x dx:Addr} (n:dx≠x):(upd (upd H dx (.own x)) x (.ins C dx [])) dx=some (.own x):=by rw [aB n];exact ae
theorem qM (ws:List Nat):(ws.map Int.ofNat).map V.int=ws.map aw:=by rw [List.map_map];rfl
theorem fV (T:Txt K mg Ad):Def P w K mg base "_law_leaf_by" 42 ["_law_xs","_law_rooms"] (qj P w K mg base Ad.Keeper):=by
 refine T.kB.eZ cj λ f aP A outer s H vs Q E hr h=>?_
 obtain ⟨p,ns,n,q0,l0,rfl,zI,hx,n1,n4,q⟩:=h
 have nq:∀ {H':Hp},az H H'->∀ {b:Addr},H' b=none->b≠q0:=λ S _ hb=>(aH (S _ _ zI) hb).symm
 refine ⟨_,(aj (bh (aC cy (ar aD (ao al (pv 0) ac (λ _ _=>rfl)) ac) ac (aG _)) (ak (aq (bq (aa (sD ⟨T.li.makes,T.rl,T.li.kp⟩ T.nE) (aa (bq (aa ba ag)) ag))))) aF)
     (aj (bh (aC cy (ar aD (ao al (pv 0) ac (λ _ _=>rfl)) ac) ac (aG _)) (aj (aL (i:=2) cj.nd rfl (lc rfl) (ar aD (ao al (pv 0) ac (λ _ _=>rfl)) (pv 1)))
     (aj (aL (i:=3) cj.nd rfl (lc rfl) (ar aD (ao al (pv 0) ac (λ _ _=>rfl)) ac))
     (aj (aL (i:=4) cj.nd rfl (lc rfl) (ar aS (pv 3) (ar aD (ao al (pv 0) ac (λ _ _=>rfl)) ac)))
     (ak (aq (bq (aa (dJ T.rL (gy (K:=K) T) .nil hr.m T.vR (aa (@ve _ _ _ _ _ (@oa _ _ _ _ _ _ _ _ _ (pv 2) (bq (aa (pv 3) (aa (pv 4) ag))) pH) rfl rfl (List.cons_ne_nil _ _) (YO rfl)) ag)) (aa (bq (aa ba (aa (pv 2) (aa (pv 3) (aa (pv 4) ag))))) ag)))))))) aF)
     (aj (wt (yi:=5) ["_law_k"] ["_law_xs"] [0] (.cons ⟨rfl,rfl,.inl rfl⟩ .nil) rfl (cP rfl T.fb (aa (ar aS ac (ar aD (ao al (pv 0) ac (λ _ _=>rfl)) ac)) ag)) (λ _ _ _ _ _=>(bE (i:=0) (show (["_law_k","_law_xs"]:List Str).Nodup by decide +kernel) rfl (lc rfl))) (λ _ _ _ _ _=>gH) (λ _ _ _ _ _=>(ao (eR (K:=K) rfl) (fT (aa (ar aD (ao (eR (K:=K) rfl) (pv 1) (ar aS ac (pv 0)) (λ _ _=>rfl)) ac) (aa (ar aD (ar cw (ao (eR (K:=K) rfl) (pv 1) (ar aS ac (pv 0)) (λ _ _=>rfl)) (ar aS (ar p0 ac ac) ac)) (ar p0 ac ac)) ag))) (ar aD (ao (eR (K:=K) rfl) (pv 1) ac (λ _ _=>rfl)) ac) (λ _ _=>rfl))) rfl (by decide +kernel) (by decide +kernel) (by decide +kernel) cj.nd rfl (lc rfl) rfl)
     (ak (aq (bq (aa (dJ T.rz (gB (K:=K) T) .nil hr.m T.vW (aa (bA gR (by rfl) T.rR pT (aa (pv 5) ag)) ag)) (aa (bq (aa ba (aa (pv 5) ag))) ag)))))))),?_⟩
 try dsimp only [eG,aT]
 first|(refine fO ?_;intro _ _ _ _ _)|skip
 obtain ⟨a1,b1⟩:=hx.at_ (j:=1) (by decide)
 obtain ⟨a2,b2⟩:=hx.at_ (j:=2) (by decide)
 obtain ⟨a3,b3⟩:=hx.at_ (j:=3) (by decide)
 obtain ⟨a4,b4⟩:=hx.at_ (j:=4) (by decide)
 obtain ⟨a6,b6⟩:=hx.at_ (j:=6) (by decide)
 refine ⟨_,rfl,p,_,_,_,rfl,rfl,.inl hx.1,a1,_,_,rfl,rfl,by decide,λ y g0 g1 ey=>⟨rfl,_,rfl,fu (λ z=>?_) λ z=>?_⟩⟩
 .
  refine λ x dx dS dI ne=>⟨Uc,λ pt fB=>⟨jQ,λ pm iJ=>?_⟩⟩
  have S1:=bJ (C:=Ad.Keeper) dS dI
  have Sf:(upd (upd H dx (.own x)) x (.ins Ad.Keeper dx [])) x=some (.ins Ad.Keeper dx []):=ae
  have S2:=ap (o:=.tup [.str "none"]) fB
  have S3:=ap (o:=.tup [.ref x,.ref pt]) iJ
  exact q _ .bG _ (S1.trans (S2.trans S3)) ⟨pm,x,_,rfl,bU (nq (S1.trans S2) iJ) ae,qO T (bU (nq (az.refl _) dS) (S3 _ _ (S2 _ _ Sf))) n4,pt,rfl,bU (nq S1 fB) (S3 _ _ ae)⟩
 .
  refine ⟨_,rfl,p,_,_,_,rfl,rfl,.inl hx.1,a1,_,_,rfl,rfl,by decide,λ y' X2 T0 Yd=>⟨rfl,_,rfl,fu (λ z'=>?_) λ z'=>?_⟩⟩
  .
   refine ⟨_,rfl,p,_,_,_,rfl,rfl,.inl hx.1,a2,_,rfl,_,_,rfl,rfl,by lia,λ r r0 r1 er=>?_⟩
   refine ⟨_,rfl,p,_,_,_,rfl,rfl,.inl hx.1,a3,_,_,rfl,rfl,by decide,λ lo l0 l1 el=>?_⟩
   refine ⟨_,rfl,_,rfl,p,_,_,_,rfl,rfl,.inl hx.1,a4,_,_,rfl,rfl,by decide,λ u u0 u1 eu=>⟨_,_,rfl,rfl,λ hi eh=>?_⟩⟩
   obtain ⟨r,rfl⟩:=YE r0
   refine λ pd oz=>⟨_,rfl,_,rfl,_,rfl,jQ,λ pt fB=>?_⟩
   have S1:=ap (o:=.dK []) oz
   have S2:=ap (o:=.tup [.int lo,.int hi]) fB
   have hd2:=S2 _ _ (show (upd H pd (.dK [])) pd=some (.dK []) from ae)
   have GX:(upd (upd H pd (.dK [])) pt (.tup [.int lo,.int hi])) pt=some (.tup [.int lo,.int hi]):=ae
   have Fl:=S1.trans S2
   generalize upd (upd H pd (.dK [])) pt (.tup [.int lo,.int hi])=H2 at Fl hd2 GX ⊢
   refine ⟨hd2,[(.inl (r:Int),.ref pt)],rfl,by show 1<=15;decide,λ x dx dS dI ne=>?_⟩
   have np:pt≠pd:=qa GX hd2 nofun
   have US:(upd H2 pd (.dK (e9 [] [(.inl (r:Int),.ref pt)]))) pd=some (.dK [(.inl (r:Int),.ref pt)]):=ae
   have LV:(upd H2 pd (.dK (e9 [] [(.inl (r:Int),.ref pt)]))) pt=some (.tup [.int lo,.int hi]):=by rw [aB np];exact GX
   have S3:az H (upd H2 pd (.dK (e9 [] [(.inl (r:Int),.ref pt)]))):=Fl.put oz
   generalize upd H2 pd (.dK (e9 [] [(.inl (r:Int),.ref pt)]))=H3 at US LV S3 dS dI ⊢
   have S4:=bJ (C:=Ad.bV) dS dI
   refine ⟨x,dx,pd,_,[(r,lo,hi)],rfl,ae,jG ne,⟨S4 _ _ US,rfl,λ i kv x e e'=>?_⟩,λ x hx=>by rw [List.mem_singleton.mp hx];show lo<=hi;lia,λ XX H' st h1 h2 h3=>⟨rfl,?_⟩⟩
   . cases i with
     | zero=>cases e;cases e';exact ⟨rfl,pt,rfl,S4 _ _ LV⟩
     | succ i=>simp at e
   .
    refine ⟨_,rfl,_,rfl,_,rfl,yN,λ pn lh=>⟨jQ,λ pm iJ=>?_⟩⟩
    have S5:=cI dS dI st
    have S6:=ap (o:=.tup [.str "sill",aw r,.int lo,.int hi]) lh
    have S7:=ap (o:=.tup [.ref x,.ref pn]) iJ
    have kx:=uy (P:=P) (w:=w) (base:=base) T (n:=n) (bU (nq S3 dS) (S7 _ _ (S6 _ _ h1))) (bU (nq S3 dI) (S7 _ _ (S6 _ _ (st _ _ (jG ne) ne)))) (bU (nq (S3.trans S4) h2) (S7 _ _ (S6 _ _ h3))) (bU (nq S1 fB) (S7 _ _ (S6 _ _ (S5 _ _ LV)))) (by lia) (by lia) n4
    exact q _ (.eQ r lo hi) _ (S3.trans (S5.trans (S6.trans S7))) ⟨pm,x,_,rfl,bU (nq (S3.trans (S5.trans S6)) iJ) ae,kx,pn,rfl,bU (nq (S3.trans S5) lh) (S7 _ _ ae)⟩
  .
   refine ⟨_,rfl,p,_,_,_,rfl,rfl,.inl hx.1,(hx.at_ (j:=7) (by decide)).1,_,_,rfl,rfl,by decide,λ u u0 u1 eu=>⟨_,_,rfl,rfl,λ m em=>⟨_,rfl,by lia,by lia,λ D hD=>?_⟩⟩⟩
   refine dL (lo:=0) (n:=m.toNat) (λ i acc U H'=>A4 (az H H') (H' D=some (.lst acc)) (∃ (ws:List Nat),A3 (acc=ws.map aw) (ws.length=i) (∀ z∈ws,z<2 ^ 61)) (∃ v,U=[v,some (.ref p)]))
     ⟨ap hD,ae,⟨[],rfl,rfl,nofun⟩,none,rfl⟩ ?_ ?_
   .
    rintro i acc U H' hi ⟨s1,qv,⟨ws,rfl,lw,bw⟩,v,rfl⟩
    obtain ⟨ai,bi⟩:=hx.at_ (j:=2+i) (by lia)
    have UR:∀ {y:Int},y=2+(0+(i:Int))->mS (ns.map V.int) y=some (.int (ns.getD (2+i) 0)):=λ e=>by rw [e,Int.zero_add];exact ai
    refine ⟨_,rfl,_,rfl,_,_,rfl,rfl,λ y1 e1=>⟨p,_,_,_,rfl,rfl,.inl (s1.seq hx.1),UR e1,_,_,rfl,rfl,by decide,λ x1 Yo Yf XS=>?_⟩⟩
    refine ⟨_,rfl,_,rfl,_,_,rfl,rfl,λ y2 e2=>⟨p,_,_,_,rfl,rfl,.inl (s1.seq hx.1),UR e2,?_⟩⟩
    refine ⟨_,_,rfl,rfl,⟨by decide,by decide,by decide⟩,λ y3 e3=>⟨_,_,rfl,rfl,λ y4 e4=>?_⟩⟩
    have e3:y3=1000000000000000000000000000000:=e3
    refine ⟨_,_,rfl,rfl,⟨31,101,(show Int.natAbs _<2 ^ 31 by lia),(show Int.natAbs _<2 ^ 101 by lia),by decide⟩,λ y5 e5=>?_⟩
    refine ⟨_,_,rfl,rfl,⟨by decide,by decide,by decide⟩,λ y6 e6=>?_⟩
    have e6:y6=2305843009213693952:=e6
    refine ⟨_,_,rfl,rfl,by lia,λ y7 h0 h1 e7=>⟨jQ,λ pl eF=>?_⟩⟩
    have S2:=ap (o:=.lst [.int x1,.int y7]) eF
    have s2:=s1.trans S2
    refine ⟨_,rfl,p,_,_,_,rfl,rfl,.inl (s2.seq hx.1),a6,_,_,rfl,rfl,by decide,λ y8 h2 h3 e8=>?_⟩
    obtain ⟨z,hz,ez⟩:=g5 (ns:=[x1,y7]) h2 (by show y8<2;lia)
    have hz:z=x1∨z=y7:=by simpa using hz
    have z0:0<=z:=by lia
    have yH:z<2 ^ 61:=by lia
    obtain ⟨z,rfl⟩:=YE z0
    refine ⟨pl,_,_,_,rfl,rfl,.inl (cg.of ae),ez,S2 _ _ qv,cu (by rw [ET];lia),s2.put hD,ae,⟨ws++[z],by rw [YY];rfl,by rw [Yw,lw];rfl,λ u hu=>?_⟩,_,rfl⟩
    rcases List.mem_append.mp hu with h|h
    . exact bw u h
    . rw [List.mem_singleton.mp h];lia
   .
    rintro acc U H1 ⟨s1,qv,⟨ws,rfl,lw,bw⟩,v,rfl⟩
    refine ⟨_,rfl,D,_,rfl,.inl (cg.of qv),λ pl eF x dx dS dI ne=>?_⟩
    have S2:=ap (o:=.lst (ws.map aw)) eF
    have KB:(upd H1 pl (.lst (ws.map aw))) pl=some (.lst (ws.map aw)):=ae
    have sM:=S2 _ _ qv
    generalize upd H1 pl (.lst (ws.map aw))=H2 at S2 KB sM dS dI ⊢
    have S3:=bJ (C:=Ad.Clock) dS dI
    have l1:1<=ws.length:=by lia
    have l4:ws.length<=4:=by lia
    refine ⟨x,dx,pl,ws.map Int.ofNat,rfl,ae,jG ne,cg.of (by rw [qM];exact S3 _ _ KB),by rw [ET];lia,by rw [ET];lia,λ pw H' st e0 e1 e2 e3=>⟨rfl,_,rfl,jQ,λ pt fB=>⟨jQ,λ pm iJ=>?_⟩⟩⟩
    have S5:=cI dS dI st
    have S6:=ap (o:=.tup [.str "clock",.ref D]) fB
    have S7:=ap (o:=.tup [.ref x,.ref pt]) iJ
    have s2:=s1.trans S2
    have EU:=S6.trans S7
    exact q _ (.cH ws) _ (s2.trans (S5.trans EU)) ⟨pm,x,_,rfl,bU (nq (s2.trans (S5.trans S6)) iJ) ae,sO T ⟨dx,pw,bU (nq s2 dS) (EU _ _ e1),bU (nq s2 dI) (EU _ _ e2),bU (nq (s2.trans S3) e0) (EU _ _ e3),by rw [ET];exact l1,by rw [ET];lia⟩ ⟨l1,l4,bw⟩ n4,pt,D,rfl,bU (nq (s2.trans S5) fB) (S7 _ _ ae),bU (nq (az.refl _) hD) (S7 _ _ (S6 _ _ (S5 _ _ sM)))⟩
def gQ (K:W.Frag) (n:Nat) (H:Hp) (ss:Addr) (ps:List Addr):Prop:=cg K H ss (ps.map V.ref)/\ps.length=8/\∀ a∈ps,∃ s:oA,ox H a s/\s.bs.length=n
theorem gQ.same {n:Nat} {H H':Hp} {ss:Addr} {ps:List Addr} (h:gQ K n H ss ps) (q:az H H'):gQ K n H' ss ps:=⟨q.seq h.1,h.2.1,λ a ha=>by obtain ⟨s,h1,h2⟩:=h.2.2 a ha;exact ⟨s,h1.same q,h2⟩⟩
theorem gQ.at_ {n:Nat} {H:Hp} {ss:Addr} {ps:List Addr} (h:gQ K n H ss ps) {i:Int} (i0:0<=i) (i8:i<8):∃ a s,mS (ps.map V.ref) i=some (.ref a)/\ox H a s/\s.bs.length=n:=by
 obtain ⟨j,rfl⟩:=YE i0
 have hj:j<ps.length:=by rw [h.2.1];lia
 obtain ⟨s,h1,h2⟩:=h.2.2 _ (Y6 hj)
 exact ⟨_,s,aJ (by rw [YN,dv hj];rfl),h1,h2⟩
inductive qD (P:Program) (w:World) (K:W.Frag) (mg:Str->Option Value) (base:Heap) (CK:Addr) (vs:List V) (H:Hp) (Q:VK) (_E:XK):Prop
 | mk (p ns n v1 v2 ss ps t u q l:_) (_:vs=[.ref p,v1,v2,.ref ss]) (_:H q=some (.lst l)) (_:nG K H p ns) (_:1<=n) (_:n<=4) (_:eB P w K mg base CK n (er q H) v1 t) (_:eB P w K mg base CK n (er q H) v2 u) (_:gQ K n H ss ps) (_:t.am * u.am<=60) (_:1+t.size+u.size<=15) (_:∀ v t H',az H H'->eB P w K mg base CK n (er q H') v t->Q v H')
theorem kr (T:Txt K mg Ad):Def P w K mg base "_law_joined" 42 ["_law_xs","_law_one","_law_other","_law_states"] (qD P w K mg base Ad.Keeper):=by
 refine T.lD.eZ d8 λ f aP A outer s H vs Q E hr h=>?_
 obtain ⟨p,ns,n,v1,v2,ss,ps,t,u,q0,l0,rfl,zI,hx,n1,n4,⟨p1,b,x1,rfl,m1,kb,nb⟩,⟨p2,c,x2,rfl,m2,kc,nc⟩,pP,hm,hs,q⟩:=h
 have nq:∀ {H':Hp},az H H'->∀ {b:Addr},H' b=none->b≠q0:=λ S _ hb=>(aH (S _ _ zI) hb).symm
 have m1:=f7 _ _ m1
 have m2:=f7 _ _ m2
 have ES:∀ {x:Addr},H x=none->er q0 H x=none:=λ {x} h=>by unfold er;split<;>first|rfl|exact h
 refine ⟨_,(aj (bh (aC cy (ar aD (ao al (pv 0) ac (λ _ _=>rfl)) ac) ac (aG _)) (ak (aq (bq (aa (dJ T.vL (gG (K:=K) T) .nil hr.m T.t9 (aa (ao al (pv 1) ac (λ _ _=>rfl)) (aa (ao al (pv 2) ac (λ _ _=>rfl)) ag))) (aa (bq (aa ba (aa (ao al (pv 1) ac (λ _ _=>rfl)) (aa (ao al (pv 2) ac (λ _ _=>rfl)) ag)))) ag))))) aF)
     (aj (bh (aC cy (ar aD (ao al (pv 0) ac (λ _ _=>rfl)) ac) ac (aG _)) (ak (aq (bq (aa (dJ T.ri (gh (K:=K) T) .nil hr.m T.ti (aa (ao al (pv 1) ac (λ _ _=>rfl)) (aa (ao al (pv 2) ac (λ _ _=>rfl)) ag))) (aa (bq (aa ba (aa (ao al (pv 1) ac (λ _ _=>rfl)) (aa (ao al (pv 2) ac (λ _ _=>rfl)) ag)))) ag))))) aF)
     (aj (bh (aC cy (ar aD (ao al (pv 0) ac (λ _ _=>rfl)) ac) ac (aG _)) (ak (aq (bq (aa (dJ T.m7 (fA (K:=K) T) .nil hr.m T.o8 (aa (ao al (pv 1) ac (λ _ _=>rfl)) (aa (ao al (pv 2) ac (λ _ _=>rfl)) ag))) (aa (bq (aa ba (aa (ao al (pv 1) ac (λ _ _=>rfl)) (aa (ao al (pv 2) ac (λ _ _=>rfl)) ag)))) ag))))) aF)
     (aj (bh (aC cy (ar aD (ao al (pv 0) ac (λ _ _=>rfl)) ac) ac (aG _)) (aj (aL (i:=4) d8.nd rfl (lc rfl) (ar aD (ao al (pv 0) ac (λ _ _=>rfl)) (bK cb (by rfl) T.gq eo (aa (ao al (ao al (pv 3) ac (λ _ _=>rfl)) ac (λ _ _=>rfl)) ag))))
     (ak (aq (bq (aa (dJ T.rq (gC (K:=K) T) .nil hr.m T.vp (aa (pv 4) (aa (ar aD (ao al (pv 0) ac (λ _ _=>rfl)) ac) (aa (ao al (pv 1) ac (λ _ _=>rfl)) (aa (ao al (pv 2) ac (λ _ _=>rfl)) ag))))) (aa (bq (aa ba (aa (ao al (pv 1) ac (λ _ _=>rfl)) (aa (ao al (pv 2) ac (λ _ _=>rfl)) (aa (pv 4) (aa (ar aD (ao al (pv 0) ac (λ _ _=>rfl)) ac) ag)))))) ag)))))) aF)
     (aj (aL (i:=5) d8.nd rfl (lc rfl) (rG (P:=P) (w:=w) (K:=K) rfl rfl rfl hr.zR (@oa _ _ _ _ _ _ _ _ _ (ao al (pv 3) (ar aD (ao al (pv 0) ac (λ _ _=>rfl)) ac) (λ _ _=>rfl)) (ar aD (ao al (pv 0) ac (λ _ _=>rfl)) ac) pH) rfl rfl (List.cons_ne_nil _ _) (YO rfl)))
     (aj (bh (aC cy (ar aD (ao al (pv 0) ac (λ _ _=>rfl)) ac) ac (aG _)) (ak (aq (bq (aa (nN T.ow (fL (K:=K) T) hr.m T.pZ (aa (bA (d9 (P:=P) (w:=w) (K:=K) rfl rfl rfl) (by rfl) T.mn jf (aa (pv 5) ag)) ag)) (aa (bq (aa ba (aa (pv 5) (aa (bq (aa ba ag)) (aa hE ag))))) ag))))) aF)
     (ak (aq (bq (aa (nN T.ow (fJ (K:=K) T) hr.m T.pZ (aa (bA (d9 (P:=P) (w:=w) (K:=K) rfl rfl rfl) (by rfl) T.mn jf (aa (pv 5) ag)) (aa (ao al (pv 1) ac (λ _ _=>rfl)) ag))) (aa (bq (aa ba (aa (pv 5) (aa (ao al (pv 1) ac (λ _ _=>rfl)) (aa hE ag))))) ag))))))))))),?_⟩
 try dsimp only [eG,aT]
 first|(refine nK ?_;intro _ _ _ _ _ _ _ _)|skip
 obtain ⟨a0,b0⟩:=hx.at_ (j:=0) (by decide)
 obtain ⟨a5,b5⟩:=hx.at_ (j:=5) (by decide)
 obtain ⟨a6,b6⟩:=hx.at_ (j:=6) (by decide)
 obtain ⟨a7,b7⟩:=hx.at_ (j:=7) (by decide)
 have dt:=ND.bP kb.ok
 have du:=ND.bP kc.ok
 have Dq:=kb.mono (j:=3+2 * max t.depth u.depth) (by lia)
 have BV:=kc.mono (j:=3+2 * max t.depth u.depth) (by lia)
 have yq:3+2 * max t.depth u.depth<=35:=by lia
 have fin:∀ {C:Addr} {way:Nat} {H1:Hp} {x dx:Addr} {r:Nat} {bd:Int},yC P w K mg base Ad.Keeper C way->1<=way->way<=4->r<n->az H H1->x≠q0->H1 x=some (.ins C dx (("one",.ref b)::("other",.ref c)::uH way r bd))->∀ {pn pm:Addr},H1 pn=none->(upd H1 pn (.tup (.str (jZ way)::x1::x2::pC way r bd))) pm=none->Q (.ref pm) (upd (upd H1 pn (.tup (.str (jZ way)::x1::x2::pC way r bd))) pm (.tup [.ref x,.ref pn])):=λ {C way H1 x dx r bd} py w1 w4 hr S nx h1 {pn pm} lh iJ=>by
   have S2:=ap (o:=.tup (.str (jZ way)::x1::x2::pC way r bd)) lh
   have S3:=ap (o:=.tup [.ref x,.ref pn]) iJ
   have S':=S.trans (S2.trans S3)
   exact q _ (.join way t u r bd) _ S' ⟨pm,x,_,rfl,bU (nq (S.trans S2) iJ) ae,(uV py (bU nx (S3 _ _ (S2 _ _ h1))) (Dq.same (bZ S')) (BV.same (bZ S')) w1 w4 hr hm hs).mono (by show _<=3+2 * (1+max t.depth u.depth);lia),pn,x1,x2,rfl,bU (nq S lh) (S3 _ _ ae),nb.same (bZ S'),nc.same (bZ S')⟩
 refine ⟨_,rfl,p,_,_,_,rfl,rfl,.inl hx.1,a0,_,_,rfl,rfl,by decide,λ y g0 g1 ey=>⟨rfl,_,rfl,fu (λ z=>?_) λ z=>?_⟩⟩
 .
  refine ⟨_,rfl,p1,_,_,_,rfl,rfl,.inr (aK.of m1),rfl,_,rfl,p2,_,_,_,rfl,rfl,.inr (aK.of m2),rfl,λ x dx dS dI ne=>?_⟩
  refine ⟨Ad.Pair,x,dx,b,c,n,_,t,u,rfl,mN T,ae,⟨er q0 H,f7.trans (bJ dS dI),ES dS,Dq,BV⟩,yq,hm,hs,λ H1 st h1=>⟨rfl,?_⟩⟩
  have S:=cI dS dI st
  exact ⟨_,rfl,p1,_,_,_,rfl,rfl,.inr (aK.of (S _ _ m1)),rfl,_,rfl,p2,_,_,_,rfl,rfl,.inr (aK.of (S _ _ m2)),rfl,xg,λ pn lh=>⟨jQ,λ pm iJ=>fin (r:=0) (bd:=0) (vi T) (by decide) (by decide) (by lia) S (nq (az.refl _) dS) h1 lh iJ⟩⟩
 refine ⟨_,rfl,p,_,_,_,rfl,rfl,.inl hx.1,a0,_,_,rfl,rfl,by decide,λ y g0 g1 ey=>⟨rfl,_,rfl,fu (λ z=>?_) λ z=>?_⟩⟩
 .
  refine ⟨_,rfl,p1,_,_,_,rfl,rfl,.inr (aK.of m1),rfl,_,rfl,p2,_,_,_,rfl,rfl,.inr (aK.of m2),rfl,λ x dx dS dI ne=>?_⟩
  refine ⟨Ad.bO,x,dx,b,c,n,_,t,u,rfl,gb T,ae,⟨er q0 H,f7.trans (bJ dS dI),ES dS,Dq,BV⟩,yq,hm,hs,λ H1 st h1=>⟨rfl,?_⟩⟩
  have S:=cI dS dI st
  exact ⟨_,rfl,p1,_,_,_,rfl,rfl,.inr (aK.of (S _ _ m1)),rfl,_,rfl,p2,_,_,_,rfl,rfl,.inr (aK.of (S _ _ m2)),rfl,xg,λ pn lh=>⟨jQ,λ pm iJ=>fin (r:=0) (bd:=0) (qq T) (by decide) (by decide) (by lia) S (nq (az.refl _) dS) h1 lh iJ⟩⟩
 refine ⟨_,rfl,p,_,_,_,rfl,rfl,.inl hx.1,a0,_,_,rfl,rfl,by decide,λ y g0 g1 ey=>⟨rfl,_,rfl,fu (λ z=>?_) λ z=>?_⟩⟩
 .
  refine ⟨_,rfl,p1,_,_,_,rfl,rfl,.inr (aK.of m1),rfl,_,rfl,p2,_,_,_,rfl,rfl,.inr (aK.of m2),rfl,λ x dx dS dI ne=>?_⟩
  refine ⟨Ad.aR,x,dx,b,c,n,_,t,u,rfl,d4 T,ae,⟨er q0 H,f7.trans (bJ dS dI),ES dS,Dq,BV⟩,yq,hm,hs,λ H1 st h1=>⟨rfl,?_⟩⟩
  have S:=cI dS dI st
  exact ⟨_,rfl,p1,_,_,_,rfl,rfl,.inr (aK.of (S _ _ m1)),rfl,_,rfl,p2,_,_,_,rfl,rfl,.inr (aK.of (S _ _ m2)),rfl,xg,λ pn lh=>⟨jQ,λ pm iJ=>fin (r:=0) (bd:=0) (nj T) (by decide) (by decide) (by lia) S (nq (az.refl _) dS) h1 lh iJ⟩⟩
 refine ⟨_,rfl,p,_,_,_,rfl,rfl,.inl hx.1,a0,_,_,rfl,rfl,by decide,λ y g0 g1 ey=>⟨rfl,_,rfl,fu (λ z=>?_) λ z=>?_⟩⟩
 .
  obtain ⟨s0,yG,e0,⟨pb,pw,pf,T0,Vf,Ym,X3⟩,l0⟩:=pP.at_ (i:=0) (by decide) (by decide)
  refine ⟨_,rfl,p,_,_,_,rfl,rfl,.inl hx.1,a5,_,rfl,ss,_,_,_,rfl,rfl,.inl pP.1,e0,s0,_,_,_,rfl,rfl,.inr (aK.of T0),rfl,pb,_,rfl,.inr (aK.of Vf),λ l el=>⟨_,_,rfl,rfl,by rw [el,ET];lia,λ r r0 r1 Yn=>?_⟩⟩
  rw [ET,l0] at el
  obtain ⟨r,rfl⟩:=YE r0
  refine ⟨_,rfl,_,rfl,p,_,_,_,rfl,rfl,.inl hx.1,a6,_,_,rfl,rfl,by decide,λ bd d0 d1 ed=>?_⟩
  refine ⟨_,rfl,p1,_,_,_,rfl,rfl,.inr (aK.of m1),rfl,_,rfl,p2,_,_,_,rfl,rfl,.inr (aK.of m2),rfl,λ x dx dS dI ne=>?_⟩
  refine ⟨x,dx,b,c,n,_,t,u,r,bd,rfl,ae,⟨er q0 H,f7.trans (bJ dS dI),ES dS,Dq,BV⟩,yq,hm,hs,λ H1 st h1=>⟨rfl,?_⟩⟩
  have S:=cI dS dI st
  refine ⟨_,rfl,p1,_,_,_,rfl,rfl,.inr (aK.of (S _ _ m1)),rfl,_,rfl,p2,_,_,_,rfl,rfl,.inr (aK.of (S _ _ m2)),rfl,_,rfl,_,rfl,p,_,_,_,rfl,rfl,.inl (S.seq hx.1),a6,_,_,rfl,rfl,by decide,λ TU X8 XJ Wh=>?_⟩
  obtain rfl:TU=bd:=by rw [Wh,ed]
  exact ⟨YO rfl,λ pn lh=>⟨jQ,λ pm iJ=>fin (r:=r) (bd:=TU) (sj T) (by decide) (by decide) (by lia) S (nq (az.refl _) dS) h1 lh iJ⟩⟩
 refine λ pd oz=>?_
 have S1:=ap (o:=gD P w pd []) oz
 have EZ:(upd H pd (gD P w pd [])) pd=some (gD P w pd []):=ae
 generalize upd H pd (gD P w pd [])=H1 at S1 EZ ⊢
 refine ⟨_,rfl,_,rfl,p,_,_,_,rfl,rfl,.inl (S1.seq hx.1),a5,_,_,rfl,rfl,by decide,λ i i0 i1 ei=>?_⟩
 obtain ⟨sa,st,es,HJ,ls⟩:=(pP.same S1).at_ i0 (by lia)
 refine ⟨ss,_,_,_,rfl,rfl,.inl (S1.seq pP.1),es,_,rfl,p,_,_,_,rfl,rfl,.inl (S1.seq hx.1),a6,_,_,rfl,rfl,by decide,λ v v0 v1 ev=>⟨EZ,_,sa,_,rfl,oF HJ,?_⟩⟩
 obtain ⟨v,rfl⟩:=YE v0
 have S2:az H (upd H1 pd (gD P w pd [(dN st,sa,.int (v:Int))])):=S1.put oz
 have dd:eD P w K (upd H1 pd (gD P w pd [(dN st,sa,.int (v:Int))])) pd [(dN st,sa,.int (v:Int))]:=⟨ae,λ e he=>by rw [List.mem_singleton.mp he];exact (oF HJ).ts (sv EZ rfl)⟩
 have yO:ox (upd H1 pd (gD P w pd [(dN st,sa,.int (v:Int))])) sa st:=by
   obtain ⟨pb,pw,pf,z1,z2,z3,z4⟩:=HJ
   have nt:∀ {b:Addr} {xs:List V},H1 b=some (.tup xs)->(upd H1 pd (gD P w pd [(dN st,sa,.int (v:Int))])) b=some (.tup xs):=λ e=>by rw [aB (js e EZ nofun)];exact e
   exact ⟨pb,pw,pf,nt z1,nt z2,nt z3,nt z4⟩
 generalize Xp:upd H1 pd (gD P w pd [(dN st,sa,.int (v:Int))])=H2 at S2 dd yO ⊢
 clear Xp
 have Wk:ox (er q0 H2) sa st:=xI (S2 _ _ zI) yO
 have zP:∀ {H3:Hp} {x dx pr:Addr} {y xn:V} {sub:ND} {has:Bool} {k:Nat},az H2 H3->H3 x=some (.ins Ad.Table dx [("rows",.ref pr),("other",y)])->x≠q0->eD P w K H3 pr [(dN st,sa,aw v)]->((has=false/\sub = .bG/\y = .bG)∨(has=true/\∃ b,y = .ref b/\KX P w K mg base Ad.Keeper n (er q0 H3) b sub k))->k<=3+2 * sub.depth->sub.Ok n->sub.am<=60->ND.size (.table st v sub has)<=15->ck P w K (er q0 H3) xn sub->∀ {pn pm:Addr},H3 pn=none->(upd H3 pn (.tup [.str "table",.ref pd,xn,.bl has])) pm=none->Q (.ref pm) (upd (upd H3 pn (.tup [.str "table",.ref pd,xn,.bl has])) pm (.tup [.ref x,.ref pn])):=λ {H3 x dx pr y xn sub has k} S h1 nx E9 hy hk ok WI hsz hn {pn pm} lh iJ=>by
   have S3:=ap (o:=.tup [.str "table",.ref pd,xn,.bl has]) lh
   have S4:=ap (o:=.tup [.ref x,.ref pn]) iJ
   have S':=S3.trans S4
   have Jf:=S2.trans S
   have dE:∀ {d:Addr},H3 d=some (gD P w d [(dN st,sa,aw v)])->eD P w K (er q0 (upd (upd H3 pn (.tup [.str "table",.ref pd,xn,.bl has])) pm (.tup [.ref x,.ref pn]))) d [(dN st,sa,aw v)]:=λ hd=>⟨bU (js hd (Jf _ _ zI) nofun) (S' _ _ hd),λ e he=>by rw [List.mem_singleton.mp he];exact oF (Wk.same (bZ (S.trans S')))⟩
   refine q _ (.table st v sub has) _ (S2.trans (S.trans S')) ⟨pm,x,_,rfl,bU (nq (Jf.trans S3) iJ) ae,(uz (k:=k) T ⟨dx,pr,y,sa,bU nx (S' _ _ h1),dE E9.ob,hy.imp id λ ⟨e,b,e2,kx⟩=>⟨e,b,e2,kx.same (bZ S')⟩⟩ ⟨by lia,ok,λ e=>?_⟩ n4 WI hsz).mono (by show _<=3+2 * (1+sub.depth);lia),pn,pd,xn,sa,rfl,bU (nq Jf lh) (S4 _ _ ae),dE (S _ _ dd.ob),hn.same (bZ S')⟩
   rcases hy with ⟨_,e2,_⟩|⟨e2,_⟩
   . exact e2
   . rw [e] at e2;cases e2
 refine ⟨_,rfl,p,_,_,_,rfl,rfl,.inl (S2.seq hx.1),a7,_,_,rfl,rfl,by decide,λ y g0 g1 ey=>⟨rfl,_,rfl,fu (λ z=>?_) λ z=>?_⟩⟩
 .
  refine ⟨_,rfl,pd,_,_,_,rfl,dd,λ l hl x dx dS dI ne=>?_⟩
  have S3:=ap (o:=gD P w l [(dN st,sa,.int (v:Int))]) hl
  have dl:eD P w K (upd H2 l (gD P w l [(dN st,sa,.int (v:Int))])) l [(dN st,sa,.int (v:Int))]:=⟨ae,λ e he=>(dd.keys e he).ts S3.ts⟩
  generalize upd H2 l (gD P w l [(dN st,sa,.int (v:Int))])=H3 at S3 dl dS dI ⊢
  refine ⟨x,dx,l,sa,.bG,n,5,st,.bG,v,false,rfl,ae,dl.same (bJ dS dI),⟨H3,bJ dS dI,dS,.inl ⟨rfl,rfl,rfl⟩⟩,by decide,by decide,by show 1<=15;decide,λ pr H4 yz h1 KY=>⟨rfl,?_⟩⟩
  have S4:=S3.trans (cI dS dI yz)
  refine ⟨_,rfl,Uc,λ pt fB=>⟨YO rfl,λ pn lh=>⟨jQ,λ pm iJ=>?_⟩⟩⟩
  have S5:=ap (o:=.tup [.str "none"]) fB
  exact zP (k:=5) (S4.trans S5) (S5 _ _ h1) (nq (S2.trans S3) dS) (KY.same S5) (.inl ⟨rfl,rfl,rfl⟩) (by decide) trivial (by decide) (by show 1<=15;decide) ⟨pt,rfl,bU (nq (S2.trans S4) fB) ae⟩ lh iJ
 .
  refine ⟨_,rfl,pd,_,_,_,rfl,dd,λ l hl=>?_⟩
  have S3:=ap (o:=gD P w l [(dN st,sa,.int (v:Int))]) hl
  have dl:eD P w K (upd H2 l (gD P w l [(dN st,sa,.int (v:Int))])) l [(dN st,sa,.int (v:Int))]:=⟨ae,λ e he=>(dd.keys e he).ts S3.ts⟩
  generalize upd H2 l (gD P w l [(dN st,sa,.int (v:Int))])=H3 at S3 dl ⊢
  have T3:=S2.trans S3
  refine ⟨_,rfl,p1,_,_,_,rfl,rfl,.inr (aK.of (T3 _ _ m1)),rfl,λ x dx dS dI ne=>?_⟩
  have Ww:∀ {x:Addr},H3 x=none->er q0 H3 x=none:=λ {x} h=>by unfold er;split<;>first|rfl|exact h
  have zs:ND.size (.table st v t true)<=15:=by show 1+t.size<=15;lia
  refine ⟨x,dx,l,sa,.ref b,n,_,st,t,v,true,rfl,ae,dl.same (bJ dS dI),⟨er q0 H3,f7.trans (bJ dS dI),Ww dS,.inr ⟨rfl,b,rfl,kb.same (bZ T3)⟩⟩,by lia,kb.hm,zs,λ pr H4 yz h1 KY=>⟨rfl,?_⟩⟩
  have S4:=S3.trans (cI dS dI yz)
  have T4:=S2.trans S4
  exact ⟨_,rfl,_,rfl,p1,_,_,_,rfl,rfl,.inr (aK.of (T4 _ _ m1)),rfl,YO rfl,λ pn lh=>⟨jQ,λ pm iJ=>zP S4 h1 (nq T3 dS) KY (.inr ⟨rfl,b,rfl,kb.same (bZ T4)⟩) (oX _) kb.ok kb.hm zs (nb.same (bZ T4)) lh iJ⟩⟩
def jy (P:Program) (w:World) (K:W.Frag) (mg:Str->Option Value) (base:Heap) (CK:Addr) (n:Nat) (H:Hp) (q:Addr) (vs:List V):Prop:=H q=some (.lst vs)/\vs.length<=63/\∀ v∈vs,∃ t,eB P w K mg base CK n (er q H) v t
theorem jy.at_ {n:Nat} {H:Hp} {q:Addr} {vs:List V} (h:jy P w K mg base Ad.Keeper n H q vs) {i:Int} (i0:0<=i) (i1:i<vs.length):∃ v t,mS vs i=some v/\eB P w K mg base Ad.Keeper n (er q H) v t:=by
 obtain ⟨j,rfl⟩:=YE i0
 have hj:j<vs.length:=by lia
 obtain ⟨t,ht⟩:=h.2.2 _ (Y6 hj)
 exact ⟨_,t,aJ (dv hj),ht⟩
inductive qH (P:Program) (w:World) (K:W.Frag) (mg:Str->Option Value) (base:Heap) (CK:Addr) (vs:List V) (H:Hp) (Q:VK) (_E:XK):Prop
 | mk (p ns q ws n ss ps:_) (_:vs=[.ref p,.ref q,aw n,.ref ss]) (_:nG K H p ns) (_:jy P w K mg base CK n H q ws) (_:1<=n) (_:n<=4) (_:gQ K n H ss ps) (_:∀ v t H',az H H'->eB P w K mg base CK n (er q H') v t->Q v H')
theorem ou (T:Txt K mg Ad):Def P w K mg base "_law_more" 43 ["_law_xs","_law_some","_law_rooms","_law_states"] (qH P w K mg base Ad.Keeper):=by
 refine T.oT.eZ d6 λ f aP A outer s H vs Q E hr h=>?_
 obtain ⟨p,ns,q,ws,n,ss,ps,rfl,hx,hq,n1,n4,pP,k⟩:=h
 refine ⟨_,(aj (bh (PW.pt (iC (aC cy (ar aD (ao al (pv 0) ac (λ _ _=>rfl)) ac) ac (aG _)) (fF (aC jH (bK cb (by rfl) T.gq eo (aa (pv 1) ag)) ac (aG _))))) (ak (aq (au (fV (K:=K) T) hr.m (aa (pv 0) (aa (pv 2) ag))))) aF)
     (aj (aL (i:=4) d6.nd rfl (lc rfl) (ao al (pv 1) (ar aD (ao al (pv 0) ac (λ _ _=>rfl)) (bK cb (by rfl) T.gq eo (aa (pv 1) ag))) (λ _ _=>rfl)))
     (aj (aL (i:=5) d6.nd rfl (lc rfl) (ao al (pv 1) (ar aD (ao al (pv 0) ac (λ _ _=>rfl)) (bK cb (by rfl) T.gq eo (aa (pv 1) ag))) (λ _ _=>rfl)))
     (aj (aL (i:=6) d6.nd rfl (lc rfl) (ar aS (ar aS ac (au (dM (K:=K) T) hr.m (aa (ao al (pv 4) ac (λ _ _=>rfl)) ag))) (au (dM (K:=K) T) hr.m (aa (ao al (pv 5) ac (λ _ _=>rfl)) ag))))
     (aj (bh (PW.pt (iC (aC iA (pv 6) ac (aG _)) (fF (aC iA (ar cw (au (bI (K:=K) T) hr.m (aa (ao al (pv 4) ac (λ _ _=>rfl)) ag)) (au (bI (K:=K) T) hr.m (aa (ao al (pv 5) ac (λ _ _=>rfl)) ag))) ac (aG _))))) (ak (aq (au (fV (K:=K) T) hr.m (aa (pv 0) (aa (pv 2) ag))))) aF)
     (ak (aq (au (kr (K:=K) T) hr.m (aa (pv 0) (aa (pv 4) (aa (pv 5) (aa (pv 3) ag)))))))))))),?_⟩
 try dsimp only [eG,aT]
 first|(refine tV ?_;intro _ _ _ _ _ _ _)|skip
 obtain ⟨a0,b0⟩:=hx.at_ (j:=0) (by decide)
 obtain ⟨a1,b1⟩:=hx.at_ (j:=1) (by decide)
 obtain ⟨a2,b2⟩:=hx.at_ (j:=2) (by decide)
 have lf:∀ {H1:Hp},az H H1->qj P w K mg base Ad.Keeper [.ref p,aw n] H1 Q E0:=λ S=>⟨p,ns,n,q,ws,rfl,S _ _ hq.1,hx.same S,n1,n4,λ v t H' S' m=>k v t H' (S.trans S') m⟩
 refine ⟨_,rfl,p,_,_,_,rfl,rfl,.inl hx.1,a0,_,_,rfl,rfl,by decide,λ y g0 g1 ey=>⟨rfl,_,rfl,fu (λ z=>?_) λ z=>?_⟩⟩
 . exact eN ⟨_,rfl,_,rfl,lf (az.refl _)⟩
 refine ⟨_,rfl,q,_,rfl,.inl (cg.of hq.1),λ l el=>⟨_,_,rfl,rfl,_,rfl,fu (λ z2=>?_) λ z2=>?_⟩⟩
 . exact ⟨_,rfl,_,rfl,lf (az.refl _)⟩
 refine ⟨_,rfl,_,rfl,p,_,_,_,rfl,rfl,.inl hx.1,a1,_,rfl,q,_,rfl,.inl (cg.of hq.1),λ l1 X7=>⟨_,_,rfl,rfl,by lia,λ i i0 i1 ei=>?_⟩⟩
 obtain ⟨v1,t,e1,Us⟩:=hq.at_ i0 (by lia)
 refine ⟨q,_,_,_,rfl,rfl,.inl (cg.of hq.1),e1,?_⟩
 refine ⟨_,rfl,_,rfl,p,_,_,_,rfl,rfl,.inl hx.1,a2,_,rfl,q,_,rfl,.inl (cg.of hq.1),λ l2 XI=>⟨_,_,rfl,rfl,by lia,λ j j0 j1 ej=>?_⟩⟩
 obtain ⟨v2,u,e2,UG⟩:=hq.at_ j0 (by lia)
 refine ⟨q,_,_,_,rfl,rfl,.inl (cg.of hq.1),e2,?_⟩
 obtain ⟨p1,b,x1,rfl,m1,kb,nb⟩:=Us.same f7
 obtain ⟨p2,c,x2,rfl,m2,kc,nc⟩:=UG.same f7
 have dt:=ND.bP kb.ok
 have du:=ND.bP kc.ok
 have s1:=kb.hs
 have s2:=kc.hs
 have h1:=kb.hm
 have h2:=kc.hm
 refine ⟨_,rfl,p1,_,_,_,rfl,rfl,.inr (aK.of m1),rfl,_,t,n,rfl,nb,kb.ok,by lia,s1,λ H1 S1=>⟨_,_,rfl,rfl,λ y1 XW=>?_⟩⟩
 refine ⟨_,rfl,p2,_,_,_,rfl,rfl,.inr (aK.of (S1 _ _ m2)),rfl,_,u,n,rfl,nc.same S1,kc.ok,by lia,s2,λ H2 S2=>⟨_,_,rfl,rfl,λ y2 X6=>?_⟩⟩
 have S2:=S1.trans S2
 refine ⟨_,rfl,_,_,rfl,rfl,_,rfl,fu (λ z3=>?_) λ z3=>?_⟩
 . exact eN ⟨_,rfl,_,rfl,lf S2⟩
 refine ⟨_,rfl,p1,_,_,_,rfl,rfl,.inr (aK.of (S2 _ _ m1)),rfl,_,t,n,rfl,nb.same S2,kb.ok,by lia,h1,λ H3 S3=>?_⟩
 have S3:=S2.trans S3
 refine ⟨_,rfl,p2,_,_,_,rfl,rfl,.inr (aK.of (S3 _ _ m2)),rfl,_,u,n,rfl,nc.same S3,kc.ok,by lia,h2,λ H4 S4=>?_⟩
 have S4:=S3.trans S4
 refine ⟨_,_,rfl,rfl,⟨12,12,(show Int.natAbs _<2 ^ 12 by lia),(show Int.natAbs _<2 ^ 12 by lia),by decide⟩,λ y3 Vy=>⟨_,_,rfl,rfl,_,rfl,fu (λ z4=>?_) λ z4=>?_⟩⟩
 . exact ⟨_,rfl,_,rfl,lf S4⟩
 have ez:y3=((t.am * u.am:Nat):Int):=by rw [Vy];push_cast;rfl
 exact ⟨_,rfl,_,rfl,_,rfl,_,rfl,p,ns,n,_,_,ss,ps,t,u,q,ws,rfl,S4 _ _ hq.1,hx.same S4,n1,n4,Us.same (bZ S4),UG.same (bZ S4),pP.same S4,by lia,by lia,λ v t' H' S' m=>k v t' H' (S4.trans S') m⟩
inductive qx (P:Program) (w:World) (K:W.Frag) (mg:Str->Option Value) (base:Heap) (CK:Addr) (vs:List V) (H:Hp) (Q:VK) (_E:XK):Prop
 | mk (a x n t:_) (_:vs=[.ref a,x]) (_:KX P w K mg base CK n H a t (3+2 * t.depth)) (_:ck P w K H x t) (_:∀ H',az H H'->Q (.bl true) H')
theorem hU (T:Txt K mg Ad):Def P w K mg base "_law_told_right" 43 ["_law_keeper","_law_node"] (qx P w K mg base Ad.Keeper):=by
 refine T.im.eZ dU λ f aP A outer s H vs Q E hr h=>?_
 obtain ⟨a,x,n,t,rfl,ka,na,k⟩:=h
 refine ⟨_,(aj (aL (i:=2) dU.nd rfl (lc rfl) (fT (aa (cc (P:=P) (w:=w) (K:=K) (mg:=mg) (base:=base) (k:=42) ⟨rfl,rfl,rfl,rfl,rfl⟩ (pv 0) hr) (aa (cc (P:=P) (w:=w) (K:=K) (mg:=mg) (base:=base) (k:=42) ⟨rfl,rfl,rfl,rfl,rfl⟩ (pv 0) hr) ag))))
     (aj (bh (PW.pt (iC (fg (eE (au (dF (K:=K) T) hr.m (aa (ao al (pv 2) ac (λ _ _=>rfl)) ag)))) (fF (fg (eE (au (dF (K:=K) T) hr.m (aa (ao al (pv 2) ac (λ _ _=>rfl)) ag))))))) (ak (aq hE)) aF)
     (ak (aq (d7 (ym hr.units) (pv 2) (fT (aa (au (bI (K:=K) T) hr.m (aa (pv 1) ag)) (aa (au (dM (K:=K) T) hr.m (aa (pv 1) ag)) ag))) (aG _)))))),?_⟩
 try dsimp only [eG,aT]
 first|(refine eJ ?_;intro _ _ _ _)|skip
 have dt:=ND.bP ka.ok
 have s1:=ka.hs
 have yA:=ka.hm
 obtain ⟨C1,d1,f1,wP,xk,wx,wZ,b1,b2,b3,b4,b5,b6,b7,b8,b9,x6,yf,_⟩:=(ka.mono (j:=42) (by lia)).ex
 refine ⟨_,rfl,C1,a,d1,f1,_,wP,rfl,b1,b2.1,b3,b4,b8 (az.refl _) ⟨_,rfl,C1,a,d1,f1,_,xk,rfl,b1,b2.2.1,b3,b5,b9 (az.refl _) ⟨jQ,λ pl eF=>?_⟩⟩⟩
 have S1:=ap (o:=.lst [aw t.am,aw t.size]) eF
 have hl:(upd H pl (.lst [aw t.am,aw t.size])) pl=some (.lst [aw t.am,aw t.size]):=ae
 generalize upd H pl (.lst [aw t.am,aw t.size])=H1 at S1 hl ⊢
 refine ⟨_,rfl,pl,_,_,_,rfl,rfl,.inl (cg.of hl),rfl,_,rfl,_,rfl,fP ⟨_,rfl,pl,_,_,_,rfl,rfl,.inl (cg.of hl),rfl,_,rfl,_,rfl,fP ?_⟩⟩
 refine ⟨_,rfl,_,rfl,_,t,n,rfl,na.same S1,ka.ok,by lia,yA,λ H2 S2=>?_⟩
 have T2:=S1.trans S2
 refine ⟨_,rfl,_,t,n,rfl,na.same T2,ka.ok,by lia,s1,λ H3 S3=>⟨jQ,λ pe Xx=>?_⟩⟩
 have S4:=ap (o:=.lst [aw t.am,aw t.size]) Xx
 refine uB (n:=1) (d:=.list [.int (t.am:Int),.int (t.size:Int)]) (tM (cg.of (S4 _ _ (S3 _ _ (S2 _ _ hl)))) (cT rfl (cT rfl mH))) (tM (cg.of ae) (cT rfl (cT rfl mH))) (λ d hd=>?_) (by decide) ?_
 . simp only [List.mem_cons,Y0,or_false] at hd
   rcases hd with rfl|rfl<;>exact trivial
 . exact k _ (T2.trans (S3.trans S4))
inductive nS (P:Program) (w:World) (K:W.Frag) (mg:Str->Option Value) (base:Heap) (CK:Addr) (vs:List V) (H:Hp) (Q:VK) (_E:XK):Prop
 | mk (a x n t ss ps:_) (i:Nat) (_:vs=[.ref a,x,.ref ss,aw i]) (_:KX P w K mg base CK n H a t (3+2 * t.depth)) (_:ck P w K H x t) (_:gQ K n H ss ps) (_:i<t.am) (_:∀ H',az H H'->Q (.bl true) H')
theorem gt (T:Txt K mg Ad):Def P w K mg base "_law_walked" 44 ["_law_keeper","_law_node","_law_states","_law_mind"] (nS P w K mg base Ad.Keeper):=by
 refine T.mr.eZ cB λ f aP A outer s H vs Q E hr h=>?_
 obtain ⟨a,x,n,t,ss,ps,i,rfl,ka,na,pP,hi,k⟩:=h
 refine ⟨_,(aj (gw YZ rfl (jd (pv 2)) (bE (i:=4) cB.nd rfl (lc rfl)) (aj (aL (i:=5) cB.nd rfl (lc rfl) (cz (P:=P) (w:=w) (K:=K) (mg:=mg) (base:=base) (k:=43) ⟨rfl,rfl,rfl,rfl,rfl⟩ (pv 0) hr (aa (pv 3) (aa (pv 4) ag))))
     (aj (bh (PW.pt (iC (fg (eE (au (dF (K:=K) T) hr.m (aa (pv 5) ag)))) (fF (aC wR (pv 5) (au (j4 (K:=K) T) hr.m (aa (pv 1) (aa (pv 3) (aa (pv 4) ag)))) (aG _))))) (ak (aq hE)) aF)
     (aj (aL (i:=6) cB.nd rfl (lc rfl) (cz (P:=P) (w:=w) (K:=K) (mg:=mg) (base:=base) (k:=43) ⟨rfl,rfl,rfl,rfl,rfl⟩ (pv 0) hr (aa (pv 3) (aa (pv 4) ag))))
     (aj (bh (PW.pt (iC (fg (eE (au (dF (K:=K) T) hr.m (aa (pv 6) ag)))) (fF (aC wR (pv 6) (au (ja (K:=K) T) hr.m (aa (pv 1) (aa (pv 3) ag))) (aG _))))) (ak (aq hE)) aF)
     (ak (aL (i:=3) cB.nd rfl (lc rfl) (pv 6))))))))
     (ak (aq hE))),?_⟩
 try dsimp only [eG,aT]
 have dt:=ND.bP ka.ok
 have s1:=ka.hs
 have yA:=ka.hm
 have n4:=ka.n4
 obtain ⟨C1,d1,f1,wP,xk,wx,wZ,b1,b2,b3,b4,b5,b6,b7,b8,b9,x6,yf,_⟩:=(ka.mono (j:=43) (by lia)).ex
 refine ⟨_,rfl,ss,rfl,⟨_,pP.1⟩,?_⟩
 refine f8 (K:=K) (a:=ss) (xs:=ps.map V.ref) (λ j U H'=>az H H'/\E4 λ (m:Nat) (v1 v2 v3:Option V)=>m<t.am/\U=[some (.ref a),some x,some (.ref ss),some (aw m),v1,v2,v3]) ⟨az.refl _,i,none,none,none,hi,rfl⟩ (λ j U H' _ e=>e.1.seq pP.1) ?_ ?_
 .
  rintro _ j y U H' hy ⟨S,m,v1,v2,v3,hm,rfl⟩
  obtain ⟨pa,WA,rfl⟩:=List.mem_map.mp (YH hy)
  obtain ⟨st,jU,hl⟩:=pP.2.2 _ WA
  refine ⟨_,rfl,C1,a,d1,f1,_,wx,rfl,S _ _ b1,b2.2.2.1,b3,b6,_,rfl,_,rfl,x6 S hm (jU.same S) hl λ H2 S2=>?_⟩
  have S2:=S.trans S2
  refine ⟨_,rfl,_,rfl,_,rfl,fP ⟨_,rfl,_,rfl,_,rfl,_,rfl,_,t,n,m,pa,st,rfl,na.same S2,ka.ok,n4,by lia,yA,hm,jU.same S2,hl,λ H3 S3=>⟨rfl,_,rfl,rE rfl ?_⟩⟩⟩
  have S3:=S2.trans S3
  refine ⟨_,rfl,C1,a,d1,f1,_,wZ,rfl,S3 _ _ b1,b2.2.2.2,b3,b7,_,rfl,_,rfl,yf S3 hm (jU.same S3) hl λ H4 S4=>?_⟩
  have S4:=S3.trans S4
  refine ⟨_,rfl,_,rfl,_,rfl,fP ⟨_,rfl,_,rfl,_,rfl,_,t,n,m,rfl,na.same S4,ka.ok,by lia,yA,hm,λ H5 S5=>⟨rfl,_,rfl,rE rfl ?_⟩⟩⟩
  exact ⟨_,rfl,S4.trans S5,_,_,_,_,ND.eL ka.ok hm,rfl⟩
 . rintro U H' ⟨S,m,v1,v2,v3,hm,rfl⟩
   exact k H' S
theorem fU (T:Txt K mg Ad):Def P w K mg base "_law_cell_at" 1 ["_law_script","_law_k"] (oE K):=by
 refine T.kQ.eZ jJ λ f aP A outer s H vs Q E hr h=>?_
 obtain ⟨a,ns,z,rfl,hS,hz,k⟩:=h
 refine ⟨_,(aj (bh (aC jH (pv 1) (bK cb (by rfl) T.gq eo (aa (pv 0) ag)) (aG _)) (ak (aq (ao al (pv 0) (pv 1) (λ _ _=>rfl)))) aF)
     (ak (aq ac))),?_⟩
 try dsimp only [eG,aT]
 refine ⟨_,rfl,_,rfl,_,_,rfl,.inl hS,λ n en=>⟨_,_,rfl,rfl,_,rfl,?_⟩⟩
 rw [ET] at en
 refine fu (λ h=>?_) (λ h=>?_)
 .
  have hl:z.toNat<ns.length:=by lia
  have e:(ns.map V.int)[z.toNat]?=some (.int (ns[z.toNat]'hl)):=by simp [hl]
  have e2:=aJ e
  rw [Z0 hz] at e2
  refine ⟨_,rfl,_,rfl,_,_,_,_,rfl,rfl,.inl hS,e2,k _ (.inl (Y6 hl))⟩
 . exact k 0 (.inr rfl)
theorem pW {q d:Addr} {H:Hp} {l l':List V} {s:oA} (hd:H d=some (.lst l)) (h:ox H q s):ox (upd H d (.lst l')) q s:=by
 obtain ⟨pb,pw,pf,h1,h2,h3,h4⟩:=h
 have n:∀ {b:Addr} {xs:List V},H b=some (.tup xs)->(upd H d (.lst l')) b=some (.tup xs):=λ e=>by rw [aB (js e hd nofun)];exact e
 exact ⟨pb,pw,pf,n h1,n h2,n h3,n h4⟩
theorem nL {xs:List V} {lo hi:Option Int} {v:V} (h:v∈cG xs lo hi):v∈xs:=by
 unfold cG at h
 exact ZV (List.mem_of_mem_take h)
theorem xC {f:Addr} {fd:FuncData} (F:uY K "law" "law" n6 f fd) (T:Txt K mg Ad):dg P w K mg base iP 46 f fd ["_law_script"] (uC K):=by
 refine F.ok fc (λ vs H Q E h=>?_) (λ aP A outer s H vs Q E hr h=>?_)
 . obtain ⟨a,ns,rfl,_⟩:=h
   rfl
 .
  obtain ⟨a,ns,rfl,hS,hlen,pR,k⟩:=h
  refine ⟨_,(aj (aL (i:=1) fc.nd rfl (lc rfl) (au (ef (K:=K) T) hr.m (aa (au (fU (K:=K) T) hr.m (aa (pv 0) (aa ac ag))) (aa ac ag))))
    (aj (aL (i:=2) fc.nd rfl (lc rfl) (ar aS ac (ar aD (ao al (pv 1) ac (λ _ _=>rfl)) ac)))
    (aj (wt (yi:=3) ["_law_k"] ["_law_rooms","_law_script"] [2,0] (.cons ⟨rfl,rfl,.inl rfl⟩ (.cons ⟨rfl,rfl,.inl rfl⟩ .nil)) rfl (cP rfl T.fb (aa ac ag)) (λ _ _ _ _ _=>(bE (i:=0) (show (["_law_k","_law_rooms","_law_script"]:List Str).Nodup by decide +kernel) rfl (lc rfl))) (λ _ _ _ _ _=>gH) (λ _ _ _ _ _=>(au (lG (K:=K) T) hr.m (aa (au (ef (K:=K) T) hr.m (aa (ar aS (au (fU (K:=K) T) hr.m (aa (pv 2) (aa ac ag))) (ar cw (pv 0) (pv 0))) (aa ac ag))) (aa (pv 1) ag)))) rfl (by decide +kernel) (by decide +kernel) (by decide +kernel) fc.nd rfl (lc rfl) rfl)
    (aj (aL (i:=4) fc.nd rfl (lc rfl) (fT ag))
    (aj (gw YZ rfl (jd (gP je (pv 0) (g8 ac) (g8 ac))) (bE (i:=5) fc.nd rfl (lc rfl)) (aj (aL (i:=6) fc.nd rfl (lc rfl) (au (ou (K:=K) T) hr.m (aa (au (ef (K:=K) T) hr.m (aa (pv 5) (aa ac ag))) (aa (pv 4) (aa (pv 2) (aa (pv 3) ag))))))
    (aj (bh (PW.pt (iC (fg (eE (bK fI (by rfl) T.ff eA (aa (ao al (pv 6) ac (λ _ _=>rfl)) (aa (mx (v:=V.ref _) rfl T.nE rfl) ag))))) (fF (fg (eE (au (hU (K:=K) T) hr.m (aa (ao al (pv 6) ac (λ _ _=>rfl)) (aa (ao al (pv 6) ac (λ _ _=>rfl)) ag)))))))) (ak (aq hE)) aF)
    (ak (gT (wF ZN ZK ZJ ik (pv 4) (aa (pv 6) ag)))))))
    (aj (gw YZ rfl (jd (ar xT (gP je (pv 4) lK (g8 ac)) (gP je (pv 4) (g8 (Ey xE ac)) lK))) (bE (i:=6) fc.nd rfl (lc rfl)) (aj (aL (i:=7) fc.nd rfl (lc rfl) (ar aD (ao al (pv 1) ac (λ _ _=>rfl)) (au (bI (K:=K) T) hr.m (aa (ao al (pv 6) ac (λ _ _=>rfl)) ag))))
    (ak (bh (PW.pt (iC (fg (eE (au (gt (K:=K) T) hr.m (aa (ao al (pv 6) ac (λ _ _=>rfl)) (aa (ao al (pv 6) ac (λ _ _=>rfl)) (aa (pv 3) (aa ac ag))))))) (fF (fg (eE (au (gt (K:=K) T) hr.m (aa (ao al (pv 6) ac (λ _ _=>rfl)) (aa (ao al (pv 6) ac (λ _ _=>rfl)) (aa (pv 3) (aa (pv 7) ag)))))))))) (ak (aq hE)) aF))))
    (ak (aq hE)))))))),?_⟩
  try dsimp only [eG,aT]
  first|(refine nK ?_;intro _ _ _ _ _ _ _ _)|skip
  refine ⟨_,rfl,a,ns,0,rfl,hS,by decide,λ c _=>⟨c,2,rfl,by decide,λ pf fs H1 S1 hf lf bf=>?_⟩⟩
  obtain ⟨z0,XH,e0⟩:=g5 (ns:=fs) (r:=0) (by decide) (by lia)
  obtain ⟨z1,Vu,e1⟩:=g5 (ns:=fs) (r:=1) (by decide) (by lia)
  have bz:=bf z1 Vu
  refine ⟨_,rfl,pf,_,_,_,rfl,rfl,.inl (cg.of hf),e0,_,_,rfl,rfl,by decide,λ y y0 y1 ey=>⟨_,_,rfl,rfl,λ nI en=>?_⟩⟩
  obtain ⟨n,rfl⟩:∃ n:Nat,nI=n:=YE (by lia)
  have n1:1<=n:=by lia
  have n4:n<=4:=by lia
  refine ⟨_,rfl,by lia,by lia,λ D hD=>?_⟩
  refine dL (lo:=0) (n:=8) (λ i acc U H'=>A4 (az H1 H') (H' D=some (.lst acc)) (∃ (ps:List Addr),A3 (acc=ps.map V.ref) (ps.length=i) (∀ q∈ps,∃ s:oA,ox H' q s/\s.bs.length=n)) (∃ v,U=[v,some (aw n),some (.ref a)]))
    ⟨ap hD,ae,⟨[],rfl,rfl,nofun⟩,none,rfl⟩ ?_ ?_
  .
   rintro i acc U H2 hi ⟨S2,sM,⟨ps,rfl,lp,Ek⟩,v,rfl⟩
   have SH:=S1.trans S2
   refine ⟨_,rfl,a,ns,1,rfl,SH.seq hS,by decide,λ c1 _=>?_⟩
   refine ⟨_,rfl,_,rfl,_,_,rfl,rfl,⟨7,7,(show Int.natAbs _<2 ^ 7 by lia),(show Int.natAbs _<2 ^ 7 by lia),by decide⟩,λ y2 e2=>⟨_,_,rfl,rfl,λ y3 e3=>⟨y3,8,rfl,by decide,λ pn ms H3 S3 h3 l3 b3=>?_⟩⟩⟩
   refine ⟨_,rfl,pn,ms,n,rfl,cg.of h3,by lia,b3,n1,n4,λ W2 bs ws fs' bu hp H4 S4 jU lb lw Yq bb WF XG XQ XC=>?_⟩
   obtain ⟨bu,rfl⟩:=YE WF
   have T4:=S3.trans S4
   refine ⟨T4 _ _ sM,cu (by rw [ET];lia),(S2.trans T4).put hD,ae,⟨ps++[W2],by rw [YY];rfl,by rw [Yw,lp];rfl,λ q hq=>?_⟩,_,rfl⟩
   rcases List.mem_append.mp hq with h|h
   . obtain ⟨s,h1,h2⟩:=Ek q h
     exact ⟨s,pW (T4 _ _ sM) (h1.same T4),h2⟩
   . rw [List.mem_singleton.mp h]
     exact ⟨⟨bs,ws,fs',bu,hp⟩,pW (T4 _ _ sM) jU,lb⟩
  .
   rintro acc U H2 ⟨S2,sM,⟨ps,rfl,lp,Ek⟩,v,rfl⟩
   have pP:gQ K n H2 D ps:=⟨cg.of sM,lp,Ek⟩
   have SH:=S1.trans S2
   refine ⟨TV,λ q hq=>?_⟩
   have S3:=ap (o:=.lst []) hq
   refine ⟨_,rfl,2,rfl,34,rfl,a,_,rfl,(SH.trans S3).seq hS,λ p2 xj=>?_⟩
   have S4:=ap (o:=.lst (cG (ns.map V.int) (some 2) (some 34))) xj
   have h2:(upd (upd H2 q (.lst [])) p2 (.lst (cG (ns.map V.int) (some 2) (some 34)))) p2=some (.lst ((o7 ns (some 2) (some 34)).map V.int)):=by rw [← kZ];exact ae
   have TZ:(upd (upd H2 q (.lst [])) p2 (.lst (cG (ns.map V.int) (some 2) (some 34)))) q=some (.lst []):=S4 _ _ ae
   have np:p2≠q:=(aH (show (upd H2 q (.lst [])) q=some (.lst []) from ae) xj).symm
   have lc:=uo ns (some 2) (some 34)
   have Uo:=S3.trans S4
   generalize upd (upd H2 q (.lst [])) p2 (.lst (cG (ns.map V.int) (some 2) (some 34)))=H4 at Uo h2 TZ ⊢
   generalize o7 ns (some 2) (some 34)=cs at h2 lc
   refine ⟨p2,rfl,⟨_,cg.of h2⟩,?_⟩
   refine f8 (K:=K) (a:=p2) (xs:=cs.map V.int) (λ i U H'=>A4 (az H2 H') (H' p2=some (.lst (cs.map V.int))) (∃ vs,jy P w K mg base Ad.Keeper n H' q vs/\vs.length=i) (E3 λ v1 v2 v3=>U=[some (.ref a),some (.ref pf),some (aw n),some (.ref D),some (.ref q),v1,v2,v3]))
     ⟨Uo,h2,⟨[],⟨TZ,by decide,nofun⟩,rfl⟩,none,none,none,rfl⟩ (λ i U H' _ e=>by obtain ⟨_,h,_⟩:=e;exact cg.of h) ?_ ?_
   .
    rintro _ i y U H5 hy ⟨S5,h5,⟨vs,hv,lv⟩,v1,v2,v3,rfl⟩
    have hi:i<(cs.map V.int).length:=(List.getElem?_eq_some_iff.mp hy).1
    rw [ET] at hi
    obtain ⟨c,_,rfl⟩:=List.mem_map.mp (YH hy)
    refine ⟨_,rfl,c,8,rfl,by decide,λ pn ms H6 S6 h6 l6 b6=>?_⟩
    have VL:jy P w K mg base Ad.Keeper n H6 q vs:=⟨S6 _ _ hv.1,hv.2.1,λ v Fg=>(hv.2.2 v Fg).imp λ t m=>m.same (bZ S6)⟩
    refine ⟨_,rfl,_,rfl,_,rfl,pn,ms,q,vs,n,D,ps,rfl,⟨cg.of h6,l6,b6⟩,VL,n1,n4,pP.same (S5.trans S6),λ v t H7 S7 mv=>?_⟩
    obtain ⟨pm,b,x,rfl,m1,kb,nb⟩:=mv.same f7
    obtain ⟨C1,d1,f1,wP,xk,wx,wZ,_,_,_,_,_,_,_,_,_,_,_,ty,_,kk⟩:=kb.ex
    refine ⟨_,rfl,pm,_,_,_,rfl,rfl,.inr (aK.of m1),rfl,_,_,_,_,_,rfl,ty,rfl,kk,_,rfl,fP ?_⟩
    refine ⟨_,rfl,pm,_,_,_,rfl,rfl,.inr (aK.of m1),rfl,_,rfl,pm,_,_,_,rfl,rfl,.inr (aK.of m1),rfl,b,x,n,t,rfl,kb,nb,λ H8 S8=>⟨_,rfl,fP ?_⟩⟩
    have Fe:=S6.trans (S7.trans S8)
    have Ut:=Fe _ _ hv.1
    have U9:=S5.trans Fe
    have Fg:=hv.2.1
    refine ⟨_,rfl,.inl ⟨rfl,_,cg.of Ut⟩,_,rfl,q,_,_,rfl,rfl,Ut,cu (by lia),U9.put hq,(by rw [aB np];exact Fe _ _ h5),⟨vs++[.ref pm],⟨ae,by rw [Yw];show vs.length+1<=63;lia,λ v GD=>?_⟩,by rw [Yw,lv];rfl⟩,_,_,_,rfl⟩
    rw [xv]
    rcases List.mem_append.mp GD with h|h
    . exact (hv.2.2 v h).imp λ t m=>m.same (bZ Fe)
    . rw [List.mem_singleton.mp h];exact ⟨t,mv.same (bZ S8)⟩
   .
    rintro U H5 ⟨S5,h5,⟨vs,hv,lv⟩,v1,v2,v3,rfl⟩
    refine ⟨_,rfl,3,rfl,q,_,rfl,cg.of hv.1,λ p3 Vr=>?_⟩
    have T3:=ap (o:=.lst (cG vs none (some 3))) Vr
    refine ⟨_,rfl,6,rfl,-6,rfl,q,_,rfl,cg.of (T3 _ _ hv.1),λ p4 Vs=>?_⟩
    have T4:=ap (o:=.lst (cG vs (some (-6)) none)) Vs
    have l3:=fR vs none (some 3)
    have l4:=fR vs (some (-6)) none
    have XF:=hv.2.1
    refine ⟨p3,p4,_,_,rfl,rfl,T4 _ _ ae,ae,Zw (cu (by lia)),λ p5 VW=>?_⟩
    have T5:=ap (o:=.lst (cG vs none (some 3)++cG vs (some (-6)) none)) VW
    have nV:∀ v∈cG vs none (some 3)++cG vs (some (-6)) none,v∈vs:=λ v h=>(List.mem_append.mp h).elim nL nL
    have EQ:(upd (upd (upd H5 p3 (.lst (cG vs none (some 3)))) p4 (.lst (cG vs (some (-6)) none))) p5 (.lst (cG vs none (some 3)++cG vs (some (-6)) none))) p5=some (.lst (cG vs none (some 3)++cG vs (some (-6)) none)):=ae
    have S8:=(T3.trans T4).trans T5
    generalize upd (upd (upd H5 p3 (.lst (cG vs none (some 3)))) p4 (.lst (cG vs (some (-6)) none))) p5 (.lst (cG vs none (some 3)++cG vs (some (-6)) none))=H8 at S8 EQ ⊢
    generalize cG vs none (some 3)++cG vs (some (-6)) none=us at nV EQ
    refine ⟨p5,rfl,⟨_,cg.of EQ⟩,?_⟩
    refine f8 (K:=K) (a:=p5) (xs:=us) (λ i U H'=>az H8 H'/\E3 λ v1 v2 v3=>U=[some (.ref a),some (.ref pf),some (aw n),some (.ref D),some (.ref q),v1,v2,v3])
      ⟨az.refl _,_,_,_,rfl⟩ (λ i U H' _ e=>cg.of (e.1 _ _ EQ)) ?_ ?_
    .
     rintro _ i y U H9 hy ⟨S9,v1,v2,v3,rfl⟩
     obtain ⟨t,mv⟩:=hv.2.2 y (nV y (YH hy))
     have Uq:=S8.trans S9
     have Pl:=S5.trans Uq
     obtain ⟨pm,b,x,rfl,m1,kb,nb⟩:=mv.same (f7.trans Uq)
     have dt:=ND.bP kb.ok
     have s1:=kb.hs
     have yA:=kb.hm
     have pos:=ND.pos kb.ok
     refine ⟨_,rfl,pf,_,_,_,rfl,rfl,.inl (cg.of (Pl _ _ (S2 _ _ hf))),e1,_,rfl,pm,_,_,_,rfl,rfl,.inr (aK.of m1),rfl,_,t,n,rfl,nb,kb.ok,by lia,yA,λ Uk BK=>⟨_,_,rfl,rfl,by lia,λ m m0 XY em=>?_⟩⟩
     obtain ⟨m,rfl⟩:=YE m0
     have m2:=BK _ _ m1
     refine ⟨_,rfl,pm,_,_,_,rfl,rfl,.inr (aK.of m2),rfl,_,rfl,pm,_,_,_,rfl,rfl,.inr (aK.of m2),rfl,_,rfl,b,x,n,t,D,ps,0,rfl,kb.same BK,nb.same BK,pP.same (Pl.trans BK),pos,λ Ln Xi=>⟨_,rfl,fP ?_⟩⟩
     have DP:=BK.trans Xi
     have m3:=DP _ _ m1
     exact ⟨_,rfl,pm,_,_,_,rfl,rfl,.inr (aK.of m3),rfl,_,rfl,pm,_,_,_,rfl,rfl,.inr (aK.of m3),rfl,_,rfl,_,rfl,b,x,n,t,D,ps,m,rfl,kb.same DP,nb.same DP,pP.same (Pl.trans DP),by lia,λ X1 Fl=>⟨_,rfl,fP ⟨(S9.trans DP).trans Fl,_,_,_,rfl⟩⟩⟩
    . rintro U H9 ⟨S9,v1,v2,v3,rfl⟩
      exact k H9
end
theorem walk {l:W.OpenLaw} {q:Program} {loose:List Str} {XP:(Str->Option Value)->Heap->Prop} {YP:World->Heap->Prop} {d:DefRec} {K:Params->W.Frag} (hn:l.most=some 63) (Cd:d.params.defaults=[]) (Bl:d.name = "law")
   (hY:∀ (w:World) (h:Heap),YP w h->(K w.params).In h)
   (F:∀ (w:World) (mg:Str->Option Value) (h:Heap),(K w.params).In h->h.Ns mainGlobals mg->∃ A,Txt (K w.params) mg A) :
   W.WalkO q loose XP YP l.row.toRowW d [] (λ f vs=>PySem.call f vs) :=
 L2.rP (k:=46) (x:="_law_script") hn Cd ⟨rfl,by decide,by decide⟩ hY
   (λ w mg fa h KX G yD=>by
     obtain ⟨_,T⟩:=F w mg h KX G
     obtain ⟨f,fd,hm,Fd⟩:=id T.DN
     rw [Bl] at yD
     have e:=yD.symm.trans hm
     cases e
     exact ⟨fd,Fd.xL (λ _ _ _ _ _ _ _=>rfl),λ base _ _=>xC Fd T⟩)
end K36
namespace PySem.W.Fast
def tw3930513476072271329:=0
def tw7750845981301413784:=0
def tw15712104499841529547:=0
def tw14887722386918488589:=0
def tw17936152572141795276:=0
def tw12557075725676056945:=0
def tw474609412389207197:=0
def tw17849550651049365782:=0
def tw8937245269260360904:=0
def tw14188994209979685306:=0
def tw10181048365350143071:=0
def tw5971761663456048525:=0
def tw2834584011883016638:=0
def tw2083662057579001963:=0
def tw10245064053513426835:=0
def tw15232964354143717301:=0
def tw9387858019687801499:=0
def tw4239177487109702191:=0
def tw12652005463669366235:=0
def tw9697944336889422420:=0
def tw17873961746787040993:=0
def tw18176874067939639509:=0
def tw1936381975528375251:=0
def tw16500774855568355701:=0
def tw1142060430425278729:=0
def tw14758035596883994301:=0
def tw10701846287197478796:=0
def tw11679379731289495752:=0
def tw12315139624537183919:=0
def tw3600912549614769497:=0
def tw13142838673132202882:=0
def tw9891043982719405556:=0
def tw11933069917895828521:=0
def tw314307812431761937:=0
def tw5186992315790722053:=0
def tw9694861366640717464:=0
def tw8920582460179573932:=0
def tw678286925965839960:=0
def tw995483231671283542:=0
def tw7438112144345792890:=0
def tw13713599259282919780:=0
def tw1531886838309085360:=0
def tw2486577251618894124:=0
def tw13376758506287326696:=0
def tw308610384762625160:=0
def tw2399860592315329572:=0
def tw369829941357717964:=0
def tw14534109502080056541:=0
def tw8017514478663847917:=0
def tw13184454870135046591:=0
def tw14806346559241348908:=0
end PySem.W.Fast
open PySem PySem.W PyProof.Rows
set_option maxRecDepth 100000 in
set_option maxHeartbeats 0 in
theorem PySem.Challenge.cw_stoke_k36_whole_keepers_put_together_holds : PySem.Challenge.rw_stoke_k36_whole_keepers_put_together.Holds := by
 w_on; o_law; k_head; (case hw => w_witness2)
 k_fill
 refine K36.walk (l:=PySem.Challenge.rw_stoke_k36_whole_keepers_put_together) rfl rfl rfl (fun w h Y => PySem.W.kIn_of Y) ?F
 case F =>
   intro w mg h KX G
   refine' ⟨_,K36.txt_mk KX G ?_ ?_ ?_ ?_ ?_ ?_ ?_ ?_ ?_ ?_ ?_ ?_ ?_ ?_ ?_ ?_ ?_ ?_ ?_ ?_ ?_ ?_ ?_ ?_ ?_ ?_ ?_ ?_ ?_ ?_ ?_ ?_ ?_ ?_ ?_ ?_ ?_ ?_ ?_ ?_ ?_ ?_ ?_ ?_ ?_ ?_ ?_ ?_ ?_ ?_ ?_ ?_ ?_ ?_ ?_ ?_ ?_ ?_ ?_ ?_ ?_ ?_ ?_ ?_ ?_ ?_ ?_ ?_ ?_ ?_ ?_ ?_ ?_ ?_ ?_ ?_ ?_ ?_ ?_ ?_ ?_ ?_ ?_ ?_ ?_ ?_ ?_ ?_ ?_ ?_ ?_ ?_ ?_ ?_ ?_ ?_ ?_ ?_ ?_ ?_ ?_ ?_ ?_ ?_ ?_ ?_ ?_ ?_ ?_ ?_ ?_ ?_ ?_ ?_ ?_ ?_ ?_ ?_ ?_ ?_ ?_ ?_ ?_ ?_ ?_ ?_ ?_ ?_ ?_ ?_ ?_ ?_ ?_ ?_ ?_ ?_ ?_ ?_ ?_ ?_ ?_ ?_ ?_ ?_ ?_ ?_ ?_ ?_ ?_ ?_ ?_ ?_ ?_ ?_ ?_ ?_ ?_ ?_ ?_ ?_ ?_ ?_ ?_ ?_ ?_ ?_ ?_ ?_ ?_ ?_ ?_ ?_ ?_ ?_ ?_ ?_ ?_ ?_ ?_ ?_ ?_ ?_ ?_ ?_ ?_ ?_ ?_ ?_ ?_ ?_ ?_ ?_ ?_ ?_ ?_ ?_ ?_ ?_ ?_ ?_ ?_ ?_ ?_ ?_ ?_ ?_ ?_ ?_ ?_ ?_ ?_ ?_ ?_ ?_ ?_ ?_ ?_ ?_ ?_ ?_ ?_ ?_ ?_ ?_ ?_ ?_ ?_ ?_ ?_ ?_ ?_ ?_ ?_ ?_ ?_ ?_ ?_ ?_ ?_ ?_ ?_ ?_ ?_ ?_ ?_ ?_ ?_ ?_ ?_ ?_ ?_ ?_ ?_ ?_ ?_ ?_ ?_ ?_ ?_ ?_ ?_ ?_ ?_ ?_ ?_ ?_ ?_ ?_ ?_ ?_ ?_ ?_ ?_ ?_ ?_ ?_ ?_ ?_ ?_ ?_ ?_ ?_ ?_ ?_ ?_ ?_ ?_ ?_ ?_ ?_ ?_ ?_ ?_ ?_ ?_ ?_ ?_ ?_ ?_ ?_ ?_ ?_ ?_ ?_ ?_ ?_ ?_ ?_ ?_ ?_ ?_ ?_ ?_ ?_ ?_ ?_ ?_ ?_ ?_ ?_ ?_ ?_ ?_ ?_ ?_ ?_ ?_ ?_ ?_ ?_ ?_ ?_ ?_ ?_ ?_ ?_ ?_ ?_ ?_ ?_ ?_ ?_ ?_ ?_ ?_ ?_ ?_ ?_ ?_ ?_ ?_ ?_ ?_ ?_ ?_ ?_ ?_ ?_ ?_ ?_ ?_ ?_ ?_ ?_ ?_ ?_ ?_ ?_ ?_ ?_ ?_ ?_ ?_ ?_ ?_ ?_ ?_ ?_ ?_ ?_ ?_ ?_ ?_ ?_ ?_ ?_ ?_ ?_ ?_ ?_ ?_ ?_ ?_ ?_ ?_ ?_ ?_ ?_ ?_ ?_ ?_ ?_ ?_ ?_ ?_ ?_ ?_ ?_ ?_ ?_ ?_ ?_ ?_ ?_ ?_ ?_ ?_ ?_ ?_ ?_ ?_ ?_ ?_ ?_ ?_ ?_ ?_ ?_ ?_ ?_ ?_ ?_ ?_ ?_ ?_ ?_⟩
   all_goals try ((try delta K36.kq_); (try delta K36.kc_); (try delta K36.kf_); (try delta K36.kn_); (try delta K36.kg_); first | k_is | k_exc | kernel_rfl | kit_is)
