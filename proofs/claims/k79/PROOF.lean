import PyProof.Rows.All
import Wide.All
import OpenK.AllK
import Wide.FinOn
import Lean
import PyProof.EqAt
import PyProof.EqKinds
import PyProof.TupleCall
import PySem.Challenge.RW_stoke_k79_holds_written
set_option Elab.async false
set_option linter.all false
set_option maxRecDepth 100000
def be:=@List.length_map
def rT:=@List.length_append
def uk:=@List.map_append
def Et:=@List.getElem?_map
def GV:=@List.not_mem_nil
def Nt:=@Nat.le_refl
def OR:=@Bool.false_ne_true
def RF:=@List.length_range
def Ux:=@PySem.Heap.get?_push_of_some
def aaa:=@List.mem_cons
def aab:=@List.size_toArray
def aac:=@List.getElem?_eq_getElem
def aad:=@PySem.Heap.lt_size
def aae:=@List.mem_cons_self
def aaf:=@List.mem_cons_of_mem
def aag:=@Nat.le_of_lt
def aah:=@PySem.F.plainAttrs_list
def aai:=@Nat.lt_of_lt_of_le
def aaj:=@PySem.Str.length_append
def aak:=@if_neg
def aal:=@List.length_take
def aam:=@if_pos
def aan:=@Option.some.inj
def aap:=@PySem.Heap.get?_push_size
def aaq:=@decide_eq_false
def aar:=@List.append_nil
def aas:=@PySem.wpAny_bind
def aat:=@List.append_assoc
def aau:=@Int.mul_right_comm
def aav:=@List.length_cons
def aaw:=@List.getElem?_append_right
def aax:=@List.getD_eq_getElem?_getD
def aaz:=@decide_eq_true
def aaA:=@Nat.ne_of_lt
def aaB:=@List.mem_append_right
def aaC:=@PySem.W.mg_of
def aaD:=@PySem.F.type_list_append
def aaE:=@PySem.F.slot_list_append
def aaF:=@List.range_succ
def aaG:=@Int.eq_ofNat_of_zero_le
def aaH:=@Nat.zero_le
def aaI:=@or_false
def aaJ:=@List.eq_nil_of_length_eq_zero
def aaK:=@List.getElem?_append_left
def aaL:=@List.mem_of_getElem?
def aaM:=@PySem.F.plainAttrs_str
def aaN:=@List.take_of_length_le
def aaO:=@Nat.le_trans
def aaP:=@List.getElem_mem
def aaQ:=@Nat.toDigits_of_lt_base
def aaR:=@List.map_cons
def aaS:=@PySem.PassesOwn.never
def aaT:=@Nat.lt_of_le_of_lt
def aaU:=@Int.zero_add
def aaV:=@congrArg
def aaW:=@PySem.wpAny_pure
def aaX:=@List.length_filter_le
def aaY:=@PyProof.Rows.callWith_type1
def aaZ:=@List.mem_append
def aa0:=@Int.mul_assoc
def aa1:=@List.take_length
def aa2:=@List.cons_ne_nil
def aa3:=@List.getElem?_range
def aa4:=@List.take_succ
def aa5:=@List.length_replicate
def aa6:=@List.lookup_cons
def aa7:=@Int.mul_pos
def aa8:=@PySem.W.mg_none_of
def aa9:=@PySem.mem_of_lookup
def aba:=@Array.length_toList
def abb:=@List.length_drop
def abc:=@List.all_eq_true
def abd:=@PySem.wpAny_mono
def abe:=@PySem.wpAny_Call_Name_kw
def abf:=@List.getElem?_set_self
def abg:=@decide_eq_true_iff
def abh:=@Nat.toDigits_append_toDigits
def abi:=@List.filter_append
def abj:=@PySem.F.type_str_join
def abk:=@PySem.F.slot_str_join
def abl:=@PySem.F.slot_dict_get
def abm:=@List.nil_append
def abn:=@Int.eq_of_mul_eq_mul_right
def abo:=@List.getElem?_set_ne
def abp:=@PySem.wpAny_passesOwn
def abq:=@Nat.le_add_right
def abr:=@Bool.and_eq_true
def abt:=@PySem.wpAny_truthy_bool
def abu:=@PySem.wpAny_holding
def abv:=@Int.mul_fdiv_cancel_left
def abw:=@Int.le_of_lt
def abx:=@PySem.Txt.slice_le
def aby:=@Nat.lt_irrefl
def abz:=@List.map_singleton
def abA:=@List.find?_cons
def abB:=@Bool.eq_iff_iff
def abC:=@PySem.wpAny_getItem_str_slice
def abD:=@PySem.W.kia_one
def abE:=@List.map_nil
def abF:=@List.length_singleton
def abG:=@Int.ne_of_gt
def abH:=@Int.mul_comm
def abI:=@PySem.Calls.spliced_cons
def abJ:=@PySem.Calls.callWith_builtin
def abK:=@PySem.call_meets
def abL:=@List.cons.inj
def abM:=@List.mem_map_of_mem
def abN:=@List.length_set
def abO:=@Int.mul_nonneg
def abP:=@List.any_cons
def abQ:=@PySem.F.entry_dict_get
def abR:=@PySem.typeIs_str
def abS:=@Option.map_some
def abT:=@Nat.div_add_mod
def abU:=@PySem.Calls.spliced_nil
def abV:=@if_false
def abW:=@Nat.pow_le_pow_right
def abX:=@List.mem_of_mem_take
def abY:=@Nat.mul_le_mul
def abZ:=@Int.natAbs_mul
def ab0:=@Nat.le_succ
def ab1:=@List.filterMap_cons
def ab2:=@Int.toNat_of_nonneg
def ab3:=@PySem.wpAny_execs_nil
def ab4:=@PySem.post_val_or_str
def ab5:=@Nat.eq_zero_or_pos
def ab6:=@List.map_take
def ab7:=@List.getElem?_tail
def ab8:=@Int.emod_lt_of_pos
def ab9:=@of_decide_eq_true
def aca:=@if_true
def acb:=@Ne.symm
def acd:=@Nat.mod_lt
def ace:=@List.foldl_append
def acf:=@Int.toNat_natCast
def acg:=@Int.mul_left_comm
def ach:=@PySem.Calls.evalArgs_plain
def aci:=@Int.mul_le_mul_of_nonneg_right
def acj:=@PySem.Heap.size_push
def ack:=@decide_eq_decide
def acl:=@Nat.lt_succ_self
def acm:=@List.filter_cons
def acn:=@List.cons_append
def aco:=@Int.mul_le_mul_of_nonneg_left
def acp:=@PySem.wpAny_standAt
def acq:=@PySem.StrLaws.glued_eq_join
def acr:=@PySem.F.type_str_startswith
def acs:=@PySem.F.slot_str_startswith
def act:=@Nat.min_eq_left
def acu:=@List.of_mem_zip
def acv:=@Int.mul_lt_mul_of_pos_right
def acw:=@Int.emod_nonneg
def acx:=@PySem.F.args_str_split_2
def acy:=@Int.lt_of_mul_lt_mul_right
def acz:=@Int.fdiv_eq_ediv_of_nonneg
def acA:=@PySem.wpAny_pyIter_list
def acB:=@Option.map_map
def acC:=@List.mem_or_eq_of_mem_set
def acD:=@List.drop_zero
def acE:=@PySem.F.entry_str_split
def acF:=@PySem.codeAny_mono
def acG:=@PySem.F.type_list_extend
def acH:=@PySem.F.slot_list_extend
def acI:=@decide_eq_false_iff_not
def acJ:=@PySem.StrLaws.found_one
def acK:=@PySem.F.type_list_clear
def acL:=@PySem.F.slot_list_index
def acM:=@PySem.F.slot_list_clear
def acN:=@PySem.F.plainAttrs_dict
def acO:=@PySem.F.args_dict_get_3
def acP:=@Nat.add_sub_cancel_left
def acQ:=@List.map_drop
def acR:=@List.getElem?_replicate
def acS:=@PySem.F.slot_str_split
def acT:=@Bool.and_self
def acU:=@Int.le_ediv_iff_mul_le
def acV:=@PySem.F.type_dict_get
def acW:=@Nat.succ_mul
def acX:=@Nat.pow_succ
def acY:=@Nat.ne_of_gt
def acZ:=@List.getElem?_zipWith
def ac0:=@List.mem_append_left
def ac1:=@PySem.Calls.Name_function_global
def ac2:=@List.getElem_of_mem
def ac3:=@Int.mul_neg
def ac4:=@true_and
def ac5:=@of_decide_eq_false
def ac6:=@not_or
def ac7:=@Bool.false_eq_true
namespace L2
open PySem PySem.Spec PyProof.Rows
variable {C dx it:Addr} {H:Hp} {Q:VK} {X:Cx} {ch fp:List Addr} {es:List Expr} {j t':Nat} {o:HO} {pins:List (Addr×Obj)} {qual:Str} {s':Shared} {tb:TS} {te:TE} {tg:Expr} {u:Value} {us:List Value} {v:V} {xs:List V} {U:St}
abbrev Key:=Sum Int Str
def nM:Key->Value->Bool
 | .inl k,v=>Value.isInt k v
 | .inr x,v=>Value.isStrOf x v
def Py (w:World):Key->Int
 | .inl k=>hashInt k
 | .inr x=>hashStr w x
theorem b7:∀ {k:Key} {v:Value},nM k v=true->(∃ i t,k=Sum.inl i/\v=Value.int i t)∨(∃ x t,k=Sum.inr x/\v=Value.str x t)
 | .inl i,v,h=>by
   obtain ⟨t,e⟩:=Value.isInt_shape (k:=i) (v:=v) h
   exact .inl ⟨i,t,rfl,e⟩
 | .inr x,v,h=>by
   obtain ⟨t,e⟩:=Value.isStrOf_shape (x:=x) (v:=v) h
   exact .inr ⟨x,t,rfl,e⟩
theorem uQ (i:Int) (t:Tok):nM (.inl i) (.int i t)=true:=by simp [nM,Value.isInt]
theorem uG (x:Str) (t:Tok):nM (.inr x) (.str x t)=true:=by simp [nM,Value.isStrOf]
theorem BF (a b:Int):decide ((Sum.inl a:Key)=Sum.inl b)=(a == b):=by
 by_cases e:a=b
 . subst e;simp
 . have h:¬ (Sum.inl a:Key)=Sum.inl b:=λ q=>e (Sum.inl.inj q)
   rw [aaq h]
   exact (beq_eq_false_iff_ne.mpr e).symm
theorem BR (a b:Str):decide ((Sum.inr a:Key)=Sum.inr b)=decide (a=b):=by
 by_cases e:a=b
 . subst e;simp
 . have h:¬ (Sum.inr a:Key)=Sum.inr b:=λ q=>e (Sum.inr.inj q)
   rw [aaq h,aaq e]
theorem Bu (a:Int) (b:Str):decide ((Sum.inl a:Key)=Sum.inr b)=false:=aaq (λ q=>nomatch q)
theorem Bq (a:Str) (b:Int):decide ((Sum.inr a:Key)=Sum.inl b)=false:=aaq (λ q=>nomatch q)
def cC (prog:Program) (w:World):PySem.KeyKind prog w Key where
 is:=nM
 hash:=Py w
 inj:=λ v a b ha hb=>by
   rcases b7 ha with ⟨i,t,rfl,rfl⟩|⟨x,t,rfl,rfl⟩
   . rcases b7 hb with ⟨j,u,rfl,e⟩|⟨y,u,rfl,e⟩
     . injection e with e1 _;rw [e1]
     . exact nomatch e
   . rcases b7 hb with ⟨j,u,rfl,e⟩|⟨y,u,rfl,e⟩
     . exact nomatch e
     . injection e with e1 _;rw [e1]
 byValue:=λ k v h=>by
   rcases b7 h with ⟨i,t,rfl,rfl⟩|⟨x,t,rfl,rfl⟩<;>rfl
 pyHash:=λ hv h=>by
   rcases b7 hv with ⟨i,t,rfl,rfl⟩|⟨x,t,rfl,rfl⟩
   . exact wpAny_pyHash_int h
   . exact wpAny_pyHash_str h
 eqBool:=λ hu hv h=>by
   rcases b7 hu with ⟨i,t,rfl,rfl⟩|⟨x,t,rfl,rfl⟩
   . rcases b7 hv with ⟨j,u,rfl,rfl⟩|⟨y,u,rfl,rfl⟩
     . rw [BF] at h;exact wpAny_eqBool_int h
     . rw [Bu] at h;exact SeqAt.EqAt.int_str i t y u _ _ _ _ h
   . rcases b7 hv with ⟨j,u,rfl,rfl⟩|⟨y,u,rfl,rfl⟩
     . rw [Bq] at h;exact SeqAt.EqAt.str_int x t j u _ _ _ _ h
     . rw [BR] at h;exact wpAny_eqBool_str h
 «strs»:=λ k x t v h=>by
   rcases b7 h with ⟨i,u,rfl,e⟩|⟨y,u,rfl,e⟩
   . exact nomatch e
   . injection e with e1 _
     subst e1
     cases v<;>rfl
theorem qd (prog:Program) (w:World) (i:Int) (t:Tok):(cC prog w).is (.inl i) (.int i t)=true:=uQ i t
theorem qj (prog:Program) (w:World) (x:Str) (t:Tok):(cC prog w).is (.inr x) (.str x t)=true:=uG x t
inductive V where
 | cD|bl (b:Bool)|int (i:Int)|str (x:Str)|uy (b:Array UInt8)|AK (b:UInt64)|ref (a:Addr)|ty (n:String)
 deriving DecidableEq
def RelV:V->Value->Prop
 | .cD,u=>u=Value.none
 | .bl b,u=>u=Value.bool b
 | .int i,u=>∃ t,u=Value.int i t
 | .str x,u=>∃ t,u=Value.str x t
 | .uy b,u=>∃ t,u=Value.bytes b t
 | .AK b,u=>∃ t,u=Value.float b t
 | .ref a,u=>u=Value.ref a
 | .ty n,u=>u=Value.type n
abbrev Vals:List V->List Value->Prop:=Paired RelV
theorem Vals.length (r:Vals xs us):xs.length=us.length:=Paired.length r
theorem Vals.get:∀ {xs:List V} {us:List Value} {i:Nat} {x:V},Vals xs us->xs[i]?=some x->∃ u,us[i]?=some u/\RelV x u
 | _,_,_,_,.nil,e=>by simp at e
 | _,_,0,_,.cons r _,e=>by simp at e;subst e;exact ⟨_,rfl,r⟩
 | _,_,i+1,x,.cons _ t,e=>by
   obtain ⟨u,h1,h2⟩:=Vals.get (i:=i) (x:=x) t (by simpa using e)
   exact ⟨u,by simpa using h1,h2⟩
theorem Vals.set {x:V} (r:RelV x u):∀ {xs:List V} {us:List Value} (i:Nat),Vals xs us->Vals (xs.set i x) (us.set i u)
 | _,_,_,.nil => .nil
 | _,_,0,.cons _ t => .cons r t
 | _,_,i+1,.cons q t => .cons q (Vals.set r i t)
theorem Vals.append:∀ {xs ys:List V} {us ws:List Value},Vals xs us->Vals ys ws->Vals (xs++ys) (us++ws)
 | _,_,_,_,.nil,s=>s
 | _,_,_,_,.cons r t,s => .cons r (Vals.append t s)
theorem Vals.take:∀ {xs:List V} {us:List Value} (n:Nat),Vals xs us->Vals (xs.take n) (us.take n)
 | _,_,0,_ => .nil
 | _,_,_+1,.nil => .nil
 | _,_,n+1,.cons r t => .cons r (Vals.take n t)
theorem Vals.drop:∀ {xs:List V} {us:List Value} (n:Nat),Vals xs us->Vals (xs.drop n) (us.drop n)
 | _,_,0,r=>r
 | _,_,_+1,.nil => .nil
 | _,_,n+1,.cons _ t=>Vals.drop n t
def iJ:Option V->Option Value->Prop
 | some v,some u=>RelV v u
 | none,none=>True
 | _,_=>False
def KV {κ:Type}:List (κ×V)->List (κ×Value)->Prop:=Paired λ (p:κ×V) (q:κ×Value)=>p.1=q.1/\RelV p.2 q.2
def kV:Key->V
 | .inl i => .int i
 | .inr x => .str x
inductive HO where
 | lst (xs:List V)
 | tup (xs:List V)
 | dK (aL:List (Key×V))|dT (aL:List (List Key×V))
 | set (S:Int->Bool) (n:Nat)
 | ins (C dx:Addr) (fs:List (Str×V))
 | own (x:Addr)
 | xd (fs:List (Str×V))
 | met (f x:Addr)
 | PY (lo hi:Int)
 | rN (o:Obj) (u:HO)
 | BV (ps:Array Value)
 | ext (φ:Heap->Prop)
abbrev Hp:=Addr->Option HO
def upd (H:Hp) (a:Addr) (o:HO):Hp:=λ b=>if b=a then some o else H b
theorem ag {a:Addr}:upd H a o a=some o:=by unfold upd;rw [aam rfl]
theorem aE {a b:Addr} (h:b≠a):upd H a o b=H b:=by unfold upd;rw [aak h]
theorem kW {a:Addr} {u:HO}:upd (upd H a o) a u=upd H a u:=by
 funext b;unfold upd;split<;>rfl
theorem Ea {a b:Addr} {u:HO} (h:H a=some o) (h':H b=some u) (d:o≠u):a≠b:=by
 intro e;subst e;rw [h] at h';exact d (aan h')
theorem aw {a b:Addr} (h:H a=some o) (h':H b=none):a≠b:=by
 intro e;subst e;rw [h] at h';cases h'
section
variable (P:Program) (w:World)
def bX (H:Hp) (h:Heap) (a:Addr):HO->Prop
 | .lst xs=>xs.length<=sizeLine/\∃ (aZ:List Value) (n:Nat),Vals xs aZ/\h.get? a=some { cls:=.type "list",data:=.seq aZ.toArray n }
 | .tup xs=>xs.length<=sizeLine/\∃ aZ:List Value,Vals xs aZ/\IsTup h a aZ.toArray
 | .dK aL=>aL.length<=sizeLine/\(a == sysModules)=false/\∃ vs,KV aL vs/\h.DictOf (cC P w) a vs
 | .dT aL=>aL.length<=sizeLine/\(a == sysModules)=false/\∃ xs:List (List Key×Addr×Value),
     Paired (λ (p:List Key×V) (q:List Key×Addr×Value)=>p.1=q.1/\H q.2.1=some (.tup (p.1.map kV))/\RelV p.2 q.2.2) aL xs /\
     ∃ o es ep,h.get? a=some o/\o.ExactDict/\o.data = .dict es ep/\es.toList=xs.map (entryOfKey (tupleKind (cC P w)))/\(xs.map (·.1)).Nodup
 | .set S n=>h.SetOf (intKind P w) a S n
 | .ins C dx fs=>H dx=some (.own a)/\fs.length<=1000/\dx≠a/\h.get? a=some (W.instObj C dx) /\
     ∃ mA,h.Ns1 dx mA/\(∀ f,iJ (fs.lookup f) (mA f))/\PySem.Within mA (fs.map (·.1))
 | .own _=>∃ o,h.get? a=some o
 | .xd fs=>∃ mA,h.Ns1 a mA/\∀ f,iJ (fs.lookup f) (mA f)
 | .PY lo hi=>∃ t u v,h.get? a=some { cls:=.type "range",data:=.fields #[.int lo t,.int hi u,.int 1 v]}
 | .rN o u=>h.get? a=some o/\bX H h a u
 | .BV ps=>h.get? a=some { cls:=.none,data:=.fields ps }
 | .met f x=>h.get? a=some (W.methodObj (.ref f) (.ref x))
 | .ext φ=>φ h/\(∃ o,h.get? a=some o)/\∀ h1 h2:Heap,φ h1->(∀ o,h1.get? a=some o->h2.get? a=some o)->φ h2
def jc (H:Hp) (h:Heap):Prop:=∀ a o,H a=some o->bX P w H h a o
end
section
variable {P:Program} {w:World} {H H':Hp} {h h':Heap} {a:Addr} {o:HO}
theorem bX.lt (x:bX P w H h a o):a<h.objs.size:=by
 cases o with
 | lst xs=>obtain ⟨_,_,_,_,e⟩:=x;exact aad e
 | tup xs=>obtain ⟨_,_,_,p⟩:=x;exact p.lt
 | dK aL=>obtain ⟨_,_,_,_,o,_,_,e,_⟩:=x;exact aad e
 | dT aL=>obtain ⟨_,_,_,_,o,_,_,e,_⟩:=x;exact aad e
 | set S n=>obtain ⟨o,_,_,_,e,_⟩:=x;exact aad e
 | ins C dx fs=>obtain ⟨_,_,_,e,_⟩:=x;exact aad e
 | own y=>obtain ⟨_,e⟩:=x;exact aad e
 | xd fs=>obtain ⟨_,⟨_,_,_,e,_⟩,_⟩:=x;exact aad e
 | PY lo hi=>obtain ⟨_,_,_,e⟩:=x;exact aad e
 | rN ob u=>obtain ⟨e,_⟩:=x;exact aad e
 | BV ps=>exact aad (show h.get? a=some _ from x)
 | met f y=>exact aad (show h.get? a=some _ from x)
 | ext φ=>obtain ⟨_,⟨_,e⟩,_⟩:=x;exact aad e
theorem Paired.Bx {α β:Type} {F G:α->β->Prop}:∀ {l₁:List α} {l₂:List β},Paired F l₁ l₂->(∀ a b,F a b->G a b)->Paired G l₁ l₂
 | _,_,.nil,_ => .nil
 | _,_,.cons r t,f => .cons (f _ _ r) (Paired.Bx t f)
theorem bX.rM (x:bX P w H h a o) (k:∀ b u,(b=a∨H b=some (.own a))->h.get? b=some u->h'.get? b=some u) (ho:∀ b,H b=some (.own a)->H' b=some (.own a)) (ht:∀ b xs,H b=some (.tup xs)->H' b=some (.tup xs)):bX P w H' h' a o:=by
 induction o with
 | lst xs=>obtain ⟨z,aZ,n,r,e⟩:=x;exact ⟨z,aZ,n,r,k _ _ (.inl rfl) e⟩
 | tup xs=>obtain ⟨z,aZ,r,ob,e,c⟩:=x;exact ⟨z,aZ,r,ob,k _ _ (.inl rfl) e,c⟩
 | dK aL=>obtain ⟨z,y,vs,r,ob,es,ep,e,c⟩:=x;exact ⟨z,y,vs,r,ob,es,ep,k _ _ (.inl rfl) e,c⟩
 | dT aL =>
   obtain ⟨z,y,xs,r,ob,es,ep,e,c⟩:=x
   exact ⟨z,y,xs,Paired.Bx r λ p q z=>⟨z.1,ht _ _ z.2.1,z.2.2⟩,ob,es,ep,k _ _ (.inl rfl) e,c⟩
 | set S n=>obtain ⟨ob,es,ep,t,e,c⟩:=x;exact ⟨ob,es,ep,t,k _ _ (.inl rfl) e,c⟩
 | ins C dx fs =>
   obtain ⟨d,z,ne,e,mA,⟨od,es,ep,e2,c⟩,r⟩:=x
   exact ⟨ho _ d,z,ne,k _ _ (.inl rfl) e,mA,⟨od,es,ep,k _ _ (.inr d) e2,c⟩,r⟩
 | own y=>obtain ⟨ob,e⟩:=x;exact ⟨ob,k _ _ (.inl rfl) e⟩
 | xd fs=>obtain ⟨mA,⟨od,es,ep,e,c⟩,r⟩:=x;exact ⟨mA,⟨od,es,ep,k _ _ (.inl rfl) e,c⟩,r⟩
 | PY lo hi=>obtain ⟨t,u,v,e⟩:=x;exact ⟨t,u,v,k _ _ (.inl rfl) e⟩
 | rN ob u ih=>obtain ⟨e,q⟩:=x;exact ⟨k _ _ (.inl rfl) e,ih q⟩
 | BV ps =>
   have e:h.get? a=some { cls:=.none,data:=.fields ps }:=x
   show h'.get? a=some { cls:=.none,data:=.fields ps }
   exact k a _ (.inl rfl) e
 | met f y =>
   have e:h.get? a=some (W.methodObj (.ref f) (.ref y)):=x
   show h'.get? a=some (W.methodObj (.ref f) (.ref y))
   exact k a _ (.inl rfl) e
 | ext φ=>obtain ⟨p,⟨o,e⟩,st⟩:=x;exact ⟨st _ _ p λ o q=>k _ _ (.inl rfl) q,⟨o,k _ _ (.inl rfl) e⟩,st⟩
theorem jc.lt (x:jc P w H h) (e:H a=some o):a<h.objs.size:=(x a o e).lt
theorem jc.fresh (x:jc P w H h) (e:h.objs.size<=a):H a=none:=by
 cases q:H a with
 | none=>rfl
 | some u=>exact absurd (aai (x.lt q) e) (aby _)
theorem jc.kept (x:jc P w H h) (k:∀ b u,h.get? b=some u->h'.get? b=some u):jc P w H h':=λ a o e =>
 (x a o e).rM (λ b u _ q=>k b u q) (λ _ q=>q) λ _ _ q=>q
theorem jc.laid (x:jc P w H h) (k:∀ b u,h.get? b=some u->h'.get? b=some u) (hp:h.objs.size<=a) (new:bX P w (upd H a o) h' a o):jc P w (upd H a o) h':=λ b u e=>by
 have hn:=x.fresh hp
 by_cases hb:b=a
 . subst hb;rw [ag] at e;cases e;exact new
 . rw [aE hb] at e
   exact (x b u e).rM (λ c v _ q=>k c v q) (λ c q=>by rw [aE (aw q hn)];exact q) λ c xs q=>by rw [aE (aw q hn)];exact q
end
def Rd (H:Hp) (a:Addr) (u:HO):Prop:=H a=some u∨∃ o,H a=some (.rN o u)
theorem Rd.ok {P:Program} {w:World} {h:Heap} {a:Addr} {u:HO} (r:Rd H a u) (x:jc P w H h):bX P w H h a u:=by
 rcases r with r|⟨o,r⟩
 . exact x a u r
 . obtain ⟨_,q⟩:=x a _ r
   exact q
def Gs:Option HO->Prop
 | some (.lst _)=>True
 | some (.dK _)=>True
 | some (.dT _)=>True
 | some (.set _ _)=>True
 | some (.ins _ _ _)=>True
 | some (.ext _)=>True
 | _=>False
section
variable {P:Program} {w:World} {H:Hp} {h h':Heap} {x e:Addr} {o':HO}
theorem jc.write (ok:jc P w H h) (mu:Gs (H x)) (he:e=x∨H e=some (.own x)) (k:∀ b u,b≠e->h.get? b=some u->h'.get? b=some u) (Do:∃ u,h'.get? e=some u) (new:bX P w (upd H x o') h' x o'):jc P w (upd H x o') h':=λ b u q=>by
 have EW:∀ c y,H c=some (.own y)->c≠x:=λ c y r z=>by subst z;rw [r] at mu;exact mu
 have HU:∀ c xs,H c=some (.tup xs)->c≠x:=λ c xs r z=>by subst z;rw [r] at mu;exact mu
 by_cases hb:b=x
 . subst hb;rw [ag] at q;cases q;exact new
 .
  rw [aE hb] at q
  by_cases CV:b=e
  .
   have q':H b=some (.own x):=by
     rcases he with z|z
     . exact absurd (CV.trans z) hb
     . rw [CV];exact z
   rw [q] at q';cases q'
   obtain ⟨v,hv⟩:=Do
   exact ⟨v,by rw [CV];exact hv⟩
  .
   refine (ok b u q).rM (λ c v hc r=>k c v ?_ r) (λ c r=>by rw [aE (EW c b r)];exact r) λ c xs r=>by rw [aE (HU c xs r)];exact r
   rcases hc with rfl|hc
   . exact CV
   . rintro rfl
     rcases he with z|z
     . exact EW c b hc z
     . rw [hc] at z;cases z;exact hb rfl
end
structure Un (fs ex:List Addr) (H H':Hp) (h h':Heap):Prop where
 keep:∀ b o,h.get? b=some o->H b=none->b∉fs->b∉ex->h'.get? b=some o
 slot:∀ b o,h.get? b=some o->H b=none->b∈fs->b∉ex->∃ sl,h'.get? b=some { o with slots:=sl }
 free:∀ b o,h.get? b=some o->H b=none->b∉ex->H' b=none
 there:∀ b o,h.get? b=some o->b∉ex->∃ o',h'.get? b=some o'
 pk:∀ b xs,H b=some (.tup xs)->H' b=some (.tup xs)
 oM:∀ b o u,H b=some (.rN o u)->H' b=some (.rN o u)
 qi:∀ b ps,H b=some (.BV ps)->∃ more,H' b=some (.BV (ps++more))
section
variable {fs fs' ex ex':List Addr} {H H1 H2:Hp} {h h1 h2 h':Heap} {a x e:Addr} {o:HO}
theorem Un.any (u:Un fs ex H H1 h h1) {b:Addr} {ob:Obj} (q:h.get? b=some ob) (n:H b=none) (hx:b∉ex):∃ sl,h1.get? b=some { ob with slots:=sl }:=by
 by_cases hb:b∈fs
 . exact u.slot b ob q n hb hx
 . exact ⟨ob.slots,u.keep b ob q n hb hx⟩
theorem Un.kept (k:∀ b u,h.get? b=some u->h'.get? b=some u):Un fs ex H H h h' :=
 ⟨λ b ob q _ _ _=>k b ob q,λ b ob q _ _ _=>⟨ob.slots,k b ob q⟩,λ _ _ _ n _=>n,λ b ob q _=>⟨ob,k b ob q⟩,λ _ _ q=>q,λ _ _ _ q=>q,λ _ ps q=>⟨#[],by rw [q];simp⟩⟩
theorem Un.refl:Un fs ex H H h h:=Un.kept λ _ _ q=>q
theorem Un.laid (k:∀ b u,h.get? b=some u->h'.get? b=some u) (hp:h.objs.size<=a) (hn:H a=none):Un fs ex H (upd H a o) h h' where
 keep:=λ b u q _ _ _=>k b u q
 slot:=λ b u q _ _ _=>⟨u.slots,k b u q⟩
 free:=λ b u q n _=>by rw [aE (aaA (aai (aad q) hp))];exact n
 there:=λ b u q _=>⟨u,k b u q⟩
 pk:=λ b xs q=>by rw [aE (aw q hn)];exact q
 oM:=λ b u xs q=>by rw [aE (aw q hn)];exact q
 qi:=λ b ps q=>⟨#[],by rw [aE (aw q hn),q];simp⟩
theorem Un.write (mu:Gs (H x)) (he:e=x∨H e=some (.own x)) (k:∀ b u,b≠e->h.get? b=some u->h'.get? b=some u) (Do:∃ u,h'.get? e=some u):Un fs ex H (upd H x o) h h':=by
 have hx:∀ b,H b=none->b≠x:=λ b n z=>by subst z;rw [n] at mu;exact mu
 have hb:∀ b,H b=none->b≠e:=λ b n z=>by
   subst z
   rcases he with r|r
   . exact hx b n r
   . rw [n] at r;cases r
 have hm:∀ b u,H b=some u->¬ Gs (some u)->b≠x:=λ b u q nm z=>by subst z;rw [q] at mu;exact nm mu
 refine ⟨λ b u q n _ _=>k b u (hb b n) q,λ b u q n _ _=>⟨u.slots,k b u (hb b n) q⟩,λ b u q n _=>by rw [aE (hx b n)];exact n,λ b u q _=>?_,
   λ b xs q=>by rw [aE (hm b _ q λ z=>z)];exact q,λ b u xs q=>by rw [aE (hm b _ q λ z=>z)];exact q,λ b ps q=>⟨#[],by rw [aE (hm b _ q λ z=>z),q];simp⟩⟩
 by_cases CV:b=e
 . subst CV;exact Do
 . exact ⟨u,k b u CV q⟩
end
def GS (h:Heap) (H:Hp):List Addr:=(List.range h.objs.size).filter λ a=>(H a).isSome
def ol (h:Heap) (H:Hp):Heap:=W.hideAll h (GS h H)
theorem uz (h:Heap) (H:Hp):(ol h H).objs.size=h.objs.size:=W.hideAll_size _ _
theorem wP {h:Heap} {b:Addr} {o:Obj} (e:h.get? b=some o) (n:H b=none):(ol h H).get? b=some o :=
 W.hideAll_get _ e λ hm=>by
   have q:(H b).isSome=true:=(List.mem_filter.mp hm).2
   rw [n] at q;simp at q
theorem zw {h:Heap} {b:Addr} {o:Obj} (e:(ol h H).get? b=some o):h.get? b=some o/\H b=none:=by
 have e':h.get? b=some o:=W.of_hideAll (GS h H) e
 refine ⟨e',?_⟩
 cases q:H b with
 | none=>rfl
 | some x =>
   have hm:b∈GS h H:=List.mem_filter.mpr ⟨List.mem_range.mpr (aad e'),by simp [q]⟩
   have z:(ol h H).get? b=none:=W.hideAll_none (GS h H) hm
   rw [z] at e;cases e
def zA (g h:Heap) (L:Addr):List (Addr×Obj):=(List.range h.objs.size).filterMap λ a=>if a=L∨(g.get? a).isSome=true then none else (h.get? a).map λ o=>(a,o)
def rest (g h:Heap) (L d:Addr):List (Addr×Obj):=(zA g h L).filter λ p=>decide (p.1≠d)
structure Mod (K:W.Frag) (mg:Str->Option Value) (base:Heap):Prop where
 DN:K.In base
 glob:base.Ns mainGlobals mg
 blt:∃ mb,base.Ns builtinsNs mb/\∀ x:Str,x ≠ "__name__"->mb x=bootBuiltins x
 nolimit:base.NoLimit
structure Cx where
 prog:Program
 w:World
 K:W.Frag
 mg:Str->Option Value
 base:Heap
 A:Around
 N:List Str
 s₀:Shared
 H₀:Hp
 env:Env
 outer:List Env
 stack:List Env
 ex:List Addr
 fn:Str->Bool
 calm:Bool
 pn:List (Addr×Obj)
 xe:Value->Shared->Prop
def vk (l:List Env):List Addr:=l.filterMap (·.frame)
abbrev Cx.fs (X:Cx):List Addr:=vk X.outer
def G9 (sc:Scope) (x:Str):Prop:=sc.names.lookup x=some .local∨sc.names.lookup x=some .cell∨sc.names.lookup x=some .free
def Loc (sc:Scope) (x:Str):Prop:=sc.names.lookup x=some .local∨sc.names.lookup x=some .cell
def Look (env:Env) (h:Heap) (m:Str->Option Value) (x:Str) (u:Value):Prop :=
 (env.kindOf x=some .local/\m x=some u)∨((env.kindOf x=some .cell∨env.kindOf x=some .free)/\∃ c,env.cells.lookup x=some c/\h.IsCell c (some u))
structure Cx.Ok (X:Cx):Prop where
 mod:Mod X.K X.mg X.base
 kind:X.env.scope.kind = .function
 glob:X.env.globals=mainGlobals
 blt:X.env.builtins=builtinsNs
 above:X.s₀.heap.objs.size<=X.env.locals
 inj:∀ x y c,X.env.cells.lookup x=some c->X.env.cells.lookup y=some c->x=y
 has:∀ x,(X.env.kindOf x=some .cell∨X.env.kindOf x=some .free)->∃ c,X.env.cells.lookup x=some c
 F3:∀ x c,X.fn x=true->X.env.cells.lookup x=some c->X.s₀.heap.objs.size<=c
 hd:X.calm=true->X.A.handled=none
 frames:X.A.frames=some X.stack
 Hi:X.stack=X.outer∨(X.stack=X.env::X.outer/\X.env.frame=some X.env.locals)
 Uj:∀ b∈X.ex,b≠X.env.locals/\∀ x c,X.env.cells.lookup x=some c->c≠b
 bs:∀ b o,X.base.get? b=some o->X.s₀.heap.get? b=some o/\X.H₀ b=none
 AV:X.base.objs.size<=X.s₀.heap.objs.size
 wD:∀ b o,X.base.get? b=some o->b∉X.ex
 yH:∀ b∈X.ex,b∉X.fs
 kz:X.s₀.heap.FunFrames X.base X.outer
 Bz:∀ b∈X.fs,X.H₀ b=none
structure Inv (X:Cx) (pins:List (Addr×Obj)) (U:List (Option V)) (H:Hp) (s:Shared):Prop where
 ok:X.Ok
 os:s.os=X.s₀.os
 bare:AllBare s.gens
 base:Un X.fs X.ex X.H₀ H X.s₀.heap s.heap
 loc:∃ m,s.heap.Ns X.env.locals m/\∀ (i:Nat) (x:Str) (v:V),X.N[i]?=some x->U[i]?=some (some v)->G9 X.env.scope x->∃ u,RelV v u/\Look X.env s.heap m x u
 cell:∀ x c,X.env.cells.lookup x=some c->∃ v,s.heap.IsCell c v
 free:H X.env.locals=none
 iW:∀ x c,X.env.cells.lookup x=some c->H c=none
 pin:∀ p∈X.pn++pins,s.heap.get? p.1=some p.2/\H p.1=none/\p.1≠X.env.locals/\p.1∉X.fs/\∀ v,p.2.data ≠ .cell v
 cg:jc X.prog X.w H s.heap
 len:U.length=X.N.length
section
variable {X:Cx} {pins:List (Addr×Obj)} {U:List (Option V)} {H H':Hp} {s:Shared} {h':Heap}
theorem Cx.Ok.L0 (ok:X.Ok) {b:Addr} {o:Obj} (e:X.base.get? b=some o):b∉X.fs:=λ hb=>by
 have:=(ok.kz.mem hb).1
 rw [e] at this;cases this
theorem Inv.bs (I:Inv X pins U H s):∀ b o,X.base.get? b=some o->s.heap.get? b=some o/\H b=none:=λ b o e =>
 ⟨I.base.keep b o (I.ok.bs b o e).1 (I.ok.bs b o e).2 (I.ok.L0 e) (I.ok.wD b o e),I.base.free b o (I.ok.bs b o e).1 (I.ok.bs b o e).2 (I.ok.wD b o e)⟩
theorem Inv.bk (I:Inv X pins U H s):∀ b o,X.base.get? b=some o->s.heap.get? b=some o:=λ b o e=>(I.bs b o e).1
theorem Inv.mod (I:Inv X pins U H s):Mod X.K X.mg X.base:=I.ok.mod
theorem Inv.jt (I:Inv X pins U H s):X.K.In s.heap:=I.ok.mod.DN.keeps I.bk
theorem Inv.lt (I:Inv X pins U H s):X.env.locals<s.heap.objs.size:=let ⟨_,hn,_⟩:=I.loc;hn.lt
theorem Inv.sz (I:Inv X pins U H s):X.s₀.heap.objs.size<=s.heap.objs.size:=aaO I.ok.above (aag I.lt)
theorem Inv.Lu (I:Inv X pins U H s) {a:Addr} (h:s.heap.objs.size<=a):a∉X.fs:=λ hb=>by
 obtain ⟨_,o,ho,_⟩:=I.ok.kz.mem hb
 exact absurd (aai (aad ho) (aaO I.sz h)) (aby _)
theorem Inv.BX (I:Inv X pins U H s):∀ x c,X.env.cells.lookup x=some c->c≠X.env.locals:=λ x c e z=>by
 obtain ⟨v,o,ho,hd⟩:=I.cell x c e
 obtain ⟨m,⟨o',es,ep,wc,Mo,_⟩,_⟩:=I.loc
 rw [z,wc] at ho;cases ho;rw [Mo] at hd;cases hd
theorem Inv.kz (I:Inv X pins U H s):s.heap.FunFrames X.base X.outer:=by
 have all:∀ (l:List Env),(∀ b∈vk l,b∈X.fs)->X.s₀.heap.FunFrames X.base l->s.heap.FunFrames X.base l:=by
   intro l
   induction l with
   | nil=>intro _ _;trivial
   | cons env r ih =>
     intro hs hl
     obtain ⟨hk,⟨L,o,hf,hn,ho,hd⟩,hr⟩:=hl
     have hL:L∈X.fs:=hs L (by unfold vk;rw [ab1,hf];exact aae)
     obtain ⟨sl,e⟩:=I.base.slot L o ho (I.ok.Bz L hL) hL λ z=>I.ok.yH L z hL
     exact ⟨hk,⟨L,_,hf,hn,e,hd⟩,ih (λ b hb=>hs b (by unfold vk;rw [ab1,hf];exact aaf _ hb)) hr⟩
 exact all X.outer (λ _ hb=>hb) I.ok.kz
theorem Inv.stack (I:Inv X pins U H s):s.heap.FunFrames X.base X.stack:=by
 rcases I.ok.Hi with e|⟨e,hf⟩
 . rw [e];exact I.kz
 .
  rw [e]
  obtain ⟨m,hn,_⟩:=I.loc
  refine .cons (by rw [I.ok.kind];decide) hf hn ?_ I.kz
  exact Heap.get?_none_of_le (aaO I.ok.AV I.ok.above)
theorem Inv.sC (I:Inv X pins U H s):∀ b∈vk X.stack,b∈X.env.locals::X.fs:=λ b hb=>by
 rcases I.ok.Hi with e|⟨e,hf⟩
 . rw [e] at hb;exact aaf _ hb
 .
  rw [e] at hb
  unfold vk at hb
  rw [ab1,hf] at hb
  exact hb
theorem Inv.tJ (I:Inv X pins U H s):∀ b∈vk X.stack,H b=none:=λ b hb=>by
 rcases List.mem_cons.mp (I.sC b hb) with e|hb
 . rw [e];exact I.free
 . obtain ⟨_,o,ho,_⟩:=I.ok.kz.mem hb
   exact I.base.free b o ho (I.ok.Bz b hb) λ z=>I.ok.yH b z hb
theorem Inv.step {g':Array GenState} {t':Nat} {d':Drawn} (I:Inv X pins U H s) (rj:∀ b∈ch,(b∈X.ex∨X.s₀.heap.objs.size<=b)/\b≠X.env.locals/\(∀ x c,X.env.cells.lookup x=some c->c≠b)/\∀ p∈X.pn++pins,p.1≠b) (keep:∀ b o,b≠X.env.locals->b∉X.fs->b∉ch->s.heap.get? b=some o->H b=none->h'.get? b=some o) (slot:∀ b o,b≠X.env.locals->b∈X.fs->b∉ch->s.heap.get? b=some o->H b=none->∃ sl,h'.get? b=some { o with slots:=sl }) (free:∀ b o,b∉ch->s.heap.get? b=some o->H b=none->H' b=none) (there:∀ b o,b∉ch->s.heap.get? b=some o->∃ o',h'.get? b=some o') (pk:∀ b xs,H b=some (.tup xs)->H' b=some (.tup xs)) (oM:∀ b o u,H b=some (.rN o u)->H' b=some (.rN o u)) (qi:∀ b ps,H b=some (.BV ps)->∃ more,H' b=some (.BV (ps++more))) (ns:∀ m,s.heap.Ns X.env.locals m->h'.Ns X.env.locals m) (cg:jc X.prog X.w H' h') (hg:AllBare g') :
   Inv X pins U H' { s with heap:=h',gens:=g',drawn:=d',toks:=t' }:=by
 have Vq:∀ b o,X.s₀.heap.get? b=some o->b≠X.env.locals:=λ b o e=>aaA (aai (aad e) I.ok.above)
 have Hm:∀ b o,X.s₀.heap.get? b=some o->b∉X.ex->b∉ch:=λ b o e hx hb=>by
   rcases (rj b hb).1 with z|z
   . exact hx z
   . exact absurd (aai (aad e) z) (aby _)
 have cellK:∀ x c,X.env.cells.lookup x=some c->∀ v,s.heap.IsCell c v->h'.IsCell c v:=λ x c e v ⟨o,ho,hd⟩=>by
   have Gx:c∉ch:=λ z=>(rj c z).2.2.1 x c e rfl
   by_cases hc:c∈X.fs
   . obtain ⟨sl,q⟩:=slot c o (I.BX x c e) hc Gx ho (I.iW x c e)
     exact ⟨_,q,hd⟩
   . exact ⟨o,keep c o (I.BX x c e) hc Gx ho (I.iW x c e),hd⟩
 refine ⟨I.ok,I.os,hg,⟨λ b o e n hb hx=>?_,λ b o e n hb hx=>?_,λ b o e n hx=>?_,λ b o e hx=>?_,λ b xs e=>pk b xs (I.base.pk b xs e),λ b o xs e=>oM b o xs (I.base.oM b o xs e),λ b ps e=>?_⟩,?_,λ x c e=>?_,?_,λ x c e=>?_,λ p hp=>?_,cg,I.len⟩
 . exact keep b o (Vq b o e) hb (Hm b o e hx) (I.base.keep b o e n hb hx) (I.base.free b o e n hx)
 . obtain ⟨sl,e1⟩:=I.base.slot b o e n hb hx
   obtain ⟨WF,e2⟩:=slot b _ (Vq b o e) hb (Hm b o e hx) e1 (I.base.free b o e n hx)
   exact ⟨WF,e2⟩
 . obtain ⟨o',e1⟩:=I.base.there b o e hx
   exact free b o' (Hm b o e hx) e1 (I.base.free b o e n hx)
 . obtain ⟨o',e1⟩:=I.base.there b o e hx
   exact there b o' (Hm b o e hx) e1
 . obtain ⟨m1,e1⟩:=I.base.qi b ps e
   obtain ⟨m2,e2⟩:=qi b _ e1
   exact ⟨m1++m2,by rw [e2,Array.append_assoc]⟩
 .
  obtain ⟨m,hn,hl⟩:=I.loc
  refine ⟨m,ns m hn,λ i x v e1 e2 e3=>?_⟩
  obtain ⟨u,r,l⟩:=hl i x v e1 e2 e3
  refine ⟨u,r,?_⟩
  rcases l with l|⟨k,c,e,z⟩
  . exact .inl l
  . exact .inr ⟨k,c,e,cellK x c e _ z⟩
 . obtain ⟨v,z⟩:=I.cell x c e
   exact ⟨v,cellK x c e v z⟩
 . obtain ⟨m,⟨o,_,_,ho,_⟩,_⟩:=I.loc
   exact free _ o (λ z=>(rj _ z).2.1 rfl) ho I.free
 . obtain ⟨v,o,ho,hd⟩:=I.cell x c e
   exact free c o (λ z=>(rj c z).2.2.1 x c e rfl) ho (I.iW x c e)
 . obtain ⟨e,n,ne,nf,d⟩:=I.pin p hp
   have Gx:p.1∉ch:=λ z=>(rj p.1 z).2.2.2 p hp rfl
   exact ⟨keep p.1 p.2 ne nf Gx e n,free p.1 p.2 Gx e n,ne,nf,d⟩
theorem Inv.un {t':Nat} (I:Inv X pins U H s) (u:Un X.fs [] H H' s.heap h') (cg:jc X.prog X.w H' h'):Inv X pins U H' { s with heap:=h',toks:=t' }:=by
 obtain ⟨m,⟨o,es,ep,ho,r⟩,_⟩:=id I.loc
 obtain ⟨sl,hL⟩:=u.any ho I.free (by simp)
 exact I.step (g':=s.gens) (d':=s.drawn) (ch:=[]) (λ _ z=>nomatch z) (λ b o _ hb _ e n=>u.keep b o e n hb (by simp)) (λ b o _ hb _ e n=>u.slot b o e n hb (by simp)) (λ b o _ e n=>u.free b o e n (by simp)) (λ b o _ e=>u.there b o e (by simp)) u.pk u.oM u.qi (λ m' hm=>by
   obtain ⟨o',Ti,OS,wc,r'⟩:=hm
   rw [ho] at wc;cases wc
   exact ⟨_,Ti,OS,hL,r'⟩) cg I.bare
theorem Inv.call {g':Array GenState} {t':Nat} {d':Drawn} (I:Inv X pins U H s) (u:Un (vk X.stack) ch H H' s.heap h') (cg:jc X.prog X.w H' h') (hg:AllBare g') (rj:∀ b∈ch,(b∈X.ex∨X.s₀.heap.objs.size<=b)/\b≠X.env.locals/\(∀ x c,X.env.cells.lookup x=some c->c≠b)/\∀ p∈X.pn++pins,p.1≠b) :
   Inv X pins U H' { s with heap:=h',gens:=g',drawn:=d',toks:=t' }:=by
 obtain ⟨m,⟨o,es,ep,ho,r⟩,_⟩:=id I.loc
 obtain ⟨sl,hL⟩:=u.any ho I.free λ z=>(rj _ z).2.1 rfl
 exact I.step (ch:=ch) rj (λ b o hL hb hc e n=>u.keep b o e n (λ z=>(List.mem_cons.mp (I.sC b z)).elim hL hb) hc) (λ b o _ _ hc e n=>u.any e n hc) (λ b o hc e n=>u.free b o e n hc) (λ b o hc e=>u.there b o e hc) u.pk u.oM u.qi (λ m' hm=>by
   obtain ⟨o',Ti,OS,wc,r'⟩:=hm
   rw [ho] at wc;cases wc
   exact ⟨_,Ti,OS,hL,r'⟩) cg hg
theorem Inv.turned {t':Nat} (I:Inv X pins U H s) (k:∀ b o,b≠it->s.heap.get? b=some o->h'.get? b=some o) (hn:H it=none) (hL:it≠X.env.locals) (h1:it∈X.ex∨X.s₀.heap.objs.size<=it) (h2:∀ x c,X.env.cells.lookup x=some c->c≠it) (h3:∀ p∈X.pn++pins,p.1≠it):Inv X pins U H { s with heap:=h',toks:=t' }:=by
 have UN:∀ b u,H b=some u->b≠it:=λ b u e z=>by rw [z,hn] at e;cases e
 refine I.step (g':=s.gens) (d':=s.drawn) (ch:=[it]) (λ b hb=>?_) (λ b o _ _ hc e _=>k b o (λ z=>hc (by simp [z])) e) (λ b o _ _ hc e _=>⟨o.slots,k b o (λ z=>hc (by simp [z])) e⟩) (λ _ _ _ _ n=>n)
   (λ b o hc e=>⟨o,k b o (λ z=>hc (by simp [z])) e⟩) (λ _ _ e=>e) (λ _ _ _ e=>e) (λ b ps e=>⟨#[],by rw [e];simp⟩) (λ m hm=>?_) (λ b u e=>?_) I.bare
 . have e:b=it:=by simpa using hb
   subst e
   exact ⟨h1,hL,h2,h3⟩
 . obtain ⟨o,es,ep,ho,r⟩:=hm
   exact ⟨o,es,ep,k _ o (acb hL) ho,r⟩
 .
  refine (I.cg b u e).rM (λ c v hc q=>k c v ?_ q) (λ _ q=>q) λ _ _ q=>q
  rcases hc with z|z
  . rw [z];exact UN b u e
  . exact UN c _ z
theorem Inv.tok (I:Inv X pins U H s) (t:Nat):Inv X pins U H { s with toks:=t }:=I.un (h':=s.heap) (t':=t) Un.refl I.cg
theorem Inv.kept {t':Nat} (I:Inv X pins U H s) (k:∀ b u,s.heap.get? b=some u->h'.get? b=some u):Inv X pins U H { s with heap:=h',toks:=t' }:=I.un (Un.kept k) (I.cg.kept k)
theorem Inv.laid {a:Addr} {t':Nat} (I:Inv X pins U H s) (k:∀ b u,s.heap.get? b=some u->h'.get? b=some u) (hp:s.heap.objs.size<=a) (new:bX X.prog X.w (upd H a o) h' a o) :
   Inv X pins U (upd H a o) { s with heap:=h',toks:=t' }:=I.un (Un.laid k hp (I.cg.fresh hp)) (I.cg.laid k hp new)
theorem Inv.write {x e:Addr} {t':Nat} (I:Inv X pins U H s) (mu:Gs (H x)) (he:e=x∨H e=some (.own x)) (k:∀ b u,b≠e->s.heap.get? b=some u->h'.get? b=some u) (Do:∃ u,h'.get? e=some u) (new:bX X.prog X.w (upd H x o) h' x o):Inv X pins U (upd H x o) { s with heap:=h',toks:=t' }:=I.un (Un.write mu he k Do) (I.cg.write mu he k Do new)
theorem Inv.tw {A9:List (Addr×Obj)} (I:Inv X pins U H s) (h:∀ p∈A9,s.heap.get? p.1=some p.2/\H p.1=none/\p.1≠X.env.locals/\p.1∉X.fs/\∀ v,p.2.data ≠ .cell v):Inv X A9 U H s :=
 ⟨I.ok,I.os,I.bare,I.base,I.loc,I.cell,I.free,I.iW,λ p hp=>(List.mem_append.mp hp).elim (λ z=>I.pin p (ac0 _ z)) (h p),I.cg,I.len⟩
theorem qS {N:List Str} (hN:N.Nodup) {i:Nat} {x:Str} (a:N[i]?=some x) (b:N[j]?=some x):i=j:=by
 obtain ⟨h1,e1⟩:=List.getElem?_eq_some_iff.mp a
 obtain ⟨h2,e2⟩:=List.getElem?_eq_some_iff.mp b
 exact (List.getElem_inj hN).mp (e1.trans e2.symm)
theorem nO {M:Model} {A:Around} {E:Value->Shared->Prop} {i:Nat} {x:Str} {Q:Unit->Shared->Prop} (I:Inv X pins U H s) (hN:X.N.Nodup) (hi:X.N[i]?=some x) (hx:Loc X.env.scope x) (r:RelV v u) (h:∀ s',Inv X pins (U.set i (some v)) H s'->(∃ a,Heap.SameBut a s.heap s'.heap/\(a=X.env.locals∨X.env.cells.lookup x=some a))->Q () s') (hf:X.fn x=true∨X.env.scope.names.lookup x=some .local:=by first|exact .inl rfl|exact .inr rfl|assumption):wpAny M A (storeName X.env x u) Q E s:=by
 obtain ⟨m,hn,hl⟩:=id I.loc
 have N9:(X.env.scope.kind == .class || (X.env.scope.kind == .module && X.env.locals != X.env.globals))=false:=by rw [I.ok.kind];rfl
 have Vv:i<U.length:=by rw [I.len];exact (List.getElem?_eq_some_iff.mp hi).1
 have BX:=I.BX
 have tracked:∀ {a:Addr} {h':Heap},(∃ o,s.heap.get? a=some o/\H a=none)->Heap.SameBut a s.heap h'->jc X.prog X.w H h':=λ {a h'} ha hs b ob e=>by
   obtain ⟨_,_,gB⟩:=ha
   refine (I.cg b ob e).rM (λ c w' hc q=>(hs.2 c ?_).trans q) (λ _ q=>q) λ _ _ q=>q
   rintro rfl
   rcases hc with rfl|hc
   . rw [gB] at e;cases e
   . rw [gB] at hc;cases hc
 rcases hx with hk|hk
 .
  refine wpAny_storeName_local hk hn (λ h' RB hs=>?_) N9
  obtain ⟨oL,_,_,WT,_⟩:=id hn
  refine h _ ⟨I.ok,I.os,I.bare,⟨λ b o e n hb hx=>?_,λ b o e n hb hx=>?_,I.base.free,λ b o e hx=>?_,I.base.pk,I.base.oM,I.base.qi⟩,⟨_,RB,λ j y v' e1 e2 e3=>?_⟩,λ y c e=>?_,I.free,I.iW,λ p hp=>?_,tracked ⟨oL,WT,I.free⟩ hs,by simpa using I.len⟩ ⟨_,hs,.inl rfl⟩
  . exact (hs.2 b (aaA (aai (aad e) I.ok.above))).trans (I.base.keep b o e n hb hx)
  . obtain ⟨sl,e1⟩:=I.base.slot b o e n hb hx
    exact ⟨sl,(hs.2 b (aaA (aai (aad e) I.ok.above))).trans e1⟩
  . obtain ⟨o',e1⟩:=I.base.there b o e hx
    exact ⟨o',(hs.2 b (aaA (aai (aad e) I.ok.above))).trans e1⟩
  .
   by_cases hj:j=i
   . subst hj
     rw [hi] at e1;cases e1
     rw [abf Vv] at e2
     cases e2
     exact ⟨u,r,.inl ⟨hk,by simp⟩⟩
   .
    rw [abo (acb hj)] at e2
    obtain ⟨u',r',q⟩:=hl j y v' e1 e2 e3
    refine ⟨u',r',?_⟩
    rcases q with ⟨k,e⟩|⟨k,c,e,z⟩
    . refine .inl ⟨k,?_⟩
      have:y≠x:=λ e=>hj (qS hN e1 (e ▸ hi))
      simp [this,e]
    . exact .inr ⟨k,c,e,z.sameBut hs (BX y c e)⟩
  . obtain ⟨w',z⟩:=I.cell y c e
    exact ⟨w',z.sameBut hs (BX y c e)⟩
  . obtain ⟨e,n,ne,nf,d⟩:=I.pin p hp
    exact ⟨(hs.2 p.1 ne).trans e,n,ne,nf,d⟩
 .
  have LC:X.fn x=true:=by
    rcases hf with z|z
    . exact z
    . rw [z] at hk;cases hk
  obtain ⟨c,hc⟩:=I.ok.has x (.inl hk)
  obtain ⟨w',z⟩:=I.cell x c hc
  refine wpAny_storeName_cell I.ok.kind hk hc z (λ h' ss hs=>?_)
  obtain ⟨oc,UD,Pm⟩:=id z
  refine h { s with heap:=h' } ⟨I.ok,I.os,I.bare,⟨λ b o e n hb hx=>?_,λ b o e n hb hx=>?_,I.base.free,λ b o e hx=>?_,I.base.pk,I.base.oM,I.base.qi⟩,⟨m,hn.sameBut hs (acb (BX x c hc)),λ j y v' e1 e2 e3=>?_⟩,λ y c' e=>?_,I.free,I.iW,λ p hp=>?_,tracked ⟨oc,UD,I.iW x c hc⟩ hs,by simpa using I.len⟩ ⟨c,hs,.inr hc⟩
  . exact (hs.2 b (aaA (aai (aad e) (I.ok.F3 x c LC hc)))).trans (I.base.keep b o e n hb hx)
  . obtain ⟨sl,e1⟩:=I.base.slot b o e n hb hx
    exact ⟨sl,(hs.2 b (aaA (aai (aad e) (I.ok.F3 x c LC hc)))).trans e1⟩
  . obtain ⟨o',e1⟩:=I.base.there b o e hx
    exact ⟨o',(hs.2 b (aaA (aai (aad e) (I.ok.F3 x c LC hc)))).trans e1⟩
  .
   by_cases hj:j=i
   . subst hj
     rw [hi] at e1;cases e1
     rw [abf Vv] at e2
     cases e2
     exact ⟨u,r,.inr ⟨.inl hk,c,hc,ss⟩⟩
   .
    rw [abo (acb hj)] at e2
    obtain ⟨u',r',q⟩:=hl j y v' e1 e2 e3
    refine ⟨u',r',?_⟩
    rcases q with q|⟨k,c',e,z'⟩
    . exact .inl q
    . refine .inr ⟨k,c',e,z'.sameBut hs ?_⟩
      rintro rfl
      exact hj (qS hN e1 (I.ok.inj _ _ _ e hc ▸ hi))
  . by_cases V6:c'=c
    . subst V6;exact ⟨_,ss⟩
    . obtain ⟨w2,z2⟩:=I.cell y c' e
      exact ⟨w2,z2.sameBut hs V6⟩
  .
   obtain ⟨e,n,ne,nf,d⟩:=I.pin p hp
   refine ⟨(hs.2 p.1 ?_).trans e,n,ne,nf,d⟩
   intro q
   rw [q,UD] at e
   have q':oc=p.2:=aan e
   exact d w' (by rw [← q'];exact Pm)
theorem pX {M:Model} {A:Around} {E:Value->Shared->Prop} {i:Nat} {x:Str} {Q:Unit->Shared->Prop} (I:Inv X pins U H s) (hN:X.N.Nodup) (hi:X.N[i]?=some x) (hx:Loc X.env.scope x) (r:RelV v u) (h:∀ s',Inv X pins (U.set i (some v)) H s'->Q () s') (hf:X.fn x=true∨X.env.scope.names.lookup x=some .local:=by first|exact .inl rfl|exact .inr rfl|assumption):wpAny M A (storeName X.env x u) Q E s :=
 nO I hN hi hx r (λ s' I' _=>h s' I') hf
theorem Inv.Ga (I:Inv X pins U H s) (ho:s'.os=s.os) (u:Un (vk X.stack) ch H H' s.heap s'.heap) (cg:jc X.prog X.w H' s'.heap) (hg:AllBare s'.gens) (rj:∀ b∈ch,(b∈X.ex∨X.s₀.heap.objs.size<=b)/\b≠X.env.locals/\(∀ x c,X.env.cells.lookup x=some c->c≠b)/\∀ p∈X.pn++pins,p.1≠b):Inv X pins U H' s':=by
 obtain ⟨h',g',d',t',o'⟩:=s'
 have e:o'=s.os:=ho
 subst e
 exact I.call (g':=g') (t':=t') (d':=d') u cg hg rj
end
abbrev XK:=Value->Option Addr->Hp->Prop
abbrev St:=List (Option V)
abbrev VK:=V->Hp->Prop
abbrev TE:=St->Hp->VK->Prop
abbrev TT:=St->Hp->(Bool->Hp->Prop)->Prop
abbrev TA:=St->Hp->(List V->Hp->Prop)->Prop
structure Ends where
 nx:St->Hp->Prop
 rt:VK
 bk:St->Hp->Prop:=λ _ _=>False
 ct:St->Hp->Prop:=λ _ _=>False
abbrev TS:=Ends->St->Hp->Prop
inductive EP (X:Cx) (pins:List (Addr×Obj)) (U:St) (Q:VK) (u:Value) (s':Shared):Prop
 | mk (v:V) (H':Hp) (_:Inv X pins U H' s') (_:RelV v u) (_:Q v H')
def TP (X:Cx) (pins:List (Addr×Obj)) (U:St) (Q:Bool->Hp->Prop) (b:Bool) (s':Shared):Prop:=∃ H',Inv X pins U H' s'/\Q b H'
inductive AP (X:Cx) (pins:List (Addr×Obj)) (U:St) (Q:List V->Hp->Prop) (us:List Value) (s':Shared):Prop
 | mk (vs:List V) (H':Hp) (_:Inv X pins U H' s') (_:Vals vs us) (_:Q vs H')
def SP (X:Cx) (pins:List (Addr×Obj)) (D:Ends) (f:Flow) (s':Shared):Prop :=
 match f with
 | .next=>∃ σ' H',Inv X pins σ' H' s'/\D.nx σ' H'
 | .brk=>∃ σ' H',Inv X pins σ' H' s'/\D.bk σ' H'
 | .cont=>∃ σ' H',Inv X pins σ' H' s'/\D.ct σ' H'
 | .ret u=>∃ v σ' H',Inv X pins σ' H' s'/\RelV v u/\D.rt v H'
def PE (X:Cx) (e:Expr) (t:TE):Prop :=
 ∀ (pins:List (Addr×Obj)) (s:Shared) (U:St) (H:Hp) (Q:VK),Inv X pins U H s->t U H Q->wpAny (model X.prog X.w) X.A (eval e X.env) (EP X pins U Q) X.xe s
def PT (X:Cx) (e:Expr) (t:TT):Prop :=
 ∀ (pins:List (Addr×Obj)) (s:Shared) (U:St) (H:Hp) (Q:Bool->Hp->Prop),Inv X pins U H s->t U H Q->wpAny (model X.prog X.w) X.A (isTrue e X.env (eval e X.env)) (TP X pins U Q) X.xe s
def PW (X:Cx) (e:Expr) (t:TT):Prop :=
 ∀ (whole:Sem Value) (pins:List (Addr×Obj)) (s:Shared) (U:St) (H:Hp) (Q:Bool->Hp->Prop),Inv X pins U H s->t U H Q->wpAny (model X.prog X.w) X.A (isTrue e X.env whole) (TP X pins U Q) X.xe s
theorem PW.pt {e:Expr} {t:TT} (h:PW X e t):PT X e t:=h _
def PA (X:Cx) (es:List Expr) (t:TA):Prop :=
 ∀ (pos:Pos) (pins:List (Addr×Obj)) (s:Shared) (U:St) (H:Hp) (Q:List V->Hp->Prop),Inv X pins U H s->t U H Q->wpAny (model X.prog X.w) X.A (spliced (backTo pos (starEach es X.env))) (AP X pins U Q) X.xe s
def PS (X:Cx) (st:Stmt) (t:TS):Prop :=
 ∀ (pins:List (Addr×Obj)) (s:Shared) (U:St) (H:Hp) (D:Ends),Inv X pins U H s->t D U H->wpAny (model X.prog X.w) X.A (exec st X.env) (SP X pins D) X.xe s
def ny (X:Cx) (st:List Stmt) (t:TS):Prop :=
 ∀ (pins:List (Addr×Obj)) (s:Shared) (U:St) (H:Hp) (D:Ends),Inv X pins U H s->t D U H->wpAny (model X.prog X.w) X.A (execs st X.env) (SP X pins D) X.xe s
theorem ca {α:Type} {t:Sem α} {Q Q':α->Shared->Prop} {M:Model} {A:Around} {E:Value->Shared->Prop} {s:Shared} (h:wpAny M A t Q E s) (hQ:∀ a s,Q a s->Q' a s):wpAny M A t Q' E s:=abd h hQ λ _ _ x=>x
section
variable {X:Cx}
inductive cN (i:Nat) (U:St) (H:Hp) (Q:VK):Prop
 | mk (v:_) (_:U[i]?=some (some v)) (_:Q v H)
def tC (v:V):TE:=λ _ H Q=>Q v H
theorem BH {i:Nat} {x:Str} {pos:Pos} (hN:X.N[i]?=some x) (hv:G9 X.env.scope x) (hd:(x == ("__debug__" : Str))=false:=by decide) (qV:(x == ("__classdict__" : Str))=false:=by decide):PE X (.Name x pos) (cN i):=by
 intro pins s U H Q I h
 obtain ⟨v,e,h⟩:=h
 obtain ⟨m,hn,hl⟩:=I.loc
 obtain ⟨u,r,l⟩:=hl i x v hN e hv
 have fin:EP X pins U Q u s:=⟨v,H,I,r,h⟩
 rcases l with ⟨hk,hm⟩|⟨hk,c,hc,e7⟩
 . exact wpAny_Name (wpAny_loadName_local I.ok.kind hk hn hm fin) hd
 . rcases hk with hk|hk
   . exact wpAny_Name (wpAny_loadName_cell I.ok.kind hk hc e7 fin) hd
   . exact wpAny_Name (wpAny_loadName_free I.ok.kind hk hc e7 fin qV) hd
theorem ah {i j pos}:PE X (.Constant (.int i) j pos) (tC (.int i)):=λ _ _ _ H _ I h=>wpAny_Constant_int ⟨.int i,H,I.tok _,⟨_,rfl⟩,h⟩
theorem gG {b j pos}:PE X (.Constant (.bool b) j pos) (tC (.bl b)):=λ _ _ _ H _ I h=>Constant_bool ⟨.bl b,H,I,rfl,h⟩
theorem oG {j pos}:PE X (.Constant .none j pos) (tC .cD):=λ _ _ _ H _ I h=>Constant_none ⟨.cD,H,I,rfl,h⟩
theorem bw {x j pos}:PE X (.Constant (.str x) j pos) (tC (.str x)):=λ _ _ _ H _ I h=>Calls.Constant_str ⟨.str x,H,I.tok _,⟨_,rfl⟩,h⟩
def Gl (X:Cx) (x:Str):Prop:=X.env.kindOf x=some .globalImplicit
theorem kS {E:Value->Shared->Prop} {s:Shared} {x:Str} {pos:Pos} {Q:Value->Shared->Prop} (I:Inv X pins U H s) (hg:Gl X x) (hm:X.mg x=some u) (h:Q u s) (hd:(x == ("__debug__" : Str))=false:=by decide):wpAny (model X.prog X.w) X.A (eval (.Name x pos) X.env) Q E s :=
 ac1 I.ok.kind hg (Calls.loadGlobal_global (by rw [I.ok.glob];exact I.mod.glob.keeps I.bk) hm h) hd
theorem ip {E:Value->Shared->Prop} {s:Shared} {x:Str} {pos:Pos} {Q:Value->Shared->Prop} (I:Inv X pins U H s) (hg:Gl X x) (hm:X.mg x=none) (hv:bootBuiltins x=some u) (h:Q u s) (hn:x ≠ "__name__":=by decide) (hd:(x == ("__debug__" : Str))=false:=by decide):wpAny (model X.prog X.w) X.A (eval (.Name x pos) X.env) Q E s:=by
 obtain ⟨mb,h1,h2⟩:=I.mod.blt
 exact ac1 I.ok.kind hg (Calls.loadGlobal_builtin (by rw [I.ok.glob];exact I.mod.glob.keeps I.bk) hm (by rw [I.ok.blt];exact h1.keeps I.bk) ((h2 x hn).trans hv) h) hd
theorem cY {x:Str} {pos:Pos} (hg:Gl X x) (hm:X.mg x=some u) (r:RelV v u) (hd:(x == ("__debug__" : Str))=false:=by decide):PE X (.Name x pos) (tC v) :=
 λ _ _ _ H _ I h=>kS I hg hm ⟨v,H,I,r,h⟩ hd
theorem jA {x:Str} {pos:Pos} (hg:Gl X x) (hm:X.mg x=none) (hv:bootBuiltins x=some u) (r:RelV v u) (hn:x ≠ "__name__":=by decide) (hd:(x == ("__debug__" : Str))=false:=by decide):PE X (.Name x pos) (tC v) :=
 λ _ _ _ H _ I h=>ip I hg hm hv ⟨v,H,I,r,h⟩ hn hd
variable {a b:Expr} {ta tb:TE} {pos:Pos}
def tB (t:TE):TT:=λ U H Q=>t U H λ x H1=>∃ c,x = .bl c/\Q c H1
theorem bJ {e:Expr} {t:TE} (h:PE X e t) (he:∀ whole,isTrue e X.env whole=(do let v ← whole;standAt e.pos;holding [v] (truthy v)):=by intro _;rfl):PT X e (tB t):=by
 intro pins s U H Q I hw
 refine isTrue_plain (ca (h pins s U H _ I hw) λ v s1 ⟨x,H1,I1,r1,q1⟩=>?_) (he _)
 obtain ⟨d,rfl,q⟩:=q1
 cases r1
 exact abt ⟨H1,I1,q⟩
variable {tA Hj:TT} {rest:List Expr}
def HY (t u:TT):TT:=λ U H Q=>t U H λ c H1=>if c=true then u U H1 Q else Q false H1
def Go (t u:TT):TT:=λ U H Q=>t U H λ c H1=>if c=true then Q true H1 else u U H1 Q
def su (t:TT):TT:=λ U H Q=>t U H λ c H1=>Q (!c) H1
theorem kQ (ha:PT X a tA):PW X (.BoolOp .And [a] pos) tA:=by
 intro wh pins s U H Q I h
 refine isTrue_and (ca (ha pins s U H Q I h) λ c s1 e=>?_)
 cases c with
 | true=>exact isTrue_and_nil e
 | false=>exact e
theorem fD (ha:PT X a tA):PW X (.BoolOp .Or [a] pos) tA:=by
 intro wh pins s U H Q I h
 refine isTrue_or (ca (ha pins s U H Q I h) λ c s1 e=>?_)
 cases c with
 | false=>exact isTrue_or_nil e
 | true=>exact e
theorem nY (ha:PT X a tA) (hb:PW X (.BoolOp .And (b::rest) pos) Hj):PW X (.BoolOp .And (a::b::rest) pos) (HY tA Hj):=by
 intro wh pins s U H Q I h
 refine isTrue_and (ca (ha pins s U H _ I h) λ c s1 ⟨H1,I1,q1⟩=>?_)
 cases c with
 | true=>exact hb wh pins s1 U H1 Q I1 q1
 | false=>exact ⟨H1,I1,q1⟩
theorem hU (ha:PT X a tA) (hb:PW X (.BoolOp .Or (b::rest) pos) Hj):PW X (.BoolOp .Or (a::b::rest) pos) (Go tA Hj):=by
 intro wh pins s U H Q I h
 refine isTrue_or (ca (ha pins s U H _ I h) λ c s1 ⟨H1,I1,q1⟩=>?_)
 cases c with
 | true=>exact ⟨H1,I1,q1⟩
 | false=>exact hb wh pins s1 U H1 Q I1 q1
theorem cn (ha:PT X a tA):PT X (.UnaryOp .Not a pos) (su tA):=by
 intro pins s U H Q I h
 exact isTrue_not (ha pins s U H (λ c H1=>Q (!c) H1) I h)
def D8 (ta tb:TE):TE:=λ U H Q=>ta U H λ x H1=>∃ c,x = .bl c/\if c=true then tb U H1 Q else Q (.bl false) H1
theorem Cj {op} {t:TE} (h:PE X a t):PE X (.BoolOp op [a] pos) t:=λ pins s U H Q I hw=>BoolOp_one (h pins s U H Q I hw)
theorem BC (ha:PE X a ta) (hb:PE X (.BoolOp .And (b::rest) pos) tb):PE X (.BoolOp .And (a::b::rest) pos) (D8 ta tb):=by
 intro pins s U H Q I h
 refine BoolOp_and (ca (ha pins s U H _ I h) λ v s1 ⟨x,H1,I1,r1,q1⟩=>?_)
 obtain ⟨c,rfl,q1⟩:=q1
 cases r1
 refine abt ?_
 cases c with
 | true=>exact hb pins s1 U H1 Q I1 q1
 | false=>exact ⟨.bl false,H1,I1,rfl,q1⟩
def Vm (t:TT) (ta tb:TE):TE:=λ U H Q=>t U H λ c H1=>if c=true then ta U H1 Q else tb U H1 Q
theorem md {c:Expr} (hc:PT X c tA) (ha:PE X a ta) (hb:PE X b tb):PE X (.IfExp c a b pos) (Vm tA ta tb):=by
 intro pins s U H Q I h
 refine wpAny_IfExp (ca (hc pins s U H _ I h) λ d s1 ⟨H1,I1,q1⟩=>?_)
 cases d with
 | true=>exact ha pins s1 U H1 Q I1 q1
 | false=>exact hb pins s1 U H1 Q I1 q1
end
def aN (K:W.Frag) (H:Hp) (a:Addr) (xs:List V):Prop :=
 Rd H a (.lst xs) ∨
   ∃ (o:Obj) (aZ:Array Value) (n:Nat),K.lookup a=some o/\o.cls = .type "list"/\o.dict=none/\o.data = .seq aZ n/\aZ.size<=sizeLine/\Vals xs aZ.toList
def cE (K:W.Frag) (H:Hp) (a:Addr) (xs:List V):Prop :=
 Rd H a (.tup xs) ∨
   ∃ (o:Obj) (aZ:Array Value) (n:Nat),K.lookup a=some o/\o.cls = .type "tuple"/\o.data = .seq aZ n/\aZ.size<=sizeLine/\Vals xs aZ.toList
def Td:Value->Option V
 | .none=>some .cD
 | .bool b=>some (.bl b)
 | .int i _=>some (.int i)
 | .str x _=>some (.str x)
 | .bytes b _=>some (.uy b)
 | .float b _=>some (.AK b)
 | .ref a=>some (.ref a)
 | .type n=>some (.ty n)
 | _=>none
theorem RelV.abs {x:V} (r:RelV x u):Td u=some x:=by
 cases x with
 | cD=>cases r;rfl
 | bl _=>cases r;rfl
 | int _=>obtain ⟨t,rfl⟩:=r;rfl
 | str _=>obtain ⟨t,rfl⟩:=r;rfl
 | uy _=>obtain ⟨t,rfl⟩:=r;rfl
 | AK _=>obtain ⟨t,rfl⟩:=r;rfl
 | ref _=>cases r;rfl
 | ty _=>cases r;rfl
theorem RelV.inj {x y:V} (r:RelV x u) (q:RelV y u):x=y:=aan (r.abs.symm.trans q.abs)
theorem Vals.inj:∀ {xs ys:List V} {us:List Value},Vals xs us->Vals ys us->xs=ys
 | _,_,_,.nil,.nil=>rfl
 | _,_,_,.cons r t,.cons r' t'=>by rw [r.inj r',Vals.inj t t']
section
variable {X:Cx} {pins:List (Addr×Obj)} {U:St} {H:Hp} {s:Shared} {a:Addr} {xs ys:List V}
theorem aN.of {K:W.Frag} (h:H a=some (.lst xs)):aN K H a xs:=.inl (.inl h)
theorem cE.of {K:W.Frag} (h:H a=some (.tup xs)):cE K H a xs:=.inl (.inl h)
theorem Inv.list (I:Inv X pins U H s) (h:aN X.K H a xs):∃ aZ:List Value,Vals xs aZ/\PlainL s.heap a aZ.toArray/\xs.length<=sizeLine:=by
 rcases h with h|⟨o,aZ,n,hk,hc,hd,hs,hz,r⟩
 . obtain ⟨z,aZ,n,r,e⟩:=h.ok I.cg
   exact ⟨aZ,r,⟨_,n,e,rfl,rfl,rfl⟩,z⟩
 .
  refine ⟨aZ.toList,r,⟨o,n,I.jt a o hk,hc,hd,by simpa using hs⟩,?_⟩
  have e:=r.length
  simp only [aba] at e
  lia
theorem Inv.tuple (I:Inv X pins U H s) (h:cE X.K H a xs):∃ aZ:List Value,Vals xs aZ/\IsTup s.heap a aZ.toArray/\xs.length<=sizeLine:=by
 rcases h with h|⟨o,aZ,n,hk,hc,hs,hz,r⟩
 . obtain ⟨z,aZ,r,p⟩:=h.ok I.cg
   exact ⟨aZ,r,p,z⟩
 .
  refine ⟨aZ.toList,r,⟨o,I.jt a o hk,hc,n,by simpa using hs⟩,?_⟩
  have e:=r.length
  simp only [aba] at e
  lia
theorem Inv.jF (I:Inv X pins U H s) (h:aN X.K H a xs) (h':aN X.K H a ys):xs=ys:=by
 obtain ⟨aZ,r,⟨o,n,e,_,_,d⟩,_⟩:=I.list h
 obtain ⟨its',r',⟨o',n',e',_,_,d'⟩,_⟩:=I.list h'
 rw [e] at e';cases e'
 rw [d] at d'
 injection d' with d1 _
 have:aZ=its':=by simpa using aaV Array.toList d1
 subst this
 exact r.inj r'
end
abbrev Cx.mC (X:Cx) (E:Value->Shared->Prop):Cx:={ X with xe:=E }
abbrev Cx.xW (X:Cx):Cx:=X.mC λ _ _=>False
theorem Cx.Ok.mC (ok:X.Ok) (E:Value->Shared->Prop):(X.mC E).Ok :=
 ⟨ok.mod,ok.kind,ok.glob,ok.blt,ok.above,ok.inj,ok.has,ok.F3,ok.hd,ok.frames,ok.Hi,ok.Uj,ok.bs,ok.AV,ok.wD,ok.yH,ok.kz,ok.Bz⟩
theorem Cx.Ok.hV {E:Value->Shared->Prop} (ok:(X.mC E).Ok):X.Ok :=
 ⟨ok.mod,ok.kind,ok.glob,ok.blt,ok.above,ok.inj,ok.has,ok.F3,ok.hd,ok.frames,ok.Hi,ok.Uj,ok.bs,ok.AV,ok.wD,ok.yH,ok.kz,ok.Bz⟩
section
variable {X:Cx} {pins:List (Addr×Obj)} {U:St} {H:Hp} {s:Shared} {E:Value->Shared->Prop}
theorem Inv.mC (I:Inv X pins U H s) (E:Value->Shared->Prop):Inv (X.mC E) pins U H s:=⟨I.ok.mC E,I.os,I.bare,I.base,I.loc,I.cell,I.free,I.iW,I.pin,I.cg,I.len⟩
theorem Inv.hV (I:Inv (X.mC E) pins U H s):Inv X pins U H s:=⟨I.ok.hV,I.os,I.bare,I.base,I.loc,I.cell,I.free,I.iW,I.pin,I.cg,I.len⟩
theorem SP.hV {D:Ends} {f:Flow} (h:SP (X.mC E) pins D f s'):SP X pins D f s':=by
 cases f with
 | next=>obtain ⟨σ',H',I,q⟩:=h;exact ⟨σ',H',I.hV,q⟩
 | brk=>obtain ⟨σ',H',I,q⟩:=h;exact ⟨σ',H',I.hV,q⟩
 | cont=>obtain ⟨σ',H',I,q⟩:=h;exact ⟨σ',H',I.hV,q⟩
 | ret u=>obtain ⟨v,σ',H',I,r,q⟩:=h;exact ⟨v,σ',H',I.hV,r,q⟩
theorem ny.xW {st:List Stmt} {t:TS} (h:ny X.xW st t):ny X st t:=λ pins s U H D I hw =>
 abd (h pins s U H D (I.mC _) hw) (λ _ _ q=>q.hV) λ _ _ z=>False.elim z
end
section
variable {X:Cx} {st:Stmt} {rest:List Stmt} {t u:TS} {e:Expr} {te:TE} {pos:Pos}
def kx:TS:=λ D U H=>D.nx U H
def aB (t u:TS):TS:=λ D U H=>t { D with nx:=u D } U H
theorem aD:ny X [] kx:=λ _ _ U H _ I h=>ab3 ⟨U,H,I,h⟩
theorem ac (h1:PS X st t) (h2:ny X rest u):ny X (st::rest) (aB t u):=by
 intro pins s U H D I h
 refine wpAny_execs_cons (ca (h1 pins s U H { D with nx:=u D } I h) λ f s1 q=>?_)
 cases f with
 | next =>
   obtain ⟨σ',H',I',q⟩:=q
   exact h2 pins s1 σ' H' D I' q
 | ret v=>exact q
 | brk=>exact q
 | cont=>exact q
theorem ak (h1:PS X st t):ny X [st] t:=by
 intro pins s U H D I h
 refine wpAny_execs_cons (ca (h1 pins s U H D I h) λ f s1 q=>?_)
 cases f with
 | next=>exact ab3 q
 | ret v=>exact q
 | brk=>exact q
 | cont=>exact q
theorem Inv.quiet {s:Shared} (I:Inv X pins U H s):interactive X.env=false:=by simp [interactive,I.ok.kind]
def xi (te:TE):TS:=λ D U H=>te U H λ _ H1=>D.nx U H1
theorem aQ (he:PE X e te) (hs:swapsWith e none pos.line X.env=pure false:=by rfl):PS X (.Expr e pos) (xi te):=by
 intro pins s U H D I h
 exact wpAny_Expr_any (ca (he pins s U H _ I h) λ v s1 ⟨x,H1,I1,r1,q1⟩=>⟨U,H1,I1,q1⟩) I.quiet hs
def oq (te:TE):TS:=λ D U H=>te U H D.rt
theorem aH (he:PE X e te):PS X (.Return (some e) pos) (oq te):=by
 intro pins s U H D I h
 exact wpAny_Return_some (ca (he pins s U H _ I h) λ v s1 ⟨x,H1,I1,r1,q1⟩=>⟨x,U,H1,I1,r1,q1⟩)
def Gz:TS:=λ D _ H=>D.rt .cD H
theorem yx:PS X (.Return none pos) Gz:=λ _ _ U H _ I h=>wpAny_Return_none ⟨.cD,U,H,I,rfl,h⟩
def pE (c:TT) (t u:TS):TS:=λ D U H=>c U H λ b H1=>if b=true then t D U H1 else u D U H1
theorem aR {c:Expr} {a b:List Stmt} {tc:TT} (hc:PT X c tc) (ha:ny X a t) (hb:ny X b u):PS X (.If c a b pos) (pE tc t u):=by
 intro pins s U H D I h
 refine wpAny_If (ca (hc pins s U H _ I h) λ d s1 ⟨H1,I1,q1⟩=>?_)
 cases d with
 | true=>exact ha pins s1 U H1 D I1 q1
 | false=>exact hb pins s1 U H1 D I1 q1
def BB:TS:=λ _ _ _=>False
theorem bh:PS X st BB:=λ _ _ _ _ _ _ h=>h.elim
end
abbrev TG:=V->St->Hp->(St->Hp->Prop)->Prop
abbrev ya:=List V->St->Hp->(St->Hp->Prop)->Prop
def PG (X:Cx) (target:Expr) (t:TG):Prop :=
 ∀ (pins:List (Addr×Obj)) (s:Shared) (U:St) (H:Hp) (v:V) (u:Value) (Q:St->Hp->Prop),Inv X pins U H s->RelV v u->t v U H Q ->
   wpAny (model X.prog X.w) X.A (assign target X.env u) (λ _ s'=>∃ σ' H',Inv X pins σ' H' s'/\Q σ' H') X.xe s
def AQ (X:Cx) (ts:List Expr) (t:ya):Prop :=
 ∀ (pins:List (Addr×Obj)) (s:Shared) (U:St) (H:Hp) (vs:List V) (us:List Value) (Q:St->Hp->Prop),Inv X pins U H s->Vals vs us->t vs U H Q ->
   wpAny (model X.prog X.w) X.A (assignInOrder ((assignEach ts X.env).map (·.2)) us) (λ _ s'=>∃ σ' H',Inv X pins σ' H' s'/\Q σ' H') X.xe s
abbrev Cd:=V->V->V->Hp->(Hp->Prop)->Prop
def FJ (X:Cx) (t:Cd):Prop :=
 ∀ (pins:List (Addr×Obj)) (s:Shared) (U:St) (H:Hp) (o i v:V) (ov iv u:Value) (Q:Hp->Prop),Inv X pins U H s->RelV o ov->RelV i iv->RelV v u->t o i v H Q ->
   wpAny (model X.prog X.w) X.A (setItem ov iv u) (λ _ s'=>∃ H',Inv X pins U H' s'/\Q H') X.xe s
section
variable {X:Cx} {pos:Pos}
def g6 (i:Nat):TG:=λ v U H Q=>Q (U.set i (some v)) H
theorem ax {i:Nat} {x:Str} (hN:X.N.Nodup) (hi:X.N[i]?=some x) (hx:Loc X.env.scope x) (hf:X.fn x=true∨X.env.scope.names.lookup x=some .local:=by first|exact .inl rfl|exact .inr rfl|assumption):PG X (.Name x pos) (g6 i):=by
 intro pins s U H v u Q I r h
 exact wpAny_assign_Name (pX I hN hi hx r (λ s' I'=>⟨_,H,I',h⟩) hf)
def RT:ya:=λ vs U H Q=>vs=[]/\Q U H
inductive FG (t:TG) (u:ya) (vs:List V) (U:St) (H:Hp) (Q:(St->Hp->Prop)):Prop
 | mk (v r:_) (_:vs=v::r) (_:t v U H λ σ' H'=>u r σ' H' Q)
theorem dZ:AQ X [] RT:=by
 intro pins s U H vs us Q I r h
 obtain ⟨e,h⟩:=h
 subst e
 cases r
 exact assignInOrder_nil ⟨U,H,I,h⟩
theorem aJ {e:Expr} {t:TG} {u:ya} (h1:PG X e t) (h2:AQ X es u) (hs:(assignEach (e::es) X.env).map (·.2)=assign e X.env::(assignEach es X.env).map (·.2):=by rfl):AQ X (e::es) (FG t u):=by
 intro pins s U H vs us Q I r h
 obtain ⟨v,vr,e1,h⟩:=h
 subst e1
 cases r with
 | cons r rr =>
   rw [hs]
   refine assignInOrder_cons (ca (h1 pins s U H _ _ _ I r h) λ _ s1 ⟨σ1,H1,I1,q1⟩=>?_)
   exact h2 pins s1 σ1 H1 _ _ Q I1 rr q1
inductive Fw (K:W.Frag) (n:Nat) (t:ya) (v:V) (U:St) (H:Hp) (Q:(St->Hp->Prop)):Prop
 | mk (a xs:_) (_:v = .ref a) (_:cE K H a xs) (_:xs.length=n) (_:t xs U H Q)
theorem CO {k:Nat} {t:ya} {n:Nat} (hc:X.calm=true) (h:AQ X es t) (hn:(assignEach es X.env).length=n:=by rfl) (oJ:(assignEach es X.env).findIdx? (·.1)=none:=by rfl):PG X (.Tuple es k pos) (Fw X.K n t):=by
 intro pins s U H v u Q I r hw
 obtain ⟨a,xs,e1,hq,hl,hw⟩:=hw
 subst e1
 cases r
 obtain ⟨aZ,rv,ht,hz⟩:=I.tuple hq
 refine assign_Tuple_tuple (I.ok.hd hc) ht (by simp [hn,← hl,rv.length]) oJ λ h' hx=>?_
 have I1:Inv X pins U H { s with heap:=h' }:=I.kept (t':=s.toks) λ b o e=>hx b o (aaA (aad e)) e
 exact h pins _ U H xs _ Q I1 (by simpa using rv) hw
def ML (to ti:TE) (t:Cd):TG:=λ v U H Q=>to U H λ o H1=>ti U H1 λ i H2=>t o i v H2 λ H3=>Q U H3
theorem wO {o i:Expr} {to ti:TE} {t:Cd} (ho:PE X o to) (hi:PE X i ti) (hs:FJ X t) (ha:∀ v,assign (.Subscript o i pos) X.env v=(do
     let ov ← holding [v] (eval o X.env)
     let iv ← holding [v,ov] (eval i X.env)
     standAt pos
     holding [v,ov,iv] (setItem ov iv v)
     release [v,ov,iv] []):=by intro _;rfl):PG X (.Subscript o i pos) (ML to ti t):=by
 intro pins s U H v u Q I r h
 rw [ha]
 refine aas (abu (ca (ho pins s U H _ I h) λ ov s1 ⟨x,H1,I1,r1,q1⟩=>?_))
 refine aas (abu (ca (hi pins s1 U H1 _ I1 q1) λ iv s2 ⟨y,H2,I2,r2,q2⟩=>?_))
 refine aas (acp (aas (abu (ca (hs pins s2 U H2 x y v ov iv u _ I2 r1 r2 r q2) λ _ s3 ⟨H3,I3,q3⟩=>?_))))
 exact wpAny_release ⟨U,H3,I3,q3⟩
def qx (te:TE) (g:TG):TS:=λ D U H=>te U H λ x H1=>g x U H1 D.nx
theorem fL {e:Expr} {g:TG} (he:PE X e te) (hg:PG X tg g) (hs:swapsWithSole [tg] e pos.line X.env=pure false:=by rfl) (hw:swappedStores [tg] e X.env=pure none:=by rfl) (h1:(assignEach [tg] X.env).map (·.2)=[assign tg X.env]:=by rfl):PS X (.Assign [tg] e pos) (qx te g):=by
 intro pins s U H D I h
 refine wpAny_Assign_stores (ca (he pins s U H _ I h) λ v s1 ⟨x,H1,I1,r1,q1⟩=>?_) hs hw
 rw [h1]
 exact ca (hg pins s1 U H1 x v _ I1 r1 q1) λ _ s2 q=>q
theorem az {i:Nat} {x:Str} {e:Expr} {pos':Pos} (hN:X.N.Nodup) (hi:X.N[i]?=some x) (hx:Loc X.env.scope x) (he:PE X e te) (hs:swapsWith e (some (.Name x pos')) pos.line X.env=pure false:=by rfl) (hf:X.fn x=true∨X.env.scope.names.lookup x=some .local:=by first|exact .inl rfl|exact .inr rfl|assumption) :
   PS X (.Assign [.Name x pos'] e pos) (qx te (g6 i)):=by
 intro pins s U H D I h
 refine wpAny_Assign_Name (ca (he pins s U H _ I h) λ v s1 ⟨y,H1,I1,r1,q1⟩=>?_) hs
 exact pX I1 hN hi hx r1 (λ s2 I2=>⟨_,H1,I2,q1⟩) hf
end
section
variable {X:Cx} {pos:Pos}
def CI (c:TT) (tb:TS):TS:=λ D U H=>∃ W:Nat->St->Hp->Prop,(∃ m,W m U H)/\∀ m U H,W m U H ->
 c U H λ b H1=>if b=true then ∃ N:St->Hp->Prop,(∀ σ' H',N σ' H'->∃ m',m'<m/\W m' σ' H')/\tb { D with nx:=N,ct:=N,bk:=D.nx } U H1 else D.nx U H1
theorem pT {c:Expr} {body:List Stmt} {tc:TT} (hp:PassesOwn (model X.prog X.w) X.A X.env X.xe) (hc:PT X c tc) (hb:ny X body tb):PS X (.While c body [] pos) (CI tc tb):=by
 intro pins s U H D I h
 obtain ⟨W,⟨m0,w0⟩,turn⟩:=h
 refine wpAny_While (codeAny_whileLoop (λ n s'=>∃ σ' H',Inv X pins σ' H' s'/\W n σ' H') ?_ m0 ⟨U,H,I,w0⟩)
 rintro n s1 ⟨σ1,H1,I1,w1⟩
 refine abp hp (ca (hc pins s1 σ1 H1 _ I1 (turn n σ1 H1 w1)) λ b s2 ⟨H2,I2,q2⟩=>?_)
 cases b with
 | true =>
   obtain ⟨N,hN,q2⟩:=q2
   rw [aam rfl]
   refine abp hp (ca (hb pins s2 σ1 H2 _ I2 q2) λ f s3 q3=>?_)
   cases f with
   | next =>
     obtain ⟨σ3,H3,I3,n3⟩:=q3
     obtain ⟨m',hm,w3⟩:=hN σ3 H3 n3
     exact ⟨m',hm,σ3,H3,I3,w3⟩
   | cont =>
     obtain ⟨σ3,H3,I3,n3⟩:=q3
     obtain ⟨m',hm,w3⟩:=hN σ3 H3 n3
     exact ⟨m',hm,σ3,H3,I3,w3⟩
   | brk=>exact q3
   | ret v=>exact q3
 | false =>
   rw [aak OR]
   exact ab3 ⟨σ1,H2,I2,q2⟩
end
structure It where
 go:Nat->Hp->Prop
 wm:Nat->Hp->V->Hp->Prop
 stop:Nat->Hp->Prop
def mE (X:Cx) (pins:List (Addr×Obj)) (H:Hp) (b:Addr):Prop :=
 H b=none/\b≠X.env.locals/\b∉X.fs/\(b∈X.ex∨X.s₀.heap.objs.size<=b)/\(∀ x c,X.env.cells.lookup x=some c->c≠b)/\∀ p∈X.pn++pins,p.1≠b
theorem Inv.rW {H':Hp} {s:Shared} {b:Addr} (I:Inv X pins U H s) (hb:s.heap.objs.size<=b) (hn:H' b=none):mE X pins H' b:=by
 refine ⟨hn,acY (aai I.lt hb),I.Lu hb,.inr (aaO I.sz hb),λ x c e z=>?_,λ p hp z=>?_⟩
 . obtain ⟨v,q⟩:=I.cell x c e
   exact absurd (aai q.lt (by rw [z];exact hb)) (aby _)
 . exact absurd (aai (aad (I.pin p hp).1) (by rw [z];exact hb)) (aby _)
structure Turn (P:Program) (w:World) (K:W.Frag) (tg:Expr) (J:It) (fp:List Addr) (it:Addr) (tn:Nat->Heap->Prop):Prop where
 mem:it∈fp
 obj:∀ i h,tn i h->∀ b∈fp,∃ o,h.get? b=some o/\∀ v,o.data ≠ .cell v
 keep:∀ i h h',tn i h->(∀ b∈fp,∀ o,h.get? b=some o->h'.get? b=some o)->tn i h'
 item:∀ (X:Cx),X.prog=P->X.w=w->X.K=K->X.calm=true->∀ (i:Nat) (pins:List (Addr×Obj)) (s:Shared) (U:St) (H:Hp) (E:Value->Shared->Prop),Inv X pins U H s->(∀ b∈fp,mE X pins H b)->tn i s.heap->J.go i H ->
   wpAny (model P w) X.A (pyNext (.ref it)) (λ r s1=>∃ u,r=some u /\
     wpAny (model P w) X.A (letOwnedTupleGo tg (.ref it) u) (λ _ s2=>∃ x H',Inv X pins U H' s2/\RelV x u/\J.wm i H x H'/\tn (i+1) s2.heap/\∀ b∈fp,H' b=none) E s1) E s
 done:∀ (X:Cx),X.prog=P->X.w=w->X.K=K->X.calm=true->∀ (i:Nat) (pins:List (Addr×Obj)) (s:Shared) (U:St) (H:Hp) (E:Value->Shared->Prop),Inv X pins U H s->(∀ b∈fp,mE X pins H b)->tn i s.heap->J.stop i H ->
   wpAny (model P w) X.A (pyNext (.ref it)) (λ r s1=>r=none/\Inv X pins U H s1) E s
 self:∀ (A:Around) (i:Nat) (s:Shared) (Q:Value->Shared->Prop) (E:Value->Shared->Prop),tn i s.heap->Q (.ref it) s->wpAny (model P w) A (pyIter (.ref it)) Q E s
abbrev TI:=St->Hp->(It->Hp->Prop)->Prop
def V0 (X:Cx) (pins:List (Addr×Obj)) (U:St) (tg:Expr) (R:It->Hp->Prop) (NY:Value) (s2:Shared):Prop :=
 ∃ (it:Addr) (fp:List Addr) (tn:Nat->Heap->Prop) (J:It) (H':Hp),NY = .ref it/\Inv X pins U H' s2/\Turn X.prog X.w X.K tg J fp it tn/\tn 0 s2.heap/\(∀ b∈fp,mE X pins H' b)/\R J H'
def PI (X:Cx) (tg iter:Expr) (wi:TI):Prop :=
 ∀ (pins:List (Addr×Obj)) (s:Shared) (U:St) (H:Hp) (R:It->Hp->Prop),Inv X pins U H s->wi U H R ->
   wpAny (model X.prog X.w) X.A (eval iter X.env) (λ v s1=>wpAny (model X.prog X.w) X.A (pyIter v) (V0 X pins U tg R) X.xe s1) X.xe s
theorem xo {M:Model} {A:Around} {E:Value->Shared->Prop} {s:Shared} {o:Obj} {n:String} {vs:Array Value} {Q:Unit->Shared->Prop} (ho:s.heap.get? it=some o) (hc:o.cls = .type n) (hd:o.data = .fields vs) (hn:["enumerate","zip","dict_itemiterator","dict_reverseitemiterator","odict_iterator","itertools.zip_longest","itertools.pairwise"].contains n=false) (hQ:Q () s):wpAny M A (letOwnedTupleGo tg (.ref it) u) Q E s:=by
 unfold letOwnedTupleGo
 cases tg<;>first
   | exact aaW hQ
   | (cases u<;>first
       | exact aaW hQ
       | (refine aas (wpAny_load ho ?_)
          rw [hc,hd]
          show wpAny M A (if (["enumerate","zip","dict_itemiterator","dict_reverseitemiterator","odict_iterator","itertools.zip_longest","itertools.pairwise"].contains n && vs[0]? == some (rawInt _))=true then _ else _) Q E s
          rw [aak (by intro h;rw [hn,Bool.false_and] at h;cases h)]
          exact aaW hQ))
def wR (K:W.Frag) (a:Addr):It :=
 ⟨λ i H=>∃ xs x,aN K H a xs/\xs[i]?=some x,λ i H x H'=>H'=H/\∀ xs,aN K H a xs->xs[i]?=some x,λ i H=>∃ xs,aN K H a xs/\xs.length<=i⟩
def zV (lo:Int) (n:Nat):It:=⟨λ i _=>i<n,λ i H x H'=>H'=H/\x = .int (lo+i),λ i _=>n<=i⟩
theorem uH {P:Program} {w:World} {K:W.Frag} (a it:Addr):Turn P w K tg (wR K a) [it] it (λ i h=>h.IsListIter it a i) where
 mem:=by simp
 obj:=λ i h st b hb=>by
   have e:b=it:=by simpa using hb
   subst e
   obtain ⟨o,e,c,d⟩:=st
   exact ⟨o,e,λ v z=>by rw [d] at z;cases z⟩
 keep:=λ i h h' st k=>st.at λ o e=>k it (by simp) o e
 item:=by
   intro X hP hw hK hc i pins s U H E I hf st hg
   subst hP hw hK
   obtain ⟨xs,x,hq,hx⟩:=hg
   obtain ⟨aZ,rv,p,hz⟩:=I.list hq
   obtain ⟨u,hu,ru⟩:=rv.get hx
   obtain ⟨f0,f1,f2,f3,f4,f5⟩:=hf it (by simp)
   refine wpAny_pyNext_list_item st p.isList (x:=u) (by simpa using hu) λ h' yc sb=>?_
   have I1:Inv X pins U H { s with heap:=h' }:=I.turned (t':=s.toks) (λ b o hb e=>(sb.2 b hb).trans e) f0 f1 f3 f4 f5
   obtain ⟨o,e,c,d⟩:=id yc
   exact ⟨u,rfl,xo (s:={ s with heap:=h' }) e c d (by decide) ⟨x,H,I1,ru,⟨rfl,λ ys hy=>by rw [I.jF hy hq];exact hx⟩,yc,λ b hb=>(hf b hb).1⟩⟩
 done:=by
   intro X hP hw hK hc i pins s U H E I hf st hg
   subst hP hw hK
   obtain ⟨xs,hq,hx⟩:=hg
   obtain ⟨aZ,rv,p,hz⟩:=I.list hq
   obtain ⟨f0,f1,f2,f3,f4,f5⟩:=hf it (by simp)
   have hl:=rv.length
   exact wpAny_pyNext_list_end (I.ok.hd hc) st p.isList (by simp;lia) λ h' eb=>⟨rfl,I.turned (t':=s.toks) (λ b o hb e=>eb b o hb e) f0 f1 f3 f4 f5⟩
 self:=λ _ _ _ _ _ st h=>wpAny_pyIter_listiter st h
theorem sf {P:Program} {w:World} {K:W.Frag} (it:Addr) (lo:Int) (n:Nat):Turn P w K tg (zV lo n) [it] it (λ i h=>IsRangeIter h it (lo+(i:Nat) * 1) ((n:Int) - (i:Nat)) 1) where
 mem:=by simp
 obj:=λ i h st b hb=>by
   have e:b=it:=by simpa using hb
   subst e
   exact ⟨_,st,λ v z=>by
     have z':Data.fields _=Data.cell v:=z
     cases z'⟩
 keep:=λ i h h' st k=>k it (by simp) _ st
 item:=by
   intro X hP hw hK hc i pins s U H E I hf st hg
   subst hP hw hK
   obtain ⟨f0,f1,f2,f3,f4,f5⟩:=hf it (by simp)
   have W:=Walks.range (prog:=X.prog) (w:=X.w) (I.ok.hd hc) it lo 1 n
   refine W.item i s _ _ hg st λ v h' tk hv yc kk=>?_
   obtain ⟨t,rfl⟩:=hv
   have I1:Inv X pins U H { s with heap:=h',toks:=tk }:=I.turned (λ b o hb e=>kk b o (by simpa using hb) e) f0 f1 f3 f4 f5
   refine ⟨_,rfl,xo (s:={ s with heap:=h',toks:=tk }) (n:="range_iterator") yc rfl rfl (by decide) ⟨.int (lo+i),H,I1,⟨t,?_⟩,⟨rfl,rfl⟩,yc,λ b hb=>(hf b hb).1⟩⟩
   rw [Int.mul_one]
 done:=by
   intro X hP hw hK hc i pins s U H E I hf st hg
   subst hP hw hK
   obtain ⟨f0,f1,f2,f3,f4,f5⟩:=hf it (by simp)
   exact wpAny_pyNext_range_end (I.ok.hd hc) st (by have:n<=i:=hg;lia) λ h' eb=>⟨rfl,I.turned (t':=s.toks) (λ b o hb e=>eb b o hb e) f0 f1 f3 f4 f5⟩
 self:=λ _ _ _ _ _ st h=>wpAny_pyIter_rangeiter st h
section
variable {X:Cx} {tg:Expr}
inductive MR (K:W.Frag) (R:It->Hp->Prop) (x:V) (H1:Hp):Prop
 | mk (a:Addr) (h1:x = .ref a) (h2:∃ xs,aN K H1 a xs) (q:R (wR K a) H1)
def FC (K:W.Frag) (tl:TE):TI:=λ U H R=>tl U H (MR K R)
theorem cP {l:Expr} {tl:TE} (hl:PE X l tl):PI X tg l (FC X.K tl):=by
 intro pins s U H R I h
 refine ca (hl pins s U H _ I h) λ v s1 ⟨x,H1,I1,r1,q1⟩=>?_
 obtain ⟨a,e,⟨xs,hq⟩,q⟩:=q1
 subst e
 cases r1
 obtain ⟨aZ,rv,p,hz⟩:=I1.list hq
 refine acA p.isList ?_
 refine ⟨s1.heap.objs.size,[s1.heap.objs.size],_,_,H1,rfl,I1.kept (t':=s1.toks) λ b o e=>Ux _ e,uH a _,⟨_,aap _ rfl,rfl,rfl⟩,λ b hb=>?_,q⟩
 have e:b=s1.heap.objs.size:=by simpa using hb
 subst e
 exact I1.rW (Nt _) (I1.cg.fresh (Nt _))
theorem vU {s:Shared} {R:It->Hp->Prop} {E:Value->Shared->Prop} {lo hi:Int} {t u v:Tok} {tk:Nat} (I:Inv X pins U H s) (h1 : -(2 ^ 62)<=lo) (h2:lo<2 ^ 62) (h3 : -(2 ^ 62)<=hi) (h4:hi<2 ^ 62) (q:R (zV lo (hi - lo).toNat) H):wpAny (model X.prog X.w) X.A (pyIter (.ref s.heap.objs.size)) (V0 X pins U tg R) E { s with heap:=s.heap.push { cls:=.type "range",data:=.fields #[.int lo t,.int hi u,.int 1 v]},toks:=tk }:=by
 refine wpAny_pyIter_range (IsRange.new ..) (small_one h1 h2 h3 h4) ?_
 have I1:Inv X pins U H { s with heap:=s.heap.push { cls:=.type "range",data:=.fields #[.int lo t,.int hi u,.int 1 v]},toks:=tk }:=I.kept λ b o e=>Ux _ e
 refine ⟨(s.heap.push { cls:=.type "range",data:=.fields #[.int lo t,.int hi u,.int 1 v]}).objs.size,[(s.heap.push { cls:=.type "range",data:=.fields #[.int lo t,.int hi u,.int 1 v]}).objs.size],_,_,H,rfl,
   I1.kept (t':=tk) λ b o e=>Ux _ e,sf _ lo (hi - lo).toNat,?_,λ b hb=>?_,q⟩
 .
  have e1:lo+((0:Nat):Int) * 1=lo:=by simp
  have e2:(((hi - lo).toNat:Nat):Int) - ((0:Nat):Int)=Builtin.Range.rangeSize lo hi 1:=by rw [rangeSize_one];split<;>lia
  show IsRangeIter _ _ (lo+((0:Nat):Int) * 1) ((((hi - lo).toNat:Nat):Int) - ((0:Nat):Int)) 1
  rw [e1,e2]
  exact aap _ rfl
 . have e:b=(s.heap.push { cls:=.type "range",data:=.fields #[.int lo t,.int hi u,.int 1 v]}).objs.size:=by simpa using hb
   subst e
   exact I1.rW (Nt _) (I1.cg.fresh (Nt _))
inductive MS (R:It->Hp->Prop) (vs:List V) (H1:Hp):Prop
 | mk (j:Int) (h1:vs=[.int j]) (h2 : -(2 ^ 62)<=j) (h3:j<2 ^ 62) (q:R (zV 0 j.toNat) H1)
def EZ (ta:TA):TI:=λ U H R=>ta U H (MS R)
theorem bW {a:Expr} {ta:TA} {p pos:Pos} (hg:Gl X "range") (hm:X.mg "range" = none) (ha:PA X [a] ta) (hs:starEach [a] X.env=[(false,eval a X.env)]:=by rfl):PI X tg (.Call (.Name "range" p) [a] [] pos) (EZ ta):=by
 intro pins s U H R I h
 refine Call_ (ip I hg hm boot_range (aaY (ca (ha pos pins s U H _ I h) λ us s1 ⟨vs,H1,I1,r1,q1⟩=>?_) hs rfl))
 obtain ⟨j,e,q1,q2,q⟩:=q1
 subst e
 cases r1 with
 | cons r rr =>
   cases rr
   obtain ⟨t,rfl⟩:=r
   exact call_range_1 (vU I1 (by lia) (by lia) q1 q2 (by simpa using q))
def Q9 (wi:TI) (g:TG) (tb:TS):TS:=λ D U H=>wi U H λ J H1=>∃ W:Nat->Nat->St->Hp->Prop,(∃ m,W 0 m U H1)/\∀ i m U H,W i m U H ->
 (J.stop i H/\D.nx U H)∨(J.go i H/\∃ N:St->Hp->Prop,(∀ σ' H',N σ' H'->∃ m',m'<m/\W (i+1) m' σ' H')/\∀ x H',J.wm i H x H'->g x U H' λ σ2 H2=>tb { D with nx:=N,ct:=N,bk:=D.nx } σ2 H2)
def mq (fp:List Addr) (h:Heap):List (Addr×Obj):=fp.filterMap λ b=>(h.get? b).map λ o=>(b,o)
theorem gP {h:Heap} {b:Addr} {o:Obj} (hb:b∈fp) (e:h.get? b=some o):(b,o)∈mq fp h:=List.mem_filterMap.mpr ⟨b,hb,by rw [e];rfl⟩
theorem ub {h:Heap} {p:Addr×Obj} (hp:p∈mq fp h):p.1∈fp/\h.get? p.1=some p.2:=by
 obtain ⟨b,hb,e⟩:=List.mem_filterMap.mp hp
 cases q:h.get? b with
 | none=>rw [q] at e;cases e
 | some o =>
   rw [q] at e
   have e':(b,o)=p:=aan e
   subst e'
   exact ⟨hb,q⟩
theorem Inv.pinned {s:Shared} (I:Inv X pins U H s) (hf:∀ b∈fp,mE X pins H b) (ho:∀ b∈fp,∃ o,s.heap.get? b=some o/\∀ v,o.data ≠ .cell v):Inv X (pins++mq fp s.heap) U H s :=
 I.tw λ p hp=>(List.mem_append.mp hp).elim (λ z=>I.pin p (aaB _ z)) λ z=>by
   obtain ⟨hb,e⟩:=ub z
   obtain ⟨f0,f1,f2,_⟩:=hf p.1 hb
   obtain ⟨o,e',d⟩:=ho p.1 hb
   rw [e] at e';cases e'
   exact ⟨e,f0,f1,f2,d⟩
theorem Inv.jo {pl:List (Addr×Obj)} {s:Shared} (I:Inv X (pins++pl) U H s):Inv X pins U H s:=I.tw λ p hp=>I.pin p (aaB _ (ac0 _ hp))
theorem fM {iter:Expr} {body:List Stmt} {wi:TI} {g:TG} {pos:Pos} (hp:PassesOwn (model X.prog X.w) X.A X.env X.xe) (hc:X.calm=true) (hi:PI X tg iter wi) (hg:PG X tg g) (hb:ny X body tb) (hs:∀ x,foldedSetIterable iter X.env x=pure x:=by intro _;rfl):PS X (.For tg iter body [] pos) (Q9 wi g tb):=by
 intro pins s U H D I h
 refine wpAny_For (ca (hi pins s U H _ I h) λ v s1 h1=>ca h1 λ NY s2 h2=>?_) hs
 obtain ⟨it,fp,tn,J,H2,e,I2,T,G6,f2,W,⟨m0,w0⟩,turn⟩:=h2
 subst e
 have Cu:∀ {H':Hp},(∀ b∈fp,H' b=none)->∀ b∈fp,mE X pins H' b:=λ hn b hb=>⟨hn b hb,(f2 b hb).2⟩
 refine codeAny_forLoop_any (λ n s'=>∃ i σ' H',Inv X pins σ' H' s'/\tn i s'.heap/\(∀ b∈fp,H' b=none)/\W i n σ' H') ?_ m0 ⟨0,U,H2,I2,G6,λ b hb=>(f2 b hb).1,w0⟩
 rintro n s3 ⟨i,σ3,H3,I3,VO,Vn,w3⟩
 rcases turn i n σ3 H3 w3 with ⟨stop,qn⟩|⟨go,N,hN,step⟩
 . refine abp hp (ca (T.done X rfl rfl rfl hc i pins s3 σ3 H3 X.xe I3 (Cu Vn) VO stop) λ r s4 ⟨hr,I4⟩=>?_)
   subst hr
   exact ab3 ⟨σ3,H3,I4,qn⟩
 .
  refine abp hp (ca (T.item X rfl rfl rfl hc i pins s3 σ3 H3 X.xe I3 (Cu Vn) VO go) λ r s4 ⟨u,hr,h4⟩=>?_)
  subst hr
  refine abp hp (ca h4 λ _ s5 ⟨x,H5,I5,r5,y5,Dq,Hc⟩=>?_)
  have WO:=I5.pinned (Cu Hc) (T.obj _ _ Dq)
  refine abp hp (ca (hg _ s5 σ3 H5 x u _ WO r5 (step x H5 y5)) λ _ s6 ⟨σ6,H6,I6,q6⟩=>?_)
  refine abp hp (ca (hb _ s6 σ6 H6 _ I6 q6) λ f s7 q7=>?_)
  have again:∀ {σ7:St} {H7:Hp},Inv X (pins++mq fp s5.heap) σ7 H7 s7->N σ7 H7->∃ m,m<n/\∃ i σ' H',Inv X pins σ' H' s7/\tn i s7.heap/\(∀ b∈fp,H' b=none)/\W i m σ' H':=λ {σ7 H7} I7 n7=>by
    obtain ⟨m',hm,w7⟩:=hN σ7 H7 n7
    refine ⟨m',hm,i+1,σ7,H7,I7.jo,T.keep _ _ _ Dq λ b hb o e=>(I7.pin (b,o) (aaB _ (aaB _ (gP hb e)))).1,λ b hb=>?_,w7⟩
    obtain ⟨o,e,d⟩:=T.obj _ _ Dq b hb
    exact (I7.pin (b,o) (aaB _ (aaB _ (gP hb e)))).2.1
  cases f with
  | next=>obtain ⟨σ7,H7,I7,n7⟩:=q7;exact again I7 n7
  | cont=>obtain ⟨σ7,H7,I7,n7⟩:=q7;exact again I7 n7
  | brk=>obtain ⟨σ7,H7,I7,q7⟩:=q7;exact ⟨σ7,H7,I7.jo,q7⟩
  | ret v=>obtain ⟨x7,σ7,H7,I7,r7,q7⟩:=q7;exact ⟨x7,σ7,H7,I7.jo,r7,q7⟩
end
theorem qM {K:W.Frag} {a:Addr} {g:TG} {D:Ends} (Pv:Nat->St->Hp->Prop) (h0:Pv 0 U H) (hl:∀ i U H,i<=xs.length->Pv i U H->aN K H a xs) (hs:∀ i x U H,xs[i]?=some x->Pv i U H->g x U H λ σ2 H2=>tb { D with nx:=Pv (i+1),ct:=Pv (i+1),bk:=D.nx } σ2 H2) (hd:∀ U H,Pv xs.length U H->D.nx U H) :
   ∃ W:Nat->Nat->St->Hp->Prop,(∃ m,W 0 m U H)/\∀ i m U H,W i m U H ->
     ((wR K a).stop i H/\D.nx U H)∨((wR K a).go i H/\∃ N:St->Hp->Prop,(∀ σ' H',N σ' H'->∃ m',m'<m/\W (i+1) m' σ' H')/\∀ x H',(wR K a).wm i H x H'->g x U H' λ σ2 H2=>tb { D with nx:=N,ct:=N,bk:=D.nx } σ2 H2):=by
 refine ⟨λ i m U H=>m=xs.length - i/\i<=xs.length/\Pv i U H,⟨xs.length,by simp,aaH _,h0⟩,?_⟩
 rintro i m U H ⟨rfl,hi,p⟩
 have q:=hl i U H hi p
 by_cases iT:i<xs.length
 .
  refine .inr ⟨⟨xs,xs[i],q,by simp [iT]⟩,Pv (i+1),λ σ' H' p'=>⟨xs.length - (i+1),by lia,rfl,iT,p'⟩,λ x H' y=>?_⟩
  obtain ⟨e,y⟩:=y
  subst e
  exact hs i x U _ (y xs q) p
 . have e:i=xs.length:=by lia
   subst e
   exact .inl ⟨⟨xs,q,Nt _⟩,hd U H p⟩
theorem mY {lo:Int} {n:Nat} {g:TG} {D:Ends} (Pv:Nat->St->Hp->Prop) (h0:Pv 0 U H) (hs:∀ i U H,i<n->Pv i U H->g (.int (lo+i)) U H λ σ2 H2=>tb { D with nx:=Pv (i+1),ct:=Pv (i+1),bk:=D.nx } σ2 H2) (hd:∀ U H,Pv n U H->D.nx U H) :
   ∃ W:Nat->Nat->St->Hp->Prop,(∃ m,W 0 m U H)/\∀ i m U H,W i m U H ->
     ((zV lo n).stop i H/\D.nx U H)∨((zV lo n).go i H/\∃ N:St->Hp->Prop,(∀ σ' H',N σ' H'->∃ m',m'<m/\W (i+1) m' σ' H')/\∀ x H',(zV lo n).wm i H x H'->g x U H' λ σ2 H2=>tb { D with nx:=N,ct:=N,bk:=D.nx } σ2 H2):=by
 refine ⟨λ i m U H=>m=n - i/\i<=n/\Pv i U H,⟨n,by simp,aaH _,h0⟩,?_⟩
 rintro i m U H ⟨rfl,hi,p⟩
 by_cases iT:i<n
 .
  refine .inr ⟨iT,Pv (i+1),λ σ' H' p'=>⟨n - (i+1),by lia,rfl,iT,p'⟩,λ x H' y=>?_⟩
  obtain ⟨e,y⟩:=y
  subst e y
  exact hs i U _ iT p
 . have e:i=n:=by lia
   subst e
   exact .inl ⟨Nt _,hd U H p⟩
abbrev R2:=V->V->Hp->VK->Prop
def g8 (X:Cx) (f:Value->Value->Sem Value) (r:R2):Prop :=
 ∀ (pins:List (Addr×Obj)) (s:Shared) (U:St) (H:Hp) (x y:V) (v u:Value) (Q:VK),Inv X pins U H s->RelV x v->RelV y u->r x y H Q ->
   wpAny (model X.prog X.w) X.A (f v u) (EP X pins U Q) X.xe s
def P8 (X:Cx) (f:Value->Sem Value) (r:V->Hp->VK->Prop):Prop :=
 ∀ (pins:List (Addr×Obj)) (s:Shared) (U:St) (H:Hp) (x:V) (v:Value) (Q:VK),Inv X pins U H s->RelV x v->r x H Q ->
   wpAny (model X.prog X.w) X.A (f v) (EP X pins U Q) X.xe s
def fC (X:Cx) (f:Value) (r:List V->Hp->VK->Prop):Prop :=
 ∀ (pins:List (Addr×Obj)) (s:Shared) (U:St) (H:Hp) (xs:List V) (us:List Value) (Q:VK),Inv X pins U H s->Vals xs us->r xs H Q ->
   wpAny (model X.prog X.w) X.A (call f us) (EP X pins U Q) X.xe s
def oS (r:R2) (ta tb:TE):TE:=λ U H Q=>ta U H λ x H1=>tb U H1 λ y H2=>r x y H2 Q
def tUn (r:V->Hp->VK->Prop) (ta:TE):TE:=λ U H Q=>ta U H λ x H1=>r x H1 Q
inductive rI (C:Int->Int->Prop) (g:Int->Int->V) (x:V) (y:V) (H:Hp) (Q:VK):Prop
 | mk (i j:_) (_:x = .int i) (_:y = .int j) (_:C i j) (_:Q (g i j) H)
inductive AM (g:Int->Int->V) (x:V) (y:V) (H:Hp) (Q:VK):Prop
 | mk (i j:_) (_:x = .int i) (_:y = .int j) (_:Q (g i j) H)
inductive rU (g:Int->V) (x:V) (H:Hp) (Q:VK):Prop
 | mk (i:_) (_:x = .int i) (_:Q (g i) H)
section
variable {X:Cx} {a b c:Expr} {ta tb tc:TE} {pos:Pos}
theorem CN (ha:PE X a ta) (hb:PE X b tb) {s:Shared} {R:V->V->Hp->Prop} (I:Inv X pins U H s) (h:ta U H λ x H1=>tb U H1 λ y H2=>R x y H2) {Q:Value->Shared->Prop} {f:Value->Value->Sem Value} (hf:∀ v u s2 x y H2,Inv X pins U H2 s2->RelV x v->RelV y u->R x y H2->wpAny (model X.prog X.w) X.A (f v u) Q X.xe s2) :
   wpAny (model X.prog X.w) X.A (eval a X.env) (λ v s₁=>wpAny (model X.prog X.w) X.A (eval b X.env) (λ u s₂=>wpAny (model X.prog X.w) X.A (f v u) Q X.xe s₂) X.xe s₁) X.xe s:=by
 refine ca (ha pins s U H _ I h) λ v s1 ⟨x,H1,I1,r1,q1⟩=>?_
 refine ca (hb pins s1 U H1 _ I1 q1) λ u s2 ⟨y,H2,I2,r2,q2⟩=>?_
 exact hf v u s2 x y H2 I2 r1 r2 q2
theorem am {op:Operator} {r:R2} (ho:g8 X (binaryOp op) r) (ha:PE X a ta) (hb:PE X b tb):PE X (.BinOp a op b pos) (oS r ta tb):=by
 intro pins s U H Q I h
 exact wpAny_BinOp (CN ha hb I h λ v u s2 x y H2 I2 rx ry q=>ho pins s2 U H2 x y v u Q I2 rx ry q)
theorem AU {op:UnaryOp} {r:V->Hp->VK->Prop} (ho:P8 X (unaryOp op) r) (ha:PE X a ta):PE X (.UnaryOp op a pos) (tUn r ta):=by
 intro pins s U H Q I h
 exact UnaryOp_ (ca (ha pins s U H _ I h) λ v s1 ⟨x,H1,I1,r1,q1⟩=>ho pins s1 U H1 x v Q I1 r1 q1)
theorem Hv {f:Value->Value->Sem Value} {C:Int->Int->Prop} {g:Int->Int->Int} (rule:∀ (i j:Int) (t u:Tok) (s:Shared) (Q:Value->Shared->Prop) (E:Value->Shared->Prop),C i j->Q (.int (g i j) s.toks) { s with toks:=s.toks+1 }->wpAny (model X.prog X.w) X.A (f (.int i t) (.int j u)) Q E s) :
   g8 X f (rI C λ i j => .int (g i j)):=by
 intro pins s U H x y v u Q I rx ry h
 obtain ⟨i,j,rfl,rfl,hc,q⟩:=h
 obtain ⟨t,rfl⟩:=rx
 obtain ⟨t',rfl⟩:=ry
 exact rule i j t t' s _ _ hc ⟨.int (g i j),H,I.tok _,⟨_,rfl⟩,q⟩
theorem Fz {f:Value->Value->Sem Value} {g:Int->Int->Int} (rule:∀ (i j:Int) (t u:Tok) (s:Shared) (Q:Value->Shared->Prop) (E:Value->Shared->Prop),Q (.int (g i j) s.toks) { s with toks:=s.toks+1 }->wpAny (model X.prog X.w) X.A (f (.int i t) (.int j u)) Q E s) :
   g8 X f (AM λ i j => .int (g i j)):=by
 intro pins s U H x y v u Q I rx ry h
 obtain ⟨i,j,rfl,rfl,q⟩:=h
 obtain ⟨t,rfl⟩:=rx
 obtain ⟨t',rfl⟩:=ry
 exact rule i j t t' s _ _ ⟨.int (g i j),H,I.tok _,⟨_,rfl⟩,q⟩
theorem zI {f:Value->Value->Sem Value} {g:Int->Int->Bool} (rule:∀ (i j:Int) (t u:Tok) (s:Shared) (Q:Value->Shared->Prop) (E:Value->Shared->Prop),Q (.bool (g i j)) s->wpAny (model X.prog X.w) X.A (f (.int i t) (.int j u)) Q E s) :
   g8 X f (AM λ i j => .bl (g i j)):=by
 intro pins s U H x y v u Q I rx ry h
 obtain ⟨i,j,rfl,rfl,q⟩:=h
 obtain ⟨t,rfl⟩:=rx
 obtain ⟨t',rfl⟩:=ry
 exact rule i j t t' s _ _ ⟨.bl (g i j),H,I,rfl,q⟩
def Cw (i j:Int):Prop:=0<=j/\j<=1000000/\i.natAbs<2 ^ 64
theorem CP:g8 X (binaryOp .Add) (AM λ i j => .int (i+j)):=Fz λ _ _ _ _ _ _ _ q=>add_int q
theorem BZ:g8 X (binaryOp .Sub) (AM λ i j => .int (i - j)):=Fz λ _ _ _ _ _ _ _ q=>sub_int q
theorem BD:g8 X (binaryOp .Mod) (rI (λ _ j=>0<j) λ i j => .int (i % j)):=Hv λ i j _ _ _ _ _ hc q=>by
 have h1:(0:Int)<j:=hc
 exact mod_int' (by lia) (by rw [Int.fmod_eq_emod_of_nonneg i (by lia)];exact q)
theorem By:g8 X (binaryOp .Pow) (rI Cw λ i j => .int (i ^ j.toNat)):=Hv λ _ _ _ _ _ _ _ hc q=>pow_int_small hc.1 hc.2.1 hc.2.2 q
theorem Xu {f:Value->Sem Value} {g:Int->Int} (rule:∀ (i:Int) (t:Tok) (s:Shared) (Q:Value->Shared->Prop) (E:Value->Shared->Prop),Q (.int (g i) s.toks) { s with toks:=s.toks+1 }->wpAny (model X.prog X.w) X.A (f (.int i t)) Q E s) :
   P8 X f (rU λ i => .int (g i)):=by
 intro pins s U H x v Q I rx h
 obtain ⟨i,rfl,q⟩:=h
 obtain ⟨t,rfl⟩:=rx
 exact rule i t s _ _ ⟨.int (g i),H,I.tok _,⟨_,rfl⟩,q⟩
theorem vA:P8 X (unaryOp .USub) (rU λ i => .int (-i)):=Xu λ _ _ _ _ _ q=>neg_int q
end
def FS:V->V->Bool
 | .cD,.cD=>true | .cD,.int _=>true | .int _,.cD=>true | .cD,.bl _=>true | .bl _,.cD=>true | .cD,.str _=>true | .str _,.cD=>true
 | .int _,.int _=>true | .bl _,.bl _=>true | .str _,.str _=>true | .uy _,.uy _=>true
 | .int _,.str _=>true | .str _,.int _=>true | .bl _,.str _=>true | .str _,.bl _=>true
 | _,_=>false
def Wo:R2:=λ x y H Q=>FS x y=true/\Q (.bl (decide (x=y))) H
def Uo:R2:=λ x y H Q=>FS x y=true/\Q (.bl (!decide (x=y))) H
theorem tM {i j:Int}:decide (V.int i=V.int j)=(i == j):=by
 rw [abB]
 simp
theorem vY {i j:Bool}:decide (V.bl i=V.bl j)=(i == j):=by
 rw [abB]
 simp
theorem tp {i j:Str}:decide (V.str i=V.str j)=(i == j):=by
 rw [abB]
 simp
theorem tW {i j:Array UInt8}:decide (V.uy i=V.uy j)=(i.toList == j.toList):=by
 rw [abB]
 cases i
 cases j
 simp
section
variable {X:Cx} {a b c:Expr} {ta tb tc:TE} {pos:Pos}
theorem bt {s:Shared} {k k':Bool} (I:Inv X pins U H s) (q:Q (.bl k) H) (e:k=k'):EP X pins U Q (.bool k') s:=by
 subst e
 exact ⟨.bl k,H,I,rfl,q⟩
theorem eS:g8 X (compareOp .Eq) Wo:=by
 intro pins s U H x y v u Q I rx ry h
 obtain ⟨hs,q⟩:=h
 cases x with
 | cD =>
   cases rx
   cases y with
   | cD=>cases ry;exact PySem.EqNone.eq_none_none (bt I q (by simp))
   | bl j=>cases ry;exact PySem.EqNone.eq_none_bool (bt I q (by simp))
   | int j=>obtain ⟨t',rfl⟩:=ry;exact PySem.EqNone.eq_none_int (bt I q (by simp))
   | str j=>obtain ⟨t',rfl⟩:=ry;exact PySem.EqNone.eq_none_str (bt I q (by simp))
   | _=>exact absurd (show false=true from hs) OR
 | bl i =>
   cases rx
   cases y with
   | cD=>cases ry;exact PySem.EqNone.eq_bool_none (bt I q (by simp))
   | bl j=>cases ry;exact eq_bool (bt I q vY)
   | str j=>obtain ⟨t',rfl⟩:=ry;exact PySem.EqMixed.eq_bool_str (bt I q (by simp))
   | _=>exact absurd (show false=true from hs) OR
 | int i =>
   obtain ⟨t,rfl⟩:=rx
   cases y with
   | cD=>cases ry;exact PySem.EqNone.eq_int_none (bt I q (by simp))
   | int j=>obtain ⟨t',rfl⟩:=ry;exact eq_int (bt I q tM)
   | str j=>obtain ⟨t',rfl⟩:=ry;exact PySem.EqMixed.eq_int_str (bt I q (by simp))
   | _=>exact absurd (show false=true from hs) OR
 | str i =>
   obtain ⟨t,rfl⟩:=rx
   cases y with
   | cD=>cases ry;exact PySem.EqNone.eq_str_none (bt I q (by simp))
   | bl j=>cases ry;exact PySem.EqMixed.eq_str_bool (bt I q (by simp))
   | int j=>obtain ⟨t',rfl⟩:=ry;exact PySem.EqMixed.eq_str_int (bt I q (by simp))
   | str j=>obtain ⟨t',rfl⟩:=ry;exact eq_str (bt I q tp)
   | _=>exact absurd (show false=true from hs) OR
 | uy i =>
   obtain ⟨t,rfl⟩:=rx
   cases y with
   | uy j=>obtain ⟨t',rfl⟩:=ry;exact W.eq_bytes (bt I q tW)
   | _=>exact absurd (show false=true from hs) OR
 | _=>cases y<;>exact absurd (show false=true from hs) OR
theorem mQ:g8 X (compareOp .NotEq) Uo:=by
 intro pins s U H x y v u Q I rx ry h
 obtain ⟨hs,q⟩:=h
 cases x with
 | cD =>
   cases rx
   cases y with
   | cD=>cases ry;exact PySem.EqNone.ne_none_none (bt I q (by simp))
   | bl j=>cases ry;exact PySem.EqNone.ne_none_bool (bt I q (by simp))
   | int j=>obtain ⟨t',rfl⟩:=ry;exact PySem.EqNone.ne_none_int (bt I q (by simp))
   | str j=>obtain ⟨t',rfl⟩:=ry;exact PySem.EqNone.ne_none_str (bt I q (by simp))
   | _=>exact absurd (show false=true from hs) OR
 | bl i =>
   cases rx
   cases y with
   | cD=>cases ry;exact PySem.EqNone.ne_bool_none (bt I q (by simp))
   | bl j=>cases ry;exact ne_bool (bt I q (aaV not vY))
   | str j=>obtain ⟨t',rfl⟩:=ry;exact PySem.EqMixed.ne_bool_str (bt I q (by simp))
   | _=>exact absurd (show false=true from hs) OR
 | int i =>
   obtain ⟨t,rfl⟩:=rx
   cases y with
   | cD=>cases ry;exact PySem.EqNone.ne_int_none (bt I q (by simp))
   | int j=>obtain ⟨t',rfl⟩:=ry;exact ne_int (bt I q (aaV not tM))
   | str j=>obtain ⟨t',rfl⟩:=ry;exact PySem.EqMixed.ne_int_str (bt I q (by simp))
   | _=>exact absurd (show false=true from hs) OR
 | str i =>
   obtain ⟨t,rfl⟩:=rx
   cases y with
   | cD=>cases ry;exact PySem.EqNone.ne_str_none (bt I q (by simp))
   | bl j=>cases ry;exact PySem.EqMixed.ne_str_bool (bt I q (by simp))
   | int j=>obtain ⟨t',rfl⟩:=ry;exact PySem.EqMixed.ne_str_int (bt I q (by simp))
   | str j=>obtain ⟨t',rfl⟩:=ry;exact ne_str (bt I q (aaV not tp))
   | _=>exact absurd (show false=true from hs) OR
 | uy i =>
   obtain ⟨t,rfl⟩:=rx
   cases y with
   | uy j=>obtain ⟨t',rfl⟩:=ry;exact W.ne_bytes (bt I q (aaV not tW))
   | _=>exact absurd (show false=true from hs) OR
 | _=>cases y<;>exact absurd (show false=true from hs) OR
theorem o8:g8 X (compareOp .Lt) (AM λ i j => .bl (decide (i<j))):=zI λ _ _ _ _ _ _ _ q=>lt_int q
theorem jh:g8 X (compareOp .LtE) (AM λ i j => .bl (decide (i<=j))):=zI λ _ _ _ _ _ _ _ q=>le_int q
theorem ko:g8 X (compareOp .Gt) (AM λ i j => .bl (decide (j<i))):=zI λ _ _ _ _ _ _ _ q=>gt_int q
theorem Bg:g8 X (compareOp .GtE) (AM λ i j => .bl (decide (j<=i))):=zI λ _ _ _ _ _ _ _ q=>ge_int q
theorem nH:g8 X (compareOp .In) (λ x y H Q=>∃ i j,x = .str i/\y = .str j/\Q (.bl (!(Builtin.Str.occurrences j i 0 j.length 1).isEmpty)) H):=by
 intro pins s U H x y v u Q I rx ry h
 obtain ⟨i,j,rfl,rfl,q⟩:=h
 obtain ⟨t,rfl⟩:=rx
 obtain ⟨t',rfl⟩:=ry
 exact in_str (bt I q rfl)
theorem tT:g8 X (compareOp .IsNot) (λ x y H Q=>y = .cD/\Q (.bl (!decide (x = .cD))) H):=by
 intro pins s U H x y v u Q I rx ry h
 obtain ⟨rfl,q⟩:=h
 cases ry
 refine isnot_none_gen (bt I q ?_)
 cases x<;>first
   | (cases rx;rfl)
   | (obtain ⟨t,rfl⟩:=rx;rfl)
theorem aK (b:Expr) {op:CmpOp} (h:op ≠ .In:=by decide) (h2:op ≠ .NotIn:=by decide):behindInMarks op b=false:=by
 have e1:(op == CmpOp.In)=false:=by cases op<;>first|rfl|exact absurd rfl h
 have e2:(op == CmpOp.NotIn)=false:=by cases op<;>first|rfl|exact absurd rfl h2
 cases b<;>simp [behindInMarks,e1,e2]
theorem iE {op:CmpOp} {r:R2} (ho:g8 X (compareOp op) r) (ha:PE X a ta) (hb:PE X b tb) (hm:behindInMarks op b=false):PE X (.Compare a [op] [b] pos) (oS r ta tb):=by
 intro pins s U H Q I h
 exact wpAny_Compare1 (CN ha hb I h λ v u s2 x y H2 I2 rx ry q=>ho pins s2 U H2 x y v u Q I2 rx ry q) hm
inductive Rj (Q:Bool->Hp->Prop) (x:V) (H:Hp):Prop
 | mk (k:Bool) (h:x = .bl k) (q:Q k H)
def lN (t:TE):TT:=λ U H Q=>t U H (Rj Q)
theorem aF {op:CmpOp} {r:R2} (ho:g8 X (compareOp op) r) (ha:PE X a ta) (hb:PE X b tb) (hm:behindInMarks op b=false):PT X (.Compare a [op] [b] pos) (lN (oS r ta tb)):=by
 intro pins s U H Q I h
 refine wpAny_isTrue_Compare1 (ca (ha pins s U H _ I h) λ v s1 ⟨x,H1,I1,r1,q1⟩=>ca (hb pins s1 U H1 _ I1 q1) λ u s2 ⟨y,H2,I2,r2,q2⟩ =>
   ca (ho pins s2 U H2 x y v u _ I2 r1 r2 q2) λ c s3 ⟨z,H3,I3,r3,k,e,q3⟩=>?_) hm
 subst e
 cases r3
 exact abt ⟨H3,I3,q3⟩
def wI (r r':R2) (ta tb tc:TE):TE:=λ U H Q=>ta U H λ x H1=>tb U H1 λ y H2=>r x y H2 λ z H3=>∃ k,z = .bl k /\
 (if k=true then tc U H3 λ w' H4=>r' y w' H4 Q else Q (.bl false) H3)
theorem qm {op De:CmpOp} {r r':R2} (ho:g8 X (compareOp op) r) (wc:g8 X (compareOp De) r') (ha:PE X a ta) (hb:PE X b tb) (hc:PE X c tc) (hm:lastMarks [op,De] [b,c]=false:=by with_unfolding_all rfl):PE X (.Compare a [op,De] [b,c] pos) (wI r r' ta tb tc):=by
 intro pins s U H Q I h
 refine Compare_chain (ca (ha pins s U H _ I h) λ v s1 ⟨x,H1,I1,r1,q1⟩=>chain_link (ca (hb pins s1 U H1 _ I1 q1) λ u s2 ⟨y,H2,I2,r2,q2⟩ =>
   ca (ho pins s2 U H2 x y v u _ I2 r1 r2 q2) λ d s3 ⟨z,H3,I3,r3,k,e,q3⟩=>?_)) hm
 subst e
 cases r3
 refine abt ?_
 cases k with
 | false=>exact ite_ff ⟨.bl false,H3,I3,rfl,q3⟩
 | true=>exact ite_tt (chain_last (ca (hc pins s3 U H3 _ I3 q3) λ w' s4 ⟨z',H4,I4,r4,q4⟩=>wc pins s4 U H4 y z' u w' Q I4 r2 r4 q4))
theorem lL {op De:CmpOp} {r r':R2} (ho:g8 X (compareOp op) r) (wc:g8 X (compareOp De) r') (ha:PE X a ta) (hb:PE X b tb) (hc:PE X c tc) (hm:lastMarks [op,De] [b,c]=false:=by with_unfolding_all rfl):PT X (.Compare a [op,De] [b,c] pos) (lN (wI r r' ta tb tc)):=by
 intro pins s U H Q I h
 refine isTrue_chain (ca (ha pins s U H _ I h) λ v s1 ⟨x,H1,I1,r1,q1⟩=>test_link (ca (hb pins s1 U H1 _ I1 q1) λ u s2 ⟨y,H2,I2,r2,q2⟩ =>
   ca (ho pins s2 U H2 x y v u _ I2 r1 r2 q2) λ d s3 ⟨z,H3,I3,r3,k,e,q3⟩=>?_)) hm
 subst e
 cases r3
 refine abt ?_
 cases k with
 | false =>
   obtain ⟨k',e',q'⟩:=q3
   cases e'
   exact ite_ff ⟨H3,I3,q'⟩
 | true =>
   refine ite_tt (test_last (ca (hc pins s3 U H3 _ I3 q3) λ w' s4 ⟨z',H4,I4,r4,q4⟩=>ca (wc pins s4 U H4 y z' u w' _ I4 r2 r4 q4) λ d' s5 ⟨z2,H5,I5,r5,k2,e2,q5⟩=>?_))
   subst e2
   cases r5
   exact abt ⟨H5,I5,q5⟩
theorem jL:(sizeLine:Nat)<2 ^ 63:=by rw [sizeLine_eq];decide
theorem cA:g8 X (binaryOp .Add) (λ x y H Q=>∃ i j,x = .str i/\y = .str j/\i.length+j.length<=sizeLine/\Q (.str (i++j)) H):=by
 intro pins s U H x y v u Q I rx ry h
 obtain ⟨i,j,rfl,rfl,hz,q⟩:=h
 obtain ⟨t,rfl⟩:=rx
 obtain ⟨t',rfl⟩:=ry
 exact add_str (λ t' tk=>⟨.str (i++j),H,I.tok _,⟨_,rfl⟩,q⟩) hz
theorem vals1 {x:V} (r:Vals [x] us):∃ u,us=[u]/\RelV x u:=by
 cases r with
 | cons r1 r2=>cases r2;exact ⟨_,rfl,r1⟩
theorem vals2 {x y:V} (r:Vals [x,y] us):∃ u w',us=[u,w']/\RelV x u/\RelV y w':=by
 cases r with
 | cons r1 r2 =>
   cases r2 with
   | cons r3 r4=>cases r4;exact ⟨_,_,rfl,r1,r3⟩
theorem xa:fC X (.builtin "abs") (λ xs H Q=>∃ i,xs=[.int i]/\Q (.int (if i<0 then -i else i)) H):=by
 intro pins s U H xs us Q I r h
 obtain ⟨i,rfl,q⟩:=h
 obtain ⟨u,rfl,t,rfl⟩:=vals1 r
 exact call_abs_int λ u tk=>⟨.int (if i<0 then -i else i),H,I.tok _,⟨_,rfl⟩,q⟩
theorem m9 (hc:X.calm=true):fC X (.builtin "min") (λ xs H Q=>∃ i j,xs=[.int i,.int j]/\Q (.int (if j<i then j else i)) H):=by
 intro pins s U H xs us Q I r h
 obtain ⟨i,j,rfl,q⟩:=h
 obtain ⟨u,w',rfl,⟨t,rfl⟩,⟨t',rfl⟩⟩:=vals2 r
 refine min_two_ints (I.ok.hd hc) λ h' tk k=>⟨_,H,I.kept k,?_,q⟩
 by_cases hj:j<i
 . rw [aam hj,aam hj];exact ⟨_,rfl⟩
 . rw [aak hj,aak hj];exact ⟨_,rfl⟩
theorem bL:fC X (.type "str") (λ xs H Q=>∃ i,xs=[.int i]/\i.natAbs.log2<1920/\Q (.str (toString i)) H):=by
 intro pins s U H xs us Q I r h
 obtain ⟨i,rfl,hz,q⟩:=h
 obtain ⟨u,rfl,t,rfl⟩:=vals1 r
 exact PySem.P.str_of_int hz ⟨.str _,H,I.tok _,⟨_,rfl⟩,q⟩
end
structure sO (h:Heap) (x dx C:Addr) (mA:Str->Option Value):Prop where
 obj:h.get? x=some (W.instObj C dx)
 ns:h.Ns1 dx mA
 ne:dx≠x
theorem uq {h:Heap} {mA:Str->Option Value} (n:h.Ns1 dx mA):∃ od,h.get? dx=some od/\∀ name,W.lookIn name od=some (mA name):=by
 obtain ⟨o,es,ep,ho,hd,hk,_,hm⟩:=n
 refine ⟨o,ho,λ name=>?_⟩
 have e:=hm name
 unfold nsFind findBy at e
 rw [← Array.find?_toList] at e
 unfold W.lookIn
 rw [hd]
 dsimp only
 split
 . rename_i y q
   rw [q] at e
   exact aaV some e
 .
  rename_i q
  rw [q] at e
  have a:es.toList.any (·.refKey)=false:=by
    rw [List.any_eq_false]
    intro y hy
    obtain ⟨z,t,rY⟩:=hk y (Array.mem_toList_iff.mp hy)
    simp [DictEntry.refKey,rY]
  have a':¬ es.toList.any (·.refKey)=true:=by rw [a];exact OR
  rw [aak a']
  exact aaV some e
theorem sO.look {h:Heap} {x:Addr} {mA:Str->Option Value} (I:sO h x dx C mA):∃ od,W.InstAt h x (W.instObj C dx) C (some od)/\∀ name,W.lookIn name od=some (mA name) :=
 let ⟨od,ho,hl⟩:=uq I.ns
 ⟨od,⟨I.obj,rfl,rfl,ho⟩,hl⟩
section
variable {prog:Program} {w:World} {A:Around} {E:Value->Shared->Prop} {s:Shared} {K:W.Frag} {x dx C f:Addr} {mA:Str->Option Value} {name:Str} {v:Value}
theorem get_map {expr:Bool} {Q:Value->Shared->Prop} (X:K.In s.heap) (I:sO s.heap x dx C mA) (hg:W.plainGet K C name=true) (hh:W.hasDictIn K C=true) (ha:W.findIn K (.ref C) name=some none) (hv:mA name=some v) (Wv:W.handedIn v=true) (h:Q v { s with toks:=s.toks+1 }) :
   wpAny (model prog w) A (getAttr (.ref x) name expr) Q E s:=by
 obtain ⟨od,J,hl⟩:=I.look
 exact W.get_value X J (W.plainGet_of hg).1 (W.findObj_own hh ha rfl (by rw [hl,hv])) Wv h
theorem xx {pl:Sem Bool} {Q:Value×List Value->Shared->Prop} (X:K.In s.heap) (I:sO s.heap x dx C mA) (hg:W.plainGet K C name=true) (hf:W.findIn K (.ref C) name=some (some (.ref f))) (ht:W.isFn K (.ref f)=true) (hv:mA name=none) (h:Q (.ref f,[.ref x]) s) :
   wpAny (model prog w) A (getMethod (.ref x) name pl) Q E s:=by
 obtain ⟨od,J,hl⟩:=I.look
 exact W.method_fn X J (W.plainGet_of hg).1 (W.plainGet_of hg).2 hf (beq_iff_eq.mp ht) (by show (W.lookIn name od).map (·.isSome)=some false;rw [hl,hv];rfl) h
theorem y8 {ns:List Str} {Q:Unit->Shared->Prop} (X:K.In s.heap) (I:sO s.heap x dx C mA) (hs:W.findIn K (.ref C) "__setattr__" = some (some (.builtin "object.__setattr__"))) (hp:W.plainOver K C=true) (ht:W.takerIn K C name=some none) (hh:W.hasDictIn K C=true) (hw:PySem.Within mA ns) (hsz:ns.length<=sizeLine) (h:∀ h',sO h' x dx C (λ y=>if y=name then some v else mA y)->Heap.SameBut dx s.heap h'->Q () { s with heap:=h',toks:=s.toks+2 }) :
   wpAny (model prog w) A (setAttr (.ref x) name v) Q E s:=by
 obtain ⟨od,J,hl⟩:=I.look
 refine W.set_plain X J hs (W.osa_open (s:={ s with toks:=s.toks+1 }) (r:=none) X J hp ht λ b=>?_)
 obtain ⟨cd,hc,Mo⟩:=W.any_some hh
 have hx:s.heap.get? x=some ⟨.ref C,some dx,.plain,#[]⟩:=I.obj
 refine aas (aaW (aas (aas (wpAny_loadPart hx (aas (W.Looks.here (s:={ s with toks:=s.toks+1 }) (W.looks_clsIn X hc) ?_))))))
 rw [Mo]
 refine aaW (a:=some dx) (aas (aaW (aas ?_)))
 refine wpAny_nsSet1 (s:={ s with toks:=s.toks+1 }) I.ns λ h' Vg AI=>?_
 obtain ⟨oD,esD,epD,hoD,Wn,YM⟩:=Vg.count (PySem.Within.cons name v hw)
 refine aas (wpAny_lookBehind hoD (by rw [Wn];exact pastItsLine_dict (aaO YM (by rw [aav];lia))) ?_)
 exact aaW (h _ ⟨(AI.2 _ (acb I.ne)).trans I.obj,Vg,I.ne⟩ AI)
theorem wk {R:Result->Shared->Prop} {vs:List Value} {kw:List (Str×Value)} (X:K.In s.heap) (hm:W.makesIn K C=true) (hi:W.findIn K (.ref C) "__init__" = some (some (.ref f))) (hf:W.typeIn K (.ref f)=some (.type "function")) (h:codeAny (model prog w) (A.under (.builtin "type.__call__" ⟨.ref C::vs,kw⟩)) (.call (.ref f) ⟨.ref (s.heap.objs.size+1)::vs,kw⟩) (W.InitBack (s.heap.objs.size+1) R)
     { s with heap:=(s.heap.push W.emptyDict).push (W.instObj C s.heap.objs.size)}) :
   codeAny (model prog w) A (.call (.ref C) ⟨vs,kw⟩) R s:=by
 obtain ⟨hh,g,d,t,os⟩:=s
 exact W.make_core (W.makes_of X hm) (W.looks_findIn X hi) (λ self=>W.bind_fn X self hf) (.inl rfl) h
end
def bA (f:Str) (v:V):List (Str×V)->List (Str×V)
 | []=>[(f,v)]
 | (g,x)::r=>if g=f then (g,v)::r else (g,x)::bA f v r
theorem kc (f g:Str) (v:V):∀ fs:List (Str×V),(bA f v fs).lookup g=if g=f then some v else fs.lookup g
 | []=>by
   show List.lookup g [(f,v)]=_
   by_cases h:g=f
   . have hb:(g == f)=true:=beq_iff_eq.mpr h
     simp only [List.lookup,hb,aam h]
   . have hb:(g == f)=false:=beq_eq_false_iff_ne.mpr h
     simp only [List.lookup,hb,aak h]
 | (k,x)::r=>by
   have ih:=kc f g v r
   rw [show bA f v ((k,x)::r)=(if k=f then (k,v)::r else (k,x)::bA f v r) from rfl]
   by_cases hk:k=f
   .
    rw [aam hk]
    by_cases h:g=k
    . have hb:(g == k)=true:=beq_iff_eq.mpr h
      simp only [List.lookup,hb,aam (h.trans hk)]
    . have hb:(g == k)=false:=beq_eq_false_iff_ne.mpr h
      simp only [List.lookup,hb,aak (λ e:g=f=>h (e.trans hk.symm))]
   .
    rw [aak hk]
    by_cases h:g=k
    . have hb:(g == k)=true:=beq_iff_eq.mpr h
      simp only [List.lookup,hb,aak (λ e:g=f=>hk (h.symm.trans e))]
    . have hb:(g == k)=false:=beq_eq_false_iff_ne.mpr h
      simp only [List.lookup,hb]
      exact ih
theorem jU (f:Str) (v:V):∀ fs:List (Str×V),f∈(bA f v fs).map (·.1)/\∀ g,g∈fs.map (·.1)->g∈(bA f v fs).map (·.1)
 | []=>⟨by simp [bA],λ g h=>by simp at h⟩
 | (k,x)::r=>by
   obtain ⟨i1,i2⟩:=jU f v r
   rw [show bA f v ((k,x)::r)=(if k=f then (k,v)::r else (k,x)::bA f v r) from rfl]
   by_cases hk:k=f
   . rw [aam hk]
     subst hk
     exact ⟨by simp,λ g h=>by simpa using h⟩
   .
    rw [aak hk]
    refine ⟨?_,λ g h=>?_⟩
    . rw [aaR]
      exact aaf _ i1
    . rw [aaR] at h ⊢
      rcases List.mem_cons.mp h with e|e
      . exact List.mem_cons.mpr (.inl e)
      . exact aaf _ (i2 g e)
theorem kn (f:Str) (v:V):∀ fs:List (Str×V),(bA f v fs).length<=fs.length+1
 | []=>by simp [bA]
 | (k,x)::r=>by
   have ih:=kn f v r
   rw [show bA f v ((k,x)::r)=(if k=f then (k,v)::r else (k,x)::bA f v r) from rfl]
   by_cases hk:k=f
   . rw [aam hk,aav,aav];lia
   . rw [aak hk,aav,aav];lia
theorem iJ.some_of {o:Option Value} (r:iJ (some v) o):∃ u,o=some u/\RelV v u:=by
 cases o with
 | none=>exact (show False from r).elim
 | some u=>exact ⟨u,rfl,r⟩
theorem iJ.none_of {o:Option Value} (r:iJ none o):o=none:=by
 cases o with
 | none=>rfl
 | some u=>exact (show False from r).elim
theorem ur (r:RelV v u):W.handedIn u=true:=by
 cases v with
 | cD=>cases (show u=Value.none from r);rfl
 | bl b=>cases (show u=Value.bool b from r);rfl
 | int i=>obtain ⟨t,e⟩:=(show ∃ t,u=Value.int i t from r);cases e;rfl
 | str x=>obtain ⟨t,e⟩:=(show ∃ t,u=Value.str x t from r);cases e;rfl
 | uy b=>obtain ⟨t,e⟩:=(show ∃ t,u=Value.bytes b t from r);cases e;rfl
 | AK b=>obtain ⟨t,e⟩:=(show ∃ t,u=Value.float b t from r);cases e;rfl
 | ref a=>cases (show u=Value.ref a from r);rfl
 | ty n=>cases (show u=Value.type n from r);rfl
section
variable {P:Program} {w:World} {H H':Hp} {h h':Heap} {a C dx:Addr} {fs fs':List (Str×V)}
theorem li (cg:jc P w H h) (e:H a=some (.ins C dx fs)):∃ mA,sO h a dx C mA/\(∀ f,iJ (fs.lookup f) (mA f))/\PySem.Within mA (fs.map (·.1))/\fs.length<=1000/\H dx=some (.own a):=by
 obtain ⟨d,z,ne,ob,mA,n,r,q⟩:=(show bX P w H h a (.ins C dx fs) from cg a _ e)
 exact ⟨mA,⟨ob,n,ne⟩,r,q,z,d⟩
end
structure tP (K:W.Frag) (C:Addr):Prop where
 pg:W.plainGet K C Str.empty=true
 hd:W.hasDictIn K C=true
 po:W.plainOver K C=true
 sa:W.findIn K (.ref C) "__setattr__" = some (some (.builtin "object.__setattr__"))
theorem tP.get {K:W.Frag} (c:tP K C) (f:Str):W.plainGet K C f=true:=c.pg
def eK (K:W.Frag) (C:Addr) (f:Str):Prop:=W.findIn K (.ref C) f=some none
theorem eK.FN {K:W.Frag} {f:Str} (n:eK K C f):W.takerIn K C f=some none:=by
 unfold W.takerIn
 rw [show W.findIn K (.ref C) f=some none from n]
 rfl
structure Meth (K:W.Frag) (C:Addr) (m:Str) (f:Addr):Prop where
 at_:W.findIn K (.ref C) m=some (some (.ref f))
 fn:W.isFn K (.ref f)=true
 kp:W.keepIn K (.ref f)=true
section
variable {X:Cx} {pins:List (Addr×Obj)} {U:St} {H:Hp} {s:Shared} {a C dx:Addr} {fs:List (Str×V)} {f:Str} {v:V} {A:Around} {E:Value->Shared->Prop}
theorem rn {b:Bool} {Q:Value->Shared->Prop} (I:Inv X pins U H s) (e:H a=some (.ins C dx fs)) (c:tP X.K C) (n:eK X.K C f) (l:fs.lookup f=some v) (h:∀ u s',Inv X pins U H s'->RelV v u->Q u s'):wpAny (model X.prog X.w) A (getAttr (.ref a) f b) Q E s:=by
 obtain ⟨mA,O,r,_,_,_⟩:=li I.cg e
 obtain ⟨u,hu,ru⟩:=iJ.some_of (v:=v) (o:=mA f) (by rw [← l];exact r f)
 exact get_map I.jt O (c.get f) c.hd n hu (ur ru) (h u _ (I.tok _) ru)
theorem lC {m:Str} {g:Addr} {pl:Sem Bool} {Q:Value×List Value->Shared->Prop} (I:Inv X pins U H s) (e:H a=some (.ins C dx fs)) (c:tP X.K C) (k:Meth X.K C m g) (l:fs.lookup m=none) (h:Q (.ref g,[.ref a]) s):wpAny (model X.prog X.w) A (getMethod (.ref a) m pl) Q E s:=by
 obtain ⟨mA,O,r,_,_,_⟩:=li I.cg e
 have hn:mA m=none:=iJ.none_of (by rw [← l];exact r m)
 exact xx I.jt O (c.get m) k.at_ k.fn hn h
theorem rg {y:V} {Q:Unit->Shared->Prop} (I:Inv X pins U H s) (e:H a=some (.ins C dx fs)) (c:tP X.K C) (n:eK X.K C f) (hl:fs.length<1000) (ry:RelV y u) (h:∀ s',Inv X pins U (upd H a (.ins C dx (bA f y fs))) s'->Q () s'):wpAny (model X.prog X.w) A (setAttr (.ref a) f u) Q E s:=by
 obtain ⟨mA,O,r,wi,_,ho⟩:=li I.cg e
 have hz:(fs.map (·.1)).length<=sizeLine:=by rw [be,sizeLine_eq];lia
 refine y8 I.jt O c.sa c.po n.FN c.hd wi hz λ h' O' sb=>h _ ?_
 have hd:∃ o,h'.get? dx=some o:=let ⟨o,_,_,e',_⟩:=O'.ns;⟨o,e'⟩
 refine I.write (x:=a) (e:=dx) (by rw [e];exact True.intro) (.inr ho) (λ b q hb z=>(sb.2 b hb).trans z) hd ?_
 refine ⟨by rw [aE O.ne];exact ho,?_,O.ne,O'.obj,_,O'.ns,λ g=>?_,λ g hg=>?_⟩
 . have:=kn f y fs;lia
 .
  show iJ ((bA f y fs).lookup g) (if g=f then some u else mA g)
  rw [kc]
  by_cases q:g=f
  . rw [aam q,aam q];exact ry
  . rw [aak q,aak q];exact r g
 .
  by_cases q:g=f
  . rw [q];exact (jU f y fs).1
  . refine (jU f y fs).2 g (wi g λ z=>hg ?_)
    show (if g=f then some u else mA g)=none
    rw [aak q];exact z
theorem Inv.made (I:Inv X pins U H s):Inv X pins U (upd (upd H s.heap.objs.size (.own (s.heap.objs.size+1))) (s.heap.objs.size+1) (.ins C s.heap.objs.size []))
   { s with heap:=(s.heap.push W.emptyDict).push (W.instObj C s.heap.objs.size)}:=by
 have e1:(s.heap.push W.emptyDict).get? s.heap.objs.size=some W.emptyDict:=aap s.heap rfl
 have e2:((s.heap.push W.emptyDict).push (W.instObj C s.heap.objs.size)).get? (s.heap.objs.size+1)=some (W.instObj C s.heap.objs.size):=by
   have:=aap (s.heap.push W.emptyDict) (o:=W.instObj C s.heap.objs.size) rfl
   rwa [acj] at this
 have e3:(s.heap.push W.emptyDict).Ns s.heap.objs.size (λ _=>none):=⟨W.emptyDict,#[],_,e1,rfl,(λ e he=>absurd he (by simp)),λ _=>rfl⟩
 have I1:=I.laid (a:=s.heap.objs.size) (o:=.own (s.heap.objs.size+1)) (h':=s.heap.push W.emptyDict) (t':=s.toks) (λ b u q=>Ux _ q) (Nt _) ⟨_,e1⟩
 refine I1.laid (a:=s.heap.objs.size+1) (o:=.ins C s.heap.objs.size []) (t':=s.toks) (λ b u q=>Ux _ q) (Nat.le_of_eq (acj _ _)) ?_
 have ne:s.heap.objs.size≠s.heap.objs.size+1:=aaA (acl _)
 refine ⟨by rw [aE ne,ag],aaH _,ne,e2,λ _=>none,(Heap.Ns1.of_empty e3).at λ o q=>Ux _ q,λ _=>True.intro,λ y hy=>absurd rfl hy⟩
theorem yE {prog:Program} {w:World} {env:Env} {e:Expr} {f:Str} {pos:Pos} {s:Shared} {Q:Value->Shared->Prop} (hb:attributeBase e f env (eval e env)=eval e env) (h:wpAny (model prog w) A (eval e env) (λ o s₁=>wpAny (model prog w) A (getAttr o f true) Q E s₁) E s):wpAny (model prog w) A (eval (.Attribute e f pos) env) Q E s :=
 Attribute_any_ h (by rw [arm_eval_Attribute,hb])
end
inductive D4 (K:W.Frag) (f:Str) (Q:VK) (x:V) (H1:Hp):Prop
 | mk (a C dx:Addr) (fs:List (Str×V)) (v:V) (h1:x = .ref a) (h2:H1 a=some (.ins C dx fs)) (h3:tP K C) (h4:eK K C f) (h5:fs.lookup f=some v) (q:Q v H1)
def Ry (K:W.Frag) (ta:TE) (f:Str):TE:=λ U H Q=>ta U H (D4 K f Q)
def Lv (K:W.Frag) (ta tv:TE) (f:Str):TS:=λ D U H=>tv U H λ y H1=>ta U H1 λ x H2=>∃ a C dx fs,x = .ref a/\H2 a=some (.ins C dx fs)/\tP K C/\eK K C f/\fs.length<1000 /\
 D.nx U (upd H2 a (.ins C dx (bA f y fs)))
section
variable {X:Cx} {o e value:Expr} {f:Str} {pos pos' rJ:Pos} {ta tv:TE}
theorem cr (he:PE X e ta) (hb:attributeBase e f X.env (eval e X.env)=eval e X.env):PE X (.Attribute e f pos) (Ry X.K ta f):=by
 intro pins s U H Q I h
 refine yE hb (ca (he pins s U H _ I h) λ u s1 ⟨x,H1,I1,rx,a,C,dx,fs,v,ex,ea,c,n,l,q⟩=>?_)
 subst ex
 obtain rfl:u=Value.ref a:=rx
 exact rn I1 ea c n l λ u' s2 I2 ru=>⟨v,H1,I2,ru,q⟩
theorem ia (ha:PE X o ta) (hv:PE X value tv) (hs:swapsWith value (some (.Attribute o f pos')) pos.line X.env=pure false):PS X (.Assign [.Attribute o f pos'] value pos) (Lv X.K ta tv f):=by
 intro pins s U H D I h
 refine plainObj_wpAny_Assign_Attribute (ca (hv pins s U H _ I h) λ u s1 ⟨y,H1,I1,ry,q⟩=>ca (ha pins s1 U H1 _ I1 q) λ ov s2 ⟨x,H2,I2,rx,a,C,dx,fs,ex,ea,c,n,l,q2⟩=>?_) hs
 subst ex
 obtain rfl:ov=Value.ref a:=rx
 exact rg I2 ea c n l ry λ s3 I3=>⟨U,_,I3,q2⟩
end
section
variable {X:Cx} {pins:List (Addr×Obj)} {U:St} {H:Hp} {s:Shared} {A:Around} {E:Value->Shared->Prop} {Q:Value->Shared->Prop} {c:Value} {b:Bool}
inductive jm (K:W.Frag) (H:Hp):V->Value->Prop where
 | cD:jm K H .cD (.type "NoneType")
 | bl (x:Bool):jm K H (.bl x) (.type "bool")
 | int (i:Int):jm K H (.int i) (.type "int")
 | str (x:Str):jm K H (.str x) (.type "str")
 | AK (x:UInt64):jm K H (.AK x) (.type "float")
 | lst {a:Addr} {xs:List V} (e:H a=some (.lst xs)):jm K H (.ref a) (.type "list")
 | rN {a:Addr} {o:Obj} {xs:List V} (e:H a=some (.rN o (.lst xs))):jm K H (.ref a) (.type "list")
 | tup {a:Addr} {xs:List V} (e:H a=some (.tup xs)):jm K H (.ref a) (.type "tuple")
 | dK {a:Addr} {aL:List (Key×V)} (e:H a=some (.dK aL)):jm K H (.ref a) (.type "dict")
 | dT {a:Addr} {aL:List (List Key×V)} (e:H a=some (.dT aL)):jm K H (.ref a) (.type "dict")
 | ins {a C dx:Addr} {fs:List (Str×V)} (e:H a=some (.ins C dx fs)) (cl:tP K C) (ha:W.findIn K (.ref C) "__class__" = some (some (.builtin "object.__class__")))
     (hn:W.specialIn K (.builtin "object.__class__") "__get__" = some (some (.builtin "getset_descriptor.__get__"))) (Ud:W.takesIn K (.builtin "object.__class__")=some true)
     (hm:W.mroIn K C (.type "object")=some true):jm K H (.ref a) (.ref C)
theorem ue {x:V} {t:Value} (I:Inv X pins U H s) (rx:RelV x u) (ty:jm X.K H x t) (e:W.kitOne X.K t c=some b) (h:∀ tk,Q (.bool b) { s with toks:=tk }) :
   wpAny (model X.prog X.w) A (call (.builtin "isinstance") [u,c]) Q E s:=by
 cases ty with
 | cD=>cases (show u=Value.none from rx);exact abD W.kitx_none I.jt True.intro e (λ z=>nomatch z) h
 | bl y=>cases (show u=Value.bool y from rx);exact abD W.kitx_bool I.jt True.intro e (λ z=>nomatch z) h
 | int i=>obtain ⟨t,q⟩:=(show ∃ t,u=Value.int i t from rx);cases q;exact abD W.kitx_int I.jt True.intro e (λ z=>nomatch z) h
 | str y=>obtain ⟨t,q⟩:=(show ∃ t,u=Value.str y t from rx);cases q;exact abD W.kitx_str I.jt True.intro e (λ z=>nomatch z) h
 | AK y=>obtain ⟨t,q⟩:=(show ∃ t,u=Value.float y t from rx);cases q;exact abD W.kitx_float I.jt True.intro e (λ z=>nomatch z) h
 | @lst a xs ea =>
   cases (show u=Value.ref a from rx)
   obtain ⟨_,_,n,_,h1⟩:=(show bX X.prog X.w H s.heap a (.lst xs) from I.cg a _ ea)
   exact abD W.kitx_list I.jt ⟨_,h1,rfl⟩ e (λ z=>nomatch z) h
 | @rN a ob xs ea =>
   cases (show u=Value.ref a from rx)
   obtain ⟨_,_,_,n,_,h1⟩:=(show bX X.prog X.w H s.heap a (.rN ob (.lst xs)) from I.cg a _ ea)
   exact abD W.kitx_list I.jt ⟨_,h1,rfl⟩ e (λ z=>nomatch z) h
 | @tup a xs ea =>
   cases (show u=Value.ref a from rx)
   obtain ⟨_,_,_,p⟩:=(show bX X.prog X.w H s.heap a (.tup xs) from I.cg a _ ea)
   obtain ⟨o,h1,h2,_⟩:=p
   exact abD W.kitx_tuple I.jt ⟨o,h1,h2⟩ e (λ z=>nomatch z) h
 | @dK a aL ea =>
   cases (show u=Value.ref a from rx)
   obtain ⟨_,_,vs,_,p⟩:=(show bX X.prog X.w H s.heap a (.dK aL) from I.cg a _ ea)
   obtain ⟨o,es,ep,h1,h2,_⟩:=p
   exact abD W.kitx_dict I.jt ⟨o,h1,h2.1⟩ e (λ z=>nomatch z) h
 | @dT a aL ea =>
   cases (show u=Value.ref a from rx)
   obtain ⟨_,_,xs,_,o,es,ep,h1,h2,_⟩:=(show bX X.prog X.w H s.heap a (.dT aL) from I.cg a _ ea)
   exact abD W.kitx_dict I.jt ⟨o,h1,h2.1⟩ e (λ z=>nomatch z) h
 | @ins a C dx fs ea cl ha hn Ud hm =>
   cases (show u=Value.ref a from rx)
   obtain ⟨mA,O,_⟩:=li I.cg ea
   obtain ⟨od,J,_⟩:=O.look
   exact abD (W.kitx_own (cl.get _) cl.hd ha hn Ud hm) I.jt J e (λ z=>nomatch z) h
end
structure ce (k:Nat) (A:Around):Prop where
 hd:A.handled=none
 dp:A.depth+3 * k+5<recursionLimit
 un:A.units+16 * k+200<cLine
theorem ce.mono {k:Nat} {A:Around} (r:ce k A) (h:j<=k):ce j A:=⟨r.hd,by have:=r.dp;lia,by have:=r.un;lia⟩
theorem ce.deeper {k:Nat} {A:Around} (r:ce (k+1) A) (env:Env):ce k (A.deeper env) :=
 ⟨r.hd,by have:=r.dp;show A.depth+1+3 * k+5<_;lia,by have:=r.un;show A.units+3+16 * k+200<_;lia⟩
theorem rX {A:Around} {kw:List (Str×Value)}:(A.under (.builtin "type.__call__" ⟨.ref C::us,kw⟩)).depth=A.depth+1:=by
 first|rfl|simp [Around.under,Code.weight,Code.isCreation,Code.isGuard,Code.isCaller,Code.frames,Code.isFrame,guardIds]
theorem sH {A:Around} {kw:List (Str×Value)}:(A.under (.builtin "type.__call__" ⟨.ref C::us,kw⟩)).units=A.units+1:=by
 first|rfl|simp [Around.under,Code.cUnits,Code.frames,Code.isFrame]
theorem ce.make {k:Nat} {A:Around} (r:ce (k+1) A) (C:Addr) (us:List Value) (kw:List (Str×Value)):ce k (A.under (.builtin "type.__call__" ⟨.ref C::us,kw⟩)) :=
 ⟨r.hd,by have:=r.dp;rw [rX];lia,by have:=r.un;rw [sH];lia⟩
theorem ce.depth {k:Nat} {A:Around} (r:ce k A):A.depth<recursionLimit:=by have:=r.dp;lia
theorem ce.units {k:Nat} {A:Around} (r:ce k A):A.units+64<cLine:=by have:=r.un;lia
def fA:TA:=λ _ H Q=>Q [] H
def cf (ta:TE) (tr:TA):TA:=λ U H Q=>ta U H λ x H1=>tr U H1 λ xs H2=>Q (x::xs) H2
section
variable {X:Cx} {e:Expr} {es:List Expr} {te:TE} {t:TA} {pos:Pos}
theorem af:PA X [] fA:=λ _ _ _ _ H Q I h=>abU ⟨[],H,I,.nil,h⟩
theorem aa (ha:PE X e te) (hr:PA X es t) (hs:starEach (e::es) X.env=(false,eval e X.env)::starEach es X.env:=by rfl):PA X (e::es) (cf te t):=by
 intro pos pins s U H Q I h
 rw [hs]
 show wpAny _ _ (spliced ((false,eval e X.env)::backTo pos (starEach es X.env))) _ _ s
 refine abI (ca (ha pins s U H _ I h) λ u s1 ⟨x,H1,I1,r1,q1⟩=>?_)
 exact ca (hr pos pins s1 U H1 _ I1 q1) λ us s2 ⟨xs,H2,I2,r2,q2⟩=>⟨x::xs,H2,I2,.cons r1 r2,q2⟩
def HK (t:TA):TE:=λ U H Q=>t U H λ xs H1=>xs.length<=sizeLine/\∀ p,H1 p=none->Q (.ref p) (upd H1 p (.tup xs))
def Oq (t:TA):TE:=λ U H Q=>t U H λ xs H1=>xs.length<=sizeLine/\∀ p,H1 p=none->Q (.ref p) (upd H1 p (.lst xs))
theorem cL {x1} (h:PA X es t):PE X (.Tuple es x1 pos) (HK t):=by
 intro pins s U H Q I hq
 refine wpAny_Tuple_spliced (ca (h pos pins s U H _ I hq) λ us s1 ⟨xs,H1,I1,r,z,q⟩=>⟨by rw [← r.length];exact z,?_⟩)
 have hf:H1 s1.heap.objs.size=none:=I1.cg.fresh (Nt _)
 refine ⟨.ref s1.heap.objs.size,upd H1 s1.heap.objs.size (.tup xs),I1.laid (t':=s1.toks) (λ b u e=>Ux _ e) (Nt _) ?_,rfl,q _ hf⟩
 exact ⟨z,us,r,⟨_,aap _ rfl,rfl,_,rfl⟩⟩
theorem br (h:PA X es t):PE X (.List es pos) (Oq t):=by
 intro pins s U H Q I hq
 refine wpAny_List_spliced (ca (h pos pins s U H _ I hq) λ us s1 ⟨xs,H1,I1,r,z,q⟩=>⟨by rw [← r.length];exact z,?_⟩)
 have hf:H1 s1.heap.objs.size=none:=I1.cg.fresh (Nt _)
 refine ⟨.ref s1.heap.objs.size,upd H1 s1.heap.objs.size (.lst xs),I1.laid (t':=s1.toks) (λ b u e=>Ux _ e) (Nt _) ?_,rfl,q _ hf⟩
 exact ⟨z,us,0,r,aap _ rfl⟩
end
abbrev Sp:=List V->Hp->VK->XK->Prop
abbrev x4:=List Env->Hp->Shared->XK->Value->Shared->Prop
structure sg (P:Program) (w:World) (K:W.Frag) (mg:Str->Option Value) (base:Heap) (A:Around) (outer:List Env) (s:Shared) (H:Hp):Prop where
 frames:A.frames=some outer
 mod:Mod K mg base
 bs:∀ b o,base.get? b=some o->s.heap.get? b=some o/\H b=none
 AV:base.objs.size<=s.heap.objs.size
 kz:s.heap.FunFrames base outer
 Bz:∀ b∈vk outer,H b=none
 cg:jc P w H s.heap
 bare:AllBare s.gens
def CE (outer:List Env) (P:Program) (w:World) (H:Hp) (s:Shared) (Q:VK) (u:Value) (s':Shared):Prop :=
 ∃ v H',s'.os=s.os/\AllBare s'.gens/\Un (vk outer) [] H H' s.heap s'.heap/\jc P w H' s'.heap/\RelV v u/\Q v H'
def CR (CX:x4) (outer:List Env) (P:Program) (w:World) (H:Hp) (s:Shared) (Q:VK) (E:XK) (r:Result) (s':Shared):Prop :=
 match r with
 | .ok (.ret u)=>CE outer P w H s Q u s'
 | .ok _=>False
 | .error e=>CX outer H s E e s'
structure iI (P:Program) (w:World) (K:W.Frag) (mg:Str->Option Value) (base:Heap) (CX:x4) (k:Nat) (f:Addr) (fd:FuncData) (ps:List Str) (sp:Sp):Prop where
 len:∀ vs H Q E,sp vs H Q E->vs.length=ps.length
 run:∀ (A:Around) (outer:List Env) (s:Shared) (H:Hp) (args:Args) (us:List Value) (vs:List V) (Q:VK) (E:XK),ce k A->sg P w K mg base A outer s H->BindsTo s fd args (ps.zip us)->Vals vs us->sp vs H Q E ->
   codeAny (model P w) A (.call (.ref f) args) (CR CX outer P w H s Q E) s
theorem sg.make {P:Program} {w:World} {K:W.Frag} {mg:Str->Option Value} {base:Heap} {A:Around} {outer:List Env} {s:Shared} (e:sg P w K mg base A outer s H) (C:Addr) (us:List Value) (kw:List (Str×Value)) :
   sg P w K mg base (A.under (.builtin "type.__call__" ⟨.ref C::us,kw⟩)) outer s H:=⟨by first|exact e.frames|(simpa [Around.under,Code.envs,Code.isFrame,pushEnvs] using e.frames),e.mod,e.bs,e.AV,e.kz,e.Bz,e.cg,e.bare⟩
section
variable {X:Cx} {pins:List (Addr×Obj)} {U:St} {H:Hp} {s s':Shared}
theorem Inv.Fh (I:Inv X pins U H s):sg X.prog X.w X.K X.mg X.base X.A X.stack s H :=
 ⟨I.ok.frames,I.ok.mod,I.bs,aaO I.ok.AV I.sz,I.stack,I.tJ,I.cg,I.bare⟩
theorem Inv.after (I:Inv X pins U H s) (h:CE X.stack X.prog X.w H s Q u s'):EP X pins U Q u s':=by
 obtain ⟨v,H',os,bare,un,cg,r,q⟩:=h
 obtain ⟨hh,g,d,t,XC⟩:=s'
 obtain rfl:XC=s.os:=os
 exact ⟨v,H',I.call (h':=hh) (g':=g) (d':=d) (t':=t) (ch:=[]) un cg bare (λ b z=>absurd z (by simp)),r,q⟩
end
def iq (sp:Sp) (fu:List V) (E:XK) (t:TA):TE:=λ U H Q=>t U H λ vs H1=>sp (vs++fu) H1 Q E
inductive BW (C:Addr) (m:Str) (sp:Sp) (fu:List V) (E:XK) (t:TA) (U:St) (Q:VK) (x:V) (H1:Hp):Prop
 | mk (a dx:Addr) (fs:List (Str×V)) (h1:x = .ref a) (h2:H1 a=some (.ins C dx fs)) (h3:fs.lookup m=none) (q:t U H1 λ vs H2=>sp (x::(vs++fu)) H2 Q E)
def qr (C:Addr) (m:Str) (sp:Sp) (fu:List V) (E:XK) (ta:TE) (t:TA):TE:=λ U H Q=>ta U H (BW C m sp fu E t U Q)
def nN (C:Addr) (sp:Sp) (fu:List V) (E:XK) (t:TA):TE:=λ U H Q=>t U H λ vs H1=>∀ x dx,H1 x=none->H1 dx=none->dx≠x ->
 sp (.ref x::(vs++fu)) (upd (upd H1 dx (.own x)) x (.ins C dx [])) (λ v H2=>v = .cD/\Q (.ref x) H2) E
def Binds (K:W.Frag) (fd:FuncData) (ps:List Str) (ds:List Value):Prop :=
 ∀ (s:Shared) (us:List Value),K.In s.heap->(us++ds).length=ps.length->BindsTo s fd ⟨us,[]⟩ (ps.zip (us++ds))
theorem Binds.all {K:W.Frag} {fd:FuncData} {ps:List Str} (h:∀ us:List Value,us.length=ps.length->bindArgs fd ⟨us,[]⟩=pure (ps.zip us)):Binds K fd ps []:=λ s us _ hl=>by
 rw [aar] at hl ⊢
 exact .of_eq (h us hl)
def Passes (CX:x4) (X:Cx) (E:XK):Prop:=∀ (pins:List (Addr×Obj)) (U:St) (H:Hp) (s:Shared) (e:Value) (s':Shared),Inv X pins U H s->CX X.stack H s E e s'->X.xe e s'
section
variable {X:Cx} {CX:x4} {k:Nat} {f C:Addr} {fd:FuncData} {ps:List Str} {sp:Sp} {fu:List V} {ds:List Value} {E:XK} {x m:Str} {p pos apos:Pos} {e o:Expr} {es:List Expr} {ta:TE} {t:TA}
theorem sJ {s:Shared} {vs:List V} (F:iI X.prog X.w X.K X.mg X.base CX k f fd ps sp) (hr:ce k X.A) (hb:Binds X.K fd ps ds) (hd:Vals fu ds) (hx:Passes CX X E) (I:Inv X pins U H s) (r:Vals vs us) (h:sp (vs++fu) H Q E):wpAny (model X.prog X.w) X.A (call (.ref f) us) (EP X pins U Q) X.xe s:=by
 have r2:Vals (vs++fu) (us++ds):=r.append hd
 have hl:(us++ds).length=ps.length:=by rw [← r2.length];exact F.len _ _ _ _ h
 refine wpAny_call (acF (F.run X.A X.stack s H ⟨us,[]⟩ (us++ds) (vs++fu) Q E hr I.Fh (hb s us I.jt hl) r2 h) λ r s' hq=>?_)
 cases r with
 | error e=>exact hx pins U H s e s' I hq
 | ok fl =>
   cases fl with
   | ret u=>exact I.after hq
   | next=>exact False.elim hq
   | brk=>exact False.elim hq
   | cont=>exact False.elim hq
theorem ym (F:iI X.prog X.w X.K X.mg X.base CX k f fd ps sp) (hr:ce k X.A) (hg:Gl X x) (hm:X.mg x=some (.ref f)) (hk:W.keepIn X.K (.ref f)=true) (hb:Binds X.K fd ps ds) (hd:Vals fu ds) (hx:Passes CX X E) (ha:PA X (e::es) t) (oN:(x == ("__debug__" : Str))=false:=by decide) (he:starEach (e::es) X.env=(false,eval e X.env)::starEach es X.env:=by rfl) (hC:(backTo pos (starEach es X.env)).any (·.1)=false:=by rfl) :
   PE X (.Call (.Name x p) (e::es) [] pos) (iq sp fu E t):=by
 intro pins s U H Q I h
 refine abe (kS I hg hm ?_ oN)
 refine W.callWith_K (h₀:=X.base) I.ok.mod.DN hk (ca (ha pos pins s U H _ I h) λ us s1 ⟨vs,H1,I1,r,q⟩=>⟨I1.jt,?_⟩) he hC
 exact sJ F hr hb hd hx I1 r q
theorem Aj {pl:Sem Bool} (he:PE X o ta) (c:tP X.K C) (hm:Meth X.K C m f) (F:iI X.prog X.w X.K X.mg X.base CX k f fd ps sp) (hr:ce k X.A) (hb:Binds X.K fd ps ds) (hd:Vals fu ds) (hx:Passes CX X E) (ha:PA X (e::es) t) (oJ:starEach (e::es) X.env=(false,eval e X.env)::starEach es X.env:=by rfl) (hC:(backTo pos (starEach es X.env)).any (·.1)=false:=by rfl) (ht:eval (.Call (.Attribute o m apos) (e::es) [] pos) X.env=(do
     let ov ← eval o X.env
     standAt apos.atName
     let (f,first) ← holding [ov] (getMethod ov m pl)
     callWith pos f first (backTo pos (starEach (e::es) X.env)) (backToKw pos (keywordEach [] X.env))):=by rfl) :
   PE X (.Call (.Attribute o m apos) (e::es) [] pos) (qr C m sp fu E ta t):=by
 intro pins s U H Q I h
 refine W.methodCall_KW (pl:=pl) (ca (he pins s U H _ I h) λ u s1 ⟨x,H1,I1,rx,a,dx,fs,ex,ea,l,q⟩=>?_) ht
 subst ex
 obtain rfl:u=Value.ref a:=rx
 refine lC I1 ea c hm l ?_
 refine W.callWith_K (first:=[.ref a]) (h₀:=X.base) I.ok.mod.DN hm.kp (ca (ha pos pins s1 U H1 _ I1 q) λ us s2 ⟨vs,H2,I2,r,q2⟩=>⟨I2.jt,?_⟩) oJ hC
 exact sJ (us:=.ref a::us) (vs:=.ref a::vs) F hr hb hd hx I2 (.cons rfl r) q2
theorem xf {pl:Sem Bool} (he:PE X o ta) (c:tP X.K C) (hm:Meth X.K C m f) (F:iI X.prog X.w X.K X.mg X.base CX k f fd ps sp) (hr:ce k X.A) (hb:Binds X.K fd ps ds) (hd:Vals fu ds) (hx:Passes CX X E) (ht:eval (.Call (.Attribute o m apos) [] [] pos) X.env=(do
     let ov ← eval o X.env
     standAt apos.atName
     let (f,first) ← holding [ov] (getMethod ov m pl)
     callWith pos f first (backTo pos (starEach [] X.env)) (backToKw pos (keywordEach [] X.env))):=by rfl) :
   PE X (.Call (.Attribute o m apos) [] [] pos) (qr C m sp fu E ta fA):=by
 intro pins s U H Q I h
 refine W.methodCall_KW (pl:=pl) (ca (he pins s U H _ I h) λ u s1 ⟨x,H1,I1,rx,a,dx,fs,ex,ea,l,q⟩=>?_) ht
 subst ex
 obtain rfl:u=Value.ref a:=rx
 refine lC I1 ea c hm l ?_
 exact W.callWith_K0 (first:=[.ref a]) I1.jt hm.kp (sJ (us:=[.ref a]) (vs:=[.ref a]) F hr hb hd hx I1 (.cons rfl .nil) q)
structure Mk (K:W.Frag) (C f:Addr):Prop where
 makes:W.makesIn K C=true
 init:W.findIn K (.ref C) "__init__" = some (some (.ref f))
 fn:W.isFn K (.ref f)=true
 kp:W.keepIn K (.ref C)=true
theorem pc {s:Shared} {vs:List V} (M:Mk X.K C f) (F:iI X.prog X.w X.K X.mg X.base CX k f fd ps sp) (hr:ce (k+1) X.A) (hb:Binds X.K fd ps ds) (hd:Vals fu ds) (hx:Passes CX X E) (I:Inv X pins U H s) (r:Vals vs us) (h:∀ x dx,H x=none->H dx=none->dx≠x->sp (.ref x::(vs++fu)) (upd (upd H dx (.own x)) x (.ins C dx [])) (λ v H2=>v = .cD/\Q (.ref x) H2) E) :
   wpAny (model X.prog X.w) X.A (call (.ref C) us) (EP X pins U Q) X.xe s:=by
 have hq:=h (s.heap.objs.size+1) s.heap.objs.size (I.cg.fresh (ab0 _)) (I.cg.fresh (Nt _)) (aaA (acl _))
 have I2:=Inv.made (C:=C) I
 have r2:Vals (V.ref (s.heap.objs.size+1)::(vs++fu)) (Value.ref (s.heap.objs.size+1)::(us++ds)):=.cons rfl (r.append hd)
 have hl:(Value.ref (s.heap.objs.size+1)::us++ds).length=ps.length:=by
   have e:=r2.length
   rw [F.len _ _ _ _ hq] at e
   exact e.symm
 refine wpAny_call (wk (f:=f) I.jt M.makes M.init (beq_iff_eq.mp M.fn) (acF (F.run _ X.stack _ _ ⟨Value.ref (s.heap.objs.size+1)::us,[]⟩ (Value.ref (s.heap.objs.size+1)::(us++ds)) _ _ E (hr.make C us [])
   (I2.Fh.make C us []) (hb _ (Value.ref (s.heap.objs.size+1)::us) I2.jt hl) r2 hq) λ r s' Ge=>?_))
 cases r with
 | error e=>exact hx pins U _ _ e s' I2 Ge
 | ok fl =>
   cases fl with
   | ret u =>
     obtain ⟨v,H',I3,rv,ev,q3⟩:=I2.after Ge
     subst ev
     exact ⟨rv,⟨V.ref (s.heap.objs.size+1),H',I3,rfl,q3⟩⟩
   | next=>exact False.elim Ge
   | brk=>exact False.elim Ge
   | cont=>exact False.elim Ge
theorem zv (M:Mk X.K C f) (F:iI X.prog X.w X.K X.mg X.base CX k f fd ps sp) (hr:ce (k+1) X.A) (hg:Gl X x) (hm:X.mg x=some (.ref C)) (hb:Binds X.K fd ps ds) (hd:Vals fu ds) (hx:Passes CX X E) (ha:PA X (e::es) t) (oN:(x == ("__debug__" : Str))=false:=by decide) (he:starEach (e::es) X.env=(false,eval e X.env)::starEach es X.env:=by rfl) (hC:(backTo pos (starEach es X.env)).any (·.1)=false:=by rfl) :
   PE X (.Call (.Name x p) (e::es) [] pos) (nN C sp fu E t):=by
 intro pins s U H Q I h
 refine abe (kS I hg hm ?_ oN)
 refine W.callWith_K (h₀:=X.base) I.ok.mod.DN M.kp (ca (ha pos pins s U H _ I h) λ us s1 ⟨vs,H1,I1,r,q⟩=>⟨I1.jt,?_⟩) he hC
 exact pc M F hr hb hd hx I1 r q
theorem vE (M:Mk X.K C f) (F:iI X.prog X.w X.K X.mg X.base CX k f fd ps sp) (hr:ce (k+1) X.A) (hg:Gl X x) (hm:X.mg x=some (.ref C)) (hb:Binds X.K fd ps ds) (hd:Vals fu ds) (hx:Passes CX X E) (oN:(x == ("__debug__" : Str))=false:=by decide):PE X (.Call (.Name x p) [] [] pos) (nN C sp fu E fA):=by
 intro pins s U H Q I h
 refine abe (kS I hg hm ?_ oN)
 exact W.callWith_K0 I.jt M.kp (pc (us:=[]) M F hr hb hd hx I .nil h)
end
section
variable {X:Cx} {CX:x4} {k:Nat} {f C:Addr} {fd:FuncData} {ps ks:List Str} {sp:Sp} {E:XK} {x m:Str} {p pos apos XQ:Pos} {e o:Expr} {es:List Expr} {kws:List Keyword} {te ta:TE} {t tk:TA} {nm:Option Str}
variable {g:List Value->List Value->List Value} {gV:List V->List V->List V}
end
structure aC (N P:List Str) (sc:Scope):Prop where
 kind:sc.kind = .function
 co:sc.isCoroutine=false
 gen:sc.isGenerator=false
 nd:N.Nodup
 pre:N.take P.length=P
 par:∀ x∈P,sc.names.lookup x=some .local∨sc.names.lookup x=some .cell
 CW:∀ y∈sc.names,y.2 ≠ .free
theorem ni {kindOf:Str->Option NameKind} {x:Str}:∀ {binds:List (Str×Value)} {m:Str->Option Value},(∀ v,(x,v)∉binds)->bindL kindOf binds m x=m x
 | [],_,_=>rfl
 | (n,v)::r,m,h=>by
   unfold bindL
   rw [ni λ w hw=>h w (aaf _ hw)]
   split
   . have:x≠n:=by rintro rfl;exact h v aae
     simp [this]
   . rfl
theorem nF {kindOf:Str->Option NameKind} {x:Str}:∀ {binds:List (Str×Value)} {m:Str->Option Value},(∀ v,(x,v)∉binds)->bindC kindOf binds m x=m x
 | [],_,_=>rfl
 | (n,v)::r,m,h=>by
   unfold bindC
   rw [nF λ w hw=>h w (aaf _ hw)]
   split
   . rfl
   . have:x≠n:=by rintro rfl;exact h v aae
     simp [this]
theorem nE {kindOf:Str->Option NameKind} {x:Str} {v:Value}:∀ {P:List Str} {vs:List Value} {i:Nat} {m:Str->Option Value},P.Nodup->P[i]?=some x->vs[i]?=some v->kindOf x=some .local ->
   bindL kindOf (P.zip vs) m x=some v
 | [],_,_,_,_,h,_,_=>by simp at h
 | _::_,[],_,_,_,_,h,_=>by simp at h
 | p::P,w::vs,0,m,nd,h1,h2,hk=>by
   simp at h1 h2;subst h1;subst h2
   show bindL kindOf ((p,w)::P.zip vs) m p=_
   unfold bindL
   rw [ni λ v hv=>(List.nodup_cons.mp nd).1 (acu hv).1,aam hk]
   simp
 | p::P,w::vs,i+1,m,nd,h1,h2,hk=>by
   show bindL kindOf ((p,w)::P.zip vs) m x=_
   unfold bindL
   exact nE (i:=i) (List.nodup_cons.mp nd).2 (by simpa using h1) (by simpa using h2) hk
theorem ng {kindOf:Str->Option NameKind} {x:Str} {v:Value}:∀ {P:List Str} {vs:List Value} {i:Nat} {m:Str->Option Value},P.Nodup->P[i]?=some x->vs[i]?=some v->kindOf x≠some .local ->
   bindC kindOf (P.zip vs) m x=some v
 | [],_,_,_,_,h,_,_=>by simp at h
 | _::_,[],_,_,_,_,h,_=>by simp at h
 | p::P,w::vs,0,m,nd,h1,h2,hk=>by
   simp at h1 h2;subst h1;subst h2
   show bindC kindOf ((p,w)::P.zip vs) m p=_
   unfold bindC
   rw [nF λ v hv=>(List.nodup_cons.mp nd).1 (acu hv).1,aak hk]
   simp
 | p::P,w::vs,i+1,m,nd,h1,h2,hk=>by
   show bindC kindOf ((p,w)::P.zip vs) m x=_
   unfold bindC
   exact ng (i:=i) (List.nodup_cons.mp nd).2 (by simpa using h1) (by simpa using h2) hk
def start (N:List Str) (vs:List V):St:=vs.map some++List.replicate (N.length - vs.length) none
def kO (CX:x4) (P:Program) (w:World) (K:W.Frag) (mg:Str->Option Value) (base:Heap) (N:List Str) (qual:Str) (scope:Scope) (f:Addr) (cd:Value) (A:Around) (outer:List Env) (s:Shared) (H:Hp) (E:XK):Cx where
 prog:=P
 w:=w
 K:=K
 mg:=mg
 base:=base
 A:=A.deeper (envOfC qual scope s.heap.objs.size f cd)
 N:=N
 s₀:=s
 H₀:=H
 env:=envOfC qual scope s.heap.objs.size f cd
 outer:=outer
 stack:=envOfC qual scope s.heap.objs.size f cd::outer
 ex:=[]
 calm:=true
 fn:=λ _=>true
 pn:=[]
 xe:=λ e s'=>wpAny (model P w) (A.deeper (envOfC qual scope s.heap.objs.size f cd)) (leaving (envOfC qual scope s.heap.objs.size f cd) e) (λ _ SW=>CX outer H s E e SW) (λ e' SW=>CX outer H s E e' SW) s'
theorem qp {sc:Scope} {n:Nat} {x:Str} (h:sc.names.lookup x=some .cell):∃ c,(cellsFrom n sc.names []).lookup x=some c:=by
 have q:=W.cellsFrom_some sc.names n [] (.inl h)
 exact Option.isSome_iff_exists.mp q
theorem uR {CX:x4} {P:Program} {w:World} {K:W.Frag} {mg:Str->Option Value} {base:Heap} {N ps:List Str} {scope:Scope} {f:Addr} {cd:Value} {A:Around} {outer:List Env} {s s1:Shared} {E:XK} {vs:List V} (S:aC N ps scope) (hd:A.handled=none) (e0:sg P w K mg base A outer s H) (hl:vs.length=ps.length) (r:Vals vs us) (x:InCallC s s.heap.objs.size (bindL (envOfC qual scope s.heap.objs.size f cd).kindOf (ps.zip us) λ _=>none) (cellsFrom (s.heap.objs.size+1) scope.names []) (bindC (envOfC qual scope s.heap.objs.size f cd).kindOf (ps.zip us) λ _=>none) s1) :
   Inv (kO CX P w K mg base N qual scope f cd A outer s H E) [] (start N vs) H s1:=by
 have hC:ps.length<=N.length:=by have:=aaV List.length S.pre;rw [aal] at this;lia
 obtain ⟨h1,tk,rfl,hk⟩:=x.done
 have DK:∀ b:Addr,b∉(kO CX P w K mg base N qual scope f cd A outer s H E).ex:=λ b z=>absurd (show b∈([]:List Addr) from z) (by simp)
 refine ⟨⟨e0.mod,S.kind,rfl,rfl,Nt _,λ y z c h1 h2=>?_,λ y hy=>?_,λ y c _ h=>?_,λ _=>hd,Around.frames_deeper e0.frames,.inr ⟨rfl,rfl⟩,λ b z=>absurd z (DK b),e0.bs,e0.AV,λ b _ _=>DK b,λ b z=>absurd z (DK b),e0.kz,e0.Bz⟩,
   rfl,e0.bare,Un.kept hk,⟨_,x.toInCall.ns,λ i y v h1 h2 h3=>?_⟩,λ y c h=>⟨_,x.cell y c h⟩,e0.cg.fresh (Nt _),λ y c h=>?_,λ p hp=>absurd (show p∈([]:List (Addr×Obj)) from hp) (by simp),e0.cg.kept hk,?_⟩
 . exact name_of_addr x.apart (aa9 h1) (aa9 h2)
 .
  have hy:scope.names.lookup y=some .cell∨scope.names.lookup y=some .free:=hy
  rcases hy with hy|hy
  . exact qp hy
  . exact absurd rfl (S.CW _ (aa9 hy))
 . exact aag (x.above y c (aa9 h))
 .
  have hi:i<vs.length:=by
    unfold start at h2
    by_cases hi:i<vs.length
    . exact hi
    . rw [aaw (by simpa using hi)] at h2
      rw [acR] at h2
      split at h2<;>cases h2
  have ha:vs[i]?=some v:=by
    unfold start at h2
    rw [aaK (by simpa using hi),Et] at h2
    cases e:vs[i]? with
    | none=>rw [e] at h2;cases h2
    | some a=>rw [e] at h2;cases h2;rfl
  obtain ⟨u,hu,rv⟩:=r.get ha
  have hp:ps[i]?=some y:=by
    rw [← S.pre,List.getElem?_take_of_lt (by lia)];exact h1
  have Vs:ps.Nodup:=by rw [← S.pre];exact S.nd.sublist (List.take_sublist _ _)
  refine ⟨u,rv,?_⟩
  rcases S.par y (aaL hp) with k|k
  . exact .inl ⟨k,nE Vs hp hu k⟩
  .
   obtain ⟨c,e⟩:=qp (n:=s.heap.objs.size+1) k
   refine .inr ⟨.inl k,c,e,?_⟩
   have q:=x.cell y c e
   rw [ng Vs hp hu (by show scope.names.lookup y≠_;rw [k];decide)] at q
   exact q
 . exact e0.cg.fresh (aag (x.above y c (aa9 h)))
 .
  unfold start
  show _=N.length
  rw [rT,be,aa5]
  lia
theorem AL {CX:x4} {P:Program} {w:World} {K:W.Frag} {mg:Str->Option Value} {base:Heap} {k:Nat} {f:Addr} {name:Str} {params:Arguments} {body:List Stmt} {scope:Scope} {dV kV doc pm bD ct oc:Value} {an od:Option Addr} {qz:Array (Option Value)} {N ps:List Str} {sp:Sp} (lk:K.lookup f=some ⟨oc,od,.func (W.fnOf name qual params body scope dV kV doc pm an bD ct),qz⟩) (qV:W.codeIn K bD qual=true) (S:aC N ps scope) (len:∀ vs H Q E,sp vs H Q E->vs.length=ps.length) (dX:∀ (A:Around) (outer:List Env) (s:Shared) (H:Hp) (vs:List V) (Q:VK) (E:XK),ce k (A.deeper (envOfC qual scope s.heap.objs.size f bD))->sp vs H Q E ->
     ∃ t,ny (kO CX P w K mg base N qual scope f bD A outer s H E) body t/\t { nx:=λ _ H'=>Q .cD H',rt:=Q } (start N vs) H) :
   iI P w K mg base CX (k+1) f (W.fnOf name qual params body scope dV kV doc pm an bD ct) ps sp:=by
 refine ⟨len,λ A outer s H args us vs Q E hr e0 hb r Bf=>?_⟩
 have hl:=len _ _ _ _ Bf
 have KX:K.In s.heap:=e0.mod.DN.keeps λ b o e=>(e0.bs b o e).1
 have lim:s.heap.NoLimit:=e0.mod.nolimit.keeps λ b o e=>(e0.bs b o e).1
 have Gc:∀ y∈ps.zip us,scope.names.lookup y.1=some .local∨(scope.names.lookup y.1=some .cell/\((cellsFrom (s.heap.objs.size+1) scope.names []).lookup y.1).isSome=true):=λ ⟨n,v⟩ hy=>by
   rcases S.par n (acu hy).1 with q|q
   . exact .inl q
   . exact .inr ⟨q,W.cellsFrom_some _ _ _ (.inl q)⟩
 refine codeAny_call_function hr.depth (KX _ _ lk) rfl S.co S.gen rfl (W.codeRec_of KX qV) (hb _ _ _ _ ?_)
 refine wpAny_newFunctionEnv_cells S.kind Gc λ env he s1 x=>?_
 subst he
 refine ⟨lim.keeps x.toInCall.keep,codeAny_func ?_⟩
 obtain ⟨t,ht,hq⟩:=dX A outer s H vs Q E (hr.deeper _) Bf
 have I:Inv (kO CX P w K mg base N qual scope f bD A outer s H E) [] (start N vs) H s1:=uR S hr.hd e0 hl r x
 refine abd (ht [] s1 (start N vs) H _ I hq) (λ fl s' hs=>?_) λ e s' hs=>hs
 have fin:∀ {σ':St} {H':Hp} {v:V} {u:Value},Inv (kO CX P w K mg base N qual scope f bD A outer s H E) [] σ' H' s'->RelV v u->Q v H'->CE outer P w H s Q u s' :=
   λ {σ' H' v u} J rv q=>⟨v,H',J.os,J.bare,J.base,J.cg,rv,q⟩
 cases fl with
 | ret u =>
   obtain ⟨v,σ',H',J,rv,q⟩:=hs
   exact fin J rv q
 | next =>
   obtain ⟨σ',H',J,q⟩:=hs
   exact fin (v:=V.cD) (u:=Value.none) J rfl q
 | brk =>
   obtain ⟨_,_,_,q⟩:=hs
   exact False.elim q
 | cont =>
   obtain ⟨_,_,_,q⟩:=hs
   exact False.elim q
section
variable {X:Cx} {x:Str} {p pos:Pos} {e:Expr} {es:List Expr} {t:TA} {id T:String} {r:List V->Hp->VK->Prop}
def Fb (r:List V->Hp->VK->Prop) (t:TA):TE:=λ U H Q=>t U H λ vs H1=>r vs H1 Q
theorem aI (hc:fC X (.builtin id) r) (hg:Gl X x) (hm:X.mg x=none) (hv:bootBuiltins x=some (.builtin id)) (ha:PA X (e::es) t) (hn:x ≠ "__name__":=by decide) (oN:(x == ("__debug__" : Str))=false:=by decide) (he:starEach (e::es) X.env=(false,eval e X.env)::starEach es X.env:=by rfl) (hC:(backTo pos (starEach es X.env)).any (·.1)=false:=by rfl):PE X (.Call (.Name x p) (e::es) [] pos) (Fb r t):=by
 intro pins s U H Q I h
 refine abe (ip I hg hm hv ?_ hn oN)
 exact PyProof.Rows.callWith_builtin1 (ca (ha pos pins s U H _ I h) λ us s1 ⟨vs,H1,I1,r1,q1⟩=>hc pins s1 U H1 vs us Q I1 r1 q1) he hC
theorem bB (hc:fC X (.type T) r) (hg:Gl X x) (hm:X.mg x=none) (hv:bootBuiltins x=some (.type T)) (ha:PA X (e::es) t) (hn:x ≠ "__name__":=by decide) (oN:(x == ("__debug__" : Str))=false:=by decide) (he:starEach (e::es) X.env=(false,eval e X.env)::starEach es X.env:=by rfl) (hC:(backTo pos (starEach es X.env)).any (·.1)=false:=by rfl):PE X (.Call (.Name x p) (e::es) [] pos) (Fb r t):=by
 intro pins s U H Q I h
 refine abe (ip I hg hm hv ?_ hn oN)
 exact aaY (ca (ha pos pins s U H _ I h) λ us s1 ⟨vs,H1,I1,r1,q1⟩=>hc pins s1 U H1 vs us Q I1 r1 q1) he hC
end
end L2
namespace HT
open PySem PyProof.Rows
def lexLt:List Int->List Int->Bool
 | [],[]=>false
 | [],_::_=>true
 | _::_,[]=>false
 | x::xs,y::ys=>if x=y then lexLt xs ys else decide (x<y)
section
open PySem.SeqAt
open PySem.AutoSeq1 (wpAny_loadPart')
open PySem.MeetsSeq PySem.MeetsSeq2 PySem.MeetsSeq3
end
section
variable {prog:Program} {w:World} {A:Around} {E:Value->Shared->Prop} {s:Shared}
def nj (n d:Nat):Option Int->Nat
 | none=>d
 | some v=>if v<0 then (v+(n:Int)).toNat else min v.toNat n
theorem l9 (n d:Nat):nj n d none=d:=rfl
theorem oE (n d k:Nat):nj n d (some (k:Int))=min k n:=by
 show (if (k:Int)<0 then ((k:Int)+(n:Int)).toNat else min (k:Int).toNat n)=min k n
 rw [aak (by lia),acf]
end
end HT
namespace L2
open PySem PySem.Spec PyProof.Rows
variable {H H':Hp} {h':Heap} {aZ its':List Value} {j t':Nat} {pins:List (Addr×Obj)} {u:Value} {xs:List V} {U:St}
abbrev TO:=St->Hp->(Option Int->Hp->Prop)->Prop
def PO (X:Cx) (e:Option Expr) (t:TO):Prop :=
 ∀ (pins:List (Addr×Obj)) (s:Shared) (U:St) (H:Hp) (Q:Option Int->Hp->Prop),Inv X pins U H s->t U H Q ->
   wpAny (model X.prog X.w) X.A (evalPart e X.env) (λ u s'=>∃ o H',Inv X pins U H' s'/\IsPart u o/\Q o H') X.xe s
def tZ:TO:=λ _ H Q=>Q none H
def AZ (t:TE):TO:=λ U H Q=>t U H λ x H1=>∃ i,x = .int i/\Q (some i) H1
section
variable {X:Cx} {e:Expr} {te:TE} {lo hi:Option Expr} {tl th:TO} {pos p2:Pos}
theorem d9:PO X none tZ:=by
 intro pins s U H Q I h
 rw [evalPart_none]
 exact aaW ⟨none,H,I,.none,h⟩
theorem c9 (h:PE X e te):PO X (some e) (AZ te):=by
 intro pins s U H Q I hw
 rw [evalPart_some]
 refine ca (h pins s U H _ I hw) λ u s1 ⟨x,H1,I1,r1,q1⟩=>?_
 obtain ⟨i,rfl,q⟩:=q1
 obtain ⟨t,rfl⟩:=r1
 exact ⟨some i,H1,I1,.int i t,q⟩
def MO (X:Cx) (r:V->Option Int->Option Int->Hp->VK->Prop):Prop :=
 ∀ (pins:List (Addr×Obj)) (s:Shared) (U:St) (H:Hp) (x:V) (v vl vu:Value) (lo hi:Option Int) (sl:Addr) (Q:VK),Inv X pins U H s->RelV x v->s.heap.IsSliceOf sl vl vu .none->IsPart vl lo->IsPart vu hi->r x lo hi H Q ->
   ∃ T id,typeLookup (.type T) "__getitem__" = pure (some (.builtin id))/\s.TypeIs v T/\wpAny (model X.prog X.w) X.A (getItem v (.ref sl)) (EP X pins U Q) X.xe s
def Vb (r:V->Option Int->Option Int->Hp->VK->Prop) (te:TE) (tl th:TO):TE:=λ U H Q=>te U H λ x H1=>tl U H1 λ l H2=>th U H2 λ u H3=>r x l u H3 Q
theorem cG {r:V->Option Int->Option Int->Hp->VK->Prop} (hr:MO X r) (he:PE X e te) (hl:PO X lo tl) (hu:PO X hi th):PE X (.Subscript e (.Slice lo hi none p2) pos) (Vb r te tl th):=by
 intro pins s U H Q I h
 refine Subscript_ (ca (he pins s U H _ I h) λ v s1 ⟨x,H1,I1,r1,q1⟩=>?_)
 refine wpAny_Slice (ca (hl pins s1 U H1 _ I1 q1) λ vl s2 ⟨l,H2,I2,pl,q2⟩=>ca (hu pins s2 U H2 _ I2 q2) λ vu s3 ⟨u,H3,I3,pu,q3⟩=>?_)
 rw [evalPart_none]
 refine aaW ?_
 have I4:Inv X pins U H3 { s3 with heap:=s3.heap.push { cls:=.type "slice",data:=.fields #[vl,vu,.none]}}:=I3.kept (t':=s3.toks) λ b ob q=>Ux _ q
 obtain ⟨T,id,hT,ht,hg⟩:=hr pins { s3 with heap:=s3.heap.push { cls:=.type "slice",data:=.fields #[vl,vu,.none]}} U H3 x v vl vu l u s3.heap.objs.size Q I4 r1 (Heap.IsSliceOf.new ..) pl pu q3
 show wpAny (model X.prog X.w) X.A (subscriptTail e (.Slice lo hi none p2) v (.ref s3.heap.objs.size)) (EP X pins U Q) X.xe { s3 with heap:=s3.heap.push { cls:=.type "slice",data:=.fields #[vl,vu,.none]}}
 exact tail_any (ops:=[.ref s3.heap.objs.size,v]) ht hT hg (by with_unfolding_all rfl)
def hR (xs:List V) (lo hi:Option Int):List V:=(xs.drop (HT.nj xs.length 0 lo)).take (HT.nj xs.length xs.length hi - HT.nj xs.length 0 lo)
theorem pH (xs:List V) (lo hi:Option Int):(hR xs lo hi).length<=xs.length:=by
 unfold hR
 rw [aal,abb]
 lia
end
def yD (n:Nat) (i:Int):Option Nat:=if 0<=i then (if i<n then some i.toNat else none) else if -(n:Int)<=i then some (i+n).toNat else none
def mZ {α:Type} (xs:List α) (i:Int):Option α:=(yD xs.length i).bind λ j=>xs[j]?
theorem tG {n:Nat} {i:Int} (h:yD n i=some j):seqIndex? i n=some j/\j<n/\-(n:Int)<=i/\i<n:=by
 unfold yD at h
 by_cases h0:0<=i
 .
  rw [aam h0] at h
  by_cases h1:i<n
  . rw [aam h1] at h
    have e:i.toNat=j:=aan h
    exact ⟨by rw [seqIndex_of h0 h1,e],by lia,by lia,h1⟩
  . rw [aak h1] at h;cases h
 .
  rw [aak h0] at h
  by_cases h1 : -(n:Int)<=i
  . rw [aam h1] at h
    have e:(i+n).toNat=j:=aan h
    exact ⟨by rw [seqIndex_neg (by lia) h1,e],by lia,h1,by lia⟩
  . rw [aak h1] at h;cases h
theorem oz {α:Type} {xs:List α} {i:Int} {v:α} (h:mZ xs i=some v):∃ j,seqIndex? i xs.length=some j/\xs[j]?=some v/\j<xs.length/\-(xs.length:Int)<=i/\i<xs.length:=by
 unfold mZ at h
 cases e:yD xs.length i with
 | none=>rw [e] at h;cases h
 | some j =>
   rw [e] at h
   obtain ⟨h1,h2,h3,h4⟩:=tG e
   exact ⟨j,h1,h,h2,h3,h4⟩
theorem jx {α:Type} {xs:List α} {v:α} (h:xs[j]?=some v):mZ xs (j:Int)=some v:=by
 have hj:j<xs.length:=(List.getElem?_eq_some_iff.mp h).1
 have e:yD xs.length (j:Int)=some j:=by
   unfold yD
   rw [aam (by lia),aam (by lia)];simp
 unfold mZ;rw [e];exact h
def yR (b:Expr):Prop:=∀ o i,subscripted b false o i=operate [o,i] (getItem o i)
def Dr (X:Cx) (r:R2):Prop :=
 ∀ (value slice:Expr) (pins:List (Addr×Obj)) (s:Shared) (U:St) (H:Hp) (x y:V) (v u:Value) (Q:VK),Inv X pins U H s->RelV x v->RelV y u->r x y H Q ->
   subscripted slice false v u=operate [v,u] (getItem v u)->wpAny (model X.prog X.w) X.A (subscriptTail value slice v u) (EP X pins U Q) X.xe s
def A1 (X:Cx) (id:String) (r:V->List V->Hp->VK->Prop):Prop :=
 ∀ (pins:List (Addr×Obj)) (s:Shared) (U:St) (H:Hp) (x:V) (xs:List V) (v:Value) (us:List Value) (Q:VK),Inv X pins U H s->RelV x v->Vals xs us->r x xs H Q ->
   wpAny (model X.prog X.w) X.A (call (.builtin id) (v::us)) (EP X pins U Q) X.xe s
section
variable {X:Cx} {a b:Expr} {ta tb:TE} {pos:Pos}
theorem aA {r:R2} (hr:Dr X r) (ha:PE X a ta) (hb:PE X b tb) (hs:yR b):PE X (.Subscript a b pos) (oS r ta tb):=by
 intro pins s U H Q I h
 exact Subscript_ (CN ha hb I h λ v u s2 x y H2 I2 rx ry q=>hr a b pins s2 U H2 x y v u Q I2 rx ry q (hs _ _))
inductive ON (K:W.Frag) (x:V) (y:V) (H:Hp) (Q:VK):Prop
 | mk (p xs i v:_) (_:x = .ref p) (_:y = .int i) (_:aN K H p xs) (_:mZ xs i=some v) (_:Q v H)
inductive LX (K:W.Frag) (x:V) (y:V) (H:Hp) (Q:VK):Prop
 | mk (p xs i v:_) (_:x = .ref p) (_:y = .int i) (_:cE K H p xs) (_:mZ xs i=some v) (_:Q v H)
inductive Rq  (x:V) (y:V) (H:Hp) (Q:VK):Prop
 | mk (z i c:_) (_:x = .str z) (_:y = .int i) (_:z.length<=sizeLine) (_:mZ z.cps.toList i=some c) (_:Q (.str ⟨#[c]⟩) H)
theorem zc:Dr X (ON X.K):=by
 intro value slice pins s U H x y v u Q I rx ry h hs
 obtain ⟨p,xs,i,z,rfl,rfl,hq,he,q⟩:=h
 cases rx
 obtain ⟨t,rfl⟩:=ry
 obtain ⟨aZ,r,pl,hz⟩:=I.list hq
 obtain ⟨j,h1,h2,h3,h4,h5⟩:=oz he
 obtain ⟨w,ew,Fm⟩:=r.get h2
 have hl:=r.length
 have hn:=jL
 have fin:EP X pins U Q w s:=⟨z,H,I,Fm,q⟩
 by_cases h0:0<=i
 .
  have hj:i.toNat=j:=by
    rw [seqIndex_of h0 h5] at h1
    exact aan h1
  exact item_listR pl.isList h0 (by lia) (by rw [hj];simpa using ew) fin hs
 .
  have hj:(i+(aZ.toArray.size:Int)).toNat=j:=by
    rw [seqIndex_neg (by lia) h4] at h1
    rw [aab,← hl]
    exact aan h1
  exact subscriptTail_builtinR (x:=w) pl.isList.typeIs slot_list_getitem.lookup
    (wpAny_getItem_list_neg (Q:=λ r s'=>r=w/\EP X pins U Q r s') pl.isList (by lia) (by rw [aab]<;>lia) (by lia) (by rw [hj];simpa using ew) ⟨rfl,fin⟩) hs
theorem Bt:Dr X (LX X.K):=by
 intro value slice pins s U H x y v u Q I rx ry h hs
 obtain ⟨p,xs,i,z,rfl,rfl,hq,he,q⟩:=h
 cases rx
 obtain ⟨t,rfl⟩:=ry
 obtain ⟨aZ,r,pl,hz⟩:=I.tuple hq
 obtain ⟨j,h1,h2,h3,h4,h5⟩:=oz he
 obtain ⟨w,ew,Fm⟩:=r.get h2
 have hl:=r.length
 have hn:=jL
 have fin:EP X pins U Q w s:=⟨z,H,I,Fm,q⟩
 exact subscriptTail_builtinR (x:=w) pl.typeIs slot_tuple_getitem.lookup
   (getItem_tuple (j:=j) (Q:=λ r s'=>r=w/\EP X pins U Q r s') pl (by lia) (by lia) (by rw [aab,← hl];exact h1) (by simpa using ew) ⟨rfl,fin⟩) hs
theorem xz:Dr X Rq:=by
 intro value slice pins s U H x y v u Q I rx ry h hs
 obtain ⟨z,i,c,rfl,rfl,hz,he,q⟩:=h
 obtain ⟨t,rfl⟩:=rx
 obtain ⟨t',rfl⟩:=ry
 obtain ⟨j,h1,h2,h3,h4,h5⟩:=oz he
 have hl:z.cps.toList.length=z.length:=by simp [Str.length]
 rw [hl] at h1 h4 h5
 have hn:=jL
 exact tail_any (abR s z t) slot_str_getitem.lookup (getItem_str (c:=c) (by
   have e1:decide (i < -(2 ^ 63:Int))=false:=aaq (by lia)
   have e2:decide (i≥2 ^ 63)=false:=aaq (by lia)
   rw [e1,e2,Bool.or_false]) (by rw [h1];simpa using h2) ⟨.str ⟨#[c]⟩,H,I.tok _,⟨_,rfl⟩,q⟩) hs
theorem rO (aZ:List Value) (n j:Nat) (u:Value):Obj.mapSeq (·.setIfInBounds j u) { cls:=.type "list",data:=.seq aZ.toArray n }={ cls:=.type "list",data:=.seq (aZ.set j u).toArray n }:=by
 simp [Obj.mapSeq]
theorem Inv.lst {s:Shared} {p:Addr} (I:Inv X pins U H s) (h:H p=some (.lst xs)) :
   ∃ (aZ:List Value) (n:Nat),Vals xs aZ/\s.heap.get? p=some { cls:=.type "list",data:=.seq aZ.toArray n }/\xs.length<=sizeLine:=by
 obtain ⟨z,aZ,n,r,e⟩:=I.cg p _ h
 exact ⟨aZ,n,r,e,z⟩
theorem Inv.CZ {s:Shared} {p:Addr} {ys:List V} {n n':Nat} {f:Obj->Obj} (I:Inv X pins U H s) (h:H p=some (.lst xs)) (ho:s.heap.get? p=some { cls:=.type "list",data:=.seq aZ.toArray n }) (hf:f { cls:=.type "list",data:=.seq aZ.toArray n }={ cls:=.type "list",data:=.seq its'.toArray n' }) (r:Vals ys its') (hz:ys.length<=sizeLine) (t:Nat) :
   Inv X pins U (upd H p (.lst ys)) { s with heap:=s.heap.update p f,toks:=t }:=by
 have e:(s.heap.update p f).get? p=some { cls:=.type "list",data:=.seq its'.toArray n' }:=by
   rw [Heap.get?_update_self f ho (by rw [hf]<;>rfl),hf]
 refine I.write (x:=p) (e:=p) (by rw [h];trivial) (.inl rfl) (λ b u hb q=>(Heap.get?_update_other _ _ (acb hb)).trans q) ⟨_,e⟩ ?_
 exact ⟨hz,its',n',r,e⟩
def En:V->V->V->Hp->(Hp->Prop)->Prop:=λ o i v H Q=>∃ p xs k j,o = .ref p/\i = .int k/\H p=some (.lst xs)/\yD xs.length k=some j/\Q (upd H p (.lst (xs.set j v)))
theorem set_list:FJ X En:=by
 intro pins s U H o i v ov iv u Q I ro ri rv h
 obtain ⟨p,xs,k,j,rfl,rfl,hp,hj,q⟩:=h
 cases ro
 obtain ⟨t,rfl⟩:=ri
 obtain ⟨aZ,n,r,ho,hz⟩:=I.lst hp
 obtain ⟨h1,h2,h3,h4⟩:=tG hj
 have hl:=r.length
 have hn:=jL
 have I':Inv X pins U (upd H p (.lst (xs.set j v))) { s with heap:=s.heap.update p (Obj.mapSeq (·.setIfInBounds j u))} :=
   I.CZ hp ho (rO aZ n j u) (r.set rv j) (by rw [abN];exact hz) s.toks
 by_cases h0:0<=k
 .
  have hk:k.toNat=j:=by
    rw [seqIndex_of h0 h4] at h1
    exact aan h1
  exact W.ki_setAt ho h0 (by lia) (by rw [aab,← hl];exact h4) (by rw [hk];exact ⟨_,I',q⟩)
 .
  have hk:(k+(aZ.toArray.size:Int)).toNat=j:=by
    rw [seqIndex_neg (by lia) h3] at h1
    rw [aab,← hl]
    exact aan h1
  exact W.ki_setBack ho (by lia) (by rw [aab,← hl];exact h3) (by lia) (by rw [hk];exact ⟨_,I',q⟩)
theorem oX (lo hi:Option Int) (n:Nat):(sliceBounds lo hi none n).1=((HT.nj n 0 lo:Nat):Int)/\(sliceBounds lo hi none n).2.1=((HT.nj n n hi:Nat):Int)/\(sliceBounds lo hi none n).2.2=1:=by
 refine ⟨?_,?_,rfl⟩
 .
  cases lo with
  | none=>simp [sliceBounds,HT.nj]
  | some i =>
    simp only [sliceBounds,HT.nj,Option.getD_none,show (1:Int) > 0 by decide,aca]
    by_cases h:i<0
    . simp only [h,aca]<;>lia
    . simp only [h,abV]<;>lia
 .
  cases hi with
  | none=>simp [sliceBounds,HT.nj]
  | some i =>
    simp only [sliceBounds,HT.nj,Option.getD_none,show (1:Int) > 0 by decide,aca]
    by_cases h:i<0
    . simp only [h,aca]<;>lia
    . simp only [h,abV]<;>lia
theorem mM (aZ:List Value) (lo hi:Option Int):slicePick aZ.toArray lo hi none=((aZ.drop (HT.nj aZ.length 0 lo)).take (HT.nj aZ.length aZ.length hi - HT.nj aZ.length 0 lo)).toArray:=by
 obtain ⟨h1,h2,h3⟩:=oX lo hi aZ.toArray.size
 unfold slicePick
 rw [h1,h2,h3]
 simp only [sliceRange_one,pick_run,aab]<;>rfl
inductive Np (K:W.Frag) (x:V) (lo:Option Int) (hi:Option Int) (H:Hp) (Q:VK):Prop
 | mk (a xs:_) (_:x = .ref a) (_:aN K H a xs) (_:∀ p,H p=none->Q (.ref p) (upd H p (.lst (hR xs lo hi))))
theorem eN:MO X (Np X.K):=by
 intro pins s U H x v vl vu lo hi sl Q I rx hs pl pu h
 obtain ⟨a,xs,rfl,hx,q⟩:=h
 cases rx
 obtain ⟨aZ,r,ht,hz⟩:=I.list hx
 have hlen:=r.length
 refine ⟨"list",_,slot_list_getitem.lookup,ht.isList.typeIs,?_⟩
 refine wpAny_getItem_list_slice ht.isList hs pl pu .none (by simp) ?_ (by rw [aab]<;>lia)
 rw [mM,← hlen]
 refine ⟨.ref s.heap.objs.size,_,I.laid (t':=s.toks) (o:=.lst (hR xs lo hi)) (λ b ob q=>Ux _ q) (Nt _) ?_,rfl,q _ (I.cg.fresh (Nt _))⟩
 exact ⟨aaO (pH xs lo hi) hz,_,0,(r.drop (HT.nj xs.length 0 lo)).take (HT.nj xs.length xs.length hi - HT.nj xs.length 0 lo),aap _ rfl⟩
def jB:V->Bool
 | .cD=>true
 | .bl _=>true
 | .int _=>true
 | .str _=>true
 | _=>false
def zK:V->V->Bool
 | .cD,.cD=>true
 | .bl a,.bl b=>a == b
 | .bl a,.int b=>(if a then 1 else 0) == b
 | .int a,.bl b=>a == (if b then 1 else 0)
 | .int a,.int b=>a == b
 | .str a,.str b=>a == b
 | _,_=>false
theorem CF {A:Around} {s:Shared} {y x:V} {v:Value} (ry:RelV y u) (rx:RelV x v) (fy:jB y=true) (fx:jB x=true):SeqAt.EqAt A s u v (zK y x):=by
 cases y with
 | cD =>
   cases ry
   cases x with
   | cD=>cases rx;exact SeqAt.EqAt.same _
   | bl b=>cases rx;exact SeqAt.EqAt.none_bool b
   | int b=>obtain ⟨t,rfl⟩:=rx;exact SeqAt.EqAt.none_int b t
   | str b=>obtain ⟨t,rfl⟩:=rx;exact SeqAt.EqAt.none_str b t
   | _=>exact absurd (show false=true from fx) OR
 | bl a =>
   cases ry
   cases x with
   | cD=>cases rx;exact SeqAt.EqAt.bool_none a
   | bl b=>cases rx;exact SeqAt.EqAt.bool_bool a b
   | int b=>obtain ⟨t,rfl⟩:=rx;exact SeqAt.EqAt.bool_int a b t
   | str b=>obtain ⟨t,rfl⟩:=rx;exact SeqAt.EqAt.bool_str a b t
   | _=>exact absurd (show false=true from fx) OR
 | int a =>
   obtain ⟨t',rfl⟩:=ry
   cases x with
   | cD=>cases rx;exact SeqAt.EqAt.int_none a t'
   | bl b=>cases rx;exact SeqAt.EqAt.int_bool a t' b
   | int b=>obtain ⟨t,rfl⟩:=rx;exact SeqAt.EqAt.int_int a t' b t
   | str b=>obtain ⟨t,rfl⟩:=rx;exact SeqAt.EqAt.int_str a t' b t
   | _=>exact absurd (show false=true from fx) OR
 | str a =>
   obtain ⟨t',rfl⟩:=ry
   cases x with
   | cD=>cases rx;exact SeqAt.EqAt.str_none a t'
   | bl b=>cases rx;exact SeqAt.EqAt.str_bool a t' b
   | int b=>obtain ⟨t,rfl⟩:=rx;exact SeqAt.EqAt.str_int a t' b t
   | str b=>obtain ⟨t,rfl⟩:=rx;exact SeqAt.EqAt.str_str a t' b t
   | _=>exact absurd (show false=true from fx) OR
 | _=>exact absurd (show false=true from fy) OR
def sP (x:V) (u:Value):Bool:=match u with
 | .none=>zK .cD x
 | .bool b=>zK (.bl b) x
 | .int i _=>zK (.int i) x
 | .str z _=>zK (.str z) x
 | _=>false
theorem wG {x y:V} (r:RelV y u) (f:jB y=true):sP x u=zK y x:=by
 cases y with
 | cD=>cases r;rfl
 | bl b=>cases r;rfl
 | int i=>obtain ⟨t,rfl⟩:=r;rfl
 | str z=>obtain ⟨t,rfl⟩:=r;rfl
 | _=>exact absurd (show false=true from f) OR
theorem js {x:V}:∀ {xs:List V} {us:List Value},Vals xs us->xs.all jB=true->us.any (sP x)=xs.any λ y=>zK y x
 | _,_,.nil,_=>rfl
 | y::xs,u::us,.cons r t,f=>by
   rw [List.all_cons,abr] at f
   rw [abP,abP,wG r f.1,js t f.2]
theorem iu {A:Around} {s:Shared} {x:V} {v:Value} (rx:RelV x v) (fx:jB x=true):∀ {xs:List V} {us:List Value},Vals xs us->xs.all jB=true->∀ u∈us,SeqAt.EqAt A s u v (sP x u)
 | _,_,.nil,_=>λ u hu=>by cases hu
 | y::xs,u::us,.cons r t,f=>λ u' hu=>by
   rw [List.all_cons,abr] at f
   rcases List.mem_cons.mp hu with rfl|hu
   . rw [wG r f.1];exact CF r rx f.1 fx
   . exact iu rx fx t f.2 u' hu
def GP (x:V) (xs:List V):Bool:=xs.any λ y=>zK y x
inductive UZ (K:W.Frag) (neg:Bool) (x:V) (y:V) (H:Hp) (Q:VK):Prop
 | mk (p xs:_) (_:y = .ref p) (_:(aN K H p xs∨cE K H p xs)) (_:jB x=true) (_:xs.all jB=true) (_:Q (.bl (if neg then !GP x xs else GP x xs)) H)
theorem ua:g8 X (compareOp .In) (UZ X.K false):=by
 intro pins s U H x y v u Q I rx ry h
 obtain ⟨p,xs,rfl,hq,fx,fs,q⟩:=h
 cases ry
 rcases hq with hq|hq
 .
  obtain ⟨aZ,r,pl,hz⟩:=I.list hq
  refine SeqAt.in_listAt (sP x) pl.isList (λ w hw=>iu rx fx r fs w (by simpa using hw)) ⟨.bl _,H,I,rfl,?_⟩
  rw [show aZ.toArray.any (sP x)=aZ.any (sP x) by simp,js r fs]
  exact q
 .
  obtain ⟨aZ,r,pl,hz⟩:=I.tuple hq
  refine SeqAt.in_tupleAt (sP x) pl (λ w hw=>iu rx fx r fs w (by simpa using hw)) ⟨.bl _,H,I,rfl,?_⟩
  rw [show aZ.toArray.any (sP x)=aZ.any (sP x) by simp,js r fs]
  exact q
theorem o0:g8 X (compareOp .NotIn) (UZ X.K true):=by
 intro pins s U H x y v u Q I rx ry h
 obtain ⟨p,xs,rfl,hq,fx,fs,q⟩:=h
 cases ry
 rcases hq with hq|hq
 .
  obtain ⟨aZ,r,pl,hz⟩:=I.list hq
  refine SeqAt.notIn_listAt (sP x) pl.isList (λ w hw=>iu rx fx r fs w (by simpa using hw)) ⟨.bl _,H,I,rfl,?_⟩
  rw [show aZ.toArray.any (sP x)=aZ.any (sP x) by simp,js r fs]
  exact q
 .
  obtain ⟨aZ,r,pl,hz⟩:=I.tuple hq
  refine SeqAt.notIn_tupleAt (sP x) pl (λ w hw=>iu rx fx r fs w (by simpa using hw)) ⟨.bl _,H,I,rfl,?_⟩
  rw [show aZ.toArray.any (sP x)=aZ.any (sP x) by simp,js r fs]
  exact q
theorem oh:fC X (.builtin "len") (λ xs H Q=>∃ p ys,xs=[.ref p]/\(aN X.K H p ys∨cE X.K H p ys)/\Q (.int ys.length) H):=by
 intro pins s U H xs us Q I r h
 obtain ⟨p,ys,rfl,hq,q⟩:=h
 obtain ⟨u,rfl,rx⟩:=vals1 r
 cases rx
 have hn:=jL
 rcases hq with hq|hq
 . obtain ⟨aZ,r',pl,hz⟩:=I.list hq
   have hlen:=r'.length
   exact Calls.call_len_list pl.isList (by simp only [aab]<;>lia) ⟨.int ys.length,H,I.tok _,⟨s.toks+1,by rw [aab,hlen]⟩,q⟩
 . obtain ⟨aZ,r',pl,hz⟩:=I.tuple hq
   have hlen:=r'.length
   exact len_tuple pl (by simp only [aab]<;>lia) ⟨.int ys.length,H,I.tok _,⟨s.toks+1,by rw [aab,hlen]⟩,q⟩
theorem gT:fC X (.builtin "len") (λ xs H Q=>∃ z,xs=[.str z]/\z.length<=sizeLine/\Q (.int z.length) H):=by
 intro pins s U H xs us Q I r h
 obtain ⟨z,rfl,hz,q⟩:=h
 obtain ⟨u,rfl,t,rfl⟩:=vals1 r
 have hn:=jL
 exact len_str (by lia) ⟨.int z.length,H,I.tok _,⟨_,rfl⟩,q⟩
theorem dS:fC X (.type "list") (λ xs H Q=>∃ p ys,xs=[.ref p]/\(aN X.K H p ys∨cE X.K H p ys)/\∀ l,H l=none->Q (.ref l) (upd H l (.lst ys))):=by
 intro pins s U H xs us Q I r h
 obtain ⟨p,ys,rfl,hq,q⟩:=h
 obtain ⟨u,rfl,rx⟩:=vals1 r
 cases rx
 have fin:∀ (aZ:List Value),Vals ys aZ->ys.length<=sizeLine->∀ (h':Heap) (c':Nat),(∀ b o',s.heap.get? b=some o'->h'.get? b=some o') ->
     h'.get? s.heap.objs.size=some { cls:=.type "list",dict:=none,data:=.seq aZ.toArray c',slots:=#[]}->EP X pins U Q (.ref s.heap.objs.size) { s with heap:=h' }:=λ aZ r' hz h' c' kp e =>
   ⟨.ref s.heap.objs.size,_,I.laid (t':=s.toks) kp (Nt _) (show bX X.prog X.w _ h' _ (.lst ys) from ⟨hz,aZ,c',r',e⟩),rfl,q _ (I.cg.fresh (Nt _))⟩
 rcases hq with hq|hq
 .
  obtain ⟨aZ,r',pl,hz⟩:=I.list hq
  have hlen:=r'.length
  obtain ⟨o,ho,hc,n,hd⟩:=pl.isList
  exact call_list_seq p (.inl rfl) ho hc hd (λ h' c' kp e=>fin aZ r' hz h' c' kp e) (by simp only [aab]<;>lia)
 .
  obtain ⟨aZ,r',pl,hz⟩:=I.tuple hq
  have hlen:=r'.length
  obtain ⟨o,ho,hc,n,hd⟩:=pl
  exact call_list_seq p (.inr rfl) ho hc hd (λ h' c' kp e=>fin aZ r' hz h' c' kp e) (by simp only [aab]<;>lia)
theorem mN:fC X (.type "tuple") (λ xs H Q=>∃ p ys,xs=[.ref p]/\((aN X.K H p ys/\∀ l,H l=none->Q (.ref l) (upd H l (.tup ys)))∨(cE X.K H p ys/\Q (.ref p) H))):=by
 intro pins s U H xs us Q I r h
 obtain ⟨p,ys,rfl,h⟩:=h
 obtain ⟨u,rfl,rx⟩:=vals1 r
 cases rx
 rcases h with ⟨hq,q⟩|⟨hq,q⟩
 .
  obtain ⟨aZ,r',pl,hz⟩:=I.list hq
  have hlen:=r'.length
  refine call_tuple_list pl.isList (λ h' kp=>?_) (by simp only [aab]<;>lia)
  have I1:Inv X pins U H { s with heap:=h' }:=I.kept (t':=s.toks) kp
  have I2:Inv X pins U (upd H h'.objs.size (.tup ys)) { s with heap:=h'.push { cls:=.type "tuple",data:=.seq aZ.toArray }} :=
    I1.laid (t':=s.toks) (λ b o e=>Ux _ e) (Nt _) (show bX X.prog X.w _ _ _ (.tup ys) from ⟨hz,aZ,r',IsTup.new _ _⟩)
  exact ⟨.ref h'.objs.size,_,I2,rfl,q _ (I1.cg.fresh (Nt _))⟩
 . obtain ⟨aZ,r',pl,hz⟩:=I.tuple hq
   exact call_tuple_same pl ⟨.ref p,H,I,rfl,q⟩
def LA (K:W.Frag) (T:String) (x:V) (H:Hp):Prop:=match x with
 | .str _=>T = "str"
 | .int _=>T = "int"
 | .ref p=>(T = "list"/\∃ xs,aN K H p xs)∨(T = "tuple"/\∃ o,K.lookup p=some o/\o.cls = .type "tuple"/\o.dict=none) ∨
     (T = "dict"/\((∃ aL,H p=some (.dK aL))∨∃ aL,H p=some (.dT aL)))∨(T = "set"/\∃ S n,H p=some (.set S n))
 | _=>False
theorem wJ {s:Shared} {T:String} {x:V} {v:Value} (I:Inv X pins U H s) (r:RelV x v) (ty:LA X.K T x H) :
   s.TypeIs v T/\∀ a,v = .ref a->∃ ob,s.heap.get? a=some ob/\ob.dict=none:=by
 cases x with
 | str z =>
   obtain ⟨t,rfl⟩:=r
   cases (show T = "str" from ty)
   exact ⟨abR s z t,λ _ e=>nomatch e⟩
 | int i =>
   obtain ⟨t,rfl⟩:=r
   cases (show T = "int" from ty)
   exact ⟨typeIs_int s i t,λ _ e=>nomatch e⟩
 | ref p =>
   cases r
   rcases ty with ⟨rfl,xs,hq⟩|⟨rfl,o,hk,hc,hd⟩|⟨rfl,hk⟩|⟨rfl,S,n,hk⟩
   . obtain ⟨aZ,_,pl,_⟩:=I.list hq
     refine ⟨pl.isList.typeIs,λ a e=>?_⟩
     cases e
     obtain ⟨o,n,e,c,hd,_⟩:=pl
     exact ⟨o,e,hd⟩
   . refine ⟨⟨o,I.jt p o hk,hc⟩,λ a e=>?_⟩
     cases e
     exact ⟨o,I.jt _ o hk,hd⟩
   .
    have z:∃ o,s.heap.get? p=some o/\o.ExactDict:=by
      rcases hk with ⟨aL,hk⟩|⟨aL,hk⟩
      . obtain ⟨_,_,_,_,o,_,_,e,ex,_⟩:=I.cg p _ hk
        exact ⟨o,e,ex⟩
      . obtain ⟨_,_,_,_,o,_,_,e,ex,_⟩:=I.cg p _ hk
        exact ⟨o,e,ex⟩
    obtain ⟨o,e,ex⟩:=z
    refine ⟨⟨o,e,ex.1⟩,λ a e2=>?_⟩
    cases e2
    exact ⟨o,e,ex.2.1⟩
   . obtain ⟨o,_,_,_,e,ex,_⟩:=I.cg p _ hk
     refine ⟨⟨o,e,ex.1⟩,λ a e2=>?_⟩
     cases e2
     exact ⟨o,e,ex.2.1⟩
 | _=>exact False.elim ty
def Da (K:W.Frag) (T:String) (r:V->List V->Hp->VK->Prop) (to:TE):TE:=λ U H Q=>to U H λ x H1=>LA K T x H1/\r x [] H1 Q
def WG (K:W.Frag) (T:String) (r:V->List V->Hp->VK->Prop) (to:TE) (t:TA):TE:=λ U H Q=>to U H λ x H1=>LA K T x H1/\t U H1 λ xs H2=>r x xs H2 Q
variable {o e:Expr} {es:List Expr} {to:TE} {t:TA} {name:Str} {apos eZ:Pos} {T id:String} {r:V->List V->Hp->VK->Prop}
theorem rH (pa:PlainAttrs T) (slot:Slot T name id) (x5:typeOf (.builtin id)=pure (.type "method_descriptor")) (hm:A1 X id r) (ho:PE X o to) (ql:attributeBase o name X.env (eval o X.env)=eval o X.env:=by rfl) (pU:(apos.endLine == eZ.line)=true:=by rfl):PE X (.Call (.Attribute o name apos) [] [] eZ) (Da X.K T r to):=by
 intro pins s U H Q I h
 refine wpAny_Call_method0_late ql pU (ca (ho pins s U H _ I h) λ v s1 ⟨x,H1,I1,r1,ty,q1⟩=>?_)
 obtain ⟨h1,h2⟩:=wJ I1 r1 ty
 exact ⟨T,id,pa,slot,x5,h1,h2,abJ rfl (PySem.evalArgs_none (hm pins s1 U H1 x [] v [] Q I1 r1 .nil q1))⟩
theorem di (pa:PlainAttrs T) (slot:Slot T name id) (x5:typeOf (.builtin id)=pure (.type "method_descriptor")) (hm:A1 X id r) (ho:PE X o to) (ha:PA X (e::es) t) (ql:attributeBase o name X.env (eval o X.env)=eval o X.env:=by rfl) (CK:((backTo eZ (starEach (e::es) X.env)).all (λ x => !x.1) && (backToKw eZ (keywordEach [] X.env)).all (λ x=>x.1.isSome)
     && decide ((e::es).length+([]:List Keyword).length+(if ([]:List Keyword).isEmpty then 0 else 1)<30))=true:=by rfl) (pU:(apos.endLine == eZ.line)=true:=by rfl) (hs:starEach (e::es) X.env=(false,eval e X.env)::starEach es X.env:=by rfl) (rp:(backTo eZ (starEach es X.env)).any (·.1)=false:=by rfl) :
   PE X (.Call (.Attribute o name apos) (e::es) [] eZ) (WG X.K T r to t):=by
 intro pins s U H Q I h
 refine wpAny_Call_method_late ql CK pU rfl (ca (ho pins s U H _ I h) λ v s1 ⟨x,H1,I1,r1,ty,q1⟩=>?_)
 obtain ⟨h1,h2⟩:=wJ I1 r1 ty
 refine ⟨T,id,pa,slot,x5,h1,h2,?_⟩
 have hA:=ha eZ pins s1 U H1 _ I1 q1
 rw [hs] at hA ⊢
 refine abJ (by show (false || (backTo eZ (starEach es X.env)).any (·.1))=false;rw [rp]<;>rfl) (ach ?_)
 exact ca hA λ us s2 ⟨vs,H2,I2,r2,q2⟩=>hm pins s2 U H2 x vs v us Q I2 r1 r2 q2
end
def OW (X:Cx) (id:String) (r:V->List V->Hp->VK->Prop):Prop :=
 ∀ (pins:List (Addr×Obj)) (s:Shared) (U:St) (H:Hp) (x:V) (xs:List V) (v:Value) (us:List Value) (Q:VK),Inv X pins U H s->RelV x v->Vals xs us->r x xs H Q ->
   wpAny (model X.prog X.w) X.A (call (.builtin id) (v::us)) (EP X pins U Q) X.xe s
theorem Vals.one:∀ {x:V} {us:List Value},Vals [x] us->∃ u,us=[u]/\RelV x u
 | _,_,.cons r .nil=>⟨_,rfl,r⟩
theorem Vals.zero:∀ {us:List Value},Vals [] us->us=[]
 | _,.nil=>rfl
theorem Vals.reverse {us:List Value} (h:Vals xs us):Vals xs.reverse us.reverse:=by
 induction h with
 | nil=>exact .nil
 | cons r t ih=>rw [List.reverse_cons,List.reverse_cons];exact Vals.append ih (.cons r .nil)
section
variable {X:Cx} {pins:List (Addr×Obj)} {U:St} {H:Hp} {s:Shared} {l b:Addr} {xs ys zs:List V}
theorem Inv.yU {n:Nat} {f:Array Value->Array Value} {t':Nat} (I:Inv X pins U H s) (hH:H l=some (.lst xs)) (e:s.heap.get? l=some { cls:=.type "list",data:=.seq aZ.toArray n }) (hf:f aZ.toArray=its'.toArray) (hv:Vals ys its') (hz:ys.length<=sizeLine) :
   Inv X pins U (upd H l (.lst ys)) { s with heap:=s.heap.update l (Obj.mapSeq f),toks:=t' }:=by
 have q:=PySem.IsL.update e f
 rw [hf] at q
 refine I.write (x:=l) (e:=l) (by rw [hH];exact trivial) (.inl rfl) (λ b' u hb hu=>(Heap.get?_update_other s.heap (Obj.mapSeq f) (acb hb)).trans hu) ⟨_,q⟩ ?_
 exact ⟨hz,its',_,hv,q⟩
theorem Inv.Pw {t':Nat} (I:Inv X pins U H s) (hv:Vals ys aZ) (hz:ys.length<=sizeLine) :
   Inv X pins U (upd H s.heap.objs.size (.lst ys)) { s with heap:=s.heap.push { cls:=.type "list",data:=.seq aZ.toArray },toks:=t' } :=
 I.laid (λ _ _ q=>Ux _ q) (Nt _) ⟨hz,aZ,0,hv,aap _ rfl⟩
theorem Inv.fresh (I:Inv X pins U H s):H s.heap.objs.size=none:=I.cg.fresh (Nt _)
theorem Inv.ut (I:Inv X pins U H s) (hH:H l=some (.lst xs)):xs.length<=sizeLine/\∃ (aZ:List Value) (n:Nat),Vals xs aZ/\xs.length=aZ.length/\s.heap.get? l=some { cls:=.type "list",data:=.seq aZ.toArray n }:=by
 obtain ⟨z,aZ,n,r,e⟩:=I.cg l _ hH
 exact ⟨z,aZ,n,r,r.length,e⟩
theorem wx {n:Nat} (h:n<=sizeLine):Builtin.List.listTooLong n=false:=by
 unfold Builtin.List.listTooLong
 exact aaq (by lia)
end
section
variable {X:Cx}
inductive yh  (x:V) (vs:List V) (H:Hp) (Q:VK):Prop
 | mk (l xs y:_) (_:x = .ref l) (_:vs=[y]) (_:H l=some (.lst xs)) (_:xs.length<sizeLine) (_:Q .cD (upd H l (.lst (xs++[y]))))
theorem cu:OW X "list.append" yh:=by
 intro pins s U H x vs v us Q I rx rv h
 obtain ⟨l,xs,y,rfl,rfl,hH,hz,q⟩:=h
 cases rx
 obtain ⟨u,rfl,ru⟩:=rv.one
 obtain ⟨z,aZ,n,r,hl,e⟩:=I.ut hH
 refine abK F.slot_list_append ⟨_,e,rfl⟩ F.entry_list_append (F.args_list_append_2 _ _) (PySem.list_append l aZ.toArray n u (by rw [aab];lia)) ⟨e,?_⟩
 refine ⟨.cD,_,I.yU (its':=aZ++[u]) hH e (by simp) (r.append (.cons ru .nil)) ?_,rfl,q⟩
 rw [rT,abF]
 lia
inductive Aq  (x:V) (vs:List V) (H:Hp) (Q:VK):Prop
 | mk (l b xs zs:_) (_:x = .ref l) (_:vs=[.ref b]) (_:H l=some (.lst xs)) (_:H b=some (.lst zs)) (_:xs.length+zs.length<=sizeLine) (_:Q .cD (upd H l (.lst (xs++zs))))
theorem nP:OW X "list.extend" Aq:=by
 intro pins s U H x vs v us Q I rx rv h
 obtain ⟨l,b,xs,zs,rfl,rfl,hH,hB,hz,q⟩:=h
 cases rx
 obtain ⟨u,rfl,ru⟩:=rv.one
 cases ru
 obtain ⟨z,aZ,n,r,hl,e⟩:=I.ut hH
 obtain ⟨z2,lW,n2,r2,DY,e2⟩:=I.ut hB
 have hsz:aZ.toArray.size+lW.toArray.size<=sizeLine:=by rw [aab,aab];lia
 have FA:¬ (!aZ.toArray.isEmpty && Builtin.List.listTooLong (aZ.toArray.size+lW.toArray.size))=true:=by
   rw [wx hsz,Bool.and_false]
   exact OR
 refine abK F.slot_list_extend ⟨_,e,rfl⟩ F.entry_list_extend (F.args_list_extend_2 _ _)
   (AutoSeq1.list_extend_list_list_0 l aZ.toArray n b lW.toArray n2 FA (by rw [aab];lia) (by lia)) ⟨e,e2,?_⟩
 refine ⟨.cD,_,I.yU (its':=aZ++lW) hH e (by simp) (r.append r2) ?_,rfl,q⟩
 rw [rT]
 lia
inductive xI  (x:V) (vs:List V) (H:Hp) (Q:VK):Prop
 | mk (l xs:_) (_:x = .ref l) (_:vs=[]) (_:H l=some (.lst xs)) (_:Q .cD (upd H l (.lst xs.reverse)))
theorem sS:OW X "list.reverse" xI:=by
 intro pins s U H x vs v us Q I rx rv h
 obtain ⟨l,xs,rfl,rfl,hH,q⟩:=h
 cases rx
 have Xe:=rv.zero
 subst Xe
 obtain ⟨z,aZ,n,r,hl,e⟩:=I.ut hH
 refine abK F.slot_list_reverse ⟨_,e,rfl⟩ F.entry_list_reverse (F.args_list_reverse_1 _) (AutoSeq1.list_reverse_list_0 l aZ.toArray n (by rw [aab];lia)) ⟨e,?_⟩
 refine ⟨.cD,_,I.yU (its':=aZ.reverse) hH e (by simp) r.reverse ?_,rfl,q⟩
 rw [List.length_reverse]
 lia
inductive HJ  (x:V) (y:V) (H:Hp) (Q:VK):Prop
 | mk (l b xs zs:_) (_:x = .ref l) (_:y = .ref b) (_:H l=some (.lst xs)) (_:H b=some (.lst zs)) (_:xs.length+zs.length<=sizeLine) (_:∀ p,H p=none->Q (.ref p) (upd H p (.lst (xs++zs))))
theorem cW:g8 X (binaryOp .Add) HJ:=by
 intro pins s U H x y v u Q I rx ry h
 obtain ⟨l,b,xs,zs,rfl,rfl,hH,hB,hz,q⟩:=h
 cases rx
 cases ry
 obtain ⟨z,aZ,n,r,hl,e⟩:=I.ut hH
 obtain ⟨z2,lW,n2,r2,DY,e2⟩:=I.ut hB
 refine PySem.P.add_list e e2 ?_ (by rw [aab,aab];lia)
 have ea:aZ.toArray++lW.toArray=(aZ++lW).toArray:=by simp
 rw [ea]
 exact ⟨.ref _,_,I.Pw (t':=s.toks) (r.append r2) (by rw [rT];lia),rfl,q _ I.fresh⟩
end
section
variable {κ:Type} [DecidableEq κ]
def eA (aL:List (κ×V)) (k:κ):Option V:=(aL.find? λ kv=>decide (kv.1=k)).map (·.2)
def putK (aL:List (κ×V)) (k:κ) (v:V):List (κ×V) :=
 if (aL.any λ kv=>decide (kv.1=k))=true then aL.map (λ kv=>if kv.1=k then (kv.1,v) else kv) else aL++[(k,v)]
theorem cX {p:κ×V} {r:List (κ×V)} {k:κ} (e:p.1=k):eA (p::r) k=some p.2:=by simp [eA,abA,e]
theorem cT {p:κ×V} {r:List (κ×V)} {k:κ} (e:¬ p.1=k):eA (p::r) k=eA r k:=by simp [eA,abA,e]
theorem gC (k:κ):∀ aL:List (κ×V),(aL.any λ kv=>decide (kv.1=k))=(eA aL k).isSome
 | []=>rfl
 | p::r=>by
   rw [abP]
   by_cases e:p.1=k
   . simp only [cX e,aaz e,Bool.true_or,Option.isSome_some]
   . rw [cT e,aaq e,Bool.false_or];exact gC k r
theorem pB (k j:κ) (y:V):∀ aL:List (κ×V),eA (aL.map λ kv=>if kv.1=k then (kv.1,y) else kv) j=(eA aL j).map λ x=>if j=k then y else x
 | []=>rfl
 | p::r=>by
   have ih:=pB k j y r
   rw [aaR]
   by_cases h:p.1=k
   . rw [aam h]
     by_cases e:p.1=j
     . rw [cX (p:=(p.1,y)) e,cX e,abS,aam (e.symm.trans h)]
     . rw [cT (p:=(p.1,y)) e,cT e,ih]
   . rw [aak h]
     by_cases e:p.1=j
     . rw [cX (p:=p) e,cX e,abS,aak (λ z=>h (e.trans z))]
     . rw [cT (p:=p) e,cT e,ih]
theorem m6 (k j:κ) (y:V):∀ aL:List (κ×V),eA aL k=none->eA (aL++[(k,y)]) j=if j=k then some y else eA aL j
 | [],_=>by
   by_cases e:k=j
   . rw [aam e.symm];exact cX (p:=(k,y)) e
   . rw [aak (λ z=>e z.symm)];exact cT (p:=(k,y)) e
 | p::r,hn=>by
   rw [acn]
   have hk:¬ p.1=k:=λ z=>by rw [cX z] at hn;cases hn
   rw [cT hk] at hn
   have ih:=m6 k j y r hn
   by_cases e:p.1=j
   . rw [cX e,cX e,aak (λ z=>hk (e.trans z))]
   . rw [cT e,cT e,ih]
theorem wy (aL:List (κ×V)) (k j:κ) (y:V):eA (putK aL k y) j=if j=k then some y else eA aL j:=by
 unfold putK
 by_cases a:(aL.any λ kv=>decide (kv.1=k))=true
 .
  rw [aam a,pB]
  rw [gC] at a
  by_cases e:j=k
  . obtain ⟨x,hx⟩:=Option.isSome_iff_exists.mp a
    rw [aam e,e,hx,abS,aam rfl]
  . rw [aak e]
    cases eA aL j with
    | none=>rfl
    | some x=>rw [abS,aak e]
 .
  rw [aak a]
  refine m6 k j y aL ?_
  rw [gC] at a
  cases q:eA aL k with
  | none=>rfl
  | some x=>rw [q] at a;exact (a rfl).elim
theorem kh (aL:List (κ×V)) (k:κ) (v:V):(putK aL k v).length<=aL.length+1:=by
 unfold putK
 split
 . rw [be];lia
 . rw [rT,aav,List.length_nil];lia
theorem wT {aL:List (κ×V)} {k:κ} (v:V) (h:eA aL k=none):putK aL k v=aL++[(k,v)]:=by
 unfold putK
 rw [gC,h]
 exact aak (by decide)
theorem iJ.ud {o:Option V} {u:Option Value} (r:iJ o u):o.isSome=u.isSome:=by
 cases o with
 | none=>cases u with
   | none=>rfl
   | some _=>exact (show False from r).elim
 | some _=>cases u with
   | none=>exact (show False from r).elim
   | some _=>rfl
theorem iJ.getD {o:Option V} {u:Option Value} {d:V} {d':Value} (r:iJ o u) (rd:RelV d d'):RelV (o.getD d) (u.getD d'):=by
 cases o with
 | none=>cases u with
   | none=>exact rd
   | some _=>exact (show False from r).elim
 | some _=>cases u with
   | none=>exact (show False from r).elim
   | some _=>exact r
theorem KV.val {aL:List (κ×V)} {vs:List (κ×Value)} (r:KV aL vs) (k:κ):iJ (eA aL k) (valueAt vs k):=by
 unfold KV at r
 induction r with
 | nil=>exact True.intro
 | @cons p q ps qs h t ih =>
   obtain ⟨h1,h2⟩:=h
   by_cases e:p.1=k
   . have e':q.1=k:=h1.symm.trans e
     have b:valueAt (q::qs) k=some q.2:=by simp [valueAt,abA,e']
     rw [cX e,b];exact h2
   . have e':¬ q.1=k:=λ z=>e (h1.trans z)
     have b:valueAt (q::qs) k=valueAt qs k:=by simp [valueAt,abA,e']
     rw [cT e,b];exact ih
theorem KV.any {aL:List (κ×V)} {vs:List (κ×Value)} (r:KV aL vs) (k:κ):(aL.any λ kv=>decide (kv.1=k))=vs.any λ kv=>decide (kv.1=k):=by
 unfold KV at r
 induction r with
 | nil=>rfl
 | cons h t ih=>rw [abP,abP,ih,h.1]
theorem KV.Cr {aL:List (κ×V)} {vs:List (κ×Value)} (r:KV aL vs) (k:κ) {y:V} (ry:RelV y u) :
   KV (aL.map λ kv=>if kv.1=k then (kv.1,y) else kv) (vs.map λ kv=>if kv.1=k then (kv.1,u) else kv):=by
 unfold KV at r ⊢
 induction r with
 | nil=>exact .nil
 | @cons p q ps qs h t ih =>
   rw [aaR,aaR]
   refine .cons ?_ ih
   obtain ⟨h1,h2⟩:=h
   by_cases e:p.1=k
   . rw [aam e,aam (h1.symm.trans e)];exact ⟨h1,ry⟩
   . rw [aak e,aak (λ z=>e (h1.trans z))];exact ⟨h1,h2⟩
theorem KV.put {aL:List (κ×V)} {vs:List (κ×Value)} (r:KV aL vs) (k:κ) {y:V} (ry:RelV y u):KV (putK aL k y) (stored vs k u):=by
 unfold putK stored
 rw [r.any k]
 by_cases e:(vs.any λ kv=>decide (kv.1=k))=true
 . rw [aam e,aam e];exact r.Cr k ry
 . rw [aak e,aak e];exact Paired.snoc r ⟨rfl,ry⟩
theorem KV.length {aL:List (κ×V)} {vs:List (κ×Value)} (r:KV aL vs):aL.length=vs.length:=Paired.length r
end
theorem xp {P:Program} {w:World} {k:Key} (r:RelV (kV k) u):(cC P w).is k u=true:=by
 cases k with
 | inl i=>obtain ⟨t,e⟩:=(show ∃ t,u=Value.int i t from r);subst e;exact qd P w i t
 | inr x=>obtain ⟨t,e⟩:=(show ∃ t,u=Value.str x t from r);subst e;exact qj P w x t
theorem mS {P:Program} {w:World}:∀ {ks:List Key} {us:List Value},Vals (ks.map kV) us->ItemsAre (cC P w) ks us
 | [],_,r=>by rw [abE] at r;cases r;exact .nil
 | k::ks,_,r=>by
   rw [aaR] at r
   cases r with
   | cons h t=>exact .cons (xp h) (mS t)
abbrev KT (H:Hp):List (List Key×V)->List (List Key×Addr×Value)->Prop:=Paired λ p q=>p.1=q.1/\H q.2.1=some (.tup (p.1.map kV))/\RelV p.2 q.2.2
theorem KT.val {aL:List (List Key×V)} {xs:List (List Key×Addr×Value)} (r:KT H aL xs) (k:List Key):iJ (eA aL k) ((atKey xs k).map (·.2)):=by
 induction r with
 | nil=>exact True.intro
 | @cons p q ps qs h t ih =>
   obtain ⟨h1,_,h2⟩:=h
   by_cases e:p.1=k
   . have e':q.1=k:=h1.symm.trans e
     have b:atKey (q::qs) k=some q.2:=by simp [atKey,abA,e']
     rw [cX e,b];exact h2
   . have e':¬ q.1=k:=λ z=>e (h1.trans z)
     have b:atKey (q::qs) k=atKey qs k:=by simp [atKey,abA,e']
     rw [cT e,b];exact ih
theorem KT.Cr {aL:List (List Key×V)} {xs:List (List Key×Addr×Value)} (r:KT H aL xs) (k:List Key) {y:V} (ry:RelV y u) :
   KT H (aL.map λ kv=>if kv.1=k then (kv.1,y) else kv) (xs.map (putAt k u)):=by
 induction r with
 | nil=>exact .nil
 | @cons p q ps qs h t ih =>
   rw [aaR,aaR]
   refine .cons ?_ ih
   obtain ⟨h1,h2,h3⟩:=h
   unfold putAt
   by_cases e:p.1=k
   . rw [aam e,aam (h1.symm.trans e)];exact ⟨h1,h2,ry⟩
   . rw [aak e,aak (λ z=>e (h1.trans z))];exact ⟨h1,h2,h3⟩
theorem KT.put {aL:List (List Key×V)} {xs:List (List Key×Addr×Value)} (r:KT H aL xs) (k:List Key) {b:Addr} {y:V} (hb:H b=some (.tup (k.map kV))) (ry:RelV y u) :
   KT H (putK aL k y) (storedH xs k b u):=by
 have e:(aL.any λ kv=>decide (kv.1=k))=(atKey xs k).isSome:=by
   rw [gC,(r.val k).ud,Option.isSome_map]
 unfold putK storedH
 rw [e]
 by_cases q:(atKey xs k).isSome=true
 . rw [aam q,aam q];exact r.Cr k ry
 . rw [aak q,aak q];exact Paired.snoc r ⟨rfl,hb,ry⟩
theorem KT.keeps {aL:List (List Key×V)} {xs:List (List Key×Addr×Value)} (r:KT H aL xs) (ht:∀ b ys,H b=some (.tup ys)->H' b=some (.tup ys)):KT H' aL xs :=
 Paired.Bx r λ _ _ z=>⟨z.1,ht _ _ z.2.1,z.2.2⟩
section
variable {P:Program} {w:World} {H:Hp} {h:Heap} {a:Addr}
theorem AO {u:HO} (ok:jc P w H h) (e:Rd H a u):bX P w H h a u:=e.ok ok
theorem xA {aL:List (Key×V)} (ok:jc P w H h) (e:Rd H a (.dK aL)):aL.length<=sizeLine/\(a == sysModules)=false/\∃ vs,KV aL vs/\h.DictOf (cC P w) a vs :=
 show bX P w H h a (.dK aL) from AO ok e
theorem F7 {aL:List (Key×V)} (ok:jc P w H h) (e:H a=some (.dK aL)):aL.length<=sizeLine/\(a == sysModules)=false/\∃ vs,KV aL vs/\h.DictOf (cC P w) a vs:=xA ok (.inl e)
theorem sr {ks:List Key} (ok:jc P w H h) (e:H a=some (.tup (ks.map kV))):(tupleKind (cC P w)).is h ks a:=by
 obtain ⟨_,aZ,r,o,h1,h2,n,h3⟩:=(show bX P w H h a (.tup (ks.map kV)) from ok a _ e)
 exact ⟨o,aZ.toArray,n,h1,h2,h3,by simpa using mS r⟩
theorem wL {aL:List (List Key×V)} (ok:jc P w H h) (e:Rd H a (.dT aL)):aL.length<=sizeLine/\(a == sysModules)=false /\
   ∃ xs,KT H aL xs/\h.DictOfH (tupleKind (cC P w)) a xs:=by
 obtain ⟨z,y,xs,r,o,es,ep,h1,h2,h3,h4,h5⟩:=(show bX P w H h a (.dT aL) from AO ok e)
 refine ⟨z,y,xs,r,o,es,ep,h1,h2,h3,h4,λ x hx=>?_,h5⟩
 have all:∀ {l:List (List Key×V)} {m:List (List Key×Addr×Value)},KT H l m->∀ x∈m,(tupleKind (cC P w)).is h x.1 x.2.1:=by
   intro l m q
   induction q with
   | nil=>intro x hx;exact nomatch hx
   | @cons p q ps qs hq t ih =>
     intro x hx
     rcases List.mem_cons.mp hx with e|hx
     . subst e
       exact sr ok (by rw [← hq.1];exact hq.2.1)
     . exact ih x hx
 exact all r x hx
theorem Gd {aL:List (List Key×V)} (ok:jc P w H h) (e:H a=some (.dT aL)):aL.length<=sizeLine/\(a == sysModules)=false /\
   ∃ xs,KT H aL xs/\h.DictOfH (tupleKind (cC P w)) a xs:=wL ok (.inl e)
end
def uB (H:Hp) (a:Addr) (y:V) (r:Option V):Prop :=
 (∃ aL k,Rd H a (.dK aL)/\y=kV k/\r=eA aL k)∨∃ aL k b,Rd H a (.dT aL)/\y = .ref b/\H b=some (.tup (k.map kV))/\r=eA aL k
def xt (H:Hp) (a:Addr) (y v:V) (H':Hp):Prop :=
 (∃ aL k,H a=some (.dK aL)/\y=kV k/\aL.length<sizeLine/\H'=upd H a (.dK (putK aL k v))) ∨
 ∃ aL k b,H a=some (.dT aL)/\y = .ref b/\H b=some (.tup (k.map kV))/\aL.length<sizeLine/\H'=upd H a (.dT (putK aL k v))
theorem uB.t {a b:Addr} {aL:List (List Key×V)} {k:List Key} (e:H a=some (.dT aL)) (eb:H b=some (.tup (k.map kV))):uB H a (.ref b) (eA aL k):=.inr ⟨aL,k,b,.inl e,rfl,eb,rfl⟩
theorem xt.t {a b:Addr} {aL:List (List Key×V)} {k:List Key} {v:V} (e:H a=some (.dT aL)) (eb:H b=some (.tup (k.map kV))) (hl:aL.length<sizeLine) :
   xt H a (.ref b) v (upd H a (.dT (putK aL k v))):=.inr ⟨aL,k,b,e,rfl,eb,hl,rfl⟩
section
variable {X:Cx} {pins:List (Addr×Obj)} {U:St} {H:Hp} {s:Shared} {a:Addr} {y v:V} {u r:Value} {o:Option V} {A:Around} {E:Value->Shared->Prop}
theorem Inv.big (I:Inv X pins U H s):sysModules<s.heap.objs.size:=by
 have h:mainGlobals<s.heap.objs.size:=(I.mod.glob.keeps I.bk).lt
 exact Nat.lt_trans (by decide) h
theorem tF {t':Nat} {ob:HO} (I:Inv X pins U H s) (mu:Gs (H a)) (hs:Heap.SameBut a s.heap h') (he:∃ q,h'.get? a=some q) (new:bX X.prog X.w (upd H a ob) h' a ob) :
   Inv X pins U (upd H a ob) { s with heap:=h',toks:=t' } :=
 I.write (x:=a) (e:=a) mu (.inl rfl) (λ b q hb z=>(hs.2 b hb).trans z) he new
theorem BP {P:Program} {w:World} {aL:List (Key×V)} {vs:List (Key×Value)} (z:aL.length<=sizeLine) (hd:(a == sysModules)=false) (rel:KV aL vs) (dd:h'.DictOf (cC P w) a vs) :
   bX P w H' h' a (.dK aL):=⟨z,hd,vs,rel,dd⟩
theorem uN {Q:Unit->Shared->Prop} (hu:A.units+1<cLine) (I:Inv X pins U H s) (g:xt H a y v H') (ry:RelV y u) (rv:RelV v r) (h:∀ s',Inv X pins U H' s'->Q () s') :
   wpAny (model X.prog X.w) A (setItem (.ref a) u r) Q E s:=by
 rcases g with ⟨aL,k,e,ey,l,eH⟩|⟨aL,k,b,e,ey,eb,l,eH⟩
 .
  subst ey eH
  obtain ⟨z,hd,vs,rel,dd⟩:=F7 I.cg e
  have hz:vs.length<=sizeLine:=by rw [← rel.length];exact z
  have hl:(putK aL k v).length<=sizeLine:=by have:=kh aL k v;lia
  refine wpAny_setItem_pairs (hsz:=hz) (xp ry) dd λ h' Hn hs=>h _ ?_
  have he:∃ q,h'.get? a=some q:=let ⟨q,_,_,hq,_⟩:=Hn;⟨q,hq⟩
  exact tF I (by rw [e];exact True.intro) hs he (BP hl hd (rel.put k rv) Hn)
 .
  subst ey eH
  cases (show u=Value.ref b from ry)
  obtain ⟨z,hd,xs,rel,dd⟩:=Gd I.cg e
  have hz:xs.length<=sizeLine:=by rw [← Paired.length rel];exact z
  have hl:(putK aL k v).length<=sizeLine:=by have:=kh aL k v;lia
  refine wpAny_setItem_heap (hsz:=hz) (tupleKind_room_in1 hu) (sr I.cg eb) dd λ h' Hn hs=>h _ ?_
  obtain ⟨q,es,ep,hq,h2,h3,h4,_,h5⟩:=Hn
  refine tF I (by rw [e];exact True.intro) hs ⟨q,hq⟩ ⟨hl,hd,_,(rel.put k eb rv).keeps λ c ys ec=>?_,q,es,ep,hq,h2,h3,h4,h5⟩
  rw [aE (Ea ec e (λ z=>nomatch z))]
  exact ec
end
def F8 (td ty tv:TE):TS:=λ D U H=>tv U H λ v H1=>td U H1 λ x H2=>ty U H2 λ y H3=>∃ a H4,x = .ref a/\xt H3 a y v H4/\D.nx U H4
section
variable {X:Cx} {o i e value:Expr} {pos pos' rJ:Pos} {td ty tv:TE}
theorem zd (hu:X.A.units+1<cLine) (ho:PE X o td) (hi:PE X i ty) (hv:PE X value tv) (hs:swapsWith value (some (.Subscript o i pos')) pos.line X.env=pure false) :
   PS X (.Assign [.Subscript o i pos'] value pos) (F8 td ty tv):=by
 intro pins s U H D I h
 refine wpAny_Assign_Subscript (ca (hv pins s U H _ I h) λ r s1 ⟨v,H1,I1,rv,q1⟩=>ca (ho pins s1 U H1 _ I1 q1) λ u s2 ⟨x,H2,I2,rx,q2⟩=>ca (hi pins s2 U H2 _ I2 q2) λ iv s3 ⟨y,H3,I3,ry,a,H4,ex,g,q3⟩=>?_) hs
 subst ex
 obtain rfl:u=Value.ref a:=rx
 exact uN hu I3 g ry rv λ s4 I4=>⟨U,H4,I4,q3⟩
end
theorem xr {P:Program} {w:World} (h:Heap) (hb:sysModules<h.objs.size):bX P w H (h.push { cls:=.type "dict",data:=.dict #[]}) h.objs.size (.dT []) :=
 ⟨aaH _,beq_eq_false_iff_ne.mpr (acb (aaA hb)),[],.nil,_,#[],0,aap _ rfl,⟨rfl,rfl,rfl⟩,rfl,rfl,List.nodup_nil⟩
def CS:TE:=λ _ H Q=>∀ p,H p=none->Q (.ref p) (upd H p (.dT []))
section
variable {X:Cx} {pos:Pos}
theorem wK:PE X (.Dict [] [] pos) CS:=λ pins s U H Q I h =>
 wpAny_Dict_empty ⟨.ref s.heap.objs.size,_,I.laid (a:=s.heap.objs.size) (o:=.dT []) (t':=s.toks) (λ _ _ q=>Ux _ q) (Nt _) (xr s.heap I.big),rfl,h _ (I.cg.fresh (Nt _))⟩
end
def xP:List (TE×TE)->St->Hp->(List (V×V)->Hp->Prop)->Prop
 | [],_,H,Q=>Q [] H
 | (tk,tv)::r,U,H,Q=>tk U H λ x H1=>tv U H1 λ y H2=>xP r U H2 λ ps H3=>Q ((x,y)::ps) H3
abbrev VV:List (V×V)->List (Value×Value)->Prop:=Paired λ p q=>RelV p.1 q.1/\RelV p.2 q.2
def Xx (X:Cx) (pos:Pos) (keys:List (Option Expr)) (values:List Expr) (Wg:List (TE×TE)):Prop :=
 ∀ (pins:List (Addr×Obj)) (s:Shared) (U:St) (H:Hp) (Q:List (V×V)->Hp->Prop),Inv X pins U H s->xP Wg U H Q ->
   wpAny (model X.prog X.w) X.A (evalPairs (pairTrees keys values X.env pos)) (λ vs s'=>∃ ps H',Inv X pins U H' s'/\VV ps vs/\Q ps H') X.xe s
structure M2 (X:Cx) (o:Expr) (m:Str) (apos:Pos) (e f:Expr) (eZ:Pos):Prop where
 base:attributeBase o m X.env (eval o X.env)=eval o X.env
 Wt:((backTo eZ (starEach [e,f] X.env)).all (λ x => !x.1) && (backToKw eZ (keywordEach [] X.env)).all (λ x=>x.1.isSome)
   && decide (([e,f]:List Expr).length+([]:List Keyword).length+(if ([]:List Keyword).isEmpty then 0 else 1)<30))=true
 line:(apos.endLine == eZ.line)=true
 trees:backTo eZ (starEach [e,f] X.env)=[(false,eval e X.env),(false,eval f X.env)]
def UG (H:Hp) (a:Addr):Prop:=(∃ aL,Rd H a (.dK aL))∨∃ aL,Rd H a (.dT aL)
theorem Bo {X:Cx} {s:Shared} {a:Addr} (I:Inv X pins U H s) (d:UG H a) :
   s.TypeIs (.ref a) "dict"/\(∀ b,Value.ref a = .ref b->∃ ob,s.heap.get? b=some ob/\ob.dict=none)/\(a == sysModules)=false:=by
 rcases d with ⟨aL,e⟩|⟨aL,e⟩
 .
  obtain ⟨_,hd,vs,_,dd⟩:=xA I.cg e
  refine ⟨dd.typeIs,λ b q=>?_,hd⟩
  cases q
  obtain ⟨ob,_,_,h1,h2,_⟩:=dd
  exact ⟨ob,h1,h2.2.1⟩
 .
  obtain ⟨_,hd,xs,_,dd⟩:=wL I.cg e
  refine ⟨dd.typeIs,λ b q=>?_,hd⟩
  cases q
  obtain ⟨ob,_,_,h1,h2,_⟩:=dd
  exact ⟨ob,h1,h2.2.1⟩
section
variable {X:Cx} {pins:List (Addr×Obj)} {U:St} {H:Hp} {s:Shared} {a:Addr} {y d:V} {u r:Value} {o:Option V} {A:Around} {E:Value->Shared->Prop}
theorem Bv {Q:Value->Shared->Prop} (hu:A.units+1<cLine) (I:Inv X pins U H s) (g:uB H a y o) (ry:RelV y u) (rd:RelV d r) (h:∀ w' s',Inv X pins U H s'->RelV (o.getD d) w'->Q w' s') :
   wpAny (model X.prog X.w) A (call (.builtin "dict.get") [.ref a,u,r]) Q E s:=by
 rcases g with ⟨aL,k,e,ey,l⟩|⟨aL,k,b,e,ey,eb,l⟩
 .
  subst ey
  obtain ⟨z,hd,vs,rel,dd⟩:=xA I.cg e
  refine call_meetsIn abl dd.typeIs abQ (acO _ _ _) (meets_dict_get_default (cC X.prog X.w) a (xp ry) hd r) ⟨_,dd.mapOf,h _ _ (I.tok _) ?_⟩
  rw [l]
  exact (rel.val k).getD rd
 .
  subst ey
  cases (show u=Value.ref b from ry)
  obtain ⟨z,hd,xs,rel,dd⟩:=wL I.cg e
  refine call_meetsIn abl dd.typeIs abQ (acO _ _ _) (meetsH_dict_get_default (tupleKind (cC X.prog X.w)) a b hd r) ⟨tupleKind_room_in1 hu,k,xs,sr I.cg eb,dd,h _ _ (I.tok _) ?_⟩
  rw [l]
  exact (rel.val k).getD rd
end
def Cz (td ty tx:TE):TE:=λ U H Q=>td U H λ x H1=>∃ a,x = .ref a/\UG H1 a/\ty U H1 λ y H2=>tx U H2 λ z H3=>∃ o,uB H3 a y o/\Q (o.getD z) H3
section
variable {X:Cx} {o e f:Expr} {apos eZ:Pos} {td ty tx:TE}
theorem pR (hu:X.A.units+1<cLine) (ho:PE X o td) (he:PE X e ty) (hf:PE X f tx) (m:M2 X o "get" apos e f eZ):PE X (.Call (.Attribute o "get" apos) [e,f] [] eZ) (Cz td ty tx):=by
 intro pins s U H Q I h
 refine wpAny_Call_method m.base m.Wt m.line acN abl acV (ca (ho pins s U H _ I h) λ u s1 ⟨x,H1,I1,rx,a,ex,d,q1⟩=>?_)
 subst ex
 obtain rfl:u=Value.ref a:=rx
 obtain ⟨t1,t2,_⟩:=Bo I1 d
 refine ⟨t1,t2,?_⟩
 rw [m.trees]
 refine abJ rfl (ach (abI (ca (he pins s1 U H1 _ I1 q1) λ iv s2 ⟨y,H2,I2,ry,q2⟩ =>
   abI (ca (hf pins s2 U H2 _ I2 q2) λ fv s3 ⟨z,H3,I3,rz,ov,g,q3⟩=>abU ?_))))
 exact Bv hu I3 g ry rz λ w' s4 I4 Fm=>⟨_,H3,I4,Fm,q3⟩
end
end L2
namespace Att
open PySem PySem.W PySem.Calls PyProof.Rows
theorem kN {P:Params} {h:Heap}:∀ (ns:List Int) (vs:List Value),WellAll P h vs (ns.map WData.int)->IntsAre vs ns:=by
 intro ns
 induction ns with
 | nil =>
   intro vs w
   rw [abE] at w
   cases w
   exact .nil
 | cons n ns ih =>
   intro vs w
   rw [aaR] at w
   cases w with
   | cons a b =>
     cases a
     exact .cons _ _ (ih _ b)
theorem uE {l:OpenLaw} {n:Nat} (hn:l.most=some n) {P:Params} {h:Heap} {args:List WData} {vals:List Value}
   (yu:l.row.toRowW.claim.pre args=true) (IQ:WellAll P h vals args) :
   ∃ a vs ns,vals=[Value.ref a]/\args=[WData.list (ns.map WData.int)]/\h.get? a=some { cls:=.type "list",data:=.seq vs.toArray }/\IntsAre vs ns/\ns.length<=n:=by
 have A8:WShape.hasAll [] args [.list .int]=true:=(pre_splitW yu).1
 have hc:l.pre.holds [] { args:=args }=true:=(pre_splitW yu).2
 obtain ⟨d,r,rfl,h1,h2⟩:=hasAllW_cons A8
 obtain rfl:=hasAllW_nil h2
 obtain ⟨xs,rfl,h3⟩:=hasW_list h1
 obtain ⟨ns,rfl⟩:=items_int h3
 have hlen:ns.length<=n:=by
   unfold OpenLaw.pre at hc
   have h4:(WTm.not (.lt (.lit (.int (n:Int))) (.len (.arg 0)))).holds [] { args:=[.list (ns.map .int)]}=true:=by
     have h4:=(holds_andW hc).1
     rw [hn] at h4
     exact h4
   have h5:=condW_of h4 (w_not (w_lt w_lit (w_len_list (w_arg rfl))))
   rw [be] at h5
   refine Nat.le_of_not_lt λ q=>?_
   have q':(n:Int)<((ns.length:Nat):Int):=by lia
   first
     | (rw [aaz q'] at h5;exact absurd h5 (by decide))
     | (simp at h5;lia)
 cases IQ with
 | cons w1 w2 =>
   cases w2
   cases w1 with
   | list ho BU=>exact ⟨_,_,ns,rfl,rfl,ho,kN ns _ BU,hlen⟩
theorem uP (l:OpenLaw) (args:List WData):l.row.toRowW.claim.post args (.bool true) args=true :=
 postW_of (r:=l.row.toRowW) (X:=(true == true))
   (show WShape.has [] (.bool true) .bool=true by first|rfl|decide|simp [WShape.has,WShape.arms,WShape.armsAll])
   (show (WTm.eq .res (.lit (.bool true))).value [] { args:=args,res:=some (.bool true),after:=args }=some (.bool (true == true)) from w_eq_bool (w_res rfl) w_lit) rfl
section
variable {prog:Program} {w:World} {A:Around} {E:Value->Shared->Prop} {s:Shared} {K:Frag}
def RJ (h:Heap):Heap:={ h with objs:=#[]}
def ledger (h:Heap) (L d:Addr):List (Addr×Obj):=(List.range h.objs.size).filterMap λ a=>if a=L∨a=d then none else (h.get? a).map λ o=>(a,o)
end
end Att
namespace L2
open PySem PySem.Spec PyProof.Rows
variable {H H':Hp} {qual:Str}
theorem nc:∀ {vs:List Value} {ns:List Int},IntsAre vs ns->Vals (ns.map V.int) vs
 | _,_,.nil => .nil
 | _,_,.cons n t h => .cons ⟨t,rfl⟩ (nc h)
def Fo (H:Hp):Prop:=∀ b,H b=none∨∃ o xs,H b=some (.rN o (.lst xs))
theorem xh {P:Program} {w:World} {K:W.Frag} {mg mb:Str->Option Value} {CX:x4} {k:Nat} {fa a:Addr} {fd:FuncData} {x:Str} {sp:Sp} {s₁:Shared} {vs:List Value} {ns:List Int} (KX:K.In s₁.heap) (Hb:s₁.heap.Ns mainGlobals mg) (hb:s₁.heap.Ns builtinsNs mb) (ZR:∀ x:Str,x ≠ "__name__"->mb x=bootBuiltins x) (Mj:s₁.heap.NoLimit) (hg:s₁.gens=#[]) (ha:s₁.heap.get? a=some { cls:=.type "list",data:=.seq vs.toArray }) (hi:IntsAre vs ns) (hl:ns.length<=sizeLine) (hr:ce k callerA) (F:∀ base:Heap,K.In base->base.Ns mainGlobals mg->iI P w K mg base CX k fa fd [x] sp) (FR:∀ (s:Shared) (u:Value),BindsTo s fd ⟨[u],[]⟩ [(x,u)]) (Bf:∀ H:Hp,Fo H->aN K H a (ns.map V.int)->sp [.ref a] H (λ v _=>v = .bl true) λ _ _ _=>False) (Yz:∀ H e s',CX [] H s₁ (λ _ _ _=>False) e s'->False) :
   codeAny (model P w) callerA (.call (.ref fa) ⟨[.ref a],[]⟩) (λ r s'=>r = .ok (.ret (.bool true))/\OldK s₁.heap s'.heap/\s'.os=s₁.os/\AllBare s'.gens) s₁:=by
 have rv:=nc hi
 have LQ:=hi.length
 have core:∀ H:Hp,Fo H->aN K H a (ns.map V.int)->jc P w H s₁.heap->(∀ b,H b≠none->b=a)->(H a≠none->K.lookup a=none) ->
     codeAny (model P w) callerA (.call (.ref fa) ⟨[.ref a],[]⟩) (λ r s'=>r = .ok (.ret (.bool true))/\OldK s₁.heap s'.heap/\s'.os=s₁.os/\AllBare s'.gens) s₁:=by
   intro H hO hS cg hA hK
   have t4:∀ {b:Addr} {o:Obj},s₁.heap.get? b=some o->H b=none->(ol s₁.heap H).get? b=some o:=λ e n=>wP e n
   have DK:∀ {b:Addr} {o:Obj} {es:Array DictEntry} {ep:Nat},s₁.heap.get? b=some o->o.data = .dict es ep->H b=none:=λ {b o es ep} e d=>by
     cases q:H b with
     | none=>rfl
     | some u =>
       have e':b=a:=hA b (by rw [q];simp)
       subst e'
       rw [ha] at e;cases e
       have d':Data.seq vs.toArray _=Data.dict es ep:=d
       cases d'
   have GY:∀ {b:Addr} {m:Str->Option Value},s₁.heap.Ns b m->(ol s₁.heap H).Ns b m:=λ {b m} ⟨o,es,ep,e,d,r⟩=>⟨o,es,ep,t4 e (DK e d),d,r⟩
   have UU:K.In (ol s₁.heap H):=λ b o e=>t4 (KX b o e) (by
     cases q:H b with
     | none=>rfl
     | some u =>
       have e':b=a:=hA b (by rw [q];simp)
       subst e'
       rw [hK (by rw [q];simp)] at e;cases e)
   have hM:Mod K mg (ol s₁.heap H):=⟨UU,GY Hb,⟨mb,GY hb,ZR⟩,let ⟨mc,h1,h2⟩:=Mj;⟨mc,GY h1,h2⟩⟩
   have e0:sg P w K mg (ol s₁.heap H) callerA [] s₁ H:=⟨rfl,hM,λ b o e=>zw e,Nat.le_of_eq (uz _ _),trivial,λ b hb=>absurd (show b∈([]:List Addr) from hb) (by simp),cg,.of_eq hg⟩
   refine acF ((F _ UU (GY Hb)).run callerA [] s₁ H ⟨[.ref a],[]⟩ [.ref a] [.ref a] _ _ hr e0 (FR s₁ (.ref a)) (.cons rfl .nil) (Bf H hO hS)) λ r s' h=>?_
   cases r with
   | error e=>exact (Yz H e s' h).elim
   | ok fl =>
     cases fl with
     | next=>exact False.elim h
     | brk=>exact False.elim h
     | cont=>exact False.elim h
     | ret u =>
       obtain ⟨v,H',os,bare,un,JN,r',q⟩:=h
       have q':v = .bl true:=q
       subst q'
       obtain rfl:u=Value.bool true:=r'
       refine ⟨rfl,OldK.of_keep λ b o e=>?_,os,bare⟩
       cases q:H b with
       | none=>exact un.keep b o e q (by intro z;exact absurd (show b∈([]:List Addr) from z) (by simp)) (by simp)
       | some u =>
         rcases hO b with z|⟨ob,xs,z⟩
         . rw [q] at z;cases z
         . have z2:=un.oM b ob _ z
           obtain ⟨e1,_⟩:=cg b _ z
           obtain ⟨e2,_⟩:=JN b _ z2
           rw [e] at e1;cases e1
           exact e2
 cases hk:K.lookup a with
 | some o =>
   have e:=KX a o hk
   rw [ha] at e
   cases e
   refine core (λ _=>none) (λ _ => .inl rfl) (.inr ⟨_,vs.toArray,_,hk,rfl,rfl,rfl,by rw [aab,LQ];exact hl,by simpa using rv⟩) (λ b u z=>by have z':(none:Option HO)=some u:=z;cases z') (λ b z=>absurd rfl z) λ z=>absurd rfl z
 | none =>
   refine core (λ b=>if b=a then some (.rN { cls:=.type "list",data:=.seq vs.toArray } (.lst (ns.map V.int))) else none) (λ b=>?_) (.inl (.inr ⟨{ cls:=.type "list",data:=.seq vs.toArray },aam rfl⟩)) (λ b u z=>?_) (λ b z=>?_) λ _=>hk
   . by_cases hb:b=a
     . exact .inr ⟨_,_,aam hb⟩
     . exact .inl (aak hb)
   .
    by_cases hb:b=a
    . have z':=(aam hb).symm.trans z
      cases z'
      subst hb
      exact ⟨ha,by rw [be];exact hl,vs,_,rv,ha⟩
    . have z':=(aak hb).symm.trans z
      cases z'
   . by_cases hb:b=a
     . exact hb
     . exact absurd (aak hb) z
def inClass (s:Stmt) (j:Nat):Stmt:=match s with
 | .ClassDef _ _ _ body _ _ _ _ _ _ _=>body.getD j (.Pass ⟨0,0,0,0⟩)
 | _ => .Pass ⟨0,0,0,0⟩
def bU (s:Stmt):Arguments:=match s with
 | .FunctionDef _ a _ _ _ _ _ _ _ _=>a
 | _=>{ posonlyargs:=[],args:=[],vararg:=none,kwonlyargs:=[],kw_defaults:=[],kwarg:=none,defaults:=[]}
def bz (s:Stmt):List Stmt:=match s with
 | .FunctionDef _ _ b _ _ _ _ _ _ _=>b
 | _=>[]
def al (s:Stmt):Scope:=match s with
 | .FunctionDef _ _ _ _ _ _ sc _ _ _=>sc
 | _=>{ kind:=.function,names:=[],isGenerator:=false,isCoroutine:=false }
abbrev sK:x4:=λ _ _ _ _ _ _=>False
abbrev E0:XK:=λ _ _ _=>False
theorem qA {X:Cx}:Passes sK X E0:=λ _ _ _ _ _ _ _ h=>h.elim
structure yS (K:W.Frag) (x qual:Str) (st:Stmt) (f:Addr) (fd:FuncData):Prop where
 ex:∃ (oc:Value) (od:Option Addr) (kV doc pm:Value) (an:Option Addr) (bD ct:Value) (qz:Array (Option Value)),
   fd=W.fnOf x qual (bU st) (bz st) (al st) .none kV doc pm an bD ct/\K.lookup f=some ⟨oc,od,.func fd,qz⟩/\W.codeIn K bD qual=true
 kp:W.keepIn K (.ref f)=true
section
variable {P:Program} {w:World} {K:W.Frag} {mg:Str->Option Value} {base:Heap}
theorem yS.ok {x:Str} {st:Stmt} {f:Addr} {fd:FuncData} {N ps:List Str} {k:Nat} {sp:Sp} (F:yS K x qual st f fd) (S:aC N ps (al st)) (len:∀ vs H Q E,sp vs H Q E->vs.length=ps.length) (dX:∀ (bD:Value) (A:Around) (outer:List Env) (s:Shared) (H:Hp) (vs:List V) (Q:VK) (E:XK),ce k (A.deeper (envOfC qual (al st) s.heap.objs.size f bD))->sp vs H Q E ->
     ∃ t,ny (kO sK P w K mg base N qual (al st) f bD A outer s H E).xW (bz st) t/\t { nx:=λ _ H'=>Q .cD H',rt:=Q } (start N vs) H):iI P w K mg base sK (k+1) f fd ps sp:=by
 obtain ⟨oc,od,kV,doc,pm,an,bD,ct,qz,rfl,lk,qV⟩:=F.ex
 refine AL lk qV S len λ A outer s H vs Q E hr Bf=>?_
 obtain ⟨t,h,q⟩:=dX bD A outer s H vs Q E hr Bf
 exact ⟨t,h.xW,q⟩
theorem yS.binds {x:Str} {st:Stmt} {f:Addr} {fd:FuncData} {ps:List Str} (F:yS K x qual st f fd) (h:∀ (kV doc pm:Value) (an:Option Addr) (bD ct:Value) (us:List Value),us.length=ps.length->bindArgs (W.fnOf x qual (bU st) (bz st) (al st) .none kV doc pm an bD ct) ⟨us,[]⟩=pure (ps.zip us)):Binds K fd ps []:=by
 obtain ⟨oc,od,kV,doc,pm,an,bD,ct,qz,rfl,lk,qV⟩:=F.ex
 exact .all (h kV doc pm an bD ct)
theorem bv {x:Str} {st:Stmt} {f:Addr} {oc:Value} {od an:Option Addr} {qz:Array (Option Value)} {kV doc pm bD ct:Value} (l:K.lookup f=some ⟨oc,od,.func (W.fnOf x qual (bU st) (bz st) (al st) .none kV doc pm an bD ct),qz⟩) (c:W.codeIn K bD qual=true) (k:W.keepIn K (.ref f)=true):yS K x qual st f (W.fnOf x qual (bU st) (bz st) (al st) .none kV doc pm an bD ct):=⟨⟨oc,od,kV,doc,pm,an,bD,ct,qz,rfl,l,c⟩,k⟩
end
theorem xu {A:Around} {k:Nat} (hr:ce k A):A.units+1<cLine:=aaT (Nat.add_le_add_left (by decide:1<=64) _) hr.units
theorem aq {n:Nat} (h:n<=1000):n<sizeLine:=aaT h (by decide)
section
variable {X:Cx}
theorem pv (i:Nat) {x:Str} {pos:Pos} (hN:X.N[i]?=some x:=by rfl) (hv:G9 X.env.scope x:=by first|exact Or.inl rfl|exact Or.inr (Or.inl rfl)|exact Or.inr (Or.inr rfl)) (hd:(x == ("__debug__" : Str))=false:=by decide) (qV:(x == ("__classdict__" : Str))=false:=by decide):PE X (.Name x pos) (cN i):=BH hN hv hd qV
end
theorem eB {A B:Prop} (h:B):if false=true then A else B:=by
 rw [aak OR]
 exact h
theorem wC {A B:Prop} (h:A):if true=true then A else B:=by
 rw [aam rfl]
 exact h
theorem eU {c A B:Prop} [Decidable c] (hc:c) (h:B):if (!decide c)=true then A else B:=by
 rw [aaz hc]
 exact eB h
def aG (H H':Hp):Prop:=∀ b o,H b=some o->H' b=some o
theorem aG.refl (H:Hp):aG H H:=λ _ _ h=>h
theorem aG.trans {H1 H2:Hp} (a:aG H H1) (b:aG H1 H2):aG H H2:=λ c o h=>b c o (a c o h)
theorem aG.free (e:aG H H') {l:Addr} (h:H' l=Option.none):H l=Option.none:=by
 cases q:H l with
 | none=>rfl
 | some o =>
   rw [e l o q] at h
   cases h
theorem aG.seq {K:W.Frag} {a:Addr} {xs:List V} (e:aG H H') (h:aN K H a xs):aN K H' a xs:=by
 rcases h with (h|⟨o,h⟩)|h
 . exact .inl (.inl (e _ _ h))
 . exact .inl (.inr ⟨o,e _ _ h⟩)
 . exact .inr h
section
variable {κ:Type} [DecidableEq κ]
theorem xM {aL:List (κ×V)} {k:κ} (h:eA aL k=none):¬ k∈aL.map (·.1):=by
 intro m
 obtain ⟨p,hp,e⟩:=List.mem_map.mp m
 have q:(aL.any λ kv=>decide (kv.1=k))=true:=List.any_eq_true.mpr ⟨p,hp,aaz e⟩
 rw [gC,h] at q
 exact absurd q (by simp)
theorem tL:∀ {l:List κ} {k:κ},l.Nodup->¬ k∈l->(l++[k]).Nodup
 | [],k,_,_=>by simp
 | a::r,k,h,hk=>by
   obtain ⟨h1,h2⟩:=List.nodup_cons.mp h
   show (a::(r++[k])).Nodup
   refine List.nodup_cons.mpr ⟨λ m=>?_,tL h2 λ m=>hk (List.mem_cons.mpr (Or.inr m))⟩
   rcases List.mem_append.mp m with q|q
   . exact h1 q
   . exact hk (List.mem_cons.mpr (Or.inl (List.mem_singleton.mp q).symm))
theorem Ap {aL:List (κ×V)} {k:κ} (v:V) (hn:(aL.map (·.1)).Nodup) (h:eA aL k=none):((putK aL k v).map (·.1)).Nodup:=by
 rw [wT v h,uk]
 exact tL hn (xM h)
end
end L2
namespace Mth
theorem A0 {g l:Int} (hg:0<=g) (hl:0<l):Int.gcd l (g % l)=Int.gcd g l:=by
 obtain ⟨a,rfl⟩:=aaG hg
 obtain ⟨b,rfl⟩:=aaG (abw hl)
 show Nat.gcd b (((a:Int) % (b:Int))).natAbs=Nat.gcd a b
 have:(((a:Int) % (b:Int))).natAbs=a % b:=by rw [← Int.natCast_emod];rfl
 rw [this,Nat.gcd_comm a b,Nat.gcd_comm b,← Nat.gcd_rec]
theorem Ee {g:Int} (hg:0<=g):((Int.gcd g 0:Nat):Int)=g:=by
 rw [Int.gcd_zero_right];lia
theorem nK {a b:Int} (ha:0<a) (h:0<a * b):0<b:=by
 rcases (by lia:0<b∨b<=0) with q|q
 . exact q
 . have:=abO (abw ha) (by lia:0 <= -b)
   rw [ac3] at this
   lia
structure Fr (t b q r:Int):Prop where
 pos:0<r
 nI:q * b=t * r
 IV:Int.gcd q r=1
 AS:q.natAbs<=t.natAbs
 AX:r.natAbs<=b.natAbs
theorem lE {c q:Int} (hc:0<c):q.natAbs<=(c * q).natAbs:=by
 rw [abZ]
 exact Nat.le_mul_of_pos_left _ (by lia)
theorem xj {t b c:Int} (hb:b≠0) (hc:c=((Int.gcd t b:Nat):Int)):0<c/\c<=b.natAbs/\(0<b->Fr t b (t.fdiv c) (b.fdiv c))/\(b<0->Fr t b (t.fdiv (-c)) (b.fdiv (-c))):=by
 have hp:0<Int.gcd t b:=Int.gcd_pos_iff.mpr (.inr hb)
 have c0:0<c:=by lia
 have d1:c ∣ t:=hc ▸ Int.gcd_dvd_left t b
 have d2:c ∣ b:=hc ▸ Int.gcd_dvd_right t b
 obtain ⟨q,hq⟩:=d1
 obtain ⟨r,hr⟩:=d2
 have hr0:r≠0:=by rintro rfl;rw [Int.mul_zero] at hr;exact hb hr
 have hle:c<=b.natAbs:=by
   rw [hr,abZ]
   have:c.natAbs * 1<=c.natAbs * r.natAbs:=Nat.mul_le_mul_left _ (by lia)
   lia
 have e1:t.fdiv c=q:=by rw [hq,abv _ (by lia)]
 have e2:b.fdiv c=r:=by rw [hr,abv _ (by lia)]
 have e3:t.fdiv (-c) = -q:=by rw [show t = -c * -q by rw [hq,Int.neg_mul_neg],abv _ (by lia)]
 have e4:b.fdiv (-c) = -r:=by rw [show b = -c * -r by rw [hr,Int.neg_mul_neg],abv _ (by lia)]
 have hg:Int.gcd q r=1:=by
   have h1:Int.gcd (c * q) (c * r)=c.natAbs * Int.gcd q r:=Int.gcd_mul_left c q r
   rw [← hq,← hr] at h1
   have h3:c.natAbs=Int.gcd t b:=by lia
   rw [h3] at h1
   have h2:Int.gcd t b * Int.gcd q r=Int.gcd t b * 1:=by rw [← h1,Nat.mul_one]
   exact Nat.eq_of_mul_eq_mul_left hp h2
 have l1:q.natAbs<=t.natAbs:=hq ▸ lE c0
 have l2:r.natAbs<=b.natAbs:=hr ▸ lE c0
 refine ⟨c0,hle,λ b0=>?_,λ b0=>?_⟩
 . rw [e1,e2]
   exact ⟨nK c0 (hr ▸ b0),by rw [hq,hr,aa0,acg],hg,l1,l2⟩
 . rw [e3,e4]
   refine ⟨nK c0 (by rw [ac3,← hr];lia),?_,by rw [Int.gcd_neg,Int.neg_gcd];exact hg,by lia,by lia⟩
   rw [hq,hr,Int.neg_mul,ac3,aa0,acg]
def Bd (n:Nat) (x:Int):Prop:=x.natAbs<2 ^ n
theorem Bd.mono {m n:Nat} {x:Int} (h:Bd m x) (l:m<=n):Bd n x:=aai h (abW (by decide) l)
theorem Bd.mul {m n:Nat} {x y:Int} (h:Bd m x) (k:Bd n y):Bd (m+n) (x * y):=by
 unfold Bd at *
 rw [abZ,Nat.pow_add]
 exact Nat.mul_lt_mul'' h k
theorem Bd.add {m:Nat} {x y:Int} (h:Bd m x) (k:Bd m y):Bd (m+1) (x+y):=by
 unfold Bd at *
 rw [acX]
 have:=Int.natAbs_add_le x y
 lia
theorem Bd.neg {m:Nat} {x:Int} (h:Bd m x):Bd m (-x):=by unfold Bd at *;rw [Int.natAbs_neg];exact h
theorem Bd.sub {m:Nat} {x y:Int} (h:Bd m x) (k:Bd m y):Bd (m+1) (x - y):=by rw [Int.sub_eq_add_neg];exact h.add k.neg
theorem Bd.le {m:Nat} {x y:Int} (h:Bd m y) (k:x.natAbs<=y.natAbs):Bd m x:=aaT k h
theorem Bd.log {n:Nat} {x:Int} (h:Bd n x) (hn:0<n):x.natAbs.log2<n:=by
 by_cases h0:x.natAbs=0
 . rw [h0];simpa using hn
 . exact (Nat.log2_lt h0).mpr h
theorem Fr.U5 {t b q r:Int} {n:Nat} (h:Fr t b q r) (k:Bd n t):Bd n q:=k.le h.AS
theorem Fr.Ul {t b q r:Int} {n:Nat} (h:Fr t b q r) (k:Bd n b):Bd n r:=k.le h.AX
end Mth
namespace Bit
def rooms (n:Nat):List Nat:=(List.range 61).filter n.testBit
def sumOf (l:List Nat):Nat:=l.foldl (λ n r=>n ||| 2 ^ r) 0
def parts (l:List Nat):List Nat:=l.foldl (λ ps r=>ps++ps.map (· ||| 2 ^ r)) [0]
structure Ok (ps l:List Nat):Prop where
 len:ps.length=2 ^ l.length
 first:ps[0]?=some 0
 last:ps[ps.length - 1]?=some (sumOf l)
 rise:ps.Pairwise (· < ·)
 sub:∀ p∈ps,∀ k,p.testBit k=true->k∈l
end Bit
namespace L2
open PySem PySem.Spec PyProof.Rows Mth
theorem oA:bootBuiltins "abs" = some (.builtin "abs"):=by decide +kernel
theorem cB:bootBuiltins "len" = some (.builtin "len"):=by decide +kernel
theorem cI:bootBuiltins "isinstance" = some (.builtin "isinstance"):=by decide +kernel
theorem rA:bootBuiltins "all" = some (.builtin "all"):=by decide +kernel
theorem pL:bootBuiltins "tuple" = some (.type "tuple"):=by decide +kernel
theorem fW:bootBuiltins "list" = some (.type "list"):=by decide +kernel
theorem xq:bootBuiltins "int" = some (.type "int"):=by decide +kernel
theorem yT:bootBuiltins "bool" = some (.type "bool"):=by decide +kernel
theorem tu {n:Nat} {x:Int} (h:Bd n x):Builtin.Int.intBits x<=n:=PySem.intBits_le_iff.mpr h
theorem zP {n:Nat} {x:Int} (h:Builtin.Int.intBits x<=n):Bd n x:=PySem.intBits_le_iff.mp h
section
variable {X:Cx}
def xU (i j:Int):Prop:=∃ m n,Bd m i/\Bd n j/\m+n<=100000000
def vR (_ j:Int):Prop:=j≠0/\Bd 8999 j
theorem zO:g8 X (binaryOp .Mult) (rI xU λ i j => .int (i * j)):=Hv λ _ _ _ _ _ _ _ hc q=>by
 obtain ⟨m,n,h1,h2,h3⟩:=hc
 exact mul_int q (IntMulOk.of_le (tu h1) (tu h2) (by lia))
theorem wl:g8 X (binaryOp .FloorDiv) (rI vR λ i j => .int (i.fdiv j)):=Hv λ _ _ _ _ _ _ _ hc q=>by
 have h2:Bd 8999 _:=hc.2
 exact floordiv_int hc.1 q (.inl (PyProof.noPylong_of_log2 (aai (h2.log (by decide)) (by decide))))
inductive lV (K:W.Frag) (x:V) (y:V) (H:Hp) (Q:VK):Prop
 | mk (p xs i v:_) (_:x = .ref p) (_:y = .int i) (_:(aN K H p xs∨cE K H p xs)) (_:mZ xs i=some v) (_:Q v H)
theorem au:Dr X (lV X.K):=by
 intro value slice pins s U H x y v u Q I rx ry h hs
 obtain ⟨p,xs,i,w,e1,e2,hq,e3,q⟩:=h
 rcases hq with hq|hq
 . exact zc value slice pins s U H x y v u Q I rx ry ⟨p,xs,i,w,e1,e2,hq,e3,q⟩ hs
 . exact Bt value slice pins s U H x y v u Q I rx ry ⟨p,xs,i,w,e1,e2,hq,e3,q⟩ hs
theorem dP:fC X (.builtin "isinstance") (λ xs H Q=>∃ x c t cv b,xs=[x,c]/\jm X.K H x t/\RelV c cv/\W.kitOne X.K t cv=some b/\Q (.bl b) H):=by
 intro pins s U H xs us Q I r h
 obtain ⟨x,c,t,cv,b,rfl,ty,rc,e,q⟩:=h
 obtain ⟨u,w',rfl,r1,r2⟩:=vals2 r
 have:w'=cv:=by
   cases c with
   | cD=>cases r2;cases rc;rfl
   | bl b=>cases r2;cases rc;rfl
   | ref a=>cases r2;cases rc;rfl
   | ty n=>cases r2;cases rc;rfl
   | int i=>exact absurd e (by obtain ⟨k,rfl⟩:=rc;intro z;unfold W.kitOne W.kitCls at z;cases ty<;>simp at z)
   | str i=>exact absurd e (by obtain ⟨k,rfl⟩:=rc;intro z;unfold W.kitOne W.kitCls at z;cases ty<;>simp at z)
   | uy i=>exact absurd e (by obtain ⟨k,rfl⟩:=rc;intro z;unfold W.kitOne W.kitCls at z;cases ty<;>simp at z)
   | AK i=>exact absurd e (by obtain ⟨k,rfl⟩:=rc;intro z;unfold W.kitOne W.kitCls at z;cases ty<;>simp at z)
 subst this
 exact ue I r1 ty e λ tk=>⟨.bl b,H,I.tok _,rfl,q⟩
end
def hE (K:W.Frag) (mg:Str->Option Value) (x:Str) (st:Stmt):Prop:=∃ f fd,mg x=some (.ref f)/\yS K x x st f fd
def Def (P:Program) (w:World) (K:W.Frag) (mg:Str->Option Value) (base:Heap) (x:Str) (k:Nat) (ps:List Str) (sp:Sp):Prop :=
 ∃ f fd,mg x=some (.ref f)/\W.keepIn K (.ref f)=true/\Binds K fd ps []/\iI P w K mg base sK k f fd ps sp
section
variable {P:Program} {w:World} {K:W.Frag} {mg:Str->Option Value} {base:Heap}
theorem hE.def {x:Str} {st:Stmt} {N ps:List Str} {k:Nat} {sp:Sp} (h:hE K mg x st) (S:aC N ps (al st)) (len:∀ vs H Q E,sp vs H Q E->vs.length=ps.length)
   (hb:∀ (kV doc pm:Value) (an:Option Addr) (bD ct:Value) (us:List Value),us.length=ps.length->bindArgs (W.fnOf x x (bU st) (bz st) (al st) .none kV doc pm an bD ct) ⟨us,[]⟩=pure (ps.zip us))
   (dX:∀ (f:Addr) (bD:Value) (A:Around) (outer:List Env) (s:Shared) (H:Hp) (vs:List V) (Q:VK) (E:XK),ce k (A.deeper (envOfC x (al st) s.heap.objs.size f bD))->sp vs H Q E ->
     ∃ t,ny (kO sK P w K mg base N x (al st) f bD A outer s H E).xW (bz st) t/\t { nx:=λ _ H'=>Q .cD H',rt:=Q } (start N vs) H):Def P w K mg base x (k+1) ps sp:=by
 obtain ⟨f,fd,hm,F⟩:=h
 exact ⟨f,fd,hm,F.kp,F.binds hb,F.ok S len λ bD A outer s H vs Q E hr hs=>dX f bD A outer s H vs Q E hr hs⟩
theorem yS.BL {x qual:Str} {st:Stmt} {f:Addr} {fd:FuncData} {p:Str} (F:yS K x qual st f fd)
   (h:∀ (kV doc pm:Value) (an:Option Addr) (bD ct:Value) (u:Value),bindArgs (W.fnOf x qual (bU st) (bz st) (al st) .none kV doc pm an bD ct) ⟨[u],[]⟩=pure [(p,u)]) (s:Shared) (u:Value):BindsTo s fd ⟨[u],[]⟩ [(p,u)]:=by
 obtain ⟨oc,od,kV,doc,pm,an,bD,ct,qz,rfl,lk,qV⟩:=F.ex
 exact .of_eq (h kV doc pm an bD ct u)
end
section
variable {X:Cx} {x:Str} {p pos:Pos} {e:Expr} {es:List Expr} {t:TA} {k:Nat} {ps:List Str} {sp:Sp}
theorem ao (D:Def X.prog X.w X.K X.mg X.base x k ps sp) (hr:ce k X.A) (ha:PA X (e::es) t) (hg:Gl X x:=by rfl) (oN:(x == ("__debug__" : Str))=false:=by decide)
   (he:starEach (e::es) X.env=(false,eval e X.env)::starEach es X.env:=by rfl) (hC:(backTo pos (starEach es X.env)).any (·.1)=false:=by rfl):PE X (.Call (.Name x p) (e::es) [] pos) (iq sp [] E0 t):=by
 obtain ⟨f,fd,hm,hk,hb,F⟩:=D
 exact ym F hr hg hm hk hb .nil qA ha oN he hC
end
theorem qX {n:Int} {m:Nat} (h:(W.WData.int n).weight<=m):Bd m n:=by
 refine zP ?_
 simpa only [W.WData.weight,Builtin.Int.intBits] using h
end L2
namespace Att
open PySem PySem.W PySem.Calls PyProof.Rows Mth
theorem o5 {l:OpenLaw} {n:Nat} {q:Program} {loose:List Str} {XP:(Str->Option Value)->Heap->Prop} {YP:World->Heap->Prop} {d:DefRec}
   (hn:l.most=some n) (FX:d.params.defaults=[])
   (call:∀ (w:World) (s₀ s₁:Shared) (mg mb:Str->Option Value) (fa:Addr) (o:Obj) (pm cd doc:Value) (a:Addr) (vs:List Value) (ns:List Int),
     Ground q loose [] XP w s₀ mg mb s₁.heap->YP w s₁.heap ->
     s₁.heap.get? fa=some o->o.data = .func (docDef d.name d.params d.body d.scope pm cd doc)->s₁.heap.CodeRec cd d.name->mg d.name=some (.ref fa) ->
     s₁.heap.get? a=some { cls:=.type "list",data:=.seq vs.toArray }->IntsAre vs ns->ns.length<=n->(∀ z∈ns,Bd 1048576 z)->s₁.gens=#[] ->
     codeAny (model l.prog w) callerA (.call (.ref fa) ⟨[.ref a],[]⟩) (λ r s'=>r = .ok (.ret (.bool true))/\OldK s₁.heap s'.heap/\s'.os=s₁.os/\AllBare s'.gens) s₁) :
   WalkO q loose XP YP l.row.toRowW d [] (λ f vs=>PySem.call f vs):=by
 intro w s₀ s₁ mg mb G Y fa o pm cd doc dV kV ho hd qV hD Ds hg args vals as yu SO hrd IQ hlo
 obtain rfl:dV = .none:=Dflts.none hD FX
 obtain rfl:kV = .none:=Dflts.noKw hD
 obtain ⟨a,vs,ns,rfl,rfl,Bm,hints,hlen⟩:=uE hn yu IQ
 have pD:∀ z∈ns,Bd 1048576 z:=λ z hz=>by
   have h1:=layableW_arg SO _ (List.mem_singleton.mpr rfl)
   have h2:=layableW_item h1 (.int z) (List.mem_map.mpr ⟨z,hz,rfl⟩)
   exact L2.qX (aaO (layableW_iff.mp h2).2.2 (by decide))
 refine enter_call (acF (call w s₀ s₁ mg mb fa o pm cd doc a vs ns G Y ho (fd_plain hd) qV Ds Bm hints hlen pD hg) λ r s' hq=>?_)
 obtain ⟨rfl,h2,h3,h4⟩:=hq
 exact ⟨.inl ⟨.bool true,.bool true,[],rfl,λ _=>rfl,.bool true,uP l _,λ _=>⟨List.Pairwise.nil,λ _ hm=>(nomatch hm)⟩⟩,h2,h3,h4⟩
end Att
namespace L2
open PySem PySem.Spec PyProof.Rows Mth
variable {H H':Hp} {T i1 i2:Addr} {X:Cx} {elt iter tg:Expr} {elts ifs:List Expr} {nt t' x1:Nat} {o:HO} {te:TE} {rJ:Pos} {xs:List V} {U:St}
inductive wH (K:W.Frag) (vs:List V) (H:Hp) (Q:VK) (_E:XK):Prop
 | mk (a:Addr) (ns:List Int) (_:vs=[.ref a]) (_:aN K H a (ns.map V.int)) (_:ns.length<=63) (_:(∀ z∈ns,Bd 1048576 z)) (_:∀ H',Q (.bl true) H')
theorem xE {l:W.OpenLaw} {k:Nat} {q:Program} {loose:List Str} {XP:(Str->Option Value)->Heap->Prop} {YP:World->Heap->Prop} {d:DefRec} {K:Params->W.Frag} {x:Str} (hn:l.most=some 63) (FX:d.params.defaults=[]) (hr:ce k callerA) (hY:∀ (w:World) (h:Heap),YP w h->(K w.params).In h) (F:∀ (w:World) (mg:Str->Option Value) (fa:Addr) (h:Heap),(K w.params).In h->h.Ns mainGlobals mg->mg d.name=some (.ref fa) ->
     ∃ fd:FuncData,(∀ (s:Shared) (u:Value),BindsTo s fd ⟨[u],[]⟩ [(x,u)]) /\
       ∀ base:Heap,(K w.params).In base->base.Ns mainGlobals mg->iI l.prog w (K w.params) mg base sK k fa fd [x] (wH (K w.params))) :
   W.WalkO q loose XP YP l.row.toRowW d [] (λ f vs=>PySem.call f vs):=by
 refine Att.o5 hn FX λ w s₀ s₁ mg mb fa o pm cd doc a vs ns G Y ho hd qV Ds Bm hints hlen pD hg=>?_
 have KX:=hY w _ Y
 obtain ⟨fd,hb,hF⟩:=F w mg fa _ KX G.T.g Ds
 exact xh KX G.T.g G.T.b G.T.builtins G.T.nolimit hg Bm hints (aaO hlen (by decide)) hr hF hb (λ H hO hS=>⟨a,ns,rfl,hS,hlen,pD,λ _=>rfl⟩) λ H e s' z=>z
section
variable {X:Cx}
inductive FW  (x:V) (y:V) (H:Hp) (Q:VK):Prop
 | mk (i j:_) (_:x = .int i) (_:y = .int j) (_:∀ r:Int,r=i+j->Q (.int r) H)
inductive FY  (x:V) (y:V) (H:Hp) (Q:VK):Prop
 | mk (i j:_) (_:x = .int i) (_:y = .int j) (_:∀ r:Int,r=i - j->Q (.int r) H)
inductive DO  (x:V) (y:V) (H:Hp) (Q:VK):Prop
 | mk (i j:_) (_:x = .int i) (_:y = .int j) (_:xU i j) (_:∀ r:Int,r=i * j->Q (.int r) H)
inductive DE  (x:V) (y:V) (H:Hp) (Q:VK):Prop
 | mk (i j:_) (_:x = .int i) (_:y = .int j) (_:vR i j) (_:∀ r:Int,r=i.fdiv j->Q (.int r) H)
inductive EQ  (x:V) (y:V) (H:Hp) (Q:VK):Prop
 | mk (i j:_) (_:x = .int i) (_:y = .int j) (_:Cw i j) (_:∀ r:Int,r=i ^ j.toNat->Q (.int r) H)
inductive Xl  (x:V) (y:V) (H:Hp) (Q:VK):Prop
 | mk (i j:_) (_:x = .int i) (_:y = .int j) (_:0<j) (_:∀ r:Int,0<=r->r<j->r=i % j->Q (.int r) H)
theorem bq:g8 X (binaryOp .Add) FW:=λ pins s U H x y v u Q I rx ry ⟨i,j,e1,e2,q⟩=>CP pins s U H x y v u Q I rx ry ⟨i,j,e1,e2,q _ rfl⟩
theorem ek:g8 X (binaryOp .Sub) FY:=λ pins s U H x y v u Q I rx ry ⟨i,j,e1,e2,q⟩=>BZ pins s U H x y v u Q I rx ry ⟨i,j,e1,e2,q _ rfl⟩
theorem bG:g8 X (binaryOp .Mult) DO:=λ pins s U H x y v u Q I rx ry ⟨i,j,e1,e2,c,q⟩=>zO pins s U H x y v u Q I rx ry ⟨i,j,e1,e2,c,q _ rfl⟩
theorem bp:g8 X (binaryOp .FloorDiv) DE:=λ pins s U H x y v u Q I rx ry ⟨i,j,e1,e2,c,q⟩=>wl pins s U H x y v u Q I rx ry ⟨i,j,e1,e2,c,q _ rfl⟩
theorem iC:g8 X (binaryOp .Pow) EQ:=λ pins s U H x y v u Q I rx ry ⟨i,j,e1,e2,c,q⟩=>By pins s U H x y v u Q I rx ry ⟨i,j,e1,e2,c,q _ rfl⟩
theorem aU:g8 X (binaryOp .Mod) Xl:=λ pins s U H x y v u Q I rx ry ⟨i,j,e1,e2,c,q⟩ =>
 BD pins s U H x y v u Q I rx ry ⟨i,j,e1,e2,c,q _ (acw _ (by lia)) (ab8 _ c) rfl⟩
theorem iz:fC X (.builtin "abs") (λ xs H Q=>∃ i,xs=[.int i]/\∀ r:Int,r=i.natAbs->Q (.int r) H) :=
 λ pins s U H xs us Q I r ⟨i,e,q⟩=>xa pins s U H xs us Q I r ⟨i,e,q _ (by split<;>lia)⟩
theorem bF:fC X (.builtin "len") (λ xs H Q=>∃ p ys,xs=[.ref p]/\(aN X.K H p ys∨cE X.K H p ys)/\∀ r:Int,r=ys.length->Q (.int r) H) :=
 λ pins s U H xs us Q I r ⟨p,ys,e,hq,q⟩=>oh pins s U H xs us Q I r ⟨p,ys,e,hq,q _ rfl⟩
def Ma (t:TS):TS:=λ D U H=>∃ P:St->Hp->Prop,t { D with nx:=P } U H/\∀ σ' H',P σ' H'->D.nx σ' H'
theorem lY {st:Stmt} {t:TS} (h:PS X st t):PS X st (Ma t):=by
 intro pins s U H D I hw
 obtain ⟨P,h1,h2⟩:=hw
 refine ca (h pins s U H { D with nx:=P } I h1) λ f s1 q=>?_
 cases f with
 | next =>
   obtain ⟨σ',H',I',q⟩:=q
   exact ⟨σ',H',I',h2 σ' H' q⟩
 | ret v=>exact q
 | brk=>exact q
 | cont=>exact q
end
theorem xl {c A B:Prop} [Decidable c] (hc:c) (h:A):if decide c=true then A else B:=by
 rw [aaz hc];exact wC h
theorem eY {c A B:Prop} [Decidable c] (hc:¬ c) (h:B):if decide c=true then A else B:=by
 rw [aaq hc];exact eB h
theorem fF {c A B:Prop} [Decidable c] (h1:c->A) (h2:¬ c->B):if decide c=true then A else B:=by
 by_cases h:c
 . exact xl h (h1 h)
 . exact eY h (h2 h)
theorem J6 {c A B:Prop} [Decidable c] (h1:¬ c->A) (h2:c->B):if (!decide c)=true then A else B:=by
 by_cases h:c
 . exact eU h (h2 h)
 . rw [aaq h];exact wC (h1 h)
theorem qu {c A B:Prop} [Decidable c] (hc:¬ c) (h:A):if (!decide c)=true then A else B:=by
 rw [aaq hc];exact wC h
theorem eO {a b:Int}:V.int a=V.int b↔a=b:=⟨λ e=>by cases e;rfl,λ e=>by rw [e]⟩
theorem ai {p:Addr} (h:H p=none):aG H (upd H p o):=λ b u e=>by rw [aE (aw e h)];exact e
theorem aG.tup {K:W.Frag} {a:Addr} (e:aG H H') (h:cE K H a xs):cE K H' a xs:=by
 rcases h with (h|⟨o,h⟩)|h
 . exact .inl (.inl (e _ _ h))
 . exact .inl (.inr ⟨o,e _ _ h⟩)
 . exact .inr h
theorem yl {n:Nat} {x:Int} (h:x.natAbs<2 ^ n:=by decide):Bd n x:=h
theorem jV {x:Int} (n:Nat) (lo : -(2 ^ 100)<x) (hi:x<2 ^ 100) (h:100<=n:=by decide):Bd n x:=by
 have:Bd 100 x:=by unfold Bd;lia
 exact this.mono h
theorem oK (K:W.Frag):W.kitOne K (.type "int") (.type "bool")=some false:=by
 show (if W.kitMeta "bool" = true then ((PySem.fastBuiltinMro "int").map (·.contains (Value.type "bool"))) else none)=some false
 decide +kernel
theorem wj {x y:V}:[x,y].length<=sizeLine:=by show 2<=sizeLine;decide
theorem xY {x y z:V}:[x,y,z].length<=sizeLine:=by show 3<=sizeLine;decide
inductive BM  (vs:List V) (H:Hp) (Q:VK) (_E:XK):Prop
 | mk (a b:Int) (_:vs=[.int a,.int b]) (_:∀ r:Int,r=((Int.gcd a b:Nat):Int)->Q (.int r) H)
inductive qC  (vs:List V) (H:Hp) (Q:VK) (_E:XK):Prop
 | mk (t b:Int) (_:vs=[.int t,.int b]) (_:b≠0) (_:Bd 4000 b) (_:∀ q r p H',Fr t b q r->aG H H'->H' p=some (.tup [.int q,.int r])->Q (.ref p) H')
inductive qL (f:Int->Int->Int->Int->Int) (K:W.Frag) (vs:List V) (H:Hp) (Q:VK) (_E:XK):Prop
 | mk (p1 p2 a b c d:_) (_:vs=[.ref p1,.ref p2]) (_:cE K H p1 [.int a,.int b]) (_:cE K H p2 [.int c,.int d]) (_:0<b) (_:0<d) (_:Bd 1000 a) (_:Bd 1000 b) (_:Bd 1000 c) (_:Bd 1000 d) (_:∀ q r p H',Fr (f a b c d) (b * d) q r->aG H H'->H' p=some (.tup [.int q,.int r])->Q (.ref p) H')
inductive vV (K:W.Frag) (vs:List V) (H:Hp) (Q:VK) (_E:XK):Prop
 | mk (p1 p2 a b c d:_) (_:vs=[.ref p1,.ref p2]) (_:cE K H p1 [.int a,.int b]) (_:cE K H p2 [.int c,.int d]) (_:Bd 1000 a) (_:Bd 1000 b) (_:Bd 1000 c) (_:Bd 1000 d) (_:Q (.bl (decide (a * d<c * b))) H)
inductive sE (K:W.Frag) (vs:List V) (H:Hp) (Q:VK) (_E:XK):Prop
 | mk (a:Addr) (ns:List Int) (k:Int) (_:vs=[.ref a,.int k]) (_:aN K H a (ns.map V.int)) (_:0<=k) (_:∀ z,(z∈ns∨z=0)->Q (.int z) H)
inductive wt  (vs:List V) (H:Hp) (Q:VK) (_E:XK):Prop
 | mk (t b:Int) (_:vs=[.int t,.int b]) (_:0<b) (_:Bd 4000 b) (_:∀ q r p H',Fr t b q r->aG H H'->H' p=some (.tup [.int q,.int r])->Q (.ref p) H')
def bM (X:Cx) (N':List Str) (scope:Scope) (cl:List (Str×Addr)) (C:Addr) (s:Shared) (H:Hp) (ex:List Addr):Cx :=
 { X with N:=N',env:=compEnvC scope cl C X.env,s₀:=s,H₀:=H,outer:=X.stack,ex:=ex,fn:=λ _=>false,pn:=[],xe:=λ _ _=>False }
def Ay (X:Cx) (ifs:List Expr) (tt:TT):Prop :=
 ∀ (pins:List (Addr×Obj)) (s:Shared) (U:St) (H:Hp) (Q:Bool->Hp->Prop),Inv X pins U H s->tt U H Q ->
   wpAny (model X.prog X.w) X.A (forIn ifs true λ c r=>if r=true then do let ok ← isTrue c X.env (eval c X.env);pure (ForInStep.yield ok) else pure (ForInStep.yield r)) (TP X pins U Q) X.xe s
def ze:TT:=λ _ H Q=>Q true H
theorem bZ:Ay X [] ze:=λ _ _ _ H _ I h=>wpAny_tests_nil ⟨H,I,h⟩
theorem t5 {c:Expr} {tt:TT} (hc:PT X c tt):Ay X [c] tt:=λ pins s U H Q I h=>wpAny_tests_one (hc pins s U H Q I h)
def dM (env:Env):List (Str×NameKind)->List (Str×Addr)->List (Str×Addr)
 | [],acc=>acc
 | y::r,acc=>dM env r (if (y.2 == NameKind.free)=true then (y.1,(env.cells.lookup y.1).getD 0)::acc else acc)
theorem oZ (env:Env):∀ (names:List (Str×NameKind)) (acc:List (Str×Addr)),(∀ y∈names,y.2 = .free->∃ c,env.cells.lookup y.1=some c) ->
   (forIn names acc λ x __s=>if (x.snd == NameKind.free)=true then do
       let __do_lift ← cellOf env x.fst
       pure (ForInStep.yield ((x.fst,__do_lift)::__s))
     else pure (ForInStep.yield __s))=(pure (dM env names acc):Sem _)
 | [],acc,_=>rfl
 | y::r,acc,h=>by
   rw [List.forIn_cons]
   by_cases hk:(y.2 == NameKind.free)=true
   .
    obtain ⟨c,e⟩:=h y aae (beq_iff_eq.mp hk)
    rw [aam hk]
    have ec:cellOf env y.1=pure c:=by unfold cellOf;rw [e]
    rw [ec]
    simp only [pure_bind]
    rw [oZ env r _ λ z hz=>h z (aaf _ hz)]
    simp only [dM,hk,aca,e,Option.getD_some]
   . rw [aak hk]
     simp only [pure_bind]
     rw [oZ env r _ λ z hz=>h z (aaf _ hz)]
     simp only [dM,hk,abV]
     rfl
theorem yC {scope:Scope} {env:Env} (h:∀ y∈scope.names,y.2 = .free->∃ c,env.cells.lookup y.1=some c):closureFor scope env=pure (dM env scope.names []):=by
 simp only [closureFor]
 rw [oZ env scope.names [] h]
 simp only [pure_bind]
theorem nh {env:Env}:∀ {names:List (Str×NameKind)} {acc:List (Str×Addr)},(∀ y∈names,y.2 = .free->∃ c,env.cells.lookup y.1=some c)->(∀ x c,acc.lookup x=some c->env.cells.lookup x=some c) ->
   ∀ x c,(dM env names acc).lookup x=some c->env.cells.lookup x=some c
 | [],_,_,ha,x,c,e=>ha x c e
 | y::r,acc,h,ha,x,c,e=>by
   refine nh (names:=r) (λ z hz=>h z (aaf _ hz)) ?_ x c e
   intro x c e
   by_cases hk:(y.2 == NameKind.free)=true
   .
    rw [aam hk] at e
    obtain ⟨c',e'⟩:=h y aae (beq_iff_eq.mp hk)
    rw [e',Option.getD_some,aa6] at e
    cases q:x == y.1 with
    | true=>rw [q] at e;cases e;rw [beq_iff_eq.mp q];exact e'
    | false=>rw [q] at e;exact ha x c e
   . rw [aak hk] at e;exact ha x c e
theorem mW {env:Env}:∀ {names:List (Str×NameKind)} {acc:List (Str×Addr)} {x:Str},(∃ c,acc.lookup x=some c)->∃ c,(dM env names acc).lookup x=some c
 | [],_,_,h=>h
 | y::r,acc,x,⟨c,h⟩=>by
   refine mW (names:=r) ?_
   by_cases hk:(y.2 == NameKind.free)=true
   . rw [aam hk,aa6]
     cases q:x == y.1 with
     | true=>exact ⟨_,rfl⟩
     | false=>exact ⟨c,h⟩
   . rw [aak hk];exact ⟨c,h⟩
theorem jW {env:Env}:∀ {names:List (Str×NameKind)} {acc:List (Str×Addr)} {y:Str×NameKind},y∈names->y.2 = .free->∃ c,(dM env names acc).lookup y.1=some c
 | z::r,acc,y,hm,hk=>by
   rcases List.mem_cons.mp hm with rfl|hm
   . refine mW (names:=r) ?_
     rw [aam (beq_iff_eq.mpr hk),aa6]
     simp
   . exact jW (names:=r) hm hk
theorem mf {scope:Scope} {env:Env} {x:Str} {k:NameKind} (h:(relabel scope env).names.lookup x=some k) (hk:k = .cell∨k = .free) (e7:∀ y∈scope.names,y.2 ≠ .cell):(x,NameKind.free)∈scope.names:=by
 have hm:=aa9 h
 obtain ⟨⟨n,k0⟩,h1,h2⟩:=List.mem_map.mp hm
 dsimp only at h2
 split at h2
 .
  rename_i hc
  cases h2
  have:(k0 == NameKind.free)=true:=by
    simp only [abr] at hc
    exact hc.1.1
  rw [beq_iff_eq.mp this] at h1
  exact h1
 .
  cases h2
  rcases hk with rfl|rfl
  . exact absurd rfl (e7 _ h1)
  . exact h1
theorem e9 {env:Env}:∀ {names:List (Str×NameKind)} {x:Str},names.lookup x=some .free ->
   (names.map λ (n,k)=>if (k == NameKind.free && env.scope.kind == .function && env.kindOf n == some .cell) then (n,NameKind.cell) else (n,k)).lookup x=some .cell ∨
   (names.map λ (n,k)=>if (k == NameKind.free && env.scope.kind == .function && env.kindOf n == some .cell) then (n,NameKind.cell) else (n,k)).lookup x=some .free
 | [],_,h=>by simp at h
 | (n,k)::r,x,h=>by
   have ih:=@e9 env r x
   show List.lookup x ((if (k == NameKind.free && env.scope.kind == .function && env.kindOf n == some .cell)=true then (n,NameKind.cell) else (n,k))::_)=_∨List.lookup x ((if (k == NameKind.free && env.scope.kind == .function && env.kindOf n == some .cell)=true then (n,NameKind.cell) else (n,k))::_)=_
   cases hx:x == n with
   | true =>
     simp only [aa6,hx] at h
     cases h
     by_cases hc:(NameKind.free == NameKind.free && env.scope.kind == .function && env.kindOf n == some .cell)=true
     . rw [aam hc];simp [aa6,hx]
     . rw [aak hc];simp [aa6,hx]
   | false =>
     simp only [aa6,hx] at h
     by_cases hc:(k == NameKind.free && env.scope.kind == .function && env.kindOf n == some .cell)=true
     . rw [aam hc];simp only [aa6,hx];exact ih h
     . rw [aak hc];simp only [aa6,hx];exact ih h
section
variable {prog:Program} {w:World} {A:Around} {E:Value->Shared->Prop} {R:Result->Shared->Prop} {s:Shared}
theorem pA {target:Expr} {scope:Scope} {pos:Pos} {it acc:Value} {env:Env} (I:Nat->Shared->Prop) (turn:∀ n s,I n s->wpAny (model prog w) A (pyNext it) (λ r s₁=>match r with
     | none=>R (.ok .next) s₁
     | some v=>wpAny (model prog w) A (letOwnedTupleGo target it v) (λ _ s₁=>wpAny (model prog w) A (assign target env v) (λ _ s₂ =>
         wpAny (model prog w) A (forIn ifs true λ c r=>if r=true then do let ok ← isTrue c env (eval c env);pure (ForInStep.yield ok) else pure (ForInStep.yield r)) (λ ok s₃ =>
           if ok=true then wpAny (model prog w) A (eval elt env) (λ x s₄ =>
             wpAny (model prog w) A (call (.builtin "list.append") [acc,x]) (λ _ s₅=>∃ m,m<n/\I m s₅) (notedBy (model prog w) A env λ e s'=>R (.error e) s') s₄) (notedBy (model prog w) A env λ e s'=>R (.error e) s') s₃
           else ∃ m,m<n/\I m s₃) (notedBy (model prog w) A env λ e s'=>R (.error e) s') s₂) (notedBy (model prog w) A env λ e s'=>R (.error e) s') s₁) (notedBy (model prog w) A env λ e s'=>R (.error e) s') s₁) (notedBy (model prog w) A env λ e s'=>R (.error e) s') s) (n:Nat) (h:I n s) :
   codeAny (model prog w) A (.compLoop (.ListComp elt [⟨target,iter,ifs,0⟩] scope pos) 0 it acc env) R s:=by
 refine codeAny_loop rfl I (λ n s hI=>?_) n h
 show wpAny _ A ((compTurn (.ListComp elt [⟨target,iter,ifs,0⟩] scope pos) 0 it acc env).onRaise (λ x=>do noteFrame x env;theTreesLotGoes x)) _ _ s
 refine wpAny_noted ?_
 rw [compTurn_list]
 refine aas (acp (aas (abd (turn n s hI) (λ r s₁ h₁=>?_) λ _ _ h'=>h')))
 cases r with
 | none=>exact aaW h₁
 | some v =>
   refine aas (abd h₁ (λ _ s₁' YS=>?_) λ _ _ h'=>h')
   refine aas (abd YS (λ _ s₂ h₂=>aas (abd h₂ (λ ok s₃ h₃=>?_) λ _ _ h'=>h')) λ _ _ h'=>h')
   cases ok with
   | false=>exact aaW ⟨rfl,h₃⟩
   | true =>
     exact aas (aas (abd h₃ (λ x s₄ h₄=>aas (abd h₄ (λ _ s₅ h₅=>aaW (aaW ⟨rfl,h₅⟩)) λ _ _ h'=>h')) λ _ _ h'=>h'))
end
section
variable {X:Cx}
def pG (wi:TI) (g:TG) (tt:TT) (te:TE) (nt:Nat) (sl:List Nat):TE:=λ U H Q=>wi U H λ J H1=>∀ D,H1 D=none ->
 ∃ W:Nat->Nat->List V->St->Hp->Prop,(∃ m,W 0 m [] (List.replicate nt none++sl.map λ j=>(U[j]?).join) (upd H1 D (.lst []))) /\
   ∀ i m acc σ' H',W i m acc σ' H' ->
     (J.stop i H'/\Q (.ref D) H') ∨
     (J.go i H'/\∃ N:List V->St->Hp->Prop,(∀ e6 σ2 H4,N e6 σ2 H4->∃ m',m'<m/\W (i+1) m' e6 σ2 H4)/\∀ x H2,J.wm i H' x H2->g x σ' H2 λ σ2 H3=>tt σ2 H3 λ b H4 =>
       if b=true then te σ2 H4 λ y H5=>H5 D=some (.lst acc)/\acc.length<sizeLine/\N (acc++[y]) σ2 (upd H5 D (.lst (acc++[y])))
       else N acc σ2 H4)
theorem nu {scope:Scope} {pos:Pos} {wi:TI} {g:TG} {tt:TT} {N':List Str} {sl:List Nat} (hc:X.calm=true) (hi:PI X tg iter wi) (hg:∀ cl C s H ex,PG (bM X N' scope cl C s H ex) tg g) (ht:∀ cl C s H ex,Ay (bM X N' scope cl C s H ex) ifs tt) (he:∀ cl C s H ex,PE (bM X N' scope cl C s H ex) elt te) (F6:N'.length=nt+sl.length) (GK:∀ k j:Nat,sl[k]?=some j->∃ x,N'[nt+k]?=some x/\X.N[j]?=some x/\scope.names.lookup x=some .free) (hk:scope.kind = .function) (e7:∀ y∈scope.names,y.2 ≠ .cell) (gO:∀ y∈scope.names,y.2 = .local->scope.names.lookup y.1=some .local) (gB:∀ y∈scope.names,y.2 = .free->X.env.kindOf y.1=some .cell∨X.env.kindOf y.1=some .free) (hs:∀ x,foldedSetIterable iter X.env x=pure x) {use:Option (Value->Sem Unit)} {Qp:Value->Shared->Prop} {pins:List (Addr×Obj)} {s:Shared} {Q:V->Hp->Prop} {pos':Pos} (I:Inv X pins U H s) (h:pG wi g tt te nt sl U H Q) (fin:∀ (s6:Shared) (H5:Hp) (d c:Addr) m,Inv X pins U H5 s6->mE X pins H5 c->s6.heap.Ns c m->Q (.ref d) H5->compPost (model X.prog X.w) X.A X.xe use Qp (.ref d) c (.ok .next) s6) :
   wpAny (model X.prog X.w) X.A (comprehension (.ListComp elt [⟨tg,iter,ifs,0⟩] scope pos) scope X.env pos' (newList []) false (eval iter X.env) use) Qp X.xe s:=by
 have Dm:∀ y∈scope.names,y.2 = .free->∃ c,X.env.cells.lookup y.1=some c:=λ y hy hf=>I.ok.has y.1 (gB y hy hf)
 have px:=nh (env:=X.env) (names:=scope.names) (acc:=[]) Dm (λ x c e=>by simp at e)
 refine wpAny_comprehension_free (use:=use) (cl:=dM X.env scope.names []) rfl hs (yC Dm) hk gO (ca (hi pins s U H _ I h) λ v s1 h1=>ca h1 λ NY s2 h2=>?_)
 obtain ⟨it,fp,tn,J,H2,rfl,I2,T,G6,f2,q⟩:=h2
 have nD:H2 s2.heap.objs.size=none:=I2.cg.fresh (Nt _)
 obtain ⟨W,⟨m0,w0⟩,turn⟩:=q s2.heap.objs.size nD
 refine wpAny_newObj_type ?_ (by show 0<=sizeLine;exact aaH _)
 have I3:Inv X pins U (upd H2 s2.heap.objs.size (.lst [])) { s2 with heap:=s2.heap.push { cls:=.type "list",data:=.seq ([]:List Value).toArray }} :=
   I2.laid (t':=s2.toks) (λ b u e=>Ux _ e) (Nt _) ⟨aaH _,[],0,.nil,aap _ rfl⟩
 generalize Vf:({ s2 with heap:=s2.heap.push { cls:=.type "list",data:=.seq ([]:List Value).toArray }}:Shared)=s3 at I3 ⊢
 have hle:s2.heap.objs.size<=s3.heap.objs.size:=by rw [← Vf];show _<=(Heap.push _ _).objs.size;rw [acj];exact ab0 _
 have zE:∀ b o,s2.heap.get? b=some o->s3.heap.get? b=some o:=λ b o e=>by rw [← Vf];exact Ux _ e
 refine wpAny_newFunctionEnv e7 (by intro y hy;simp at hy) (λ h₁ Hb WH=>?_) hk
 have qJ:∀ b o,s3.heap.get? b=some o->h₁.get? b=some o:=λ b o e=>WH.extBut b o (aaA (aad e)) (Ux _ e)
 have nC:(upd H2 s2.heap.objs.size (.lst [])) s3.heap.objs.size=none:=I3.cg.fresh (Nt _)
 have frC:s3.heap.get? s3.heap.objs.size=none:=Heap.get?_none_of_le (Nt _)
 have EH:∀ b∈fp,b<s2.heap.objs.size:=λ b hb=>by
   obtain ⟨o,e,_⟩:=T.obj _ _ G6 b hb
   exact aad e
 have Vk:∀ b∈fp,b≠s3.heap.objs.size:=λ b hb=>aaA (aai (EH b hb) hle)
 have X2:∀ b∈fp,b≠s2.heap.objs.size:=λ b hb=>aaA (EH b hb)
 have US:∀ b∈fp,b∉vk X.stack:=λ b hb hm=>by
   rcases List.mem_cons.mp (I2.sC b hm) with z|z
   . exact (f2 b hb).2.1 z
   . exact (f2 b hb).2.2.1 z
 have VY:∀ x c,(dM X.env scope.names []).lookup x=some c->X.env.cells.lookup x=some c:=px
 have rj:∀ b∈fp,(b∈X.ex∨X.s₀.heap.objs.size<=b)/\b≠X.env.locals/\(∀ x c,X.env.cells.lookup x=some c->c≠b)/\∀ p∈X.pn++pins,p.1≠b:=λ b hb =>
   ⟨(f2 b hb).2.2.2.1,(f2 b hb).2.1,(f2 b hb).2.2.2.2.1,(f2 b hb).2.2.2.2.2⟩
 have ok':(bM X N' scope (dM X.env scope.names []) s3.heap.objs.size s3 (upd H2 s2.heap.objs.size (.lst [])) fp).Ok:=by
   refine ⟨I3.ok.mod,hk,I3.ok.glob,I3.ok.blt,Nt _,λ x y c h1 h2=>I3.ok.inj x y c (px x c h1) (px y c h2),λ x hx=>?_,(λ x c hf=>nomatch hf),I3.ok.hd,I3.ok.frames,.inl rfl,λ b hb=>⟨Vk b hb,λ x c e=>(rj b hb).2.2.1 x c (px x c e)⟩,
     I3.bs,aaO I3.ok.AV I3.sz,λ b o e hb=>?_,US,I3.stack,I3.tJ⟩
   . have hm:(x,NameKind.free)∈scope.names:=by
       rcases hx with hx|hx
       . exact mf hx (.inl rfl) e7
       . exact mf hx (.inr rfl) e7
     exact jW hm rfl
   . rcases (rj b hb).1 with z|z
     . exact I3.ok.wD b o e z
     . exact absurd (aai (aad (I3.ok.bs b o e).1) z) (aby _)
 have I4:Inv (bM X N' scope (dM X.env scope.names []) s3.heap.objs.size s3 (upd H2 s2.heap.objs.size (.lst [])) fp) [] (List.replicate nt none++sl.map λ j=>(U[j]?).join) (upd H2 s2.heap.objs.size (.lst []))
     { s3 with heap:=h₁,toks:=s3.toks+([]:List (Str×Value)).length }:=by
   refine ⟨ok',rfl,I3.bare,Un.kept qJ,⟨_,Hb,λ i x v e1 e2 e3=>?_⟩,λ x c e=>?_,nC,λ x c e=>I3.iW x c (px x c e),λ p hp=>absurd hp (by simp [bM]),I3.cg.kept qJ,?_⟩
   .
    by_cases hi:i<nt
    . rw [aaK (by simpa using hi),acR] at e2
      split at e2<;>cases e2
    .
     rw [aaw (by simpa using hi),aa5,Et] at e2
     cases ej:sl[i - nt]? with
     | none=>rw [ej] at e2;cases e2
     | some j =>
       rw [ej] at e2
       have GQ:(U[j]?).join=some v:=aan e2
       have eσ:U[j]?=some (some v):=by
         cases q:U[j]? with
         | none=>rw [q] at GQ;cases GQ
         | some o=>rw [q] at GQ;cases GQ;rfl
       obtain ⟨y,n1,n2,n3⟩:=GK _ j ej
       have:nt+(i - nt)=i:=by lia
       rw [this] at n1
       have X9:y=x:=aan (n1.symm.trans e1)
       subst X9
       have hm:(y,NameKind.free)∈scope.names:=aa9 n3
       have VZ:=gB _ hm rfl
       obtain ⟨m,hn,hl⟩:=I3.loc
       have WL:G9 X.env.scope y:=by
         rcases VZ with z|z
         . exact .inr (.inl z)
         . exact .inr (.inr z)
       obtain ⟨u,r,l⟩:=hl j y v n2 eσ WL
       refine ⟨u,r,.inr ⟨e9 n3,?_⟩⟩
       obtain ⟨c,ec⟩:=jW (env:=X.env) (acc:=[]) hm rfl
       refine ⟨c,ec,?_⟩
       rcases l with ⟨k1,_⟩|⟨_,c',e',BA⟩
       . rcases VZ with z|z
         . rw [show X.env.kindOf y=some .local from k1] at z;cases z
         . rw [show X.env.kindOf y=some .local from k1] at z;cases z
       . have Yd:c=c':=aan ((px y c ec).symm.trans e')
         subst Yd
         obtain ⟨o,ho,hd⟩:=BA
         exact ⟨o,qJ c o ho,hd⟩
   . obtain ⟨v,o,ho,hd⟩:=I3.cell x c (px x c e)
     exact ⟨v,o,qJ c o ho,hd⟩
   . show _=N'.length
     rw [F6,rT,aa5,be]
 have Wc:tn 0 h₁:=T.keep _ _ _ G6 λ b hb o e=>qJ b o (zE b o e)
 have CC:∀ {pl:List (Addr×Obj)} {H':Hp},pl=[]->(∀ b∈fp,H' b=none)->∀ b∈fp,mE (bM X N' scope (dM X.env scope.names []) s3.heap.objs.size s3 (upd H2 s2.heap.objs.size (.lst [])) fp) pl H' b:=λ {pl H'} hC hn b hb=>by
   subst hC
   exact ⟨hn b hb,Vk b hb,US b hb,.inl hb,λ x c e=>(rj b hb).2.2.1 x c (px x c e),λ p hp=>absurd hp (by simp [bM])⟩
 have W5:∀ b∈fp,(upd H2 s2.heap.objs.size (.lst [])) b=none:=λ b hb=>by rw [aE (X2 b hb)];exact (f2 b hb).1
 have loop:codeAny (model X.prog X.w) X.A (.compLoop (.ListComp elt [⟨tg,iter,ifs,0⟩] scope pos) 0 (.ref it) (.ref s2.heap.objs.size) (compEnvC scope (dM X.env scope.names []) s3.heap.objs.size X.env))
     (compPost (model X.prog X.w) X.A X.xe use Qp (.ref s2.heap.objs.size) s3.heap.objs.size) { s3 with heap:=h₁,toks:=s3.toks+([]:List (Str×Value)).length }:=by
   refine pA (λ n s'=>∃ i acc σ' H',Inv (bM X N' scope (dM X.env scope.names []) s3.heap.objs.size s3 (upd H2 s2.heap.objs.size (.lst [])) fp) [] σ' H' s'/\tn i s'.heap/\(∀ b∈fp,H' b=none)/\W i n acc σ' H') ?_ m0 ⟨0,[],_,_,I4,Wc,W5,w0⟩
   rintro n s5 ⟨i,acc,σ5,H5,I5,Dq,Hc,w5⟩
   rcases turn i n acc σ5 H5 w5 with ⟨stop,qn⟩|⟨go,N,hN,step⟩
   . refine ca (T.done (bM X N' scope (dM X.env scope.names []) s3.heap.objs.size s3 (upd H2 s2.heap.objs.size (.lst [])) fp) rfl rfl rfl hc i [] s5 σ5 H5 _ I5 (CC rfl Hc) Dq stop) λ r s6 ⟨hr,I6⟩=>?_
     subst hr
     obtain ⟨m,hn,_⟩:=id I6.loc
     exact fin s6 H5 _ _ m (I3.Ga (s':=s6) I6.os I6.base I6.cg I6.bare rj) (I3.rW (Nt _) I6.free) hn qn
   .
    refine ca (T.item (bM X N' scope (dM X.env scope.names []) s3.heap.objs.size s3 (upd H2 s2.heap.objs.size (.lst [])) fp) rfl rfl rfl hc i [] s5 σ5 H5 _ I5 (CC rfl Hc) Dq go) λ r s6 ⟨u,hr,h6⟩=>?_
    subst hr
    refine ca h6 λ _ s7 ⟨x,H7,I7,r7,y7,Rb,XE⟩=>?_
    have YN:=I7.pinned (CC rfl XE) (T.obj _ _ Rb)
    have again:∀ {s8:Shared} {σ8:St} {H8:Hp} {e6:List V},Inv (bM X N' scope (dM X.env scope.names []) s3.heap.objs.size s3 (upd H2 s2.heap.objs.size (.lst [])) fp) ([]++mq fp s7.heap) σ8 H8 s8->(∃ m',m'<n/\W (i+1) m' e6 σ8 H8) ->
        ∃ m,m<n/\∃ i acc σ' H',Inv (bM X N' scope (dM X.env scope.names []) s3.heap.objs.size s3 (upd H2 s2.heap.objs.size (.lst [])) fp) [] σ' H' s8/\tn i s8.heap/\(∀ b∈fp,H' b=none)/\W i m acc σ' H':=λ {s8 σ8 H8 e6} I8 ⟨m',hm,w8⟩=>by
      refine ⟨m',hm,i+1,e6,σ8,H8,I8.jo,T.keep _ _ _ Rb λ b hb o e=>(I8.pin (b,o) (aaB _ (aaB _ (gP hb e)))).1,λ b hb=>?_,w8⟩
      obtain ⟨o,e,d⟩:=T.obj _ _ Rb b hb
      exact (I8.pin (b,o) (aaB _ (aaB _ (gP hb e)))).2.1
    refine abd (hg _ _ _ _ _ _ s7 σ5 H7 x u _ YN r7 (step x H7 y7)) (λ _ s8 ⟨σ8,H8,I8,q8⟩=>?_) λ _ _ z=>False.elim z
    refine abd (ht _ _ _ _ _ _ s8 σ8 H8 _ I8 q8) (λ ok s9 ⟨H9,I9,q9⟩=>?_) λ _ _ z=>False.elim z
    cases ok with
    | false =>
      rw [aak OR] at q9 ⊢
      exact again I9 (hN _ _ _ q9)
    | true =>
      rw [aam rfl] at q9 ⊢
      refine abd (he _ _ _ _ _ _ s9 σ8 H9 _ I9 q9) (λ y XV ⟨yv,uC,X7,Gb,hD,hz,ZZ⟩=>?_) λ _ _ z=>False.elim z
      refine abd (cu (X:=(bM X N' scope (dM X.env scope.names []) s3.heap.objs.size s3 (upd H2 s2.heap.objs.size (.lst [])) fp)) _ XV σ8 uC (.ref s2.heap.objs.size) [yv] (.ref s2.heap.objs.size) [y] (λ _ qU=>N (acc++[yv]) σ8 qU) X7 rfl (.cons Gb .nil) ⟨_,acc,yv,rfl,rfl,hD,hz,ZZ⟩) (λ _ s11 ⟨v11,qU,Xq,Hw,Xh⟩=>?_) λ _ _ z=>False.elim z
      exact again Xq (hN _ _ _ Xh)
 exact codeAny_compStart_list loop (T.self _ 0 _ _ _ Wc loop)
theorem zX {scope:Scope} {pos:Pos} {wi:TI} {g:TG} {tt:TT} {N':List Str} {sl:List Nat} (hc:X.calm=true) (hi:PI X tg iter wi) (hg:∀ cl C s H ex,PG (bM X N' scope cl C s H ex) tg g) (ht:∀ cl C s H ex,Ay (bM X N' scope cl C s H ex) ifs tt) (he:∀ cl C s H ex,PE (bM X N' scope cl C s H ex) elt te) (F6:N'.length=nt+sl.length) (GK:∀ k j:Nat,sl[k]?=some j->∃ x,N'[nt+k]?=some x/\X.N[j]?=some x/\scope.names.lookup x=some .free) (hk:scope.kind = .function) (e7:∀ y∈scope.names,y.2 ≠ .cell) (gO:∀ y∈scope.names,y.2 = .local->scope.names.lookup y.1=some .local) (gB:∀ y∈scope.names,y.2 = .free->X.env.kindOf y.1=some .cell∨X.env.kindOf y.1=some .free) (hs:∀ x,foldedSetIterable iter X.env x=pure x:=by intro _;rfl) :
   PE X (.ListComp elt [⟨tg,iter,ifs,0⟩] scope pos) (pG wi g tt te nt sl):=by
 intro pins s U H Q I h
 rw [eval_ListComp]
 exact nu hc hi hg ht he F6 GK hk e7 gO gB hs I h λ s6 H5 d c m J F hn q=>⟨m,hn,λ h' sb=>⟨.ref d,H5,J.turned (t':=s6.toks) (λ b _ hb q=>(sb.2 b hb).trans q) F.1 F.2.1 F.2.2.2.1 F.2.2.2.2.1 F.2.2.2.2.2,rfl,q⟩⟩
theorem fc {scope:Scope} {pos:Pos} {wi:TI} {g:TG} {tt:TT} (tn fr:List Str) (sl:List Nat) (hp:Paired (λ (j:Nat) (x:Str)=>X.N[j]?=some x/\scope.names.lookup x=some .free/\(X.env.kindOf x=some .cell∨X.env.kindOf x=some .free)) sl fr) (hc:X.calm=true) (hi:PI X tg iter wi) (hg:∀ cl C s H ex,PG (bM X (tn++fr) scope cl C s H ex) tg g) (ht:∀ cl C s H ex,Ay (bM X (tn++fr) scope cl C s H ex) ifs tt) (he:∀ cl C s H ex,PE (bM X (tn++fr) scope cl C s H ex) elt te) (hk:scope.kind = .function) (e7:∀ y∈scope.names,y.2 ≠ .cell) (gO:∀ y∈scope.names,y.2 = .local->scope.names.lookup y.1=some .local) (gB:∀ y∈scope.names,y.2 = .free->y.1∈fr) (hs:∀ x,foldedSetIterable iter X.env x=pure x:=by intro _;rfl) :
   PE X (.ListComp elt [⟨tg,iter,ifs,0⟩] scope pos) (pG wi g tt te tn.length sl):=by
 have key:∀ {sl:List Nat} {fr:List Str},Paired (λ (j:Nat) (x:Str)=>X.N[j]?=some x/\scope.names.lookup x=some .free/\(X.env.kindOf x=some .cell∨X.env.kindOf x=some .free)) sl fr ->
     (∀ k j:Nat,sl[k]?=some j->∃ x,fr[k]?=some x/\X.N[j]?=some x/\scope.names.lookup x=some .free)/\∀ x∈fr,X.env.kindOf x=some .cell∨X.env.kindOf x=some .free:=by
   intro sl fr hp
   induction hp with
   | nil=>exact ⟨λ k j h=>by simp at h,λ x hx=>by simp at hx⟩
   | cons r t ih =>
     refine ⟨λ k j h=>?_,λ x hx=>?_⟩
     . cases k with
       | zero =>
         have e:_=j:=aan h
         subst e
         exact ⟨_,rfl,r.1,r.2.1⟩
       | succ k=>exact ih.1 k j (by simpa using h)
     . rcases List.mem_cons.mp hx with z|z
       . rw [z];exact r.2.2
       . exact ih.2 x z
 refine zX (N':=tn++fr) hc hi hg ht he (by rw [rT,hp.length]) (λ k j h=>?_) hk e7 gO (λ y hy hf=>(key hp).2 _ (gB y hy hf)) hs
 obtain ⟨x,e1,e2⟩:=(key hp).1 k j h
 exact ⟨x,by rw [aaw (abq _ _),acP];exact e1,e2⟩
end
theorem eL {lo:Int} {n:Nat} {g:TG} {tt:TT} {D:Addr} {Q:Hp->Prop} (Pv:Nat->List V->St->Hp->Prop) (h0:Pv 0 [] U H) (hs:∀ i acc U H,i<n->Pv i acc U H->g (.int (lo+i)) U H λ σ2 H3=>tt σ2 H3 λ b H4 =>
     if b=true then te σ2 H4 λ y H5=>H5 D=some (.lst acc)/\acc.length<sizeLine/\Pv (i+1) (acc++[y]) σ2 (upd H5 D (.lst (acc++[y]))) else Pv (i+1) acc σ2 H4) (hd:∀ acc U H,Pv n acc U H->Q H) :
   ∃ W:Nat->Nat->List V->St->Hp->Prop,(∃ m,W 0 m [] U H)/\∀ i m acc σ' H',W i m acc σ' H'->((zV lo n).stop i H'/\Q H') ∨
     ((zV lo n).go i H'/\∃ N:List V->St->Hp->Prop,(∀ e6 σ2 H4,N e6 σ2 H4->∃ m',m'<m/\W (i+1) m' e6 σ2 H4)/\∀ x H2,(zV lo n).wm i H' x H2->g x σ' H2 λ σ2 H3=>tt σ2 H3 λ b H4 =>
       if b=true then te σ2 H4 λ y H5=>H5 D=some (.lst acc)/\acc.length<sizeLine/\N (acc++[y]) σ2 (upd H5 D (.lst (acc++[y]))) else N acc σ2 H4):=by
 refine ⟨λ i m acc U H=>m=n - i/\i<=n/\Pv i acc U H,⟨n,by simp,aaH _,h0⟩,?_⟩
 rintro i m acc U H ⟨rfl,hi,p⟩
 by_cases iT:i<n
 .
  refine .inr ⟨iT,Pv (i+1),λ e6 σ' H' p'=>⟨n - (i+1),by lia,rfl,iT,p'⟩,λ x H' y=>?_⟩
  obtain ⟨e,y⟩:=y
  subst e y
  exact hs i acc U _ iT p
 . have e:i=n:=by lia
   subst e
   exact .inl ⟨Nt _,hd acc U H p⟩
theorem dO {K:W.Frag} {a:Addr} {g:TG} {tt:TT} {D:Addr} {Q:Hp->Prop} (Pv:Nat->List V->St->Hp->Prop) (h0:Pv 0 [] U H) (hl:∀ i acc U H,i<=xs.length->Pv i acc U H->aN K H a xs) (hs:∀ i x acc U H,xs[i]?=some x->Pv i acc U H->g x U H λ σ2 H3=>tt σ2 H3 λ b H4 =>
     if b=true then te σ2 H4 λ y H5=>H5 D=some (.lst acc)/\acc.length<sizeLine/\Pv (i+1) (acc++[y]) σ2 (upd H5 D (.lst (acc++[y]))) else Pv (i+1) acc σ2 H4) (hd:∀ acc U H,Pv xs.length acc U H->Q H) :
   ∃ W:Nat->Nat->List V->St->Hp->Prop,(∃ m,W 0 m [] U H)/\∀ i m acc σ' H',W i m acc σ' H'->((wR K a).stop i H'/\Q H') ∨
     ((wR K a).go i H'/\∃ N:List V->St->Hp->Prop,(∀ e6 σ2 H4,N e6 σ2 H4->∃ m',m'<m/\W (i+1) m' e6 σ2 H4)/\∀ x H2,(wR K a).wm i H' x H2->g x σ' H2 λ σ2 H3=>tt σ2 H3 λ b H4 =>
       if b=true then te σ2 H4 λ y H5=>H5 D=some (.lst acc)/\acc.length<sizeLine/\N (acc++[y]) σ2 (upd H5 D (.lst (acc++[y]))) else N acc σ2 H4):=by
 refine ⟨λ i m acc U H=>m=xs.length - i/\i<=xs.length/\Pv i acc U H,⟨xs.length,by simp,aaH _,h0⟩,?_⟩
 rintro i m acc U H ⟨rfl,hi,p⟩
 have q:=hl i acc U H hi p
 by_cases iT:i<xs.length
 .
  refine .inr ⟨⟨xs,xs[i],q,by simp [iT]⟩,Pv (i+1),λ e6 σ' H' p'=>⟨xs.length - (i+1),by lia,rfl,iT,p'⟩,λ x H' y=>?_⟩
  obtain ⟨e,y⟩:=y
  subst e
  exact hs i x acc U _ (y xs q) p
 . have e:i=xs.length:=by lia
   subst e
   exact .inl ⟨⟨xs,q,Nt _⟩,hd acc U H p⟩
def aO (k:Nat):V:=.int (k:Int)
theorem mR {α:Type} {l:List α} {i:Nat} {x:α} (h:l[i]?=some x):l.take (i+1)=l.take i++[x]:=by
 rw [List.take_add_one,h];rfl
section
open PySem.Builtin PySem.Builtin.ObjectAttr PySem.Builtin.Getset_descriptor
variable {K:W.Frag} {C e:Addr}
variable {prog:Program} {w:World} {A:Around} {s:Shared} {oe:Obj}
end
open PySem.Builtin PySem.Builtin.ObjectAttr
open PySem.Builtin PySem.Builtin.ObjectAttr
section
variable {prog:Program} {w:World} {A:Around} {E:Value->Shared->Prop} {h:Heap} {g:Array GenState} {d:Drawn} {t:Nat} {os:OsState}
variable {nm q:Str} {C N:Addr} {bs bm VJ:List Value} {FK:Bool} {sn:List Str} {sub:List Value} {ab:Bool} {col:Option Bool} {dd:Option Addr} {k0 k1 k2 k3 k5:Option Value} {B newId ww:String}
end
section
variable {M:Model} {A:Around} {E:Value->Shared->Prop} {env:Env}
variable {nm q:Str} {C N:Addr} {bs bm VJ:List Value} {FK:Bool} {sn:List Str} {sub:List Value} {ab:Bool} {col:Option Bool} {dd:Option Addr} {k0 k1 k2 k3 k5:Option Value} {B newId ww:String}
end
section
variable {prog:Program} {w:World} {A:Around} {E:Value->Shared->Prop} {s:Shared} {env:Env}
variable {nm q:Str} {C N:Addr} {bs bm VJ:List Value} {FK:Bool} {sn:List Str} {sub:List Value} {ab:Bool} {col:Option Bool} {dd:Option Addr} {k0 k1 k2 k3 k5:Option Value} {B newId ww:String}
end
@[elab_as_elim] theorem b9 {α:Type} {motive:List α->Prop} {n:Nat} {us:List α} (h:us.length=n+1) (k:∀ a t,t.length=n->motive (a::t)):motive us:=by
 cases us with
 | nil=>cases h
 | cons a t=>exact k a t (Nat.succ.inj h)
theorem Uf {α:Type} {n:Nat} {l:List α} (h:l.length=n+1):∃ a t,l=a::t/\t.length=n:=b9 h λ a t h=>⟨a,t,rfl,h⟩
section
variable {X:Cx} {x:Str} {pos:Pos}
theorem cq {i:Int} (hg:Gl X x) (hm:∃ t,X.mg x=some (.int i t)) (hd:(x == ("__debug__" : Str))=false:=by decide):PE X (.Name x pos) (tC (.int i)):=by
 obtain ⟨t,hm⟩:=hm
 exact cY hg hm ⟨t,rfl⟩ hd
end
def rE (K:W.Frag) (a:Addr) (xs:List V):Prop :=
 ∃ (o:Obj) (aZ:Array Value) (n:Nat),K.lookup a=some o/\o.cls = .type "tuple"/\o.data = .seq aZ n/\aZ.size<=sizeLine/\Vals xs aZ.toList
theorem rE.at {K:W.Frag} {a:Addr} (h:rE K a xs) (H:Hp):cE K H a xs:=.inr h
theorem Ba {K:W.Frag} {a:Addr} {dd:Option Addr} {n:Nat} {sl:Array (Option Value)} {i j:Int} {t u:Tok} (h:K.lookup a=some ⟨.type "tuple",dd,.seq #[.int i t,.int j u] n,sl⟩):rE K a [.int i,.int j] :=
 ⟨_,_,_,h,rfl,rfl,by show 2<=sizeLine;decide,.cons ⟨t,rfl⟩ (.cons ⟨u,rfl⟩ .nil)⟩
def CL (K:W.Frag) (T:Addr) (fu:List V):Prop:=∃ o n items,K.lookup T=some o/\o.data = .seq items n/\Vals fu items.toList
structure oi (K:W.Frag) (x qual:Str) (st:Stmt) (dV:Value) (f:Addr) (fd:FuncData):Prop where
 ex:∃ (oc:Value) (od:Option Addr) (kV doc pm:Value) (an:Option Addr) (bD ct:Value) (qz:Array (Option Value)),
   fd=W.fnOf x qual (bU st) (bz st) (al st) dV kV doc pm an bD ct/\K.lookup f=some ⟨oc,od,.func fd,qz⟩/\W.codeIn K bD qual=true
 kp:W.keepIn K (.ref f)=true
theorem db {K:W.Frag} {x qual:Str} {st:Stmt} {f:Addr} {oc:Value} {od an:Option Addr} {qz:Array (Option Value)} {dV kV doc pm bD ct:Value} (l:K.lookup f=some ⟨oc,od,.func (W.fnOf x qual (bU st) (bz st) (al st) dV kV doc pm an bD ct),qz⟩) (c:W.codeIn K bD qual=true) (k:W.keepIn K (.ref f)=true):oi K x qual st dV f (W.fnOf x qual (bU st) (bz st) (al st) dV kV doc pm an bD ct):=⟨⟨oc,od,kV,doc,pm,an,bD,ct,qz,rfl,l,c⟩,k⟩
section
variable {P:Program} {w:World} {K:W.Frag} {mg:Str->Option Value} {base:Heap} {x qual m:Str} {st:Stmt} {dV:Value} {f C:Addr} {fd:FuncData} {N ps:List Str} {k:Nat} {sp:Sp} {ds:List Value}
theorem oi.ok (F:oi K x qual st dV f fd) (S:aC N ps (al st)) (len:∀ vs H Q E,sp vs H Q E->vs.length=ps.length) (dX:∀ (bD:Value) (A:Around) (outer:List Env) (s:Shared) (H:Hp) (vs:List V) (Q:VK) (E:XK),ce k (A.deeper (envOfC qual (al st) s.heap.objs.size f bD))->sp vs H Q E ->
     ∃ t,ny (kO sK P w K mg base N qual (al st) f bD A outer s H E).xW (bz st) t/\t { nx:=λ _ H'=>Q .cD H',rt:=Q } (start N vs) H):iI P w K mg base sK (k+1) f fd ps sp:=by
 obtain ⟨oc,od,kV,doc,pm,an,bD,ct,qz,rfl,lk,qV⟩:=F.ex
 refine AL lk qV S len λ A outer s H vs Q E hr Bf=>?_
 obtain ⟨t,h,q⟩:=dX bD A outer s H vs Q E hr Bf
 exact ⟨t,h.xW,q⟩
theorem oi.binds {o:Obj} {n:Nat} {items:Array Value} (F:oi K x qual st (.ref T) f fd) (hT:K.lookup T=some o) (ho:o.data = .seq items n) (h:∀ (kV doc pm:Value) (an:Option Addr) (bD ct:Value) (us:List Value),(us++ds).length=ps.length->∃ k,bindArgs (W.fnOf x qual (bU st) (bz st) (al st) (.ref T) kV doc pm an bD ct) ⟨us,[]⟩=seqItems? (.ref T) >>= k/\k (some items)=pure (ps.zip (us++ds))):Binds K fd ps ds:=by
 obtain ⟨oc,od,kV,doc,pm,an,bD,ct,qz,rfl,lk,qV⟩:=F.ex
 intro s us X hl
 obtain ⟨k,h1,h2⟩:=h kV doc pm an bD ct us hl
 exact W.binds_K X rfl hT ho h1 h2
theorem oi.CJ (F:oi K x qual st .none f fd) (h:∀ (kV doc pm:Value) (an:Option Addr) (bD ct:Value) (us:List Value),us.length=ps.length->bindArgs (W.fnOf x qual (bU st) (bz st) (al st) .none kV doc pm an bD ct) ⟨us,[]⟩=pure (ps.zip us)):Binds K fd ps []:=by
 obtain ⟨oc,od,kV,doc,pm,an,bD,ct,qz,rfl,lk,qV⟩:=F.ex
 exact .all (h kV doc pm an bD ct)
def gN (K:W.Frag) (C:Addr) (m qual:Str) (st:Stmt) (dV:Value):Prop:=∃ f fd,Meth K C m f/\oi K m qual st dV f fd
def g9 (P:Program) (w:World) (K:W.Frag) (mg:Str->Option Value) (base:Heap) (C:Addr) (m:Str) (k:Nat) (ps:List Str) (ds:List Value) (sp:Sp):Prop :=
 ∃ f fd,Meth K C m f/\Binds K fd ps ds/\iI P w K mg base sK k f fd ps sp
theorem gN.wv (h:gN K C m qual st .none) (S:aC N ps (al st)) (len:∀ vs H Q E,sp vs H Q E->vs.length=ps.length) (hb:∀ (kV doc pm:Value) (an:Option Addr) (bD ct:Value) (us:List Value),us.length=ps.length->bindArgs (W.fnOf m qual (bU st) (bz st) (al st) .none kV doc pm an bD ct) ⟨us,[]⟩=pure (ps.zip us)) (dX:∀ (f:Addr) (bD:Value) (A:Around) (outer:List Env) (s:Shared) (H:Hp) (vs:List V) (Q:VK) (E:XK),ce k (A.deeper (envOfC qual (al st) s.heap.objs.size f bD))->sp vs H Q E ->
     ∃ t,ny (kO sK P w K mg base N qual (al st) f bD A outer s H E).xW (bz st) t/\t { nx:=λ _ H'=>Q .cD H',rt:=Q } (start N vs) H):g9 P w K mg base C m (k+1) ps [] sp:=by
 obtain ⟨f,fd,M,F⟩:=h
 exact ⟨f,fd,M,F.CJ hb,F.ok S len λ bD A outer s H vs Q E hr hs=>dX f bD A outer s H vs Q E hr hs⟩
structure vJ (K:W.Frag) (C:Addr):Prop where
 makes:W.makesIn K C=true
 kp:W.keepIn K (.ref C)=true
end
section
variable {X:Cx} {C:Addr} {m x:Str} {p pos apos:Pos} {e o:Expr} {es:List Expr} {ta:TE} {t:TA} {k:Nat} {ps:List Str} {sp:Sp} {ds:List Value} {fu:List V}
theorem aP {pl:Sem Bool} (he:PE X o ta) (c:tP X.K C) (D:g9 X.prog X.w X.K X.mg X.base C m k ps ds sp) (hd:Vals fu ds) (hr:ce k X.A) (ha:PA X (e::es) t) (oJ:starEach (e::es) X.env=(false,eval e X.env)::starEach es X.env:=by rfl) (hC:(backTo pos (starEach es X.env)).any (·.1)=false:=by rfl) (ht:eval (.Call (.Attribute o m apos) (e::es) [] pos) X.env=(do
     let ov ← eval o X.env
     standAt apos.atName
     let (f,first) ← holding [ov] (getMethod ov m pl)
     callWith pos f first (backTo pos (starEach (e::es) X.env)) (backToKw pos (keywordEach [] X.env))):=by rfl) :
   PE X (.Call (.Attribute o m apos) (e::es) [] pos) (qr C m sp fu E0 ta t):=by
 obtain ⟨f,fd,hm,hb,F⟩:=D
 exact Aj (pl:=pl) he c hm F hr hb hd qA ha oJ hC ht
theorem fw {pl:Sem Bool} (he:PE X o ta) (c:tP X.K C) (D:g9 X.prog X.w X.K X.mg X.base C m k ps ds sp) (hd:Vals fu ds) (hr:ce k X.A) (ht:eval (.Call (.Attribute o m apos) [] [] pos) X.env=(do
     let ov ← eval o X.env
     standAt apos.atName
     let (f,first) ← holding [ov] (getMethod ov m pl)
     callWith pos f first (backTo pos (starEach [] X.env)) (backToKw pos (keywordEach [] X.env))):=by rfl) :
   PE X (.Call (.Attribute o m apos) [] [] pos) (qr C m sp fu E0 ta fA):=by
 obtain ⟨f,fd,hm,hb,F⟩:=D
 exact xf (pl:=pl) he c hm F hr hb hd qA ht
theorem vT (M:vJ X.K C) (D:g9 X.prog X.w X.K X.mg X.base C "__init__" k ps ds sp) (hd:Vals fu ds) (hr:ce (k+1) X.A) (hm:X.mg x=some (.ref C)) (ha:PA X (e::es) t) (hg:Gl X x:=by rfl) (oN:(x == ("__debug__" : Str))=false:=by decide) (he:starEach (e::es) X.env=(false,eval e X.env)::starEach es X.env:=by rfl) (hC:(backTo pos (starEach es X.env)).any (·.1)=false:=by rfl):PE X (.Call (.Name x p) (e::es) [] pos) (nN C sp fu E0 t):=by
 obtain ⟨f,fd,me,hb,F⟩:=D
 exact zv ⟨M.makes,me.at_,me.fn,M.kp⟩ F hr hg hm hb hd qA ha oN he hC
theorem uT (M:vJ X.K C) (D:g9 X.prog X.w X.K X.mg X.base C "__init__" k ps ds sp) (hd:Vals fu ds) (hr:ce (k+1) X.A) (hm:X.mg x=some (.ref C)) (hg:Gl X x:=by rfl) (oN:(x == ("__debug__" : Str))=false:=by decide) :
   PE X (.Call (.Name x p) [] [] pos) (nN C sp fu E0 fA):=by
 obtain ⟨f,fd,me,hb,F⟩:=D
 exact vE ⟨M.makes,me.at_,me.fn,M.kp⟩ F hr hg hm hb hd qA oN
end
section
variable {X:Cx} {pins:List (Addr×Obj)} {U:St} {H:Hp} {s:Shared} {h':Heap} {ch:List Addr}
theorem Inv.tS {a:Addr} {t':Nat} (I:Inv X pins U H s) (k:∀ b u,b∉ch->s.heap.get? b=some u->h'.get? b=some u) (hf:∀ b∈ch,mE X pins H b) (hp:s.heap.objs.size<=a) (new:bX X.prog X.w (upd H a o) h' a o):Inv X pins U (upd H a o) { s with heap:=h',toks:=t' }:=by
 have hn:H a=none:=I.cg.fresh hp
 refine I.step (g':=s.gens) (d':=s.drawn) (ch:=ch) (λ b hb=>⟨(hf b hb).2.2.2.1,(hf b hb).2.1,(hf b hb).2.2.2.2.1,(hf b hb).2.2.2.2.2⟩) (λ b u _ _ hc q _=>k b u hc q) (λ b u _ _ hc q _=>⟨u.slots,k b u hc q⟩)
   (λ b u _ q n=>by rw [aE (aaA (aai (aad q) hp))];exact n) (λ b u hc q=>⟨u,k b u hc q⟩) (λ b xs q=>by rw [aE (aw q hn)];exact q) (λ b u xs q=>by rw [aE (aw q hn)];exact q)
   (λ b ps q=>⟨#[],by rw [aE (aw q hn),q];simp⟩) (λ m hm=>?_) (λ b u q=>?_) I.bare
 . obtain ⟨ob,es,ep,ho,r⟩:=hm
   exact ⟨ob,es,ep,k _ ob (λ z=>(hf _ z).2.1 rfl) ho,r⟩
 .
  by_cases hb:b=a
  . subst hb
    rw [ag] at q
    cases q
    exact new
  .
   rw [aE hb] at q
   refine (I.cg b u q).rM (λ c v hc z=>k c v (λ y=>?_) z) (λ c z=>by rw [aE (aw z hn)];exact z) λ c xs z=>by rw [aE (aw z hn)];exact z
   have n:=(hf c y).1
   rcases hc with rfl|hc
   . rw [n] at q;cases q
   . rw [n] at hc;cases hc
theorem Inv.tK {t':Nat} (I:Inv X pins U H s) (k:∀ b u,b∉ch->s.heap.get? b=some u->h'.get? b=some u) (hf:∀ b∈ch,mE X pins H b):Inv X pins U H { s with heap:=h',toks:=t' }:=by
 refine I.step (g':=s.gens) (d':=s.drawn) (ch:=ch) (λ b hb=>⟨(hf b hb).2.2.2.1,(hf b hb).2.1,(hf b hb).2.2.2.2.1,(hf b hb).2.2.2.2.2⟩) (λ b u _ _ hc q _=>k b u hc q) (λ b u _ _ hc q _=>⟨u.slots,k b u hc q⟩)
   (λ _ _ _ _ n=>n) (λ b u hc q=>⟨u,k b u hc q⟩) (λ _ _ q=>q) (λ _ _ _ q=>q) (λ b ps q=>⟨#[],by rw [q];simp⟩) (λ m hm=>?_) (λ b u q=>?_) I.bare
 . obtain ⟨ob,es,ep,ho,r⟩:=hm
   exact ⟨ob,es,ep,k _ ob (λ z=>(hf _ z).2.1 rfl) ho,r⟩
 .
  refine (I.cg b u q).rM (λ c v hc z=>k c v (λ y=>?_) z) (λ _ z=>z) λ _ _ z=>z
  have n:=(hf c y).1
  rcases hc with rfl|hc
  . rw [n] at q;cases q
  . rw [n] at hc;cases hc
end
def FQ (K:W.Frag) (a b:Addr):It :=
 ⟨λ i H=>∃ xs ys x y,aN K H a xs/\aN K H b ys/\xs[i]?=some x/\ys[i]?=some y,
  λ i H v H'=>∃ p x y,H p=none/\v = .ref p/\H'=upd H p (.tup [x,y])/\(∀ xs,aN K H a xs->xs[i]?=some x)/\∀ ys,aN K H b ys->ys[i]?=some y,
  λ i H=>∃ xs ys,aN K H a xs/\aN K H b ys/\(xs.length<=i∨ys.length<=i)⟩
def wS (z TI TO i1 i2 a b:Addr) (i:Nat) (h:Heap):Prop:=IsZip h z TI TO .none/\IsPair h TI (.ref i1) (.ref i2)/\(∃ u v,IsPair h TO u v)/\h.IsListIter i1 a i/\h.IsListIter i2 b i
theorem wS.obj {z TI TO a b:Addr} {i:Nat} {h:Heap} (st:wS z TI TO i1 i2 a b i h):∀ c∈[z,TI,TO,i1,i2],∃ o,h.get? c=some o/\∀ v,o.data ≠ .cell v:=λ c hc=>by
 obtain ⟨hz,AN,⟨u,v,Cq⟩,⟨o1,e1,_,d1⟩,⟨o2,e2,_,d2⟩⟩:=st
 simp only [aaa,GV,aaI] at hc
 rcases hc with rfl|rfl|rfl|rfl|rfl
 . exact ⟨_,hz,λ v q=>by cases q⟩
 . exact ⟨_,AN,λ v q=>by cases q⟩
 . exact ⟨_,Cq,λ v q=>by cases q⟩
 . exact ⟨o1,e1,λ v q=>by rw [d1] at q;cases q⟩
 . exact ⟨o2,e2,λ v q=>by rw [d2] at q;cases q⟩
theorem xN {P:Program} {w:World} {K:W.Frag} {z TI TO a b:Addr} (D:ZipApart z TI TO i1 i2 a b) :
   Turn P w K (.Tuple elts x1 rJ) (FQ K a b) [z,TI,TO,i1,i2] z (wS z TI TO i1 i2 a b) where
 mem:=by simp
 obj:=λ i h st=>st.obj
 keep:=λ i h h' st k=>by
   obtain ⟨hz,AN,⟨u,v,Cq⟩,h1,h2⟩:=st
   exact ⟨k z (by simp) _ hz,k TI (by simp) _ AN,⟨u,v,k TO (by simp) _ Cq⟩,h1.at λ o e=>k i1 (by simp) o e,h2.at λ o e=>k i2 (by simp) o e⟩
 item:=by
   intro X hP hw hK hc i pins s U H E I hf st hg
   subst hP hw hK
   obtain ⟨xs,ys,x,y,kg,ki,hx,hy⟩:=hg
   obtain ⟨CB,G0,p1,SJ⟩:=I.list kg
   obtain ⟨lW,GM,p2,Vz⟩:=I.list ki
   obtain ⟨u1,WV,ZW⟩:=G0.get hx
   obtain ⟨u2,Tc,ru2⟩:=GM.get hy
   have lt:∀ c∈[z,TI,TO,i1,i2],c<s.heap.objs.size:=λ c ss=>by
     obtain ⟨o,e,_⟩:=st.obj c ss
     exact aad e
   obtain ⟨hz,AN,⟨u,v,Cq⟩,h1,h2⟩:=st
   refine wpAny_pyNext_zip_item D hz AN Cq h1 h2 p1.isList p2.isList (x:=u1) (y:=u2) (by simpa using WV) (by simpa using Tc) λ h' z1 z2 z3 z4 z5 z6 kk=>?_
   refine ⟨.ref s.heap.objs.size,rfl,wpAny_letOwnedTupleGo_zip (s:={ s with heap:=h' }) z1 λ UX zz sb=>?_⟩
   have Cm:∀ c o,c∉[z,TI,TO,i1,i2]->s.heap.get? c=some o->UX.get? c=some o:=λ c o hn e=>by
     simp only [aaa,GV,aaI,ac6] at hn
     exact sb.extBut _ _ hn.1 (kk c o hn.1 hn.2.2.1 hn.2.2.2.1 hn.2.2.2.2 e)
   have nz:s.heap.objs.size≠z:=acY (lt z (by simp))
   have n5:IsPair UX s.heap.objs.size u1 u2:=sb.extBut _ _ nz z5
   refine ⟨.ref s.heap.objs.size,upd H s.heap.objs.size (.tup [x,y]),I.tS (t':=s.toks) Cm hf (Nt _) ⟨by show 2<=sizeLine;decide,[u1,u2],.cons ZW (.cons ru2 .nil),⟨_,n5,rfl,_,rfl⟩⟩,rfl,
     ⟨_,x,y,I.cg.fresh (Nt _),rfl,rfl,λ V1 h=>by rw [I.jF h kg];exact hx,λ ys' h=>by rw [I.jF h ki];exact hy⟩,?_,λ c ss=>?_⟩
   . exact ⟨zz,sb.extBut _ _ D.TIz (kk _ _ D.TIz D.TITO D.TIi1 D.TIi2 AN),⟨_,_,sb.extBut _ _ D.TOz z2⟩,z3.extBut sb.extBut D.i1z,z4.extBut sb.extBut D.i2z⟩
   . rw [aE (aaA (lt c ss))]
     exact (hf c ss).1
 done:=by
   intro X hP hw hK hc i pins s U H E I hf st hg
   subst hP hw hK
   obtain ⟨xs,ys,kg,ki,hl⟩:=hg
   obtain ⟨CB,G0,p1,SJ⟩:=I.list kg
   obtain ⟨lW,GM,p2,Vz⟩:=I.list ki
   have l1:=G0.length
   have l2:=GM.length
   obtain ⟨hz,AN,⟨u,v,Cq⟩,h1,h2⟩:=st
   have Rg:CB.toArray[i]?=none∨lW.toArray[i]?=none:=by
     rcases hl with h|h
     . exact .inl (by simp;lia)
     . exact .inr (by simp;lia)
   refine wpAny_pyNext_zip_end (I.ok.hd hc) D hz AN Cq h1 h2 p1.isList p2.isList Rg λ h' kk=>⟨rfl,I.tK (ch:=[z,TI,TO,i1,i2]) (t':=s.toks) (λ c o hn e=>?_) hf⟩
   simp only [aaa,GV,aaI,ac6] at hn
   exact kk c o hn.1 hn.2.2.1 hn.2.2.2.1 hn.2.2.2.2 e
 self:=λ _ _ _ _ _ st h=>wpAny_pyIter_zip st.1 h
theorem C0:bootBuiltins "zip" = some (.type "zip"):=by decide +kernel
section
variable {X:Cx}
def II (K:W.Frag) (ta:TA):TI:=λ U H R=>ta U H λ vs H1=>∃ a b,vs=[.ref a,.ref b]/\(∃ xs,aN K H1 a xs)/\(∃ ys,aN K H1 b ys)/\R (FQ K a b) H1
theorem Cp {a b:Expr} {ta:TA} {p pos:Pos} (hg:Gl X "zip") (hm:X.mg "zip" = none) (ha:PA X [a,b] ta) (hs:starEach [a,b] X.env=[(false,eval a X.env),(false,eval b X.env)]:=by rfl) (AI:starEach [b] X.env=[(false,eval b X.env)]:=by rfl):PI X (.Tuple elts x1 rJ) (.Call (.Name "zip" p) [a,b] [] pos) (II X.K ta):=by
 intro pins s U H R I h
 refine Call_ (ip I hg hm C0 (aaY (ca (ha pos pins s U H _ I h) λ us s1 ⟨vs,H1,I1,r1,q1⟩=>?_) (by rw [hs,AI]) (by rw [AI];rfl)))
 obtain ⟨a,b,e,⟨xs,kg⟩,⟨ys,ki⟩,q⟩:=q1
 subst e
 obtain ⟨u,v,rfl,r,r'⟩:=vals2 r1
 obtain rfl:u=Value.ref a:=r
 obtain rfl:v=Value.ref b:=r'
 obtain ⟨CB,G0,p1,SJ⟩:=I1.list kg
 obtain ⟨lW,GM,p2,Vz⟩:=I1.list ki
 refine call_zip_2 p1.isList p2.isList λ h' z1 z2 z3 z4 z5 z6 kk=>?_
 have la:a<s1.heap.objs.size:=by obtain ⟨_,e,_⟩:=p1.isList;exact aad e
 have lb:b<s1.heap.objs.size:=by obtain ⟨_,e,_⟩:=p2.isList;exact aad e
 refine wpAny_pyIter_zip z1 ?_
 refine ⟨s1.heap.objs.size+4,[s1.heap.objs.size+4,s1.heap.objs.size+2,s1.heap.objs.size+3,s1.heap.objs.size,s1.heap.objs.size+1],_,_,H1,rfl,I1.kept (t':=s1.toks) kk,xN (zipApart_new la lb),⟨z1,z2,⟨_,_,z3⟩,z4,z5⟩,λ c hc=>?_,q⟩
 have hle:s1.heap.objs.size<=c:=by
   simp only [aaa,GV,aaI] at hc
   rcases hc with rfl|rfl|rfl|rfl|rfl
   . exact abq _ _
   . exact abq _ _
   . exact abq _ _
   . exact Nt _
   . exact abq _ _
 exact I1.rW hle (I1.cg.fresh hle)
end
theorem xV {K:W.Frag} {a b:Addr} {ys:List V} {g:TG} {tt:TT} {D:Addr} {Q:Hp->Prop} (Pv:Nat->List V->St->Hp->Prop) (h0:Pv 0 [] U H) (hl:∀ i acc U H,i<=min xs.length ys.length->Pv i acc U H->aN K H a xs/\aN K H b ys) (hs:∀ i x y p acc U H,xs[i]?=some x->ys[i]?=some y->H p=none->Pv i acc U H->g (.ref p) U (upd H p (.tup [x,y])) λ σ2 H3=>tt σ2 H3 λ k H4 =>
     if k=true then te σ2 H4 λ v H5=>H5 D=some (.lst acc)/\acc.length<sizeLine/\Pv (i+1) (acc++[v]) σ2 (upd H5 D (.lst (acc++[v]))) else Pv (i+1) acc σ2 H4) (hd:∀ acc U H,Pv (min xs.length ys.length) acc U H->Q H) :
   ∃ W:Nat->Nat->List V->St->Hp->Prop,(∃ m,W 0 m [] U H)/\∀ i m acc σ' H',W i m acc σ' H'->((FQ K a b).stop i H'/\Q H') ∨
     ((FQ K a b).go i H'/\∃ N:List V->St->Hp->Prop,(∀ e6 σ2 H4,N e6 σ2 H4->∃ m',m'<m/\W (i+1) m' e6 σ2 H4)/\∀ x H2,(FQ K a b).wm i H' x H2->g x σ' H2 λ σ2 H3=>tt σ2 H3 λ k H4 =>
       if k=true then te σ2 H4 λ y H5=>H5 D=some (.lst acc)/\acc.length<sizeLine/\N (acc++[y]) σ2 (upd H5 D (.lst (acc++[y]))) else N acc σ2 H4):=by
 refine ⟨λ i m acc U H=>m=min xs.length ys.length - i/\i<=min xs.length ys.length/\Pv i acc U H,⟨_,rfl,aaH _,h0⟩,?_⟩
 rintro i m acc U H ⟨rfl,hi,p⟩
 obtain ⟨q1,q2⟩:=hl i acc U H hi p
 by_cases iT:i<min xs.length ys.length
 .
  have h1:i<xs.length:=by lia
  have h2:i<ys.length:=by lia
  refine .inr ⟨⟨xs,ys,xs[i],ys[i],q1,q2,by simp [h1],by simp [h2]⟩,Pv (i+1),λ e6 σ' H' p'=>⟨min xs.length ys.length - (i+1),by lia,rfl,iT,p'⟩,λ v H' y=>?_⟩
  obtain ⟨pp,x,y,hn,rfl,rfl,e1,e2⟩:=y
  exact hs i x y pp acc U H (e1 xs q1) (e2 ys q2) hn p
 . have e:i=min xs.length ys.length:=by lia
   subst e
   exact .inl ⟨⟨xs,ys,q1,q2,by lia⟩,hd acc U H p⟩
mutual
def Dn (K:W.Frag) (H:Hp):PyData->V->Prop
 | .none,v=>v = .cD
 | .bool b,v=>v = .bl b
 | .int i,v=>v = .int i
 | .str x,v=>v = .str x
 | .list ds,v=>∃ a xs,v = .ref a/\aN K H a xs/\bN K H ds xs
 | .tuple ds,v=>∃ a xs,v = .ref a/\cE K H a xs/\bN K H ds xs
 | .dict _,_=>False
def bN (K:W.Frag) (H:Hp):List PyData->List V->Prop
 | [],xs=>xs=[]
 | d::ds,xs=>∃ x r,xs=x::r/\Dn K H d x/\bN K H ds r
end
def dL:PyData->Bool
 | .list _=>false
 | .dict _=>false
 | .tuple ds=>ds.attach.all λ ⟨d,_⟩=>dL d
 | _=>true
theorem km {ds:List PyData}:dL (.tuple ds)=true↔∀ d∈ds,dL d=true:=by
 rw [dL,abc]
 constructor
 . intro h d hd
   exact h ⟨d,hd⟩ (List.mem_attach ..)
 . intro h x _
   exact h x.1 x.2
def b8 (K:W.Frag) (H H':Hp):Prop:=∀ a xs,cE K H a xs->cE K H' a xs
theorem b8.refl {K:W.Frag} (H:Hp):b8 K H H:=λ _ _ h=>h
theorem b8.trans {K:W.Frag} {H1 H2:Hp} (a:b8 K H H1) (b:b8 K H1 H2):b8 K H H2:=λ c xs h=>b c xs (a c xs h)
theorem aG.ts {K:W.Frag} (s:aG H H'):b8 K H H':=λ _ _ h=>s.tup h
def Be:HO->Bool
 | .tup _=>false
 | .rN _ _=>false
 | _=>true
theorem eJ {K:W.Frag} {a:Addr} {o':HO} (h:H a=some o) (n:Be o=true):b8 K H (upd H a o'):=λ b xs q=>by
 have ne:∀ u,H b=some u->Be u=false->b≠a:=λ u e z y=>by
   subst y
   rw [h] at e
   cases e
   rw [n] at z
   cases z
 rcases q with (q|⟨ob,q⟩)|q
 . exact .inl (.inl (by rw [aE (ne _ q rfl)];exact q))
 . exact .inl (.inr ⟨ob,by rw [aE (ne _ q rfl)];exact q⟩)
 . exact .inr q
section
variable {K:W.Frag} {H H':Hp}
mutual
theorem Dn.same (s:aG H H'):∀ (d:PyData) {v:V},Dn K H d v->Dn K H' d v
 | .none,_,h=>by rw [Dn] at h ⊢;exact h
 | .bool _,_,h=>by rw [Dn] at h ⊢;exact h
 | .int _,_,h=>by rw [Dn] at h ⊢;exact h
 | .str _,_,h=>by rw [Dn] at h ⊢;exact h
 | .list ds,_,h=>by
   rw [Dn] at h ⊢
   obtain ⟨a,xs,e,q,r⟩:=h
   exact ⟨a,xs,e,s.seq q,bN.same s ds r⟩
 | .tuple ds,_,h=>by
   rw [Dn] at h ⊢
   obtain ⟨a,xs,e,q,r⟩:=h
   exact ⟨a,xs,e,s.tup q,bN.same s ds r⟩
 | .dict _,_,h=>by rw [Dn] at h;exact h.elim
theorem bN.same (s:aG H H'):∀ (ds:List PyData) {xs:List V},bN K H ds xs->bN K H' ds xs
 | [],_,h=>by rw [bN] at h ⊢;exact h
 | d::ds,_,h=>by
   rw [bN] at h ⊢
   obtain ⟨x,r,e,q,t⟩:=h
   exact ⟨x,r,e,Dn.same s d q,bN.same s ds t⟩
end
mutual
theorem Dn.ts (s:b8 K H H'):∀ (d:PyData) {v:V},dL d=true->Dn K H d v->Dn K H' d v
 | .none,_,_,h=>by rw [Dn] at h ⊢;exact h
 | .bool _,_,_,h=>by rw [Dn] at h ⊢;exact h
 | .int _,_,_,h=>by rw [Dn] at h ⊢;exact h
 | .str _,_,_,h=>by rw [Dn] at h ⊢;exact h
 | .list ds,_,f,_=>by rw [dL] at f;cases f
 | .tuple ds,_,f,h=>by
   rw [Dn] at h ⊢
   obtain ⟨a,xs,e,q,r⟩:=h
   exact ⟨a,xs,e,s _ _ q,bN.ts s ds (km.mp f) r⟩
 | .dict _,_,_,h=>by rw [Dn] at h;exact h.elim
theorem bN.ts (s:b8 K H H'):∀ (ds:List PyData) {xs:List V},(∀ d∈ds,dL d=true)->bN K H ds xs->bN K H' ds xs
 | [],_,_,h=>by rw [bN] at h ⊢;exact h
 | d::ds,_,f,h=>by
   rw [bN] at h ⊢
   obtain ⟨x,r,e,q,t⟩:=h
   exact ⟨x,r,e,Dn.ts s d (f d aae) q,bN.ts s ds (λ d hd=>f d (aaf _ hd)) t⟩
end
theorem bN.length:∀ {ds:List PyData} {xs:List V},bN K H ds xs->xs.length=ds.length
 | [],_,h=>by rw [bN] at h;rw [h];rfl
 | d::ds,_,h=>by
   rw [bN] at h
   obtain ⟨x,r,rfl,_,t⟩:=h
   rw [aav,aav,bN.length t]
theorem bN.get:∀ {ds:List PyData} {xs:List V} {i:Nat} {d:PyData},bN K H ds xs->ds[i]?=some d->∃ x,xs[i]?=some x/\Dn K H d x
 | [],_,_,_,_,e=>by simp at e
 | _::_,_,0,_,h,e=>by
   rw [bN] at h
   obtain ⟨x,r,rfl,q,t⟩:=h
   simp at e
   subst e
   exact ⟨x,rfl,q⟩
 | _::ds,_,i+1,d,h,e=>by
   rw [bN] at h
   obtain ⟨x,r,rfl,q,t⟩:=h
   obtain ⟨y,e1,e2⟩:=bN.get (i:=i) t (by simpa using e)
   exact ⟨y,by simpa using e1,e2⟩
theorem bN.snoc:∀ {ds:List PyData} {xs:List V} {d:PyData} {x:V},bN K H ds xs->Dn K H d x->bN K H (ds++[d]) (xs++[x])
 | [],_,d,x,h,q=>by
   rw [bN] at h
   subst h
   exact ⟨x,[],rfl,q,rfl⟩
 | _::ds,_,d,x,h,q=>by
   rw [bN] at h
   obtain ⟨y,r,rfl,q',t⟩:=h
   exact ⟨y,r++[x],rfl,q',bN.snoc t q⟩
theorem bN.set:∀ {ds:List PyData} {xs:List V} {i:Nat} {d:PyData} {x:V},bN K H ds xs->Dn K H d x->bN K H (ds.set i d) (xs.set i x)
 | [],_,_,_,_,h,_=>by
   rw [bN] at h
   subst h
   exact rfl
 | _::_,_,0,d,x,h,q=>by
   rw [bN] at h
   obtain ⟨y,r,rfl,q',t⟩:=h
   exact ⟨x,r,rfl,q,t⟩
 | _::ds,_,i+1,d,x,h,q=>by
   rw [bN] at h
   obtain ⟨y,r,rfl,q',t⟩:=h
   exact ⟨y,r.set i x,rfl,q',bN.set t q⟩
theorem cS:bN K H [] []:=rfl
theorem aW {d:PyData} {ds:List PyData} {x:V} (a:Dn K H d x) (b:bN K H ds xs):bN K H (d::ds) (x::xs):=⟨x,xs,rfl,a,b⟩
theorem ik {i:Int}:Dn K H (.int i) (.int i):=rfl
theorem Cc:Dn K H .none .cD:=rfl
theorem i9 {a:Addr} {ds:List PyData} (h:cE K H a xs) (r:bN K H ds xs):Dn K H (.tuple ds) (.ref a):=⟨a,xs,rfl,h,r⟩
theorem gn {a:Addr} {ds:List PyData} (h:aN K H a xs) (r:bN K H ds xs):Dn K H (.list ds) (.ref a):=⟨a,xs,rfl,h,r⟩
abbrev cU (f:Int×Int):PyData:=.tuple [.int f.1,.int f.2]
theorem iU {p:Addr} {f:Int×Int} (h:cE K H p [.int f.1,.int f.2]):Dn K H (cU f) (.ref p):=i9 h (aW ik (aW ik cS))
theorem Dn.fr {v:V} {f:Int×Int} (h:Dn K H (cU f) v):∃ p,v = .ref p/\cE K H p [.int f.1,.int f.2]:=by
 obtain ⟨p,xs,e,q,x,r,e1,e2,y,r2,e3,e4,e5⟩:=h
 have e2:x=V.int f.1:=e2
 have e4:y=V.int f.2:=e4
 have e5:r2=[]:=e5
 subst e1 e2 e3 e4 e5
 exact ⟨p,e,q⟩
theorem o4 (f:Int×Int):dL (cU f)=true:=by simp [cU,dL]
end
section
variable {X:Cx} {pins:List (Addr×Obj)} {U:St} {H:Hp} {s:Shared}
mutual
theorem Inv.reads (I:Inv X pins U H s):∀ (d:PyData) {v:V} {u:Value},Dn X.K H d v->RelV v u->∃ as,Reads s.heap u d as
 | .none,_,_,h,r=>by
   have h:_=V.cD:=h
   subst h
   obtain rfl:=(show _=Value.none from r)
   exact ⟨_,.none⟩
 | .bool b,_,_,h,r=>by
   have h:_=V.bl b:=h
   subst h
   obtain rfl:=(show _=Value.bool b from r)
   exact ⟨_,.bool b⟩
 | .int i,_,_,h,r=>by
   have h:_=V.int i:=h
   subst h
   obtain ⟨t,rfl⟩:=r
   exact ⟨_,.int i t⟩
 | .str x,_,_,h,r=>by
   have h:_=V.str x:=h
   subst h
   obtain ⟨t,rfl⟩:=r
   exact ⟨_,.str x t⟩
 | .list ds,_,_,h,r=>by
   obtain ⟨a,xs,rfl,q,t⟩:=h
   obtain rfl:=(show _=Value.ref a from r)
   obtain ⟨aZ,rv,p,_⟩:=I.list q
   obtain ⟨o,ho,hc,n,hd⟩:=p.isList
   obtain ⟨as,ra⟩:=Inv.readsAll I ds t rv
   exact ⟨_,.list ho hc hd (by simpa using ra)⟩
 | .tuple ds,_,_,h,r=>by
   obtain ⟨a,xs,rfl,q,t⟩:=h
   obtain rfl:=(show _=Value.ref a from r)
   obtain ⟨aZ,rv,p,_⟩:=I.tuple q
   obtain ⟨o,ho,hc,n,hd⟩:=p
   obtain ⟨as,ra⟩:=Inv.readsAll I ds t rv
   exact ⟨_,.tuple ho hc hd (by simpa using ra)⟩
 | .dict _,_,_,h,_=>(show False from h).elim
theorem Inv.readsAll (I:Inv X pins U H s):∀ (ds:List PyData) {xs:List V} {us:List Value},bN X.K H ds xs->Vals xs us->∃ as,ReadsAll s.heap us ds as
 | [],_,_,h,r=>by
   have h:_=[]:=h
   subst h
   obtain rfl:=Vals.zero r
   exact ⟨_,.nil⟩
 | d::ds,_,_,h,r=>by
   obtain ⟨x,t,rfl,q,qt⟩:=h
   cases r with
   | cons r1 r2 =>
     obtain ⟨as,ra⟩:=Inv.reads I d q r1
     obtain ⟨bs,rb⟩:=Inv.readsAll I ds qt r2
     exact ⟨_,.cons ra rb⟩
end
inductive BI (K:W.Frag) (x:V) (y:V) (H:Hp) (Q:VK):Prop
 | mk (d e:_) (_:Dn K H d x) (_:Dn K H e y) (_:SeqAt.shaped d=true) (_:SeqAt.shaped e=true) (_:Q (.bl (PyData.eqv d e)) H)
inductive rC (K:W.Frag) (x:V) (y:V) (H:Hp) (Q:VK):Prop
 | mk (d e:_) (_:Dn K H d x) (_:Dn K H e y) (_:SeqAt.shaped d=true) (_:SeqAt.shaped e=true) (_:Q (.bl (!PyData.eqv d e)) H)
theorem C1 (hu:X.A.units+64<cLine):g8 X (compareOp .Eq) (BI X.K):=by
 intro pins s U H x y v u Q I rx ry h
 obtain ⟨d,e,h1,h2,s1,s2,q⟩:=h
 obtain ⟨as,r1⟩:=I.reads d h1 rx
 obtain ⟨bs,r2⟩:=I.reads e h2 ry
 exact eq_dataH r1 r2 s1 s2 hu ⟨.bl _,H,I,rfl,q⟩
theorem gQ (hu:X.A.units+64<cLine):g8 X (compareOp .NotEq) (rC X.K):=by
 intro pins s U H x y v u Q I rx ry h
 obtain ⟨d,e,h1,h2,s1,s2,q⟩:=h
 obtain ⟨as,r1⟩:=I.reads d h1 rx
 obtain ⟨bs,r2⟩:=I.reads e h2 ry
 exact ne_dataH r1 r2 s1 s2 hu ⟨.bl _,H,I,rfl,q⟩
theorem jZ (hc:X.calm=true):fC X (.builtin "all") (λ xs H Q=>∃ (p:Addr) (bs:List Bool),xs=[.ref p]/\aN X.K H p (bs.map V.bl)/\Q (.bl (bs.all id)) H):=by
 intro pins s U H xs us Q I r h
 obtain ⟨p,bs,rfl,hq,q⟩:=h
 obtain ⟨u,rfl,r1⟩:∃ u,us=[u]/\RelV (.ref p) u:=by
   cases r with
   | cons a b=>cases b;exact ⟨_,rfl,a⟩
 obtain rfl:u=Value.ref p:=r1
 obtain ⟨aZ,rv,pl,_⟩:=I.list hq
 have hl:p<s.heap.objs.size:=by obtain ⟨_,e,_⟩:=pl.isList;exact aad e
 have hlen:aZ.length=bs.length:=by rw [← rv.length,be]
 have Ji:∀ i v,aZ.toArray[i]?=some v->v=Value.bool (bs.getD i false):=λ i v e=>by
   have e':aZ[i]?=some v:=by simpa using e
   have hi:i<bs.length:=by rw [← hlen];exact (List.getElem?_eq_some_iff.mp e').1
   obtain ⟨u,e2,r2⟩:=rv.get (i:=i) (x:=V.bl (bs[i])) (by simp [hi])
   rw [e'] at e2
   cases e2
   have r3:v=Value.bool bs[i]:=r2
   rw [r3]
   simp [hi]
 refine call_all_walk (acA pl.isList ⟨s.heap.objs.size,_,_,_,_,_,λ i=>bs.getD i false,rfl,Walks.list (by simpa using I.ok.hd hc) _ p (aaA hl) aZ.toArray,⟨⟨_,aap _ rfl,rfl,rfl⟩,pl.isList.push _⟩,λ i v s' Q' E' hP YK=>?_,λ h' tk hk=>?_⟩)
 . rw [Ji i v hP]
   exact aaW YK
 .
  have e:(List.range aZ.toArray.size).all (λ i=>bs.getD i false)=bs.all id:=by
    have:aZ.toArray.size=bs.length:=by simpa using hlen
    rw [this,abB,abc,abc]
    constructor
    . intro h b hb
      obtain ⟨i,hi,rfl⟩:=ac2 hb
      have:=h i (List.mem_range.mpr hi)
      simpa [hi] using this
    . intro h i hi
      have hi:=List.mem_range.mp hi
      have:=h _ (aaP hi)
      simpa [hi] using this
  rw [e]
  exact ⟨.bl _,H,I.kept (t':=tk) λ b o z=>hk b o (λ y=>by
    have y:b=s.heap.objs.size:=by simpa using y
    exact absurd (aad z) (by rw [y];exact aby _)) (Ux _ z),rfl,q⟩
end
section
variable {P:Program} {w:World} {K:W.Frag} {mg:Str->Option Value} {base:Heap} {x qual m:Str} {st:Stmt} {dV:Value} {f C:Addr} {fd:FuncData} {N ps:List Str} {k:Nat} {sp:Sp} {ds:List Value} {fu:List V}
def DJ (P:Program) (w:World) (K:W.Frag) (mg:Str->Option Value) (base:Heap) (C:Addr) (m qual:Str) (st:Stmt) (dV:Value) (k:Nat) (ps:List Str) (sp:Sp):Prop :=
 ∃ f fd,Meth K C m f/\oi K m qual st dV f fd/\iI P w K mg base sK k f fd ps sp
def lP (P:Program) (w:World) (K:W.Frag) (mg:Str->Option Value) (base:Heap) (C:Addr) (m:Str) (k:Nat) (ps:List Str) (fu:List V) (sp:Sp):Prop :=
 ∃ ds,Vals fu ds/\g9 P w K mg base C m k ps ds sp
theorem gN.Ug (h:gN K C m qual st dV) (S:aC N ps (al st)) (len:∀ vs H Q E,sp vs H Q E->vs.length=ps.length) (dX:∀ (f:Addr) (bD:Value) (A:Around) (outer:List Env) (s:Shared) (H:Hp) (vs:List V) (Q:VK) (E:XK),ce k (A.deeper (envOfC qual (al st) s.heap.objs.size f bD))->sp vs H Q E ->
     ∃ t,ny (kO sK P w K mg base N qual (al st) f bD A outer s H E).xW (bz st) t/\t { nx:=λ _ H'=>Q .cD H',rt:=Q } (start N vs) H):DJ P w K mg base C m qual st dV (k+1) ps sp:=by
 obtain ⟨f,fd,M,F⟩:=h
 exact ⟨f,fd,M,F,F.ok S len λ bD A outer s H vs Q E hr hs=>dX f bD A outer s H vs Q E hr hs⟩
theorem DJ.wv {EI:List V} (h:DJ P w K mg base C m qual st (.ref T) k ps sp) (hT:CL K T EI) (hb:∀ items:Array Value,Vals EI items.toList->∃ ds,Vals fu ds/\∀ (kV doc pm:Value) (an:Option Addr) (bD ct:Value) (us:List Value),(us++ds).length=ps.length->∃ k,bindArgs (W.fnOf m qual (bU st) (bz st) (al st) (.ref T) kV doc pm an bD ct) ⟨us,[]⟩=seqItems? (.ref T) >>= k/\k (some items)=pure (ps.zip (us++ds))) :
   lP P w K mg base C m k ps fu sp:=by
 obtain ⟨f,fd,M,F,O⟩:=h
 obtain ⟨o,n,items,hT,ho,hv⟩:=hT
 obtain ⟨ds,hd,hb⟩:=hb items hv
 exact ⟨ds,hd,f,fd,M,F.binds hT ho hb,O⟩
theorem vals3 {a b c:V} {items:Array Value} (h:Vals [a,b,c] items.toList):∃ u v z,items=#[u,v,z]/\RelV a u/\RelV b v/\RelV c z:=by
 obtain ⟨l⟩:=items
 cases h with
 | cons h1 h=>cases h with
   | cons h2 h=>cases h with
     | cons h3 h=>cases h with
       | nil=>exact ⟨_,_,_,rfl,h1,h2,h3⟩
end
section
variable {X:Cx} {C:Addr} {m x:Str} {p pos apos:Pos} {e o:Expr} {es:List Expr} {ta:TE} {t:TA} {k:Nat} {ps:List Str} {sp:Sp} {fu:List V}
theorem wb {pl:Sem Bool} (he:PE X o ta) (c:tP X.K C) (D:lP X.prog X.w X.K X.mg X.base C m k ps fu sp) (hr:ce k X.A) (ha:PA X (e::es) t) (oJ:starEach (e::es) X.env=(false,eval e X.env)::starEach es X.env:=by rfl) (hC:(backTo pos (starEach es X.env)).any (·.1)=false:=by rfl) (ht:eval (.Call (.Attribute o m apos) (e::es) [] pos) X.env=(do
     let ov ← eval o X.env
     standAt apos.atName
     let (f,first) ← holding [ov] (getMethod ov m pl)
     callWith pos f first (backTo pos (starEach (e::es) X.env)) (backToKw pos (keywordEach [] X.env))):=by rfl) :
   PE X (.Call (.Attribute o m apos) (e::es) [] pos) (qr C m sp fu E0 ta t):=by
 obtain ⟨ds,hd,D⟩:=D
 exact aP (pl:=pl) he c D hd hr ha oJ hC ht
theorem wB (M:vJ X.K C) (D:lP X.prog X.w X.K X.mg X.base C "__init__" k ps fu sp) (hr:ce (k+1) X.A) (hm:X.mg x=some (.ref C)) (ha:PA X (e::es) t) (hg:Gl X x:=by rfl) (oN:(x == ("__debug__" : Str))=false:=by decide) (he:starEach (e::es) X.env=(false,eval e X.env)::starEach es X.env:=by rfl) (hC:(backTo pos (starEach es X.env)).any (·.1)=false:=by rfl):PE X (.Call (.Name x p) (e::es) [] pos) (nN C sp fu E0 t):=by
 obtain ⟨ds,hd,D⟩:=D
 exact vT M D hd hr hm ha hg oN he hC
end
theorem fQ {K:W.Frag} {es:List Expr} {k:Nat} {pos:Pos} {t:ya} {n:Nat} (hK:X.K=K) (hc:X.calm=true) (h:AQ X es t) (hn:(assignEach es X.env).length=n:=by rfl) (oJ:(assignEach es X.env).findIdx? (·.1)=none:=by rfl):PG X (.Tuple es k pos) (Fw K n t):=by
 subst hK
 exact CO hc h hn oJ
end L2
namespace PySem
open Sem (wp)
end PySem
namespace L2
open PySem PySem.Spec PyProof.Rows Mth
variable {elt iter tg:Expr} {ifs:List Expr} {py yZ:Pos} {te:TE} {yi:Nat}
section
variable {X:Cx}
theorem Ar {y:Str} {scope:Scope} {pos:Pos} {wi:TI} {g:TG} {tt:TT} {N':List Str} {nt:Nat} {sl:List Nat} (hc:X.calm=true) (hi:PI X tg iter wi) (hg:∀ cl C s H ex,PG (bM X N' scope cl C s H ex) tg g) (ht:∀ cl C s H ex,Ay (bM X N' scope cl C s H ex) ifs tt) (he:∀ cl C s H ex,PE (bM X N' scope cl C s H ex) elt te) (F6:N'.length=nt+sl.length) (GK:∀ k j:Nat,sl[k]?=some j->∃ x,N'[nt+k]?=some x/\X.N[j]?=some x/\scope.names.lookup x=some .free) (hk:scope.kind = .function) (e7:∀ y∈scope.names,y.2 ≠ .cell) (gO:∀ y∈scope.names,y.2 = .local->scope.names.lookup y.1=some .local) (gB:∀ y∈scope.names,y.2 = .free->X.env.kindOf y.1=some .cell∨X.env.kindOf y.1=some .free) (hN:X.N.Nodup) (Qk:X.N[yi]?=some y) (hy:Loc X.env.scope y) (hf:X.fn y=true∨X.env.scope.names.lookup y=some .local) (Pn:swapsWith (.ListComp elt [⟨tg,iter,ifs,0⟩] scope pos) (some (.Name y py)) yZ.line X.env=pure true) (hs:∀ x,foldedSetIterable iter X.env x=pure x:=by intro _;rfl) :
   PS X (.Assign [.Name y py] (.ListComp elt [⟨tg,iter,ifs,0⟩] scope pos) yZ) (qx (pG wi g tt te nt sl) (g6 yi)):=by
 intro pins s U H DD I h
 rw [exec_Assign_Name_used _ _ _ _ Pn]
 refine aas (acp (aas ?_))
 show wpAny _ X.A (do let _ ← comprehension (.ListComp elt [⟨tg,iter,ifs,0⟩] scope pos) scope X.env _ (newList []) false (eval iter X.env) (some (assign (.Name y py) X.env))) _ _ s
 refine aas (abd (nu (use:=some (assign (.Name y py) X.env)) (Qp:=λ _ s'=>SP X pins DD .next s') hc hi hg ht he F6 GK hk e7 gO gB hs I h λ s6 H5 d c m J F hn q=>?_)
   (λ _ s' hq=>aaW (aaW hq)) λ _ _ e=>e)
 refine wpAny_assign_Name (nO (v:=.ref d) J hN Qk hy rfl (λ s7 I7 ⟨a,YB,ha⟩=>?_) hf)
 have na:c≠a:=λ z=>by
   rcases ha with q|q
   . exact F.2.1 (z.trans q)
   . exact F.2.2.2.2.1 _ a q z.symm
 refine ⟨m,?_,λ h' sb=>?_⟩
 . obtain ⟨o,es,ep,ho,r⟩:=hn
   exact ⟨o,es,ep,(YB.2 _ na).trans ho,r⟩
 . exact ⟨_,H5,I7.turned (t':=s7.toks) (λ b _ hb q=>(sb.2 b hb).trans q) F.1 F.2.1 F.2.2.2.1 F.2.2.2.2.1 F.2.2.2.2.2,q⟩
theorem vD {y:Str} {scope:Scope} {pos:Pos} {wi:TI} {g:TG} {tt:TT} (tn fr:List Str) (sl:List Nat) (hp:Paired (λ (j:Nat) (x:Str)=>X.N[j]?=some x/\scope.names.lookup x=some .free/\(X.env.kindOf x=some .cell∨X.env.kindOf x=some .free)) sl fr) (hc:X.calm=true) (hi:PI X tg iter wi) (hg:∀ cl C s H ex,PG (bM X (tn++fr) scope cl C s H ex) tg g) (ht:∀ cl C s H ex,Ay (bM X (tn++fr) scope cl C s H ex) ifs tt) (he:∀ cl C s H ex,PE (bM X (tn++fr) scope cl C s H ex) elt te) (hk:scope.kind = .function) (e7:∀ y∈scope.names,y.2 ≠ .cell) (gO:∀ y∈scope.names,y.2 = .local->scope.names.lookup y.1=some .local) (gB:∀ y∈scope.names,y.2 = .free->y.1∈fr) (hN:X.N.Nodup) (Qk:X.N[yi]?=some y) (hy:Loc X.env.scope y) (Pn:swapsWith (.ListComp elt [⟨tg,iter,ifs,0⟩] scope pos) (some (.Name y py)) yZ.line X.env=pure true) (hf:X.fn y=true∨X.env.scope.names.lookup y=some .local:=by first|exact .inl rfl|exact .inr rfl|assumption) (hs:∀ x,foldedSetIterable iter X.env x=pure x:=by intro _;rfl) :
   PS X (.Assign [.Name y py] (.ListComp elt [⟨tg,iter,ifs,0⟩] scope pos) yZ) (qx (pG wi g tt te tn.length sl) (g6 yi)):=by
 have key:∀ {sl:List Nat} {fr:List Str},Paired (λ (j:Nat) (x:Str)=>X.N[j]?=some x/\scope.names.lookup x=some .free/\(X.env.kindOf x=some .cell∨X.env.kindOf x=some .free)) sl fr ->
     (∀ k j:Nat,sl[k]?=some j->∃ x,fr[k]?=some x/\X.N[j]?=some x/\scope.names.lookup x=some .free)/\∀ x∈fr,X.env.kindOf x=some .cell∨X.env.kindOf x=some .free:=by
   intro sl fr hp
   induction hp with
   | nil=>exact ⟨λ k j h=>by simp at h,λ x hx=>by simp at hx⟩
   | cons r t ih =>
     refine ⟨λ k j h=>?_,λ x hx=>?_⟩
     . cases k with
       | zero =>
         have e:_=j:=aan h
         subst e
         exact ⟨_,rfl,r.1,r.2.1⟩
       | succ k=>exact ih.1 k j (by simpa using h)
     . rcases List.mem_cons.mp hx with z|z
       . rw [z];exact r.2.2
       . exact ih.2 x z
 refine Ar (N':=tn++fr) hc hi hg ht he (by rw [rT,hp.length]) (λ k j h=>?_) hk e7 gO (λ y hy hf=>(key hp).2 _ (gB y hy hf)) hN Qk hy hf Pn hs
 obtain ⟨x,e1,e2⟩:=(key hp).1 k j h
 exact ⟨x,by rw [aaw (abq _ _),acP];exact e1,e2⟩
end
abbrev bE:=Int×Int
structure ar where
 most:Int
 ig:Int
 load:Int
 rows:List (List bE)
 cF:Int->Int->Option bE
 aV:List (bE×bE×bE)
 bn:List (Option (bE×Int×Int×Int))
abbrev i3 (s:bE×bE×bE):PyData:=.tuple [cU s.1,cU s.2.1,cU s.2.2]
abbrev ee:Option (bE×Int×Int×Int)->PyData
 | none => .none
 | some s => .tuple [cU s.1,.int s.2.1,.int s.2.2.1,.int s.2.2.2]
abbrev mJ (r:List bE):PyData:=.tuple (r.map cU)
def kZ (m:ar) (pm pf ps pt:Addr):List (Str×V) :=
 [("most",.int m.most),("cap",.int m.ig),("load",.int m.load),("mark_rows",.ref pm),("flows",.ref pf),("skies",.ref ps),("stoves",.ref pt)]
section
variable (m:ar) (pm pf ps pt:Addr)
theorem pK:(kZ m pm pf ps pt).lookup ("most" : Str)=some (.int m.most):=by rfl
theorem sT:(kZ m pm pf ps pt).lookup ("cap" : Str)=some (.int m.ig):=by rfl
theorem qR:(kZ m pm pf ps pt).lookup ("load" : Str)=some (.int m.load):=by rfl
theorem l5:(kZ m pm pf ps pt).lookup ("mark_rows" : Str)=some (.ref pm):=by rfl
theorem j8:(kZ m pm pf ps pt).lookup ("flows" : Str)=some (.ref pf):=by rfl
theorem gy:(kZ m pm pf ps pt).lookup ("skies" : Str)=some (.ref ps):=by rfl
theorem iZ:(kZ m pm pf ps pt).lookup ("stoves" : Str)=some (.ref pt):=by rfl
end
def jb (K:W.Frag) (H:Hp):Option bE->Option V->Prop
 | none,none=>True
 | some f,some v=>Dn K H (cU f) v
 | _,_=>False
abbrev fN (i j:Int):List Key:=[.inl i,.inl j]
def mX (aL:List (List Key×V)):Prop:=(aL.map (·.1)).Nodup/\∀ p∈aL,∃ i j:Nat,i<4/\j<4/\p.1=fN i j
end L2
namespace Mth
def nf (t b:Int):Int×Int:=(t.fdiv (Int.gcd t b:Nat),b.fdiv (Int.gcd t b:Nat))
theorem tY {r q s:Int} (h:r ∣ q * s) (c:Int.gcd q r=1):r ∣ s:=by
 have h1:r.natAbs ∣ q.natAbs * s.natAbs:=by rw [← abZ];exact Int.natAbs_dvd_natAbs.mpr h
 have h2:Nat.Coprime r.natAbs q.natAbs:=by rw [Nat.coprime_comm];exact c
 exact Int.natAbs_dvd_natAbs.mp (Nat.Coprime.dvd_of_dvd_mul_left h2 h1)
theorem Fr.uniq {t b q r q' r':Int} (hb:b≠0) (h:Fr t b q r) (k:Fr t b q' r'):q=q'/\r=r':=by
 have e:q * r'=q' * r:=by
   have e1:(q * r') * b=(q' * r) * b:=by
     have a1:=h.nI
     have a2:=k.nI
     calc (q * r') * b=(q * b) * r':=by rw [aau]
       _=(t * r) * r':=by rw [a1]
       _=(t * r') * r:=by rw [aau]
       _=(q' * b) * r:=by rw [a2]
       _=(q' * r) * b:=by rw [aau]
   exact abn hb e1
 have d1:r ∣ r':=by
   have:r ∣ q * r':=⟨q',by rw [e,abH]⟩
   exact tY this h.IV
 have d2:r' ∣ r:=by
   have:r' ∣ q' * r:=⟨q,by rw [← e,abH]⟩
   exact tY this k.IV
 have er:r=r':=Int.dvd_antisymm (abw h.pos) (abw k.pos) d1 d2
 subst er
 exact ⟨abn (abG h.pos) e,rfl⟩
theorem mT {t b:Int} (hb:0<b):Fr t b (nf t b).1 (nf t b).2:=(xj (abG hb) rfl).2.2.1 hb
theorem Fr.nf {t b q r:Int} (hb:0<b) (h:Fr t b q r):(q,r)=nf t b:=by
 obtain ⟨e1,e2⟩:=h.uniq (abG hb) (mT hb)
 rw [e1,e2]
def hX (x y:Int×Int):Int×Int:=nf (x.1 * y.2+y.1 * x.2) (x.2 * y.2)
def i6 (x y:Int×Int):Int×Int:=nf (x.1 * y.2 - y.1 * x.2) (x.2 * y.2)
def cM (x y:Int×Int):Bool:=decide (x.1 * y.2<y.1 * x.2)
structure gv (n:Nat) (f:Int×Int):Prop where
 t:Bd n f.1
 b:Bd n f.2
 p:0<f.2
theorem gv.mono {m n:Nat} {f:Int×Int} (h:gv m f) (l:m<=n):gv n f:=⟨h.t.mono l,h.b.mono l,h.p⟩
theorem gv.minus {m n:Nat} {x y:Int×Int} (h:gv m x) (k:gv n y):gv (m+n+1) (i6 x y):=by
 have F:=mT (t:=x.1 * y.2 - y.1 * x.2) (b:=x.2 * y.2) (aa7 h.p k.p)
 have b1:Bd (m+n) (x.1 * y.2):=h.t.mul k.b
 have b2:Bd (m+n) (y.1 * x.2):=by rw [Nat.add_comm];exact k.t.mul h.b
 exact ⟨F.U5 (b1.sub b2),F.Ul ((h.b.mul k.b).mono (ab0 _)),F.pos⟩
theorem gv.plus {m n:Nat} {x y:Int×Int} (h:gv m x) (k:gv n y):gv (m+n+1) (hX x y):=by
 have F:=mT (t:=x.1 * y.2+y.1 * x.2) (b:=x.2 * y.2) (aa7 h.p k.p)
 have b1:Bd (m+n) (x.1 * y.2):=h.t.mul k.b
 have b2:Bd (m+n) (y.1 * x.2):=by rw [Nat.add_comm];exact k.t.mul h.b
 exact ⟨F.U5 (b1.add b2),F.Ul ((h.b.mul k.b).mono (ab0 _)),F.pos⟩
theorem wM:gv 100 (0,1):=⟨(by decide:(_:Int).natAbs<_),(by decide:(_:Int).natAbs<_),by decide⟩
theorem Q7:gv 100 (1,1):=⟨(by decide:(_:Int).natAbs<_),(by decide:(_:Int).natAbs<_),by decide⟩
end Mth
namespace L2
open PySem PySem.Spec PyProof.Rows Mth
variable {C dx p3 pf pm ps:Addr} {H H':Hp} {fp:List Addr} {j:Nat} {o:HO} {v:V} {vt xs:List V}
structure ar.Wf (m:ar):Prop where
 rows:∀ r∈m.rows,∀ f∈r,gv 100 f
 len:∀ r∈m.rows,2<=r.length/\r.length<=7
 cF:∀ i j f,m.cF i j=some f->gv 100 f
 aV:∀ s∈m.aV,gv 100 s.1/\gv 100 s.2.1/\gv 100 s.2.2
 bn:∀ x,some x∈m.bn->gv 100 x.1
structure bj (K:W.Frag) (C:Addr) (H:Hp) (a:Addr) (fp:List Addr) (m:ar):Prop where
 ex:∃ dx pm pf ps pt vm vs vt aL,fp=[a,dx,pm,pf,ps,pt]/\H a=some (.ins C dx (kZ m pm pf ps pt))/\H dx=some (.own a)/\H pm=some (.lst vm)/\H pf=some (.dT aL)/\H ps=some (.lst vs)/\H pt=some (.lst vt) /\
   pm≠ps/\pm≠pt/\ps≠pt/\bN K H (m.rows.map mJ) vm/\bN K H (m.aV.map i3) vs/\bN K H (m.bn.map ee) vt/\(∀ i j,jb K H (m.cF i j) (eA aL (fN i j)))/\mX aL
 sk:m.aV.length=m.rows.length
 st:m.bn.length=m.rows.length
 mx:m.rows.length<=4
 wf:m.Wf
def Aw (fp:List Addr) (H H':Hp):Prop:=∀ b o,H b=some o->b∉fp->H' b=some o
def ar.dk (m:ar) (i j:Nat):bE:=(m.cF i j).getD (0,1)
def ar.fI (m:ar) (i:Nat):bE:=((m.aV[i]?).map (·.1)).getD (0,1)
def ar.eW (m:ar) (i n:Nat):bE:=(List.range n).foldl (λ acc j=>i6 acc (m.dk i j)) (i6 (1,1) (m.fI i))
def ar.own (m:ar) (i:Nat):bE:=m.eW i m.rows.length
def ar.share (m:ar) (i j:Nat):bE:=if i=j then m.own i else m.dk i j
theorem ar.Wf.dk {m:ar} (w:m.Wf) (i j:Nat):gv 100 (m.dk i j):=by
 unfold ar.dk
 cases e:m.cF i j with
 | none=>exact wM
 | some f=>exact w.cF i j f e
theorem ar.Wf.fI {m:ar} (w:m.Wf) (i:Nat):gv 100 (m.fI i):=by
 unfold ar.fI
 cases e:m.aV[i]? with
 | none=>exact wM
 | some f=>exact (w.aV f (aaL e)).1
theorem ar.i7 (m:ar) (i n:Nat):m.eW i (n+1)=i6 (m.eW i n) (m.dk i n):=by
 unfold ar.eW
 rw [aaF,ace];rfl
theorem ar.Wf.eW {m:ar} (w:m.Wf) (i:Nat):∀ n,gv (201+101 * n) (m.eW i n)
 | 0=>(Q7.minus (w.fI i)).mono (by decide)
 | n+1=>by
   rw [ar.i7]
   exact ((w.eW i n).minus (w.dk i n)).mono (by lia)
section
variable {K:W.Frag} {H:Hp} {v:V}
theorem Dn.nG {s:bE×bE×bE} (h:Dn K H (i3 s) v):∃ p v1 v2 v3,v = .ref p/\cE K H p [v1,v2,v3]/\Dn K H (cU s.1) v1/\Dn K H (cU s.2.1) v2/\Dn K H (cU s.2.2) v3:=by
 obtain ⟨p,xs,e,q,x1,r1,e1,d1,x2,r2,e2,d2,x3,r3,e3,d3,e4⟩:=h
 have e4:r3=[]:=e4
 subst e1 e2 e3 e4
 exact ⟨p,x1,x2,x3,e,q,d1,d2,d3⟩
theorem re {s:bE×bE×bE} {p:Addr} {v1 v2 v3:V} (q:cE K H p [v1,v2,v3]) (d1:Dn K H (cU s.1) v1) (d2:Dn K H (cU s.2.1) v2) (d3:Dn K H (cU s.2.2) v3):Dn K H (i3 s) (.ref p) :=
 i9 q (aW d1 (aW d2 (aW d3 cS)))
theorem ml (s:bE×bE×bE):dL (i3 s)=true:=by simp [i3,cU,dL]
theorem i4 (s:Option (bE×Int×Int×Int)):dL (ee s)=true:=by cases s<;>simp [ee,cU,dL]
theorem qf (r:List bE):dL (mJ r)=true:=km.mpr λ d hd=>by
 obtain ⟨f,_,rfl⟩:=List.mem_map.mp hd
 exact o4 f
theorem rE.fr {a:Addr} {f:bE} (h:rE K a [.int f.1,.int f.2]):Dn K H (cU f) (.ref a):=iU (h.at H)
end
theorem fT {α:Type} {l:List α} {i:Nat} (h:i<l.length):l[i]?=some l[i]:=aac h
theorem bQ {α:Type} {xs:List α} {i:Nat} {v:α} (h:xs[i]?=some v):mZ xs (i:Int)=some v:=jx h
theorem sZ {K:W.Frag} {o:Option bE} {r:Option V} {z:V} (h:jb K H o r) (hz:Dn K H (cU (0,1)) z):Dn K H (cU (o.getD (0,1))) (r.getD z):=by
 cases o with
 | none=>cases r with
   | none=>exact hz
   | some v=>exact (show False from h).elim
 | some f=>cases r with
   | none=>exact (show False from h).elim
   | some v=>exact h
inductive zM  (vs:List V) (H:Hp) (Q:VK) (_E:XK):Prop
 | mk (n g:Int) (_:vs=[.int n,.int g]) (_:Q (.bl (decide (0<=n/\n<=g))) H)
section
variable (K:W.Frag) (C:Addr)
inductive zx  (vs:List V) (H:Hp) (Q:VK) (_E:XK):Prop
 | mk (a fp m:_) (_:vs=[.ref a]) (_:bj K C H a fp m) (_:Q (aO m.rows.length) H)
inductive pF  (vs:List V) (H:Hp) (Q:VK) (_E:XK):Prop
 | mk (a fp m:_) (i:Nat) (_:vs=[.ref a,aO i]) (_:bj K C H a fp m) (_:i<m.rows.length) (_:Q .cD H)
inductive C5  (vs:List V) (H:Hp) (Q:VK) (_E:XK):Prop
 | mk (a fp m:_) (i:Nat) (s:_) (_:vs=[.ref a,aO i]) (_:bj K C H a fp m) (_:m.aV[i]?=some s) (_:∀ v,Dn K H (i3 s) v->Q v H)
inductive vN  (vs:List V) (H:Hp) (Q:VK) (_E:XK):Prop
 | mk (a fp m:_) (i:Nat) (s:_) (_:vs=[.ref a,aO i]) (_:bj K C H a fp m) (_:m.bn[i]?=some s) (_:∀ v,Dn K H (ee s) v->Q v H)
inductive wA  (vs:List V) (H:Hp) (Q:VK) (_E:XK):Prop
 | mk (a fp m:_) (i:Nat) (r:_) (_:vs=[.ref a,aO i]) (_:bj K C H a fp m) (_:m.rows[i]?=some r) (_:∀ p xs,H p=none->bN K H (r.map cU) xs->Q (.ref p) (upd H p (.lst xs)))
inductive Df  (vs:List V) (H:Hp) (Q:VK) (_E:XK):Prop
 | mk (a fp m:_) (i:Nat) (_:vs=[.ref a,aO i]) (_:bj K C H a fp m) (_:i<m.rows.length) (_:∀ v H',aG H H'->Dn K H' (cU (m.own i)) v->Q v H')
inductive wz  (vs:List V) (H:Hp) (Q:VK) (_E:XK):Prop
 | mk (a fp m:_) (i j:Nat) (_:vs=[.ref a,aO i,aO j]) (_:bj K C H a fp m) (_:i<m.rows.length) (_:j<m.rows.length) (_:∀ v H',aG H H'->Dn K H' (cU (m.share i j)) v->Q v H')
end
theorem bj.same {K:W.Frag} {a:Addr} {m:ar} (s:aG H H') (h:bj K C H a fp m):bj K C H' a fp m:=by
 obtain ⟨⟨dx,pm,pf,ps,pt,vm,vs,vt,aL,e,ha,gr,iY,j6,gu,gI,n1,n2,n3,dm,ds,dt,df,fk⟩,q1,q2,q3,q4⟩:=h
 refine ⟨⟨dx,pm,pf,ps,pt,vm,vs,vt,aL,e,s _ _ ha,s _ _ gr,s _ _ iY,s _ _ j6,s _ _ gu,s _ _ gI,n1,n2,n3,bN.same s _ dm,bN.same s _ ds,bN.same s _ dt,λ i j=>?_,fk⟩,q1,q2,q3,q4⟩
 have:=df i j
 revert this
 cases m.cF i j<;>cases eA aL (fN i j)<;>intro q
 . exact q
 . exact q
 . exact q
 . exact Dn.same s _ q
theorem sU {n i:Nat} (h:i<n):yD n (i:Int)=some i:=by
 unfold yD
 rw [aam (by lia),aam (by lia),acf]
theorem FI {x y z t:V}:[x,y,z,t].length<=sizeLine:=by show 4<=sizeLine;decide
theorem vq {x:V}:[x].length<=sizeLine:=by show 1<=sizeLine;decide
theorem no {α:Type} [DecidableEq α]:∀ (l L:List α),l.Nodup->(∀ x∈l,x∈L)->l.length<=L.length
 | [],_,_,_=>aaH _
 | x::l,L,hn,hs=>by
   obtain ⟨h1,h2⟩:=List.nodup_cons.mp hn
   have hx:=hs x aae
   have:=no l (L.erase x) h2 λ y hy=>(List.mem_erase_of_ne (λ e=>h1 (by rw [← e];exact hy))).mpr (hs y (aaf _ hy))
   rw [List.length_erase_of_mem hx] at this
   have hp:=List.length_pos_of_mem hx
   rw [aav]
   lia
def yJ:List (List Key):=(List.range 4).flatMap λ (i:Nat)=>(List.range 4).map λ (j:Nat)=>fN (i:Int) (j:Int)
theorem mX.len {aL:List (List Key×V)} (h:mX aL):aL.length<=16:=by
 have:=no (aL.map (·.1)) yJ h.1 λ x hx=>by
   obtain ⟨p,hp,rfl⟩:=List.mem_map.mp hx
   obtain ⟨i,j,hi,hj,e⟩:=h.2 p hp
   rw [e]
   exact List.mem_flatMap.mpr ⟨i,List.mem_range.mpr hi,List.mem_map.mpr ⟨j,List.mem_range.mpr hj,rfl⟩⟩
 rw [be] at this
 exact aaO this (by decide)
theorem mX.put {aL:List (List Key×V)} (h:mX aL) {i:Nat} (hi:i<4) (hj:j<4) (v:V):mX (putK aL (fN i j) v):=by
 refine ⟨?_,λ p hp=>?_⟩
 .
  cases e:eA aL (fN i j) with
  | none=>exact Ap v h.1 e
  | some y =>
    have hc:(aL.any λ kv=>decide (kv.1=fN i j))=true:=by
      unfold eA at e
      cases q:aL.find? λ kv=>decide (kv.1=fN i j) with
      | none=>rw [q] at e;cases e
      | some z=>have q2:=List.find?_some q;exact List.any_eq_true.mpr ⟨z,List.mem_of_find?_eq_some q,q2⟩
    unfold putK
    rw [aam hc,List.map_map]
    have:((λ x:List Key×V=>x.1) ∘ λ kv:List Key×V=>if kv.1=fN i j then (kv.1,v) else kv)=λ x=>x.1:=by
      funext x
      show (if x.1=fN i j then (x.1,v) else x).1=x.1
      split<;>rfl
    rw [this]
    exact h.1
 .
  unfold putK at hp
  split at hp
  . obtain ⟨z,hz,rfl⟩:=List.mem_map.mp hp
    obtain ⟨a,b,ha,hb,e⟩:=h.2 z hz
    refine ⟨a,b,ha,hb,?_⟩
    split<;>exact e
  .
   rcases List.mem_append.mp hp with hp|hp
   . exact h.2 p hp
   . have:p=(fN i j,v):=by simpa using hp
     subst this
     exact ⟨i,j,hi,hj,rfl⟩
theorem vI {i j i' j':Int} (h:fN i j=fN i' j'):i=i'/\j=j':=by
 simp only [fN,List.cons.injEq,Sum.inl.injEq,and_true] at h
 exact h
def ar.dD (m:ar) (i j:Nat) (f:bE):ar:={ m with cF:=λ a b=>if a=(i:Int)/\b=(j:Int) then some f else m.cF a b }
def ar.ge (m:ar) (i:Nat) (s:bE×bE×bE):ar:={ m with aV:=m.aV.set i s }
def ar.dw (m:ar) (i:Nat) (s:bE×Int×Int×Int):ar:={ m with bn:=m.bn.set i (some s)}
def ar.d6 (m:ar) (r:List bE):ar:={ m with rows:=m.rows++[r],aV:=m.aV++[((0,1),(0,1),(0,1))],bn:=m.bn++[none]}
def ar.new (most ig load:Int):ar:=⟨most,ig,load,[],λ _ _=>none,[],[]⟩
structure kL (K:W.Frag) (C:Addr) (H:Hp) (a:Addr) (fp:List Addr) (m':ar) (H':Hp) (jd:List Addr):Prop where
 at_:bj K C H' a jd m'
 but:Aw fp H H'
 ts:b8 K H H'
 own:∀ b∈jd,b∈fp∨H b=none
theorem jb.ts {K:W.Frag} (s:b8 K H H'):∀ {o:Option bE} {v:Option V},jb K H o v->jb K H' o v
 | none,none,_=>trivial
 | some f,some v,h=>Dn.ts s _ (o4 f) h
 | none,some _,h=>h
 | some _,none,h=>h
theorem jq {K:W.Frag} {rs:List (List bE)} (s:b8 K H H') (h:bN K H (rs.map mJ) xs):bN K H' (rs.map mJ) xs:=bN.ts s _ (λ d hd=>by obtain ⟨r,_,rfl⟩:=List.mem_map.mp hd;exact qf r) h
theorem ij {K:W.Frag} {rs:List (bE×bE×bE)} (s:b8 K H H') (h:bN K H (rs.map i3) xs):bN K H' (rs.map i3) xs:=bN.ts s _ (λ d hd=>by obtain ⟨r,_,rfl⟩:=List.mem_map.mp hd;exact ml r) h
theorem gD {K:W.Frag} {rs:List (Option (bE×Int×Int×Int))} (s:b8 K H H') (h:bN K H (rs.map ee) xs):bN K H' (rs.map ee) xs:=bN.ts s _ (λ d hd=>by obtain ⟨r,_,rfl⟩:=List.mem_map.mp hd;exact i4 r) h
def gM (r:List bE):Bool:=(List.zipWith cM r r.tail).all id
def cc (rs:List (List bE)):Int:=rs.foldl (λ p r=>p * ((r.length:Int) - 1)) 1
section
variable (K:W.Frag) (C:Addr)
inductive yL  (vs:List V) (H:Hp) (Q:VK) (_E:XK):Prop
 | mk (a fp m:_) (i:Nat) (v1 v2 f g:_) (_:vs=[.ref a,aO i,v1,v2]) (_:bj K C H a fp m) (_:i<m.rows.length) (_:Dn K H (cU f) v1) (_:Dn K H (cU g) v2) (_:gv 100 f) (_:gv 100 g) (_:0<=f.1) (_:cM (hX (m.own i) g) f=false) (_:∀ H',aG H H'->Q .cD H')
inductive pS  (vs:List V) (H:Hp) (Q:VK) (_E:XK):Prop
 | mk (a fp m:_) (i j:Nat) (v f:_) (_:vs=[.ref a,aO i,aO j,v]) (_:bj K C H a fp m) (_:i<m.rows.length) (_:j<m.rows.length) (_:i≠j) (_:Dn K H (cU f) v) (_:gv 100 f) (_:0<=f.1) (_:cM (hX (m.own i) (m.dk i j)) f=false) (_:∀ H' jd,kL K C H a fp (m.dD i j f) H' jd->Q .cD H')
inductive rF  (vs:List V) (H:Hp) (Q:VK) (_E:XK):Prop
 | mk (a fp m:_) (i:Nat) (v1 v2 v3 f lo hi:_) (_:vs=[.ref a,aO i,v1,v2,v3]) (_:bj K C H a fp m) (_:i<m.rows.length) (_:Dn K H (cU f) v1) (_:Dn K H (cU lo) v2) (_:Dn K H (cU hi) v3) (_:gv 100 f) (_:gv 100 lo) (_:gv 100 hi) (_:cM hi lo=false) (_:0<=f.1) (_:cM (hX (m.own i) (m.fI i)) f=false) (_:∀ H' jd,kL K C H a fp (m.ge i (f,lo,hi)) H' jd->Q .cD H')
inductive jH  (vs:List V) (H:Hp) (Q:VK) (_E:XK):Prop
 | mk (a fp m:_) (i:Nat) (v f:_) (w st fl:Int) (_:vs=[.ref a,aO i,v,.int w,.int st,.int fl]) (_:bj K C H a fp m) (_:i<m.rows.length) (_:Dn K H (cU f) v) (_:gv 100 f) (_:0<=f.1) (_:(0<=w/\w<=9)) (_:(0<=st/\st<=3)) (_:(0<=fl/\fl<=3)) (_:∀ H' jd,kL K C H a fp (m.dw i (f,w,st,fl)) H' jd->Q .cD H')
inductive vg  (vs:List V) (H:Hp) (Q:VK) (_E:XK):Prop
 | mk (p xs r:_) (_:vs=[.ref p]) (_:aN K H p xs) (_:bN K H (r.map cU) xs) (_:(∀ f∈r,gv 100 f)) (_:r.length<=7) (_:∀ H',aG H H'->Q (.bl (gM r)) H')
inductive wX  (vs:List V) (H:Hp) (Q:VK) (_E:XK):Prop
 | mk (p xs rs:_) (_:vs=[.ref p]) (_:aN K H p xs) (_:bN K H (rs.map mJ) xs) (_:rs.length<=5) (_:(∀ r∈rs,1<=r.length/\r.length<=7)) (_:Q (.int (cc rs)) H)
inductive pz  (vs:List V) (H:Hp) (Q:VK) (_E:XK):Prop
 | mk (a fp m p xs r:_) (_:vs=[.ref a,.ref p]) (_:bj K C H a fp m) (_:m.rows.length<4) (_:aN K H p xs) (_:bN K H (r.map cU) xs) (_:(∀ f∈r,gv 100 f)) (_:2<=r.length) (_:r.length<=7) (_:gM r=true) (_:cc (m.rows++[r])<=400) (_:∀ H' jd,kL K C H a fp (m.d6 r) H' jd->Q (aO m.rows.length) H')
inductive oY  (vs:List V) (H:Hp) (Q:VK) (_E:XK):Prop
 | mk (x dx:_) (most ig load:Int) (_:vs=[.ref x,.int most,.int ig,.int load]) (_:H x=some (.ins C dx [])) (_:H dx=some (.own x)) (_:(0<=most/\most<=4)) (_:(0<=ig/\ig<=30)) (_:(0<=load/\load<=30)) (_:∀ H' jd,kL K C H x [x,dx] (ar.new most ig load) H' jd->Q .cD H')
end
theorem cp {a b:Addr} {u:HO} (h:H a=some o) (k:H b=some u) (n:o≠u):a≠b:=λ e=>by
 subst e
 rw [h] at k
 exact n (aan k)
theorem lp {m:ar} {rG pt vx qW kT lq:Addr} (h:some (HO.ins C dx (kZ m pm pf ps pt))=some (HO.ins C rG (kZ m vx qW kT lq))):dx=rG/\pm=vx/\pf=qW/\ps=kT/\pt=lq:=by
 simp only [kZ,Option.some.injEq,HO.ins.injEq,List.cons.injEq,Prod.mk.injEq,ac4,and_true,V.ref.injEq] at h
 exact h
theorem Aw.same (s:aG H H'):Aw fp H H':=λ b o h _=>s b o h
theorem Aw.upd {p:Addr} (b:Aw fp H H') (hp:p∈fp):Aw fp H (upd H' p o):=λ c u h n=>by
 rw [aE (λ e=>n (by rw [e];exact hp))]
 exact b c u h n
section
variable {K:W.Frag} {C:Addr} {H H1:Hp} {a:Addr} {fp:List Addr} {m:ar}
theorem uw {pt:Addr} {aL:List (List Key×V)} {i:Nat} {f:bE} (hh:bj K C H a fp m) (s:aG H H1) (ha:H a=some (.ins C dx (kZ m pm pf ps pt))) (j6:H pf=some (.dT aL)) (hi:i<4) (hj:j<4) (d:Dn K H1 (cU f) v) (o:gv 100 f):kL K C H a fp (m.dD i j f) (upd H1 pf (.dT (putK aL (fN i j) v))) fp:=by
 obtain ⟨⟨rG,vx,qW,kT,lq,vm,vs,vt,l6,mv,o6,gr,iY,ju,gu,gI,n1,n2,n3,dm,ds,dt,df,fk⟩,q1,q2,q3,q4⟩:=hh
 obtain ⟨rfl,rfl,rfl,rfl,rfl⟩:=lp (o6.symm.trans ha)
 obtain rfl:l6=aL:=by
   have:=ju.symm.trans j6
   injection this with e
   injection e
 have t1:b8 K H1 (upd H1 qW (.dT (putK l6 (fN i j) v))):=eJ (s _ _ ju) rfl
 have t0:=(aG.ts (K:=K) s).trans t1
 have w:∀ {b o},H b=some o->o ≠ .dT l6->(upd H1 qW (.dT (putK l6 (fN i j) v))) b=some o:=λ h n=>by
   rw [aE (cp h ju n)]
   exact s _ _ h
 refine ⟨⟨⟨rG,vx,qW,kT,lq,vm,vs,vt,putK l6 (fN i j) v,mv,w o6 nofun,w gr nofun,w iY nofun,ag,w gu nofun,w gI nofun,n1,n2,n3,jq t0 dm,ij t0 ds,gD t0 dt,λ i' j'=>?_,fk.put hi hj v⟩,q1,q2,q3,⟨q4.rows,q4.len,λ i' j' g hg=>?_,q4.aV,q4.bn⟩⟩,(Aw.same s).upd (by rw [mv];simp),t0,λ b hb => .inl hb⟩
 .
  rw [wy]
  by_cases e:i'=(i:Int)/\j'=(j:Int)
  . show jb K _ (if i'=(i:Int)/\j'=(j:Int) then some f else m.cF i' j') _
    rw [aam e,aam (by rw [e.1,e.2])]
    exact Dn.ts t1 _ (o4 f) d
  . show jb K _ (if i'=(i:Int)/\j'=(j:Int) then some f else m.cF i' j') _
    rw [aak e,aak (λ z=>e (vI z))]
    exact (df i' j').ts t0
 .
  have hg:(if i'=(i:Int)/\j'=(j:Int) then some f else m.cF i' j')=some g:=hg
  split at hg
  . cases hg
    exact o
  . exact q4.cF i' j' g hg
theorem xD {pt:Addr} {vs:List V} {i:Nat} {z:bE×bE×bE} (hh:bj K C H a fp m) (s:aG H H1) (ha:H a=some (.ins C dx (kZ m pm pf ps pt))) (gu:H ps=some (.lst vs)) (d:Dn K H1 (i3 z) v) (o:gv 100 z.1/\gv 100 z.2.1/\gv 100 z.2.2):kL K C H a fp (m.ge i z) (upd H1 ps (.lst (vs.set i v))) fp:=by
 obtain ⟨⟨rG,vx,qW,kT,lq,vm,uu,vt,l6,mv,o6,gr,iY,ju,uA,gI,n1,n2,n3,dm,ds,dt,df,fk⟩,q1,q2,q3,q4⟩:=hh
 obtain ⟨rfl,rfl,rfl,rfl,rfl⟩:=lp (o6.symm.trans ha)
 obtain rfl:uu=vs:=by
   have:=uA.symm.trans gu
   injection this with e
   injection e
 have t1:b8 K H1 (upd H1 kT (.lst (uu.set i v))):=eJ (s _ _ uA) rfl
 have t0:=(aG.ts (K:=K) s).trans t1
 have w:∀ {b o},H b=some o->b≠kT->(upd H1 kT (.lst (uu.set i v))) b=some o:=λ h n=>by
   rw [aE n]
   exact s _ _ h
 refine ⟨⟨⟨rG,vx,qW,kT,lq,vm,uu.set i v,vt,l6,mv,w o6 (cp o6 gu nofun),w gr (cp gr gu nofun),w iY n1,w ju (cp ju gu nofun),ag,w gI n3.symm,n1,n2,n3,jq t0 dm,?_,gD t0 dt,λ i' j'=>(df i' j').ts t0,fk⟩,?_,q2,q3,⟨q4.rows,q4.len,q4.cF,λ y hy=>?_,q4.bn⟩⟩,(Aw.same s).upd (by rw [mv];simp),t0,λ b hb => .inl hb⟩
 . show bN K _ ((m.aV.set i z).map i3) _
   rw [List.map_set]
   exact bN.set (i:=i) (ij t0 ds) (Dn.ts t1 _ (ml z) d)
 . show (m.aV.set i z).length=_
   rw [abN];exact q1
 . rcases acC hy with h|h
   . exact q4.aV y h
   . rw [h];exact o
theorem rf {pt:Addr} {i:Nat} {z:bE×Int×Int×Int} (hh:bj K C H a fp m) (s:aG H H1) (ha:H a=some (.ins C dx (kZ m pm pf ps pt))) (gI:H pt=some (.lst vt)) (d:Dn K H1 (ee (some z)) v) (o:gv 100 z.1):kL K C H a fp (m.dw i z) (upd H1 pt (.lst (vt.set i v))) fp:=by
 obtain ⟨⟨rG,vx,qW,kT,lq,vm,uu,yd,l6,mv,o6,gr,iY,ju,uA,yz,n1,n2,n3,dm,ds,dt,df,fk⟩,q1,q2,q3,q4⟩:=hh
 obtain ⟨rfl,rfl,rfl,rfl,rfl⟩:=lp (o6.symm.trans ha)
 obtain rfl:yd=vt:=by
   have:=yz.symm.trans gI
   injection this with e
   injection e
 have t1:b8 K H1 (upd H1 lq (.lst (yd.set i v))):=eJ (s _ _ yz) rfl
 have t0:=(aG.ts (K:=K) s).trans t1
 have w:∀ {b o},H b=some o->b≠lq->(upd H1 lq (.lst (yd.set i v))) b=some o:=λ h n=>by
   rw [aE n]
   exact s _ _ h
 refine ⟨⟨⟨rG,vx,qW,kT,lq,vm,uu,yd.set i v,l6,mv,w o6 (cp o6 gI nofun),w gr (cp gr gI nofun),w iY n2,w ju (cp ju gI nofun),w uA n3,ag,n1,n2,n3,jq t0 dm,ij t0 ds,?_,λ i' j'=>(df i' j').ts t0,fk⟩,q1,?_,q3,⟨q4.rows,q4.len,q4.cF,q4.aV,λ y hy=>?_⟩⟩,(Aw.same s).upd (by rw [mv];simp),t0,λ b hb => .inl hb⟩
 . show bN K _ ((m.bn.set i (some z)).map ee) _
   rw [List.map_set]
   exact bN.set (i:=i) (gD t0 dt) (Dn.ts t1 _ (i4 (some z)) d)
 . show (m.bn.set i (some z)).length=_
   rw [abN];exact q2
 . rcases acC hy with h|h
   . exact q4.bn y h
   . cases h;exact o
end
theorem xy (xs:List V):hR xs (some 1) none=xs.tail:=by
 have e:HT.nj xs.length 0 (some 1)=min 1 xs.length:=HT.oE _ _ 1
 unfold hR
 rw [e,HT.l9]
 cases xs with
 | nil=>rfl
 | cons x l =>
   have:min 1 (x::l).length=1:=by simp
   rw [this]
   simp
theorem aG.put {D:Addr} (s:aG H H') (h:H D=none):aG H (upd H' D o):=λ b u e=>by
 rw [aE (aw e h)]
 exact s b u e
theorem rZ {r:List bE} {i:Nat} {x y:bE} (hx:r[i]?=some x) (hy:r[i+1]?=some y):(List.zipWith cM r r.tail)[i]?=some (cM x y):=by
 rw [acZ,hx]
 have:r.tail[i]?=some y:=by rw [ab7];exact hy
 rw [this]
section
variable {K:W.Frag} {C:Addr} {H H1:Hp} {a:Addr} {fp:List Addr} {m:ar}
theorem uI {pt kt q0 N:Addr} {vm vs:List V} {r:List bE} (hh:bj K C H a fp m) (s:aG H H1) (ha:H a=some (.ins C dx (kZ m pm pf ps pt))) (iY:H pm=some (.lst vm)) (gu:H ps=some (.lst vs)) (gI:H pt=some (.lst vt)) (hn:H p3=none) (yg:H1 p3=some (.lst (vm++[.ref kt]))) (dr:Dn K H1 (mJ r) (.ref kt)) (iT:m.rows.length<4) (hr:∀ f∈r,gv 100 f) (hl:2<=r.length/\r.length<=7) (dN:∀ H',Dn K H' (cU (0,1)) (.ref N)) (vw:upd H1 a (.ins C dx (bA "mark_rows" (.ref p3) (kZ m pm pf ps pt))) q0=none) :
   ∃ jd,kL K C H a fp (m.d6 r) (upd (upd (upd (upd H1 a (.ins C dx (bA "mark_rows" (.ref p3) (kZ m pm pf ps pt)))) q0 (.tup [.ref N,.ref N,.ref N])) ps (.lst (vs++[.ref q0]))) pt (.lst (vt++[.cD]))) jd:=by
 obtain ⟨⟨rG,vx,qW,kT,lq,VC,uu,yd,l6,mv,o6,gr,Sb,ju,uA,yz,n1,n2,n3,dm,ds,dt,df,fk⟩,q1,q2,q3,q4⟩:=hh
 obtain ⟨rfl,rfl,rfl,rfl,rfl⟩:=lp (o6.symm.trans ha)
 obtain rfl:VC=vm:=by
   have:=Sb.symm.trans iY
   injection this with e
   injection e
 obtain rfl:uu=vs:=by
   have:=uA.symm.trans gu
   injection this with e
   injection e
 obtain rfl:yd=vt:=by
   have:=yz.symm.trans gI
   injection this with e
   injection e
 let H2:=upd H1 a (.ins C rG (bA "mark_rows" (.ref p3) (kZ m vx qW kT lq)))
 let H3:=upd H2 q0 (.tup [.ref N,.ref N,.ref N])
 let H4:=upd H3 kT (.lst (uu++[.ref q0]))
 let H5:=upd H4 lq (.lst (yd++[.cD]))
 have w2:∀ {b o},H1 b=some o->b≠a->H2 b=some o:=λ h n=>by show upd _ _ _ _=_;rw [aE n];exact h
 have s3:aG H2 H3:=ai vw
 have na:H2 a=some (.ins C rG (bA "mark_rows" (.ref p3) (kZ m vx qW kT lq))):=ag
 have D7:=cp o6 gu nofun
 have G5:=cp o6 gI nofun
 have ED:H2 kT=some (.lst uu):=w2 (s _ _ gu) D7.symm
 have Lw:H2 lq=some (.lst yd):=w2 (s _ _ gI) G5.symm
 have J0:=s3 _ _ ED
 have Nu:=s3 _ _ Lw
 have Qr:H4 lq=some (.lst yd):=by show upd _ _ _ _=_;rw [aE n3.symm];exact Nu
 have XW:b8 K H1 H2:=eJ (s _ _ o6) rfl
 have t34:b8 K H3 H4:=eJ J0 rfl
 have Zy:b8 K H4 H5:=eJ Qr rfl
 have VW:=t34.trans Zy
 have Vt:=XW.trans ((aG.ts s3).trans VW)
 have GJ:=(aG.ts (K:=K) s).trans Vt
 have w5:∀ {b o},H2 b=some o->b≠kT->b≠lq->H5 b=some o:=λ h x y=>by
   show upd _ _ _ _=_
   rw [aE y]
   show upd _ _ _ _=_
   rw [aE x]
   exact s3 _ _ h
 have wo:∀ {b o},H b=some o->b≠a->b≠kT->b≠lq->H5 b=some o:=λ h x y z=>w5 (w2 (s _ _ h) x) y z
 have Zh:p3≠a:=(aw o6 hn).symm
 have Uk:p3≠kT:=(aw gu hn).symm
 have UJ:p3≠lq:=(aw gI hn).symm
 have q0s:q0≠kT:=(aw ED vw).symm
 have IF:H5 kT=some (.lst (uu++[.ref q0])):=by
   show upd _ _ _ _=_
   rw [aE n3]
   exact ag
 refine ⟨[a,rG,p3,qW,kT,lq],⟨⟨rG,p3,qW,kT,lq,VC++[.ref kt],uu++[.ref q0],yd++[.cD],l6,rfl,?_,wo gr (cp gr o6 nofun) (cp gr gu nofun) (cp gr gI nofun),w5 (w2 yg Zh) Uk UJ,wo ju (cp ju o6 nofun) (cp ju gu nofun) (cp ju gI nofun),IF,ag,Uk,UJ,n3,?_,?_,?_,λ i j=>(df i j).ts GJ,fk⟩,?_,?_,?_,?_⟩,?_,GJ,?_⟩
 . exact w5 na D7 G5
 . show bN K H5 ((m.rows++[r]).map mJ) _
   rw [uk]
   exact (jq GJ dm).snoc (Dn.ts Vt _ (qf r) dr)
 . show bN K H5 ((m.aV++[((0,1),(0,1),(0,1))]).map i3) _
   rw [uk]
   exact (ij GJ ds).snoc (Dn.ts VW _ (ml _) (re (s:=((0,1),(0,1),(0,1))) (cE.of ag) (dN _) (dN _) (dN _)))
 . show bN K H5 ((m.bn++[none]).map ee) _
   rw [uk]
   exact (gD GJ dt).snoc rfl
 . show (m.aV++[_]).length=(m.rows++[r]).length
   rw [rT,rT,q1];rfl
 . show (m.bn++[_]).length=(m.rows++[r]).length
   rw [rT,rT,q2];rfl
 . show (m.rows++[r]).length<=4
   rw [rT];exact iT
 .
  refine ⟨λ x hx=>?_,λ x hx=>?_,q4.cF,λ x hx=>?_,λ x hx=>?_⟩
  . rcases List.mem_append.mp hx with h|h
    . exact q4.rows x h
    . rw [List.mem_singleton.mp h];exact hr
  . rcases List.mem_append.mp hx with h|h
    . exact q4.len x h
    . rw [List.mem_singleton.mp h];exact hl
  . rcases List.mem_append.mp hx with h|h
    . exact q4.aV x h
    . rw [List.mem_singleton.mp h];exact ⟨wM,wM,wM⟩
  . rcases List.mem_append.mp hx with h|h
    . exact q4.bn x h
    . cases List.mem_singleton.mp h
 .
  intro b o h n
  rw [mv] at n
  simp only [aaa,GV,aaI,ac6] at n
  exact wo h n.1 n.2.2.2.2.1 n.2.2.2.2.2
 .
  intro b hb
  rw [mv]
  simp only [aaa,GV,aaI] at hb ⊢
  rcases hb with rfl|rfl|rfl|rfl|rfl|rfl
  . exact .inl (.inl rfl)
  . exact .inl (.inr (.inl rfl))
  . exact .inr hn
  . exact .inl (.inr (.inr (.inr (.inl rfl))))
  . exact .inl (.inr (.inr (.inr (.inr (.inl rfl)))))
  . exact .inl (.inr (.inr (.inr (.inr (.inr rfl)))))
end
structure iO (K:W.Frag) (C x dx:Addr) (H H':Hp) (fs:List (Str×V)):Prop where
 st:∀ b o,H b=some o->b≠x->H' b=some o
 ts:b8 K H H'
 at_:H' x=some (.ins C dx fs)
section
variable {K:W.Frag} {C x dx:Addr} {H H':Hp} {fs fs':List (Str×V)}
theorem iO.start (h:H x=some (.ins C dx fs)):iO K C x dx H H fs:=⟨λ _ _ h _=>h,b8.refl _,h⟩
theorem iO.put (B:iO K C x dx H H' fs):iO K C x dx H (upd H' x (.ins C dx fs')) fs':=⟨λ b o h n=>by rw [aE n];exact B.st b o h n,B.ts.trans (eJ B.at_ rfl),ag⟩
theorem iO.new {p:Addr} (B:iO K C x dx H H' fs) (hp:H' p=none):iO K C x dx H (upd H' p o) fs:=⟨λ b u h n=>by rw [aE (aw (B.st b u h n) hp)];exact B.st b u h n,B.ts.trans (aG.ts (ai hp)),by rw [aE (aw B.at_ hp)];exact B.at_⟩
theorem iO.keep {b:Addr} {u:HO} (B:iO K C x dx H H' fs) (h:H' b=some o) (n:b≠x):(upd H' x u) b=some o:=by rw [aE n];exact h
theorem iO.none {p:Addr} (B:iO K C x dx H H' fs) (hp:H' p=none):H p=Option.none:=by
 cases e:H p with
 | none=>rfl
 | some o =>
   by_cases q:p=x
   . rw [q,B.at_] at hp;cases hp
   . rw [B.st p o e q] at hp;cases hp
theorem iO.ne {p:Addr} (B:iO K C x dx H H' fs) (hp:H' p=Option.none):p≠x:=λ q=>by rw [q,B.at_] at hp;cases hp
theorem tO {α:Type} {p:α->Prop} (x:α) (h:x∈([]:List α)):p x:=absurd h GV
theorem wV {p1 p2 p4:Addr} {most ig load:Int} (B:iO K C x dx H H' (kZ (ar.new most ig load) p1 p2 p3 p4)) (hx:H x=some (.ins C dx fs')) (gr:H dx=some (.own x)) (h1:H' p1=some (.lst [])) (h2:H' p2=some (.dT [])) (h3:H' p3=some (.lst [])) (h4:H' p4=some (.lst [])) (n1:H p1=none) (n2:H p2=none) (n3:H p3=none) (n4:H p4=none) (e1:p1≠p3) (e2:p1≠p4) (e3:p3≠p4) :
   kL K C H x [x,dx] (ar.new most ig load) H' [x,dx,p1,p2,p3,p4]:=by
 refine ⟨⟨⟨dx,p1,p2,p3,p4,[],[],[],[],rfl,B.at_,B.st _ _ gr (cp gr hx nofun),h1,h2,h3,h4,e1,e2,e3,rfl,rfl,rfl,λ _ _=>trivial,List.nodup_nil,tO⟩,rfl,rfl,aaH _,⟨tO,tO,λ _ _ _ h=>(by cases h),tO,λ _ h=>absurd h GV⟩⟩,?_,B.ts,?_⟩
 . intro b o h n
   simp only [aaa,GV,aaI,ac6] at n
   exact B.st b o h n.1
 .
  intro b hb
  simp only [aaa,GV,aaI] at hb ⊢
  rcases hb with rfl|rfl|rfl|rfl|rfl|rfl
  . exact .inl (.inl rfl)
  . exact .inl (.inr rfl)
  . exact .inr n1
  . exact .inr n2
  . exact .inr n3
  . exact .inr n4
end
theorem lt1000 {n:Nat} (h:Nat.ble (n+1) 1000=true):n<1000:=Nat.le_of_ble_eq_true h
def ar.with (m:ar) (x y z:Option Int):ar:={ m with most:=x.getD m.most,ig:=y.getD m.ig,load:=z.getD m.load }
structure Az where
 a:Int
 b:Int
 t:Int
 d:Int
structure Az.Ok (s:Az):Prop where
 a0:1<=s.a
 a1:s.a<=10 ^ 9
 b0:1<=s.b
 b1:s.b<=10 ^ 9
 t0 : -(10 ^ 9)<=s.t
 t1:s.t<=10 ^ 9
 d0:1<=s.d
 d1:s.d<=10 ^ 9
abbrev Az.vs (s:Az):List V:=[.int s.a,.int s.b,.int s.t,.int s.d]
def E9 (num parts:Int) (s:Az):Int:=num * s.a * s.d+parts * s.t * s.b
def DV (parts:Int) (s:Az):Int:=parts * s.b * s.d
def xL (num parts:Int) (s:Az):bE:=nf (E9 num parts s) (DV parts s)
structure Ws (z:Int×Int×Int×Int):Prop where
 h:0<=z.1/\z.1<=25
 w:0<=z.2.1/\z.2.1<=9
 s:0<=z.2.2.1/\z.2.2.1<=3
 f:0<=z.2.2.2/\z.2.2.2<=3
structure cw where
 marks:List (List Int)
 nG:List (Int×Int×Int)
 bn:List (Option (Int×Int×Int×Int))
 cF:Nat->Nat->Option Int
 scale:Az
 bounds:Int×Int×Int
section
variable {K:W.Frag} {H H':Hp} {p pm ps pt pf psc pb:Addr} {vm vs vt:List V} {aL:List (List Key×V)} {m:cw}
def cw.dD (m:cw) (i j:Nat) (k:Int):cw:={ m with cF:=λ a b=>if a=i/\b=j then some k else m.cF a b }
end
def zG (l:List Int):Prop:=∀ i x y,l[i]?=some x->l[i+1]?=some y->x<y
structure Gj (n:Nat) (l:List Int):Prop where
 two:2<=l.length
 most:l.length<=if n<=2 then 7 else 5
 ris:zG l
 bd:∀ x∈l,-200<=x/\x<=200
structure cw.Ok (n i:Nat) (m:cw):Prop where
 lm:m.marks.length=i
 ls:m.nG.length=i
 lt:m.bn.length=i
 rows:∀ l∈m.marks,Gj n l
 nG:∀ z∈m.nG,(0<=z.1/\z.1<=3)/\(-30<=z.2.1/\z.2.2<=60)/\z.2.1<=z.2.2/\z.2.2<=z.2.1+30
 bn:∀ z,some z∈m.bn->Ws z
 cF:∀ a b,a<i->b<n->a≠b->∃ k,m.cF a b=some k/\0<=k/\k<=3
 scale:m.scale.Ok
 bounds:(0<=m.bounds.1/\m.bounds.1<=4)/\(0<=m.bounds.2.1/\m.bounds.2.1<=30)/\(0<=m.bounds.2.2/\m.bounds.2.2<=30)
end L2
namespace Mth
def Ov (W k:Int) (f:Int×Int):Prop:=f.1 * W=k * f.2/\0<f.2
theorem Ov.nf {W k:Int} (h:0<W):Ov W k (nf k W):=by
 have F:=mT (t:=k) h
 exact ⟨F.nI,F.pos⟩
theorem BE {W:Int}:Ov W W (1,1):=⟨by show 1 * W=W * 1;lia,by decide⟩
theorem nQ {W:Int}:Ov W 0 (0,1):=⟨by show 0 * W=0 * 1;lia,by decide⟩
theorem Ov.minus {W a b:Int} {x y:Int×Int} (h:Ov W a x) (k:Ov W b y):Ov W (a - b) (i6 x y):=by
 have F:=mT (t:=x.1 * y.2 - y.1 * x.2) (b:=x.2 * y.2) (aa7 h.2 k.2)
 refine ⟨?_,F.pos⟩
 have c:=F.nI
 have hx:=h.1
 have hy:=k.1
 have pp:0<x.2 * y.2:=aa7 h.2 k.2
 show (Mth.nf (x.1 * y.2 - y.1 * x.2) (x.2 * y.2)).1 * W=(a - b) * (Mth.nf (x.1 * y.2 - y.1 * x.2) (x.2 * y.2)).2
 generalize (Mth.nf (x.1 * y.2 - y.1 * x.2) (x.2 * y.2)).1=q at c ⊢
 generalize (Mth.nf (x.1 * y.2 - y.1 * x.2) (x.2 * y.2)).2=r at c ⊢
 refine abn (abG pp) ?_
 have e1:x.1 * y.2 * W=a * (x.2 * y.2):=by rw [aau,hx,aa0]
 have e2:y.1 * x.2 * W=b * (x.2 * y.2):=by rw [aau,hy,aa0,abH y.2]
 calc q * W * (x.2 * y.2)=(q * (x.2 * y.2)) * W:=by rw [aau]
   _=(x.1 * y.2 - y.1 * x.2) * r * W:=by rw [c]
   _=((x.1 * y.2 - y.1 * x.2) * W) * r:=by rw [aau]
   _=(a * (x.2 * y.2) - b * (x.2 * y.2)) * r:=by rw [Int.sub_mul,e1,e2]
   _=(a - b) * r * (x.2 * y.2):=by rw [← Int.sub_mul,aau]
theorem Ov.plus {W a b:Int} {x y:Int×Int} (h:Ov W a x) (k:Ov W b y):Ov W (a+b) (hX x y):=by
 have F:=mT (t:=x.1 * y.2+y.1 * x.2) (b:=x.2 * y.2) (aa7 h.2 k.2)
 refine ⟨?_,F.pos⟩
 have c:=F.nI
 have hx:=h.1
 have hy:=k.1
 have pp:0<x.2 * y.2:=aa7 h.2 k.2
 show (Mth.nf (x.1 * y.2+y.1 * x.2) (x.2 * y.2)).1 * W=(a+b) * (Mth.nf (x.1 * y.2+y.1 * x.2) (x.2 * y.2)).2
 generalize (Mth.nf (x.1 * y.2+y.1 * x.2) (x.2 * y.2)).1=q at c ⊢
 generalize (Mth.nf (x.1 * y.2+y.1 * x.2) (x.2 * y.2)).2=r at c ⊢
 refine abn (abG pp) ?_
 have e1:x.1 * y.2 * W=a * (x.2 * y.2):=by rw [aau,hx,aa0]
 have e2:y.1 * x.2 * W=b * (x.2 * y.2):=by rw [aau,hy,aa0,abH y.2]
 calc q * W * (x.2 * y.2)=(q * (x.2 * y.2)) * W:=by rw [aau]
   _=(x.1 * y.2+y.1 * x.2) * r * W:=by rw [c]
   _=((x.1 * y.2+y.1 * x.2) * W) * r:=by rw [aau]
   _=(a * (x.2 * y.2)+b * (x.2 * y.2)) * r:=by rw [Int.add_mul,e1,e2]
   _=(a+b) * r * (x.2 * y.2):=by rw [← Int.add_mul,aau]
theorem Ov.under {W a b:Int} {x y:Int×Int} (hW:0<W) (h:Ov W a x) (k:Ov W b y):cM x y=decide (a<b):=by
 unfold cM
 refine decide_eq_decide.mpr ?_
 have pp:0<x.2 * y.2:=aa7 h.2 k.2
 have e1:x.1 * y.2 * W=a * (x.2 * y.2):=by rw [aau,h.1,aa0]
 have e2:y.1 * x.2 * W=b * (x.2 * y.2):=by rw [aau,k.1,aa0,abH y.2]
 constructor
 .
  intro l
  have:=acv l hW
  rw [e1,e2] at this
  exact acy this (abw pp)
 .
  intro l
  have:=acv l pp
  rw [← e1,← e2] at this
  exact acy this (abw hW)
end Mth
namespace L2
open PySem PySem.Spec PyProof.Rows Mth
variable {elts:List Expr} {j x1:Nat} {rJ:Pos}
def sumF (fl:Nat->Nat->Int) (i:Nat):Nat->Int
 | 0=>0
 | t+1=>sumF fl i t+fl i t
structure fi (W:Int) (sk:Nat->Int) (fl:Nat->Nat->Int) (m:ar):Prop where
 nG:∀ i,Ov W (sk i) (m.fI i)
 dk:∀ i j,Ov W (fl i j) (m.dk i j)
theorem fi.eW {W:Int} {sk:Nat->Int} {fl:Nat->Nat->Int} {m:ar} (h:fi W sk fl m) (i:Nat):∀ t,Ov W (W - sk i - sumF fl i t) (m.eW i t)
 | 0=>by
   have:=(BE (W:=W)).minus (h.nG i)
   have e:W - sk i - sumF fl i 0=W - sk i:=by show W - sk i - 0=_;lia
   rw [e]
   exact this
 | t+1=>by
   rw [ar.i7]
   have:=(h.eW i t).minus (h.dk i t)
   have e:W - sk i - sumF fl i (t+1)=W - sk i - sumF fl i t - fl i t:=by show W - sk i - (sumF fl i t+fl i t)=_;lia
   rw [e]
   exact this
theorem fi.own {W:Int} {sk:Nat->Int} {fl:Nat->Nat->Int} {m:ar} (h:fi W sk fl m) (i:Nat):Ov W (W - sk i - sumF fl i m.rows.length) (m.own i):=h.eW i _
theorem fi.zL {W k:Int} {sk:Nat->Int} {fl:Nat->Nat->Int} {m:ar} {f:bE} {i:Nat} (hW:0<W) (h:fi W sk fl m) (hf:Ov W k f) (le:k<=W - sumF fl i m.rows.length):cM (hX (m.own i) (m.fI i)) f=false:=by
 rw [((h.own i).plus (h.nG i)).under hW hf]
 exact aaq (by lia)
theorem fi.xF {W k:Int} {sk:Nat->Int} {fl:Nat->Nat->Int} {m:ar} {f:bE} {i:Nat} (hW:0<W) (h:fi W sk fl m) (hf:Ov W k f) (le:k<=W - sk i - sumF fl i m.rows.length+fl i j):cM (hX (m.own i) (m.dk i j)) f=false:=by
 rw [((h.own i).plus (h.dk i j)).under hW hf]
 exact aaq (by lia)
theorem jC {m:ar} {i a b:Nat} {f:bE}:(m.dD i j f).dk a b=if a=i/\b=j then f else m.dk a b:=by
 unfold ar.dk ar.dD
 by_cases e:a=i/\b=j
 . rw [aam e]
   show ((if (a:Int)=(i:Int)/\(b:Int)=(j:Int) then some f else m.cF a b)).getD (0,1)=f
   rw [aam (by lia)];rfl
 . rw [aak e]
   show ((if (a:Int)=(i:Int)/\(b:Int)=(j:Int) then some f else m.cF a b)).getD (0,1)=_
   rw [aak (by lia)]
theorem fi.dD {W k:Int} {sk:Nat->Int} {fl:Nat->Nat->Int} {m:ar} {f:bE} {i:Nat} (h:fi W sk fl m) (hf:Ov W k f):fi W sk (λ a b=>if a=i/\b=j then k else fl a b) (m.dD i j f):=by
 refine ⟨λ a=>h.nG a,λ a b=>?_⟩
 rw [jC]
 by_cases e:a=i/\b=j
 . simp only [aam e];exact hf
 . simp only [aak e];exact h.dk a b
theorem qc {m:ar} {i a:Nat} {z:bE×bE×bE} (hi:i<m.aV.length):(m.ge i z).fI a=if a=i then z.1 else m.fI a:=by
 unfold ar.fI ar.ge
 by_cases e:a=i
 .
  subst e
  rw [aam rfl]
  show (((m.aV.set a z)[a]?).map (·.1)).getD (0,1)=_
  rw [abf hi];rfl
 . rw [aak e]
   show (((m.aV.set i z)[a]?).map (·.1)).getD (0,1)=_
   rw [abo (λ x=>e x.symm)]
theorem fi.ge {W k:Int} {sk:Nat->Int} {fl:Nat->Nat->Int} {m:ar} {z:bE×bE×bE} {i:Nat} (h:fi W sk fl m) (hi:i<m.aV.length) (hf:Ov W k z.1):fi W (λ a=>if a=i then k else sk a) fl (m.ge i z):=by
 refine ⟨λ a=>?_,λ a b=>h.dk a b⟩
 rw [qc hi]
 by_cases e:a=i
 . simp only [aam e];exact hf
 . simp only [aak e];exact h.nG a
theorem fi.new {W:Int} {most ig load:Int}:fi W (λ _=>0) (λ _ _=>0) (ar.new most ig load):=⟨λ _=>nQ,λ _ _=>nQ⟩
theorem fi.d6 {W:Int} {sk:Nat->Int} {fl:Nat->Nat->Int} {m:ar} {r:List bE} (h:fi W sk fl m) (hs:∀ i,m.aV.length<=i->sk i=0):fi W sk fl (m.d6 r):=by
 refine ⟨λ a=>?_,λ a b=>h.dk a b⟩
 by_cases e:a<m.aV.length
 .
  have:(m.d6 r).fI a=m.fI a:=by
    show (((m.aV++[((0,1),(0,1),(0,1))])[a]?).map (·.1)).getD (0,1)=((m.aV[a]?).map (·.1)).getD (0,1)
    rw [aaK e]
  rw [this]
  exact h.nG a
 .
  have:(m.d6 r).fI a=(0,1):=by
    show (((m.aV++[((0,1),(0,1),(0,1))])[a]?).map (·.1)).getD (0,1)=(0,1)
    rw [aaw (by lia)]
    cases q:a - m.aV.length with
    | zero=>rfl
    | succ n=>rfl
  rw [this,hs a (by lia)]
  exact nQ
theorem fi.dw {W:Int} {sk:Nat->Int} {fl:Nat->Nat->Int} {m:ar} {i:Nat} {z:bE×Int×Int×Int} (h:fi W sk fl m):fi W sk fl (m.dw i z):=⟨λ a=>h.nG a,λ a b=>h.dk a b⟩
def cw.row (tm:cw) (l:List Int):List bE:=l.map λ x=>xL x 1 tm.scale
def cw.m1 (tm:cw) (k:Nat):ar:=((tm.marks.take k).map tm.row).foldl ar.d6 (ar.new tm.bounds.1 tm.bounds.2.1 tm.bounds.2.2)
def cw.Gi (tm:cw) (z:Int×Int×Int):bE×bE×bE:=(nf z.1 12,xL z.2.1 1 tm.scale,xL z.2.2 1 tm.scale)
def cw.zh (tm:cw) (z:Int×Int×Int×Int):bE×Int×Int×Int:=(nf (z.1 * tm.scale.a) tm.scale.b,z.2.1,z.2.2.1,z.2.2.2)
def cw.yK (tm:cw) (m:ar) (i:Nat):ar:=match tm.nG[i]? with|some z=>m.ge i (tm.Gi z)|none=>m
def cw.ul (tm:cw) (m:ar) (i:Nat):ar:=match tm.bn[i]? with|some (some z)=>m.dw i (tm.zh z)|_=>m
def cw.xC (tm:cw) (i:Nat) (m:ar) (j:Nat):ar:=if j=i then m else match tm.cF i j with|some k=>m.dD i j (nf k 12)|none=>m
def cw.Ag (tm:cw) (i:Nat) (m:ar) (j:Nat):ar:=(List.range j).foldl (tm.xC i) m
def cw.wE (tm:cw) (n:Nat) (m:ar) (i:Nat):ar:=tm.Ag i (tm.ul (tm.yK m i) i) n
def cw.m2 (tm:cw) (n k:Nat):ar:=(List.range k).foldl (tm.wE n) (tm.m1 n)
def sX:Nat->PyData->Prop
 | _,.none=>True
 | _,.bool _=>True
 | _,.int _=>True
 | n+1,.list ds=>∀ d∈ds,sX n d
 | n+1,.tuple ds=>∀ d∈ds,sX n d
 | _,_=>False
theorem ox {n:Nat} (h:∀ d,sX n d->PyData.eqv d d=true/\d.canLay0=true/\d.depth<=n):∀ ds:List PyData,(∀ d∈ds,sX n d)->PyData.eqvAll ds ds=true/\PyData.canLayAll0 ds=true/\PyData.depthAll ds<=n
 | [],_=>by simp [PyData.eqvAll,PyData.canLayAll0,PyData.depthAll]
 | d::ds,k=>by
   obtain ⟨a,b,c⟩:=h d (k d aae)
   obtain ⟨a',b',c'⟩:=ox h ds (λ e he=>k e (aaf _ he))
   simp only [PyData.eqvAll,PyData.canLayAll0,PyData.depthAll,a,b,a',b',acT,ac4]
   lia
theorem je:∀ (n:Nat) (d:PyData),sX n d->PyData.eqv d d=true/\d.canLay0=true/\d.depth<=n
 | n,.none,_=>by simp [PyData.eqv,PyData.canLay0,PyData.depth]
 | n,.bool b,_=>by simp [PyData.eqv,PyData.canLay0,PyData.depth]
 | n,.int i,_=>by simp [PyData.eqv,PyData.canLay0,PyData.depth]
 | n+1,.list ds,h=>by
   obtain ⟨a,b,c⟩:=ox (je n) ds h
   simp only [PyData.eqv,PyData.canLay0,PyData.depth,a,b,ac4]
   lia
 | n+1,.tuple ds,h=>by
   obtain ⟨a,b,c⟩:=ox (je n) ds h
   simp only [PyData.eqv,PyData.canLay0,PyData.depth,a,b,ac4]
   lia
 | 0,.list _,h=>h.elim
 | 0,.tuple _,h=>h.elim
 | 0,.str _,h=>h.elim
 | _+1,.str _,h=>h.elim
 | 0,.dict _,h=>h.elim
 | _+1,.dict _,h=>h.elim
theorem mn {n:Nat} {d:PyData} (h:sX n d) (hn:n<=64):SeqAt.shaped d=true:=by
 obtain ⟨_,b,c⟩:=je n d h
 unfold SeqAt.shaped
 rw [b,aaz (aaO c hn)];rfl
theorem xK {n:Nat} {d:PyData} (h:sX n d):PyData.eqv d d=true:=(je n d h).1
theorem t9 (f:Int×Int) {n:Nat}:sX (n+1) (cU f):=by
 intro d hd
 simp only [aaa,GV,aaI] at hd
 rcases hd with rfl|rfl<;>(cases n<;>exact trivial)
theorem Ac {n:Nat} {l:List Int}:sX (n+1) (.tuple (l.map PyData.int)):=by
 intro d hd
 obtain ⟨i,_,rfl⟩:=List.mem_map.mp hd
 cases n<;>exact trivial
theorem yn {n:Nat} {i j k:Int}:sX (n+1) (.tuple [.int i,.int j,.int k]):=Ac (l:=[i,j,k])
theorem io {K:W.Frag} {H:Hp} {x y:V} {d:PyData} {n:Nat} {Q:VK} (hx:Dn K H d x) (hy:Dn K H d y) (p:sX n d) (hn:n<=64) (q:Q (.bl false) H):rC K x y H Q :=
 ⟨d,d,hx,hy,mn p hn,mn p hn,by rw [xK p];exact q⟩
theorem Cy (s:bE×bE×bE) {n:Nat}:sX (n+2) (i3 s):=by
 intro d hd
 simp only [aaa,GV,aaI] at hd
 rcases hd with rfl|rfl|rfl<;>exact t9 _
theorem vC (s:Option (bE×Int×Int×Int)) {n:Nat}:sX (n+2) (ee s):=by
 cases s with
 | none=>exact trivial
 | some z =>
   intro d hd
   simp only [aaa,GV,aaI] at hd
   rcases hd with rfl|rfl|rfl|rfl
   . exact t9 _
   all_goals exact trivial
theorem tX {X:Cx} {K:W.Frag} (h:X.K=K):Dr X (lV K):=by
 subst h
 exact au
theorem wZ:bootBuiltins "min" = some (.builtin "min"):=by decide +kernel
theorem oT:bootBuiltins "enumerate" = some (.type "enumerate"):=by decide +kernel
theorem xZ:([]:List V).length<=sizeLine:=aaH _
def FU (sq:Hp->Addr->List V->Prop) (a:Addr):It :=
 ⟨λ i H=>∃ xs x,sq H a xs/\xs[i]?=some x,
  λ i H v H'=>∃ p x,H p=none/\v = .ref p/\H'=upd H p (.tup [aO i,x])/\∀ xs,sq H a xs->xs[i]?=some x,
  λ i H=>∃ xs,sq H a xs/\xs.length=i⟩
def Zg (e j a:Addr) (i:Nat) (h:Heap):Prop:=(∃ old,IsEnum h e j i old)/\h.IsListIter j a i
theorem xk {P:Program} {w:World} {K:W.Frag} {e j a:Addr} (ej:e≠j) (ae:a≠e) (aj:a≠j):Turn P w K (.Tuple elts x1 rJ) (FU (aN K) a) [e,j] e (Zg e j a) where
 mem:=by simp
 obj:=λ i h st c hc=>by
   obtain ⟨⟨old,h1⟩,oj,e2,_,d2⟩:=st
   simp only [aaa,GV,aaI] at hc
   rcases hc with rfl|rfl
   . exact ⟨_,h1,λ v q=>by cases q⟩
   . exact ⟨oj,e2,λ v q=>by rw [d2] at q;cases q⟩
 keep:=λ i h h' st k=>by
   obtain ⟨⟨old,h1⟩,h2⟩:=st
   exact ⟨⟨old,k e (by simp) _ h1⟩,h2.at λ o q=>k j (by simp) o q⟩
 item:=by
   intro X hP hw hK hc i pins s U H E I hf st hg
   subst hP hw hK
   obtain ⟨xs,x,hq,hx⟩:=hg
   obtain ⟨aZ,rv,p,hz⟩:=I.list hq
   obtain ⟨u,hu,ru⟩:=rv.get hx
   obtain ⟨⟨old,h1⟩,h2⟩:=st
   have le:e<s.heap.objs.size:=aad h1
   have lj:j<s.heap.objs.size:=by obtain ⟨o,q,_⟩:=h2;exact aad q
   have hi:i<aZ.toArray.size:=by
     have:=(List.getElem?_eq_some_iff.mp hu).1
     simpa using this
   refine wpAny_pyNext_enum_itemD (Draws.list (A:=X.A.in1) (I.ok.hd hc) j a aj aZ.toArray) h1 ⟨h2,p.isList⟩ hi ej (by simp [ej,ae.symm]) λ v h' tk hv eo yc ht hz' kk=>?_
   obtain rfl:v=u:=by
     have hv:aZ.toArray[i]?=some v:=hv
     rw [List.getElem?_toArray,hu] at hv
     exact (aan hv).symm
   refine ⟨.ref s.heap.objs.size,rfl,wpAny_letOwnedTupleGo_enum (s:={ s with heap:=h',toks:=tk+1 }) eo λ g he sb=>?_⟩
   have Cm:∀ c o,c∉[e,j]->s.heap.get? c=some o->g.get? c=some o:=λ c o hn q=>by
     simp only [aaa,GV,aaI,ac6] at hn
     exact sb.extBut _ _ hn.1 (kk c o hn.1 hn.2 q)
   have n5:=sb.extBut _ _ (acY le) ht
   refine ⟨.ref s.heap.objs.size,upd H s.heap.objs.size (.tup [aO i,x]),I.tS (t':=tk+1) Cm hf (Nt _) ⟨by show 2<=sizeLine;decide,[.int i tk,v],.cons ⟨tk,rfl⟩ (.cons ru .nil),⟨_,n5,rfl,_,rfl⟩⟩,rfl,
     ⟨_,x,I.cg.fresh (Nt _),rfl,rfl,λ V1 h=>by rw [I.jF h hq];exact hx⟩,⟨⟨_,by simpa using he⟩,yc.1.extBut sb.extBut ej.symm⟩,λ c ss=>?_⟩
   have lc:c<s.heap.objs.size:=by
     simp only [aaa,GV,aaI] at ss
     rcases ss with rfl|rfl
     . exact le
     . exact lj
   rw [aE (aaA lc)]
   exact (hf c ss).1
 done:=by
   intro X hP hw hK hc i pins s U H E I hf st hg
   subst hP hw hK
   obtain ⟨xs,hq,hl⟩:=hg
   obtain ⟨aZ,rv,p,hz⟩:=I.list hq
   obtain ⟨⟨old,h1⟩,h2⟩:=st
   have hn:i=aZ.toArray.size:=by rw [aab,← rv.length];exact hl.symm
   subst hn
   refine wpAny_pyNext_enum_endD (Draws.list (A:=X.A.in1) (I.ok.hd hc) j a aj aZ.toArray) h1 ⟨h2,p.isList⟩ λ h' eb=>⟨rfl,I.tK (ch:=[e,j]) (t':=s.toks) (λ c o hn q=>?_) hf⟩
   simp only [aaa,GV,aaI,ac6] at hn
   exact eb c o hn.2 q
 self:=λ _ _ _ _ _ st h=>by
   obtain ⟨⟨old,h1⟩,_⟩:=st
   exact wpAny_pyIter_enum h1 h
section
variable {X:Cx}
def Jb (K:W.Frag) (ta:TA):TI:=λ U H R=>ta U H λ vs H1=>∃ a,vs=[.ref a]/\(∃ xs,aN K H1 a xs)/\R (FU (aN K) a) H1
theorem MN:("enumerate" : Str) ≠ "__name__":=by decide +kernel
theorem Rf:(("enumerate" : Str) == ("__debug__" : Str))=false:=by decide +kernel
theorem Ch {a:Expr} {ta:TA} {p pos:Pos} (hg:Gl X "enumerate") (hm:X.mg "enumerate" = none) (ha:PA X [a] ta) (hs:starEach [a] X.env=[(false,eval a X.env)]:=by rfl) :
   PI X (.Tuple elts x1 rJ) (.Call (.Name "enumerate" p) [a] [] pos) (Jb X.K ta):=by
 intro pins s U H R I h
 refine Call_ ?_
 refine ip I hg hm oT ?_ MN Rf
 refine aaY ?_ hs rfl
 refine ca (ha pos pins s U H _ I h) λ us s1 ⟨vs,H1,I1,r1,q1⟩=>?_
 obtain ⟨a,e,⟨xs,hq⟩,q⟩:=q1
 subst e
 cases r1 with
 | cons r rr =>
   cases rr
   obtain rfl:_=Value.ref a:=r
   obtain ⟨aZ,rv,p1,SJ⟩:=I1.list hq
   have la:a<s1.heap.objs.size:=by obtain ⟨_,e,_⟩:=p1.isList;exact aad e
   refine call_enumerate_list p1.isList λ h' z1 z2 z3 kk=>wpAny_pyIter_enum z1 ?_
   refine ⟨s1.heap.objs.size+1,[s1.heap.objs.size+1,s1.heap.objs.size],_,_,H1,rfl,I1.kept (t':=s1.toks) kk,xk (Nat.succ_ne_self _) (aaA (Nat.lt_succ_of_lt la)) (aaA la),⟨⟨_,z1⟩,z2⟩,λ c hc=>?_,q⟩
   have hle:s1.heap.objs.size<=c:=by
     simp only [aaa,GV,aaI] at hc
     rcases hc with rfl|rfl
     . exact ab0 _
     . exact Nt _
   exact I1.rW hle (I1.cg.fresh hle)
end
end L2
namespace Tx
open PySem PySem.Builtin PySem.Builtin.Str
theorem ext {a b:Str} (h:a.cps.toList=b.cps.toList):a=b:=by
 cases a;cases b
 exact aaV Str.mk (Array.toList_inj.mp h)
theorem app (a b:Str):(a++b).cps.toList=a.cps.toList++b.cps.toList:=by
 show (a.cps++b.cps).toList=_
 simp
theorem len (a:Str):a.cps.toList.length=a.length:=aba
def sl:Str:=⟨#[47]⟩
theorem n8 (x:Str) (i:Nat):StrLaws.At x sl x.length i↔x.cps.toList[i]?=some 47:=StrLaws.subAt_one x 47 i
theorem uX {x:Str} (h:47∉x.cps.toList):Txt.partition x sl=(x,Str.empty,Str.empty):=by
 unfold Txt.partition
 rcases StrLaws.occ_head x sl 1 (Nt 1) with ⟨h0,hn⟩|⟨i,r,h0,hi,hn⟩
 . rw [h0]
 . exact absurd (aaL ((n8 x i).mp hi)) h
theorem uO {x a b:Str} (h:47∉a.cps.toList) (e:x.cps.toList=a.cps.toList++47::b.cps.toList):Txt.partition x sl=(a,sl,b):=by
 have la:x.cps.toList[a.length]?=some 47:=by rw [e,← len a,aaw (Nt _),Nat.sub_self];rfl
 have lx:x.length=a.length+1+b.length:=by rw [← len x,e,rT,aav,len,len];lia
 unfold Txt.partition
 rcases StrLaws.occ_head x sl 1 (Nt 1) with ⟨h0,hn⟩|⟨i,r,h0,hi,hn⟩
 . exact absurd ((n8 x _).mpr la) (hn _)
 .
  have zg:=(n8 x i).mp hi
  have ei:i=a.length:=by
    rcases Nat.lt_trichotomy i a.length with q|q|q
    . rw [e,aaK (by rw [len];exact q)] at zg
      exact absurd (aaL zg) h
    . exact q
    . exact absurd ((n8 x _).mpr la) (hn _ q)
  subst ei
  rw [h0]
  show (strSub x 0 a.length,sl,strSub x (a.length+1) x.length)=(a,sl,b)
  have e1:strSub x 0 a.length=a:=ext (by rw [StrLaws.strSub_toList,e,acD,Nat.sub_zero,← len a,List.take_left']<;>rfl)
  have e2:strSub x (a.length+1) x.length=b:=ext (by
    rw [StrLaws.strSub_toList,e,lx]
    have:List.drop (a.length+1) (a.cps.toList++47::b.cps.toList)=b.cps.toList:=by
      rw [← len a,List.drop_append,List.drop_eq_nil_of_le (by lia),abm,show a.cps.toList.length+1 - a.cps.toList.length=1 by lia]
      rfl
    rw [this]
    exact aaN (by rw [len];lia))
  rw [e1,e2]
theorem cases (x:Str):47∉x.cps.toList∨∃ a b:Str,47∉a.cps.toList/\x.cps.toList=a.cps.toList++47::b.cps.toList:=by
 by_cases h:47∈x.cps.toList
 . obtain ⟨as,bs,e,n⟩:=List.eq_append_cons_of_mem h
   exact .inr ⟨⟨as.toArray⟩,⟨bs.toArray⟩,by simpa using n,by simpa using e⟩
 . exact .inl h
theorem xH (x y:Str):Txt.split x y≠[]:=by
 unfold Txt.split
 split
 . exact aa2 _ _
 .
  split
  . exact aa2 _ _
  . rw [StrLaws.partsBetween_eq]
    obtain ⟨p,q,e⟩:=StrLaws.partsFrom_ne x y.length 0 (occurrences x y 0 x.length (x.length+1))
    rw [e]
    exact aa2 _ _
theorem tR:∀ (k n:Nat),n<10 ^ (k+1)->(Nat.toDigits 10 n).length<=k+1
 | 0,n,h=>by
   rw [aaQ (by simpa using h)]
   exact Nt _
 | k+1,n,h=>by
   by_cases Hg:n<10
   . rw [aaQ Hg]
     show 1<=_
     lia
   .
    have t:Nat.toDigits 10 (n / 10)++Nat.toDigits 10 (n % 10)=Nat.toDigits 10 (10 * (n / 10)+n % 10):=abh (by decide) (by lia) (acd _ (by decide))
    rw [abT] at t
    rw [← t,rT,aaQ (acd n (by decide))]
    have:=tR k (n / 10) (by rw [acX] at h;lia)
    show _+1<=_
    lia
theorem h9:∀ d,d<10->(Nat.digitChar d).toNat=48+d:=by decide
theorem pV (n:Nat) (h:0<n):∃ c r,Nat.toDigits 10 n=c::r/\c.toNat≠48:=by
 induction n using Nat.strongRecOn with
 | _ n ih =>
   by_cases Hg:n<10
   . exact ⟨_,[],aaQ Hg,by rw [h9 n Hg];lia⟩
   . have t:Nat.toDigits 10 (n / 10)++Nat.toDigits 10 (n % 10)=Nat.toDigits 10 (10 * (n / 10)+n % 10):=abh (by decide) (by lia) (acd _ (by decide))
     rw [abT] at t
     obtain ⟨c,r,e,hc⟩:=ih (n / 10) (by lia) (by lia)
     exact ⟨c,r++Nat.toDigits 10 (n % 10),by rw [← t,e];rfl,hc⟩
theorem yy (n:Nat):NumText.digitsVal ((Nat.toDigits 10 n).map Char.toNat)=n:=by
 induction n using Nat.strongRecOn with
 | _ n ih =>
   by_cases h:n<10
   . rw [aaQ h]
     have e:=h9 n h
     show 0 * 10+((Nat.digitChar n).toNat - 48)=n
     lia
   .
    have hm:n % 10<10:=acd n (by decide)
    have t:Nat.toDigits 10 (n / 10)++Nat.toDigits 10 (n % 10)=Nat.toDigits 10 (10 * (n / 10)+n % 10):=abh (by decide) (by lia) hm
    rw [abT] at t
    rw [← t,uk,aaQ hm]
    show NumText.digitsVal ((Nat.toDigits 10 (n / 10)).map Char.toNat++[(Nat.digitChar (n % 10)).toNat])=n
    rw [NumText.digitsVal_snoc,ih (n / 10) (by lia),h9 (n % 10) hm]
    lia
theorem nU (n:Nat):NumText.AllDigits ((Nat.toDigits 10 n).map Char.toNat):=by
 induction n using Nat.strongRecOn with
 | _ n ih =>
   by_cases h:n<10
   . rw [aaQ h]
     intro c hc
     rw [List.mem_singleton.mp hc,h9 n h]
     lia
   .
    have hm:n % 10<10:=acd n (by decide)
    have t:Nat.toDigits 10 (n / 10)++Nat.toDigits 10 (n % 10)=Nat.toDigits 10 (10 * (n / 10)+n % 10):=abh (by decide) (by lia) hm
    rw [abT] at t
    rw [← t,uk,aaQ hm]
    intro c hc
    rcases List.mem_append.mp hc with q|q
    . exact ih (n / 10) (by lia) c q
    . rw [List.mem_singleton.mp q,h9 _ hm]
      lia
def strN (n:Nat):Str:=Str.ofString (toString ((n:Nat):Int))
theorem sW (s:String):(Str.ofString s).cps.toList=s.toList.map Char.toNat:=by
 rw [Str.ofString_eq_toList]
theorem fG (n:Nat):(strN n).cps.toList=(Nat.toDigits 10 n).map Char.toNat:=by
 unfold strN
 rw [sW]
 show (Nat.repr n).toList.map Char.toNat=_
 rw [Nat.toList_repr]
def Good (z:Str):Prop:=1<=z.length/\z.length<=30/\NumText.AllDigits z.cps.toList/\¬ (z.cps.toList.head?=some 48/\1<z.length)
def valOf (z:Str):Int:=((NumText.digitsVal z.cps.toList:Nat):Int)
theorem c7 {n:Nat} (h:n<10 ^ 30):Good (strN n)/\valOf (strN n)=n:=by
 have hl:(strN n).length=(Nat.toDigits 10 n).length:=by rw [← len,fG,be]
 have h30:=tR 29 n h
 refine ⟨⟨?_,by lia,by rw [fG];exact nU n,λ q=>?_⟩,by unfold valOf;rw [fG,yy]⟩
 .
  rcases ab5 n with e|e
  . subst e;decide +kernel
  . obtain ⟨c,r,ec,_⟩:=pV n e
    rw [hl,ec]
    show 1<=r.length+1
    lia
 .
  rcases ab5 n with e|e
  . subst e
    exact absurd q.2 (by decide +kernel)
  . obtain ⟨c,r,ec,hc⟩:=pV n e
    have:=q.1
    rw [fG,ec] at this
    exact hc (by simpa using this)
theorem mU {z:Str} (g:NumText.AllDigits z.cps.toList) {c:Nat} (hc:c<48):c∉z.cps.toList:=λ h=>by
 have:=g c h
 lia
def mi:Str:=⟨#[45]⟩
theorem t8 (z:Str) (c:Nat):Txt.startswith z ⟨#[c]⟩=decide (z.cps.toList.head?=some c):=by
 have h:=StrLaws.subAt_one z c 0
 rw [← List.head?_eq_getElem?] at h
 rw [abB,abg,← h]
 unfold Txt.startswith
 rw [abr,abg]
theorem Db {z:Str} (h:1<=z.length):(Txt.slice z (some 1) none).cps.toList=z.cps.toList.drop 1:=by
 have e:=eq_of_beq (PyProof.Rows.slice_closes_fromL (x:=z) (i:=1) (b:=z.length) (by decide) (by lia) rfl)
 rw [e]
 show List.take _ (List.drop 1 _)=_
 exact aaN (by rw [abb,len];lia)
def ii (z:Str):Bool:=decide (z.cps.toList.head?=some 45)
def bodyOf (z:Str):Str:=if ii z=true then Txt.slice z (some 1) none else z
def um (z:Str):Int:=if ii z=true then -1 else 1
def Rd (z:Str) (f:Int×Int):Prop :=
 Good (Txt.partition (bodyOf z) sl).1/\(ii z=true->valOf (Txt.partition (bodyOf z) sl).1≠0)/\f.1=um z * valOf (Txt.partition (bodyOf z) sl).1 /\
 (((Txt.partition (bodyOf z) sl).2.1=sl/\Good (Txt.partition (bodyOf z) sl).2.2/\2<=valOf (Txt.partition (bodyOf z) sl).2.2 /\
     Int.gcd (valOf (Txt.partition (bodyOf z) sl).1) (valOf (Txt.partition (bodyOf z) sl).2.2)=1/\f.2=valOf (Txt.partition (bodyOf z) sl).2.2) ∨
   ((Txt.partition (bodyOf z) sl).2.1≠sl/\f.2=1))
def jE (t:Int):Str:=if t<0 then mi++strN t.natAbs else strN t.natAbs
def fO (t b:Int):Str:=if b=1 then jE t else jE t++sl++strN b.natAbs
theorem str_int (t:Int):Str.ofString (toString t)=jE t:=by
 cases t with
 | ofNat n =>
   unfold jE
   rw [aak (by show ¬ ((n:Int)<0);lia)]
   rfl
 | negSucc m =>
   unfold jE
   rw [aam (Int.negSucc_lt_zero m)]
   refine ext ?_
   rw [sW,app,fG]
   have e:toString (Int.negSucc m) = "-" ++ toString (m+1):=rfl
   rw [e,String.toList_append,uk]
   show [45]++(Nat.repr (m+1)).toList.map Char.toNat=[45]++_
   rw [Nat.toList_repr]
   rfl
theorem qQ:∀ (cs:List Nat) (a k:Nat),NumText.AllDigits cs->a<10 ^ k->cs.foldl (λ acc c=>acc * 10+(c - 48)) a<10 ^ (k+cs.length)
 | [],a,k,_,h=>h
 | c::cs,a,k,hd,h=>by
   have hc:=hd.head
   have:=qQ cs (a * 10+(c - 48)) (k+1) hd.tail (by rw [acX];lia)
   rw [aav,show k+(cs.length+1)=k+1+cs.length by lia]
   exact this
theorem yA {z:Str} (g:Good z):0<=valOf z/\valOf z<10 ^ 30:=by
 have h:=qQ z.cps.toList 0 0 g.2.2.1 (by decide)
 have h2:(10:Nat) ^ (0+z.cps.toList.length)<=10 ^ 30:=abW (by decide) (by rw [len];have:=g.2.1;lia)
 have h3:NumText.digitsVal z.cps.toList<10 ^ 30:=aai h h2
 unfold valOf
 lia
theorem rK {t:Int} (h:t.natAbs<10 ^ 30):(jE t).length<=31:=by
 have:=(c7 h).1.2.1
 unfold jE
 split
 . rw [← len,app,rT,len,len]
   show 1+_<=31
   lia
 . lia
theorem Bk {t b:Int} (h:t.natAbs<10 ^ 30) (hb:b.natAbs<10 ^ 30):(fO t b).length<=62:=by
 have h1:=rK h
 have h2:=(c7 hb).1.2.1
 unfold fO
 split
 . lia
 .
  rw [← len,app,app,rT,rT,len,len]
  show _+1+(strN b.natAbs).cps.toList.length<=62
  rw [len]
  lia
theorem wW:Str.empty≠sl:=by decide
theorem Ed {t b:Int} (ht:t.natAbs<10 ^ 30) (hb:1<=b) (RH:b<10 ^ 30) (g:Int.gcd t b=1):Rd (fO t b) (t,b):=by
 obtain ⟨gd,vd⟩:=c7 ht
 obtain ⟨gb,vb⟩:=c7 (n:=b.natAbs) (by lia)
 have hD:∃ c r,(strN t.natAbs).cps.toList=c::r/\48<=c:=by
   cases hz:(strN t.natAbs).cps.toList with
   | nil=>have:=gd.1;rw [← len,hz] at this;simp at this
   | cons c r=>exact ⟨c,r,rfl,(gd.2.2.1 c (by rw [hz];exact aae)).1⟩
 obtain ⟨c,r,eD,hc⟩:=hD
 let rest:List Nat:=if b=1 then [] else 47::(strN b.natAbs).cps.toList
 have ew:(fO t b).cps.toList=(if t<0 then [45] else [])++((strN t.natAbs).cps.toList++rest):=by
   unfold fO jE
   by_cases h1:b=1<;>by_cases h2:t<0<;>simp only [h1,h2,aca,abV,rest,app,abm,aar,aat]
   all_goals rfl
 have C6:ii (fO t b)=decide (t<0):=by
   unfold ii
   rw [ew]
   by_cases h2:t<0
   . simp [h2]
   . simp only [h2,abV,abm,eD,acn,List.head?_cons,ack,iff_false]
     intro e
     have:=aan e
     lia
 have dX:(bodyOf (fO t b)).cps.toList=(strN t.natAbs).cps.toList++rest:=by
   unfold bodyOf
   rw [C6]
   by_cases h2:t<0
   . rw [aam (aaz h2),Db (by rw [← len,ew,aam h2];show 1<=_+1;lia),ew,aam h2]
     rfl
   . rw [aak (by rw [aaq h2];exact OR),ew,aak h2]
     rfl
 have hv:um (fO t b) * (t.natAbs:Int)=t:=by
   unfold um
   rw [C6]
   by_cases h2:t<0
   . rw [aam (aaz h2)];lia
   . rw [aak (by rw [aaq h2];exact OR)];lia
 have hz:ii (fO t b)=true->(t.natAbs:Int)≠0:=λ e=>by
   rw [C6] at e
   have:=ab9 e
   lia
 unfold Rd
 by_cases h1:b=1
 .
  have ep:Txt.partition (bodyOf (fO t b)) sl=(bodyOf (fO t b),Str.empty,Str.empty):=uX (by rw [dX];simp only [rest,h1,aca,aar];exact mU gd.2.2.1 (by decide))
  have eb:bodyOf (fO t b)=strN t.natAbs:=ext (by rw [dX];simp only [rest,h1,aca,aar])
  rw [ep,eb]
  exact ⟨gd,by rw [vd];exact hz,by rw [vd,hv],.inr ⟨wW,h1⟩⟩
 .
  have ep:Txt.partition (bodyOf (fO t b)) sl=(strN t.natAbs,sl,strN b.natAbs):=uO (mU gd.2.2.1 (by decide)) (by rw [dX];simp only [rest,h1,abV])
  rw [ep]
  refine ⟨gd,by rw [vd];exact hz,by rw [vd,hv],.inl ⟨rfl,gb,?_,?_,?_⟩⟩
  . rw [vb];lia
  . rw [vd,vb]
    have:Int.gcd (t.natAbs:Int) (b.natAbs:Int)=Int.gcd t b:=rfl
    rw [this];exact g
  . rw [vb];show b=_;lia
end Tx
namespace L2
open PySem PySem.Spec PyProof.Rows Mth
def Gy (z:Str):It:=⟨λ i _=>i<z.cps.size,λ i H x H'=>H'=H/\∃ c,z.cps[i]?=some c/\x = .str ⟨#[c]⟩,λ i _=>z.cps.size<=i⟩
theorem uU {P:Program} {w:World} {A:Around} (hh:A.handled=none) {ty:String} (x5:ty = "str_ascii_iterator"∨ty = "str_iterator") (I:Addr) (x:Str) (t:Tok) :
   Walks P w A I [I] [I] x.cps.size (SignAt x) (λ i h=>h.IsStrIter I ty x t i):=by
 rcases x5 with rfl|rfl
 . exact Walks.strAscii hh I x t
 . exact Walks.strWide hh I x t
theorem pP {P:Program} {w:World} {K:W.Frag} {tg:Expr} {ty:String} (x5:ty = "str_ascii_iterator"∨ty = "str_iterator") (it:Addr) (z:Str) (t:Tok) :
   Turn P w K tg (Gy z) [it] it (λ i h=>h.IsStrIter it ty z t i) where
 mem:=by simp
 obj:=λ i h st b hb=>by
   have e:b=it:=by simpa using hb
   subst e
   obtain ⟨o,e,c,d⟩:=st
   exact ⟨o,e,λ v q=>by rw [d] at q;cases q⟩
 keep:=λ i h h' st k=>by
   obtain ⟨o,e,r⟩:=st
   exact ⟨o,k it (by simp) o e,r⟩
 item:=by
   intro X hP hw hK hc i pins s U H E I hf st hg
   subst hP hw hK
   obtain ⟨f0,f1,f2,f3,f4,f5⟩:=hf it (by simp)
   refine (uU (I.ok.hd hc) x5 it z t).item i s _ _ hg st λ v h' tk hv yc kk=>?_
   obtain ⟨c,u,ec,rfl⟩:=hv
   have I1:Inv X pins U H { s with heap:=h',toks:=tk }:=I.turned (λ b o hb e=>kk b o (by simpa using hb) e) f0 f1 f3 f4 f5
   obtain ⟨o,e,cl,d⟩:=id yc
   exact ⟨_,rfl,xo (s:={ s with heap:=h',toks:=tk }) e cl d (by rcases x5 with rfl|rfl<;>decide) ⟨.str ⟨#[c]⟩,H,I1,⟨u,rfl⟩,⟨rfl,c,ec,rfl⟩,yc,λ b hb=>(hf b hb).1⟩⟩
 done:=by
   intro X hP hw hK hc i pins s U H E I hf st hg
   subst hP hw hK
   obtain ⟨f0,f1,f2,f3,f4,f5⟩:=hf it (by simp)
   have hn:z.cps[i]?=none:=Array.getElem?_eq_none hg
   rcases x5 with rfl|rfl
   . exact wpAny_pyNext_ascii_end (I.ok.hd hc) st hn λ h' eb=>⟨rfl,I.turned (t':=s.toks) (λ b o hb e=>eb b o hb e) f0 f1 f3 f4 f5⟩
   . exact wpAny_pyNext_wide_end (I.ok.hd hc) st hn λ h' eb=>⟨rfl,I.turned (t':=s.toks) (λ b o hb e=>eb b o hb e) f0 f1 f3 f4 f5⟩
 self:=λ _ _ _ _ _ st h=>by
   rcases x5 with rfl|rfl
   . exact wpAny_pyIter_striter_ascii st h
   . exact wpAny_pyIter_striter_wide st h
section
variable {X:Cx} {tg:Expr}
def NT (tl:TE):TI:=λ U H R=>tl U H λ x H1=>∃ z,x = .str z/\R (Gy z) H1
theorem vM {l:Expr} {tl:TE} (hl:PE X l tl):PI X tg l (NT tl):=by
 intro pins s U H R I h
 refine ca (hl pins s U H _ I h) λ v s1 ⟨x,H1,I1,r1,q1⟩=>?_
 obtain ⟨z,e,q⟩:=q1
 subst e
 obtain ⟨t,rfl⟩:=r1
 cases ha:z.cps.all (· < 128)
 .
  refine wpAny_pyIter_wide ha ?_
  refine ⟨s1.heap.objs.size,[s1.heap.objs.size],_,_,H1,rfl,I1.kept (t':=s1.toks) λ b o e=>Ux _ e,pP (.inr rfl) _ z t,⟨_,aap _ rfl,rfl,rfl⟩,λ b hb=>?_,q⟩
  have e:b=s1.heap.objs.size:=by simpa using hb
  subst e
  exact I1.rW (Nt _) (I1.cg.fresh (Nt _))
 .
  refine wpAny_pyIter_ascii ha ?_
  refine ⟨s1.heap.objs.size,[s1.heap.objs.size],_,_,H1,rfl,I1.kept (t':=s1.toks) λ b o e=>Ux _ e,pP (.inl rfl) _ z t,⟨_,aap _ rfl,rfl,rfl⟩,λ b hb=>?_,q⟩
  have e:b=s1.heap.objs.size:=by simpa using hb
  subst e
  exact I1.rW (Nt _) (I1.cg.fresh (Nt _))
end
theorem qE {z:Str} {g:TG} {tt:TT} {te:TE} {D:Addr} {Q:Hp->Prop} {U:St} {H:Hp} (Pv:Nat->List V->St->Hp->Prop) (h0:Pv 0 [] U H)
   (hs:∀ i c acc U H,z.cps[i]?=some c->Pv i acc U H->g (.str ⟨#[c]⟩) U H λ σ2 H3=>tt σ2 H3 λ b H4 =>
     if b=true then te σ2 H4 λ y H5=>H5 D=some (.lst acc)/\acc.length<sizeLine/\Pv (i+1) (acc++[y]) σ2 (upd H5 D (.lst (acc++[y]))) else Pv (i+1) acc σ2 H4) (hd:∀ acc U H,Pv z.cps.size acc U H->Q H) :
   ∃ W:Nat->Nat->List V->St->Hp->Prop,(∃ m,W 0 m [] U H)/\∀ i m acc σ' H',W i m acc σ' H'->((Gy z).stop i H'/\Q H') ∨
     ((Gy z).go i H'/\∃ N:List V->St->Hp->Prop,(∀ e6 σ2 H4,N e6 σ2 H4->∃ m',m'<m/\W (i+1) m' e6 σ2 H4)/\∀ x H2,(Gy z).wm i H' x H2->g x σ' H2 λ σ2 H3=>tt σ2 H3 λ b H4 =>
       if b=true then te σ2 H4 λ y H5=>H5 D=some (.lst acc)/\acc.length<sizeLine/\N (acc++[y]) σ2 (upd H5 D (.lst (acc++[y]))) else N acc σ2 H4):=by
 refine ⟨λ i m acc U H=>m=z.cps.size - i/\i<=z.cps.size/\Pv i acc U H,⟨z.cps.size,by simp,aaH _,h0⟩,?_⟩
 rintro i m acc U H ⟨rfl,hi,p⟩
 by_cases iT:i<z.cps.size
 .
  refine .inr ⟨iT,Pv (i+1),λ e6 σ' H' p'=>⟨z.cps.size - (i+1),by lia,rfl,iT,p'⟩,λ x H' y=>?_⟩
  obtain ⟨e,c,ec,ex⟩:=y
  subst e ex
  exact hs i c acc U _ ec p
 . have e:i=z.cps.size:=by lia
   subst e
   exact .inl ⟨Nt _,hd acc U H p⟩
section
variable {X:Cx}
inductive Ey  (x:V) (lo:Option Int) (hi:Option Int) (H:Hp) (Q:VK):Prop
 | mk (z:_) (_:x = .str z) (_:z.length<=sizeLine) (_:∀ y,y=PySem.Txt.slice z lo hi->y.length<=z.length->Q (.str y) H)
theorem vL:MO X Ey:=by
 intro pins s U H x v vl vu lo hi sl Q I rx hs pl pu h
 obtain ⟨z,rfl,hz,q⟩:=h
 obtain ⟨t,rfl⟩:=rx
 refine ⟨"str",_,F.slot_str_getitem.lookup,abR _ _ _,?_⟩
 have q':=q _ rfl (abx z lo hi)
 cases pl<;>cases pu
 . exact abC (l:=none) (u:=none) (st:=none) hs rfl (ab4 ⟨aaO (abx z _ _) hz,λ t' k=>⟨.str _,H,I.tok _,⟨_,rfl⟩,q'⟩⟩)
 . rename_i j uj
   exact abC (l:=none) (u:=some (j,uj)) (st:=none) hs rfl (ab4 ⟨aaO (abx z _ _) hz,λ t' k=>⟨.str _,H,I.tok _,⟨_,rfl⟩,q'⟩⟩)
 . rename_i i ui
   exact abC (l:=some (i,ui)) (u:=none) (st:=none) hs rfl (ab4 ⟨aaO (abx z _ _) hz,λ t' k=>⟨.str _,H,I.tok _,⟨_,rfl⟩,q'⟩⟩)
 . rename_i i ui j uj
   exact abC (l:=some (i,ui)) (u:=some (j,uj)) (st:=none) hs rfl (ab4 ⟨aaO (abx z _ _) hz,λ t' k=>⟨.str _,H,I.tok _,⟨_,rfl⟩,q'⟩⟩)
inductive Aa  (x:V) (vs:List V) (H:Hp) (Q:VK):Prop
 | mk (a b:_) (_:x = .str a) (_:vs=[.str b]) (_:Q (.bl (PySem.Txt.startswith a b)) H)
theorem mP:A1 X "str.startswith" Aa:=by
 intro pins s U H x vs v us Q I rx rv h
 obtain ⟨a,b,rfl,rfl,q⟩:=h
 obtain ⟨t,rfl⟩:=rx
 obtain ⟨u,rfl,ru⟩:=rv.one
 obtain ⟨t',rfl⟩:=ru
 exact SC.startswith ⟨.bl _,H,I,rfl,q⟩
theorem tz:∀ {ys:List Str} {us:List Value},Vals (ys.map V.str) us->∃ l:List (Str×Tok),us=strValues l/\l.map (·.1)=ys
 | [],us,r=>by
   rw [abE] at r
   cases r
   exact ⟨[],rfl,rfl⟩
 | y::ys,us,r=>by
   rw [aaR] at r
   cases r with
   | cons r1 r2 =>
     obtain ⟨t,rfl⟩:=r1
     obtain ⟨l,rfl,e⟩:=tz r2
     exact ⟨(y,t)::l,rfl,by rw [aaR,e]⟩
inductive rJoin (K:W.Frag) (x:V) (vs:List V) (H:Hp) (Q:VK):Prop
 | mk (a p ys:_) (_:x = .str a) (_:vs=[.ref p]) (_:aN K H p (ys.map V.str)) (_:JoinOk a ys=true) (_:Q (.str (PySem.Txt.join a ys)) H)
theorem jn:A1 X "str.join" (rJoin X.K):=by
 intro pins s U H x vs v us Q I rx rv h
 obtain ⟨a,p,ys,rfl,rfl,hp,hj,q⟩:=h
 obtain ⟨t,rfl⟩:=rx
 obtain ⟨u,rfl,ru⟩:=rv.one
 cases ru
 obtain ⟨aZ,r,pl,_⟩:=I.list hp
 obtain ⟨l,rfl,e⟩:=tz r
 exact SC.join pl.isList e hj λ t' k=>⟨.str _,H,I.tok _,⟨_,rfl⟩,q⟩
theorem mz:fC X (.type "int") (λ xs H Q=>∃ z n,xs=[.str z]/\PySem.intText? z=some n/\z.length<=640/\Q (.int n) H):=by
 intro pins s U H xs us Q I r h
 obtain ⟨z,n,rfl,e,hl,q⟩:=h
 obtain ⟨u,rfl,ru⟩:=r.one
 obtain ⟨t,rfl⟩:=ru
 exact W.KIN.call_text e hl ⟨.int n,H,I.tok _,⟨_,rfl⟩,q⟩
theorem qy {x z:Str} {pos:Pos} (hg:Gl X x) (hm:∃ t,X.mg x=some (.str z t)) (hd:(x == ("__debug__" : Str))=false:=by decide):PE X (.Name x pos) (tC (.str z)):=by
 obtain ⟨t,hm⟩:=hm
 exact cY hg hm ⟨t,rfl⟩ hd
end
def zJ:Str:=Str.ofString "0123456789"
theorem ve:zJ.cps.toList=[48,49,50,51,52,53,54,55,56,57]:=by decide +kernel
theorem zR (c:Nat):(!(Builtin.Str.occurrences zJ ⟨#[c]⟩ 0 zJ.length 1).isEmpty)=decide (48<=c/\c<=57):=by
 rw [acJ,ve,ack]
 simp only [aaa,GV,aaI]
 (omega)
theorem str_inj {a b:Str}:V.str a=V.str b↔a=b:=⟨λ e=>by cases e;rfl,λ e=>by rw [e]⟩
theorem cdiv {j:Int} (h:0<j) (h1:j<2 ^ 100) {i:Int}:vR i j:=⟨by lia,jV 8999 (by lia) h1⟩
theorem gp:bootBuiltins "str" = some (.type "str"):=by decide +kernel
section
variable {X:Cx} {a b c:Expr} {ta tb tc:TE} {pos:Pos}
def JV (ta:TE):TE:=λ U H Q=>ta U H λ x H1=>∃ i:Int,x = .int i/\i.natAbs.log2<1920/\Q (.str (Str.ofString (toString i))) H1
theorem sM (ha:PE X a ta):PE X (.FormattedValue a (-1) none pos) (JV ta):=by
 intro pins s U H Q I h
 refine wpAny_FormattedValue_plain (ca (ha pins s U H _ I h) λ v s1 ⟨x,H1,I1,r1,q1⟩=>?_)
 obtain ⟨i,rfl,hz,q⟩:=q1
 obtain ⟨t,rfl⟩:=r1
 exact wpAny_formatField_int hz ⟨.str _,H1,I1.tok _,⟨_,rfl⟩,q⟩
theorem vK (ha:PE X a ta):PE X (.JoinedStr [a] pos) ta:=λ pins s U H Q I h=>wpAny_JoinedStr_one (ha pins s U H Q I h)
def Bp (ta tb tc:TE):TE:=λ U H Q=>ta U H λ x H1=>∃ s1:Str,x = .str s1/\s1.length<=sizeLine/\tb U H1 λ y H2=>∃ s2:Str,y = .str s2/\(s1++s2).length<=sizeLine/\tc U H2 λ z H3=>∃ s3:Str,z = .str s3/\(s1++s2++s3).length<=sizeLine/\Q (.str (s1++s2++s3)) H3
theorem xS (ha:PE X a ta) (hb:PE X b tb) (hc:PE X c tc):PE X (.JoinedStr [a,b,c] pos) (Bp ta tb tc):=by
 intro pins s U H Q I h
 refine wpAny_JoinedStr ?_
 refine ca (ha pins s U H _ I h) λ v s1 ⟨x,H1,I1,r1,q1⟩=>?_
 obtain ⟨y1,rfl,l1,q1⟩:=q1
 obtain ⟨t1,rfl⟩:=r1
 refine ⟨y1,t1,rfl,by rw [W.KT.empty_app];exact l1,?_⟩
 rw [W.KT.empty_app]
 refine ca (hb pins s1 U H1 _ I1 q1) λ v s2 ⟨x,H2,I2,r2,q2⟩=>?_
 obtain ⟨y2,rfl,l2,q2⟩:=q2
 obtain ⟨t2,rfl⟩:=r2
 refine ⟨y2,t2,rfl,l2,?_⟩
 refine ca (hc pins s2 U H2 _ I2 q2) λ v s3 ⟨x,H3,I3,r3,q3⟩=>?_
 obtain ⟨y3,rfl,l3,q3⟩:=q3
 obtain ⟨t3,rfl⟩:=r3
 exact ⟨y3,t3,rfl,l3,l3,⟨.str _,H3,I3.tok _,⟨_,rfl⟩,q3⟩⟩
end
section
variable {X:Cx}
inductive DX  (x:V) (vs:List V) (H:Hp) (Q:VK):Prop
 | mk (a b:_) (_:x = .str a) (_:vs=[.str b]) (_:(b.length == 0)=false) (_:a.length<=sizeLine) (_:∀ p,H p=none->Q (.ref p) (upd H p (.tup [.str (PySem.Txt.partition a b).1,.str (PySem.Txt.partition a b).2.1,.str (PySem.Txt.partition a b).2.2])))
theorem zp:A1 X "str.partition" DX:=by
 intro pins s U H x vs v us Q I rx rv h
 obtain ⟨a,b,rfl,rfl,hb,hz,q⟩:=h
 obtain ⟨t,rfl⟩:=rx
 obtain ⟨u,rfl,ru⟩:=rv.one
 obtain ⟨t',rfl⟩:=ru
 refine abK F.slot_str_partition (abR _ _ _) F.entry_str_partition (F.args_str_partition_2 _ _) (meets_str_partition a b t t' hb hz) ?_
 have q':=q s.heap.objs.size (I.cg.fresh (Nt _))
 unfold PySem.Txt.partition at q'
 revert q'
 cases Builtin.Str.occurrences a b 0 a.length 1 with
 | nil =>
   intro q'
   refine ⟨.ref s.heap.objs.size,_,I.laid (λ b u e=>Ux _ e) (Nt _) ?_,rfl,q'⟩
   exact ⟨by show 3<=sizeLine;decide,_,.cons ⟨_,rfl⟩ (.cons ⟨_,rfl⟩ (.cons ⟨_,rfl⟩ .nil)),⟨_,aap _ rfl,rfl,_,rfl⟩⟩
 | cons i r =>
   intro q'
   refine ⟨.ref s.heap.objs.size,_,I.laid (λ b u e=>Ux _ e) (Nt _) ?_,rfl,q'⟩
   exact ⟨by show 3<=sizeLine;decide,_,.cons ⟨_,rfl⟩ (.cons ⟨_,rfl⟩ (.cons ⟨_,rfl⟩ .nil)),⟨_,aap _ rfl,rfl,_,rfl⟩⟩
theorem nq:∀ (l:List (Str×Tok)),Vals ((l.map (·.1)).map V.str) (strValues l)
 | [] => .nil
 | (_,_)::l => .cons ⟨_,rfl⟩ (nq l)
inductive BQ  (x:V) (vs:List V) (H:Hp) (Q:VK):Prop
 | mk (a b:_) (_:x = .str a) (_:vs=[.str b]) (_:(b.length == 0)=false) (_:a.length<=sizeLine) (_:(PySem.Txt.split a b).length<=sizeLine) (_:∀ p,H p=none->Q (.ref p) (upd H p (.lst ((PySem.Txt.split a b).map V.str))))
theorem vy:A1 X "str.split" BQ:=by
 intro pins s U H x vs v us Q I rx rv h
 obtain ⟨a,b,rfl,rfl,hb,hz,hl,q⟩:=h
 obtain ⟨t,rfl⟩:=rx
 obtain ⟨u,rfl,ru⟩:=rv.one
 obtain ⟨t',rfl⟩:=ru
 have q':=q s.heap.objs.size (I.cg.fresh (Nt _))
 unfold PySem.Txt.split at q' hl
 have lay:∀ (l:List (Str×Tok)) (tk:Nat) (ys:List Str),l.map (·.1)=ys->ys.length<=sizeLine->Q (.ref s.heap.objs.size) (upd H s.heap.objs.size (.lst (ys.map V.str))) ->
     EP X pins U Q (.ref s.heap.objs.size) { s with toks:=tk,heap:=s.heap.push { cls:=.type "list",data:=.seq (strValues l).toArray }}:=λ l tk ys e hy q=>by
   subst e
   refine ⟨.ref s.heap.objs.size,_,I.laid (λ b u e=>Ux _ e) (Nt _) ?_,rfl,q⟩
   exact ⟨by rw [be];exact hy,_,0,nq l,aap _ rfl⟩
 cases h1:(decide (a.length<b.length) || decide (Builtin.Str.strKind a<Builtin.Str.strKind b))
 .
  rw [h1,aak OR] at q' hl
  cases hf:(Builtin.Str.occurrences a b 0 a.length (a.length+1)).isEmpty
  .
   rw [hf,aak OR] at q' hl
   refine abK acS (abR _ _ _) acE (acx _ _) (meets_str_split_sep a b t t' h1 hb hf hz hl) ?_
   show wants (EP X pins U Q) X.xe _ { s with toks:=_,heap:=s.heap.push { cls:=.type "list",data:=.seq (strsFrom s.toks (Builtin.Str.partsBetween a (Builtin.Str.occurrences a b 0 a.length (a.length+1)) b.length)).toArray }}
   rw [strsFrom_eq]
   exact lay (numbered s.toks _) _ _ (numbered_texts _ _) hl q'
  . rw [hf,aam rfl] at q' hl
    exact abK acS (abR _ _ _) acE (acx _ _) (meets_str_split_not_found a b t t' h1 hb hf) (lay [(a,t)] s.toks _ rfl hl q')
 . rw [h1,aam rfl] at q' hl
   exact abK acS (abR _ _ _) acE (acx _ _) (meets_str_split_cannot_occur a b t t' h1) (lay [(a,t)] s.toks _ rfl hl q')
end
section
variable {X:Cx}
inductive FD  (x:V) (y:V) (H:Hp) (Q:VK):Prop
 | mk (c:Nat) (n:Int) (_:x = .str ⟨#[c]⟩) (_:y = .int n) (_:n<=1000) (_ : -1000<=n) (_:∀ z:Str,z.cps.toList=List.replicate n.toNat c->Q (.str z) H)
theorem nn (c:Nat):∀ (k:Nat) (a:Array Nat),((List.replicate k #[c]).foldl (· ++ ·) a).toList=a.toList++List.replicate k c
 | 0,a=>by simp
 | k+1,a=>by
   rw [List.replicate_succ,List.foldl_cons,nn c k,Array.toList_append,aat]
   rfl
theorem wd (c:Nat) (n:Int):(PySem.Txt.mul ⟨#[c]⟩ n).cps.toList=List.replicate n.toNat c:=by
 unfold PySem.Txt.mul
 by_cases h:n<1
 . rw [aam h,show n.toNat=0 by lia]
   rfl
 .
  rw [aak h]
  by_cases h1:(n == 1 || (⟨#[c]⟩:Str).length == 0)=true
  .
   rw [aam h1]
   have:n=1:=by
     rw [Bool.or_eq_true,beq_iff_eq,beq_iff_eq] at h1
     rcases h1 with q|q
     . exact q
     . exact absurd q (by show ¬ (1=0);decide)
   subst this
   rfl
  . rw [aak h1]
    show ((List.replicate n.toNat #[c]).foldl (· ++ ·) #[]).toList=_
    rw [nn]
    rfl
theorem ja:g8 X (binaryOp .Mult) FD:=by
 intro pins s U H x y v u Q I rx ry h
 obtain ⟨c,n,rfl,rfl,h1,h2,q⟩:=h
 obtain ⟨t,rfl⟩:=rx
 obtain ⟨t',rfl⟩:=ry
 have hl:(⟨#[c]⟩:Str).length=1:=rfl
 refine SB.mul ⟨by simp only [Bool.or_eq_false_iff,acI];lia,λ h3 _=>?_,λ h3 _=>?_⟩ λ t'' k=>⟨.str _,H,I.tok _,⟨_,rfl⟩,q _ (wd c n)⟩
 .
  rw [hl]
  have:(1000:Int)<=(2 ^ 63 - 1) / n:=(acU (by lia)).mpr (by lia)
  show ¬ ((1:Int) > (2 ^ 63 - 1) / n)
  lia
 .
  rw [hl]
  show Builtin.Str.tooLong (1 * n.toNat)=false
  unfold Builtin.Str.tooLong
  have:(1000:Nat)<sizeLine:=aq (Nt _)
  simp only [acI]
  lia
theorem kX:∀ {ys:List Str} {us:List Value},Vals (ys.map V.str) us->∀ (j:Nat) (h1:j<us.length) (h2:j<ys.length),∃ t,us[j]=Value.str ys[j] t
 | [],us,r,j,h1,h2=>by simp at h2
 | y::ys,us,r,j,h1,h2=>by
   rw [aaR] at r
   cases r with
   | cons r1 r2 =>
     cases j with
     | zero=>exact r1
     | succ j=>exact kX r2 j (by simpa using h1) (by simpa using h2)
theorem m3 {k:Str}:∀ {ns:List Str} {j:Nat},j<ns.idxOf k->∀ (h2:j<ns.length),(ns[j] == k)=false
 | [],_,h,_=>by simp at h
 | a::ns,j,h,h2=>by
   rw [List.idxOf_cons] at h
   cases hb:(a == k)
   . rw [hb,cond_false] at h
     cases j with
     | zero=>exact hb
     | succ j=>exact m3 (ns:=ns) (by lia) (by simpa using h2)
   . rw [hb,cond_true] at h
     lia
def isStr (k:Str):Value->Bool
 | .str x _=>x == k
 | _=>false
inductive yw (K:W.Frag) (x:V) (vs:List V) (H:Hp) (Q:VK):Prop
 | mk (p:Addr) (ys:List Str) (w:Str) (_:x = .ref p) (_:vs=[.str w]) (_:aN K H p (ys.map V.str)) (_:w∈ys) (_:ys.length<=1000) (_:Q (.int (ys.idxOf w:Nat)) H)
theorem uL:A1 X "list.index" (yw X.K):=by
 intro pins s U H x vs v us Q I rx rv h
 obtain ⟨p,ys,w,rfl,rfl,hp,hw,hl,q⟩:=h
 cases rx
 obtain ⟨u,rfl,ru⟩:=rv.one
 obtain ⟨t,rfl⟩:=ru
 obtain ⟨aZ,r,pl,_⟩:=I.list hp
 obtain ⟨⟨cls,dd,data,sl⟩,ho,hc,n,hd⟩:=pl.isList
 simp only at hc hd
 subst hc hd
 have hlen:aZ.length=ys.length:=by rw [← r.length,be]
 have hj:ys.idxOf w<ys.length:=List.idxOf_lt_length_iff.mpr hw
 refine abK acL ⟨_,ho,rfl⟩ PySem.F.entry_list_index (PySem.F.args_list_index_2 _ _)
   (SeqAt.list_indexAt p aZ.toArray n dd sl (.str w t) (isStr w) (ys.idxOf w) (by rw [aab];lia) (by lia) ?_ ?_) ⟨ho,λ y hy=>?_,⟨.int _,H,I.tok _,⟨_,rfl⟩,q⟩⟩
 .
  obtain ⟨t',e⟩:=kX r (ys.idxOf w) (by lia) hj
  show isStr w aZ[ys.idxOf w]=true
  rw [e]
  show (ys[ys.idxOf w] == w)=true
  rw [List.getElem_idxOf hj]
  exact beq_self_eq_true w
 .
  intro m hm iT
  have Yv:m<aZ.length:=by simpa using hm
  obtain ⟨t',e⟩:=kX r m Yv (by lia)
  show isStr w aZ[m]=false
  rw [e]
  exact m3 iT (by lia)
 .
  have Yh:y∈aZ:=by simpa using hy
  obtain ⟨j,QX,rfl⟩:=ac2 Yh
  obtain ⟨t',e⟩:=kX r j QX (by lia)
  rw [e]
  exact SeqAt.EqAt.str_str _ t' _ t
end
end L2
namespace Rp
open PySem Builtin Builtin.Str
end Rp
namespace L2
open PySem PySem.Spec PyProof.Rows Mth
end L2
namespace Nm
open PySem PySem.Builtin PySem.Builtin.Str
def pl:Str:=⟨#[43]⟩
def XB (l:List Nat) (b:Nat):Nat:=l.foldl (λ a r=>a ||| 2 ^ r) b
def up:Int->List Nat->Bool
 | _,[]=>true
 | last,i::r=>decide (last<(i:Int)) && up i r
def lts (l:List Nat):List Bool:=List.zipWith (λ a b=>decide (a<b)) l l.tail
def go (L:List Str):List Str->Int->Nat->Option Nat
 | [],_,b=>some b
 | w::ws,last,b=>if w∈L/\last<(L.idxOf w:Int) then go L ws (L.idxOf w) (b+2 ^ (L.idxOf w)) else none
def Wl (L:List Str) (z:Str):Option Nat:=if z=Tx.mi then some 0 else go L (Txt.split z pl) (-1) 0
theorem CA {L:List Str} (nd:L.Nodup) {i:Nat} {w:Str} (h:L[i]?=some w):w∈L/\L.idxOf w=i:=by
 obtain ⟨hi,e⟩:=List.getElem?_eq_some_iff.mp h
 subst e
 exact ⟨aaP hi,nd.idxOf_getElem i hi⟩
structure Ok (L:List Str):Prop where
 nd:L.Nodup
 one:1<=L.length
 UI:L.length<=8
 len:∀ w∈L,w.length<=8
 low:∀ w∈L,∀ c∈w.cps.toList,97<=c/\c<=122
def wordsOf (L:List Str) (n:Nat):List Str:=((List.range L.length).filter n.testBit).map (L.getD · Str.empty)
def textOf (L:List Str) (n:Nat):Str:=if n=0 then Tx.mi else Str.join pl (wordsOf L n)
end Nm
namespace Nm
open PySem PySem.Builtin PySem.Builtin.Str
def low (c:Nat):Prop:=97<=c/\c<=122
theorem Bb {L:List Str} (ls:List (List Nat)) (e:L.map (λ w=>w.cps.toList)=ls) (nd:ls.Nodup) (h1:1<=ls.length) (h8:ls.length<=8) (hl:∀ l∈ls,l.length<=8) (hc:∀ l∈ls,∀ c∈l,low c):Ok L:=by
 subst e
 rw [be] at h1 h8
 refine ⟨(List.pairwise_map.mp nd).imp λ q e=>q (by rw [e]),h1,h8,λ w hw=>?_,λ w hw c hcw=>hc _ (abM hw) c hcw⟩
 have:=hl _ (abM hw)
 rw [Tx.len] at this
 exact this
theorem xQ {α:Type} {n:Nat} {f:Nat->α} (h:∀ i j,i<n->j<n->f i=f j->i=j):((List.range n).map f).Nodup:=by
 refine List.pairwise_map.mpr (List.Pairwise.imp_of_mem (λ {i j} hi hj ne e=>?_) (List.nodup_range (n:=n)))
 exact ne (h i j (List.mem_range.mp hi) (List.mem_range.mp hj) e)
theorem C9 {L:List Str} {W:List Nat} {m:Nat} (e:L.map (λ w=>w.cps.toList)=(List.range m).map (λ k=>W.take (k+1))) (h1:1<=m) (h8:m<=8) (hW:W.length=8) (hc:∀ c∈W,low c):Ok L:=by
 refine Bb _ e (xQ λ i j hi hj q=>?_) (by simp;lia) (by simp;lia) (λ l hl=>?_) (λ l hl c Dm=>?_)
 . have:=aaV List.length q
   rw [aal,aal] at this
   lia
 . obtain ⟨k,_,rfl⟩:=List.mem_map.mp hl
   rw [aal];lia
 . obtain ⟨k,_,rfl⟩:=List.mem_map.mp hl
   exact hc c (abX Dm)
theorem Cf {L:List Str} {m a b s:Nat} {o:Nat->Nat} (e:L.map (λ w=>w.cps.toList)=(List.range m).map (λ k=>List.replicate a s++o k::List.replicate b s)) (h1:1<=m) (h8:m<=8) (hab:a+b<=7)
   (hs:low s) (ho:∀ k,low (o k)) (hi:∀ i j,i<m->j<m->o i=o j->i=j):Ok L:=by
 refine Bb _ e (xQ λ i j zg QX q=>hi i j zg QX ?_) (by simp;lia) (by simp;lia) (λ l hl=>?_) (λ l hl c Dm=>?_)
 . exact (abL (List.append_cancel_left q)).1
 . obtain ⟨k,_,rfl⟩:=List.mem_map.mp hl
   simp;lia
 .
  obtain ⟨k,_,rfl⟩:=List.mem_map.mp hl
  rcases List.mem_append.mp Dm with q|q
  . rw [(List.mem_replicate.mp q).2];exact hs
  . rcases List.mem_cons.mp q with q|q
    . rw [q];exact ho k
    . rw [(List.mem_replicate.mp q).2];exact hs
def F5:List Nat:=[97,98,99,100,101,102,103,104,105,106,107,108,109,110,111,112,113,114,115,116,117,118,119,120,121,122]
theorem sR:(Str.ofString "abcdefghijklmnopqrstuvwxyz").cps.toList=F5:=by decide +kernel
theorem BN:∀ i,i<26->F5[i]?=some (97+i):=by decide
end Nm
namespace L2
open PySem PySem.Spec PyProof.Rows Mth
variable {D:L2.Ends} {H:Hp} {Hy a2 a3 a4 a5 a6 a7 a8 a9:TS}
theorem ir {a1:TS} {U:L2.St} (h:let d:L2.Ends:=D;let z:L2.St:=U;let r2:TS:=a3;let r1:TS:=aB a2 r2;aB a1 r1 d z H):(aB a1 (aB a2 (a3))) D U H:=h
theorem eT {a1:TS} {U:L2.St} (h:let d:L2.Ends:=D;let z:L2.St:=U;let r3:TS:=a4;let r2:TS:=aB a3 r3;let r1:TS:=aB a2 r2;aB a1 r1 d z H):(aB a1 (aB a2 (aB a3 (a4)))) D U H:=h
theorem pN {a1:TS} {U:L2.St} (h:let d:L2.Ends:=D;let z:L2.St:=U;let r4:TS:=a5;let r3:TS:=aB a4 r4;let r2:TS:=aB a3 r3;let r1:TS:=aB a2 r2;aB a1 r1 d z H):(aB a1 (aB a2 (aB a3 (aB a4 (a5))))) D U H:=h
theorem qT {a1:TS} {U:L2.St} (h:let d:L2.Ends:=D;let z:L2.St:=U;let r5:TS:=a6;let r4:TS:=aB a5 r5;let r3:TS:=aB a4 r4;let r2:TS:=aB a3 r3;let r1:TS:=aB a2 r2;aB a1 r1 d z H):(aB a1 (aB a2 (aB a3 (aB a4 (aB a5 (a6)))))) D U H:=h
theorem lM {a1:TS} {U:L2.St} (h:let d:L2.Ends:=D;let z:L2.St:=U;let r6:TS:=a7;let r5:TS:=aB a6 r6;let r4:TS:=aB a5 r5;let r3:TS:=aB a4 r4;let r2:TS:=aB a3 r3;let r1:TS:=aB a2 r2;aB a1 r1 d z H):(aB a1 (aB a2 (aB a3 (aB a4 (aB a5 (aB a6 (a7))))))) D U H:=h
theorem xX {a1:TS} {U:L2.St} (h:let d:L2.Ends:=D;let z:L2.St:=U;let r8:TS:=a9;let r7:TS:=aB a8 r8;let r6:TS:=aB a7 r7;let r5:TS:=aB a6 r6;let r4:TS:=aB a5 r5;let r3:TS:=aB a4 r4;let r2:TS:=aB a3 r3;let r1:TS:=aB a2 r2;aB a1 r1 d z H):(aB a1 (aB a2 (aB a3 (aB a4 (aB a5 (aB a6 (aB a7 (aB a8 (a9))))))))) D U H:=h
theorem uf {a1:TS} {U:L2.St} (h:let d:L2.Ends:=D;let z:L2.St:=U;let r9:TS:=Hy;let r8:TS:=aB a9 r9;let r7:TS:=aB a8 r8;let r6:TS:=aB a7 r7;let r5:TS:=aB a6 r6;let r4:TS:=aB a5 r5;let r3:TS:=aB a4 r4;let r2:TS:=aB a3 r3;let r1:TS:=aB a2 r2;aB a1 r1 d z H):(aB a1 (aB a2 (aB a3 (aB a4 (aB a5 (aB a6 (aB a7 (aB a8 (aB a9 (Hy)))))))))) D U H:=h
theorem uo {a1 VM VH VR UP U3 VL U0 Uu Uw UW VU UH UE Wa UB Vy:TS} {U:L2.St} (h:let d:L2.Ends:=D;let z:L2.St:=U;let W9:TS:=Vy;let Zp:TS:=aB UB W9;let r23:TS:=aB Wa Zp;let Ze:TS:=aB UE r23;let ZL:TS:=aB UH Ze;let YD:TS:=aB VU ZL;let XH:TS:=aB UW YD;let WI:TS:=aB Uw XH;let Xd:TS:=aB Uu WI;let YW:TS:=aB U0 Xd;let Zc:TS:=aB VL YW;let r14:TS:=aB U3 Zc;let Wq:TS:=aB UP r14;let X5:TS:=aB VR Wq;let Hw:TS:=aB VH X5;let Gb:TS:=aB VM Hw;let r9:TS:=aB Hy Gb;let r8:TS:=aB a9 r9;let r7:TS:=aB a8 r8;let r6:TS:=aB a7 r7;let r5:TS:=aB a6 r6;let r4:TS:=aB a5 r5;let r3:TS:=aB a4 r4;let r2:TS:=aB a3 r3;let r1:TS:=aB a2 r2;aB a1 r1 d z H):(aB a1 (aB a2 (aB a3 (aB a4 (aB a5 (aB a6 (aB a7 (aB a8 (aB a9 (aB Hy (aB VM (aB VH (aB VR (aB UP (aB U3 (aB VL (aB U0 (aB Uu (aB Uw (aB UW (aB VU (aB UH (aB UE (aB Wa (aB UB (Vy)))))))))))))))))))))))))) D U H:=h
@[elab_as_elim] theorem AR {α:Type} {motive:List α->Prop} {us:List α} (h:us.length=1) (k:∀ a,motive [a]):motive us :=
 b9 h λ a _ h=>aaJ h ▸ k a
@[elab_as_elim] theorem AG {α:Type} {motive:List α->Prop} {us:List α} (h:us.length=2) (k:∀ a b,motive [a,b]):motive us :=
 b9 h λ a _ h=>b9 h λ b _ h=>aaJ h ▸ k a b
@[elab_as_elim] theorem vz {α:Type} {motive:List α->Prop} {us:List α} (h:us.length=3) (k:∀ a b c,motive [a,b,c]):motive us :=
 b9 h λ a _ h=>b9 h λ b _ h=>b9 h λ c _ h=>aaJ h ▸ k a b c
@[elab_as_elim] theorem AC {α:Type} {motive:List α->Prop} {us:List α} (h:us.length=4) (k:∀ a b c d,motive [a,b,c,d]):motive us :=
 b9 h λ a _ h=>b9 h λ b _ h=>b9 h λ c _ h=>b9 h λ d _ h=>aaJ h ▸ k a b c d
@[elab_as_elim] theorem AY {α:Type} {motive:List α->Prop} {us:List α} (h:us.length=5) (k:∀ a b c d e,motive [a,b,c,d,e]):motive us :=
 b9 h λ a _ h=>b9 h λ b _ h=>b9 h λ c _ h=>b9 h λ d _ h=>b9 h λ e _ h=>aaJ h ▸ k a b c d e
@[elab_as_elim] theorem AD {α:Type} {motive:List α->Prop} {us:List α} (h:us.length=6) (k:∀ a b c d e f,motive [a,b,c,d,e,f]):motive us :=
 b9 h λ a _ h=>b9 h λ b _ h=>b9 h λ c _ h=>b9 h λ d _ h=>b9 h λ e _ h=>b9 h λ f _ h=>aaJ h ▸ k a b c d e f
@[elab_as_elim] theorem AA {α:Type} {motive:List α->Prop} {us:List α} (h:us.length=7) (k:∀ a b c d e f g,motive [a,b,c,d,e,f,g]):motive us :=
 b9 h λ a _ h=>b9 h λ b _ h=>b9 h λ c _ h=>b9 h λ d _ h=>b9 h λ e _ h=>b9 h λ f _ h=>b9 h λ g _ h=>aaJ h ▸ k a b c d e f g
theorem lc {sc:Scope} {x:Str} (h:(match sc.names.lookup x with|some .local=>true|some .cell=>true|_=>false)=true):Loc sc x:=by
 unfold Loc
 split at h
 . rename_i e;exact .inl e
 . rename_i e;exact .inr e
 . cases h
theorem ce.m {j k:Nat} {A:Around} (r:ce k A) (h:j<=k:=by first|decide|lia):ce j A:=r.mono h
section
variable {P:Program} {w:World} {K:W.Frag} {mg:Str->Option Value} {base:Heap} {x qual:Str} {st:Stmt} {N ps:List Str} {k:Nat} {sp:Sp} {C:Addr}
theorem hE.dQ (h:hE K mg x st) (S:aC N ps (al st)) (dX:∀ (f:Addr) (bD:Value) (A:Around) (outer:List Env) (s:Shared) (H:Hp) (vs:List V) (Q:VK) (E:XK),ce k (A.deeper (envOfC x (al st) s.heap.objs.size f bD))->sp vs H Q E ->
     ∃ t,ny (kO sK P w K mg base N x (al st) f bD A outer s H E).xW (bz st) t/\t { nx:=λ _ H'=>Q .cD H',rt:=Q } (start N vs) H) (len:∀ vs H Q E,sp vs H Q E->vs.length=ps.length:=by intro _ _ _ _ h;first|(cases h;subst_vars;rfl)|(obtain ⟨_,rfl,_⟩:=h;rfl)|(obtain ⟨_,_,rfl,_⟩:=h;rfl)|(obtain ⟨_,_,_,rfl,_⟩:=h;rfl)|(obtain ⟨_,_,_,_,rfl,_⟩:=h;rfl)|(obtain ⟨_,_,_,_,_,rfl,_⟩:=h;rfl)) (hb:∀ (kV doc pm:Value) (an:Option Addr) (bD ct:Value) (us:List Value),us.length=ps.length->bindArgs (W.fnOf x x (bU st) (bz st) (al st) .none kV doc pm an bD ct) ⟨us,[]⟩=pure (ps.zip us):=by intro _ _ _ _ _ _ us hl;first|exact AR hl λ _=>rfl|exact AG hl λ _ _=>rfl|exact vz hl λ _ _ _=>rfl|exact AC hl λ _ _ _ _=>rfl|exact AY hl λ _ _ _ _ _=>rfl|exact AD hl λ _ _ _ _ _ _=>rfl|exact AA hl λ _ _ _ _ _ _ _=>rfl):Def P w K mg base x (k+1) ps sp:=h.def S len hb dX
theorem gN.iy {m:Str} (h:gN K C m qual st .none) (S:aC N ps (al st)) (dX:∀ (f:Addr) (bD:Value) (A:Around) (outer:List Env) (s:Shared) (H:Hp) (vs:List V) (Q:VK) (E:XK),ce k (A.deeper (envOfC qual (al st) s.heap.objs.size f bD))->sp vs H Q E ->
     ∃ t,ny (kO sK P w K mg base N qual (al st) f bD A outer s H E).xW (bz st) t/\t { nx:=λ _ H'=>Q .cD H',rt:=Q } (start N vs) H) (len:∀ vs H Q E,sp vs H Q E->vs.length=ps.length:=by intro _ _ _ _ h;first|(cases h;subst_vars;rfl)|(obtain ⟨_,rfl,_⟩:=h;rfl)|(obtain ⟨_,_,rfl,_⟩:=h;rfl)|(obtain ⟨_,_,_,rfl,_⟩:=h;rfl)|(obtain ⟨_,_,_,_,rfl,_⟩:=h;rfl)|(obtain ⟨_,_,_,_,_,rfl,_⟩:=h;rfl)) (hb:∀ (kV doc pm:Value) (an:Option Addr) (bD ct:Value) (us:List Value),us.length=ps.length->bindArgs (W.fnOf m qual (bU st) (bz st) (al st) .none kV doc pm an bD ct) ⟨us,[]⟩=pure (ps.zip us):=by intro _ _ _ _ _ _ us hl;first|exact AR hl λ _=>rfl|exact AG hl λ _ _=>rfl|exact vz hl λ _ _ _=>rfl|exact AC hl λ _ _ _ _=>rfl|exact AY hl λ _ _ _ _ _=>rfl|exact AD hl λ _ _ _ _ _ _=>rfl|exact AA hl λ _ _ _ _ _ _ _=>rfl):g9 P w K mg base C m (k+1) ps [] sp:=h.wv S len hb dX
end
inductive A3 (a b c:Prop):Prop|mk (_:a) (_:b) (_:c)
inductive A4 (a b c d:Prop):Prop|mk (_:a) (_:b) (_:c) (_:d)
inductive A5 (a b c d e:Prop):Prop|mk (_:a) (_:b) (_:c) (_:d) (_:e)
inductive A6 (a b c d e f:Prop):Prop|mk (_:a) (_:b) (_:c) (_:d) (_:e) (_:f)
inductive E2 {a b:Type} (p:a->b->Prop):Prop|mk (x:a) (y:b) (_:p x y)
inductive E3 {a b c:Type} (p:a->b->c->Prop):Prop|mk (x:a) (y:b) (z:c) (_:p x y z)
inductive E4 {a b c d:Type} (p:a->b->c->d->Prop):Prop|mk (x:a) (y:b) (z:c) (u:d) (_:p x y z u)
inductive E5 {a b c d e:Type} (p:a->b->c->d->e->Prop):Prop|mk (x:a) (y:b) (z:c) (u:d) (v:e) (_:p x y z u v)
end L2
namespace Bl
open PySem PySem.Builtin PySem.Builtin.Str
def sp:Str:=⟨#[32]⟩
theorem ku (p q:Str) (r:List Str):(Str.join sp (p::q::r)).cps.toList=p.cps.toList++32::(Str.join sp (q::r)).cps.toList:=by
 show (p++sp++Str.join sp (q::r)).cps.toList=_
 rw [Tx.app,Tx.app]
 show p.cps.toList++[32]++_=_
 rw [aat]
 rfl
theorem uniq:∀ {a p b c:List Nat},32∉a->32∉p->a++32::b=p++32::c->a=p/\b=c
 | [],[],_,_,_,_,e=>⟨rfl,(abL e).2⟩
 | [],q::p,_,_,_,hp,e=>by
   have:=(abL e).1
   exact absurd (this ▸ aae) hp
 | q::a,[],_,_,ha,_,e=>by
   have:=(abL e).1
   exact absurd (this ▸ aae) ha
 | q::a,r::p,_,_,ha,hp,e=>by
   have e1:=(abL e).1
   have e2:=(abL e).2
   obtain ⟨x,y⟩:=uniq (λ h=>ha (aaf _ h)) (λ h=>hp (aaf _ h)) e2
   exact ⟨by rw [e1,x],y⟩
theorem qg:∀ {ps qs:List Str},ps≠[]->qs≠[]->(∀ p∈ps,32∉p.cps.toList)->(∀ q∈qs,32∉q.cps.toList)->Str.join sp ps=Str.join sp qs->ps=qs
 | [],_,h,_,_,_,_=>absurd rfl h
 | _::_,[],_,h,_,_,_=>absurd rfl h
 | [p],[q],_,_,_,_,e=>by rw [show p=q from e]
 | [p],q::s::r,_,_,hp,_,e=>by
   have e2:=aaV (λ z:Str=>z.cps.toList) (show p=Str.join sp (q::s::r) from e)
   simp only [ku] at e2
   exact absurd (by rw [e2];exact aaB _ aae) (hp p aae)
 | p::s::r,[q],_,_,_,hq,e=>by
   have e2:=aaV (λ z:Str=>z.cps.toList) (show Str.join sp (p::s::r)=q from e)
   simp only [ku] at e2
   exact absurd (by rw [← e2];exact aaB _ aae) (hq q aae)
 | p::s::r,q::t::u,_,_,hp,hq,e=>by
   have e2:=aaV (λ z:Str=>z.cps.toList) e
   simp only [ku] at e2
   obtain ⟨x,y⟩:=uniq (hp p aae) (hq q aae) e2
   have:=qg (ps:=s::r) (qs:=t::u) (aa2 _ _) (aa2 _ _) (λ z hz=>hp z (aaf _ hz)) (λ z hz=>hq z (aaf _ hz)) (Tx.ext y)
   rw [Tx.ext x,this]
theorem rB {ws:List Str} (h:ws≠[]) (hf:∀ w∈ws,32∉w.cps.toList):Txt.split (Str.join sp ws) sp=ws :=
 qg (Tx.xH _ _) h (StrLaws.split_free _ 32) hf (StrLaws.join_split _ _)
end Bl
namespace L2
open PySem PySem.Spec PyProof.Rows Mth
variable {j:Nat}
structure GF (f:bE):Prop where
 t:f.1.natAbs<10 ^ 30
 b1:1<=f.2
 b2:f.2<10 ^ 30
 g:Int.gcd f.1 f.2=1
theorem GF.ok {f:bE} (h:GF f):gv 100 f:=by
 have e:(10:Nat) ^ 30<2 ^ 100:=by decide
 have h1:=h.t
 have h2:=h.b1
 have h3:=h.b2
 exact ⟨show f.1.natAbs<2 ^ 100 by lia,show f.2.natAbs<2 ^ 100 by lia,by lia⟩
def wr (f:bE):Str:=Tx.fO f.1 f.2
theorem GF.rd {f:bE} (h:GF f):Tx.Rd (wr f) f:=Tx.Ed h.t h.b1 h.b2 h.g
theorem GF.len {f:bE} (h:GF f):(wr f).length<=62:=Tx.Bk h.t (by have:=h.b1;have:=h.b2;lia)
structure Rm where
 gq:List bE
 lo:bE
 hi:bE
 sh:List bE
 st:Option (bE×Int×Int×Int)
structure Rm.Ok (r:Rm):Prop where
 gm:∀ f∈r.gq,GF f
 m2:2<=r.gq.length
 m7:r.gq.length<=7
 ri:gM r.gq=true
 gl:GF r.lo
 gh:GF r.hi
 le:cM r.hi r.lo=false
 s4:r.sh.length=4
 gs:∀ f∈r.sh,GF f/\0<=f.1/\4 * f.1<=f.2
 so:∀ z,r.st=some z->GF z.1/\0<=z.1.1/\(0<=z.2.1/\z.2.1<=9)/\(0<=z.2.2.1/\z.2.2.1<=3)/\(0<=z.2.2.2/\z.2.2.2<=3)
structure gA (rs:List Rm):Prop where
 n1:1<=rs.length
 n4:rs.length<=4
 ok:∀ r∈rs,r.Ok
 bd:∀ k,cc ((rs.map (·.gq)).take k)<=400
abbrev Rm0:Rm:=⟨[],(0,1),(0,1),[],none⟩
def rm (rs:List Rm) (k:Nat):Rm:=rs.getD k Rm0
theorem gA.at_ {rs:List Rm} (h:gA rs) {k:Nat} (hk:k<rs.length):(rm rs k).Ok/\rs[k]?=some (rm rs k):=by
 have e:rm rs k=rs[k]:=by unfold rm;rw [aax,aac hk];rfl
 rw [e]
 exact ⟨h.ok _ (aaP hk),aac hk⟩
def im (r:Rm) (k j:Nat):bE:=r.sh.getD (if j<k then j else j - 1) (0,1)
def qw (r:Rm):bE:=r.sh.getD 3 (0,1)
theorem Rm.Ok.sh {r:Rm} (h:r.Ok) {i:Nat} (hi:i<4):GF (r.sh.getD i (0,1))/\0<=(r.sh.getD i (0,1)).1/\4 * (r.sh.getD i (0,1)).1<=(r.sh.getD i (0,1)).2:=by
 rw [aax,aac (by rw [h.s4];exact hi)]
 exact h.gs _ (aaP _)
def iw (W:Int) (m:ar):Prop:=0<W/\∃ sk fl,fi W sk fl m/\(∀ i,0<=sk i/\4 * sk i<=W)/\(∀ i j,0<=fl i j/\4 * fl i j<=W)/\∀ i,fl i i=0
theorem Fy {fl:Nat->Nat->Int} {W:Int} {i n:Nat} (hn:n<=4) (h:∀ b,0<=fl i b/\4 * fl i b<=W) (h0:fl i i=0) (hi:i<n):4 * sumF fl i n<=3 * W:=by
 have a0:=h 0
 have a1:=h 1
 have a2:=h 2
 have a3:=h 3
 have ci:i=0∨i=1∨i=2∨i=3:=by lia
 match n,hn with
 | 0,_=>lia
 | 1,_=>rcases ci with rfl|rfl|rfl|rfl<;>simp only [sumF]<;>lia
 | 2,_=>rcases ci with rfl|rfl|rfl|rfl<;>simp only [sumF]<;>lia
 | 3,_=>rcases ci with rfl|rfl|rfl|rfl<;>simp only [sumF]<;>lia
 | 4,_=>rcases ci with rfl|rfl|rfl|rfl<;>simp only [sumF]<;>lia
theorem BY {fl:Nat->Nat->Int} {W:Int} {i n:Nat} (hn:n<=4) (h:∀ b,0<=fl i b/\4 * fl i b<=W) (h0:fl i i=0) (hi:i<n) (hj:j<n) (Af:i≠j):4 * (sumF fl i n - fl i j)<=2 * W:=by
 have a0:=h 0
 have a1:=h 1
 have a2:=h 2
 have a3:=h 3
 have ci:i=0∨i=1∨i=2∨i=3:=by lia
 have cj:j=0∨j=1∨j=2∨j=3:=by lia
 match n,hn with
 | 0,_=>lia
 | 1,_=>lia
 | 2,_=>rcases ci with rfl|rfl|rfl|rfl<;>rcases cj with rfl|rfl|rfl|rfl<;>simp only [sumF]<;>lia
 | 3,_=>rcases ci with rfl|rfl|rfl|rfl<;>rcases cj with rfl|rfl|rfl|rfl<;>simp only [sumF]<;>lia
 | 4,_=>rcases ci with rfl|rfl|rfl|rfl<;>rcases cj with rfl|rfl|rfl|rfl<;>simp only [sumF]<;>lia
theorem AB {W:Int} {f:bE} (hW:0<W) (h0:0<=f.1) (h4:4 * f.1<=f.2) (hb:1<=f.2) (hd:f.2 ∣ W):∃ k,Ov W k f/\0<=k/\4 * k<=W:=by
 obtain ⟨q,rfl⟩:=hd
 have hq:0<q:=by
   rcases Int.lt_trichotomy q 0 with l|l|l
   . have:=Int.mul_neg_of_pos_of_neg (show 0<f.2 by lia) l
     lia
   . rw [l] at hW;lia
   . exact l
 refine ⟨f.1 * q,⟨?_,by lia⟩,abO h0 (by lia),?_⟩
 . rw [abH f.2 q,← aa0]
 . rw [← aa0]
   exact aci h4 (by lia)
theorem iw.nG {W:Int} {m:ar} {i:Nat} {z:bE×bE×bE} (h:iw W m) (n4:m.rows.length<=4) (hi:i<m.rows.length) (hs:m.aV.length=m.rows.length) (h0:0<=z.1.1) (h4:4 * z.1.1<=z.1.2) (hb:1<=z.1.2) (hd:z.1.2 ∣ W):cM (hX (m.own i) (m.fI i)) z.1=false/\iw W (m.ge i z):=by
 obtain ⟨hW,sk,fl,sh,b1,b2,b3⟩:=h
 obtain ⟨k,ov,k0,k4⟩:=AB hW h0 h4 hb hd
 have:=Fy n4 (b2 i) (b3 i) hi
 refine ⟨sh.zL hW ov (by lia),hW,_,_,sh.ge (by lia) ov,λ a=>?_,b2,b3⟩
 show 0<=(if a=i then k else sk a)/\4 * (if a=i then k else sk a)<=W
 split
 . exact ⟨k0,k4⟩
 . exact b1 a
theorem iw.dk {W:Int} {m:ar} {i:Nat} {f:bE} (h:iw W m) (n4:m.rows.length<=4) (hi:i<m.rows.length) (hj:j<m.rows.length) (Af:i≠j) (h0:0<=f.1) (h4:4 * f.1<=f.2) (hb:1<=f.2) (hd:f.2 ∣ W):cM (hX (m.own i) (m.dk i j)) f=false/\iw W (m.dD i j f):=by
 obtain ⟨hW,sk,fl,sh,b1,b2,b3⟩:=h
 obtain ⟨k,ov,k0,k4⟩:=AB hW h0 h4 hb hd
 have:=BY n4 (b2 i) (b3 i) hi hj Af
 have:=b1 i
 refine ⟨sh.xF hW ov (by lia),hW,_,_,sh.dD ov,b1,λ a b=>?_,λ a=>?_⟩
 .
  show 0<=(if a=i/\b=j then k else fl a b)/\4 * (if a=i/\b=j then k else fl a b)<=W
  split
  . exact ⟨k0,k4⟩
  . exact b2 a b
 . show (if a=i/\a=j then k else fl a a)=0
   rw [aak (by lia)]
   exact b3 a
theorem iw.new {W most ig load:Int} (hW:0<W):iw W (ar.new most ig load):=⟨hW,_,_,fi.new,λ _=>by lia,λ _ _=>by lia,λ _=>rfl⟩
theorem iw.room {W:Int} {m:ar} {r:List bE} (h:iw W m) (hz:∀ i,m.aV.length<=i->m.fI i=(0,1)):iw W (m.d6 r):=by
 obtain ⟨hW,sk,fl,sh,b1,b2,b3⟩:=h
 refine ⟨hW,sk,fl,sh.d6 λ i hi=>?_,b1,b2,b3⟩
 have:=(sh.nG i).1
 rw [hz i hi] at this
 have:0 * W=sk i * 1:=this
 lia
theorem iw.DZ {W:Int} {m:ar} {i:Nat} {z:bE×Int×Int×Int} (h:iw W m):iw W (m.dw i z):=by
 obtain ⟨hW,sk,fl,sh,b⟩:=h
 exact ⟨hW,sk,fl,sh.dw,b⟩
def wholeOf:List bE->Int
 | []=>1
 | f::fs=>f.2 * wholeOf fs
theorem mV:∀ {fs:List bE} {f:bE},f∈fs->f.2 ∣ wholeOf fs
 | g::fs,f,h=>by
   rcases List.mem_cons.mp h with rfl|h
   . exact ⟨_,rfl⟩
   . obtain ⟨q,e⟩:=mV h
     exact ⟨g.2 * q,by show g.2 * wholeOf fs=_;rw [e,acg]⟩
theorem nJ:∀ {fs:List bE},(∀ f∈fs,1<=f.2)->0<wholeOf fs
 | [],_=>by decide
 | g::fs,h=>aa7 (by have:=h g aae;lia) (nJ λ f hf=>h f (aaf _ hf))
def WR (rs:List Rm):Int:=wholeOf (rs.flatMap (·.sh))
theorem gA.wp {rs:List Rm} (h:gA rs):0<WR rs:=nJ λ f hf=>by
 obtain ⟨r,hr,hf⟩:=List.mem_flatMap.mp hf
 exact ((h.ok r hr).gs f hf).1.b1
theorem gA.sh {rs:List Rm} (h:gA rs) {k i:Nat} (hk:k<rs.length) (hi:i<4):GF ((rm rs k).sh.getD i (0,1))/\0<=((rm rs k).sh.getD i (0,1)).1/\4 * ((rm rs k).sh.getD i (0,1)).1<=((rm rs k).sh.getD i (0,1)).2/\((rm rs k).sh.getD i (0,1)).2 ∣ WR rs:=by
 obtain ⟨o,e⟩:=h.at_ hk
 have hl:i<(rm rs k).sh.length:=by rw [o.s4];exact hi
 obtain ⟨a,b,c⟩:=o.sh hi
 refine ⟨a,b,c,mV (List.mem_flatMap.mpr ⟨rm rs k,aaL e,?_⟩)⟩
 rw [aax,aac hl]
 exact aaP hl
inductive dq where
 | sk (k:Nat)
 | fl (k j:Nat)
 | sv (k:Nat)
deriving DecidableEq
def nW (rs:List Rm) (k:Nat):bE×bE×bE:=(qw (rm rs k),(rm rs k).lo,(rm rs k).hi)
def AH (rs:List Rm) (m:ar):dq->ar
 | .sk k=>m.ge k (nW rs k)
 | .fl k j=>m.dD k j (im (rm rs k) k j)
 | .sv k=>match (rm rs k).st with
   | some z=>m.dw k z
   | none=>m
def DM (rs:List Rm):dq->Prop
 | .sk k=>k<rs.length
 | .fl k j=>k<rs.length/\j<rs.length/\k≠j
 | .sv k=>k<rs.length/\(rm rs k).st≠none
structure Got (rs:List Rm) (D:List dq) (m:ar):Prop where
 rows:m.rows=rs.map (·.gq)
 sl:m.aV.length=rs.length
 tl:m.bn.length=rs.length
 sk:∀ k,k<rs.length->.sk k∈D->m.aV[k]?=some (nW rs k)
 fl:∀ k j,m.dk k j=if .fl k j∈D then im (rm rs k) k j else (0,1)
 sv:∀ k,k<rs.length->m.bn[k]?=some (if .sv k∈D then (rm rs k).st else none)
 q:iw (WR rs) m
theorem Got.step {rs:List Rm} {D:List dq} {m:ar} (h:Got rs D m) (ok:gA rs) {d:dq} (hd:DM rs d):Got rs (D++[d]) (AH rs m d):=by
 have lr:m.rows.length=rs.length:=by rw [h.rows,be]
 have n4:=ok.n4
 have mem:∀ {x y:dq},x≠y->(x∈D++[y]↔x∈D):=λ {x y} n=>by simp [n]
 cases d with
 | sk k =>
   have hk:k<rs.length:=hd
   obtain ⟨s1,s2,s3,s4⟩:=ok.sh hk (i:=3) (by decide)
   refine ⟨h.rows,by show (m.aV.set k _).length=_;rw [abN];exact h.sl,h.tl,λ a ha hm=>?_,λ a b=>?_,λ a ha=>?_,(h.q.nG (z:=nW rs k) (by lia) (by lia) (by rw [h.sl,lr]) s2 s3 s1.b1 s4).2⟩
   .
    show (m.aV.set k (nW rs k))[a]?=_
    by_cases e:a=k
    . subst e
      rw [abf (by rw [h.sl];exact hk)]
    . rw [abo (λ x=>e x.symm)]
      exact h.sk a ha ((mem (λ x=>e (dq.sk.inj x))).mp hm)
   . show m.dk a b=_
     rw [h.fl]
     have:=mem (x:=dq.fl a b) (y:=dq.sk k) nofun
     simp only [this]
   . show m.bn[a]?=_
     rw [h.sv a ha]
     have:=mem (x:=dq.sv a) (y:=dq.sk k) nofun
     simp only [this]
 | fl k j =>
   obtain ⟨hk,hj,Fj⟩:=(show k<rs.length/\j<rs.length/\k≠j from hd)
   obtain ⟨s1,s2,s3,s4⟩:=ok.sh hk (i:=if j<k then j else j - 1) (by split<;>lia)
   refine ⟨h.rows,h.sl,h.tl,λ a ha hm=>h.sk a ha ((mem (by simp)).mp hm),λ a b=>?_,λ a ha=>?_,(h.q.dk (f:=im (rm rs k) k j) (by lia) (by lia) (by lia) Fj s2 s3 s1.b1 s4).2⟩
   .
    show (m.dD k j (im (rm rs k) k j)).dk a b=_
    rw [jC]
    by_cases e:a=k/\b=j
    . obtain ⟨rfl,rfl⟩:=e
      rw [aam ⟨rfl,rfl⟩,aam (by simp)]
    . rw [aak e,h.fl]
      have:=mem (x:=dq.fl a b) (y:=dq.fl k j) (λ x=>e (by injection x with x y;exact ⟨x,y⟩))
      simp only [this]
   . show m.bn[a]?=_
     rw [h.sv a ha]
     have:=mem (x:=dq.sv a) (y:=dq.fl k j) nofun
     simp only [this]
 | sv k =>
   obtain ⟨hk,hs⟩:=(show k<rs.length/\(rm rs k).st≠none from hd)
   cases e:(rm rs k).st with
   | none=>exact absurd e hs
   | some z =>
     have ea:AH rs m (.sv k)=m.dw k z:=by simp only [AH,e]
     rw [ea]
     refine ⟨h.rows,h.sl,by show (m.bn.set k _).length=_;rw [abN];exact h.tl,λ a ha hm=>h.sk a ha ((mem (by simp)).mp hm),λ a b=>?_,λ a ha=>?_,h.q.DZ⟩
     . show m.dk a b=_
       rw [h.fl]
       have:=mem (x:=dq.fl a b) (y:=dq.sv k) nofun
       simp only [this]
     . show (m.bn.set k (some z))[a]?=_
       by_cases c:a=k
       . subst c
         rw [abf (by rw [h.tl];exact hk),aam (by simp),e]
       . rw [abo (λ x=>c x.symm),h.sv a ha]
         have:=mem (x:=dq.sv a) (y:=dq.sv k) (λ x=>c (dq.sv.inj x))
         simp only [this]
def jJ (rs:List Rm):List dq:=(List.range rs.length).map .sk
def pC (rs:List Rm):List dq:=(List.range rs.length).flatMap λ k=>((List.range rs.length).filter λ j=>decide (j≠k) && decide (0<(im (rm rs k) k j).1)).map (.fl k)
def xJ (rs:List Rm):List dq:=((List.range rs.length).filter λ k=>(rm rs k).st.isSome).map .sv
def allI (rs:List Rm):List dq:=jJ rs++pC rs++xJ rs
theorem tV {rs:List Rm} {d:dq} (h:d∈allI rs):DM rs d:=by
 unfold allI jJ pC xJ at h
 rw [aaZ,aaZ] at h
 rcases h with (h|h)|h
 . obtain ⟨k,hk,rfl⟩:=List.mem_map.mp h
   exact List.mem_range.mp hk
 .
  obtain ⟨k,hk,h⟩:=List.mem_flatMap.mp h
  obtain ⟨j,hj,rfl⟩:=List.mem_map.mp h
  obtain ⟨hj,e⟩:=List.mem_filter.mp hj
  rw [abr,abg] at e
  exact ⟨List.mem_range.mp hk,List.mem_range.mp hj,λ x=>e.1 x.symm⟩
 . obtain ⟨k,hk,rfl⟩:=List.mem_map.mp h
   obtain ⟨hk,e⟩:=List.mem_filter.mp hk
   exact ⟨List.mem_range.mp hk,λ x=>by rw [x] at e;cases e⟩
structure xc (rs:List Rm) (m:ar):Prop where
 rows:m.rows=rs.map (·.gq)
 sk:∀ k,k<rs.length->m.aV[k]?=some (nW rs k)
 fl:∀ k j,k<rs.length->j<rs.length->k≠j->m.dk k j=im (rm rs k) k j
 sv:∀ k,k<rs.length->m.bn[k]?=some (rm rs k).st
theorem GF.zero {f:bE} (h:GF f) (h0:0<=f.1) (n:¬ 0<f.1):f=(0,1):=by
 have e:f.1=0:=by lia
 have g:=h.g
 rw [e,Int.gcd_zero_left] at g
 have:=h.b1
 have:f.2=1:=by lia
 exact Prod.ext e this
theorem Got.fin {rs:List Rm} {D:List dq} {m:ar} (h:Got rs D m) (ok:gA rs) (h1:∀ d,d∈allI rs->d∈D) (h2:∀ d,d∈D->d∈allI rs):xc rs m:=by
 have Fc:∀ {d:dq},d∈D↔d∈allI rs:=λ {d}=>⟨h2 d,h1 d⟩
 have iS:∀ k,.sk k∈allI rs↔k<rs.length:=λ k=>by simp [allI,jJ,pC,xJ]
 have iF:∀ k j,.fl k j∈allI rs↔(k<rs.length/\j<rs.length/\j≠k/\0<(im (rm rs k) k j).1):=λ k j=>by
   simp [allI,jJ,pC,xJ]
 have iV:∀ k,.sv k∈allI rs↔(k<rs.length/\(rm rs k).st.isSome=true):=λ k=>by simp [allI,jJ,pC,xJ]
 refine ⟨h.rows,λ k hk=>h.sk k hk (Fc.mpr ((iS k).mpr hk)),λ k j hk hj n=>?_,λ k hk=>?_⟩
 .
  rw [h.fl]
  by_cases c:0<(im (rm rs k) k j).1
  . rw [aam (Fc.mpr ((iF k j).mpr ⟨hk,hj,λ x=>n x.symm,c⟩))]
  . rw [aak λ x=>c ((iF k j).mp (Fc.mp x)).2.2.2]
    obtain ⟨s1,s2,_⟩:=ok.sh hk (i:=if j<k then j else j - 1) (by have:=ok.n4;split<;>lia)
    exact (s1.zero s2 c).symm
 .
  rw [h.sv k hk]
  by_cases c:(rm rs k).st.isSome=true
  . rw [aam (Fc.mpr ((iV k).mpr ⟨hk,c⟩))]
  . rw [aak λ x=>c ((iV k).mp (Fc.mp x)).2]
    cases e:(rm rs k).st with
    | none=>rfl
    | some z=>rw [e] at c;exact absurd rfl c
end L2
namespace Bl
open PySem PySem.Builtin PySem.Builtin.Str
theorem join_le {k:Nat}:∀ ps:List Str,(∀ p∈ps,p.length<=k)->(Str.join sp ps).length<=(k+1) * ps.length
 | [],_=>by show 0<=_;lia
 | [p],h=>by
   have:=h p aae
   show p.length<=(k+1) * 1
   lia
 | p::q::r,h=>by
   have h1:=join_le (q::r) λ z hz=>h z (aaf _ hz)
   have h2:=h p aae
   have e:=aaV List.length (ku p q r)
   rw [Tx.len,rT,aav,Tx.len,Tx.len] at e
   rw [aav,Nat.mul_succ]
   lia
end Bl
namespace L2
open PySem PySem.Spec PyProof.Rows Mth
variable {C:Addr} {H:Hp} {es:List Expr} {fp:List Addr}
theorem iH (n:Nat):32∉(Tx.strN n).cps.toList:=by
 rw [Tx.fG]
 intro h
 have:=Tx.nU n 32 h
 lia
theorem yX (f:bE):32∉(wr f).cps.toList:=by
 have ht:∀ t:Int,32∉(Tx.jE t).cps.toList:=λ t=>by
   unfold Tx.jE
   split
   . rw [Tx.app,aaZ]
     rintro (h|h)
     . exact absurd h (by decide)
     . exact iH _ h
   . exact iH _
 unfold wr Tx.fO
 split
 . exact ht _
 .
  rw [Tx.app,Tx.app,aaZ,aaZ]
  rintro ((h|h)|h)
  . exact ht _ h
  . exact absurd h (by decide)
  . exact iH _ h
structure kI (rs:List Rm) (k:Nat) (m:ar):Prop where
 rows:m.rows=(rs.map (·.gq)).take k
 sl:m.aV.length=k
 tl:m.bn.length=k
 sk:∀ i,m.fI i=(0,1)
 fl:∀ i j,m.dk i j=(0,1)
 sv:∀ i,i<k->m.bn[i]?=some none
 q:iw (WR rs) m
theorem kI.new {rs:List Rm} (ok:gA rs) (a b c:Int):kI rs 0 (ar.new a b c):=⟨rfl,rfl,rfl,λ _=>rfl,λ _ _=>rfl,λ i h=>by lia,iw.new ok.wp⟩
theorem kI.step {rs:List Rm} {k:Nat} {m:ar} (h:kI rs k m) (hk:k<rs.length):kI rs (k+1) (m.d6 (rm rs k).gq):=by
 have e:rs[k]?=some (rm rs k):=by unfold rm;rw [aax,aac hk];rfl
 refine ⟨?_,by show (m.aV++[_]).length=_;rw [rT,h.sl];rfl,by show (m.bn++[_]).length=_;rw [rT,h.tl];rfl,λ i=>?_,λ i j=>h.fl i j,λ i hi=>?_,h.q.room λ i _=>h.sk i⟩
 . show m.rows++[_]=_
   rw [h.rows,aa4,Et,e]
   rfl
 .
  show (((m.aV++[((0,1),(0,1),(0,1))])[i]?).map (·.1)).getD (0,1)=(0,1)
  by_cases c:i<m.aV.length
  . rw [aaK c]
    exact h.sk i
  . rw [aaw (by lia)]
    cases i - m.aV.length<;>rfl
 .
  show (m.bn++[none])[i]?=some none
  by_cases c:i<k
  . rw [aaK (by rw [h.tl];exact c)]
    exact h.sv i c
  . rw [aaw (by rw [h.tl];lia),h.tl,show i - k=0 by lia]
    rfl
theorem kI.got {rs:List Rm} {m:ar} (h:kI rs rs.length m):Got rs [] m :=
 ⟨by rw [h.rows,aaN (by rw [be];exact Nt _)],h.sl,h.tl,λ k _ hm=>absurd hm GV,λ k j=>by rw [h.fl,aak (by simp)],λ k hk=>by rw [h.sv k hk,aak (by simp)],h.q⟩
def lH (m:ar) (b:Int×Int×Int):Prop:=(m.most,m.ig,m.load)=b
theorem lH.ap {rs:List Rm} {m:ar} {b:Int×Int×Int} (h:lH m b) (d:dq):lH (AH rs m d) b:=by
 cases d with
 | sk k=>exact h
 | fl k j=>exact h
 | sv k =>
   cases e:(rm rs k).st<;>(simp only [AH,e];exact h)
inductive Ln where
 | bd (a b c:Nat)
 | rm (k:Nat)
 | id (d:dq)
def bP (L:List Str) (k:Nat):Str:=L.getD k Str.empty
def dj (L:List Str) (rs:List Rm):dq->List Str
 | .sk k=>[Str.ofString "sky",bP L k,wr (qw (rm rs k)),wr (rm rs k).lo,wr (rm rs k).hi]
 | .fl k j=>[Str.ofString "flow",bP L k,bP L j,wr (im (rm rs k) k j)]
 | .sv k=>match (rm rs k).st with
   | some z=>[Str.ofString "stove",bP L k,wr z.1,Tx.strN z.2.1.toNat,Tx.strN z.2.2.1.toNat,Tx.strN z.2.2.2.toNat]
   | none=>[]
def aM (L:List Str) (rs:List Rm):Ln->List Str
 | .bd a b c=>[Str.ofString "bounds",Tx.strN a,Tx.strN b,Tx.strN c]
 | .rm k=>Str.ofString "room" :: bP L k::(rm rs k).gq.map wr
 | .id d=>dj L rs d
def aS (L:List Str) (rs:List Rm) (l:Ln):Str:=Str.join Bl.sp (aM L rs l)
structure kM (L:List Str) (n:Nat):Prop where
 nd:L.Nodup
 ln:L.length=n
 l1:∀ z∈L,1<=z.length
 l8:∀ z∈L,z.length<=8
 lo:∀ z∈L,∀ c∈z.cps.toList,97<=c/\c<=122
theorem kM.at_ {L:List Str} {n k:Nat} (h:kM L n) (hk:k<n):bP L k∈L/\L[k]?=some (bP L k):=by
 have hl:k<L.length:=by rw [h.ln];exact hk
 have e:bP L k=L[k]:=by unfold bP;rw [aax,aac hl];rfl
 rw [e]
 exact ⟨aaP hl,aac hl⟩
def Dp (rs:List Rm):Ln->Prop
 | .bd a b c=>a<=4/\b<=30/\c<=30
 | .rm k=>k<rs.length
 | .id d=>DM rs d
theorem lR {n:Nat} (h:n<=30):(Tx.strN n).length<=62:=by
 have:=(Tx.c7 (n:=n) (aaT h (by decide))).1.2.1
 lia
theorem mh {L:List Str} {rs:List Rm} (nm:kM L rs.length) (ok:gA rs) {l:Ln} (h:Dp rs l):aM L rs l≠[]/\(aM L rs l).length<=9/\∀ w∈aM L rs l,32∉w.cps.toList/\w.length<=62:=by
 have hN:∀ {k},k<rs.length->32∉(bP L k).cps.toList/\(bP L k).length<=62:=λ {k} hk=>by
   obtain ⟨m1,_⟩:=nm.at_ hk
   have:=nm.l8 _ m1
   refine ⟨λ hc=>?_,by lia⟩
   have:=nm.lo _ m1 32 hc
   lia
 have hF:∀ {f:bE},GF f->32∉(wr f).cps.toList/\(wr f).length<=62:=λ g=>⟨yX _,g.len⟩
 have hS:∀ {n:Nat},n<=30->32∉(Tx.strN n).cps.toList/\(Tx.strN n).length<=62:=λ g=>⟨iH _,lR g⟩
 cases l with
 | bd a b c =>
   obtain ⟨h1,h2,h3⟩:=(show a<=4/\b<=30/\c<=30 from h)
   refine ⟨aa2 _ _,by show 4<=9;decide,λ w hw=>?_⟩
   simp only [aM,aaa,GV,aaI] at hw
   rcases hw with rfl|rfl|rfl|rfl
   . exact ⟨by decide +kernel,by decide +kernel⟩
   . exact hS (by lia)
   . exact hS h2
   . exact hS h3
 | rm k =>
   have hk:k<rs.length:=h
   obtain ⟨om,_⟩:=ok.at_ hk
   refine ⟨aa2 _ _,by show ((rm rs k).gq.map wr).length+1+1<=9;rw [be];have:=om.m7;lia,λ w hw=>?_⟩
   simp only [aM,aaa] at hw
   rcases hw with rfl|rfl|hw
   . exact ⟨by decide +kernel,by decide +kernel⟩
   . exact hN hk
   . obtain ⟨f,hf,rfl⟩:=List.mem_map.mp hw
     exact hF (om.gm f hf)
 | id d =>
   cases d with
   | sk k =>
     have hk:k<rs.length:=h
     obtain ⟨om,_⟩:=ok.at_ hk
     obtain ⟨s1,_⟩:=ok.sh hk (i:=3) (by decide)
     refine ⟨aa2 _ _,by show 5<=9;decide,λ w hw=>?_⟩
     simp only [aM,dj,aaa,GV,aaI] at hw
     rcases hw with rfl|rfl|rfl|rfl|rfl
     . exact ⟨by decide +kernel,by decide +kernel⟩
     . exact hN hk
     . exact hF s1
     . exact hF om.gl
     . exact hF om.gh
   | fl k j =>
     obtain ⟨hk,hj,Fj⟩:=(show k<rs.length/\j<rs.length/\k≠j from h)
     obtain ⟨s1,_⟩:=ok.sh hk (i:=if j<k then j else j - 1) (by have:=ok.n4;split<;>lia)
     refine ⟨aa2 _ _,by show 4<=9;decide,λ w hw=>?_⟩
     simp only [aM,dj,aaa,GV,aaI] at hw
     rcases hw with rfl|rfl|rfl|rfl
     . exact ⟨by decide +kernel,by decide +kernel⟩
     . exact hN hk
     . exact hN hj
     . exact hF s1
   | sv k =>
     obtain ⟨hk,hs⟩:=(show k<rs.length/\(rm rs k).st≠none from h)
     obtain ⟨om,_⟩:=ok.at_ hk
     cases e:(rm rs k).st with
     | none=>exact absurd e hs
     | some z =>
       obtain ⟨g1,g2,g3,g4,g5⟩:=om.so z e
       have ew:aM L rs (.id (.sv k))=[Str.ofString "stove",bP L k,wr z.1,Tx.strN z.2.1.toNat,Tx.strN z.2.2.1.toNat,Tx.strN z.2.2.2.toNat]:=by simp only [aM,dj,e]
       rw [ew]
       refine ⟨aa2 _ _,by show 6<=9;decide,λ w hw=>?_⟩
       simp only [aaa,GV,aaI] at hw
       rcases hw with rfl|rfl|rfl|rfl|rfl|rfl
       . exact ⟨by decide +kernel,by decide +kernel⟩
       . exact hN hk
       . exact hF g1
       . exact hS (by lia)
       . exact hS (by lia)
       . exact hS (by lia)
theorem sG {L:List Str} {rs:List Rm} (nm:kM L rs.length) (ok:gA rs) {l:Ln} (h:Dp rs l):Txt.split (aS L rs l) Bl.sp=aM L rs l/\(aS L rs l).length<=600:=by
 obtain ⟨h1,h2,h3⟩:=mh nm ok h
 refine ⟨Bl.rB h1 λ w hw=>(h3 w hw).1,?_⟩
 have:=Bl.join_le (k:=62) (aM L rs l) λ w hw=>(h3 w hw).2
 unfold aS
 lia
def KD (Wp:Params) (K:W.Frag) (a:Addr):Prop:=∃ es n,K.lookup a=some ⟨.type "dict",none,.dict es n,#[]⟩/\W.KeysLit Wp es.toList/\(a == sysModules)=false
def Zf (K:W.Frag) (a:Addr) (t:TA):TE:=λ U H Q=>t U H λ ys H1=>∃ z v y,ys=[.str z]/\W.nsIn K a z=some (some v)/\RelV y v/\Q y H1
def fK:Option (Option Value)->Int->Bool
 | some (some (.int j _)),i=>decide (j=i)
 | _,_=>false
theorem uK {o:Option (Option Value)} {i:Int} (h:fK o i=true):∃ v,o=some (some v)/\RelV (.int i) v:=by
 unfold fK at h
 split at h
 . cases ab9 h
   exact ⟨_,rfl,_,rfl⟩
 . cases h
section
variable {X:Cx} {x:Str} {a:Addr} {e:Expr} {t:TA} {p apos eZ:Pos}
theorem yf (hg:Gl X x) (hm:X.mg x=some (.ref a)) (kd:KD X.w.params X.K a) (ha:PA X [e] t) (hd:(x == ("__debug__" : Str))=false:=by decide) (ql:attributeBase (.Name x p) "get" X.env (eval (.Name x p) X.env)=eval (.Name x p) X.env:=by rfl) (CK:((backTo eZ (starEach [e] X.env)).all (λ x => !x.1) && (backToKw eZ (keywordEach [] X.env)).all (λ x=>x.1.isSome)
     && decide ([e].length+([]:List Keyword).length+(if ([]:List Keyword).isEmpty then 0 else 1)<30))=true:=by rfl) (pU:(apos.endLine == eZ.line)=true:=by rfl) (hs:starEach [e] X.env=(false,eval e X.env)::starEach [] X.env:=by rfl) (rp:(backTo eZ (starEach [] X.env)).any (·.1)=false:=by rfl) :
   PE X (.Call (.Attribute (.Name x p) "get" apos) [e] [] eZ) (Zf X.K a t):=by
 intro pins s U H Q I h
 obtain ⟨es,n,hl,hk,lo⟩:=kd
 have ho:PE X (.Name x p) (tC (.ref a)):=cY hg hm rfl hd
 refine wpAny_Call_method_late ql CK pU rfl (ca (ho pins s U H (λ y H1=>y = .ref a/\H1=H) I ⟨rfl,rfl⟩) λ v s1 ⟨y,H1,I1,r1,e1,e2⟩=>?_)
 subst e1 e2
 cases (show v=Value.ref a from r1)
 have hM:=W.mapOf_K (prog:=X.prog) (w:=X.w) I1.jt hl hk
 refine ⟨"dict","dict.get",acN,abl,acV,hM.typeIs,λ b q=>⟨_,by cases q;exact I1.jt _ _ hl,rfl⟩,?_⟩
 have hA:=ha eZ pins s1 U H1 _ I1 h
 rw [hs] at hA ⊢
 refine abJ (by show (false || (backTo eZ (starEach [] X.env)).any (·.1))=false;rw [rp]<;>rfl) (ach ?_)
 refine ca hA λ us s2 ⟨ys,H2,I2,r2,z,u,y,e3,e4,e5,q⟩=>?_
 subst e3
 obtain ⟨u',rfl,t',rfl⟩:=r2.one
 have UY:=W.mapOf_K (prog:=X.prog) (w:=X.w) I2.jt hl hk
 refine call_meetsIn abl UY.typeIs abQ (PySem.F.args_dict_get_2 _ _) (meets_dict_get (strKind X.prog X.w) a (strKind_is X.prog X.w z t') lo) ⟨_,UY,?_⟩
 rw [W.find_K hl e4]
 exact ⟨y,H2,I2.tok _,e5,q⟩
end
section
variable {prog:Program} {w:World} {A:Around} {E:Value->Shared->Prop} {s:Shared}
theorem nk {it t:Addr} {items:Array Value} (Vh:t≠it):∀ (n i:Nat) (s:Shared) (Q:List Value->Shared->Prop),s.heap.IsListIter it t i->s.heap.IsList t items->i+n<=items.size ->
   (∀ h',h'.IsListIter it t (i+n)->Heap.SameBut it s.heap h'->Q ((items.toList.drop i).take n) { s with heap:=h' })->wpAny (model prog w) A (draw (.ref it) n) Q E s
 | 0,i,s,Q,hit,_,_,hQ=>by
   show wpAny _ _ (pure []) Q E s
   exact aaW (by simpa using hQ s.heap hit (Heap.SameBut.refl ..))
 | n+1,i,s,Q,hit,ht,hle,hQ=>by
   have iT:i<items.size:=by lia
   show wpAny _ _ (pyNext (.ref it) >>= _) Q E s
   refine aas (wpAny_pyNext_list_item hit ht (x:=items[i]) (by simp [iT]) λ h₁ Cg GD=>?_)
   refine aas (abu (nk Vh n (i+1) _ _ Cg (ht.extBut GD.extBut Vh) (by lia) λ h₂ OC ZE=>aaW ?_))
   have hd:items.toList.drop i=items[i]::items.toList.drop (i+1):=by simp [List.drop_eq_getElem_cons,iT]
   have:=hQ h₂ (by rw [show i+(n+1)=i+1+n by lia];exact OC) (GD.trans ZE)
   rw [hd,List.take_succ_cons] at this
   exact this
theorem pY {t:Addr} {items:Array Value} {targets:List (Bool×(Value->Sem Unit))} {Q:Unit->Shared->Prop} (hh:A.handled=none) (ht:s.heap.IsList t items) (hn:targets.length=items.size) (FH:targets.findIdx? (·.1)=none) (h:∀ h',Heap.ExtBut s.heap.objs.size s.heap h'->wpAny (model prog w) A (assignInOrder (targets.map (·.2)) items.toList) Q E { s with heap:=h' }) :
   wpAny (model prog w) A (unpack (.ref t) targets) Q E s:=by
 unfold unpack
 rw [hn,FH]
 refine aas (abu ?_)
 have iT:t≠s.heap.objs.size:=by obtain ⟨o,ho,_⟩:=ht;exact aaA (aad ho)
 unfold unpackItems
 refine aas ?_
 unfold notIterableAtAll
 refine aas (wpAny_specialOf ht.typeIs slot_list_iter.lookup ?_)
 refine aaW ?_
 simp only [ac7,abV]
 refine aas (abu (acA ht ?_))
 refine aas (abu (nk iT items.size 0 _ _ ⟨_,aap _ rfl,rfl,rfl⟩ (ht.push _) (by lia) λ h₁ Cg GD=>?_))
 have BU:List.take items.size (List.drop 0 items.toList)=items.toList:=by
   rw [acD];exact aaN (by simp)
 rw [BU]
 rw [aak (by simp)]
 have YL:h₁.IsList t items:=(ht.push _).extBut GD.extBut iT
 refine aas (abu (wpAny_pyNext_list_end hh Cg YL (by simp) λ h₂ XS=>?_))
 simp only [Option.isSome_none,ac7,abV]
 exact aaW (h h₂ λ b o hb e=>XS b o hb (GD.extBut b o hb (Ux _ e)))
end
section
variable {X:Cx} {pos:Pos}
inductive D0 (K:W.Frag) (n:Nat) (t:ya) (v:V) (U:St) (H:Hp) (Q:(St->Hp->Prop)):Prop
 | mk (a xs:_) (_:v = .ref a) (_:aN K H a xs) (_:xs.length=n) (_:t xs U H Q)
theorem CH {k:Nat} {t:ya} {n:Nat} (hc:X.calm=true) (h:AQ X es t) (hn:(assignEach es X.env).length=n:=by rfl) (oJ:(assignEach es X.env).findIdx? (·.1)=none:=by rfl):PG X (.Tuple es k pos) (D0 X.K n t):=by
 intro pins s U H v u Q I r hw
 obtain ⟨a,xs,e1,hq,hl,hw⟩:=hw
 subst e1
 cases r
 obtain ⟨aZ,rv,ht,hz⟩:=I.list hq
 rw [assign_Tuple]
 refine aas (acp (pY (I.ok.hd hc) ht.isList (by simp [hn,← hl,rv.length]) oJ λ h' hx=>?_))
 have I1:Inv X pins U H { s with heap:=h' }:=I.kept (t':=s.toks) λ b o e=>hx b o (aaA (aad e)) e
 exact h pins _ U H xs _ Q I1 (by simpa using rv) hw
theorem oC {K:W.Frag} {k:Nat} {t:ya} {n:Nat} (hK:X.K=K) (hc:X.calm=true) (h:AQ X es t) (hn:(assignEach es X.env).length=n:=by rfl) (oJ:(assignEach es X.env).findIdx? (·.1)=none:=by rfl):PG X (.Tuple es k pos) (D0 K n t):=by subst hK;exact CH hc h hn oJ
end
theorem bj.zD {K:W.Frag} {H':Hp} {a x:Addr} {m:ar} (h:bj K C H a fp m) (st:∀ b o,H b=some o->b≠x->H' b=some o) (ts:b8 K H H') (nx:x∉fp):bj K C H' a fp m:=by
 obtain ⟨⟨Ll,pm,pf,ps,pt,vm,vs,vt,aL,rfl,ha,gr,iY,j6,gu,gI,n1,n2,n3,dm,ds,dt,df,fk⟩,q1,q2,q3,q4⟩:=h
 have g:∀ {c o},H c=some o->c∈[a,Ll,pm,pf,ps,pt]->H' c=some o:=λ {c o} e hc=>st c o e (λ z=>nx (z ▸ hc))
 exact ⟨⟨Ll,pm,pf,ps,pt,vm,vs,vt,aL,rfl,g ha (by simp),g gr (by simp),g iY (by simp),g j6 (by simp),g gu (by simp),g gI (by simp),n1,n2,n3,jq ts dm,ij ts ds,gD ts dt,λ i j=>(df i j).ts ts,fk⟩,q1,q2,q3,q4⟩
theorem bj.some {K:W.Frag} {a:Addr} {m:ar} (h:bj K C H a fp m):∀ c∈fp,∃ o,H c=some o:=by
 obtain ⟨⟨Ll,pm,pf,ps,pt,vm,vs,vt,aL,rfl,ha,gr,iY,j6,gu,gI,_⟩,_⟩:=h
 intro c hc
 simp only [aaa,GV,aaI] at hc
 rcases hc with rfl|rfl|rfl|rfl|rfl|rfl
 . exact ⟨_,ha⟩
 . exact ⟨_,gr⟩
 . exact ⟨_,iY⟩
 . exact ⟨_,j6⟩
 . exact ⟨_,gu⟩
 . exact ⟨_,gI⟩
theorem BJ {sq:Hp->Addr->List V->Prop} {a:Addr} {xs:List V} {g:TG} {tb:TS} {D:Ends} {U:St} (Pv:Nat->St->Hp->Prop) (h0:Pv 0 U H) (hl:∀ i U H,i<=xs.length->Pv i U H->sq H a xs) (hs:∀ i x p U H,xs[i]?=some x->H p=none->Pv i U H->g (.ref p) U (upd H p (.tup [aO i,x])) λ σ2 H2=>tb ⟨Pv (i+1),D.rt,D.nx,Pv (i+1)⟩ σ2 H2) (hd:∀ U H,Pv xs.length U H->D.nx U H) :
   ∃ W:Nat->Nat->St->Hp->Prop,(∃ m,W 0 m U H)/\∀ i m U H,W i m U H ->
     ((FU sq a).stop i H/\D.nx U H)∨((FU sq a).go i H/\∃ N:St->Hp->Prop,(∀ σ' H',N σ' H'->∃ m',m'<m/\W (i+1) m' σ' H')/\∀ x H',(FU sq a).wm i H x H'->g x U H' λ σ2 H2=>tb { D with nx:=N,ct:=N,bk:=D.nx } σ2 H2):=by
 refine ⟨λ i m U H=>m=xs.length - i/\i<=xs.length/\Pv i U H,⟨_,rfl,aaH _,h0⟩,?_⟩
 rintro i m U H ⟨rfl,hi,p⟩
 have q:=hl i U H hi p
 by_cases iT:i<xs.length
 . refine .inr ⟨⟨xs,xs[i],q,by simp [iT]⟩,Pv (i+1),λ σ' H' p'=>⟨xs.length - (i+1),by lia,rfl,iT,p'⟩,λ v H' y=>?_⟩
   obtain ⟨pp,x,hn,rfl,rfl,e1⟩:=y
   exact hs i x pp U H (e1 xs q) hn p
 . have e:i=xs.length:=by lia
   subst e
   exact .inl ⟨⟨xs,q,rfl⟩,hd U H p⟩
theorem uv {X:Cx} {x:Str} {p pos:Pos} {k:Nat} {ps:List Str} {sp:Sp} {fu:List V} (M:vJ X.K C) (D:lP X.prog X.w X.K X.mg X.base C "__init__" k ps fu sp) (hr:ce (k+1) X.A) (hm:X.mg x=some (.ref C)) (hg:Gl X x:=by rfl) (oN:(x == ("__debug__" : Str))=false:=by decide) :
   PE X (.Call (.Name x p) [] [] pos) (nN C sp fu E0 fA):=by
 obtain ⟨ds,hd,D⟩:=D
 exact uT M D hd hr hm hg oN
section
variable {X:Cx} {e:Expr}
def we (ta:TE):TE:=λ U H Q=>ta U H λ x H1=>∃ n:Nat,x=aO n/\n<=1000/\∀ l,H1 l=none->Q (.ref l) (upd H1 l (.lst ((List.range n).map aO)))
theorem sd {p1 p2 N4 Cn:Pos} {te:TE} (hc:X.calm=true) (he:PE X e te) (YG:Gl X "list") (hm1:X.mg "list" = none) (Yw:Gl X "range") (ZD:X.mg "range" = none) (hs:starEach [e] X.env=[(false,eval e X.env)]:=by rfl) (AI:starEach [.Call (.Name "range" p2) [e] [] Cn] X.env=[(false,eval (.Call (.Name "range" p2) [e] [] Cn) X.env)]:=by rfl) :
   PE X (.Call (.Name "list" p1) [.Call (.Name "range" p2) [e] [] Cn] [] N4) (we te):=by
 intro pins s U H Q I h
 refine abe (ip I YG hm1 fW ?_ (by decide) (by decide))
 refine aaY ?_ AI rfl
 rw [AI]
 refine abI ?_
 refine abe (ip I Yw ZD boot_range ?_ (by decide) (by decide))
 refine aaY ?_ hs rfl
 rw [hs]
 refine abI (ca (he pins s U H _ I h) λ v s1 ⟨x,H1,I1,r1,q1⟩=>abU ?_)
 obtain ⟨n,rfl,hn,q⟩:=q1
 obtain ⟨t,rfl⟩:∃ t,v=Value.int (n:Int) t:=r1
 refine call_range_1 ?_
 refine abU ?_
 have I2:Inv X pins U H1 { s1 with heap:=s1.heap.push { cls:=.type "range",data:=.fields #[.int 0 s1.toks,.int (n:Int) t,.int 1 (s1.toks+1)]},toks:=s1.toks+1+1 }:=I1.kept (t':=s1.toks+1+1) λ b o e=>Ux _ e
 have hsz:Builtin.Range.rangeSize 0 (n:Int) 1=(n:Int):=by rw [rangeSize_one];split<;>lia
 refine call_list_range (n:=n) (I1.ok.hd hc) (IsRange.new ..) (small_one (by lia) (by lia) (by lia) (by lia)) hsz (by lia) λ h' tk acc c hk hD hI=>?_
 have iT:s1.heap.objs.size<(s1.heap.push { cls:=.type "range",data:=.fields #[.int 0 s1.toks,.int (n:Int) t,.int 1 (s1.toks+1)]}).objs.size:=by rw [acj];exact acl _
 refine ⟨.ref _,_,I2.laid (t':=tk) hk (Nt _) ?_,rfl,q _ (I2.cg.fresh (Nt _))⟩
 refine ⟨by rw [be,RF];exact aag (aq hn),acc.toList,c,?_,by simpa using hD⟩
 have hl:acc.toList.length=n:=by rw [aba];exact hI.1
 have hv:∀ (j:Nat) (v:Value),acc.toList[j]?=some v->∃ t,v=Value.int (j:Int) t:=λ j v ev=>by
   obtain ⟨t,et⟩:=hI.2 j v (by rw [← Array.getElem?_toList];exact ev)
   exact ⟨t,by rw [et];congr 1;lia⟩
 generalize acc.toList=l at hl hv
 have gen:∀ (l:List Value) (m:Nat),(∀ (j:Nat) (v:Value),l[j]?=some v->∃ t,v=Value.int ((m+j:Nat):Int) t)->Vals ((List.range' m l.length).map aO) l:=by
   intro l
   induction l with
   | nil=>intro m _;exact .nil
   | cons v l ih =>
     intro m hv
     obtain ⟨t,et⟩:=hv 0 v rfl
     refine .cons ⟨t,et⟩ (ih (m+1) λ j u ej=>?_)
     obtain ⟨t',X8⟩:=hv (j+1) u ej
     exact ⟨t',by rw [X8];congr 1;lia⟩
 have:=gen l 0 λ j v ev=>by obtain ⟨t,et⟩:=hv j v ev;exact ⟨t,by rw [et];congr 1;lia⟩
 rw [hl,← List.range_eq_range'] at this
 exact this
end
end L2
namespace L2
inductive A7 (a b c d e f g:Prop):Prop|mk (_:a) (_:b) (_:c) (_:d) (_:e) (_:f) (_:g)
inductive E7 {a b c d e f g:Type} (p:a->b->c->d->e->f->g->Prop):Prop|mk (x:a) (y:b) (z:c) (u:d) (v:e) (w:f) (t:g) (_:p x y z u v w t)
end L2
namespace K79
open PySem PySem.Spec PyProof.Rows L2 Mth
seal PE PS ny Xx PA PG AQ PT Ay PI
def top (i:Nat):Stmt:=PySem.Challenge.pw_stoke_k79_holds_written.main.body.getD i (.Pass ⟨0,0,0,0⟩)
abbrev sV:Stmt:=inClass (top 13) 0
abbrev rD:Stmt:=inClass (top 14) 0
abbrev iG:Stmt:=top 18
theorem eG:aC ["one","other","greater","lesser","rest"] ["one","other"] (al iG):=⟨rfl,rfl,rfl,by decide +kernel,rfl,by decide +kernel,by decide +kernel⟩
abbrev gL:Stmt:=top 19
theorem hZ:aC ["top","bottom","common"] ["top","bottom"] (al gL):=⟨rfl,rfl,rfl,by decide +kernel,rfl,by decide +kernel,by decide +kernel⟩
abbrev oQ:Stmt:=top 20
theorem zj:aC ["one","other"] ["one","other"] (al oQ):=⟨rfl,rfl,rfl,by decide +kernel,rfl,by decide +kernel,by decide +kernel⟩
abbrev lh:Stmt:=top 21
theorem wQ:aC ["one","other"] ["one","other"] (al lh):=⟨rfl,rfl,rfl,by decide +kernel,rfl,by decide +kernel,by decide +kernel⟩
abbrev kP:Stmt:=top 22
theorem wu:aC ["one","other"] ["one","other"] (al kP):=⟨rfl,rfl,rfl,by decide +kernel,rfl,by decide +kernel,by decide +kernel⟩
abbrev dH:Stmt:=top 34
theorem jT:aC ["thing","greatest"] ["thing","greatest"] (al dH):=⟨rfl,rfl,rfl,by decide +kernel,rfl,by decide +kernel,by decide +kernel⟩
abbrev fU:Stmt:=top 35
theorem oO:aC ["marks"] ["marks"] (al fU):=⟨rfl,rfl,rfl,by decide +kernel,rfl,by decide +kernel,by decide +kernel⟩
abbrev de:Stmt:=top 36
theorem cQ:aC ["rows","product","marks"] ["rows"] (al de):=⟨rfl,rfl,rfl,by decide +kernel,rfl,by decide +kernel,by decide +kernel⟩
abbrev bO:Stmt:=inClass (top 37) 0
theorem jS:aC ["self","most","cap","load"] ["self","most","cap","load"] (al bO):=⟨rfl,rfl,rfl,by decide +kernel,rfl,by decide +kernel,by decide +kernel⟩
abbrev dB:Stmt:=inClass (top 37) 1
theorem gw:aC ["self","marks","rows"] ["self","marks"] (al dB):=⟨rfl,rfl,rfl,by decide +kernel,rfl,by decide +kernel,by decide +kernel⟩
abbrev dE:Stmt:=inClass (top 37) 2
theorem jK:aC ["self","into","of","share"] ["self","into","of","share"] (al dE):=⟨rfl,rfl,rfl,by decide +kernel,rfl,by decide +kernel,by decide +kernel⟩
abbrev d7:Stmt:=inClass (top 37) 3
theorem kC:aC ["self","room","share","low","high"] ["self","room","share","low","high"] (al d7):=⟨rfl,rfl,rfl,by decide +kernel,rfl,by decide +kernel,by decide +kernel⟩
abbrev bH:Stmt:=inClass (top 37) 4
theorem ji:aC ["self","room","heat","wood","stay","fails"] ["self","room","heat","wood","stay","fails"] (al bH):=⟨rfl,rfl,rfl,by decide +kernel,rfl,by decide +kernel,by decide +kernel⟩
abbrev fS:Stmt:=inClass (top 37) 5
theorem oy:aC ["self"] ["self"] (al fS):=⟨rfl,rfl,rfl,by decide +kernel,rfl,by decide +kernel,by decide +kernel⟩
abbrev fo:Stmt:=inClass (top 37) 6
theorem mL:aC ["self","room"] ["self","room"] (al fo):=⟨rfl,rfl,rfl,by decide +kernel,rfl,by decide +kernel,by decide +kernel⟩
abbrev ff:Stmt:=inClass (top 37) 7
theorem mK:aC ["self","into","of"] ["self","into","of"] (al ff):=⟨rfl,rfl,rfl,by decide +kernel,rfl,by decide +kernel,by decide +kernel⟩
abbrev gJ:Stmt:=inClass (top 37) 8
theorem qk:aC ["self","room"] ["self","room"] (al gJ):=⟨rfl,rfl,rfl,by decide +kernel,rfl,by decide +kernel,by decide +kernel⟩
abbrev fe:Stmt:=inClass (top 37) 9
theorem mI:aC ["self","room"] ["self","room"] (al fe):=⟨rfl,rfl,rfl,by decide +kernel,rfl,by decide +kernel,by decide +kernel⟩
abbrev dg:Stmt:=inClass (top 37) 10
theorem cR:aC ["self","room","rest","other"] ["self","room"] (al dg):=⟨rfl,rfl,rfl,by decide +kernel,rfl,by decide +kernel,by decide +kernel⟩
abbrev dG:Stmt:=inClass (top 37) 11
theorem jO:aC ["self","room"] ["self","room"] (al dG):=⟨rfl,rfl,rfl,by decide +kernel,rfl,by decide +kernel,by decide +kernel⟩
abbrev bY:Stmt:=inClass (top 37) 12
theorem eC:aC ["self","room","share","former","free"] ["self","room","share","former"] (al bY):=⟨rfl,rfl,rfl,by decide +kernel,rfl,by decide +kernel,by decide +kernel⟩
abbrev fj:Stmt:=top 45
theorem mF:aC ["text"] ["text"] (al fj):=⟨rfl,rfl,rfl,by decide +kernel,rfl,by decide +kernel,by decide +kernel⟩
abbrev dA:Stmt:=top 46
theorem bC:aC ["text","below","written","slash","beneath","top","bottom"] ["text"] (al dA):=⟨rfl,rfl,rfl,by decide +kernel,rfl,by decide +kernel,by decide +kernel⟩
abbrev dF:Stmt:=top 47
theorem eE:aC ["one","top","bottom"] ["one"] (al dF):=⟨rfl,rfl,rfl,by decide +kernel,rfl,by decide +kernel,by decide +kernel⟩
abbrev iD:Stmt:=top 48
theorem rl:aC ["word"] ["word"] (al iD):=⟨rfl,rfl,rfl,by decide +kernel,rfl,by decide +kernel,by decide +kernel⟩
abbrev cy:Stmt:=top 49
theorem iM:aC ["word"] ["word"] (al cy):=⟨rfl,rfl,rfl,by decide +kernel,rfl,by decide +kernel,by decide +kernel⟩
abbrev eR:Stmt:=top 50
theorem lZ:aC ["word","names"] ["word","names"] (al eR):=⟨rfl,rfl,rfl,by decide +kernel,rfl,by decide +kernel,by decide +kernel⟩
abbrev cO:Stmt:=top 51
theorem i8:aC ["words"] ["words"] (al cO):=⟨rfl,rfl,rfl,by decide +kernel,rfl,by decide +kernel,by decide +kernel⟩
abbrev f7:Stmt:=top 52
theorem cz:aC ["lines","hold","names","place","line","words"] ["lines"] (al f7):=⟨rfl,rfl,rfl,by decide +kernel,rfl,by decide +kernel,by decide +kernel⟩
abbrev d5:Stmt:=top 53
theorem dC:aC ["words","most","cap","load"] ["words"] (al d5):=⟨rfl,rfl,rfl,by decide +kernel,rfl,by decide +kernel,by decide +kernel⟩
abbrev gX:Stmt:=top 54
theorem bS:aC ["hold","names","words","room","share","low","high","of","heat","wood","stay","fails"] ["hold","names","words"] (al gX):=⟨rfl,rfl,rfl,by decide +kernel,rfl,by decide +kernel,by decide +kernel⟩
abbrev c5:Stmt:=top 55
theorem jz:aC ["hold","names","words"] ["hold","names","words"] (al c5):=⟨rfl,rfl,rfl,by decide +kernel,rfl,by decide +kernel,by decide +kernel⟩
abbrev fY:Stmt:=top 56
theorem bK:aC ["hold","names","rooms","lines","into","of","room","heat","wood","stay","fails"] ["hold","names"] (al fY):=⟨rfl,rfl,rfl,by decide +kernel,rfl,by decide +kernel,by decide +kernel⟩
abbrev iB:Stmt:=top 57
theorem rL:aC ["word","names","fractions","wholes"] ["word","names","fractions","wholes"] (al iB):=⟨rfl,rfl,rfl,by decide +kernel,rfl,by decide +kernel,by decide +kernel⟩
abbrev eQ:Stmt:=top 59
theorem lF:aC ["_law_script","_law_k"] ["_law_script","_law_k"] (al eQ):=⟨rfl,rfl,rfl,by decide +kernel,rfl,by decide +kernel,by decide +kernel⟩
abbrev iA:Stmt:=top 60
theorem lQ:aC ["_law_cell","_law_k","_law_turn","_law_prime"] ["_law_cell","_law_k","_law_turn"] (al iA):=⟨rfl,rfl,rfl,by decide +kernel,rfl,by decide +kernel,by decide +kernel⟩
abbrev gW:Stmt:=top 61
theorem dJ:aC ["_law_top","_law_bottom","_law_one","_law_other","_law_rest"] ["_law_top","_law_bottom"] (al gW):=⟨rfl,rfl,rfl,by decide +kernel,rfl,by decide +kernel,by decide +kernel⟩
abbrev fP:Stmt:=top 62
theorem nX:aC ["_law_one"] ["_law_one"] (al fP):=⟨rfl,rfl,rfl,by decide +kernel,rfl,by decide +kernel,by decide +kernel⟩
abbrev fV:Stmt:=top 63
theorem c8:aC ["_law_cell","_law_many","_law_letters","_law_start","_law_size","_law_at","_law_sign"] ["_law_cell","_law_many"] (al fV):=⟨rfl,rfl,rfl,by decide +kernel,rfl,by decide +kernel,by decide +kernel⟩
abbrev fg:Stmt:=top 64
theorem iR:aC ["_law_cell","_law_k","_law_far"] ["_law_cell","_law_k"] (al fg):=⟨rfl,rfl,rfl,by decide +kernel,rfl,by decide +kernel,by decide +kernel⟩
abbrev f8:Stmt:=top 65
theorem eh:aC ["_law_cell","_law_k","_law_most","_law_size","_law_step","_law_begin","_law_bottom"] ["_law_cell","_law_k","_law_most"] (al f8):=⟨rfl,rfl,rfl,by decide +kernel,rfl,by decide +kernel,by decide +kernel⟩
abbrev fZ:Stmt:=top 66
theorem bi:aC ["_law_script","_law_many","_law_rooms","_law_left","_law_k","_law_cell","_law_marks_here","_law_ends","_law_bottom","_law_shares","_law_stove","_law_heat","_law_x"] ["_law_script","_law_many"] (al fZ):=⟨rfl,rfl,rfl,by decide +kernel,rfl,by decide +kernel,by decide +kernel⟩
abbrev fR:Stmt:=top 67
theorem aT:aC ["_law_rooms","_law_names_here","_law_bounds","_law_firsts","_law_skies","_law_flows","_law_stoves","_law_k","_law_marks_here","_law_ends","_law_shares","_law_stove","_law_words","_law_others","_law_j","_law_some"] ["_law_rooms","_law_names_here","_law_bounds"] (al fR):=⟨rfl,rfl,rfl,by decide +kernel,rfl,by decide +kernel,by decide +kernel⟩
abbrev gK:Stmt:=top 68
theorem cx:aC ["_law_hold","_law_rooms","_law_bounds","_law_k","_law_marks_here","_law_ends","_law_shares","_law_stove","_law_others","_law_j"] ["_law_hold","_law_rooms","_law_bounds"] (al gK):=⟨rfl,rfl,rfl,by decide +kernel,rfl,by decide +kernel,by decide +kernel⟩
abbrev qb:Stmt:=top 69
theorem bV:aC ["_law_script","_law_first","_law_many","_law_bounds","_law_names_here","_law_rooms","_law_firsts","_law_skies","_law_flows","_law_stoves","_law_due","_law_rest","_law_turn","_law_lines_here","_law_handed","_law_told","_law_shown_here","_law_again"] ["_law_script"] (al qb):=⟨rfl,rfl,rfl,by decide +kernel,rfl,by decide +kernel,by decide +kernel⟩
structure Uy where
 aX:Addr
 bu:Addr
 gg:Addr
 xB:Addr
 eX:Addr
 eF:Addr
structure Txt (K:W.Frag) (mg:Str->Option Value) (A:Uy):Prop where
 sF:mg "Hold" = some (.ref A.aX)
 jQ:mg "WORDS_OF_LINES" = some (.ref A.bu)
 eV:mg "NOUGHT" = some (.ref A.gg)
 Am:mg "WHOLE" = some (.ref A.xB)
 wa:fK (W.nsIn K A.bu "bounds") 4=true
 Fk:fK (W.nsIn K A.bu "sky") 5=true
 Cv:fK (W.nsIn K A.bu "flow") 4=true
 yO:fK (W.nsIn K A.bu "stove") 6=true
 zi:W.findIn K (.ref A.aX) "__class__" = some (some (.builtin "object.__class__"))
 zB:W.mroIn K A.aX (.type "object")=some true
 zu:W.kitOne K (.ref A.aX) (.ref A.aX)=some true
 Bi:W.specialIn K (.builtin "object.__class__") "__get__" = some (some (.builtin "getset_descriptor.__get__"))
 xw:W.takesIn K (.builtin "object.__class__")=some true
 mw:∃ t,mg "LEAST_MARKS" = some (.int 2 t)
 g7:∃ t,mg "LEAST_WORDS_OF_ROOM" = some (.int 4 t)
 oI:∃ t,mg "MOST_BANDS" = some (.int 400 t)
 lU:∃ t,mg "MOST_BURNING" = some (.int 4 t)
 rq:∃ t,mg "MOST_CAP" = some (.int 30 t)
 nZ:∃ t,mg "MOST_FAILS" = some (.int 3 t)
 lu:∃ t,mg "MOST_FIGURES" = some (.int 30 t)
 mj:∃ t,mg "MOST_LETTERS" = some (.int 8 t)
 qI:∃ t,mg "MOST_LOAD" = some (.int 30 t)
 oR:∃ t,mg "MOST_MARKS" = some (.int 7 t)
 ow:∃ t,mg "MOST_ROOMS" = some (.int 4 t)
 qN:∃ t,mg "MOST_STAY" = some (.int 3 t)
 pW:∃ t,mg "MOST_WOOD" = some (.int 9 t)
 uF:∃ t,mg "FIGURES" = some (.str (Str.ofString "0123456789") t)
 uD:∃ t,mg "LETTERS" = some (.str (Str.ofString "abcdefghijklmnopqrstuvwxyz") t)
 gF:rE K A.gg [.int 0,.int 1]
 yB:rE K A.xB [.int 1,.int 1]
 av:tP K A.aX
 tQ:vJ K A.aX
 gR:eK K A.aX "most"
 ie:eK K A.aX "cap"
 gS:eK K A.aX "load"
 b6:eK K A.aX "mark_rows"
 eM:eK K A.aX "flows"
 cJ:eK K A.aX "skies"
 d8:eK K A.aX "stoves"
 kH:gN K A.aX "__init__" "Hold.__init__" bO (.ref A.eX)
 gZ:CL K A.eX [.int 4,.int 0,.int 0]
 ky:gN K A.aX "put_room" "Hold.put_room" dB .none
 kJ:gN K A.aX "put_flow" "Hold.put_flow" dE .none
 lJ:gN K A.aX "put_sky" "Hold.put_sky" d7 .none
 j9:gN K A.aX "put_stove" "Hold.put_stove" bH (.ref A.eF)
 jM:CL K A.eF [.int 0,.int 0,.int 0]
 pQ:gN K A.aX "many" "Hold.many" fS .none
 oH:gN K A.aX "marks" "Hold.marks" fo .none
 oU:gN K A.aX "share" "Hold.share" ff .none
 sN:gN K A.aX "sky" "Hold.sky" gJ .none
 oa:gN K A.aX "stove" "Hold.stove" fe .none
 j7:gN K A.aX "own_share" "Hold.own_share" dg .none
 kA:gN K A.aX "look_for" "Hold.look_for" dG .none
 ix:gN K A.aX "look_at_share" "Hold.look_at_share" bY .none
 uY:hE K mg "divisor" iG
 sQ:hE K mg "fraction" gL
 Bj:hE K mg "plus" oQ
 zZ:hE K mg "minus" lh
 Ai:hE K mg "under" kP
 kG:hE K mg "is_whole_upto" dH
 pO:hE K mg "is_rising" fU
 jY:hE K mg "bands_together" de
 oB:hE K mg "read_whole" fj
 kF:hE K mg "read_fraction" dA
 kK:hE K mg "show_fraction" dF
 uS:hE K mg "is_name" iD
 iX:hE K mg "look_at_new_name" cy
 mB:hE K mg "room_called" eR
 jk:hE K mg "is_line_of_hold" cO
 qa:hE K mg "read_hold" f7
 ma:hE K mg "bounded_hold" d5
 si:hE K mg "put_line" gX
 jN:hE K mg "put_named_room" c5
 qo:hE K mg "show_hold" fY
 uJ:hE K mg "line_of" iB
 mH:hE K mg "_law_cell_at" eQ
 vf:hE K mg "_law_mix" iA
 rP:hE K mg "_law_part" gW
 pZ:hE K mg "_law_shown" fP
 qF:hE K mg "_law_names" fV
 on:hE K mg "_law_number" fg
 qK:hE K mg "_law_marks" f8
 qD:hE K mg "_law_drawn" fZ
 pq:hE K mg "_law_lines" fR
 sB:hE K mg "_law_asks" gK
 FP:hE K mg "law" qb
 tq:mg "abs" = none
 xv:mg "all" = none
 Dc:mg "bool" = none
 qO:mg "enumerate" = none
 AT:mg "int" = none
 dc:mg "isinstance" = none
 dR:mg "len" = none
 ic:mg "list" = none
 AF:mg "min" = none
 cZ:mg "range" = none
 iQ:mg "str" = none
 tD:mg "tuple" = none
 Ei:mg "zip" = none
abbrev kq_ (K:W.Frag) (a:Addr):Prop:=W.keepIn K (.ref a)=true
abbrev kc_ (K:W.Frag) (a:Value) (x:Str):Prop:=W.codeIn K a x=true
abbrev kf_ (K:W.Frag) (a:Addr) (b:Value) (c:Option Addr) (x y:Str) (s:Stmt) (d e f:Value) (g:Option Addr) (h i:Value) (n:Array (Option Value)):Prop:=K.lookup a=some ⟨b,c,.func (W.fnOf x y (bU s) (bz s) (al s) .none d e f g h i),n⟩
abbrev kn_ (K:W.Frag) (x:Str) (a:Addr):Prop:=W.nsIn K mainGlobals x=some (some (.ref a))
abbrev kg_ (K:W.Frag) (a:Addr) (x:Str) (b:Addr):Prop:=W.findIn K (.ref a) x=some (some (.ref b))
theorem txt_mk {K:W.Frag} {h:Heap} {mg:Str->Option Value} (X:K.In h) (G:h.Ns mainGlobals mg)
 {z0 z1 z2 z3 Fp K1 Fu FT Er FM LR DI vP wg vF vX vO vZ xT zT yr yq yM zb y9 zy zt zm zq y6 zC zN zl zf yt yG zW yk Av Ah An za zQ zk yP y0 yQ Au zY yF Ak:Addr}
 {z4 z5 z6 z7 z8 z9 ZQ z11 Zl Wr z14 Zu z16 WX Xm XJ W6 X1 z28 W3 XR z42 Yk WK Yy:Tok}
 {Za XN Z8 Zi YU Xi YA Zs W7 XX YY YT XA WM z96 z97 IH Kk Nn OA LL TH NJ Kr IP Ox Kz HF MK Mr Mw Kd Qe Qx Nc Mf Md KJ Sj KW Ph RY KN QG JP LZ Jv Pg Su SV KF Mu Tw R0 KY N6 PD Jq Qb L3 K6 K0 Nr M5 Jz KZ Rs LU PJ Pc LB Lb PC SF LK SL TR SG Q8 Rn Ko IN Lr N0 NH Sc JI Re NI So Ks RI HA JR:Option Addr}
 {Wh Wm Xr z93:Nat}
 {Ys Zd Z9 Yg z50 Ym z70 YF Z0 Yl T6 TN PX O6 Pa OF Q5 Mx Sr IX TY Kq Lh Ie N1 Ng L9 J8 Pu JW LP JF RU OE Ms IM Rx Rk Q1 JX Nq N7 QY LS SX Kg Sv Jj Q4:Array (Option Value)}
 {ZV z34 ZO z36 Vj XO Yx Z7 Wy WD Xc U1 z56 Xp Zq Yp Xo UM ZI z71 ZH ZJ XU Vi YC WW XG Yn z84 V4 We ZT X3 Ls Mi Ob EB Pp K7 HB MA N5 DL Jt JQ Nj JO M0 DP JZ KE Ta HZ R6 E6 Pj JE NN MH TW GC MD Si NL O4 QC DH OL M3 JG Po QU Ex Ib Kh SH Ny J1 E1 Ic OH MC Js Jy Eu QB Qz KG JH Ow FF Od JC Jf MF QZ Ek RP Mg Ot Ik RN DG On QH LD Pk IT Eh P7 Sf HM IU J5 EX Mb MU Li LW PL Fi MT HR Tp HQ Tu DR Ss Mv Jw LM Hz Ev KM Pl Lk HN Qq EN MZ NM Sg KC M8 D6 Me Jn LV Qn IL Ew SN RW Kf P6 Qo EL IR Om Lx IY Q0 EV MM Rz K8 MX IJ GG Iz IW QS O3 L7 DQ OM Je J2 Tf Mn F1 Rh QO O7 Ly Rw DU Ku IG Iu Qw Kj FL Nz Pz JJ M4 Nf Ff Jg Pq Sa QD R9 Fs QR PN OV KL Lp Gn La Oc QL IC Oi Ft JS KU Nd KQ Tj FZ Jr Jh HI NU Ld GI JD JL Oo MI PM Gh Nk TB IA QA Nh Fa L6 Qv R7 Ol TZ GA Th NB HV Nv HW F2 TK O8 K5 MP Pr F4 Sx Qs Qy QM Ke GH O1 Mh LI Ml MQ Es Kp:Value}
 (Ra:kn_ K "Hold" z0)
 (P5:kn_ K "WORDS_OF_LINES" z1)
 (No:kn_ K "NOUGHT" z2)
 (Iv:kn_ K "WHOLE" z3)
 (Ru:fK (W.nsIn K z1 "bounds") 4=true)
 (Iq:fK (W.nsIn K z1 "sky") 5=true)
 (KA:fK (W.nsIn K z1 "flow") 4=true)
 (Lg:fK (W.nsIn K z1 "stove") 6=true)
 (NX:W.findIn K (.ref z0) "__class__" = some (some (.builtin "object.__class__")))
 (SR:W.mroIn K z0 (.type "object")=some true)
 (N3:W.kitOne K (.ref z0) (.ref z0)=some true)
 (Jk:W.specialIn K (.builtin "object.__class__") "__get__" = some (some (.builtin "getset_descriptor.__get__")))
 (Ki:W.takesIn K (.builtin "object.__class__")=some true)
 (PQ:W.nsIn K mainGlobals "LEAST_MARKS" = some (some (.int 2 z4)))
 (Pe:W.nsIn K mainGlobals "LEAST_WORDS_OF_ROOM" = some (some (.int 4 z5)))
 (Kt:W.nsIn K mainGlobals "MOST_BANDS" = some (some (.int 400 z6)))
 (Jx:W.nsIn K mainGlobals "MOST_BURNING" = some (some (.int 4 z7)))
 (Pf:W.nsIn K mainGlobals "MOST_CAP" = some (some (.int 30 z8)))
 (Qt:W.nsIn K mainGlobals "MOST_FAILS" = some (some (.int 3 z9)))
 (OY:W.nsIn K mainGlobals "MOST_FIGURES" = some (some (.int 30 ZQ)))
 (M1:W.nsIn K mainGlobals "MOST_LETTERS" = some (some (.int 8 z11)))
 (Tl:W.nsIn K mainGlobals "MOST_LOAD" = some (some (.int 30 Zl)))
 (Tg:W.nsIn K mainGlobals "MOST_MARKS" = some (some (.int 7 Wr)))
 (Q6:W.nsIn K mainGlobals "MOST_ROOMS" = some (some (.int 4 z14)))
 (SM:W.nsIn K mainGlobals "MOST_STAY" = some (some (.int 3 Zu)))
 (Sq:W.nsIn K mainGlobals "MOST_WOOD" = some (some (.int 9 z16)))
 (NF:W.nsIn K mainGlobals "FIGURES" = some (some (.str (Str.ofString "0123456789") WX)))
 (Mc:W.nsIn K mainGlobals "LETTERS" = some (some (.str (Str.ofString "abcdefghijklmnopqrstuvwxyz") Xm)))
 (Qm:K.lookup z2=some ⟨.type "tuple",Za,.seq #[.int 0 XJ,.int 1 W6] Wh,Ys⟩)
 (IZ:K.lookup z3=some ⟨.type "tuple",XN,.seq #[.int 1 X1,.int 1 z28] Wm,Zd⟩)
 (Iy:W.plainGet K z0 Str.empty=true)
 (Qj:W.hasDictIn K z0=true)
 (OP:W.plainOver K z0=true)
 (Qf:W.findIn K (.ref z0) "__setattr__" = some (some (.builtin "object.__setattr__")))
 (PK:W.makesIn K z0=true)
 (Lf:kq_ K z0)
 (J3:W.findIn K (.ref z0) "most" = some none)
 (Op:W.findIn K (.ref z0) "cap" = some none)
 (Tr:W.findIn K (.ref z0) "load" = some none)
 (Qu:W.findIn K (.ref z0) "mark_rows" = some none)
 (QT:W.findIn K (.ref z0) "flows" = some none)
 (MW:W.findIn K (.ref z0) "skies" = some none)
 (NE:W.findIn K (.ref z0) "stoves" = some none)
 (Tt:kg_ K z0 "__init__" Fp)
 (Oj:W.isFn K (.ref Fp)=true)
 (QJ:K.lookup Fp=some ⟨ZV,Z8,.func (W.fnOf "__init__" "Hold.__init__" (bU bO) (bz bO) (al bO) (.ref K1) z34 ZO z36 Zi Vj XO),Z9⟩)
 (RG:kc_ K Vj "Hold.__init__")
 (Eg:kq_ K Fp)
 (HE:K.lookup K1=some ⟨Yx,YU,.seq #[.int 4 W3,.int 0 XR,.int 0 z42] Xr,Yg⟩)
 (Kc:kg_ K z0 "put_room" Fu)
 (Te:W.isFn K (.ref Fu)=true)
 (SQ:kf_ K Fu Z7 Xi "put_room" "Hold.put_room" dB Wy WD Xc YA U1 z56 z50)
 (TF:kc_ K U1 "Hold.put_room")
 (Fq:kq_ K Fu)
 (Rl:kg_ K z0 "put_flow" FT)
 (OU:W.isFn K (.ref FT)=true)
 (PR:kf_ K FT Xp Zs "put_flow" "Hold.put_flow" dE Zq Yp Xo W7 UM ZI Ym)
 (Il:kc_ K UM "Hold.put_flow")
 (EK:kq_ K FT)
 (Sz:kg_ K z0 "put_sky" Er)
 (TJ:W.isFn K (.ref Er)=true)
 (Oz:kf_ K Er z71 XX "put_sky" "Hold.put_sky" d7 ZH ZJ XU YY Vi YC z70)
 (RR:kc_ K Vi "Hold.put_sky")
 (FE:kq_ K Er)
 (Ps:kg_ K z0 "put_stove" FM)
 (QF:W.isFn K (.ref FM)=true)
 (QI:K.lookup FM=some ⟨WW,YT,.func (W.fnOf "put_stove" "Hold.put_stove" (bU bH) (bz bH) (al bH) (.ref LR) XG Yn z84 XA V4 We),YF⟩)
 (RM:kc_ K V4 "Hold.put_stove")
 (D1:kq_ K FM)
 (MV:K.lookup LR=some ⟨ZT,WM,.seq #[.int 0 Yk,.int 0 WK,.int 0 Yy] z93,Z0⟩)
 (Tq:kg_ K z0 "many" DI)
 (Mm:W.isFn K (.ref DI)=true)
 (Qa:kf_ K DI X3 z96 "many" "Hold.many" fS Ls Mi Ob z97 EB Pp Yl)
 (LH:kc_ K EB "Hold.many")
 (EE:kq_ K DI)
 (ME:kg_ K z0 "marks" vP)
 (NQ:W.isFn K (.ref vP)=true)
 (R8:kf_ K vP K7 IH "marks" "Hold.marks" fo HB MA N5 Kk DL Jt T6)
 (Ii:kc_ K DL "Hold.marks")
 (Gu:kq_ K vP)
 (Qg:kg_ K z0 "share" wg)
 (Lo:W.isFn K (.ref wg)=true)
 (Jp:kf_ K wg JQ Nn "share" "Hold.share" ff Nj JO M0 OA DP JZ TN)
 (Og:kc_ K DP "Hold.share")
 (EO:kq_ K wg)
 (Kx:kg_ K z0 "sky" vF)
 (TQ:W.isFn K (.ref vF)=true)
 (PP:kf_ K vF KE LL "sky" "Hold.sky" gJ Ta HZ R6 TH E6 Pj PX)
 (Ro:kc_ K E6 "Hold.sky")
 (DF:kq_ K vF)
 (KS:kg_ K z0 "stove" vX)
 (Oh:W.isFn K (.ref vX)=true)
 (Jc:kf_ K vX JE NJ "stove" "Hold.stove" fe NN MH TW Kr GC MD O6)
 (NP:kc_ K GC "Hold.stove")
 (Em:kq_ K vX)
 (QE:kg_ K z0 "own_share" vO)
 (TD:W.isFn K (.ref vO)=true)
 (QQ:kf_ K vO Si IP "own_share" "Hold.own_share" dg NL O4 QC Ox DH OL Pa)
 (SZ:kc_ K DH "Hold.own_share")
 (EY:kq_ K vO)
 (Nb:kg_ K z0 "look_for" vZ)
 (RD:W.isFn K (.ref vZ)=true)
 (Ja:kf_ K vZ M3 Kz "look_for" "Hold.look_for" dG JG Po QU HF Ex Ib OF)
 (RQ:kc_ K Ex "Hold.look_for")
 (EJ:kq_ K vZ)
 (P1:kg_ K z0 "look_at_share" xT)
 (SI:W.isFn K (.ref xT)=true)
 (Ka:kf_ K xT Kh MK "look_at_share" "Hold.look_at_share" bY SH Ny J1 Mr E1 Ic Q5)
 (QW:kc_ K E1 "Hold.look_at_share")
 (Gp:kq_ K xT)
 (Qh:kn_ K "divisor" zT)
 (Jl:kf_ K zT OH Mw "divisor" "divisor" iG MC Js Jy Kd Eu QB Mx)
 (Tv:kc_ K Eu "divisor")
 (NK:kq_ K zT)
 (Le:kn_ K "fraction" yr)
 (PV:kf_ K yr Qz Qe "fraction" "fraction" gL KG JH Ow Qx FF Od Sr)
 (LN:kc_ K FF "fraction")
 (NS:kq_ K yr)
 (Nl:kn_ K "plus" yq)
 (M6:kf_ K yq JC Nc "plus" "plus" oQ Jf MF QZ Mf Ek RP IX)
 (MY:kc_ K Ek "plus")
 (Ig:kq_ K yq)
 (Jd:kn_ K "minus" yM)
 (LY:kf_ K yM Mg Md "minus" "minus" lh Ot Ik RN KJ DG On TY)
 (SS:kc_ K DG "minus")
 (L5:kq_ K yM)
 (Sn:kn_ K "under" zb)
 (Ir:kf_ K zb QH Sj "under" "under" kP LD Pk IT KW Eh P7 Kq)
 (RS:kc_ K Eh "under")
 (HD:kq_ K zb)
 (HS:kn_ K "is_whole_upto" y9)
 (Ou:kf_ K y9 Sf Ph "is_whole_upto" "is_whole_upto" dH HM IU J5 RY EX Mb Lh)
 (Ub:kc_ K EX "is_whole_upto")
 (PZ:kq_ K y9)
 (Q2:kn_ K "is_rising" zy)
 (Ri:kf_ K zy MU KN "is_rising" "is_rising" fU Li LW PL QG Fi MT Ie)
 (Rc:kc_ K Fi "is_rising")
 (SA:kq_ K zy)
 (NR:kn_ K "bands_together" zt)
 (O0:kf_ K zt HR JP "bands_together" "bands_together" de Tp HQ Tu LZ DR Ss N1)
 (Tb:kc_ K DR "bands_together")
 (Jo:kq_ K zt)
 (Mq:kn_ K "read_whole" zm)
 (S0:kf_ K zm Mv Jv "read_whole" "read_whole" fj Jw LM Hz Pg Ev KM Ng)
 (OX:kc_ K Ev "read_whole")
 (L4:kq_ K zm)
 (Ni:kn_ K "read_fraction" zq)
 (RE:kf_ K zq Pl Su "read_fraction" "read_fraction" dA Lk HN Qq SV EN MZ L9)
 (RX:kc_ K EN "read_fraction")
 (KH:kq_ K zq)
 (RL:kn_ K "show_fraction" y6)
 (IB:kf_ K y6 NM KF "show_fraction" "show_fraction" dF Sg KC M8 Mu D6 Me J8)
 (Kw:kc_ K D6 "show_fraction")
 (TC:kq_ K y6)
 (NO:kn_ K "is_name" zC)
 (HC:kf_ K zC Jn Tw "is_name" "is_name" iD LV Qn IL R0 Ew SN Pu)
 (Ua:kc_ K Ew "is_name")
 (Mp:kq_ K zC)
 (Pb:kn_ K "look_at_new_name" zN)
 (IE:kf_ K zN RW KY "look_at_new_name" "look_at_new_name" cy Kf P6 Qo N6 EL IR JW)
 (Sd:kc_ K EL "look_at_new_name")
 (RZ:kq_ K zN)
 (HX:kn_ K "room_called" zl)
 (Pt:kf_ K zl Om PD "room_called" "room_called" eR Lx IY Q0 Jq EV MM LP)
 (PU:kc_ K EV "room_called")
 (NV:kq_ K zl)
 (NZ:kn_ K "is_line_of_hold" zf)
 (PF:kf_ K zf Rz Qb "is_line_of_hold" "is_line_of_hold" cO K8 MX IJ L3 GG Iz JF)
 (Sy:kc_ K GG "is_line_of_hold")
 (Px:kq_ K zf)
 (Ih:kn_ K "read_hold" yt)
 (MJ:kf_ K yt IW K6 "read_hold" "read_hold" f7 QS O3 L7 K0 DQ OM RU)
 (Iw:kc_ K DQ "read_hold")
 (NW:kq_ K yt)
 (OB:kn_ K "bounded_hold" yG)
 (M7:kf_ K yG Je Nr "bounded_hold" "bounded_hold" d5 J2 Tf Mn M5 F1 Rh OE)
 (HL:kc_ K F1 "bounded_hold")
 (My:kq_ K yG)
 (Q3:kn_ K "put_line" zW)
 (Ip:kf_ K zW QO Jz "put_line" "put_line" gX O7 Ly Rw KZ DU Ku Ms)
 (Ju:kc_ K DU "put_line")
 (HG:kq_ K zW)
 (QP:kn_ K "put_named_room" yk)
 (Qc:kf_ K yk IG Rs "put_named_room" "put_named_room" c5 Iu Qw Kj LU FL Nz IM)
 (J9:kc_ K FL "put_named_room")
 (OT:kq_ K yk)
 (NC:kn_ K "show_hold" Av)
 (QK:kf_ K Av Pz PJ "show_hold" "show_hold" fY JJ M4 Nf Pc Ff Jg Rx)
 (SD:kc_ K Ff "show_hold")
 (Ts:kq_ K Av)
 (Oe:kn_ K "line_of" Ah)
 (R5:kf_ K Ah Pq LB "line_of" "line_of" iB Sa QD R9 Lb Fs QR Rk)
 (Qd:kc_ K Fs "line_of")
 (Kv:kq_ K Ah)
 (ND:kn_ K "_law_cell_at" An)
 (JT:kf_ K An PN PC "_law_cell_at" "_law_cell_at" eQ OV KL Lp SF Gn La Q1)
 (Ia:kc_ K Gn "_law_cell_at")
 (Lm:kq_ K An)
 (Im:kn_ K "_law_mix" za)
 (Qi:kf_ K za Oc LK "_law_mix" "_law_mix" iA QL IC Oi SL Ft JS JX)
 (KI:kc_ K Ft "_law_mix")
 (KO:kq_ K za)
 (TV:kn_ K "_law_part" zQ)
 (KB:kf_ K zQ KU TR "_law_part" "_law_part" gW Nd KQ Tj SG FZ Jr Nq)
 (P4:kc_ K FZ "_law_part")
 (Kn:kq_ K zQ)
 (Jm:kn_ K "_law_shown" zk)
 (Kb:kf_ K zk Jh Q8 "_law_shown" "_law_shown" fP HI NU Ld Rn GI JD N7)
 (K2:kc_ K GI "_law_shown")
 (Km:kq_ K zk)
 (Pd:kn_ K "_law_names" yP)
 (Kl:kf_ K yP JL Ko "_law_names" "_law_names" fV Oo MI PM IN Gh Nk QY)
 (MB:kc_ K Gh "_law_names")
 (O2:kq_ K yP)
 (PH:kn_ K "_law_number" y0)
 (RV:kf_ K y0 TB Lr "_law_number" "_law_number" fg IA QA Nh N0 Fa L6 LS)
 (JY:kc_ K Fa "_law_number")
 (Sm:kq_ K y0)
 (OG:kn_ K "_law_marks" yQ)
 (Tz:kf_ K yQ Qv NH "_law_marks" "_law_marks" f8 R7 Ol TZ Sc GA Th SX)
 (HP:kc_ K GA "_law_marks")
 (K4:kq_ K yQ)
 (PB:kn_ K "_law_drawn" Au)
 (Lj:kf_ K Au NB JI "_law_drawn" "_law_drawn" fZ HV Nv HW Re F2 TK Kg)
 (Ix:kc_ K F2 "_law_drawn")
 (LJ:kq_ K Au)
 (ID:kn_ K "_law_lines" zY)
 (Nw:kf_ K zY O8 NI "_law_lines" "_law_lines" fR K5 MP Pr So F4 Sx Sv)
 (M9:kc_ K F4 "_law_lines")
 (P0:kq_ K zY)
 (K9:kn_ K "_law_asks" yF)
 (Mt:kf_ K yF Qs Ks "_law_asks" "_law_asks" gK Qy QM Ke RI GH O1 Jj)
 (QN:kc_ K GH "_law_asks")
 (Rt:kq_ K yF)
 (N2:kn_ K "law" Ak)
 (NA:kf_ K Ak Mh HA "law" "law" qb LI Ml MQ JR Es Kp Q4)
 (LF:kc_ K Es "law")
 (Is:kq_ K Ak)
 (Tk:W.nsIn K mainGlobals "abs" = some none)
 (OD:W.nsIn K mainGlobals "all" = some none)
 (TM:W.nsIn K mainGlobals "bool" = some none)
 (Os:W.nsIn K mainGlobals "enumerate" = some none)
 (JA:W.nsIn K mainGlobals "int" = some none)
 (Rr:W.nsIn K mainGlobals "isinstance" = some none)
 (OZ:W.nsIn K mainGlobals "len" = some none)
 (LG:W.nsIn K mainGlobals "list" = some none)
 (RC:W.nsIn K mainGlobals "min" = some none)
 (QV:W.nsIn K mainGlobals "range" = some none)
 (LO:W.nsIn K mainGlobals "str" = some none)
 (JM:W.nsIn K mainGlobals "tuple" = some none)
 (RK:W.nsIn K mainGlobals "zip" = some none)
 : Txt K mg ⟨z0,z1,z2,z3,K1,LR⟩ :=
⟨aaC X G Ra,
aaC X G P5,
aaC X G No,
aaC X G Iv,
Ru,
Iq,
KA,
Lg,
NX,
SR,
N3,
Jk,
Ki,
⟨_,aaC X G PQ⟩,
⟨_,aaC X G Pe⟩,
⟨_,aaC X G Kt⟩,
⟨_,aaC X G Jx⟩,
⟨_,aaC X G Pf⟩,
⟨_,aaC X G Qt⟩,
⟨_,aaC X G OY⟩,
⟨_,aaC X G M1⟩,
⟨_,aaC X G Tl⟩,
⟨_,aaC X G Tg⟩,
⟨_,aaC X G Q6⟩,
⟨_,aaC X G SM⟩,
⟨_,aaC X G Sq⟩,
⟨_,aaC X G NF⟩,
⟨_,aaC X G Mc⟩,
Ba Qm,
Ba IZ,
⟨Iy,Qj,OP,Qf⟩,
⟨PK,Lf⟩,
J3,
Op,
Tr,
Qu,
QT,
MW,
NE,
⟨Fp,_,⟨Tt,Oj,Eg⟩,db (st:=bO) QJ RG Eg⟩,
⟨_,_,_,HE,rfl,(.cons ⟨_,rfl⟩ (.cons ⟨_,rfl⟩ (.cons ⟨_,rfl⟩ .nil)))⟩,
⟨Fu,_,⟨Kc,Te,Fq⟩,db (st:=dB) SQ TF Fq⟩,
⟨FT,_,⟨Rl,OU,EK⟩,db (st:=dE) PR Il EK⟩,
⟨Er,_,⟨Sz,TJ,FE⟩,db (st:=d7) Oz RR FE⟩,
⟨FM,_,⟨Ps,QF,D1⟩,db (st:=bH) QI RM D1⟩,
⟨_,_,_,MV,rfl,(.cons ⟨_,rfl⟩ (.cons ⟨_,rfl⟩ (.cons ⟨_,rfl⟩ .nil)))⟩,
⟨DI,_,⟨Tq,Mm,EE⟩,db (st:=fS) Qa LH EE⟩,
⟨vP,_,⟨ME,NQ,Gu⟩,db (st:=fo) R8 Ii Gu⟩,
⟨wg,_,⟨Qg,Lo,EO⟩,db (st:=ff) Jp Og EO⟩,
⟨vF,_,⟨Kx,TQ,DF⟩,db (st:=gJ) PP Ro DF⟩,
⟨vX,_,⟨KS,Oh,Em⟩,db (st:=fe) Jc NP Em⟩,
⟨vO,_,⟨QE,TD,EY⟩,db (st:=dg) QQ SZ EY⟩,
⟨vZ,_,⟨Nb,RD,EJ⟩,db (st:=dG) Ja RQ EJ⟩,
⟨xT,_,⟨P1,SI,Gp⟩,db (st:=bY) Ka QW Gp⟩,
⟨zT,_,aaC X G Qh,bv (st:=iG) Jl Tv NK⟩,
⟨yr,_,aaC X G Le,bv (st:=gL) PV LN NS⟩,
⟨yq,_,aaC X G Nl,bv (st:=oQ) M6 MY Ig⟩,
⟨yM,_,aaC X G Jd,bv (st:=lh) LY SS L5⟩,
⟨zb,_,aaC X G Sn,bv (st:=kP) Ir RS HD⟩,
⟨y9,_,aaC X G HS,bv (st:=dH) Ou Ub PZ⟩,
⟨zy,_,aaC X G Q2,bv (st:=fU) Ri Rc SA⟩,
⟨zt,_,aaC X G NR,bv (st:=de) O0 Tb Jo⟩,
⟨zm,_,aaC X G Mq,bv (st:=fj) S0 OX L4⟩,
⟨zq,_,aaC X G Ni,bv (st:=dA) RE RX KH⟩,
⟨y6,_,aaC X G RL,bv (st:=dF) IB Kw TC⟩,
⟨zC,_,aaC X G NO,bv (st:=iD) HC Ua Mp⟩,
⟨zN,_,aaC X G Pb,bv (st:=cy) IE Sd RZ⟩,
⟨zl,_,aaC X G HX,bv (st:=eR) Pt PU NV⟩,
⟨zf,_,aaC X G NZ,bv (st:=cO) PF Sy Px⟩,
⟨yt,_,aaC X G Ih,bv (st:=f7) MJ Iw NW⟩,
⟨yG,_,aaC X G OB,bv (st:=d5) M7 HL My⟩,
⟨zW,_,aaC X G Q3,bv (st:=gX) Ip Ju HG⟩,
⟨yk,_,aaC X G QP,bv (st:=c5) Qc J9 OT⟩,
⟨Av,_,aaC X G NC,bv (st:=fY) QK SD Ts⟩,
⟨Ah,_,aaC X G Oe,bv (st:=iB) R5 Qd Kv⟩,
⟨An,_,aaC X G ND,bv (st:=eQ) JT Ia Lm⟩,
⟨za,_,aaC X G Im,bv (st:=iA) Qi KI KO⟩,
⟨zQ,_,aaC X G TV,bv (st:=gW) KB P4 Kn⟩,
⟨zk,_,aaC X G Jm,bv (st:=fP) Kb K2 Km⟩,
⟨yP,_,aaC X G Pd,bv (st:=fV) Kl MB O2⟩,
⟨y0,_,aaC X G PH,bv (st:=fg) RV JY Sm⟩,
⟨yQ,_,aaC X G OG,bv (st:=f8) Tz HP K4⟩,
⟨Au,_,aaC X G PB,bv (st:=fZ) Lj Ix LJ⟩,
⟨zY,_,aaC X G ID,bv (st:=fR) Nw M9 P0⟩,
⟨yF,_,aaC X G K9,bv (st:=gK) Mt QN Rt⟩,
⟨Ak,_,aaC X G N2,bv (st:=qb) NA LF Is⟩,
aa8 X G Tk,
aa8 X G OD,
aa8 X G TM,
aa8 X G Os,
aa8 X G JA,
aa8 X G Rr,
aa8 X G OZ,
aa8 X G LG,
aa8 X G RC,
aa8 X G QV,
aa8 X G LO,
aa8 X G JM,
aa8 X G RK⟩
section
variable {P:Program} {w:World} {K:W.Frag} {mg:Str->Option Value} {base:Heap} {Ad:Uy}
def fE {lo:Int} {n:Nat} {g:TG} {tb:TS} {D:Ends} {U:L2.St} {H:Hp} (Pv:Nat->L2.St->Hp->Prop) (h0:Pv 0 U H) (hs:let G:Nat->L2.St->Hp->Prop:=λ i U H=>g (.int (lo+i)) U H λ σ2 H2=>tb { D with nx:=Pv (i+1),ct:=Pv (i+1),bk:=D.nx } σ2 H2
   ∀ (i:Nat) (U:L2.St) (H:Hp),i<n->Pv i U H->G i U H) (hd:∀ U H,Pv n U H->D.nx U H):=mY (lo:=lo) (n:=n) (g:=g) (tb:=tb) (D:=D) (U:=U) (H:=H) Pv h0 hs hd
def j0 {K:W.Frag} {a:Addr} {xs:List V} {g:TG} {tb:TS} {D:Ends} {U:L2.St} {H:Hp} (Pv:Nat->L2.St->Hp->Prop) (h0:Pv 0 U H) (hl:∀ i U H,i<=xs.length->Pv i U H->aN K H a xs) (hs:let G:Nat->V->L2.St->Hp->Prop:=λ i x U H=>g x U H λ σ2 H2=>tb { D with nx:=Pv (i+1),ct:=Pv (i+1),bk:=D.nx } σ2 H2
   ∀ (i:Nat) (x:V) (U:L2.St) (H:Hp),xs[i]?=some x->Pv i U H->G i x U H) (hd:∀ U H,Pv xs.length U H->D.nx U H):=qM (K:=K) (a:=a) (xs:=xs) (g:=g) (tb:=tb) (D:=D) (U:=U) (H:=H) Pv h0 hl hs hd
theorem lB (T:Txt K mg Ad):Def P w K mg base "divisor" 1 ["one","other"] BM:=by
 refine T.uY.dQ eG λ f bD A outer s H vs Q E hr h=>?_
 obtain ⟨a,b,rfl,k⟩:=h
 refine ⟨_,(ac (az (i:=2) eG.nd rfl (lc rfl) (aI iz (by rfl) T.tq oA (aa (pv 0) af)))
     (ac (az (i:=3) eG.nd rfl (lc rfl) (aI iz (by rfl) T.tq oA (aa (pv 1) af)))
     (ac (pT aaS (aF mQ (pv 3) ah (aK _)) (ac (az (i:=4) eG.nd rfl (lc rfl) (am aU (pv 2) (pv 3)))
     (ac (az (i:=2) eG.nd rfl (lc rfl) (pv 3))
     (ak (az (i:=3) eG.nd rfl (lc rfl) (pv 4))))))
     (ak (aH (pv 2)))))),?_⟩
 try dsimp only [gi,bx]
 first|(refine eT ?_;intro _ _ _ _ _)|skip
 refine ⟨_,rfl,_,rfl,λ g0 eg=>⟨_,rfl,_,rfl,λ l0 el=>?_⟩⟩
 refine ⟨λ m U H'=>H'=H/\E3 λ (g l:Int) (r:Option V)=>A5 (U=[some (.int a),some (.int b),some (.int g),some (.int l),r]) (0<=g) (0<=l) (m=l.toNat) (Int.gcd g l=Int.gcd a b),
   ⟨_,rfl,g0,l0,none,rfl,by lia,by lia,rfl,by rw [eg,el];rfl⟩,?_⟩
 rintro m U H' ⟨rfl,g,l,r,rfl,hg,hl,rfl,e⟩
 refine ⟨_,rfl,rfl,_,rfl,?_⟩
 refine J6 (λ h=>?_) (λ h=>?_)
 .
  have l1:0<l:=by rw [eO] at h;lia
  refine ⟨λ σ' C7=>C7=H'/\σ'=[some (.int a),some (.int b),some (.int l),some (.int (g % l)),some (.int (g % l))],λ σ' C7 ⟨e1,e2⟩=>?_,?_⟩
  . have m0:=acw g (by lia:l≠0)
    have m1:=ab8 g l1
    exact ⟨(g % l).toNat,by lia,e1,l,g % l,_,e2,hl,m0,rfl,(A0 hg l1).trans e⟩
  . refine ⟨_,rfl,_,rfl,_,_,rfl,rfl,l1,λ r _ _ er=>?_⟩
    subst er
    exact ⟨_,rfl,_,rfl,rfl,rfl⟩
 .
  have l1:l=0:=eO.mp h
  subst l1
  refine ⟨_,rfl,k g ?_⟩
  rw [← e,Ee hg]
theorem ke (T:Txt K mg Ad):Def P w K mg base "fraction" 2 ["top","bottom"] qC:=by
 refine T.sQ.dQ hZ λ f bD A outer s H vs Q E hr h=>?_
 obtain ⟨t,b,rfl,hb,bb,k⟩:=h
 refine ⟨_,(ac (aR (aF eS (pv 1) ah (aK _)) (ak bh) aD)
     (ac (az (i:=2) hZ.nd rfl (lc rfl) (ao (lB (K:=K) T) hr.m (aa (pv 0) (aa (pv 1) af))))
     (ac (lY (aR (aF o8 (pv 1) ah (aK _)) (ak (az (i:=2) hZ.nd rfl (lc rfl) (AU vA (pv 2)))) aD))
     (ak (aH (cL (aa (am bp (pv 0) (pv 2)) (aa (am bp (pv 1) (pv 2)) af)))))))),?_⟩
 try dsimp only [gi,bx]
 first|(refine eT ?_;intro _ _ _ _ _)|skip
 refine ⟨_,rfl,rfl,_,rfl,?_⟩
 refine eY (λ e=>hb (eO.mp e)) ?_
 refine ⟨_,rfl,_,rfl,t,b,rfl,λ c ec=>?_⟩
 obtain ⟨c0,cl,fp,fn⟩:=xj hb ec
 have bc:Bd 8999 c:=(bb.le (by lia)).mono (by decide)
 refine ⟨λ σ' H'=>H'=H/\∃ c',A4 (c'≠0) (Bd 8999 c') (Fr t b (t.fdiv c') (b.fdiv c')) (σ'=[some (.int t),some (.int b),some (.int c')]),?_,?_⟩
 .
  refine ⟨_,rfl,_,_,rfl,rfl,_,rfl,?_⟩
  refine fF (λ h=>?_) (λ h=>?_)
  . exact ⟨_,rfl,_,rfl,rfl,-c,by lia,bc.neg,fn h,rfl⟩
  . exact ⟨rfl,c,by lia,bc,fp (by lia),rfl⟩
 .
  rintro σ' H' ⟨rfl,c',h1,h2,h3,rfl⟩
  refine ⟨_,rfl,_,rfl,_,_,rfl,rfl,⟨h1,h2⟩,λ q eq=>⟨_,rfl,_,rfl,_,_,rfl,rfl,⟨h1,h2⟩,λ r er=>⟨wj,λ p hp=>?_⟩⟩⟩
  subst eq er
  exact k _ _ p _ h3 (ai hp) ag
theorem yW (T:Txt K mg Ad):Def P w K mg base "plus" 3 ["one","other"] (qL (λ a b c d=>a * d+c * b) K):=by
 refine T.Bj.dQ zj λ f bD A outer s H vs Q E hr h=>?_
 obtain ⟨p1,p2,a,b,c,d,rfl,h1,h2,b0,d0,ba,bb,bc,bd,k⟩:=h
 refine ⟨_,(ak (aH (ao (ke (K:=K) T) hr.m (aa (am bq (am bG (aA au (pv 0) ah (λ _ _=>rfl)) (aA au (pv 1) ah (λ _ _=>rfl))) (am bG (aA au (pv 1) ah (λ _ _=>rfl)) (aA au (pv 0) ah (λ _ _=>rfl)))) (aa (am bG (aA au (pv 0) ah (λ _ _=>rfl)) (aA au (pv 1) ah (λ _ _=>rfl))) af))))),?_⟩
 try dsimp only [gi,bx]
 refine ⟨_,rfl,_,_,_,_,rfl,rfl,.inr h1,rfl,_,rfl,_,_,_,_,rfl,rfl,.inr h2,rfl,_,_,rfl,rfl,⟨_,_,ba,bd,by decide⟩,λ x1 e1=>?_⟩
 refine ⟨_,rfl,_,_,_,_,rfl,rfl,.inr h2,rfl,_,rfl,_,_,_,_,rfl,rfl,.inr h1,rfl,_,_,rfl,rfl,⟨_,_,bc,bb,by decide⟩,λ x2 e2=>⟨_,_,rfl,rfl,λ t et=>?_⟩⟩
 refine ⟨_,rfl,_,_,_,_,rfl,rfl,.inr h1,rfl,_,rfl,_,_,_,_,rfl,rfl,.inr h2,rfl,_,_,rfl,rfl,⟨_,_,bb,bd,by decide⟩,λ u eu=>?_⟩
 subst e1 e2 et eu
 exact ⟨_,_,rfl,abG (aa7 b0 d0),(bb.mul bd).mono (by decide),k⟩
theorem qv (T:Txt K mg Ad):Def P w K mg base "minus" 3 ["one","other"] (qL (λ a b c d=>a * d - c * b) K):=by
 refine T.zZ.dQ wQ λ f bD A outer s H vs Q E hr h=>?_
 obtain ⟨p1,p2,a,b,c,d,rfl,h1,h2,b0,d0,ba,bb,bc,bd,k⟩:=h
 refine ⟨_,(ak (aH (ao (ke (K:=K) T) hr.m (aa (am ek (am bG (aA au (pv 0) ah (λ _ _=>rfl)) (aA au (pv 1) ah (λ _ _=>rfl))) (am bG (aA au (pv 1) ah (λ _ _=>rfl)) (aA au (pv 0) ah (λ _ _=>rfl)))) (aa (am bG (aA au (pv 0) ah (λ _ _=>rfl)) (aA au (pv 1) ah (λ _ _=>rfl))) af))))),?_⟩
 try dsimp only [gi,bx]
 refine ⟨_,rfl,_,_,_,_,rfl,rfl,.inr h1,rfl,_,rfl,_,_,_,_,rfl,rfl,.inr h2,rfl,_,_,rfl,rfl,⟨_,_,ba,bd,by decide⟩,λ x1 e1=>?_⟩
 refine ⟨_,rfl,_,_,_,_,rfl,rfl,.inr h2,rfl,_,rfl,_,_,_,_,rfl,rfl,.inr h1,rfl,_,_,rfl,rfl,⟨_,_,bc,bb,by decide⟩,λ x2 e2=>⟨_,_,rfl,rfl,λ t et=>?_⟩⟩
 refine ⟨_,rfl,_,_,_,_,rfl,rfl,.inr h1,rfl,_,rfl,_,_,_,_,rfl,rfl,.inr h2,rfl,_,_,rfl,rfl,⟨_,_,bb,bd,by decide⟩,λ u eu=>?_⟩
 subst e1 e2 et eu
 exact ⟨_,_,rfl,abG (aa7 b0 d0),(bb.mul bd).mono (by decide),k⟩
theorem gE (T:Txt K mg Ad):Def P w K mg base "under" 1 ["one","other"] (vV K):=by
 refine T.Ai.dQ wu λ f bD A outer s H vs Q E hr h=>?_
 obtain ⟨p1,p2,a,b,c,d,rfl,h1,h2,ba,bb,bc,bd,k⟩:=h
 refine ⟨_,(ak (aH (iE o8 (am bG (aA au (pv 0) ah (λ _ _=>rfl)) (aA au (pv 1) ah (λ _ _=>rfl))) (am bG (aA au (pv 1) ah (λ _ _=>rfl)) (aA au (pv 0) ah (λ _ _=>rfl))) (aK _)))),?_⟩
 try dsimp only [gi,bx]
 refine ⟨_,rfl,_,_,_,_,rfl,rfl,.inr h1,rfl,_,rfl,_,_,_,_,rfl,rfl,.inr h2,rfl,_,_,rfl,rfl,⟨_,_,ba,bd,by decide⟩,λ x1 e1=>?_⟩
 refine ⟨_,rfl,_,_,_,_,rfl,rfl,.inr h2,rfl,_,rfl,_,_,_,_,rfl,rfl,.inr h1,rfl,_,_,rfl,rfl,⟨_,_,bc,bb,by decide⟩,λ x2 e2=>⟨_,_,rfl,rfl,?_⟩⟩
 subst e1 e2
 exact k
theorem bT (T:Txt K mg Ad):Def P w K mg base "is_whole_upto" 1 ["thing","greatest"] zM:=by
 refine T.kG.dQ jT λ f bD A outer s H vs Q E hr h=>?_
 obtain ⟨n,g,rfl,k⟩:=h
 refine ⟨_,(ac (aR (PW.pt (hU (bJ (aI dP (by rfl) T.dc cI (aa (pv 0) (aa (jA (v:=V.ty "bool") rfl T.Dc yT rfl) af)))) (fD (cn (bJ (aI dP (by rfl) T.dc cI (aa (pv 0) (aa (jA (v:=V.ty "int") rfl T.AT xq rfl) af)))))))) (ak (aH gG)) aD)
     (ak (aH (qm jh jh ah (pv 0) (pv 1))))),?_⟩
 try dsimp only [gi,bx]
 refine ⟨_,rfl,_,_,_,_,_,rfl,.int n,rfl,oK K,_,rfl,eB ⟨_,rfl,_,_,_,_,_,rfl,.int n,rfl,rfl,_,rfl,eB ?_⟩⟩
 refine ⟨_,rfl,_,_,rfl,rfl,_,rfl,?_⟩
 by_cases h0:(0:Int)<=n
 .
  refine xl h0 ⟨_,rfl,_,_,rfl,rfl,?_⟩
  have:decide (n<=g)=decide (0<=n/\n<=g):=decide_eq_decide.mpr ⟨λ h=>⟨h0,h⟩,λ h=>h.2⟩
  show Q (V.bl (decide (n<=g))) H
  rw [this]
  exact k
 .
  refine eY h0 ?_
  have:decide (0<=n/\n<=g)=false:=aaq λ h=>h0 h.1
  rw [this] at k
  exact k
theorem cK (T:Txt K mg Ad):g9 P w K mg base Ad.aX "many" 1 ["self"] [] (zx K Ad.aX):=by
 refine T.pQ.iy oy λ f bD A outer s H vs Q E hr h=>?_
 obtain ⟨a,fp,m,rfl,hh,k⟩:=h
 refine ⟨_,(ak (aH (aI bF (by rfl) T.dR cB (aa (cr (pv 0) rfl) af)))),?_⟩
 try dsimp only [gi,bx]
 obtain ⟨⟨dx,pm,pf,ps,pt,vm,vs,vt,aL,rfl,ha,gr,iY,j6,gu,gI,n1,n2,n3,dm,ds,dt,df,fk⟩,q1,q2,q3,q4⟩:=hh
 refine ⟨_,rfl,a,_,dx,_,_,rfl,ha,T.av,T.b6,l5 ..,_,_,rfl,.inl (aN.of iY),λ n en=>?_⟩
 have e:n=(m.rows.length:Int):=by rw [en,dm.length,be]
 rw [e]
 exact k
theorem bf (T:Txt K mg Ad):g9 P w K mg base Ad.aX "look_for" 3 ["self","room"] [] (pF K Ad.aX):=by
 refine T.kA.iy jO λ f bD A outer s H vs Q E hr h=>?_
 obtain ⟨a,fp,m,i,rfl,hh,hi,k⟩:=h
 refine ⟨_,(ak (aR (cn (lL jh o8 ah (pv 1) (fw (pv 0) T.av (cK (K:=K) T) .nil hr.m))) (ak bh) aD)),?_⟩
 try dsimp only [gi,bx]
 obtain ⟨⟨dx,pm,pf,ps,pt,vm,vs,vt,aL,mv,ha,_⟩,_⟩:=id hh
 refine ⟨_,rfl,_,_,rfl,rfl,_,rfl,xl (by lia) ⟨_,rfl,a,dx,_,rfl,ha,rfl,a,fp,m,rfl,hh,_,_,rfl,rfl,_,rfl,?_⟩⟩
 exact eU (by lia) k
theorem jG (T:Txt K mg Ad):g9 P w K mg base Ad.aX "sky" 4 ["self","room"] [] (C5 K Ad.aX):=by
 refine T.sN.iy qk λ f bD A outer s H vs Q E hr h=>?_
 obtain ⟨a,fp,m,i,z,rfl,hh,hz,k⟩:=h
 refine ⟨_,(ac (aQ (aP (pv 0) T.av (bf (K:=K) T) .nil hr.m (aa (pv 1) af)))
     (ak (aH (aA au (cr (pv 0) rfl) (pv 1) (λ _ _=>rfl))))),?_⟩
 try dsimp only [gi,bx]
 obtain ⟨⟨dx,pm,pf,ps,pt,vm,vs,vt,aL,mv,ha,gr,iY,j6,gu,gI,n1,n2,n3,dm,ds,dt,df,fk⟩,q1,q2,q3,q4⟩:=id hh
 have hi:i<m.rows.length:=by rw [← q1];exact (List.getElem?_eq_some_iff.mp hz).1
 obtain ⟨v,ev,dv⟩:=ds.get (i:=i) (d:=i3 z) (by rw [Et,hz];rfl)
 refine ⟨_,rfl,a,dx,_,rfl,ha,rfl,_,rfl,a,fp,m,i,rfl,hh,hi,?_⟩
 exact ⟨_,rfl,a,_,dx,_,_,rfl,ha,T.av,T.cJ,gy ..,_,rfl,_,_,_,_,rfl,rfl,.inl (aN.of gu),bQ ev,k v dv⟩
theorem fJ (T:Txt K mg Ad):g9 P w K mg base Ad.aX "stove" 4 ["self","room"] [] (vN K Ad.aX):=by
 refine T.oa.iy mI λ f bD A outer s H vs Q E hr h=>?_
 obtain ⟨a,fp,m,i,z,rfl,hh,hz,k⟩:=h
 refine ⟨_,(ac (aQ (aP (pv 0) T.av (bf (K:=K) T) .nil hr.m (aa (pv 1) af)))
     (ak (aH (aA au (cr (pv 0) rfl) (pv 1) (λ _ _=>rfl))))),?_⟩
 try dsimp only [gi,bx]
 obtain ⟨⟨dx,pm,pf,ps,pt,vm,vs,vt,aL,mv,ha,gr,iY,j6,gu,gI,n1,n2,n3,dm,ds,dt,df,fk⟩,q1,q2,q3,q4⟩:=id hh
 have hi:i<m.rows.length:=by rw [← q2];exact (List.getElem?_eq_some_iff.mp hz).1
 obtain ⟨v,ev,dv⟩:=dt.get (i:=i) (d:=ee z) (by rw [Et,hz];rfl)
 refine ⟨_,rfl,a,dx,_,rfl,ha,rfl,_,rfl,a,fp,m,i,rfl,hh,hi,?_⟩
 exact ⟨_,rfl,a,_,dx,_,_,rfl,ha,T.av,T.d8,iZ ..,_,rfl,_,_,_,_,rfl,rfl,.inl (aN.of gI),bQ ev,k v dv⟩
theorem hG (T:Txt K mg Ad):g9 P w K mg base Ad.aX "marks" 4 ["self","room"] [] (wA K Ad.aX):=by
 refine T.oH.iy mL λ f bD A outer s H vs Q E hr h=>?_
 obtain ⟨a,fp,m,i,r,rfl,hh,hz,k⟩:=h
 refine ⟨_,(ac (aQ (aP (pv 0) T.av (bf (K:=K) T) .nil hr.m (aa (pv 1) af)))
     (ak (aH (bB dS (by rfl) T.ic fW (aa (aA au (cr (pv 0) rfl) (pv 1) (λ _ _=>rfl)) af))))),?_⟩
 try dsimp only [gi,bx]
 obtain ⟨⟨dx,pm,pf,ps,pt,vm,vs,vt,aL,mv,ha,gr,iY,j6,gu,gI,n1,n2,n3,dm,ds,dt,df,fk⟩,q1,q2,q3,q4⟩:=id hh
 have hi:i<m.rows.length:=(List.getElem?_eq_some_iff.mp hz).1
 obtain ⟨v,ev,b,xs,rfl,hq,dv⟩:=dm.get (i:=i) (d:=mJ r) (by rw [Et,hz];rfl)
 refine ⟨_,rfl,a,dx,_,rfl,ha,rfl,_,rfl,a,fp,m,i,rfl,hh,hi,?_⟩
 exact ⟨_,rfl,a,_,dx,_,_,rfl,ha,T.av,T.b6,l5 ..,_,rfl,_,_,_,_,rfl,rfl,.inl (aN.of iY),bQ ev,b,xs,rfl,.inr hq,λ p hp=>k p xs hp dv⟩
theorem fH (T:Txt K mg Ad):g9 P w K mg base Ad.aX "own_share" 4 ["self","room"] [] (Df K Ad.aX):=by
 refine T.j7.iy cR λ f bD A outer s H vs Q E hr h=>?_
 obtain ⟨a,fp,m,i,rfl,hh,hi,k⟩:=h
 refine ⟨_,(ac (az (i:=2) cR.nd rfl (lc rfl) (ao (qv (K:=K) T) hr.m (aa (cY (v:=V.ref _) rfl T.Am rfl) (aa (aA au (aA au (cr (pv 0) rfl) (pv 1) (λ _ _=>rfl)) ah (λ _ _=>rfl)) af))))
     (ac (fM aaS rfl (bW rfl T.cZ (aa (fw (pv 0) T.av (cK (K:=K) T) .nil hr.m) af)) (ax (i:=3) cR.nd rfl (lc rfl)) (ak (az (i:=2) cR.nd rfl (lc rfl) (ao (qv (K:=K) T) hr.m (aa (pv 2) (aa (pR (xu hr) (cr (pv 0) rfl) (cL (aa (pv 1) (aa (pv 3) af))) (cY (v:=V.ref _) rfl T.eV rfl) ⟨rfl,rfl,rfl,rfl⟩) af))))))
     (ak (aH (pv 2))))),?_⟩
 try dsimp only [gi,bx]
 first|(refine ir ?_;intro _ _ _ _)|skip
 obtain ⟨⟨dx,pm,pf,ps,pt,vm,vs,vt,aL,mv,ha,gr,iY,j6,gu,gI,n1,n2,n3,dm,ds,dt,df,fk⟩,q1,q2,q3,q4⟩:=id hh
 have RO:i<m.aV.length:=by rw [q1];exact hi
 have hz:=fT RO
 obtain ⟨v,ev,dv⟩:=ds.get (i:=i) (d:=i3 m.aV[i]) (by rw [Et,hz];rfl)
 obtain ⟨p0,v1,v2,v3,rfl,vw,d1,d2,d3⟩:=dv.nG
 obtain ⟨p1,rfl,kg⟩:=d1.fr
 have es:m.aV[i].1=m.fI i:=by unfold ar.fI;rw [hz];rfl
 have o1:gv 100 m.aV[i].1:=es ▸ q4.fI i
 refine ⟨_,rfl,a,_,dx,_,_,rfl,ha,T.av,T.cJ,gy ..,_,rfl,_,_,_,_,rfl,rfl,.inl (aN.of gu),bQ ev,_,_,_,_,rfl,rfl,.inr vw,rfl,?_⟩
 refine ⟨Ad.xB,p1,1,1,_,_,rfl,T.yB.at H,kg,by decide,o1.p,yl,yl,o1.t.mono (by decide),o1.b.mono (by decide),λ q r u H1 F s1 hu=>?_⟩
 have e0:(q,r)=m.eW i 0:=by
   have:=F.nf (aa7 (by decide) o1.p)
   rw [this]
   unfold ar.eW i6
   rw [← es];rfl
 refine ⟨_,rfl,a,dx,_,rfl,s1 _ _ ha,rfl,a,fp,m,rfl,bj.same s1 hh,_,rfl,by lia,by lia,?_⟩
 refine fE (lo:=0) (n:=m.rows.length) (λ j U H'=>aG H H'/\E2 λ (u:Addr) (x:Option V)=>H' u=some (.tup [.int (m.eW i j).1,.int (m.eW i j).2])/\U=[some (.ref a),some (aO i),some (.ref u),x])
   ⟨s1,u,none,by rw [← e0];exact hu,rfl⟩ ?_ ?_
 .
  rintro _ j U H2 hj ⟨s2,u,x,hu,rfl⟩
  have oj:=(q4.eW i j).mono (show 201+101 * j<=1000 by lia)
  obtain ⟨of,ot⟩:True/\True:=⟨trivial,trivial⟩
  refine ⟨_,rfl,_,rfl,a,_,dx,_,_,rfl,s2 _ _ ha,T.av,T.eM,j8 ..,_,rfl,.inr ⟨_,.inl (s2 _ _ j6)⟩,_,rfl,_,rfl,wj,λ kp zo=>?_⟩
  have s3:=ai (o:=.tup [aO i,.int (0+(j:Int))]) zo
  have rY:(upd H2 kp (.tup [aO i,.int (0+(j:Int))])) kp=some (.tup ((fN i j).map kV)):=by rw [ag,aaU];rfl
  refine ⟨_,uB.t (s3 _ _ (s2 _ _ j6)) rY,?_⟩
  have YE:Dn K (upd H2 kp (.tup [aO i,.int (0+(j:Int))])) (cU (m.dk i j)) ((eA aL (fN i j)).getD (.ref Ad.gg)):=by
    have:=(bj.same (s2.trans s3) hh).ex
    have q:=df i j
    refine Dn.same (s2.trans s3) _ (sZ q (T.gF.fr (f:=(0,1))))
  obtain ⟨YX,XY,ZF⟩:=YE.fr
  have G7:=q4.dk i j
  rw [XY]
  refine ⟨u,YX,_,_,_,_,rfl,cE.of (s3 _ _ hu),ZF,oj.p,G7.p,oj.t,oj.b,G7.t.mono (by decide),G7.b.mono (by decide),λ q r u' H4 F s4 W8=>?_⟩
  refine ⟨s2.trans (s3.trans s4),u',_,?_,rfl⟩
  have:=F.nf (aa7 oj.p G7.p)
  rw [W8,ar.i7]
  unfold i6
  rw [← this]
 . rintro U H2 ⟨s2,u,x,hu,rfl⟩
   exact ⟨_,rfl,k _ H2 s2 (iU (cE.of hu))⟩
theorem dW (T:Txt K mg Ad):g9 P w K mg base Ad.aX "share" 5 ["self","into","of"] [] (wz K Ad.aX):=by
 refine T.oU.iy mK λ f bD A outer s H vs Q E hr h=>?_
 obtain ⟨a,fp,m,i,j,rfl,hh,hi,hj,k⟩:=h
 refine ⟨_,(ac (aQ (aP (pv 0) T.av (bf (K:=K) T) .nil hr.m (aa (pv 1) af)))
     (ac (aQ (aP (pv 0) T.av (bf (K:=K) T) .nil hr.m (aa (pv 2) af)))
     (ac (aR (aF eS (pv 1) (pv 2) (aK _)) (ak (aH (aP (pv 0) T.av (fH (K:=K) T) .nil hr.m (aa (pv 1) af)))) aD)
     (ak (aH (pR (xu hr) (cr (pv 0) rfl) (cL (aa (pv 1) (aa (pv 2) af))) (cY (v:=V.ref _) rfl T.eV rfl) ⟨rfl,rfl,rfl,rfl⟩)))))),?_⟩
 try dsimp only [gi,bx]
 first|(refine eT ?_;intro _ _ _ _ _)|skip
 obtain ⟨⟨dx,pm,pf,ps,pt,vm,vs,vt,aL,mv,ha,gr,iY,j6,gu,gI,n1,n2,n3,dm,ds,dt,df,fk⟩,q1,q2,q3,q4⟩:=id hh
 refine ⟨_,rfl,a,dx,_,rfl,ha,rfl,_,rfl,a,fp,m,i,rfl,hh,hi,⟨_,rfl,a,dx,_,rfl,ha,rfl,_,rfl,a,fp,m,j,rfl,hh,hj,?_⟩⟩
 refine ⟨_,rfl,_,rfl,rfl,_,rfl,?_⟩
 by_cases Af:i=j
 . subst Af
   refine xl rfl ⟨_,rfl,a,dx,_,rfl,ha,rfl,_,rfl,a,fp,m,i,rfl,hh,hi,λ v H' s' dv=>k v H' s' ?_⟩
   rw [ar.share,aam rfl];exact dv
 .
  refine eY (λ e=>Af (by have:=eO.mp e;lia)) ?_
  refine ⟨_,rfl,a,_,dx,_,_,rfl,ha,T.av,T.eM,j8 ..,_,rfl,.inr ⟨_,.inl j6⟩,_,rfl,_,rfl,wj,λ kp zo=>?_⟩
  have s3:=ai (o:=.tup [aO i,aO j]) zo
  have rY:(upd H kp (.tup [aO i,aO j])) kp=some (.tup ((fN i j).map kV)):=by rw [ag];rfl
  refine ⟨_,uB.t (s3 _ _ j6) rY,k _ _ s3 ?_⟩
  rw [ar.share,aak Af]
  exact Dn.same s3 _ (sZ (df i j) (T.gF.fr (f:=(0,1))))
theorem dY (T:Txt K mg Ad):g9 P w K mg base Ad.aX "look_at_share" 5 ["self","room","share","former"] [] (yL K Ad.aX):=by
 refine T.ix.iy eC λ f bD A outer s H vs Q E hr h=>?_
 obtain ⟨a,fp,m,i,v1,v2,f,g,rfl,hh,hi,d1,d2,o1,o2,hf,hu,k⟩:=h
 refine ⟨_,(ac (az (i:=4) eC.nd rfl (lc rfl) (ao (yW (K:=K) T) hr.m (aa (aP (pv 0) T.av (fH (K:=K) T) .nil hr.m (aa (pv 1) af)) (aa (pv 3) af))))
     (ak (aR (PW.pt (hU (bJ (ao (gE (K:=K) T) hr.m (aa (pv 2) (aa (cY (v:=V.ref _) rfl T.eV rfl) af)))) (fD (bJ (ao (gE (K:=K) T) hr.m (aa (pv 4) (aa (pv 2) af))))))) (ak bh) aD))),?_⟩
 try dsimp only [gi,bx]
 obtain ⟨⟨dx,pm,pf,ps,pt,vm,vs,vt,aL,mv,ha,gr,iY,j6,gu,gI,n1,n2,n3,dm,ds,dt,df,fk⟩,q1,q2,q3,q4⟩:=id hh
 obtain ⟨p1,rfl,Dh⟩:=d1.fr
 obtain ⟨p2,rfl,vB⟩:=d2.fr
 refine ⟨_,rfl,a,dx,_,rfl,ha,rfl,_,rfl,a,fp,m,i,rfl,hh,hi,λ v H1 s1 dv=>⟨_,rfl,?_⟩⟩
 obtain ⟨p3,rfl,yg⟩:=dv.fr
 have oo:gv 800 (m.own i):=(q4.eW i _).mono (by lia)
 refine ⟨p3,p2,_,_,_,_,rfl,yg,s1.tup vB,oo.p,o2.p,oo.t.mono (by decide),oo.b.mono (by decide),o2.t.mono (by decide),o2.b.mono (by decide),λ q r u H2 F s2 Tc=>?_⟩
 have e0:(q,r)=hX (m.own i) g:=F.nf (aa7 oo.p o2.p)
 have op:gv 950 (hX (m.own i) g):=(oo.plus o2).mono (by decide)
 rw [← e0] at op hu
 refine ⟨_,rfl,p1,Ad.gg,_,_,_,_,rfl,s2.tup (s1.tup Dh),T.gF.at _,o1.t.mono (by decide),o1.b.mono (by decide),yl,yl,_,rfl,eY (by lia) ?_⟩
 refine ⟨_,rfl,_,rfl,u,p1,_,_,_,_,rfl,cE.of Tc,s2.tup (s1.tup Dh),op.t.mono (by decide),op.b.mono (by decide),o1.t.mono (by decide),o1.b.mono (by decide),_,rfl,eY (ac5 hu) (k _ (s1.trans s2))⟩
theorem jv (T:Txt K mg Ad):g9 P w K mg base Ad.aX "put_flow" 6 ["self","into","of","share"] [] (pS K Ad.aX):=by
 refine T.kJ.iy jK λ f bD A outer s H vs Q E hr h=>?_
 obtain ⟨a,fp,m,i,j,v,f,rfl,hh,hi,hj,Af,dv,o1,hf,hu,k⟩:=h
 refine ⟨_,(ac (aQ (aP (pv 0) T.av (bf (K:=K) T) .nil hr.m (aa (pv 1) af)))
     (ac (aQ (aP (pv 0) T.av (bf (K:=K) T) .nil hr.m (aa (pv 2) af)))
     (ac (aR (aF eS (pv 1) (pv 2) (aK _)) (ak bh) aD)
     (ac (aQ (aP (pv 0) T.av (dY (K:=K) T) .nil hr.m (aa (pv 1) (aa (pv 3) (aa (aP (pv 0) T.av (dW (K:=K) T) .nil hr.m (aa (pv 1) (aa (pv 2) af))) af)))))
     (ak (zd (xu hr) (cr (pv 0) rfl) (cL (aa (pv 1) (aa (pv 2) af))) (pv 3) rfl)))))),?_⟩
 try dsimp only [gi,bx]
 first|(refine pN ?_;intro _ _ _ _ _ _)|skip
 obtain ⟨⟨dx,pm,pf,ps,pt,vm,vs,vt,aL,mv,ha,gr,iY,j6,gu,gI,n1,n2,n3,dm,ds,dt,df,fk⟩,q1,q2,q3,q4⟩:=id hh
 refine ⟨_,rfl,a,dx,_,rfl,ha,rfl,_,rfl,a,fp,m,i,rfl,hh,hi,⟨_,rfl,a,dx,_,rfl,ha,rfl,_,rfl,a,fp,m,j,rfl,hh,hj,?_⟩⟩
 refine ⟨_,rfl,_,rfl,rfl,_,rfl,eY (λ e=>Af (by have:=eO.mp e;lia)) ?_⟩
 refine ⟨_,rfl,a,dx,_,rfl,ha,rfl,_,rfl,_,rfl,_,rfl,a,dx,_,rfl,ha,rfl,_,rfl,_,rfl,a,fp,m,i,j,rfl,hh,hi,hj,λ z H1 s1 dz=>?_⟩
 rw [ar.share,aak Af] at dz
 refine ⟨a,fp,m,i,v,z,f,_,rfl,hh.same s1,hi,Dn.same s1 _ dv,dz,o1,q4.dk i j,hf,hu,λ H2 s2=>?_⟩
 have Vd:=s1.trans s2
 refine ⟨_,rfl,_,rfl,a,_,dx,_,_,rfl,Vd _ _ ha,T.av,T.eM,j8 ..,_,rfl,_,rfl,wj,λ kp zo=>?_⟩
 have s3:=ai (o:=.tup [aO i,aO j]) zo
 have rY:(upd H2 kp (.tup [aO i,aO j])) kp=some (.tup ((fN i j).map kV)):=by rw [ag];rfl
 have sA:=Vd.trans s3
 refine ⟨_,_,rfl,xt.t (sA _ _ j6) rY (aaT fk.len (by decide)),k _ fp (uw hh sA ha j6 (by lia) (by lia) (Dn.same sA _ dv) o1)⟩
theorem jX (T:Txt K mg Ad):g9 P w K mg base Ad.aX "put_sky" 6 ["self","room","share","low","high"] [] (rF K Ad.aX):=by
 refine T.lJ.iy kC λ f bD A outer s H vs Q E hr h=>?_
 obtain ⟨a,fp,m,i,v1,v2,v3,f,lo,hi,rfl,hh,Bn,d1,d2,d3,o1,o2,o3,X6,hf,hu,k⟩:=h
 refine ⟨_,(ac (aQ (aP (pv 0) T.av (bf (K:=K) T) .nil hr.m (aa (pv 1) af)))
     (ac (aR (bJ (ao (gE (K:=K) T) hr.m (aa (pv 4) (aa (pv 3) af)))) (ak bh) aD)
     (ac (aQ (aP (pv 0) T.av (dY (K:=K) T) .nil hr.m (aa (pv 1) (aa (pv 2) (aa (aA au (aA au (cr (pv 0) rfl) (pv 1) (λ _ _=>rfl)) ah (λ _ _=>rfl)) af)))))
     (ak (fL (cL (aa (pv 2) (aa (pv 3) (aa (pv 4) af)))) (wO (cr (pv 0) rfl) (pv 1) set_list)))))),?_⟩
 try dsimp only [gi,bx]
 first|(refine eT ?_;intro _ _ _ _ _)|skip
 obtain ⟨⟨dx,pm,pf,ps,pt,vm,vs,vt,aL,mv,ha,gr,iY,j6,gu,gI,n1,n2,n3,dm,ds,dt,df,fk⟩,q1,q2,q3,q4⟩:=id hh
 obtain ⟨p2,rfl,vB⟩:=d2.fr
 obtain ⟨p3,rfl,yg⟩:=d3.fr
 have RO:i<m.aV.length:=by rw [q1];exact Bn
 have hz:=fT RO
 obtain ⟨v,ev,dv⟩:=ds.get (i:=i) (d:=i3 m.aV[i]) (by rw [Et,hz];rfl)
 obtain ⟨p0,w1,w2,w3,rfl,vw,e1,e2,e3⟩:=dv.nG
 have es:m.aV[i].1=m.fI i:=by unfold ar.fI;rw [hz];rfl
 rw [es] at e1
 refine ⟨_,rfl,a,dx,_,rfl,ha,rfl,_,rfl,a,fp,m,i,rfl,hh,Bn,?_⟩
 refine ⟨_,rfl,_,rfl,p3,p2,_,_,_,_,rfl,yg,vB,o3.t.mono (by decide),o3.b.mono (by decide),o2.t.mono (by decide),o2.b.mono (by decide),_,rfl,eY (ac5 X6) ?_⟩
 refine ⟨_,rfl,a,dx,_,rfl,ha,rfl,_,rfl,_,rfl,_,rfl,a,_,dx,_,_,rfl,ha,T.av,T.cJ,gy ..,_,rfl,_,_,_,_,rfl,rfl,.inl (aN.of gu),bQ ev,_,_,_,_,rfl,rfl,.inr vw,rfl,?_⟩
 refine ⟨a,fp,m,i,v1,w1,f,_,rfl,hh,Bn,d1,e1,o1,q4.fI i,hf,hu,λ H2 s2=>?_⟩
 refine ⟨_,rfl,_,rfl,_,rfl,xY,λ kp zo=>?_⟩
 have s3:=ai (o:=.tup [v1,.ref p2,.ref p3]) zo
 have sA:=s2.trans s3
 have hl:vs.length=m.aV.length:=by rw [ds.length,be]
 refine ⟨_,rfl,a,_,dx,_,_,rfl,sA _ _ ha,T.av,T.cJ,gy ..,_,rfl,ps,vs,_,i,rfl,rfl,sA _ _ gu,sU (by lia),k _ fp (xD hh sA ha gu (re (cE.of ag) (Dn.same sA _ d1) (Dn.same sA _ d2) (Dn.same sA _ d3)) ⟨o1,o2,o3⟩)⟩
theorem jp (T:Txt K mg Ad):DJ P w K mg base Ad.aX "put_stove" "Hold.put_stove" bH (.ref Ad.eF) 4 ["self","room","heat","wood","stay","fails"] (jH K Ad.aX):=by
 refine T.j9.Ug ji (λ vs H Q E h=>?_) (λ f _ _ _ s H vs Q E hr h=>?_)
 . obtain ⟨a,fp,m,i,v,f,w1,st,fl,rfl,_⟩:=h
   rfl
 .
  obtain ⟨a,fp,m,i,v,f,w1,st,fl,rfl,hh,hi,dv,o1,hf,hw,oJ,XM,k⟩:=h
  refine ⟨_,(ac (aQ (aP (pv 0) T.av (bf (K:=K) T) .nil hr.m (aa (pv 1) af)))
    (ac (aR (bJ (ao (gE (K:=K) T) hr.m (aa (pv 2) (aa (cY (v:=V.ref _) rfl T.eV rfl) af)))) (ak bh) aD)
    (ac (aR (cn (bJ (ao (bT (K:=K) T) hr.m (aa (pv 3) (aa (cq rfl T.pW) af))))) (ak bh) aD)
    (ac (aR (cn (bJ (ao (bT (K:=K) T) hr.m (aa (pv 4) (aa (cq rfl T.qN) af))))) (ak bh) aD)
    (ac (aR (cn (bJ (ao (bT (K:=K) T) hr.m (aa (pv 5) (aa (cq rfl T.nZ) af))))) (ak bh) aD)
    (ak (fL (cL (aa (pv 2) (aa (pv 3) (aa (pv 4) (aa (pv 5) af))))) (wO (cr (pv 0) rfl) (pv 1) set_list)))))))),?_⟩
  try dsimp only [gi,bx]
  first|(refine qT ?_;intro _ _ _ _ _ _ _)|skip
  obtain ⟨⟨dx,pm,pf,ps,pt,vm,vs,vt,aL,mv,ha,gr,iY,j6,gu,gI,n1,n2,n3,dm,ds,dt,df,fk⟩,q1,q2,q3,q4⟩:=id hh
  obtain ⟨p,rfl,hp⟩:=dv.fr
  refine ⟨_,rfl,a,dx,_,rfl,ha,rfl,_,rfl,a,fp,m,i,rfl,hh,hi,?_⟩
  refine ⟨_,rfl,p,Ad.gg,_,_,_,_,rfl,hp,T.gF.at _,o1.t.mono (by decide),o1.b.mono (by decide),yl,yl,_,rfl,eY (by lia) ?_⟩
  refine ⟨_,rfl,w1,9,rfl,_,rfl,eU hw ⟨_,rfl,st,3,rfl,_,rfl,eU oJ ⟨_,rfl,fl,3,rfl,_,rfl,eU XM ?_⟩⟩⟩
  refine ⟨_,rfl,_,rfl,_,rfl,_,rfl,FI,λ kp zo=>?_⟩
  have sA:=ai (o:=.tup [.ref p,.int w1,.int st,.int fl]) zo
  have hl:vt.length=m.bn.length:=by rw [dt.length,be]
  exact ⟨_,rfl,a,_,dx,_,_,rfl,sA _ _ ha,T.av,T.d8,iZ ..,_,rfl,pt,vt,_,i,rfl,rfl,sA _ _ gI,sU (by lia),k _ fp (rf (z:=(f,w1,st,fl)) hh sA ha gI (i9 (cE.of ag) (aW (Dn.same sA _ dv) (aW rfl (aW rfl (aW rfl cS))))) o1)⟩
theorem h7 (T:Txt K mg Ad):lP P w K mg base Ad.aX "put_stove" 4 ["self","room","heat","wood","stay","fails"] [] (jH K Ad.aX) :=
 (jp T).wv T.jM λ items hv=>by
   obtain ⟨u1,u2,u3,rfl,r1,r2,r3⟩:=vals3 hv
   exact ⟨[],.nil,λ _ _ _ _ _ _ us hl=>match us,hl with | [_,_,_,_,_,_],_=>⟨_,rfl,rfl⟩⟩
theorem jr (T:Txt K mg Ad):Def P w K mg base "bands_together" 1 ["rows"] (wX K):=by
 refine T.jY.dQ cQ λ f bD A outer s H vs Q E hr h=>?_
 obtain ⟨p,xs,rs,rfl,hq,hd,hl,Lq,k⟩:=h
 refine ⟨_,(ac (az (i:=1) cQ.nd rfl (lc rfl) ah)
     (ac (fM aaS rfl (cP (pv 0)) (ax (i:=2) cQ.nd rfl (lc rfl)) (ak (az (i:=1) cQ.nd rfl (lc rfl) (am bG (pv 1) (am ek (aI bF (by rfl) T.dR cB (aa (pv 2) af)) ah)))))
     (ak (aH (pv 1))))),?_⟩
 try dsimp only [gi,bx]
 first|(refine ir ?_;intro _ _ _ _)|skip
 have Dv:xs.length=rs.length:=by rw [hd.length,be]
 refine ⟨_,rfl,p,rfl,⟨xs,hq⟩,?_⟩
 refine j0 (xs:=xs) (λ i U H'=>H'=H/\∃ (x:Option V),Bd (1+3 * i) (cc (rs.take i))/\U=[some (.ref p),some (.int (cc (rs.take i))),x]) ⟨rfl,none,(by show Bd 1 (cc []);exact yl),rfl⟩ (λ i U H' _ e=>by rw [e.1];exact hq) ?_ ?_
 .
  rintro _ i x U H' hx ⟨rfl,y,hb,rfl⟩
  have hi:i<rs.length:=by rw [← Dv];exact (List.getElem?_eq_some_iff.mp hx).1
  obtain ⟨v,ev,b,ys,rfl,ki,dv⟩:=hd.get (i:=i) (d:=mJ rs[i]) (by rw [Et,fT hi];rfl)
  obtain rfl:x = .ref b:=aan (hx.symm.trans ev)
  have hlen:=Lq rs[i] (aaP hi)
  have el:ys.length=rs[i].length:=by rw [dv.length,be]
  refine ⟨_,rfl,_,rfl,_,_,rfl,.inr ki,λ n en=>⟨_,_,rfl,rfl,λ u eu=>⟨_,_,rfl,rfl,?_,λ z ez=>?_⟩⟩⟩
  . exact ⟨_,3,hb,(show u.natAbs<2 ^ 3 by lia),(show 1+3 * i+3<=_ by lia)⟩
  .
   have e1:z=cc (rs.take (i+1)):=by
     rw [ez,eu,en,el]
     unfold cc
     rw [aa4,fT hi,ace];rfl
   refine ⟨rfl,_,?_,by rw [← e1];rfl⟩
   rw [← e1,ez]
   exact (hb.mul (show u.natAbs<2 ^ 3 by lia)).mono (by lia)
 .
  rintro U H' ⟨rfl,y,hb,rfl⟩
  refine ⟨_,rfl,?_⟩
  rw [Dv,aa1]
  exact k
theorem oV (T:Txt K mg Ad):Def P w K mg base "is_rising" 2 ["marks"] (vg K):=by
 refine T.pO.dQ oO λ f bD A outer s H vs Q E hr h=>?_
 obtain ⟨p,xs,r,rfl,hq,hd,ho,hl,k⟩:=h
 refine ⟨_,(ak (aH (aI (jZ rfl) (by rfl) T.xv rA (aa (fc ["low","high"] [] [] .nil rfl (Cp rfl T.Ei (aa (pv 0) (aa (cG eN (pv 0) (c9 ah) d9) af))) (λ _ _ _ _ _=>(fQ (K:=K) (n:=2) rfl rfl (aJ (ax (i:=0) (show (["low","high"]:List Str).Nodup by decide +kernel) rfl (lc rfl)) (aJ (ax (i:=1) (show (["low","high"]:List Str).Nodup by decide +kernel) rfl (lc rfl)) dZ)))) (λ _ _ _ _ _=>bZ) (λ _ _ _ _ _=>(ao (gE (K:=K) T) hr.m (aa (pv 0) (aa (pv 1) af)))) rfl (by decide +kernel) (by decide +kernel) (by decide +kernel)) af)))),?_⟩
 try dsimp only [gi,bx]
 refine ⟨_,rfl,_,rfl,1,rfl,p,xs,rfl,hq,λ p2 vB=>?_⟩
 have s2:=ai (o:=.lst (hR xs (some 1) none)) vB
 rw [xy] at s2 ⊢
 have Dv:xs.length=r.length:=by rw [hd.length,be]
 refine ⟨p,p2,rfl,⟨xs,s2.seq hq⟩,⟨xs.tail,aN.of ag⟩,λ D hD=>?_⟩
 have V3:min xs.length xs.tail.length=(List.zipWith cM r r.tail).length:=by rw [List.length_zipWith,List.length_tail,List.length_tail,Dv]
 refine xV (K:=K) (a:=p) (b:=p2) (xs:=xs) (ys:=xs.tail) (λ i acc U H'=>A4 (aG (upd H p2 (.lst xs.tail)) H') (H' D=some (.lst acc)) (acc=((List.zipWith cM r r.tail).take i).map V.bl) (E2 λ v0 v1=>U=[v0,v1]))
   ⟨ai hD,ag,rfl,none,none,rfl⟩ (λ i acc U H' _ e=>⟨e.1.seq (s2.seq hq),e.1.seq (aN.of ag)⟩) ?_ ?_
 .
  rintro i x y pp acc U H' hx hy Hf ⟨s3,iK,rfl,v0,v1,rfl⟩
  rw [ab7] at hy
  have h1:i+1<r.length:=by rw [← Dv];exact (List.getElem?_eq_some_iff.mp hy).1
  obtain ⟨u,eu,du⟩:=hd.get (i:=i) (d:=cU r[i]) (by rw [Et,fT (by lia)];rfl)
  obtain rfl:x=u:=aan (hx.symm.trans eu)
  obtain ⟨v,ev,dv⟩:=hd.get (i:=i+1) (d:=cU r[i+1]) (by rw [Et,fT h1];rfl)
  obtain rfl:y=v:=aan (hy.symm.trans ev)
  obtain ⟨a1,rfl,g1⟩:=du.fr
  obtain ⟨a2,rfl,g2⟩:=dv.fr
  have o1:=ho r[i] (aaP _)
  have o2:=ho r[i+1] (aaP _)
  have s4:aG H' (upd H' pp (.tup [.ref a1,.ref a2])):=ai Hf
  have s5:=s2.trans (s3.trans s4)
  have nD:D≠pp:=aw iK Hf
  refine ⟨pp,_,rfl,cE.of ag,rfl,_,_,rfl,_,_,rfl,rfl,?_⟩
  refine ⟨_,rfl,_,rfl,a1,a2,_,_,_,_,rfl,s5.tup g1,s5.tup g2,o1.t.mono (by decide),o1.b.mono (by decide),o2.t.mono (by decide),o2.b.mono (by decide),?_⟩
  have hb:=rZ (fT (show i<r.length by lia)) (fT h1)
  refine ⟨by rw [aE nD];exact iK,?_,aG.put (s3.trans s4) hD,ag,?_,_,_,rfl⟩
  . rw [be,aal]
    have:(7:Nat)<sizeLine:=by decide
    rw [← V3]
    lia
  . rw [aa4,hb,uk]
    rfl
 . rintro acc U H' ⟨s3,iK,rfl,v0,v1,rfl⟩
   rw [V3,aa1] at iK
   exact ⟨D,_,rfl,aN.of iK,k _ (s2.trans s3)⟩
theorem jI (T:Txt K mg Ad):g9 P w K mg base Ad.aX "put_room" 3 ["self","marks"] [] (pz K Ad.aX):=by
 refine T.ky.iy gw λ f bD A outer s H vs Q E hr h=>?_
 obtain ⟨a,fp,m,p,xs,r,rfl,hh,h4,hq,hd,ho,DY,Vu,D9,hb,k⟩:=h
 refine ⟨_,(ac (aR (aF Bg (fw (pv 0) T.av (cK (K:=K) T) .nil hr.m) (cq rfl T.ow) (aK _)) (ak bh) aD)
     (ac (aR (cn (lL jh jh (cq rfl T.mw) (aI bF (by rfl) T.dR cB (aa (pv 1) af)) (cq rfl T.oR))) (ak bh) aD)
     (ac (aR (cn (bJ (ao (oV (K:=K) T) hr.m (aa (pv 1) af)))) (ak bh) aD)
     (ac (az (i:=2) gw.nd rfl (lc rfl) (am cW (cr (pv 0) rfl) (br (aa (bB mN (by rfl) T.tD pL (aa (pv 1) af)) af))))
     (ac (aR (aF ko (ao (jr (K:=K) T) hr.m (aa (pv 2) af)) (cq rfl T.oI) (aK _)) (ak bh) aD)
     (ac (ia (pv 0) (pv 2) rfl)
     (ac (aQ (di aah aaE aaD cu (cr (pv 0) rfl) (aa (cL (aa (cY (v:=V.ref _) rfl T.eV rfl) (aa (cY (v:=V.ref _) rfl T.eV rfl) (aa (cY (v:=V.ref _) rfl T.eV rfl) af)))) af)))
     (ac (aQ (di aah aaE aaD cu (cr (pv 0) rfl) (aa oG af)))
     (ak (aH (am ek (fw (pv 0) T.av (cK (K:=K) T) .nil hr.m) ah))))))))))),?_⟩
 try dsimp only [gi,bx]
 first|(refine xX ?_;intro _ _ _ _ _ _ _ _ _ _)|skip
 obtain ⟨⟨dx,pm,pf,ps,pt,vm,vs,vt,aL,mv,ha,gr,iY,j6,gu,gI,n1,n2,n3,dm,ds,dt,df,fk⟩,q1,q2,q3,q4⟩:=id hh
 have Dv:xs.length=r.length:=by rw [hd.length,be]
 have lm:vm.length=m.rows.length:=by rw [dm.length,be]
 have ls:vs.length=m.aV.length:=by rw [ds.length,be]
 have lt:vt.length=m.bn.length:=by rw [dt.length,be]
 have szl:(7:Nat)<sizeLine:=by decide
 refine ⟨_,rfl,a,dx,_,rfl,ha,rfl,a,fp,m,rfl,hh,_,_,rfl,rfl,_,rfl,eY (by lia) ?_⟩
 refine ⟨_,rfl,_,_,rfl,.inl hq,λ n en=>⟨_,_,rfl,rfl,_,rfl,xl (by lia) ⟨_,_,rfl,rfl,_,rfl,eU (by lia) ?_⟩⟩⟩
 refine ⟨_,rfl,p,xs,r,rfl,hq,hd,ho,Vu,λ H1 s1=>⟨_,rfl,?_⟩⟩
 rw [D9]
 refine eB ?_
 refine ⟨_,rfl,a,_,dx,_,_,rfl,s1 _ _ ha,T.av,T.b6,l5 ..,_,rfl,p,xs,rfl,.inl ⟨s1.seq hq,λ kt Wi=>⟨vq,λ kl VP=>?_⟩⟩⟩
 have s2:=s1.trans (ai (o:=.tup xs) Wi)
 have s3:=s2.trans (ai (o:=.lst [.ref kt]) VP)
 refine ⟨pm,kl,vm,[.ref kt],rfl,rfl,s3 _ _ iY,ag,by rw [abF];lia,λ p3 yg=>?_⟩
 have Yo:aG (upd H1 kt (.tup xs)) _:=(ai (o:=.lst [.ref kt]) VP).trans (ai (o:=.lst (vm++[.ref kt])) yg)
 have s4:=s3.trans (ai (o:=.lst (vm++[.ref kt])) yg)
 have dr:Dn K (upd (upd (upd H1 kt (.tup xs)) kl (.lst [.ref kt])) p3 (.lst (vm++[.ref kt]))) (mJ r) (.ref kt):=i9 (cE.of (Yo _ _ ag)) (bN.same s4 _ hd)
 refine ⟨_,rfl,p3,_,m.rows++[r],rfl,aN.of ag,?_,by rw [rT,abF];lia,?_,_,_,rfl,rfl,_,rfl,eY (by lia) ?_⟩
 . rw [uk]
   exact (bN.same s4 _ dm).snoc dr
 .
  intro x hx
  rcases List.mem_append.mp hx with h|h
  . have:=q4.len x h;lia
  . rw [List.mem_singleton.mp h];lia
 refine ⟨_,rfl,_,rfl,a,_,dx,_,rfl,s4 _ _ ha,T.av,T.b6,lt1000 rfl,?_⟩
 have VS:H p3=none:=s3.free yg
 have x3a:p3≠a:=(aw ha VS).symm
 refine ⟨_,rfl,a,_,dx,_,_,rfl,ag,T.av,T.cJ,gy ..,?_⟩
 have D7:=cp gu ha nofun
 have G5:=cp gI ha nofun
 have g1:=(aE (H:=upd (upd (upd H1 kt (.tup xs)) kl (.lst [.ref kt])) p3 (.lst (vm++[.ref kt]))) (o:=.ins Ad.aX dx (bA "mark_rows" (.ref p3) (kZ m pm pf ps pt))) D7).trans (s4 _ _ gu)
 have g2:=(aE (H:=upd (upd (upd H1 kt (.tup xs)) kl (.lst [.ref kt])) p3 (.lst (vm++[.ref kt]))) (o:=.ins Ad.aX dx (bA "mark_rows" (.ref p3) (kZ m pm pf ps pt))) G5).trans (s4 _ _ gI)
 refine ⟨.inl ⟨rfl,vs,aN.of g1⟩,xY,λ q0 vw=>?_⟩
 have s5:=ai (o:=.tup [.ref Ad.gg,.ref Ad.gg,.ref Ad.gg]) vw
 refine ⟨ps,vs,_,rfl,rfl,s5 _ _ g1,by lia,?_⟩
 have g3:=(aE (o:=.lst (vs++[.ref q0])) n3.symm).trans (s5 _ _ g2)
 have g4:=(aE (o:=.lst (vs++[.ref q0])) D7.symm).trans (s5 _ _ ag)
 refine ⟨_,rfl,a,_,dx,_,_,rfl,g4,T.av,T.d8,iZ ..,.inl ⟨rfl,vt,aN.of g3⟩,pt,vt,_,rfl,rfl,g3,by lia,?_⟩
 obtain ⟨jd,D⟩:=uI (N:=Ad.gg) (r:=r) hh s4 ha iY gu gI VS ag dr h4 ho ⟨DY,Vu⟩ (λ H'=>T.gF.fr (f:=(0,1))) vw
 obtain ⟨⟨rG,vx,qW,kT,lq,_,_,_,_,_,X4,_⟩,_⟩:=id D.at_
 refine ⟨_,rfl,a,rG,_,rfl,X4,rfl,a,jd,_,rfl,D.at_,_,_,rfl,rfl,λ z ez=>?_⟩
 have e:z=(m.rows.length:Int):=by
   rw [ez]
   show (((m.rows++[r]).length:Nat):Int) - 1=_
   rw [rT,abF];lia
 rw [e]
 exact k _ jd D
theorem gx (T:Txt K mg Ad):DJ P w K mg base Ad.aX "__init__" "Hold.__init__" bO (.ref Ad.eX) 2 ["self","most","cap","load"] (oY K Ad.aX):=by
 refine T.kH.Ug jS (λ vs H Q E h=>?_) (λ f _ _ _ s H vs Q E hr h=>?_)
 . obtain ⟨x,dx,most,ig,load,rfl,_⟩:=h
   rfl
 .
  obtain ⟨x,dx,most,ig,load,rfl,hx,gr,hm,hc,hl,k⟩:=h
  refine ⟨_,(ac (aR (cn (bJ (ao (bT (K:=K) T) hr.m (aa (pv 1) (aa (cq rfl T.lU) af))))) (ak bh) aD)
    (ac (aR (cn (bJ (ao (bT (K:=K) T) hr.m (aa (pv 2) (aa (cq rfl T.rq) af))))) (ak bh) aD)
    (ac (aR (cn (bJ (ao (bT (K:=K) T) hr.m (aa (pv 3) (aa (cq rfl T.qI) af))))) (ak bh) aD)
    (ac (ia (pv 0) (pv 1) rfl)
    (ac (ia (pv 0) (pv 2) rfl)
    (ac (ia (pv 0) (pv 3) rfl)
    (ac (ia (pv 0) (br af) rfl)
    (ac (ia (pv 0) wK rfl)
    (ac (ia (pv 0) (br af) rfl)
    (ak (ia (pv 0) (br af) rfl))))))))))),?_⟩
  try dsimp only [gi,bx]
  first|(refine uf ?_;intro _ _ _ _ _ _ _ _ _ _ _)|skip
  refine ⟨_,rfl,most,4,rfl,_,rfl,eU hm ⟨_,rfl,ig,30,rfl,_,rfl,eU hc ⟨_,rfl,load,30,rfl,_,rfl,eU hl ?_⟩⟩⟩
  have B0:iO K Ad.aX x dx H H []:=.start hx
  refine ⟨_,rfl,_,rfl,x,_,dx,_,rfl,B0.at_,T.av,T.gR,lt1000 rfl,?_⟩
  have B1:=B0.put (fs':=bA "most" (.int most) [])
  refine ⟨_,rfl,_,rfl,x,_,dx,_,rfl,B1.at_,T.av,T.ie,lt1000 rfl,?_⟩
  have B2:=B1.put (fs':=bA "cap" (.int ig) (bA "most" (.int most) []))
  refine ⟨_,rfl,_,rfl,x,_,dx,_,rfl,B2.at_,T.av,T.gS,lt1000 rfl,?_⟩
  have B3:=B2.put (fs':=bA "load" (.int load) (bA "cap" (.int ig) (bA "most" (.int most) [])))
  refine ⟨aaH _,λ p1 f1=>?_⟩
  have B4:=B3.new (o:=.lst []) f1
  refine ⟨_,rfl,x,_,dx,_,rfl,B4.at_,T.av,T.b6,lt1000 rfl,λ p2 f2=>?_⟩
  have B5:=B4.put (fs':=bA "mark_rows" (.ref p1) (bA "load" (.int load) (bA "cap" (.int ig) (bA "most" (.int most) []))))
  have B6:=B5.new (o:=.dT []) f2
  refine ⟨_,rfl,x,_,dx,_,rfl,B6.at_,T.av,T.eM,lt1000 rfl,aaH _,λ p3 f3=>?_⟩
  have B7:=B6.put (fs':=bA "flows" (.ref p2) (bA "mark_rows" (.ref p1) (bA "load" (.int load) (bA "cap" (.int ig) (bA "most" (.int most) [])))))
  have B8:=B7.new (o:=.lst []) f3
  refine ⟨_,rfl,x,_,dx,_,rfl,B8.at_,T.av,T.cJ,lt1000 rfl,aaH _,λ p4 f4=>?_⟩
  have B9:=B8.put (fs':=bA "skies" (.ref p3) (bA "flows" (.ref p2) (bA "mark_rows" (.ref p1) (bA "load" (.int load) (bA "cap" (.int ig) (bA "most" (.int most) []))))))
  have Dt:=B9.new (o:=.lst []) f4
  refine ⟨_,rfl,x,_,dx,_,rfl,Dt.at_,T.av,T.d8,lt1000 rfl,?_⟩
  have Wk:=Dt.put (fs':=kZ (ar.new most ig load) p1 p2 p3 p4)
  have h1:=B4.keep (u:=.ins Ad.aX dx (bA "mark_rows" (.ref p1) (bA "load" (.int load) (bA "cap" (.int ig) (bA "most" (.int most) []))))) ag (B3.ne f1)
  have V5:=B6.keep (u:=.ins Ad.aX dx (bA "flows" (.ref p2) (bA "mark_rows" (.ref p1) (bA "load" (.int load) (bA "cap" (.int ig) (bA "most" (.int most) [])))))) (ai (o:=.dT []) f2 _ _ h1) (B3.ne f1)
  have Ww:=B6.keep (u:=.ins Ad.aX dx (bA "flows" (.ref p2) (bA "mark_rows" (.ref p1) (bA "load" (.int load) (bA "cap" (.int ig) (bA "most" (.int most) [])))))) ag (B5.ne f2)
  have kk:=λ b o (h:_=some o) (n:b≠x)=>B8.keep (b:=b) (u:=.ins Ad.aX dx (bA "skies" (.ref p3) (bA "flows" (.ref p2) (bA "mark_rows" (.ref p1) (bA "load" (.int load) (bA "cap" (.int ig) (bA "most" (.int most) []))))))) h n
  have Us:=kk _ _ (ai (o:=.lst []) f3 _ _ V5) (B3.ne f1)
  have Xz:=kk _ _ (ai (o:=.lst []) f3 _ _ Ww) (B5.ne f2)
  have Vc:=kk _ _ ag (B7.ne f3)
  have kl:=λ b o (h:_=some o) (n:b≠x)=>Dt.keep (b:=b) (u:=.ins Ad.aX dx (kZ (ar.new most ig load) p1 p2 p3 p4)) h n
  have W2:=kl _ _ (ai (o:=.lst []) f4 _ _ Us) (B3.ne f1)
  have YI:=kl _ _ (ai (o:=.lst []) f4 _ _ Xz) (B5.ne f2)
  have Ye:=kl _ _ (ai (o:=.lst []) f4 _ _ Vc) (B7.ne f3)
  have WY:=kl _ _ ag (B9.ne f4)
  exact k _ _ (wV Wk hx gr W2 YI Ye WY (B3.none f1) (B5.none f2) (B7.none f3) (B9.none f4) (aw V5 f3) (aw Us f4) (aw Vc f4))
theorem iN (T:Txt K mg Ad):lP P w K mg base Ad.aX "__init__" 2 ["self","most","cap","load"] [] (oY K Ad.aX) :=
 (gx T).wv T.gZ λ items hv=>by
   obtain ⟨u1,u2,u3,rfl,r1,r2,r3⟩:=vals3 hv
   exact ⟨[],.nil,λ _ _ _ _ _ _ us hl=>match us,hl with | [_,_,_,_],_=>⟨_,rfl,rfl⟩⟩
inductive C4  (vs:List V) (H:Hp) (Q:VK) (_E:XK):Prop
 | mk (c k t:Int) (_:vs=[.int c,.int k,.int t]) (_:0<=k) (_:k<=1000) (_:0<=t) (_:t<=7) (_:∀ H' r,aG H H'->0<=r->r<=65537->Q (.int r) H')
theorem uZ {t:Int} (h0:0<=t) (h1:t<=7):∃ p:Int,mZ ([.int 65537,.int 65521,.int 65519,.int 65497,.int 65479,.int 65449,.int 65447,.int 65437]:List V) t=some (.int p)/\65437<=p/\p<=65537:=by
 have:t=0∨t=1∨t=2∨t=3∨t=4∨t=5∨t=6∨t=7:=by lia
 rcases this with rfl|rfl|rfl|rfl|rfl|rfl|rfl|rfl<;>exact ⟨_,rfl,by decide,by decide⟩
theorem gY (T:Txt K mg Ad):Def P w K mg base "_law_mix" 1 ["_law_cell","_law_k","_law_turn"] C4:=by
 refine T.vf.dQ lQ λ f bD A outer s H vs Q E hr h=>?_
 obtain ⟨c,k,t,rfl,k0,k1,t0,t1,q⟩:=h
 refine ⟨_,(ac (az (i:=3) lQ.nd rfl (lc rfl) (aA au (br (aa ah (aa ah (aa ah (aa ah (aa ah (aa ah (aa ah (aa ah af))))))))) (pv 2) (λ _ _=>rfl)))
     (ak (aH (am aU (am bG (am bq (am aU (pv 0) ah) ah) (am bq (am bq (am bG (pv 1) (pv 1)) ah) (am bG ah (pv 2)))) (pv 3))))),?_⟩
 try dsimp only [gi,bx]
 obtain ⟨pr,Wd,p0,p1⟩:=uZ t0 t1
 refine ⟨(by show 8<=sizeLine;decide),λ pl hC=>⟨_,rfl,pl,_,_,_,rfl,rfl,.inl (aN.of ag),Wd,?_⟩⟩
 refine ⟨_,rfl,_,_,rfl,rfl,by decide,λ m m0 m1 _=>⟨_,_,rfl,rfl,λ a ea=>⟨_,rfl,_,rfl,_,_,rfl,rfl,⟨100,100,jV 100 (by lia) (by lia),jV 100 (by lia) (by lia),by decide⟩,λ kk Uh=>?_⟩⟩⟩
 have kk0:0<=kk:=by rw [Uh];exact abO k0 k0
 have kk1:kk<=1000 * 1000:=by rw [Uh];exact Int.mul_le_mul k1 k1 k0 (by decide)
 refine ⟨_,_,rfl,rfl,λ s1 es1=>⟨_,rfl,_,_,rfl,rfl,⟨100,100,jV 100 (by lia) (by lia),jV 100 (by lia) (by lia),by decide⟩,λ tt ett=>⟨_,_,rfl,rfl,λ s2 es2=>?_⟩⟩⟩
 refine ⟨_,_,rfl,rfl,⟨100,100,jV 100 (by lia) (by lia),jV 100 (by lia) (by lia),by decide⟩,λ pp epp=>⟨_,rfl,_,_,rfl,rfl,by lia,λ r r0 r1 _=>?_⟩⟩
 exact q _ r (ai hC) r0 (by lia)
theorem fX (T:Txt K mg Ad):Def P w K mg base "_law_part" 1 ["_law_top","_law_bottom"] wt:=by
 refine T.rP.dQ dJ λ f bD A outer s H vs Q E hr h=>?_
 obtain ⟨t,b,rfl,hb,bb,k⟩:=h
 refine ⟨_,(ac (az (i:=2) dJ.nd rfl (lc rfl) (aI iz (by rfl) T.tq oA (aa (pv 0) af)))
     (ac (az (i:=3) dJ.nd rfl (lc rfl) (pv 1))
     (ac (pT aaS (aF ko (pv 3) ah (aK _)) (ac (az (i:=4) dJ.nd rfl (lc rfl) (am aU (pv 2) (pv 3)))
     (ac (az (i:=2) dJ.nd rfl (lc rfl) (pv 3))
     (ak (az (i:=3) dJ.nd rfl (lc rfl) (pv 4))))))
     (ak (aH (cL (aa (am bp (pv 0) (pv 2)) (aa (am bp (pv 1) (pv 2)) af)))))))),?_⟩
 try dsimp only [gi,bx]
 first|(refine eT ?_;intro _ _ _ _ _)|skip
 refine ⟨_,rfl,_,rfl,λ g0 eg=>⟨_,rfl,?_⟩⟩
 refine ⟨λ m U H'=>H'=H/\E3 λ (g l:Int) (r:Option V)=>A5 (U=[some (.int t),some (.int b),some (.int g),some (.int l),r]) (0<=g) (0<=l) (m=l.toNat) (Int.gcd g l=Int.gcd t b),
   ⟨_,rfl,g0,b,none,rfl,by lia,by lia,rfl,by rw [eg];rfl⟩,?_⟩
 rintro m U H' ⟨rfl,g,l,r,rfl,hg,hl,rfl,e⟩
 refine ⟨_,rfl,_,_,rfl,rfl,_,rfl,?_⟩
 refine fF (λ h=>?_) (λ h=>?_)
 .
  have l1:0<l:=h
  refine ⟨λ σ' C7=>C7=H'/\σ'=[some (.int t),some (.int b),some (.int l),some (.int (g % l)),some (.int (g % l))],λ σ' C7 ⟨e1,e2⟩=>?_,?_⟩
  . have m0:=acw g (by lia:l≠0)
    have m1:=ab8 g l1
    exact ⟨(g % l).toNat,by lia,e1,l,g % l,_,e2,hl,m0,rfl,(A0 hg l1).trans e⟩
  . refine ⟨_,rfl,_,rfl,_,_,rfl,rfl,l1,λ r _ _ er=>?_⟩
    subst er
    exact ⟨_,rfl,_,rfl,rfl,rfl⟩
 .
  have l1:l=0:=by lia
  subst l1
  have ec:g=((Int.gcd t b:Nat):Int):=by rw [← e,Ee hg]
  obtain ⟨c0,cl,fp,fn⟩:=xj (by lia:b≠0) ec
  have bc:Bd 8999 g:=(bb.le (by lia)).mono (by decide)
  refine ⟨_,rfl,_,rfl,_,_,rfl,rfl,⟨by lia,bc⟩,λ q eq=>⟨_,rfl,_,rfl,_,_,rfl,rfl,⟨by lia,bc⟩,λ r er=>⟨wj,λ p hp=>?_⟩⟩⟩
  subst eq er
  exact k _ _ p _ (fp hb) (ai hp) ag
theorem cV (T:Txt K mg Ad):Def P w K mg base "_law_cell_at" 1 ["_law_script","_law_k"] (sE K):=by
 refine T.mH.dQ lF λ f bD A outer s H vs Q E hr h=>?_
 obtain ⟨a,ns,z,rfl,hS,hz,k⟩:=h
 refine ⟨_,(ac (aR (aF o8 (pv 1) (aI bF (by rfl) T.dR cB (aa (pv 0) af)) (aK _)) (ak (aH (aA au (pv 0) (pv 1) (λ _ _=>rfl)))) aD)
     (ak (aH ah))),?_⟩
 try dsimp only [gi,bx]
 refine ⟨_,rfl,_,rfl,_,_,rfl,.inl hS,λ n en=>⟨_,_,rfl,rfl,_,rfl,?_⟩⟩
 rw [be] at en
 refine fF (λ h=>?_) (λ h=>?_)
 .
  have hl:z.toNat<ns.length:=by lia
  have e:(ns.map V.int)[z.toNat]?=some (.int (ns[z.toNat]'hl)):=by simp [hl]
  have e2:=jx e
  rw [ab2 hz] at e2
  refine ⟨_,rfl,_,rfl,_,_,_,_,rfl,rfl,.inl hS,e2,k _ (.inl (aaP hl))⟩
 . exact k 0 (.inr rfl)
def tj (c:Nat):Bool:=decide (48<=c/\c<=57)
inductive sY  (vs:List V) (H:Hp) (Q:VK) (_E:XK):Prop
 | mk (z:_) (_:vs=[.str z]) (_:Tx.Good z) (_:∀ H',aG H H'->Q (.int (Tx.valOf z)) H')
theorem len_list (z:Str):z.cps.toList.length=z.length:=aba
theorem zr (z:Str):PySem.Txt.startswith z (Str.ofString "0")=decide (z.cps.toList.head?=some 48):=by
 have e:Str.ofString "0" = ⟨#[48]⟩:=by decide +kernel
 rw [e]
 exact Tx.t8 z 48
theorem wN (cs:List Nat):((cs.map tj).all id)=true↔PySem.NumText.AllDigits cs:=by
 rw [abc]
 constructor
 . intro h c hc
   exact ab9 (h (tj c) (abM hc))
 . intro h b hb
   obtain ⟨c,hc,rfl⟩:=List.mem_map.mp hb
   exact aaz (h c hc)
theorem eP (T:Txt K mg Ad):Def P w K mg base "read_whole" 1 ["text"] sY:=by
 refine T.oB.dQ mF λ f bD A outer s H vs Q E hr h=>?_
 obtain ⟨z,rfl,g,k⟩:=h
 refine ⟨_,(ac (aR (PW.pt (hU (cn (lL jh jh ah (aI gT (by rfl) T.dR cB (aa (pv 0) af)) (cq rfl T.lu))) (fD (cn (bJ (aI (jZ rfl) (by rfl) T.xv rA (aa (fc ["sign"] [] [] .nil rfl (vM (pv 0)) (λ _ _ _ _ _=>(ax (i:=0) (show (["sign"]:List Str).Nodup by decide +kernel) rfl (lc rfl))) (λ _ _ _ _ _=>bZ) (λ _ _ _ _ _=>(iE nH (pv 0) (qy rfl T.uF) (by with_unfolding_all rfl))) rfl (by decide +kernel) (by decide +kernel) (by decide +kernel)) af))))))) (ak bh) aD)
     (ac (aR (PW.pt (nY (bJ (di aaM acs acr mP (pv 0) (aa bw af))) (kQ (aF ko (aI gT (by rfl) T.dR cB (aa (pv 0) af)) ah (aK _))))) (ak bh) aD)
     (ak (aH (bB mz (by rfl) T.AT xq (aa (pv 0) af)))))),?_⟩
 try dsimp only [gi,bx]
 first|(refine ir ?_;intro _ _ _ _)|skip
 obtain ⟨g1,g2,g3,g4⟩:=id g
 have hsz:z.length<=sizeLine:=aag (aq (by lia))
 refine ⟨_,rfl,z,rfl,hsz,_,_,rfl,rfl,_,rfl,fF (λ l1=>⟨_,_,rfl,rfl,_,rfl,?_⟩) (λ l1=>absurd (show (1:Int)<=(z.length:Int) by lia) l1)⟩
 refine eU (show (z.length:Int)<=30 by lia) ?_
 refine ⟨_,rfl,z,rfl,λ D hD=>?_⟩
 refine qE (λ i acc U H'=>A3 (H'=upd H D (.lst acc)) (acc=((z.cps.toList.take i).map tj).map V.bl) (∃ v,U=[v])) ⟨rfl,rfl,none,rfl⟩ ?_ ?_
 .
  rintro i c acc U H' hc ⟨rfl,rfl,v,rfl⟩
  refine ⟨_,rfl,_,_,rfl,rfl,ag,?_,?_,?_,_,rfl⟩
  . rw [be,be,aal];exact aq (by have:=len_list z;lia)
  . rw [kW]
  .
   have e:=zR c
   unfold zJ at e
   have ss:z.cps.toList[i]?=some c:=by simpa using hc
   rw [e,mR ss,uk,uk]
   rfl
 rintro acc U H' ⟨rfl,rfl,v,rfl⟩
 have sD:=ai (o:=.lst (((z.cps.toList.take z.cps.size).map tj).map V.bl)) hD
 refine ⟨D,_,rfl,aN.of ag,_,rfl,?_⟩
 have et:z.cps.toList.take z.cps.size=z.cps.toList:=aaN (by rw [aba];exact Nt _)
 rw [et,(wN _).mpr g3]
 refine eB ?_
 refine ⟨_,rfl,rfl,_,_,rfl,rfl,_,rfl,?_⟩
 rw [zr]
 have en:PySem.intText? z=some (Tx.valOf z):=PySem.intText_digits g3 (λ e=>by have:=len_list z;rw [e] at this;simp at this;lia) (by lia)
 refine fF (λ h1=>⟨_,rfl,z,rfl,hsz,_,_,rfl,rfl,_,rfl,eY (λ h2=>g4 ⟨h1,by have h2:(1:Int)<(z.length:Int):=h2;lia⟩) ?_⟩) (λ h1=>?_)
 . exact ⟨_,rfl,z,_,rfl,en,by lia,k _ (et ▸ sD)⟩
 . exact ⟨_,rfl,z,_,rfl,en,by lia,k _ (et ▸ sD)⟩
inductive qB  (vs:List V) (H:Hp) (Q:VK) (_E:XK):Prop
 | mk (z f:_) (_:vs=[.str z]) (_:z.length<=900) (_:Tx.Rd z f) (_:∀ p H',aG H H'->H' p=some (.tup [.int f.1,.int f.2])->Q (.ref p) H')
inductive lX (K:W.Frag) (vs:List V) (H:Hp) (Q:VK) (_E:XK):Prop
 | mk (p t b:_) (_:vs=[.ref p]) (_:cE K H p [.int t,.int b]) (_:t.natAbs<10 ^ 30) (_:1<=b) (_:b<10 ^ 30) (_:Q (.str (Tx.fO t b)) H)
theorem vH:Str.ofString "/" = Tx.sl:=by decide +kernel
theorem FO:Str.ofString "-" = Tx.mi:=by decide +kernel
theorem yY {z:Str} {U:L2.St} {H:Hp} {Q:VK} {i j:Nat} (h0:U[i]?=some (some (.str z))) (h1:U[j]?=some (some (.bl (Tx.ii z)))) (hz:z.length<=sizeLine) (h:∀ y:Str,y=Tx.bodyOf z->y.length<=z.length->Q (.str y) H) :
   Vm (tB (cN j)) (Vb Ey (cN i) (AZ (tC (.int 1))) tZ) (cN i) U H Q:=by
 refine ⟨_,h1,_,rfl,?_⟩
 cases hn:Tx.ii z
 . exact eB ⟨_,h0,h z (by unfold Tx.bodyOf;rw [hn];rfl) (Nt _)⟩
 .
  refine wC ⟨_,h0,_,rfl,z,rfl,hz,λ y ey ly=>h y ?_ ly⟩
  unfold Tx.bodyOf
  rw [hn]
  exact ey
theorem jj {n:Nat} (h:n<10 ^ 30):n.log2<1920:=by
 rcases ab5 n with e|e
 . subst e;decide
 . refine (Nat.log2_lt (by lia)).mpr (aai h ?_)
   exact aaO (by decide:10 ^ 30<=2 ^ 100) (abW (by decide) (by decide))
theorem CG {c:Bool} {A B:Prop} (h:c=true->B->A) (b:B):(if c=true then A else B):=by
 cases c
 . exact b
 . exact h rfl b
theorem dh (T:Txt K mg Ad):Def P w K mg base "read_fraction" 2 ["text"] qB:=by
 refine T.kF.dQ bC λ f bD A outer s H vs Q E hr h=>?_
 obtain ⟨z,f,rfl,hz,rd,k⟩:=h
 refine ⟨_,(ac (az (i:=1) bC.nd rfl (lc rfl) (di aaM acs acr mP (pv 0) (aa bw af)))
     (ac (fL (di aaM PySem.F.slot_str_partition PySem.F.type_str_partition zp (md (bJ (pv 1)) (cG vL (pv 0) (c9 ah) d9) (pv 0)) (aa bw af)) (fQ (K:=K) (n:=3) rfl rfl (aJ (ax (i:=2) bC.nd rfl (lc rfl)) (aJ (ax (i:=3) bC.nd rfl (lc rfl)) (aJ (ax (i:=4) bC.nd rfl (lc rfl)) dZ)))))
     (ac (az (i:=5) bC.nd rfl (lc rfl) (ao (eP (K:=K) T) hr.m (aa (pv 2) af)))
     (ac (aR (PW.pt (nY (bJ (pv 1)) (kQ (aF eS (pv 5) ah (aK _))))) (ak bh) aD)
     (ac (az (i:=6) bC.nd rfl (lc rfl) ah)
     (ac (lY (aR (aF eS (pv 3) bw (aK _)) (ac (az (i:=6) bC.nd rfl (lc rfl) (ao (eP (K:=K) T) hr.m (aa (pv 4) af)))
     (ak (aR (PW.pt (hU (aF o8 (pv 6) ah (aK _)) (fD (aF ko (ao (lB (K:=K) T) hr.m (aa (pv 5) (aa (pv 6) af))) ah (aK _))))) (ak bh) aD))) aD))
     (ak (aH (cL (aa (md (bJ (pv 1)) (AU vA (pv 5)) (pv 5)) (aa (pv 6) af))))))))))),?_⟩
 try dsimp only [gi,bx]
 first|(refine lM ?_;intro _ _ _ _ _ _ _ _)|skip
 have hsz:z.length<=sizeLine:=aag (aq (by lia))
 refine ⟨_,rfl,rfl,_,_,rfl,rfl,?_⟩
 have es:PySem.Txt.startswith z (Str.ofString "-")=Tx.ii z:=by rw [FO];exact Tx.t8 z 45
 rw [es]
 refine yY (i:=0) (j:=1) rfl rfl hsz λ y ey ly=>?_
 refine ⟨rfl,_,_,rfl,rfl,(by decide +kernel),aag (aq (by lia)),λ p hp=>?_⟩
 rw [vH,ey]
 have s0:=ai (o:=.tup [.str (PySem.Txt.partition (Tx.bodyOf z) Tx.sl).1,.str (PySem.Txt.partition (Tx.bodyOf z) Tx.sl).2.1,.str (PySem.Txt.partition (Tx.bodyOf z) Tx.sl).2.2]) hp
 unfold Tx.Rd at rd
 refine ⟨p,_,rfl,cE.of ag,rfl,_,_,rfl,_,_,rfl,_,_,rfl,rfl,?_⟩
 generalize PySem.Txt.partition (Tx.bodyOf z) Tx.sl=pt at *
 obtain ⟨a,sp,b⟩:=pt
 dsimp only at *
 obtain ⟨ga,ZX,ef,hb⟩:=rd
 refine ⟨_,rfl,a,rfl,ga,λ H1 s1=>?_⟩
 have t1:=s0.trans s1
 have gl:=Tx.yA ga
 have fin:∀ {H3:Hp},aG H H3->∀ q:Addr,H3 q=none->Q (.ref q) (upd H3 q (.tup [.int (Tx.um z * Tx.valOf a),.int f.2])):=λ {H3} t3 q hq=>by
   have:=k q (upd H3 q (.tup [.int (Tx.um z * Tx.valOf a),.int f.2])) (t3.trans (ai hq)) (by rw [← ef];exact ag)
   exact this
 refine ⟨_,rfl,_,rfl,CG (λ hn b=>⟨_,rfl,rfl,_,rfl,eY (λ e=>ZX hn (eO.mp e)) b⟩) ?_⟩
 refine ⟨λ σ' H'=>aG H H'/\σ'=[some (.str z),some (.bl (Tx.ii z)),some (.str a),some (.str sp),some (.str b),some (.int (Tx.valOf a)),some (.int f.2)],?_,?_⟩
 .
  refine ⟨_,rfl,rfl,_,rfl,fF (λ h=>?_) (λ h=>?_)⟩
  .
   have hs:sp=Tx.sl:=str_inj.mp h
   rcases hb with ⟨_,gb,b2,hg,fb⟩|⟨n,_⟩
   rotate_left
   . exact absurd hs n
   refine ⟨_,rfl,b,rfl,gb,λ H3 s3=>?_⟩
   refine ⟨_,rfl,_,_,rfl,rfl,_,rfl,eY (by lia) ?_⟩
   refine ⟨_,rfl,_,rfl,_,_,rfl,λ d ed=>⟨_,_,rfl,rfl,_,rfl,eY (by lia) ?_⟩⟩
   exact ⟨t1.trans s3,by rw [fb];rfl⟩
  . rcases hb with ⟨e,_⟩|⟨_,fb⟩
    . exact absurd (str_inj.mpr e) h
    exact ⟨t1,by rw [fb];rfl⟩
 .
  rintro σ' H3 ⟨t3,rfl⟩
  have fin:=fin t3
  unfold Tx.um at fin
  refine ⟨_,rfl,_,rfl,?_⟩
  cases hn:Tx.ii z with
  | false =>
    rw [hn,aak OR,Int.one_mul] at fin
    exact eB ⟨_,rfl,_,rfl,(by show 2<=sizeLine;decide),fin⟩
  | true =>
    rw [hn,aam rfl,Int.neg_mul,Int.one_mul] at fin
    exact wC ⟨_,rfl,_,rfl,_,rfl,(by show 2<=sizeLine;decide),fin⟩
theorem jR (T:Txt K mg Ad):Def P w K mg base "show_fraction" 1 ["one"] (lX K):=by
 refine T.kK.dQ eE λ f bD A outer s H vs Q E hr h=>?_
 obtain ⟨p,t,b,rfl,hp,ht,hb,RH,k⟩:=h
 refine ⟨_,(ac (fL (pv 0) (fQ (K:=K) (n:=2) rfl rfl (aJ (ax (i:=1) eE.nd rfl (lc rfl)) (aJ (ax (i:=2) eE.nd rfl (lc rfl)) dZ))))
     (ak (aH (md (aF eS (pv 2) ah (aK _)) (vK (sM (pv 1))) (xS (sM (pv 1)) bw (sM (pv 2))))))),?_⟩
 try dsimp only [gi,bx]
 refine ⟨_,rfl,p,_,rfl,hp,rfl,_,_,rfl,_,_,rfl,rfl,?_⟩
 refine ⟨_,rfl,rfl,_,rfl,fF (λ h=>?_) (λ h=>?_)⟩
 .
  have CM:b=1:=eO.mp h
  unfold Tx.fO at k
  rw [aam CM,← Tx.str_int] at k
  exact ⟨_,rfl,t,rfl,jj ht,k⟩
 .
  have CM:b≠1:=λ e=>h (eO.mpr e)
  unfold Tx.fO at k
  have e2:Str.ofString (toString b)=Tx.strN b.natAbs:=by
    rw [Tx.str_int]
    unfold Tx.jE
    rw [aak (by lia)]
  rw [aak CM,← Tx.str_int,← e2,← vH] at k
  have t1:=Tx.rK ht
  have g2:=(Tx.c7 (n:=b.natAbs) (by lia)).1.2.1
  rw [← Tx.str_int] at t1
  rw [← e2] at g2
  have l1:(Str.ofString "/").length=1:=by decide +kernel
  refine ⟨_,rfl,t,rfl,jj ht,_,rfl,aag (aq (by lia)),_,rfl,?_,_,rfl,b,rfl,jj (by lia),_,rfl,?_,k⟩
  . rw [aaj];exact aag (aq (by lia))
  . rw [aaj,aaj];exact aag (aq (by lia))
theorem tE:Str.ofString " " = Bl.sp:=by decide +kernel
def kR:Str:=Str.ofString "abcdefghijklmnopqrstuvwxyz"
theorem oP:kR.cps.toList=Nm.F5:=Nm.sR
theorem se (c:Nat):(!(PySem.Builtin.Str.occurrences kR ⟨#[c]⟩ 0 kR.length 1).isEmpty)=decide (97<=c/\c<=122):=by
 rw [acJ,oP,ack]
 unfold Nm.F5
 simp only [aaa,GV,aaI]
 (omega)
structure Ca (z:Str):Prop where
 l1:1<=z.length
 l8:z.length<=8
 lo:∀ c∈z.cps.toList,97<=c/\c<=122
def A2 (c:Nat):Bool:=decide (97<=c/\c<=122)
inductive yp  (vs:List V) (H:Hp) (Q:VK) (_E:XK):Prop
 | mk (z:_) (_:vs=[.str z]) (_:Ca z) (_:∀ H',aG H H'->Q (.bl true) H')
theorem qY (T:Txt K mg Ad):Def P w K mg base "is_name" 1 ["word"] yp:=by
 refine T.uS.dQ rl λ f bD A outer s H vs Q E hr h=>?_
 obtain ⟨z,rfl,g,k⟩:=h
 refine ⟨_,(ak (aH (BC (qm jh jh ah (aI gT (by rfl) T.dR cB (aa (pv 0) af)) (cq rfl T.mj)) (Cj (aI (jZ rfl) (by rfl) T.xv rA (aa (fc ["sign"] [] [] .nil rfl (vM (pv 0)) (λ _ _ _ _ _=>(ax (i:=0) (show (["sign"]:List Str).Nodup by decide +kernel) rfl (lc rfl))) (λ _ _ _ _ _=>bZ) (λ _ _ _ _ _=>(iE nH (pv 0) (qy rfl T.uD) (by with_unfolding_all rfl))) rfl (by decide +kernel) (by decide +kernel) (by decide +kernel)) af)))))),?_⟩
 try dsimp only [gi,bx]
 have l1:=g.l1
 have l8:=g.l8
 have ll:=len_list z
 have hsz:z.length<=sizeLine:=aag (aq (by lia))
 refine ⟨_,rfl,z,rfl,hsz,_,_,rfl,rfl,_,rfl,fF (λ _=>?_) λ z=>absurd (show (1:Int)<=_ by lia) z⟩
 refine ⟨_,_,rfl,rfl,_,rfl,fF (λ _=>?_) λ z=>absurd (show _<=(8:Int) by lia) z⟩
 refine ⟨_,rfl,z,rfl,λ D hD=>?_⟩
 refine qE (λ i acc U H'=>A3 (H'=upd H D (.lst acc)) (acc=((z.cps.toList.take i).map A2).map V.bl) (∃ v,U=[v])) ⟨rfl,rfl,none,rfl⟩ ?_ ?_
 .
  rintro i c acc U H' hc ⟨rfl,rfl,v,rfl⟩
  refine ⟨_,rfl,_,_,rfl,rfl,ag,?_,?_,?_,_,rfl⟩
  . rw [be,be,aal];exact aq (by lia)
  . rw [kW]
  .
   have e:=se c
   unfold kR at e
   have ss:z.cps.toList[i]?=some c:=by simpa using hc
   rw [e,mR ss,uk,uk]
   rfl
 .
  rintro acc U H' ⟨rfl,rfl,v,rfl⟩
  refine ⟨D,_,rfl,aN.of ag,?_⟩
  have et:z.cps.toList.take z.cps.size=z.cps.toList:=aaN (by rw [aba];exact Nt _)
  have ea:((z.cps.toList.take z.cps.size).map A2).all id=true:=by
    rw [et,abc]
    intro b hb
    obtain ⟨c,hc,rfl⟩:=List.mem_map.mp hb
    exact aaz (g.lo c hc)
  rw [ea]
  exact k _ (ai hD)
inductive Cs  (vs:List V) (H:Hp) (Q:VK) (_E:XK):Prop
 | mk (z:_) (_:vs=[.str z]) (_:Ca z) (_:∀ H',aG H H'->Q .cD H')
theorem iP (T:Txt K mg Ad):Def P w K mg base "look_at_new_name" 2 ["word"] Cs:=by
 refine T.iX.dQ iM λ f bD A outer s H vs Q E hr h=>?_
 obtain ⟨z,rfl,g,k⟩:=h
 refine ⟨_,(ak (aR (cn (bJ (ao (qY (K:=K) T) hr.m (aa (pv 0) af)))) (ak bh) aD)),?_⟩
 try dsimp only [gi,bx]
 exact ⟨_,rfl,z,rfl,g,λ H' S=>⟨_,rfl,eB (k H' S)⟩⟩
theorem nS (w:Str):∀ l:List Str,GP (.str w) (l.map V.str)=decide (w∈l)
 | []=>rfl
 | a::l=>by
   show (zK (.str a) (.str w) || GP (.str w) (l.map V.str))=_
   rw [nS w l]
   show ((a == w) || decide (w∈l))=_
   by_cases h:a=w
   . subst h;simp
   . have h2:¬ w=a:=λ e=>h e.symm
     simp [h,h2]
theorem qH (l:List Str):(l.map V.str).all jB=true:=by
 rw [abc]
 intro x hx
 obtain ⟨w,_,rfl⟩:=List.mem_map.mp hx
 rfl
inductive Ao (K:W.Frag) (vs:List V) (H:Hp) (Q:VK) (_E:XK):Prop
 | mk (z p:_) (L:List Str) (_:vs=[.str z,.ref p]) (_:aN K H p (L.map V.str)) (_:L.length<=8) (_:z∈L) (_:Q (aO (L.idxOf z)) H)
theorem ib (T:Txt K mg Ad):Def P w K mg base "room_called" 1 ["word","names"] (Ao K):=by
 refine T.mB.dQ lZ λ f bD A outer s H vs Q E hr h=>?_
 obtain ⟨z,p,L,rfl,hp,l8,hz,k⟩:=h
 refine ⟨_,(ac (aR (aF o0 (pv 0) (pv 1) (by with_unfolding_all rfl)) (ak bh) aD)
     (ak (aH (di aah acL PySem.F.type_list_index uL (pv 1) (aa (pv 0) af))))),?_⟩
 try dsimp only [gi,bx]
 refine ⟨_,rfl,_,rfl,p,L.map V.str,rfl,.inl hp,rfl,qH L,_,rfl,?_⟩
 rw [nS,aaz hz]
 refine eB ⟨_,rfl,.inl ⟨rfl,_,hp⟩,_,rfl,p,L,z,rfl,rfl,hp,hz,by lia,k⟩
def UV (ws:List Str):Prop:=(ws.head?=some (Str.ofString "room")/\4<=ws.length)∨(ws.head?=some (Str.ofString "bounds")/\ws.length=4)∨(ws.head?=some (Str.ofString "sky")/\ws.length=5)∨(ws.head?=some (Str.ofString "flow")/\ws.length=4)∨(ws.head?=some (Str.ofString "stove")/\ws.length=6)
inductive CY (K:W.Frag) (vs:List V) (H:Hp) (Q:VK) (_E:XK):Prop
 | mk (p:_) (ws:List Str) (_:vs=[.ref p]) (_:aN K H p (ws.map V.str)) (_:UV ws) (_:ws.length<=20) (_:Q (.bl true) H)
theorem i5 (T:Txt K mg Ad) (D:KD w.params K Ad.bu):Def P w K mg base "is_line_of_hold" 1 ["words"] (CY K):=by
 refine T.jk.dQ i8 λ f bD A outer s H vs Q E hr h=>?_
 obtain ⟨p,ws,rfl,hp,hl,l20,k⟩:=h
 refine ⟨_,(ac (aR (aF eS (aA au (pv 0) ah (λ _ _=>rfl)) bw (aK _)) (ak (aH (iE Bg (aI bF (by rfl) T.dR cB (aa (pv 0) af)) (cq rfl T.g7) (aK _)))) aD)
     (ak (aH (iE eS (yf rfl T.jQ D (aa (aA au (pv 0) ah (λ _ _=>rfl)) af)) (aI bF (by rfl) T.dR cB (aa (pv 0) af)) (aK _))))),?_⟩
 try dsimp only [gi,bx]
 have FB:∀ {z:Str},ws.head?=some z->mZ (ws.map V.str) 0=some (.str z):=λ {z} e=>by
   cases ws with
   | nil=>cases e
   | cons a l=>cases e;exact bQ (i:=0) rfl
 have ll:(ws.map V.str).length=ws.length:=be ..
 rcases hl with ⟨h0,h1⟩|h
 .
  refine ⟨_,rfl,p,_,_,_,rfl,rfl,.inl hp,FB h0,rfl,_,rfl,fF (λ _=>?_) λ z=>absurd rfl z⟩
  refine ⟨_,rfl,p,_,rfl,.inl hp,λ n en=>⟨_,_,rfl,rfl,?_⟩⟩
  rw [aaz (show (4:Int)<=n by lia)]
  exact k
 .
  have key:∃ z:Str,∃ n:Int,ws.head?=some z/\z≠Str.ofString "room"/\fK (W.nsIn K Ad.bu z) n=true/\(ws.length:Int)=n:=by
    rcases h with ⟨h0,h1⟩|⟨h0,h1⟩|⟨h0,h1⟩|⟨h0,h1⟩
    . exact ⟨_,4,h0,by decide +kernel,T.wa,by lia⟩
    . exact ⟨_,5,h0,by decide +kernel,T.Fk,by lia⟩
    . exact ⟨_,4,h0,by decide +kernel,T.Cv,by lia⟩
    . exact ⟨_,6,h0,by decide +kernel,T.yO,by lia⟩
  obtain ⟨z,n,h0,nr,iv,en⟩:=key
  obtain ⟨v,ev,rv⟩:=uK iv
  refine ⟨_,rfl,p,_,_,_,rfl,rfl,.inl hp,FB h0,rfl,_,rfl,eY (λ e=>nr (str_inj.mp e)) ?_⟩
  refine ⟨_,rfl,p,_,_,_,rfl,rfl,.inl hp,FB h0,z,v,_,rfl,ev,rv,?_⟩
  refine ⟨_,rfl,p,_,rfl,.inl hp,λ n' Yc=>⟨rfl,?_⟩⟩
  rw [show n'=n by lia,aaz rfl]
  exact k
theorem iL (T:Txt K mg Ad):lP P w K mg base Ad.aX "__init__" 2 ["self","most","cap","load"] [.int 4,.int 0,.int 0] (oY K Ad.aX) :=
 (gx T).wv T.gZ λ items hv=>by
   obtain ⟨u1,u2,u3,rfl,r1,r2,r3⟩:=vals3 hv
   exact ⟨[u1,u2,u3],.cons r1 (.cons r2 (.cons r3 .nil)),λ _ _ _ _ _ _ us hl=>match us,(by simpa using hl:us.length=1) with | [_],_=>⟨_,rfl,rfl⟩⟩
theorem none_of {H0 H:Hp} {x:Addr} (s:aG H0 H) (h:H x=none):H0 x=none:=by
 cases e:H0 x with
 | none=>rfl
 | some o=>rw [s _ _ e] at h;cases h
theorem mO {C x dx:Addr} {H H':Hp} {fp:List Addr} {m:ar} (hx:H x=none) (gr:H dx=none) (d:kL K C (upd (upd H dx (.own x)) x (.ins C dx [])) x [x,dx] m H' fp):aG H H'/\∀ z∈fp,H z=none:=by
 have sm:aG H (upd (upd H dx (.own x)) x (.ins C dx [])):=λ b o hb=>by rw [aE (aw hb hx),aE (aw hb gr)];exact hb
 refine ⟨λ b o hb=>d.but b o (sm b o hb) λ h=>?_,λ z hz=>?_⟩
 .
  simp only [aaa,GV,aaI] at h
  rcases h with rfl|rfl
  . rw [hx] at hb;cases hb
  . rw [gr] at hb;cases hb
 .
  rcases d.own z hz with h|h
  . simp only [aaa,GV,aaI] at h
    rcases h with rfl|rfl
    . exact hx
    . exact gr
  . exact none_of sm h
inductive BO (K:W.Frag) (C:Addr) (vs:List V) (H:Hp) (Q:VK) (_E:XK):Prop
 | mk (p:_) (a b c:Nat) (_:vs=[.ref p]) (_:aN K H p ([Str.ofString "bounds",Tx.strN a,Tx.strN b,Tx.strN c].map V.str)) (_:a<=4) (_:b<=30) (_:c<=30) (_:∀ x fp H',aG H H'->(∀ z∈fp,H z=none)->bj K C H' x fp (ar.new a b c)->Q (.ref x) H')
theorem kB (T:Txt K mg Ad):Def P w K mg base "bounded_hold" 4 ["words"] (BO K Ad.aX):=by
 refine T.ma.dQ dC λ f bD A outer s H vs Q E hr h=>?_
 obtain ⟨p,a,b,c,rfl,hp,ha,hb,hc,k⟩:=h
 refine ⟨_,(ac (fL (fc ["word"] [] [] .nil rfl (cP (cG eN (pv 0) (c9 ah) d9)) (λ _ _ _ _ _=>(ax (i:=0) (show (["word"]:List Str).Nodup by decide +kernel) rfl (lc rfl))) (λ _ _ _ _ _=>bZ) (λ _ _ _ _ _=>(ao (eP (K:=K) T) hr.m (aa (pv 0) af))) rfl (by decide +kernel) (by decide +kernel) (by decide +kernel)) (oC (K:=K) (n:=3) rfl rfl (aJ (ax (i:=1) dC.nd rfl (lc rfl)) (aJ (ax (i:=2) dC.nd rfl (lc rfl)) (aJ (ax (i:=3) dC.nd rfl (lc rfl)) dZ)))))
     (ak (aH (wB T.tQ (iN (K:=K) T) hr.m T.sF (aa (pv 1) (aa (pv 2) (aa (pv 3) af))))))),?_⟩
 try dsimp only [gi,bx]
 have g:∀ {x:Nat},x<=30->Tx.Good (Tx.strN x)/\Tx.valOf (Tx.strN x)=x:=λ {x} h=>Tx.c7 (aaT h (by decide))
 obtain ⟨ga,va⟩:=g (show a<=30 by lia)
 obtain ⟨gb,vb⟩:=g hb
 obtain ⟨gc,vc⟩:=g hc
 refine ⟨_,rfl,1,rfl,p,_,rfl,hp,λ q hq=>?_⟩
 have S1:=ai (o:=.lst ([Tx.strN a,Tx.strN b,Tx.strN c].map V.str)) hq
 have k1:(upd H q (.lst ([Tx.strN a,Tx.strN b,Tx.strN c].map V.str))) q=some (.lst ([Tx.strN a,Tx.strN b,Tx.strN c].map V.str)):=ag
 rw [show hR ([Str.ofString "bounds",Tx.strN a,Tx.strN b,Tx.strN c].map V.str) (some 1) none=[Tx.strN a,Tx.strN b,Tx.strN c].map V.str from rfl]
 generalize upd H q (.lst ([Tx.strN a,Tx.strN b,Tx.strN c].map V.str))=H1 at S1 k1 ⊢
 refine ⟨q,rfl,⟨_,aN.of k1⟩,λ D hD=>?_⟩
 refine dO (K:=K) (a:=q) (xs:=[Tx.strN a,Tx.strN b,Tx.strN c].map V.str) (λ i acc U H'=>A4 (aG H1 H') (H' D=some (.lst acc)) (acc=([a,b,c].take i).map aO) (∃ v,U=[v])) ⟨ai hD,ag,rfl,none,rfl⟩ (λ i acc U H' _ e=>by obtain ⟨e,_⟩:=e;exact aN.of (e _ _ k1)) ?_ ?_
 .
  rintro i x acc U H' hx ⟨S,tf,rfl,v,rfl⟩
  match i,hx with
  | 0,hx =>
    cases hx
    exact ⟨_,rfl,_,rfl,ga,λ H2 S2=>⟨S2 _ _ tf,aq (by show 0<=1000;decide),(S.trans S2).put hD,ag,by rw [va];rfl,_,rfl⟩⟩
  | 1,hx =>
    cases hx
    exact ⟨_,rfl,_,rfl,gb,λ H2 S2=>⟨S2 _ _ tf,aq (by show 1<=1000;decide),(S.trans S2).put hD,ag,by rw [vb];rfl,_,rfl⟩⟩
  | 2,hx =>
    cases hx
    exact ⟨_,rfl,_,rfl,gc,λ H2 S2=>⟨S2 _ _ tf,aq (by show 2<=1000;decide),(S.trans S2).put hD,ag,by rw [vc];rfl,_,rfl⟩⟩
  | i+3,hx=>simp at hx
 .
  rintro acc U H' ⟨S,tf,rfl,v,rfl⟩
  have T2:=S1.trans S
  refine ⟨D,_,rfl,aN.of tf,rfl,_,_,rfl,_,_,rfl,_,_,rfl,rfl,?_⟩
  refine ⟨_,rfl,_,rfl,_,rfl,λ x dx hx gr n=>⟨x,dx,_,_,_,rfl,ag,?_,by lia,by lia,by lia,λ C7 jd d=>⟨rfl,?_⟩⟩⟩
  . rw [aE n];exact ag
  obtain ⟨e1,e2⟩:=mO hx gr d
  exact k x jd C7 (T2.trans e1) (λ z hz=>none_of T2 (e2 z hz)) d.at_
structure Dd (K:W.Frag) (C:Addr) (H:Hp) (a:Addr) (fp:List Addr) (pn:Addr) (L':List Str) (m':ar) (H':Hp) (jd:List Addr):Prop where
 at_:bj K C H' a jd m'
 nm:H' pn=some (.lst (L'.map V.str))
 np:pn∉jd
 but:∀ b o,H b=some o->b∉fp->b≠pn->H' b=some o
 ts:b8 K H H'
 own:∀ b∈jd,b∈fp∨H b=none
theorem Dd.of {C a pn:Addr} {H H1 H':Hp} {fp jd:List Addr} {L:List Str} {m:ar} (s:aG H H1) (hn:H pn=some (.lst (L.map V.str))) (np:pn∉fp) (d:kL K C H1 a fp m H' jd):Dd K C H a fp pn L m H' jd:=by
 refine ⟨d.at_,d.but _ _ (s _ _ hn) np,λ h=>?_,λ b o hb nb _=>d.but b o (s _ _ hb) nb,s.ts.trans d.ts,λ b hb=>?_⟩
 . rcases d.own pn h with q|q
   . exact np q
   . rw [s _ _ hn] at q;cases q
 . rcases d.own b hb with q|q
   . exact .inl q
   . exact .inr (none_of s q)
theorem rS {H:Hp} {r:List bE}:∀ {xs:List V},bN K H (r.map cU) xs->∀ {H':Hp} {f:bE} {p:Addr},aG H H'->H' p=some (.tup [.int f.1,.int f.2])->bN K H' ((r++[f]).map cU) (xs++[.ref p]):=λ {xs} d {H' f p} s e=>by
 rw [uk]
 exact (bN.same s _ d).snoc (iU (cE.of e))
abbrev xR (K:W.Frag) (a:Addr) (g:TG) (tt:TT) (te:TE) (D:Addr) (Q:Hp->Prop) (U:L2.St) (H:Hp):Prop :=
   ∃ W:Nat->Nat->List V->L2.St->Hp->Prop,(∃ m,W 0 m [] U H)/\∀ i m acc σ' H',W i m acc σ' H'->((wR K a).stop i H'/\Q H') ∨
     ((wR K a).go i H'/\∃ N:List V->L2.St->Hp->Prop,(∀ e6 σ2 H4,N e6 σ2 H4->∃ m',m'<m/\W (i+1) m' e6 σ2 H4)/\∀ x H2,(wR K a).wm i H' x H2->g x σ' H2 λ σ2 H3=>tt σ2 H3 λ b H4 =>
       if b=true then te σ2 H4 λ y H5=>H5 D=some (.lst acc)/\acc.length<sizeLine/\N (acc++[y]) σ2 (upd H5 D (.lst (acc++[y]))) else N acc σ2 H4)
theorem tI {q D:Addr} {H1:Hp} {fs:List bE} {Q:Hp->Prop} (hf:∀ f∈fs,GF f) (l:fs.length<=8) (kq:H1 q=some (.lst ((fs.map wr).map V.str))) (hD:H1 D=none) (fin:∀ xs H2,aG H1 H2->H2 D=some (.lst xs)->bN K H2 (fs.map cU) xs->Q H2) :
   xR K q (g6 0) ze (iq qB [] E0 (cf (cN 0) fA)) D Q [none] (upd H1 D (.lst [])):=by
 refine dO (K:=K) (a:=q) (xs:=(fs.map wr).map V.str) (λ i acc U H'=>A5 (aG H1 H') (H' D=some (.lst acc)) (acc.length=i) (bN K H' ((fs.take i).map cU) acc) (∃ v,U=[v])) ⟨ai hD,ag,rfl,cS,none,rfl⟩ (λ i acc U H' _ e=>by obtain ⟨e,_⟩:=e;exact aN.of (e _ _ kq)) ?_ ?_
 .
  rintro i x acc U H2 hx ⟨S,tf,la,da,v,rfl⟩
  rw [Et,Et,acB] at hx
  obtain ⟨f,ef,rfl⟩:=Option.map_eq_some_iff.mp hx
  have gf:=hf f (aaL ef)
  have hi:=(List.getElem?_eq_some_iff.mp ef).1
  refine ⟨_,rfl,wr f,f,rfl,by have:=gf.len;lia,gf.rd,λ p H3 S3 hp=>?_⟩
  have iK:=S3 _ _ tf
  refine ⟨iK,aq (by lia),(S.trans S3).put hD,ag,by rw [rT,la];rfl,?_,_,rfl⟩
  rw [aa4,ef]
  exact bN.ts (eJ iK rfl) _ (λ d hd=>by obtain ⟨f,_,rfl⟩:=List.mem_map.mp hd;simp [cU,dL]) (rS da S3 hp)
 . rintro acc U H2 ⟨S,tf,la,da,v,rfl⟩
   rw [be,be,aa1] at da
   exact fin acc H2 S tf da
theorem gz (xs:List V) (k:Nat):hR xs (some (k:Int)) none=xs.drop k:=by
 have e:HT.nj xs.length 0 (some (k:Int))=min k xs.length:=HT.oE _ _ k
 unfold hR
 rw [e,HT.l9,aaN (by rw [abb];lia)]
 by_cases h:k<=xs.length
 . rw [act h]
 . rw [Nat.min_eq_right (by lia),List.drop_length,List.drop_of_length_le (by lia)]
theorem qq (xs:List V) (k:Nat):hR xs none (some (k:Int))=xs.take k:=by
 have e:HT.nj xs.length xs.length (some (k:Int))=min k xs.length:=HT.oE _ _ k
 unfold hR
 rw [e,HT.l9,acD,Nat.sub_zero]
 by_cases h:k<=xs.length
 . rw [act h]
 . rw [Nat.min_eq_right (by lia),aa1,aaN (by lia)]
inductive xG (K:W.Frag) (C:Addr) (vs:List V) (H:Hp) (Q:VK) (_E:XK):Prop
 | mk (a fp m pn pw:_) (L:List Str) (nm:_) (ms:List bE) (_:vs=[.ref a,.ref pn,.ref pw]) (_:bj K C H a fp m) (_:H pn=some (.lst (L.map V.str))) (_:pn∉fp) (_:H pw=some (.lst ((Str.ofString "room" :: nm::ms.map wr).map V.str))) (_:pw∉fp) (_:pw≠pn) (_:Ca nm) (_:nm∉L) (_:L.length<=8) (_:m.rows.length<4) (_:(∀ f∈ms,GF f)) (_:2<=ms.length) (_:ms.length<=7) (_:gM ms=true) (_:cc (m.rows++[ms])<=400) (_:∀ H' jd,Dd K C H a fp pn (L++[nm]) (m.d6 ms) H' jd->Q .cD H')
theorem jw (T:Txt K mg Ad):Def P w K mg base "put_named_room" 4 ["hold","names","words"] (xG K Ad.aX):=by
 refine T.jN.dQ jz λ f bD A outer s H vs Q E hr h=>?_
 obtain ⟨a,fp,m,pn,pw,L,nm,ms,rfl,hh,hn,np,hw,nw,wn,L1,nL,l8,r4,gm,m2,m7,ri,bd,k⟩:=h
 refine ⟨_,(ac (aQ (ao (iP (K:=K) T) hr.m (aa (aA au (pv 2) ah (λ _ _=>rfl)) af)))
     (ac (aR (aF ua (aA au (pv 2) ah (λ _ _=>rfl)) (pv 1) (by with_unfolding_all rfl)) (ak bh) aD)
     (ac (aQ (aP (pv 0) T.av (jI (K:=K) T) .nil hr.m (aa (fc ["word"] [] [] .nil rfl (cP (cG eN (pv 2) (c9 ah) d9)) (λ _ _ _ _ _=>(ax (i:=0) (show (["word"]:List Str).Nodup by decide +kernel) rfl (lc rfl))) (λ _ _ _ _ _=>bZ) (λ _ _ _ _ _=>(ao (dh (K:=K) T) hr.m (aa (pv 0) af))) rfl (by decide +kernel) (by decide +kernel) (by decide +kernel)) af)))
     (ak (aQ (di aah aaE aaD cu (pv 1) (aa (aA au (pv 2) ah (λ _ _=>rfl)) af))))))),?_⟩
 try dsimp only [gi,bx]
 first|(refine eT ?_;intro _ _ _ _ _)|skip
 have OO:mZ ((Str.ofString "room" :: nm::ms.map wr).map V.str) 1=some (.str nm):=bQ (i:=1) rfl
 refine ⟨_,rfl,pw,_,_,_,rfl,rfl,.inl (aN.of hw),OO,nm,rfl,L1,λ H1 S1=>?_⟩
 refine ⟨_,rfl,pw,_,_,_,rfl,rfl,.inl (aN.of (S1 _ _ hw)),OO,_,rfl,pn,L.map V.str,rfl,.inl (aN.of (S1 _ _ hn)),rfl,qH L,_,rfl,?_⟩
 rw [nS,aaq nL]
 refine eB ?_
 have Ef:=hh.same S1
 obtain ⟨dx,pm,pf,ps,pt,_,_,_,_,_,ha,_⟩:=Ef.ex
 have ec:hR ((Str.ofString "room" :: nm::ms.map wr).map V.str) (some 2) none=(ms.map wr).map V.str:=gz _ 2
 refine ⟨_,rfl,a,dx,_,rfl,ha,rfl,_,rfl,2,rfl,pw,_,rfl,aN.of (S1 _ _ hw),λ q hq=>?_⟩
 rw [ec]
 have S2:=ai (o:=.lst ((ms.map wr).map V.str)) hq
 have k2:(upd H1 q (.lst ((ms.map wr).map V.str))) q=some (.lst ((ms.map wr).map V.str)):=ag
 generalize upd H1 q (.lst ((ms.map wr).map V.str))=H2 at S2 k2 ⊢
 refine ⟨q,rfl,⟨_,aN.of k2⟩,λ D hD=>tI gm (by lia) k2 hD λ xs H3 S3 iK dn=>?_⟩
 have T3:=S1.trans (S2.trans S3)
 refine ⟨a,fp,m,D,xs,ms,rfl,hh.same T3,r4,aN.of iK,dn,λ f hf=>(gm f hf).ok,m2,m7,ri,bd,λ H4 Co d=>?_⟩
 have dd:=Dd.of T3 hn np d
 have Y7:=dd.but _ _ hw nw wn
 refine ⟨_,rfl,.inl ⟨rfl,_,aN.of dd.nm⟩,_,rfl,pw,_,_,_,rfl,rfl,.inl (aN.of Y7),OO,pn,_,_,rfl,rfl,dd.nm,aq (by rw [be];lia),?_⟩
 have u5:∀ b o,H4 b=some o->b≠pn->(upd H4 pn (.lst (L.map V.str++[.str nm]))) b=some o:=λ b o e n=>by rw [aE n];exact e
 have Uc:b8 K H4 (upd H4 pn (.lst (L.map V.str++[.str nm]))):=eJ dd.nm rfl
 exact k _ Co ⟨dd.at_.zD u5 Uc dd.np,by rw [uk];exact ag,dd.np,λ b o hb n1 n2=>u5 b o (dd.but b o hb n1 n2) n2,dd.ts.trans Uc,dd.own⟩
theorem y4 {q D:Addr} {H1:Hp} {ns:List Nat} {Q:Hp->Prop} (hf:∀ n∈ns,n<=30) (l:ns.length<=8) (kq:H1 q=some (.lst ((ns.map Tx.strN).map V.str))) (hD:H1 D=none) (fin:∀ H2,aG H1 H2->H2 D=some (.lst (ns.map aO))->Q H2) :
   xR K q (g6 0) ze (iq sY [] E0 (cf (cN 0) fA)) D Q [none] (upd H1 D (.lst [])):=by
 refine dO (K:=K) (a:=q) (xs:=(ns.map Tx.strN).map V.str) (λ i acc U H'=>A4 (aG H1 H') (H' D=some (.lst acc)) (acc=(ns.take i).map aO) (∃ v,U=[v])) ⟨ai hD,ag,rfl,none,rfl⟩ (λ i acc U H' _ e=>by obtain ⟨e,_⟩:=e;exact aN.of (e _ _ kq)) ?_ ?_
 .
  rintro i x acc U H2 hx ⟨S,tf,rfl,v,rfl⟩
  rw [Et,Et,acB] at hx
  obtain ⟨n,en,rfl⟩:=Option.map_eq_some_iff.mp hx
  obtain ⟨g,e⟩:=Tx.c7 (n:=n) (aaT (hf n (aaL en)) (by decide))
  have hi:=(List.getElem?_eq_some_iff.mp en).1
  refine ⟨_,rfl,Tx.strN n,rfl,g,λ H3 S3=>?_⟩
  rw [e]
  refine ⟨S3 _ _ tf,aq (by rw [be,aal];lia),(S.trans S3).put hD,ag,?_,_,rfl⟩
  rw [aa4,en,uk]
  rfl
 . rintro acc U H2 ⟨S,tf,rfl,v,rfl⟩
   rw [be,be,aa1] at tf
   exact fin H2 S tf
theorem t6 {L:List Str} (nd:L.Nodup) {k:Nat} (h:k<L.length):bP L k∈L/\L.idxOf (bP L k)=k:=Nm.CA nd (by unfold bP;rw [aax,aac h];rfl)
def EM (K:W.Frag) (C:Addr):Sp:=λ vs H Q E=>xG K C vs H Q E∨∃ a fp m pn pw,∃ L:List Str,∃ rs d D,vs=[.ref a,.ref pn,.ref pw]/\bj K C H a fp m/\H pn=some (.lst (L.map V.str))/\pn∉fp/\H pw=some (.lst ((dj L rs d).map V.str))/\pw∉fp/\pw≠pn/\L.Nodup/\L.length=rs.length/\gA rs/\Got rs D m/\DM rs d /\
 ∀ H' jd,Dd K C H a fp pn L (AH rs m d) H' jd->Q .cD H'
theorem qG (T:Txt K mg Ad):Def P w K mg base "put_line" 7 ["hold","names","words"] (EM K Ad.aX):=by
 refine T.si.def bS (λ vs H Q E h=>?_) (λ _ _ _ _ _ _ us hl=>vz hl λ _ _ _=>rfl) (λ f _ _ _ s H vs Q E hr h=>?_)
 . rcases h with ⟨a,fp,m,pn,pw,L,nm,ms,rfl,_⟩|⟨a,fp,m,pn,pw,L,rs,d,D,rfl,_⟩<;>rfl
 .
  refine ⟨_,(ac (aR (aF eS (aA au (pv 2) ah (λ _ _=>rfl)) bw (aK _)) (ac (aQ (ao (jw (K:=K) T) hr.m (aa (pv 0) (aa (pv 1) (aa (pv 2) af)))))
    (ak yx)) aD)
    (ac (az (i:=3) bS.nd rfl (lc rfl) (ao (ib (K:=K) T) hr.m (aa (aA au (pv 2) ah (λ _ _=>rfl)) (aa (pv 1) af))))
    (ak (aR (aF eS (aA au (pv 2) ah (λ _ _=>rfl)) bw (aK _)) (ac (fL (fc ["word"] [] [] .nil rfl (cP (cG eN (pv 2) (c9 ah) d9)) (λ _ _ _ _ _=>(ax (i:=0) (show (["word"]:List Str).Nodup by decide +kernel) rfl (lc rfl))) (λ _ _ _ _ _=>bZ) (λ _ _ _ _ _=>(ao (dh (K:=K) T) hr.m (aa (pv 0) af))) rfl (by decide +kernel) (by decide +kernel) (by decide +kernel)) (oC (K:=K) (n:=3) rfl rfl (aJ (ax (i:=4) bS.nd rfl (lc rfl)) (aJ (ax (i:=5) bS.nd rfl (lc rfl)) (aJ (ax (i:=6) bS.nd rfl (lc rfl)) dZ)))))
    (ak (aQ (aP (pv 0) T.av (jX (K:=K) T) .nil hr.m (aa (pv 3) (aa (pv 4) (aa (pv 5) (aa (pv 6) af)))))))) (ak (aR (aF eS (aA au (pv 2) ah (λ _ _=>rfl)) bw (aK _)) (ac (az (i:=7) bS.nd rfl (lc rfl) (ao (ib (K:=K) T) hr.m (aa (aA au (pv 2) ah (λ _ _=>rfl)) (aa (pv 1) af))))
    (ak (aQ (aP (pv 0) T.av (jv (K:=K) T) .nil hr.m (aa (pv 3) (aa (pv 7) (aa (ao (dh (K:=K) T) hr.m (aa (aA au (pv 2) ah (λ _ _=>rfl)) af)) af))))))) (ac (az (i:=8) bS.nd rfl (lc rfl) (ao (dh (K:=K) T) hr.m (aa (aA au (pv 2) ah (λ _ _=>rfl)) af)))
    (ac (fL (fc ["word"] [] [] .nil rfl (cP (cG eN (pv 2) (c9 ah) d9)) (λ _ _ _ _ _=>(ax (i:=0) (show (["word"]:List Str).Nodup by decide +kernel) rfl (lc rfl))) (λ _ _ _ _ _=>bZ) (λ _ _ _ _ _=>(ao (eP (K:=K) T) hr.m (aa (pv 0) af))) rfl (by decide +kernel) (by decide +kernel) (by decide +kernel)) (oC (K:=K) (n:=3) rfl rfl (aJ (ax (i:=9) bS.nd rfl (lc rfl)) (aJ (ax (i:=10) bS.nd rfl (lc rfl)) (aJ (ax (i:=11) bS.nd rfl (lc rfl)) dZ)))))
    (ak (aQ (wb (pv 0) T.av (h7 (K:=K) T) hr.m (aa (pv 3) (aa (pv 8) (aa (pv 9) (aa (pv 10) (aa (pv 11) af)))))))))))))))),?_⟩
  rcases h with ⟨a,fp,m,pn,pw,L,nm,ms,rfl,hh,hn,np,hw,nw,wn,L1,nL,l8,r4,gm,m2,m7,ri,bd,k⟩|⟨a,fp,m,pn,pw,L,rs,d,D,rfl,hh,hn,np,hw,nw,wn,nd,ll,ok,got,hd,k⟩
  . have FB:mZ ((Str.ofString "room" :: nm::ms.map wr).map V.str) 0=some (.str (Str.ofString "room")):=bQ (i:=0) rfl
    refine ⟨_,rfl,pw,_,_,_,rfl,rfl,.inl (aN.of hw),FB,rfl,_,rfl,fF (λ _=>?_) λ z=>absurd rfl z⟩
    exact ⟨_,rfl,_,rfl,_,rfl,a,fp,m,pn,pw,L,nm,ms,rfl,hh,hn,np,hw,nw,wn,L1,nL,l8,r4,gm,m2,m7,ri,bd,k⟩
  .
   have n4:=ok.n4
   have lr:m.rows.length=rs.length:=by rw [got.rows,be]
   have ns:∀ {x y:Str},x≠y->¬ V.str x=V.str y:=λ h e=>h (str_inj.mp e)
   have at_:∀ {ws:List Str} {i:Nat} {z:Str},ws[i]?=some z->mZ (ws.map V.str) (i:Int)=some (.str z):=λ {ws i z} e=>bQ (by rw [Et,e];rfl)
   obtain ⟨dx,pm,pf,ps,pt,_,_,_,_,_,ha,_⟩:=hh.ex
   have sw:=aN.of (K:=K) hw
   cases d with
   | sk k' =>
     have hk:k'<rs.length:=hd
     obtain ⟨om,_⟩:=ok.at_ hk
     obtain ⟨s1,s2,s3,s4⟩:=ok.sh hk (i:=3) (by decide)
     obtain ⟨n1,n2⟩:=t6 nd (show k'<L.length by lia)
     refine ⟨_,rfl,pw,_,_,_,rfl,rfl,.inl sw,at_ (i:=0) rfl,rfl,_,rfl,eY (ns (by decide +kernel)) ?_⟩
     refine ⟨_,rfl,pw,_,_,_,rfl,rfl,.inl sw,at_ (i:=1) rfl,_,rfl,bP L k',pn,L,rfl,aN.of hn,by lia,n1,?_⟩
     rw [n2]
     refine ⟨_,rfl,pw,_,_,_,rfl,rfl,.inl sw,at_ (i:=0) rfl,rfl,_,rfl,fF (λ _=>?_) λ z=>absurd rfl z⟩
     refine ⟨_,rfl,2,rfl,pw,_,rfl,sw,λ q hq=>?_⟩
     rw [show hR ((dj L rs (.sk k')).map V.str) (some 2) none=([qw (rm rs k'),(rm rs k').lo,(rm rs k').hi].map wr).map V.str from gz _ 2]
     have S1:=ai (o:=.lst (([qw (rm rs k'),(rm rs k').lo,(rm rs k').hi].map wr).map V.str)) hq
     have k1:(upd H q (.lst (([qw (rm rs k'),(rm rs k').lo,(rm rs k').hi].map wr).map V.str))) q=some (.lst (([qw (rm rs k'),(rm rs k').lo,(rm rs k').hi].map wr).map V.str)):=ag
     generalize upd H q (.lst (([qw (rm rs k'),(rm rs k').lo,(rm rs k').hi].map wr).map V.str))=H1 at S1 k1 ⊢
     refine ⟨q,rfl,⟨_,aN.of k1⟩,λ D' hD=>tI (λ f hf=>?_) (by show 3<=8;decide) k1 hD λ xs H3 S3 iK dn=>?_⟩
     . simp only [aaa,GV,aaI] at hf
       rcases hf with rfl|rfl|rfl
       . exact s1
       . exact om.gl
       . exact om.gh
     obtain ⟨v1,_,rfl,d1,v2,_,rfl,d2,v3,_,rfl,d3,rfl⟩:=dn
     have T3:=S1.trans S3
     refine ⟨D',_,rfl,aN.of iK,rfl,_,_,rfl,_,_,rfl,_,_,rfl,rfl,?_⟩
     exact ⟨_,rfl,a,dx,_,rfl,T3 _ _ ha,rfl,_,rfl,_,rfl,_,rfl,_,rfl,a,fp,m,k',v1,v2,v3,_,_,_,rfl,hh.same T3,by lia,d1,d2,d3,s1.ok,om.gl.ok,om.gh.ok,om.le,s2,(got.q.nG (z:=nW rs k') (by lia) (by lia) (by rw [got.sl,lr]) s2 s3 s1.b1 s4).1,λ H4 Co dd=>k H4 Co (Dd.of T3 hn np dd)⟩
   | fl k' j' =>
     obtain ⟨hk,hj,Fj⟩:=(show k'<rs.length/\j'<rs.length/\k'≠j' from hd)
     obtain ⟨s1,s2,s3,s4⟩:=ok.sh hk (i:=if j'<k' then j' else j' - 1) (by split<;>lia)
     obtain ⟨n1,n2⟩:=t6 nd (show k'<L.length by lia)
     obtain ⟨n3,Y6⟩:=t6 nd (show j'<L.length by lia)
     refine ⟨_,rfl,pw,_,_,_,rfl,rfl,.inl sw,at_ (i:=0) rfl,rfl,_,rfl,eY (ns (by decide +kernel)) ?_⟩
     refine ⟨_,rfl,pw,_,_,_,rfl,rfl,.inl sw,at_ (i:=1) rfl,_,rfl,bP L k',pn,L,rfl,aN.of hn,by lia,n1,?_⟩
     rw [n2]
     refine ⟨_,rfl,pw,_,_,_,rfl,rfl,.inl sw,at_ (i:=0) rfl,rfl,_,rfl,eY (ns (by decide +kernel)) ?_⟩
     refine ⟨_,rfl,pw,_,_,_,rfl,rfl,.inl sw,at_ (i:=0) rfl,rfl,_,rfl,fF (λ _=>?_) λ z=>absurd rfl z⟩
     refine ⟨_,rfl,pw,_,_,_,rfl,rfl,.inl sw,at_ (i:=2) rfl,_,rfl,bP L j',pn,L,rfl,aN.of hn,by lia,n3,?_⟩
     rw [Y6]
     refine ⟨_,rfl,a,dx,_,rfl,ha,rfl,_,rfl,_,rfl,_,rfl,pw,_,_,_,rfl,rfl,.inl sw,at_ (i:=3) rfl,wr (im (rm rs k') k' j'),im (rm rs k') k' j',rfl,by have:=s1.len;unfold im;lia,s1.rd,λ p H3 S3 hp=>?_⟩
     exact ⟨a,fp,m,k',j',_,_,rfl,hh.same S3,by lia,by lia,Fj,iU (cE.of hp),s1.ok,s2,(got.q.dk (f:=im (rm rs k') k' j') (by lia) (by lia) (by lia) Fj s2 s3 s1.b1 s4).1,λ H4 Co dd=>k H4 Co (Dd.of S3 hn np dd)⟩
   | sv k' =>
     obtain ⟨hk,hs⟩:=(show k'<rs.length/\(rm rs k').st≠none from hd)
     obtain ⟨om,_⟩:=ok.at_ hk
     obtain ⟨n1,n2⟩:=t6 nd (show k'<L.length by lia)
     cases e:(rm rs k').st with
     | none=>exact absurd e hs
     | some z =>
       have ea:AH rs m (.sv k')=m.dw k' z:=by simp only [AH,e]
       have ew:dj L rs (.sv k')=[Str.ofString "stove",bP L k',wr z.1,Tx.strN z.2.1.toNat,Tx.strN z.2.2.1.toNat,Tx.strN z.2.2.2.toNat]:=by simp only [dj,e]
       rw [ea] at k
       rw [ew] at hw sw
       obtain ⟨g1,g2,g3,g4,g5⟩:=om.so z e
       refine ⟨_,rfl,pw,_,_,_,rfl,rfl,.inl sw,at_ (i:=0) rfl,rfl,_,rfl,eY (ns (by decide +kernel)) ?_⟩
       refine ⟨_,rfl,pw,_,_,_,rfl,rfl,.inl sw,at_ (i:=1) rfl,_,rfl,bP L k',pn,L,rfl,aN.of hn,by lia,n1,?_⟩
       rw [n2]
       refine ⟨_,rfl,pw,_,_,_,rfl,rfl,.inl sw,at_ (i:=0) rfl,rfl,_,rfl,eY (ns (by decide +kernel)) ?_⟩
       refine ⟨_,rfl,pw,_,_,_,rfl,rfl,.inl sw,at_ (i:=0) rfl,rfl,_,rfl,eY (ns (by decide +kernel)) ?_⟩
       refine ⟨_,rfl,pw,_,_,_,rfl,rfl,.inl sw,at_ (i:=2) rfl,wr z.1,z.1,rfl,by have:=g1.len;lia,g1.rd,λ p H1 S1 hp=>?_⟩
       refine ⟨_,rfl,3,rfl,pw,_,rfl,aN.of (S1 _ _ hw),λ q hq=>?_⟩
       rw [show hR ([Str.ofString "stove",bP L k',wr z.1,Tx.strN z.2.1.toNat,Tx.strN z.2.2.1.toNat,Tx.strN z.2.2.2.toNat].map V.str) (some 3) none=([z.2.1.toNat,z.2.2.1.toNat,z.2.2.2.toNat].map Tx.strN).map V.str from gz _ 3]
       have S2:=ai (o:=.lst (([z.2.1.toNat,z.2.2.1.toNat,z.2.2.2.toNat].map Tx.strN).map V.str)) hq
       have k2:(upd H1 q (.lst (([z.2.1.toNat,z.2.2.1.toNat,z.2.2.2.toNat].map Tx.strN).map V.str))) q=some (.lst (([z.2.1.toNat,z.2.2.1.toNat,z.2.2.2.toNat].map Tx.strN).map V.str)):=ag
       generalize upd H1 q (.lst (([z.2.1.toNat,z.2.2.1.toNat,z.2.2.2.toNat].map Tx.strN).map V.str))=H2 at S2 k2 ⊢
       refine ⟨q,rfl,⟨_,aN.of k2⟩,λ D' hD=>y4 (λ n hn=>?_) (by show 3<=8;decide) k2 hD λ H3 S3 iK=>?_⟩
       . simp only [aaa,GV,aaI] at hn
         rcases hn with rfl|rfl|rfl<;>lia
       have T3:=S1.trans (S2.trans S3)
       have v:∀ {i:Int},0<=i->aO i.toNat = .int i:=λ {i} h=>aaV V.int (ab2 h)
       refine ⟨D',_,rfl,aN.of iK,rfl,_,_,rfl,_,_,rfl,_,_,rfl,rfl,?_⟩
       refine ⟨_,rfl,a,dx,_,rfl,T3 _ _ ha,rfl,_,rfl,_,rfl,_,rfl,_,rfl,_,rfl,a,fp,m,k',.ref p,z.1,z.2.1,z.2.2.1,z.2.2.2,by rw [v g3.1,v g4.1,v g5.1];rfl,hh.same T3,by lia,iU (cE.of ((S2.trans S3) _ _ hp)),g1.ok,g2,g3,g4,g5,λ H4 Co dd=>k H4 Co (Dd.of T3 hn np dd)⟩
def aY (hd:Option (Nat×Nat×Nat)) (rs:List Rm) (ids:List dq):List Ln:=(hd.map λ x=>Ln.bd x.1 x.2.1 x.2.2).toList++(List.range rs.length).map Ln.rm++ids.map Ln.id
def lA:Option (Nat×Nat×Nat)->Int×Int×Int
 | some x=>(x.1,x.2.1,x.2.2)
 | none=>(4,0,0)
def pJ (hd:Option (Nat×Nat×Nat)):Prop:=∀ x,hd=some x->x.1<=4/\x.2.1<=30/\x.2.2<=30
def hN (hd:Option (Nat×Nat×Nat)):Nat:=hd.toList.length
def EU (L:List Str) (rs:List Rm) (hd:Option (Nat×Nat×Nat)) (ids:List dq) (i:Nat) (m:ar) (Lc:List Str):Prop :=
 (i<hN hd/\Lc=[])∨(∃ j,i=hN hd+j/\j<rs.length/\kI rs j m/\lH m (lA hd)/\Lc=L.take j)∨(∃ j,i=hN hd+rs.length+j/\Got rs (ids.take j) m/\lH m (lA hd)/\Lc=L)
theorem l7 {L:List Str} {rs:List Rm} {hd:Option (Nat×Nat×Nat)} {ids:List dq} {j:Nat} {m:ar} (ln:L.length=rs.length) (g:kI rs j m) (b:lH m (lA hd)) (hj:j<=rs.length):EU L rs hd ids (hN hd+j) m (L.take j):=by
 by_cases c:j<rs.length
 . exact .inr (.inl ⟨j,rfl,c,g,b,rfl⟩)
 . have e:j=rs.length:=by lia
   subst e
   exact .inr (.inr ⟨0,rfl,g.got,b,by rw [← ln,aa1]⟩)
theorem Gw {rs:List Rm} {hd:Option (Nat×Nat×Nat)} {ids:List dq} {i:Nat} {l:Ln} (h:(aY hd rs ids)[i]?=some l) :
   (i<hN hd/\∃ x,hd=some x/\l = .bd x.1 x.2.1 x.2.2/\i=0)∨(∃ j,i=hN hd+j/\j<rs.length/\l = .rm j)∨(∃ j d,i=hN hd+rs.length+j/\ids[j]?=some d/\l = .id d):=by
 have l1:((hd.map λ x=>Ln.bd x.1 x.2.1 x.2.2).toList).length=hN hd:=by cases hd<;>rfl
 unfold aY at h
 rw [aat] at h
 by_cases c:i<hN hd
 .
  refine .inl ⟨c,?_⟩
  rw [aaK (by rw [l1];exact c)] at h
  cases hd with
  | none=>exact absurd c (Nat.not_lt_zero _)
  | some x =>
    have i0:i=0:=by have:i<1:=c;lia
    subst i0
    cases h
    exact ⟨x,rfl,rfl,rfl⟩
 .
  rw [aaw (by rw [l1];lia),l1] at h
  by_cases c2:i - hN hd<rs.length
  . rw [aaK (by rw [be,RF];exact c2),Et,aa3 c2] at h
    cases h
    exact .inr (.inl ⟨i - hN hd,by lia,c2,rfl⟩)
  . rw [aaw (by rw [be,RF];lia),be,RF,Et] at h
    obtain ⟨d,ed,rfl⟩:=Option.map_eq_some_iff.mp h
    exact .inr (.inr ⟨i - hN hd - rs.length,d,by lia,ed,rfl⟩)
theorem gU {rs:List Rm} {hd:Option (Nat×Nat×Nat)} {ids:List dq}:(aY hd rs ids).length=hN hd+rs.length+ids.length:=by
 unfold aY hN
 cases hd with
 | none=>simp
 | some x=>simp;lia
theorem wF {L:List Str} {rs:List Rm} (ok:gA rs) {l:Ln} (h:Dp rs l):UV (aM L rs l):=by
 cases l with
 | bd a b c=>exact .inr (.inl ⟨rfl,rfl⟩)
 | rm k =>
   obtain ⟨om,_⟩:=ok.at_ (show k<rs.length from h)
   refine .inl ⟨rfl,?_⟩
   show 4<=((rm rs k).gq.map wr).length+1+1
   rw [be]
   have:=om.m2
   lia
 | id d =>
   cases d with
   | sk k=>exact .inr (.inr (.inl ⟨rfl,rfl⟩))
   | fl k j=>exact .inr (.inr (.inr (.inl ⟨rfl,rfl⟩)))
   | sv k =>
     obtain ⟨hk,hs⟩:=(show k<rs.length/\(rm rs k).st≠none from h)
     cases e:(rm rs k).st with
     | none=>exact absurd e hs
     | some z=>simp only [aM,dj,e];exact .inr (.inr (.inr (.inr ⟨rfl,rfl⟩)))
theorem vQ {L:List Str} {rs:List Rm} {l:Ln} (h:Dp rs l) (nb:∀ a b c,l ≠ .bd a b c):∃ z,(aM L rs l)[0]?=some z/\z≠Str.ofString "bounds":=by
 cases l with
 | bd a b c=>exact absurd rfl (nb a b c)
 | rm k=>exact ⟨_,rfl,by decide +kernel⟩
 | id d =>
   cases d with
   | sk k=>exact ⟨_,rfl,by decide +kernel⟩
   | fl k j=>exact ⟨_,rfl,by decide +kernel⟩
   | sv k =>
     obtain ⟨hk,hs⟩:=(show k<rs.length/\(rm rs k).st≠none from h)
     cases e:(rm rs k).st with
     | none=>exact absurd e hs
     | some z=>simp only [aM,dj,e];exact ⟨_,rfl,by decide +kernel⟩
inductive vG (K:W.Frag) (C:Addr) (vs:List V) (H:Hp) (Q:VK) (_E:XK):Prop
 | mk (p:_) (L:List Str) (rs hd ids:_) (_:vs=[.ref p]) (_:aN K H p (((aY hd rs ids).map (aS L rs)).map V.str)) (_:kM L rs.length) (_:gA rs) (_:pJ hd) (_:(∀ d∈ids,DM rs d)) (_:ids.length<=60) (_:∀ t a pn fp m H',aG H H'->H' t=some (.tup [.ref a,.ref pn])->bj K C H' a fp m->(∀ z∈fp,H z=none)->H pn=none->pn∉fp->H' pn=some (.lst (L.map V.str))->Got rs ids m->lH m (lA hd)->Q (.ref t) H')
theorem jg (T:Txt K mg Ad) (D:KD w.params K Ad.bu):Def P w K mg base "read_hold" 8 ["lines"] (vG K Ad.aX):=by
 refine T.qa.dQ cz λ f bD A outer s H vs Q E hr h=>?_
 obtain ⟨p,L,rs,hd,ids,rfl,hp,nm,ok,ho,hi,l60,k⟩:=h
 refine ⟨_,(ac (az (i:=1) cz.nd rfl (lc rfl) (uv T.tQ (iL (K:=K) T) hr.m T.sF))
     (ac (az (i:=2) cz.nd rfl (lc rfl) (br af))
     (ac (fM aaS rfl (Ch rfl T.qO (aa (pv 0) af)) (fQ (K:=K) (n:=2) rfl rfl (aJ (ax (i:=3) cz.nd rfl (lc rfl)) (aJ (ax (i:=4) cz.nd rfl (lc rfl)) dZ))) (ac (az (i:=5) cz.nd rfl (lc rfl) (di aaM PySem.F.slot_str_split PySem.F.type_str_split vy (pv 4) (aa bw af)))
     (ac (aR (PW.pt (hU (cn (bJ (ao (i5 (K:=K) T D) hr.m (aa (pv 5) af)))) (fD (PW.pt (nY (aF eS (aA au (pv 5) ah (λ _ _=>rfl)) bw (aK _)) (kQ (aF ko (pv 3) ah (aK _)))))))) (ak bh) aD)
     (ak (aR (aF eS (aA au (pv 5) ah (λ _ _=>rfl)) bw (aK _)) (ak (az (i:=1) cz.nd rfl (lc rfl) (ao (kB (K:=K) T) hr.m (aa (pv 5) af)))) (ak (aQ (ao (qG (K:=K) T) hr.m (aa (pv 1) (aa (pv 2) (aa (pv 5) af)))))))))))
     (ak (aH (cL (aa (pv 1) (aa (pv 2) af)))))))),?_⟩
 try dsimp only [gi,bx]
 first|(refine eT ?_;intro _ _ _ _ _)|skip
 refine λ x dx hx gr n=>⟨x,dx,_,_,_,rfl,ag,by rw [aE n];exact ag,by decide,by decide,by decide,λ H1 Vo dd=>⟨rfl,?_⟩⟩
 obtain ⟨S1,f1⟩:=mO hx gr dd
 refine ⟨xZ,λ pn vh=>?_⟩
 have S2:=ai (o:=.lst []) vh
 have k2:(upd H1 pn (.lst [])) pn=some (.lst []):=ag
 have FV:=none_of S1 vh
 have Ax:=dd.at_.same S2
 have np1:pn∉Vo:=λ h=>by
   obtain ⟨o,e⟩:=dd.at_.some pn h
   rw [vh] at e;cases e
 generalize upd H1 pn (.lst [])=H2 at S2 k2 Ax ⊢
 have T2:=S1.trans S2
 refine ⟨_,rfl,p,rfl,⟨_,T2.seq hp⟩,?_⟩
 refine BJ (sq:=aN K) (a:=p) (xs:=((aY hd rs ids).map (aS L rs)).map V.str) (λ i U H'=>aG H H'/\(E4 λ a fp m Lc=>A6 (bj K Ad.aX H' a fp m) (∀ z∈fp,H z=none) (pn∉fp) (H' pn=some (.lst (Lc.map V.str))) (EU L rs hd ids i m Lc) (E3 λ v3 v4 v5=>U=[some (.ref p),some (.ref a),some (.ref pn),v3,v4,v5])))
   ⟨T2,x,Vo,_,[],Ax,f1,np1,k2,?_,none,none,none,rfl⟩ (λ i U H' _ e=>e.1.seq hp) ?_ ?_
 . cases hd with
   | none=>exact l7 nm.ln (kI.new ok 4 0 0) rfl (aaH _)
   | some y=>exact .inl ⟨Nat.one_pos,rfl⟩
 .
  rintro i y pp U H3 hy Hf ⟨S3,a,fp,m,Lc,hh,fr,Dj,hn,pre,v3,v4,v5,rfl⟩
  rw [Et,Et,acB] at hy
  obtain ⟨l,el,rfl⟩:=Option.map_eq_some_iff.mp hy
  have la:=Gw el
  have Dl:Dp rs l:=by
    rcases la with ⟨_,x,e,rfl,_⟩|⟨j,_,hj,rfl⟩|⟨j,d,_,ed,rfl⟩
    . exact ho x e
    . exact hj
    . exact hi d (aaL ed)
  obtain ⟨es,tl⟩:=sG nm ok Dl
  obtain ⟨w0,w9,wf⟩:=mh nm ok Dl
  have P3:=ai (o:=.tup [aO i,.str (aS L rs l)]) Hf
  refine ⟨pp,_,rfl,cE.of ag,rfl,_,_,rfl,_,_,rfl,rfl,?_⟩
  show (λ Hx=>_) (upd H3 pp (.tup [aO i,.str (aS L rs l)]))
  have P9:=hh.same P3
  have Sl:=P3 _ _ hn
  have S4:=S3.trans P3
  generalize upd H3 pp (.tup [aO i,.str (aS L rs l)])=H4 at P3 P9 Sl S4 ⊢
  refine ⟨_,rfl,rfl,_,_,rfl,rfl,(by decide +kernel),aag (aq (by lia)),(by rw [tE,es];exact aag (aq (by lia))),λ pw TL=>?_⟩
  rw [tE,es]
  have S5:=ai (o:=.lst ((aM L rs l).map V.str)) TL
  have k5:(upd H4 pw (.lst ((aM L rs l).map V.str))) pw=some (.lst ((aM L rs l).map V.str)):=ag
  have Sw:=P9.same S5
  have Dx:=S5 _ _ Sl
  have T5:=S4.trans S5
  have wn:pw≠pn:=(aw Sl TL).symm
  have nw:pw∉fp:=λ h=>by
    obtain ⟨o,e⟩:=P9.some pw h
    rw [TL] at e;cases e
  generalize upd H4 pw (.lst ((aM L rs l).map V.str))=H5 at S5 k5 Sw Dx T5 ⊢
  have sw:=aN.of (K:=K) k5
  have at_:∀ {ws:List Str} {i:Nat} {z:Str},ws[i]?=some z->mZ (ws.map V.str) (i:Int)=some (.str z):=λ {ws i z} e=>bQ (by rw [Et,e];rfl)
  refine ⟨_,rfl,pw,_,rfl,sw,wF ok Dl,by lia,_,rfl,eB ?_⟩
  have ap:∀ {mm:ar} {UA:List Str} {H6:Hp} {yb:List Addr},Dd K Ad.aX H5 a fp pn UA mm H6 yb->aG H H6/\(∀ z∈yb,H z=none):=λ {mm UA H6 yb} dd=>by
    refine ⟨λ b o e=>dd.but b o (T5 _ _ e) (λ h=>?_) (aw e FV),λ z hz=>?_⟩
    . rw [fr b h] at e;cases e
    . rcases dd.own z hz with h|h
      . exact fr z h
      . exact none_of T5 h
  rcases la with ⟨c0,x,e,rfl,i0⟩|la
  .
   subst e i0
   have h0:=at_ (ws:=aM L rs (.bd x.1 x.2.1 x.2.2)) (i:=0) rfl
   obtain ⟨o1,o2,o3⟩:=ho x rfl
   refine ⟨_,rfl,pw,_,_,_,rfl,rfl,.inl sw,h0,rfl,_,rfl,fF (λ _=>?_) λ z=>absurd rfl z⟩
   refine ⟨_,rfl,_,_,rfl,rfl,_,rfl,eY (λ z=>by have z:(0:Int)<((0:Nat):Int):=z;lia) ?_⟩
   refine ⟨_,rfl,pw,_,_,_,rfl,rfl,.inl sw,h0,rfl,_,rfl,fF (λ _=>?_) λ z=>absurd rfl z⟩
   refine ⟨_,rfl,pw,x.1,x.2.1,x.2.2,rfl,sw,o1,o2,o3,λ x2 yb H6 S6 f6 hh6=>?_⟩
   have lc:Lc=[]:=by
     rcases pre with ⟨_,e⟩|⟨j,e,_⟩|⟨j,e,_⟩
     . exact e
     . have:hN (some x)=1:=rfl
       lia
     . have:hN (some x)=1:=rfl
       lia
   subst lc
   have XT:pn∉yb:=λ h=>by rw [f6 pn h] at Dx;cases Dx
   exact ⟨T5.trans S6,x2,yb,_,[],hh6,λ z hz=>none_of T5 (f6 z hz),XT,S6 _ _ Dx,l7 (j:=0) nm.ln (kI.new ok _ _ _) rfl (aaH _),_,_,_,rfl⟩
  .
   have nb:∀ a b c,l ≠ .bd a b c:=λ a b c=>by
     rcases la with ⟨j,_,_,rfl⟩|⟨j,d,_,_,rfl⟩<;>nofun
   obtain ⟨z0,e0,nz⟩:=vQ (L:=L) Dl nb
   refine ⟨_,rfl,pw,_,_,_,rfl,rfl,.inl sw,at_ (i:=0) e0,rfl,_,rfl,eY (λ e=>nz (str_inj.mp e)) ?_⟩
   refine ⟨_,rfl,pw,_,_,_,rfl,rfl,.inl sw,at_ (i:=0) e0,rfl,_,rfl,eY (λ e=>nz (str_inj.mp e)) ?_⟩
   refine ⟨_,rfl,_,rfl,_,rfl,?_⟩
   rcases la with ⟨j,ei,hj,rfl⟩|⟨j,d,ei,ed,rfl⟩
   .
    have pj:kI rs j m/\lH m (lA hd)/\Lc=L.take j:=by
      rcases pre with ⟨c,_⟩|⟨j',e,_,g⟩|⟨j',e,_⟩
      . lia
      . have:j'=j:=by lia
        subst this
        exact g
      . lia
    obtain ⟨g,b,rfl⟩:=pj
    obtain ⟨om,_⟩:=ok.at_ hj
    obtain ⟨n1,n2⟩:=nm.at_ hj
    have lrw:m.rows.length=j:=by rw [g.rows,aal,be];lia
    have n4:=ok.n4
    have XD:bP L j∉L.take j:=λ h=>by
      obtain ⟨i',zg,e⟩:=List.mem_iff_getElem.mp h
      rw [aal] at zg
      rw [List.getElem_take] at e
      have e2:L[j]'(by rw [nm.ln];exact hj)=bP L j:=by
        have:=n2
        rw [aac (by rw [nm.ln];exact hj)] at this
        exact aan this
      have:=(List.getElem_inj nm.nd).mp (e.trans e2.symm)
      lia
    have er:m.rows++[(rm rs j).gq]=(rs.map (·.gq)).take (j+1):=by
      rw [g.rows,aa4,Et,(ok.at_ hj).2]
      rfl
    refine .inl ⟨a,fp,m,pn,pw,L.take j,bP L j,(rm rs j).gq,rfl,Sw,Dx,Dj,k5,nw,wn,⟨nm.l1 _ n1,nm.l8 _ n1,nm.lo _ n1⟩,XD,by rw [aal];lia,by lia,om.gm,om.m2,om.m7,om.ri,by rw [er];exact ok.bd _,λ H6 yb dd=>?_⟩
    obtain ⟨q1,q2⟩:=ap dd
    have et:L.take j++[bP L j]=L.take (j+1):=by rw [aa4,n2];rfl
    rw [et] at dd
    refine ⟨q1,a,yb,_,L.take (j+1),dd.at_,q2,dd.np,dd.nm,?_,_,_,_,rfl⟩
    rw [ei,Nat.add_assoc]
    exact l7 nm.ln (g.step hj) b hj
   .
    have pj:Got rs (ids.take j) m/\lH m (lA hd)/\Lc=L:=by
      rcases pre with ⟨c,_⟩|⟨j',e,c,_⟩|⟨j',e,g⟩
      . lia
      . lia
      . have:j'=j:=by lia
        subst this
        exact g
    obtain ⟨g,b,rfl⟩:=pj
    refine .inr ⟨a,fp,m,pn,pw,Lc,rs,d,ids.take j,rfl,Sw,Dx,Dj,k5,nw,wn,nm.nd,nm.ln,ok,g,Dl,λ H6 yb dd=>?_⟩
    obtain ⟨q1,q2⟩:=ap dd
    refine ⟨q1,a,yb,_,Lc,dd.at_,q2,dd.np,dd.nm,.inr (.inr ⟨j+1,by lia,?_,b.ap d,rfl⟩),_,_,_,rfl⟩
    have et:ids.take (j+1)=ids.take j++[d]:=by rw [aa4,ed];rfl
    rw [et]
    exact g.step ok Dl
 .
  rintro U H3 ⟨S3,a,fp,m,Lc,hh,fr,Dj,hn,pre,v3,v4,v5,rfl⟩
  refine ⟨_,rfl,_,rfl,wj,λ t ht=>?_⟩
  have n1:=ok.n1
  have S4:=ai (o:=.tup [.ref a,.ref pn]) ht
  rw [be,be,gU] at pre
  rcases pre with ⟨c,_⟩|⟨j,e,c,_⟩|⟨j,e,g,b,rfl⟩
  . lia
  . lia
  . have ej:j=ids.length:=by lia
    rw [ej,aa1] at g
    exact k t a pn fp m _ (S3.trans S4) ag (hh.same S4) fr FV Dj (S4 _ _ hn) g b
theorem o9 {ys:List Str} (h:∀ y∈ys,y.length<=1000) (hl:ys.length<=1000):JoinOk (Str.ofString " ") ys=true:=by
 have e:(Str.ofString " ").length=1:=by decide +kernel
 unfold JoinOk
 rw [PySem.StrLaws.joinFits (B:=1000) h (by rw [e];lia)]
 rfl
def cH (z:Str) (ns:List Str) (fs:List bE) (ws:List Nat):List Str:=z::ns++fs.map wr++ws.map Tx.strN
inductive D3 (K:W.Frag) (vs:List V) (H:Hp) (Q:VK) (_E:XK):Prop
 | mk (z pn pf pw:_) (ns:List Str) (fs xs:_) (ws:List Nat) (_:vs=[.str z,.ref pn,.ref pf,.ref pw]) (_:H pn=some (.lst (ns.map V.str))) (_:aN K H pf xs) (_:bN K H (fs.map cU) xs) (_:aN K H pw (ws.map aO)) (_:z.length<=900) (_:ns.length<=9) (_:(∀ n∈ns,n.length<=62)) (_:fs.length<=9) (_:(∀ f∈fs,GF f)) (_:ws.length<=9) (_:(∀ n∈ws,n<=30)) (_:∀ H',aG H H'->Q (.str (Str.join Bl.sp (cH z ns fs ws))) H')
theorem fB (T:Txt K mg Ad):Def P w K mg base "line_of" 2 ["word","names","fractions","wholes"] (D3 K):=by
 refine T.uJ.dQ rL λ f bD A outer s H vs Q E hr h=>?_
 obtain ⟨z,pn,pf,pw,ns,fs,xs,ws,rfl,hn,hf,df,hw,z9,n9,Xj,f9,gf,w9,V7,k⟩:=h
 refine ⟨_,(ak (aH (di aaM abk abj jn bw (aa (am cW (am cW (am cW (br (aa (pv 0) af)) (pv 1)) (fc ["one"] [] [] .nil rfl (cP (pv 2)) (λ _ _ _ _ _=>(ax (i:=0) (show (["one"]:List Str).Nodup by decide +kernel) rfl (lc rfl))) (λ _ _ _ _ _=>bZ) (λ _ _ _ _ _=>(ao (jR (K:=K) T) hr.m (aa (pv 0) af))) rfl (by decide +kernel) (by decide +kernel) (by decide +kernel))) (fc ["one"] [] [] .nil rfl (cP (pv 3)) (λ _ _ _ _ _=>(ax (i:=0) (show (["one"]:List Str).Nodup by decide +kernel) rfl (lc rfl))) (λ _ _ _ _ _=>bZ) (λ _ _ _ _ _=>(bB bL (by rfl) T.iQ gp (aa (pv 0) af))) rfl (by decide +kernel) (by decide +kernel) (by decide +kernel))) af)))),?_⟩
 try dsimp only [gi,bx]
 refine ⟨rfl,_,rfl,vq,λ a1 h1=>?_⟩
 have S1:=ai (o:=.lst [.str z]) h1
 have k1:(upd H a1 (.lst [.str z])) a1=some (.lst [.str z]):=ag
 generalize upd H a1 (.lst [.str z])=H1 at S1 k1 ⊢
 refine ⟨_,rfl,a1,pn,_,_,rfl,rfl,k1,S1 _ _ hn,aag (aq (by rw [be];show 1+ns.length<=1000;lia)),λ a2 h2=>?_⟩
 have S2:=ai (o:=.lst ([V.str z]++ns.map V.str)) h2
 have k2:(upd H1 a2 (.lst ([V.str z]++ns.map V.str))) a2=some (.lst ((z::ns).map V.str)):=ag
 generalize upd H1 a2 (.lst ([V.str z]++ns.map V.str))=H2 at S2 k2 ⊢
 have T2:=S1.trans S2
 refine ⟨_,rfl,pf,rfl,⟨_,T2.seq hf⟩,λ D hD=>?_⟩
 refine dO (K:=K) (a:=pf) (xs:=xs) (λ i acc U H'=>A4 (aG H2 H') (H' D=some (.lst acc)) (acc=((fs.take i).map wr).map V.str) (∃ v,U=[v])) ⟨ai hD,ag,rfl,none,rfl⟩ (λ i acc U H' _ e=>by obtain ⟨e,_⟩:=e;exact e.seq (T2.seq hf)) ?_ ?_
 .
  rintro i x acc U H3 hx ⟨S3,iK,rfl,v,rfl⟩
  have dl:=df.length
  rw [be] at dl
  have hi:i<fs.length:=by rw [← dl];exact (List.getElem?_eq_some_iff.mp hx).1
  obtain ⟨y,ey,dy⟩:=df.get (i:=i) (d:=cU fs[i]) (by rw [Et,aac hi];rfl)
  rw [hx] at ey
  cases ey
  have g:=gf _ (aaP hi)
  obtain ⟨q,rfl,hq⟩:=Dn.fr dy
  refine ⟨_,rfl,q,_,_,rfl,(T2.trans S3).tup hq,g.t,g.b1,g.b2,iK,aq (by rw [be,be,aal];lia),S3.put hD,ag,?_,_,rfl⟩
  rw [aa4,aac hi,uk,uk]
  rfl
 .
  rintro acc U H3 ⟨S3,iK,rfl,v,rfl⟩
  have dl:=df.length
  rw [be] at dl
  rw [dl,aa1] at iK
  refine ⟨a2,D,_,_,rfl,rfl,S3 _ _ k2,iK,aag (aq (by rw [be,be,be,aav];lia)),λ a3 h3=>?_⟩
  have S4:=ai (o:=.lst ((z::ns).map V.str++(fs.map wr).map V.str)) h3
  have k4:(upd H3 a3 (.lst ((z::ns).map V.str++(fs.map wr).map V.str))) a3=some (.lst ((z::ns++fs.map wr).map V.str)):=by rw [uk];exact ag
  generalize upd H3 a3 (.lst ((z::ns).map V.str++(fs.map wr).map V.str))=H4 at S4 k4 ⊢
  have T4:=T2.trans (S3.trans S4)
  refine ⟨_,rfl,pw,rfl,⟨_,T4.seq hw⟩,λ D2 As=>?_⟩
  refine dO (K:=K) (a:=pw) (xs:=ws.map aO) (λ i acc U H'=>A4 (aG H4 H') (H' D2=some (.lst acc)) (acc=((ws.take i).map Tx.strN).map V.str) (∃ v,U=[v])) ⟨ai As,ag,rfl,none,rfl⟩ (λ i acc U H' _ e=>by obtain ⟨e,_⟩:=e;exact e.seq (T4.seq hw)) ?_ ?_
  .
   rintro i x acc U H5 hx ⟨S5,ye,rfl,v,rfl⟩
   rw [Et] at hx
   obtain ⟨n,en,rfl⟩:=Option.map_eq_some_iff.mp hx
   have hi:=(List.getElem?_eq_some_iff.mp en).1
   have g:=V7 n (aaL en)
   refine ⟨_,rfl,_,rfl,jj (aaT g (by decide)),ye,aq (by rw [be,be,aal];lia),S5.put As,ag,?_,_,rfl⟩
   rw [aa4,en,uk,uk]
   rfl
  .
   rintro acc U H5 ⟨S5,ye,rfl,v,rfl⟩
   rw [be,aa1] at ye
   refine ⟨a3,D2,_,_,rfl,rfl,S5 _ _ k4,ye,aag (aq (by rw [be,be,be,rT,be,aav];lia)),λ a4 h4=>?_⟩
   have S6:=ai (o:=.lst ((z::ns++fs.map wr).map V.str++(ws.map Tx.strN).map V.str)) h4
   have k6:(upd H5 a4 (.lst ((z::ns++fs.map wr).map V.str++(ws.map Tx.strN).map V.str))) a4=some (.lst ((cH z ns fs ws).map V.str)):=by unfold cH;rw [uk (l₁:=z::ns++fs.map wr)];exact ag
   generalize upd H5 a4 (.lst ((z::ns++fs.map wr).map V.str++(ws.map Tx.strN).map V.str))=H6 at S6 k6 ⊢
   refine ⟨_,a4,cH z ns fs ws,rfl,rfl,aN.of k6,o9 (λ y hy=>?_) ?_,?_⟩
   .
    unfold cH at hy
    rw [aaZ,aaZ,aaa] at hy
    rcases hy with ((rfl|hy)|hy)|hy
    . lia
    . have:=Xj y hy;lia
    . obtain ⟨f,YR,rfl⟩:=List.mem_map.mp hy
      have:=(gf f YR).len
      lia
    . obtain ⟨n,RB,rfl⟩:=List.mem_map.mp hy
      have:=lR (V7 n RB)
      lia
   . unfold cH
     rw [rT,rT,aav,be,be]
     lia
   . show Q (.str (PySem.Builtin.Str.glued _ _)) _
     rw [tE,acq]
     exact k H6 (T4.trans (S5.trans S6))
theorem rV {X:Cx} {K:W.Frag} (hK:X.K=K):fC X (.type "list") (λ xs H Q=>∃ p ys,xs=[.ref p]/\(aN K H p ys∨cE K H p ys)/\∀ l,H l=none->Q (.ref l) (upd H l (.lst ys))):=by subst hK;exact dS
theorem Gv (L:List Str) (rs:List Rm) (k:Nat):Str.join Bl.sp (cH (Str.ofString "room") [bP L k] (rm rs k).gq [])=aS L rs (.rm k):=by
 unfold cH aS aM
 rw [abE,aar]
 rfl
theorem DS (L:List Str) (rs:List Rm) (k:Nat):Str.join Bl.sp (cH (Str.ofString "sky") [bP L k] [qw (rm rs k),(rm rs k).lo,(rm rs k).hi] [])=aS L rs (.id (.sk k)):=rfl
theorem Ej (L:List Str) (rs:List Rm) (k j:Nat):Str.join Bl.sp (cH (Str.ofString "flow") [bP L k,bP L j] [im (rm rs k) k j] [])=aS L rs (.id (.fl k j)):=rfl
theorem Ec (L:List Str) (rs:List Rm) {k:Nat} {z:bE×Int×Int×Int} (h:(rm rs k).st=some z):Str.join Bl.sp (cH (Str.ofString "stove") [bP L k] [z.1] [z.2.1.toNat,z.2.2.1.toNat,z.2.2.2.toNat])=aS L rs (.id (.sv k)):=by
 unfold aS
 simp only [aM,dj,h]
 rfl
def oF (rs:List Rm) (k j:Nat):List dq:=((List.range j).filter λ j=>decide (j≠k) && decide (0<(im (rm rs k) k j).1)).map (.fl k)
def uW (rs:List Rm) (k:Nat):List dq:=(List.range k).flatMap λ k=>oF rs k rs.length
def vj (rs:List Rm) (k:Nat):List dq:=((List.range k).filter λ k=>(rm rs k).st.isSome).map .sv
theorem lG (rs:List Rm) (k j:Nat):oF rs k (j+1)=oF rs k j++(if (decide (j≠k) && decide (0<(im (rm rs k) k j).1))=true then [.fl k j] else []):=by
 unfold oF
 rw [aaF,abi,uk]
 congr 1
 cases h:(decide (j≠k) && decide (0<(im (rm rs k) k j).1))<;>simp only [acm,List.filter_nil,h]<;>rfl
theorem il (rs:List Rm) (k:Nat):uW rs (k+1)=uW rs k++oF rs k rs.length:=by
 unfold uW
 rw [aaF,List.flatMap_append]
 simp
theorem pI (rs:List Rm) (k:Nat):vj rs (k+1)=vj rs k++(if (rm rs k).st.isSome=true then [.sv k] else []):=by
 unfold vj
 rw [aaF,abi,uk]
 congr 1
 cases h:(rm rs k).st.isSome<;>simp only [acm,List.filter_nil,h]<;>rfl
inductive wY (K:W.Frag) (C:Addr) (vs:List V) (H:Hp) (Q:VK) (_E:XK):Prop
 | mk (a fp m pn:_) (L:List Str) (rs:_) (b:Nat×Nat×Nat) (_:vs=[.ref a,.ref pn]) (_:bj K C H a fp m) (_:aN K H pn (L.map V.str)) (_:kM L rs.length) (_:gA rs) (_:xc rs m) (_:lH m (lA (some b))) (_:pJ (some b)) (_:∀ p H',aG H H'->H p=none->H' p=some (.lst (((aY (some b) rs (allI rs)).map (aS L rs)).map V.str))->Q (.ref p) H')
theorem jD (T:Txt K mg Ad):Def P w K mg base "show_hold" 6 ["hold","names"] (wY K Ad.aX):=by
 refine T.qo.dQ bK λ f bD A outer s H vs Q E hr h=>?_
 obtain ⟨a,fp,m,pn,L,rs,b,rfl,hh,hn,nm,ok,fin,hb,ho,k⟩:=h
 refine ⟨_,(ac (az (i:=2) bK.nd rfl (lc rfl) (sd rfl (fw (pv 0) T.av (cK (K:=K) T) .nil hr.m) rfl T.ic rfl T.cZ))
     (ac (az (i:=3) bK.nd rfl (lc rfl) (br (aa (ao (fB (K:=K) T) hr.m (aa bw (aa (br af) (aa (br af) (aa (br (aa (cr (pv 0) rfl) (aa (cr (pv 0) rfl) (aa (cr (pv 0) rfl) af)))) af))))) af)))
     (ac (aQ (di aah acH acG nP (pv 3) (aa (fc ["room"] ["names","hold"] [1,0] (.cons ⟨rfl,rfl,.inl rfl⟩ (.cons ⟨rfl,rfl,.inl rfl⟩ .nil)) rfl (cP (pv 2)) (λ _ _ _ _ _=>(ax (i:=0) (show (["room","names","hold"]:List Str).Nodup by decide +kernel) rfl (lc rfl))) (λ _ _ _ _ _=>bZ) (λ _ _ _ _ _=>(ao (fB (K:=K) T) hr.m (aa bw (aa (br (aa (aA (tX (K:=K) rfl) (pv 1) (pv 0) (λ _ _=>rfl)) af)) (aa (aP (pv 2) T.av (hG (K:=K) T) .nil hr.m (aa (pv 0) af)) (aa (br af) af)))))) rfl (by decide +kernel) (by decide +kernel) (by decide +kernel)) af)))
     (ac (aQ (di aah acH acG nP (pv 3) (aa (fc ["room"] ["names","hold"] [1,0] (.cons ⟨rfl,rfl,.inl rfl⟩ (.cons ⟨rfl,rfl,.inl rfl⟩ .nil)) rfl (cP (pv 2)) (λ _ _ _ _ _=>(ax (i:=0) (show (["room","names","hold"]:List Str).Nodup by decide +kernel) rfl (lc rfl))) (λ _ _ _ _ _=>bZ) (λ _ _ _ _ _=>(ao (fB (K:=K) T) hr.m (aa bw (aa (br (aa (aA (tX (K:=K) rfl) (pv 1) (pv 0) (λ _ _=>rfl)) af)) (aa (bB (rV (K:=K) rfl) (by rfl) T.ic fW (aa (aP (pv 2) T.av (jG (K:=K) T) .nil hr.m (aa (pv 0) af)) af)) (aa (br af) af)))))) rfl (by decide +kernel) (by decide +kernel) (by decide +kernel)) af)))
     (ac (fM aaS rfl (cP (pv 2)) (ax (i:=4) bK.nd rfl (lc rfl)) (ak (fM aaS rfl (cP (pv 2)) (ax (i:=5) bK.nd rfl (lc rfl)) (ak (aR (PW.pt (nY (aF mQ (pv 4) (pv 5) (aK _)) (kQ (bJ (ao (gE (K:=K) T) hr.m (aa (cY (v:=V.ref _) rfl T.eV rfl) (aa (aP (pv 0) T.av (dW (K:=K) T) .nil hr.m (aa (pv 4) (aa (pv 5) af))) af))))))) (ak (aQ (di aah aaE aaD cu (pv 3) (aa (ao (fB (K:=K) T) hr.m (aa bw (aa (br (aa (aA au (pv 1) (pv 4) (λ _ _=>rfl)) (aa (aA au (pv 1) (pv 5) (λ _ _=>rfl)) af))) (aa (br (aa (aP (pv 0) T.av (dW (K:=K) T) .nil hr.m (aa (pv 4) (aa (pv 5) af))) af)) (aa (br af) af))))) af)))) aD)))))
     (ac (fM aaS rfl (cP (pv 2)) (ax (i:=6) bK.nd rfl (lc rfl)) (ak (aR (aF tT (aP (pv 0) T.av (fJ (K:=K) T) .nil hr.m (aa (pv 6) af)) oG (aK _)) (ac (fL (aP (pv 0) T.av (fJ (K:=K) T) .nil hr.m (aa (pv 6) af)) (fQ (K:=K) (n:=4) rfl rfl (aJ (ax (i:=7) bK.nd rfl (lc rfl)) (aJ (ax (i:=8) bK.nd rfl (lc rfl)) (aJ (ax (i:=9) bK.nd rfl (lc rfl)) (aJ (ax (i:=10) bK.nd rfl (lc rfl)) dZ))))))
     (ak (aQ (di aah aaE aaD cu (pv 3) (aa (ao (fB (K:=K) T) hr.m (aa bw (aa (br (aa (aA au (pv 1) (pv 6) (λ _ _=>rfl)) af)) (aa (br (aa (pv 7) af)) (aa (br (aa (pv 8) (aa (pv 9) (aa (pv 10) af)))) af))))) af))))) aD)))
     (ak (aH (pv 3))))))))),?_⟩
 try dsimp only [gi,bx]
 first|(refine lM ?_;intro _ _ _ _ _ _ _ _)|skip
 obtain ⟨dx,pm,pf,ps,pt,_,_,_,_,_,ha,_⟩:=hh.ex
 have n4:=ok.n4
 have lr:m.rows.length=rs.length:=by rw [fin.rows,be]
 obtain ⟨o1,o2,o3⟩:=ho b rfl
 have e1:m.most=(b.1:Int):=aaV Prod.fst hb
 have e2:m.ig=(b.2.1:Int):=aaV (λ x=>x.2.1) hb
 have e3:m.load=(b.2.2:Int):=aaV (λ x=>x.2.2) hb
 refine ⟨_,rfl,a,dx,_,rfl,ha,rfl,a,fp,m,rfl,hh,m.rows.length,rfl,by lia,λ pr GN=>?_⟩
 rw [lr]
 have S1:=ai (o:=.lst ((List.range rs.length).map aO)) GN
 have k1:(upd H pr (.lst ((List.range rs.length).map aO))) pr=some (.lst ((List.range rs.length).map aO)):=ag
 generalize upd H pr (.lst ((List.range rs.length).map aO))=H1 at S1 k1 ⊢
 have at_:∀ {k:Nat},k<rs.length->mZ (L.map V.str) (k:Int)=some (.str (bP L k)):=λ {k} hk=>bQ (by rw [Et,(nm.at_ hk).2];rfl)
 have nl:∀ {k:Nat},k<rs.length->(bP L k).length<=62:=λ {k} hk=>by have:=nm.l8 _ (nm.at_ hk).1;lia
 refine ⟨xZ,λ l1 Zw=>?_⟩
 have R1:=ai (o:=.lst []) Zw
 have c1:(upd H1 l1 (.lst [])) l1=some (.lst []):=ag
 generalize upd H1 l1 (.lst [])=G1 at R1 c1 ⊢
 refine ⟨xZ,λ l2 DY=>?_⟩
 have R2:=ai (o:=.lst []) DY
 have c2:(upd G1 l2 (.lst [])) l2=some (.lst []):=ag
 generalize upd G1 l2 (.lst [])=G2 at R2 c2 ⊢
 have U2:=S1.trans (R1.trans R2)
 refine ⟨_,rfl,a,_,dx,_,_,rfl,U2 _ _ ha,T.av,T.gR,pK _ _ _ _ _,_,rfl,a,_,dx,_,_,rfl,U2 _ _ ha,T.av,T.ie,sT _ _ _ _ _,_,rfl,a,_,dx,_,_,rfl,U2 _ _ ha,T.av,T.gS,qR _ _ _ _ _,xY,λ l3 Zj=>?_⟩
 rw [e1,e2,e3]
 have R3:=ai (o:=.lst [.int (b.1:Int),.int (b.2.1:Int),.int (b.2.2:Int)]) Zj
 have c3:(upd G2 l3 (.lst [.int (b.1:Int),.int (b.2.1:Int),.int (b.2.2:Int)])) l3=some (.lst [.int (b.1:Int),.int (b.2.1:Int),.int (b.2.2:Int)]):=ag
 generalize upd G2 l3 (.lst [.int (b.1:Int),.int (b.2.1:Int),.int (b.2.2:Int)])=G3 at R3 c3 ⊢
 refine ⟨Str.ofString "bounds",l1,l2,l3,[],[],[],[b.1,b.2.1,b.2.2],rfl,R3 _ _ (R2 _ _ c1),aN.of (R3 _ _ c2),cS,aN.of c3,by decide +kernel,by show 0<=9;decide,nofun,by show 0<=9;decide,nofun,by show 3<=9;decide,λ n hn=>?_,λ G4 R4=>⟨vq,λ pl hC=>?_⟩⟩
 . simp only [aaa,GV,aaI] at hn
   rcases hn with rfl|rfl|rfl<;>lia
 have U4:=U2.trans (R3.trans R4)
 have kr:=(R1.trans (R2.trans (R3.trans R4))) _ _ k1
 have O9:=none_of U4 hC
 rw [show Str.join Bl.sp (cH (Str.ofString "bounds") [] [] [b.1,b.2.1,b.2.2])=aS L rs (.bd b.1 b.2.1 b.2.2) from rfl]
 have Dk:=hh.same U4
 have DA:=U4 _ _ ha
 have Fv:=U4.seq hn
 have B0:aG G4 (upd G4 pl (.lst [.str (aS L rs (.bd b.1 b.2.1 b.2.2))])):=ai hC
 have p0:(upd G4 pl (.lst [.str (aS L rs (.bd b.1 b.2.1 b.2.2))])) pl=some (.lst (([Ln.bd b.1 b.2.1 b.2.2].map (aS L rs)).map V.str)):=ag
 generalize upd G4 pl (.lst [.str (aS L rs (.bd b.1 b.2.1 b.2.2))])=H2 at B0 p0 ⊢
 refine ⟨_,rfl,.inl ⟨rfl,_,aN.of p0⟩,_,rfl,pr,rfl,⟨_,aN.of (B0 _ _ kr)⟩,λ D hD=>?_⟩
 refine dO (K:=K) (a:=pr) (xs:=(List.range rs.length).map aO) (λ i acc U H'=>A4 (aG H2 H') (H' D=some (.lst acc)) (acc=(((List.range i).map Ln.rm).map (aS L rs)).map V.str) (∃ v,U=[v,some (.ref pn),some (.ref a)])) ⟨ai hD,ag,rfl,none,rfl⟩ (λ i acc U H' _ e=>by obtain ⟨e,_⟩:=e;exact aN.of (e _ _ (B0 _ _ kr))) ?_ ?_
 .
  rintro i x acc U H3 hx ⟨S3,iK,rfl,v,rfl⟩
  have hi:i<rs.length:=by
    have:=(List.getElem?_eq_some_iff.mp hx).1
    rw [be,RF] at this
    exact this
  rw [Et,aa3 hi] at hx
  cases hx
  obtain ⟨om,er⟩:=ok.at_ hi
  have B3:=B0.trans S3
  refine ⟨_,rfl,_,rfl,pn,_,_,_,rfl,rfl,.inl (B3.seq Fv),at_ hi,vq,λ q1 kg=>?_⟩
  have Z1:=ai (o:=.lst [.str (bP L i)]) kg
  have j1:(upd H3 q1 (.lst [.str (bP L i)])) q1=some (.lst [.str (bP L i)]):=ag
  generalize upd H3 q1 (.lst [.str (bP L i)])=H4 at Z1 j1 ⊢
  have B4:=B3.trans Z1
  refine ⟨_,rfl,a,dx,_,rfl,B4 _ _ DA,rfl,_,rfl,a,fp,m,i,(rm rs i).gq,rfl,Dk.same B4,by rw [fin.rows,Et,er];rfl,λ q2 xs ki dn=>?_⟩
  have Z2:=ai (o:=.lst xs) ki
  have j2:(upd H4 q2 (.lst xs)) q2=some (.lst xs):=ag
  have dn:=bN.same Z2 _ dn
  generalize upd H4 q2 (.lst xs)=H5 at Z2 j2 dn ⊢
  refine ⟨xZ,λ q3 ux=>?_⟩
  have Z3:=ai (o:=.lst []) ux
  have j3:(upd H5 q3 (.lst [])) q3=some (.lst []):=ag
  have dn:=bN.same Z3 _ dn
  generalize upd H5 q3 (.lst [])=H6 at Z3 j3 dn ⊢
  refine ⟨Str.ofString "room",q1,q2,q3,[bP L i],(rm rs i).gq,xs,[],rfl,Z3 _ _ (Z2 _ _ j1),aN.of (Z3 _ _ j2),dn,aN.of j3,by decide +kernel,by show 1<=9;decide,λ n hn=>by rw [List.mem_singleton.mp hn];exact nl hi,by have:=om.m7;lia,om.gm,by show 0<=9;decide,nofun,λ H7 Z4=>?_⟩
  rw [Gv]
  have VN:=Z1.trans (Z2.trans (Z3.trans Z4))
  refine ⟨VN _ _ iK,aq (by rw [be,be,be,RF];lia),(S3.trans VN).put hD,ag,?_,_,rfl⟩
  rw [aaF,uk,uk,uk]
  rfl
 .
  rintro acc U H3 ⟨S3,iK,rfl,v,rfl⟩
  rw [be,RF] at iK
  have B3:=B0.trans S3
  have p3:=S3 _ _ p0
  refine ⟨pl,D,_,_,rfl,rfl,p3,iK,aag (aq (by rw [be,be,be,be,be,RF];show 1+rs.length<=1000;lia)),?_⟩
  have B4:aG G4 (upd H3 pl (.lst (([Ln.bd b.1 b.2.1 b.2.2].map (aS L rs)).map V.str++(((List.range rs.length).map Ln.rm).map (aS L rs)).map V.str))):=B3.put hC
  have p4:(upd H3 pl (.lst (([Ln.bd b.1 b.2.1 b.2.2].map (aS L rs)).map V.str++(((List.range rs.length).map Ln.rm).map (aS L rs)).map V.str))) pl=some (.lst (((aY (some b) rs []).map (aS L rs)).map V.str)):=by
    rw [ag,← uk,← uk]
    unfold aY
    rw [abE,aar]
    rfl
  generalize upd H3 pl (.lst (([Ln.bd b.1 b.2.1 b.2.2].map (aS L rs)).map V.str++(((List.range rs.length).map Ln.rm).map (aS L rs)).map V.str))=H4 at B4 p4 ⊢
  clear S3 B3 iK p3
  refine ⟨_,rfl,.inl ⟨rfl,_,aN.of p4⟩,_,rfl,pr,rfl,⟨_,aN.of (B4 _ _ kr)⟩,λ D2 As=>?_⟩
  refine dO (K:=K) (a:=pr) (xs:=(List.range rs.length).map aO) (λ i acc U H'=>A4 (aG H4 H') (H' D2=some (.lst acc)) (acc=((((List.range i).map dq.sk).map Ln.id).map (aS L rs)).map V.str) (∃ v,U=[v,some (.ref pn),some (.ref a)])) ⟨ai As,ag,rfl,none,rfl⟩ (λ i acc U H' _ e=>by obtain ⟨e,_⟩:=e;exact aN.of (e _ _ (B4 _ _ kr))) ?_ ?_
  .
   rintro i x acc U H5 hx ⟨S5,ye,rfl,v,rfl⟩
   have hi:i<rs.length:=by
     have:=(List.getElem?_eq_some_iff.mp hx).1
     rw [be,RF] at this
     exact this
   rw [Et,aa3 hi] at hx
   cases hx
   obtain ⟨om,er⟩:=ok.at_ hi
   obtain ⟨s1,_⟩:=ok.sh hi (i:=3) (by decide)
   have B5:=B4.trans S5
   refine ⟨_,rfl,_,rfl,pn,_,_,_,rfl,rfl,.inl (B5.seq Fv),at_ hi,vq,λ q1 kg=>?_⟩
   have Z1:=ai (o:=.lst [.str (bP L i)]) kg
   have j1:(upd H5 q1 (.lst [.str (bP L i)])) q1=some (.lst [.str (bP L i)]):=ag
   generalize upd H5 q1 (.lst [.str (bP L i)])=H6 at Z1 j1 ⊢
   have B6:=B5.trans Z1
   refine ⟨_,rfl,a,dx,_,rfl,B6 _ _ DA,rfl,_,rfl,a,fp,m,i,nW rs i,rfl,Dk.same B6,fin.sk i hi,λ v dv=>?_⟩
   obtain ⟨q0,v1,v2,v3,rfl,vw,d1,d2,d3⟩:=Dn.nG dv
   refine ⟨q0,_,rfl,.inr vw,λ q2 ki=>?_⟩
   have Z2:=ai (o:=.lst [v1,v2,v3]) ki
   have j2:(upd H6 q2 (.lst [v1,v2,v3])) q2=some (.lst [v1,v2,v3]):=ag
   generalize upd H6 q2 (.lst [v1,v2,v3])=H7 at Z2 j2 ⊢
   refine ⟨xZ,λ q3 ux=>?_⟩
   have Z3:=ai (o:=.lst []) ux
   have j3:(upd H7 q3 (.lst [])) q3=some (.lst []):=ag
   generalize upd H7 q3 (.lst [])=H8 at Z3 j3 ⊢
   have ES:=Z2.trans Z3
   refine ⟨Str.ofString "sky",q1,q2,q3,[bP L i],[qw (rm rs i),(rm rs i).lo,(rm rs i).hi],[v1,v2,v3],[],rfl,ES _ _ j1,aN.of (Z3 _ _ j2),aW (Dn.same ES _ d1) (aW (Dn.same ES _ d2) (aW (Dn.same ES _ d3) cS)),aN.of j3,by decide +kernel,by show 1<=9;decide,λ n hn=>by rw [List.mem_singleton.mp hn];exact nl hi,by show 3<=9;decide,λ f hf=>?_,by show 0<=9;decide,nofun,λ H9 Z4=>?_⟩
   . simp only [aaa,GV,aaI] at hf
     rcases hf with rfl|rfl|rfl
     . exact s1
     . exact om.gl
     . exact om.gh
   rw [DS]
   have Up:=Z1.trans (ES.trans Z4)
   refine ⟨Up _ _ ye,aq (by rw [be,be,be,be,RF];lia),(S5.trans Up).put As,ag,?_,_,rfl⟩
   rw [aaF,uk,uk,uk,uk]
   rfl
  .
   rintro acc U H5 ⟨S5,ye,rfl,v,rfl⟩
   rw [be,RF] at ye
   have B5:=B4.trans S5
   have p5:=S5 _ _ p4
   have le1:(aY (some b) rs []).length<=10:=by
     rw [gU]
     show 1+rs.length+0<=10
     lia
   refine ⟨pl,D2,_,_,rfl,rfl,p5,ye,aag (aq (by rw [be,be,be,be,be,be,RF];lia)),?_⟩
   have eI:∀ ids:List dq,∀ uV:List dq,((aY (some b) rs ids).map (aS L rs)).map V.str++((uV.map Ln.id).map (aS L rs)).map V.str=((aY (some b) rs (ids++uV)).map (aS L rs)).map V.str:=λ ids uV=>by
     rw [← uk,← uk]
     unfold aY
     rw [uk (f:=Ln.id),aat,aat]
   rw [eI [] ((List.range rs.length).map dq.sk),abm]
   have B6:aG G4 (upd H5 pl (.lst (((aY (some b) rs ((List.range rs.length).map dq.sk)).map (aS L rs)).map V.str))):=B5.put hC
   have p6:(upd H5 pl (.lst (((aY (some b) rs ((List.range rs.length).map dq.sk)).map (aS L rs)).map V.str))) pl=some (.lst (((aY (some b) rs (jJ rs)).map (aS L rs)).map V.str)):=ag
   generalize upd H5 pl (.lst (((aY (some b) rs ((List.range rs.length).map dq.sk)).map (aS L rs)).map V.str))=H6 at B6 p6 ⊢
   clear S5 B5 ye p5
   have sL:∀ {ids:List dq},ids.length<=50->(((aY (some b) rs ids).map (aS L rs)).map V.str).length<=1000:=λ {ids} h=>by
     rw [be,be,gU]
     show 1+rs.length+ids.length<=1000
     lia
   have l0:∀ i j,(oF rs i j).length<=j:=λ i j=>by
     unfold oF
     rw [be]
     have:=aaX (λ j=>decide (j≠i) && decide (0<(im (rm rs i) i j).1)) (List.range j)
     rw [RF] at this
     exact this
   have lT:∀ i,(uW rs i).length<=i * rs.length:=λ i=>by
     induction i with
     | zero=>exact aaH _
     | succ i ih =>
       rw [il,rT,acW]
       have:=l0 i rs.length
       lia
   have lS:(jJ rs).length=rs.length:=by unfold jJ;rw [be,RF]
   have Ct:∀ {i:Nat} {x:V},((List.range rs.length).map aO)[i]?=some x->i<rs.length/\x=aO i:=λ {i x} hx=>by
     have hi:=(List.getElem?_eq_some_iff.mp hx).1
     rw [be,RF] at hi
     rw [Et,aa3 hi] at hx
     cases hx
     exact ⟨hi,rfl⟩
   refine ⟨_,rfl,pr,rfl,⟨_,aN.of (B6 _ _ kr)⟩,?_⟩
   refine j0 (K:=K) (a:=pr) (xs:=(List.range rs.length).map aO) (λ i U H'=>A3 (aG G4 H') (H' pl=some (.lst (((aY (some b) rs (jJ rs++uW rs i)).map (aS L rs)).map V.str))) (E7 λ v4 v5 v6 v7 v8 v9 v10=>U=[some (.ref a),some (.ref pn),some (.ref pr),some (.ref pl),v4,v5,v6,v7,v8,v9,v10])) ⟨B6,by rw [show uW rs 0=[] from rfl,aar];exact p6,none,none,none,none,none,none,none,rfl⟩ (λ i U H' _ e=>by obtain ⟨e,_⟩:=e;exact aN.of (e _ _ kr)) ?_ ?_
   .
    rintro _ i x U H7 hx ⟨B7,p7,v4,v5,v6,v7,v8,v9,v10,rfl⟩
    obtain ⟨hi,rfl⟩:=Ct hx
    refine ⟨_,rfl,pr,rfl,⟨_,aN.of (B7 _ _ kr)⟩,?_⟩
    refine j0 (K:=K) (a:=pr) (xs:=(List.range rs.length).map aO) (λ j U H'=>A3 (aG G4 H') (H' pl=some (.lst (((aY (some b) rs (jJ rs++uW rs i++oF rs i j)).map (aS L rs)).map V.str))) (∃ v5,U=[some (.ref a),some (.ref pn),some (.ref pr),some (.ref pl),some (aO i),v5,v6,v7,v8,v9,v10])) ⟨B7,by rw [show oF rs i 0=[] from rfl,aar];exact p7,v5,rfl⟩ (λ i U H' _ e=>by obtain ⟨e,_⟩:=e;exact aN.of (e _ _ kr)) ?_ ?_
    .
     rintro _ j x U H8 hx ⟨B8,p8,v5,rfl⟩
     obtain ⟨hj,rfl⟩:=Ct hx
     have en:=lG rs i j
     by_cases c:i=j
     . subst c
       rw [show (decide (i≠i) && decide (0<(im (rm rs i) i i).1))=false by simp,aak OR,aar] at en
       refine ⟨_,rfl,_,rfl,rfl,_,rfl,eU rfl ?_⟩
       exact eB ⟨B8,by rw [en];exact p8,_,rfl⟩
     .
      refine ⟨_,rfl,_,rfl,rfl,_,rfl,qu (λ e=>c (by have e:=V.int.inj e;lia)) ?_⟩
      obtain ⟨s1,s2,s3,_⟩:=ok.sh hi (i:=if j<i then j else j - 1) (by split<;>lia)
      have Hs:m.share i j=im (rm rs i) i j:=by
        unfold ar.share
        rw [aak c]
        exact fin.fl i j hi hj c
      refine ⟨_,rfl,a,dx,_,rfl,B8 _ _ DA,rfl,_,rfl,_,rfl,a,fp,m,i,j,rfl,Dk.same B8,by lia,by lia,λ v H9 Z1 dv=>?_⟩
      rw [Hs] at dv
      obtain ⟨q1,rfl,kg⟩:=Dn.fr dv
      have ob:=s1.ok
      refine ⟨Ad.gg,q1,0,1,_,_,rfl,T.gF.at _,kg,yl,yl,ob.t.mono (by decide),ob.b.mono (by decide),_,rfl,?_⟩
      have p9:=Z1 _ _ p8
      have B9:=B8.trans Z1
      refine fF (λ z=>?_) λ z=>?_
      .
       have z:0 * (im (rm rs i) i j).2<(im (rm rs i) i j).1 * 1:=z
       rw [show (decide (j≠i) && decide (0<(im (rm rs i) i j).1))=true by rw [abr,abg,abg];exact ⟨λ e=>c e.symm,by lia⟩,aam rfl] at en
       refine ⟨_,rfl,.inl ⟨rfl,_,aN.of p9⟩,_,rfl,_,rfl,pn,_,_,_,rfl,rfl,.inl (B9.seq Fv),at_ hi,_,rfl,_,rfl,pn,_,_,_,rfl,rfl,.inl (B9.seq Fv),at_ hj,wj,λ q2 ki=>?_⟩
       have Z2:=ai (o:=.lst [.str (bP L i),.str (bP L j)]) ki
       have j2:(upd H9 q2 (.lst [.str (bP L i),.str (bP L j)])) q2=some (.lst [.str (bP L i),.str (bP L j)]):=ag
       generalize upd H9 q2 (.lst [.str (bP L i),.str (bP L j)])=uC at Z2 j2 ⊢
       have Dt:=B9.trans Z2
       refine ⟨_,rfl,a,dx,_,rfl,Dt _ _ DA,rfl,_,rfl,_,rfl,a,fp,m,i,j,rfl,Dk.same Dt,by lia,by lia,λ v qU Z3 Hk=>⟨vq,λ q3 ux=>?_⟩⟩
       rw [Hs] at Hk
       have Z4:=ai (o:=.lst [v]) ux
       have j4:(upd qU q3 (.lst [v])) q3=some (.lst [v]):=ag
       have Um:=Dn.same Z4 _ Hk
       generalize upd qU q3 (.lst [v])=vn at Z4 j4 Um ⊢
       refine ⟨xZ,λ q4 D5=>?_⟩
       have Z5:=ai (o:=.lst []) D5
       have j5:(upd vn q4 (.lst [])) q4=some (.lst []):=ag
       generalize upd vn q4 (.lst [])=DW at Z5 j5 ⊢
       refine ⟨Str.ofString "flow",q2,q3,q4,[bP L i,bP L j],[im (rm rs i) i j],[v],[],rfl,Z5 _ _ (Z4 _ _ (Z3 _ _ j2)),aN.of (Z5 _ _ j4),aW (Dn.same Z5 _ Um) cS,aN.of j5,by decide +kernel,by show 2<=9;decide,λ n hn=>?_,by show 1<=9;decide,λ f hf=>by rw [List.mem_singleton.mp hf];exact s1,by show 0<=9;decide,nofun,λ Bc Z6=>?_⟩
       . simp only [aaa,GV,aaI] at hn
         rcases hn with rfl|rfl
         . exact nl hi
         . exact nl hj
       rw [Ej]
       have Uv:=Z2.trans (Z3.trans (Z4.trans (Z5.trans Z6)))
       have h0:=l0 i j
       have hT:=lT i
       have VF:i * rs.length<=4 * 4:=abY (by lia) n4
       refine ⟨pl,_,_,rfl,rfl,Uv _ _ p9,aq (sL (by rw [rT,rT,lS];lia)),(B9.trans Uv).put hC,?_,_,rfl⟩
       rw [ag,en,← aat,← eI _ [dq.fl i j]]
       rfl
      . have z:¬ 0 * (im (rm rs i) i j).2<(im (rm rs i) i j).1 * 1:=z
        rw [show (decide (j≠i) && decide (0<(im (rm rs i) i j).1))=false by rw [Bool.and_eq_false_iff];exact .inr (aaq (by lia)),aak OR,aar] at en
        exact ⟨B9,by rw [en];exact p9,_,rfl⟩
    . rintro U H8 ⟨B8,p8,v5,rfl⟩
      rw [be,RF,aat,← il] at p8
      exact ⟨B8,p8,_,_,_,_,_,_,_,rfl⟩
   .
    rintro U H7 ⟨B7,p7,v4,v5,v6,v7,v8,v9,v10,rfl⟩
    rw [be,RF] at p7
    refine ⟨_,rfl,pr,rfl,⟨_,aN.of (B7 _ _ kr)⟩,?_⟩
    refine qM (K:=K) (a:=pr) (xs:=(List.range rs.length).map aO) (λ i U H'=>A3 (aG G4 H') (H' pl=some (.lst (((aY (some b) rs (jJ rs++uW rs rs.length++vj rs i)).map (aS L rs)).map V.str))) (E7 λ v4 v5 v6 v7 v8 v9 v10=>U=[some (.ref a),some (.ref pn),some (.ref pr),some (.ref pl),v4,v5,v6,v7,v8,v9,v10])) ⟨B7,by rw [show vj rs 0=[] from rfl,aar];exact p7,_,_,_,_,_,_,_,rfl⟩ (λ i U H' _ e=>by obtain ⟨e,_⟩:=e;exact aN.of (e _ _ kr)) ?_ ?_
    .
     rintro i x U H8 hx ⟨B8,p8,v4,v5,v6,v7,v8,v9,v10,rfl⟩
     obtain ⟨hi,rfl⟩:=Ct hx
     obtain ⟨om,_⟩:=ok.at_ hi
     have en:=pI rs i
     have VF:rs.length * rs.length<=4 * 4:=abY n4 n4
     have hT:=lT rs.length
     have Zt:(vj rs i).length<=i:=by
       unfold vj
       rw [be]
       have:=aaX (λ k=>(rm rs k).st.isSome) (List.range i)
       rw [RF] at this
       exact this
     have oJ:=fin.sv i hi
     refine ⟨_,rfl,a,dx,_,rfl,B8 _ _ DA,rfl,_,rfl,a,fp,m,i,_,rfl,Dk.same B8,oJ,λ v dv=>?_⟩
     cases e:(rm rs i).st with
     | none =>
       rw [e] at dv en
       rw [show (none:Option (bE×Int×Int×Int)).isSome=false from rfl,aak OR,aar] at en
       cases (show v=V.cD from dv)
       exact ⟨rfl,_,rfl,eU rfl ⟨B8,by rw [en];exact p8,_,_,_,_,_,_,_,rfl⟩⟩
     | some z =>
       rw [e] at dv en oJ
       rw [show (some z:Option (bE×Int×Int×Int)).isSome=true from rfl,aam rfl] at en
       obtain ⟨g1,g2,g3,g4,g5⟩:=om.so z e
       obtain ⟨q0,xs0,rfl,vw,dz⟩:=dv
       refine ⟨rfl,_,rfl,qu nofun ?_⟩
       refine ⟨_,rfl,a,dx,_,rfl,B8 _ _ DA,rfl,_,rfl,a,fp,m,i,_,rfl,Dk.same B8,oJ,λ v2 Hk=>?_⟩
       obtain ⟨q1,xs,rfl,kg,w1,_,rfl,d1,w2,_,rfl,d2,w3,_,rfl,d3,w4,_,rfl,d4,rfl⟩:=Hk
       cases (show w2=V.int z.2.1 from d2)
       cases (show w3=V.int z.2.2.1 from d3)
       cases (show w4=V.int z.2.2.2 from d4)
       refine ⟨q1,_,rfl,kg,rfl,_,_,rfl,_,_,rfl,_,_,rfl,_,_,rfl,rfl,?_⟩
       refine ⟨_,rfl,.inl ⟨rfl,_,aN.of p8⟩,_,rfl,_,rfl,pn,_,_,_,rfl,rfl,.inl (B8.seq Fv),at_ hi,vq,λ q2 ki=>?_⟩
       have Z2:=ai (o:=.lst [.str (bP L i)]) ki
       have j2:(upd H8 q2 (.lst [.str (bP L i)])) q2=some (.lst [.str (bP L i)]):=ag
       have x9:=Dn.same Z2 _ d1
       generalize upd H8 q2 (.lst [.str (bP L i)])=H9 at Z2 j2 x9 ⊢
       refine ⟨_,rfl,vq,λ q3 ux=>?_⟩
       have Z3:=ai (o:=.lst [w1]) ux
       have j3:(upd H9 q3 (.lst [w1])) q3=some (.lst [w1]):=ag
       have x9:=Dn.same Z3 _ x9
       generalize upd H9 q3 (.lst [w1])=uC at Z3 j3 x9 ⊢
       refine ⟨_,rfl,_,rfl,_,rfl,xY,λ q4 D5=>?_⟩
       have vv:∀ {x:Int},0<=x->V.int x=aO x.toNat:=λ {x} h=>aaV V.int (ab2 h).symm
       have Z4:=ai (o:=.lst [.int z.2.1,.int z.2.2.1,.int z.2.2.2]) D5
       have j4:(upd uC q4 (.lst [.int z.2.1,.int z.2.2.1,.int z.2.2.2])) q4=some (.lst ([z.2.1.toNat,z.2.2.1.toNat,z.2.2.2.toNat].map aO)):=by
         rw [ag,vv g3.1,vv g4.1,vv g5.1]
         rfl
       have x9:=Dn.same Z4 _ x9
       generalize upd uC q4 (.lst [.int z.2.1,.int z.2.2.1,.int z.2.2.2])=qU at Z4 j4 x9 ⊢
       refine ⟨Str.ofString "stove",q2,q3,q4,[bP L i],[z.1],[w1],[z.2.1.toNat,z.2.2.1.toNat,z.2.2.2.toNat],rfl,Z4 _ _ (Z3 _ _ j2),aN.of (Z4 _ _ j3),aW x9 cS,aN.of j4,by decide +kernel,by show 1<=9;decide,λ n hn=>by rw [List.mem_singleton.mp hn];exact nl hi,by show 1<=9;decide,λ f hf=>by rw [List.mem_singleton.mp hf];exact g1,by show 3<=9;decide,λ n hn=>?_,λ vn Z5=>?_⟩
       . simp only [aaa,GV,aaI] at hn
         rcases hn with rfl|rfl|rfl<;>lia
       rw [Ec L rs e]
       have VA:=Z2.trans (Z3.trans (Z4.trans Z5))
       refine ⟨pl,_,_,rfl,rfl,VA _ _ p8,aq (sL (by rw [rT,rT,lS];lia)),(B8.trans VA).put hC,?_,_,_,_,_,_,_,_,rfl⟩
       rw [ag,en,← aat,← eI _ [dq.sv i]]
       rfl
    . rintro U H8 ⟨B8,p8,v4,v5,v6,v7,v8,v9,v10,rfl⟩
      rw [be,RF] at p8
      exact ⟨_,rfl,k pl H8 (U4.trans B8) O9 p8⟩
theorem dU (T:Txt K mg Ad):Def P w K mg base "_law_shown" 1 ["_law_one"] (lX K):=by
 refine T.pZ.dQ nX λ f bD A outer s H vs Q E hr h=>?_
 obtain ⟨p,t,b,rfl,hp,ht,hb,RH,k⟩:=h
 refine ⟨_,(ac (aR (aF eS (aA au (pv 0) ah (λ _ _=>rfl)) ah (aK _)) (ak (aH (bB bL (by rfl) T.iQ gp (aa (aA au (pv 0) ah (λ _ _=>rfl)) af)))) aD)
     (ak (aH (am cA (am cA (bB bL (by rfl) T.iQ gp (aa (aA au (pv 0) ah (λ _ _=>rfl)) af)) bw) (bB bL (by rfl) T.iQ gp (aa (aA au (pv 0) ah (λ _ _=>rfl)) af)))))),?_⟩
 try dsimp only [gi,bx]
 refine ⟨_,rfl,p,_,_,_,rfl,rfl,.inr hp,rfl,rfl,_,rfl,fF (λ h=>?_) (λ h=>?_)⟩
 .
  have CM:b=1:=eO.mp h
  unfold Tx.fO at k
  rw [aam CM,← Tx.str_int] at k
  exact ⟨_,rfl,p,_,_,_,rfl,rfl,.inr hp,rfl,t,rfl,jj ht,k⟩
 .
  have CM:b≠1:=λ e=>h (eO.mpr e)
  unfold Tx.fO at k
  have e2:Str.ofString (toString b)=Tx.strN b.natAbs:=by
    rw [Tx.str_int]
    unfold Tx.jE
    rw [aak (by lia)]
  rw [aak CM,← Tx.str_int,← e2,← vH] at k
  have t1:=Tx.rK ht
  have g2:=(Tx.c7 (n:=b.natAbs) (by lia)).1.2.1
  rw [← Tx.str_int] at t1
  rw [← e2] at g2
  have l1:(Str.ofString "/").length=1:=by decide +kernel
  refine ⟨_,rfl,p,_,_,_,rfl,rfl,.inr hp,rfl,t,rfl,jj ht,_,_,rfl,rfl,?_,_,rfl,p,_,_,_,rfl,rfl,.inr hp,rfl,b,rfl,jj (by lia),_,_,rfl,rfl,?_,k⟩
  . exact aag (aq (by lia))
  . rw [aaj];exact aag (aq (by lia))
theorem kY:(Str.ofString "abcdefghijklmnopqrstuvwxyz").length=26:=by decide +kernel
theorem pM {m:Int} (h0:0<=m) (h1:m<26):mZ (Str.ofString "abcdefghijklmnopqrstuvwxyz").cps.toList m=some (97+m.toNat):=by
 obtain ⟨j,rfl⟩:=aaG h0
 rw [Nm.sR]
 exact jx (Nm.BN j (by lia))
theorem tN {L:List Str} {n:Nat} (o:Nm.Ok L) (ln:L.length=n) (h:∀ l∈L.map (λ w=>w.cps.toList),1<=l.length):kM L n :=
 ⟨o.nd,ln,λ z hz=>by have:=h _ (abM hz);rw [Tx.len] at this;exact this,o.len,o.low⟩
inductive Cb  (vs:List V) (H:Hp) (Q:VK) (_E:XK):Prop
 | mk (c my:Int) (_:vs=[.int c,.int my]) (_:1<=my) (_:my<=4) (_:∀ p L H',aG H H'->H' p=some (.lst (L.map V.str))->kM L my.toNat->Q (.ref p) H')
theorem n6 (T:Txt K mg Ad):Def P w K mg base "_law_names" 1 ["_law_cell","_law_many"] Cb:=by
 refine T.qF.dQ c8 λ f bD A outer s H vs Q E hr h=>?_
 obtain ⟨c,my,rfl,m1,m4,k⟩:=h
 refine ⟨_,(ac (az (i:=2) c8.nd rfl (lc rfl) bw)
     (ac (az (i:=3) c8.nd rfl (lc rfl) (am aU (pv 0) ah))
     (ac (aR (aF eS (am aU (am bp (pv 0) ah) ah) ah (aK _)) (ak (aH (fc ["_law_k"] ["_law_letters","_law_start"] [2,3] (.cons ⟨rfl,rfl,.inl rfl⟩ (.cons ⟨rfl,rfl,.inl rfl⟩ .nil)) rfl (bW rfl T.cZ (aa (pv 1) af)) (λ _ _ _ _ _=>(ax (i:=0) (show (["_law_k","_law_letters","_law_start"]:List Str).Nodup by decide +kernel) rfl (lc rfl))) (λ _ _ _ _ _=>bZ) (λ _ _ _ _ _=>(am ja (cG vL (pv 1) (c9 (pv 2)) (c9 (am bq (pv 2) ah))) (am bq (pv 0) ah))) rfl (by decide +kernel) (by decide +kernel) (by decide +kernel)))) aD)
     (ac (az (i:=4) c8.nd rfl (lc rfl) (am bq ah (am aU (am bp (pv 0) ah) ah)))
     (ac (az (i:=5) c8.nd rfl (lc rfl) (am aU (am bp (pv 0) ah) (pv 4)))
     (ac (az (i:=6) c8.nd rfl (lc rfl) (aA xz (pv 2) (am aU (am bp (pv 0) ah) ah) (λ _ _=>rfl)))
     (ak (aH (fc ["_law_k"] ["_law_sign","_law_at","_law_letters","_law_start","_law_size"] [6,5,2,3,4] (.cons ⟨rfl,rfl,.inl rfl⟩ (.cons ⟨rfl,rfl,.inl rfl⟩ (.cons ⟨rfl,rfl,.inl rfl⟩ (.cons ⟨rfl,rfl,.inl rfl⟩ (.cons ⟨rfl,rfl,.inl rfl⟩ .nil))))) rfl (bW rfl T.cZ (aa (pv 1) af)) (λ _ _ _ _ _=>(ax (i:=0) (show (["_law_k","_law_sign","_law_at","_law_letters","_law_start","_law_size"]:List Str).Nodup by decide +kernel) rfl (lc rfl))) (λ _ _ _ _ _=>bZ) (λ _ _ _ _ _=>(am cA (am cA (am ja (pv 1) (pv 2)) (aA xz (pv 3) (am bq (pv 4) (pv 0)) (λ _ _=>rfl))) (am ja (pv 1) (am ek (am ek (pv 5) ah) (pv 2))))) rfl (by decide +kernel) (by decide +kernel) (by decide +kernel)))))))))),?_⟩
 try dsimp only [gi,bx]
 first|(refine lM ?_;intro _ _ _ _ _ _ _ _)|skip
 refine ⟨_,rfl,_,_,rfl,rfl,by decide,λ st UF st1 _=>?_⟩
 obtain ⟨st,rfl⟩:=aaG UF
 have Hu:∀ {us:List Str} {i:Nat} {g:Nat->List Nat},us.map (λ w=>w.cps.toList)=(List.range i).map g->us.length=i:=λ {us i g} e=>by
   have:=aaV List.length e
   rw [be,be,RF] at this
   exact this
 refine ⟨_,rfl,_,_,rfl,rfl,cdiv (by decide) (by decide),λ q1 _=>⟨_,_,rfl,rfl,by decide,λ m2 _ _ _=>⟨rfl,_,rfl,fF (λ _=>?_) (λ _=>?_)⟩⟩⟩
 .
  refine ⟨_,rfl,my,rfl,by lia,by lia,λ D hD=>?_⟩
  refine eL (lo:=0) (n:=my.toNat) (λ i acc U H'=>H'=upd H D (.lst acc)/\E2 λ (us:List Str) (v:Option V)=>A3 (acc=us.map V.str) (us.map (λ w=>w.cps.toList)=(List.range i).map (λ k=>(List.replicate 8 (97+st)).take (k+1))) (U=[v,some (.str (Str.ofString "abcdefghijklmnopqrstuvwxyz")),some (aO st)])) ⟨rfl,[],none,rfl,rfl,rfl⟩ ?_ ?_
  .
   rintro i acc U H' hi ⟨rfl,us,v,rfl,eu,rfl⟩
   refine ⟨_,rfl,_,rfl,(st:Int),rfl,_,rfl,_,_,rfl,rfl,λ e8 ee8=>⟨e8,rfl,Str.ofString "abcdefghijklmnopqrstuvwxyz",rfl,(by rw [kY];exact aag (aq (by decide))),λ y ey ly=>?_⟩⟩
   have ew:y.cps.toList=[97+st]:=by
     have:=eq_of_beq (PyProof.Rows.slice_closesL (x:=Str.ofString "abcdefghijklmnopqrstuvwxyz") UF (by lia:(st:Int)<=e8) (by rw [kY];lia))
     rw [ey,this]
     show List.take _ (List.drop _ (Str.ofString "abcdefghijklmnopqrstuvwxyz").cps.toList)=_
     rw [Nm.sR,show (e8 - (st:Int)).toNat=1 by lia,acf]
     exact (show ∀ st,st<26->(Nm.F5.drop st).take 1=[97+st] by decide) st (by lia)
   have Yj:y=⟨#[97+st]⟩:=Tx.ext ew
   have l0:=Hu eu
   refine ⟨_,rfl,_,_,rfl,rfl,λ k1 ZM=>⟨97+st,k1,by rw [Yj],rfl,by lia,by lia,λ z ez=>⟨ag,aq (by rw [be];lia),by rw [kW],us++[z],_,by rw [uk];rfl,?_,rfl⟩⟩⟩
   rw [uk,eu,aaF,uk]
   congr 1
   show [z.cps.toList]=[(List.replicate 8 (97+st)).take (i+1)]
   rw [ez,List.take_replicate,act (by lia),show k1.toNat=i+1 by lia]
  .
   rintro acc U H' ⟨rfl,us,v,rfl,eu,rfl⟩
   have l1:=Hu eu
   refine k D us _ (ai hD) ag (tN (Nm.C9 eu (by lia) (by lia) aa5 λ c hc=>?_) (by lia) λ l hl=>?_)
   . rw [(List.mem_replicate.mp hc).2]
     exact ⟨by lia,by lia⟩
   . rw [eu] at hl
     obtain ⟨j,_,rfl⟩:=List.mem_map.mp hl
     rw [aal,aa5]
     lia
 .
  refine ⟨_,rfl,_,_,rfl,rfl,cdiv (by decide) (by decide),λ q2 _=>⟨_,_,rfl,rfl,by decide,λ s0 s00 s01 _=>⟨_,_,rfl,rfl,λ sz Ij=>?_⟩⟩⟩
  refine ⟨_,rfl,_,_,rfl,rfl,cdiv (by decide) (by decide),λ q3 _=>⟨_,rfl,_,_,rfl,rfl,by lia,λ at_ a0 a1 _=>?_⟩⟩
  refine ⟨_,rfl,_,rfl,_,_,rfl,rfl,cdiv (by decide) (by decide),λ q4 _=>⟨_,_,rfl,rfl,by decide,λ g g0 g1 _=>⟨_,_,_,rfl,rfl,(by rw [kY];exact aag (aq (by decide))),pM g0 g1,?_⟩⟩⟩
  refine ⟨_,rfl,my,rfl,by lia,by lia,λ D hD=>?_⟩
  refine eL (lo:=0) (n:=my.toNat) (λ i acc U H'=>H'=upd H D (.lst acc)/\E2 λ (us:List Str) (v:Option V)=>A3 (acc=us.map V.str) (us.map (λ w=>w.cps.toList)=(List.range i).map (λ (k:Nat)=>List.replicate at_.toNat (97+g.toNat)++(97+(st+k) % 26)::List.replicate (sz - 1 - at_).toNat (97+g.toNat))) (U=[v,some (.str ⟨#[97+g.toNat]⟩),some (.int at_),some (.str (Str.ofString "abcdefghijklmnopqrstuvwxyz")),some (aO st),some (.int sz)])) ⟨rfl,[],none,rfl,rfl,rfl⟩ ?_ ?_
  .
   rintro i acc U H' hi ⟨rfl,us,v,rfl,eu,rfl⟩
   have l0:=Hu eu
   refine ⟨_,rfl,_,rfl,_,_,rfl,rfl,by lia,by lia,λ z1 Ui=>?_⟩
   have e1:z1.length=at_.toNat:=by rw [← Tx.len,Ui,aa5]
   refine ⟨_,rfl,_,rfl,_,rfl,_,_,rfl,rfl,λ d ed=>⟨_,_,_,rfl,rfl,(by rw [kY];exact aag (aq (by decide))),pM (by lia) (by lia),?_⟩⟩
   have l1:(⟨#[97+d.toNat]⟩:Str).length=1:=rfl
   refine ⟨_,_,rfl,rfl,aag (aq (by lia)),?_⟩
   refine ⟨_,rfl,_,rfl,_,_,rfl,rfl,λ q7 eq7=>⟨_,rfl,_,_,rfl,rfl,λ q8 eq8=>⟨_,_,rfl,rfl,by lia,by lia,λ z2 UO=>?_⟩⟩⟩
   have e2:z2.length=q8.toNat:=by rw [← Tx.len,UO,aa5]
   refine ⟨_,_,rfl,rfl,aag (aq (by rw [aaj];lia)),?_⟩
   refine ⟨ag,aq (by rw [be];lia),by rw [kW],us++[_],_,by rw [uk];rfl,?_,rfl⟩
   rw [uk,eu,aaF,uk]
   congr 1
   show [(z1++⟨#[97+d.toNat]⟩++z2).cps.toList]=[_]
   rw [Tx.app,Tx.app,Ui,UO,show q8=sz - 1 - at_ by lia,aat,show 97+d.toNat=97+(st+i) % 26 by lia]
   rfl
  .
   rintro acc U H' ⟨rfl,us,v,rfl,eu,rfl⟩
   have l1:=Hu eu
   refine k D us _ (ai hD) ag (tN (Nm.Cf eu (by lia) (by lia) (by lia) ⟨by lia,by lia⟩ (λ k=>⟨by lia,by lia⟩) λ i j hi hj e=>by lia) (by lia) λ l hl=>?_)
   rw [eu] at hl
   obtain ⟨j,_,rfl⟩:=List.mem_map.mp hl
   rw [rT,aav]
   lia
def er (q:Addr) (H:Hp):Hp:=λ b=>if b=q then none else H b
theorem qP {q b:Addr} {H:Hp} {o:HO} (n:b≠q) (h:H b=some o):er q H b=some o:=by unfold er;rw [aak n];exact h
theorem F0 {q:Addr} {H:Hp}:aG (er q H) H:=λ b o h=>by
 unfold er at h
 split at h
 . cases h
 . exact h
theorem yo {q:Addr} {H H':Hp} (s:aG H H'):aG (er q H) (er q H'):=λ b o h=>by
 unfold er at h ⊢
 split at h
 . cases h
 . rename_i n
   rw [aak n];exact s _ _ h
theorem Ck {q:Addr} {H:Hp} {o:HO}:er q (upd H q o)=er q H:=by
 funext b
 unfold er
 split
 . rfl
 . rename_i n
   exact aE n
theorem t7 {t b q r:Int} (F:Fr t b q r) (hb:1<=b) (RH:b<10 ^ 30) (ht:t.natAbs<10 ^ 30):GF (q,r):=by
 have h1:=F.pos
 have h2:=F.AS
 have h3:=F.AX
 exact ⟨show q.natAbs<10 ^ 30 by lia,show 1<=r by lia,show r<10 ^ 30 by lia,F.IV⟩
theorem ug (j:Int) (h0:0<=j) (h1:j<=1000000):Cw 10 j:=⟨h0,h1,by decide⟩
inductive Ae  (vs:List V) (H:Hp) (Q:VK) (_E:XK):Prop
 | mk (c k:Int) (_:vs=[.int c,.int k]) (_:0<=k) (_:k<=100) (_:Bd 1048577 c) (_:∀ p f H',aG H H'->H' p=some (.tup [.int f.1,.int f.2])->GF f->Q (.ref p) H')
theorem gk (T:Txt K mg Ad):Def P w K mg base "_law_number" 2 ["_law_cell","_law_k"] Ae:=by
 refine T.on.dQ iR λ f bD A outer s H vs Q E hr h=>?_
 obtain ⟨c,k,rfl,k0,k1,bc,q⟩:=h
 refine ⟨_,(ac (aR (aF eS (am aU (ao (gY (K:=K) T) hr.m (aa (pv 0) (aa (pv 1) (aa ah af)))) ah) ah (aK _)) (ak (aH (ao (fX (K:=K) T) hr.m (aa (am ek (am aU (am bG (pv 0) (am bq (pv 1) ah)) ah) ah) (aa (am bq ah (am aU (am bp (pv 0) ah) ah)) af))))) aD)
     (ac (az (i:=2) iR.nd rfl (lc rfl) (am ek (am iC ah ah) ah))
     (ak (aH (ao (fX (K:=K) T) hr.m (aa (am ek (am aU (am bG (pv 0) (am bq (am bG ah (pv 1)) ah)) (am bq (am bG ah (pv 2)) ah)) (pv 2)) (aa (am bq ah (am aU (am bp (pv 0) ah) (pv 2))) af))))))),?_⟩
 try dsimp only [gi,bx]
 first|(refine ir ?_;intro _ _ _ _)|skip
 refine ⟨_,rfl,_,rfl,c,k,0,rfl,k0,by lia,by decide,by decide,λ H1 r S1 _ _=>⟨_,_,rfl,rfl,by decide,λ m m0 m1 _=>⟨rfl,_,rfl,fF (λ z=>?_) λ z=>?_⟩⟩⟩
 . refine ⟨_,rfl,_,rfl,_,_,rfl,rfl,λ k1' ZM=>⟨_,_,rfl,rfl,⟨1048577,100,bc,jV 100 (by lia) (by lia),by decide⟩,λ p1 P2=>⟨_,_,rfl,rfl,by decide,λ r1 Gb Hw Yr=>⟨_,_,rfl,rfl,λ t et=>?_⟩⟩⟩⟩
   refine ⟨_,rfl,_,_,rfl,rfl,cdiv (by decide) (by decide),λ d ed=>⟨_,_,rfl,rfl,by decide,λ b0 YH ZG Xb=>⟨_,_,rfl,rfl,λ b eb=>?_⟩⟩⟩
   exact ⟨t,b,rfl,by lia,jV 4000 (by lia) (by lia),λ q1 r2 p2 H2 F S2 hp=>q p2 (q1,r2) H2 (S1.trans S2) hp (t7 F (by lia) (by lia) (by lia))⟩
 .
  refine ⟨_,_,rfl,rfl,ug 30 (by decide) (by decide),λ pw Yb=>⟨_,_,rfl,rfl,λ Va HH=>?_⟩⟩
  have ef:Va=10 ^ 30 - 1:=by rw [HH,Yb];rfl
  have Oy:Bd 100 Va:=jV 100 (by lia) (by lia)
  refine ⟨_,rfl,_,rfl,_,_,rfl,rfl,⟨100,100,jV 100 (by lia) (by lia),jV 100 (by lia) (by lia),by decide⟩,λ k2 ek2=>⟨_,_,rfl,rfl,λ k3 ek3=>⟨_,_,rfl,rfl,⟨1048577,100,bc,jV 100 (by lia) (by lia),by decide⟩,λ p1 P2=>?_⟩⟩⟩
  refine ⟨_,rfl,_,_,rfl,rfl,⟨100,100,jV 100 (by lia) (by lia),Oy,by decide⟩,λ f2 ef2=>⟨_,_,rfl,rfl,λ f3 ef3=>⟨_,_,rfl,rfl,by lia,λ r1 Gb Hw Yr=>⟨_,rfl,_,_,rfl,rfl,λ t et=>?_⟩⟩⟩⟩
  refine ⟨_,rfl,_,_,rfl,rfl,cdiv (by decide) (by decide),λ d ed=>⟨_,rfl,_,_,rfl,rfl,by lia,λ b0 YH ZG Xb=>⟨_,_,rfl,rfl,λ b eb=>?_⟩⟩⟩
  exact ⟨t,b,rfl,by lia,jV 4000 (by lia) (by lia),λ q1 r2 p2 H2 F S2 hp=>q p2 (q1,r2) H2 (S1.trans S2) hp (t7 F (by lia) (by lia) (by lia))⟩
def zF (b st bo:Int) (n:Nat):List bE:=(List.range n).map λ (j:Nat)=>nf (b+st * (j:Int)) bo
theorem rh {b st bo:Int} {n:Nat} (hs:0<st) (hb:0<bo):gM (zF b st bo n)=true:=by
 unfold gM
 rw [abc]
 intro x hx
 obtain ⟨i,hi⟩:=List.mem_iff_getElem?.mp hx
 rw [acZ] at hi
 unfold zF at hi
 rw [ab7,Et,Et] at hi
 by_cases c:i+1<n
 .
  rw [aa3 c,aa3 (by lia)] at hi
  have hi:some (cM (nf (b+st * (i:Int)) bo) (nf (b+st * ((i+1:Nat):Int)) bo))=some x:=hi
  cases hi
  rw [(Ov.nf hb).under hb (Ov.nf hb)]
  refine aaz ?_
  push_cast
  rw [Int.mul_add]
  lia
 . rw [List.getElem?_eq_none (l:=List.range n) (i:=i+1) (by rw [RF];lia)] at hi
   cases (List.range n)[i]? <;> simp at hi
inductive C8 (K:W.Frag) (vs:List V) (H:Hp) (Q:VK) (_E:XK):Prop
 | mk (c k mo:Int) (_:vs=[.int c,.int k,.int mo]) (_:0<=k) (_:k<=100) (_:1<=mo) (_:mo<=6) (_:Bd 1048577 c) (_:∀ p xs ms H',aG H H'->H p=none->H' p=some (.lst xs)->bN K H' (ms.map cU) xs->(∀ f∈ms,GF f)->2<=ms.length->(ms.length:Int)<=mo+1->gM ms=true->Q (.ref p) H')
theorem nT (T:Txt K mg Ad):Def P w K mg base "_law_marks" 2 ["_law_cell","_law_k","_law_most"] (C8 K):=by
 refine T.qK.dQ eh λ f bD A outer s H vs Q E hr h=>?_
 obtain ⟨c,k,mo,rfl,k0,k1,VT,Vw,bc,q⟩:=h
 refine ⟨_,(ac (az (i:=3) eh.nd rfl (lc rfl) (aI (m9 rfl) (by rfl) T.AF wZ (aa (pv 2) (aa (am bq ah (am aU (ao (gY (K:=K) T) hr.m (aa (pv 0) (aa (pv 1) (aa ah af)))) ah)) af))))
     (ac (az (i:=4) eh.nd rfl (lc rfl) (am bq ah (am aU (am bp (pv 0) ah) (am iC ah ah))))
     (ac (az (i:=5) eh.nd rfl (lc rfl) (am ek (am aU (am bG (pv 0) (am bq (pv 1) ah)) (am iC ah ah)) (am iC ah ah)))
     (ac (az (i:=6) eh.nd rfl (lc rfl) (am bq ah (am aU (am bp (pv 0) ah) (am iC ah ah))))
     (ak (aH (fc ["_law_j"] ["_law_bottom","_law_begin","_law_step"] [6,5,4] (.cons ⟨rfl,rfl,.inl rfl⟩ (.cons ⟨rfl,rfl,.inl rfl⟩ (.cons ⟨rfl,rfl,.inl rfl⟩ .nil))) rfl (bW rfl T.cZ (aa (am bq (pv 3) ah) af)) (λ _ _ _ _ _=>(ax (i:=0) (show (["_law_j","_law_bottom","_law_begin","_law_step"]:List Str).Nodup by decide +kernel) rfl (lc rfl))) (λ _ _ _ _ _=>bZ) (λ _ _ _ _ _=>(ao (fX (K:=K) T) hr.m (aa (am bq (pv 2) (am bG (pv 3) (pv 0))) (aa (pv 1) af)))) rfl (by decide +kernel) (by decide +kernel) (by decide +kernel)))))))),?_⟩
 try dsimp only [gi,bx]
 first|(refine pN ?_;intro _ _ _ _ _ _)|skip
 refine ⟨_,rfl,_,rfl,_,rfl,c,k,1,rfl,k0,by lia,by decide,by decide,λ H1 r S1 _ _=>⟨_,_,rfl,rfl,by decide,λ m m0 m1 _=>⟨_,_,rfl,rfl,λ s6 es6=>?_⟩⟩⟩
 obtain ⟨sz,Ij,vq,szm⟩:∃ sz:Int,sz=(if s6<mo then s6 else mo)/\1<=sz/\sz<=mo:=⟨_,rfl,by split<;>lia,by split<;>lia⟩
 refine ⟨_,_,rfl,?_⟩
 rw [← Ij]
 clear Ij
 refine ⟨_,rfl,_,_,rfl,rfl,cdiv (by decide) (by decide),λ d1 ZC=>⟨_,_,rfl,rfl,ug 28 (by decide) (by decide),λ w1 TU=>?_⟩⟩
 have TU:w1=10 ^ 28:=TU
 refine ⟨_,_,rfl,rfl,by lia,λ x1 VX WC Hh=>⟨_,_,rfl,rfl,λ st W4=>?_⟩⟩
 refine ⟨_,rfl,_,rfl,_,_,rfl,rfl,λ k7 WP=>⟨_,_,rfl,rfl,⟨1048577,100,bc,jV 100 (by lia) (by lia),by decide⟩,λ p1 P2=>⟨_,_,rfl,rfl,ug 29 (by decide) (by decide),λ w2 SY=>?_⟩⟩⟩
 have SY:w2=10 ^ 29:=SY
 refine ⟨_,_,rfl,rfl,by lia,λ x2 WA x21 Gf=>⟨_,_,rfl,rfl,ug 28 (by decide) (by decide),λ w3 Of=>?_⟩⟩
 have Of:w3=10 ^ 28:=Of
 refine ⟨_,_,rfl,rfl,λ bg Y0=>?_⟩
 refine ⟨_,rfl,_,_,rfl,rfl,cdiv (by decide) (by decide),λ d2 ZB=>⟨_,_,rfl,rfl,ug 29 (by decide) (by decide),λ w4 Lz=>?_⟩⟩
 have Lz:w4=10 ^ 29:=Lz
 refine ⟨_,_,rfl,rfl,by lia,λ x3 Xa WE Yt=>⟨_,_,rfl,rfl,λ bo T8=>?_⟩⟩
 refine ⟨_,rfl,_,_,rfl,rfl,λ n1 en1=>⟨n1,rfl,by lia,by lia,λ D hD=>?_⟩⟩
 have bst:1<=st/\st<=10 ^ 28:=by lia
 have bbg : -10 ^ 28<=bg/\bg<10 ^ 29:=by lia
 have YO:1<=bo/\bo<=10 ^ 29:=by lia
 clear T8 Yt Xa WE Lz ZB Y0 Of Gf WA x21 SY P2 WP W4 Hh VX WC TU ZC
 refine eL (lo:=0) (n:=n1.toNat) (λ i acc U H'=>A6 (aG H1 H') (H' D=some (.lst acc)) (acc.length=i) (bN K H' ((zF bg st bo i).map cU) acc) (∀ f∈zF bg st bo i,GF f) (∃ v,U=[v,some (.int bo),some (.int bg),some (.int st)])) ⟨ai hD,ag,rfl,cS,nofun,none,rfl⟩ ?_ ?_
 .
  rintro i acc U H2 hi ⟨S2,As,la,dn,gf,v,rfl⟩
  refine ⟨_,rfl,_,rfl,_,rfl,_,_,rfl,rfl,⟨100,100,jV 100 (by lia) (by lia),jV 100 (by lia) (by lia),by decide⟩,λ sj WQ=>⟨_,_,rfl,rfl,λ t et=>⟨_,rfl,t,bo,rfl,by lia,jV 4000 (by lia) (by lia),λ q1 r1 p1 H3 F S3 hp=>?_⟩⟩⟩
  have e1:sj=st * (i:Int):=by rw [WQ,aaU]
  have e2:t=bg+st * (i:Int):=by rw [et,e1]
  have hj:st * (i:Int)<=10 ^ 28 * 6:=Int.mul_le_mul bst.2 (by lia) (by lia) (by decide)
  have hj0:0<=st * (i:Int):=abO (by lia) (by lia)
  have en:(q1,r1)=nf (bg+st * (i:Int)) bo:=by rw [← e2];exact F.nf (by lia)
  have g1:=t7 F (by lia) (by lia) (by lia)
  have em:zF bg st bo (i+1)=zF bg st bo i++[(q1,r1)]:=by
    unfold zF
    rw [aaF,uk,en]
    rfl
  have iK:=S3 _ _ As
  refine ⟨iK,aq (by lia),(S2.trans S3).put hD,ag,by rw [rT,la];rfl,?_,λ f hf=>?_,_,rfl⟩
  . rw [em]
    exact bN.ts (eJ iK rfl) _ (λ d hd=>by obtain ⟨f,_,rfl⟩:=List.mem_map.mp hd;simp [cU,dL]) (rS dn S3 hp)
  . rw [em] at hf
    rcases List.mem_append.mp hf with h|h
    . exact gf f h
    . rw [List.mem_singleton.mp h];exact g1
 . rintro acc U H2 ⟨S2,As,la,dn,gf,v,rfl⟩
   have lm:(zF bg st bo n1.toNat).length=n1.toNat:=by unfold zF;rw [be,RF]
   exact q D acc _ H2 (S1.trans S2) (none_of S1 hD) As dn gf (by lia) (by lia) (rh (by lia) (by lia))
def zn (r:Rm):PyData:=.tuple [.list (r.gq.map cU),.list [cU r.lo,cU r.hi],.list (r.sh.map cU),ee r.st]
theorem Ep {q:Addr} {H:Hp} {l:List V} (hq:H q=some (.lst l)):b8 K H (er q H):=λ a xs h=>by
 rcases h with (h|⟨ob,h⟩)|h
 . exact .inl (.inl (qP (cp h hq nofun) h))
 . exact .inl (.inr ⟨ob,qP (cp h hq nofun) h⟩)
 . exact .inr h
theorem lz {fs:List bE}:∀ d∈fs.map cU,dL d=true:=λ d hd=>by
 obtain ⟨f,_,rfl⟩:=List.mem_map.mp hd
 simp [cU,dL]
theorem qZ (l:List (List bE)) (r:List bE):cc (l++[r])=cc l * ((r.length:Int) - 1):=by
 unfold cc
 rw [ace]
 rfl
theorem quarter {n b q r:Int} (F:Fr n b q r) (hb:0<b) (h0:0<=n) (h4:4 * n<=b):0<=q/\4 * q<=r:=by
 have hp:=F.pos
 have hc:=F.nI
 refine ⟨?_,?_⟩
 .
  rcases Int.lt_or_le q 0 with l|l
  . have h1:=Int.mul_neg_of_neg_of_pos l hb
    have h2:=abO h0 (abw hp)
    lia
  . exact l
 .
  have h1:4 * n * r<=b * r:=aci h4 (abw hp)
  have h2:4 * q * b=4 * n * r:=by rw [aa0,aa0,hc]
  rw [← h2,abH b r] at h1
  exact Int.le_of_mul_le_mul_right h1 hb
structure rk (K:W.Frag) (H:Hp) (pr:Addr) (rs:List Rm) (lf:Int):Prop where
 ex:∃ vs,H pr=some (.lst vs)/\vs.length=rs.length/\bN K (er pr H) (rs.map zn) vs
 ok:∀ r∈rs,r.Ok
 l1:1<=lf
 l4:lf<=400
 b1:1<=cc (rs.map (·.gq))
 bl:cc (rs.map (·.gq)) * lf<=400
 bd:∀ k,cc ((rs.map (·.gq)).take k)<=400
theorem rk.same {H H':Hp} {pr:Addr} {rs:List Rm} {lf:Int} (h:rk K H pr rs lf) (s:aG H H'):rk K H' pr rs lf:=by
 obtain ⟨⟨vs,h1,h2,h3⟩,a,b,c,d,e,f⟩:=h
 exact ⟨⟨vs,s _ _ h1,h2,bN.same (yo s) _ h3⟩,a,b,c,d,e,f⟩
theorem uc {lf d x:Int} (l1:1<=lf) (d1:1<=d) (dl:d<=lf) (e:x=lf.fdiv d):1<=x/\x<=lf/\d * x<=lf:=by
 rw [acz _ (by lia)] at e
 have h1:1<=lf / d:=by
   rw [acU (by lia)]
   lia
 have h2:d * (lf / d)<=lf:=Int.mul_ediv_self_le (by lia)
 have h3:lf / d<=lf:=Int.ediv_le_self _ (by lia)
 rw [e]
 exact ⟨h1,h3,h2⟩
theorem rk.more {H:Hp} {pr t:Addr} {vs:List V} {rs:List Rm} {r:Rm} {lf AJ:Int} (h:rk K H pr rs lf) (hv:H pr=some (.lst vs)) (dr:Dn K (er pr H) (zn r) (.ref t)) (ok:r.Ok) (hd:((r.gq.length:Int) - 1)<=lf) (e:AJ=lf.fdiv ((r.gq.length:Int) - 1)):rk K (upd H pr (.lst (vs++[.ref t]))) pr (rs++[r]) AJ:=by
 obtain ⟨⟨uu,h1,h2,h3⟩,a,b,c,d,f,g⟩:=h
 rw [hv] at h1
 cases h1
 have m2:=ok.m2
 obtain ⟨q1,q2,q3⟩:=uc b (show (1:Int)<=(r.gq.length:Int) - 1 by lia) hd e
 have eb:cc ((rs++[r]).map (·.gq))=cc (rs.map (·.gq)) * ((r.gq.length:Int) - 1):=by
   rw [uk]
   exact qZ _ _
 have p1:1<=cc (rs.map (·.gq)) * ((r.gq.length:Int) - 1):=aa7 (by lia) (by lia)
 have p2:cc (rs.map (·.gq)) * ((r.gq.length:Int) - 1) * AJ<=400:=by
   rw [aa0]
   exact Int.le_trans (aco q3 (by lia)) f
 have p3:cc (rs.map (·.gq)) * ((r.gq.length:Int) - 1)<=400:=by
   have:=aco q1 (show 0<=cc (rs.map (·.gq)) * ((r.gq.length:Int) - 1) by lia)
   lia
 refine ⟨⟨_,ag,by rw [rT,rT,h2];rfl,?_⟩,λ x hx=>?_,q1,by lia,by rw [eb];exact p1,by rw [eb];exact p2,λ k=>?_⟩
 . rw [Ck,uk]
   exact h3.snoc dr
 . rcases List.mem_append.mp hx with hx|hx
   . exact a x hx
   . rw [List.mem_singleton.mp hx];exact ok
 .
  by_cases ck:k<=rs.length
  . rw [uk,List.take_append_of_le_length (by rw [be];exact ck)]
    exact g k
  . rw [aaN (by rw [be,rT];show rs.length+1<=k;lia),eb]
    exact p3
inductive C3 (K:W.Frag) (vs:List V) (H:Hp) (Q:VK) (_E:XK):Prop
 | mk (a:_) (ns:List Int) (my:Int) (_:vs=[.ref a,.int my]) (_:aN K H a (ns.map V.int)) (_:(∀ z∈ns,Bd 1048576 z)) (_:1<=my) (_:my<=4) (_:∀ p rs H',aG H H'->Dn K H' (.list (rs.map zn)) (.ref p)->gA rs->rs.length=my.toNat->Q (.ref p) H')
set_option maxHeartbeats 2000000 in
theorem oW (T:Txt K mg Ad):Def P w K mg base "_law_drawn" 3 ["_law_script","_law_many"] (C3 K):=by
 refine T.qD.dQ bi λ f bD A outer s H vs Q E hr h=>?_
 obtain ⟨a,ns,my,rfl,hS,hb,m1,m4,q⟩:=h
 refine ⟨_,(ac (az (i:=2) bi.nd rfl (lc rfl) (br af))
     (ac (az (i:=3) bi.nd rfl (lc rfl) ah)
     (ac (fM aaS rfl (bW rfl T.cZ (aa (pv 1) af)) (ax (i:=4) bi.nd rfl (lc rfl)) (ac (az (i:=5) bi.nd rfl (lc rfl) (ao (cV (K:=K) T) hr.m (aa (pv 0) (aa (am bq ah (pv 4)) af))))
     (ac (az (i:=6) bi.nd rfl (lc rfl) (ao (nT (K:=K) T) hr.m (aa (pv 5) (aa (pv 4) (aa (aI (m9 rfl) (by rfl) T.AF wZ (aa ah (aa (pv 3) af))) af)))))
     (ac (az (i:=3) bi.nd rfl (lc rfl) (am bp (pv 3) (am ek (aI bF (by rfl) T.dR cB (aa (pv 6) af)) ah)))
     (ac (az (i:=7) bi.nd rfl (lc rfl) (br (aa (ao (gk (K:=K) T) hr.m (aa (pv 5) (aa (am bq (am bG ah (pv 4)) ah) af))) (aa (ao (gk (K:=K) T) hr.m (aa (pv 5) (aa (am bq (am bG ah (pv 4)) ah) af))) af))))
     (ac (lY (aR (aF ko (am bG (aA au (aA au (pv 7) ah (λ _ _=>rfl)) ah (λ _ _=>rfl)) (aA au (aA au (pv 7) ah (λ _ _=>rfl)) ah (λ _ _=>rfl))) (am bG (aA au (aA au (pv 7) ah (λ _ _=>rfl)) ah (λ _ _=>rfl)) (aA au (aA au (pv 7) ah (λ _ _=>rfl)) ah (λ _ _=>rfl))) (aK _)) (ak (aQ (rH aah PySem.F.slot_list_reverse PySem.F.type_list_reverse sS (pv 7)))) aD))
     (ac (az (i:=8) bi.nd rfl (lc rfl) (am bq ah (am aU (am bp (pv 5) ah) (am ek (am iC ah ah) ah))))
     (ac (vD (yi:=9) ["_law_j"] ["_law_bottom","_law_cell"] [8,5] (.cons ⟨rfl,rfl,.inl rfl⟩ (.cons ⟨rfl,rfl,.inl rfl⟩ .nil)) rfl (bW rfl T.cZ (aa ah af)) (λ _ _ _ _ _=>(ax (i:=0) (show (["_law_j","_law_bottom","_law_cell"]:List Str).Nodup by decide +kernel) rfl (lc rfl))) (λ _ _ _ _ _=>bZ) (λ _ _ _ _ _=>(ao (fX (K:=K) T) hr.m (aa (am aU (am bp (pv 2) (am bq ah (pv 0))) (am bq (am bp (pv 1) ah) ah)) (aa (pv 1) af)))) rfl (by decide +kernel) (by decide +kernel) (by decide +kernel) bi.nd rfl (lc rfl) rfl)
     (ac (az (i:=10) bi.nd rfl (lc rfl) oG)
     (ac (lY (aR (aF ko (am aU (ao (gY (K:=K) T) hr.m (aa (pv 5) (aa (pv 4) (aa ah af)))) ah) ah (aK _)) (ac (az (i:=11) bi.nd rfl (lc rfl) (ao (gk (K:=K) T) hr.m (aa (pv 5) (aa (am bq (pv 4) ah) af))))
     (ac (az (i:=12) bi.nd rfl (lc rfl) (ao (gY (K:=K) T) hr.m (aa (pv 5) (aa (pv 4) (aa ah af)))))
     (ak (az (i:=10) bi.nd rfl (lc rfl) (cL (aa (cL (aa (aI iz (by rfl) T.tq oA (aa (aA au (pv 11) ah (λ _ _=>rfl)) af)) (aa (aA au (pv 11) ah (λ _ _=>rfl)) af))) (aa (am aU (pv 12) ah) (aa (am aU (am bp (pv 12) ah) ah) (aa (am aU (am bp (pv 12) ah) ah) af))))))))) aD))
     (ak (aQ (di aah aaE aaD cu (pv 2) (aa (cL (aa (pv 6) (aa (pv 7) (aa (pv 9) (aa (pv 10) af))))) af))))))))))))))
     (ak (aH (pv 2)))))),?_⟩
 try dsimp only [gi,bx]
 first|(refine eT ?_;intro _ _ _ _ _)|skip
 refine ⟨xZ,λ pr GN=>?_⟩
 have S1:=ai (o:=.lst []) GN
 have k1:(upd H pr (.lst [])) pr=some (.lst []):=ag
 generalize upd H pr (.lst [])=H1 at S1 k1 ⊢
 have hz:∀ z:Int,(z∈ns∨z=0)->Bd 1048577 z:=λ z h=>h.elim (λ q=>(hb z q).mono (by decide)) λ e=>by rw [e];exact jV _ (by decide) (by decide)
 refine ⟨_,rfl,my,rfl,by lia,by lia,?_⟩
 refine fE (lo:=0) (n:=my.toNat) (λ i U H'=>aG H H'/\(E2 λ rs lf=>A3 (rk K H' pr rs lf) (rs.length=i) (E7 λ v4 v5 v6 v7 v8 v9 v10=>E2 λ v11 tH=>U=[some (.ref a),some (.int my),some (.ref pr),some (.int lf),v4,v5,v6,v7,v8,v9,v10,v11,tH]))) ⟨S1,[],400,⟨⟨[],k1,rfl,cS⟩,nofun,by decide,by decide,by decide,by decide,λ k=>by rw [abE,List.take_nil];decide⟩,rfl,none,none,none,none,none,none,none,none,none,rfl⟩ ?_ ?_
 .
  rintro _ i U H2 hi ⟨S2,rs,lf,dr,lr,v4,v5,v6,v7,v8,v9,v10,v11,tH,rfl⟩
  obtain ⟨vs,hv,lv,dv⟩:=dr.ex
  have l1:=dr.l1
  have l4:=dr.l4
  refine ⟨_,rfl,_,rfl,_,_,rfl,rfl,λ z ez=>⟨a,ns,z,rfl,S2.seq hS,by lia,λ c hc=>?_⟩⟩
  have bc:=hz c hc
  obtain ⟨mo,Wu,VT,Vw,mol⟩:∃ mo:Int,mo=(if lf<6 then lf else 6)/\1<=mo/\mo<=6/\mo<=lf:=⟨_,rfl,by split<;>lia,by split<;>lia,by split<;>lia⟩
  refine ⟨_,rfl,_,rfl,_,rfl,_,_,rfl,?_⟩
  rw [← Wu]
  refine ⟨c,0+(i:Int),mo,rfl,by lia,by lia,VT,Vw,bc,λ pm xm ms H3 S3 fm iY dm gm m2 mm ri=>?_⟩
  have lx:xm.length=ms.length:=by rw [dm.length,be]
  refine ⟨_,rfl,_,rfl,pm,_,rfl,.inl (aN.of iY),λ l el=>⟨_,_,rfl,rfl,λ d ed=>⟨_,_,rfl,rfl,⟨by lia,jV 8999 (by lia) (by lia)⟩,λ AJ ZY=>?_⟩⟩⟩
  have WB:d=(ms.length:Int) - 1:=by lia
  refine ⟨_,rfl,_,rfl,_,_,rfl,rfl,⟨100,100,jV 100 (by lia) (by lia),jV 100 (by lia) (by lia),by decide⟩,λ k3 ek3=>⟨_,_,rfl,rfl,λ ZK aao=>⟨c,ZK,rfl,by lia,by lia,bc,λ p1 f1 H4 S4 Dh g1=>?_⟩⟩⟩
  refine ⟨_,rfl,_,rfl,_,_,rfl,rfl,⟨100,100,jV 100 (by lia) (by lia),jV 100 (by lia) (by lia),by decide⟩,λ k32 Xv=>⟨_,_,rfl,rfl,λ Xf Y4=>⟨c,Xf,rfl,by lia,by lia,bc,λ p2 f2 H5 S5 vB g2=>?_⟩⟩⟩
  refine ⟨wj,λ pe Dz=>?_⟩
  have T5:=S3.trans (S4.trans S5)
  have Xy:=dr.same T5
  have Sk:=T5 _ _ hv
  have KP:=(S4.trans S5) _ _ iY
  have Yu:=bN.same (S4.trans S5) _ dm
  have vS:=S5 _ _ Dh
  have Y9:pm≠pr:=(aw hv fm).symm
  have WZ:pe≠pr:=(aw Sk Dz).symm
  have ET:=S2.trans T5
  have SE:∀ {o:HO},aG H5 (upd H5 pe o):=λ {o}=>ai Dz
  have o1:=g1.ok
  have o2:=g2.ok
  have kE:(upd H5 pe (.lst [.ref p1,.ref p2])) pe=some (.lst [.ref p1,.ref p2]):=ag
  have S6:aG H5 (upd H5 pe (.lst [.ref p1,.ref p2])):=ai Dz
  generalize upd H5 pe (.lst [.ref p1,.ref p2])=H6 at kE S6 ⊢
  have cm:∀ {x y:Int},Bd 100 x->Bd 100 y->xU x y:=λ h1 h2=>⟨100,100,h1,h2,by decide⟩
  refine ⟨λ σ' H'=>A3 (aG H5 H') (E4 λ v1 v2 lo hi=>A6 (H' pe=some (.lst [v1,v2])) (Dn K H' (cU lo) v1) (Dn K H' (cU hi) v2) (GF lo) (GF hi) (cM hi lo=false)) (σ'=[some (.ref a),some (.int my),some (.ref pr),some (.int AJ),some (.int (0+(i:Int))),some (.int c),some (.ref pm),some (.ref pe),v8,v9,v10,v11,tH]),?_,?_⟩
  .
   refine ⟨_,rfl,pe,_,_,_,rfl,rfl,.inl (aN.of kE),rfl,p1,_,_,_,rfl,rfl,.inr (cE.of (S6 _ _ vS)),rfl,_,rfl,pe,_,_,_,rfl,rfl,.inl (aN.of kE),rfl,p2,_,_,_,rfl,rfl,.inr (cE.of (S6 _ _ vB)),rfl,_,_,rfl,rfl,cm o1.t o2.b,λ x1 Hh=>?_⟩
   refine ⟨_,rfl,pe,_,_,_,rfl,rfl,.inl (aN.of kE),rfl,p2,_,_,_,rfl,rfl,.inr (cE.of (S6 _ _ vB)),rfl,_,rfl,pe,_,_,_,rfl,rfl,.inl (aN.of kE),rfl,p1,_,_,_,rfl,rfl,.inr (cE.of (S6 _ _ vS)),rfl,_,_,rfl,rfl,cm o2.t o1.b,λ x2 Gf=>⟨_,_,rfl,rfl,_,rfl,fF (λ z=>?_) λ z=>?_⟩⟩
   . refine ⟨_,rfl,.inl ⟨rfl,_,aN.of kE⟩,pe,_,rfl,rfl,kE,(S6.put Dz),⟨_,_,f2,f1,ag,iU (cE.of ?_),iU (cE.of ?_),g2,g1,aaq ?_⟩,rfl⟩
     . rw [aE (aw vB Dz)];exact S6 _ _ vB
     . rw [aE (aw vS Dz)];exact S6 _ _ vS
     . rw [← Hh,← Gf];lia
   . exact ⟨S6,⟨_,_,f1,f2,kE,iU (cE.of (S6 _ _ vS)),iU (cE.of (S6 _ _ vB)),g1,g2,aaq (by rw [← Hh,← Gf];exact z)⟩,rfl⟩
  .
   rintro σ' H7 ⟨S7,⟨w1,w2,lo,zg,UR,d1,d2,gl,gh,le⟩,rfl⟩
   refine ⟨_,rfl,_,_,rfl,rfl,cdiv (by decide) (by decide),λ c13 _=>⟨_,_,rfl,rfl,ug 30 (by decide) (by decide),λ t30 DT=>⟨_,_,rfl,rfl,λ WS Fn=>?_⟩⟩⟩
   have eu:WS=10 ^ 30 - 4:=by rw [Fn,DT];rfl
   refine ⟨_,_,rfl,rfl,by lia,λ y1 Xw y11 _=>⟨_,_,rfl,rfl,λ bo T8=>?_⟩⟩
   have YO:4<=bo/\bo<10 ^ 30:=by lia
   clear T8 Xw y11 eu Fn DT
   refine ⟨4,rfl,by decide,by decide,λ D hD=>?_⟩
   have nD:D≠pr:=(aw (S7 _ _ Sk) hD).symm
   refine eL (lo:=0) (n:=4) (λ j acc U H'=>A5 (aG H7 H') (H' D=some (.lst acc)) (acc.length=j) (∃ (sh:List bE),A3 (sh.length=j) (bN K H' (sh.map cU) acc) (∀ f∈sh,GF f/\0<=f.1/\4 * f.1<=f.2)) (∃ v,U=[v,some (.int bo),some (.int c)])) ⟨ai hD,ag,rfl,⟨[],rfl,cS,nofun⟩,none,rfl⟩ ?_ ?_
   .
    rintro j acc U H8 hj ⟨S8,OJ,la,⟨sh,ls,ds,gs⟩,v,rfl⟩
    refine ⟨_,rfl,_,rfl,_,_,rfl,rfl,λ x2 Gf=>⟨_,_,rfl,rfl,⟨by lia,jV 8999 (by lia) (by lia)⟩,λ q2 _=>⟨_,rfl,_,_,rfl,rfl,cdiv (by decide) (by decide),λ b4 O5=>⟨_,_,rfl,rfl,λ b5 eb5=>?_⟩⟩⟩⟩
    rw [acz _ (by decide)] at O5
    have O5:b4=bo / 4:=O5
    refine ⟨_,_,rfl,rfl,by lia,λ n n0 n1 _=>⟨_,rfl,n,bo,rfl,by lia,jV 4000 (by lia) (by lia),λ q1 r1 p3 H9 F S9 hp=>?_⟩⟩
    obtain ⟨y1,y2⟩:=quarter F (by lia) n0 (by lia)
    have VE:=S9 _ _ OJ
    refine ⟨VE,aq (by lia),(S8.trans S9).put hD,ag,by rw [rT,la];rfl,⟨sh++[(q1,r1)],by rw [rT,ls];rfl,bN.ts (eJ VE rfl) _ lz (rS ds S9 hp),λ f hf=>?_⟩,_,rfl⟩
    rcases List.mem_append.mp hf with h|h
    . exact gs f h
    . rw [List.mem_singleton.mp h]
      exact ⟨t7 F (by lia) (by lia) (by lia),y1,y2⟩
   .
    rintro acc U H8 ⟨S8,OJ,la,⟨sh,ls,ds,gs⟩,v,rfl⟩
    have kE8:=S8 _ _ UR
    refine ⟨λ σ' H'=>aG H8 H'/\E4 λ st sv v11 tH=>A3 (Dn K H' (ee st) sv) (∀ z,st=some z->GF z.1/\0<=z.1.1/\(0<=z.2.1/\z.2.1<=9)/\(0<=z.2.2.1/\z.2.2.1<=3)/\(0<=z.2.2.2/\z.2.2.2<=3)) (σ'=[some (.ref a),some (.int my),some (.ref pr),some (.int AJ),some (.int (0+(i:Int))),some (.int c),some (.ref pm),some (.ref pe),some (.int bo),some (.ref D),some sv,v11,tH]),?_,?_⟩
    .
     refine ⟨_,rfl,_,rfl,c,0+(i:Int),2,rfl,by lia,by lia,by decide,by decide,λ H9 r S9 _ _=>⟨_,_,rfl,rfl,by decide,λ m m0 m1' _=>⟨_,_,rfl,rfl,_,rfl,fF (λ z=>?_) λ z=>?_⟩⟩⟩
     .
      refine ⟨_,rfl,_,rfl,_,_,rfl,rfl,λ ZN WJ=>⟨c,ZN,rfl,by lia,by lia,bc,λ ph fh uC nB UT Ho=>?_⟩⟩
      refine ⟨_,rfl,_,rfl,c,0+(i:Int),3,rfl,by lia,by lia,by decide,by decide,λ qU x x8 x0 x1=>?_⟩
      refine ⟨_,rfl,ph,_,_,_,rfl,rfl,.inr (cE.of (x8 _ _ UT)),rfl,_,rfl,λ ab Wj=>⟨_,rfl,ph,_,_,_,rfl,rfl,.inr (cE.of (x8 _ _ UT)),rfl,wj,λ t1 ht1=>?_⟩⟩
      have vo:=ai (o:=.tup [.int ab,.int fh.2]) ht1
      have Du:(upd qU t1 (.tup [.int ab,.int fh.2])) t1=some (.tup [.int ab,.int fh.2]):=ag
      generalize upd qU t1 (.tup [.int ab,.int fh.2])=vn at vo Du ⊢
      refine ⟨_,rfl,_,_,rfl,rfl,by decide,λ w w0 w1' _=>⟨_,rfl,_,_,rfl,rfl,cdiv (by decide) (by decide),λ VX _=>⟨_,_,rfl,rfl,by decide,λ sy Yi sy1 _=>⟨_,rfl,_,_,rfl,rfl,cdiv (by decide) (by decide),λ x40 _=>⟨_,_,rfl,rfl,by decide,λ fl Sh fl1 _=>⟨FI,λ t2 Al=>?_⟩⟩⟩⟩⟩⟩
      have AE:=ai (o:=.tup [.ref t1,.int w,.int sy,.int fl]) Al
      have EA:(upd vn t2 (.tup [.ref t1,.int w,.int sy,.int fl])) t2=some (.tup [.ref t1,.int w,.int sy,.int fl]):=ag
      have I0:=AE _ _ Du
      refine ⟨S9.trans (nB.trans (x8.trans (vo.trans AE))),some ((ab,fh.2),w,sy,fl),_,_,_,i9 (cE.of EA) (aW (iU (f:=(ab,fh.2)) (cE.of I0)) (aW ik (aW ik (aW ik cS)))),λ z' ez=>?_,rfl⟩
      cases ez
      have gt:=Ho.t
      refine ⟨⟨show ab.natAbs<10 ^ 30 by lia,Ho.b1,Ho.b2,?_⟩,show 0<=ab by lia,⟨w0,show w<=9 by lia⟩,⟨Yi,show sy<=3 by lia⟩,⟨Sh,show fl<=3 by lia⟩⟩
      show Int.gcd ab fh.2=1
      rw [Wj]
      exact Ho.g
     . exact ⟨S9,none,_,_,_,Cc,nofun,rfl⟩
    .
     rintro σ' H9 ⟨S9,st,sv,aay,W0,dst,so,rfl⟩
     have DC:=S8.trans S9
     have VD:=DC _ _ (S7 _ _ Sk)
     have Zo:=S7.trans DC
     refine ⟨_,rfl,.inl ⟨rfl,_,aN.of VD⟩,_,rfl,_,rfl,_,rfl,_,rfl,FI,λ t ht=>?_⟩
     have nB:=ai (o:=.tup [.ref pm,.ref pe,.ref D,sv]) ht
     have Dw:(upd H9 t (.tup [.ref pm,.ref pe,.ref D,sv])) t=some (.tup [.ref pm,.ref pe,.ref D,sv]):=ag
     generalize upd H9 t (.tup [.ref pm,.ref pe,.ref D,sv])=uC at nB Dw ⊢
     have Ce:=nB _ _ VD
     have te:=Ep (K:=K) Ce
     have GU:=Zo.trans nB
     have UQ:=S9.trans nB
     have dd:Dn K (er pr uC) (zn ⟨ms,lo,zg,sh,st⟩) (.ref t):=i9 (te _ _ (cE.of Dw)) (aW (gn (aN.of (qP Y9 (GU _ _ KP))) (bN.ts te _ lz (bN.same GU _ Yu))) (aW (gn (aN.of (qP WZ ((DC.trans nB) _ _ UR))) (aW (Dn.ts te _ (by simp [cU,dL]) (Dn.same (DC.trans nB) _ d1)) (aW (Dn.ts te _ (by simp [cU,dL]) (Dn.same (DC.trans nB) _ d2)) cS))) (aW (gn (aN.of (qP nD (UQ _ _ OJ))) (bN.ts te _ lz (bN.same UQ _ ds))) (aW (Dn.ts te _ (i4 st) (Dn.same nB _ dst)) cS))))
     have m7:ms.length<=7:=by lia
     refine ⟨pr,_,_,rfl,rfl,Ce,aq (by lia),(ET.trans GU).put GN,rs++[⟨ms,lo,zg,sh,st⟩],AJ,(Xy.same GU).more Ce dd ⟨gm,m2,m7,ri,gl,gh,le,ls,gs,so⟩ (by show (ms.length:Int) - 1<=lf;lia) (by show AJ=lf.fdiv ((ms.length:Int) - 1);rw [ZY,WB]),by rw [rT,lr];rfl,_,_,_,_,_,_,_,_,_,rfl⟩
 . rintro U H2 ⟨S2,rs,lf,dr,lr,v4,v5,v6,v7,v8,v9,v10,v11,tH,rfl⟩
   obtain ⟨vs,hv,lv,dv⟩:=dr.ex
   exact ⟨_,rfl,q pr rs H2 S2 (gn (aN.of hv) (bN.same F0 _ dv)) ⟨by lia,by lia,dr.ok,dr.bd⟩ lr⟩
def bI (L:List Str) (rs:List Rm) (ls:List Ln):List V:=(ls.map (aS L rs)).map V.str
theorem jy (L:List Str) (rs:List Rm) (ls:List Ln) (l:Ln):bI L rs ls++[.str (aS L rs l)]=bI L rs (ls++[l]):=by
 unfold bI
 rw [uk,uk]
 rfl
def yj (rs:List Rm) (k j:Nat):List dq:=oF rs k (if j<=k then j else j+1)
def gH (k j:Nat):Nat:=if j<k then j else j+1
theorem qe (rs:List Rm) (k:Nat):oF rs k (k+1)=oF rs k k:=by
 rw [lG,aak (by simp),aar]
theorem wq (rs:List Rm) (k j:Nat):yj rs k (j+1)=yj rs k j++(if 0<(im (rm rs k) k (gH k j)).1 then [.fl k (gH k j)] else []):=by
 have gen:∀ x,x≠k->oF rs k (x+1)=oF rs k x++(if 0<(im (rm rs k) k x).1 then [.fl k x] else []):=λ x hx=>by
   rw [lG]
   congr 1
   rw [aaz (show x≠k from hx),Bool.true_and]
   simp only [abg]
 unfold yj gH
 by_cases c:j<k
 . rw [aam c,aam (by lia),aam (by lia)]
   exact gen j (by lia)
 .
  rw [aak c,aak (by lia)]
  by_cases e:j=k
  . subst e
    rw [aam (Nt _),gen (j+1) (by lia),qe]
  . rw [aak (by lia)]
    exact gen (j+1) (by lia)
theorem zU (rs:List Rm) {k:Nat} (hk:k<rs.length):yj rs k (rs.length - 1)=oF rs k rs.length:=by
 unfold yj
 by_cases c:rs.length - 1<=k
 .
  rw [aam c]
  have e:k=rs.length - 1:=by lia
  have:=qe rs k
  rw [show k+1=rs.length by lia] at this
  rw [this,← e]
 . rw [aak c,show rs.length - 1+1=rs.length by lia]
theorem wU {r:Rm} {k j:Nat}:im r k (gH k j)=r.sh.getD j (0,1):=by
 unfold im gH
 by_cases c:j<k
 . rw [aam c,aam c]
 . rw [aak c,aak (by lia)]
   rfl
def G8 (n k:Nat):List Nat:=(List.range n).filter λ j=>decide (j≠k)
theorem xb {n k:Nat} (h:k<n):G8 n k=(List.range (n - 1)).map (gH k):=by
 have:n=k+1+(n - 1 - k):=by lia
 unfold G8
 rw [this]
 generalize n - 1 - k=d
 have e1:k+1+d - 1=k+d:=by lia
 rw [e1]
 induction d with
 | zero =>
   rw [aaF,abi]
   have:(List.range k).filter (λ j=>decide (j≠k))=List.range k:=List.filter_eq_self.mpr λ x hx=>aaz (by have:=List.mem_range.mp hx;lia)
   rw [this]
   have e2:[k].filter (λ j=>decide (j≠k))=[]:=by simp
   rw [e2,aar]
   refine (List.map_id _).symm.trans (List.map_congr_left λ x hx=>?_)
   have:=List.mem_range.mp hx
   unfold gH
   rw [aam this]
   rfl
 | succ d ih =>
   rw [show k+1+(d+1)=(k+1+d)+1 by lia,aaF,abi,ih (by lia),show k+(d+1)=k+d+1 by lia,aaF,uk]
   congr 1
   have e2:[k+1+d].filter (λ j=>decide (j≠k))=[k+1+d]:=by
     rw [acm,aam (aaz (by lia))]
     rfl
   rw [e2]
   show [_]=[gH k (k+d)]
   unfold gH
   rw [aak (by lia),show k+1+d=k+d+1 by lia]
theorem ER (L:List Str) (rs:List Rm) (a b c:Nat):Str.ofString "bounds " ++ Tx.strN a++Str.ofString " " ++ Tx.strN b++Str.ofString " " ++ Tx.strN c=aS L rs (.bd a b c):=by
 apply Tx.ext
 unfold aS aM
 rw [Bl.ku,Bl.ku,Bl.ku]
 simp only [Tx.app,aat]
 have e1:(Str.ofString "bounds ").cps.toList=(Str.ofString "bounds").cps.toList++[32]:=by decide +kernel
 have e2:(Str.ofString " ").cps.toList=[32]:=by decide +kernel
 rw [e1,e2]
 simp only [aat,acn,abm]
 rfl
theorem kU (ws:List Str):PySem.Txt.join (Str.ofString " ") ws=Str.join Bl.sp ws:=by
 show PySem.Builtin.Str.glued _ _=_
 rw [tE,acq]
theorem lI {q D:Addr} {H1:Hp} {fs:List bE} {xs:List V} {Q:Hp->Prop} (hf:∀ f∈fs,GF f) (l:fs.length<=9) (kq:aN K H1 q xs) (df:bN K H1 (fs.map cU) xs) (hD:H1 D=none) (fin:∀ H2,aG H1 H2->H2 D=some (.lst ((fs.map wr).map V.str))->Q H2) :
   xR K q (g6 0) ze (iq (lX K) [] E0 (cf (cN 0) fA)) D Q [none] (upd H1 D (.lst [])):=by
 refine dO (K:=K) (a:=q) (xs:=xs) (λ i acc U H'=>A4 (aG H1 H') (H' D=some (.lst acc)) (acc=((fs.take i).map wr).map V.str) (∃ v,U=[v])) ⟨ai hD,ag,rfl,none,rfl⟩ (λ i acc U H' _ e=>by obtain ⟨e,_⟩:=e;exact e.seq kq) ?_ ?_
 .
  rintro i x acc U H3 hx ⟨S3,iK,rfl,v,rfl⟩
  have dl:=df.length
  rw [be] at dl
  have hi:i<fs.length:=by rw [← dl];exact (List.getElem?_eq_some_iff.mp hx).1
  obtain ⟨y,ey,dy⟩:=df.get (i:=i) (d:=cU fs[i]) (by rw [Et,aac hi];rfl)
  rw [hx] at ey
  cases ey
  have g:=hf _ (aaP hi)
  obtain ⟨q,rfl,hq⟩:=Dn.fr dy
  refine ⟨_,rfl,q,_,_,rfl,S3.tup hq,g.t,g.b1,g.b2,iK,aq (by rw [be,be,aal];lia),S3.put hD,ag,?_,_,rfl⟩
  rw [aa4,aac hi,uk,uk]
  rfl
 .
  rintro acc U H3 ⟨S3,iK,rfl,v,rfl⟩
  have dl:=df.length
  rw [be] at dl
  rw [dl,aa1] at iK
  exact fin H3 S3 iK
theorem tU {H:Hp} {p:Addr} {rs:List Rm} (h:Dn K H (.list (rs.map zn)) (.ref p)):∃ vs,aN K H p vs/\vs.length=rs.length/\∀ k,k<rs.length->∃ t pm pe ps sv xm v1 v2 xs,vs[k]?=some (.ref t)/\cE K H t [.ref pm,.ref pe,.ref ps,sv]/\aN K H pm xm/\bN K H ((rm rs k).gq.map cU) xm/\aN K H pe [v1,v2]/\Dn K H (cU (rm rs k).lo) v1/\Dn K H (cU (rm rs k).hi) v2/\aN K H ps xs/\bN K H ((rm rs k).sh.map cU) xs/\Dn K H (ee (rm rs k).st) sv:=by
 obtain ⟨q,vs,e,hq,d⟩:=h
 cases e
 refine ⟨vs,hq,by rw [d.length,be],λ k hk=>?_⟩
 have er:rs[k]?=some (rm rs k):=by unfold rm;rw [aax,aac hk];rfl
 obtain ⟨x,ex,t,ys,rfl,ht,a1,_,rfl,d1,a2,_,rfl,d2,a3,_,rfl,d3,a4,_,rfl,d4,rfl⟩:=d.get (i:=k) (d:=zn (rm rs k)) (by rw [Et,er];rfl)
 obtain ⟨pm,xm,rfl,hm,dm⟩:=d1
 obtain ⟨pe,xe,rfl,he,v1,_,rfl,e1,v2,_,rfl,e2,rfl⟩:=d2
 obtain ⟨ps,xs,rfl,hs,ds⟩:=d3
 exact ⟨t,pm,pe,ps,a4,xm,v1,v2,xs,ex,ht,hm,dm,he,e1,e2,hs,ds,d4⟩
inductive CU (K:W.Frag) (vs:List V) (H:Hp) (Q:VK) (_E:XK):Prop
 | mk (p pn pb:_) (L:List Str) (rs:_) (b:Nat×Nat×Nat) (_:vs=[.ref p,.ref pn,.ref pb]) (_:Dn K H (.list (rs.map zn)) (.ref p)) (_:aN K H pn (L.map V.str)) (_:cE K H pb [aO b.1,aO b.2.1,aO b.2.2]) (_:kM L rs.length) (_:gA rs) (_:pJ (some b)) (_:∀ t pf ps pl pv H',aG H H'->H' t=some (.tup [.ref pf,.ref ps,.ref pl,.ref pv])->H' pf=some (.lst (bI L rs (aY (some b) rs [])))->H' ps=some (.lst (bI L rs ((jJ rs).map .id)))->H' pl=some (.lst (bI L rs ((pC rs).map .id)))->H' pv=some (.lst (bI L rs ((xJ rs).map .id)))->Q (.ref t) H')
set_option maxHeartbeats 2000000 in
theorem og (T:Txt K mg Ad):Def P w K mg base "_law_lines" 2 ["_law_rooms","_law_names_here","_law_bounds"] (CU K):=by
 refine T.pq.dQ aT λ f bD A outer s H vs Q E hr h=>?_
 obtain ⟨p,pn,pb,L,rs,b,rfl,hp,hn,hb,nm,ok,ho,k⟩:=h
 refine ⟨_,(ac (az (i:=3) aT.nd rfl (lc rfl) (br (aa (am cA (am cA (am cA (am cA (am cA bw (bB bL (by rfl) T.iQ gp (aa (aA au (pv 2) ah (λ _ _=>rfl)) af))) bw) (bB bL (by rfl) T.iQ gp (aa (aA au (pv 2) ah (λ _ _=>rfl)) af))) bw) (bB bL (by rfl) T.iQ gp (aa (aA au (pv 2) ah (λ _ _=>rfl)) af))) af)))
     (ac (az (i:=4) aT.nd rfl (lc rfl) (br af))
     (ac (az (i:=5) aT.nd rfl (lc rfl) (br af))
     (ac (az (i:=6) aT.nd rfl (lc rfl) (br af))
     (ac (fM aaS rfl (bW rfl T.cZ (aa (aI bF (by rfl) T.dR cB (aa (pv 0) af)) af)) (ax (i:=7) aT.nd rfl (lc rfl)) (ac (fL (aA au (pv 0) (pv 7) (λ _ _=>rfl)) (fQ (K:=K) (n:=4) rfl rfl (aJ (ax (i:=8) aT.nd rfl (lc rfl)) (aJ (ax (i:=9) aT.nd rfl (lc rfl)) (aJ (ax (i:=10) aT.nd rfl (lc rfl)) (aJ (ax (i:=11) aT.nd rfl (lc rfl)) dZ))))))
     (ac (aQ (di aah aaE aaD cu (pv 3) (aa (di aaM abk abj jn bw (aa (am cW (br (aa bw (aa (aA au (pv 1) (pv 7) (λ _ _=>rfl)) af))) (fc ["_law_one"] [] [] .nil rfl (cP (pv 8)) (λ _ _ _ _ _=>(ax (i:=0) (show (["_law_one"]:List Str).Nodup by decide +kernel) rfl (lc rfl))) (λ _ _ _ _ _=>bZ) (λ _ _ _ _ _=>(ao (dU (K:=K) T) hr.m (aa (pv 0) af))) rfl (by decide +kernel) (by decide +kernel) (by decide +kernel))) af)) af)))
     (ac (az (i:=12) aT.nd rfl (lc rfl) (br (aa bw (aa (aA au (pv 1) (pv 7) (λ _ _=>rfl)) (aa (ao (dU (K:=K) T) hr.m (aa (aA au (pv 10) ah (λ _ _=>rfl)) af)) af)))))
     (ac (aQ (di aah aaE aaD cu (pv 4) (aa (di aaM abk abj jn bw (aa (am cW (pv 12) (fc ["_law_one"] [] [] .nil rfl (cP (pv 9)) (λ _ _ _ _ _=>(ax (i:=0) (show (["_law_one"]:List Str).Nodup by decide +kernel) rfl (lc rfl))) (λ _ _ _ _ _=>bZ) (λ _ _ _ _ _=>(ao (dU (K:=K) T) hr.m (aa (pv 0) af))) rfl (by decide +kernel) (by decide +kernel) (by decide +kernel))) af)) af)))
     (ac (vD (yi:=13) ["_law_j"] ["_law_k"] [7] (.cons ⟨rfl,rfl,.inl rfl⟩ .nil) rfl (bW rfl T.cZ (aa (aI bF (by rfl) T.dR cB (aa (pv 0) af)) af)) (λ _ _ _ _ _=>(ax (i:=0) (show (["_law_j","_law_k"]:List Str).Nodup by decide +kernel) rfl (lc rfl))) (λ _ _ _ _ _=>(t5 (aF mQ (pv 0) (pv 1) (aK _)))) (λ _ _ _ _ _=>(pv 0)) rfl (by decide +kernel) (by decide +kernel) (by decide +kernel) aT.nd rfl (lc rfl) rfl)
     (ac (fM aaS rfl (bW rfl T.cZ (aa (aI bF (by rfl) T.dR cB (aa (pv 13) af)) af)) (ax (i:=14) aT.nd rfl (lc rfl)) (ak (aR (aF ko (aA au (aA au (pv 10) (pv 14) (λ _ _=>rfl)) ah (λ _ _=>rfl)) ah (aK _)) (ac (az (i:=12) aT.nd rfl (lc rfl) (br (aa bw (aa (aA au (pv 1) (pv 7) (λ _ _=>rfl)) (aa (aA au (pv 1) (aA au (pv 13) (pv 14) (λ _ _=>rfl)) (λ _ _=>rfl)) af)))))
     (ak (aQ (di aah aaE aaD cu (pv 5) (aa (di aaM abk abj jn bw (aa (am cW (pv 12) (br (aa (ao (dU (K:=K) T) hr.m (aa (aA au (pv 10) (pv 14) (λ _ _=>rfl)) af)) af))) af)) af))))) aD)))
     (ak (aR (aF tT (pv 11) oG (aK _)) (ac (az (i:=15) aT.nd rfl (lc rfl) (br (aa (ao (dU (K:=K) T) hr.m (aa (aA au (pv 11) ah (λ _ _=>rfl)) af)) (aa (bB bL (by rfl) T.iQ gp (aa (aA au (pv 11) ah (λ _ _=>rfl)) af)) (aa (bB bL (by rfl) T.iQ gp (aa (aA au (pv 11) ah (λ _ _=>rfl)) af)) (aa (bB bL (by rfl) T.iQ gp (aa (aA au (pv 11) ah (λ _ _=>rfl)) af)) af))))))
     (ak (aQ (di aah aaE aaD cu (pv 6) (aa (di aaM abk abj jn bw (aa (am cW (br (aa bw (aa (aA au (pv 1) (pv 7) (λ _ _=>rfl)) af))) (pv 15)) af)) af))))) aD)))))))))
     (ak (aH (cL (aa (pv 3) (aa (pv 4) (aa (pv 5) (aa (pv 6) af)))))))))))),?_⟩
 try dsimp only [gi,bx]
 first|(refine qT ?_;intro _ _ _ _ _ _ _)|skip
 obtain ⟨vs,Bh,lv,row⟩:=tU hp
 obtain ⟨o1,o2,o3⟩:=ho b rfl
 have n4:=ok.n4
 have sl:∀ {x:Nat},x<=30->(Str.ofString (toString ((x:Nat):Int)))=Tx.strN x/\(Tx.strN x).length<=62:=λ {x} h=>⟨rfl,lR h⟩
 have b1:(Str.ofString "bounds ").length=7:=by decide +kernel
 have b2:(Str.ofString " ").length=1:=by decide +kernel
 have s1:=(sl (show b.1<=30 by lia)).2
 have s2:=(sl o2).2
 have s3:=(sl o3).2
 have lg:∀ {x:Nat},x<=30->(((x:Nat):Int)).natAbs.log2<1920:=λ {x} h=>jj (aaT h (by decide))
 refine ⟨_,rfl,pb,_,_,_,rfl,rfl,.inr hb,rfl,_,rfl,lg (by lia),_,_,rfl,rfl,aag (aq (by rw [show Str.ofString (toString ((b.1:Nat):Int))=Tx.strN b.1 from rfl];lia)),?_⟩
 have e0:∀ {x:Nat},Str.ofString (toString ((x:Nat):Int))=Tx.strN x:=rfl
 rw [e0]
 refine ⟨_,_,rfl,rfl,aag (aq (by rw [aaj];lia)),?_⟩
 refine ⟨_,rfl,pb,_,_,_,rfl,rfl,.inr hb,rfl,_,rfl,lg o2,_,_,rfl,rfl,aag (aq (by rw [aaj,aaj,e0];lia)),?_⟩
 rw [e0]
 refine ⟨_,_,rfl,rfl,aag (aq (by rw [aaj,aaj,aaj];lia)),?_⟩
 refine ⟨_,rfl,pb,_,_,_,rfl,rfl,.inr hb,rfl,_,rfl,lg o3,_,_,rfl,rfl,aag (aq (by rw [aaj,aaj,aaj,aaj,e0];lia)),?_⟩
 rw [e0,ER L rs]
 refine ⟨vq,λ pf j6=>?_⟩
 have S1:=ai (o:=.lst [.str (aS L rs (.bd b.1 b.2.1 b.2.2))]) j6
 have kf:(upd H pf (.lst [.str (aS L rs (.bd b.1 b.2.1 b.2.2))])) pf=some (.lst (bI L rs ([Ln.bd b.1 b.2.1 b.2.2]++(List.range 0).map Ln.rm))):=ag
 generalize upd H pf (.lst [.str (aS L rs (.bd b.1 b.2.1 b.2.2))])=H1 at S1 kf ⊢
 refine ⟨xZ,λ ps gu=>?_⟩
 have S2:=ai (o:=.lst []) gu
 have ks:(upd H1 ps (.lst [])) ps=some (.lst (bI L rs (((List.range 0).map dq.sk).map Ln.id))):=ag
 have VG:pf≠ps:=aw kf gu
 generalize upd H1 ps (.lst [])=H2 at S2 ks ⊢
 have Ha:=S2 _ _ kf
 refine ⟨xZ,λ pl hC=>?_⟩
 have S3:=ai (o:=.lst []) hC
 have kl:(upd H2 pl (.lst [])) pl=some (.lst (bI L rs ((uW rs 0).map Ln.id))):=ag
 have Wb:pf≠pl:=aw Ha hC
 have Ut:ps≠pl:=aw ks hC
 generalize upd H2 pl (.lst [])=H3 at S3 kl ⊢
 refine ⟨xZ,λ pv Gr=>?_⟩
 have S4:=ai (o:=.lst []) Gr
 have kv:(upd H3 pv (.lst [])) pv=some (.lst (bI L rs ((vj rs 0).map Ln.id))):=ag
 have Ve:pf≠pv:=aw (S3 _ _ Ha) Gr
 have VQ:ps≠pv:=aw (S3 _ _ ks) Gr
 have UK:pl≠pv:=aw kl Gr
 generalize upd H3 pv (.lst [])=H4 at S4 kv ⊢
 have T1:=S1
 have T2:=S1.trans S2
 have T3:=T2.trans S3
 have T4:=T3.trans S4
 have f1:=j6
 have f2:=none_of T1 gu
 have f3:=none_of T2 hC
 have f4:=none_of T3 Gr
 have Y1:=S4 _ _ (S3 _ _ Ha)
 have Xn:=S4 _ _ (S3 _ _ ks)
 have Wz:=S4 _ _ kl
 clear S1 S2 S3 S4 kf Ha ks kl T1 T2 T3
 have at_:∀ {k:Nat},k<rs.length->mZ (L.map V.str) (k:Int)=some (.str (bP L k)):=λ {k} hk=>bQ (by rw [Et,(nm.at_ hk).2];rfl)
 have nl:∀ {k:Nat},k<rs.length->(bP L k).length<=62:=λ {k} hk=>by have:=nm.l8 _ (nm.at_ hk).1;lia
 have jf:∀ {ws:List Str} {l:Ln},aM L rs l=ws->Dp rs l->JoinOk (Str.ofString " ") ws=true:=λ {ws l} e h=>by
   obtain ⟨_,h2,h3⟩:=mh nm ok h
   rw [e] at h2 h3
   exact o9 (λ y hy=>by have:=(h3 y hy).2;lia) (by lia)
 have un:∀ {q q':Addr} {Hx:Hp} {o o':HO},q≠q'->Hx q=some o->(upd Hx q' o') q=some o:=λ n e=>(aE n).trans e
 have lt:∀ {ls:List Ln},(bI L rs ls).length=ls.length:=λ {ls}=>by unfold bI;rw [be,be]
 have l0:∀ i j,(oF rs i j).length<=j:=λ i j=>by
   unfold oF
   rw [be]
   have:=aaX (λ j=>decide (j≠i) && decide (0<(im (rm rs i) i j).1)) (List.range j)
   rw [RF] at this
   exact this
 have lT:∀ i,(uW rs i).length<=i * rs.length:=λ i=>by
   induction i with
   | zero=>exact aaH _
   | succ i ih =>
     rw [il,rT,acW]
     have:=l0 i rs.length
     lia
 refine ⟨_,rfl,p,_,rfl,.inl (T4.seq Bh),λ n en=>⟨n,rfl,by lia,by lia,?_⟩⟩
 have Vr:n.toNat=rs.length:=by lia
 refine fE (lo:=0) (n:=n.toNat) (λ i U H'=>A6 (aG H H') (H' pf=some (.lst (bI L rs ([Ln.bd b.1 b.2.1 b.2.2]++(List.range i).map Ln.rm)))) (H' ps=some (.lst (bI L rs (((List.range i).map dq.sk).map Ln.id)))) (H' pl=some (.lst (bI L rs ((uW rs i).map Ln.id)))) (H' pv=some (.lst (bI L rs ((vj rs i).map Ln.id)))) (E7 λ v7 v8 v9 v10 v11 tH JK=>E2 λ BG Hl=>U=[some (.ref p),some (.ref pn),some (.ref pb),some (.ref pf),some (.ref ps),some (.ref pl),some (.ref pv),v7,v8,v9,v10,v11,tH,JK,BG,Hl])) ⟨T4,Y1,Xn,Wz,kv,none,none,none,none,none,none,none,none,none,rfl⟩ ?_ ?_
 .
  rintro _ i U H5 hi ⟨S5,kf,ks,kl,kv,v7,v8,v9,v10,v11,tH,JK,BG,Hl,rfl⟩
  have ou:i<rs.length:=by lia
  obtain ⟨t,pm,pe,mr,sv,xm,w1,w2,xs,ev,ht,hm,dm,he,d1,d2,hs,ds,dst⟩:=row i ou
  obtain ⟨om,_⟩:=ok.at_ ou
  have lxs:xs.length=4:=by rw [ds.length,be];exact om.s4
  refine ⟨_,rfl,_,rfl,p,_,_,_,rfl,rfl,.inl (S5.seq Bh),(by rw [aaU];exact jx ev),t,_,rfl,S5.tup ht,rfl,_,_,rfl,_,_,rfl,_,_,rfl,_,_,rfl,rfl,?_⟩
  refine ⟨_,rfl,.inl ⟨rfl,_,aN.of kf⟩,rfl,_,rfl,_,rfl,pn,_,_,_,rfl,rfl,.inl (S5.seq hn),(by rw [aaU];exact at_ ou),wj,λ q1 kg=>?_⟩
  have Z1:=ai (o:=.lst [.str (Str.ofString "room"),.str (bP L i)]) kg
  have c1:(upd H5 q1 (.lst [.str (Str.ofString "room"),.str (bP L i)])) q1=some (.lst ([Str.ofString "room",bP L i].map V.str)):=ag
  generalize upd H5 q1 (.lst [.str (Str.ofString "room"),.str (bP L i)])=H6 at Z1 c1 ⊢
  have U6:=S5.trans Z1
  refine ⟨_,rfl,pm,rfl,⟨_,U6.seq hm⟩,λ D hD=>lI om.gm (by have:=om.m7;lia) (U6.seq hm) (bN.same U6 _ dm) hD λ H7 Z2 Ue=>?_⟩
  refine ⟨q1,D,_,_,rfl,rfl,Z2 _ _ c1,Ue,aag (aq (by rw [be,be,be];show 2+_<=1000;have:=om.m7;lia)),λ q2 ki=>?_⟩
  have Z3:=ai (o:=.lst ([Str.ofString "room",bP L i].map V.str++((rm rs i).gq.map wr).map V.str)) ki
  have c3:(upd H7 q2 (.lst ([Str.ofString "room",bP L i].map V.str++((rm rs i).gq.map wr).map V.str))) q2=some (.lst ((aM L rs (.rm i)).map V.str)):=ag
  generalize upd H7 q2 (.lst ([Str.ofString "room",bP L i].map V.str++((rm rs i).gq.map wr).map V.str))=H8 at Z3 c3 ⊢
  refine ⟨_,q2,aM L rs (.rm i),rfl,rfl,aN.of c3,jf rfl ou,?_⟩
  rw [kU]
  have V8:=Z1.trans (Z2.trans Z3)
  refine ⟨pf,_,_,rfl,rfl,V8 _ _ kf,aq (by rw [lt,rT,be,RF];show 1+i<=1000;lia),?_⟩
  rw [show Str.join Bl.sp (aM L rs (.rm i))=aS L rs (.rm i) from rfl,jy,aat,← abz (f:=Ln.rm),← uk,← aaF]
  have S8:aG H (upd H8 pf (.lst (bI L rs ([Ln.bd b.1 b.2.1 b.2.2]++(List.range (i+1)).map Ln.rm)))):=(S5.trans V8).put f1
  have JB:(upd H8 pf (.lst (bI L rs ([Ln.bd b.1 b.2.1 b.2.2]++(List.range (i+1)).map Ln.rm)))) pf=some (.lst (bI L rs ([Ln.bd b.1 b.2.1 b.2.2]++(List.range (i+1)).map Ln.rm))):=ag
  have Hd:=un (o':=.lst (bI L rs ([Ln.bd b.1 b.2.1 b.2.2]++(List.range (i+1)).map Ln.rm))) VG.symm (V8 _ _ ks)
  have NG:=un (o':=.lst (bI L rs ([Ln.bd b.1 b.2.1 b.2.2]++(List.range (i+1)).map Ln.rm))) Wb.symm (V8 _ _ kl)
  have IS:=un (o':=.lst (bI L rs ([Ln.bd b.1 b.2.1 b.2.2]++(List.range (i+1)).map Ln.rm))) Ve.symm (V8 _ _ kv)
  generalize upd H8 pf (.lst (bI L rs ([Ln.bd b.1 b.2.1 b.2.2]++(List.range (i+1)).map Ln.rm)))=H9 at S8 JB Hd NG IS ⊢
  clear S5 kf ks kl kv Z1 Z2 Z3 V8 U6 c1 c3 Ue
  have uM:∀ {j:Nat} {Hx:Hp},j<4->aG H Hx->∃ q,mZ xs (j:Int)=some (.ref q)/\cE K Hx q [.int ((rm rs i).sh.getD j (0,1)).1,.int ((rm rs i).sh.getD j (0,1)).2]:=λ {j Hx} hj sx=>by
    obtain ⟨y,ey,dy⟩:=ds.get (i:=j) (d:=cU ((rm rs i).sh.getD j (0,1))) (by rw [Et,aax,aac (by rw [om.s4];exact hj)];rfl)
    obtain ⟨q,rfl,hq⟩:=Dn.fr dy
    exact ⟨q,bQ ey,sx.tup hq⟩
  obtain ⟨g3,_⟩:=om.sh (i:=3) (by decide)
  obtain ⟨y3,OK,ty3⟩:=uM (j:=3) (by decide) S8
  refine ⟨_,rfl,_,rfl,pn,_,_,_,rfl,rfl,.inl (S8.seq hn),(by rw [aaU];exact at_ ou),_,rfl,mr,_,_,_,rfl,rfl,.inl (S8.seq hs),OK,y3,_,_,rfl,ty3,g3.t,g3.b1,g3.b2,xY,λ q1 kg=>?_⟩
  have Z1:=ai (o:=.lst [.str (Str.ofString "sky"),.str (bP L i),.str (wr (qw (rm rs i)))]) kg
  have c1:(upd H9 q1 (.lst [.str (Str.ofString "sky"),.str (bP L i),.str (wr (qw (rm rs i)))])) q1=some (.lst ([Str.ofString "sky",bP L i,wr (qw (rm rs i))].map V.str)):=ag
  show (λ Hx=>_) (upd H9 q1 (.lst [.str (Str.ofString "sky"),.str (bP L i),.str (wr (qw (rm rs i)))]))
  generalize upd H9 q1 (.lst [.str (Str.ofString "sky"),.str (bP L i),.str (wr (qw (rm rs i)))])=uC at Z1 c1 ⊢
  have Eb:=S8.trans Z1
  refine ⟨_,rfl,.inl ⟨rfl,_,aN.of (Z1 _ _ Hd)⟩,rfl,_,rfl,_,rfl,pe,rfl,⟨_,Eb.seq he⟩,λ D hD=>lI (fs:=[(rm rs i).lo,(rm rs i).hi]) (λ f hf=>?_) (by show 2<=9;decide) (Eb.seq he) (aW (Dn.same Eb _ d1) (aW (Dn.same Eb _ d2) cS)) hD λ qU Z2 Ez=>?_⟩
  . simp only [aaa,GV,aaI] at hf
    rcases hf with rfl|rfl
    . exact om.gl
    . exact om.gh
  refine ⟨q1,D,_,_,rfl,rfl,Z2 _ _ c1,Ez,aag (aq (by show 3+2<=1000;decide)),λ q2 ki=>?_⟩
  have Z3:=ai (o:=.lst ([Str.ofString "sky",bP L i,wr (qw (rm rs i))].map V.str++([(rm rs i).lo,(rm rs i).hi].map wr).map V.str)) ki
  have c3:(upd qU q2 (.lst ([Str.ofString "sky",bP L i,wr (qw (rm rs i))].map V.str++([(rm rs i).lo,(rm rs i).hi].map wr).map V.str))) q2=some (.lst ((aM L rs (.id (.sk i))).map V.str)):=ag
  generalize upd qU q2 (.lst ([Str.ofString "sky",bP L i,wr (qw (rm rs i))].map V.str++([(rm rs i).lo,(rm rs i).hi].map wr).map V.str))=vn at Z3 c3 ⊢
  refine ⟨_,q2,aM L rs (.id (.sk i)),rfl,rfl,aN.of c3,jf rfl ou,?_⟩
  rw [kU]
  have Dy:=Z1.trans (Z2.trans Z3)
  refine ⟨ps,_,_,rfl,rfl,Dy _ _ Hd,aq (by rw [lt,be,be,RF];lia),?_⟩
  rw [show Str.join Bl.sp (aM L rs (.id (.sk i)))=aS L rs (.id (.sk i)) from rfl,jy,← abz (f:=Ln.id),← uk,← abz (f:=dq.sk),← uk,← aaF]
  have vo:aG H (upd vn ps (.lst (bI L rs (((List.range (i+1)).map dq.sk).map Ln.id)))):=(S8.trans Dy).put f2
  have CT:(upd vn ps (.lst (bI L rs (((List.range (i+1)).map dq.sk).map Ln.id)))) ps=some (.lst (bI L rs (((List.range (i+1)).map dq.sk).map Ln.id))):=ag
  have Bw:=un (o':=.lst (bI L rs (((List.range (i+1)).map dq.sk).map Ln.id))) VG (Dy _ _ JB)
  have zS:=un (o':=.lst (bI L rs (((List.range (i+1)).map dq.sk).map Ln.id))) Ut.symm (Dy _ _ NG)
  have Ci:=un (o':=.lst (bI L rs (((List.range (i+1)).map dq.sk).map Ln.id))) VQ.symm (Dy _ _ IS)
  generalize upd vn ps (.lst (bI L rs (((List.range (i+1)).map dq.sk).map Ln.id)))=DW at vo CT Bw zS Ci ⊢
  clear S8 JB Hd NG IS Z1 Z2 Z3 Dy Eb c1 c3 Ez
  refine ⟨_,rfl,p,_,rfl,.inl (vo.seq Bh),λ n2 XI=>⟨n2,rfl,by lia,by lia,λ D hD=>?_⟩⟩
  have e2:n2.toNat=rs.length:=by lia
  have xg:∀ x,(List.range (x+1)).filter (λ j=>decide (j≠i))=(List.range x).filter (λ j=>decide (j≠i))++(if x=i then [] else [x]):=λ x=>by
    rw [aaF,abi]
    congr 1
    by_cases c:x=i
    . simp [c]
    . simp [c]
  have lO:∀ x,((List.range x).filter (λ j=>decide (j≠i))).length<=x:=λ x=>by
    have:=aaX (λ j=>decide (j≠i)) (List.range x)
    rw [RF] at this
    exact this
  refine eL (lo:=0) (n:=n2.toNat) (λ j acc U H'=>A4 (aG DW H') (H' D=some (.lst acc)) (acc=((List.range j).filter (λ j=>decide (j≠i))).map aO) (∃ v,U=[v,some (.int (0+(i:Int)))])) ⟨ai hD,ag,rfl,none,rfl⟩ ?_ ?_
  .
   rintro j acc U Bc hj ⟨nR,ka,rfl,v,rfl⟩
   by_cases c:j=i
   . refine ⟨_,rfl,_,rfl,rfl,_,rfl,eU (aaV (λ x:Nat=>V.int (0+(x:Int))) c) ?_⟩
     exact ⟨nR,ka,by rw [xg,aam c,aar],_,rfl⟩
   . refine ⟨_,rfl,_,rfl,rfl,_,rfl,qu (λ e=>c (by have e:=V.int.inj e;lia)) ?_⟩
     have:=lO j
     refine ⟨_,rfl,ka,aq (by rw [be];lia),nR.put hD,ag,?_,_,rfl⟩
     rw [xg,aak c,uk,aaU]
     rfl
  .
   rintro acc U Bc ⟨nR,ka,rfl,v,rfl⟩
   rw [e2,show (List.range rs.length).filter (λ j=>decide (j≠i))=G8 rs.length i from rfl,xb ou] at ka
   have AE:=vo.trans nR
   have IK:=nR _ _ Bw
   have RA:=nR _ _ CT
   have Tn:=nR _ _ zS
   have TX:=nR _ _ Ci
   have Wx:D≠pl:=(aw zS hD).symm
   have lD:(((List.range (rs.length - 1)).map (gH i)).map aO).length=rs.length - 1:=by rw [be,be,RF]
   clear vo nR Bw CT zS Ci
   refine ⟨_,rfl,D,_,rfl,.inl (aN.of ka),λ n3 Xt=>⟨n3,rfl,by lia,by lia,?_⟩⟩
   have e3:n3.toNat=rs.length - 1:=by lia
   refine fE (lo:=0) (n:=n3.toNat) (λ j U H'=>A7 (aG H H') (H' pf=some (.lst (bI L rs ([Ln.bd b.1 b.2.1 b.2.2]++(List.range (i+1)).map Ln.rm)))) (H' ps=some (.lst (bI L rs (((List.range (i+1)).map dq.sk).map Ln.id)))) (H' pl=some (.lst (bI L rs ((uW rs i++yj rs i j).map Ln.id)))) (H' pv=some (.lst (bI L rs ((vj rs i).map Ln.id)))) (H' D=some (.lst (((List.range (rs.length - 1)).map (gH i)).map aO))) (E2 λ tH BG=>U=[some (.ref p),some (.ref pn),some (.ref pb),some (.ref pf),some (.ref ps),some (.ref pl),some (.ref pv),some (.int (0+(i:Int))),some (.ref pm),some (.ref pe),some (.ref mr),some sv,tH,some (.ref D),BG,Hl])) ⟨AE,IK,RA,by rw [show yj rs i 0=[] from rfl,aar];exact Tn,TX,ka,_,_,rfl⟩ ?_ ?_
   .
    rintro _ j U uh hj ⟨mG,kf,ks,kl,kv,kD,tH,BG,rfl⟩
    have El:j<4:=by lia
    have hu:gH i j<rs.length:=by unfold gH;split<;>lia
    have GR:i≠gH i j:=by unfold gH;split<;>lia
    have eu:im (rm rs i) i (gH i j)=(rm rs i).sh.getD j (0,1):=wU
    obtain ⟨gj,_⟩:=om.sh El
    obtain ⟨y,ay,ty⟩:=uM El mG
    have VF:i * rs.length<=4 * 4:=abY (by lia) n4
    have hT:=lT i
    have hJ:(yj rs i j).length<=5:=by
      unfold yj
      split
      . have:=l0 i j;lia
      . have:=l0 i (j+1);lia
    have fn:=wq rs i j
    rw [eu] at fn
    refine ⟨_,rfl,_,rfl,mr,_,_,_,rfl,rfl,.inl (mG.seq hs),(by rw [aaU];exact ay),y,_,_,_,rfl,rfl,.inr ty,rfl,_,_,rfl,rfl,_,rfl,fF (λ z=>?_) λ z=>?_⟩
    .
     have z:0<((rm rs i).sh.getD j (0,1)).1:=z
     rw [aam z] at fn
     refine ⟨_,rfl,_,rfl,pn,_,_,_,rfl,rfl,.inl (mG.seq hn),(by rw [aaU];exact at_ ou),_,rfl,_,rfl,_,rfl,D,_,_,aO (gH i j),rfl,rfl,.inl (aN.of kD),(by rw [aaU];exact bQ (by rw [Et,Et,aa3 (by lia)];rfl)),pn,_,_,_,rfl,rfl,.inl (mG.seq hn),at_ hu,xY,λ q1 kg=>?_⟩
     have Z1:=ai (o:=.lst [.str (Str.ofString "flow"),.str (bP L i),.str (bP L (gH i j))]) kg
     have c1:(upd uh q1 (.lst [.str (Str.ofString "flow"),.str (bP L i),.str (bP L (gH i j))])) q1=some (.lst ([Str.ofString "flow",bP L i,bP L (gH i j)].map V.str)):=ag
     show (λ Hx=>_) (upd uh q1 (.lst [.str (Str.ofString "flow"),.str (bP L i),.str (bP L (gH i j))]))
     generalize upd uh q1 (.lst [.str (Str.ofString "flow"),.str (bP L i),.str (bP L (gH i j))])=x6 at Z1 c1 ⊢
     have GL:=mG.trans Z1
     obtain ⟨y2,Y8,ty2⟩:=uM El GL
     refine ⟨_,rfl,.inl ⟨rfl,_,aN.of (Z1 _ _ kl)⟩,rfl,_,rfl,_,rfl,_,rfl,mr,_,_,_,rfl,rfl,.inl (GL.seq hs),(by rw [aaU];exact Y8),y2,_,_,rfl,ty2,gj.t,gj.b1,gj.b2,vq,λ q2 ki=>?_⟩
     rw [show Tx.fO ((rm rs i).sh.getD j (0,1)).1 ((rm rs i).sh.getD j (0,1)).2=wr ((rm rs i).sh.getD j (0,1)) from rfl]
     have Z2:=ai (o:=.lst [.str (wr ((rm rs i).sh.getD j (0,1)))]) ki
     have c2:(upd x6 q2 (.lst [.str (wr ((rm rs i).sh.getD j (0,1)))])) q2=some (.lst ([wr ((rm rs i).sh.getD j (0,1))].map V.str)):=ag
     generalize upd x6 q2 (.lst [.str (wr ((rm rs i).sh.getD j (0,1)))])=AW at Z2 c2 ⊢
     refine ⟨q1,q2,_,_,rfl,rfl,Z2 _ _ c1,c2,aag (aq (by show 3+1<=1000;decide)),λ q3 ux=>?_⟩
     have Z3:=ai (o:=.lst ([Str.ofString "flow",bP L i,bP L (gH i j)].map V.str++[wr ((rm rs i).sh.getD j (0,1))].map V.str)) ux
     have c3:(upd AW q3 (.lst ([Str.ofString "flow",bP L i,bP L (gH i j)].map V.str++[wr ((rm rs i).sh.getD j (0,1))].map V.str))) q3=some (.lst ((aM L rs (.id (.fl i (gH i j)))).map V.str)):=by
       rw [show aM L rs (.id (.fl i (gH i j)))=[Str.ofString "flow",bP L i,bP L (gH i j),wr (im (rm rs i) i (gH i j))] from rfl,eu]
       exact ag
     generalize upd AW q3 (.lst ([Str.ofString "flow",bP L i,bP L (gH i j)].map V.str++[wr ((rm rs i).sh.getD j (0,1))].map V.str))=GW at Z3 c3 ⊢
     refine ⟨_,q3,aM L rs (.id (.fl i (gH i j))),rfl,rfl,aN.of c3,jf rfl ⟨ou,hu,GR⟩,?_⟩
     rw [kU]
     have vp:=Z1.trans (Z2.trans Z3)
     refine ⟨pl,_,_,rfl,rfl,vp _ _ kl,aq (by rw [lt,be,rT];lia),?_⟩
     rw [show Str.join Bl.sp (aM L rs (.id (.fl i (gH i j))))=aS L rs (.id (.fl i (gH i j))) from rfl,jy,← abz (f:=Ln.id),← uk,aat,← fn]
     exact ⟨(mG.trans vp).put f3,un Wb (vp _ _ kf),un Ut (vp _ _ ks),ag,un UK.symm (vp _ _ kv),un Wx (vp _ _ kD),_,_,rfl⟩
    . have z:¬ 0<((rm rs i).sh.getD j (0,1)).1:=z
      rw [aak z,aar] at fn
      exact ⟨mG,kf,ks,by rw [fn];exact kl,kv,kD,_,_,rfl⟩
   .
    rintro U uh ⟨mG,kf,ks,kl,kv,kD,tH,BG,rfl⟩
    rw [e3,zU rs ou,← il] at kl
    have sn:=pI rs i
    have Zt:(vj rs i).length<=i:=by
      unfold vj
      rw [be]
      have:=aaX (λ k=>(rm rs k).st.isSome) (List.range i)
      rw [RF] at this
      exact this
    have dst:=Dn.same mG _ dst
    cases e:(rm rs i).st with
    | none =>
      rw [e] at dst sn
      rw [show (none:Option (bE×Int×Int×Int)).isSome=false from rfl,aak OR,aar] at sn
      cases (show sv=V.cD from dst)
      exact ⟨_,rfl,rfl,_,rfl,eU rfl ⟨mG,kf,ks,kl,by rw [sn];exact kv,_,_,_,_,_,_,_,_,_,rfl⟩⟩
    | some z =>
      rw [e] at dst sn
      rw [show (some z:Option (bE×Int×Int×Int)).isSome=true from rfl,aam rfl] at sn
      obtain ⟨g1,g2,g3',g4,g5⟩:=om.so z e
      obtain ⟨qs,V1,rfl,He,u1,_,rfl,x9,u2,_,rfl,Zr,u3,_,rfl,YQ,u4,_,rfl,d4',rfl⟩:=dst
      cases (show u2=V.int z.2.1 from Zr)
      cases (show u3=V.int z.2.2.1 from YQ)
      cases (show u4=V.int z.2.2.2 from d4')
      obtain ⟨qh,rfl,Xk⟩:=Dn.fr x9
      have es:∀ {x:Int},0<=x->x<=30->x.natAbs.log2<1920/\Str.ofString (toString x)=Tx.strN x.toNat:=λ {x} h0 h1=>by
        obtain ⟨m,rfl⟩:=aaG h0
        exact ⟨jj (aaT (show m<=30 by lia) (by decide)),rfl⟩
      obtain ⟨lw,ew⟩:=es g3'.1 (by lia)
      obtain ⟨ly,ey⟩:=es g4.1 (by lia)
      obtain ⟨lf,ef⟩:=es g5.1 (by lia)
      refine ⟨_,rfl,rfl,_,rfl,qu nofun ?_⟩
      refine ⟨_,rfl,qs,_,_,_,rfl,rfl,.inr He,rfl,qh,_,_,rfl,Xk,g1.t,g1.b1,g1.b2,_,rfl,qs,_,_,_,rfl,rfl,.inr He,rfl,_,rfl,lw,_,rfl,qs,_,_,_,rfl,rfl,.inr He,rfl,_,rfl,ly,_,rfl,qs,_,_,_,rfl,rfl,.inr He,rfl,_,rfl,lf,FI,λ q1 kg=>?_⟩
      rw [ew,ey,ef]
      have Z1:=ai (o:=.lst [.str (wr z.1),.str (Tx.strN z.2.1.toNat),.str (Tx.strN z.2.2.1.toNat),.str (Tx.strN z.2.2.2.toNat)]) kg
      have c1:(upd uh q1 (.lst [.str (wr z.1),.str (Tx.strN z.2.1.toNat),.str (Tx.strN z.2.2.1.toNat),.str (Tx.strN z.2.2.2.toNat)])) q1=some (.lst ([wr z.1,Tx.strN z.2.1.toNat,Tx.strN z.2.2.1.toNat,Tx.strN z.2.2.2.toNat].map V.str)):=ag
      show (λ Hx=>_) (upd uh q1 (.lst [.str (wr z.1),.str (Tx.strN z.2.1.toNat),.str (Tx.strN z.2.2.1.toNat),.str (Tx.strN z.2.2.2.toNat)]))
      generalize upd uh q1 (.lst [.str (wr z.1),.str (Tx.strN z.2.1.toNat),.str (Tx.strN z.2.2.1.toNat),.str (Tx.strN z.2.2.2.toNat)])=x6 at Z1 c1 ⊢
      have GL:=mG.trans Z1
      refine ⟨_,rfl,.inl ⟨rfl,_,aN.of (Z1 _ _ kv)⟩,rfl,_,rfl,_,rfl,pn,_,_,_,rfl,rfl,.inl (GL.seq hn),(by rw [aaU];exact at_ ou),wj,λ q2 ki=>?_⟩
      have Z2:=ai (o:=.lst [.str (Str.ofString "stove"),.str (bP L i)]) ki
      have c2:(upd x6 q2 (.lst [.str (Str.ofString "stove"),.str (bP L i)])) q2=some (.lst ([Str.ofString "stove",bP L i].map V.str)):=ag
      generalize upd x6 q2 (.lst [.str (Str.ofString "stove"),.str (bP L i)])=AW at Z2 c2 ⊢
      refine ⟨_,rfl,q2,q1,_,_,rfl,rfl,c2,Z2 _ _ c1,aag (aq (by show 2+4<=1000;decide)),λ q3 ux=>?_⟩
      have Z3:=ai (o:=.lst ([Str.ofString "stove",bP L i].map V.str++[wr z.1,Tx.strN z.2.1.toNat,Tx.strN z.2.2.1.toNat,Tx.strN z.2.2.2.toNat].map V.str)) ux
      have Y2:aM L rs (.id (.sv i))=[Str.ofString "stove",bP L i,wr z.1,Tx.strN z.2.1.toNat,Tx.strN z.2.2.1.toNat,Tx.strN z.2.2.2.toNat]:=by simp only [aM,dj,e]
      have c3:(upd AW q3 (.lst ([Str.ofString "stove",bP L i].map V.str++[wr z.1,Tx.strN z.2.1.toNat,Tx.strN z.2.2.1.toNat,Tx.strN z.2.2.2.toNat].map V.str))) q3=some (.lst ((aM L rs (.id (.sv i))).map V.str)):=by rw [Y2];exact ag
      generalize upd AW q3 (.lst ([Str.ofString "stove",bP L i].map V.str++[wr z.1,Tx.strN z.2.1.toNat,Tx.strN z.2.2.1.toNat,Tx.strN z.2.2.2.toNat].map V.str))=GW at Z3 c3 ⊢
      refine ⟨_,q3,aM L rs (.id (.sv i)),rfl,rfl,aN.of c3,jf rfl ⟨ou,by rw [e];nofun⟩,?_⟩
      rw [kU]
      have vp:=Z1.trans (Z2.trans Z3)
      refine ⟨pv,_,_,rfl,rfl,vp _ _ kv,aq (by rw [lt,be];lia),?_⟩
      rw [show Str.join Bl.sp (aM L rs (.id (.sv i)))=aS L rs (.id (.sv i)) from rfl,jy,← abz (f:=Ln.id),← uk,← sn]
      exact ⟨(mG.trans vp).put f4,un Ve (vp _ _ kf),un VQ (vp _ _ ks),un UK (vp _ _ kl),ag,_,_,_,_,_,_,_,_,_,rfl⟩
 .
  rintro U H5 ⟨S5,kf,ks,kl,kv,v7,v8,v9,v10,v11,tH,JK,BG,Hl,rfl⟩
  rw [Vr] at kf ks kl kv
  refine ⟨_,rfl,_,rfl,_,rfl,_,rfl,FI,λ t ht=>?_⟩
  have S6:=ai (o:=.tup [.ref pf,.ref ps,.ref pl,.ref pv]) ht
  refine k t pf ps pl pv _ (S5.trans S6) ag (S6 _ _ ?_) (S6 _ _ ks) (S6 _ _ kl) (S6 _ _ kv)
  rw [kf]
  unfold aY
  rw [abE,aar]
  rfl
inductive rR (K:W.Frag) (C:Addr) (vs:List V) (H:Hp) (Q:VK) (_E:XK):Prop
 | mk (a fp m p pb rs:_) (x y z:Int) (_:vs=[.ref a,.ref p,.ref pb]) (_:bj K C H a fp m) (_:xc rs m) (_:lH m (x,y,z)) (_:gA rs) (_:Dn K H (.list (rs.map zn)) (.ref p)) (_:cE K H pb [.int x,.int y,.int z]) (_:∀ H',aG H H'->Q (.bl true) H')
theorem CQ {fs:List bE}:sX 2 (.list (fs.map cU)):=λ d hd=>by
 obtain ⟨f,_,rfl⟩:=List.mem_map.mp hd
 exact t9 f
theorem kj (T:Txt K mg Ad):Def P w K mg base "_law_asks" 6 ["_law_hold","_law_rooms","_law_bounds"] (rR K Ad.aX):=by
 refine T.sB.dQ cx λ f bD A outer s H vs Q E hr h=>?_
 obtain ⟨a,fp,m,p,pb,rs,x,y,z,rfl,hh,fin,hb,ok,hp,T0,k⟩:=h
 refine ⟨_,(ac (aR (PW.pt (hU (aF (gQ hr.units) (cL (aa (cr (pv 0) rfl) (aa (cr (pv 0) rfl) (aa (cr (pv 0) rfl) af)))) (pv 2) (aK _)) (fD (aF mQ (fw (pv 0) T.av (cK (K:=K) T) .nil hr.m) (aI bF (by rfl) T.dR cB (aa (pv 1) af)) (aK _))))) (ak (aH gG)) aD)
     (ac (fM aaS rfl (bW rfl T.cZ (aa (aI bF (by rfl) T.dR cB (aa (pv 1) af)) af)) (ax (i:=3) cx.nd rfl (lc rfl)) (ac (fL (aA au (pv 1) (pv 3) (λ _ _=>rfl)) (fQ (K:=K) (n:=4) rfl rfl (aJ (ax (i:=4) cx.nd rfl (lc rfl)) (aJ (ax (i:=5) cx.nd rfl (lc rfl)) (aJ (ax (i:=6) cx.nd rfl (lc rfl)) (aJ (ax (i:=7) cx.nd rfl (lc rfl)) dZ))))))
     (ac (aR (PW.pt (hU (aF (gQ hr.units) (aP (pv 0) T.av (hG (K:=K) T) .nil hr.m (aa (pv 3) af)) (pv 4) (aK _)) (fD (aF (gQ hr.units) (aP (pv 0) T.av (fJ (K:=K) T) .nil hr.m (aa (pv 3) af)) (pv 7) (aK _))))) (ak (aH gG)) aD)
     (ac (aR (aF (gQ hr.units) (aP (pv 0) T.av (jG (K:=K) T) .nil hr.m (aa (pv 3) af)) (cL (aa (aA au (pv 6) ah (λ _ _=>rfl)) (aa (aA au (pv 5) ah (λ _ _=>rfl)) (aa (aA au (pv 5) ah (λ _ _=>rfl)) af)))) (aK _)) (ak (aH gG)) aD)
     (ac (vD (yi:=8) ["_law_j"] ["_law_k"] [3] (.cons ⟨rfl,rfl,.inl rfl⟩ .nil) rfl (bW rfl T.cZ (aa (aI bF (by rfl) T.dR cB (aa (pv 1) af)) af)) (λ _ _ _ _ _=>(ax (i:=0) (show (["_law_j","_law_k"]:List Str).Nodup by decide +kernel) rfl (lc rfl))) (λ _ _ _ _ _=>(t5 (aF mQ (pv 0) (pv 1) (aK _)))) (λ _ _ _ _ _=>(pv 0)) rfl (by decide +kernel) (by decide +kernel) (by decide +kernel) cx.nd rfl (lc rfl) rfl)
     (ak (fM aaS rfl (bW rfl T.cZ (aa (aI bF (by rfl) T.dR cB (aa (pv 8) af)) af)) (ax (i:=9) cx.nd rfl (lc rfl)) (ak (aR (aF (gQ hr.units) (aP (pv 0) T.av (dW (K:=K) T) .nil hr.m (aa (pv 3) (aa (aA au (pv 8) (pv 9) (λ _ _=>rfl)) af))) (aA au (pv 6) (pv 9) (λ _ _=>rfl)) (aK _)) (ak (aH gG)) aD)))))))))
     (ak (aH gG)))),?_⟩
 try dsimp only [gi,bx]
 first|(refine ir ?_;intro _ _ _ _)|skip
 obtain ⟨dx,pm0,pf0,ps0,pt0,_,_,_,_,_,ha,_⟩:=hh.ex
 obtain ⟨vs,Bh,lv,row⟩:=tU hp
 have n4:=ok.n4
 have lr:m.rows.length=rs.length:=by rw [fin.rows,be]
 have e1:m.most=x:=aaV Prod.fst hb
 have e2:m.ig=y:=aaV (λ x=>x.2.1) hb
 have e3:m.load=z:=aaV (λ x=>x.2.2) hb
 refine ⟨_,rfl,a,_,dx,_,_,rfl,ha,T.av,T.gR,pK _ _ _ _ _,_,rfl,a,_,dx,_,_,rfl,ha,T.av,T.ie,sT _ _ _ _ _,_,rfl,a,_,dx,_,_,rfl,ha,T.av,T.gS,qR _ _ _ _ _,xY,λ t ht=>?_⟩
 rw [e1,e2,e3]
 have S1:=ai (o:=.tup [.int x,.int y,.int z]) ht
 have k1:(upd H t (.tup [.int x,.int y,.int z])) t=some (.tup [.int x,.int y,.int z]):=ag
 generalize upd H t (.tup [.int x,.int y,.int z])=H1 at S1 k1 ⊢
 have d3:∀ {q:Addr} {Hx:Hp},cE K Hx q [.int x,.int y,.int z]->Dn K Hx (.tuple [.int x,.int y,.int z]) (.ref q):=λ e=>i9 e (aW ik (aW ik (aW ik cS)))
 refine ⟨_,rfl,io (n:=1) (d3 (cE.of k1)) (d3 (S1.tup T0)) yn (by decide) ⟨_,rfl,eB ?_⟩⟩
 refine ⟨_,rfl,a,dx,_,rfl,S1 _ _ ha,rfl,a,fp,m,rfl,hh.same S1,_,rfl,p,_,rfl,.inl (S1.seq Bh),λ n en=>⟨rfl,_,rfl,?_⟩⟩
 rw [show aO m.rows.length=V.int n from aaV V.int (by lia)]
 refine eU rfl ?_
 refine ⟨_,rfl,p,_,rfl,.inl (S1.seq Bh),λ n' Yc=>⟨n',rfl,by lia,by lia,?_⟩⟩
 have Vr:n'.toNat=rs.length:=by lia
 refine fE (lo:=0) (n:=n'.toNat) (λ i U H'=>aG H H'/\E7 λ v3 v4 v5 v6 v7 v8 v9=>U=[some (.ref a),some (.ref p),some (.ref pb),v3,v4,v5,v6,v7,v8,v9]) ⟨S1,none,none,none,none,none,none,none,rfl⟩ ?_ ?_
 .
  rintro _ i U H2 hi ⟨S2,v3,v4,v5,v6,v7,v8,v9,rfl⟩
  have ou:i<rs.length:=by lia
  obtain ⟨t,pm,pe,mr,sv,xm,w1,w2,xs,ev,ht,hm,dm,he,d1,d2,hs,ds,dst⟩:=row i ou
  obtain ⟨om,er⟩:=ok.at_ ou
  refine ⟨_,rfl,_,rfl,p,_,_,_,rfl,rfl,.inl (S2.seq Bh),(by rw [aaU];exact jx ev),t,_,rfl,S2.tup ht,rfl,_,_,rfl,_,_,rfl,_,_,rfl,_,_,rfl,rfl,?_⟩
  have vi:V.int (0+(i:Int))=aO i:=by rw [aaU];rfl
  refine ⟨_,rfl,a,dx,_,rfl,S2 _ _ ha,rfl,_,rfl,a,fp,m,i,(rm rs i).gq,by rw [vi];rfl,hh.same S2,by rw [fin.rows,Et,er];rfl,λ q Ht hq dn=>?_⟩
  have S3:=ai (o:=.lst Ht) hq
  have k3:(upd H2 q (.lst Ht)) q=some (.lst Ht):=ag
  have dn:=bN.same S3 _ dn
  generalize upd H2 q (.lst Ht)=H3 at S3 k3 dn ⊢
  have T3:=S2.trans S3
  refine ⟨_,rfl,io (n:=2) (d:=.list ((rm rs i).gq.map cU)) (gn (aN.of k3) dn) (gn (T3.seq hm) (bN.same T3 _ dm)) CQ (by decide) ⟨_,rfl,eB ?_⟩⟩
  refine ⟨_,rfl,a,dx,_,rfl,T3 _ _ ha,rfl,_,rfl,a,fp,m,i,_,by rw [vi];rfl,hh.same T3,fin.sv i ou,λ v dv=>?_⟩
  refine ⟨_,rfl,io (n:=2) dv (Dn.same T3 _ dst) (vC _) (by decide) ⟨_,rfl,eB ?_⟩⟩
  refine ⟨_,rfl,a,dx,_,rfl,T3 _ _ ha,rfl,_,rfl,a,fp,m,i,nW rs i,by rw [vi];rfl,hh.same T3,fin.sk i ou,λ v dv=>?_⟩
  have uM:∀ {j:Nat} {Hx:Hp},j<4->aG H Hx->∃ q,mZ xs (j:Int)=some q/\Dn K Hx (cU ((rm rs i).sh.getD j (0,1))) q:=λ {j Hx} hj sx=>by
    obtain ⟨y,ey,dy⟩:=ds.get (i:=j) (d:=cU ((rm rs i).sh.getD j (0,1))) (by rw [Et,aax,aac (by rw [om.s4];exact hj)];rfl)
    exact ⟨y,bQ ey,Dn.same sx _ dy⟩
  obtain ⟨y3,OK,Yf⟩:=uM (j:=3) (by decide) T3
  refine ⟨_,rfl,mr,_,_,_,rfl,rfl,.inl (T3.seq hs),OK,_,rfl,pe,_,_,_,rfl,rfl,.inl (T3.seq he),rfl,_,rfl,pe,_,_,_,rfl,rfl,.inl (T3.seq he),rfl,xY,λ t2 Al=>?_⟩
  have S4:=ai (o:=.tup [y3,w1,w2]) Al
  have k4:(upd H3 t2 (.tup [y3,w1,w2])) t2=some (.tup [y3,w1,w2]):=ag
  generalize upd H3 t2 (.tup [y3,w1,w2])=H4 at S4 k4 ⊢
  have T4:=T3.trans S4
  refine io (n:=2) (Dn.same S4 _ dv) (re (s:=nW rs i) (cE.of k4) (Dn.same S4 _ Yf) (Dn.same T4 _ d1) (Dn.same T4 _ d2)) (Cy _) (by decide) ⟨_,rfl,eB ?_⟩
  refine ⟨_,rfl,p,_,rfl,.inl (T4.seq Bh),λ n2 XI=>⟨n2,rfl,by lia,by lia,λ D hD=>?_⟩⟩
  have e2:n2.toNat=rs.length:=by lia
  have xg:∀ x,(List.range (x+1)).filter (λ j=>decide (j≠i))=(List.range x).filter (λ j=>decide (j≠i))++(if x=i then [] else [x]):=λ x=>by
    rw [aaF,abi]
    congr 1
    by_cases c:x=i
    . simp [c]
    . simp [c]
  have lO:∀ x,((List.range x).filter (λ j=>decide (j≠i))).length<=x:=λ x=>by
    have:=aaX (λ j=>decide (j≠i)) (List.range x)
    rw [RF] at this
    exact this
  refine eL (lo:=0) (n:=n2.toNat) (λ j acc U H'=>A4 (aG H4 H') (H' D=some (.lst acc)) (acc=((List.range j).filter (λ j=>decide (j≠i))).map aO) (∃ v,U=[v,some (.int (0+(i:Int)))])) ⟨ai hD,ag,rfl,none,rfl⟩ ?_ ?_
  .
   rintro j acc U Bc hj ⟨nR,ka,rfl,v,rfl⟩
   by_cases c:j=i
   . refine ⟨_,rfl,_,rfl,rfl,_,rfl,eU (aaV (λ x:Nat=>V.int (0+(x:Int))) c) ?_⟩
     exact ⟨nR,ka,by rw [xg,aam c,aar],_,rfl⟩
   . refine ⟨_,rfl,_,rfl,rfl,_,rfl,qu (λ e=>c (by have e:=V.int.inj e;lia)) ?_⟩
     have:=lO j
     refine ⟨_,rfl,ka,aq (by rw [be];lia),nR.put hD,ag,?_,_,rfl⟩
     rw [xg,aak c,uk,aaU]
     rfl
  .
   rintro acc U Bc ⟨nR,ka,rfl,v,rfl⟩
   rw [e2,show (List.range rs.length).filter (λ j=>decide (j≠i))=G8 rs.length i from rfl,xb ou] at ka
   have Vx:=T4.trans nR
   have lD:(((List.range (rs.length - 1)).map (gH i)).map aO).length=rs.length - 1:=by rw [be,be,RF]
   refine ⟨_,rfl,D,_,rfl,.inl (aN.of ka),λ n3 Xt=>⟨n3,rfl,by lia,by lia,?_⟩⟩
   have e3:n3.toNat=rs.length - 1:=by lia
   refine mY (lo:=0) (n:=n3.toNat) (λ j U H'=>aG Bc H'/\∃ v9,U=[some (.ref a),some (.ref p),some (.ref pb),some (.int (0+(i:Int))),some (.ref pm),some (.ref pe),some (.ref mr),some sv,some (.ref D),v9]) ⟨aG.refl _,v9,rfl⟩ ?_ ?_
   .
    rintro j U uh hj ⟨mG,v9,rfl⟩
    have El:j<4:=by lia
    have hu:gH i j<rs.length:=by unfold gH;split<;>lia
    have GR:i≠gH i j:=by unfold gH;split<;>lia
    have Fe:=Vx.trans mG
    have Hs:m.share i (gH i j)=(rm rs i).sh.getD j (0,1):=by
      unfold ar.share
      rw [aak GR,fin.fl i _ ou hu GR,wU]
    refine ⟨_,rfl,a,dx,_,rfl,Fe _ _ ha,rfl,_,rfl,_,rfl,_,rfl,D,_,_,aO (gH i j),rfl,rfl,.inl (aN.of (mG _ _ ka)),(by rw [aaU];exact bQ (by rw [Et,Et,aa3 (by lia)];rfl)),a,fp,m,i,gH i j,by rw [vi];rfl,hh.same Fe,by lia,by lia,λ v x6 DB dv=>?_⟩
    rw [Hs] at dv
    have To:=Fe.trans DB
    obtain ⟨y,ay,dy⟩:=uM El To
    exact ⟨_,rfl,_,rfl,mr,_,_,_,rfl,rfl,.inl (To.seq hs),(by rw [aaU];exact ay),io (n:=1) dv dy (t9 _) (by decide) ⟨_,rfl,eB ⟨mG.trans DB,_,rfl⟩⟩⟩
   . rintro U uh ⟨mG,v9,rfl⟩
     exact ⟨Vx.trans mG,_,_,_,_,_,_,_,rfl⟩
 . rintro U H2 ⟨S2,v3,v4,v5,v6,v7,v8,v9,rfl⟩
   exact k H2 S2
theorem nA:∀ (ps:List Str) (c:Nat),c∈(Str.join Bl.sp ps).cps.toList->c=32∨∃ p∈ps,c∈p.cps.toList
 | [],c,h=>by
   have h:c∈([]:List Nat):=h
   cases h
 | [p],c,h => .inr ⟨p,aae,h⟩
 | p::q::r,c,h=>by
   rw [Bl.ku] at h
   rcases List.mem_append.mp h with h|h
   . exact .inr ⟨p,aae,h⟩
   . rcases List.mem_cons.mp h with h|h
     . exact .inl h
     . rcases nA (q::r) c h with h|⟨z,hz,h⟩
       . exact .inl h
       . exact .inr ⟨z,aaf _ hz,h⟩
abbrev o7 (w:Str):Prop:=∀ c∈w.cps.toList,c<=122
theorem fq (n:Nat):o7 (Tx.strN n):=λ c hc=>by
 rw [Tx.fG] at hc
 have:=Tx.nU n c hc
 lia
theorem m5 (f:bE):o7 (wr f):=by
 have app:∀ {a b:Str},o7 a->o7 b->o7 (a++b):=λ {a b} h1 h2 c hc=>by
   rw [Tx.app,aaZ] at hc
   rcases hc with h|h
   . exact h1 c h
   . exact h2 c h
 have hm:o7 Tx.mi:=by decide
 have hs:o7 Tx.sl:=by decide
 have ht:∀ t:Int,o7 (Tx.jE t):=λ t=>by
   unfold Tx.jE
   split
   . exact app hm (fq _)
   . exact fq _
 unfold wr Tx.fO
 split
 . exact ht _
 . exact app (app (ht _) hs) (fq _)
theorem yI {L:List Str} {rs:List Rm} {n:Nat} (nm:kM L n) (l:Ln):o7 (aS L rs l):=by
 have hN:∀ k,o7 (bP L k):=λ k c hc=>by
   unfold bP at hc
   rw [aax] at hc
   cases e:L[k]? with
   | none=>rw [e] at hc;cases (show c∈([]:List Nat) from hc)
   | some z=>rw [e] at hc;exact (nm.lo z (aaL e) c hc).2
 have hw:∀ w∈aM L rs l,o7 w:=λ w hw=>by
   cases l with
   | bd a b c =>
     simp only [aM,aaa,GV,aaI] at hw
     rcases hw with rfl|rfl|rfl|rfl
     . decide +kernel
     . exact fq _
     . exact fq _
     . exact fq _
   | rm k =>
     simp only [aM,aaa] at hw
     rcases hw with rfl|rfl|hw
     . decide +kernel
     . exact hN k
     . obtain ⟨f,_,rfl⟩:=List.mem_map.mp hw
       exact m5 f
   | id d =>
     cases d with
     | sk k =>
       simp only [aM,dj,aaa,GV,aaI] at hw
       rcases hw with rfl|rfl|rfl|rfl|rfl
       . decide +kernel
       . exact hN k
       . exact m5 _
       . exact m5 _
       . exact m5 _
     | fl k j =>
       simp only [aM,dj,aaa,GV,aaI] at hw
       rcases hw with rfl|rfl|rfl|rfl
       . decide +kernel
       . exact hN k
       . exact hN j
       . exact m5 _
     | sv k =>
       cases e:(rm rs k).st with
       | none=>simp only [aM,dj,e,GV] at hw
       | some z =>
         simp only [aM,dj,e,aaa,GV,aaI] at hw
         rcases hw with rfl|rfl|rfl|rfl|rfl|rfl
         . decide +kernel
         . exact hN k
         . exact m5 _
         . exact fq _
         . exact fq _
         . exact fq _
 intro c hc
 rcases nA _ c hc with rfl|⟨w,h1,h2⟩
 . decide
 . exact hw w h1 c h2
theorem Ab {w:Str} (h:o7 w):PyData.canLay0 (.str w)=true:=by
 show PySem.PyData.strOk w=true
 unfold PySem.PyData.strOk
 rw [← Array.all_toList,abc]
 intro c hc
 have:=h c hc
 exact aaz (by lia)
theorem dI {L:List Str} (h:∀ w∈L,o7 w):SeqAt.shaped (.list (L.map PyData.str))=true/\PyData.eqv (.list (L.map PyData.str)) (.list (L.map PyData.str))=true:=by
 have all:∀ l:List Str,(∀ w∈l,o7 w)->PyData.canLayAll0 (l.map PyData.str)=true/\PyData.depthAll (l.map PyData.str)<=1/\PyData.eqvAll (l.map PyData.str) (l.map PyData.str)=true:=by
   intro l
   induction l with
   | nil=>intro _;simp [PyData.canLayAll0,PyData.depthAll,PyData.eqvAll]
   | cons w l ih =>
     intro h
     obtain ⟨a,b,c⟩:=ih λ x hx=>h x (aaf _ hx)
     have q:=Ab (h w aae)
     refine ⟨by simp only [aaR,PyData.canLayAll0,q,a,acT],?_,by simp only [aaR,PyData.eqvAll,PyData.eqv,beq_self_eq_true,c,acT]⟩
     simp only [aaR,PyData.depthAll,PyData.depth]
     lia
 obtain ⟨a,b,c⟩:=all L h
 refine ⟨?_,by simp only [PyData.eqv,c]⟩
 unfold SeqAt.shaped
 simp only [PyData.canLay0,PyData.depth,a,Bool.true_and]
 exact aaz (by lia)
theorem jl {H:Hp}:∀ (L:List Str),bN K H (L.map PyData.str) (L.map V.str)
 | []=>cS
 | _::L=>aW rfl (jl L)
theorem GX {H:Hp} {x y:Addr} {L:List Str} {Q:VK} (h:∀ w∈L,o7 w) (hx:aN K H x (L.map V.str)) (hy:aN K H y (L.map V.str)) (q:Q (.bl false) H):rC K (.ref x) (.ref y) H Q :=
 ⟨_,_,gn hx (jl L),gn hy (jl L),(dI h).1,(dI h).1,by rw [(dI h).2];exact q⟩
theorem Zz {H:Hp} {x y:Addr} {L:List Str} {Q:VK} (h:∀ w∈L,o7 w) (hx:aN K H x (L.map V.str)) (hy:aN K H y (L.map V.str)) (q:Q (.bl true) H):BI K (.ref x) (.ref y) H Q :=
 ⟨_,_,gn hx (jl L),gn hy (jl L),(dI h).1,(dI h).1,by rw [(dI h).2];exact q⟩
theorem sI {L:List Str} {rs:List Rm} {n:Nat} (nm:kM L n) (ls:List Ln):∀ w∈ls.map (aS L rs),o7 w:=λ w hw=>by
 obtain ⟨l,_,rfl⟩:=List.mem_map.mp hw
 exact yI nm l
theorem ft (L:List Str) (rs:List Rm) (x y:List Ln):bI L rs x++bI L rs y=bI L rs (x++y):=by
 unfold bI
 rw [uk,uk]
inductive nV  (x:V) (vs:List V) (H:Hp) (Q:VK):Prop
 | mk (a xs:_) (_:x = .ref a) (_:vs=[]) (_:H a=some (.lst xs)) (_:Q .cD (upd H a (.lst [])))
theorem nv {X:Cx}:A1 X "list.clear" nV:=by
 intro pins s U H x vs v us Q I rx rv h
 obtain ⟨l,xs,rfl,rfl,hH,q⟩:=h
 cases rx
 obtain rfl:=Vals.zero rv
 obtain ⟨z,aZ,n,r,e⟩:=(show bX X.prog X.w H s.heap l (.lst xs) from I.cg l _ hH)
 refine abK F.slot_list_clear ⟨_,e,rfl⟩ F.entry_list_clear (F.args_list_clear_1 _) (AutoSeq1.list_clear_list_0 l aZ.toArray n (by rw [aab,← r.length];exact z)) ⟨e,?_⟩
 exact ⟨.cD,_,I.yU (its':=[]) hH e rfl .nil (aaH _),rfl,q⟩
theorem jP (hd:Option (Nat×Nat×Nat)) (rs:List Rm) (ids uV:List dq):aY hd rs ids++uV.map .id=aY hd rs (ids++uV):=by
 unfold aY
 rw [uk,aat,aat]
theorem lK (L:List Str) (rs:List Rm) (ls:List Ln) (t:Nat):(bI L rs ls).drop t=bI L rs (ls.drop t):=by
 unfold bI
 rw [acQ,acQ]
theorem pi (L:List Str) (rs:List Rm) (ls:List Ln) (t:Nat):(bI L rs ls).take t=bI L rs (ls.take t):=by
 unfold bI
 rw [ab6,ab6]
theorem bR (L:List Str) (rs:List Rm) (ls:List Ln):(bI L rs ls).length=ls.length:=by
 unfold bI
 rw [be,be]
theorem vW {rs:List Rm} (ok:gA rs):rs.length<=(allI rs).length/\(allI rs).length<=24:=by
 have n4:=ok.n4
 have l0:∀ i j,(oF rs i j).length<=j:=λ i j=>by
   unfold oF
   rw [be]
   have:=aaX (λ j=>decide (j≠i) && decide (0<(im (rm rs i) i j).1)) (List.range j)
   rw [RF] at this
   exact this
 have lT:∀ i,(uW rs i).length<=i * rs.length:=λ i=>by
   induction i with
   | zero=>exact aaH _
   | succ i ih =>
     rw [il,rT,acW]
     have:=l0 i rs.length
     lia
 have h1:(jJ rs).length=rs.length:=by unfold jJ;rw [be,RF]
 have h2:(pC rs).length<=rs.length * rs.length:=lT rs.length
 have h3:(xJ rs).length<=rs.length:=by
   unfold xJ
   rw [be]
   have:=aaX (λ k=>(rm rs k).st.isSome) (List.range rs.length)
   rw [RF] at this
   exact this
 have h4:rs.length * rs.length<=4 * 4:=abY n4 n4
 unfold allI
 rw [rT,rT]
 lia
theorem E8 (L:List Str) (rs:List Rm):Str.ofString "bounds 4 0 0" = aS L rs (.bd 4 0 0):=by
 show Str.ofString "bounds 4 0 0" = Str.join Bl.sp [Str.ofString "bounds",Tx.strN 4,Tx.strN 0,Tx.strN 0]
 decide +kernel
theorem Gg (L:List Str) (rs:List Rm):[V.str (Str.ofString "bounds 4 0 0")]=bI L rs [Ln.bd 4 0 0]:=by
 rw [E8 L rs]
 rfl
theorem Eo (b:Nat×Nat×Nat) (rs:List Rm) (ids:List dq):(aY (some b) rs ids).drop 1=aY none rs ids:=rfl
theorem BS (b b':Nat×Nat×Nat) (rs:List Rm) (ids:List dq):[Ln.bd b'.1 b'.2.1 b'.2.2]++(aY (some b) rs ids).drop 1=aY (some b') rs ids:=rfl
def Br (K:W.Frag) (t:TA):TE:=Fb (λ xs H Q=>∃ p ys,xs=[V.ref p]/\(aN K H p ys∨cE K H p ys)/\∀ l,H l=none->Q (V.ref l) (upd H l (.lst ys))) t
def yN (K:W.Frag) (t:TA):TE:=Fb (λ xs H Q=>∃ x c t cv b,xs=[x,c]/\jm K H x t/\L2.RelV c cv/\W.kitOne K t cv=some b/\Q (.bl b) H) t
def W1 (K:W.Frag) (C:Addr):TS :=
 aB (qx (Br K (cf (cN 13) fA)) (g6 14)) <|
 aB (qx (iq (vG K C) [] E0 (cf (cN 14) fA)) (g6 15)) <|
 aB (pE (Go (lN (oS (rC K) (cN 14) (cN 13))) (su (tB (yN K (cf (cN 15) (cf (tC (.ty "tuple")) fA)))))) (oq (tC (.bl false))) kx) <|
 aB (pE (lN (oS Uo (Fb (λ xs H Q=>∃ p ys,xs=[V.ref p]/\(aN K H p ys∨cE K H p ys)/\∀ r:Int,r=ys.length->Q (.int r) H) (cf (cN 15) fA)) (tC (.int 2)))) (oq (tC (.bl false))) kx) <|
 aB (pE (lN (oS (rC K) (oS (lV K) (cN 15) (tC (.int 1))) (cN 4))) (oq (tC (.bl false))) kx) <|
 aB (pE (Go (su (tB (yN K (cf (oS (lV K) (cN 15) (tC (.int 0))) (cf (tC (.ref C)) fA))))) (su (tB (yN K (cf (oS (lV K) (cN 15) (tC (.int 1))) (cf (tC (.ty "list")) fA)))))) (oq (tC (.bl false))) kx) <|
 aB (pE (su (tB (iq (rR K C) [] E0 (cf (oS (lV K) (cN 15) (tC (.int 0))) (cf (cN 5) (cf (cN 3) fA)))))) (oq (tC (.bl false))) kx) <|
 aB (qx (iq (wY K C) [] E0 (cf (oS (lV K) (cN 15) (tC (.int 0))) (cf (Br K (cf (cN 4) fA)) fA))) (g6 16)) <|
 aB (pE (Go (su (tB (yN K (cf (cN 16) (cf (tC (.ty "list")) fA))))) (lN (oS (rC K) (cN 16) (cN 10)))) (oq (tC (.bl false))) kx) <|
 aB (qx (iq (vG K C) [] E0 (cf (Br K (cf (cN 16) fA)) fA)) (g6 17)) <|
 aB (xi (Da K "list" nV (cN 16))) <|
 aB (xi (Da K "list" nV (oS (lV K) (cN 15) (tC (.int 1))))) <|
 aB (pE (Go (lN (oS (rC K) (oS (lV K) (cN 17) (tC (.int 1))) (cN 4))) (su (tB (iq (rR K C) [] E0 (cf (oS (lV K) (cN 17) (tC (.int 0))) (cf (cN 5) (cf (cN 3) fA))))))) (oq (tC (.bl false))) kx) <|
 oq (oS (BI K) (iq (wY K C) [] E0 (cf (oS (lV K) (cN 15) (tC (.int 0))) (cf (cN 4) fA))) (cN 10))
theorem Bs {n:String}:W.kitOne K (.type n) (.type n)=some true:=by
 unfold W.kitOne
 simp
set_option maxHeartbeats 8000000 in
theorem w6 (T:Txt K mg Ad) {d:Ends} {H:Hp} {pb mD pr pd Se:Addr} {u0 u1 u2 u6 u7 u8 u9 ZS u12:Option V} {L:List Str} {rs:List Rm} {ids:List dq} {hd:Option (Nat×Nat×Nat)} {b:Nat×Nat×Nat}
   (nm:kM L rs.length) (ok:gA rs) (dr:Dn K H (.list (rs.map zn)) (.ref pr)) (Di:H mD=some (.lst (L.map V.str))) (cb:H pb=some (.tup [aO b.1,aO b.2.1,aO b.2.2]))
   (cd:H pd=some (.lst (bI L rs (aY (some b) rs (allI rs))))) (cl:H Se=some (.lst (bI L rs (aY hd rs ids)))) (Ef:pJ hd) (Ax:pJ (some b)) (OQ:lA hd=lA (some b))
   (Gm:∀ d,d∈ids↔d∈allI rs) (EC:ids.length<=50) (la:(allI rs).length<=24) (k:∀ H',d.rt (.bl true) H') :
   W1 K Ad.aX d [u0,u1,u2,some (.ref pb),some (.ref mD),some (.ref pr),u6,u7,u8,u9,some (.ref pd),ZS,u12,some (.ref Se),none,none,none,none] H:=by
 have Ur:∀ z∈L,o7 z:=λ z hz c hc=>(nm.lo z hz c hc).2
 refine ⟨_,rfl,Se,_,rfl,.inl (aN.of cl),λ p1 Dh=>?_⟩
 have S1:=ai (o:=.lst (bI L rs (aY hd rs ids))) Dh
 have k1:(upd H p1 (.lst (bI L rs (aY hd rs ids)))) p1=some (.lst (bI L rs (aY hd rs ids))):=ag
 generalize upd H p1 (.lst (bI L rs (aY hd rs ids)))=H1 at S1 k1 ⊢
 refine ⟨_,rfl,p1,L,rs,hd,ids,rfl,aN.of k1,nm,ok,Ef,λ d hd=>tV ((Gm d).mp hd),by lia,λ t x pn fp m H2 S2 ht hx fz Dj Zk vh got Hr=>?_⟩
 have fin:xc rs m:=got.fin ok (λ d h=>(Gm d).mpr h) (λ d h=>(Gm d).mp h)
 rw [OQ] at Hr
 have T2:=S1.trans S2
 obtain ⟨dx,_,_,_,_,_,_,_,_,_,Yq,_⟩:=hx.ex
 refine ⟨_,rfl,_,rfl,GX (sI nm _) (aN.of (S2 _ _ k1)) (aN.of (T2 _ _ cl)) ⟨_,rfl,eB ⟨_,rfl,_,_,_,_,_,rfl,.tup ht,rfl,Bs,_,rfl,eB ?_⟩⟩⟩
 refine ⟨_,rfl,t,_,rfl,.inr (cE.of ht),λ r er=>⟨rfl,_,rfl,eU (aaV V.int er) ?_⟩⟩
 refine ⟨_,rfl,t,_,_,_,rfl,rfl,.inr (cE.of ht),rfl,_,rfl,GX Ur (aN.of vh) (aN.of (T2 _ _ Di)) ⟨_,rfl,eB ?_⟩⟩
 refine ⟨_,rfl,t,_,_,_,rfl,rfl,.inr (cE.of ht),rfl,_,_,_,_,_,rfl,.ins Yq T.av T.zi T.Bi T.xw T.zB,rfl,T.zu,_,rfl,eB ⟨_,rfl,t,_,_,_,rfl,rfl,.inr (cE.of ht),rfl,_,_,_,_,_,rfl,.lst vh,rfl,Bs,_,rfl,eB ?_⟩⟩
 refine ⟨_,rfl,t,_,_,_,rfl,rfl,.inr (cE.of ht),rfl,_,rfl,_,rfl,x,fp,m,pr,pb,rs,_,_,_,rfl,hx,fin,Hr,ok,Dn.same T2 _ dr,cE.of (T2 _ _ cb),λ H3 S3=>⟨_,rfl,eB ?_⟩⟩
 have T3:=T2.trans S3
 refine ⟨_,rfl,t,_,_,_,rfl,rfl,.inr (cE.of (S3 _ _ ht)),rfl,_,rfl,mD,_,rfl,.inl (aN.of (T3 _ _ Di)),λ p4 Xs=>?_⟩
 have S4:=ai (o:=.lst (L.map V.str)) Xs
 have k4:(upd H3 p4 (.lst (L.map V.str))) p4=some (.lst (L.map V.str)):=ag
 generalize upd H3 p4 (.lst (L.map V.str))=H4 at S4 k4 ⊢
 have Rv:=S3.trans S4
 refine ⟨x,fp,m,p4,L,rs,b,rfl,hx.same Rv,aN.of k4,nm,ok,fin,Hr,Ax,λ mr H5 S5 OI A8=>?_⟩
 replace A8:H5 mr=some (.lst (bI L rs (aY (some b) rs (allI rs)))):=A8
 have ET:=Rv.trans S5
 have T5:=T2.trans ET
 refine ⟨_,rfl,_,_,_,_,_,rfl,.lst A8,rfl,Bs,_,rfl,eB ⟨_,rfl,_,rfl,GX (sI nm _) (aN.of A8) (aN.of (T5 _ _ cd)) ⟨_,rfl,eB ?_⟩⟩⟩
 refine ⟨_,rfl,mr,_,rfl,.inl (aN.of A8),λ p6 ZU=>?_⟩
 have S6:=ai (o:=.lst (bI L rs (aY (some b) rs (allI rs)))) ZU
 have k6:(upd H5 p6 (.lst (bI L rs (aY (some b) rs (allI rs))))) p6=some (.lst (bI L rs (aY (some b) rs (allI rs)))):=ag
 have CD:=S6 _ _ A8
 generalize upd H5 p6 (.lst (bI L rs (aY (some b) rs (allI rs))))=H6 at S6 k6 CD ⊢
 refine ⟨p6,L,rs,some b,allI rs,rfl,aN.of k6,nm,ok,Ax,λ d hd=>tV hd,by lia,λ t2 x2 pn2 Zb m2 H7 S7 Al Zn VB F9 Y3 L8 J4 K3=>?_⟩
 have Ky:xc rs m2:=J4.fin ok (λ d h=>h) (λ d h=>h)
 have yV:=S7 _ _ CD
 have Oa:=ET.trans (S6.trans S7)
 have T7:=T2.trans Oa
 have Nx:=Oa _ _ vh
 have Io:=S6 _ _ (ET _ _ vh)
 have f2:H2 mr=none:=Rv.free OI
 have f0:H mr=none:=T2.free f2
 have g0:H pn=none:=S1.free Dj
 have npp:pn≠mr:=λ e=>by rw [e,f2] at vh;cases vh
 refine ⟨_,rfl,.inl ⟨rfl,_,aN.of yV⟩,mr,_,rfl,rfl,yV,?_⟩
 have U8:aG H2 (upd H7 mr (.lst [])):=Oa.put f2
 have V8:aG H (upd H7 mr (.lst [])):=T7.put f0
 have B8:∀ c o,H7 c=some o->c≠mr->(upd H7 mr (.lst [])) c=some o:=λ c o e n=>by rw [aE n];exact e
 have UC:b8 K H7 (upd H7 mr (.lst [])):=eJ yV rfl
 generalize upd H7 mr (.lst [])=H8 at U8 V8 B8 UC ⊢
 have BK:=U8 _ _ vh
 refine ⟨_,rfl,t,_,_,_,rfl,rfl,.inr (cE.of (U8 _ _ ht)),rfl,.inl ⟨rfl,_,aN.of BK⟩,pn,_,rfl,rfl,BK,?_⟩
 have V9:aG H (upd H8 pn (.lst [])):=V8.put g0
 have B9:∀ c o,H8 c=some o->c≠pn->(upd H8 pn (.lst [])) c=some o:=λ c o e n=>by rw [aE n];exact e
 have J7:b8 K H8 (upd H8 pn (.lst [])):=eJ BK rfl
 generalize upd H8 pn (.lst [])=H9 at V9 B9 J7 ⊢
 have Zm:=B9 _ _ (U8 _ _ ht) (λ e=>by rw [e,vh] at ht;cases ht)
 have Zx:=(hx.same U8).zD B9 J7 Zk
 have GO:∀ {c:Addr},H6 c=none->c≠mr/\c≠pn:=λ {c} e=>⟨λ q=>(by rw [q,CD] at e;cases e),λ q=>(by rw [q,Io] at e;cases e)⟩
 have Fg:=B9 _ _ (B8 _ _ Al (λ e=>by rw [e,yV] at Al;cases Al)) (λ e=>by rw [e,Nx] at Al;cases Al)
 have Gq:=B9 _ _ (B8 _ _ L8 (GO F9).1) (GO F9).2
 have KR:=(Zn.zD B8 UC (λ q=>(GO (VB _ q)).1 rfl)).zD B9 J7 (λ q=>(GO (VB _ q)).2 rfl)
 refine ⟨_,rfl,t2,_,_,_,rfl,rfl,.inr (cE.of Fg),rfl,_,rfl,GX Ur (aN.of Gq) (aN.of (V9 _ _ Di)) ⟨_,rfl,eB ?_⟩⟩
 refine ⟨_,rfl,t2,_,_,_,rfl,rfl,.inr (cE.of Fg),rfl,_,rfl,_,rfl,x2,Zb,m2,pr,pb,rs,_,_,_,rfl,KR,Ky,K3,ok,Dn.same V9 _ dr,cE.of (V9 _ _ cb),λ uC nB=>⟨_,rfl,eB ?_⟩⟩
 have Uz:=V9.trans nB
 refine ⟨_,rfl,t,_,_,_,rfl,rfl,.inr (cE.of (nB _ _ Zm)),rfl,_,rfl,x,fp,m,mD,L,rs,b,rfl,Zx.same nB,aN.of (Uz _ _ Di),nm,ok,fin,Hr,Ax,λ q qU x8 _ hq=>⟨_,rfl,Zz (sI nm _) (aN.of hq) (aN.of (x8 _ _ (Uz _ _ cd))) (k _)⟩⟩
theorem rQ {i:Nat} {v:V} {U:L2.St} (σ':L2.St) {H:Hp} {Q:L2.St->Hp->Prop} (e:U.set i (some v)=σ') (h:Q σ' H):g6 i v U H Q:=by
 show Q (U.set i (some v)) H
 rw [e]
 exact h
set_option maxHeartbeats 40000000 in
theorem Dg {f:Addr} {fd:FuncData} (F:yS K "law" "law" qb f fd) (T:Txt K mg Ad) (D:KD w.params K Ad.bu):iI P w K mg base sK 9 f fd ["_law_script"] (wH K):=by
 refine F.ok bV (λ vs H Q E h=>?_) (λ bD A outer s H vs Q E hr h=>?_)
 . obtain ⟨a,ns,rfl,_⟩:=h
   rfl
 .
  obtain ⟨a,ns,rfl,hS,hlen,pD,k⟩:=h
  refine ⟨_,(ac (az (i:=1) bV.nd rfl (lc rfl) (ao (cV (K:=K) T) hr.m (aa (pv 0) (aa ah af))))
    (ac (az (i:=2) bV.nd rfl (lc rfl) (am bq ah (am aU (pv 1) ah)))
    (ac (az (i:=3) bV.nd rfl (lc rfl) (cL (aa (am aU (am bp (pv 1) ah) ah) (aa (am aU (am bp (pv 1) ah) ah) (aa (am aU (am bp (pv 1) ah) ah) af)))))
    (ac (az (i:=4) bV.nd rfl (lc rfl) (ao (n6 (K:=K) T) hr.m (aa (ao (cV (K:=K) T) hr.m (aa (pv 0) (aa ah af))) (aa (pv 2) af))))
    (ac (az (i:=5) bV.nd rfl (lc rfl) (ao (oW (K:=K) T) hr.m (aa (pv 0) (aa (pv 2) af))))
    (ac (fL (ao (og (K:=K) T) hr.m (aa (pv 5) (aa (pv 4) (aa (pv 3) af)))) (fQ (K:=K) (n:=4) rfl rfl (aJ (ax (i:=6) bV.nd rfl (lc rfl)) (aJ (ax (i:=7) bV.nd rfl (lc rfl)) (aJ (ax (i:=8) bV.nd rfl (lc rfl)) (aJ (ax (i:=9) bV.nd rfl (lc rfl)) dZ))))))
    (ac (az (i:=10) bV.nd rfl (lc rfl) (am cW (am cW (am cW (pv 6) (pv 7)) (pv 8)) (pv 9)))
    (ac (az (i:=11) bV.nd rfl (lc rfl) (am cW (am cW (pv 7) (pv 8)) (pv 9)))
    (ac (az (i:=12) bV.nd rfl (lc rfl) (am aU (ao (cV (K:=K) T) hr.m (aa (pv 0) (aa ah af))) (aI bF (by rfl) T.dR cB (aa (pv 11) af))))
    (ac (az (i:=13) bV.nd rfl (lc rfl) (am cW (am cW (pv 6) (cG eN (pv 11) (c9 (pv 12)) d9)) (cG eN (pv 11) d9 (c9 (pv 12)))))
    (ac (az (i:=13) bV.nd rfl (lc rfl) (am cW (pv 13) (cG eN (pv 11) d9 (c9 (am aU (am bp (ao (cV (K:=K) T) hr.m (aa (pv 0) (aa ah af))) ah) ah)))))
    (ac (lY (aR (aF eS (am aU (am bp (pv 1) ah) ah) ah (aK _)) (ac (az (i:=13) bV.nd rfl (lc rfl) (cG eN (pv 13) (c9 ah) d9))
    (ac (az (i:=3) bV.nd rfl (lc rfl) (cL (aa ah (aa ah (aa ah af)))))
    (ak (az (i:=10) bV.nd rfl (lc rfl) (am cW (br (aa bw af)) (cG eN (pv 10) (c9 ah) d9)))))) aD))
    (ac (az (i:=14) bV.nd rfl (lc rfl) (bB dS (by rfl) T.ic fW (aa (pv 13) af)))
    (ac (az (i:=15) bV.nd rfl (lc rfl) (ao (jg (K:=K) T D) hr.m (aa (pv 14) af)))
    (ac (aR (PW.pt (hU (aF (gQ hr.units) (pv 14) (pv 13) (aK _)) (fD (cn (bJ (aI dP (by rfl) T.dc cI (aa (pv 15) (aa (jA (v:=V.ty "tuple") rfl T.tD pL rfl) af)))))))) (ak (aH gG)) aD)
    (ac (aR (aF mQ (aI bF (by rfl) T.dR cB (aa (pv 15) af)) ah (aK _)) (ak (aH gG)) aD)
    (ac (aR (aF (gQ hr.units) (aA au (pv 15) ah (λ _ _=>rfl)) (pv 4) (aK _)) (ak (aH gG)) aD)
    (ac (aR (PW.pt (hU (cn (bJ (aI dP (by rfl) T.dc cI (aa (aA au (pv 15) ah (λ _ _=>rfl)) (aa (cY (v:=V.ref _) rfl T.sF rfl) af))))) (fD (cn (bJ (aI dP (by rfl) T.dc cI (aa (aA au (pv 15) ah (λ _ _=>rfl)) (aa (jA (v:=V.ty "list") rfl T.ic fW rfl) af)))))))) (ak (aH gG)) aD)
    (ac (aR (cn (bJ (ao (kj (K:=K) T) hr.m (aa (aA au (pv 15) ah (λ _ _=>rfl)) (aa (pv 5) (aa (pv 3) af)))))) (ak (aH gG)) aD)
    (ac (az (i:=16) bV.nd rfl (lc rfl) (ao (jD (K:=K) T) hr.m (aa (aA au (pv 15) ah (λ _ _=>rfl)) (aa (bB dS (by rfl) T.ic fW (aa (pv 4) af)) af))))
    (ac (aR (PW.pt (hU (cn (bJ (aI dP (by rfl) T.dc cI (aa (pv 16) (aa (jA (v:=V.ty "list") rfl T.ic fW rfl) af))))) (fD (aF (gQ hr.units) (pv 16) (pv 10) (aK _))))) (ak (aH gG)) aD)
    (ac (az (i:=17) bV.nd rfl (lc rfl) (ao (jg (K:=K) T D) hr.m (aa (bB dS (by rfl) T.ic fW (aa (pv 16) af)) af)))
    (ac (aQ (rH aah acM acK nv (pv 16)))
    (ac (aQ (rH aah acM acK nv (aA au (pv 15) ah (λ _ _=>rfl))))
    (ac (aR (PW.pt (hU (aF (gQ hr.units) (aA au (pv 17) ah (λ _ _=>rfl)) (pv 4) (aK _)) (fD (cn (bJ (ao (kj (K:=K) T) hr.m (aa (aA au (pv 17) ah (λ _ _=>rfl)) (aa (pv 5) (aa (pv 3) af))))))))) (ak (aH gG)) aD)
    (ak (aH (iE (C1 hr.units) (ao (jD (K:=K) T) hr.m (aa (aA au (pv 15) ah (λ _ _=>rfl)) (aa (pv 4) af))) (pv 10) (aK _))))))))))))))))))))))))))))),?_⟩
  try dsimp only [gi,bx]
  first|(refine uo ?_;intro _ _ _ _ _ _ _ _ _ _ _ _ _ _ _ _ _ _ _ _ _ _ _ _ _ _ _)|skip
  refine ⟨_,rfl,a,ns,0,rfl,hS,by decide,λ c0 _=>?_⟩
  refine ⟨_,rfl,_,_,rfl,rfl,by decide,λ m0 YV XZ _=>⟨_,_,rfl,rfl,λ my YZ=>?_⟩⟩
  have Hq:1<=my/\my<=4:=by lia
  clear YZ YV XZ
  refine ⟨_,rfl,_,_,rfl,rfl,cdiv (by decide) (by decide),λ q1 _=>⟨_,_,rfl,rfl,by decide,λ b1 b10 b11 _=>?_⟩⟩
  refine ⟨_,rfl,_,_,rfl,rfl,cdiv (by decide) (by decide),λ q2 _=>⟨_,_,rfl,rfl,by decide,λ b2 WN b21 _=>?_⟩⟩
  refine ⟨_,rfl,_,_,rfl,rfl,cdiv (by decide) (by decide),λ q3 _=>⟨_,_,rfl,rfl,by decide,λ b3 YJ b31 _=>⟨xY,λ pb T0=>?_⟩⟩⟩
  obtain ⟨b1,rfl⟩:=aaG b10
  obtain ⟨b2,rfl⟩:=aaG WN
  obtain ⟨b3,rfl⟩:=aaG YJ
  have ho:pJ (some (b1,b2,b3)):=λ x e=>by
    cases e
    exact ⟨show b1<=4 by lia,show b2<=30 by lia,show b3<=30 by lia⟩
  have S1:=ai (o:=.tup [.int (b1:Int),.int (b2:Int),.int (b3:Int)]) T0
  have kb:(upd H pb (.tup [.int (b1:Int),.int (b2:Int),.int (b3:Int)])) pb=some (.tup [aO b1,aO b2,aO b3]):=ag
  generalize upd H pb (.tup [.int (b1:Int),.int (b2:Int),.int (b3:Int)])=H1 at S1 kb ⊢
  refine ⟨_,rfl,a,ns,1,rfl,S1.seq hS,by decide,λ c1 _=>⟨_,rfl,c1,my,rfl,Hq.1,Hq.2,λ mD L H2 S2 Di nm=>?_⟩⟩
  have T2:=S1.trans S2
  first|refine rQ [some (.ref a),some (.int c0),some (.int my),some (.ref pb),some (.ref mD),none,none,none,none,none,none,none,none,none,none,none,none,none] rfl ?_|refine m8 [some (.ref a),some (.int c0),some (.int my),some (.ref pb),some (.ref mD),none,none,none,none,none,none,none,none,none,none,none,none,none] rfl ?_
  refine ⟨_,rfl,_,rfl,a,ns,my,rfl,T2.seq hS,pD,Hq.1,Hq.2,λ pr rs H3 S3 dr ok lr=>?_⟩
  rw [← lr] at nm
  have T3:=T2.trans S3
  have EG:=S3 _ _ Di
  have Vp:=S3 _ _ (S2 _ _ kb)
  refine ⟨_,rfl,_,rfl,_,rfl,pr,mD,pb,L,rs,(b1,b2,b3),rfl,dr,aN.of EG,cE.of Vp,nm,ok,ho,λ t pf ps pl pv H4 S4 ht kf ks kl kv=>⟨t,_,rfl,cE.of ht,rfl,_,_,rfl,_,_,rfl,_,_,rfl,_,_,rfl,rfl,?_⟩⟩
  obtain ⟨la1,Xg⟩:=vW ok
  have n4:=ok.n4
  have n1:=ok.n1
  have ZA:=@gU rs (some (b1,b2,b3)) []
  have la3:(jJ rs).length+(pC rs).length+(xJ rs).length=(allI rs).length:=by unfold allI;rw [rT,rT]
  have hN1:hN (some (b1,b2,b3))=1:=rfl
  have l0:([]:List dq).length=0:=rfl
  have big:∀ {x y:Nat},x<=100->y<=100->x+y<=sizeLine:=λ h1 h2=>aag (aq (by lia))
  first|refine rQ [some (.ref a),some (.int c0),some (.int my),some (.ref pb),some (.ref mD),some (.ref pr),some (.ref pf),some (.ref ps),some (.ref pl),some (.ref pv),none,none,none,none,none,none,none,none] rfl ?_|refine m8 [some (.ref a),some (.int c0),some (.int my),some (.ref pb),some (.ref mD),some (.ref pr),some (.ref pf),some (.ref ps),some (.ref pl),some (.ref pv),none,none,none,none,none,none,none,none] rfl ?_
  refine ⟨_,rfl,_,rfl,pf,ps,_,_,rfl,rfl,kf,ks,big (by rw [bR];lia) (by rw [bR,be];lia),λ d1 Y5=>?_⟩
  rw [ft,jP,abm]
  have S5:=ai (o:=.lst (bI L rs (aY (some (b1,b2,b3)) rs (jJ rs)))) Y5
  have k5:(upd H4 d1 (.lst (bI L rs (aY (some (b1,b2,b3)) rs (jJ rs))))) d1=_:=ag
  generalize upd H4 d1 (.lst (bI L rs (aY (some (b1,b2,b3)) rs (jJ rs))))=H5 at S5 k5 ⊢
  have ln2:=@gU rs (some (b1,b2,b3)) (jJ rs)
  refine ⟨_,rfl,d1,pl,_,_,rfl,rfl,k5,S5 _ _ kl,big (by rw [bR];lia) (by rw [bR,be];lia),λ d2 hd2=>?_⟩
  rw [ft,jP]
  have S6:=ai (o:=.lst (bI L rs (aY (some (b1,b2,b3)) rs (jJ rs++pC rs)))) hd2
  have k6:(upd H5 d2 (.lst (bI L rs (aY (some (b1,b2,b3)) rs (jJ rs++pC rs))))) d2=_:=ag
  generalize upd H5 d2 (.lst (bI L rs (aY (some (b1,b2,b3)) rs (jJ rs++pC rs))))=H6 at S6 k6 ⊢
  have Uq:=@gU rs (some (b1,b2,b3)) (jJ rs++pC rs)
  rw [rT] at Uq
  refine ⟨_,rfl,d2,pv,_,_,rfl,rfl,k6,S6 _ _ (S5 _ _ kv),big (by rw [bR];lia) (by rw [bR,be];lia),λ pd hpd=>?_⟩
  rw [ft,jP,show jJ rs++pC rs++xJ rs=allI rs from rfl]
  have S7:=ai (o:=.lst (bI L rs (aY (some (b1,b2,b3)) rs (allI rs)))) hpd
  have k7:(upd H6 pd (.lst (bI L rs (aY (some (b1,b2,b3)) rs (allI rs))))) pd=some (.lst (bI L rs (aY (some (b1,b2,b3)) rs (allI rs)))):=ag
  generalize upd H6 pd (.lst (bI L rs (aY (some (b1,b2,b3)) rs (allI rs))))=H7 at S7 k7 ⊢
  have U7:=S5.trans (S6.trans S7)
  first|refine rQ [some (.ref a),some (.int c0),some (.int my),some (.ref pb),some (.ref mD),some (.ref pr),some (.ref pf),some (.ref ps),some (.ref pl),some (.ref pv),some (.ref pd),none,none,none,none,none,none,none] rfl ?_|refine m8 [some (.ref a),some (.int c0),some (.int my),some (.ref pb),some (.ref mD),some (.ref pr),some (.ref pf),some (.ref ps),some (.ref pl),some (.ref pv),some (.ref pd),none,none,none,none,none,none,none] rfl ?_
  refine ⟨_,rfl,_,rfl,ps,pl,_,_,rfl,rfl,U7 _ _ ks,U7 _ _ kl,big (by rw [bR,be];lia) (by rw [bR,be];lia),λ r1 Bn=>?_⟩
  rw [ft,← uk]
  have S8:=ai (o:=.lst (bI L rs ((jJ rs++pC rs).map Ln.id))) Bn
  have k8:(upd H7 r1 (.lst (bI L rs ((jJ rs++pC rs).map Ln.id)))) r1=_:=ag
  generalize upd H7 r1 (.lst (bI L rs ((jJ rs++pC rs).map Ln.id)))=H8 at S8 k8 ⊢
  refine ⟨_,rfl,r1,pv,_,_,rfl,rfl,k8,S8 _ _ (U7 _ _ kv),big (by rw [bR,be,rT];lia) (by rw [bR,be];lia),λ pt gI=>?_⟩
  rw [ft,← uk,show jJ rs++pC rs++xJ rs=allI rs from rfl]
  have S9:=ai (o:=.lst (bI L rs ((allI rs).map Ln.id))) gI
  have k9:(upd H8 pt (.lst (bI L rs ((allI rs).map Ln.id)))) pt=some (.lst (bI L rs ((allI rs).map Ln.id))):=ag
  generalize upd H8 pt (.lst (bI L rs ((allI rs).map Ln.id)))=H9 at S9 k9 ⊢
  have U9:=U7.trans (S8.trans S9)
  have T9:=T3.trans (S4.trans U9)
  first|refine rQ [some (.ref a),some (.int c0),some (.int my),some (.ref pb),some (.ref mD),some (.ref pr),some (.ref pf),some (.ref ps),some (.ref pl),some (.ref pv),some (.ref pd),some (.ref pt),none,none,none,none,none,none] rfl ?_|refine m8 [some (.ref a),some (.int c0),some (.int my),some (.ref pb),some (.ref mD),some (.ref pr),some (.ref pf),some (.ref ps),some (.ref pl),some (.ref pv),some (.ref pd),some (.ref pt),none,none,none,none,none,none] rfl ?_
  have lt9:(bI L rs ((allI rs).map Ln.id)).length=(allI rs).length:=by rw [bR,be]
  refine ⟨_,rfl,a,ns,6,rfl,T9.seq hS,by decide,λ c6 _=>⟨_,rfl,pt,_,rfl,.inl (aN.of k9),λ lr6 el6=>⟨_,_,rfl,rfl,by lia,λ tn t0 t1 _=>?_⟩⟩⟩
  obtain ⟨tn,rfl⟩:=aaG t0
  first|refine rQ [some (.ref a),some (.int c0),some (.int my),some (.ref pb),some (.ref mD),some (.ref pr),some (.ref pf),some (.ref ps),some (.ref pl),some (.ref pv),some (.ref pd),some (.ref pt),some (aO tn),none,none,none,none,none] rfl ?_|refine m8 [some (.ref a),some (.int c0),some (.int my),some (.ref pb),some (.ref mD),some (.ref pr),some (.ref pf),some (.ref ps),some (.ref pl),some (.ref pv),some (.ref pd),some (.ref pt),some (aO tn),none,none,none,none,none] rfl ?_
  refine ⟨_,rfl,_,rfl,_,rfl,(tn:Int),rfl,pt,_,rfl,aN.of k9,λ q1 kg=>?_⟩
  rw [gz,lK,← acQ]
  have nB:=ai (o:=.lst (bI L rs (((allI rs).drop tn).map Ln.id))) kg
  have Dw:(upd H9 q1 (.lst (bI L rs (((allI rs).drop tn).map Ln.id)))) q1=_:=ag
  generalize upd H9 q1 (.lst (bI L rs (((allI rs).drop tn).map Ln.id)))=uC at nB Dw ⊢
  refine ⟨pf,q1,_,_,rfl,rfl,nB _ _ (U9 _ _ kf),Dw,big (by rw [bR];lia) (by rw [bR,be,abb];lia),λ q2 ki=>?_⟩
  rw [ft,jP,abm]
  have x8:=ai (o:=.lst (bI L rs (aY (some (b1,b2,b3)) rs ((allI rs).drop tn)))) ki
  have N8:(upd uC q2 (.lst (bI L rs (aY (some (b1,b2,b3)) rs ((allI rs).drop tn))))) q2=_:=ag
  generalize upd uC q2 (.lst (bI L rs (aY (some (b1,b2,b3)) rs ((allI rs).drop tn))))=qU at x8 N8 ⊢
  have VI:=x8 _ _ (nB _ _ k9)
  refine ⟨_,rfl,_,rfl,(tn:Int),rfl,pt,_,rfl,aN.of VI,λ q3 ux=>?_⟩
  rw [qq,pi,← ab6]
  have vo:=ai (o:=.lst (bI L rs (((allI rs).take tn).map Ln.id))) ux
  have Du:(upd qU q3 (.lst (bI L rs (((allI rs).take tn).map Ln.id)))) q3=_:=ag
  generalize upd qU q3 (.lst (bI L rs (((allI rs).take tn).map Ln.id)))=vn at vo Du ⊢
  have V2:=@gU rs (some (b1,b2,b3)) ((allI rs).drop tn)
  rw [abb] at V2
  refine ⟨q2,q3,_,_,rfl,rfl,vo _ _ N8,Du,big (by rw [bR];lia) (by rw [bR,be,aal];lia),λ q4 D5=>?_⟩
  rw [ft,jP]
  have AE:=ai (o:=.lst (bI L rs (aY (some (b1,b2,b3)) rs ((allI rs).drop tn++(allI rs).take tn)))) D5
  have EA:(upd vn q4 (.lst (bI L rs (aY (some (b1,b2,b3)) rs ((allI rs).drop tn++(allI rs).take tn))))) q4=_:=ag
  generalize upd vn q4 (.lst (bI L rs (aY (some (b1,b2,b3)) rs ((allI rs).drop tn++(allI rs).take tn))))=DW at AE EA ⊢
  have zH:=nB.trans (x8.trans (vo.trans AE))
  first|refine rQ [some (.ref a),some (.int c0),some (.int my),some (.ref pb),some (.ref mD),some (.ref pr),some (.ref pf),some (.ref ps),some (.ref pl),some (.ref pv),some (.ref pd),some (.ref pt),some (aO tn),some (.ref q4),none,none,none,none] rfl ?_|refine m8 [some (.ref a),some (.int c0),some (.int my),some (.ref pb),some (.ref mD),some (.ref pr),some (.ref pf),some (.ref ps),some (.ref pl),some (.ref pv),some (.ref pd),some (.ref pt),some (aO tn),some (.ref q4),none,none,none,none] rfl ?_
  refine ⟨_,rfl,_,rfl,_,rfl,a,ns,6,rfl,(T9.trans zH).seq hS,by decide,λ c6' _=>⟨_,_,rfl,rfl,cdiv (by decide) (by decide),λ x1 _=>⟨_,_,rfl,rfl,by decide,λ xn XF xn1 _=>?_⟩⟩⟩
  obtain ⟨xn,rfl⟩:=aaG XF
  refine ⟨(xn:Int),rfl,pt,_,rfl,aN.of (zH _ _ k9),λ q5 Ya=>?_⟩
  rw [qq,pi,← ab6]
  have nR:=ai (o:=.lst (bI L rs (((allI rs).take xn).map Ln.id))) Ya
  have Mz:(upd DW q5 (.lst (bI L rs (((allI rs).take xn).map Ln.id)))) q5=_:=ag
  generalize upd DW q5 (.lst (bI L rs (((allI rs).take xn).map Ln.id)))=Bc at nR Mz ⊢
  have UL:=@gU rs (some (b1,b2,b3)) ((allI rs).drop tn++(allI rs).take tn)
  rw [rT,abb,aal] at UL
  refine ⟨q4,q5,_,_,rfl,rfl,nR _ _ EA,Mz,big (by rw [bR];lia) (by rw [bR,be,aal];lia),λ q6 ZP=>?_⟩
  rw [ft,jP]
  generalize Fx:(allI rs).drop tn++(allI rs).take tn++(allI rs).take xn=ids
  have mG:=ai (o:=.lst (bI L rs (aY (some (b1,b2,b3)) rs ids))) ZP
  have GZ:(upd Bc q6 (.lst (bI L rs (aY (some (b1,b2,b3)) rs ids)))) q6=some (.lst (bI L rs (aY (some (b1,b2,b3)) rs ids))):=ag
  generalize upd Bc q6 (.lst (bI L rs (aY (some (b1,b2,b3)) rs ids)))=uh at mG GZ ⊢
  have Gm:∀ d,d∈ids↔d∈allI rs:=λ d=>by
    rw [← Fx,aaZ,aaZ]
    constructor
    . rintro ((h|h)|h)
      . exact List.mem_of_mem_drop h
      . exact abX h
      . exact abX h
    . intro h
      rw [← List.take_append_drop tn (allI rs),aaZ] at h
      rcases h with h|h
      . exact .inl (.inr h)
      . exact .inl (.inl h)
  have EC:ids.length<=50:=by
    rw [← Fx,rT,rT,abb,aal,aal]
    lia
  have C2:=zH.trans (nR.trans mG)
  have xO:=S4.trans (U9.trans C2)
  have MG:=C2 _ _ ((S8.trans S9) _ _ k7)
  have Fl:=xO _ _ Vp
  have GB:=xO _ _ EG
  have SU:=Dn.same xO _ dr
  have Fe:=T3.trans xO
  clear k8 k9 VI Dw N8 Du EA Mz nR AE vo x8 nB S9 S8 S7 S6 S5 S4 kf ks kl kv U7 U9 k5 k6 zH xO C2 ZA ln2 Uq V2 UL
  first|refine rQ [some (.ref a),some (.int c0),some (.int my),some (.ref pb),some (.ref mD),some (.ref pr),some (.ref pf),some (.ref ps),some (.ref pl),some (.ref pv),some (.ref pd),some (.ref pt),some (aO tn),some (.ref q6),none,none,none,none] rfl ?_|refine m8 [some (.ref a),some (.int c0),some (.int my),some (.ref pb),some (.ref mD),some (.ref pr),some (.ref pf),some (.ref ps),some (.ref pl),some (.ref pv),some (.ref pd),some (.ref pt),some (aO tn),some (.ref q6),none,none,none,none] rfl ?_
  refine ⟨λ σ' H'=>aG uh H'/\(E5 λ hd b Ql SK JU=>A5 (A3 (pJ hd) (pJ (some b)) (lA hd=lA (some b))) (H' Ql=some (.tup [aO b.1,aO b.2.1,aO b.2.2])) (H' SK=some (.lst (bI L rs (aY (some b) rs (allI rs))))) (H' JU=some (.lst (bI L rs (aY hd rs ids)))) (σ'=[some (.ref a),some (.int c0),some (.int my),some (.ref Ql),some (.ref mD),some (.ref pr),some (.ref pf),some (.ref ps),some (.ref pl),some (.ref pv),some (.ref SK),some (.ref pt),some (aO tn),some (.ref JU),none,none,none,none])),?_,?_⟩
  .
   refine ⟨_,rfl,_,_,rfl,rfl,cdiv (by decide) (by decide),λ y1 _=>⟨_,_,rfl,rfl,by decide,λ y2 _ _ _=>⟨rfl,_,rfl,fF (λ _=>?_) λ _=>?_⟩⟩⟩
   .
    refine ⟨_,rfl,1,rfl,q6,_,rfl,aN.of GZ,λ r1 Bn=>?_⟩
    rw [show hR (bI L rs (aY (some (b1,b2,b3)) rs ids)) (some 1) none=bI L rs (aY none rs ids) by rw [show (1:Int)=((1:Nat):Int) from rfl,gz,lK,Eo]]
    have Z1:=ai (o:=.lst (bI L rs (aY none rs ids))) Bn
    have c1:(upd uh r1 (.lst (bI L rs (aY none rs ids)))) r1=some (.lst (bI L rs (aY none rs ids))):=ag
    generalize upd uh r1 (.lst (bI L rs (aY none rs ids)))=x6 at Z1 c1 ⊢
    refine ⟨xY,λ r2 Lq=>?_⟩
    have Z2:=ai (o:=.tup [.int 4,.int 0,.int 0]) Lq
    have c2:(upd x6 r2 (.tup [.int 4,.int 0,.int 0])) r2=some (.tup [aO 4,aO 0,aO 0]):=ag
    generalize upd x6 r2 (.tup [.int 4,.int 0,.int 0])=AW at Z2 c2 ⊢
    refine ⟨vq,λ r3 X0=>?_⟩
    have Z3:=ai (o:=.lst [.str (Str.ofString "bounds 4 0 0")]) X0
    have c3:(upd AW r3 (.lst [.str (Str.ofString "bounds 4 0 0")])) r3=some (.lst (bI L rs [Ln.bd 4 0 0])):=by
      rw [ag,Gg L rs]
    generalize upd AW r3 (.lst [.str (Str.ofString "bounds 4 0 0")])=GW at Z3 c3 ⊢
    have Vl:=Z1.trans (Z2.trans Z3)
    refine ⟨_,rfl,1,rfl,pd,_,rfl,aN.of (Vl _ _ MG),λ r4 Zv=>?_⟩
    rw [show hR (bI L rs (aY (some (b1,b2,b3)) rs (allI rs))) (some 1) none=bI L rs ((aY (some (b1,b2,b3)) rs (allI rs)).drop 1) by rw [show (1:Int)=((1:Nat):Int) from rfl,gz,lK]]
    have Z4:=ai (o:=.lst (bI L rs ((aY (some (b1,b2,b3)) rs (allI rs)).drop 1))) Zv
    have c4:(upd GW r4 (.lst (bI L rs ((aY (some (b1,b2,b3)) rs (allI rs)).drop 1)))) r4=_:=ag
    generalize upd GW r4 (.lst (bI L rs ((aY (some (b1,b2,b3)) rs (allI rs)).drop 1)))=H19 at Z4 c4 ⊢
    have ln6:=@gU rs (some (b1,b2,b3)) (allI rs)
    refine ⟨r3,r4,_,_,rfl,rfl,Z4 _ _ c3,c4,big (by rw [bR];show 1<=100;decide) (by rw [bR,abb];lia),λ r5 WU=>?_⟩
    rw [ft,BS (b1,b2,b3) (4,0,0)]
    have Z5:=ai (o:=.lst (bI L rs (aY (some (4,0,0)) rs (allI rs)))) WU
    exact ⟨Vl.trans (Z4.trans Z5),none,(4,0,0),r2,r5,r1,⟨nofun,λ x e=>by cases e;exact ⟨by decide,by decide,by decide⟩,rfl⟩,Z5 _ _ (Z4 _ _ (Z3 _ _ c2)),ag,Z5 _ _ (Z4 _ _ (Z3 _ _ (Z2 _ _ c1))),rfl⟩
   . exact ⟨aG.refl _,some (b1,b2,b3),(b1,b2,b3),pb,pd,q6,⟨ho,ho,rfl⟩,Fl,MG,GZ,rfl⟩
  .
   rintro σ' x6 ⟨DB,hd,b,Ql,SK,JU,⟨Ef,Ax,OQ⟩,cb,cd,cl,rfl⟩
   have To:=Fe.trans DB
   have EF:=DB _ _ GB
   have Na:=Dn.same DB _ SU
   clear Fl MG GZ
   exact w6 T nm ok Na EF cb cd cl Ef Ax OQ Gm EC Xg k
end
theorem walk {l:W.OpenLaw} {q:Program} {loose:List Str} {XP:(Str->Option Value)->Heap->Prop} {YP:World->Heap->Prop} {d:DefRec} {K:Params->W.Frag} (hn:l.most=some 63) (FX:d.params.defaults=[]) (Gk:d.name = "law")
   (hY:∀ (w:World) (h:Heap),YP w h->(K w.params).In h)
   (F:∀ (w:World) (mg:Str->Option Value) (h:Heap),(K w.params).In h->h.Ns mainGlobals mg->∃ A,Txt (K w.params) mg A/\L2.KD w.params (K w.params) A.bu) :
   W.WalkO q loose XP YP l.row.toRowW d [] (λ f vs=>PySem.call f vs) :=
 L2.xE (k:=9) (x:="_law_script") hn FX ⟨rfl,by decide,by decide⟩ hY
   (λ w mg fa h KX G Ds=>by
     obtain ⟨_,T,D⟩:=F w mg h KX G
     obtain ⟨f,fd,hm,Fd⟩:=id T.FP
     rw [Gk] at Ds
     have e:=Ds.symm.trans hm
     cases e
     exact ⟨fd,Fd.BL (λ _ _ _ _ _ _ _=>rfl),λ base _ _=>Dg Fd T D⟩)
end K79
namespace PySem.W.Fast
def tw6897859317991059239:=0
def tw4060608344051928977:=0
def tw4899521195131081733:=0
def tw1982798106308455388:=0
def tw6866857575091568364:=0
def tw15821451831152439481:=0
def tw7958918295544368358:=0
def tw14390944415077250047:=0
def tw9788918048262769253:=0
def tw15493530863980275307:=0
def tw13669134934696506275:=0
def tw15701571445978233220:=0
def tw14873425875030147866:=0
def tw3230240049898863901:=0
def tw7840767181902050515:=0
def tw3788848397347842465:=0
def tw18405627834281108670:=0
def tw15080730061635021067:=0
def tw13435724356221335357:=0
def tw9258500761325328204:=0
def tw1261768754155871818:=0
def tw17804638934642627149:=0
def tw7088391961864300091:=0
def tw5944793845091052408:=0
def tw15257958584668574963:=0
def tw11537496898411813040:=0
def tw6742595174765084607:=0
def tw12172800171914870582:=0
def tw1175901102975098439:=0
def tw74186417046974272:=0
def tw16908927230602596346:=0
def tw10709234939562608683:=0
def tw2782562757788608001:=0
def tw14531539858733374103:=0
def tw3033385062030598632:=0
def tw10123165691217651610:=0
def tw3000212780083937545:=0
def tw8663369280177667787:=0
def tw4489439712201621179:=0
def tw1902704812119508145:=0
def tw7517342718541614085:=0
def tw10444745068659253412:=0
def tw16430003487874455737:=0
def tw13087632522725542782:=0
def tw8412566354486164703:=0
def tw12317935838035492896:=0
def tw6283319271833151020:=0
def tw9514585845944309576:=0
def tw1326293123078458603:=0
def tw1713299636648004793:=0
def tw9499468488782307851:=0
def tw13504667683653554109:=0
def tw9655724891360237317:=0
def tw12824061268069356297:=0
def tw896885482835610418:=0
def tw8096020707324207208:=0
def tw12553611525648654312:=0
def tw7226240168619310263:=0
def tw2109880660681648405:=0
def tw5944664217032486574:=0
def tw7225346322629558158:=0
def tw2592275669482653483:=0
def tw1919944251404172693:=0
def tw12828843210899356150:=0
def tw5664378878399342438:=0
def tw7391941788890604674:=0
def tw2189850675001268257:=0
def tw6131554616366783810:=0
def tw3032641729233890386:=0
def tw5597231635891748018:=0
def tw1733899465794277321:=0
def tw6873824247862759281:=0
def tw4778359186392011207:=0
def tw17880638648312215227:=0
def tw1190302876981131302:=0
def tw7532283024262633512:=0
end PySem.W.Fast
open PySem PySem.W PyProof.Rows
set_option maxRecDepth 100000 in
set_option maxHeartbeats 0 in
theorem PySem.Challenge.cw_stoke_k79_holds_written_holds : PySem.Challenge.rw_stoke_k79_holds_written.Holds := by
 w_on; o_law; k_head; (case hw => w_witness2)
 k_fill
 refine K79.walk (l:=PySem.Challenge.rw_stoke_k79_holds_written) rfl rfl rfl (fun w h Y => PySem.W.kIn_of Y) ?F
 case F =>
   intro w mg h KX G
   refine' ⟨_,K79.txt_mk KX G ?_ ?_ ?_ ?_ ?_ ?_ ?_ ?_ ?_ ?_ ?_ ?_ ?_ ?_ ?_ ?_ ?_ ?_ ?_ ?_ ?_ ?_ ?_ ?_ ?_ ?_ ?_ ?_ ?_ ?_ ?_ ?_ ?_ ?_ ?_ ?_ ?_ ?_ ?_ ?_ ?_ ?_ ?_ ?_ ?_ ?_ ?_ ?_ ?_ ?_ ?_ ?_ ?_ ?_ ?_ ?_ ?_ ?_ ?_ ?_ ?_ ?_ ?_ ?_ ?_ ?_ ?_ ?_ ?_ ?_ ?_ ?_ ?_ ?_ ?_ ?_ ?_ ?_ ?_ ?_ ?_ ?_ ?_ ?_ ?_ ?_ ?_ ?_ ?_ ?_ ?_ ?_ ?_ ?_ ?_ ?_ ?_ ?_ ?_ ?_ ?_ ?_ ?_ ?_ ?_ ?_ ?_ ?_ ?_ ?_ ?_ ?_ ?_ ?_ ?_ ?_ ?_ ?_ ?_ ?_ ?_ ?_ ?_ ?_ ?_ ?_ ?_ ?_ ?_ ?_ ?_ ?_ ?_ ?_ ?_ ?_ ?_ ?_ ?_ ?_ ?_ ?_ ?_ ?_ ?_ ?_ ?_ ?_ ?_ ?_ ?_ ?_ ?_ ?_ ?_ ?_ ?_ ?_ ?_ ?_ ?_ ?_ ?_ ?_ ?_ ?_ ?_ ?_ ?_ ?_ ?_ ?_ ?_ ?_ ?_ ?_ ?_ ?_ ?_ ?_ ?_ ?_ ?_ ?_ ?_ ?_ ?_ ?_ ?_ ?_ ?_ ?_ ?_ ?_ ?_ ?_ ?_ ?_ ?_ ?_ ?_ ?_ ?_ ?_ ?_ ?_ ?_ ?_ ?_ ?_ ?_ ?_ ?_ ?_ ?_ ?_ ?_ ?_ ?_ ?_ ?_ ?_ ?_ ?_ ?_ ?_ ?_ ?_ ?_ ?_ ?_ ?_ ?_ ?_ ?_ ?_ ?_ ?_ ?_ ?_ ?_ ?_ ?_ ?_ ?_ ?_ ?_ ?_ ?_ ?_ ?_,?kd⟩
   all_goals try ((try delta K79.kq_); (try delta K79.kc_); (try delta K79.kf_); (try delta K79.kn_); (try delta K79.kg_); first | k_is | k_exc | kernel_rfl | kit_is)
   (case kd => exact ⟨_,_,by k_is,by k_keys,by decide⟩)
