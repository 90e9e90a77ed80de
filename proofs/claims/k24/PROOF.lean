import PyProof.Rows.All
import Wide.All
import OpenK.AllK
import Wide.FinOn
import Lean
import PyProof.EqAt
import PyProof.EqKinds
import PyProof.TupleCall
import PySem.Challenge.RW_stoke_k24_milder_weather
set_option Elab.async false
set_option linter.all false
set_option maxRecDepth 100000
def xq:=@List.length_map
def Ia:=@List.getD_eq_getElem?_getD
def Jl:=@List.getElem?_map
def My:=@List.map_append
def T1:=@List.not_mem_nil
def aaD:=@List.length_append
def aaT:=@Nat.le_refl
def aaY:=@List.getElem_mem
def aa4:=@PySem.Heap.get?_push_of_some
def aba:=@Option.some.inj
def abn:=@PySem.wpAny_bind
def abt:=@List.mem_cons
def abO:=@List.size_toArray
def abS:=@if_pos
def abZ:=@if_neg
def ab2:=@decide_eq_false
def ab4:=@Nat.lt_of_lt_of_le
def act:=@PySem.Heap.lt_size
def acB:=@List.length_take
def acD:=@List.length_range
def acT:=@Bool.false_ne_true
def acU:=@List.mem_of_getElem?
def acV:=@List.mem_cons_of_mem
def acW:=@Nat.ne_of_lt
def acX:=@List.length_cons
def acY:=@List.mem_cons_self
def acZ:=@List.getElem?_append_left
def ac0:=@Bool.and_eq_true
def ac1:=@Nat.lt_of_le_of_lt
def ac2:=@Int.mul_right_comm
def ac3:=@Int.zero_add
def ac4:=@PySem.F.plainAttrs_list
def ac5:=@PySem.W.mg_of
def ac6:=@PySem.Heap.get?_push_size
def ac7:=@decide_eq_true
def ac8:=@List.getElem?_eq_getElem
def ac9:=@PySem.wpAny_pure
def ada:=@PySem.PassesOwn.never
def adb:=@PySem.F.type_list_append
def adc:=@PySem.F.slot_list_append
def ade:=@List.getElem?_append_right
def adf:=@Nat.le_trans
def adg:=@List.take_length
def adh:=@List.range_succ
def adi:=@Int.mul_pos
def adj:=@or_false
def adk:=@List.mem_append_right
def adl:=@List.map_cons
def adm:=@Nat.zero_le
def adn:=@List.find?_cons
def ado:=@List.eq_nil_of_length_eq_zero
def adp:=@List.length_singleton
def adq:=@List.length_filter_le
def adr:=@Nat.pow_le_pow_right
def ads:=@List.getElem?_set_ne
def adt:=@List.getElem?_set_self
def adu:=@Int.mul_assoc
def adv:=@decide_eq_true_eq
def adw:=@List.foldl_append
def adx:=@PySem.W.mg_none_of
def ady:=@PyProof.Rows.callWith_type1
def adz:=@List.length_set
def adA:=@Int.eq_of_mul_eq_mul_right
def adB:=@Int.toNat_natCast
def adC:=@Nat.testBit_and
def adD:=@Int.le_of_lt
def adE:=@PySem.wpAny_truthy_bool
def adF:=@PySem.wpAny_mono
def adG:=@List.filter_append
def adH:=@List.lookup_cons
def adI:=@PySem.mem_of_lookup
def adJ:=@Int.mul_lt_mul_of_pos_right
def adK:=@Int.le_refl
def adL:=@Int.lt_of_mul_lt_mul_right
def adM:=@Nat.lt_irrefl
def adN:=@List.length_replicate
def adO:=@List.append_nil
def adP:=@Bool.eq_iff_iff
def adQ:=@List.getElem_of_mem
def adR:=@Int.mul_le_mul_of_nonneg_left
def adS:=@List.take_succ
def adT:=@List.take_of_length_le
def adU:=@Int.natCast_nonneg
def adV:=@Option.map_some
def adW:=@Int.ne_of_gt
def adY:=@PySem.wpAny_passesOwn
def adZ:=@Nat.le_add_right
def ad0:=@PySem.wpAny_pyIter_enum
def ad1:=@Ne.symm
def ad3:=@Int.toNat_of_nonneg
def ad4:=@List.getElem?_take_of_lt
def ad5:=@Int.mul_fdiv_cancel_left
def ad7:=@Int.mul_comm
def ad8:=@PySem.F.slot_tuple_iterator_next
def ad9:=@Nat.le_succ
def aea:=@congrArg
def aeb:=@not_or
def aec:=@PySem.W.kia_one
def aed:=@Nat.le_of_lt
def aee:=@List.all_eq_true
def aef:=@Nat.eq_of_testBit_eq
def aeg:=@List.mem_append_left
def aeh:=@List.length_nil
def aei:=@List.getElem?_range
def aej:=@List.getElem?_concat_length
def aek:=@if_false
def ael:=@Nat.lt_trans
def aem:=@Nat.add_comm
def aen:=@Bool.false_eq_true
def aeo:=@PySem.Paired.length
def aep:=@List.nodup_nil
def aeq:=@List.mem_or_eq_of_mem_set
def aer:=@Int.mul_nonneg
def aes:=@PySem.F.args_tuple_add_2
def aet:=@Nat.lt_succ_of_lt
def aeu:=@Bool.not_eq_true'
def aev:=@if_true
def aew:=@PySem.F.entry_tuple_add
def aex:=@List.getElem?_replicate
def aey:=@List.filter_cons_of_pos
def aez:=@List.filter_cons_of_neg
def aeA:=@List.any_cons
def aeB:=@PySem.wpAny_Call_Name_kw
def aeC:=@Nat.succ_ne_self
def aeD:=@Nat.and_le_right
def aeE:=@PySem.F.slot_tuple_add
def aeF:=@PySem.F.slot_dict_get
def aeH:=@Nat.pow_succ
def aeI:=@Nat.not_lt_zero
def aeJ:=@Nat.le_of_ble_eq_true
def aeK:=@List.map_set
def aeL:=@List.getElem?_eq_none
def aeM:=@PySem.AutoSeq1.wpAny_loadPart'
def aeN:=@Int.mul_lt_mul_right
def aeO:=@Int.natAbs_mul
def aeP:=@Nat.testBit_two_pow
def aeQ:=@List.filterMap_cons
def aeR:=@PySem.Calls.callWith_builtin
def aeS:=@Array.length_toList
def aeT:=@PySem.wpAny_execs_nil
def aeU:=@List.mem_singleton
def aeV:=@List.getElem?_tail
def aeW:=@List.cons.inj
def aeX:=@Int.emod_lt_of_pos
def aeY:=@Option.isSome_map
def aeZ:=@List.append_assoc
def ae0:=@Nat.ne_of_gt
def ae1:=@List.map_map
def ae2:=@PySem.Heap.size_push
def ae4:=@PySem.Paired.snoc
def ae5:=@Nat.lt_succ_self
def ae6:=@PySem.wpAny_holding
def ae7:=@PySem.tupleKind_room_in1
def ae8:=@and_congr_right
def ae9:=@Nat.two_pow_add_eq_or_of_lt
def afa:=@List.of_mem_zip
def afb:=@List.nil_append
def afc:=@List.mem_filter
def afd:=@List.cons.injEq
def afe:=@Int.emod_nonneg
def aff:=@PySem.Calls.spliced_cons
def afg:=@Int.fdiv_eq_ediv_of_nonneg
def afi:=@PySem.wpAny_newObj_type
def afj:=@Nat.testBit_or
def afk:=@Nat.lt_pow_two_of_testBit
def afl:=@Bool.false_and
def afm:=@PySem.codeAny_mono
def afn:=@PySem.F.type_list_extend
def afo:=@PySem.F.slot_list_extend
def afp:=@PySem.noFill_tuple_add
def afq:=@decide_eq_false_iff_not
def afr:=@PySem.F.args_dict_get_3
def afs:=@Nat.add_sub_cancel_left
def aft:=@Int.ofNat.inj
def afu:=@Int.eq_ofNat_of_zero_le
def afv:=@PySem.Around.in1_units
def afw:=@PySem.F.entry_dict_get
def afx:=@List.pairwise_lt_range
def afz:=@List.flatMap_singleton
def afA:=@PySem.F.args_tuple_iterator_next_1
def afB:=@PySem.wpAny_field
def afC:=@List.map_nil
def afD:=@List.getElem?_zipWith
def afE:=@List.getElem?_toArray
def afF:=@Int.le_trans
def afG:=@PySem.F.entry_tuple_iterator_next
def afH:=@PySem.wpAny_letOwnedTupleGo_enum
def afI:=@PySem.Calls.Name_function_global
def afJ:=@PySem.wpAny_seqItems
def afK:=@PySem.PyData.int.inj
def afL:=@Nat.mul_one
def afM:=@List.replicate_succ
def afN:=@List.flatMap_append
def afO:=@Int.mul_neg
def afP:=@true_and
def afQ:=@of_decide_eq_false
def afR:=@decide_eq_true_iff
def afS:=@Array.forIn_toList
namespace L2
open PySem PySem.Spec PyProof.Rows
variable {C dx it:Addr} {H:Hp} {Q:VK} {ch fp:List Addr} {es:List Expr} {g:TG} {o:HO} {pins:List (Addr×Obj)} {qual:Str} {s':Shared} {t':Nat} {tb:TS} {te:TE} {tg:Expr} {u:Value} {us:List Value} {v:V} {xs:List V} {U:St}
abbrev Key:=Sum Int Str
def qS:Key->Value->Bool
 | .inl k,v=>Value.isInt k v
 | .inr x,v=>Value.isStrOf x v
def Tl (w:World):Key->Int
 | .inl k=>hashInt k
 | .inr x=>hashStr w x
theorem cK:∀ {k:Key} {v:Value},qS k v=true->(∃ i t,k=Sum.inl i/\v=Value.int i t)∨(∃ x t,k=Sum.inr x/\v=Value.str x t)
 | .inl i,v,h=>by
   obtain ⟨t,e⟩:=Value.isInt_shape (k:=i) (v:=v) h
   exact .inl ⟨i,t,rfl,e⟩
 | .inr x,v,h=>by
   obtain ⟨t,e⟩:=Value.isStrOf_shape (x:=x) (v:=v) h
   exact .inr ⟨x,t,rfl,e⟩
theorem ze (i:Int) (t:Tok):qS (.inl i) (.int i t)=true:=by simp [qS,Value.isInt]
theorem yE (x:Str) (t:Tok):qS (.inr x) (.str x t)=true:=by simp [qS,Value.isStrOf]
theorem Hs (a b:Int):decide ((Sum.inl a:Key)=Sum.inl b)=(a == b):=by
 by_cases e:a=b
 . subst e;simp
 . have h:¬ (Sum.inl a:Key)=Sum.inl b:=λ q=>e (Sum.inl.inj q)
   rw [ab2 h]
   exact (beq_eq_false_iff_ne.mpr e).symm
theorem Gm (a b:Str):decide ((Sum.inr a:Key)=Sum.inr b)=decide (a=b):=by
 by_cases e:a=b
 . subst e;simp
 . have h:¬ (Sum.inr a:Key)=Sum.inr b:=λ q=>e (Sum.inr.inj q)
   rw [ab2 h,ab2 e]
theorem Gz (a:Int) (b:Str):decide ((Sum.inl a:Key)=Sum.inr b)=false:=ab2 (λ q=>nomatch q)
theorem Gf (a:Str) (b:Int):decide ((Sum.inr a:Key)=Sum.inl b)=false:=ab2 (λ q=>nomatch q)
def cJ (prog:Program) (w:World):PySem.KeyKind prog w Key where
 is:=qS
 hash:=Tl w
 inj:=λ v a b ha hb=>by
   rcases cK ha with ⟨i,t,rfl,rfl⟩|⟨x,t,rfl,rfl⟩
   . rcases cK hb with ⟨j,u,rfl,e⟩|⟨y,u,rfl,e⟩
     . injection e with e1 _;rw [e1]
     . exact nomatch e
   . rcases cK hb with ⟨j,u,rfl,e⟩|⟨y,u,rfl,e⟩
     . exact nomatch e
     . injection e with e1 _;rw [e1]
 byValue:=λ k v h=>by
   rcases cK h with ⟨i,t,rfl,rfl⟩|⟨x,t,rfl,rfl⟩<;>rfl
 pyHash:=λ hv h=>by
   rcases cK hv with ⟨i,t,rfl,rfl⟩|⟨x,t,rfl,rfl⟩
   . exact wpAny_pyHash_int h
   . exact wpAny_pyHash_str h
 eqBool:=λ hu hv h=>by
   rcases cK hu with ⟨i,t,rfl,rfl⟩|⟨x,t,rfl,rfl⟩
   . rcases cK hv with ⟨j,u,rfl,rfl⟩|⟨y,u,rfl,rfl⟩
     . rw [Hs] at h;exact wpAny_eqBool_int h
     . rw [Gz] at h;exact SeqAt.EqAt.int_str i t y u _ _ _ _ h
   . rcases cK hv with ⟨j,u,rfl,rfl⟩|⟨y,u,rfl,rfl⟩
     . rw [Gf] at h;exact SeqAt.EqAt.str_int x t j u _ _ _ _ h
     . rw [Gm] at h;exact wpAny_eqBool_str h
 «strs»:=λ k x t v h=>by
   rcases cK h with ⟨i,u,rfl,e⟩|⟨y,u,rfl,e⟩
   . exact nomatch e
   . injection e with e1 _
     subst e1
     cases v<;>rfl
theorem t7 (prog:Program) (w:World) (i:Int) (t:Tok):(cJ prog w).is (.inl i) (.int i t)=true:=ze i t
theorem vb (prog:Program) (w:World) (x:Str) (t:Tok):(cJ prog w).is (.inr x) (.str x t)=true:=yE x t
inductive V where
 | cR|bl (b:Bool)|int (i:Int)|str (x:Str)|yR (b:Array UInt8)|FC (b:UInt64)|ref (a:Addr)|ty (n:String)
 deriving DecidableEq
def RelV:V->Value->Prop
 | .cR,u=>u=Value.none
 | .bl b,u=>u=Value.bool b
 | .int i,u=>∃ t,u=Value.int i t
 | .str x,u=>∃ t,u=Value.str x t
 | .yR b,u=>∃ t,u=Value.bytes b t
 | .FC b,u=>∃ t,u=Value.float b t
 | .ref a,u=>u=Value.ref a
 | .ty n,u=>u=Value.type n
abbrev Vals:List V->List Value->Prop:=Paired RelV
theorem Vals.length (r:Vals xs us):xs.length=us.length:=aeo r
theorem Vals.get:∀ {xs:List V} {us:List Value} {i:Nat} {x:V},Vals xs us->xs[i]?=some x->∃ u,us[i]?=some u/\RelV x u
 | _,_,_,_,.nil,e=>by simp at e
 | _,_,0,_,.cons r _,e=>by simp at e;subst e;exact ⟨_,rfl,r⟩
 | _,_,i+1,x,.cons _ t,e=>by
   obtain ⟨u,h1,h2⟩:=Vals.get (i:=i) (x:=x) t (by simpa using e)
   exact ⟨u,by simpa using h1,h2⟩
theorem Vals.set {x:V} (r:RelV x u):∀ {xs:List V} {us:List Value} (i:Nat),Vals xs us->Vals (xs.set i x) (us.set i u)
 | _,_,_,.nil => .nil
 | _,_,0,.cons _ t => .cons r t
 | _,_,i+1,.cons q t => .cons q (Vals.set r i t)
theorem Vals.append:∀ {xs ys:List V} {us ws:List Value},Vals xs us->Vals ys ws->Vals (xs++ys) (us++ws)
 | _,_,_,_,.nil,s=>s
 | _,_,_,_,.cons r t,s => .cons r (Vals.append t s)
theorem Vals.take:∀ {xs:List V} {us:List Value} (n:Nat),Vals xs us->Vals (xs.take n) (us.take n)
 | _,_,0,_ => .nil
 | _,_,_+1,.nil => .nil
 | _,_,n+1,.cons r t => .cons r (Vals.take n t)
theorem Vals.drop:∀ {xs:List V} {us:List Value} (n:Nat),Vals xs us->Vals (xs.drop n) (us.drop n)
 | _,_,0,r=>r
 | _,_,_+1,.nil => .nil
 | _,_,n+1,.cons _ t=>Vals.drop n t
def iq:Option V->Option Value->Prop
 | some v,some u=>RelV v u
 | none,none=>True
 | _,_=>False
def KV {κ:Type}:List (κ×V)->List (κ×Value)->Prop:=Paired λ (p:κ×V) (q:κ×Value)=>p.1=q.1/\RelV p.2 q.2
def kV:Key->V
 | .inl i => .int i
 | .inr x => .str x
inductive HO where
 | lst (xs:List V)
 | tup (xs:List V)
 | dK (aw:List (Key×V))|dT (aw:List (List Key×V))
 | set (S:Int->Bool) (n:Nat)
 | ins (C dx:Addr) (fs:List (Str×V))
 | own (x:Addr)
 | xd (fs:List (Str×V))
 | met (f x:Addr)
 | NZ (lo hi:Int)
 | wC (o:Obj) (u:HO)
 | Hu (ps:Array Value)
 | ext (φ:Heap->Prop)
abbrev Hp:=Addr->Option HO
def upd (H:Hp) (a:Addr) (o:HO):Hp:=λ b=>if b=a then some o else H b
theorem ag {a:Addr}:upd H a o a=some o:=by unfold upd;rw [abS rfl]
theorem av {a b:Addr} (h:b≠a):upd H a o b=H b:=by unfold upd;rw [abZ h]
theorem xN {a:Addr} {u:HO}:upd (upd H a o) a u=upd H a u:=by
 funext b;unfold upd;split<;>rfl
theorem K9 {a b:Addr} {u:HO} (h:H a=some o) (h':H b=some u) (d:o≠u):a≠b:=by
 intro e;subst e;rw [h] at h';exact d (aba h')
theorem aq {a b:Addr} (h:H a=some o) (h':H b=none):a≠b:=by
 intro e;subst e;rw [h] at h';cases h'
section
variable (P:Program) (w:World)
def cw (H:Hp) (h:Heap) (a:Addr):HO->Prop
 | .lst xs=>xs.length<=sizeLine/\∃ (bf:List Value) (n:Nat),Vals xs bf/\h.get? a=some { cls:=.type "list",data:=.seq bf.toArray n }
 | .tup xs=>xs.length<=sizeLine/\∃ bf:List Value,Vals xs bf/\IsTup h a bf.toArray
 | .dK aw=>aw.length<=sizeLine/\(a == sysModules)=false/\∃ vs,KV aw vs/\h.DictOf (cJ P w) a vs
 | .dT aw=>aw.length<=sizeLine/\(a == sysModules)=false/\∃ xs:List (List Key×Addr×Value),
     Paired (λ (p:List Key×V) (q:List Key×Addr×Value)=>p.1=q.1/\H q.2.1=some (.tup (p.1.map kV))/\RelV p.2 q.2.2) aw xs /\
     ∃ o es ep,h.get? a=some o/\o.ExactDict/\o.data = .dict es ep/\es.toList=xs.map (entryOfKey (tupleKind (cJ P w)))/\(xs.map (·.1)).Nodup
 | .set S n=>h.SetOf (intKind P w) a S n
 | .ins C dx fs=>H dx=some (.own a)/\fs.length<=1000/\dx≠a/\h.get? a=some (W.instObj C dx) /\
     ∃ mA,h.Ns1 dx mA/\(∀ f,iq (fs.lookup f) (mA f))/\PySem.Within mA (fs.map (·.1))
 | .own _=>∃ o,h.get? a=some o
 | .xd fs=>∃ mA,h.Ns1 a mA/\∀ f,iq (fs.lookup f) (mA f)
 | .NZ lo hi=>∃ t u v,h.get? a=some { cls:=.type "range",data:=.fields #[.int lo t,.int hi u,.int 1 v]}
 | .wC o u=>h.get? a=some o/\cw H h a u
 | .Hu ps=>h.get? a=some { cls:=.none,data:=.fields ps }
 | .met f x=>h.get? a=some (W.methodObj (.ref f) (.ref x))
 | .ext φ=>φ h/\(∃ o,h.get? a=some o)/\∀ h1 h2:Heap,φ h1->(∀ o,h1.get? a=some o->h2.get? a=some o)->φ h2
def kI (H:Hp) (h:Heap):Prop:=∀ a o,H a=some o->cw P w H h a o
end
section
variable {P:Program} {w:World} {H H':Hp} {h h':Heap} {a:Addr} {o:HO}
theorem cw.lt (x:cw P w H h a o):a<h.objs.size:=by
 cases o with
 | lst xs=>obtain ⟨_,_,_,_,e⟩:=x;exact act e
 | tup xs=>obtain ⟨_,_,_,p⟩:=x;exact p.lt
 | dK aw=>obtain ⟨_,_,_,_,o,_,_,e,_⟩:=x;exact act e
 | dT aw=>obtain ⟨_,_,_,_,o,_,_,e,_⟩:=x;exact act e
 | set S n=>obtain ⟨o,_,_,_,e,_⟩:=x;exact act e
 | ins C dx fs=>obtain ⟨_,_,_,e,_⟩:=x;exact act e
 | own y=>obtain ⟨_,e⟩:=x;exact act e
 | xd fs=>obtain ⟨_,⟨_,_,_,e,_⟩,_⟩:=x;exact act e
 | NZ lo hi=>obtain ⟨_,_,_,e⟩:=x;exact act e
 | wC ob u=>obtain ⟨e,_⟩:=x;exact act e
 | Hu ps=>exact act (show h.get? a=some _ from x)
 | met f y=>exact act (show h.get? a=some _ from x)
 | ext φ=>obtain ⟨_,⟨_,e⟩,_⟩:=x;exact act e
theorem Paired.AW {α β:Type} {F G:α->β->Prop}:∀ {l₁:List α} {l₂:List β},Paired F l₁ l₂->(∀ a b,F a b->G a b)->Paired G l₁ l₂
 | _,_,.nil,_ => .nil
 | _,_,.cons r t,f => .cons (f _ _ r) (Paired.AW t f)
theorem cw.iz (x:cw P w H h a o) (k:∀ b u,(b=a∨H b=some (.own a))->h.get? b=some u->h'.get? b=some u) (ho:∀ b,H b=some (.own a)->H' b=some (.own a)) (ht:∀ b xs,H b=some (.tup xs)->H' b=some (.tup xs)):cw P w H' h' a o:=by
 induction o with
 | lst xs=>obtain ⟨z,bf,n,r,e⟩:=x;exact ⟨z,bf,n,r,k _ _ (.inl rfl) e⟩
 | tup xs=>obtain ⟨z,bf,r,ob,e,c⟩:=x;exact ⟨z,bf,r,ob,k _ _ (.inl rfl) e,c⟩
 | dK aw=>obtain ⟨z,y,vs,r,ob,es,ep,e,c⟩:=x;exact ⟨z,y,vs,r,ob,es,ep,k _ _ (.inl rfl) e,c⟩
 | dT aw =>
   obtain ⟨z,y,xs,r,ob,es,ep,e,c⟩:=x
   exact ⟨z,y,xs,Paired.AW r λ p q z=>⟨z.1,ht _ _ z.2.1,z.2.2⟩,ob,es,ep,k _ _ (.inl rfl) e,c⟩
 | set S n=>obtain ⟨ob,es,ep,t,e,c⟩:=x;exact ⟨ob,es,ep,t,k _ _ (.inl rfl) e,c⟩
 | ins C dx fs =>
   obtain ⟨d,z,ne,e,mA,⟨od,es,ep,e2,c⟩,r⟩:=x
   exact ⟨ho _ d,z,ne,k _ _ (.inl rfl) e,mA,⟨od,es,ep,k _ _ (.inr d) e2,c⟩,r⟩
 | own y=>obtain ⟨ob,e⟩:=x;exact ⟨ob,k _ _ (.inl rfl) e⟩
 | xd fs=>obtain ⟨mA,⟨od,es,ep,e,c⟩,r⟩:=x;exact ⟨mA,⟨od,es,ep,k _ _ (.inl rfl) e,c⟩,r⟩
 | NZ lo hi=>obtain ⟨t,u,v,e⟩:=x;exact ⟨t,u,v,k _ _ (.inl rfl) e⟩
 | wC ob u ih=>obtain ⟨e,q⟩:=x;exact ⟨k _ _ (.inl rfl) e,ih q⟩
 | Hu ps =>
   have e:h.get? a=some { cls:=.none,data:=.fields ps }:=x
   show h'.get? a=some { cls:=.none,data:=.fields ps }
   exact k a _ (.inl rfl) e
 | met f y =>
   have e:h.get? a=some (W.methodObj (.ref f) (.ref y)):=x
   show h'.get? a=some (W.methodObj (.ref f) (.ref y))
   exact k a _ (.inl rfl) e
 | ext φ=>obtain ⟨p,⟨o,e⟩,st⟩:=x;exact ⟨st _ _ p λ o q=>k _ _ (.inl rfl) q,⟨o,k _ _ (.inl rfl) e⟩,st⟩
theorem kI.lt (x:kI P w H h) (e:H a=some o):a<h.objs.size:=(x a o e).lt
theorem kI.fresh (x:kI P w H h) (e:h.objs.size<=a):H a=none:=by
 cases q:H a with
 | none=>rfl
 | some u=>exact absurd (ab4 (x.lt q) e) (adM _)
theorem kI.kept (x:kI P w H h) (k:∀ b u,h.get? b=some u->h'.get? b=some u):kI P w H h':=λ a o e =>
 (x a o e).iz (λ b u _ q=>k b u q) (λ _ q=>q) λ _ _ q=>q
theorem kI.laid (x:kI P w H h) (k:∀ b u,h.get? b=some u->h'.get? b=some u) (hp:h.objs.size<=a) (new:cw P w (upd H a o) h' a o):kI P w (upd H a o) h':=λ b u e=>by
 have hn:=x.fresh hp
 by_cases hb:b=a
 . subst hb;rw [ag] at e;cases e;exact new
 . rw [av hb] at e
   exact (x b u e).iz (λ c v _ q=>k c v q) (λ c q=>by rw [av (aq q hn)];exact q) λ c xs q=>by rw [av (aq q hn)];exact q
end
def Rd (H:Hp) (a:Addr) (u:HO):Prop:=H a=some u∨∃ o,H a=some (.wC o u)
theorem Rd.of {a:Addr} {u:HO} (h:H a=some u):Rd H a u:=.inl h
theorem Rd.ok {P:Program} {w:World} {h:Heap} {a:Addr} {u:HO} (r:Rd H a u) (x:kI P w H h):cw P w H h a u:=by
 rcases r with r|⟨o,r⟩
 . exact x a u r
 . obtain ⟨_,q⟩:=x a _ r
   exact q
def Jy:Option HO->Prop
 | some (.lst _)=>True
 | some (.dK _)=>True
 | some (.dT _)=>True
 | some (.set _ _)=>True
 | some (.ins _ _ _)=>True
 | some (.ext _)=>True
 | _=>False
section
variable {P:Program} {w:World} {H:Hp} {h h':Heap} {x e:Addr} {o':HO}
theorem kI.write (ok:kI P w H h) (mu:Jy (H x)) (he:e=x∨H e=some (.own x)) (k:∀ b u,b≠e->h.get? b=some u->h'.get? b=some u) (Il:∃ u,h'.get? e=some u) (new:cw P w (upd H x o') h' x o'):kI P w (upd H x o') h':=λ b u q=>by
 have Kd:∀ c y,H c=some (.own y)->c≠x:=λ c y r z=>by subst z;rw [r] at mu;exact mu
 have RF:∀ c xs,H c=some (.tup xs)->c≠x:=λ c xs r z=>by subst z;rw [r] at mu;exact mu
 by_cases hb:b=x
 . subst hb;rw [ag] at q;cases q;exact new
 .
  rw [av hb] at q
  by_cases Gi:b=e
  .
   have q':H b=some (.own x):=by
     rcases he with z|z
     . exact absurd (Gi.trans z) hb
     . rw [Gi];exact z
   rw [q] at q';cases q'
   obtain ⟨v,hv⟩:=Il
   exact ⟨v,by rw [Gi];exact hv⟩
  .
   refine (ok b u q).iz (λ c v hc r=>k c v ?_ r) (λ c r=>by rw [av (Kd c b r)];exact r) λ c xs r=>by rw [av (RF c xs r)];exact r
   rcases hc with rfl|hc
   . exact Gi
   . rintro rfl
     rcases he with z|z
     . exact Kd c b hc z
     . rw [hc] at z;cases z;exact hb rfl
end
structure Un (fs ex:List Addr) (H H':Hp) (h h':Heap):Prop where
 keep:∀ b o,h.get? b=some o->H b=none->b∉fs->b∉ex->h'.get? b=some o
 slot:∀ b o,h.get? b=some o->H b=none->b∈fs->b∉ex->∃ sl,h'.get? b=some { o with slots:=sl }
 free:∀ b o,h.get? b=some o->H b=none->b∉ex->H' b=none
 there:∀ b o,h.get? b=some o->b∉ex->∃ o',h'.get? b=some o'
 ul:∀ b xs,H b=some (.tup xs)->H' b=some (.tup xs)
 rJ:∀ b o u,H b=some (.wC o u)->H' b=some (.wC o u)
 vf:∀ b ps,H b=some (.Hu ps)->∃ more,H' b=some (.Hu (ps++more))
section
variable {fs fs' ex MF:List Addr} {H H1 H2:Hp} {h h1 h2 h':Heap} {a x e:Addr} {o:HO}
theorem Un.any (u:Un fs ex H H1 h h1) {b:Addr} {ob:Obj} (q:h.get? b=some ob) (n:H b=none) (hx:b∉ex):∃ sl,h1.get? b=some { ob with slots:=sl }:=by
 by_cases hb:b∈fs
 . exact u.slot b ob q n hb hx
 . exact ⟨ob.slots,u.keep b ob q n hb hx⟩
theorem Un.kept (k:∀ b u,h.get? b=some u->h'.get? b=some u):Un fs ex H H h h' :=
 ⟨λ b ob q _ _ _=>k b ob q,λ b ob q _ _ _=>⟨ob.slots,k b ob q⟩,λ _ _ _ n _=>n,λ b ob q _=>⟨ob,k b ob q⟩,λ _ _ q=>q,λ _ _ _ q=>q,λ _ ps q=>⟨#[],by rw [q];simp⟩⟩
theorem Un.refl:Un fs ex H H h h:=Un.kept λ _ _ q=>q
theorem Un.laid (k:∀ b u,h.get? b=some u->h'.get? b=some u) (hp:h.objs.size<=a) (hn:H a=none):Un fs ex H (upd H a o) h h' where
 keep:=λ b u q _ _ _=>k b u q
 slot:=λ b u q _ _ _=>⟨u.slots,k b u q⟩
 free:=λ b u q n _=>by rw [av (acW (ab4 (act q) hp))];exact n
 there:=λ b u q _=>⟨u,k b u q⟩
 ul:=λ b xs q=>by rw [av (aq q hn)];exact q
 rJ:=λ b u xs q=>by rw [av (aq q hn)];exact q
 vf:=λ b ps q=>⟨#[],by rw [av (aq q hn),q];simp⟩
theorem Un.write (mu:Jy (H x)) (he:e=x∨H e=some (.own x)) (k:∀ b u,b≠e->h.get? b=some u->h'.get? b=some u) (Il:∃ u,h'.get? e=some u):Un fs ex H (upd H x o) h h':=by
 have hx:∀ b,H b=none->b≠x:=λ b n z=>by subst z;rw [n] at mu;exact mu
 have hb:∀ b,H b=none->b≠e:=λ b n z=>by
   subst z
   rcases he with r|r
   . exact hx b n r
   . rw [n] at r;cases r
 have hm:∀ b u,H b=some u->¬ Jy (some u)->b≠x:=λ b u q nm z=>by subst z;rw [q] at mu;exact nm mu
 refine ⟨λ b u q n _ _=>k b u (hb b n) q,λ b u q n _ _=>⟨u.slots,k b u (hb b n) q⟩,λ b u q n _=>by rw [av (hx b n)];exact n,λ b u q _=>?_,
   λ b xs q=>by rw [av (hm b _ q λ z=>z)];exact q,λ b u xs q=>by rw [av (hm b _ q λ z=>z)];exact q,λ b ps q=>⟨#[],by rw [av (hm b _ q λ z=>z),q];simp⟩⟩
 by_cases Gi:b=e
 . subst Gi;exact Il
 . exact ⟨u,k b u Gi q⟩
end
def Ms (h:Heap) (H:Hp):List Addr:=(List.range h.objs.size).filter λ a=>(H a).isSome
def rQ (h:Heap) (H:Hp):Heap:=W.hideAll h (Ms h H)
theorem zp (h:Heap) (H:Hp):(rQ h H).objs.size=h.objs.size:=W.hideAll_size _ _
theorem Aq {h:Heap} {b:Addr} {o:Obj} (e:h.get? b=some o) (n:H b=none):(rQ h H).get? b=some o :=
 W.hideAll_get _ e λ hm=>by
   have q:(H b).isSome=true:=(List.mem_filter.mp hm).2
   rw [n] at q;simp at q
theorem Cn {h:Heap} {b:Addr} {o:Obj} (e:(rQ h H).get? b=some o):h.get? b=some o/\H b=none:=by
 have e':h.get? b=some o:=W.of_hideAll (Ms h H) e
 refine ⟨e',?_⟩
 cases q:H b with
 | none=>rfl
 | some x =>
   have hm:b∈Ms h H:=List.mem_filter.mpr ⟨List.mem_range.mpr (act e'),by simp [q]⟩
   have z:(rQ h H).get? b=none:=W.hideAll_none (Ms h H) hm
   rw [z] at e;cases e
def Cw (g h:Heap) (L:Addr):List (Addr×Obj):=(List.range h.objs.size).filterMap λ a=>if a=L∨(g.get? a).isSome=true then none else (h.get? a).map λ o=>(a,o)
def rest (g h:Heap) (L d:Addr):List (Addr×Obj):=(Cw g h L).filter λ p=>decide (p.1≠d)
structure Mod (K:W.Frag) (mg:Str->Option Value) (base:Heap):Prop where
 I0:K.In base
 glob:base.Ns mainGlobals mg
 blt:∃ mb,base.Ns builtinsNs mb/\∀ x:Str,x ≠ "__name__"->mb x=bootBuiltins x
 nolimit:base.NoLimit
structure Cx where
 prog:Program
 w:World
 K:W.Frag
 mg:Str->Option Value
 base:Heap
 A:Around
 N:List Str
 s₀:Shared
 H₀:Hp
 env:Env
 outer:List Env
 stack:List Env
 ex:List Addr
 fn:Str->Bool
 calm:Bool
 pn:List (Addr×Obj)
 xe:Value->Shared->Prop
def zH (l:List Env):List Addr:=l.filterMap (·.frame)
abbrev Cx.fs (X:Cx):List Addr:=zH X.outer
def MU (sc:Scope) (x:Str):Prop:=sc.names.lookup x=some .local∨sc.names.lookup x=some .cell∨sc.names.lookup x=some .free
def Loc (sc:Scope) (x:Str):Prop:=sc.names.lookup x=some .local∨sc.names.lookup x=some .cell
def Look (env:Env) (h:Heap) (m:Str->Option Value) (x:Str) (u:Value):Prop :=
 (env.kindOf x=some .local/\m x=some u)∨((env.kindOf x=some .cell∨env.kindOf x=some .free)/\∃ c,env.cells.lookup x=some c/\h.IsCell c (some u))
structure Cx.Ok (X:Cx):Prop where
 mod:Mod X.K X.mg X.base
 kind:X.env.scope.kind = .function
 glob:X.env.globals=mainGlobals
 blt:X.env.builtins=builtinsNs
 above:X.s₀.heap.objs.size<=X.env.locals
 inj:∀ x y c,X.env.cells.lookup x=some c->X.env.cells.lookup y=some c->x=y
 has:∀ x,(X.env.kindOf x=some .cell∨X.env.kindOf x=some .free)->∃ c,X.env.cells.lookup x=some c
 Js:∀ x c,X.fn x=true->X.env.cells.lookup x=some c->X.s₀.heap.objs.size<=c
 hd:X.calm=true->X.A.handled=none
 frames:X.A.frames=some X.stack
 M4:X.stack=X.outer∨(X.stack=X.env::X.outer/\X.env.frame=some X.env.locals)
 exf:∀ b∈X.ex,b≠X.env.locals/\∀ x c,X.env.cells.lookup x=some c->c≠b
 bs:∀ b o,X.base.get? b=some o->X.s₀.heap.get? b=some o/\X.H₀ b=none
 FE:X.base.objs.size<=X.s₀.heap.objs.size
 BC:∀ b o,X.base.get? b=some o->b∉X.ex
 Df:∀ b∈X.ex,b∉X.fs
 ng:X.s₀.heap.FunFrames X.base X.outer
 HB:∀ b∈X.fs,X.H₀ b=none
structure Inv (X:Cx) (pins:List (Addr×Obj)) (U:List (Option V)) (H:Hp) (s:Shared):Prop where
 ok:X.Ok
 os:s.os=X.s₀.os
 bare:AllBare s.gens
 base:Un X.fs X.ex X.H₀ H X.s₀.heap s.heap
 loc:∃ m,s.heap.Ns X.env.locals m/\∀ (i:Nat) (x:Str) (v:V),X.N[i]?=some x->U[i]?=some (some v)->MU X.env.scope x->∃ u,RelV v u/\Look X.env s.heap m x u
 cell:∀ x c,X.env.cells.lookup x=some c->∃ v,s.heap.IsCell c v
 free:H X.env.locals=none
 kn:∀ x c,X.env.cells.lookup x=some c->H c=none
 pin:∀ p∈X.pn++pins,s.heap.get? p.1=some p.2/\H p.1=none/\p.1≠X.env.locals/\p.1∉X.fs/\∀ v,p.2.data ≠ .cell v
 cq:kI X.prog X.w H s.heap
 len:U.length=X.N.length
section
variable {X:Cx} {pins:List (Addr×Obj)} {U:List (Option V)} {H H':Hp} {s:Shared} {h':Heap}
theorem Cx.Ok.OE (ok:X.Ok) {b:Addr} {o:Obj} (e:X.base.get? b=some o):b∉X.fs:=λ hb=>by
 have:=(ok.ng.mem hb).1
 rw [e] at this;cases this
theorem Inv.bs (I:Inv X pins U H s):∀ b o,X.base.get? b=some o->s.heap.get? b=some o/\H b=none:=λ b o e =>
 ⟨I.base.keep b o (I.ok.bs b o e).1 (I.ok.bs b o e).2 (I.ok.OE e) (I.ok.BC b o e),I.base.free b o (I.ok.bs b o e).1 (I.ok.bs b o e).2 (I.ok.BC b o e)⟩
theorem Inv.bk (I:Inv X pins U H s):∀ b o,X.base.get? b=some o->s.heap.get? b=some o:=λ b o e=>(I.bs b o e).1
theorem Inv.mod (I:Inv X pins U H s):Mod X.K X.mg X.base:=I.ok.mod
theorem Inv.nE (I:Inv X pins U H s):X.K.In s.heap:=I.ok.mod.I0.keeps I.bk
theorem Inv.lt (I:Inv X pins U H s):X.env.locals<s.heap.objs.size:=let ⟨_,hn,_⟩:=I.loc;hn.lt
theorem Inv.sz (I:Inv X pins U H s):X.s₀.heap.objs.size<=s.heap.objs.size:=adf I.ok.above (aed I.lt)
theorem Inv.X0 (I:Inv X pins U H s) {a:Addr} (h:s.heap.objs.size<=a):a∉X.fs:=λ hb=>by
 obtain ⟨_,o,ho,_⟩:=I.ok.ng.mem hb
 exact absurd (ab4 (act ho) (adf I.sz h)) (adM _)
theorem Inv.F2 (I:Inv X pins U H s):∀ x c,X.env.cells.lookup x=some c->c≠X.env.locals:=λ x c e z=>by
 obtain ⟨v,o,ho,hd⟩:=I.cell x c e
 obtain ⟨m,⟨o',es,ep,BW,Xp,_⟩,_⟩:=I.loc
 rw [z,BW] at ho;cases ho;rw [Xp] at hd;cases hd
theorem Inv.ng (I:Inv X pins U H s):s.heap.FunFrames X.base X.outer:=by
 have all:∀ (l:List Env),(∀ b∈zH l,b∈X.fs)->X.s₀.heap.FunFrames X.base l->s.heap.FunFrames X.base l:=by
   intro l
   induction l with
   | nil=>intro _ _;trivial
   | cons env r ih =>
     intro hs hl
     obtain ⟨hk,⟨L,o,hf,hn,ho,hd⟩,hr⟩:=hl
     have hL:L∈X.fs:=hs L (by unfold zH;rw [aeQ,hf];exact acY)
     obtain ⟨sl,e⟩:=I.base.slot L o ho (I.ok.HB L hL) hL λ z=>I.ok.Df L z hL
     exact ⟨hk,⟨L,_,hf,hn,e,hd⟩,ih (λ b hb=>hs b (by unfold zH;rw [aeQ,hf];exact acV _ hb)) hr⟩
 exact all X.outer (λ _ hb=>hb) I.ok.ng
theorem Inv.stack (I:Inv X pins U H s):s.heap.FunFrames X.base X.stack:=by
 rcases I.ok.M4 with e|⟨e,hf⟩
 . rw [e];exact I.ng
 .
  rw [e]
  obtain ⟨m,hn,_⟩:=I.loc
  refine .cons (by rw [I.ok.kind];decide) hf hn ?_ I.ng
  exact Heap.get?_none_of_le (adf I.ok.FE I.ok.above)
theorem Inv.wJ (I:Inv X pins U H s):∀ b∈zH X.stack,b∈X.env.locals::X.fs:=λ b hb=>by
 rcases I.ok.M4 with e|⟨e,hf⟩
 . rw [e] at hb;exact acV _ hb
 .
  rw [e] at hb
  unfold zH at hb
  rw [aeQ,hf] at hb
  exact hb
theorem Inv.yg (I:Inv X pins U H s):∀ b∈zH X.stack,H b=none:=λ b hb=>by
 rcases List.mem_cons.mp (I.wJ b hb) with e|hb
 . rw [e];exact I.free
 . obtain ⟨_,o,ho,_⟩:=I.ok.ng.mem hb
   exact I.base.free b o ho (I.ok.HB b hb) λ z=>I.ok.Df b z hb
theorem Inv.step {g':Array GenState} {t':Nat} {d':Drawn} (I:Inv X pins U H s) (sD:∀ b∈ch,(b∈X.ex∨X.s₀.heap.objs.size<=b)/\b≠X.env.locals/\(∀ x c,X.env.cells.lookup x=some c->c≠b)/\∀ p∈X.pn++pins,p.1≠b) (keep:∀ b o,b≠X.env.locals->b∉X.fs->b∉ch->s.heap.get? b=some o->H b=none->h'.get? b=some o) (slot:∀ b o,b≠X.env.locals->b∈X.fs->b∉ch->s.heap.get? b=some o->H b=none->∃ sl,h'.get? b=some { o with slots:=sl }) (free:∀ b o,b∉ch->s.heap.get? b=some o->H b=none->H' b=none) (there:∀ b o,b∉ch->s.heap.get? b=some o->∃ o',h'.get? b=some o') (ul:∀ b xs,H b=some (.tup xs)->H' b=some (.tup xs)) (rJ:∀ b o u,H b=some (.wC o u)->H' b=some (.wC o u)) (vf:∀ b ps,H b=some (.Hu ps)->∃ more,H' b=some (.Hu (ps++more))) (ns:∀ m,s.heap.Ns X.env.locals m->h'.Ns X.env.locals m) (cq:kI X.prog X.w H' h') (hg:AllBare g') :
   Inv X pins U H' { s with heap:=h',gens:=g',drawn:=d',toks:=t' }:=by
 have neL:∀ b o,X.s₀.heap.get? b=some o->b≠X.env.locals:=λ b o e=>acW (ab4 (act e) I.ok.above)
 have Nc:∀ b o,X.s₀.heap.get? b=some o->b∉X.ex->b∉ch:=λ b o e hx hb=>by
   rcases (sD b hb).1 with z|z
   . exact hx z
   . exact absurd (ab4 (act e) z) (adM _)
 have cellK:∀ x c,X.env.cells.lookup x=some c->∀ v,s.heap.IsCell c v->h'.IsCell c v:=λ x c e v ⟨o,ho,hd⟩=>by
   have Jk:c∉ch:=λ z=>(sD c z).2.2.1 x c e rfl
   by_cases hc:c∈X.fs
   . obtain ⟨sl,q⟩:=slot c o (I.F2 x c e) hc Jk ho (I.kn x c e)
     exact ⟨_,q,hd⟩
   . exact ⟨o,keep c o (I.F2 x c e) hc Jk ho (I.kn x c e),hd⟩
 refine ⟨I.ok,I.os,hg,⟨λ b o e n hb hx=>?_,λ b o e n hb hx=>?_,λ b o e n hx=>?_,λ b o e hx=>?_,λ b xs e=>ul b xs (I.base.ul b xs e),λ b o xs e=>rJ b o xs (I.base.rJ b o xs e),λ b ps e=>?_⟩,?_,λ x c e=>?_,?_,λ x c e=>?_,λ p hp=>?_,cq,I.len⟩
 . exact keep b o (neL b o e) hb (Nc b o e hx) (I.base.keep b o e n hb hx) (I.base.free b o e n hx)
 . obtain ⟨sl,e1⟩:=I.base.slot b o e n hb hx
   obtain ⟨sl',e2⟩:=slot b _ (neL b o e) hb (Nc b o e hx) e1 (I.base.free b o e n hx)
   exact ⟨sl',e2⟩
 . obtain ⟨o',e1⟩:=I.base.there b o e hx
   exact free b o' (Nc b o e hx) e1 (I.base.free b o e n hx)
 . obtain ⟨o',e1⟩:=I.base.there b o e hx
   exact there b o' (Nc b o e hx) e1
 . obtain ⟨m1,e1⟩:=I.base.vf b ps e
   obtain ⟨m2,e2⟩:=vf b _ e1
   exact ⟨m1++m2,by rw [e2,Array.append_assoc]⟩
 .
  obtain ⟨m,hn,hl⟩:=I.loc
  refine ⟨m,ns m hn,λ i x v e1 e2 e3=>?_⟩
  obtain ⟨u,r,l⟩:=hl i x v e1 e2 e3
  refine ⟨u,r,?_⟩
  rcases l with l|⟨k,c,e,z⟩
  . exact .inl l
  . exact .inr ⟨k,c,e,cellK x c e _ z⟩
 . obtain ⟨v,z⟩:=I.cell x c e
   exact ⟨v,cellK x c e v z⟩
 . obtain ⟨m,⟨o,_,_,ho,_⟩,_⟩:=I.loc
   exact free _ o (λ z=>(sD _ z).2.1 rfl) ho I.free
 . obtain ⟨v,o,ho,hd⟩:=I.cell x c e
   exact free c o (λ z=>(sD c z).2.2.1 x c e rfl) ho (I.kn x c e)
 . obtain ⟨e,n,ne,nf,d⟩:=I.pin p hp
   have Jk:p.1∉ch:=λ z=>(sD p.1 z).2.2.2 p hp rfl
   exact ⟨keep p.1 p.2 ne nf Jk e n,free p.1 p.2 Jk e n,ne,nf,d⟩
theorem Inv.un {t':Nat} (I:Inv X pins U H s) (u:Un X.fs [] H H' s.heap h') (cq:kI X.prog X.w H' h'):Inv X pins U H' { s with heap:=h',toks:=t' }:=by
 obtain ⟨m,⟨o,es,ep,ho,r⟩,_⟩:=id I.loc
 obtain ⟨sl,hL⟩:=u.any ho I.free (by simp)
 exact I.step (g':=s.gens) (d':=s.drawn) (ch:=[]) (λ _ z=>nomatch z) (λ b o _ hb _ e n=>u.keep b o e n hb (by simp)) (λ b o _ hb _ e n=>u.slot b o e n hb (by simp)) (λ b o _ e n=>u.free b o e n (by simp)) (λ b o _ e=>u.there b o e (by simp)) u.ul u.rJ u.vf (λ m' hm=>by
   obtain ⟨o',es',Zf,BW,r'⟩:=hm
   rw [ho] at BW;cases BW
   exact ⟨_,es',Zf,hL,r'⟩) cq I.bare
theorem Inv.call {g':Array GenState} {t':Nat} {d':Drawn} (I:Inv X pins U H s) (u:Un (zH X.stack) ch H H' s.heap h') (cq:kI X.prog X.w H' h') (hg:AllBare g') (sD:∀ b∈ch,(b∈X.ex∨X.s₀.heap.objs.size<=b)/\b≠X.env.locals/\(∀ x c,X.env.cells.lookup x=some c->c≠b)/\∀ p∈X.pn++pins,p.1≠b) :
   Inv X pins U H' { s with heap:=h',gens:=g',drawn:=d',toks:=t' }:=by
 obtain ⟨m,⟨o,es,ep,ho,r⟩,_⟩:=id I.loc
 obtain ⟨sl,hL⟩:=u.any ho I.free λ z=>(sD _ z).2.1 rfl
 exact I.step (ch:=ch) sD (λ b o hL hb hc e n=>u.keep b o e n (λ z=>(List.mem_cons.mp (I.wJ b z)).elim hL hb) hc) (λ b o _ _ hc e n=>u.any e n hc) (λ b o hc e n=>u.free b o e n hc) (λ b o hc e=>u.there b o e hc) u.ul u.rJ u.vf (λ m' hm=>by
   obtain ⟨o',es',Zf,BW,r'⟩:=hm
   rw [ho] at BW;cases BW
   exact ⟨_,es',Zf,hL,r'⟩) cq hg
theorem Inv.turned {t':Nat} (I:Inv X pins U H s) (k:∀ b o,b≠it->s.heap.get? b=some o->h'.get? b=some o) (hn:H it=none) (hL:it≠X.env.locals) (h1:it∈X.ex∨X.s₀.heap.objs.size<=it) (h2:∀ x c,X.env.cells.lookup x=some c->c≠it) (h3:∀ p∈X.pn++pins,p.1≠it):Inv X pins U H { s with heap:=h',toks:=t' }:=by
 have nit:∀ b u,H b=some u->b≠it:=λ b u e z=>by rw [z,hn] at e;cases e
 refine I.step (g':=s.gens) (d':=s.drawn) (ch:=[it]) (λ b hb=>?_) (λ b o _ _ hc e _=>k b o (λ z=>hc (by simp [z])) e) (λ b o _ _ hc e _=>⟨o.slots,k b o (λ z=>hc (by simp [z])) e⟩) (λ _ _ _ _ n=>n)
   (λ b o hc e=>⟨o,k b o (λ z=>hc (by simp [z])) e⟩) (λ _ _ e=>e) (λ _ _ _ e=>e) (λ b ps e=>⟨#[],by rw [e];simp⟩) (λ m hm=>?_) (λ b u e=>?_) I.bare
 . have e:b=it:=by simpa using hb
   subst e
   exact ⟨h1,hL,h2,h3⟩
 . obtain ⟨o,es,ep,ho,r⟩:=hm
   exact ⟨o,es,ep,k _ o (ad1 hL) ho,r⟩
 .
  refine (I.cq b u e).iz (λ c v hc q=>k c v ?_ q) (λ _ q=>q) λ _ _ q=>q
  rcases hc with z|z
  . rw [z];exact nit b u e
  . exact nit c _ z
theorem Inv.tok (I:Inv X pins U H s) (t:Nat):Inv X pins U H { s with toks:=t }:=I.un (h':=s.heap) (t':=t) Un.refl I.cq
theorem Inv.kept {t':Nat} (I:Inv X pins U H s) (k:∀ b u,s.heap.get? b=some u->h'.get? b=some u):Inv X pins U H { s with heap:=h',toks:=t' }:=I.un (Un.kept k) (I.cq.kept k)
theorem Inv.laid {a:Addr} {t':Nat} (I:Inv X pins U H s) (k:∀ b u,s.heap.get? b=some u->h'.get? b=some u) (hp:s.heap.objs.size<=a) (new:cw X.prog X.w (upd H a o) h' a o) :
   Inv X pins U (upd H a o) { s with heap:=h',toks:=t' }:=I.un (Un.laid k hp (I.cq.fresh hp)) (I.cq.laid k hp new)
theorem Inv.write {x e:Addr} {t':Nat} (I:Inv X pins U H s) (mu:Jy (H x)) (he:e=x∨H e=some (.own x)) (k:∀ b u,b≠e->s.heap.get? b=some u->h'.get? b=some u) (Il:∃ u,h'.get? e=some u) (new:cw X.prog X.w (upd H x o) h' x o):Inv X pins U (upd H x o) { s with heap:=h',toks:=t' }:=I.un (Un.write mu he k Il) (I.cq.write mu he k Il new)
theorem Inv.xY {Fs:List (Addr×Obj)} (I:Inv X pins U H s) (h:∀ p∈Fs,s.heap.get? p.1=some p.2/\H p.1=none/\p.1≠X.env.locals/\p.1∉X.fs/\∀ v,p.2.data ≠ .cell v):Inv X Fs U H s :=
 ⟨I.ok,I.os,I.bare,I.base,I.loc,I.cell,I.free,I.kn,λ p hp=>(List.mem_append.mp hp).elim (λ z=>I.pin p (aeg _ z)) (h p),I.cq,I.len⟩
theorem uX {N:List Str} (hN:N.Nodup) {i j:Nat} {x:Str} (a:N[i]?=some x) (b:N[j]?=some x):i=j:=by
 obtain ⟨h1,e1⟩:=List.getElem?_eq_some_iff.mp a
 obtain ⟨h2,e2⟩:=List.getElem?_eq_some_iff.mp b
 exact (List.getElem_inj hN).mp (e1.trans e2.symm)
theorem qH {M:Model} {A:Around} {E:Value->Shared->Prop} {i:Nat} {x:Str} {Q:Unit->Shared->Prop} (I:Inv X pins U H s) (hN:X.N.Nodup) (hi:X.N[i]?=some x) (hx:Loc X.env.scope x) (r:RelV v u) (h:∀ s',Inv X pins (U.set i (some v)) H s'->(∃ a,Heap.SameBut a s.heap s'.heap/\(a=X.env.locals∨X.env.cells.lookup x=some a))->Q () s') (hf:X.fn x=true∨X.env.scope.names.lookup x=some .local:=by first|exact .inl rfl|exact .inr rfl|assumption):wpAny M A (storeName X.env x u) Q E s:=by
 obtain ⟨m,hn,hl⟩:=id I.loc
 have PU:(X.env.scope.kind == .class || (X.env.scope.kind == .module && X.env.locals != X.env.globals))=false:=by rw [I.ok.kind];rfl
 have hiσ:i<U.length:=by rw [I.len];exact (List.getElem?_eq_some_iff.mp hi).1
 have F2:=I.F2
 have tracked:∀ {a:Addr} {h':Heap},(∃ o,s.heap.get? a=some o/\H a=none)->Heap.SameBut a s.heap h'->kI X.prog X.w H h':=λ {a h'} ha hs b ob e=>by
   obtain ⟨_,_,iD⟩:=ha
   refine (I.cq b ob e).iz (λ c w' hc q=>(hs.2 c ?_).trans q) (λ _ q=>q) λ _ _ q=>q
   rintro rfl
   rcases hc with rfl|hc
   . rw [iD] at e;cases e
   . rw [iD] at hc;cases hc
 rcases hx with hk|hk
 .
  refine wpAny_storeName_local hk hn (λ h' hn' hs=>?_) PU
  obtain ⟨oL,_,_,hoL,_⟩:=id hn
  refine h _ ⟨I.ok,I.os,I.bare,⟨λ b o e n hb hx=>?_,λ b o e n hb hx=>?_,I.base.free,λ b o e hx=>?_,I.base.ul,I.base.rJ,I.base.vf⟩,⟨_,hn',λ j y v' e1 e2 e3=>?_⟩,λ y c e=>?_,I.free,I.kn,λ p hp=>?_,tracked ⟨oL,hoL,I.free⟩ hs,by simpa using I.len⟩ ⟨_,hs,.inl rfl⟩
  . exact (hs.2 b (acW (ab4 (act e) I.ok.above))).trans (I.base.keep b o e n hb hx)
  . obtain ⟨sl,e1⟩:=I.base.slot b o e n hb hx
    exact ⟨sl,(hs.2 b (acW (ab4 (act e) I.ok.above))).trans e1⟩
  . obtain ⟨o',e1⟩:=I.base.there b o e hx
    exact ⟨o',(hs.2 b (acW (ab4 (act e) I.ok.above))).trans e1⟩
  .
   by_cases hj:j=i
   . subst hj
     rw [hi] at e1;cases e1
     rw [adt hiσ] at e2
     cases e2
     exact ⟨u,r,.inl ⟨hk,by simp⟩⟩
   .
    rw [ads (ad1 hj)] at e2
    obtain ⟨u',r',q⟩:=hl j y v' e1 e2 e3
    refine ⟨u',r',?_⟩
    rcases q with ⟨k,e⟩|⟨k,c,e,z⟩
    . refine .inl ⟨k,?_⟩
      have:y≠x:=λ e=>hj (uX hN e1 (e ▸ hi))
      simp [this,e]
    . exact .inr ⟨k,c,e,z.sameBut hs (F2 y c e)⟩
  . obtain ⟨w',z⟩:=I.cell y c e
    exact ⟨w',z.sameBut hs (F2 y c e)⟩
  . obtain ⟨e,n,ne,nf,d⟩:=I.pin p hp
    exact ⟨(hs.2 p.1 ne).trans e,n,ne,nf,d⟩
 .
  have WX:X.fn x=true:=by
    rcases hf with z|z
    . exact z
    . rw [z] at hk;cases hk
  obtain ⟨c,hc⟩:=I.ok.has x (.inl hk)
  obtain ⟨w',z⟩:=I.cell x c hc
  refine wpAny_storeName_cell I.ok.kind hk hc z (λ h' vI hs=>?_)
  obtain ⟨oc,hoc,abJ⟩:=id z
  refine h { s with heap:=h' } ⟨I.ok,I.os,I.bare,⟨λ b o e n hb hx=>?_,λ b o e n hb hx=>?_,I.base.free,λ b o e hx=>?_,I.base.ul,I.base.rJ,I.base.vf⟩,⟨m,hn.sameBut hs (ad1 (F2 x c hc)),λ j y v' e1 e2 e3=>?_⟩,λ y c' e=>?_,I.free,I.kn,λ p hp=>?_,tracked ⟨oc,hoc,I.kn x c hc⟩ hs,by simpa using I.len⟩ ⟨c,hs,.inr hc⟩
  . exact (hs.2 b (acW (ab4 (act e) (I.ok.Js x c WX hc)))).trans (I.base.keep b o e n hb hx)
  . obtain ⟨sl,e1⟩:=I.base.slot b o e n hb hx
    exact ⟨sl,(hs.2 b (acW (ab4 (act e) (I.ok.Js x c WX hc)))).trans e1⟩
  . obtain ⟨o',e1⟩:=I.base.there b o e hx
    exact ⟨o',(hs.2 b (acW (ab4 (act e) (I.ok.Js x c WX hc)))).trans e1⟩
  .
   by_cases hj:j=i
   . subst hj
     rw [hi] at e1;cases e1
     rw [adt hiσ] at e2
     cases e2
     exact ⟨u,r,.inr ⟨.inl hk,c,hc,vI⟩⟩
   .
    rw [ads (ad1 hj)] at e2
    obtain ⟨u',r',q⟩:=hl j y v' e1 e2 e3
    refine ⟨u',r',?_⟩
    rcases q with q|⟨k,c',e,z'⟩
    . exact .inl q
    . refine .inr ⟨k,c',e,z'.sameBut hs ?_⟩
      rintro rfl
      exact hj (uX hN e1 (I.ok.inj _ _ _ e hc ▸ hi))
  . by_cases hcc:c'=c
    . subst hcc;exact ⟨_,vI⟩
    . obtain ⟨w2,z2⟩:=I.cell y c' e
      exact ⟨w2,z2.sameBut hs hcc⟩
  .
   obtain ⟨e,n,ne,nf,d⟩:=I.pin p hp
   refine ⟨(hs.2 p.1 ?_).trans e,n,ne,nf,d⟩
   intro q
   rw [q,hoc] at e
   have q':oc=p.2:=aba e
   exact d w' (by rw [← q'];exact abJ)
theorem uJ {M:Model} {A:Around} {E:Value->Shared->Prop} {i:Nat} {x:Str} {Q:Unit->Shared->Prop} (I:Inv X pins U H s) (hN:X.N.Nodup) (hi:X.N[i]?=some x) (hx:Loc X.env.scope x) (r:RelV v u) (h:∀ s',Inv X pins (U.set i (some v)) H s'->Q () s') (hf:X.fn x=true∨X.env.scope.names.lookup x=some .local:=by first|exact .inl rfl|exact .inr rfl|assumption):wpAny M A (storeName X.env x u) Q E s :=
 qH I hN hi hx r (λ s' I' _=>h s' I') hf
theorem Inv.LY (I:Inv X pins U H s) (ho:s'.os=s.os) (u:Un (zH X.stack) ch H H' s.heap s'.heap) (cq:kI X.prog X.w H' s'.heap) (hg:AllBare s'.gens) (sD:∀ b∈ch,(b∈X.ex∨X.s₀.heap.objs.size<=b)/\b≠X.env.locals/\(∀ x c,X.env.cells.lookup x=some c->c≠b)/\∀ p∈X.pn++pins,p.1≠b):Inv X pins U H' s':=by
 obtain ⟨h',g',d',t',o'⟩:=s'
 have e:o'=s.os:=ho
 subst e
 exact I.call (g':=g') (t':=t') (d':=d') u cq hg sD
end
abbrev XK:=Value->Option Addr->Hp->Prop
abbrev St:=List (Option V)
abbrev VK:=V->Hp->Prop
abbrev TE:=St->Hp->VK->Prop
abbrev TT:=St->Hp->(Bool->Hp->Prop)->Prop
abbrev TA:=St->Hp->(List V->Hp->Prop)->Prop
structure Ends where
 nx:St->Hp->Prop
 rt:VK
 bk:St->Hp->Prop:=λ _ _=>False
 ct:St->Hp->Prop:=λ _ _=>False
abbrev TS:=Ends->St->Hp->Prop
inductive EP (X:Cx) (pins:List (Addr×Obj)) (U:St) (Q:VK) (u:Value) (s':Shared):Prop
 | mk (v:V) (H':Hp) (_:Inv X pins U H' s') (_:RelV v u) (_:Q v H')
def TP (X:Cx) (pins:List (Addr×Obj)) (U:St) (Q:Bool->Hp->Prop) (b:Bool) (s':Shared):Prop:=∃ H',Inv X pins U H' s'/\Q b H'
inductive AP (X:Cx) (pins:List (Addr×Obj)) (U:St) (Q:List V->Hp->Prop) (us:List Value) (s':Shared):Prop
 | mk (vs:List V) (H':Hp) (_:Inv X pins U H' s') (_:Vals vs us) (_:Q vs H')
def SP (X:Cx) (pins:List (Addr×Obj)) (D:Ends) (f:Flow) (s':Shared):Prop :=
 match f with
 | .next=>∃ σ' H',Inv X pins σ' H' s'/\D.nx σ' H'
 | .brk=>∃ σ' H',Inv X pins σ' H' s'/\D.bk σ' H'
 | .cont=>∃ σ' H',Inv X pins σ' H' s'/\D.ct σ' H'
 | .ret u=>∃ v σ' H',Inv X pins σ' H' s'/\RelV v u/\D.rt v H'
def PE (X:Cx) (e:Expr) (t:TE):Prop :=
 ∀ (pins:List (Addr×Obj)) (s:Shared) (U:St) (H:Hp) (Q:VK),Inv X pins U H s->t U H Q->wpAny (model X.prog X.w) X.A (eval e X.env) (EP X pins U Q) X.xe s
def PT (X:Cx) (e:Expr) (t:TT):Prop :=
 ∀ (pins:List (Addr×Obj)) (s:Shared) (U:St) (H:Hp) (Q:Bool->Hp->Prop),Inv X pins U H s->t U H Q->wpAny (model X.prog X.w) X.A (isTrue e X.env (eval e X.env)) (TP X pins U Q) X.xe s
def PW (X:Cx) (e:Expr) (t:TT):Prop :=
 ∀ (whole:Sem Value) (pins:List (Addr×Obj)) (s:Shared) (U:St) (H:Hp) (Q:Bool->Hp->Prop),Inv X pins U H s->t U H Q->wpAny (model X.prog X.w) X.A (isTrue e X.env whole) (TP X pins U Q) X.xe s
theorem PW.pt {X:Cx} {e:Expr} {t:TT} (h:PW X e t):PT X e t:=h _
def PA (X:Cx) (es:List Expr) (t:TA):Prop :=
 ∀ (pos:Pos) (pins:List (Addr×Obj)) (s:Shared) (U:St) (H:Hp) (Q:List V->Hp->Prop),Inv X pins U H s->t U H Q->wpAny (model X.prog X.w) X.A (spliced (backTo pos (starEach es X.env))) (AP X pins U Q) X.xe s
def PS (X:Cx) (st:Stmt) (t:TS):Prop :=
 ∀ (pins:List (Addr×Obj)) (s:Shared) (U:St) (H:Hp) (D:Ends),Inv X pins U H s->t D U H->wpAny (model X.prog X.w) X.A (exec st X.env) (SP X pins D) X.xe s
def qA (X:Cx) (st:List Stmt) (t:TS):Prop :=
 ∀ (pins:List (Addr×Obj)) (s:Shared) (U:St) (H:Hp) (D:Ends),Inv X pins U H s->t D U H->wpAny (model X.prog X.w) X.A (execs st X.env) (SP X pins D) X.xe s
theorem cx {α:Type} {t:Sem α} {Q Q':α->Shared->Prop} {M:Model} {A:Around} {E:Value->Shared->Prop} {s:Shared} (h:wpAny M A t Q E s) (hQ:∀ a s,Q a s->Q' a s):wpAny M A t Q' E s:=adF h hQ λ _ _ x=>x
section
variable {X:Cx}
inductive JI (i:Nat) (U:St) (H:Hp) (Q:VK):Prop
 | mk (v:_) (_:U[i]?=some (some v)) (_:Q v H)
def tC (v:V):TE:=λ _ H Q=>Q v H
theorem GQ {i:Nat} {x:Str} {pos:Pos} (hN:X.N[i]?=some x) (hv:MU X.env.scope x) (hd:(x == ("__debug__" : Str))=false:=by decide) (vE:(x == ("__classdict__" : Str))=false:=by decide):PE X (.Name x pos) (JI i):=by
 intro pins s U H Q I h
 obtain ⟨v,e,h⟩:=h
 obtain ⟨m,hn,hl⟩:=I.loc
 obtain ⟨u,r,l⟩:=hl i x v hN e hv
 have fin:EP X pins U Q u s:=⟨v,H,I,r,h⟩
 rcases l with ⟨hk,hm⟩|⟨hk,c,hc,gd⟩
 . exact wpAny_Name (wpAny_loadName_local I.ok.kind hk hn hm fin) hd
 . rcases hk with hk|hk
   . exact wpAny_Name (wpAny_loadName_cell I.ok.kind hk hc gd fin) hd
   . exact wpAny_Name (wpAny_loadName_free I.ok.kind hk hc gd fin vE) hd
theorem ah {i j pos}:PE X (.Constant (.int i) j pos) (tC (.int i)):=λ _ _ _ H _ I h=>wpAny_Constant_int ⟨.int i,H,I.tok _,⟨_,rfl⟩,h⟩
theorem iC {b j pos}:PE X (.Constant (.bool b) j pos) (tC (.bl b)):=λ _ _ _ H _ I h=>Constant_bool ⟨.bl b,H,I,rfl,h⟩
theorem gA {j pos}:PE X (.Constant .none j pos) (tC .cR):=λ _ _ _ H _ I h=>Constant_none ⟨.cR,H,I,rfl,h⟩
theorem bL {x j pos}:PE X (.Constant (.str x) j pos) (tC (.str x)):=λ _ _ _ H _ I h=>Calls.Constant_str ⟨.str x,H,I.tok _,⟨_,rfl⟩,h⟩
def Gl (X:Cx) (x:Str):Prop:=X.env.kindOf x=some .globalImplicit
theorem rK {E:Value->Shared->Prop} {s:Shared} {x:Str} {pos:Pos} {Q:Value->Shared->Prop} (I:Inv X pins U H s) (hg:Gl X x) (hm:X.mg x=some u) (h:Q u s) (hd:(x == ("__debug__" : Str))=false:=by decide):wpAny (model X.prog X.w) X.A (eval (.Name x pos) X.env) Q E s :=
 afI I.ok.kind hg (Calls.loadGlobal_global (by rw [I.ok.glob];exact I.mod.glob.keeps I.bk) hm h) hd
theorem jD {E:Value->Shared->Prop} {s:Shared} {x:Str} {pos:Pos} {Q:Value->Shared->Prop} (I:Inv X pins U H s) (hg:Gl X x) (hm:X.mg x=none) (hv:bootBuiltins x=some u) (h:Q u s) (hn:x ≠ "__name__":=by decide) (hd:(x == ("__debug__" : Str))=false:=by decide):wpAny (model X.prog X.w) X.A (eval (.Name x pos) X.env) Q E s:=by
 obtain ⟨mb,h1,h2⟩:=I.mod.blt
 exact afI I.ok.kind hg (Calls.loadGlobal_builtin (by rw [I.ok.glob];exact I.mod.glob.keeps I.bk) hm (by rw [I.ok.blt];exact h1.keeps I.bk) ((h2 x hn).trans hv) h) hd
theorem fP {x:Str} {pos:Pos} (hg:Gl X x) (hm:X.mg x=some u) (r:RelV v u) (hd:(x == ("__debug__" : Str))=false:=by decide):PE X (.Name x pos) (tC v) :=
 λ _ _ _ H _ I h=>rK I hg hm ⟨v,H,I,r,h⟩ hd
theorem xT {x:Str} {pos:Pos} (hg:Gl X x) (hm:X.mg x=none) (hv:bootBuiltins x=some u) (r:RelV v u) (hn:x ≠ "__name__":=by decide) (hd:(x == ("__debug__" : Str))=false:=by decide):PE X (.Name x pos) (tC v) :=
 λ _ _ _ H _ I h=>jD I hg hm hv ⟨v,H,I,r,h⟩ hn hd
variable {a b:Expr} {ta tb:TE} {pos:Pos}
def tB (t:TE):TT:=λ U H Q=>t U H λ x H1=>∃ c,x = .bl c/\Q c H1
theorem cy {e:Expr} {t:TE} (h:PE X e t) (he:∀ whole,isTrue e X.env whole=(do let v ← whole;standAt e.pos;holding [v] (truthy v)):=by intro _;rfl):PT X e (tB t):=by
 intro pins s U H Q I hw
 refine isTrue_plain (cx (h pins s U H _ I hw) λ v s1 ⟨x,H1,I1,r1,q1⟩=>?_) (he _)
 obtain ⟨d,rfl,q⟩:=q1
 cases r1
 exact adE ⟨H1,I1,q⟩
variable {tA Mz:TT} {rest:List Expr}
def QY (t u:TT):TT:=λ U H Q=>t U H λ c H1=>if c=true then u U H1 Q else Q false H1
def tOr (t u:TT):TT:=λ U H Q=>t U H λ c H1=>if c=true then Q true H1 else u U H1 Q
def Tp (t:TT):TT:=λ U H Q=>t U H λ c H1=>Q (!c) H1
theorem sj (ha:PT X a tA):PW X (.BoolOp .And [a] pos) tA:=by
 intro wh pins s U H Q I h
 refine isTrue_and (cx (ha pins s U H Q I h) λ c s1 e=>?_)
 cases c with
 | true=>exact isTrue_and_nil e
 | false=>exact e
theorem ma (ha:PT X a tA):PW X (.BoolOp .Or [a] pos) tA:=by
 intro wh pins s U H Q I h
 refine isTrue_or (cx (ha pins s U H Q I h) λ c s1 e=>?_)
 cases c with
 | false=>exact isTrue_or_nil e
 | true=>exact e
theorem wB (ha:PT X a tA) (hb:PW X (.BoolOp .And (b::rest) pos) Mz):PW X (.BoolOp .And (a::b::rest) pos) (QY tA Mz):=by
 intro wh pins s U H Q I h
 refine isTrue_and (cx (ha pins s U H _ I h) λ c s1 ⟨H1,I1,q1⟩=>?_)
 cases c with
 | true=>exact hb wh pins s1 U H1 Q I1 q1
 | false=>exact ⟨H1,I1,q1⟩
theorem pC (ha:PT X a tA) (hb:PW X (.BoolOp .Or (b::rest) pos) Mz):PW X (.BoolOp .Or (a::b::rest) pos) (tOr tA Mz):=by
 intro wh pins s U H Q I h
 refine isTrue_or (cx (ha pins s U H _ I h) λ c s1 ⟨H1,I1,q1⟩=>?_)
 cases c with
 | true=>exact ⟨H1,I1,q1⟩
 | false=>exact hb wh pins s1 U H1 Q I1 q1
theorem dA (ha:PT X a tA):PT X (.UnaryOp .Not a pos) (Tp tA):=by
 intro pins s U H Q I h
 exact isTrue_not (ha pins s U H (λ c H1=>Q (!c) H1) I h)
def LC (ta tb:TE):TE:=λ U H Q=>ta U H λ x H1=>∃ c,x = .bl c/\if c=true then tb U H1 Q else Q (.bl false) H1
def Zd (ta tb:TE):TE:=λ U H Q=>ta U H λ x H1=>∃ c,x = .bl c/\if c=true then Q (.bl true) H1 else tb U H1 Q
def Kf (ta:TE):TE:=λ U H Q=>ta U H λ x H1=>∃ c,x = .bl c/\Q (.bl (!c)) H1
theorem or {op} {t:TE} (h:PE X a t):PE X (.BoolOp op [a] pos) t:=λ pins s U H Q I hw=>BoolOp_one (h pins s U H Q I hw)
theorem oX (ha:PE X a ta) (hb:PE X (.BoolOp .And (b::rest) pos) tb):PE X (.BoolOp .And (a::b::rest) pos) (LC ta tb):=by
 intro pins s U H Q I h
 refine BoolOp_and (cx (ha pins s U H _ I h) λ v s1 ⟨x,H1,I1,r1,q1⟩=>?_)
 obtain ⟨c,rfl,q1⟩:=q1
 cases r1
 refine adE ?_
 cases c with
 | true=>exact hb pins s1 U H1 Q I1 q1
 | false=>exact ⟨.bl false,H1,I1,rfl,q1⟩
theorem Ln (ha:PE X a ta) (hb:PE X (.BoolOp .Or (b::rest) pos) tb):PE X (.BoolOp .Or (a::b::rest) pos) (Zd ta tb):=by
 intro pins s U H Q I h
 refine BoolOp_or (cx (ha pins s U H _ I h) λ v s1 ⟨x,H1,I1,r1,q1⟩=>?_)
 obtain ⟨c,rfl,q1⟩:=q1
 cases r1
 refine adE ?_
 cases c with
 | false=>exact hb pins s1 U H1 Q I1 q1
 | true=>exact ⟨.bl true,H1,I1,rfl,q1⟩
theorem rq (ha:PE X a ta):PE X (.UnaryOp .Not a pos) (Kf ta):=by
 intro pins s U H Q I h
 refine UnaryOp_ (cx (ha pins s U H _ I h) λ v s1 ⟨x,H1,I1,r1,q1⟩=>?_)
 obtain ⟨c,rfl,q1⟩:=q1
 cases r1
 exact not_of (adE ⟨.bl (!c),H1,I1,rfl,q1⟩)
def tIf (t:TT) (ta tb:TE):TE:=λ U H Q=>t U H λ c H1=>if c=true then ta U H1 Q else tb U H1 Q
theorem Bl {c:Expr} (hc:PT X c tA) (ha:PE X a ta) (hb:PE X b tb):PE X (.IfExp c a b pos) (tIf tA ta tb):=by
 intro pins s U H Q I h
 refine wpAny_IfExp (cx (hc pins s U H _ I h) λ d s1 ⟨H1,I1,q1⟩=>?_)
 cases d with
 | true=>exact ha pins s1 U H1 Q I1 q1
 | false=>exact hb pins s1 U H1 Q I1 q1
end
def aV (K:W.Frag) (H:Hp) (a:Addr) (xs:List V):Prop :=
 Rd H a (.lst xs) ∨
   ∃ (o:Obj) (bf:Array Value) (n:Nat),K.lookup a=some o/\o.cls = .type "list"/\o.dict=none/\o.data = .seq bf n/\bf.size<=sizeLine/\Vals xs bf.toList
def bU (K:W.Frag) (H:Hp) (a:Addr) (xs:List V):Prop :=
 Rd H a (.tup xs) ∨
   ∃ (o:Obj) (bf:Array Value) (n:Nat),K.lookup a=some o/\o.cls = .type "tuple"/\o.data = .seq bf n/\bf.size<=sizeLine/\Vals xs bf.toList
def UM:Value->Option V
 | .none=>some .cR
 | .bool b=>some (.bl b)
 | .int i _=>some (.int i)
 | .str x _=>some (.str x)
 | .bytes b _=>some (.yR b)
 | .float b _=>some (.FC b)
 | .ref a=>some (.ref a)
 | .type n=>some (.ty n)
 | _=>none
theorem RelV.abs {x:V} (r:RelV x u):UM u=some x:=by
 cases x with
 | cR=>cases r;rfl
 | bl _=>cases r;rfl
 | int _=>obtain ⟨t,rfl⟩:=r;rfl
 | str _=>obtain ⟨t,rfl⟩:=r;rfl
 | yR _=>obtain ⟨t,rfl⟩:=r;rfl
 | FC _=>obtain ⟨t,rfl⟩:=r;rfl
 | ref _=>cases r;rfl
 | ty _=>cases r;rfl
theorem RelV.inj {x y:V} (r:RelV x u) (q:RelV y u):x=y:=aba (r.abs.symm.trans q.abs)
theorem Vals.inj:∀ {xs ys:List V} {us:List Value},Vals xs us->Vals ys us->xs=ys
 | _,_,_,.nil,.nil=>rfl
 | _,_,_,.cons r t,.cons r' t'=>by rw [r.inj r',Vals.inj t t']
section
variable {X:Cx} {pins:List (Addr×Obj)} {U:St} {H:Hp} {s:Shared} {a:Addr} {xs ys:List V}
theorem aV.of {K:W.Frag} (h:H a=some (.lst xs)):aV K H a xs:=.inl (.inl h)
theorem bU.of {K:W.Frag} (h:H a=some (.tup xs)):bU K H a xs:=.inl (.inl h)
theorem Inv.list (I:Inv X pins U H s) (h:aV X.K H a xs):∃ bf:List Value,Vals xs bf/\PlainL s.heap a bf.toArray/\xs.length<=sizeLine:=by
 rcases h with h|⟨o,bf,n,hk,hc,hd,hs,hz,r⟩
 . obtain ⟨z,bf,n,r,e⟩:=h.ok I.cq
   exact ⟨bf,r,⟨_,n,e,rfl,rfl,rfl⟩,z⟩
 .
  refine ⟨bf.toList,r,⟨o,n,I.nE a o hk,hc,hd,by simpa using hs⟩,?_⟩
  have e:=r.length
  simp only [aeS] at e
  lia
theorem Inv.tuple (I:Inv X pins U H s) (h:bU X.K H a xs):∃ bf:List Value,Vals xs bf/\IsTup s.heap a bf.toArray/\xs.length<=sizeLine:=by
 rcases h with h|⟨o,bf,n,hk,hc,hs,hz,r⟩
 . obtain ⟨z,bf,r,p⟩:=h.ok I.cq
   exact ⟨bf,r,p,z⟩
 .
  refine ⟨bf.toList,r,⟨o,I.nE a o hk,hc,n,by simpa using hs⟩,?_⟩
  have e:=r.length
  simp only [aeS] at e
  lia
theorem Inv.kX (I:Inv X pins U H s) (h:aV X.K H a xs) (h':aV X.K H a ys):xs=ys:=by
 obtain ⟨bf,r,⟨o,n,e,_,_,d⟩,_⟩:=I.list h
 obtain ⟨its',r',⟨o',n',e',_,_,d'⟩,_⟩:=I.list h'
 rw [e] at e';cases e'
 rw [d] at d'
 injection d' with d1 _
 have:bf=its':=by simpa using aea Array.toList d1
 subst this
 exact r.inj r'
theorem Inv.yB (I:Inv X pins U H s) (h:bU X.K H a xs) (h':bU X.K H a ys):xs=ys:=by
 obtain ⟨bf,r,⟨o,e,_,n,d⟩,_⟩:=I.tuple h
 obtain ⟨its',r',⟨o',e',_,n',d'⟩,_⟩:=I.tuple h'
 rw [e] at e';cases e'
 rw [d] at d'
 injection d' with d1 _
 have:bf=its':=by simpa using aea Array.toList d1
 subst this
 exact r.inj r'
end
abbrev Cx.kh (X:Cx) (E:Value->Shared->Prop):Cx:={ X with xe:=E }
abbrev Cx.AY (X:Cx):Cx:=X.kh λ _ _=>False
theorem Cx.Ok.kh {X:Cx} (ok:X.Ok) (E:Value->Shared->Prop):(X.kh E).Ok :=
 ⟨ok.mod,ok.kind,ok.glob,ok.blt,ok.above,ok.inj,ok.has,ok.Js,ok.hd,ok.frames,ok.M4,ok.exf,ok.bs,ok.FE,ok.BC,ok.Df,ok.ng,ok.HB⟩
theorem Cx.Ok.jB {X:Cx} {E:Value->Shared->Prop} (ok:(X.kh E).Ok):X.Ok :=
 ⟨ok.mod,ok.kind,ok.glob,ok.blt,ok.above,ok.inj,ok.has,ok.Js,ok.hd,ok.frames,ok.M4,ok.exf,ok.bs,ok.FE,ok.BC,ok.Df,ok.ng,ok.HB⟩
section
variable {X:Cx} {pins:List (Addr×Obj)} {U:St} {H:Hp} {s:Shared} {E:Value->Shared->Prop}
theorem Inv.kh (I:Inv X pins U H s) (E:Value->Shared->Prop):Inv (X.kh E) pins U H s:=⟨I.ok.kh E,I.os,I.bare,I.base,I.loc,I.cell,I.free,I.kn,I.pin,I.cq,I.len⟩
theorem Inv.jB (I:Inv (X.kh E) pins U H s):Inv X pins U H s:=⟨I.ok.jB,I.os,I.bare,I.base,I.loc,I.cell,I.free,I.kn,I.pin,I.cq,I.len⟩
theorem SP.jB {D:Ends} {f:Flow} (h:SP (X.kh E) pins D f s'):SP X pins D f s':=by
 cases f with
 | next=>obtain ⟨σ',H',I,q⟩:=h;exact ⟨σ',H',I.jB,q⟩
 | brk=>obtain ⟨σ',H',I,q⟩:=h;exact ⟨σ',H',I.jB,q⟩
 | cont=>obtain ⟨σ',H',I,q⟩:=h;exact ⟨σ',H',I.jB,q⟩
 | ret u=>obtain ⟨v,σ',H',I,r,q⟩:=h;exact ⟨v,σ',H',I.jB,r,q⟩
theorem qA.AY {st:List Stmt} {t:TS} (h:qA X.AY st t):qA X st t:=λ pins s U H D I hw =>
 adF (h pins s U H D (I.kh _) hw) (λ _ _ q=>q.jB) λ _ _ z=>False.elim z
end
section
variable {X:Cx} {st:Stmt} {rest:List Stmt} {t u:TS} {e:Expr} {te:TE} {pos:Pos}
def IE:TS:=λ D U H=>D.nx U H
def aK (t u:TS):TS:=λ D U H=>t { D with nx:=u D } U H
theorem aJ:qA X [] IE:=λ _ _ U H _ I h=>aeT ⟨U,H,I,h⟩
theorem af (h1:PS X st t) (h2:qA X rest u):qA X (st::rest) (aK t u):=by
 intro pins s U H D I h
 refine wpAny_execs_cons (cx (h1 pins s U H { D with nx:=u D } I h) λ f s1 q=>?_)
 cases f with
 | next =>
   obtain ⟨σ',H',I',q⟩:=q
   exact h2 pins s1 σ' H' D I' q
 | ret v=>exact q
 | brk=>exact q
 | cont=>exact q
theorem am (h1:PS X st t):qA X [st] t:=by
 intro pins s U H D I h
 refine wpAny_execs_cons (cx (h1 pins s U H D I h) λ f s1 q=>?_)
 cases f with
 | next=>exact aeT q
 | ret v=>exact q
 | brk=>exact q
 | cont=>exact q
theorem Inv.quiet {s:Shared} (I:Inv X pins U H s):interactive X.env=false:=by simp [interactive,I.ok.kind]
def JD (te:TE):TS:=λ D U H=>te U H λ _ H1=>D.nx U H1
theorem bi (he:PE X e te) (hs:swapsWith e none pos.line X.env=pure false:=by rfl):PS X (.Expr e pos) (JD te):=by
 intro pins s U H D I h
 exact wpAny_Expr_any (cx (he pins s U H _ I h) λ v s1 ⟨x,H1,I1,r1,q1⟩=>⟨U,H1,I1,q1⟩) I.quiet hs
def RG (te:TE):TS:=λ D U H=>te U H D.rt
theorem aF (he:PE X e te):PS X (.Return (some e) pos) (RG te):=by
 intro pins s U H D I h
 exact wpAny_Return_some (cx (he pins s U H _ I h) λ v s1 ⟨x,H1,I1,r1,q1⟩=>⟨x,U,H1,I1,r1,q1⟩)
def NH (c:TT) (t u:TS):TS:=λ D U H=>c U H λ b H1=>if b=true then t D U H1 else u D U H1
theorem bA {c:Expr} {a b:List Stmt} {tc:TT} (hc:PT X c tc) (ha:qA X a t) (hb:qA X b u):PS X (.If c a b pos) (NH tc t u):=by
 intro pins s U H D I h
 refine wpAny_If (cx (hc pins s U H _ I h) λ d s1 ⟨H1,I1,q1⟩=>?_)
 cases d with
 | true=>exact ha pins s1 U H1 D I1 q1
 | false=>exact hb pins s1 U H1 D I1 q1
def G2:TS:=λ _ _ _=>False
theorem bY:PS X st G2:=λ _ _ _ _ _ _ h=>h.elim
end
abbrev TG:=V->St->Hp->(St->Hp->Prop)->Prop
abbrev GA:=List V->St->Hp->(St->Hp->Prop)->Prop
def PG (X:Cx) (target:Expr) (t:TG):Prop :=
 ∀ (pins:List (Addr×Obj)) (s:Shared) (U:St) (H:Hp) (v:V) (u:Value) (Q:St->Hp->Prop),Inv X pins U H s->RelV v u->t v U H Q ->
   wpAny (model X.prog X.w) X.A (assign target X.env u) (λ _ s'=>∃ σ' H',Inv X pins σ' H' s'/\Q σ' H') X.xe s
def Iu (X:Cx) (ts:List Expr) (t:GA):Prop :=
 ∀ (pins:List (Addr×Obj)) (s:Shared) (U:St) (H:Hp) (vs:List V) (us:List Value) (Q:St->Hp->Prop),Inv X pins U H s->Vals vs us->t vs U H Q ->
   wpAny (model X.prog X.w) X.A (assignInOrder ((assignEach ts X.env).map (·.2)) us) (λ _ s'=>∃ σ' H',Inv X pins σ' H' s'/\Q σ' H') X.xe s
abbrev GY:=V->V->V->Hp->(Hp->Prop)->Prop
def JS (X:Cx) (t:GY):Prop :=
 ∀ (pins:List (Addr×Obj)) (s:Shared) (U:St) (H:Hp) (o i v:V) (ov iv u:Value) (Q:Hp->Prop),Inv X pins U H s->RelV o ov->RelV i iv->RelV v u->t o i v H Q ->
   wpAny (model X.prog X.w) X.A (setItem ov iv u) (λ _ s'=>∃ H',Inv X pins U H' s'/\Q H') X.xe s
section
variable {X:Cx} {pos:Pos}
def ye (i:Nat):TG:=λ v U H Q=>Q (U.set i (some v)) H
theorem aE {i:Nat} {x:Str} (hN:X.N.Nodup) (hi:X.N[i]?=some x) (hx:Loc X.env.scope x) (hf:X.fn x=true∨X.env.scope.names.lookup x=some .local:=by first|exact .inl rfl|exact .inr rfl|assumption):PG X (.Name x pos) (ye i):=by
 intro pins s U H v u Q I r h
 exact wpAny_assign_Name (uJ I hN hi hx r (λ s' I'=>⟨_,H,I',h⟩) hf)
def aay:GA:=λ vs U H Q=>vs=[]/\Q U H
inductive JP (t:TG) (u:GA) (vs:List V) (U:St) (H:Hp) (Q:(St->Hp->Prop)):Prop
 | mk (v r:_) (_:vs=v::r) (_:t v U H λ σ' H'=>u r σ' H' Q)
theorem eX:Iu X [] aay:=by
 intro pins s U H vs us Q I r h
 obtain ⟨e,h⟩:=h
 subst e
 cases r
 exact assignInOrder_nil ⟨U,H,I,h⟩
theorem aT {e:Expr} {t:TG} {u:GA} (h1:PG X e t) (h2:Iu X es u) (hs:(assignEach (e::es) X.env).map (·.2)=assign e X.env::(assignEach es X.env).map (·.2):=by rfl):Iu X (e::es) (JP t u):=by
 intro pins s U H vs us Q I r h
 obtain ⟨v,vr,e1,h⟩:=h
 subst e1
 cases r with
 | cons r rr =>
   rw [hs]
   refine assignInOrder_cons (cx (h1 pins s U H _ _ _ I r h) λ _ s1 ⟨σ1,H1,I1,q1⟩=>?_)
   exact h2 pins s1 σ1 H1 _ _ Q I1 rr q1
inductive KI (K:W.Frag) (n:Nat) (t:GA) (v:V) (U:St) (H:Hp) (Q:(St->Hp->Prop)):Prop
 | mk (a xs:_) (_:v = .ref a) (_:bU K H a xs) (_:xs.length=n) (_:t xs U H Q)
theorem Hk {k:Nat} {t:GA} {n:Nat} (hc:X.calm=true) (h:Iu X es t) (hn:(assignEach es X.env).length=n:=by rfl) (nW:(assignEach es X.env).findIdx? (·.1)=none:=by rfl):PG X (.Tuple es k pos) (KI X.K n t):=by
 intro pins s U H v u Q I r hw
 obtain ⟨a,xs,e1,hq,hl,hw⟩:=hw
 subst e1
 cases r
 obtain ⟨bf,rv,ht,hz⟩:=I.tuple hq
 refine assign_Tuple_tuple (I.ok.hd hc) ht (by simp [hn,← hl,rv.length]) nW λ h' hx=>?_
 have I1:Inv X pins U H { s with heap:=h' }:=I.kept (t':=s.toks) λ b o e=>hx b o (acW (act e)) e
 exact h pins _ U H xs _ Q I1 (by simpa using rv) hw
def WP (to ti:TE) (t:GY):TG:=λ v U H Q=>to U H λ o H1=>ti U H1 λ i H2=>t o i v H2 λ H3=>Q U H3
theorem pr {o i:Expr} {to ti:TE} {t:GY} (ho:PE X o to) (hi:PE X i ti) (hs:JS X t) (ha:∀ v,assign (.Subscript o i pos) X.env v=(do
     let ov ← holding [v] (eval o X.env)
     let iv ← holding [v,ov] (eval i X.env)
     standAt pos
     holding [v,ov,iv] (setItem ov iv v)
     release [v,ov,iv] []):=by intro _;rfl):PG X (.Subscript o i pos) (WP to ti t):=by
 intro pins s U H v u Q I r h
 rw [ha]
 refine abn (ae6 (cx (ho pins s U H _ I h) λ ov s1 ⟨x,H1,I1,r1,q1⟩=>?_))
 refine abn (ae6 (cx (hi pins s1 U H1 _ I1 q1) λ iv s2 ⟨y,H2,I2,r2,q2⟩=>?_))
 refine abn (wpAny_standAt (abn (ae6 (cx (hs pins s2 U H2 x y v ov iv u _ I2 r1 r2 r q2) λ _ s3 ⟨H3,I3,q3⟩=>?_))))
 exact wpAny_release ⟨U,H3,I3,q3⟩
def E1 (te:TE) (g:TG):TS:=λ D U H=>te U H λ x H1=>g x U H1 D.nx
theorem gC {e:Expr} (he:PE X e te) (hg:PG X tg g) (hs:swapsWithSole [tg] e pos.line X.env=pure false:=by rfl) (hw:swappedStores [tg] e X.env=pure none:=by rfl) (h1:(assignEach [tg] X.env).map (·.2)=[assign tg X.env]:=by rfl):PS X (.Assign [tg] e pos) (E1 te g):=by
 intro pins s U H D I h
 refine wpAny_Assign_stores (cx (he pins s U H _ I h) λ v s1 ⟨x,H1,I1,r1,q1⟩=>?_) hs hw
 rw [h1]
 exact cx (hg pins s1 U H1 x v _ I1 r1 q1) λ _ s2 q=>q
theorem aB {i:Nat} {x:Str} {e:Expr} {pos':Pos} (hN:X.N.Nodup) (hi:X.N[i]?=some x) (hx:Loc X.env.scope x) (he:PE X e te) (hs:swapsWith e (some (.Name x pos')) pos.line X.env=pure false:=by rfl) (hf:X.fn x=true∨X.env.scope.names.lookup x=some .local:=by first|exact .inl rfl|exact .inr rfl|assumption) :
   PS X (.Assign [.Name x pos'] e pos) (E1 te (ye i)):=by
 intro pins s U H D I h
 refine wpAny_Assign_Name (cx (he pins s U H _ I h) λ v s1 ⟨y,H1,I1,r1,q1⟩=>?_) hs
 exact uJ I1 hN hi hx r1 (λ s2 I2=>⟨_,H1,I2,q1⟩) hf
end
section
variable {X:Cx} {pos:Pos}
def HI (c:TT) (tb:TS):TS:=λ D U H=>∃ W:Nat->St->Hp->Prop,(∃ m,W m U H)/\∀ m U H,W m U H ->
 c U H λ b H1=>if b=true then ∃ N:St->Hp->Prop,(∀ σ' H',N σ' H'->∃ m',m'<m/\W m' σ' H')/\tb { D with nx:=N,ct:=N,bk:=D.nx } U H1 else D.nx U H1
theorem tZ {c:Expr} {body:List Stmt} {tc:TT} (hp:PassesOwn (model X.prog X.w) X.A X.env X.xe) (hc:PT X c tc) (hb:qA X body tb):PS X (.While c body [] pos) (HI tc tb):=by
 intro pins s U H D I h
 obtain ⟨W,⟨m0,w0⟩,turn⟩:=h
 refine wpAny_While (codeAny_whileLoop (λ n s'=>∃ σ' H',Inv X pins σ' H' s'/\W n σ' H') ?_ m0 ⟨U,H,I,w0⟩)
 rintro n s1 ⟨σ1,H1,I1,w1⟩
 refine adY hp (cx (hc pins s1 σ1 H1 _ I1 (turn n σ1 H1 w1)) λ b s2 ⟨H2,I2,q2⟩=>?_)
 cases b with
 | true =>
   obtain ⟨N,hN,q2⟩:=q2
   rw [abS rfl]
   refine adY hp (cx (hb pins s2 σ1 H2 _ I2 q2) λ f s3 q3=>?_)
   cases f with
   | next =>
     obtain ⟨σ3,H3,I3,n3⟩:=q3
     obtain ⟨m',hm,w3⟩:=hN σ3 H3 n3
     exact ⟨m',hm,σ3,H3,I3,w3⟩
   | cont =>
     obtain ⟨σ3,H3,I3,n3⟩:=q3
     obtain ⟨m',hm,w3⟩:=hN σ3 H3 n3
     exact ⟨m',hm,σ3,H3,I3,w3⟩
   | brk=>exact q3
   | ret v=>exact q3
 | false =>
   rw [abZ acT]
   exact aeT ⟨σ1,H2,I2,q2⟩
end
structure It where
 go:Nat->Hp->Prop
 BK:Nat->Hp->V->Hp->Prop
 stop:Nat->Hp->Prop
def qf (X:Cx) (pins:List (Addr×Obj)) (H:Hp) (b:Addr):Prop :=
 H b=none/\b≠X.env.locals/\b∉X.fs/\(b∈X.ex∨X.s₀.heap.objs.size<=b)/\(∀ x c,X.env.cells.lookup x=some c->c≠b)/\∀ p∈X.pn++pins,p.1≠b
theorem Inv.uO {X:Cx} {H':Hp} {s:Shared} {b:Addr} (I:Inv X pins U H s) (hb:s.heap.objs.size<=b) (hn:H' b=none):qf X pins H' b:=by
 refine ⟨hn,ae0 (ab4 I.lt hb),I.X0 hb,.inr (adf I.sz hb),λ x c e z=>?_,λ p hp z=>?_⟩
 . obtain ⟨v,q⟩:=I.cell x c e
   exact absurd (ab4 q.lt (by rw [z];exact hb)) (adM _)
 . exact absurd (ab4 (act (I.pin p hp).1) (by rw [z];exact hb)) (adM _)
structure Turn (P:Program) (w:World) (K:W.Frag) (tg:Expr) (J:It) (fp:List Addr) (it:Addr) (tn:Nat->Heap->Prop):Prop where
 mem:it∈fp
 obj:∀ i h,tn i h->∀ b∈fp,∃ o,h.get? b=some o/\∀ v,o.data ≠ .cell v
 keep:∀ i h h',tn i h->(∀ b∈fp,∀ o,h.get? b=some o->h'.get? b=some o)->tn i h'
 item:∀ (X:Cx),X.prog=P->X.w=w->X.K=K->X.calm=true->∀ (i:Nat) (pins:List (Addr×Obj)) (s:Shared) (U:St) (H:Hp) (E:Value->Shared->Prop),Inv X pins U H s->(∀ b∈fp,qf X pins H b)->tn i s.heap->J.go i H ->
   wpAny (model P w) X.A (pyNext (.ref it)) (λ r s1=>∃ u,r=some u /\
     wpAny (model P w) X.A (letOwnedTupleGo tg (.ref it) u) (λ _ s2=>∃ x H',Inv X pins U H' s2/\RelV x u/\J.BK i H x H'/\tn (i+1) s2.heap/\∀ b∈fp,H' b=none) E s1) E s
 done:∀ (X:Cx),X.prog=P->X.w=w->X.K=K->X.calm=true->∀ (i:Nat) (pins:List (Addr×Obj)) (s:Shared) (U:St) (H:Hp) (E:Value->Shared->Prop),Inv X pins U H s->(∀ b∈fp,qf X pins H b)->tn i s.heap->J.stop i H ->
   wpAny (model P w) X.A (pyNext (.ref it)) (λ r s1=>r=none/\Inv X pins U H s1) E s
 self:∀ (A:Around) (i:Nat) (s:Shared) (Q:Value->Shared->Prop) (E:Value->Shared->Prop),tn i s.heap->Q (.ref it) s->wpAny (model P w) A (pyIter (.ref it)) Q E s
abbrev TI:=St->Hp->(It->Hp->Prop)->Prop
def PIE (X:Cx) (pins:List (Addr×Obj)) (U:St) (tg:Expr) (R:It->Hp->Prop) (VF:Value) (s2:Shared):Prop :=
 ∃ (it:Addr) (fp:List Addr) (tn:Nat->Heap->Prop) (J:It) (H':Hp),VF = .ref it/\Inv X pins U H' s2/\Turn X.prog X.w X.K tg J fp it tn/\tn 0 s2.heap/\(∀ b∈fp,qf X pins H' b)/\R J H'
def PI (X:Cx) (tg iter:Expr) (wi:TI):Prop :=
 ∀ (pins:List (Addr×Obj)) (s:Shared) (U:St) (H:Hp) (R:It->Hp->Prop),Inv X pins U H s->wi U H R ->
   wpAny (model X.prog X.w) X.A (eval iter X.env) (λ v s1=>wpAny (model X.prog X.w) X.A (pyIter v) (PIE X pins U tg R) X.xe s1) X.xe s
theorem Fu {M:Model} {A:Around} {E:Value->Shared->Prop} {s:Shared} {o:Obj} {n:String} {vs:Array Value} {Q:Unit->Shared->Prop} (ho:s.heap.get? it=some o) (hc:o.cls = .type n) (hd:o.data = .fields vs) (hn:["enumerate","zip","dict_itemiterator","dict_reverseitemiterator","odict_iterator","itertools.zip_longest","itertools.pairwise"].contains n=false) (hQ:Q () s):wpAny M A (letOwnedTupleGo tg (.ref it) u) Q E s:=by
 unfold letOwnedTupleGo
 cases tg<;>first
   | exact ac9 hQ
   | (cases u<;>first
       | exact ac9 hQ
       | (refine abn (wpAny_load ho ?_)
          rw [hc,hd]
          show wpAny M A (if (["enumerate","zip","dict_itemiterator","dict_reverseitemiterator","odict_iterator","itertools.zip_longest","itertools.pairwise"].contains n && vs[0]? == some (rawInt _))=true then _ else _) Q E s
          rw [abZ (by intro h;rw [hn,afl] at h;cases h)]
          exact ac9 hQ))
def Az (K:W.Frag) (a:Addr):It :=
 ⟨λ i H=>∃ xs x,aV K H a xs/\xs[i]?=some x,λ i H x H'=>H'=H/\∀ xs,aV K H a xs->xs[i]?=some x,λ i H=>∃ xs,aV K H a xs/\xs.length<=i⟩
def zJ (lo:Int) (n:Nat):It:=⟨λ i _=>i<n,λ i H x H'=>H'=H/\x = .int (lo+i),λ i _=>n<=i⟩
theorem zk {P:Program} {w:World} {K:W.Frag} (a it:Addr):Turn P w K tg (Az K a) [it] it (λ i h=>h.IsListIter it a i) where
 mem:=by simp
 obj:=λ i h st b hb=>by
   have e:b=it:=by simpa using hb
   subst e
   obtain ⟨o,e,c,d⟩:=st
   exact ⟨o,e,λ v z=>by rw [d] at z;cases z⟩
 keep:=λ i h h' st k=>st.at λ o e=>k it (by simp) o e
 item:=by
   intro X hP hw hK hc i pins s U H E I hf st hg
   subst hP hw hK
   obtain ⟨xs,x,hq,hx⟩:=hg
   obtain ⟨bf,rv,p,hz⟩:=I.list hq
   obtain ⟨u,hu,ru⟩:=rv.get hx
   obtain ⟨f0,f1,f2,f3,f4,f5⟩:=hf it (by simp)
   refine wpAny_pyNext_list_item st p.isList (x:=u) (by simpa using hu) λ h' Co sb=>?_
   have I1:Inv X pins U H { s with heap:=h' }:=I.turned (t':=s.toks) (λ b o hb e=>(sb.2 b hb).trans e) f0 f1 f3 f4 f5
   obtain ⟨o,e,c,d⟩:=id Co
   exact ⟨u,rfl,Fu (s:={ s with heap:=h' }) e c d (by decide) ⟨x,H,I1,ru,⟨rfl,λ ys hy=>by rw [I.kX hy hq];exact hx⟩,Co,λ b hb=>(hf b hb).1⟩⟩
 done:=by
   intro X hP hw hK hc i pins s U H E I hf st hg
   subst hP hw hK
   obtain ⟨xs,hq,hx⟩:=hg
   obtain ⟨bf,rv,p,hz⟩:=I.list hq
   obtain ⟨f0,f1,f2,f3,f4,f5⟩:=hf it (by simp)
   have hl:=rv.length
   exact wpAny_pyNext_list_end (I.ok.hd hc) st p.isList (by simp;lia) λ h' eb=>⟨rfl,I.turned (t':=s.toks) (λ b o hb e=>eb b o hb e) f0 f1 f3 f4 f5⟩
 self:=λ _ _ _ _ _ st h=>wpAny_pyIter_listiter st h
theorem wE {P:Program} {w:World} {K:W.Frag} (it:Addr) (lo:Int) (n:Nat):Turn P w K tg (zJ lo n) [it] it (λ i h=>IsRangeIter h it (lo+(i:Nat) * 1) ((n:Int) - (i:Nat)) 1) where
 mem:=by simp
 obj:=λ i h st b hb=>by
   have e:b=it:=by simpa using hb
   subst e
   exact ⟨_,st,λ v z=>by
     have z':Data.fields _=Data.cell v:=z
     cases z'⟩
 keep:=λ i h h' st k=>k it (by simp) _ st
 item:=by
   intro X hP hw hK hc i pins s U H E I hf st hg
   subst hP hw hK
   obtain ⟨f0,f1,f2,f3,f4,f5⟩:=hf it (by simp)
   have W:=Walks.range (prog:=X.prog) (w:=X.w) (I.ok.hd hc) it lo 1 n
   refine W.item i s _ _ hg st λ v h' tk hv Co kk=>?_
   obtain ⟨t,rfl⟩:=hv
   have I1:Inv X pins U H { s with heap:=h',toks:=tk }:=I.turned (λ b o hb e=>kk b o (by simpa using hb) e) f0 f1 f3 f4 f5
   refine ⟨_,rfl,Fu (s:={ s with heap:=h',toks:=tk }) (n:="range_iterator") Co rfl rfl (by decide) ⟨.int (lo+i),H,I1,⟨t,?_⟩,⟨rfl,rfl⟩,Co,λ b hb=>(hf b hb).1⟩⟩
   rw [Int.mul_one]
 done:=by
   intro X hP hw hK hc i pins s U H E I hf st hg
   subst hP hw hK
   obtain ⟨f0,f1,f2,f3,f4,f5⟩:=hf it (by simp)
   exact wpAny_pyNext_range_end (I.ok.hd hc) st (by have:n<=i:=hg;lia) λ h' eb=>⟨rfl,I.turned (t':=s.toks) (λ b o hb e=>eb b o hb e) f0 f1 f3 f4 f5⟩
 self:=λ _ _ _ _ _ st h=>wpAny_pyIter_rangeiter st h
section
variable {X:Cx} {tg:Expr}
inductive aae (K:W.Frag) (R:It->Hp->Prop) (x:V) (H1:Hp):Prop
 | mk (a:Addr) (h1:x = .ref a) (h2:∃ xs,aV K H1 a xs) (q:R (Az K a) H1)
def Ks (K:W.Frag) (tl:TE):TI:=λ U H R=>tl U H (aae K R)
theorem cB {l:Expr} {tl:TE} (hl:PE X l tl):PI X tg l (Ks X.K tl):=by
 intro pins s U H R I h
 refine cx (hl pins s U H _ I h) λ v s1 ⟨x,H1,I1,r1,q1⟩=>?_
 obtain ⟨a,e,⟨xs,hq⟩,q⟩:=q1
 subst e
 cases r1
 obtain ⟨bf,rv,p,hz⟩:=I1.list hq
 refine wpAny_pyIter_list p.isList ?_
 refine ⟨s1.heap.objs.size,[s1.heap.objs.size],_,_,H1,rfl,I1.kept (t':=s1.toks) λ b o e=>aa4 _ e,zk a _,⟨_,ac6 _ rfl,rfl,rfl⟩,λ b hb=>?_,q⟩
 have e:b=s1.heap.objs.size:=by simpa using hb
 subst e
 exact I1.uO (aaT _) (I1.cq.fresh (aaT _))
theorem zV {s:Shared} {R:It->Hp->Prop} {E:Value->Shared->Prop} {lo hi:Int} {t u v:Tok} {tk:Nat} (I:Inv X pins U H s) (h1 : -(2 ^ 62)<=lo) (h2:lo<2 ^ 62) (h3 : -(2 ^ 62)<=hi) (h4:hi<2 ^ 62) (q:R (zJ lo (hi - lo).toNat) H):wpAny (model X.prog X.w) X.A (pyIter (.ref s.heap.objs.size)) (PIE X pins U tg R) E { s with heap:=s.heap.push { cls:=.type "range",data:=.fields #[.int lo t,.int hi u,.int 1 v]},toks:=tk }:=by
 refine wpAny_pyIter_range (IsRange.new ..) (small_one h1 h2 h3 h4) ?_
 have I1:Inv X pins U H { s with heap:=s.heap.push { cls:=.type "range",data:=.fields #[.int lo t,.int hi u,.int 1 v]},toks:=tk }:=I.kept λ b o e=>aa4 _ e
 refine ⟨(s.heap.push { cls:=.type "range",data:=.fields #[.int lo t,.int hi u,.int 1 v]}).objs.size,[(s.heap.push { cls:=.type "range",data:=.fields #[.int lo t,.int hi u,.int 1 v]}).objs.size],_,_,H,rfl,
   I1.kept (t':=tk) λ b o e=>aa4 _ e,wE _ lo (hi - lo).toNat,?_,λ b hb=>?_,q⟩
 .
  have e1:lo+((0:Nat):Int) * 1=lo:=by simp
  have e2:(((hi - lo).toNat:Nat):Int) - ((0:Nat):Int)=Builtin.Range.rangeSize lo hi 1:=by rw [rangeSize_one];split<;>lia
  show IsRangeIter _ _ (lo+((0:Nat):Int) * 1) ((((hi - lo).toNat:Nat):Int) - ((0:Nat):Int)) 1
  rw [e1,e2]
  exact ac6 _ rfl
 . have e:b=(s.heap.push { cls:=.type "range",data:=.fields #[.int lo t,.int hi u,.int 1 v]}).objs.size:=by simpa using hb
   subst e
   exact I1.uO (aaT _) (I1.cq.fresh (aaT _))
inductive UR (R:It->Hp->Prop) (vs:List V) (H1:Hp):Prop
 | mk (j:Int) (h1:vs=[.int j]) (h2 : -(2 ^ 62)<=j) (h3:j<2 ^ 62) (q:R (zJ 0 j.toNat) H1)
def JV (ta:TA):TI:=λ U H R=>ta U H (UR R)
theorem bP {a:Expr} {ta:TA} {p pos:Pos} (hg:Gl X "range") (hm:X.mg "range" = none) (ha:PA X [a] ta) (hs:starEach [a] X.env=[(false,eval a X.env)]:=by rfl):PI X tg (.Call (.Name "range" p) [a] [] pos) (JV ta):=by
 intro pins s U H R I h
 refine Call_ (jD I hg hm boot_range (ady (cx (ha pos pins s U H _ I h) λ us s1 ⟨vs,H1,I1,r1,q1⟩=>?_) hs rfl))
 obtain ⟨j,e,q1,q2,q⟩:=q1
 subst e
 cases r1 with
 | cons r rr =>
   cases rr
   obtain ⟨t,rfl⟩:=r
   exact call_range_1 (zV I1 (by lia) (by lia) q1 q2 (by simpa using q))
def Rx (wi:TI) (g:TG) (tb:TS):TS:=λ D U H=>wi U H λ J H1=>∃ W:Nat->Nat->St->Hp->Prop,(∃ m,W 0 m U H1)/\∀ i m U H,W i m U H ->
 (J.stop i H/\D.nx U H)∨(J.go i H/\∃ N:St->Hp->Prop,(∀ σ' H',N σ' H'->∃ m',m'<m/\W (i+1) m' σ' H')/\∀ x H',J.BK i H x H'->g x U H' λ σ2 H2=>tb { D with nx:=N,ct:=N,bk:=D.nx } σ2 H2)
def oJ (fp:List Addr) (h:Heap):List (Addr×Obj):=fp.filterMap λ b=>(h.get? b).map λ o=>(b,o)
theorem jb {h:Heap} {b:Addr} {o:Obj} (hb:b∈fp) (e:h.get? b=some o):(b,o)∈oJ fp h:=List.mem_filterMap.mpr ⟨b,hb,by rw [e];rfl⟩
theorem yG {h:Heap} {p:Addr×Obj} (hp:p∈oJ fp h):p.1∈fp/\h.get? p.1=some p.2:=by
 obtain ⟨b,hb,e⟩:=List.mem_filterMap.mp hp
 cases q:h.get? b with
 | none=>rw [q] at e;cases e
 | some o =>
   rw [q] at e
   have e':(b,o)=p:=aba e
   subst e'
   exact ⟨hb,q⟩
theorem Inv.pinned {s:Shared} (I:Inv X pins U H s) (hf:∀ b∈fp,qf X pins H b) (ho:∀ b∈fp,∃ o,s.heap.get? b=some o/\∀ v,o.data ≠ .cell v):Inv X (pins++oJ fp s.heap) U H s :=
 I.xY λ p hp=>(List.mem_append.mp hp).elim (λ z=>I.pin p (adk _ z)) λ z=>by
   obtain ⟨hb,e⟩:=yG z
   obtain ⟨f0,f1,f2,_⟩:=hf p.1 hb
   obtain ⟨o,e',d⟩:=ho p.1 hb
   rw [e] at e';cases e'
   exact ⟨e,f0,f1,f2,d⟩
theorem Inv.lL {pl:List (Addr×Obj)} {s:Shared} (I:Inv X (pins++pl) U H s):Inv X pins U H s:=I.xY λ p hp=>I.pin p (adk _ (aeg _ hp))
theorem dB {iter:Expr} {body:List Stmt} {wi:TI} {pos:Pos} (hp:PassesOwn (model X.prog X.w) X.A X.env X.xe) (hc:X.calm=true) (hi:PI X tg iter wi) (hg:PG X tg g) (hb:qA X body tb) (hs:∀ x,foldedSetIterable iter X.env x=pure x:=by intro _;rfl):PS X (.For tg iter body [] pos) (Rx wi g tb):=by
 intro pins s U H D I h
 refine wpAny_For (cx (hi pins s U H _ I h) λ v s1 h1=>cx h1 λ VF s2 h2=>?_) hs
 obtain ⟨it,fp,tn,J,H2,e,I2,T,MV,f2,W,⟨m0,w0⟩,turn⟩:=h2
 subst e
 have F0:∀ {H':Hp},(∀ b∈fp,H' b=none)->∀ b∈fp,qf X pins H' b:=λ hn b hb=>⟨hn b hb,(f2 b hb).2⟩
 refine codeAny_forLoop_any (λ n s'=>∃ i σ' H',Inv X pins σ' H' s'/\tn i s'.heap/\(∀ b∈fp,H' b=none)/\W i n σ' H') ?_ m0 ⟨0,U,H2,I2,MV,λ b hb=>(f2 b hb).1,w0⟩
 rintro n s3 ⟨i,σ3,H3,I3,st3,fr3,w3⟩
 rcases turn i n σ3 H3 w3 with ⟨stop,qn⟩|⟨go,N,hN,step⟩
 . refine adY hp (cx (T.done X rfl rfl rfl hc i pins s3 σ3 H3 X.xe I3 (F0 fr3) st3 stop) λ r s4 ⟨hr,I4⟩=>?_)
   subst hr
   exact aeT ⟨σ3,H3,I4,qn⟩
 .
  refine adY hp (cx (T.item X rfl rfl rfl hc i pins s3 σ3 H3 X.xe I3 (F0 fr3) st3 go) λ r s4 ⟨u,hr,h4⟩=>?_)
  subst hr
  refine adY hp (cx h4 λ _ s5 ⟨x,H5,I5,r5,y5,Iv,Nh⟩=>?_)
  have I5':=I5.pinned (F0 Nh) (T.obj _ _ Iv)
  refine adY hp (cx (hg _ s5 σ3 H5 x u _ I5' r5 (step x H5 y5)) λ _ s6 ⟨σ6,H6,I6,q6⟩=>?_)
  refine adY hp (cx (hb _ s6 σ6 H6 _ I6 q6) λ f s7 q7=>?_)
  have again:∀ {σ7:St} {H7:Hp},Inv X (pins++oJ fp s5.heap) σ7 H7 s7->N σ7 H7->∃ m,m<n/\∃ i σ' H',Inv X pins σ' H' s7/\tn i s7.heap/\(∀ b∈fp,H' b=none)/\W i m σ' H':=λ {σ7 H7} I7 n7=>by
    obtain ⟨m',hm,w7⟩:=hN σ7 H7 n7
    refine ⟨m',hm,i+1,σ7,H7,I7.lL,T.keep _ _ _ Iv λ b hb o e=>(I7.pin (b,o) (adk _ (adk _ (jb hb e)))).1,λ b hb=>?_,w7⟩
    obtain ⟨o,e,d⟩:=T.obj _ _ Iv b hb
    exact (I7.pin (b,o) (adk _ (adk _ (jb hb e)))).2.1
  cases f with
  | next=>obtain ⟨σ7,H7,I7,n7⟩:=q7;exact again I7 n7
  | cont=>obtain ⟨σ7,H7,I7,n7⟩:=q7;exact again I7 n7
  | brk=>obtain ⟨σ7,H7,I7,q7⟩:=q7;exact ⟨σ7,H7,I7.lL,q7⟩
  | ret v=>obtain ⟨x7,σ7,H7,I7,r7,q7⟩:=q7;exact ⟨x7,σ7,H7,I7.lL,r7,q7⟩
end
theorem gv {K:W.Frag} {a:Addr} {D:Ends} (Pv:Nat->St->Hp->Prop) (h0:Pv 0 U H) (hl:∀ i U H,i<=xs.length->Pv i U H->aV K H a xs) (hs:∀ i x U H,xs[i]?=some x->Pv i U H->g x U H λ σ2 H2=>tb { D with nx:=Pv (i+1),ct:=Pv (i+1),bk:=D.nx } σ2 H2) (hd:∀ U H,Pv xs.length U H->D.nx U H) :
   ∃ W:Nat->Nat->St->Hp->Prop,(∃ m,W 0 m U H)/\∀ i m U H,W i m U H ->
     ((Az K a).stop i H/\D.nx U H)∨((Az K a).go i H/\∃ N:St->Hp->Prop,(∀ σ' H',N σ' H'->∃ m',m'<m/\W (i+1) m' σ' H')/\∀ x H',(Az K a).BK i H x H'->g x U H' λ σ2 H2=>tb { D with nx:=N,ct:=N,bk:=D.nx } σ2 H2):=by
 refine ⟨λ i m U H=>m=xs.length - i/\i<=xs.length/\Pv i U H,⟨xs.length,by simp,adm _,h0⟩,?_⟩
 rintro i m U H ⟨rfl,hi,p⟩
 have q:=hl i U H hi p
 by_cases mP:i<xs.length
 .
  refine .inr ⟨⟨xs,xs[i],q,by simp [mP]⟩,Pv (i+1),λ σ' H' p'=>⟨xs.length - (i+1),by lia,rfl,mP,p'⟩,λ x H' y=>?_⟩
  obtain ⟨e,y⟩:=y
  subst e
  exact hs i x U _ (y xs q) p
 . have e:i=xs.length:=by lia
   subst e
   exact .inl ⟨⟨xs,q,aaT _⟩,hd U H p⟩
theorem qF {lo:Int} {n:Nat} {D:Ends} (Pv:Nat->St->Hp->Prop) (h0:Pv 0 U H) (hs:∀ i U H,i<n->Pv i U H->g (.int (lo+i)) U H λ σ2 H2=>tb { D with nx:=Pv (i+1),ct:=Pv (i+1),bk:=D.nx } σ2 H2) (hd:∀ U H,Pv n U H->D.nx U H) :
   ∃ W:Nat->Nat->St->Hp->Prop,(∃ m,W 0 m U H)/\∀ i m U H,W i m U H ->
     ((zJ lo n).stop i H/\D.nx U H)∨((zJ lo n).go i H/\∃ N:St->Hp->Prop,(∀ σ' H',N σ' H'->∃ m',m'<m/\W (i+1) m' σ' H')/\∀ x H',(zJ lo n).BK i H x H'->g x U H' λ σ2 H2=>tb { D with nx:=N,ct:=N,bk:=D.nx } σ2 H2):=by
 refine ⟨λ i m U H=>m=n - i/\i<=n/\Pv i U H,⟨n,by simp,adm _,h0⟩,?_⟩
 rintro i m U H ⟨rfl,hi,p⟩
 by_cases mP:i<n
 .
  refine .inr ⟨mP,Pv (i+1),λ σ' H' p'=>⟨n - (i+1),by lia,rfl,mP,p'⟩,λ x H' y=>?_⟩
  obtain ⟨e,y⟩:=y
  subst e y
  exact hs i U _ mP p
 . have e:i=n:=by lia
   subst e
   exact .inl ⟨aaT _,hd U H p⟩
abbrev R2:=V->V->Hp->VK->Prop
def gI (X:Cx) (f:Value->Value->Sem Value) (r:R2):Prop :=
 ∀ (pins:List (Addr×Obj)) (s:Shared) (U:St) (H:Hp) (x y:V) (v u:Value) (Q:VK),Inv X pins U H s->RelV x v->RelV y u->r x y H Q ->
   wpAny (model X.prog X.w) X.A (f v u) (EP X pins U Q) X.xe s
def MQ (X:Cx) (f:Value->Sem Value) (r:V->Hp->VK->Prop):Prop :=
 ∀ (pins:List (Addr×Obj)) (s:Shared) (U:St) (H:Hp) (x:V) (v:Value) (Q:VK),Inv X pins U H s->RelV x v->r x H Q ->
   wpAny (model X.prog X.w) X.A (f v) (EP X pins U Q) X.xe s
def gS (X:Cx) (f:Value) (r:List V->Hp->VK->Prop):Prop :=
 ∀ (pins:List (Addr×Obj)) (s:Shared) (U:St) (H:Hp) (xs:List V) (us:List Value) (Q:VK),Inv X pins U H s->Vals xs us->r xs H Q ->
   wpAny (model X.prog X.w) X.A (call f us) (EP X pins U Q) X.xe s
def Mx (r:R2) (ta tb:TE):TE:=λ U H Q=>ta U H λ x H1=>tb U H1 λ y H2=>r x y H2 Q
def tUn (r:V->Hp->VK->Prop) (ta:TE):TE:=λ U H Q=>ta U H λ x H1=>r x H1 Q
inductive rI (C:Int->Int->Prop) (g:Int->Int->V) (x:V) (y:V) (H:Hp) (Q:VK):Prop
 | mk (i j:_) (_:x = .int i) (_:y = .int j) (_:C i j) (_:Q (g i j) H)
inductive Ch (g:Int->Int->V) (x:V) (y:V) (H:Hp) (Q:VK):Prop
 | mk (i j:_) (_:x = .int i) (_:y = .int j) (_:Q (g i j) H)
inductive rU (g:Int->V) (x:V) (H:Hp) (Q:VK):Prop
 | mk (i:_) (_:x = .int i) (_:Q (g i) H)
section
variable {X:Cx} {a b c:Expr} {ta tb tc:TE} {pos:Pos}
theorem HF (ha:PE X a ta) (hb:PE X b tb) {s:Shared} {R:V->V->Hp->Prop} (I:Inv X pins U H s) (h:ta U H λ x H1=>tb U H1 λ y H2=>R x y H2) {Q:Value->Shared->Prop} {f:Value->Value->Sem Value} (hf:∀ v u s2 x y H2,Inv X pins U H2 s2->RelV x v->RelV y u->R x y H2->wpAny (model X.prog X.w) X.A (f v u) Q X.xe s2) :
   wpAny (model X.prog X.w) X.A (eval a X.env) (λ v s₁=>wpAny (model X.prog X.w) X.A (eval b X.env) (λ u s₂=>wpAny (model X.prog X.w) X.A (f v u) Q X.xe s₂) X.xe s₁) X.xe s:=by
 refine cx (ha pins s U H _ I h) λ v s1 ⟨x,H1,I1,r1,q1⟩=>?_
 refine cx (hb pins s1 U H1 _ I1 q1) λ u s2 ⟨y,H2,I2,r2,q2⟩=>?_
 exact hf v u s2 x y H2 I2 r1 r2 q2
theorem ay {op:Operator} {r:R2} (ho:gI X (binaryOp op) r) (ha:PE X a ta) (hb:PE X b tb):PE X (.BinOp a op b pos) (Mx r ta tb):=by
 intro pins s U H Q I h
 exact wpAny_BinOp (HF ha hb I h λ v u s2 x y H2 I2 rx ry q=>ho pins s2 U H2 x y v u Q I2 rx ry q)
theorem o4 {op:UnaryOp} {r:V->Hp->VK->Prop} (ho:MQ X (unaryOp op) r) (ha:PE X a ta):PE X (.UnaryOp op a pos) (tUn r ta):=by
 intro pins s U H Q I h
 exact UnaryOp_ (cx (ha pins s U H _ I h) λ v s1 ⟨x,H1,I1,r1,q1⟩=>ho pins s1 U H1 x v Q I1 r1 q1)
theorem Io {f:Value->Value->Sem Value} {C:Int->Int->Prop} {g:Int->Int->Int} (rule:∀ (i j:Int) (t u:Tok) (s:Shared) (Q:Value->Shared->Prop) (E:Value->Shared->Prop),C i j->Q (.int (g i j) s.toks) { s with toks:=s.toks+1 }->wpAny (model X.prog X.w) X.A (f (.int i t) (.int j u)) Q E s) :
   gI X f (rI C λ i j => .int (g i j)):=by
 intro pins s U H x y v u Q I rx ry h
 obtain ⟨i,j,rfl,rfl,hc,q⟩:=h
 obtain ⟨t,rfl⟩:=rx
 obtain ⟨t',rfl⟩:=ry
 exact rule i j t t' s _ _ hc ⟨.int (g i j),H,I.tok _,⟨_,rfl⟩,q⟩
theorem Eg {f:Value->Value->Sem Value} {g:Int->Int->Int} (rule:∀ (i j:Int) (t u:Tok) (s:Shared) (Q:Value->Shared->Prop) (E:Value->Shared->Prop),Q (.int (g i j) s.toks) { s with toks:=s.toks+1 }->wpAny (model X.prog X.w) X.A (f (.int i t) (.int j u)) Q E s) :
   gI X f (Ch λ i j => .int (g i j)):=by
 intro pins s U H x y v u Q I rx ry h
 obtain ⟨i,j,rfl,rfl,q⟩:=h
 obtain ⟨t,rfl⟩:=rx
 obtain ⟨t',rfl⟩:=ry
 exact rule i j t t' s _ _ ⟨.int (g i j),H,I.tok _,⟨_,rfl⟩,q⟩
theorem DW {f:Value->Value->Sem Value} {g:Int->Int->Bool} (rule:∀ (i j:Int) (t u:Tok) (s:Shared) (Q:Value->Shared->Prop) (E:Value->Shared->Prop),Q (.bool (g i j)) s->wpAny (model X.prog X.w) X.A (f (.int i t) (.int j u)) Q E s) :
   gI X f (Ch λ i j => .bl (g i j)):=by
 intro pins s U H x y v u Q I rx ry h
 obtain ⟨i,j,rfl,rfl,q⟩:=h
 obtain ⟨t,rfl⟩:=rx
 obtain ⟨t',rfl⟩:=ry
 exact rule i j t t' s _ _ ⟨.bl (g i j),H,I,rfl,q⟩
def Dq (i j:Int):Prop:=0<=j/\j<=1000000/\i.natAbs<2 ^ 64
theorem w4 (k:Nat):(0:Int)<=2 ^ k:=by
 rw [two_pow_cast]
 exact adU _
theorem HJ:gI X (binaryOp .Add) (Ch λ i j => .int (i+j)):=Eg λ _ _ _ _ _ _ _ q=>add_int q
theorem HM:gI X (binaryOp .Sub) (Ch λ i j => .int (i - j)):=Eg λ _ _ _ _ _ _ _ q=>sub_int q
theorem HC:gI X (binaryOp .Mod) (rI (λ _ j=>0<j) λ i j => .int (i % j)):=Io λ i j _ _ _ _ _ hc q=>by
 have h1:(0:Int)<j:=hc
 exact mod_int' (by lia) (by rw [Int.fmod_eq_emod_of_nonneg i (by lia)];exact q)
theorem GR:gI X (binaryOp .Pow) (rI Dq λ i j => .int (i ^ j.toNat)):=Io λ _ _ _ _ _ _ _ hc q=>pow_int_small hc.1 hc.2.1 hc.2.2 q
theorem GB:gI X (binaryOp .LShift) (rI Dq λ i j => .int (i * 2 ^ j.toNat)):=Io λ _ _ _ _ _ _ _ hc q=>lshift_int_small hc.1 hc.2.1 hc.2.2 q
theorem GP:gI X (binaryOp .RShift) (rI (λ _ j=>0<=j) λ i j => .int (i / 2 ^ j.toNat)):=Io λ i j _ _ _ _ _ hc q =>
 rshift_int hc (by rw [afg i (w4 _)];exact q)
theorem Ga:gI X (binaryOp .BitAnd) (Ch λ i j => .int (Builtin.bitAnd i j)):=Eg λ _ _ _ _ _ _ _ q=>and_int q
theorem Jc:gI X (binaryOp .BitOr) (Ch λ i j => .int (Builtin.bitOr i j)):=Eg λ _ _ _ _ _ _ _ q=>or_int q
theorem unI {f:Value->Sem Value} {g:Int->Int} (rule:∀ (i:Int) (t:Tok) (s:Shared) (Q:Value->Shared->Prop) (E:Value->Shared->Prop),Q (.int (g i) s.toks) { s with toks:=s.toks+1 }->wpAny (model X.prog X.w) X.A (f (.int i t)) Q E s) :
   MQ X f (rU λ i => .int (g i)):=by
 intro pins s U H x v Q I rx h
 obtain ⟨i,rfl,q⟩:=h
 obtain ⟨t,rfl⟩:=rx
 exact rule i t s _ _ ⟨.int (g i),H,I.tok _,⟨_,rfl⟩,q⟩
theorem sH:MQ X (unaryOp .USub) (rU λ i => .int (-i)):=unI λ _ _ _ _ _ q=>neg_int q
theorem wD:MQ X (unaryOp .Invert) (rU λ i => .int (Builtin.bitNot i)):=unI λ _ _ _ _ _ q=>invert_int q
end
def IS:V->V->Bool
 | .cR,.cR=>true | .cR,.int _=>true | .int _,.cR=>true | .cR,.bl _=>true | .bl _,.cR=>true | .cR,.str _=>true | .str _,.cR=>true
 | .int _,.int _=>true | .bl _,.bl _=>true | .str _,.str _=>true | .yR _,.yR _=>true
 | .int _,.str _=>true | .str _,.int _=>true | .bl _,.str _=>true | .str _,.bl _=>true
 | _,_=>false
def rEq:R2:=λ x y H Q=>IS x y=true/\Q (.bl (decide (x=y))) H
def rNe:R2:=λ x y H Q=>IS x y=true/\Q (.bl (!decide (x=y))) H
theorem xJ {i j:Int}:decide (V.int i=V.int j)=(i == j):=by
 rw [adP]
 simp
theorem Bi {i j:Bool}:decide (V.bl i=V.bl j)=(i == j):=by
 rw [adP]
 simp
theorem xQ {i j:Str}:decide (V.str i=V.str j)=(i == j):=by
 rw [adP]
 simp
theorem yc {i j:Array UInt8}:decide (V.yR i=V.yR j)=(i.toList == j.toList):=by
 rw [adP]
 cases i
 cases j
 simp
section
variable {X:Cx} {a b c:Expr} {ta tb tc:TE} {pos:Pos}
theorem bE {s:Shared} {k k':Bool} (I:Inv X pins U H s) (q:Q (.bl k) H) (e:k=k'):EP X pins U Q (.bool k') s:=by
 subst e
 exact ⟨.bl k,H,I,rfl,q⟩
theorem jk:gI X (compareOp .Eq) rEq:=by
 intro pins s U H x y v u Q I rx ry h
 obtain ⟨hs,q⟩:=h
 cases x with
 | cR =>
   cases rx
   cases y with
   | cR=>cases ry;exact PySem.EqNone.eq_none_none (bE I q (by simp))
   | bl j=>cases ry;exact PySem.EqNone.eq_none_bool (bE I q (by simp))
   | int j=>obtain ⟨t',rfl⟩:=ry;exact PySem.EqNone.eq_none_int (bE I q (by simp))
   | str j=>obtain ⟨t',rfl⟩:=ry;exact PySem.EqNone.eq_none_str (bE I q (by simp))
   | _=>exact absurd (show false=true from hs) acT
 | bl i =>
   cases rx
   cases y with
   | cR=>cases ry;exact PySem.EqNone.eq_bool_none (bE I q (by simp))
   | bl j=>cases ry;exact eq_bool (bE I q Bi)
   | str j=>obtain ⟨t',rfl⟩:=ry;exact PySem.EqMixed.eq_bool_str (bE I q (by simp))
   | _=>exact absurd (show false=true from hs) acT
 | int i =>
   obtain ⟨t,rfl⟩:=rx
   cases y with
   | cR=>cases ry;exact PySem.EqNone.eq_int_none (bE I q (by simp))
   | int j=>obtain ⟨t',rfl⟩:=ry;exact eq_int (bE I q xJ)
   | str j=>obtain ⟨t',rfl⟩:=ry;exact PySem.EqMixed.eq_int_str (bE I q (by simp))
   | _=>exact absurd (show false=true from hs) acT
 | str i =>
   obtain ⟨t,rfl⟩:=rx
   cases y with
   | cR=>cases ry;exact PySem.EqNone.eq_str_none (bE I q (by simp))
   | bl j=>cases ry;exact PySem.EqMixed.eq_str_bool (bE I q (by simp))
   | int j=>obtain ⟨t',rfl⟩:=ry;exact PySem.EqMixed.eq_str_int (bE I q (by simp))
   | str j=>obtain ⟨t',rfl⟩:=ry;exact eq_str (bE I q xQ)
   | _=>exact absurd (show false=true from hs) acT
 | yR i =>
   obtain ⟨t,rfl⟩:=rx
   cases y with
   | yR j=>obtain ⟨t',rfl⟩:=ry;exact W.eq_bytes (bE I q yc)
   | _=>exact absurd (show false=true from hs) acT
 | _=>cases y<;>exact absurd (show false=true from hs) acT
theorem mS:gI X (compareOp .NotEq) rNe:=by
 intro pins s U H x y v u Q I rx ry h
 obtain ⟨hs,q⟩:=h
 cases x with
 | cR =>
   cases rx
   cases y with
   | cR=>cases ry;exact PySem.EqNone.ne_none_none (bE I q (by simp))
   | bl j=>cases ry;exact PySem.EqNone.ne_none_bool (bE I q (by simp))
   | int j=>obtain ⟨t',rfl⟩:=ry;exact PySem.EqNone.ne_none_int (bE I q (by simp))
   | str j=>obtain ⟨t',rfl⟩:=ry;exact PySem.EqNone.ne_none_str (bE I q (by simp))
   | _=>exact absurd (show false=true from hs) acT
 | bl i =>
   cases rx
   cases y with
   | cR=>cases ry;exact PySem.EqNone.ne_bool_none (bE I q (by simp))
   | bl j=>cases ry;exact ne_bool (bE I q (aea not Bi))
   | str j=>obtain ⟨t',rfl⟩:=ry;exact PySem.EqMixed.ne_bool_str (bE I q (by simp))
   | _=>exact absurd (show false=true from hs) acT
 | int i =>
   obtain ⟨t,rfl⟩:=rx
   cases y with
   | cR=>cases ry;exact PySem.EqNone.ne_int_none (bE I q (by simp))
   | int j=>obtain ⟨t',rfl⟩:=ry;exact ne_int (bE I q (aea not xJ))
   | str j=>obtain ⟨t',rfl⟩:=ry;exact PySem.EqMixed.ne_int_str (bE I q (by simp))
   | _=>exact absurd (show false=true from hs) acT
 | str i =>
   obtain ⟨t,rfl⟩:=rx
   cases y with
   | cR=>cases ry;exact PySem.EqNone.ne_str_none (bE I q (by simp))
   | bl j=>cases ry;exact PySem.EqMixed.ne_str_bool (bE I q (by simp))
   | int j=>obtain ⟨t',rfl⟩:=ry;exact PySem.EqMixed.ne_str_int (bE I q (by simp))
   | str j=>obtain ⟨t',rfl⟩:=ry;exact ne_str (bE I q (aea not xQ))
   | _=>exact absurd (show false=true from hs) acT
 | yR i =>
   obtain ⟨t,rfl⟩:=rx
   cases y with
   | yR j=>obtain ⟨t',rfl⟩:=ry;exact W.ne_bytes (bE I q (aea not yc))
   | _=>exact absurd (show false=true from hs) acT
 | _=>cases y<;>exact absurd (show false=true from hs) acT
theorem pI:gI X (compareOp .Lt) (Ch λ i j => .bl (decide (i<j))):=DW λ _ _ _ _ _ _ _ q=>lt_int q
theorem ia:gI X (compareOp .LtE) (Ch λ i j => .bl (decide (i<=j))):=DW λ _ _ _ _ _ _ _ q=>le_int q
theorem tV:gI X (compareOp .Gt) (Ch λ i j => .bl (decide (j<i))):=DW λ _ _ _ _ _ _ _ q=>gt_int q
theorem JM:gI X (compareOp .GtE) (Ch λ i j => .bl (decide (j<=i))):=DW λ _ _ _ _ _ _ _ q=>ge_int q
theorem w6:gI X (compareOp .Is) (λ x y H Q=>y = .cR/\Q (.bl (decide (x = .cR))) H):=by
 intro pins s U H x y v u Q I rx ry h
 obtain ⟨rfl,q⟩:=h
 cases ry
 refine is_none_gen (bE I q ?_)
 cases x<;>first
   | (cases rx;rfl)
   | (obtain ⟨t,rfl⟩:=rx;rfl)
theorem sU:gI X (compareOp .IsNot) (λ x y H Q=>y = .cR/\Q (.bl (!decide (x = .cR))) H):=by
 intro pins s U H x y v u Q I rx ry h
 obtain ⟨rfl,q⟩:=h
 cases ry
 refine isnot_none_gen (bE I q ?_)
 cases x<;>first
   | (cases rx;rfl)
   | (obtain ⟨t,rfl⟩:=rx;rfl)
theorem aZ (b:Expr) {op:CmpOp} (h:op ≠ .In:=by decide) (h2:op ≠ .NotIn:=by decide):behindInMarks op b=false:=by
 have e1:(op == CmpOp.In)=false:=by cases op<;>first|rfl|exact absurd rfl h
 have e2:(op == CmpOp.NotIn)=false:=by cases op<;>first|rfl|exact absurd rfl h2
 cases b<;>simp [behindInMarks,e1,e2]
theorem gi {op:CmpOp} {r:R2} (ho:gI X (compareOp op) r) (ha:PE X a ta) (hb:PE X b tb) (hm:behindInMarks op b=false):PE X (.Compare a [op] [b] pos) (Mx r ta tb):=by
 intro pins s U H Q I h
 exact wpAny_Compare1 (HF ha hb I h λ v u s2 x y H2 I2 rx ry q=>ho pins s2 U H2 x y v u Q I2 rx ry q) hm
inductive OW (Q:Bool->Hp->Prop) (x:V) (H:Hp):Prop
 | mk (k:Bool) (h:x = .bl k) (q:Q k H)
def FN (t:TE):TT:=λ U H Q=>t U H (OW Q)
theorem aU {op:CmpOp} {r:R2} (ho:gI X (compareOp op) r) (ha:PE X a ta) (hb:PE X b tb) (hm:behindInMarks op b=false):PT X (.Compare a [op] [b] pos) (FN (Mx r ta tb)):=by
 intro pins s U H Q I h
 refine wpAny_isTrue_Compare1 (cx (ha pins s U H _ I h) λ v s1 ⟨x,H1,I1,r1,q1⟩=>cx (hb pins s1 U H1 _ I1 q1) λ u s2 ⟨y,H2,I2,r2,q2⟩ =>
   cx (ho pins s2 U H2 x y v u _ I2 r1 r2 q2) λ c s3 ⟨z,H3,I3,r3,k,e,q3⟩=>?_) hm
 subst e
 cases r3
 exact adE ⟨H3,I3,q3⟩
def Bk (r r':R2) (ta tb tc:TE):TE:=λ U H Q=>ta U H λ x H1=>tb U H1 λ y H2=>r x y H2 λ z H3=>∃ k,z = .bl k /\
 (if k=true then tc U H3 λ w' H4=>r' y w' H4 Q else Q (.bl false) H3)
theorem BO {op HU:CmpOp} {r r':R2} (ho:gI X (compareOp op) r) (BW:gI X (compareOp HU) r') (ha:PE X a ta) (hb:PE X b tb) (hc:PE X c tc) (hm:lastMarks [op,HU] [b,c]=false:=by with_unfolding_all rfl):PE X (.Compare a [op,HU] [b,c] pos) (Bk r r' ta tb tc):=by
 intro pins s U H Q I h
 refine Compare_chain (cx (ha pins s U H _ I h) λ v s1 ⟨x,H1,I1,r1,q1⟩=>chain_link (cx (hb pins s1 U H1 _ I1 q1) λ u s2 ⟨y,H2,I2,r2,q2⟩ =>
   cx (ho pins s2 U H2 x y v u _ I2 r1 r2 q2) λ d s3 ⟨z,H3,I3,r3,k,e,q3⟩=>?_)) hm
 subst e
 cases r3
 refine adE ?_
 cases k with
 | false=>exact ite_ff ⟨.bl false,H3,I3,rfl,q3⟩
 | true=>exact ite_tt (chain_last (cx (hc pins s3 U H3 _ I3 q3) λ w' s4 ⟨z',H4,I4,r4,q4⟩=>BW pins s4 U H4 y z' u w' Q I4 r2 r4 q4))
theorem iH {op HU:CmpOp} {r r':R2} (ho:gI X (compareOp op) r) (BW:gI X (compareOp HU) r') (ha:PE X a ta) (hb:PE X b tb) (hc:PE X c tc) (hm:lastMarks [op,HU] [b,c]=false:=by with_unfolding_all rfl):PT X (.Compare a [op,HU] [b,c] pos) (FN (Bk r r' ta tb tc)):=by
 intro pins s U H Q I h
 refine isTrue_chain (cx (ha pins s U H _ I h) λ v s1 ⟨x,H1,I1,r1,q1⟩=>test_link (cx (hb pins s1 U H1 _ I1 q1) λ u s2 ⟨y,H2,I2,r2,q2⟩ =>
   cx (ho pins s2 U H2 x y v u _ I2 r1 r2 q2) λ d s3 ⟨z,H3,I3,r3,k,e,q3⟩=>?_)) hm
 subst e
 cases r3
 refine adE ?_
 cases k with
 | false =>
   obtain ⟨k',e',q'⟩:=q3
   cases e'
   exact ite_ff ⟨H3,I3,q'⟩
 | true =>
   refine ite_tt (test_last (cx (hc pins s3 U H3 _ I3 q3) λ w' s4 ⟨z',H4,I4,r4,q4⟩=>cx (BW pins s4 U H4 y z' u w' _ I4 r2 r4 q4) λ d' s5 ⟨z2,H5,I5,r5,k2,e2,q5⟩=>?_))
   subst e2
   cases r5
   exact adE ⟨H5,I5,q5⟩
theorem rE:(sizeLine:Nat)<2 ^ 63:=by rw [sizeLine_eq];decide
theorem vals1 {x:V} (r:Vals [x] us):∃ u,us=[u]/\RelV x u:=by
 cases r with
 | cons r1 r2=>cases r2;exact ⟨_,rfl,r1⟩
theorem vals2 {x y:V} (r:Vals [x,y] us):∃ u w',us=[u,w']/\RelV x u/\RelV y w':=by
 cases r with
 | cons r1 r2 =>
   cases r2 with
   | cons r3 r4=>cases r4;exact ⟨_,_,rfl,r1,r3⟩
theorem zN:gS X (.builtin "abs") (λ xs H Q=>∃ i,xs=[.int i]/\Q (.int (if i<0 then -i else i)) H):=by
 intro pins s U H xs us Q I r h
 obtain ⟨i,rfl,q⟩:=h
 obtain ⟨u,rfl,t,rfl⟩:=vals1 r
 exact call_abs_int λ u tk=>⟨.int (if i<0 then -i else i),H,I.tok _,⟨_,rfl⟩,q⟩
theorem yY (hc:X.calm=true):gS X (.builtin "max") (λ xs H Q=>∃ i j,xs=[.int i,.int j]/\Q (.int (if j > i then j else i)) H):=by
 intro pins s U H xs us Q I r h
 obtain ⟨i,j,rfl,q⟩:=h
 obtain ⟨u,w',rfl,⟨t,rfl⟩,⟨t',rfl⟩⟩:=vals2 r
 refine max_two_ints (I.ok.hd hc) λ h' tk k=>⟨_,H,I.kept k,?_,q⟩
 by_cases hj:j > i
 . rw [abS hj,abS hj];exact ⟨_,rfl⟩
 . rw [abZ hj,abZ hj];exact ⟨_,rfl⟩
theorem zc (hc:X.calm=true):gS X (.builtin "min") (λ xs H Q=>∃ i j,xs=[.int i,.int j]/\Q (.int (if j<i then j else i)) H):=by
 intro pins s U H xs us Q I r h
 obtain ⟨i,j,rfl,q⟩:=h
 obtain ⟨u,w',rfl,⟨t,rfl⟩,⟨t',rfl⟩⟩:=vals2 r
 refine min_two_ints (I.ok.hd hc) λ h' tk k=>⟨_,H,I.kept k,?_,q⟩
 by_cases hj:j<i
 . rw [abS hj,abS hj];exact ⟨_,rfl⟩
 . rw [abZ hj,abZ hj];exact ⟨_,rfl⟩
end
structure wj (h:Heap) (x dx C:Addr) (mA:Str->Option Value):Prop where
 obj:h.get? x=some (W.instObj C dx)
 ns:h.Ns1 dx mA
 ne:dx≠x
theorem yr {h:Heap} {mA:Str->Option Value} (n:h.Ns1 dx mA):∃ od,h.get? dx=some od/\∀ name,W.lookIn name od=some (mA name):=by
 obtain ⟨o,es,ep,ho,hd,hk,_,hm⟩:=n
 refine ⟨o,ho,λ name=>?_⟩
 have e:=hm name
 unfold nsFind findBy at e
 rw [← Array.find?_toList] at e
 unfold W.lookIn
 rw [hd]
 dsimp only
 split
 . rename_i y q
   rw [q] at e
   exact aea some e
 .
  rename_i q
  rw [q] at e
  have a:es.toList.any (·.refKey)=false:=by
    rw [List.any_eq_false]
    intro y hy
    obtain ⟨z,t,ph⟩:=hk y (Array.mem_toList_iff.mp hy)
    simp [DictEntry.refKey,ph]
  have a':¬ es.toList.any (·.refKey)=true:=by rw [a];exact acT
  rw [abZ a']
  exact aea some e
theorem wj.look {h:Heap} {x:Addr} {mA:Str->Option Value} (I:wj h x dx C mA):∃ od,W.InstAt h x (W.instObj C dx) C (some od)/\∀ name,W.lookIn name od=some (mA name) :=
 let ⟨od,ho,hl⟩:=yr I.ns
 ⟨od,⟨I.obj,rfl,rfl,ho⟩,hl⟩
section
variable {prog:Program} {w:World} {A:Around} {E:Value->Shared->Prop} {s:Shared} {K:W.Frag} {x dx C f:Addr} {mA:Str->Option Value} {name:Str} {v:Value}
theorem get_map {expr:Bool} {Q:Value->Shared->Prop} (X:K.In s.heap) (I:wj s.heap x dx C mA) (hg:W.plainGet K C name=true) (hh:W.hasDictIn K C=true) (ha:W.findIn K (.ref C) name=some none) (hv:mA name=some v) (hv':W.handedIn v=true) (h:Q v { s with toks:=s.toks+1 }) :
   wpAny (model prog w) A (getAttr (.ref x) name expr) Q E s:=by
 obtain ⟨od,J,hl⟩:=I.look
 exact W.get_value X J (W.plainGet_of hg).1 (W.findObj_own hh ha rfl (by rw [hl,hv])) hv' h
theorem AK {pl:Sem Bool} {Q:Value×List Value->Shared->Prop} (X:K.In s.heap) (I:wj s.heap x dx C mA) (hg:W.plainGet K C name=true) (hf:W.findIn K (.ref C) name=some (some (.ref f))) (ht:W.isFn K (.ref f)=true) (hv:mA name=none) (h:Q (.ref f,[.ref x]) s) :
   wpAny (model prog w) A (getMethod (.ref x) name pl) Q E s:=by
 obtain ⟨od,J,hl⟩:=I.look
 exact W.method_fn X J (W.plainGet_of hg).1 (W.plainGet_of hg).2 hf (beq_iff_eq.mp ht) (by show (W.lookIn name od).map (·.isSome)=some false;rw [hl,hv];rfl) h
theorem EX {ns:List Str} {Q:Unit->Shared->Prop} (X:K.In s.heap) (I:wj s.heap x dx C mA) (hs:W.findIn K (.ref C) "__setattr__" = some (some (.builtin "object.__setattr__"))) (hp:W.plainOver K C=true) (ht:W.takerIn K C name=some none) (hh:W.hasDictIn K C=true) (hw:PySem.Within mA ns) (hsz:ns.length<=sizeLine) (h:∀ h',wj h' x dx C (λ y=>if y=name then some v else mA y)->Heap.SameBut dx s.heap h'->Q () { s with heap:=h',toks:=s.toks+2 }) :
   wpAny (model prog w) A (setAttr (.ref x) name v) Q E s:=by
 obtain ⟨od,J,hl⟩:=I.look
 refine W.set_plain X J hs (W.osa_open (s:={ s with toks:=s.toks+1 }) (r:=none) X J hp ht λ b=>?_)
 obtain ⟨cd,hc,Xp⟩:=W.any_some hh
 have hx:s.heap.get? x=some ⟨.ref C,some dx,.plain,#[]⟩:=I.obj
 refine abn (ac9 (abn (abn (wpAny_loadPart hx (abn (W.Looks.here (s:={ s with toks:=s.toks+1 }) (W.looks_clsIn X hc) ?_))))))
 rw [Xp]
 refine ac9 (a:=some dx) (abn (ac9 (abn ?_)))
 refine wpAny_nsSet1 (s:={ s with toks:=s.toks+1 }) I.ns λ h' hn2 DP=>?_
 obtain ⟨oD,esD,epD,hoD,hdD,hcD⟩:=hn2.count (PySem.Within.cons name v hw)
 refine abn (wpAny_lookBehind hoD (by rw [hdD];exact pastItsLine_dict (adf hcD (by rw [acX];lia))) ?_)
 exact ac9 (h _ ⟨(DP.2 _ (ad1 I.ne)).trans I.obj,hn2,I.ne⟩ DP)
theorem AC {R:Result->Shared->Prop} {vs:List Value} {kw:List (Str×Value)} (X:K.In s.heap) (hm:W.makesIn K C=true) (hi:W.findIn K (.ref C) "__init__" = some (some (.ref f))) (hf:W.typeIn K (.ref f)=some (.type "function")) (h:codeAny (model prog w) (A.under (.builtin "type.__call__" ⟨.ref C::vs,kw⟩)) (.call (.ref f) ⟨.ref (s.heap.objs.size+1)::vs,kw⟩) (W.InitBack (s.heap.objs.size+1) R)
     { s with heap:=(s.heap.push W.emptyDict).push (W.instObj C s.heap.objs.size)}) :
   codeAny (model prog w) A (.call (.ref C) ⟨vs,kw⟩) R s:=by
 obtain ⟨hh,g,d,t,os⟩:=s
 exact W.make_core (W.makes_of X hm) (W.looks_findIn X hi) (λ self=>W.bind_fn X self hf) (.inl rfl) h
end
def bC (f:Str) (v:V):List (Str×V)->List (Str×V)
 | []=>[(f,v)]
 | (g,x)::r=>if g=f then (g,v)::r else (g,x)::bC f v r
theorem m9 (f g:Str) (v:V):∀ fs:List (Str×V),(bC f v fs).lookup g=if g=f then some v else fs.lookup g
 | []=>by
   show List.lookup g [(f,v)]=_
   by_cases h:g=f
   . have hb:(g == f)=true:=beq_iff_eq.mpr h
     simp only [List.lookup,hb,abS h]
   . have hb:(g == f)=false:=beq_eq_false_iff_ne.mpr h
     simp only [List.lookup,hb,abZ h]
 | (k,x)::r=>by
   have ih:=m9 f g v r
   rw [show bC f v ((k,x)::r)=(if k=f then (k,v)::r else (k,x)::bC f v r) from rfl]
   by_cases hk:k=f
   .
    rw [abS hk]
    by_cases h:g=k
    . have hb:(g == k)=true:=beq_iff_eq.mpr h
      simp only [List.lookup,hb,abS (h.trans hk)]
    . have hb:(g == k)=false:=beq_eq_false_iff_ne.mpr h
      simp only [List.lookup,hb,abZ (λ e:g=f=>h (e.trans hk.symm))]
   .
    rw [abZ hk]
    by_cases h:g=k
    . have hb:(g == k)=true:=beq_iff_eq.mpr h
      simp only [List.lookup,hb,abZ (λ e:g=f=>hk (h.symm.trans e))]
    . have hb:(g == k)=false:=beq_eq_false_iff_ne.mpr h
      simp only [List.lookup,hb]
      exact ih
theorem l3 (f:Str) (v:V):∀ fs:List (Str×V),f∈(bC f v fs).map (·.1)/\∀ g,g∈fs.map (·.1)->g∈(bC f v fs).map (·.1)
 | []=>⟨by simp [bC],λ g h=>by simp at h⟩
 | (k,x)::r=>by
   obtain ⟨i1,i2⟩:=l3 f v r
   rw [show bC f v ((k,x)::r)=(if k=f then (k,v)::r else (k,x)::bC f v r) from rfl]
   by_cases hk:k=f
   . rw [abS hk]
     subst hk
     exact ⟨by simp,λ g h=>by simpa using h⟩
   .
    rw [abZ hk]
    refine ⟨?_,λ g h=>?_⟩
    . rw [adl]
      exact acV _ i1
    . rw [adl] at h ⊢
      rcases List.mem_cons.mp h with e|e
      . exact List.mem_cons.mpr (.inl e)
      . exact acV _ (i2 g e)
theorem mT (f:Str) (v:V):∀ fs:List (Str×V),(bC f v fs).length<=fs.length+1
 | []=>by simp [bC]
 | (k,x)::r=>by
   have ih:=mT f v r
   rw [show bC f v ((k,x)::r)=(if k=f then (k,v)::r else (k,x)::bC f v r) from rfl]
   by_cases hk:k=f
   . rw [abS hk,acX,acX];lia
   . rw [abZ hk,acX,acX];lia
theorem iq.some_of {o:Option Value} (r:iq (some v) o):∃ u,o=some u/\RelV v u:=by
 cases o with
 | none=>exact (show False from r).elim
 | some u=>exact ⟨u,rfl,r⟩
theorem iq.none_of {o:Option Value} (r:iq none o):o=none:=by
 cases o with
 | none=>rfl
 | some u=>exact (show False from r).elim
theorem yM (r:RelV v u):W.handedIn u=true:=by
 cases v with
 | cR=>cases (show u=Value.none from r);rfl
 | bl b=>cases (show u=Value.bool b from r);rfl
 | int i=>obtain ⟨t,e⟩:=(show ∃ t,u=Value.int i t from r);cases e;rfl
 | str x=>obtain ⟨t,e⟩:=(show ∃ t,u=Value.str x t from r);cases e;rfl
 | yR b=>obtain ⟨t,e⟩:=(show ∃ t,u=Value.bytes b t from r);cases e;rfl
 | FC b=>obtain ⟨t,e⟩:=(show ∃ t,u=Value.float b t from r);cases e;rfl
 | ref a=>cases (show u=Value.ref a from r);rfl
 | ty n=>cases (show u=Value.type n from r);rfl
section
variable {P:Program} {w:World} {H H':Hp} {h h':Heap} {a C dx:Addr} {fs fs':List (Str×V)}
theorem nQ (cq:kI P w H h) (e:H a=some (.ins C dx fs)):∃ mA,wj h a dx C mA/\(∀ f,iq (fs.lookup f) (mA f))/\PySem.Within mA (fs.map (·.1))/\fs.length<=1000/\H dx=some (.own a):=by
 obtain ⟨d,z,ne,ob,mA,n,r,q⟩:=(show cw P w H h a (.ins C dx fs) from cq a _ e)
 exact ⟨mA,⟨ob,n,ne⟩,r,q,z,d⟩
end
structure wZ (K:W.Frag) (C:Addr):Prop where
 pg:W.plainGet K C Str.empty=true
 hd:W.hasDictIn K C=true
 po:W.plainOver K C=true
 sa:W.findIn K (.ref C) "__setattr__" = some (some (.builtin "object.__setattr__"))
theorem wZ.get {K:W.Frag} (c:wZ K C) (f:Str):W.plainGet K C f=true:=c.pg
def e9 (K:W.Frag) (C:Addr) (f:Str):Prop:=W.findIn K (.ref C) f=some none
theorem e9.J9 {K:W.Frag} {f:Str} (n:e9 K C f):W.takerIn K C f=some none:=by
 unfold W.takerIn
 rw [show W.findIn K (.ref C) f=some none from n]
 rfl
structure Meth (K:W.Frag) (C:Addr) (m:Str) (f:Addr):Prop where
 at_:W.findIn K (.ref C) m=some (some (.ref f))
 fn:W.isFn K (.ref f)=true
 kp:W.keepIn K (.ref f)=true
section
variable {X:Cx} {pins:List (Addr×Obj)} {U:St} {H:Hp} {s:Shared} {a C dx:Addr} {fs:List (Str×V)} {f:Str} {v:V} {A:Around} {E:Value->Shared->Prop}
theorem wc {b:Bool} {Q:Value->Shared->Prop} (I:Inv X pins U H s) (e:H a=some (.ins C dx fs)) (c:wZ X.K C) (n:e9 X.K C f) (l:fs.lookup f=some v) (h:∀ u s',Inv X pins U H s'->RelV v u->Q u s'):wpAny (model X.prog X.w) A (getAttr (.ref a) f b) Q E s:=by
 obtain ⟨mA,O,r,_,_,_⟩:=nQ I.cq e
 obtain ⟨u,hu,ru⟩:=iq.some_of (v:=v) (o:=mA f) (by rw [← l];exact r f)
 exact get_map I.nE O (c.get f) c.hd n hu (yM ru) (h u _ (I.tok _) ru)
theorem ou {m:Str} {g:Addr} {pl:Sem Bool} {Q:Value×List Value->Shared->Prop} (I:Inv X pins U H s) (e:H a=some (.ins C dx fs)) (c:wZ X.K C) (k:Meth X.K C m g) (l:fs.lookup m=none) (h:Q (.ref g,[.ref a]) s):wpAny (model X.prog X.w) A (getMethod (.ref a) m pl) Q E s:=by
 obtain ⟨mA,O,r,_,_,_⟩:=nQ I.cq e
 have hn:mA m=none:=iq.none_of (by rw [← l];exact r m)
 exact AK I.nE O (c.get m) k.at_ k.fn hn h
theorem xk {y:V} {Q:Unit->Shared->Prop} (I:Inv X pins U H s) (e:H a=some (.ins C dx fs)) (c:wZ X.K C) (n:e9 X.K C f) (hl:fs.length<1000) (ry:RelV y u) (h:∀ s',Inv X pins U (upd H a (.ins C dx (bC f y fs))) s'->Q () s'):wpAny (model X.prog X.w) A (setAttr (.ref a) f u) Q E s:=by
 obtain ⟨mA,O,r,wi,_,ho⟩:=nQ I.cq e
 have hz:(fs.map (·.1)).length<=sizeLine:=by rw [xq,sizeLine_eq];lia
 refine EX I.nE O c.sa c.po n.J9 c.hd wi hz λ h' O' sb=>h _ ?_
 have hd:∃ o,h'.get? dx=some o:=let ⟨o,_,_,e',_⟩:=O'.ns;⟨o,e'⟩
 refine I.write (x:=a) (e:=dx) (by rw [e];exact True.intro) (.inr ho) (λ b q hb z=>(sb.2 b hb).trans z) hd ?_
 refine ⟨by rw [av O.ne];exact ho,?_,O.ne,O'.obj,_,O'.ns,λ g=>?_,λ g hg=>?_⟩
 . have:=mT f y fs;lia
 .
  show iq ((bC f y fs).lookup g) (if g=f then some u else mA g)
  rw [m9]
  by_cases q:g=f
  . rw [abS q,abS q];exact ry
  . rw [abZ q,abZ q];exact r g
 .
  by_cases q:g=f
  . rw [q];exact (l3 f y fs).1
  . refine (l3 f y fs).2 g (wi g λ z=>hg ?_)
    show (if g=f then some u else mA g)=none
    rw [abZ q];exact z
theorem Inv.made (I:Inv X pins U H s):Inv X pins U (upd (upd H s.heap.objs.size (.own (s.heap.objs.size+1))) (s.heap.objs.size+1) (.ins C s.heap.objs.size []))
   { s with heap:=(s.heap.push W.emptyDict).push (W.instObj C s.heap.objs.size)}:=by
 have e1:(s.heap.push W.emptyDict).get? s.heap.objs.size=some W.emptyDict:=ac6 s.heap rfl
 have e2:((s.heap.push W.emptyDict).push (W.instObj C s.heap.objs.size)).get? (s.heap.objs.size+1)=some (W.instObj C s.heap.objs.size):=by
   have:=ac6 (s.heap.push W.emptyDict) (o:=W.instObj C s.heap.objs.size) rfl
   rwa [ae2] at this
 have e3:(s.heap.push W.emptyDict).Ns s.heap.objs.size (λ _=>none):=⟨W.emptyDict,#[],_,e1,rfl,(λ e he=>absurd he (by simp)),λ _=>rfl⟩
 have I1:=I.laid (a:=s.heap.objs.size) (o:=.own (s.heap.objs.size+1)) (h':=s.heap.push W.emptyDict) (t':=s.toks) (λ b u q=>aa4 _ q) (aaT _) ⟨_,e1⟩
 refine I1.laid (a:=s.heap.objs.size+1) (o:=.ins C s.heap.objs.size []) (t':=s.toks) (λ b u q=>aa4 _ q) (Nat.le_of_eq (ae2 _ _)) ?_
 have ne:s.heap.objs.size≠s.heap.objs.size+1:=acW (ae5 _)
 refine ⟨by rw [av ne,ag],adm _,ne,e2,λ _=>none,(Heap.Ns1.of_empty e3).at λ o q=>aa4 _ q,λ _=>True.intro,λ y hy=>absurd rfl hy⟩
theorem CF {prog:Program} {w:World} {env:Env} {e:Expr} {f:Str} {pos:Pos} {s:Shared} {Q:Value->Shared->Prop} (hb:attributeBase e f env (eval e env)=eval e env) (h:wpAny (model prog w) A (eval e env) (λ o s₁=>wpAny (model prog w) A (getAttr o f true) Q E s₁) E s):wpAny (model prog w) A (eval (.Attribute e f pos) env) Q E s :=
 Attribute_any_ h (by rw [arm_eval_Attribute,hb])
end
inductive LR (K:W.Frag) (f:Str) (Q:VK) (x:V) (H1:Hp):Prop
 | mk (a C dx:Addr) (fs:List (Str×V)) (v:V) (h1:x = .ref a) (h2:H1 a=some (.ins C dx fs)) (h3:wZ K C) (h4:e9 K C f) (h5:fs.lookup f=some v) (q:Q v H1)
def aar (K:W.Frag) (ta:TE) (f:Str):TE:=λ U H Q=>ta U H (LR K f Q)
def VT (K:W.Frag) (ta tv:TE) (f:Str):TS:=λ D U H=>tv U H λ y H1=>ta U H1 λ x H2=>∃ a C dx fs,x = .ref a/\H2 a=some (.ins C dx fs)/\wZ K C/\e9 K C f/\fs.length<1000 /\
 D.nx U (upd H2 a (.ins C dx (bC f y fs)))
section
variable {X:Cx} {o e value:Expr} {f:Str} {pos pos' nN:Pos} {ta tv:TE}
theorem bR (he:PE X e ta) (hb:attributeBase e f X.env (eval e X.env)=eval e X.env):PE X (.Attribute e f pos) (aar X.K ta f):=by
 intro pins s U H Q I h
 refine CF hb (cx (he pins s U H _ I h) λ u s1 ⟨x,H1,I1,rx,a,C,dx,fs,v,ex,ea,c,n,l,q⟩=>?_)
 subst ex
 obtain rfl:u=Value.ref a:=rx
 exact wc I1 ea c n l λ u' s2 I2 ru=>⟨v,H1,I2,ru,q⟩
theorem ie (ha:PE X o ta) (hv:PE X value tv) (hs:swapsWith value (some (.Attribute o f pos')) pos.line X.env=pure false):PS X (.Assign [.Attribute o f pos'] value pos) (VT X.K ta tv f):=by
 intro pins s U H D I h
 refine plainObj_wpAny_Assign_Attribute (cx (hv pins s U H _ I h) λ u s1 ⟨y,H1,I1,ry,q⟩=>cx (ha pins s1 U H1 _ I1 q) λ ov s2 ⟨x,H2,I2,rx,a,C,dx,fs,ex,ea,c,n,l,q2⟩=>?_) hs
 subst ex
 obtain rfl:ov=Value.ref a:=rx
 exact xk I2 ea c n l ry λ s3 I3=>⟨U,_,I3,q2⟩
end
section
variable {X:Cx} {pins:List (Addr×Obj)} {U:St} {H:Hp} {s:Shared} {A:Around} {E:Value->Shared->Prop} {Q:Value->Shared->Prop} {c:Value} {b:Bool}
inductive mq (K:W.Frag) (H:Hp):V->Value->Prop where
 | cR:mq K H .cR (.type "NoneType")
 | bl (x:Bool):mq K H (.bl x) (.type "bool")
 | int (i:Int):mq K H (.int i) (.type "int")
 | str (x:Str):mq K H (.str x) (.type "str")
 | FC (x:UInt64):mq K H (.FC x) (.type "float")
 | lst {a:Addr} {xs:List V} (e:H a=some (.lst xs)):mq K H (.ref a) (.type "list")
 | wC {a:Addr} {o:Obj} {xs:List V} (e:H a=some (.wC o (.lst xs))):mq K H (.ref a) (.type "list")
 | tup {a:Addr} {xs:List V} (e:H a=some (.tup xs)):mq K H (.ref a) (.type "tuple")
 | dK {a:Addr} {aw:List (Key×V)} (e:H a=some (.dK aw)):mq K H (.ref a) (.type "dict")
 | dT {a:Addr} {aw:List (List Key×V)} (e:H a=some (.dT aw)):mq K H (.ref a) (.type "dict")
 | ins {a C dx:Addr} {fs:List (Str×V)} (e:H a=some (.ins C dx fs)) (cl:wZ K C) (ha:W.findIn K (.ref C) "__class__" = some (some (.builtin "object.__class__")))
     (hn:W.specialIn K (.builtin "object.__class__") "__get__" = some (some (.builtin "getset_descriptor.__get__"))) (MB:W.takesIn K (.builtin "object.__class__")=some true)
     (hm:W.mroIn K C (.type "object")=some true):mq K H (.ref a) (.ref C)
theorem yL {x:V} {t:Value} (I:Inv X pins U H s) (rx:RelV x u) (ty:mq X.K H x t) (e:W.kitOne X.K t c=some b) (h:∀ tk,Q (.bool b) { s with toks:=tk }) :
   wpAny (model X.prog X.w) A (call (.builtin "isinstance") [u,c]) Q E s:=by
 cases ty with
 | cR=>cases (show u=Value.none from rx);exact aec W.kitx_none I.nE True.intro e (λ z=>nomatch z) h
 | bl y=>cases (show u=Value.bool y from rx);exact aec W.kitx_bool I.nE True.intro e (λ z=>nomatch z) h
 | int i=>obtain ⟨t,q⟩:=(show ∃ t,u=Value.int i t from rx);cases q;exact aec W.kitx_int I.nE True.intro e (λ z=>nomatch z) h
 | str y=>obtain ⟨t,q⟩:=(show ∃ t,u=Value.str y t from rx);cases q;exact aec W.kitx_str I.nE True.intro e (λ z=>nomatch z) h
 | FC y=>obtain ⟨t,q⟩:=(show ∃ t,u=Value.float y t from rx);cases q;exact aec W.kitx_float I.nE True.intro e (λ z=>nomatch z) h
 | @lst a xs ea =>
   cases (show u=Value.ref a from rx)
   obtain ⟨_,_,n,_,h1⟩:=(show cw X.prog X.w H s.heap a (.lst xs) from I.cq a _ ea)
   exact aec W.kitx_list I.nE ⟨_,h1,rfl⟩ e (λ z=>nomatch z) h
 | @wC a ob xs ea =>
   cases (show u=Value.ref a from rx)
   obtain ⟨_,_,_,n,_,h1⟩:=(show cw X.prog X.w H s.heap a (.wC ob (.lst xs)) from I.cq a _ ea)
   exact aec W.kitx_list I.nE ⟨_,h1,rfl⟩ e (λ z=>nomatch z) h
 | @tup a xs ea =>
   cases (show u=Value.ref a from rx)
   obtain ⟨_,_,_,p⟩:=(show cw X.prog X.w H s.heap a (.tup xs) from I.cq a _ ea)
   obtain ⟨o,h1,h2,_⟩:=p
   exact aec W.kitx_tuple I.nE ⟨o,h1,h2⟩ e (λ z=>nomatch z) h
 | @dK a aw ea =>
   cases (show u=Value.ref a from rx)
   obtain ⟨_,_,vs,_,p⟩:=(show cw X.prog X.w H s.heap a (.dK aw) from I.cq a _ ea)
   obtain ⟨o,es,ep,h1,h2,_⟩:=p
   exact aec W.kitx_dict I.nE ⟨o,h1,h2.1⟩ e (λ z=>nomatch z) h
 | @dT a aw ea =>
   cases (show u=Value.ref a from rx)
   obtain ⟨_,_,xs,_,o,es,ep,h1,h2,_⟩:=(show cw X.prog X.w H s.heap a (.dT aw) from I.cq a _ ea)
   exact aec W.kitx_dict I.nE ⟨o,h1,h2.1⟩ e (λ z=>nomatch z) h
 | @ins a C dx fs ea cl ha hn MB hm =>
   cases (show u=Value.ref a from rx)
   obtain ⟨mA,O,_⟩:=nQ I.cq ea
   obtain ⟨od,J,_⟩:=O.look
   exact aec (W.kitx_own (cl.get _) cl.hd ha hn MB hm) I.nE J e (λ z=>nomatch z) h
end
structure cQ (k:Nat) (A:Around):Prop where
 hd:A.handled=none
 dp:A.depth+3 * k+5<recursionLimit
 un:A.units+16 * k+200<cLine
theorem cQ.mono {j k:Nat} {A:Around} (r:cQ k A) (h:j<=k):cQ j A:=⟨r.hd,by have:=r.dp;lia,by have:=r.un;lia⟩
theorem cQ.deeper {k:Nat} {A:Around} (r:cQ (k+1) A) (env:Env):cQ k (A.deeper env) :=
 ⟨r.hd,by have:=r.dp;show A.depth+1+3 * k+5<_;lia,by have:=r.un;show A.units+3+16 * k+200<_;lia⟩
theorem wL {A:Around} {kw:List (Str×Value)}:(A.under (.builtin "type.__call__" ⟨.ref C::us,kw⟩)).depth=A.depth+1:=by
 first|rfl|simp [Around.under,Code.weight,Code.isCreation,Code.isGuard,Code.isCaller,Code.frames,Code.isFrame,guardIds]
theorem xo {A:Around} {kw:List (Str×Value)}:(A.under (.builtin "type.__call__" ⟨.ref C::us,kw⟩)).units=A.units+1:=by
 first|rfl|simp [Around.under,Code.cUnits,Code.frames,Code.isFrame]
theorem cQ.make {k:Nat} {A:Around} (r:cQ (k+1) A) (C:Addr) (us:List Value) (kw:List (Str×Value)):cQ k (A.under (.builtin "type.__call__" ⟨.ref C::us,kw⟩)) :=
 ⟨r.hd,by have:=r.dp;rw [wL];lia,by have:=r.un;rw [xo];lia⟩
theorem cQ.depth {k:Nat} {A:Around} (r:cQ k A):A.depth<recursionLimit:=by have:=r.dp;lia
theorem cQ.units {k:Nat} {A:Around} (r:cQ k A):A.units+64<cLine:=by have:=r.un;lia
def CT:TA:=λ _ H Q=>Q [] H
def KC (ta:TE) (tr:TA):TA:=λ U H Q=>ta U H λ x H1=>tr U H1 λ xs H2=>Q (x::xs) H2
section
variable {X:Cx} {e:Expr} {es:List Expr} {te:TE} {t:TA} {pos:Pos}
theorem ac:PA X [] CT:=λ _ _ _ _ H Q I h=>Calls.spliced_nil ⟨[],H,I,.nil,h⟩
theorem aa (ha:PE X e te) (hr:PA X es t) (hs:starEach (e::es) X.env=(false,eval e X.env)::starEach es X.env:=by rfl):PA X (e::es) (KC te t):=by
 intro pos pins s U H Q I h
 rw [hs]
 show wpAny _ _ (spliced ((false,eval e X.env)::backTo pos (starEach es X.env))) _ _ s
 refine aff (cx (ha pins s U H _ I h) λ u s1 ⟨x,H1,I1,r1,q1⟩=>?_)
 exact cx (hr pos pins s1 U H1 _ I1 q1) λ us s2 ⟨xs,H2,I2,r2,q2⟩=>⟨x::xs,H2,I2,.cons r1 r2,q2⟩
def VQ (t:TA):TE:=λ U H Q=>t U H λ xs H1=>xs.length<=sizeLine/\∀ p,H1 p=none->Q (.ref p) (upd H1 p (.tup xs))
def ZQ (t:TA):TE:=λ U H Q=>t U H λ xs H1=>xs.length<=sizeLine/\∀ p,H1 p=none->Q (.ref p) (upd H1 p (.lst xs))
theorem b9 {x1} (h:PA X es t):PE X (.Tuple es x1 pos) (VQ t):=by
 intro pins s U H Q I hq
 refine wpAny_Tuple_spliced (cx (h pos pins s U H _ I hq) λ us s1 ⟨xs,H1,I1,r,z,q⟩=>⟨by rw [← r.length];exact z,?_⟩)
 have hf:H1 s1.heap.objs.size=none:=I1.cq.fresh (aaT _)
 refine ⟨.ref s1.heap.objs.size,upd H1 s1.heap.objs.size (.tup xs),I1.laid (t':=s1.toks) (λ b u e=>aa4 _ e) (aaT _) ?_,rfl,q _ hf⟩
 exact ⟨z,us,r,⟨_,ac6 _ rfl,rfl,_,rfl⟩⟩
theorem cG (h:PA X es t):PE X (.List es pos) (ZQ t):=by
 intro pins s U H Q I hq
 refine wpAny_List_spliced (cx (h pos pins s U H _ I hq) λ us s1 ⟨xs,H1,I1,r,z,q⟩=>⟨by rw [← r.length];exact z,?_⟩)
 have hf:H1 s1.heap.objs.size=none:=I1.cq.fresh (aaT _)
 refine ⟨.ref s1.heap.objs.size,upd H1 s1.heap.objs.size (.lst xs),I1.laid (t':=s1.toks) (λ b u e=>aa4 _ e) (aaT _) ?_,rfl,q _ hf⟩
 exact ⟨z,us,0,r,ac6 _ rfl⟩
end
abbrev Sp:=List V->Hp->VK->XK->Prop
abbrev Ak:=List Env->Hp->Shared->XK->Value->Shared->Prop
structure we (P:Program) (w:World) (K:W.Frag) (mg:Str->Option Value) (base:Heap) (A:Around) (outer:List Env) (s:Shared) (H:Hp):Prop where
 frames:A.frames=some outer
 mod:Mod K mg base
 bs:∀ b o,base.get? b=some o->s.heap.get? b=some o/\H b=none
 FE:base.objs.size<=s.heap.objs.size
 ng:s.heap.FunFrames base outer
 HB:∀ b∈zH outer,H b=none
 cq:kI P w H s.heap
 bare:AllBare s.gens
def CE (outer:List Env) (P:Program) (w:World) (H:Hp) (s:Shared) (Q:VK) (u:Value) (s':Shared):Prop :=
 ∃ v H',s'.os=s.os/\AllBare s'.gens/\Un (zH outer) [] H H' s.heap s'.heap/\kI P w H' s'.heap/\RelV v u/\Q v H'
def CR (CX:Ak) (outer:List Env) (P:Program) (w:World) (H:Hp) (s:Shared) (Q:VK) (E:XK) (r:Result) (s':Shared):Prop :=
 match r with
 | .ok (.ret u)=>CE outer P w H s Q u s'
 | .ok _=>False
 | .error e=>CX outer H s E e s'
structure kr (P:Program) (w:World) (K:W.Frag) (mg:Str->Option Value) (base:Heap) (CX:Ak) (k:Nat) (f:Addr) (fd:FuncData) (ps:List Str) (sp:Sp):Prop where
 len:∀ vs H Q E,sp vs H Q E->vs.length=ps.length
 run:∀ (A:Around) (outer:List Env) (s:Shared) (H:Hp) (args:Args) (us:List Value) (vs:List V) (Q:VK) (E:XK),cQ k A->we P w K mg base A outer s H->BindsTo s fd args (ps.zip us)->Vals vs us->sp vs H Q E ->
   codeAny (model P w) A (.call (.ref f) args) (CR CX outer P w H s Q E) s
theorem we.make {P:Program} {w:World} {K:W.Frag} {mg:Str->Option Value} {base:Heap} {A:Around} {outer:List Env} {s:Shared} (e:we P w K mg base A outer s H) (C:Addr) (us:List Value) (kw:List (Str×Value)) :
   we P w K mg base (A.under (.builtin "type.__call__" ⟨.ref C::us,kw⟩)) outer s H:=⟨by first|exact e.frames|(simpa [Around.under,Code.envs,Code.isFrame,pushEnvs] using e.frames),e.mod,e.bs,e.FE,e.ng,e.HB,e.cq,e.bare⟩
section
variable {X:Cx} {pins:List (Addr×Obj)} {U:St} {H:Hp} {s s':Shared}
theorem Inv.JZ (I:Inv X pins U H s):we X.prog X.w X.K X.mg X.base X.A X.stack s H :=
 ⟨I.ok.frames,I.ok.mod,I.bs,adf I.ok.FE I.sz,I.stack,I.yg,I.cq,I.bare⟩
theorem Inv.after (I:Inv X pins U H s) (h:CE X.stack X.prog X.w H s Q u s'):EP X pins U Q u s':=by
 obtain ⟨v,H',os,bare,un,cq,r,q⟩:=h
 obtain ⟨hh,g,d,t,os'⟩:=s'
 obtain rfl:os'=s.os:=os
 exact ⟨v,H',I.call (h':=hh) (g':=g) (d':=d) (t':=t) (ch:=[]) un cq bare (λ b z=>absurd z (by simp)),r,q⟩
end
def FP (sp:Sp) (ii:List V) (E:XK) (t:TA):TE:=λ U H Q=>t U H λ vs H1=>sp (vs++ii) H1 Q E
inductive GX (C:Addr) (m:Str) (sp:Sp) (ii:List V) (E:XK) (t:TA) (U:St) (Q:VK) (x:V) (H1:Hp):Prop
 | mk (a dx:Addr) (fs:List (Str×V)) (h1:x = .ref a) (h2:H1 a=some (.ins C dx fs)) (h3:fs.lookup m=none) (q:t U H1 λ vs H2=>sp (x::(vs++ii)) H2 Q E)
def tQ (C:Addr) (m:Str) (sp:Sp) (ii:List V) (E:XK) (ta:TE) (t:TA):TE:=λ U H Q=>ta U H (GX C m sp ii E t U Q)
def AI (C:Addr) (sp:Sp) (ii:List V) (E:XK) (t:TA):TE:=λ U H Q=>t U H λ vs H1=>∀ x dx,H1 x=none->H1 dx=none->dx≠x ->
 sp (.ref x::(vs++ii)) (upd (upd H1 dx (.own x)) x (.ins C dx [])) (λ v H2=>v = .cR/\Q (.ref x) H2) E
def Binds (K:W.Frag) (fd:FuncData) (ps:List Str) (ds:List Value):Prop :=
 ∀ (s:Shared) (us:List Value),K.In s.heap->(us++ds).length=ps.length->BindsTo s fd ⟨us,[]⟩ (ps.zip (us++ds))
theorem Binds.all {K:W.Frag} {fd:FuncData} {ps:List Str} (h:∀ us:List Value,us.length=ps.length->bindArgs fd ⟨us,[]⟩=pure (ps.zip us)):Binds K fd ps []:=λ s us _ hl=>by
 rw [adO] at hl ⊢
 exact .of_eq (h us hl)
def Passes (CX:Ak) (X:Cx) (E:XK):Prop:=∀ (pins:List (Addr×Obj)) (U:St) (H:Hp) (s:Shared) (e:Value) (s':Shared),Inv X pins U H s->CX X.stack H s E e s'->X.xe e s'
section
variable {X:Cx} {CX:Ak} {k:Nat} {f C:Addr} {fd:FuncData} {ps:List Str} {sp:Sp} {ii:List V} {ds:List Value} {E:XK} {x m:Str} {p pos apos:Pos} {e o:Expr} {es:List Expr} {ta:TE} {t:TA}
theorem xi {s:Shared} {vs:List V} (F:kr X.prog X.w X.K X.mg X.base CX k f fd ps sp) (hr:cQ k X.A) (hb:Binds X.K fd ps ds) (hd:Vals ii ds) (hx:Passes CX X E) (I:Inv X pins U H s) (r:Vals vs us) (h:sp (vs++ii) H Q E):wpAny (model X.prog X.w) X.A (call (.ref f) us) (EP X pins U Q) X.xe s:=by
 have r2:Vals (vs++ii) (us++ds):=r.append hd
 have hl:(us++ds).length=ps.length:=by rw [← r2.length];exact F.len _ _ _ _ h
 refine wpAny_call (afm (F.run X.A X.stack s H ⟨us,[]⟩ (us++ds) (vs++ii) Q E hr I.JZ (hb s us I.nE hl) r2 h) λ r s' hq=>?_)
 cases r with
 | error e=>exact hx pins U H s e s' I hq
 | ok fl =>
   cases fl with
   | ret u=>exact I.after hq
   | next=>exact False.elim hq
   | brk=>exact False.elim hq
   | cont=>exact False.elim hq
theorem Ea (F:kr X.prog X.w X.K X.mg X.base CX k f fd ps sp) (hr:cQ k X.A) (hg:Gl X x) (hm:X.mg x=some (.ref f)) (hk:W.keepIn X.K (.ref f)=true) (hb:Binds X.K fd ps ds) (hd:Vals ii ds) (hx:Passes CX X E) (ha:PA X (e::es) t) (yU:(x == ("__debug__" : Str))=false:=by decide) (he:starEach (e::es) X.env=(false,eval e X.env)::starEach es X.env:=by rfl) (kJ:(backTo pos (starEach es X.env)).any (·.1)=false:=by rfl) :
   PE X (.Call (.Name x p) (e::es) [] pos) (FP sp ii E t):=by
 intro pins s U H Q I h
 refine aeB (rK I hg hm ?_ yU)
 refine W.callWith_K (h₀:=X.base) I.ok.mod.I0 hk (cx (ha pos pins s U H _ I h) λ us s1 ⟨vs,H1,I1,r,q⟩=>⟨I1.nE,?_⟩) he kJ
 exact xi F hr hb hd hx I1 r q
theorem CV {pl:Sem Bool} (he:PE X o ta) (c:wZ X.K C) (hm:Meth X.K C m f) (F:kr X.prog X.w X.K X.mg X.base CX k f fd ps sp) (hr:cQ k X.A) (hb:Binds X.K fd ps ds) (hd:Vals ii ds) (hx:Passes CX X E) (ha:PA X (e::es) t) (nW:starEach (e::es) X.env=(false,eval e X.env)::starEach es X.env:=by rfl) (kJ:(backTo pos (starEach es X.env)).any (·.1)=false:=by rfl) (ht:eval (.Call (.Attribute o m apos) (e::es) [] pos) X.env=(do
     let ov ← eval o X.env
     standAt apos.atName
     let (f,first) ← holding [ov] (getMethod ov m pl)
     callWith pos f first (backTo pos (starEach (e::es) X.env)) (backToKw pos (keywordEach [] X.env))):=by rfl) :
   PE X (.Call (.Attribute o m apos) (e::es) [] pos) (tQ C m sp ii E ta t):=by
 intro pins s U H Q I h
 refine W.methodCall_KW (pl:=pl) (cx (he pins s U H _ I h) λ u s1 ⟨x,H1,I1,rx,a,dx,fs,ex,ea,l,q⟩=>?_) ht
 subst ex
 obtain rfl:u=Value.ref a:=rx
 refine ou I1 ea c hm l ?_
 refine W.callWith_K (first:=[.ref a]) (h₀:=X.base) I.ok.mod.I0 hm.kp (cx (ha pos pins s1 U H1 _ I1 q) λ us s2 ⟨vs,H2,I2,r,q2⟩=>⟨I2.nE,?_⟩) nW kJ
 exact xi (us:=.ref a::us) (vs:=.ref a::vs) F hr hb hd hx I2 (.cons rfl r) q2
theorem zW {pl:Sem Bool} (he:PE X o ta) (c:wZ X.K C) (hm:Meth X.K C m f) (F:kr X.prog X.w X.K X.mg X.base CX k f fd ps sp) (hr:cQ k X.A) (hb:Binds X.K fd ps ds) (hd:Vals ii ds) (hx:Passes CX X E) (ht:eval (.Call (.Attribute o m apos) [] [] pos) X.env=(do
     let ov ← eval o X.env
     standAt apos.atName
     let (f,first) ← holding [ov] (getMethod ov m pl)
     callWith pos f first (backTo pos (starEach [] X.env)) (backToKw pos (keywordEach [] X.env))):=by rfl) :
   PE X (.Call (.Attribute o m apos) [] [] pos) (tQ C m sp ii E ta CT):=by
 intro pins s U H Q I h
 refine W.methodCall_KW (pl:=pl) (cx (he pins s U H _ I h) λ u s1 ⟨x,H1,I1,rx,a,dx,fs,ex,ea,l,q⟩=>?_) ht
 subst ex
 obtain rfl:u=Value.ref a:=rx
 refine ou I1 ea c hm l ?_
 exact W.callWith_K0 (first:=[.ref a]) I1.nE hm.kp (xi (us:=[.ref a]) (vs:=[.ref a]) F hr hb hd hx I1 (.cons rfl .nil) q)
structure Mk (K:W.Frag) (C f:Addr):Prop where
 makes:W.makesIn K C=true
 init:W.findIn K (.ref C) "__init__" = some (some (.ref f))
 fn:W.isFn K (.ref f)=true
 kp:W.keepIn K (.ref C)=true
theorem AH {s:Shared} {vs:List V} (M:Mk X.K C f) (F:kr X.prog X.w X.K X.mg X.base CX k f fd ps sp) (hr:cQ (k+1) X.A) (hb:Binds X.K fd ps ds) (hd:Vals ii ds) (hx:Passes CX X E) (I:Inv X pins U H s) (r:Vals vs us) (h:∀ x dx,H x=none->H dx=none->dx≠x->sp (.ref x::(vs++ii)) (upd (upd H dx (.own x)) x (.ins C dx [])) (λ v H2=>v = .cR/\Q (.ref x) H2) E) :
   wpAny (model X.prog X.w) X.A (call (.ref C) us) (EP X pins U Q) X.xe s:=by
 have hq:=h (s.heap.objs.size+1) s.heap.objs.size (I.cq.fresh (ad9 _)) (I.cq.fresh (aaT _)) (acW (ae5 _))
 have I2:=Inv.made (C:=C) I
 have r2:Vals (V.ref (s.heap.objs.size+1)::(vs++ii)) (Value.ref (s.heap.objs.size+1)::(us++ds)):=.cons rfl (r.append hd)
 have hl:(Value.ref (s.heap.objs.size+1)::us++ds).length=ps.length:=by
   have e:=r2.length
   rw [F.len _ _ _ _ hq] at e
   exact e.symm
 refine wpAny_call (AC (f:=f) I.nE M.makes M.init (beq_iff_eq.mp M.fn) (afm (F.run _ X.stack _ _ ⟨Value.ref (s.heap.objs.size+1)::us,[]⟩ (Value.ref (s.heap.objs.size+1)::(us++ds)) _ _ E (hr.make C us [])
   (I2.JZ.make C us []) (hb _ (Value.ref (s.heap.objs.size+1)::us) I2.nE hl) r2 hq) λ r s' IY=>?_))
 cases r with
 | error e=>exact hx pins U _ _ e s' I2 IY
 | ok fl =>
   cases fl with
   | ret u =>
     obtain ⟨v,H',I3,rv,ev,q3⟩:=I2.after IY
     subst ev
     exact ⟨rv,⟨V.ref (s.heap.objs.size+1),H',I3,rfl,q3⟩⟩
   | next=>exact False.elim IY
   | brk=>exact False.elim IY
   | cont=>exact False.elim IY
theorem CJ (M:Mk X.K C f) (F:kr X.prog X.w X.K X.mg X.base CX k f fd ps sp) (hr:cQ (k+1) X.A) (hg:Gl X x) (hm:X.mg x=some (.ref C)) (hb:Binds X.K fd ps ds) (hd:Vals ii ds) (hx:Passes CX X E) (ha:PA X (e::es) t) (yU:(x == ("__debug__" : Str))=false:=by decide) (he:starEach (e::es) X.env=(false,eval e X.env)::starEach es X.env:=by rfl) (kJ:(backTo pos (starEach es X.env)).any (·.1)=false:=by rfl) :
   PE X (.Call (.Name x p) (e::es) [] pos) (AI C sp ii E t):=by
 intro pins s U H Q I h
 refine aeB (rK I hg hm ?_ yU)
 refine W.callWith_K (h₀:=X.base) I.ok.mod.I0 M.kp (cx (ha pos pins s U H _ I h) λ us s1 ⟨vs,H1,I1,r,q⟩=>⟨I1.nE,?_⟩) he kJ
 exact AH M F hr hb hd hx I1 r q
end
section
variable {X:Cx} {CX:Ak} {k:Nat} {f C:Addr} {fd:FuncData} {ps ks:List Str} {sp:Sp} {E:XK} {x m:Str} {p pos apos ahn:Pos} {e o:Expr} {es:List Expr} {kws:List Keyword} {te ta:TE} {t tk:TA} {nm:Option Str}
variable {g:List Value->List Value->List Value} {gV:List V->List V->List V}
end
structure az (N P:List Str) (sc:Scope):Prop where
 kind:sc.kind = .function
 co:sc.isCoroutine=false
 gen:sc.isGenerator=false
 nd:N.Nodup
 pre:N.take P.length=P
 par:∀ x∈P,sc.names.lookup x=some .local∨sc.names.lookup x=some .cell
 GK:∀ y∈sc.names,y.2 ≠ .free
theorem qD {kindOf:Str->Option NameKind} {x:Str}:∀ {binds:List (Str×Value)} {m:Str->Option Value},(∀ v,(x,v)∉binds)->bindL kindOf binds m x=m x
 | [],_,_=>rfl
 | (n,v)::r,m,h=>by
   unfold bindL
   rw [qD λ w hw=>h w (acV _ hw)]
   split
   . have:x≠n:=by rintro rfl;exact h v acY
     simp [this]
   . rfl
theorem rm {kindOf:Str->Option NameKind} {x:Str}:∀ {binds:List (Str×Value)} {m:Str->Option Value},(∀ v,(x,v)∉binds)->bindC kindOf binds m x=m x
 | [],_,_=>rfl
 | (n,v)::r,m,h=>by
   unfold bindC
   rw [rm λ w hw=>h w (acV _ hw)]
   split
   . rfl
   . have:x≠n:=by rintro rfl;exact h v acY
     simp [this]
theorem qI {kindOf:Str->Option NameKind} {x:Str} {v:Value}:∀ {P:List Str} {vs:List Value} {i:Nat} {m:Str->Option Value},P.Nodup->P[i]?=some x->vs[i]?=some v->kindOf x=some .local ->
   bindL kindOf (P.zip vs) m x=some v
 | [],_,_,_,_,h,_,_=>by simp at h
 | _::_,[],_,_,_,_,h,_=>by simp at h
 | p::P,w::vs,0,m,nd,h1,h2,hk=>by
   simp at h1 h2;subst h1;subst h2
   show bindL kindOf ((p,w)::P.zip vs) m p=_
   unfold bindL
   rw [qD λ v hv=>(List.nodup_cons.mp nd).1 (afa hv).1,abS hk]
   simp
 | p::P,w::vs,i+1,m,nd,h1,h2,hk=>by
   show bindL kindOf ((p,w)::P.zip vs) m x=_
   unfold bindL
   exact qI (i:=i) (List.nodup_cons.mp nd).2 (by simpa using h1) (by simpa using h2) hk
theorem rh {kindOf:Str->Option NameKind} {x:Str} {v:Value}:∀ {P:List Str} {vs:List Value} {i:Nat} {m:Str->Option Value},P.Nodup->P[i]?=some x->vs[i]?=some v->kindOf x≠some .local ->
   bindC kindOf (P.zip vs) m x=some v
 | [],_,_,_,_,h,_,_=>by simp at h
 | _::_,[],_,_,_,_,h,_=>by simp at h
 | p::P,w::vs,0,m,nd,h1,h2,hk=>by
   simp at h1 h2;subst h1;subst h2
   show bindC kindOf ((p,w)::P.zip vs) m p=_
   unfold bindC
   rw [rm λ v hv=>(List.nodup_cons.mp nd).1 (afa hv).1,abZ hk]
   simp
 | p::P,w::vs,i+1,m,nd,h1,h2,hk=>by
   show bindC kindOf ((p,w)::P.zip vs) m x=_
   unfold bindC
   exact rh (i:=i) (List.nodup_cons.mp nd).2 (by simpa using h1) (by simpa using h2) hk
def start (N:List Str) (vs:List V):St:=vs.map some++List.replicate (N.length - vs.length) none
def mD (CX:Ak) (P:Program) (w:World) (K:W.Frag) (mg:Str->Option Value) (base:Heap) (N:List Str) (qual:Str) (scope:Scope) (f:Addr) (cd:Value) (A:Around) (outer:List Env) (s:Shared) (H:Hp) (E:XK):Cx where
 prog:=P
 w:=w
 K:=K
 mg:=mg
 base:=base
 A:=A.deeper (envOfC qual scope s.heap.objs.size f cd)
 N:=N
 s₀:=s
 H₀:=H
 env:=envOfC qual scope s.heap.objs.size f cd
 outer:=outer
 stack:=envOfC qual scope s.heap.objs.size f cd::outer
 ex:=[]
 calm:=true
 fn:=λ _=>true
 pn:=[]
 xe:=λ e s'=>wpAny (model P w) (A.deeper (envOfC qual scope s.heap.objs.size f cd)) (leaving (envOfC qual scope s.heap.objs.size f cd) e) (λ _ Xv=>CX outer H s E e Xv) (λ e' Xv=>CX outer H s E e' Xv) s'
theorem uA {sc:Scope} {n:Nat} {x:Str} (h:sc.names.lookup x=some .cell):∃ c,(cellsFrom n sc.names []).lookup x=some c:=by
 have q:=W.cellsFrom_some sc.names n [] (.inl h)
 exact Option.isSome_iff_exists.mp q
theorem zh {CX:Ak} {P:Program} {w:World} {K:W.Frag} {mg:Str->Option Value} {base:Heap} {N ps:List Str} {scope:Scope} {f:Addr} {cd:Value} {A:Around} {outer:List Env} {s s1:Shared} {E:XK} {vs:List V} (S:az N ps scope) (hd:A.handled=none) (e0:we P w K mg base A outer s H) (hl:vs.length=ps.length) (r:Vals vs us) (x:InCallC s s.heap.objs.size (bindL (envOfC qual scope s.heap.objs.size f cd).kindOf (ps.zip us) λ _=>none) (cellsFrom (s.heap.objs.size+1) scope.names []) (bindC (envOfC qual scope s.heap.objs.size f cd).kindOf (ps.zip us) λ _=>none) s1) :
   Inv (mD CX P w K mg base N qual scope f cd A outer s H E) [] (start N vs) H s1:=by
 have kJ:ps.length<=N.length:=by have:=aea List.length S.pre;rw [acB] at this;lia
 obtain ⟨h1,tk,rfl,hk⟩:=x.done
 have IV:∀ b:Addr,b∉(mD CX P w K mg base N qual scope f cd A outer s H E).ex:=λ b z=>absurd (show b∈([]:List Addr) from z) (by simp)
 refine ⟨⟨e0.mod,S.kind,rfl,rfl,aaT _,λ y z c h1 h2=>?_,λ y hy=>?_,λ y c _ h=>?_,λ _=>hd,Around.frames_deeper e0.frames,.inr ⟨rfl,rfl⟩,λ b z=>absurd z (IV b),e0.bs,e0.FE,λ b _ _=>IV b,λ b z=>absurd z (IV b),e0.ng,e0.HB⟩,
   rfl,e0.bare,Un.kept hk,⟨_,x.toInCall.ns,λ i y v h1 h2 h3=>?_⟩,λ y c h=>⟨_,x.cell y c h⟩,e0.cq.fresh (aaT _),λ y c h=>?_,λ p hp=>absurd (show p∈([]:List (Addr×Obj)) from hp) (by simp),e0.cq.kept hk,?_⟩
 . exact name_of_addr x.apart (adI h1) (adI h2)
 .
  have hy:scope.names.lookup y=some .cell∨scope.names.lookup y=some .free:=hy
  rcases hy with hy|hy
  . exact uA hy
  . exact absurd rfl (S.GK _ (adI hy))
 . exact aed (x.above y c (adI h))
 .
  have hi:i<vs.length:=by
    unfold start at h2
    by_cases hi:i<vs.length
    . exact hi
    . rw [ade (by simpa using hi)] at h2
      rw [aex] at h2
      split at h2<;>cases h2
  have ha:vs[i]?=some v:=by
    unfold start at h2
    rw [acZ (by simpa using hi),Jl] at h2
    cases e:vs[i]? with
    | none=>rw [e] at h2;cases h2
    | some a=>rw [e] at h2;cases h2;rfl
  obtain ⟨u,hu,rv⟩:=r.get ha
  have hp:ps[i]?=some y:=by
    rw [← S.pre,ad4 (by lia)];exact h1
  have ndP:ps.Nodup:=by rw [← S.pre];exact S.nd.sublist (List.take_sublist _ _)
  refine ⟨u,rv,?_⟩
  rcases S.par y (acU hp) with k|k
  . exact .inl ⟨k,qI ndP hp hu k⟩
  .
   obtain ⟨c,e⟩:=uA (n:=s.heap.objs.size+1) k
   refine .inr ⟨.inl k,c,e,?_⟩
   have q:=x.cell y c e
   rw [rh ndP hp hu (by show scope.names.lookup y≠_;rw [k];decide)] at q
   exact q
 . exact e0.cq.fresh (aed (x.above y c (adI h)))
 .
  unfold start
  show _=N.length
  rw [aaD,xq,adN]
  lia
theorem FT {CX:Ak} {P:Program} {w:World} {K:W.Frag} {mg:Str->Option Value} {base:Heap} {k:Nat} {f:Addr} {name:Str} {params:Arguments} {body:List Stmt} {scope:Scope} {dV kV doc pm bx ct oc:Value} {an od:Option Addr} {uM:Array (Option Value)} {N ps:List Str} {sp:Sp} (lk:K.lookup f=some ⟨oc,od,.func (W.fnOf name qual params body scope dV kV doc pm an bx ct),uM⟩) (vE:W.codeIn K bx qual=true) (S:az N ps scope) (len:∀ vs H Q E,sp vs H Q E->vs.length=ps.length) (gB:∀ (A:Around) (outer:List Env) (s:Shared) (H:Hp) (vs:List V) (Q:VK) (E:XK),cQ k (A.deeper (envOfC qual scope s.heap.objs.size f bx))->sp vs H Q E ->
     ∃ t,qA (mD CX P w K mg base N qual scope f bx A outer s H E) body t/\t { nx:=λ _ H'=>Q .cR H',rt:=Q } (start N vs) H) :
   kr P w K mg base CX (k+1) f (W.fnOf name qual params body scope dV kV doc pm an bx ct) ps sp:=by
 refine ⟨len,λ A outer s H args us vs Q E hr e0 hb r Fj=>?_⟩
 have hl:=len _ _ _ _ Fj
 have KX:K.In s.heap:=e0.mod.I0.keeps λ b o e=>(e0.bs b o e).1
 have lim:s.heap.NoLimit:=e0.mod.nolimit.keeps λ b o e=>(e0.bs b o e).1
 have Me:∀ y∈ps.zip us,scope.names.lookup y.1=some .local∨(scope.names.lookup y.1=some .cell/\((cellsFrom (s.heap.objs.size+1) scope.names []).lookup y.1).isSome=true):=λ ⟨n,v⟩ hy=>by
   rcases S.par n (afa hy).1 with q|q
   . exact .inl q
   . exact .inr ⟨q,W.cellsFrom_some _ _ _ (.inl q)⟩
 refine codeAny_call_function hr.depth (KX _ _ lk) rfl S.co S.gen rfl (W.codeRec_of KX vE) (hb _ _ _ _ ?_)
 refine wpAny_newFunctionEnv_cells S.kind Me λ env he s1 x=>?_
 subst he
 refine ⟨lim.keeps x.toInCall.keep,codeAny_func ?_⟩
 obtain ⟨t,ht,hq⟩:=gB A outer s H vs Q E (hr.deeper _) Fj
 have I:Inv (mD CX P w K mg base N qual scope f bx A outer s H E) [] (start N vs) H s1:=zh S hr.hd e0 hl r x
 refine adF (ht [] s1 (start N vs) H _ I hq) (λ fl s' hs=>?_) λ e s' hs=>hs
 have fin:∀ {σ':St} {H':Hp} {v:V} {u:Value},Inv (mD CX P w K mg base N qual scope f bx A outer s H E) [] σ' H' s'->RelV v u->Q v H'->CE outer P w H s Q u s' :=
   λ {σ' H' v u} J rv q=>⟨v,H',J.os,J.bare,J.base,J.cq,rv,q⟩
 cases fl with
 | ret u =>
   obtain ⟨v,σ',H',J,rv,q⟩:=hs
   exact fin J rv q
 | next =>
   obtain ⟨σ',H',J,q⟩:=hs
   exact fin (v:=V.cR) (u:=Value.none) J rfl q
 | brk =>
   obtain ⟨_,_,_,q⟩:=hs
   exact False.elim q
 | cont =>
   obtain ⟨_,_,_,q⟩:=hs
   exact False.elim q
section
variable {X:Cx} {x:Str} {p pos:Pos} {e:Expr} {es:List Expr} {t:TA} {id T:String} {r:List V->Hp->VK->Prop}
def tCB (r:List V->Hp->VK->Prop) (t:TA):TE:=λ U H Q=>t U H λ vs H1=>r vs H1 Q
theorem bh (hc:gS X (.builtin id) r) (hg:Gl X x) (hm:X.mg x=none) (hv:bootBuiltins x=some (.builtin id)) (ha:PA X (e::es) t) (hn:x ≠ "__name__":=by decide) (yU:(x == ("__debug__" : Str))=false:=by decide) (he:starEach (e::es) X.env=(false,eval e X.env)::starEach es X.env:=by rfl) (kJ:(backTo pos (starEach es X.env)).any (·.1)=false:=by rfl):PE X (.Call (.Name x p) (e::es) [] pos) (tCB r t):=by
 intro pins s U H Q I h
 refine aeB (jD I hg hm hv ?_ hn yU)
 exact PyProof.Rows.callWith_builtin1 (cx (ha pos pins s U H _ I h) λ us s1 ⟨vs,H1,I1,r1,q1⟩=>hc pins s1 U H1 vs us Q I1 r1 q1) he kJ
theorem eA (hc:gS X (.type T) r) (hg:Gl X x) (hm:X.mg x=none) (hv:bootBuiltins x=some (.type T)) (ha:PA X (e::es) t) (hn:x ≠ "__name__":=by decide) (yU:(x == ("__debug__" : Str))=false:=by decide) (he:starEach (e::es) X.env=(false,eval e X.env)::starEach es X.env:=by rfl) (kJ:(backTo pos (starEach es X.env)).any (·.1)=false:=by rfl):PE X (.Call (.Name x p) (e::es) [] pos) (tCB r t):=by
 intro pins s U H Q I h
 refine aeB (jD I hg hm hv ?_ hn yU)
 exact ady (cx (ha pos pins s U H _ I h) λ us s1 ⟨vs,H1,I1,r1,q1⟩=>hc pins s1 U H1 vs us Q I1 r1 q1) he kJ
end
end L2
namespace HT
open PySem PyProof.Rows
def lexLt:List Int->List Int->Bool
 | [],[]=>false
 | [],_::_=>true
 | _::_,[]=>false
 | x::xs,y::ys=>if x=y then lexLt xs ys else decide (x<y)
section
open PySem.SeqAt
open PySem.AutoSeq1 (wpAny_loadPart')
open PySem.MeetsSeq PySem.MeetsSeq2 PySem.MeetsSeq3
end
section
variable {prog:Program} {w:World} {A:Around} {E:Value->Shared->Prop} {s:Shared}
theorem Eh {t b:Addr} {vs ws:List Value} {Q:Value->Shared->Prop} (ht:IsTup s.heap t vs.toArray) (hb:IsTup s.heap b ws.toArray) (hv:vs≠[])
   (h1:ws=[]->Q (.ref t) s) (h2:ws≠[]->Q (.ref s.heap.objs.size) { s with heap:=s.heap.push { cls:=.type "tuple",data:=.seq (vs++ws).toArray }})
   (hsz:vs.length+ws.length<=sizeLine):wpAny (model prog w) A (binaryOp .Add (.ref t) (.ref b)) Q E s:=by
 obtain ⟨⟨cls,dd,data,sl⟩,ho,hc,n,hd⟩:=id ht
 obtain ⟨⟨OV,Ht,data2,MY⟩,GJ,K6,n2,hd2⟩:=id hb
 simp only at hc hd K6 hd2
 subst hc hd K6 hd2
 have e:vs.toArray++ws.toArray=(vs++ws).toArray:=by simp
 by_cases hw:ws=[]
 . exact concat_meets ⟨_,ho,rfl⟩ ⟨_,GJ,rfl⟩ afp seq_tuple_add aeE aew (aes _ _)
     (tuple_addW1 t b vs.toArray ws.toArray n n2 dd Ht sl MY (by simpa using hv) (by simp [hw])) ⟨ho,GJ,h1 hw⟩
 .
  refine concat_meets ⟨_,ho,rfl⟩ ⟨_,GJ,rfl⟩ afp seq_tuple_add aeE aew (aes _ _)
    (tuple_addW2 t b vs.toArray ws.toArray n n2 dd Ht sl MY (by simpa using hv) (by simpa using hw) (by rw [abO,abO];exact hsz)) ⟨ho,GJ,?_⟩
  rw [e]
  exact h2 hw
def qm (n d:Nat):Option Int->Nat
 | none=>d
 | some v=>if v<0 then (v+(n:Int)).toNat else min v.toNat n
theorem AQ (n d:Nat):qm n d none=d:=rfl
theorem Cz (n d k:Nat):qm n d (some (k:Int))=min k n:=by
 show (if (k:Int)<0 then ((k:Int)+(n:Int)).toNat else min (k:Int).toNat n)=min k n
 rw [abZ (by lia),adB]
end
end HT
namespace L2
open PySem PySem.Spec PyProof.Rows
variable {H H':Hp} {h':Heap} {bf its':List Value} {pins:List (Addr×Obj)} {t':Nat} {u:Value} {v:V} {xs:List V} {U:St}
abbrev TO:=St->Hp->(Option Int->Hp->Prop)->Prop
def PO (X:Cx) (e:Option Expr) (t:TO):Prop :=
 ∀ (pins:List (Addr×Obj)) (s:Shared) (U:St) (H:Hp) (Q:Option Int->Hp->Prop),Inv X pins U H s->t U H Q ->
   wpAny (model X.prog X.w) X.A (evalPart e X.env) (λ u s'=>∃ o H',Inv X pins U H' s'/\IsPart u o/\Q o H') X.xe s
def EJ:TO:=λ _ H Q=>Q none H
def Lp (t:TE):TO:=λ U H Q=>t U H λ x H1=>∃ i,x = .int i/\Q (some i) H1
section
variable {X:Cx} {e:Expr} {te:TE} {lo hi:Option Expr} {tl th:TO} {pos p2:Pos}
theorem se:PO X none EJ:=by
 intro pins s U H Q I h
 rw [evalPart_none]
 exact ac9 ⟨none,H,I,.none,h⟩
theorem jj (h:PE X e te):PO X (some e) (Lp te):=by
 intro pins s U H Q I hw
 rw [evalPart_some]
 refine cx (h pins s U H _ I hw) λ u s1 ⟨x,H1,I1,r1,q1⟩=>?_
 obtain ⟨i,rfl,q⟩:=q1
 obtain ⟨t,rfl⟩:=r1
 exact ⟨some i,H1,I1,.int i t,q⟩
def SlR (X:Cx) (r:V->Option Int->Option Int->Hp->VK->Prop):Prop :=
 ∀ (pins:List (Addr×Obj)) (s:Shared) (U:St) (H:Hp) (x:V) (v vl vu:Value) (lo hi:Option Int) (sl:Addr) (Q:VK),Inv X pins U H s->RelV x v->s.heap.IsSliceOf sl vl vu .none->IsPart vl lo->IsPart vu hi->r x lo hi H Q ->
   ∃ T id,typeLookup (.type T) "__getitem__" = pure (some (.builtin id))/\s.TypeIs v T/\wpAny (model X.prog X.w) X.A (getItem v (.ref sl)) (EP X pins U Q) X.xe s
def tSl (r:V->Option Int->Option Int->Hp->VK->Prop) (te:TE) (tl th:TO):TE:=λ U H Q=>te U H λ x H1=>tl U H1 λ l H2=>th U H2 λ u H3=>r x l u H3 Q
theorem jr {r:V->Option Int->Option Int->Hp->VK->Prop} (hr:SlR X r) (he:PE X e te) (hl:PO X lo tl) (hu:PO X hi th):PE X (.Subscript e (.Slice lo hi none p2) pos) (tSl r te tl th):=by
 intro pins s U H Q I h
 refine Subscript_ (cx (he pins s U H _ I h) λ v s1 ⟨x,H1,I1,r1,q1⟩=>?_)
 refine wpAny_Slice (cx (hl pins s1 U H1 _ I1 q1) λ vl s2 ⟨l,H2,I2,pl,q2⟩=>cx (hu pins s2 U H2 _ I2 q2) λ vu s3 ⟨u,H3,I3,pu,q3⟩=>?_)
 rw [evalPart_none]
 refine ac9 ?_
 have I4:Inv X pins U H3 { s3 with heap:=s3.heap.push { cls:=.type "slice",data:=.fields #[vl,vu,.none]}}:=I3.kept (t':=s3.toks) λ b ob q=>aa4 _ q
 obtain ⟨T,id,hT,ht,hg⟩:=hr pins { s3 with heap:=s3.heap.push { cls:=.type "slice",data:=.fields #[vl,vu,.none]}} U H3 x v vl vu l u s3.heap.objs.size Q I4 r1 (Heap.IsSliceOf.new ..) pl pu q3
 show wpAny (model X.prog X.w) X.A (subscriptTail e (.Slice lo hi none p2) v (.ref s3.heap.objs.size)) (EP X pins U Q) X.xe { s3 with heap:=s3.heap.push { cls:=.type "slice",data:=.fields #[vl,vu,.none]}}
 exact tail_any (ops:=[.ref s3.heap.objs.size,v]) ht hT hg (by with_unfolding_all rfl)
def mE (xs:List V) (lo hi:Option Int):List V:=(xs.drop (HT.qm xs.length 0 lo)).take (HT.qm xs.length xs.length hi - HT.qm xs.length 0 lo)
theorem mU (xs:List V) (lo hi:Option Int):(mE xs lo hi).length<=xs.length:=by
 unfold mE
 rw [acB,List.length_drop]
 lia
inductive Jx (K:W.Frag) (x:V) (y:V) (H:Hp) (Q:VK):Prop
 | mk (a b xs ys:_) (_:x = .ref a) (_:y = .ref b) (_:bU K H a xs) (_:bU K H b ys) (_:xs≠[]) (_:xs.length+ys.length<=sizeLine) (_:(ys=[]->Q (.ref a) H)) (_:(ys≠[]->∀ p,H p=none->Q (.ref p) (upd H p (.tup (xs++ys)))))
theorem Vals.nP {us:List Value} (r:Vals xs us):us=[]↔xs=[]:=by
 cases r with
 | nil=>simp
 | cons _ _=>simp
theorem Dm:gI X (binaryOp .Add) (Jx X.K):=by
 intro pins s U H x y v u Q I rx ry h
 obtain ⟨a,b,xs,ys,rfl,rfl,ha,hb,hx,hz,q1,q2⟩:=h
 cases rx
 cases ry
 obtain ⟨bf,r1,p1,_⟩:=I.tuple ha
 obtain ⟨kM,r2,p2,_⟩:=I.tuple hb
 refine HT.Eh p1 p2 (λ z=>hx (r1.nP.mp z)) (λ z=>⟨.ref a,H,I,rfl,q1 (r2.nP.mp z)⟩) (λ z=>?_) (by rw [← r1.length,← r2.length];exact hz)
 refine ⟨.ref s.heap.objs.size,_,I.laid (t':=s.toks) (o:=.tup (xs++ys)) (λ b ob q=>aa4 _ q) (aaT _) ?_,rfl,q2 (λ w=>z (r2.nP.mpr w)) _ (I.cq.fresh (aaT _))⟩
 exact ⟨by rw [aaD];exact hz,_,r1.append r2,IsTup.new _ _⟩
end
def xv (n:Nat) (i:Int):Option Nat:=if 0<=i then (if i<n then some i.toNat else none) else if -(n:Int)<=i then some (i+n).toNat else none
def wO {α:Type} (xs:List α) (i:Int):Option α:=(xv xs.length i).bind λ j=>xs[j]?
theorem yl {n:Nat} {i:Int} {j:Nat} (h:xv n i=some j):seqIndex? i n=some j/\j<n/\-(n:Int)<=i/\i<n:=by
 unfold xv at h
 by_cases h0:0<=i
 .
  rw [abS h0] at h
  by_cases h1:i<n
  . rw [abS h1] at h
    have e:i.toNat=j:=aba h
    exact ⟨by rw [seqIndex_of h0 h1,e],by lia,by lia,h1⟩
  . rw [abZ h1] at h;cases h
 .
  rw [abZ h0] at h
  by_cases h1 : -(n:Int)<=i
  . rw [abS h1] at h
    have e:(i+n).toNat=j:=aba h
    exact ⟨by rw [seqIndex_neg (by lia) h1,e],by lia,h1,by lia⟩
  . rw [abZ h1] at h;cases h
theorem xz {α:Type} {xs:List α} {i:Int} {v:α} (h:wO xs i=some v):∃ j,seqIndex? i xs.length=some j/\xs[j]?=some v/\j<xs.length/\-(xs.length:Int)<=i/\i<xs.length:=by
 unfold wO at h
 cases e:xv xs.length i with
 | none=>rw [e] at h;cases h
 | some j =>
   rw [e] at h
   obtain ⟨h1,h2,h3,h4⟩:=yl e
   exact ⟨j,h1,h,h2,h3,h4⟩
theorem cf {α:Type} {xs:List α} {j:Nat} {v:α} (h:xs[j]?=some v):wO xs (j:Int)=some v:=by
 have hj:j<xs.length:=(List.getElem?_eq_some_iff.mp h).1
 have e:xv xs.length (j:Int)=some j:=by
   unfold xv
   rw [abS (by lia),abS (by lia)];simp
 unfold wO;rw [e];exact h
def Dx (b:Expr):Prop:=∀ o i,subscripted b false o i=operate [o,i] (getItem o i)
def Lb (X:Cx) (r:R2):Prop :=
 ∀ (value slice:Expr) (pins:List (Addr×Obj)) (s:Shared) (U:St) (H:Hp) (x y:V) (v u:Value) (Q:VK),Inv X pins U H s->RelV x v->RelV y u->r x y H Q ->
   subscripted slice false v u=operate [v,u] (getItem v u)->wpAny (model X.prog X.w) X.A (subscriptTail value slice v u) (EP X pins U Q) X.xe s
def Ss (X:Cx) (id:String) (r:V->List V->Hp->VK->Prop):Prop :=
 ∀ (pins:List (Addr×Obj)) (s:Shared) (U:St) (H:Hp) (x:V) (xs:List V) (v:Value) (us:List Value) (Q:VK),Inv X pins U H s->RelV x v->Vals xs us->r x xs H Q ->
   wpAny (model X.prog X.w) X.A (call (.builtin id) (v::us)) (EP X pins U Q) X.xe s
section
variable {X:Cx} {a b:Expr} {ta tb:TE} {pos:Pos}
theorem aG {r:R2} (hr:Lb X r) (ha:PE X a ta) (hb:PE X b tb) (hs:Dx b):PE X (.Subscript a b pos) (Mx r ta tb):=by
 intro pins s U H Q I h
 exact Subscript_ (HF ha hb I h λ v u s2 x y H2 I2 rx ry q=>hr a b pins s2 U H2 x y v u Q I2 rx ry q (hs _ _))
inductive Pn (K:W.Frag) (x:V) (y:V) (H:Hp) (Q:VK):Prop
 | mk (p xs i v:_) (_:x = .ref p) (_:y = .int i) (_:aV K H p xs) (_:wO xs i=some v) (_:Q v H)
inductive abC (K:W.Frag) (x:V) (y:V) (H:Hp) (Q:VK):Prop
 | mk (p xs i v:_) (_:x = .ref p) (_:y = .int i) (_:bU K H p xs) (_:wO xs i=some v) (_:Q v H)
theorem DZ:Lb X (Pn X.K):=by
 intro value slice pins s U H x y v u Q I rx ry h hs
 obtain ⟨p,xs,i,z,rfl,rfl,hq,he,q⟩:=h
 cases rx
 obtain ⟨t,rfl⟩:=ry
 obtain ⟨bf,r,pl,hz⟩:=I.list hq
 obtain ⟨j,h1,h2,h3,h4,h5⟩:=xz he
 obtain ⟨w,ew,yV⟩:=r.get h2
 have hl:=r.length
 have hn:=rE
 have fin:EP X pins U Q w s:=⟨z,H,I,yV,q⟩
 by_cases h0:0<=i
 .
  have hj:i.toNat=j:=by
    rw [seqIndex_of h0 h5] at h1
    exact aba h1
  exact item_listR pl.isList h0 (by lia) (by rw [hj];simpa using ew) fin hs
 .
  have hj:(i+(bf.toArray.size:Int)).toNat=j:=by
    rw [seqIndex_neg (by lia) h4] at h1
    rw [abO,← hl]
    exact aba h1
  exact subscriptTail_builtinR (x:=w) pl.isList.typeIs slot_list_getitem.lookup
    (wpAny_getItem_list_neg (Q:=λ r s'=>r=w/\EP X pins U Q r s') pl.isList (by lia) (by rw [abO]<;>lia) (by lia) (by rw [hj];simpa using ew) ⟨rfl,fin⟩) hs
theorem Gw:Lb X (abC X.K):=by
 intro value slice pins s U H x y v u Q I rx ry h hs
 obtain ⟨p,xs,i,z,rfl,rfl,hq,he,q⟩:=h
 cases rx
 obtain ⟨t,rfl⟩:=ry
 obtain ⟨bf,r,pl,hz⟩:=I.tuple hq
 obtain ⟨j,h1,h2,h3,h4,h5⟩:=xz he
 obtain ⟨w,ew,yV⟩:=r.get h2
 have hl:=r.length
 have hn:=rE
 have fin:EP X pins U Q w s:=⟨z,H,I,yV,q⟩
 exact subscriptTail_builtinR (x:=w) pl.typeIs slot_tuple_getitem.lookup
   (getItem_tuple (j:=j) (Q:=λ r s'=>r=w/\EP X pins U Q r s') pl (by lia) (by lia) (by rw [abO,← hl];exact h1) (by simpa using ew) ⟨rfl,fin⟩) hs
theorem wH (bf:List Value) (n j:Nat) (u:Value):Obj.mapSeq (·.setIfInBounds j u) { cls:=.type "list",data:=.seq bf.toArray n }={ cls:=.type "list",data:=.seq (bf.set j u).toArray n }:=by
 simp [Obj.mapSeq]
theorem Inv.lst {s:Shared} {p:Addr} (I:Inv X pins U H s) (h:H p=some (.lst xs)) :
   ∃ (bf:List Value) (n:Nat),Vals xs bf/\s.heap.get? p=some { cls:=.type "list",data:=.seq bf.toArray n }/\xs.length<=sizeLine:=by
 obtain ⟨z,bf,n,r,e⟩:=I.cq p _ h
 exact ⟨bf,n,r,e,z⟩
theorem Inv.HH {s:Shared} {p:Addr} {ys:List V} {n n':Nat} {f:Obj->Obj} (I:Inv X pins U H s) (h:H p=some (.lst xs)) (ho:s.heap.get? p=some { cls:=.type "list",data:=.seq bf.toArray n }) (hf:f { cls:=.type "list",data:=.seq bf.toArray n }={ cls:=.type "list",data:=.seq its'.toArray n' }) (r:Vals ys its') (hz:ys.length<=sizeLine) (t:Nat) :
   Inv X pins U (upd H p (.lst ys)) { s with heap:=s.heap.update p f,toks:=t }:=by
 have e:(s.heap.update p f).get? p=some { cls:=.type "list",data:=.seq its'.toArray n' }:=by
   rw [Heap.get?_update_self f ho (by rw [hf]<;>rfl),hf]
 refine I.write (x:=p) (e:=p) (by rw [h];trivial) (.inl rfl) (λ b u hb q=>(Heap.get?_update_other _ _ (ad1 hb)).trans q) ⟨_,e⟩ ?_
 exact ⟨hz,its',n',r,e⟩
def JR:V->V->V->Hp->(Hp->Prop)->Prop:=λ o i v H Q=>∃ p xs k j,o = .ref p/\i = .int k/\H p=some (.lst xs)/\xv xs.length k=some j/\Q (upd H p (.lst (xs.set j v)))
theorem set_list:JS X JR:=by
 intro pins s U H o i v ov iv u Q I ro ri rv h
 obtain ⟨p,xs,k,j,rfl,rfl,hp,hj,q⟩:=h
 cases ro
 obtain ⟨t,rfl⟩:=ri
 obtain ⟨bf,n,r,ho,hz⟩:=I.lst hp
 obtain ⟨h1,h2,h3,h4⟩:=yl hj
 have hl:=r.length
 have hn:=rE
 have I':Inv X pins U (upd H p (.lst (xs.set j v))) { s with heap:=s.heap.update p (Obj.mapSeq (·.setIfInBounds j u))} :=
   I.HH hp ho (wH bf n j u) (r.set rv j) (by rw [adz];exact hz) s.toks
 by_cases h0:0<=k
 .
  have hk:k.toNat=j:=by
    rw [seqIndex_of h0 h4] at h1
    exact aba h1
  exact W.ki_setAt ho h0 (by lia) (by rw [abO,← hl];exact h4) (by rw [hk];exact ⟨_,I',q⟩)
 .
  have hk:(k+(bf.toArray.size:Int)).toNat=j:=by
    rw [seqIndex_neg (by lia) h3] at h1
    rw [abO,← hl]
    exact aba h1
  exact W.ki_setBack ho (by lia) (by rw [abO,← hl];exact h3) (by lia) (by rw [hk];exact ⟨_,I',q⟩)
theorem rA (lo hi:Option Int) (n:Nat):(sliceBounds lo hi none n).1=((HT.qm n 0 lo:Nat):Int)/\(sliceBounds lo hi none n).2.1=((HT.qm n n hi:Nat):Int)/\(sliceBounds lo hi none n).2.2=1:=by
 refine ⟨?_,?_,rfl⟩
 .
  cases lo with
  | none=>simp [sliceBounds,HT.qm]
  | some i =>
    simp only [sliceBounds,HT.qm,Option.getD_none,show (1:Int) > 0 by decide,aev]
    by_cases h:i<0
    . simp only [h,aev]<;>lia
    . simp only [h,aek]<;>lia
 .
  cases hi with
  | none=>simp [sliceBounds,HT.qm]
  | some i =>
    simp only [sliceBounds,HT.qm,Option.getD_none,show (1:Int) > 0 by decide,aev]
    by_cases h:i<0
    . simp only [h,aev]<;>lia
    . simp only [h,aek]<;>lia
theorem p5 (bf:List Value) (lo hi:Option Int):slicePick bf.toArray lo hi none=((bf.drop (HT.qm bf.length 0 lo)).take (HT.qm bf.length bf.length hi - HT.qm bf.length 0 lo)).toArray:=by
 obtain ⟨h1,h2,h3⟩:=rA lo hi bf.toArray.size
 unfold slicePick
 rw [h1,h2,h3]
 simp only [sliceRange_one,pick_run,abO]<;>rfl
inductive ZC (K:W.Frag) (x:V) (lo:Option Int) (hi:Option Int) (H:Hp) (Q:VK):Prop
 | mk (a xs:_) (_:x = .ref a) (_:aV K H a xs) (_:∀ p,H p=none->Q (.ref p) (upd H p (.lst (mE xs lo hi))))
theorem rC:SlR X (ZC X.K):=by
 intro pins s U H x v vl vu lo hi sl Q I rx hs pl pu h
 obtain ⟨a,xs,rfl,hx,q⟩:=h
 cases rx
 obtain ⟨bf,r,ht,hz⟩:=I.list hx
 have hlen:=r.length
 refine ⟨"list",_,slot_list_getitem.lookup,ht.isList.typeIs,?_⟩
 refine wpAny_getItem_list_slice ht.isList hs pl pu .none (by simp) ?_ (by rw [abO]<;>lia)
 rw [p5,← hlen]
 refine ⟨.ref s.heap.objs.size,_,I.laid (t':=s.toks) (o:=.lst (mE xs lo hi)) (λ b ob q=>aa4 _ q) (aaT _) ?_,rfl,q _ (I.cq.fresh (aaT _))⟩
 exact ⟨adf (mU xs lo hi) hz,_,0,(r.drop (HT.qm xs.length 0 lo)).take (HT.qm xs.length xs.length hi - HT.qm xs.length 0 lo),ac6 _ rfl⟩
theorem rL:gS X (.builtin "len") (λ xs H Q=>∃ p ys,xs=[.ref p]/\(aV X.K H p ys∨bU X.K H p ys)/\Q (.int ys.length) H):=by
 intro pins s U H xs us Q I r h
 obtain ⟨p,ys,rfl,hq,q⟩:=h
 obtain ⟨u,rfl,rx⟩:=vals1 r
 cases rx
 have hn:=rE
 rcases hq with hq|hq
 . obtain ⟨bf,r',pl,hz⟩:=I.list hq
   have hlen:=r'.length
   exact Calls.call_len_list pl.isList (by simp only [abO]<;>lia) ⟨.int ys.length,H,I.tok _,⟨s.toks+1,by rw [abO,hlen]⟩,q⟩
 . obtain ⟨bf,r',pl,hz⟩:=I.tuple hq
   have hlen:=r'.length
   exact len_tuple pl (by simp only [abO]<;>lia) ⟨.int ys.length,H,I.tok _,⟨s.toks+1,by rw [abO,hlen]⟩,q⟩
theorem lN:gS X (.type "list") (λ xs H Q=>∃ p ys,xs=[.ref p]/\(aV X.K H p ys∨bU X.K H p ys)/\∀ l,H l=none->Q (.ref l) (upd H l (.lst ys))):=by
 intro pins s U H xs us Q I r h
 obtain ⟨p,ys,rfl,hq,q⟩:=h
 obtain ⟨u,rfl,rx⟩:=vals1 r
 cases rx
 have fin:∀ (bf:List Value),Vals ys bf->ys.length<=sizeLine->∀ (h':Heap) (c':Nat),(∀ b o',s.heap.get? b=some o'->h'.get? b=some o') ->
     h'.get? s.heap.objs.size=some { cls:=.type "list",dict:=none,data:=.seq bf.toArray c',slots:=#[]}->EP X pins U Q (.ref s.heap.objs.size) { s with heap:=h' }:=λ bf r' hz h' c' kp e =>
   ⟨.ref s.heap.objs.size,_,I.laid (t':=s.toks) kp (aaT _) (show cw X.prog X.w _ h' _ (.lst ys) from ⟨hz,bf,c',r',e⟩),rfl,q _ (I.cq.fresh (aaT _))⟩
 rcases hq with hq|hq
 .
  obtain ⟨bf,r',pl,hz⟩:=I.list hq
  have hlen:=r'.length
  obtain ⟨o,ho,hc,n,hd⟩:=pl.isList
  exact call_list_seq p (.inl rfl) ho hc hd (λ h' c' kp e=>fin bf r' hz h' c' kp e) (by simp only [abO]<;>lia)
 .
  obtain ⟨bf,r',pl,hz⟩:=I.tuple hq
  have hlen:=r'.length
  obtain ⟨o,ho,hc,n,hd⟩:=pl
  exact call_list_seq p (.inr rfl) ho hc hd (λ h' c' kp e=>fin bf r' hz h' c' kp e) (by simp only [abO]<;>lia)
theorem dh:gS X (.type "tuple") (λ xs H Q=>∃ p ys,xs=[.ref p]/\((aV X.K H p ys/\∀ l,H l=none->Q (.ref l) (upd H l (.tup ys)))∨(bU X.K H p ys/\Q (.ref p) H))):=by
 intro pins s U H xs us Q I r h
 obtain ⟨p,ys,rfl,h⟩:=h
 obtain ⟨u,rfl,rx⟩:=vals1 r
 cases rx
 rcases h with ⟨hq,q⟩|⟨hq,q⟩
 .
  obtain ⟨bf,r',pl,hz⟩:=I.list hq
  have hlen:=r'.length
  refine call_tuple_list pl.isList (λ h' kp=>?_) (by simp only [abO]<;>lia)
  have I1:Inv X pins U H { s with heap:=h' }:=I.kept (t':=s.toks) kp
  have I2:Inv X pins U (upd H h'.objs.size (.tup ys)) { s with heap:=h'.push { cls:=.type "tuple",data:=.seq bf.toArray }} :=
    I1.laid (t':=s.toks) (λ b o e=>aa4 _ e) (aaT _) (show cw X.prog X.w _ _ _ (.tup ys) from ⟨hz,bf,r',IsTup.new _ _⟩)
  exact ⟨.ref h'.objs.size,_,I2,rfl,q _ (I1.cq.fresh (aaT _))⟩
 . obtain ⟨bf,r',pl,hz⟩:=I.tuple hq
   exact call_tuple_same pl ⟨.ref p,H,I,rfl,q⟩
def Ps (K:W.Frag) (T:String) (x:V) (H:Hp):Prop:=match x with
 | .str _=>T = "str"
 | .int _=>T = "int"
 | .ref p=>(T = "list"/\∃ xs,aV K H p xs)∨(T = "tuple"/\∃ o,K.lookup p=some o/\o.cls = .type "tuple"/\o.dict=none) ∨
     (T = "dict"/\((∃ aw,H p=some (.dK aw))∨∃ aw,H p=some (.dT aw)))∨(T = "set"/\∃ S n,H p=some (.set S n))
 | _=>False
theorem BM {s:Shared} {T:String} {x:V} {v:Value} (I:Inv X pins U H s) (r:RelV x v) (ty:Ps X.K T x H) :
   s.TypeIs v T/\∀ a,v = .ref a->∃ ob,s.heap.get? a=some ob/\ob.dict=none:=by
 cases x with
 | str z =>
   obtain ⟨t,rfl⟩:=r
   cases (show T = "str" from ty)
   exact ⟨typeIs_str s z t,λ _ e=>nomatch e⟩
 | int i =>
   obtain ⟨t,rfl⟩:=r
   cases (show T = "int" from ty)
   exact ⟨typeIs_int s i t,λ _ e=>nomatch e⟩
 | ref p =>
   cases r
   rcases ty with ⟨rfl,xs,hq⟩|⟨rfl,o,hk,hc,hd⟩|⟨rfl,hk⟩|⟨rfl,S,n,hk⟩
   . obtain ⟨bf,_,pl,_⟩:=I.list hq
     refine ⟨pl.isList.typeIs,λ a e=>?_⟩
     cases e
     obtain ⟨o,n,e,c,hd,_⟩:=pl
     exact ⟨o,e,hd⟩
   . refine ⟨⟨o,I.nE p o hk,hc⟩,λ a e=>?_⟩
     cases e
     exact ⟨o,I.nE _ o hk,hd⟩
   .
    have z:∃ o,s.heap.get? p=some o/\o.ExactDict:=by
      rcases hk with ⟨aw,hk⟩|⟨aw,hk⟩
      . obtain ⟨_,_,_,_,o,_,_,e,ex,_⟩:=I.cq p _ hk
        exact ⟨o,e,ex⟩
      . obtain ⟨_,_,_,_,o,_,_,e,ex,_⟩:=I.cq p _ hk
        exact ⟨o,e,ex⟩
    obtain ⟨o,e,ex⟩:=z
    refine ⟨⟨o,e,ex.1⟩,λ a e2=>?_⟩
    cases e2
    exact ⟨o,e,ex.2.1⟩
   . obtain ⟨o,_,_,_,e,ex,_⟩:=I.cq p _ hk
     refine ⟨⟨o,e,ex.1⟩,λ a e2=>?_⟩
     cases e2
     exact ⟨o,e,ex.2.1⟩
 | _=>exact False.elim ty
def Ru (K:W.Frag) (T:String) (r:V->List V->Hp->VK->Prop) (to:TE):TE:=λ U H Q=>to U H λ x H1=>Ps K T x H1/\r x [] H1 Q
def tBM (K:W.Frag) (T:String) (r:V->List V->Hp->VK->Prop) (to:TE) (t:TA):TE:=λ U H Q=>to U H λ x H1=>Ps K T x H1/\t U H1 λ xs H2=>r x xs H2 Q
variable {o e:Expr} {es:List Expr} {to:TE} {t:TA} {name:Str} {apos gM:Pos} {T id:String} {r:V->List V->Hp->VK->Prop}
theorem Hg (pa:PlainAttrs T) (slot:Slot T name id) (WD:typeOf (.builtin id)=pure (.type "method_descriptor")) (hm:Ss X id r) (ho:PE X o to) (As:attributeBase o name X.env (eval o X.env)=eval o X.env:=by rfl) (BH:(apos.endLine == gM.line)=true:=by rfl):PE X (.Call (.Attribute o name apos) [] [] gM) (Ru X.K T r to):=by
 intro pins s U H Q I h
 refine wpAny_Call_method0_late As BH (cx (ho pins s U H _ I h) λ v s1 ⟨x,H1,I1,r1,ty,q1⟩=>?_)
 obtain ⟨h1,h2⟩:=BM I1 r1 ty
 exact ⟨T,id,pa,slot,WD,h1,h2,aeR rfl (PySem.evalArgs_none (hm pins s1 U H1 x [] v [] Q I1 r1 .nil q1))⟩
theorem il (pa:PlainAttrs T) (slot:Slot T name id) (WD:typeOf (.builtin id)=pure (.type "method_descriptor")) (hm:Ss X id r) (ho:PE X o to) (ha:PA X (e::es) t) (As:attributeBase o name X.env (eval o X.env)=eval o X.env:=by rfl) (UW:((backTo gM (starEach (e::es) X.env)).all (λ x => !x.1) && (backToKw gM (keywordEach [] X.env)).all (λ x=>x.1.isSome)
     && decide ((e::es).length+([]:List Keyword).length+(if ([]:List Keyword).isEmpty then 0 else 1)<30))=true:=by rfl) (BH:(apos.endLine == gM.line)=true:=by rfl) (hs:starEach (e::es) X.env=(false,eval e X.env)::starEach es X.env:=by rfl) (G3:(backTo gM (starEach es X.env)).any (·.1)=false:=by rfl) :
   PE X (.Call (.Attribute o name apos) (e::es) [] gM) (tBM X.K T r to t):=by
 intro pins s U H Q I h
 refine wpAny_Call_method_late As UW BH rfl (cx (ho pins s U H _ I h) λ v s1 ⟨x,H1,I1,r1,ty,q1⟩=>?_)
 obtain ⟨h1,h2⟩:=BM I1 r1 ty
 refine ⟨T,id,pa,slot,WD,h1,h2,?_⟩
 have hA:=ha gM pins s1 U H1 _ I1 q1
 rw [hs] at hA ⊢
 refine aeR (by show (false || (backTo gM (starEach es X.env)).any (·.1))=false;rw [G3]<;>rfl) (Calls.evalArgs_plain ?_)
 exact cx hA λ us s2 ⟨vs,H2,I2,r2,q2⟩=>hm pins s2 U H2 x vs v us Q I2 r1 r2 q2
end
def MtM (X:Cx) (id:String) (r:V->List V->Hp->VK->Prop):Prop :=
 ∀ (pins:List (Addr×Obj)) (s:Shared) (U:St) (H:Hp) (x:V) (xs:List V) (v:Value) (us:List Value) (Q:VK),Inv X pins U H s->RelV x v->Vals xs us->r x xs H Q ->
   wpAny (model X.prog X.w) X.A (call (.builtin id) (v::us)) (EP X pins U Q) X.xe s
theorem Vals.one:∀ {x:V} {us:List Value},Vals [x] us->∃ u,us=[u]/\RelV x u
 | _,_,.cons r .nil=>⟨_,rfl,r⟩
theorem Vals.zero:∀ {us:List Value},Vals [] us->us=[]
 | _,.nil=>rfl
section
variable {X:Cx} {pins:List (Addr×Obj)} {U:St} {H:Hp} {s:Shared} {l b:Addr} {xs ys zs:List V}
theorem Inv.Ji {n:Nat} {f:Array Value->Array Value} {t':Nat} (I:Inv X pins U H s) (hH:H l=some (.lst xs)) (e:s.heap.get? l=some { cls:=.type "list",data:=.seq bf.toArray n }) (hf:f bf.toArray=its'.toArray) (hv:Vals ys its') (hz:ys.length<=sizeLine) :
   Inv X pins U (upd H l (.lst ys)) { s with heap:=s.heap.update l (Obj.mapSeq f),toks:=t' }:=by
 have q:=PySem.IsL.update e f
 rw [hf] at q
 refine I.write (x:=l) (e:=l) (by rw [hH];exact trivial) (.inl rfl) (λ b' u hb hu=>(Heap.get?_update_other s.heap (Obj.mapSeq f) (ad1 hb)).trans hu) ⟨_,q⟩ ?_
 exact ⟨hz,its',_,hv,q⟩
theorem Inv.NT {t':Nat} (I:Inv X pins U H s) (hv:Vals ys bf) (hz:ys.length<=sizeLine) :
   Inv X pins U (upd H s.heap.objs.size (.lst ys)) { s with heap:=s.heap.push { cls:=.type "list",data:=.seq bf.toArray },toks:=t' } :=
 I.laid (λ _ _ q=>aa4 _ q) (aaT _) ⟨hz,bf,0,hv,ac6 _ rfl⟩
theorem Inv.fresh (I:Inv X pins U H s):H s.heap.objs.size=none:=I.cq.fresh (aaT _)
theorem Inv.zP (I:Inv X pins U H s) (hH:H l=some (.lst xs)):xs.length<=sizeLine/\∃ (bf:List Value) (n:Nat),Vals xs bf/\xs.length=bf.length/\s.heap.get? l=some { cls:=.type "list",data:=.seq bf.toArray n }:=by
 obtain ⟨z,bf,n,r,e⟩:=I.cq l _ hH
 exact ⟨z,bf,n,r,r.length,e⟩
theorem AA {n:Nat} (h:n<=sizeLine):Builtin.List.listTooLong n=false:=by
 unfold Builtin.List.listTooLong
 exact ab2 (by lia)
end
section
variable {X:Cx}
inductive Cq  (x:V) (vs:List V) (H:Hp) (Q:VK):Prop
 | mk (l xs y:_) (_:x = .ref l) (_:vs=[y]) (_:H l=some (.lst xs)) (_:xs.length<sizeLine) (_:Q .cR (upd H l (.lst (xs++[y]))))
theorem cH:MtM X "list.append" Cq:=by
 intro pins s U H x vs v us Q I rx rv h
 obtain ⟨l,xs,y,rfl,rfl,hH,hz,q⟩:=h
 cases rx
 obtain ⟨u,rfl,ru⟩:=rv.one
 obtain ⟨z,bf,n,r,hl,e⟩:=I.zP hH
 refine call_meets F.slot_list_append ⟨_,e,rfl⟩ F.entry_list_append (F.args_list_append_2 _ _) (PySem.list_append l bf.toArray n u (by rw [abO];lia)) ⟨e,?_⟩
 refine ⟨.cR,_,I.Ji (its':=bf++[u]) hH e (by simp) (r.append (.cons ru .nil)) ?_,rfl,q⟩
 rw [aaD,adp]
 lia
inductive CU  (x:V) (vs:List V) (H:Hp) (Q:VK):Prop
 | mk (l b xs zs:_) (_:x = .ref l) (_:vs=[.ref b]) (_:H l=some (.lst xs)) (_:H b=some (.lst zs)) (_:xs.length+zs.length<=sizeLine) (_:Q .cR (upd H l (.lst (xs++zs))))
theorem rj:MtM X "list.extend" CU:=by
 intro pins s U H x vs v us Q I rx rv h
 obtain ⟨l,b,xs,zs,rfl,rfl,hH,hB,hz,q⟩:=h
 cases rx
 obtain ⟨u,rfl,ru⟩:=rv.one
 cases ru
 obtain ⟨z,bf,n,r,hl,e⟩:=I.zP hH
 obtain ⟨z2,kM,n2,r2,Kj,e2⟩:=I.zP hB
 have hsz:bf.toArray.size+kM.toArray.size<=sizeLine:=by rw [abO,abO];lia
 have Lr:¬ (!bf.toArray.isEmpty && Builtin.List.listTooLong (bf.toArray.size+kM.toArray.size))=true:=by
   rw [AA hsz,Bool.and_false]
   exact acT
 refine call_meets F.slot_list_extend ⟨_,e,rfl⟩ F.entry_list_extend (F.args_list_extend_2 _ _)
   (AutoSeq1.list_extend_list_list_0 l bf.toArray n b kM.toArray n2 Lr (by rw [abO];lia) (by lia)) ⟨e,e2,?_⟩
 refine ⟨.cR,_,I.Ji (its':=bf++kM) hH e (by simp) (r.append r2) ?_,rfl,q⟩
 rw [aaD]
 lia
inductive TR  (x:V) (y:V) (H:Hp) (Q:VK):Prop
 | mk (l b xs zs:_) (_:x = .ref l) (_:y = .ref b) (_:H l=some (.lst xs)) (_:H b=some (.lst zs)) (_:xs.length+zs.length<=sizeLine) (_:∀ p,H p=none->Q (.ref p) (upd H p (.lst (xs++zs))))
theorem zQ:gI X (binaryOp .Add) TR:=by
 intro pins s U H x y v u Q I rx ry h
 obtain ⟨l,b,xs,zs,rfl,rfl,hH,hB,hz,q⟩:=h
 cases rx
 cases ry
 obtain ⟨z,bf,n,r,hl,e⟩:=I.zP hH
 obtain ⟨z2,kM,n2,r2,Kj,e2⟩:=I.zP hB
 refine PySem.P.add_list e e2 ?_ (by rw [abO,abO];lia)
 have ea:bf.toArray++kM.toArray=(bf++kM).toArray:=by simp
 rw [ea]
 exact ⟨.ref _,_,I.NT (t':=s.toks) (r.append r2) (by rw [aaD];lia),rfl,q _ I.fresh⟩
end
section
variable {κ:Type} [DecidableEq κ]
def fm (aw:List (κ×V)) (k:κ):Option V:=(aw.find? λ kv=>decide (kv.1=k)).map (·.2)
def putK (aw:List (κ×V)) (k:κ) (v:V):List (κ×V) :=
 if (aw.any λ kv=>decide (kv.1=k))=true then aw.map (λ kv=>if kv.1=k then (kv.1,v) else kv) else aw++[(k,v)]
theorem dW {p:κ×V} {r:List (κ×V)} {k:κ} (e:p.1=k):fm (p::r) k=some p.2:=by simp [fm,adn,e]
theorem dP {p:κ×V} {r:List (κ×V)} {k:κ} (e:¬ p.1=k):fm (p::r) k=fm r k:=by simp [fm,adn,e]
theorem iw (k:κ):∀ aw:List (κ×V),(aw.any λ kv=>decide (kv.1=k))=(fm aw k).isSome
 | []=>rfl
 | p::r=>by
   rw [aeA]
   by_cases e:p.1=k
   . simp only [dW e,ac7 e,Bool.true_or,Option.isSome_some]
   . rw [dP e,ab2 e,Bool.false_or];exact iw k r
theorem uH (k j:κ) (y:V):∀ aw:List (κ×V),fm (aw.map λ kv=>if kv.1=k then (kv.1,y) else kv) j=(fm aw j).map λ x=>if j=k then y else x
 | []=>rfl
 | p::r=>by
   have ih:=uH k j y r
   rw [adl]
   by_cases h:p.1=k
   . rw [abS h]
     by_cases e:p.1=j
     . rw [dW (p:=(p.1,y)) e,dW e,adV,abS (e.symm.trans h)]
     . rw [dP (p:=(p.1,y)) e,dP e,ih]
   . rw [abZ h]
     by_cases e:p.1=j
     . rw [dW (p:=p) e,dW e,adV,abZ (λ z=>h (e.trans z))]
     . rw [dP (p:=p) e,dP e,ih]
theorem qp (k j:κ) (y:V):∀ aw:List (κ×V),fm aw k=none->fm (aw++[(k,y)]) j=if j=k then some y else fm aw j
 | [],_=>by
   by_cases e:k=j
   . rw [abS e.symm];exact dW (p:=(k,y)) e
   . rw [abZ (λ z=>e z.symm)];exact dP (p:=(k,y)) e
 | p::r,hn=>by
   rw [List.cons_append]
   have hk:¬ p.1=k:=λ z=>by rw [dW z] at hn;cases hn
   rw [dP hk] at hn
   have ih:=qp k j y r hn
   by_cases e:p.1=j
   . rw [dW e,dW e,abZ (λ z=>hk (e.trans z))]
   . rw [dP e,dP e,ih]
theorem uc (aw:List (κ×V)) (k j:κ) (y:V):fm (putK aw k y) j=if j=k then some y else fm aw j:=by
 unfold putK
 by_cases a:(aw.any λ kv=>decide (kv.1=k))=true
 .
  rw [abS a,uH]
  rw [iw] at a
  by_cases e:j=k
  . obtain ⟨x,hx⟩:=Option.isSome_iff_exists.mp a
    rw [abS e,e,hx,adV,abS rfl]
  . rw [abZ e]
    cases fm aw j with
    | none=>rfl
    | some x=>rw [adV,abZ e]
 .
  rw [abZ a]
  refine qp k j y aw ?_
  rw [iw] at a
  cases q:fm aw k with
  | none=>rfl
  | some x=>rw [q] at a;exact (a rfl).elim
theorem js (aw:List (κ×V)) (k:κ) (v:V):(putK aw k v).length<=aw.length+1:=by
 unfold putK
 split
 . rw [xq];lia
 . rw [aaD,acX,aeh];lia
theorem zT {aw:List (κ×V)} {k:κ} (v:V) (h:fm aw k=none):putK aw k v=aw++[(k,v)]:=by
 unfold putK
 rw [iw,h]
 exact abZ (by decide)
theorem iq.lV {o:Option V} {u:Option Value} (r:iq o u):o.isSome=u.isSome:=by
 cases o with
 | none=>cases u with
   | none=>rfl
   | some _=>exact (show False from r).elim
 | some _=>cases u with
   | none=>exact (show False from r).elim
   | some _=>rfl
theorem iq.getD {o:Option V} {u:Option Value} {d:V} {d':Value} (r:iq o u) (rd:RelV d d'):RelV (o.getD d) (u.getD d'):=by
 cases o with
 | none=>cases u with
   | none=>exact rd
   | some _=>exact (show False from r).elim
 | some _=>cases u with
   | none=>exact (show False from r).elim
   | some _=>exact r
theorem KV.val {aw:List (κ×V)} {vs:List (κ×Value)} (r:KV aw vs) (k:κ):iq (fm aw k) (valueAt vs k):=by
 unfold KV at r
 induction r with
 | nil=>exact True.intro
 | @cons p q ps qs h t ih =>
   obtain ⟨h1,h2⟩:=h
   by_cases e:p.1=k
   . have e':q.1=k:=h1.symm.trans e
     have b:valueAt (q::qs) k=some q.2:=by simp [valueAt,adn,e']
     rw [dW e,b];exact h2
   . have e':¬ q.1=k:=λ z=>e (h1.trans z)
     have b:valueAt (q::qs) k=valueAt qs k:=by simp [valueAt,adn,e']
     rw [dP e,b];exact ih
theorem KV.any {aw:List (κ×V)} {vs:List (κ×Value)} (r:KV aw vs) (k:κ):(aw.any λ kv=>decide (kv.1=k))=vs.any λ kv=>decide (kv.1=k):=by
 unfold KV at r
 induction r with
 | nil=>rfl
 | cons h t ih=>rw [aeA,aeA,ih,h.1]
theorem KV.GM {aw:List (κ×V)} {vs:List (κ×Value)} (r:KV aw vs) (k:κ) {y:V} (ry:RelV y u) :
   KV (aw.map λ kv=>if kv.1=k then (kv.1,y) else kv) (vs.map λ kv=>if kv.1=k then (kv.1,u) else kv):=by
 unfold KV at r ⊢
 induction r with
 | nil=>exact .nil
 | @cons p q ps qs h t ih =>
   rw [adl,adl]
   refine .cons ?_ ih
   obtain ⟨h1,h2⟩:=h
   by_cases e:p.1=k
   . rw [abS e,abS (h1.symm.trans e)];exact ⟨h1,ry⟩
   . rw [abZ e,abZ (λ z=>e (h1.trans z))];exact ⟨h1,h2⟩
theorem KV.put {aw:List (κ×V)} {vs:List (κ×Value)} (r:KV aw vs) (k:κ) {y:V} (ry:RelV y u):KV (putK aw k y) (stored vs k u):=by
 unfold putK stored
 rw [r.any k]
 by_cases e:(vs.any λ kv=>decide (kv.1=k))=true
 . rw [abS e,abS e];exact r.GM k ry
 . rw [abZ e,abZ e];exact ae4 r ⟨rfl,ry⟩
theorem KV.length {aw:List (κ×V)} {vs:List (κ×Value)} (r:KV aw vs):aw.length=vs.length:=aeo r
end
theorem vk {P:Program} {w:World} {k:Key} (r:RelV (kV k) u):(cJ P w).is k u=true:=by
 cases k with
 | inl i=>obtain ⟨t,e⟩:=(show ∃ t,u=Value.int i t from r);subst e;exact t7 P w i t
 | inr x=>obtain ⟨t,e⟩:=(show ∃ t,u=Value.str x t from r);subst e;exact vb P w x t
theorem qO {P:Program} {w:World}:∀ {ks:List Key} {us:List Value},Vals (ks.map kV) us->ItemsAre (cJ P w) ks us
 | [],_,r=>by rw [afC] at r;cases r;exact .nil
 | k::ks,_,r=>by
   rw [adl] at r
   cases r with
   | cons h t=>exact .cons (vk h) (qO t)
abbrev KT (H:Hp):List (List Key×V)->List (List Key×Addr×Value)->Prop:=Paired λ p q=>p.1=q.1/\H q.2.1=some (.tup (p.1.map kV))/\RelV p.2 q.2.2
theorem KT.val {aw:List (List Key×V)} {xs:List (List Key×Addr×Value)} (r:KT H aw xs) (k:List Key):iq (fm aw k) ((atKey xs k).map (·.2)):=by
 induction r with
 | nil=>exact True.intro
 | @cons p q ps qs h t ih =>
   obtain ⟨h1,_,h2⟩:=h
   by_cases e:p.1=k
   . have e':q.1=k:=h1.symm.trans e
     have b:atKey (q::qs) k=some q.2:=by simp [atKey,adn,e']
     rw [dW e,b];exact h2
   . have e':¬ q.1=k:=λ z=>e (h1.trans z)
     have b:atKey (q::qs) k=atKey qs k:=by simp [atKey,adn,e']
     rw [dP e,b];exact ih
theorem KT.GM {aw:List (List Key×V)} {xs:List (List Key×Addr×Value)} (r:KT H aw xs) (k:List Key) {y:V} (ry:RelV y u) :
   KT H (aw.map λ kv=>if kv.1=k then (kv.1,y) else kv) (xs.map (putAt k u)):=by
 induction r with
 | nil=>exact .nil
 | @cons p q ps qs h t ih =>
   rw [adl,adl]
   refine .cons ?_ ih
   obtain ⟨h1,h2,h3⟩:=h
   unfold putAt
   by_cases e:p.1=k
   . rw [abS e,abS (h1.symm.trans e)];exact ⟨h1,h2,ry⟩
   . rw [abZ e,abZ (λ z=>e (h1.trans z))];exact ⟨h1,h2,h3⟩
theorem KT.put {aw:List (List Key×V)} {xs:List (List Key×Addr×Value)} (r:KT H aw xs) (k:List Key) {b:Addr} {y:V} (hb:H b=some (.tup (k.map kV))) (ry:RelV y u) :
   KT H (putK aw k y) (storedH xs k b u):=by
 have e:(aw.any λ kv=>decide (kv.1=k))=(atKey xs k).isSome:=by
   rw [iw,(r.val k).lV,aeY]
 unfold putK storedH
 rw [e]
 by_cases q:(atKey xs k).isSome=true
 . rw [abS q,abS q];exact r.GM k ry
 . rw [abZ q,abZ q];exact ae4 r ⟨rfl,hb,ry⟩
theorem KT.keeps {aw:List (List Key×V)} {xs:List (List Key×Addr×Value)} (r:KT H aw xs) (ht:∀ b ys,H b=some (.tup ys)->H' b=some (.tup ys)):KT H' aw xs :=
 Paired.AW r λ _ _ z=>⟨z.1,ht _ _ z.2.1,z.2.2⟩
section
variable {P:Program} {w:World} {H:Hp} {h:Heap} {a:Addr}
theorem FU {u:HO} (ok:kI P w H h) (e:Rd H a u):cw P w H h a u:=e.ok ok
theorem qP {aw:List (Key×V)} (ok:kI P w H h) (e:Rd H a (.dK aw)):aw.length<=sizeLine/\(a == sysModules)=false/\∃ vs,KV aw vs/\h.DictOf (cJ P w) a vs :=
 show cw P w H h a (.dK aw) from FU ok e
theorem FM {aw:List (Key×V)} (ok:kI P w H h) (e:H a=some (.dK aw)):aw.length<=sizeLine/\(a == sysModules)=false/\∃ vs,KV aw vs/\h.DictOf (cJ P w) a vs:=qP ok (.inl e)
theorem rN {ks:List Key} (ok:kI P w H h) (e:H a=some (.tup (ks.map kV))):(tupleKind (cJ P w)).is h ks a:=by
 obtain ⟨_,bf,r,o,h1,h2,n,h3⟩:=(show cw P w H h a (.tup (ks.map kV)) from ok a _ e)
 exact ⟨o,bf.toArray,n,h1,h2,h3,by simpa using qO r⟩
theorem tX {aw:List (List Key×V)} (ok:kI P w H h) (e:Rd H a (.dT aw)):aw.length<=sizeLine/\(a == sysModules)=false /\
   ∃ xs,KT H aw xs/\h.DictOfH (tupleKind (cJ P w)) a xs:=by
 obtain ⟨z,y,xs,r,o,es,ep,h1,h2,h3,h4,h5⟩:=(show cw P w H h a (.dT aw) from FU ok e)
 refine ⟨z,y,xs,r,o,es,ep,h1,h2,h3,h4,λ x hx=>?_,h5⟩
 have all:∀ {l:List (List Key×V)} {m:List (List Key×Addr×Value)},KT H l m->∀ x∈m,(tupleKind (cJ P w)).is h x.1 x.2.1:=by
   intro l m q
   induction q with
   | nil=>intro x hx;exact nomatch hx
   | @cons p q ps qs hq t ih =>
     intro x hx
     rcases List.mem_cons.mp hx with e|hx
     . subst e
       exact rN ok (by rw [← hq.1];exact hq.2.1)
     . exact ih x hx
 exact all r x hx
theorem Lk {aw:List (List Key×V)} (ok:kI P w H h) (e:H a=some (.dT aw)):aw.length<=sizeLine/\(a == sysModules)=false /\
   ∃ xs,KT H aw xs/\h.DictOfH (tupleKind (cJ P w)) a xs:=tX ok (.inl e)
end
def f6 (H:Hp) (a:Addr) (y:V) (r:Option V):Prop :=
 (∃ aw k,Rd H a (.dK aw)/\y=kV k/\r=fm aw k)∨∃ aw k b,Rd H a (.dT aw)/\y = .ref b/\H b=some (.tup (k.map kV))/\r=fm aw k
def p7 (H:Hp) (a:Addr) (y v:V) (H':Hp):Prop :=
 (∃ aw k,H a=some (.dK aw)/\y=kV k/\aw.length<sizeLine/\H'=upd H a (.dK (putK aw k v))) ∨
 ∃ aw k b,H a=some (.dT aw)/\y = .ref b/\H b=some (.tup (k.map kV))/\aw.length<sizeLine/\H'=upd H a (.dT (putK aw k v))
theorem f6.k {a:Addr} {aw:List (Key×V)} {k:Key} (e:H a=some (.dK aw)):f6 H a (kV k) (fm aw k):=.inl ⟨aw,k,.inl e,rfl,rfl⟩
theorem f6.t {a b:Addr} {aw:List (List Key×V)} {k:List Key} (e:H a=some (.dT aw)) (eb:H b=some (.tup (k.map kV))):f6 H a (.ref b) (fm aw k):=.inr ⟨aw,k,b,.inl e,rfl,eb,rfl⟩
theorem p7.k {a:Addr} {aw:List (Key×V)} {k:Key} (e:H a=some (.dK aw)) (hl:aw.length<sizeLine):p7 H a (kV k) v (upd H a (.dK (putK aw k v))):=.inl ⟨aw,k,e,rfl,hl,rfl⟩
theorem p7.t {a b:Addr} {aw:List (List Key×V)} {k:List Key} (e:H a=some (.dT aw)) (eb:H b=some (.tup (k.map kV))) (hl:aw.length<sizeLine) :
   p7 H a (.ref b) v (upd H a (.dT (putK aw k v))):=.inr ⟨aw,k,b,e,rfl,eb,hl,rfl⟩
section
variable {X:Cx} {pins:List (Addr×Obj)} {U:St} {H:Hp} {s:Shared} {a:Addr} {y v:V} {u r:Value} {o:Option V} {A:Around} {E:Value->Shared->Prop}
theorem Inv.big (I:Inv X pins U H s):sysModules<s.heap.objs.size:=by
 have h:mainGlobals<s.heap.objs.size:=(I.mod.glob.keeps I.bk).lt
 exact ael (by decide) h
theorem zq {Q:Value->Shared->Prop} (hu:A.units+1<cLine) (I:Inv X pins U H s) (g:f6 H a y (some v)) (ry:RelV y u) (h:∀ w' s',Inv X pins U H s'->RelV v w'->Q w' s') :
   wpAny (model X.prog X.w) A (getItem (.ref a) u) Q E s:=by
 rcases g with ⟨aw,k,e,ey,l⟩|⟨aw,k,b,e,ey,eb,l⟩
 .
  subst ey
  obtain ⟨z,hd,vs,rel,dd⟩:=qP I.cq e
  obtain ⟨w',hw,yV⟩:=iq.some_of (v:=v) (o:=valueAt vs k) (by rw [l];exact rel.val k)
  exact wpAny_getItem_of (vk ry) dd.mapOf hw (h w' _ (I.tok _) yV)
 .
  subst ey
  cases (show u=Value.ref b from ry)
  obtain ⟨z,hd,xs,rel,dd⟩:=tX I.cq e
  obtain ⟨w',hw,yV⟩:=iq.some_of (v:=v) (o:=(atKey xs k).map (·.2)) (by rw [l];exact rel.val k)
  obtain ⟨p,hp,Ai⟩:=Option.map_eq_some_iff.mp hw
  refine wpAny_getItem_heap (ae7 hu) (rN I.cq eb) dd hp ?_
  rw [Ai]
  exact h w' _ (I.tok _) yV
theorem nR {t':Nat} {ob:HO} (I:Inv X pins U H s) (mu:Jy (H a)) (hs:Heap.SameBut a s.heap h') (he:∃ q,h'.get? a=some q) (new:cw X.prog X.w (upd H a ob) h' a ob) :
   Inv X pins U (upd H a ob) { s with heap:=h',toks:=t' } :=
 I.write (x:=a) (e:=a) mu (.inl rfl) (λ b q hb z=>(hs.2 b hb).trans z) he new
theorem wF {P:Program} {w:World} {aw:List (Key×V)} {vs:List (Key×Value)} (z:aw.length<=sizeLine) (hd:(a == sysModules)=false) (rel:KV aw vs) (dd:h'.DictOf (cJ P w) a vs) :
   cw P w H' h' a (.dK aw):=⟨z,hd,vs,rel,dd⟩
theorem yA {Q:Unit->Shared->Prop} (hu:A.units+1<cLine) (I:Inv X pins U H s) (g:p7 H a y v H') (ry:RelV y u) (rv:RelV v r) (h:∀ s',Inv X pins U H' s'->Q () s') :
   wpAny (model X.prog X.w) A (setItem (.ref a) u r) Q E s:=by
 rcases g with ⟨aw,k,e,ey,l,eH⟩|⟨aw,k,b,e,ey,eb,l,eH⟩
 .
  subst ey eH
  obtain ⟨z,hd,vs,rel,dd⟩:=FM I.cq e
  have hz:vs.length<=sizeLine:=by rw [← rel.length];exact z
  have hl:(putK aw k v).length<=sizeLine:=by have:=js aw k v;lia
  refine wpAny_setItem_pairs (hsz:=hz) (vk ry) dd λ h' A1 hs=>h _ ?_
  have he:∃ q,h'.get? a=some q:=let ⟨q,_,_,hq,_⟩:=A1;⟨q,hq⟩
  exact nR I (by rw [e];exact True.intro) hs he (wF hl hd (rel.put k rv) A1)
 .
  subst ey eH
  cases (show u=Value.ref b from ry)
  obtain ⟨z,hd,xs,rel,dd⟩:=Lk I.cq e
  have hz:xs.length<=sizeLine:=by rw [← aeo rel];exact z
  have hl:(putK aw k v).length<=sizeLine:=by have:=js aw k v;lia
  refine wpAny_setItem_heap (hsz:=hz) (ae7 hu) (rN I.cq eb) dd λ h' A1 hs=>h _ ?_
  obtain ⟨q,es,ep,hq,h2,h3,h4,_,h5⟩:=A1
  refine nR I (by rw [e];exact True.intro) hs ⟨q,hq⟩ ⟨hl,hd,_,(rel.put k eb rv).keeps λ c ys ec=>?_,q,es,ep,hq,h2,h3,h4,h5⟩
  rw [av (K9 ec e (λ z=>nomatch z))]
  exact ec
end
def HS (i:Expr):Prop:=∀ ov iv,subscripted i false ov iv=operate [ov,iv] (getItem ov iv)
theorem xu {prog:Program} {w:World} {A:Around} {E:Value->Shared->Prop} {s:Shared} {env:Env} {value slice:Expr} {pos:Pos} {T id:String} {Q:Value->Shared->Prop} (hl:typeLookup (.type T) "__getitem__" = pure (some (.builtin id))) (hs:HS slice) (h:wpAny (model prog w) A (eval value env) (λ o s₁=>wpAny (model prog w) A (eval slice env) (λ i s₂=>s₂.TypeIs o T/\wpAny (model prog w) A (getItem o i) Q E s₂) E s₁) E s) :
   wpAny (model prog w) A (eval (.Subscript value slice pos) env) Q E s:=by
 refine Subscript_ (adF h (λ o s₁ h₁=>adF h₁ (λ i s₂ h₂=>?_) λ _ _ x=>x) λ _ _ x=>x)
 obtain ⟨hT,h₂⟩:=h₂
 unfold subscriptTail
 refine abn ?_
 rw [getitemInPython_of_ne hT.not_modules]
 refine abn (wpAny_specialOf hT hl ?_)
 have fin:wpAny (model prog w) A (subscripted slice false o i) (λ r s₃=>wpAny (model prog w) A (letTemporaryGo value o r >>= λ _=>pure r) Q E s₃) E s₂:=by
   rw [hs o i]
   exact wpAny_operating (adF h₂ (λ r s₃ h₃=>abn (wpAny_letTemporaryGo (ac9 h₃))) λ _ _ x=>x)
 first
   | exact ac9 (abn fin)
   | exact abn (ac9 (abn fin))
   | exact abn fin
theorem vc {X:Cx} {s:Shared} {a:Addr} {y:V} {o:Option V} (I:Inv X pins U H s) (g:f6 H a y o):s.TypeIs (.ref a) "dict":=by
 rcases g with ⟨aw,k,e,_,_⟩|⟨aw,k,b,e,_,_,_⟩
 . obtain ⟨_,_,vs,_,dd⟩:=qP I.cq e
   exact dd.typeIs
 . obtain ⟨_,_,xs,_,dd⟩:=tX I.cq e
   exact dd.typeIs
inductive Vc (Q:VK) (x y:V) (H2:Hp):Prop
 | mk (a:Addr) (v:V) (h1:x = .ref a) (h2:f6 H2 a y (some v)) (q:Q v H2)
def Jf (td ty:TE):TE:=λ U H Q=>td U H λ x H1=>ty U H1 (Vc Q x)
def Ls (td ty tv:TE):TS:=λ D U H=>tv U H λ v H1=>td U H1 λ x H2=>ty U H2 λ y H3=>∃ a H4,x = .ref a/\p7 H3 a y v H4/\D.nx U H4
section
variable {X:Cx} {o i e value:Expr} {pos pos' nN:Pos} {td ty tv:TE}
theorem bO (hu:X.A.units+1<cLine) (ho:PE X o td) (hi:PE X i ty) (hs:HS i):PE X (.Subscript o i pos) (Jf td ty):=by
 intro pins s U H Q I h
 refine xu PySem.F.slot_dict_getitem.lookup hs (cx (ho pins s U H _ I h) λ u s1 ⟨x,H1,I1,rx,q1⟩=>cx (hi pins s1 U H1 _ I1 q1) λ iv s2 ⟨y,H2,I2,ry,a,v,ex,g,q2⟩=>?_)
 subst ex
 obtain rfl:u=Value.ref a:=rx
 exact ⟨vc I2 g,zq hu I2 g ry λ w' s3 I3 yV=>⟨v,H2,I3,yV,q2⟩⟩
theorem n9 (hu:X.A.units+1<cLine) (ho:PE X o td) (hi:PE X i ty) (hv:PE X value tv) (hs:swapsWith value (some (.Subscript o i pos')) pos.line X.env=pure false) :
   PS X (.Assign [.Subscript o i pos'] value pos) (Ls td ty tv):=by
 intro pins s U H D I h
 refine wpAny_Assign_Subscript (cx (hv pins s U H _ I h) λ r s1 ⟨v,H1,I1,rv,q1⟩=>cx (ho pins s1 U H1 _ I1 q1) λ u s2 ⟨x,H2,I2,rx,q2⟩=>cx (hi pins s2 U H2 _ I2 q2) λ iv s3 ⟨y,H3,I3,ry,a,H4,ex,g,q3⟩=>?_) hs
 subst ex
 obtain rfl:u=Value.ref a:=rx
 exact yA hu I3 g ry rv λ s4 I4=>⟨U,H4,I4,q3⟩
end
theorem AB {P:Program} {w:World} (h:Heap) (hb:sysModules<h.objs.size):cw P w H (h.push { cls:=.type "dict",data:=.dict #[]}) h.objs.size (.dK []) :=
 ⟨adm _,beq_eq_false_iff_ne.mpr (ad1 (acW hb)),[],.nil,Heap.DictOf.new h⟩
theorem zU {P:Program} {w:World} (h:Heap) (hb:sysModules<h.objs.size):cw P w H (h.push { cls:=.type "dict",data:=.dict #[]}) h.objs.size (.dT []) :=
 ⟨adm _,beq_eq_false_iff_ne.mpr (ad1 (acW hb)),[],.nil,_,#[],0,ac6 _ rfl,⟨rfl,rfl,rfl⟩,rfl,rfl,aep⟩
def HW:TE:=λ _ H Q=>∀ p,H p=none->Q (.ref p) (upd H p (.dT []))
section
variable {X:Cx} {pos:Pos}
theorem uN:PE X (.Dict [] [] pos) HW:=λ pins s U H Q I h =>
 wpAny_Dict_empty ⟨.ref s.heap.objs.size,_,I.laid (a:=s.heap.objs.size) (o:=.dT []) (t':=s.toks) (λ _ _ q=>aa4 _ q) (aaT _) (zU s.heap I.big),rfl,h _ (I.cq.fresh (aaT _))⟩
end
def vR:List (TE×TE)->St->Hp->(List (V×V)->Hp->Prop)->Prop
 | [],_,H,Q=>Q [] H
 | (tk,tv)::r,U,H,Q=>tk U H λ x H1=>tv U H1 λ y H2=>vR r U H2 λ ps H3=>Q ((x,y)::ps) H3
abbrev VV:List (V×V)->List (Value×Value)->Prop:=Paired λ p q=>RelV p.1 q.1/\RelV p.2 q.2
def J1 (X:Cx) (pos:Pos) (keys:List (Option Expr)) (values:List Expr) (Dg:List (TE×TE)):Prop :=
 ∀ (pins:List (Addr×Obj)) (s:Shared) (U:St) (H:Hp) (Q:List (V×V)->Hp->Prop),Inv X pins U H s->vR Dg U H Q ->
   wpAny (model X.prog X.w) X.A (evalPairs (pairTrees keys values X.env pos)) (λ vs s'=>∃ ps H',Inv X pins U H' s'/\VV ps vs/\Q ps H') X.xe s
theorem DA {X:Cx} {pos:Pos}:J1 X pos [] [] []:=λ pins s U H Q I h=>pairTrees_nil_walk ⟨[],H,I,.nil,h⟩
theorem jN {X:Cx} {pos:Pos} {k v:Expr} {ks:List (Option Expr)} {vs:List Expr} {tk tv:TE} {Dg:List (TE×TE)} (hk:PE X k tk) (hv:PE X v tv) (hr:J1 X pos ks vs Dg) :
   J1 X pos (some k::ks) (v::vs) ((tk,tv)::Dg):=λ pins s U H Q I h =>
 pairTrees_cons_walk (cx (hk pins s U H _ I h) λ u s1 ⟨x,H1,I1,rx,q1⟩=>cx (hv pins s1 U H1 _ I1 q1) λ w2 s2 ⟨y,H2,I2,ry,q2⟩ =>
   cx (hr pins s2 U H2 _ I2 q2) λ ws s3 ⟨ps,H3,I3,rel,q3⟩=>⟨(x,y)::ps,H3,I3,.cons ⟨rx,ry⟩ rel,q3⟩)
def ja (aw more:List (Key×V)):List (Key×V):=more.foldl (λ acc kv=>putK acc kv.1 kv.2) aw
theorem KV.merge:∀ {more:List (Key×V)} {rs:List (Key×Value)} {aw:List (Key×V)} {vs:List (Key×Value)},KV more rs->KV aw vs->KV (ja aw more) (merged vs rs):=by
 intro more rs aw vs r
 unfold KV at r
 induction r generalizing aw vs with
 | nil=>intro q;exact q
 | @cons p q ps qs h t ih =>
   intro r0
   have e:KV (putK aw p.1 p.2) (stored vs q.1 q.2):=by
     have:=r0.put p.1 h.2
     rw [← h.1];exact this
   exact ih e
theorem ig:∀ (more aw:List (Key×V)),(ja aw more).length<=aw.length+more.length
 | [],aw=>by show aw.length<=aw.length+0;lia
 | p::r,aw=>by
   have h1:=ig r (putK aw p.1 p.2)
   have h2:=js aw p.1 p.2
   show (ja (putK aw p.1 p.2) r).length<=_
   rw [acX];lia
theorem o0 {P:Program} {w:World}:∀ {aw:List (Key×V)} {ws:List (Value×Value)},VV (aw.map λ kv=>(kV kv.1,kv.2)) ws->∃ rs,Carries (cJ P w) ws rs/\KV aw rs
 | [],_,r=>by rw [afC] at r;cases r;exact ⟨[],True.intro,.nil⟩
 | p::aw,_,r=>by
   rw [adl] at r
   cases r with
   | @cons a b as bs h t =>
     obtain ⟨rs,c,q⟩:=o0 (P:=P) (w:=w) t
     obtain ⟨b1,b2⟩:=b
     exact ⟨(p.1,b2)::rs,⟨vk h.1,rfl,c⟩,.cons ⟨rfl,h.2⟩ q⟩
def Kg (Dg:List (TE×TE)):TE:=λ U H Q=>∀ p,H p=none->vR Dg U (upd H p (.dK [])) λ ps H2=>H2 p=some (.dK [])/\∃ aw:List (Key×V),ps=aw.map (λ kv=>(kV kv.1,kv.2))/\aw.length<=15/\Q (.ref p) (upd H2 p (.dK (ja [] aw)))
theorem Dh {X:Cx} {pos:Pos} {keys:List (Option Expr)} {values:List Expr} {Dg:List (TE×TE)} (h:J1 X pos keys values Dg) (zZ:keys.all (·.isSome)=true) (hl:keys.length=values.length) (h0:keys≠[]) (h15:keys.length<=15):PE X (.Dict keys values pos) (Kg Dg):=by
 intro pins s U H Q I q
 have hn:=I.cq.fresh (aaT s.heap.objs.size)
 have I1:=I.laid (a:=s.heap.objs.size) (o:=.dK []) (h':=s.heap.push { cls:=.type "dict",data:=.dict #[]}) (t':=s.toks) (λ _ _ q=>aa4 _ q) (aaT _) (AB s.heap I.big)
 refine wpAny_Dict_walk (knd:=cJ X.prog X.w) zZ hl h0 h15 (cx (h pins _ U _ _ I1 (q _ hn)) λ ws s2 ⟨ps,H2,I2,rel,e,aw,ep,lk,q2⟩=>?_)
 subst ep
 obtain ⟨rs,c,rk⟩:=o0 (P:=X.prog) (w:=X.w) rel
 obtain ⟨z,hd,vs0,r0,dd⟩:=FM I2.cq e
 cases r0
 refine ⟨rs,c,dd,λ h' A1 hs=>⟨.ref s.heap.objs.size,_,?_,rfl,q2⟩⟩
 have hz:(ja [] aw).length<=sizeLine:=by
   have h1:=ig aw []
   rw [aeh] at h1
   rw [sizeLine_eq];lia
 have he:∃ q,h'.get? s.heap.objs.size=some q:=let ⟨q,_,_,hq,_⟩:=A1;⟨q,hq⟩
 exact nR I2 (by rw [e];exact True.intro) hs he (wF hz hd (rk.merge .nil) A1)
structure M1 (X:Cx) (o:Expr) (m:Str) (apos:Pos) (e:Expr) (gM:Pos):Prop where
 base:attributeBase o m X.env (eval o X.env)=eval o X.env
 few:((backTo gM (starEach [e] X.env)).all (λ x => !x.1) && (backToKw gM (keywordEach [] X.env)).all (λ x=>x.1.isSome)
   && decide (([e]:List Expr).length+([]:List Keyword).length+(if ([]:List Keyword).isEmpty then 0 else 1)<30))=true
 line:(apos.endLine == gM.line)=true
 trees:backTo gM (starEach [e] X.env)=[(false,eval e X.env)]
structure M2 (X:Cx) (o:Expr) (m:Str) (apos:Pos) (e f:Expr) (gM:Pos):Prop where
 base:attributeBase o m X.env (eval o X.env)=eval o X.env
 few:((backTo gM (starEach [e,f] X.env)).all (λ x => !x.1) && (backToKw gM (keywordEach [] X.env)).all (λ x=>x.1.isSome)
   && decide (([e,f]:List Expr).length+([]:List Keyword).length+(if ([]:List Keyword).isEmpty then 0 else 1)<30))=true
 line:(apos.endLine == gM.line)=true
 trees:backTo gM (starEach [e,f] X.env)=[(false,eval e X.env),(false,eval f X.env)]
def IsD (H:Hp) (a:Addr):Prop:=(∃ aw,Rd H a (.dK aw))∨∃ aw,Rd H a (.dT aw)
theorem Hv {X:Cx} {s:Shared} {a:Addr} (I:Inv X pins U H s) (d:IsD H a) :
   s.TypeIs (.ref a) "dict"/\(∀ b,Value.ref a = .ref b->∃ ob,s.heap.get? b=some ob/\ob.dict=none)/\(a == sysModules)=false:=by
 rcases d with ⟨aw,e⟩|⟨aw,e⟩
 .
  obtain ⟨_,hd,vs,_,dd⟩:=qP I.cq e
  refine ⟨dd.typeIs,λ b q=>?_,hd⟩
  cases q
  obtain ⟨ob,_,_,h1,h2,_⟩:=dd
  exact ⟨ob,h1,h2.2.1⟩
 .
  obtain ⟨_,hd,xs,_,dd⟩:=tX I.cq e
  refine ⟨dd.typeIs,λ b q=>?_,hd⟩
  cases q
  obtain ⟨ob,_,_,h1,h2,_⟩:=dd
  exact ⟨ob,h1,h2.2.1⟩
section
variable {X:Cx} {pins:List (Addr×Obj)} {U:St} {H:Hp} {s:Shared} {a:Addr} {y d:V} {u r:Value} {o:Option V} {A:Around} {E:Value->Shared->Prop}
theorem F9 {Q:Value->Shared->Prop} (hu:A.units+1<cLine) (I:Inv X pins U H s) (g:f6 H a y o) (ry:RelV y u) (rd:RelV d r) (h:∀ w' s',Inv X pins U H s'->RelV (o.getD d) w'->Q w' s') :
   wpAny (model X.prog X.w) A (call (.builtin "dict.get") [.ref a,u,r]) Q E s:=by
 rcases g with ⟨aw,k,e,ey,l⟩|⟨aw,k,b,e,ey,eb,l⟩
 .
  subst ey
  obtain ⟨z,hd,vs,rel,dd⟩:=qP I.cq e
  refine call_meetsIn aeF dd.typeIs afw (afr _ _ _) (meets_dict_get_default (cJ X.prog X.w) a (vk ry) hd r) ⟨_,dd.mapOf,h _ _ (I.tok _) ?_⟩
  rw [l]
  exact (rel.val k).getD rd
 .
  subst ey
  cases (show u=Value.ref b from ry)
  obtain ⟨z,hd,xs,rel,dd⟩:=tX I.cq e
  refine call_meetsIn aeF dd.typeIs afw (afr _ _ _) (meetsH_dict_get_default (tupleKind (cJ X.prog X.w)) a b hd r) ⟨ae7 hu,k,xs,rN I.cq eb,dd,h _ _ (I.tok _) ?_⟩
  rw [l]
  exact (rel.val k).getD rd
end
def F8 (td ty tx:TE):TE:=λ U H Q=>td U H λ x H1=>∃ a,x = .ref a/\IsD H1 a/\ty U H1 λ y H2=>tx U H2 λ z H3=>∃ o,f6 H3 a y o/\Q (o.getD z) H3
section
variable {X:Cx} {o e f:Expr} {apos gM:Pos} {td ty tx:TE}
theorem vh (hu:X.A.units+1<cLine) (ho:PE X o td) (he:PE X e ty) (hf:PE X f tx) (m:M2 X o "get" apos e f gM):PE X (.Call (.Attribute o "get" apos) [e,f] [] gM) (F8 td ty tx):=by
 intro pins s U H Q I h
 refine wpAny_Call_method m.base m.few m.line PySem.F.plainAttrs_dict aeF PySem.F.type_dict_get (cx (ho pins s U H _ I h) λ u s1 ⟨x,H1,I1,rx,a,ex,d,q1⟩=>?_)
 subst ex
 obtain rfl:u=Value.ref a:=rx
 obtain ⟨t1,t2,_⟩:=Hv I1 d
 refine ⟨t1,t2,?_⟩
 rw [m.trees]
 refine aeR rfl (Calls.evalArgs_plain (aff (cx (he pins s1 U H1 _ I1 q1) λ iv s2 ⟨y,H2,I2,ry,q2⟩ =>
   aff (cx (hf pins s2 U H2 _ I2 q2) λ fv s3 ⟨z,H3,I3,rz,ov,g,q3⟩=>Calls.spliced_nil ?_))))
 exact F9 hu I3 g ry rz λ w' s4 I4 yV=>⟨_,H3,I4,yV,q3⟩
end
section
variable {X:Cx} {pins:List (Addr×Obj)} {U:St} {H:Hp} {s:Shared} {a:Addr} {aw:List (Key×V)} {A:Around} {E:Value->Shared->Prop}
theorem Ao {Q:Value->Shared->Prop} (I:Inv X pins U H s) (e:Rd H a (.dK aw)) (h:∀ p s',H p=none->Inv X pins U (upd H p (.dK aw)) s'->Q (.ref p) s'):wpAny (model X.prog X.w) A (call (.type "dict") [.ref a]) Q E s:=by
 obtain ⟨z,hd,vs,rel,dd⟩:=qP I.cq e
 refine kt_call_dict hd dd (by rw [← rel.length];exact z) λ h' A1 hs=>?_
 refine h _ _ (I.cq.fresh (aaT _)) (I.laid (a:=s.heap.objs.size) (o:=.dK aw) (t':=s.toks) (λ b q hq=>?_) (aaT _) (wF z (beq_eq_false_iff_ne.mpr (ad1 (acW I.big))) rel A1))
 exact (hs.2 b (acW (act hq))).trans (aa4 _ hq)
end
end L2
namespace Att
open PySem PySem.W PySem.Calls PyProof.Rows
theorem nK {P:Params} {h:Heap}:∀ (ns:List Int) (vs:List Value),WellAll P h vs (ns.map WData.int)->IntsAre vs ns:=by
 intro ns
 induction ns with
 | nil =>
   intro vs w
   rw [afC] at w
   cases w
   exact .nil
 | cons n ns ih =>
   intro vs w
   rw [adl] at w
   cases w with
   | cons a b =>
     cases a
     exact .cons _ _ (ih _ b)
theorem zm {l:OpenLaw} {n:Nat} (hn:l.most=some n) {P:Params} {h:Heap} {args:List WData} {vals:List Value}
   (Dc:l.row.toRowW.claim.pre args=true) (Mg:WellAll P h vals args) :
   ∃ a vs ns,vals=[Value.ref a]/\args=[WData.list (ns.map WData.int)]/\h.get? a=some { cls:=.type "list",data:=.seq vs.toArray }/\IntsAre vs ns/\ns.length<=n:=by
 have hsh:WShape.hasAll [] args [.list .int]=true:=(pre_splitW Dc).1
 have hc:l.pre.holds [] { args:=args }=true:=(pre_splitW Dc).2
 obtain ⟨d,r,rfl,h1,h2⟩:=hasAllW_cons hsh
 obtain rfl:=hasAllW_nil h2
 obtain ⟨xs,rfl,h3⟩:=hasW_list h1
 obtain ⟨ns,rfl⟩:=items_int h3
 have hlen:ns.length<=n:=by
   unfold OpenLaw.pre at hc
   have h4:(WTm.not (.lt (.lit (.int (n:Int))) (.len (.arg 0)))).holds [] { args:=[.list (ns.map .int)]}=true:=by
     have h4:=(holds_andW hc).1
     rw [hn] at h4
     exact h4
   have h5:=condW_of h4 (w_not (w_lt w_lit (w_len_list (w_arg rfl))))
   rw [xq] at h5
   refine Nat.le_of_not_lt λ q=>?_
   have q':(n:Int)<((ns.length:Nat):Int):=by lia
   first
     | (rw [ac7 q'] at h5;exact absurd h5 (by decide))
     | (simp at h5;lia)
 cases Mg with
 | cons w1 w2 =>
   cases w2
   cases w1 with
   | list ho zZ=>exact ⟨_,_,ns,rfl,rfl,ho,nK ns _ zZ,hlen⟩
theorem zx (l:OpenLaw) (args:List WData):l.row.toRowW.claim.post args (.bool true) args=true :=
 postW_of (r:=l.row.toRowW) (X:=(true == true))
   (show WShape.has [] (.bool true) .bool=true by first|rfl|decide|simp [WShape.has,WShape.arms,WShape.armsAll])
   (show (WTm.eq .res (.lit (.bool true))).value [] { args:=args,res:=some (.bool true),after:=args }=some (.bool (true == true)) from w_eq_bool (w_res rfl) w_lit) rfl
section
variable {prog:Program} {w:World} {A:Around} {E:Value->Shared->Prop} {s:Shared} {K:Frag}
def T8 (h:Heap):Heap:={ h with objs:=#[]}
def ledger (h:Heap) (L d:Addr):List (Addr×Obj):=(List.range h.objs.size).filterMap λ a=>if a=L∨a=d then none else (h.get? a).map λ o=>(a,o)
end
end Att
namespace L2
open PySem PySem.Spec PyProof.Rows
variable {H H':Hp} {qual:Str}
theorem qG:∀ {vs:List Value} {ns:List Int},IntsAre vs ns->Vals (ns.map V.int) vs
 | _,_,.nil => .nil
 | _,_,.cons n t h => .cons ⟨t,rfl⟩ (qG h)
def Mh (H:Hp):Prop:=∀ b,H b=none∨∃ o xs,H b=some (.wC o (.lst xs))
theorem BP {P:Program} {w:World} {K:W.Frag} {mg mb:Str->Option Value} {CX:Ak} {k:Nat} {fa a:Addr} {fd:FuncData} {x:Str} {sp:Sp} {s₁:Shared} {vs:List Value} {ns:List Int} (KX:K.In s₁.heap) (MP:s₁.heap.Ns mainGlobals mg) (hb:s₁.heap.Ns builtinsNs mb) (hbb:∀ x:Str,x ≠ "__name__"->mb x=bootBuiltins x) (aao:s₁.heap.NoLimit) (hg:s₁.gens=#[]) (ha:s₁.heap.get? a=some { cls:=.type "list",data:=.seq vs.toArray }) (hi:IntsAre vs ns) (hl:ns.length<=sizeLine) (hr:cQ k callerA) (F:∀ base:Heap,K.In base->base.Ns mainGlobals mg->kr P w K mg base CX k fa fd [x] sp) (IX:∀ (s:Shared) (u:Value),BindsTo s fd ⟨[u],[]⟩ [(x,u)]) (Fj:∀ H:Hp,Mh H->aV K H a (ns.map V.int)->sp [.ref a] H (λ v _=>v = .bl true) λ _ _ _=>False) (hCX:∀ H e s',CX [] H s₁ (λ _ _ _=>False) e s'->False) :
   codeAny (model P w) callerA (.call (.ref fa) ⟨[.ref a],[]⟩) (λ r s'=>r = .ok (.ret (.bool true))/\OldK s₁.heap s'.heap/\s'.os=s₁.os/\AllBare s'.gens) s₁:=by
 have rv:=qG hi
 have XY:=hi.length
 have core:∀ H:Hp,Mh H->aV K H a (ns.map V.int)->kI P w H s₁.heap->(∀ b,H b≠none->b=a)->(H a≠none->K.lookup a=none) ->
     codeAny (model P w) callerA (.call (.ref fa) ⟨[.ref a],[]⟩) (λ r s'=>r = .ok (.ret (.bool true))/\OldK s₁.heap s'.heap/\s'.os=s₁.os/\AllBare s'.gens) s₁:=by
   intro H hO hS cq hA hK
   have xx:∀ {b:Addr} {o:Obj},s₁.heap.get? b=some o->H b=none->(rQ s₁.heap H).get? b=some o:=λ e n=>Aq e n
   have IV:∀ {b:Addr} {o:Obj} {es:Array DictEntry} {ep:Nat},s₁.heap.get? b=some o->o.data = .dict es ep->H b=none:=λ {b o es ep} e d=>by
     cases q:H b with
     | none=>rfl
     | some u =>
       have e':b=a:=hA b (by rw [q];simp)
       subst e'
       rw [ha] at e;cases e
       have d':Data.seq vs.toArray _=Data.dict es ep:=d
       cases d'
   have MN:∀ {b:Addr} {m:Str->Option Value},s₁.heap.Ns b m->(rQ s₁.heap H).Ns b m:=λ {b m} ⟨o,es,ep,e,d,r⟩=>⟨o,es,ep,xx e (IV e d),d,r⟩
   have hKb:K.In (rQ s₁.heap H):=λ b o e=>xx (KX b o e) (by
     cases q:H b with
     | none=>rfl
     | some u =>
       have e':b=a:=hA b (by rw [q];simp)
       subst e'
       rw [hK (by rw [q];simp)] at e;cases e)
   have hM:Mod K mg (rQ s₁.heap H):=⟨hKb,MN MP,⟨mb,MN hb,hbb⟩,let ⟨mc,h1,h2⟩:=aao;⟨mc,MN h1,h2⟩⟩
   have e0:we P w K mg (rQ s₁.heap H) callerA [] s₁ H:=⟨rfl,hM,λ b o e=>Cn e,Nat.le_of_eq (zp _ _),trivial,λ b hb=>absurd (show b∈([]:List Addr) from hb) (by simp),cq,.of_eq hg⟩
   refine afm ((F _ hKb (MN MP)).run callerA [] s₁ H ⟨[.ref a],[]⟩ [.ref a] [.ref a] _ _ hr e0 (IX s₁ (.ref a)) (.cons rfl .nil) (Fj H hO hS)) λ r s' h=>?_
   cases r with
   | error e=>exact (hCX H e s' h).elim
   | ok fl =>
     cases fl with
     | next=>exact False.elim h
     | brk=>exact False.elim h
     | cont=>exact False.elim h
     | ret u =>
       obtain ⟨v,H',os,bare,un,Ti,r',q⟩:=h
       have q':v = .bl true:=q
       subst q'
       obtain rfl:u=Value.bool true:=r'
       refine ⟨rfl,OldK.of_keep λ b o e=>?_,os,bare⟩
       cases q:H b with
       | none=>exact un.keep b o e q (by intro z;exact absurd (show b∈([]:List Addr) from z) (by simp)) (by simp)
       | some u =>
         rcases hO b with z|⟨ob,xs,z⟩
         . rw [q] at z;cases z
         . have z2:=un.rJ b ob _ z
           obtain ⟨e1,_⟩:=cq b _ z
           obtain ⟨e2,_⟩:=Ti b _ z2
           rw [e] at e1;cases e1
           exact e2
 cases hk:K.lookup a with
 | some o =>
   have e:=KX a o hk
   rw [ha] at e
   cases e
   refine core (λ _=>none) (λ _ => .inl rfl) (.inr ⟨_,vs.toArray,_,hk,rfl,rfl,rfl,by rw [abO,XY];exact hl,by simpa using rv⟩) (λ b u z=>by have z':(none:Option HO)=some u:=z;cases z') (λ b z=>absurd rfl z) λ z=>absurd rfl z
 | none =>
   refine core (λ b=>if b=a then some (.wC { cls:=.type "list",data:=.seq vs.toArray } (.lst (ns.map V.int))) else none) (λ b=>?_) (.inl (.inr ⟨{ cls:=.type "list",data:=.seq vs.toArray },abS rfl⟩)) (λ b u z=>?_) (λ b z=>?_) λ _=>hk
   . by_cases hb:b=a
     . exact .inr ⟨_,_,abS hb⟩
     . exact .inl (abZ hb)
   .
    by_cases hb:b=a
    . have z':=(abS hb).symm.trans z
      cases z'
      subst hb
      exact ⟨ha,by rw [xq];exact hl,vs,_,rv,ha⟩
    . have z':=(abZ hb).symm.trans z
      cases z'
   . by_cases hb:b=a
     . exact hb
     . exact absurd (abZ hb) z
def inClass (s:Stmt) (j:Nat):Stmt:=match s with
 | .ClassDef _ _ _ body _ _ _ _ _ _ _=>body.getD j (.Pass ⟨0,0,0,0⟩)
 | _ => .Pass ⟨0,0,0,0⟩
def cA (s:Stmt):Arguments:=match s with
 | .FunctionDef _ a _ _ _ _ _ _ _ _=>a
 | _=>{ posonlyargs:=[],args:=[],vararg:=none,kwonlyargs:=[],kw_defaults:=[],kwarg:=none,defaults:=[]}
def bF (s:Stmt):List Stmt:=match s with
 | .FunctionDef _ _ b _ _ _ _ _ _ _=>b
 | _=>[]
def ao (s:Stmt):Scope:=match s with
 | .FunctionDef _ _ _ _ _ _ sc _ _ _=>sc
 | _=>{ kind:=.function,names:=[],isGenerator:=false,isCoroutine:=false }
abbrev wx:Ak:=λ _ _ _ _ _ _=>False
abbrev E0:XK:=λ _ _ _=>False
theorem xD {X:Cx}:Passes wx X E0:=λ _ _ _ _ _ _ _ h=>h.elim
structure EL (K:W.Frag) (x qual:Str) (st:Stmt) (f:Addr) (fd:FuncData):Prop where
 ex:∃ (oc:Value) (od:Option Addr) (kV doc pm:Value) (an:Option Addr) (bx ct:Value) (uM:Array (Option Value)),
   fd=W.fnOf x qual (cA st) (bF st) (ao st) .none kV doc pm an bx ct/\K.lookup f=some ⟨oc,od,.func fd,uM⟩/\W.codeIn K bx qual=true
 kp:W.keepIn K (.ref f)=true
section
variable {P:Program} {w:World} {K:W.Frag} {mg:Str->Option Value} {base:Heap}
theorem EL.ok {x:Str} {st:Stmt} {f:Addr} {fd:FuncData} {N ps:List Str} {k:Nat} {sp:Sp} (F:EL K x qual st f fd) (S:az N ps (ao st)) (len:∀ vs H Q E,sp vs H Q E->vs.length=ps.length) (gB:∀ (bx:Value) (A:Around) (outer:List Env) (s:Shared) (H:Hp) (vs:List V) (Q:VK) (E:XK),cQ k (A.deeper (envOfC qual (ao st) s.heap.objs.size f bx))->sp vs H Q E ->
     ∃ t,qA (mD wx P w K mg base N qual (ao st) f bx A outer s H E).AY (bF st) t/\t { nx:=λ _ H'=>Q .cR H',rt:=Q } (start N vs) H):kr P w K mg base wx (k+1) f fd ps sp:=by
 obtain ⟨oc,od,kV,doc,pm,an,bx,ct,uM,rfl,lk,vE⟩:=F.ex
 refine FT lk vE S len λ A outer s H vs Q E hr Fj=>?_
 obtain ⟨t,h,q⟩:=gB bx A outer s H vs Q E hr Fj
 exact ⟨t,h.AY,q⟩
theorem EL.binds {x:Str} {st:Stmt} {f:Addr} {fd:FuncData} {ps:List Str} (F:EL K x qual st f fd) (h:∀ (kV doc pm:Value) (an:Option Addr) (bx ct:Value) (us:List Value),us.length=ps.length->bindArgs (W.fnOf x qual (cA st) (bF st) (ao st) .none kV doc pm an bx ct) ⟨us,[]⟩=pure (ps.zip us)):Binds K fd ps []:=by
 obtain ⟨oc,od,kV,doc,pm,an,bx,ct,uM,rfl,lk,vE⟩:=F.ex
 exact .all (h kV doc pm an bx ct)
theorem aS {x:Str} {st:Stmt} {f:Addr} {oc:Value} {od an:Option Addr} {uM:Array (Option Value)} {kV doc pm bx ct:Value} (l:K.lookup f=some ⟨oc,od,.func (W.fnOf x qual (cA st) (bF st) (ao st) .none kV doc pm an bx ct),uM⟩) (c:W.codeIn K bx qual=true) (k:W.keepIn K (.ref f)=true):EL K x qual st f (W.fnOf x qual (cA st) (bF st) (ao st) .none kV doc pm an bx ct):=⟨⟨oc,od,kV,doc,pm,an,bx,ct,uM,rfl,l,c⟩,k⟩
end
theorem cF {A:Around} {k:Nat} (hr:cQ k A):A.units+1<cLine:=ac1 (Nat.add_le_add_left (by decide:1<=64) _) hr.units
theorem aL {n:Nat} (h:n<=1000):n<sizeLine:=ac1 h (by decide)
section
variable {X:Cx}
theorem pv (i:Nat) {x:Str} {pos:Pos} (hN:X.N[i]?=some x:=by rfl) (hv:MU X.env.scope x:=by first|exact Or.inl rfl|exact Or.inr (Or.inl rfl)|exact Or.inr (Or.inr rfl)) (hd:(x == ("__debug__" : Str))=false:=by decide) (vE:(x == ("__classdict__" : Str))=false:=by decide):PE X (.Name x pos) (JI i):=GQ hN hv hd vE
end
theorem gz {A B:Prop} (h:B):if false=true then A else B:=by
 rw [abZ acT]
 exact h
theorem jy {A B:Prop} (h:A):if true=true then A else B:=by
 rw [abS rfl]
 exact h
theorem ff {c A B:Prop} [Decidable c] (hc:c) (h:B):if (!decide c)=true then A else B:=by
 rw [ac7 hc]
 exact gz h
def aA (H H':Hp):Prop:=∀ b o,H b=some o->H' b=some o
theorem aA.refl (H:Hp):aA H H:=λ _ _ h=>h
theorem aA.trans {H1 H2:Hp} (a:aA H H1) (b:aA H1 H2):aA H H2:=λ c o h=>b c o (a c o h)
theorem aA.free (e:aA H H') {l:Addr} (h:H' l=Option.none):H l=Option.none:=by
 cases q:H l with
 | none=>rfl
 | some o =>
   rw [e l o q] at h
   cases h
theorem aA.seq {K:W.Frag} {a:Addr} {xs:List V} (e:aA H H') (h:aV K H a xs):aV K H' a xs:=by
 rcases h with (h|⟨o,h⟩)|h
 . exact .inl (.inl (e _ _ h))
 . exact .inl (.inr ⟨o,e _ _ h⟩)
 . exact .inr h
section
variable {κ:Type} [DecidableEq κ]
theorem Br {aw:List (κ×V)} {k:κ} (h:fm aw k=none):¬ k∈aw.map (·.1):=by
 intro m
 obtain ⟨p,hp,e⟩:=List.mem_map.mp m
 have q:(aw.any λ kv=>decide (kv.1=k))=true:=List.any_eq_true.mpr ⟨p,hp,ac7 e⟩
 rw [iw,h] at q
 exact absurd q (by simp)
theorem yj:∀ {l:List κ} {k:κ},l.Nodup->¬ k∈l->(l++[k]).Nodup
 | [],k,_,_=>by simp
 | a::r,k,h,hk=>by
   obtain ⟨h1,h2⟩:=List.nodup_cons.mp h
   show (a::(r++[k])).Nodup
   refine List.nodup_cons.mpr ⟨λ m=>?_,yj h2 λ m=>hk (List.mem_cons.mpr (Or.inr m))⟩
   rcases List.mem_append.mp m with q|q
   . exact h1 q
   . exact hk (List.mem_cons.mpr (Or.inl (List.mem_singleton.mp q).symm))
theorem DK {aw:List (κ×V)} {k:κ} (v:V) (hn:(aw.map (·.1)).Nodup) (h:fm aw k=none):((putK aw k v).map (·.1)).Nodup:=by
 rw [zT v h,My]
 exact yj hn (Br h)
end
end L2
namespace Mth
theorem FB {g l:Int} (hg:0<=g) (hl:0<l):Int.gcd l (g % l)=Int.gcd g l:=by
 obtain ⟨a,rfl⟩:=afu hg
 obtain ⟨b,rfl⟩:=afu (adD hl)
 show Nat.gcd b (((a:Int) % (b:Int))).natAbs=Nat.gcd a b
 have:(((a:Int) % (b:Int))).natAbs=a % b:=by rw [← Int.natCast_emod];rfl
 rw [this,Nat.gcd_comm a b,Nat.gcd_comm b,← Nat.gcd_rec]
theorem IC {g:Int} (hg:0<=g):((Int.gcd g 0:Nat):Int)=g:=by
 rw [Int.gcd_zero_right];lia
theorem qu {a b:Int} (ha:0<a) (h:0<a * b):0<b:=by
 rcases (by lia:0<b∨b<=0) with q|q
 . exact q
 . have:=aer (adD ha) (by lia:0 <= -b)
   rw [afO] at this
   lia
structure Fr (t b q r:Int):Prop where
 pos:0<r
 iy:q * b=t * r
 MK:Int.gcd q r=1
 Km:q.natAbs<=t.natAbs
 Ku:r.natAbs<=b.natAbs
theorem oM {c q:Int} (hc:0<c):q.natAbs<=(c * q).natAbs:=by
 rw [aeO]
 exact Nat.le_mul_of_pos_left _ (by lia)
theorem BA {t b c:Int} (hb:b≠0) (hc:c=((Int.gcd t b:Nat):Int)):0<c/\c<=b.natAbs/\(0<b->Fr t b (t.fdiv c) (b.fdiv c))/\(b<0->Fr t b (t.fdiv (-c)) (b.fdiv (-c))):=by
 have hp:0<Int.gcd t b:=Int.gcd_pos_iff.mpr (.inr hb)
 have c0:0<c:=by lia
 have d1:c ∣ t:=hc ▸ Int.gcd_dvd_left t b
 have d2:c ∣ b:=hc ▸ Int.gcd_dvd_right t b
 obtain ⟨q,hq⟩:=d1
 obtain ⟨r,hr⟩:=d2
 have OL:r≠0:=by rintro rfl;rw [Int.mul_zero] at hr;exact hb hr
 have hle:c<=b.natAbs:=by
   rw [hr,aeO]
   have:c.natAbs * 1<=c.natAbs * r.natAbs:=Nat.mul_le_mul_left _ (by lia)
   lia
 have e1:t.fdiv c=q:=by rw [hq,ad5 _ (by lia)]
 have e2:b.fdiv c=r:=by rw [hr,ad5 _ (by lia)]
 have e3:t.fdiv (-c) = -q:=by rw [show t = -c * -q by rw [hq,Int.neg_mul_neg],ad5 _ (by lia)]
 have e4:b.fdiv (-c) = -r:=by rw [show b = -c * -r by rw [hr,Int.neg_mul_neg],ad5 _ (by lia)]
 have hg:Int.gcd q r=1:=by
   have h1:Int.gcd (c * q) (c * r)=c.natAbs * Int.gcd q r:=Int.gcd_mul_left c q r
   rw [← hq,← hr] at h1
   have h3:c.natAbs=Int.gcd t b:=by lia
   rw [h3] at h1
   have h2:Int.gcd t b * Int.gcd q r=Int.gcd t b * 1:=by rw [← h1,afL]
   exact Nat.eq_of_mul_eq_mul_left hp h2
 have l1:q.natAbs<=t.natAbs:=hq ▸ oM c0
 have l2:r.natAbs<=b.natAbs:=hr ▸ oM c0
 refine ⟨c0,hle,λ b0=>?_,λ b0=>?_⟩
 . rw [e1,e2]
   exact ⟨qu c0 (hr ▸ b0),by rw [hq,hr,adu,Int.mul_left_comm],hg,l1,l2⟩
 . rw [e3,e4]
   refine ⟨qu c0 (by rw [afO,← hr];lia),?_,by rw [Int.gcd_neg,Int.neg_gcd];exact hg,by lia,by lia⟩
   rw [hq,hr,Int.neg_mul,afO,adu,Int.mul_left_comm]
def Bd (n:Nat) (x:Int):Prop:=x.natAbs<2 ^ n
theorem Bd.mono {m n:Nat} {x:Int} (h:Bd m x) (l:m<=n):Bd n x:=ab4 h (adr (by decide) l)
theorem Bd.mul {m n:Nat} {x y:Int} (h:Bd m x) (k:Bd n y):Bd (m+n) (x * y):=by
 unfold Bd at *
 rw [aeO,Nat.pow_add]
 exact Nat.mul_lt_mul'' h k
theorem Bd.add {m:Nat} {x y:Int} (h:Bd m x) (k:Bd m y):Bd (m+1) (x+y):=by
 unfold Bd at *
 rw [aeH]
 have:=Int.natAbs_add_le x y
 lia
theorem Bd.neg {m:Nat} {x:Int} (h:Bd m x):Bd m (-x):=by unfold Bd at *;rw [Int.natAbs_neg];exact h
theorem Bd.sub {m:Nat} {x y:Int} (h:Bd m x) (k:Bd m y):Bd (m+1) (x - y):=by rw [Int.sub_eq_add_neg];exact h.add k.neg
theorem Bd.le {m:Nat} {x y:Int} (h:Bd m y) (k:x.natAbs<=y.natAbs):Bd m x:=ac1 k h
theorem Bd.log {n:Nat} {x:Int} (h:Bd n x) (hn:0<n):x.natAbs.log2<n:=by
 by_cases h0:x.natAbs=0
 . rw [h0];simpa using hn
 . exact (Nat.log2_lt h0).mpr h
theorem Fr.M0 {t b q r:Int} {n:Nat} (h:Fr t b q r) (k:Bd n t):Bd n q:=k.le h.Km
theorem Fr.Na {t b q r:Int} {n:Nat} (h:Fr t b q r) (k:Bd n b):Bd n r:=k.le h.Ku
end Mth
namespace Bit
def rooms (n:Nat):List Nat:=(List.range 61).filter n.testBit
theorem fe {n k:Nat}:k∈rooms n↔k<61/\n.testBit k=true:=by
 unfold rooms;rw [afc,List.mem_range]
theorem lO (n:Nat):(rooms n).Pairwise (· < ·):=(afx).filter _
theorem gs {n m k:Nat} (h:n<2 ^ m) (hk:m<=k):n.testBit k=false:=Nat.testBit_lt_two_pow (ab4 h (adr (by decide) hk))
theorem wM {n m:Nat} (h:n<2 ^ m) (hm:m<=61):(List.range m).filter n.testBit=rooms n:=by
 unfold rooms
 obtain ⟨d,hd⟩:∃ d,61=m+d:=⟨61 - m,by lia⟩
 have e61:List.range 61=List.range (m+d):=by rw [hd]
 rw [e61,List.range_add,adG]
 have:(List.map (m + ·) (List.range d)).filter n.testBit=[]:=by
   rw [List.filter_eq_nil_iff]
   intro a ha
   obtain ⟨b,_,rfl⟩:=List.mem_map.mp ha
   rw [gs h (by lia)]
   exact acT
 rw [this,adO]
def sumOf (l:List Nat):Nat:=l.foldl (λ n r=>n ||| 2 ^ r) 0
theorem uz:∀ (l:List Nat) (a k:Nat),(l.foldl (λ n r=>n ||| 2 ^ r) a).testBit k=(a.testBit k || decide (k∈l))
 | [],a,k=>by simp
 | r::l,a,k=>by
   rw [List.foldl_cons,uz l,afj,aeP,Bool.or_assoc]
   congr 1
   by_cases h:r=k
   . subst h;simp
   . have:decide (k∈r::l)=decide (k∈l):=by simp [ad1 h]
     rw [this];simp [h]
theorem j9 (l:List Nat) (k:Nat):(sumOf l).testBit k=decide (k∈l):=by
 unfold sumOf;rw [uz];simp
theorem Bw {l:List Nat} {m:Nat} (h:∀ r∈l,r<m):sumOf l<2 ^ m:=by
 refine afk _ λ i hi=>?_
 rw [j9]
 exact ab2 λ q=>absurd (h i q) (by lia)
theorem vj {l:List Nat} (h:∀ r∈l,r<61) (hs:l.Pairwise (· < ·)):rooms (sumOf l)=l:=by
 have yp:∀ k,k∈rooms (sumOf l)↔k∈l:=λ k=>by
   rw [fe,j9]
   constructor
   . rintro ⟨_,q⟩;exact of_decide_eq_true q
   . intro q;exact ⟨h k q,ac7 q⟩
 have uniq:∀ (a b:List Nat),a.Pairwise (· < ·)->b.Pairwise (· < ·)->(∀ k,k∈a↔k∈b)->a=b:=by
   intro a
   induction a with
   | nil =>
     intro b _ _ hm
     cases b with
     | nil=>rfl
     | cons y b=>exact absurd ((hm y).mpr acY) (by simp)
   | cons x a ih =>
     intro b ha hb hm
     cases b with
     | nil=>exact absurd ((hm x).mp acY) (by simp)
     | cons y b =>
       obtain ⟨ha1,ha2⟩:=List.pairwise_cons.mp ha
       obtain ⟨Ce,ML⟩:=List.pairwise_cons.mp hb
       have VC:x=y:=by
         rcases List.mem_cons.mp ((hm x).mp acY) with q|q
         . exact q
         . rcases List.mem_cons.mp ((hm y).mpr acY) with q2|q2
           . exact q2.symm
           . have:=Ce x q;have:=ha1 y q2;lia
       subst VC
       rw [ih b ha2 ML λ k=>?_]
       constructor
       . intro q
         rcases List.mem_cons.mp ((hm k).mp (acV _ q)) with z|z
         . subst z;exact absurd (ha1 k q) (adM _)
         . exact z
       . intro q
         rcases List.mem_cons.mp ((hm k).mpr (acV _ q)) with z|z
         . subst z;exact absurd (Ce k q) (adM _)
         . exact z
 exact uniq _ _ (lO _) hs yp
def parts (l:List Nat):List Nat:=l.foldl (λ ps r=>ps++ps.map (· ||| 2 ^ r)) [0]
theorem xm {p r:Nat} (h:p<2 ^ r):p ||| 2 ^ r=p+2 ^ r:=by
 have:=ae9 h 1
 rw [afL] at this
 rw [Nat.or_comm,← this,aem]
structure Ok (ps l:List Nat):Prop where
 len:ps.length=2 ^ l.length
 first:ps[0]?=some 0
 last:ps[ps.length - 1]?=some (sumOf l)
 rise:ps.Pairwise (· < ·)
 sub:∀ p∈ps,∀ k,p.testBit k=true->k∈l
theorem HV:Ok [0] []:=⟨rfl,rfl,rfl,by simp,λ p hp k hk=>by
 have:p=0:=by simpa using hp
 subst this;simp at hk⟩
theorem Fb {ps l:List Nat} {r:Nat} (h:Ok ps l) (hr:∀ x∈l,x<r):Ok (ps++ps.map (· ||| 2 ^ r)) (l++[r]):=by
 have small:∀ p∈ps,p<2 ^ r:=λ p hp=>afk _ λ i hi=>by
   cases e:p.testBit i with
   | false=>rfl
   | true=>have:=hr i (h.sub p hp i e);lia
 have pos:0<ps.length:=by rw [h.len];exact Nat.two_pow_pos _
 refine ⟨?_,?_,?_,?_,?_⟩
 . rw [aaD,xq,h.len,aaD,adp,aeH];lia
 . rw [acZ pos];exact h.first
 .
  rw [aaD,xq,ade (by lia),Jl]
  have e:ps.length+ps.length - 1 - ps.length=ps.length - 1:=by lia
  rw [e,h.last]
  show some (sumOf l ||| 2 ^ r)=some (sumOf (l++[r]))
  unfold sumOf
  rw [adw];rfl
 .
  rw [List.pairwise_append]
  refine ⟨h.rise,?_,λ a ha b hb=>?_⟩
  . rw [List.pairwise_map]
    refine List.Pairwise.imp_of_mem ?_ h.rise
    intro a b ha hb vD
    rw [xm (small a ha),xm (small b hb)];lia
  . obtain ⟨c,hc,rfl⟩:=List.mem_map.mp hb
    have:=small a ha
    rw [xm (small c hc)];lia
 .
  intro p hp k hk
  rcases List.mem_append.mp hp with q|q
  . exact aeg _ (h.sub p q k hk)
  .
   obtain ⟨c,hc,rfl⟩:=List.mem_map.mp q
   rw [afj,Bool.or_eq_true] at hk
   rcases hk with z|z
   . exact aeg _ (h.sub c hc k z)
   . rw [aeP] at z
     have:=of_decide_eq_true z
     subst this
     exact adk _ (by simp)
theorem xU:∀ (b a ps:List Nat),Ok ps a->(a++b).Pairwise (· < ·)->Ok (b.foldl (λ ps r=>ps++ps.map (· ||| 2 ^ r)) ps) (a++b)
 | [],a,ps,h,_=>by simpa using h
 | r::b,a,ps,h,hs=>by
   rw [List.foldl_cons]
   have e:a++r::b=(a++[r])++b:=by simp
   have hr:∀ x∈a,x<r:=λ x hx=>(List.pairwise_append.mp hs).2.2 x hx r acY
   rw [e] at hs ⊢
   exact xU b (a++[r]) _ (Fb h hr) hs
theorem BB {n r:Nat} (hr:r<61) (h:n.testBit r=false):(rooms (n ||| 2 ^ r)).length=(rooms n).length+1:=by
 have c:∀ (l:List Nat),l.Nodup->(l.filter (n ||| 2 ^ r).testBit).length=(l.filter n.testBit).length+(if r∈l then 1 else 0):=by
   intro l
   induction l with
   | nil=>intro _;rfl
   | cons x l ih =>
     intro hl
     obtain ⟨h1,h2⟩:=List.nodup_cons.mp hl
     have e:=ih h2
     have hx:(n ||| 2 ^ r).testBit x=(n.testBit x || decide (r=x)):=by rw [afj,aeP]
     rw [List.filter_cons,List.filter_cons,hx]
     by_cases q:r=x
     . subst q
       rw [h]
       simp only [decide_true,Bool.or_true,aev,acX,e,abZ h1,abt,true_or]
       simp
     . have q':(r∈x::l)↔r∈l:=by simp [q]
       have d:decide (r=x)=false:=ab2 q
       rw [d,Bool.or_false]
       cases n.testBit x with
       | true=>simp only [aev,acX,e];by_cases z:r∈l<;>simp [z,q]<;>lia
       | false=>simp only [aen,aek,e];by_cases z:r∈l<;>simp [z,q]
 have:=c (List.range 61) List.nodup_range
 rw [abS (List.mem_range.mpr hr)] at this
 exact this
end Bit
namespace L2
open PySem PySem.Spec PyProof.Rows Mth
theorem vP:bootBuiltins "abs" = some (.builtin "abs"):=by decide +kernel
theorem d9:bootBuiltins "len" = some (.builtin "len"):=by decide +kernel
theorem ki:bootBuiltins "isinstance" = some (.builtin "isinstance"):=by decide +kernel
theorem AU:bootBuiltins "all" = some (.builtin "all"):=by decide +kernel
theorem ip:bootBuiltins "tuple" = some (.type "tuple"):=by decide +kernel
theorem xS:bootBuiltins "list" = some (.type "list"):=by decide +kernel
theorem G0:bootBuiltins "int" = some (.type "int"):=by decide +kernel
theorem CG:bootBuiltins "bool" = some (.type "bool"):=by decide +kernel
theorem yk {n:Nat} {x:Int} (h:Bd n x):Builtin.Int.intBits x<=n:=PySem.intBits_le_iff.mpr h
theorem E9 {n:Nat} {x:Int} (h:Builtin.Int.intBits x<=n):Bd n x:=PySem.intBits_le_iff.mp h
section
variable {X:Cx}
def Fk (i j:Int):Prop:=∃ m n,Bd m i/\Bd n j/\m+n<=100000000
def FD (_ j:Int):Prop:=j≠0/\Bd 8999 j
theorem EH:gI X (binaryOp .Mult) (rI Fk λ i j => .int (i * j)):=Io λ _ _ _ _ _ _ _ hc q=>by
 obtain ⟨m,n,h1,h2,h3⟩:=hc
 exact mul_int q (IntMulOk.of_le (yk h1) (yk h2) (by lia))
theorem Ac:gI X (binaryOp .FloorDiv) (rI FD λ i j => .int (i.fdiv j)):=Io λ _ _ _ _ _ _ _ hc q=>by
 have h2:Bd 8999 _:=hc.2
 exact floordiv_int hc.1 q (.inl (PyProof.noPylong_of_log2 (ab4 (h2.log (by decide)) (by decide))))
inductive LF (K:W.Frag) (x:V) (y:V) (H:Hp) (Q:VK):Prop
 | mk (p xs i v:_) (_:x = .ref p) (_:y = .int i) (_:(aV K H p xs∨bU K H p xs)) (_:wO xs i=some v) (_:Q v H)
theorem aD:Lb X (LF X.K):=by
 intro value slice pins s U H x y v u Q I rx ry h hs
 obtain ⟨p,xs,i,w,e1,e2,hq,e3,q⟩:=h
 rcases hq with hq|hq
 . exact DZ value slice pins s U H x y v u Q I rx ry ⟨p,xs,i,w,e1,e2,hq,e3,q⟩ hs
 . exact Gw value slice pins s U H x y v u Q I rx ry ⟨p,xs,i,w,e1,e2,hq,e3,q⟩ hs
theorem mM:gS X (.builtin "isinstance") (λ xs H Q=>∃ x c t cv b,xs=[x,c]/\mq X.K H x t/\RelV c cv/\W.kitOne X.K t cv=some b/\Q (.bl b) H):=by
 intro pins s U H xs us Q I r h
 obtain ⟨x,c,t,cv,b,rfl,ty,rc,e,q⟩:=h
 obtain ⟨u,w',rfl,r1,r2⟩:=vals2 r
 have:w'=cv:=by
   cases c with
   | cR=>cases r2;cases rc;rfl
   | bl b=>cases r2;cases rc;rfl
   | ref a=>cases r2;cases rc;rfl
   | ty n=>cases r2;cases rc;rfl
   | int i=>exact absurd e (by obtain ⟨k,rfl⟩:=rc;intro z;unfold W.kitOne W.kitCls at z;cases ty<;>simp at z)
   | str i=>exact absurd e (by obtain ⟨k,rfl⟩:=rc;intro z;unfold W.kitOne W.kitCls at z;cases ty<;>simp at z)
   | yR i=>exact absurd e (by obtain ⟨k,rfl⟩:=rc;intro z;unfold W.kitOne W.kitCls at z;cases ty<;>simp at z)
   | FC i=>exact absurd e (by obtain ⟨k,rfl⟩:=rc;intro z;unfold W.kitOne W.kitCls at z;cases ty<;>simp at z)
 subst this
 exact yL I r1 ty e λ tk=>⟨.bl b,H,I.tok _,rfl,q⟩
end
def fY (K:W.Frag) (mg:Str->Option Value) (x:Str) (st:Stmt):Prop:=∃ f fd,mg x=some (.ref f)/\EL K x x st f fd
def Def (P:Program) (w:World) (K:W.Frag) (mg:Str->Option Value) (base:Heap) (x:Str) (k:Nat) (ps:List Str) (sp:Sp):Prop :=
 ∃ f fd,mg x=some (.ref f)/\W.keepIn K (.ref f)=true/\Binds K fd ps []/\kr P w K mg base wx k f fd ps sp
section
variable {P:Program} {w:World} {K:W.Frag} {mg:Str->Option Value} {base:Heap}
theorem fY.def {x:Str} {st:Stmt} {N ps:List Str} {k:Nat} {sp:Sp} (h:fY K mg x st) (S:az N ps (ao st)) (len:∀ vs H Q E,sp vs H Q E->vs.length=ps.length)
   (hb:∀ (kV doc pm:Value) (an:Option Addr) (bx ct:Value) (us:List Value),us.length=ps.length->bindArgs (W.fnOf x x (cA st) (bF st) (ao st) .none kV doc pm an bx ct) ⟨us,[]⟩=pure (ps.zip us))
   (gB:∀ (f:Addr) (bx:Value) (A:Around) (outer:List Env) (s:Shared) (H:Hp) (vs:List V) (Q:VK) (E:XK),cQ k (A.deeper (envOfC x (ao st) s.heap.objs.size f bx))->sp vs H Q E ->
     ∃ t,qA (mD wx P w K mg base N x (ao st) f bx A outer s H E).AY (bF st) t/\t { nx:=λ _ H'=>Q .cR H',rt:=Q } (start N vs) H):Def P w K mg base x (k+1) ps sp:=by
 obtain ⟨f,fd,hm,F⟩:=h
 exact ⟨f,fd,hm,F.kp,F.binds hb,F.ok S len λ bx A outer s H vs Q E hr hs=>gB f bx A outer s H vs Q E hr hs⟩
theorem EL.GU {x qual:Str} {st:Stmt} {f:Addr} {fd:FuncData} {p:Str} (F:EL K x qual st f fd)
   (h:∀ (kV doc pm:Value) (an:Option Addr) (bx ct:Value) (u:Value),bindArgs (W.fnOf x qual (cA st) (bF st) (ao st) .none kV doc pm an bx ct) ⟨[u],[]⟩=pure [(p,u)]) (s:Shared) (u:Value):BindsTo s fd ⟨[u],[]⟩ [(p,u)]:=by
 obtain ⟨oc,od,kV,doc,pm,an,bx,ct,uM,rfl,lk,vE⟩:=F.ex
 exact .of_eq (h kV doc pm an bx ct u)
end
section
variable {X:Cx} {x:Str} {p pos:Pos} {e:Expr} {es:List Expr} {t:TA} {k:Nat} {ps:List Str} {sp:Sp}
theorem ak (D:Def X.prog X.w X.K X.mg X.base x k ps sp) (hr:cQ k X.A) (ha:PA X (e::es) t) (hg:Gl X x:=by rfl) (yU:(x == ("__debug__" : Str))=false:=by decide)
   (he:starEach (e::es) X.env=(false,eval e X.env)::starEach es X.env:=by rfl) (kJ:(backTo pos (starEach es X.env)).any (·.1)=false:=by rfl):PE X (.Call (.Name x p) (e::es) [] pos) (FP sp [] E0 t):=by
 obtain ⟨f,fd,hm,hk,hb,F⟩:=D
 exact Ea F hr hg hm hk hb .nil xD ha yU he kJ
end
theorem wY {n:Int} {m:Nat} (h:(W.WData.int n).weight<=m):Bd m n:=by
 refine E9 ?_
 simpa only [W.WData.weight,Builtin.Int.intBits] using h
end L2
namespace Att
open PySem PySem.W PySem.Calls PyProof.Rows Mth
theorem sV {l:OpenLaw} {n:Nat} {q:Program} {loose:List Str} {XP:(Str->Option Value)->Heap->Prop} {YP:World->Heap->Prop} {d:DefRec}
   (hn:l.most=some n) (ID:d.params.defaults=[])
   (call:∀ (w:World) (s₀ s₁:Shared) (mg mb:Str->Option Value) (fa:Addr) (o:Obj) (pm cd doc:Value) (a:Addr) (vs:List Value) (ns:List Int),
     Ground q loose [] XP w s₀ mg mb s₁.heap->YP w s₁.heap ->
     s₁.heap.get? fa=some o->o.data = .func (docDef d.name d.params d.body d.scope pm cd doc)->s₁.heap.CodeRec cd d.name->mg d.name=some (.ref fa) ->
     s₁.heap.get? a=some { cls:=.type "list",data:=.seq vs.toArray }->IntsAre vs ns->ns.length<=n->(∀ z∈ns,Bd 1048576 z)->s₁.gens=#[] ->
     codeAny (model l.prog w) callerA (.call (.ref fa) ⟨[.ref a],[]⟩) (λ r s'=>r = .ok (.ret (.bool true))/\OldK s₁.heap s'.heap/\s'.os=s₁.os/\AllBare s'.gens) s₁) :
   WalkO q loose XP YP l.row.toRowW d [] (λ f vs=>PySem.call f vs):=by
 intro w s₀ s₁ mg mb G Y fa o pm cd doc dV kV ho hd vE hD Iy hg args vals as Dc QV hrd Mg hlo
 obtain rfl:dV = .none:=Dflts.none hD ID
 obtain rfl:kV = .none:=Dflts.noKw hD
 obtain ⟨a,vs,ns,rfl,rfl,Hz,hints,hlen⟩:=zm hn Dc Mg
 have xZ:∀ z∈ns,Bd 1048576 z:=λ z hz=>by
   have h1:=layableW_arg QV _ (List.mem_singleton.mpr rfl)
   have h2:=layableW_item h1 (.int z) (List.mem_map.mpr ⟨z,hz,rfl⟩)
   exact L2.wY (adf (layableW_iff.mp h2).2.2 (by decide))
 refine enter_call (afm (call w s₀ s₁ mg mb fa o pm cd doc a vs ns G Y ho (fd_plain hd) vE Iy Hz hints hlen xZ hg) λ r s' hq=>?_)
 obtain ⟨rfl,h2,h3,h4⟩:=hq
 exact ⟨.inl ⟨.bool true,.bool true,[],rfl,λ _=>rfl,.bool true,zx l _,λ _=>⟨List.Pairwise.nil,λ _ hm=>(nomatch hm)⟩⟩,h2,h3,h4⟩
end Att
namespace L2
open PySem PySem.Spec PyProof.Rows Mth
variable {H H':Hp} {T i1 i2:Addr} {elt iter tg:Expr} {elts ifs:List Expr} {g:TG} {nt t' x1:Nat} {o:HO} {te:TE} {nN:Pos} {xs:List V} {U:St}
inductive zR (K:W.Frag) (vs:List V) (H:Hp) (Q:VK) (_E:XK):Prop
 | mk (a:Addr) (ns:List Int) (_:vs=[.ref a]) (_:aV K H a (ns.map V.int)) (_:ns.length<=63) (_:(∀ z∈ns,Bd 1048576 z)) (_:∀ H',Q (.bl true) H')
theorem Bj {l:W.OpenLaw} {k:Nat} {q:Program} {loose:List Str} {XP:(Str->Option Value)->Heap->Prop} {YP:World->Heap->Prop} {d:DefRec} {K:Params->W.Frag} {x:Str} (hn:l.most=some 63) (ID:d.params.defaults=[]) (hr:cQ k callerA) (hY:∀ (w:World) (h:Heap),YP w h->(K w.params).In h) (F:∀ (w:World) (mg:Str->Option Value) (fa:Addr) (h:Heap),(K w.params).In h->h.Ns mainGlobals mg->mg d.name=some (.ref fa) ->
     ∃ fd:FuncData,(∀ (s:Shared) (u:Value),BindsTo s fd ⟨[u],[]⟩ [(x,u)]) /\
       ∀ base:Heap,(K w.params).In base->base.Ns mainGlobals mg->kr l.prog w (K w.params) mg base wx k fa fd [x] (zR (K w.params))) :
   W.WalkO q loose XP YP l.row.toRowW d [] (λ f vs=>PySem.call f vs):=by
 refine Att.sV hn ID λ w s₀ s₁ mg mb fa o pm cd doc a vs ns G Y ho hd vE Iy Hz hints hlen xZ hg=>?_
 have KX:=hY w _ Y
 obtain ⟨fd,hb,hF⟩:=F w mg fa _ KX G.T.g Iy
 exact BP KX G.T.g G.T.b G.T.builtins G.T.nolimit hg Hz hints (adf hlen (by decide)) hr hF hb (λ H hO hS=>⟨a,ns,rfl,hS,hlen,xZ,λ _=>rfl⟩) λ H e s' z=>z
section
variable {X:Cx}
inductive KH  (x:V) (y:V) (H:Hp) (Q:VK):Prop
 | mk (i j:_) (_:x = .int i) (_:y = .int j) (_:∀ r:Int,r=i+j->Q (.int r) H)
inductive Kn  (x:V) (y:V) (H:Hp) (Q:VK):Prop
 | mk (i j:_) (_:x = .int i) (_:y = .int j) (_:∀ r:Int,r=i - j->Q (.int r) H)
inductive Li  (x:V) (y:V) (H:Hp) (Q:VK):Prop
 | mk (i j:_) (_:x = .int i) (_:y = .int j) (_:Fk i j) (_:∀ r:Int,r=i * j->Q (.int r) H)
inductive LH  (x:V) (y:V) (H:Hp) (Q:VK):Prop
 | mk (i j:_) (_:x = .int i) (_:y = .int j) (_:FD i j) (_:∀ r:Int,r=i.fdiv j->Q (.int r) H)
inductive Jt  (x:V) (y:V) (H:Hp) (Q:VK):Prop
 | mk (i j:_) (_:x = .int i) (_:y = .int j) (_:Dq i j) (_:∀ r:Int,r=i ^ j.toNat->Q (.int r) H)
inductive LQ  (x:V) (y:V) (H:Hp) (Q:VK):Prop
 | mk (i j:_) (_:x = .int i) (_:y = .int j) (_:Dq i j) (_:∀ r:Int,r=i * 2 ^ j.toNat->Q (.int r) H)
inductive L1  (x:V) (y:V) (H:Hp) (Q:VK):Prop
 | mk (i j:_) (_:x = .int i) (_:y = .int j) (_:0<=j) (_:∀ r:Int,r=i / 2 ^ j.toNat->Q (.int r) H)
inductive Ot  (x:V) (y:V) (H:Hp) (Q:VK):Prop
 | mk (i j:_) (_:x = .int i) (_:y = .int j) (_:∀ r:Int,r=Builtin.bitOr i j->Q (.int r) H)
inductive JL  (x:V) (y:V) (H:Hp) (Q:VK):Prop
 | mk (i j:_) (_:x = .int i) (_:y = .int j) (_:∀ r:Int,r=Builtin.bitAnd i j->Q (.int r) H)
inductive rLM  (x:V) (y:V) (H:Hp) (Q:VK):Prop
 | mk (i j:_) (_:x = .int i) (_:y = .int j) (_:0<j) (_:∀ r:Int,0<=r->r<j->r=i % j->Q (.int r) H)
theorem aI:gI X (binaryOp .Add) KH:=λ pins s U H x y v u Q I rx ry ⟨i,j,e1,e2,q⟩=>HJ pins s U H x y v u Q I rx ry ⟨i,j,e1,e2,q _ rfl⟩
theorem dF:gI X (binaryOp .Sub) Kn:=λ pins s U H x y v u Q I rx ry ⟨i,j,e1,e2,q⟩=>HM pins s U H x y v u Q I rx ry ⟨i,j,e1,e2,q _ rfl⟩
theorem br:gI X (binaryOp .Mult) Li:=λ pins s U H x y v u Q I rx ry ⟨i,j,e1,e2,c,q⟩=>EH pins s U H x y v u Q I rx ry ⟨i,j,e1,e2,c,q _ rfl⟩
theorem gw:gI X (binaryOp .FloorDiv) LH:=λ pins s U H x y v u Q I rx ry ⟨i,j,e1,e2,c,q⟩=>Ac pins s U H x y v u Q I rx ry ⟨i,j,e1,e2,c,q _ rfl⟩
theorem nV:gI X (binaryOp .Pow) Jt:=λ pins s U H x y v u Q I rx ry ⟨i,j,e1,e2,c,q⟩=>GR pins s U H x y v u Q I rx ry ⟨i,j,e1,e2,c,q _ rfl⟩
theorem Dv:gI X (binaryOp .LShift) LQ:=λ pins s U H x y v u Q I rx ry ⟨i,j,e1,e2,c,q⟩=>GB pins s U H x y v u Q I rx ry ⟨i,j,e1,e2,c,q _ rfl⟩
theorem xA:gI X (binaryOp .RShift) L1:=λ pins s U H x y v u Q I rx ry ⟨i,j,e1,e2,c,q⟩=>GP pins s U H x y v u Q I rx ry ⟨i,j,e1,e2,c,q _ rfl⟩
theorem Hc:gI X (binaryOp .BitOr) Ot:=λ pins s U H x y v u Q I rx ry ⟨i,j,e1,e2,q⟩=>Jc pins s U H x y v u Q I rx ry ⟨i,j,e1,e2,q _ rfl⟩
theorem j4:gI X (binaryOp .BitAnd) JL:=λ pins s U H x y v u Q I rx ry ⟨i,j,e1,e2,q⟩=>Ga pins s U H x y v u Q I rx ry ⟨i,j,e1,e2,q _ rfl⟩
theorem gT:gI X (binaryOp .Mod) rLM:=λ pins s U H x y v u Q I rx ry ⟨i,j,e1,e2,c,q⟩ =>
 HC pins s U H x y v u Q I rx ry ⟨i,j,e1,e2,c,q _ (afe _ (by lia)) (aeX _ c) rfl⟩
theorem mn:gS X (.builtin "abs") (λ xs H Q=>∃ i,xs=[.int i]/\∀ r:Int,r=i.natAbs->Q (.int r) H) :=
 λ pins s U H xs us Q I r ⟨i,e,q⟩=>zN pins s U H xs us Q I r ⟨i,e,q _ (by split<;>lia)⟩
theorem bJ:gS X (.builtin "len") (λ xs H Q=>∃ p ys,xs=[.ref p]/\(aV X.K H p ys∨bU X.K H p ys)/\∀ r:Int,r=ys.length->Q (.int r) H) :=
 λ pins s U H xs us Q I r ⟨p,ys,e,hq,q⟩=>rL pins s U H xs us Q I r ⟨p,ys,e,hq,q _ rfl⟩
def YJ (t:TS):TS:=λ D U H=>∃ P:St->Hp->Prop,t { D with nx:=P } U H/\∀ σ' H',P σ' H'->D.nx σ' H'
theorem mv {st:Stmt} {t:TS} (h:PS X st t):PS X st (YJ t):=by
 intro pins s U H D I hw
 obtain ⟨P,h1,h2⟩:=hw
 refine cx (h pins s U H { D with nx:=P } I h1) λ f s1 q=>?_
 cases f with
 | next =>
   obtain ⟨σ',H',I',q⟩:=q
   exact ⟨σ',H',I',h2 σ' H' q⟩
 | ret v=>exact q
 | brk=>exact q
 | cont=>exact q
end
theorem nJ {c A B:Prop} [Decidable c] (hc:c) (h:A):if decide c=true then A else B:=by
 rw [ac7 hc];exact jy h
theorem mw {c A B:Prop} [Decidable c] (hc:¬ c) (h:B):if decide c=true then A else B:=by
 rw [ab2 hc];exact gz h
theorem jm {c A B:Prop} [Decidable c] (h1:c->A) (h2:¬ c->B):if decide c=true then A else B:=by
 by_cases h:c
 . exact nJ h (h1 h)
 . exact mw h (h2 h)
theorem Cj {c A B:Prop} [Decidable c] (h1:¬ c->A) (h2:c->B):if (!decide c)=true then A else B:=by
 by_cases h:c
 . exact ff h (h2 h)
 . rw [ab2 h];exact jy (h1 h)
theorem zY {c A B:Prop} [Decidable c] (hc:¬ c) (h:A):if (!decide c)=true then A else B:=by
 rw [ab2 hc];exact jy h
theorem blT {c:Prop} [Decidable c] (h:c) {Q:VK} (q:Q (.bl true) H):Q (.bl (decide c)) H:=by rw [ac7 h];exact q
theorem ft {a b:Int}:V.int a=V.int b↔a=b:=⟨λ e=>by cases e;rfl,λ e=>by rw [e]⟩
theorem ai {p:Addr} (h:H p=none):aA H (upd H p o):=λ b u e=>by rw [av (aq e h)];exact e
theorem aA.tup {K:W.Frag} {a:Addr} (e:aA H H') (h:bU K H a xs):bU K H' a xs:=by
 rcases h with (h|⟨o,h⟩)|h
 . exact .inl (.inl (e _ _ h))
 . exact .inl (.inr ⟨o,e _ _ h⟩)
 . exact .inr h
theorem o6 {n:Nat} {x:Int} (h:x.natAbs<2 ^ n:=by decide):Bd n x:=h
theorem TB {x:Int} (n:Nat) (lo : -(2 ^ 100)<x) (hi:x<2 ^ 100) (h:100<=n:=by decide):Bd n x:=by
 have:Bd 100 x:=by unfold Bd;lia
 exact this.mono h
theorem rR (K:W.Frag):W.kitOne K (.type "int") (.type "bool")=some false:=by
 show (if W.kitMeta "bool" = true then ((PySem.fastBuiltinMro "int").map (·.contains (Value.type "bool"))) else none)=some false
 decide +kernel
theorem zB {x y:V}:[x,y].length<=sizeLine:=by show 2<=sizeLine;decide
theorem Ih {x y z:V}:[x,y,z].length<=sizeLine:=by show 3<=sizeLine;decide
inductive Gn  (vs:List V) (H:Hp) (Q:VK) (_E:XK):Prop
 | mk (a b:Int) (_:vs=[.int a,.int b]) (_:∀ r:Int,r=((Int.gcd a b:Nat):Int)->Q (.int r) H)
inductive uT  (vs:List V) (H:Hp) (Q:VK) (_E:XK):Prop
 | mk (t b:Int) (_:vs=[.int t,.int b]) (_:b≠0) (_:Bd 4000 b) (_:∀ q r p H',Fr t b q r->aA H H'->H' p=some (.tup [.int q,.int r])->Q (.ref p) H')
inductive vC (f:Int->Int->Int->Int->Int) (K:W.Frag) (vs:List V) (H:Hp) (Q:VK) (_E:XK):Prop
 | mk (p1 p2 a b c d:_) (_:vs=[.ref p1,.ref p2]) (_:bU K H p1 [.int a,.int b]) (_:bU K H p2 [.int c,.int d]) (_:0<b) (_:0<d) (_:Bd 1000 a) (_:Bd 1000 b) (_:Bd 1000 c) (_:Bd 1000 d) (_:∀ q r p H',Fr (f a b c d) (b * d) q r->aA H H'->H' p=some (.tup [.int q,.int r])->Q (.ref p) H')
inductive BX (K:W.Frag) (vs:List V) (H:Hp) (Q:VK) (_E:XK):Prop
 | mk (p1 p2 a b c d:_) (_:vs=[.ref p1,.ref p2]) (_:bU K H p1 [.int a,.int b]) (_:bU K H p2 [.int c,.int d]) (_:Bd 1000 a) (_:Bd 1000 b) (_:Bd 1000 c) (_:Bd 1000 d) (_:Q (.bl (decide (a * d<c * b))) H)
inductive wU (K:W.Frag) (vs:List V) (H:Hp) (Q:VK) (_E:XK):Prop
 | mk (a:Addr) (ns:List Int) (k:Int) (_:vs=[.ref a,.int k]) (_:aV K H a (ns.map V.int)) (_:0<=k) (_:∀ z,(z∈ns∨z=0)->Q (.int z) H)
inductive BE  (vs:List V) (H:Hp) (Q:VK) (_E:XK):Prop
 | mk (t b:Int) (_:vs=[.int t,.int b]) (_:0<b) (_:Bd 4000 b) (_:∀ q r p H',Fr t b q r->aA H H'->H' p=some (.tup [.int q,.int r])->Q (.ref p) H')
def bX (X:Cx) (N':List Str) (scope:Scope) (cl:List (Str×Addr)) (C:Addr) (s:Shared) (H:Hp) (ex:List Addr):Cx :=
 { X with N:=N',env:=compEnvC scope cl C X.env,s₀:=s,H₀:=H,outer:=X.stack,ex:=ex,fn:=λ _=>false,pn:=[],xe:=λ _ _=>False }
def Ft (X:Cx) (ifs:List Expr) (tt:TT):Prop :=
 ∀ (pins:List (Addr×Obj)) (s:Shared) (U:St) (H:Hp) (Q:Bool->Hp->Prop),Inv X pins U H s->tt U H Q ->
   wpAny (model X.prog X.w) X.A (forIn ifs true λ c r=>if r=true then do let ok ← isTrue c X.env (eval c X.env);pure (ForInStep.yield ok) else pure (ForInStep.yield r)) (TP X pins U Q) X.xe s
def TU:TT:=λ _ H Q=>Q true H
theorem dI {X:Cx}:Ft X [] TU:=λ _ _ _ H _ I h=>wpAny_tests_nil ⟨H,I,h⟩
theorem iL {X:Cx} {c:Expr} {tt:TT} (hc:PT X c tt):Ft X [c] tt:=λ pins s U H Q I h=>wpAny_tests_one (hc pins s U H Q I h)
def fi (env:Env):List (Str×NameKind)->List (Str×Addr)->List (Str×Addr)
 | [],acc=>acc
 | y::r,acc=>fi env r (if (y.2 == NameKind.free)=true then (y.1,(env.cells.lookup y.1).getD 0)::acc else acc)
theorem rB (env:Env):∀ (names:List (Str×NameKind)) (acc:List (Str×Addr)),(∀ y∈names,y.2 = .free->∃ c,env.cells.lookup y.1=some c) ->
   (forIn names acc λ x __s=>if (x.snd == NameKind.free)=true then do
       let __do_lift ← cellOf env x.fst
       pure (ForInStep.yield ((x.fst,__do_lift)::__s))
     else pure (ForInStep.yield __s))=(pure (fi env names acc):Sem _)
 | [],acc,_=>rfl
 | y::r,acc,h=>by
   rw [List.forIn_cons]
   by_cases hk:(y.2 == NameKind.free)=true
   .
    obtain ⟨c,e⟩:=h y acY (beq_iff_eq.mp hk)
    rw [abS hk]
    have ec:cellOf env y.1=pure c:=by unfold cellOf;rw [e]
    rw [ec]
    simp only [pure_bind]
    rw [rB env r _ λ z hz=>h z (acV _ hz)]
    simp only [fi,hk,aev,e,Option.getD_some]
   . rw [abZ hk]
     simp only [pure_bind]
     rw [rB env r _ λ z hz=>h z (acV _ hz)]
     simp only [fi,hk,aek]
     rfl
theorem Et {scope:Scope} {env:Env} (h:∀ y∈scope.names,y.2 = .free->∃ c,env.cells.lookup y.1=some c):closureFor scope env=pure (fi env scope.names []):=by
 simp only [closureFor]
 rw [rB env scope.names [] h]
 simp only [pure_bind]
theorem qw {env:Env}:∀ {names:List (Str×NameKind)} {acc:List (Str×Addr)},(∀ y∈names,y.2 = .free->∃ c,env.cells.lookup y.1=some c)->(∀ x c,acc.lookup x=some c->env.cells.lookup x=some c) ->
   ∀ x c,(fi env names acc).lookup x=some c->env.cells.lookup x=some c
 | [],_,_,ha,x,c,e=>ha x c e
 | y::r,acc,h,ha,x,c,e=>by
   refine qw (names:=r) (λ z hz=>h z (acV _ hz)) ?_ x c e
   intro x c e
   by_cases hk:(y.2 == NameKind.free)=true
   .
    rw [abS hk] at e
    obtain ⟨c',e'⟩:=h y acY (beq_iff_eq.mp hk)
    rw [e',Option.getD_some,adH] at e
    cases q:x == y.1 with
    | true=>rw [q] at e;cases e;rw [beq_iff_eq.mp q];exact e'
    | false=>rw [q] at e;exact ha x c e
   . rw [abZ hk] at e;exact ha x c e
theorem rn {env:Env}:∀ {names:List (Str×NameKind)} {acc:List (Str×Addr)} {x:Str},(∃ c,acc.lookup x=some c)->∃ c,(fi env names acc).lookup x=some c
 | [],_,_,h=>h
 | y::r,acc,x,⟨c,h⟩=>by
   refine rn (names:=r) ?_
   by_cases hk:(y.2 == NameKind.free)=true
   . rw [abS hk,adH]
     cases q:x == y.1 with
     | true=>exact ⟨_,rfl⟩
     | false=>exact ⟨c,h⟩
   . rw [abZ hk];exact ⟨c,h⟩
theorem l5 {env:Env}:∀ {names:List (Str×NameKind)} {acc:List (Str×Addr)} {y:Str×NameKind},y∈names->y.2 = .free->∃ c,(fi env names acc).lookup y.1=some c
 | z::r,acc,y,hm,hk=>by
   rcases List.mem_cons.mp hm with rfl|hm
   . refine rn (names:=r) ?_
     rw [abS (beq_iff_eq.mpr hk),adH]
     simp
   . exact l5 (names:=r) hm hk
theorem oC {scope:Scope} {env:Env} {x:Str} {k:NameKind} (h:(relabel scope env).names.lookup x=some k) (hk:k = .cell∨k = .free) (gd:∀ y∈scope.names,y.2 ≠ .cell):(x,NameKind.free)∈scope.names:=by
 have hm:=adI h
 obtain ⟨⟨n,k0⟩,h1,h2⟩:=List.mem_map.mp hm
 dsimp only at h2
 split at h2
 .
  rename_i hc
  cases h2
  have:(k0 == NameKind.free)=true:=by
    simp only [ac0] at hc
    exact hc.1.1
  rw [beq_iff_eq.mp this] at h1
  exact h1
 .
  cases h2
  rcases hk with rfl|rfl
  . exact absurd rfl (gd _ h1)
  . exact h1
theorem f9 {env:Env}:∀ {names:List (Str×NameKind)} {x:Str},names.lookup x=some .free ->
   (names.map λ (n,k)=>if (k == NameKind.free && env.scope.kind == .function && env.kindOf n == some .cell) then (n,NameKind.cell) else (n,k)).lookup x=some .cell ∨
   (names.map λ (n,k)=>if (k == NameKind.free && env.scope.kind == .function && env.kindOf n == some .cell) then (n,NameKind.cell) else (n,k)).lookup x=some .free
 | [],_,h=>by simp at h
 | (n,k)::r,x,h=>by
   have ih:=@f9 env r x
   show List.lookup x ((if (k == NameKind.free && env.scope.kind == .function && env.kindOf n == some .cell)=true then (n,NameKind.cell) else (n,k))::_)=_∨List.lookup x ((if (k == NameKind.free && env.scope.kind == .function && env.kindOf n == some .cell)=true then (n,NameKind.cell) else (n,k))::_)=_
   cases hx:x == n with
   | true =>
     simp only [adH,hx] at h
     cases h
     by_cases hc:(NameKind.free == NameKind.free && env.scope.kind == .function && env.kindOf n == some .cell)=true
     . rw [abS hc];simp [adH,hx]
     . rw [abZ hc];simp [adH,hx]
   | false =>
     simp only [adH,hx] at h
     by_cases hc:(k == NameKind.free && env.scope.kind == .function && env.kindOf n == some .cell)=true
     . rw [abS hc];simp only [adH,hx];exact ih h
     . rw [abZ hc];simp only [adH,hx];exact ih h
section
variable {prog:Program} {w:World} {A:Around} {E:Value->Shared->Prop} {R:Result->Shared->Prop} {s:Shared}
theorem vx {target:Expr} {scope:Scope} {pos:Pos} {it acc:Value} {env:Env} (I:Nat->Shared->Prop) (turn:∀ n s,I n s->wpAny (model prog w) A (pyNext it) (λ r s₁=>match r with
     | none=>R (.ok .next) s₁
     | some v=>wpAny (model prog w) A (letOwnedTupleGo target it v) (λ _ s₁=>wpAny (model prog w) A (assign target env v) (λ _ s₂ =>
         wpAny (model prog w) A (forIn ifs true λ c r=>if r=true then do let ok ← isTrue c env (eval c env);pure (ForInStep.yield ok) else pure (ForInStep.yield r)) (λ ok s₃ =>
           if ok=true then wpAny (model prog w) A (eval elt env) (λ x s₄ =>
             wpAny (model prog w) A (call (.builtin "list.append") [acc,x]) (λ _ s₅=>∃ m,m<n/\I m s₅) (notedBy (model prog w) A env λ e s'=>R (.error e) s') s₄) (notedBy (model prog w) A env λ e s'=>R (.error e) s') s₃
           else ∃ m,m<n/\I m s₃) (notedBy (model prog w) A env λ e s'=>R (.error e) s') s₂) (notedBy (model prog w) A env λ e s'=>R (.error e) s') s₁) (notedBy (model prog w) A env λ e s'=>R (.error e) s') s₁) (notedBy (model prog w) A env λ e s'=>R (.error e) s') s) (n:Nat) (h:I n s) :
   codeAny (model prog w) A (.compLoop (.ListComp elt [⟨target,iter,ifs,0⟩] scope pos) 0 it acc env) R s:=by
 refine codeAny_loop rfl I (λ n s hI=>?_) n h
 show wpAny _ A ((compTurn (.ListComp elt [⟨target,iter,ifs,0⟩] scope pos) 0 it acc env).onRaise (λ x=>do noteFrame x env;theTreesLotGoes x)) _ _ s
 refine wpAny_noted ?_
 rw [compTurn_list]
 refine abn (wpAny_standAt (abn (adF (turn n s hI) (λ r s₁ h₁=>?_) λ _ _ h'=>h')))
 cases r with
 | none=>exact ac9 h₁
 | some v =>
   refine abn (adF h₁ (λ _ s₁' h₁'=>?_) λ _ _ h'=>h')
   refine abn (adF h₁' (λ _ s₂ h₂=>abn (adF h₂ (λ ok s₃ h₃=>?_) λ _ _ h'=>h')) λ _ _ h'=>h')
   cases ok with
   | false=>exact ac9 ⟨rfl,h₃⟩
   | true =>
     exact abn (abn (adF h₃ (λ x s₄ h₄=>abn (adF h₄ (λ _ s₅ h₅=>ac9 (ac9 ⟨rfl,h₅⟩)) λ _ _ h'=>h')) λ _ _ h'=>h'))
end
section
variable {X:Cx}
def u0 (wi:TI) (g:TG) (tt:TT) (te:TE) (nt:Nat) (sl:List Nat):TE:=λ U H Q=>wi U H λ J H1=>∀ D,H1 D=none ->
 ∃ W:Nat->Nat->List V->St->Hp->Prop,(∃ m,W 0 m [] (List.replicate nt none++sl.map λ j=>(U[j]?).join) (upd H1 D (.lst []))) /\
   ∀ i m acc σ' H',W i m acc σ' H' ->
     (J.stop i H'/\Q (.ref D) H') ∨
     (J.go i H'/\∃ N:List V->St->Hp->Prop,(∀ gL σ2 H4,N gL σ2 H4->∃ m',m'<m/\W (i+1) m' gL σ2 H4)/\∀ x H2,J.BK i H' x H2->g x σ' H2 λ σ2 H3=>tt σ2 H3 λ b H4 =>
       if b=true then te σ2 H4 λ y H5=>H5 D=some (.lst acc)/\acc.length<sizeLine/\N (acc++[y]) σ2 (upd H5 D (.lst (acc++[y])))
       else N acc σ2 H4)
theorem qE {scope:Scope} {pos:Pos} {wi:TI} {tt:TT} {N':List Str} {sl:List Nat} (hc:X.calm=true) (hi:PI X tg iter wi) (hg:∀ cl C s H ex,PG (bX X N' scope cl C s H ex) tg g) (ht:∀ cl C s H ex,Ft (bX X N' scope cl C s H ex) ifs tt) (he:∀ cl C s H ex,PE (bX X N' scope cl C s H ex) elt te) (K7:N'.length=nt+sl.length) (Jo:∀ k j:Nat,sl[k]?=some j->∃ x,N'[nt+k]?=some x/\X.N[j]?=some x/\scope.names.lookup x=some .free) (hk:scope.kind = .function) (gd:∀ y∈scope.names,y.2 ≠ .cell) (iW:∀ y∈scope.names,y.2 = .local->scope.names.lookup y.1=some .local) (iD:∀ y∈scope.names,y.2 = .free->X.env.kindOf y.1=some .cell∨X.env.kindOf y.1=some .free) (hs:∀ x,foldedSetIterable iter X.env x=pure x) {use:Option (Value->Sem Unit)} {Qp:Value->Shared->Prop} {pins:List (Addr×Obj)} {s:Shared} {Q:V->Hp->Prop} {pos':Pos} (I:Inv X pins U H s) (h:u0 wi g tt te nt sl U H Q) (fin:∀ (s6:Shared) (H5:Hp) (d c:Addr) m,Inv X pins U H5 s6->qf X pins H5 c->s6.heap.Ns c m->Q (.ref d) H5->compPost (model X.prog X.w) X.A X.xe use Qp (.ref d) c (.ok .next) s6) :
   wpAny (model X.prog X.w) X.A (comprehension (.ListComp elt [⟨tg,iter,ifs,0⟩] scope pos) scope X.env pos' (newList []) false (eval iter X.env) use) Qp X.xe s:=by
 have hcl:∀ y∈scope.names,y.2 = .free->∃ c,X.env.cells.lookup y.1=some c:=λ y hy hf=>I.ok.has y.1 (iD y hy hf)
 have vv:=qw (env:=X.env) (names:=scope.names) (acc:=[]) hcl (λ x c e=>by simp at e)
 refine wpAny_comprehension_free (use:=use) (cl:=fi X.env scope.names []) rfl hs (Et hcl) hk iW (cx (hi pins s U H _ I h) λ v s1 h1=>cx h1 λ VF s2 h2=>?_)
 obtain ⟨it,fp,tn,J,H2,rfl,I2,T,MV,f2,q⟩:=h2
 have nD:H2 s2.heap.objs.size=none:=I2.cq.fresh (aaT _)
 obtain ⟨W,⟨m0,w0⟩,turn⟩:=q s2.heap.objs.size nD
 refine afi ?_ (by show 0<=sizeLine;exact adm _)
 have I3:Inv X pins U (upd H2 s2.heap.objs.size (.lst [])) { s2 with heap:=s2.heap.push { cls:=.type "list",data:=.seq ([]:List Value).toArray }} :=
   I2.laid (t':=s2.toks) (λ b u e=>aa4 _ e) (aaT _) ⟨adm _,[],0,.nil,ac6 _ rfl⟩
 generalize M7:({ s2 with heap:=s2.heap.push { cls:=.type "list",data:=.seq ([]:List Value).toArray }}:Shared)=s3 at I3 ⊢
 have hle:s2.heap.objs.size<=s3.heap.objs.size:=by rw [← M7];show _<=(Heap.push _ _).objs.size;rw [ae2];exact ad9 _
 have D3:∀ b o,s2.heap.get? b=some o->s3.heap.get? b=some o:=λ b o e=>by rw [← M7];exact aa4 _ e
 refine wpAny_newFunctionEnv gd (by intro y hy;simp at hy) (λ h₁ MP hsb=>?_) hk
 have ue:∀ b o,s3.heap.get? b=some o->h₁.get? b=some o:=λ b o e=>hsb.extBut b o (acW (act e)) (aa4 _ e)
 have nC:(upd H2 s2.heap.objs.size (.lst [])) s3.heap.objs.size=none:=I3.cq.fresh (aaT _)
 have frC:s3.heap.get? s3.heap.objs.size=none:=Heap.get?_none_of_le (aaT _)
 have JX:∀ b∈fp,b<s2.heap.objs.size:=λ b hb=>by
   obtain ⟨o,e,_⟩:=T.obj _ _ MV b hb
   exact act e
 have fpC:∀ b∈fp,b≠s3.heap.objs.size:=λ b hb=>acW (ab4 (JX b hb) hle)
 have fpD:∀ b∈fp,b≠s2.heap.objs.size:=λ b hb=>acW (JX b hb)
 have fpS:∀ b∈fp,b∉zH X.stack:=λ b hb hm=>by
   rcases List.mem_cons.mp (I2.wJ b hm) with z|z
   . exact (f2 b hb).2.1 z
   . exact (f2 b hb).2.2.1 z
 have ad2:∀ x c,(fi X.env scope.names []).lookup x=some c->X.env.cells.lookup x=some c:=vv
 have sD:∀ b∈fp,(b∈X.ex∨X.s₀.heap.objs.size<=b)/\b≠X.env.locals/\(∀ x c,X.env.cells.lookup x=some c->c≠b)/\∀ p∈X.pn++pins,p.1≠b:=λ b hb =>
   ⟨(f2 b hb).2.2.2.1,(f2 b hb).2.1,(f2 b hb).2.2.2.2.1,(f2 b hb).2.2.2.2.2⟩
 have fX:(bX X N' scope (fi X.env scope.names []) s3.heap.objs.size s3 (upd H2 s2.heap.objs.size (.lst [])) fp).Ok:=by
   refine ⟨I3.ok.mod,hk,I3.ok.glob,I3.ok.blt,aaT _,λ x y c h1 h2=>I3.ok.inj x y c (vv x c h1) (vv y c h2),λ x hx=>?_,(λ x c hf=>nomatch hf),I3.ok.hd,I3.ok.frames,.inl rfl,λ b hb=>⟨fpC b hb,λ x c e=>(sD b hb).2.2.1 x c (vv x c e)⟩,
     I3.bs,adf I3.ok.FE I3.sz,λ b o e hb=>?_,fpS,I3.stack,I3.yg⟩
   . have hm:(x,NameKind.free)∈scope.names:=by
       rcases hx with hx|hx
       . exact oC hx (.inl rfl) gd
       . exact oC hx (.inr rfl) gd
     exact l5 hm rfl
   . rcases (sD b hb).1 with z|z
     . exact I3.ok.BC b o e z
     . exact absurd (ab4 (act (I3.ok.bs b o e).1) z) (adM _)
 have I4:Inv (bX X N' scope (fi X.env scope.names []) s3.heap.objs.size s3 (upd H2 s2.heap.objs.size (.lst [])) fp) [] (List.replicate nt none++sl.map λ j=>(U[j]?).join) (upd H2 s2.heap.objs.size (.lst []))
     { s3 with heap:=h₁,toks:=s3.toks+([]:List (Str×Value)).length }:=by
   refine ⟨fX,rfl,I3.bare,Un.kept ue,⟨_,MP,λ i x v e1 e2 e3=>?_⟩,λ x c e=>?_,nC,λ x c e=>I3.kn x c (vv x c e),λ p hp=>absurd hp (by simp [bX]),I3.cq.kept ue,?_⟩
   .
    by_cases hi:i<nt
    . rw [acZ (by simpa using hi),aex] at e2
      split at e2<;>cases e2
    .
     rw [ade (by simpa using hi),adN,Jl] at e2
     cases ej:sl[i - nt]? with
     | none=>rw [ej] at e2;cases e2
     | some j =>
       rw [ej] at e2
       have Iw:(U[j]?).join=some v:=aba e2
       have eσ:U[j]?=some (some v):=by
         cases q:U[j]? with
         | none=>rw [q] at Iw;cases Iw
         | some o=>rw [q] at Iw;cases Iw;rfl
       obtain ⟨y,n1,n2,n3⟩:=Jo _ j ej
       have:nt+(i - nt)=i:=by lia
       rw [this] at n1
       have VC:y=x:=aba (n1.symm.trans e1)
       subst VC
       have hm:(y,NameKind.free)∈scope.names:=adI n3
       have hkx:=iD _ hm rfl
       obtain ⟨m,hn,hl⟩:=I3.loc
       have vis:MU X.env.scope y:=by
         rcases hkx with z|z
         . exact .inr (.inl z)
         . exact .inr (.inr z)
       obtain ⟨u,r,l⟩:=hl j y v n2 eσ vis
       refine ⟨u,r,.inr ⟨f9 n3,?_⟩⟩
       obtain ⟨c,ec⟩:=l5 (env:=X.env) (acc:=[]) hm rfl
       refine ⟨c,ec,?_⟩
       rcases l with ⟨k1,_⟩|⟨_,c',e',HD⟩
       . rcases hkx with z|z
         . rw [show X.env.kindOf y=some .local from k1] at z;cases z
         . rw [show X.env.kindOf y=some .local from k1] at z;cases z
       . have ecc:c=c':=aba ((vv y c ec).symm.trans e')
         subst ecc
         obtain ⟨o,ho,hd⟩:=HD
         exact ⟨o,ue c o ho,hd⟩
   . obtain ⟨v,o,ho,hd⟩:=I3.cell x c (vv x c e)
     exact ⟨v,o,ue c o ho,hd⟩
   . show _=N'.length
     rw [K7,aaD,adN,xq]
 have st4:tn 0 h₁:=T.keep _ _ _ MV λ b hb o e=>ue b o (D3 b o e)
 have Gv:∀ {pl:List (Addr×Obj)} {H':Hp},pl=[]->(∀ b∈fp,H' b=none)->∀ b∈fp,qf (bX X N' scope (fi X.env scope.names []) s3.heap.objs.size s3 (upd H2 s2.heap.objs.size (.lst [])) fp) pl H' b:=λ {pl H'} kJ hn b hb=>by
   subst kJ
   exact ⟨hn b hb,fpC b hb,fpS b hb,.inl hb,λ x c e=>(sD b hb).2.2.1 x c (vv x c e),λ p hp=>absurd hp (by simp [bX])⟩
 have fr4:∀ b∈fp,(upd H2 s2.heap.objs.size (.lst [])) b=none:=λ b hb=>by rw [av (fpD b hb)];exact (f2 b hb).1
 have loop:codeAny (model X.prog X.w) X.A (.compLoop (.ListComp elt [⟨tg,iter,ifs,0⟩] scope pos) 0 (.ref it) (.ref s2.heap.objs.size) (compEnvC scope (fi X.env scope.names []) s3.heap.objs.size X.env))
     (compPost (model X.prog X.w) X.A X.xe use Qp (.ref s2.heap.objs.size) s3.heap.objs.size) { s3 with heap:=h₁,toks:=s3.toks+([]:List (Str×Value)).length }:=by
   refine vx (λ n s'=>∃ i acc σ' H',Inv (bX X N' scope (fi X.env scope.names []) s3.heap.objs.size s3 (upd H2 s2.heap.objs.size (.lst [])) fp) [] σ' H' s'/\tn i s'.heap/\(∀ b∈fp,H' b=none)/\W i n acc σ' H') ?_ m0 ⟨0,[],_,_,I4,st4,fr4,w0⟩
   rintro n s5 ⟨i,acc,σ5,H5,I5,Iv,Nh,w5⟩
   rcases turn i n acc σ5 H5 w5 with ⟨stop,qn⟩|⟨go,N,hN,step⟩
   . refine cx (T.done (bX X N' scope (fi X.env scope.names []) s3.heap.objs.size s3 (upd H2 s2.heap.objs.size (.lst [])) fp) rfl rfl rfl hc i [] s5 σ5 H5 _ I5 (Gv rfl Nh) Iv stop) λ r s6 ⟨hr,I6⟩=>?_
     subst hr
     obtain ⟨m,hn,_⟩:=id I6.loc
     exact fin s6 H5 _ _ m (I3.LY (s':=s6) I6.os I6.base I6.cq I6.bare sD) (I3.uO (aaT _) I6.free) hn qn
   .
    refine cx (T.item (bX X N' scope (fi X.env scope.names []) s3.heap.objs.size s3 (upd H2 s2.heap.objs.size (.lst [])) fp) rfl rfl rfl hc i [] s5 σ5 H5 _ I5 (Gv rfl Nh) Iv go) λ r s6 ⟨u,hr,h6⟩=>?_
    subst hr
    refine cx h6 λ _ s7 ⟨x,H7,I7,r7,y7,st7,fr7⟩=>?_
    have I7':=I7.pinned (Gv rfl fr7) (T.obj _ _ st7)
    have again:∀ {s8:Shared} {σ8:St} {H8:Hp} {gL:List V},Inv (bX X N' scope (fi X.env scope.names []) s3.heap.objs.size s3 (upd H2 s2.heap.objs.size (.lst [])) fp) ([]++oJ fp s7.heap) σ8 H8 s8->(∃ m',m'<n/\W (i+1) m' gL σ8 H8) ->
        ∃ m,m<n/\∃ i acc σ' H',Inv (bX X N' scope (fi X.env scope.names []) s3.heap.objs.size s3 (upd H2 s2.heap.objs.size (.lst [])) fp) [] σ' H' s8/\tn i s8.heap/\(∀ b∈fp,H' b=none)/\W i m acc σ' H':=λ {s8 σ8 H8 gL} I8 ⟨m',hm,w8⟩=>by
      refine ⟨m',hm,i+1,gL,σ8,H8,I8.lL,T.keep _ _ _ st7 λ b hb o e=>(I8.pin (b,o) (adk _ (adk _ (jb hb e)))).1,λ b hb=>?_,w8⟩
      obtain ⟨o,e,d⟩:=T.obj _ _ st7 b hb
      exact (I8.pin (b,o) (adk _ (adk _ (jb hb e)))).2.1
    refine adF (hg _ _ _ _ _ _ s7 σ5 H7 x u _ I7' r7 (step x H7 y7)) (λ _ s8 ⟨σ8,H8,I8,q8⟩=>?_) λ _ _ z=>False.elim z
    refine adF (ht _ _ _ _ _ _ s8 σ8 H8 _ I8 q8) (λ ok s9 ⟨H9,I9,q9⟩=>?_) λ _ _ z=>False.elim z
    cases ok with
    | false =>
      rw [abZ acT] at q9 ⊢
      exact again I9 (hN _ _ _ q9)
    | true =>
      rw [abS rfl] at q9 ⊢
      refine adF (he _ _ _ _ _ _ s9 σ8 H9 _ I9 q9) (λ y Ho ⟨yv,MD,I10,QQ,hD,hz,q10⟩=>?_) λ _ _ z=>False.elim z
      refine adF (cH (X:=(bX X N' scope (fi X.env scope.names []) s3.heap.objs.size s3 (upd H2 s2.heap.objs.size (.lst [])) fp)) _ Ho σ8 MD (.ref s2.heap.objs.size) [yv] (.ref s2.heap.objs.size) [y] (λ _ H11=>N (acc++[yv]) σ8 H11) I10 rfl (.cons QQ .nil) ⟨_,acc,yv,rfl,rfl,hD,hz,q10⟩) (λ _ s11 ⟨v11,H11,I11,r11,q11⟩=>?_) λ _ _ z=>False.elim z
      exact again I11 (hN _ _ _ q11)
 exact codeAny_compStart_list loop (T.self _ 0 _ _ _ st4 loop)
theorem E6 {scope:Scope} {pos:Pos} {wi:TI} {tt:TT} {N':List Str} {sl:List Nat} (hc:X.calm=true) (hi:PI X tg iter wi) (hg:∀ cl C s H ex,PG (bX X N' scope cl C s H ex) tg g) (ht:∀ cl C s H ex,Ft (bX X N' scope cl C s H ex) ifs tt) (he:∀ cl C s H ex,PE (bX X N' scope cl C s H ex) elt te) (K7:N'.length=nt+sl.length) (Jo:∀ k j:Nat,sl[k]?=some j->∃ x,N'[nt+k]?=some x/\X.N[j]?=some x/\scope.names.lookup x=some .free) (hk:scope.kind = .function) (gd:∀ y∈scope.names,y.2 ≠ .cell) (iW:∀ y∈scope.names,y.2 = .local->scope.names.lookup y.1=some .local) (iD:∀ y∈scope.names,y.2 = .free->X.env.kindOf y.1=some .cell∨X.env.kindOf y.1=some .free) (hs:∀ x,foldedSetIterable iter X.env x=pure x:=by intro _;rfl) :
   PE X (.ListComp elt [⟨tg,iter,ifs,0⟩] scope pos) (u0 wi g tt te nt sl):=by
 intro pins s U H Q I h
 rw [eval_ListComp]
 exact qE hc hi hg ht he K7 Jo hk gd iW iD hs I h λ s6 H5 d c m J F hn q=>⟨m,hn,λ h' sb=>⟨.ref d,H5,J.turned (t':=s6.toks) (λ b _ hb q=>(sb.2 b hb).trans q) F.1 F.2.1 F.2.2.2.1 F.2.2.2.2.1 F.2.2.2.2.2,rfl,q⟩⟩
theorem hX {scope:Scope} {pos:Pos} {wi:TI} {tt:TT} (tn fr:List Str) (sl:List Nat) (hp:Paired (λ (j:Nat) (x:Str)=>X.N[j]?=some x/\scope.names.lookup x=some .free/\(X.env.kindOf x=some .cell∨X.env.kindOf x=some .free)) sl fr) (hc:X.calm=true) (hi:PI X tg iter wi) (hg:∀ cl C s H ex,PG (bX X (tn++fr) scope cl C s H ex) tg g) (ht:∀ cl C s H ex,Ft (bX X (tn++fr) scope cl C s H ex) ifs tt) (he:∀ cl C s H ex,PE (bX X (tn++fr) scope cl C s H ex) elt te) (hk:scope.kind = .function) (gd:∀ y∈scope.names,y.2 ≠ .cell) (iW:∀ y∈scope.names,y.2 = .local->scope.names.lookup y.1=some .local) (iD:∀ y∈scope.names,y.2 = .free->y.1∈fr) (hs:∀ x,foldedSetIterable iter X.env x=pure x:=by intro _;rfl) :
   PE X (.ListComp elt [⟨tg,iter,ifs,0⟩] scope pos) (u0 wi g tt te tn.length sl):=by
 have key:∀ {sl:List Nat} {fr:List Str},Paired (λ (j:Nat) (x:Str)=>X.N[j]?=some x/\scope.names.lookup x=some .free/\(X.env.kindOf x=some .cell∨X.env.kindOf x=some .free)) sl fr ->
     (∀ k j:Nat,sl[k]?=some j->∃ x,fr[k]?=some x/\X.N[j]?=some x/\scope.names.lookup x=some .free)/\∀ x∈fr,X.env.kindOf x=some .cell∨X.env.kindOf x=some .free:=by
   intro sl fr hp
   induction hp with
   | nil=>exact ⟨λ k j h=>by simp at h,λ x hx=>by simp at hx⟩
   | cons r t ih =>
     refine ⟨λ k j h=>?_,λ x hx=>?_⟩
     . cases k with
       | zero =>
         have e:_=j:=aba h
         subst e
         exact ⟨_,rfl,r.1,r.2.1⟩
       | succ k=>exact ih.1 k j (by simpa using h)
     . rcases List.mem_cons.mp hx with z|z
       . rw [z];exact r.2.2
       . exact ih.2 x z
 refine E6 (N':=tn++fr) hc hi hg ht he (by rw [aaD,hp.length]) (λ k j h=>?_) hk gd iW (λ y hy hf=>(key hp).2 _ (iD y hy hf)) hs
 obtain ⟨x,e1,e2⟩:=(key hp).1 k j h
 exact ⟨x,by rw [ade (adZ _ _),afs];exact e1,e2⟩
end
theorem dM {lo:Int} {n:Nat} {tt:TT} {D:Addr} {Q:Hp->Prop} (Pv:Nat->List V->St->Hp->Prop) (h0:Pv 0 [] U H) (hs:∀ i acc U H,i<n->Pv i acc U H->g (.int (lo+i)) U H λ σ2 H3=>tt σ2 H3 λ b H4 =>
     if b=true then te σ2 H4 λ y H5=>H5 D=some (.lst acc)/\acc.length<sizeLine/\Pv (i+1) (acc++[y]) σ2 (upd H5 D (.lst (acc++[y]))) else Pv (i+1) acc σ2 H4) (hd:∀ acc U H,Pv n acc U H->Q H) :
   ∃ W:Nat->Nat->List V->St->Hp->Prop,(∃ m,W 0 m [] U H)/\∀ i m acc σ' H',W i m acc σ' H'->((zJ lo n).stop i H'/\Q H') ∨
     ((zJ lo n).go i H'/\∃ N:List V->St->Hp->Prop,(∀ gL σ2 H4,N gL σ2 H4->∃ m',m'<m/\W (i+1) m' gL σ2 H4)/\∀ x H2,(zJ lo n).BK i H' x H2->g x σ' H2 λ σ2 H3=>tt σ2 H3 λ b H4 =>
       if b=true then te σ2 H4 λ y H5=>H5 D=some (.lst acc)/\acc.length<sizeLine/\N (acc++[y]) σ2 (upd H5 D (.lst (acc++[y]))) else N acc σ2 H4):=by
 refine ⟨λ i m acc U H=>m=n - i/\i<=n/\Pv i acc U H,⟨n,by simp,adm _,h0⟩,?_⟩
 rintro i m acc U H ⟨rfl,hi,p⟩
 by_cases mP:i<n
 .
  refine .inr ⟨mP,Pv (i+1),λ gL σ' H' p'=>⟨n - (i+1),by lia,rfl,mP,p'⟩,λ x H' y=>?_⟩
  obtain ⟨e,y⟩:=y
  subst e y
  exact hs i acc U _ mP p
 . have e:i=n:=by lia
   subst e
   exact .inl ⟨aaT _,hd acc U H p⟩
theorem fj {K:W.Frag} {a:Addr} {tt:TT} {D:Addr} {Q:Hp->Prop} (Pv:Nat->List V->St->Hp->Prop) (h0:Pv 0 [] U H) (hl:∀ i acc U H,i<=xs.length->Pv i acc U H->aV K H a xs) (hs:∀ i x acc U H,xs[i]?=some x->Pv i acc U H->g x U H λ σ2 H3=>tt σ2 H3 λ b H4 =>
     if b=true then te σ2 H4 λ y H5=>H5 D=some (.lst acc)/\acc.length<sizeLine/\Pv (i+1) (acc++[y]) σ2 (upd H5 D (.lst (acc++[y]))) else Pv (i+1) acc σ2 H4) (hd:∀ acc U H,Pv xs.length acc U H->Q H) :
   ∃ W:Nat->Nat->List V->St->Hp->Prop,(∃ m,W 0 m [] U H)/\∀ i m acc σ' H',W i m acc σ' H'->((Az K a).stop i H'/\Q H') ∨
     ((Az K a).go i H'/\∃ N:List V->St->Hp->Prop,(∀ gL σ2 H4,N gL σ2 H4->∃ m',m'<m/\W (i+1) m' gL σ2 H4)/\∀ x H2,(Az K a).BK i H' x H2->g x σ' H2 λ σ2 H3=>tt σ2 H3 λ b H4 =>
       if b=true then te σ2 H4 λ y H5=>H5 D=some (.lst acc)/\acc.length<sizeLine/\N (acc++[y]) σ2 (upd H5 D (.lst (acc++[y]))) else N acc σ2 H4):=by
 refine ⟨λ i m acc U H=>m=xs.length - i/\i<=xs.length/\Pv i acc U H,⟨xs.length,by simp,adm _,h0⟩,?_⟩
 rintro i m acc U H ⟨rfl,hi,p⟩
 have q:=hl i acc U H hi p
 by_cases mP:i<xs.length
 .
  refine .inr ⟨⟨xs,xs[i],q,by simp [mP]⟩,Pv (i+1),λ gL σ' H' p'=>⟨xs.length - (i+1),by lia,rfl,mP,p'⟩,λ x H' y=>?_⟩
  obtain ⟨e,y⟩:=y
  subst e
  exact hs i x acc U _ (y xs q) p
 . have e:i=xs.length:=by lia
   subst e
   exact .inl ⟨⟨xs,q,aaT _⟩,hd acc U H p⟩
section
variable {X:Cx}
inductive EK  (x:V) (vs:List V) (H:Hp) (Q:VK):Prop
 | mk (i:Int) (_:x = .int i) (_:vs=[]) (_:∀ b:Int,b=((Builtin.Int.intBits i:Nat):Int)->Q (.int b) H)
theorem zy:Ss X "int.bit_length" EK:=by
 intro pins s U H x vs v us Q I rx rv h
 obtain ⟨i,rfl,rfl,q⟩:=h
 obtain ⟨t,rfl⟩:=rx
 obtain rfl:=Vals.zero rv
 exact call_int_bit_length ⟨.int _,H,I.tok _,⟨_,rfl⟩,q _ rfl⟩
theorem yT (a b:Nat):Builtin.bitOr (a:Int) (b:Int)=((a ||| b:Nat):Int):=by
 have d1:decide (0<=Builtin.bitNot (a:Int))=false:=ab2 (by unfold Builtin.bitNot;lia)
 have d2:decide (0<=Builtin.bitNot (b:Int))=false:=ab2 (by unfold Builtin.bitNot;lia)
 have n1:(Builtin.bitNot (Builtin.bitNot (a:Int))).toNat=a:=by unfold Builtin.bitNot;lia
 have n2:(Builtin.bitNot (Builtin.bitNot (b:Int))).toNat=b:=by unfold Builtin.bitNot;lia
 unfold Builtin.bitOr Builtin.bitAnd
 rw [d1,d2]
 dsimp only
 rw [n1,n2]
 unfold Builtin.bitNot
 lia
theorem kF (a b:Nat):Builtin.bitAnd (a:Int) (b:Int)=((a &&& b:Nat):Int):=by simp [Builtin.bitAnd]
end
def ar (k:Nat):V:=.int (k:Int)
inductive uL  (vs:List V) (H:Hp) (Q:VK) (_E:XK):Prop
 | mk (n r:Nat) (_:vs=[ar n,ar r]) (_:Q (.bl (n.testBit r)) H)
inductive sS  (vs:List V) (H:Hp) (Q:VK) (_E:XK):Prop
 | mk (n r:Nat) (_:vs=[ar n,ar r]) (_:r<=1000) (_:Q (ar (n ||| 2 ^ r)) H)
inductive wg  (vs:List V) (H:Hp) (Q:VK) (_E:XK):Prop
 | mk (n:Nat) (_:vs=[ar n]) (_:n<2 ^ 61) (_:∀ p H',H p=none->aA H H'->H' p=some (.lst ((Bit.rooms n).map ar))->Q (.ref p) H')
inductive vJ  (vs:List V) (H:Hp) (Q:VK) (_E:XK):Prop
 | mk (n:Nat) (_:vs=[ar n]) (_:n<2 ^ 61) (_:(Bit.rooms n).length<=8) (_:∀ p H',H p=none->aA H H'->H' p=some (.lst ((Bit.parts (Bit.rooms n)).map ar))->Q (.ref p) H')
theorem qT (n:Nat):(Bit.rooms n).length<=61:=by
 have:=adq n.testBit (List.range 61)
 rw [acD] at this
 exact this
theorem DN (n r:Nat) {s m:Int} (es:s=(n:Int) / 2 ^ ((r:Int)).toNat) (em:m=s % 2):decide (V.int m=V.int 1)=n.testBit r:=by
 rw [Nat.testBit_eq_decide_div_mod_eq]
 have e1:s=((n / 2 ^ r:Nat):Int):=by
   rw [es,adB]
   have:((2:Int) ^ r)=((2 ^ r:Nat):Int):=by rw [Int.natCast_pow];rfl
   rw [this,← Int.natCast_ediv]
 have e2:m=((n / 2 ^ r % 2:Nat):Int):=by rw [em,e1];exact (Int.natCast_emod _ _).symm
 have e3:(V.int m=V.int 1)↔(n / 2 ^ r % 2=1):=by rw [ft,e2];lia
 exact decide_eq_decide.mpr e3
theorem vZ (l:List Nat) (r:Nat):Bit.parts (l++[r])=Bit.parts l++(Bit.parts l).map (· ||| 2 ^ r):=by
 unfold Bit.parts;rw [adw];rfl
theorem EV (n i:Nat):Bit.Ok (Bit.parts ((Bit.rooms n).take i)) ((Bit.rooms n).take i):=by
 have:=Bit.xU ((Bit.rooms n).take i) [] [0] Bit.HV (by rw [afb];exact (Bit.lO n).sublist (List.take_sublist _ _))
 rw [afb] at this
 exact this
theorem cn {α:Type} {l:List α} {i:Nat} {x:α} (h:l[i]?=some x):l.take (i+1)=l.take i++[x]:=by
 rw [List.take_add_one,h];rfl
theorem cY {l:List Nat} {i:Nat} {x:V} (h:(l.map ar)[i]?=some x):∃ k,l[i]?=some k/\x=ar k:=by
 rw [Jl] at h
 cases e:l[i]? with
 | none=>rw [e] at h;cases h
 | some k=>rw [e] at h;exact ⟨k,rfl,(aba h).symm⟩
def Cx.held (X:Cx) (e:Addr) (oe:Obj):Cx:={ X with A:=X.A.mark (some (.ref e)),calm:=false,pn:=X.pn++[(e,oe)],xe:=λ _ _=>False }
section
open PySem.Builtin PySem.Builtin.ObjectAttr PySem.Builtin.Getset_descriptor
variable {K:W.Frag} {C e:Addr}
variable {prog:Program} {w:World} {A:Around} {s:Shared} {oe:Obj}
end
open PySem.Builtin PySem.Builtin.ObjectAttr
section
variable {K:W.Frag} {prog:Program} {w:World} {A:Around} {E:Value->Shared->Prop} {s:Shared} {x C:Addr} {name:Str} {v:Value}
def xH:List Value->Bool
 | []=>false
 | .ref _::r=>xH r
 | c::r=>decide (c::r=[.type "ValueError",.type "Exception",.type "BaseException",.type "object"])
def Mt (K:W.Frag) (C:Addr):Bool:=(W.clsIn K C).any λ cd=>xH cd.mro
end
open PySem.Builtin PySem.Builtin.ObjectAttr
section
variable {prog:Program} {w:World} {A:Around} {E:Value->Shared->Prop} {h:Heap} {g:Array GenState} {d:Drawn} {t:Nat} {os:OsState}
variable {nm q:Str} {C N:Addr} {bs bm Ix:List Value} {DY:Bool} {sn:List Str} {sub:List Value} {ab:Bool} {col:Option Bool} {dd:Option Addr} {k0 k1 k2 k3 k5:Option Value} {B newId Av:String}
end
section
variable {M:Model} {A:Around} {E:Value->Shared->Prop} {env:Env}
variable {nm q:Str} {C N:Addr} {bs bm Ix:List Value} {DY:Bool} {sn:List Str} {sub:List Value} {ab:Bool} {col:Option Bool} {dd:Option Addr} {k0 k1 k2 k3 k5:Option Value} {B newId Av:String}
end
section
variable {prog:Program} {w:World} {A:Around} {E:Value->Shared->Prop} {s:Shared} {env:Env}
variable {nm q:Str} {C N:Addr} {bs bm Ix:List Value} {DY:Bool} {sn:List Str} {sub:List Value} {ab:Bool} {col:Option Bool} {dd:Option Addr} {k0 k1 k2 k3 k5:Option Value} {B newId Av:String}
end
structure Rn (K:W.Frag) (C fI:Addr) (Ix:List Value) (newId:String):Prop where
 ex:∀ h:Heap,K.In h->∃ bm N nm q bs DY sn sub ab col dd k0 k1 k2 k3 k5 mN,h.get? C=some (excClassObj nm q C N bs bm DY sn sub ab col dd k0 k1 k2 k3 k5 newId)/\h.Ns N mN/\mN "__init__" = some (.ref fI)/\OwnTail h Ix bm
 fn:∀ h:Heap,K.In h->∃ oI,h.get? fI=some oI/\oI.cls = .type "function"
def MZ (K:W.Frag) (C f:Addr) (Ix:List Value) (newId:String):Bool:=(K.lookup C).any λ o=>decide (o.cls = .type "type") &&
 match o.data with
 | .cls cd=>decide (cd.mro = .ref C::cd.mro.tail) && decide (o.slots.size=6) && decide (o.slots[4]?=some (some (.builtin newId))) && !cd.hasDel && W.tailIn K Ix cd.mro.tail && W.nsOkIn K cd.ns && decide (W.nsIn K cd.ns "__init__" = some (some (.ref f)))
 | _=>false
@[elab_as_elim] theorem cL {α:Type} {motive:List α->Prop} {n:Nat} {us:List α} (h:us.length=n+1) (k:∀ a t,t.length=n->motive (a::t)):motive us:=by
 cases us with
 | nil=>cases h
 | cons a t=>exact k a t (Nat.succ.inj h)
theorem adX {α:Type} {n:Nat} {l:List α} (h:l.length=n+1):∃ a t,l=a::t/\t.length=n:=cL h λ a t h=>⟨a,t,rfl,h⟩
section
variable {X:Cx} {x:Str} {pos:Pos}
theorem eP {i:Int} (hg:Gl X x) (hm:∃ t,X.mg x=some (.int i t)) (hd:(x == ("__debug__" : Str))=false:=by decide):PE X (.Name x pos) (tC (.int i)):=by
 obtain ⟨t,hm⟩:=hm
 exact fP hg hm ⟨t,rfl⟩ hd
end
def xc (K:W.Frag) (a:Addr) (xs:List V):Prop :=
 ∃ (o:Obj) (bf:Array Value) (n:Nat),K.lookup a=some o/\o.cls = .type "tuple"/\o.data = .seq bf n/\bf.size<=sizeLine/\Vals xs bf.toList
theorem xc.at {K:W.Frag} {a:Addr} (h:xc K a xs) (H:Hp):bU K H a xs:=.inr h
theorem Fn {K:W.Frag} {a:Addr} {dd:Option Addr} {n:Nat} {sl:Array (Option Value)} {i j:Int} {t u:Tok} (h:K.lookup a=some ⟨.type "tuple",dd,.seq #[.int i t,.int j u] n,sl⟩):xc K a [.int i,.int j] :=
 ⟨_,_,_,h,rfl,rfl,by show 2<=sizeLine;decide,.cons ⟨t,rfl⟩ (.cons ⟨u,rfl⟩ .nil)⟩
def GW (K:W.Frag) (T:Addr) (ii:List V):Prop:=∃ o n items,K.lookup T=some o/\o.data = .seq items n/\Vals ii items.toList
structure pU (K:W.Frag) (x qual:Str) (st:Stmt) (dV:Value) (f:Addr) (fd:FuncData):Prop where
 ex:∃ (oc:Value) (od:Option Addr) (kV doc pm:Value) (an:Option Addr) (bx ct:Value) (uM:Array (Option Value)),
   fd=W.fnOf x qual (cA st) (bF st) (ao st) dV kV doc pm an bx ct/\K.lookup f=some ⟨oc,od,.func fd,uM⟩/\W.codeIn K bx qual=true
 kp:W.keepIn K (.ref f)=true
theorem cS {K:W.Frag} {x qual:Str} {st:Stmt} {f:Addr} {oc:Value} {od an:Option Addr} {uM:Array (Option Value)} {dV kV doc pm bx ct:Value} (l:K.lookup f=some ⟨oc,od,.func (W.fnOf x qual (cA st) (bF st) (ao st) dV kV doc pm an bx ct),uM⟩) (c:W.codeIn K bx qual=true) (k:W.keepIn K (.ref f)=true):pU K x qual st dV f (W.fnOf x qual (cA st) (bF st) (ao st) dV kV doc pm an bx ct):=⟨⟨oc,od,kV,doc,pm,an,bx,ct,uM,rfl,l,c⟩,k⟩
section
variable {P:Program} {w:World} {K:W.Frag} {mg:Str->Option Value} {base:Heap} {x qual m:Str} {st:Stmt} {dV:Value} {f C:Addr} {fd:FuncData} {N ps:List Str} {k:Nat} {sp:Sp} {ds:List Value}
theorem pU.ok (F:pU K x qual st dV f fd) (S:az N ps (ao st)) (len:∀ vs H Q E,sp vs H Q E->vs.length=ps.length) (gB:∀ (bx:Value) (A:Around) (outer:List Env) (s:Shared) (H:Hp) (vs:List V) (Q:VK) (E:XK),cQ k (A.deeper (envOfC qual (ao st) s.heap.objs.size f bx))->sp vs H Q E ->
     ∃ t,qA (mD wx P w K mg base N qual (ao st) f bx A outer s H E).AY (bF st) t/\t { nx:=λ _ H'=>Q .cR H',rt:=Q } (start N vs) H):kr P w K mg base wx (k+1) f fd ps sp:=by
 obtain ⟨oc,od,kV,doc,pm,an,bx,ct,uM,rfl,lk,vE⟩:=F.ex
 refine FT lk vE S len λ A outer s H vs Q E hr Fj=>?_
 obtain ⟨t,h,q⟩:=gB bx A outer s H vs Q E hr Fj
 exact ⟨t,h.AY,q⟩
theorem pU.binds {o:Obj} {n:Nat} {items:Array Value} (F:pU K x qual st (.ref T) f fd) (hT:K.lookup T=some o) (ho:o.data = .seq items n) (h:∀ (kV doc pm:Value) (an:Option Addr) (bx ct:Value) (us:List Value),(us++ds).length=ps.length->∃ k,bindArgs (W.fnOf x qual (cA st) (bF st) (ao st) (.ref T) kV doc pm an bx ct) ⟨us,[]⟩=seqItems? (.ref T) >>= k/\k (some items)=pure (ps.zip (us++ds))):Binds K fd ps ds:=by
 obtain ⟨oc,od,kV,doc,pm,an,bx,ct,uM,rfl,lk,vE⟩:=F.ex
 intro s us X hl
 obtain ⟨k,h1,h2⟩:=h kV doc pm an bx ct us hl
 exact W.binds_K X rfl hT ho h1 h2
theorem pU.GS (F:pU K x qual st .none f fd) (h:∀ (kV doc pm:Value) (an:Option Addr) (bx ct:Value) (us:List Value),us.length=ps.length->bindArgs (W.fnOf x qual (cA st) (bF st) (ao st) .none kV doc pm an bx ct) ⟨us,[]⟩=pure (ps.zip us)):Binds K fd ps []:=by
 obtain ⟨oc,od,kV,doc,pm,an,bx,ct,uM,rfl,lk,vE⟩:=F.ex
 exact .all (h kV doc pm an bx ct)
def gO (K:W.Frag) (C:Addr) (m qual:Str) (st:Stmt) (dV:Value):Prop:=∃ f fd,Meth K C m f/\pU K m qual st dV f fd
def iG (P:Program) (w:World) (K:W.Frag) (mg:Str->Option Value) (base:Heap) (C:Addr) (m:Str) (k:Nat) (ps:List Str) (ds:List Value) (sp:Sp):Prop :=
 ∃ f fd,Meth K C m f/\Binds K fd ps ds/\kr P w K mg base wx k f fd ps sp
theorem gO.Db (h:gO K C m qual st .none) (S:az N ps (ao st)) (len:∀ vs H Q E,sp vs H Q E->vs.length=ps.length) (hb:∀ (kV doc pm:Value) (an:Option Addr) (bx ct:Value) (us:List Value),us.length=ps.length->bindArgs (W.fnOf m qual (cA st) (bF st) (ao st) .none kV doc pm an bx ct) ⟨us,[]⟩=pure (ps.zip us)) (gB:∀ (f:Addr) (bx:Value) (A:Around) (outer:List Env) (s:Shared) (H:Hp) (vs:List V) (Q:VK) (E:XK),cQ k (A.deeper (envOfC qual (ao st) s.heap.objs.size f bx))->sp vs H Q E ->
     ∃ t,qA (mD wx P w K mg base N qual (ao st) f bx A outer s H E).AY (bF st) t/\t { nx:=λ _ H'=>Q .cR H',rt:=Q } (start N vs) H):iG P w K mg base C m (k+1) ps [] sp:=by
 obtain ⟨f,fd,M,F⟩:=h
 exact ⟨f,fd,M,F.GS hb,F.ok S len λ bx A outer s H vs Q E hr hs=>gB f bx A outer s H vs Q E hr hs⟩
structure ER (K:W.Frag) (C:Addr):Prop where
 makes:W.makesIn K C=true
 kp:W.keepIn K (.ref C)=true
end
section
variable {X:Cx} {C:Addr} {m x:Str} {p pos apos:Pos} {e o:Expr} {es:List Expr} {ta:TE} {t:TA} {k:Nat} {ps:List Str} {sp:Sp} {ds:List Value} {ii:List V}
theorem aN {pl:Sem Bool} (he:PE X o ta) (c:wZ X.K C) (D:iG X.prog X.w X.K X.mg X.base C m k ps ds sp) (hd:Vals ii ds) (hr:cQ k X.A) (ha:PA X (e::es) t) (nW:starEach (e::es) X.env=(false,eval e X.env)::starEach es X.env:=by rfl) (kJ:(backTo pos (starEach es X.env)).any (·.1)=false:=by rfl) (ht:eval (.Call (.Attribute o m apos) (e::es) [] pos) X.env=(do
     let ov ← eval o X.env
     standAt apos.atName
     let (f,first) ← holding [ov] (getMethod ov m pl)
     callWith pos f first (backTo pos (starEach (e::es) X.env)) (backToKw pos (keywordEach [] X.env))):=by rfl) :
   PE X (.Call (.Attribute o m apos) (e::es) [] pos) (tQ C m sp ii E0 ta t):=by
 obtain ⟨f,fd,hm,hb,F⟩:=D
 exact CV (pl:=pl) he c hm F hr hb hd xD ha nW kJ ht
theorem eG {pl:Sem Bool} (he:PE X o ta) (c:wZ X.K C) (D:iG X.prog X.w X.K X.mg X.base C m k ps ds sp) (hd:Vals ii ds) (hr:cQ k X.A) (ht:eval (.Call (.Attribute o m apos) [] [] pos) X.env=(do
     let ov ← eval o X.env
     standAt apos.atName
     let (f,first) ← holding [ov] (getMethod ov m pl)
     callWith pos f first (backTo pos (starEach [] X.env)) (backToKw pos (keywordEach [] X.env))):=by rfl) :
   PE X (.Call (.Attribute o m apos) [] [] pos) (tQ C m sp ii E0 ta CT):=by
 obtain ⟨f,fd,hm,hb,F⟩:=D
 exact zW (pl:=pl) he c hm F hr hb hd xD ht
theorem ur (M:ER X.K C) (D:iG X.prog X.w X.K X.mg X.base C "__init__" k ps ds sp) (hd:Vals ii ds) (hr:cQ (k+1) X.A) (hm:X.mg x=some (.ref C)) (ha:PA X (e::es) t) (hg:Gl X x:=by rfl) (yU:(x == ("__debug__" : Str))=false:=by decide) (he:starEach (e::es) X.env=(false,eval e X.env)::starEach es X.env:=by rfl) (kJ:(backTo pos (starEach es X.env)).any (·.1)=false:=by rfl):PE X (.Call (.Name x p) (e::es) [] pos) (AI C sp ii E0 t):=by
 obtain ⟨f,fd,me,hb,F⟩:=D
 exact CJ ⟨M.makes,me.at_,me.fn,M.kp⟩ F hr hg hm hb hd xD ha yU he kJ
end
section
variable {X:Cx} {pins:List (Addr×Obj)} {U:St} {H:Hp} {s:Shared} {h':Heap} {ch:List Addr}
theorem Inv.tf {a:Addr} {t':Nat} (I:Inv X pins U H s) (k:∀ b u,b∉ch->s.heap.get? b=some u->h'.get? b=some u) (hf:∀ b∈ch,qf X pins H b) (hp:s.heap.objs.size<=a) (new:cw X.prog X.w (upd H a o) h' a o):Inv X pins U (upd H a o) { s with heap:=h',toks:=t' }:=by
 have hn:H a=none:=I.cq.fresh hp
 refine I.step (g':=s.gens) (d':=s.drawn) (ch:=ch) (λ b hb=>⟨(hf b hb).2.2.2.1,(hf b hb).2.1,(hf b hb).2.2.2.2.1,(hf b hb).2.2.2.2.2⟩) (λ b u _ _ hc q _=>k b u hc q) (λ b u _ _ hc q _=>⟨u.slots,k b u hc q⟩)
   (λ b u _ q n=>by rw [av (acW (ab4 (act q) hp))];exact n) (λ b u hc q=>⟨u,k b u hc q⟩) (λ b xs q=>by rw [av (aq q hn)];exact q) (λ b u xs q=>by rw [av (aq q hn)];exact q)
   (λ b ps q=>⟨#[],by rw [av (aq q hn),q];simp⟩) (λ m hm=>?_) (λ b u q=>?_) I.bare
 . obtain ⟨ob,es,ep,ho,r⟩:=hm
   exact ⟨ob,es,ep,k _ ob (λ z=>(hf _ z).2.1 rfl) ho,r⟩
 .
  by_cases hb:b=a
  . subst hb
    rw [ag] at q
    cases q
    exact new
  .
   rw [av hb] at q
   refine (I.cq b u q).iz (λ c v hc z=>k c v (λ y=>?_) z) (λ c z=>by rw [av (aq z hn)];exact z) λ c xs z=>by rw [av (aq z hn)];exact z
   have n:=(hf c y).1
   rcases hc with rfl|hc
   . rw [n] at q;cases q
   . rw [n] at hc;cases hc
theorem Inv.rO {t':Nat} (I:Inv X pins U H s) (k:∀ b u,b∉ch->s.heap.get? b=some u->h'.get? b=some u) (hf:∀ b∈ch,qf X pins H b):Inv X pins U H { s with heap:=h',toks:=t' }:=by
 refine I.step (g':=s.gens) (d':=s.drawn) (ch:=ch) (λ b hb=>⟨(hf b hb).2.2.2.1,(hf b hb).2.1,(hf b hb).2.2.2.2.1,(hf b hb).2.2.2.2.2⟩) (λ b u _ _ hc q _=>k b u hc q) (λ b u _ _ hc q _=>⟨u.slots,k b u hc q⟩)
   (λ _ _ _ _ n=>n) (λ b u hc q=>⟨u,k b u hc q⟩) (λ _ _ q=>q) (λ _ _ _ q=>q) (λ b ps q=>⟨#[],by rw [q];simp⟩) (λ m hm=>?_) (λ b u q=>?_) I.bare
 . obtain ⟨ob,es,ep,ho,r⟩:=hm
   exact ⟨ob,es,ep,k _ ob (λ z=>(hf _ z).2.1 rfl) ho,r⟩
 .
  refine (I.cq b u q).iz (λ c v hc z=>k c v (λ y=>?_) z) (λ _ z=>z) λ _ _ z=>z
  have n:=(hf c y).1
  rcases hc with rfl|hc
  . rw [n] at q;cases q
  . rw [n] at hc;cases hc
end
def Kr (K:W.Frag) (a b:Addr):It :=
 ⟨λ i H=>∃ xs ys x y,aV K H a xs/\aV K H b ys/\xs[i]?=some x/\ys[i]?=some y,
  λ i H v H'=>∃ p x y,H p=none/\v = .ref p/\H'=upd H p (.tup [x,y])/\(∀ xs,aV K H a xs->xs[i]?=some x)/\∀ ys,aV K H b ys->ys[i]?=some y,
  λ i H=>∃ xs ys,aV K H a xs/\aV K H b ys/\(xs.length<=i∨ys.length<=i)⟩
def AF (z TI TO i1 i2 a b:Addr) (i:Nat) (h:Heap):Prop:=IsZip h z TI TO .none/\IsPair h TI (.ref i1) (.ref i2)/\(∃ u v,IsPair h TO u v)/\h.IsListIter i1 a i/\h.IsListIter i2 b i
theorem AF.obj {z TI TO a b:Addr} {i:Nat} {h:Heap} (st:AF z TI TO i1 i2 a b i h):∀ c∈[z,TI,TO,i1,i2],∃ o,h.get? c=some o/\∀ v,o.data ≠ .cell v:=λ c hc=>by
 obtain ⟨hz,FL,⟨u,v,GV⟩,⟨o1,e1,_,d1⟩,⟨o2,e2,_,d2⟩⟩:=st
 simp only [abt,T1,adj] at hc
 rcases hc with rfl|rfl|rfl|rfl|rfl
 . exact ⟨_,hz,λ v q=>by cases q⟩
 . exact ⟨_,FL,λ v q=>by cases q⟩
 . exact ⟨_,GV,λ v q=>by cases q⟩
 . exact ⟨o1,e1,λ v q=>by rw [d1] at q;cases q⟩
 . exact ⟨o2,e2,λ v q=>by rw [d2] at q;cases q⟩
theorem BV {P:Program} {w:World} {K:W.Frag} {z TI TO a b:Addr} (D:ZipApart z TI TO i1 i2 a b) :
   Turn P w K (.Tuple elts x1 nN) (Kr K a b) [z,TI,TO,i1,i2] z (AF z TI TO i1 i2 a b) where
 mem:=by simp
 obj:=λ i h st=>st.obj
 keep:=λ i h h' st k=>by
   obtain ⟨hz,FL,⟨u,v,GV⟩,h1,h2⟩:=st
   exact ⟨k z (by simp) _ hz,k TI (by simp) _ FL,⟨u,v,k TO (by simp) _ GV⟩,h1.at λ o e=>k i1 (by simp) o e,h2.at λ o e=>k i2 (by simp) o e⟩
 item:=by
   intro X hP hw hK hc i pins s U H E I hf st hg
   subst hP hw hK
   obtain ⟨xs,ys,x,y,Cc,Cg,hx,hy⟩:=hg
   obtain ⟨Gp,Ng,p1,Iz⟩:=I.list Cc
   obtain ⟨kM,MW,p2,hz2⟩:=I.list Cg
   obtain ⟨u1,hu1,ru1⟩:=Ng.get hx
   obtain ⟨u2,hu2,ru2⟩:=MW.get hy
   have lt:∀ c∈[z,TI,TO,i1,i2],c<s.heap.objs.size:=λ c vI=>by
     obtain ⟨o,e,_⟩:=st.obj c vI
     exact act e
   obtain ⟨hz,FL,⟨u,v,GV⟩,h1,h2⟩:=st
   refine wpAny_pyNext_zip_item D hz FL GV h1 h2 p1.isList p2.isList (x:=u1) (y:=u2) (by simpa using hu1) (by simpa using hu2) λ h' z1 z2 z3 z4 z5 z6 kk=>?_
   refine ⟨.ref s.heap.objs.size,rfl,wpAny_letOwnedTupleGo_zip (s:={ s with heap:=h' }) z1 λ h2' zz sb=>?_⟩
   have AJ:∀ c o,c∉[z,TI,TO,i1,i2]->s.heap.get? c=some o->h2'.get? c=some o:=λ c o hn e=>by
     simp only [abt,T1,adj,aeb] at hn
     exact sb.extBut _ _ hn.1 (kk c o hn.1 hn.2.2.1 hn.2.2.2.1 hn.2.2.2.2 e)
   have nz:s.heap.objs.size≠z:=ae0 (lt z (by simp))
   have n5:IsPair h2' s.heap.objs.size u1 u2:=sb.extBut _ _ nz z5
   refine ⟨.ref s.heap.objs.size,upd H s.heap.objs.size (.tup [x,y]),I.tf (t':=s.toks) AJ hf (aaT _) ⟨by show 2<=sizeLine;decide,[u1,u2],.cons ru1 (.cons ru2 .nil),⟨_,n5,rfl,_,rfl⟩⟩,rfl,
     ⟨_,x,y,I.cq.fresh (aaT _),rfl,rfl,λ xs' h=>by rw [I.kX h Cc];exact hx,λ ys' h=>by rw [I.kX h Cg];exact hy⟩,?_,λ c vI=>?_⟩
   . exact ⟨zz,sb.extBut _ _ D.TIz (kk _ _ D.TIz D.TITO D.TIi1 D.TIi2 FL),⟨_,_,sb.extBut _ _ D.TOz z2⟩,z3.extBut sb.extBut D.i1z,z4.extBut sb.extBut D.i2z⟩
   . rw [av (acW (lt c vI))]
     exact (hf c vI).1
 done:=by
   intro X hP hw hK hc i pins s U H E I hf st hg
   subst hP hw hK
   obtain ⟨xs,ys,Cc,Cg,hl⟩:=hg
   obtain ⟨Gp,Ng,p1,Iz⟩:=I.list Cc
   obtain ⟨kM,MW,p2,hz2⟩:=I.list Cg
   have l1:=Ng.length
   have l2:=MW.length
   obtain ⟨hz,FL,⟨u,v,GV⟩,h1,h2⟩:=st
   have VY:Gp.toArray[i]?=none∨kM.toArray[i]?=none:=by
     rcases hl with h|h
     . exact .inl (by simp;lia)
     . exact .inr (by simp;lia)
   refine wpAny_pyNext_zip_end (I.ok.hd hc) D hz FL GV h1 h2 p1.isList p2.isList VY λ h' kk=>⟨rfl,I.rO (ch:=[z,TI,TO,i1,i2]) (t':=s.toks) (λ c o hn e=>?_) hf⟩
   simp only [abt,T1,adj,aeb] at hn
   exact kk c o hn.1 hn.2.2.1 hn.2.2.2.1 hn.2.2.2.2 e
 self:=λ _ _ _ _ _ st h=>wpAny_pyIter_zip st.1 h
theorem HA:bootBuiltins "zip" = some (.type "zip"):=by decide +kernel
section
variable {X:Cx}
def XG (K:W.Frag) (ta:TA):TI:=λ U H R=>ta U H λ vs H1=>∃ a b,vs=[.ref a,.ref b]/\(∃ xs,aV K H1 a xs)/\(∃ ys,aV K H1 b ys)/\R (Kr K a b) H1
theorem Hl {a b:Expr} {ta:TA} {p pos:Pos} (hg:Gl X "zip") (hm:X.mg "zip" = none) (ha:PA X [a,b] ta) (hs:starEach [a,b] X.env=[(false,eval a X.env),(false,eval b X.env)]:=by rfl) (DP:starEach [b] X.env=[(false,eval b X.env)]:=by rfl):PI X (.Tuple elts x1 nN) (.Call (.Name "zip" p) [a,b] [] pos) (XG X.K ta):=by
 intro pins s U H R I h
 refine Call_ (jD I hg hm HA (ady (cx (ha pos pins s U H _ I h) λ us s1 ⟨vs,H1,I1,r1,q1⟩=>?_) (by rw [hs,DP]) (by rw [DP];rfl)))
 obtain ⟨a,b,e,⟨xs,Cc⟩,⟨ys,Cg⟩,q⟩:=q1
 subst e
 obtain ⟨u,v,rfl,r,r'⟩:=vals2 r1
 obtain rfl:u=Value.ref a:=r
 obtain rfl:v=Value.ref b:=r'
 obtain ⟨Gp,Ng,p1,Iz⟩:=I1.list Cc
 obtain ⟨kM,MW,p2,hz2⟩:=I1.list Cg
 refine call_zip_2 p1.isList p2.isList λ h' z1 z2 z3 z4 z5 z6 kk=>?_
 have la:a<s1.heap.objs.size:=by obtain ⟨_,e,_⟩:=p1.isList;exact act e
 have lb:b<s1.heap.objs.size:=by obtain ⟨_,e,_⟩:=p2.isList;exact act e
 refine wpAny_pyIter_zip z1 ?_
 refine ⟨s1.heap.objs.size+4,[s1.heap.objs.size+4,s1.heap.objs.size+2,s1.heap.objs.size+3,s1.heap.objs.size,s1.heap.objs.size+1],_,_,H1,rfl,I1.kept (t':=s1.toks) kk,BV (zipApart_new la lb),⟨z1,z2,⟨_,_,z3⟩,z4,z5⟩,λ c hc=>?_,q⟩
 have hle:s1.heap.objs.size<=c:=by
   simp only [abt,T1,adj] at hc
   rcases hc with rfl|rfl|rfl|rfl|rfl
   . exact adZ _ _
   . exact adZ _ _
   . exact adZ _ _
   . exact aaT _
   . exact adZ _ _
 exact I1.uO hle (I1.cq.fresh hle)
end
theorem Bz {K:W.Frag} {a b:Addr} {ys:List V} {tt:TT} {D:Addr} {Q:Hp->Prop} (Pv:Nat->List V->St->Hp->Prop) (h0:Pv 0 [] U H) (hl:∀ i acc U H,i<=min xs.length ys.length->Pv i acc U H->aV K H a xs/\aV K H b ys) (hs:∀ i x y p acc U H,xs[i]?=some x->ys[i]?=some y->H p=none->Pv i acc U H->g (.ref p) U (upd H p (.tup [x,y])) λ σ2 H3=>tt σ2 H3 λ k H4 =>
     if k=true then te σ2 H4 λ v H5=>H5 D=some (.lst acc)/\acc.length<sizeLine/\Pv (i+1) (acc++[v]) σ2 (upd H5 D (.lst (acc++[v]))) else Pv (i+1) acc σ2 H4) (hd:∀ acc U H,Pv (min xs.length ys.length) acc U H->Q H) :
   ∃ W:Nat->Nat->List V->St->Hp->Prop,(∃ m,W 0 m [] U H)/\∀ i m acc σ' H',W i m acc σ' H'->((Kr K a b).stop i H'/\Q H') ∨
     ((Kr K a b).go i H'/\∃ N:List V->St->Hp->Prop,(∀ gL σ2 H4,N gL σ2 H4->∃ m',m'<m/\W (i+1) m' gL σ2 H4)/\∀ x H2,(Kr K a b).BK i H' x H2->g x σ' H2 λ σ2 H3=>tt σ2 H3 λ k H4 =>
       if k=true then te σ2 H4 λ y H5=>H5 D=some (.lst acc)/\acc.length<sizeLine/\N (acc++[y]) σ2 (upd H5 D (.lst (acc++[y]))) else N acc σ2 H4):=by
 refine ⟨λ i m acc U H=>m=min xs.length ys.length - i/\i<=min xs.length ys.length/\Pv i acc U H,⟨_,rfl,adm _,h0⟩,?_⟩
 rintro i m acc U H ⟨rfl,hi,p⟩
 obtain ⟨q1,q2⟩:=hl i acc U H hi p
 by_cases mP:i<min xs.length ys.length
 .
  have h1:i<xs.length:=by lia
  have h2:i<ys.length:=by lia
  refine .inr ⟨⟨xs,ys,xs[i],ys[i],q1,q2,by simp [h1],by simp [h2]⟩,Pv (i+1),λ gL σ' H' p'=>⟨min xs.length ys.length - (i+1),by lia,rfl,mP,p'⟩,λ v H' y=>?_⟩
  obtain ⟨pp,x,y,hn,rfl,rfl,e1,e2⟩:=y
  exact hs i x y pp acc U H (e1 xs q1) (e2 ys q2) hn p
 . have e:i=min xs.length ys.length:=by lia
   subst e
   exact .inl ⟨⟨xs,ys,q1,q2,by lia⟩,hd acc U H p⟩
mutual
def Dn (K:W.Frag) (H:Hp):PyData->V->Prop
 | .none,v=>v = .cR
 | .bool b,v=>v = .bl b
 | .int i,v=>v = .int i
 | .str x,v=>v = .str x
 | .list ds,v=>∃ a xs,v = .ref a/\aV K H a xs/\bI K H ds xs
 | .tuple ds,v=>∃ a xs,v = .ref a/\bU K H a xs/\bI K H ds xs
 | .dict _,_=>False
def bI (K:W.Frag) (H:Hp):List PyData->List V->Prop
 | [],xs=>xs=[]
 | d::ds,xs=>∃ x r,xs=x::r/\Dn K H d x/\bI K H ds r
end
def c8:PyData->Bool
 | .list _=>false
 | .dict _=>false
 | .tuple ds=>ds.attach.all λ ⟨d,_⟩=>c8 d
 | _=>true
theorem jM {ds:List PyData}:c8 (.tuple ds)=true↔∀ d∈ds,c8 d=true:=by
 rw [c8,aee]
 constructor
 . intro h d hd
   exact h ⟨d,hd⟩ (List.mem_attach ..)
 . intro h x _
   exact h x.1 x.2
def bg (K:W.Frag) (H H':Hp):Prop:=∀ a xs,bU K H a xs->bU K H' a xs
theorem bg.refl {K:W.Frag} (H:Hp):bg K H H:=λ _ _ h=>h
theorem bg.trans {K:W.Frag} {H1 H2:Hp} (a:bg K H H1) (b:bg K H1 H2):bg K H H2:=λ c xs h=>b c xs (a c xs h)
theorem aA.ts {K:W.Frag} (s:aA H H'):bg K H H':=λ _ _ h=>s.tup h
def Fw:HO->Bool
 | .tup _=>false
 | .wC _ _=>false
 | _=>true
theorem bZ {K:W.Frag} {a:Addr} {o':HO} (h:H a=some o) (n:Fw o=true):bg K H (upd H a o'):=λ b xs q=>by
 have ne:∀ u,H b=some u->Fw u=false->b≠a:=λ u e z y=>by
   subst y
   rw [h] at e
   cases e
   rw [n] at z
   cases z
 rcases q with (q|⟨ob,q⟩)|q
 . exact .inl (.inl (by rw [av (ne _ q rfl)];exact q))
 . exact .inl (.inr ⟨ob,by rw [av (ne _ q rfl)];exact q⟩)
 . exact .inr q
section
variable {K:W.Frag} {H H':Hp}
mutual
theorem Dn.same (s:aA H H'):∀ (d:PyData) {v:V},Dn K H d v->Dn K H' d v
 | .none,_,h=>by rw [Dn] at h ⊢;exact h
 | .bool _,_,h=>by rw [Dn] at h ⊢;exact h
 | .int _,_,h=>by rw [Dn] at h ⊢;exact h
 | .str _,_,h=>by rw [Dn] at h ⊢;exact h
 | .list ds,_,h=>by
   rw [Dn] at h ⊢
   obtain ⟨a,xs,e,q,r⟩:=h
   exact ⟨a,xs,e,s.seq q,bI.same s ds r⟩
 | .tuple ds,_,h=>by
   rw [Dn] at h ⊢
   obtain ⟨a,xs,e,q,r⟩:=h
   exact ⟨a,xs,e,s.tup q,bI.same s ds r⟩
 | .dict _,_,h=>by rw [Dn] at h;exact h.elim
theorem bI.same (s:aA H H'):∀ (ds:List PyData) {xs:List V},bI K H ds xs->bI K H' ds xs
 | [],_,h=>by rw [bI] at h ⊢;exact h
 | d::ds,_,h=>by
   rw [bI] at h ⊢
   obtain ⟨x,r,e,q,t⟩:=h
   exact ⟨x,r,e,Dn.same s d q,bI.same s ds t⟩
end
mutual
theorem Dn.ts (s:bg K H H'):∀ (d:PyData) {v:V},c8 d=true->Dn K H d v->Dn K H' d v
 | .none,_,_,h=>by rw [Dn] at h ⊢;exact h
 | .bool _,_,_,h=>by rw [Dn] at h ⊢;exact h
 | .int _,_,_,h=>by rw [Dn] at h ⊢;exact h
 | .str _,_,_,h=>by rw [Dn] at h ⊢;exact h
 | .list ds,_,f,_=>by rw [c8] at f;cases f
 | .tuple ds,_,f,h=>by
   rw [Dn] at h ⊢
   obtain ⟨a,xs,e,q,r⟩:=h
   exact ⟨a,xs,e,s _ _ q,bI.ts s ds (jM.mp f) r⟩
 | .dict _,_,_,h=>by rw [Dn] at h;exact h.elim
theorem bI.ts (s:bg K H H'):∀ (ds:List PyData) {xs:List V},(∀ d∈ds,c8 d=true)->bI K H ds xs->bI K H' ds xs
 | [],_,_,h=>by rw [bI] at h ⊢;exact h
 | d::ds,_,f,h=>by
   rw [bI] at h ⊢
   obtain ⟨x,r,e,q,t⟩:=h
   exact ⟨x,r,e,Dn.ts s d (f d acY) q,bI.ts s ds (λ d hd=>f d (acV _ hd)) t⟩
end
theorem bI.length:∀ {ds:List PyData} {xs:List V},bI K H ds xs->xs.length=ds.length
 | [],_,h=>by rw [bI] at h;rw [h];rfl
 | d::ds,_,h=>by
   rw [bI] at h
   obtain ⟨x,r,rfl,_,t⟩:=h
   rw [acX,acX,bI.length t]
theorem bI.get:∀ {ds:List PyData} {xs:List V} {i:Nat} {d:PyData},bI K H ds xs->ds[i]?=some d->∃ x,xs[i]?=some x/\Dn K H d x
 | [],_,_,_,_,e=>by simp at e
 | _::_,_,0,_,h,e=>by
   rw [bI] at h
   obtain ⟨x,r,rfl,q,t⟩:=h
   simp at e
   subst e
   exact ⟨x,rfl,q⟩
 | _::ds,_,i+1,d,h,e=>by
   rw [bI] at h
   obtain ⟨x,r,rfl,q,t⟩:=h
   obtain ⟨y,e1,e2⟩:=bI.get (i:=i) t (by simpa using e)
   exact ⟨y,by simpa using e1,e2⟩
theorem bI.snoc:∀ {ds:List PyData} {xs:List V} {d:PyData} {x:V},bI K H ds xs->Dn K H d x->bI K H (ds++[d]) (xs++[x])
 | [],_,d,x,h,q=>by
   rw [bI] at h
   subst h
   exact ⟨x,[],rfl,q,rfl⟩
 | _::ds,_,d,x,h,q=>by
   rw [bI] at h
   obtain ⟨y,r,rfl,q',t⟩:=h
   exact ⟨y,r++[x],rfl,q',bI.snoc t q⟩
theorem bI.set:∀ {ds:List PyData} {xs:List V} {i:Nat} {d:PyData} {x:V},bI K H ds xs->Dn K H d x->bI K H (ds.set i d) (xs.set i x)
 | [],_,_,_,_,h,_=>by
   rw [bI] at h
   subst h
   exact rfl
 | _::_,_,0,d,x,h,q=>by
   rw [bI] at h
   obtain ⟨y,r,rfl,q',t⟩:=h
   exact ⟨x,r,rfl,q,t⟩
 | _::ds,_,i+1,d,x,h,q=>by
   rw [bI] at h
   obtain ⟨y,r,rfl,q',t⟩:=h
   exact ⟨y,r.set i x,rfl,q',bI.set t q⟩
theorem eM:bI K H [] []:=rfl
theorem aO {d:PyData} {ds:List PyData} {x:V} (a:Dn K H d x) (b:bI K H ds xs):bI K H (d::ds) (x::xs):=⟨x,xs,rfl,a,b⟩
theorem Ab {i:Int}:Dn K H (.int i) (.int i):=rfl
theorem ek {a:Addr} {ds:List PyData} (h:bU K H a xs) (r:bI K H ds xs):Dn K H (.tuple ds) (.ref a):=⟨a,xs,rfl,h,r⟩
theorem sE {a:Addr} {ds:List PyData} (h:aV K H a xs) (r:bI K H ds xs):Dn K H (.list ds) (.ref a):=⟨a,xs,rfl,h,r⟩
abbrev dE (f:Int×Int):PyData:=.tuple [.int f.1,.int f.2]
theorem ko {p:Addr} {f:Int×Int} (h:bU K H p [.int f.1,.int f.2]):Dn K H (dE f) (.ref p):=ek h (aO Ab (aO Ab eM))
theorem Dn.fr {v:V} {f:Int×Int} (h:Dn K H (dE f) v):∃ p,v = .ref p/\bU K H p [.int f.1,.int f.2]:=by
 obtain ⟨p,xs,e,q,x,r,e1,e2,y,r2,e3,e4,e5⟩:=h
 have e2:x=V.int f.1:=e2
 have e4:y=V.int f.2:=e4
 have e5:r2=[]:=e5
 subst e1 e2 e3 e4 e5
 exact ⟨p,e,q⟩
theorem gp (f:Int×Int):c8 (dE f)=true:=by simp [dE,c8]
end
section
variable {X:Cx} {pins:List (Addr×Obj)} {U:St} {H:Hp} {s:Shared}
mutual
theorem Inv.reads (I:Inv X pins U H s):∀ (d:PyData) {v:V} {u:Value},Dn X.K H d v->RelV v u->∃ as,Reads s.heap u d as
 | .none,_,_,h,r=>by
   have h:_=V.cR:=h
   subst h
   obtain rfl:=(show _=Value.none from r)
   exact ⟨_,.none⟩
 | .bool b,_,_,h,r=>by
   have h:_=V.bl b:=h
   subst h
   obtain rfl:=(show _=Value.bool b from r)
   exact ⟨_,.bool b⟩
 | .int i,_,_,h,r=>by
   have h:_=V.int i:=h
   subst h
   obtain ⟨t,rfl⟩:=r
   exact ⟨_,.int i t⟩
 | .str x,_,_,h,r=>by
   have h:_=V.str x:=h
   subst h
   obtain ⟨t,rfl⟩:=r
   exact ⟨_,.str x t⟩
 | .list ds,_,_,h,r=>by
   obtain ⟨a,xs,rfl,q,t⟩:=h
   obtain rfl:=(show _=Value.ref a from r)
   obtain ⟨bf,rv,p,_⟩:=I.list q
   obtain ⟨o,ho,hc,n,hd⟩:=p.isList
   obtain ⟨as,ra⟩:=Inv.readsAll I ds t rv
   exact ⟨_,.list ho hc hd (by simpa using ra)⟩
 | .tuple ds,_,_,h,r=>by
   obtain ⟨a,xs,rfl,q,t⟩:=h
   obtain rfl:=(show _=Value.ref a from r)
   obtain ⟨bf,rv,p,_⟩:=I.tuple q
   obtain ⟨o,ho,hc,n,hd⟩:=p
   obtain ⟨as,ra⟩:=Inv.readsAll I ds t rv
   exact ⟨_,.tuple ho hc hd (by simpa using ra)⟩
 | .dict _,_,_,h,_=>(show False from h).elim
theorem Inv.readsAll (I:Inv X pins U H s):∀ (ds:List PyData) {xs:List V} {us:List Value},bI X.K H ds xs->Vals xs us->∃ as,ReadsAll s.heap us ds as
 | [],_,_,h,r=>by
   have h:_=[]:=h
   subst h
   obtain rfl:=Vals.zero r
   exact ⟨_,.nil⟩
 | d::ds,_,_,h,r=>by
   obtain ⟨x,t,rfl,q,qt⟩:=h
   cases r with
   | cons r1 r2 =>
     obtain ⟨as,ra⟩:=Inv.reads I d q r1
     obtain ⟨bs,rb⟩:=Inv.readsAll I ds qt r2
     exact ⟨_,.cons ra rb⟩
end
inductive HR (K:W.Frag) (x:V) (y:V) (H:Hp) (Q:VK):Prop
 | mk (d e:_) (_:Dn K H d x) (_:Dn K H e y) (_:SeqAt.shaped d=true) (_:SeqAt.shaped e=true) (_:Q (.bl (PyData.eqv d e)) H)
inductive Kk (K:W.Frag) (x:V) (y:V) (H:Hp) (Q:VK):Prop
 | mk (d e:_) (_:Dn K H d x) (_:Dn K H e y) (_:SeqAt.shaped d=true) (_:SeqAt.shaped e=true) (_:Q (.bl (!PyData.eqv d e)) H)
theorem wR (hu:X.A.units+64<cLine):gI X (compareOp .Eq) (HR X.K):=by
 intro pins s U H x y v u Q I rx ry h
 obtain ⟨d,e,h1,h2,s1,s2,q⟩:=h
 obtain ⟨as,r1⟩:=I.reads d h1 rx
 obtain ⟨bs,r2⟩:=I.reads e h2 ry
 exact eq_dataH r1 r2 s1 s2 hu ⟨.bl _,H,I,rfl,q⟩
theorem G8 (hu:X.A.units+64<cLine):gI X (compareOp .NotEq) (Kk X.K):=by
 intro pins s U H x y v u Q I rx ry h
 obtain ⟨d,e,h1,h2,s1,s2,q⟩:=h
 obtain ⟨as,r1⟩:=I.reads d h1 rx
 obtain ⟨bs,r2⟩:=I.reads e h2 ry
 exact ne_dataH r1 r2 s1 s2 hu ⟨.bl _,H,I,rfl,q⟩
theorem qU (hc:X.calm=true):gS X (.builtin "all") (λ xs H Q=>∃ (p:Addr) (bs:List Bool),xs=[.ref p]/\aV X.K H p (bs.map V.bl)/\Q (.bl (bs.all id)) H):=by
 intro pins s U H xs us Q I r h
 obtain ⟨p,bs,rfl,hq,q⟩:=h
 obtain ⟨u,rfl,r1⟩:∃ u,us=[u]/\RelV (.ref p) u:=by
   cases r with
   | cons a b=>cases b;exact ⟨_,rfl,a⟩
 obtain rfl:u=Value.ref p:=r1
 obtain ⟨bf,rv,pl,_⟩:=I.list hq
 have hl:p<s.heap.objs.size:=by obtain ⟨_,e,_⟩:=pl.isList;exact act e
 have hlen:bf.length=bs.length:=by rw [← rv.length,xq]
 have Xb:∀ i v,bf.toArray[i]?=some v->v=Value.bool (bs.getD i false):=λ i v e=>by
   have e':bf[i]?=some v:=by simpa using e
   have hi:i<bs.length:=by rw [← hlen];exact (List.getElem?_eq_some_iff.mp e').1
   obtain ⟨u,e2,r2⟩:=rv.get (i:=i) (x:=V.bl (bs[i])) (by simp [hi])
   rw [e'] at e2
   cases e2
   have r3:v=Value.bool bs[i]:=r2
   rw [r3]
   simp [hi]
 refine call_all_walk (wpAny_pyIter_list pl.isList ⟨s.heap.objs.size,_,_,_,_,_,λ i=>bs.getD i false,rfl,Walks.list (by simpa using I.ok.hd hc) _ p (acW hl) bf.toArray,⟨⟨_,ac6 _ rfl,rfl,rfl⟩,pl.isList.push _⟩,λ i v s' Q' E' hP hQ'=>?_,λ h' tk hk=>?_⟩)
 . rw [Xb i v hP]
   exact ac9 hQ'
 .
  have e:(List.range bf.toArray.size).all (λ i=>bs.getD i false)=bs.all id:=by
    have:bf.toArray.size=bs.length:=by simpa using hlen
    rw [this,adP,aee,aee]
    constructor
    . intro h b hb
      obtain ⟨i,hi,rfl⟩:=adQ hb
      have:=h i (List.mem_range.mpr hi)
      simpa [hi] using this
    . intro h i hi
      have hi:=List.mem_range.mp hi
      have:=h _ (aaY hi)
      simpa [hi] using this
  rw [e]
  exact ⟨.bl _,H,I.kept (t':=tk) λ b o z=>hk b o (λ y=>by
    have y:b=s.heap.objs.size:=by simpa using y
    exact absurd (act z) (by rw [y];exact adM _)) (aa4 _ z),rfl,q⟩
end
section
variable {P:Program} {w:World} {K:W.Frag} {mg:Str->Option Value} {base:Heap} {x qual m:Str} {st:Stmt} {dV:Value} {f C:Addr} {fd:FuncData} {N ps:List Str} {k:Nat} {sp:Sp} {ds:List Value} {ii:List V}
def LN (P:Program) (w:World) (K:W.Frag) (mg:Str->Option Value) (base:Heap) (C:Addr) (m qual:Str) (st:Stmt) (dV:Value) (k:Nat) (ps:List Str) (sp:Sp):Prop :=
 ∃ f fd,Meth K C m f/\pU K m qual st dV f fd/\kr P w K mg base wx k f fd ps sp
def um (P:Program) (w:World) (K:W.Frag) (mg:Str->Option Value) (base:Heap) (C:Addr) (m:Str) (k:Nat) (ps:List Str) (ii:List V) (sp:Sp):Prop :=
 ∃ ds,Vals ii ds/\iG P w K mg base C m k ps ds sp
theorem gO.mok (h:gO K C m qual st dV) (S:az N ps (ao st)) (len:∀ vs H Q E,sp vs H Q E->vs.length=ps.length) (gB:∀ (f:Addr) (bx:Value) (A:Around) (outer:List Env) (s:Shared) (H:Hp) (vs:List V) (Q:VK) (E:XK),cQ k (A.deeper (envOfC qual (ao st) s.heap.objs.size f bx))->sp vs H Q E ->
     ∃ t,qA (mD wx P w K mg base N qual (ao st) f bx A outer s H E).AY (bF st) t/\t { nx:=λ _ H'=>Q .cR H',rt:=Q } (start N vs) H):LN P w K mg base C m qual st dV (k+1) ps sp:=by
 obtain ⟨f,fd,M,F⟩:=h
 exact ⟨f,fd,M,F,F.ok S len λ bx A outer s H vs Q E hr hs=>gB f bx A outer s H vs Q E hr hs⟩
theorem LN.Db {Jh:List V} (h:LN P w K mg base C m qual st (.ref T) k ps sp) (hT:GW K T Jh) (hb:∀ items:Array Value,Vals Jh items.toList->∃ ds,Vals ii ds/\∀ (kV doc pm:Value) (an:Option Addr) (bx ct:Value) (us:List Value),(us++ds).length=ps.length->∃ k,bindArgs (W.fnOf m qual (cA st) (bF st) (ao st) (.ref T) kV doc pm an bx ct) ⟨us,[]⟩=seqItems? (.ref T) >>= k/\k (some items)=pure (ps.zip (us++ds))) :
   um P w K mg base C m k ps ii sp:=by
 obtain ⟨f,fd,M,F,O⟩:=h
 obtain ⟨o,n,items,hT,ho,hv⟩:=hT
 obtain ⟨ds,hd,hb⟩:=hb items hv
 exact ⟨ds,hd,f,fd,M,F.binds hT ho hb,O⟩
theorem vals3 {a b c:V} {items:Array Value} (h:Vals [a,b,c] items.toList):∃ u v z,items=#[u,v,z]/\RelV a u/\RelV b v/\RelV c z:=by
 obtain ⟨l⟩:=items
 cases h with
 | cons h1 h=>cases h with
   | cons h2 h=>cases h with
     | cons h3 h=>cases h with
       | nil=>exact ⟨_,_,_,rfl,h1,h2,h3⟩
end
section
variable {X:Cx} {C:Addr} {m x:Str} {p pos apos:Pos} {e o:Expr} {es:List Expr} {ta:TE} {t:TA} {k:Nat} {ps:List Str} {sp:Sp} {ii:List V}
theorem BD {pl:Sem Bool} (he:PE X o ta) (c:wZ X.K C) (D:um X.prog X.w X.K X.mg X.base C m k ps ii sp) (hr:cQ k X.A) (ha:PA X (e::es) t) (nW:starEach (e::es) X.env=(false,eval e X.env)::starEach es X.env:=by rfl) (kJ:(backTo pos (starEach es X.env)).any (·.1)=false:=by rfl) (ht:eval (.Call (.Attribute o m apos) (e::es) [] pos) X.env=(do
     let ov ← eval o X.env
     standAt apos.atName
     let (f,first) ← holding [ov] (getMethod ov m pl)
     callWith pos f first (backTo pos (starEach (e::es) X.env)) (backToKw pos (keywordEach [] X.env))):=by rfl) :
   PE X (.Call (.Attribute o m apos) (e::es) [] pos) (tQ C m sp ii E0 ta t):=by
 obtain ⟨ds,hd,D⟩:=D
 exact aN (pl:=pl) he c D hd hr ha nW kJ ht
theorem BQ (M:ER X.K C) (D:um X.prog X.w X.K X.mg X.base C "__init__" k ps ii sp) (hr:cQ (k+1) X.A) (hm:X.mg x=some (.ref C)) (ha:PA X (e::es) t) (hg:Gl X x:=by rfl) (yU:(x == ("__debug__" : Str))=false:=by decide) (he:starEach (e::es) X.env=(false,eval e X.env)::starEach es X.env:=by rfl) (kJ:(backTo pos (starEach es X.env)).any (·.1)=false:=by rfl):PE X (.Call (.Name x p) (e::es) [] pos) (AI C sp ii E0 t):=by
 obtain ⟨ds,hd,D⟩:=D
 exact ur M D hd hr hm ha hg yU he kJ
end
theorem eZ {X:Cx} {K:W.Frag} {es:List Expr} {k:Nat} {pos:Pos} {t:GA} {n:Nat} (hK:X.K=K) (hc:X.calm=true) (h:Iu X es t) (hn:(assignEach es X.env).length=n:=by rfl) (nW:(assignEach es X.env).findIdx? (·.1)=none:=by rfl):PG X (.Tuple es k pos) (KI K n t):=by
 subst hK
 exact Hk hc h hn nW
end L2
namespace PySem
open Sem (wp)
end PySem
namespace L2
open PySem PySem.Spec PyProof.Rows Mth
variable {elt iter tg:Expr} {g:TG} {ifs:List Expr} {py C7:Pos} {te:TE} {yi:Nat}
theorem Ck:bootBuiltins "dict" = some (.type "dict"):=by decide +kernel
section
variable {X:Cx}
theorem Eb {y:Str} {scope:Scope} {pos:Pos} {wi:TI} {tt:TT} {N':List Str} {nt:Nat} {sl:List Nat} (hc:X.calm=true) (hi:PI X tg iter wi) (hg:∀ cl C s H ex,PG (bX X N' scope cl C s H ex) tg g) (ht:∀ cl C s H ex,Ft (bX X N' scope cl C s H ex) ifs tt) (he:∀ cl C s H ex,PE (bX X N' scope cl C s H ex) elt te) (K7:N'.length=nt+sl.length) (Jo:∀ k j:Nat,sl[k]?=some j->∃ x,N'[nt+k]?=some x/\X.N[j]?=some x/\scope.names.lookup x=some .free) (hk:scope.kind = .function) (gd:∀ y∈scope.names,y.2 ≠ .cell) (iW:∀ y∈scope.names,y.2 = .local->scope.names.lookup y.1=some .local) (iD:∀ y∈scope.names,y.2 = .free->X.env.kindOf y.1=some .cell∨X.env.kindOf y.1=some .free) (hN:X.N.Nodup) (Yq:X.N[yi]?=some y) (hy:Loc X.env.scope y) (hf:X.fn y=true∨X.env.scope.names.lookup y=some .local) (Rt:swapsWith (.ListComp elt [⟨tg,iter,ifs,0⟩] scope pos) (some (.Name y py)) C7.line X.env=pure true) (hs:∀ x,foldedSetIterable iter X.env x=pure x:=by intro _;rfl) :
   PS X (.Assign [.Name y py] (.ListComp elt [⟨tg,iter,ifs,0⟩] scope pos) C7) (E1 (u0 wi g tt te nt sl) (ye yi)):=by
 intro pins s U H DD I h
 rw [exec_Assign_Name_used _ _ _ _ Rt]
 refine abn (wpAny_standAt (abn ?_))
 show wpAny _ X.A (do let _ ← comprehension (.ListComp elt [⟨tg,iter,ifs,0⟩] scope pos) scope X.env _ (newList []) false (eval iter X.env) (some (assign (.Name y py) X.env))) _ _ s
 refine abn (adF (qE (use:=some (assign (.Name y py) X.env)) (Qp:=λ _ s'=>SP X pins DD .next s') hc hi hg ht he K7 Jo hk gd iW iD hs I h λ s6 H5 d c m J F hn q=>?_)
   (λ _ s' hq=>ac9 (ac9 hq)) λ _ _ e=>e)
 refine wpAny_assign_Name (qH (v:=.ref d) J hN Yq hy rfl (λ s7 I7 ⟨a,sb7,ha⟩=>?_) hf)
 have na:c≠a:=λ z=>by
   rcases ha with q|q
   . exact F.2.1 (z.trans q)
   . exact F.2.2.2.2.1 _ a q z.symm
 refine ⟨m,?_,λ h' sb=>?_⟩
 . obtain ⟨o,es,ep,ho,r⟩:=hn
   exact ⟨o,es,ep,(sb7.2 _ na).trans ho,r⟩
 . exact ⟨_,H5,I7.turned (t':=s7.toks) (λ b _ hb q=>(sb.2 b hb).trans q) F.1 F.2.1 F.2.2.2.1 F.2.2.2.2.1 F.2.2.2.2.2,q⟩
theorem pD {y:Str} {scope:Scope} {pos:Pos} {wi:TI} {tt:TT} (tn fr:List Str) (sl:List Nat) (hp:Paired (λ (j:Nat) (x:Str)=>X.N[j]?=some x/\scope.names.lookup x=some .free/\(X.env.kindOf x=some .cell∨X.env.kindOf x=some .free)) sl fr) (hc:X.calm=true) (hi:PI X tg iter wi) (hg:∀ cl C s H ex,PG (bX X (tn++fr) scope cl C s H ex) tg g) (ht:∀ cl C s H ex,Ft (bX X (tn++fr) scope cl C s H ex) ifs tt) (he:∀ cl C s H ex,PE (bX X (tn++fr) scope cl C s H ex) elt te) (hk:scope.kind = .function) (gd:∀ y∈scope.names,y.2 ≠ .cell) (iW:∀ y∈scope.names,y.2 = .local->scope.names.lookup y.1=some .local) (iD:∀ y∈scope.names,y.2 = .free->y.1∈fr) (hN:X.N.Nodup) (Yq:X.N[yi]?=some y) (hy:Loc X.env.scope y) (Rt:swapsWith (.ListComp elt [⟨tg,iter,ifs,0⟩] scope pos) (some (.Name y py)) C7.line X.env=pure true) (hf:X.fn y=true∨X.env.scope.names.lookup y=some .local:=by first|exact .inl rfl|exact .inr rfl|assumption) (hs:∀ x,foldedSetIterable iter X.env x=pure x:=by intro _;rfl) :
   PS X (.Assign [.Name y py] (.ListComp elt [⟨tg,iter,ifs,0⟩] scope pos) C7) (E1 (u0 wi g tt te tn.length sl) (ye yi)):=by
 have key:∀ {sl:List Nat} {fr:List Str},Paired (λ (j:Nat) (x:Str)=>X.N[j]?=some x/\scope.names.lookup x=some .free/\(X.env.kindOf x=some .cell∨X.env.kindOf x=some .free)) sl fr ->
     (∀ k j:Nat,sl[k]?=some j->∃ x,fr[k]?=some x/\X.N[j]?=some x/\scope.names.lookup x=some .free)/\∀ x∈fr,X.env.kindOf x=some .cell∨X.env.kindOf x=some .free:=by
   intro sl fr hp
   induction hp with
   | nil=>exact ⟨λ k j h=>by simp at h,λ x hx=>by simp at hx⟩
   | cons r t ih =>
     refine ⟨λ k j h=>?_,λ x hx=>?_⟩
     . cases k with
       | zero =>
         have e:_=j:=aba h
         subst e
         exact ⟨_,rfl,r.1,r.2.1⟩
       | succ k=>exact ih.1 k j (by simpa using h)
     . rcases List.mem_cons.mp hx with z|z
       . rw [z];exact r.2.2
       . exact ih.2 x z
 refine Eb (N':=tn++fr) hc hi hg ht he (by rw [aaD,hp.length]) (λ k j h=>?_) hk gd iW (λ y hy hf=>(key hp).2 _ (iD y hy hf)) hN Yq hy hf Rt hs
 obtain ⟨x,e1,e2⟩:=(key hp).1 k j h
 exact ⟨x,by rw [ade (adZ _ _),afs];exact e1,e2⟩
end
abbrev bQ:=Int×Int
structure al where
 most:Int
 gH:Int
 load:Int
 rows:List (List bQ)
 aY:Int->Int->Option bQ
 aX:List (bQ×bQ×bQ)
 ax:List (Option (bQ×Int×Int×Int))
abbrev kK (s:bQ×bQ×bQ):PyData:=.tuple [dE s.1,dE s.2.1,dE s.2.2]
abbrev fZ:Option (bQ×Int×Int×Int)->PyData
 | none => .none
 | some s => .tuple [dE s.1,.int s.2.1,.int s.2.2.1,.int s.2.2.2]
abbrev qg (r:List bQ):PyData:=.tuple (r.map dE)
def nU (m:al) (pm pf ps pt:Addr):List (Str×V) :=
 [("most",.int m.most),("cap",.int m.gH),("load",.int m.load),("mark_rows",.ref pm),("flows",.ref pf),("skies",.ref ps),("stoves",.ref pt)]
section
variable (m:al) (pm pf ps pt:Addr)
theorem ux:(nU m pm pf ps pt).lookup ("most" : Str)=some (.int m.most):=by rfl
theorem xF:(nU m pm pf ps pt).lookup ("cap" : Str)=some (.int m.gH):=by rfl
theorem BN:(nU m pm pf ps pt).lookup ("load" : Str)=some (.int m.load):=by rfl
theorem oy:(nU m pm pf ps pt).lookup ("mark_rows" : Str)=some (.ref pm):=by rfl
theorem mh:(nU m pm pf ps pt).lookup ("flows" : Str)=some (.ref pf):=by rfl
theorem iB:(nU m pm pf ps pt).lookup ("skies" : Str)=some (.ref ps):=by rfl
theorem kz:(nU m pm pf ps pt).lookup ("stoves" : Str)=some (.ref pt):=by rfl
end
def kC (K:W.Frag) (H:Hp):Option bQ->Option V->Prop
 | none,none=>True
 | some f,some v=>Dn K H (dE f) v
 | _,_=>False
abbrev fE (i j:Int):List Key:=[.inl i,.inl j]
def pN (aw:List (List Key×V)):Prop:=(aw.map (·.1)).Nodup/\∀ p∈aw,∃ i j:Nat,i<4/\j<4/\p.1=fE i j
end L2
namespace Mth
def nf (t b:Int):Int×Int:=(t.fdiv (Int.gcd t b:Nat),b.fdiv (Int.gcd t b:Nat))
theorem nY {r q s:Int} (h:r ∣ q * s) (c:Int.gcd q r=1):r ∣ s:=by
 have h1:r.natAbs ∣ q.natAbs * s.natAbs:=by rw [← aeO];exact Int.natAbs_dvd_natAbs.mpr h
 have h2:Nat.Coprime r.natAbs q.natAbs:=by rw [Nat.coprime_comm];exact c
 exact Int.natAbs_dvd_natAbs.mp (Nat.Coprime.dvd_of_dvd_mul_left h2 h1)
theorem Fr.uniq {t b q r q' r':Int} (hb:b≠0) (h:Fr t b q r) (k:Fr t b q' r'):q=q'/\r=r':=by
 have e:q * r'=q' * r:=by
   have e1:(q * r') * b=(q' * r) * b:=by
     have a1:=h.iy
     have a2:=k.iy
     calc (q * r') * b=(q * b) * r':=by rw [ac2]
       _=(t * r) * r':=by rw [a1]
       _=(t * r') * r:=by rw [ac2]
       _=(q' * b) * r:=by rw [a2]
       _=(q' * r) * b:=by rw [ac2]
   exact adA hb e1
 have d1:r ∣ r':=by
   have:r ∣ q * r':=⟨q',by rw [e,ad7]⟩
   exact nY this h.MK
 have d2:r' ∣ r:=by
   have:r' ∣ q' * r:=⟨q,by rw [← e,ad7]⟩
   exact nY this k.MK
 have er:r=r':=Int.dvd_antisymm (adD h.pos) (adD k.pos) d1 d2
 subst er
 exact ⟨adA (adW h.pos) e,rfl⟩
theorem ga {t b:Int} (hb:0<b):Fr t b (nf t b).1 (nf t b).2:=(BA (adW hb) rfl).2.2.1 hb
theorem Fr.nf {t b q r:Int} (hb:0<b) (h:Fr t b q r):(q,r)=nf t b:=by
 obtain ⟨e1,e2⟩:=h.uniq (adW hb) (ga hb)
 rw [e1,e2]
def jz (x y:Int×Int):Int×Int:=nf (x.1 * y.2+y.1 * x.2) (x.2 * y.2)
def kx (x y:Int×Int):Int×Int:=nf (x.1 * y.2 - y.1 * x.2) (x.2 * y.2)
def bv (x y:Int×Int):Bool:=decide (x.1 * y.2<y.1 * x.2)
structure dR (n:Nat) (f:Int×Int):Prop where
 t:Bd n f.1
 b:Bd n f.2
 p:0<f.2
theorem dR.mono {m n:Nat} {f:Int×Int} (h:dR m f) (l:m<=n):dR n f:=⟨h.t.mono l,h.b.mono l,h.p⟩
theorem dR.minus {m n:Nat} {x y:Int×Int} (h:dR m x) (k:dR n y):dR (m+n+1) (kx x y):=by
 have F:=ga (t:=x.1 * y.2 - y.1 * x.2) (b:=x.2 * y.2) (adi h.p k.p)
 have b1:Bd (m+n) (x.1 * y.2):=h.t.mul k.b
 have b2:Bd (m+n) (y.1 * x.2):=by rw [aem];exact k.t.mul h.b
 exact ⟨F.M0 (b1.sub b2),F.Na ((h.b.mul k.b).mono (ad9 _)),F.pos⟩
theorem dR.plus {m n:Nat} {x y:Int×Int} (h:dR m x) (k:dR n y):dR (m+n+1) (jz x y):=by
 have F:=ga (t:=x.1 * y.2+y.1 * x.2) (b:=x.2 * y.2) (adi h.p k.p)
 have b1:Bd (m+n) (x.1 * y.2):=h.t.mul k.b
 have b2:Bd (m+n) (y.1 * x.2):=by rw [aem];exact k.t.mul h.b
 exact ⟨F.M0 (b1.add b2),F.Na ((h.b.mul k.b).mono (ad9 _)),F.pos⟩
theorem At:dR 100 (0,1):=⟨(by decide:(_:Int).natAbs<_),(by decide:(_:Int).natAbs<_),by decide⟩
theorem aak:dR 100 (1,1):=⟨(by decide:(_:Int).natAbs<_),(by decide:(_:Int).natAbs<_),by decide⟩
end Mth
namespace L2
open PySem PySem.Spec PyProof.Rows Mth
variable {C dx p3 pf pm ps:Addr} {H H':Hp} {fp:List Addr} {o:HO} {v:V} {vm vt xs:List V}
structure al.Wf (m:al):Prop where
 rows:∀ r∈m.rows,∀ f∈r,dR 100 f
 len:∀ r∈m.rows,2<=r.length/\r.length<=7
 aY:∀ i j f,m.aY i j=some f->dR 100 f
 aX:∀ s∈m.aX,dR 100 s.1/\dR 100 s.2.1/\dR 100 s.2.2
 ax:∀ x,some x∈m.ax->dR 100 x.1
structure aM (K:W.Frag) (C:Addr) (H:Hp) (a:Addr) (fp:List Addr) (m:al):Prop where
 ex:∃ dx pm pf ps pt vm vs vt aw,fp=[a,dx,pm,pf,ps,pt]/\H a=some (.ins C dx (nU m pm pf ps pt))/\H dx=some (.own a)/\H pm=some (.lst vm)/\H pf=some (.dT aw)/\H ps=some (.lst vs)/\H pt=some (.lst vt) /\
   pm≠ps/\pm≠pt/\ps≠pt/\bI K H (m.rows.map qg) vm/\bI K H (m.aX.map kK) vs/\bI K H (m.ax.map fZ) vt/\(∀ i j,kC K H (m.aY i j) (fm aw (fE i j)))/\pN aw
 sk:m.aX.length=m.rows.length
 st:m.ax.length=m.rows.length
 mx:m.rows.length<=4
 wf:m.Wf
def lT (fp:List Addr) (H H':Hp):Prop:=∀ b o,H b=some o->b∉fp->H' b=some o
def al.eO (m:al) (i j:Nat):bQ:=(m.aY i j).getD (0,1)
def al.dZ (m:al) (i:Nat):bQ:=((m.aX[i]?).map (·.1)).getD (0,1)
def al.fu (m:al) (i n:Nat):bQ:=(List.range n).foldl (λ acc j=>kx acc (m.eO i j)) (kx (1,1) (m.dZ i))
def al.own (m:al) (i:Nat):bQ:=m.fu i m.rows.length
def al.share (m:al) (i j:Nat):bQ:=if i=j then m.own i else m.eO i j
theorem al.Wf.eO {m:al} (w:m.Wf) (i j:Nat):dR 100 (m.eO i j):=by
 unfold al.eO
 cases e:m.aY i j with
 | none=>exact At
 | some f=>exact w.aY i j f e
theorem al.Wf.dZ {m:al} (w:m.Wf) (i:Nat):dR 100 (m.dZ i):=by
 unfold al.dZ
 cases e:m.aX[i]? with
 | none=>exact At
 | some f=>exact (w.aX f (acU e)).1
theorem al.i3 (m:al) (i n:Nat):m.fu i (n+1)=kx (m.fu i n) (m.eO i n):=by
 unfold al.fu
 rw [adh,adw];rfl
theorem al.Wf.fu {m:al} (w:m.Wf) (i:Nat):∀ n,dR (201+101 * n) (m.fu i n)
 | 0=>(aak.minus (w.dZ i)).mono (by decide)
 | n+1=>by
   rw [al.i3]
   exact ((w.fu i n).minus (w.eO i n)).mono (by lia)
section
variable {K:W.Frag} {H:Hp} {v:V}
theorem Dn.ce {s:bQ×bQ×bQ} (h:Dn K H (kK s) v):∃ p v1 v2 v3,v = .ref p/\bU K H p [v1,v2,v3]/\Dn K H (dE s.1) v1/\Dn K H (dE s.2.1) v2/\Dn K H (dE s.2.2) v3:=by
 obtain ⟨p,xs,e,q,x1,r1,e1,d1,x2,r2,e2,d2,x3,r3,e3,d3,e4⟩:=h
 have e4:r3=[]:=e4
 subst e1 e2 e3 e4
 exact ⟨p,x1,x2,x3,e,q,d1,d2,d3⟩
theorem Ay {s:bQ×bQ×bQ} {p:Addr} {v1 v2 v3:V} (q:bU K H p [v1,v2,v3]) (d1:Dn K H (dE s.1) v1) (d2:Dn K H (dE s.2.1) v2) (d3:Dn K H (dE s.2.2) v3):Dn K H (kK s) (.ref p) :=
 ek q (aO d1 (aO d2 (aO d3 eM)))
theorem pi (s:bQ×bQ×bQ):c8 (kK s)=true:=by simp [kK,dE,c8]
theorem pR (s:Option (bQ×Int×Int×Int)):c8 (fZ s)=true:=by cases s<;>simp [fZ,dE,c8]
theorem uY (r:List bQ):c8 (qg r)=true:=jM.mpr λ d hd=>by
 obtain ⟨f,_,rfl⟩:=List.mem_map.mp hd
 exact gp f
theorem xc.fr {a:Addr} {f:bQ} (h:xc K a [.int f.1,.int f.2]):Dn K H (dE f) (.ref a):=ko (h.at H)
end
theorem au {α:Type} {l:List α} {i:Nat} (h:i<l.length):l[i]?=some l[i]:=ac8 h
theorem jO {α:Type} {xs:List α} {i:Nat} {v:α} (h:xs[i]?=some v):wO xs (i:Int)=some v:=cf h
theorem yd {K:W.Frag} {o:Option bQ} {r:Option V} {z:V} (h:kC K H o r) (hz:Dn K H (dE (0,1)) z):Dn K H (dE (o.getD (0,1))) (r.getD z):=by
 cases o with
 | none=>cases r with
   | none=>exact hz
   | some v=>exact (show False from h).elim
 | some f=>cases r with
   | none=>exact (show False from h).elim
   | some v=>exact h
inductive De  (vs:List V) (H:Hp) (Q:VK) (_E:XK):Prop
 | mk (n g:Int) (_:vs=[.int n,.int g]) (_:Q (.bl (decide (0<=n/\n<=g))) H)
section
variable (K:W.Frag) (C:Addr)
inductive Ed  (vs:List V) (H:Hp) (Q:VK) (_E:XK):Prop
 | mk (a fp m:_) (_:vs=[.ref a]) (_:aM K C H a fp m) (_:Q (ar m.rows.length) H)
inductive uy  (vs:List V) (H:Hp) (Q:VK) (_E:XK):Prop
 | mk (a fp m:_) (i:Nat) (_:vs=[.ref a,ar i]) (_:aM K C H a fp m) (_:i<m.rows.length) (_:Q .cR H)
inductive HL  (vs:List V) (H:Hp) (Q:VK) (_E:XK):Prop
 | mk (a fp m:_) (i:Nat) (s:_) (_:vs=[.ref a,ar i]) (_:aM K C H a fp m) (_:m.aX[i]?=some s) (_:∀ v,Dn K H (kK s) v->Q v H)
inductive Af  (vs:List V) (H:Hp) (Q:VK) (_E:XK):Prop
 | mk (a fp m:_) (i:Nat) (s:_) (_:vs=[.ref a,ar i]) (_:aM K C H a fp m) (_:m.ax[i]?=some s) (_:∀ v,Dn K H (fZ s) v->Q v H)
inductive BY  (vs:List V) (H:Hp) (Q:VK) (_E:XK):Prop
 | mk (a fp m:_) (i:Nat) (r:_) (_:vs=[.ref a,ar i]) (_:aM K C H a fp m) (_:m.rows[i]?=some r) (_:∀ p xs,H p=none->bI K H (r.map dE) xs->Q (.ref p) (upd H p (.lst xs)))
inductive Gq  (vs:List V) (H:Hp) (Q:VK) (_E:XK):Prop
 | mk (a fp m:_) (i:Nat) (_:vs=[.ref a,ar i]) (_:aM K C H a fp m) (_:i<m.rows.length) (_:∀ v H',aA H H'->Dn K H' (dE (m.own i)) v->Q v H')
inductive Be  (vs:List V) (H:Hp) (Q:VK) (_E:XK):Prop
 | mk (a fp m:_) (i j:Nat) (_:vs=[.ref a,ar i,ar j]) (_:aM K C H a fp m) (_:i<m.rows.length) (_:j<m.rows.length) (_:∀ v H',aA H H'->Dn K H' (dE (m.share i j)) v->Q v H')
end
theorem aM.same {K:W.Frag} {a:Addr} {m:al} (s:aA H H') (h:aM K C H a fp m):aM K C H' a fp m:=by
 obtain ⟨⟨dx,pm,pf,ps,pt,vm,vs,vt,aw,e,ha,jo,eK,gG,eL,eQ,n1,n2,n3,dm,ds,dt,df,fk⟩,q1,q2,q3,q4⟩:=h
 refine ⟨⟨dx,pm,pf,ps,pt,vm,vs,vt,aw,e,s _ _ ha,s _ _ jo,s _ _ eK,s _ _ gG,s _ _ eL,s _ _ eQ,n1,n2,n3,bI.same s _ dm,bI.same s _ ds,bI.same s _ dt,λ i j=>?_,fk⟩,q1,q2,q3,q4⟩
 have:=df i j
 revert this
 cases m.aY i j<;>cases fm aw (fE i j)<;>intro q
 . exact q
 . exact q
 . exact q
 . exact Dn.same s _ q
theorem sK {n i:Nat} (h:i<n):xv n (i:Int)=some i:=by
 unfold xv
 rw [abS (by lia),abS (by lia),adB]
theorem Ic {x y z t:V}:[x,y,z,t].length<=sizeLine:=by show 4<=sizeLine;decide
theorem Ke {x:V}:[x].length<=sizeLine:=by show 1<=sizeLine;decide
theorem qB {α:Type} [DecidableEq α]:∀ (l L:List α),l.Nodup->(∀ x∈l,x∈L)->l.length<=L.length
 | [],_,_,_=>adm _
 | x::l,L,hn,hs=>by
   obtain ⟨h1,h2⟩:=List.nodup_cons.mp hn
   have hx:=hs x acY
   have:=qB l (L.erase x) h2 λ y hy=>(List.mem_erase_of_ne (λ e=>h1 (by rw [← e];exact hy))).mpr (hs y (acV _ hy))
   rw [List.length_erase_of_mem hx] at this
   have hp:=List.length_pos_of_mem hx
   rw [acX]
   lia
def EU:List (List Key):=(List.range 4).flatMap λ (i:Nat)=>(List.range 4).map λ (j:Nat)=>fE (i:Int) (j:Int)
theorem pN.len {aw:List (List Key×V)} (h:pN aw):aw.length<=16:=by
 have:=qB (aw.map (·.1)) EU h.1 λ x hx=>by
   obtain ⟨p,hp,rfl⟩:=List.mem_map.mp hx
   obtain ⟨i,j,hi,hj,e⟩:=h.2 p hp
   rw [e]
   exact List.mem_flatMap.mpr ⟨i,List.mem_range.mpr hi,List.mem_map.mpr ⟨j,List.mem_range.mpr hj,rfl⟩⟩
 rw [xq] at this
 exact adf this (by decide)
theorem pN.put {aw:List (List Key×V)} (h:pN aw) {i j:Nat} (hi:i<4) (hj:j<4) (v:V):pN (putK aw (fE i j) v):=by
 refine ⟨?_,λ p hp=>?_⟩
 .
  cases e:fm aw (fE i j) with
  | none=>exact DK v h.1 e
  | some y =>
    have hc:(aw.any λ kv=>decide (kv.1=fE i j))=true:=by
      unfold fm at e
      cases q:aw.find? λ kv=>decide (kv.1=fE i j) with
      | none=>rw [q] at e;cases e
      | some z=>have q2:=List.find?_some q;exact List.any_eq_true.mpr ⟨z,List.mem_of_find?_eq_some q,q2⟩
    unfold putK
    rw [abS hc,ae1]
    have:((λ x:List Key×V=>x.1) ∘ λ kv:List Key×V=>if kv.1=fE i j then (kv.1,v) else kv)=λ x=>x.1:=by
      funext x
      show (if x.1=fE i j then (x.1,v) else x).1=x.1
      split<;>rfl
    rw [this]
    exact h.1
 .
  unfold putK at hp
  split at hp
  . obtain ⟨z,hz,rfl⟩:=List.mem_map.mp hp
    obtain ⟨a,b,ha,hb,e⟩:=h.2 z hz
    refine ⟨a,b,ha,hb,?_⟩
    split<;>exact e
  .
   rcases List.mem_append.mp hp with hp|hp
   . exact h.2 p hp
   . have:p=(fE i j,v):=by simpa using hp
     subst this
     exact ⟨i,j,hi,hj,rfl⟩
theorem u9 {i j i' j':Int} (h:fE i j=fE i' j'):i=i'/\j=j':=by
 simp only [fE,afd,Sum.inl.injEq,and_true] at h
 exact h
def al.dJ (m:al) (i j:Nat) (f:bQ):al:={ m with aY:=λ a b=>if a=(i:Int)/\b=(j:Int) then some f else m.aY a b }
def al.e8 (m:al) (i:Nat) (s:bQ×bQ×bQ):al:={ m with aX:=m.aX.set i s }
def al.fV (m:al) (i:Nat) (s:bQ×Int×Int×Int):al:={ m with ax:=m.ax.set i (some s)}
def al.bG (m:al) (r:List bQ):al:={ m with rows:=m.rows++[r],aX:=m.aX++[((0,1),(0,1),(0,1))],ax:=m.ax++[none]}
def al.new (most gH load:Int):al:=⟨most,gH,load,[],λ _ _=>none,[],[]⟩
structure nF (K:W.Frag) (C:Addr) (H:Hp) (a:Addr) (fp:List Addr) (m':al) (H':Hp) (m7:List Addr):Prop where
 at_:aM K C H' a m7 m'
 but:lT fp H H'
 ts:bg K H H'
 own:∀ b∈m7,b∈fp∨H b=none
theorem kC.ts {K:W.Frag} (s:bg K H H'):∀ {o:Option bQ} {v:Option V},kC K H o v->kC K H' o v
 | none,none,_=>trivial
 | some f,some v,h=>Dn.ts s _ (gp f) h
 | none,some _,h=>h
 | some _,none,h=>h
theorem kP {K:W.Frag} {rs:List (List bQ)} (s:bg K H H') (h:bI K H (rs.map qg) xs):bI K H' (rs.map qg) xs:=bI.ts s _ (λ d hd=>by obtain ⟨r,_,rfl⟩:=List.mem_map.mp hd;exact uY r) h
theorem jJ {K:W.Frag} {rs:List (bQ×bQ×bQ)} (s:bg K H H') (h:bI K H (rs.map kK) xs):bI K H' (rs.map kK) xs:=bI.ts s _ (λ d hd=>by obtain ⟨r,_,rfl⟩:=List.mem_map.mp hd;exact pi r) h
theorem iA {K:W.Frag} {rs:List (Option (bQ×Int×Int×Int))} (s:bg K H H') (h:bI K H (rs.map fZ) xs):bI K H' (rs.map fZ) xs:=bI.ts s _ (λ d hd=>by obtain ⟨r,_,rfl⟩:=List.mem_map.mp hd;exact pR r) h
def nZ (r:List bQ):Bool:=(List.zipWith bv r r.tail).all id
def i7 (rs:List (List bQ)):Int:=rs.foldl (λ p r=>p * ((r.length:Int) - 1)) 1
section
variable (K:W.Frag) (C:Addr)
inductive DV  (vs:List V) (H:Hp) (Q:VK) (_E:XK):Prop
 | mk (a fp m:_) (i:Nat) (v1 v2 f g:_) (_:vs=[.ref a,ar i,v1,v2]) (_:aM K C H a fp m) (_:i<m.rows.length) (_:Dn K H (dE f) v1) (_:Dn K H (dE g) v2) (_:dR 100 f) (_:dR 100 g) (_:0<=f.1) (_:bv (jz (m.own i) g) f=false) (_:∀ H',aA H H'->Q .cR H')
inductive uw  (vs:List V) (H:Hp) (Q:VK) (_E:XK):Prop
 | mk (a fp m:_) (i j:Nat) (v f:_) (_:vs=[.ref a,ar i,ar j,v]) (_:aM K C H a fp m) (_:i<m.rows.length) (_:j<m.rows.length) (_:i≠j) (_:Dn K H (dE f) v) (_:dR 100 f) (_:0<=f.1) (_:bv (jz (m.own i) (m.eO i j)) f=false) (_:∀ H' m7,nF K C H a fp (m.dJ i j f) H' m7->Q .cR H')
inductive wr  (vs:List V) (H:Hp) (Q:VK) (_E:XK):Prop
 | mk (a fp m:_) (i:Nat) (v1 v2 v3 f lo hi:_) (_:vs=[.ref a,ar i,v1,v2,v3]) (_:aM K C H a fp m) (_:i<m.rows.length) (_:Dn K H (dE f) v1) (_:Dn K H (dE lo) v2) (_:Dn K H (dE hi) v3) (_:dR 100 f) (_:dR 100 lo) (_:dR 100 hi) (_:bv hi lo=false) (_:0<=f.1) (_:bv (jz (m.own i) (m.dZ i)) f=false) (_:∀ H' m7,nF K C H a fp (m.e8 i (f,lo,hi)) H' m7->Q .cR H')
inductive kN  (vs:List V) (H:Hp) (Q:VK) (_E:XK):Prop
 | mk (a fp m:_) (i:Nat) (v f:_) (w st fl:Int) (_:vs=[.ref a,ar i,v,.int w,.int st,.int fl]) (_:aM K C H a fp m) (_:i<m.rows.length) (_:Dn K H (dE f) v) (_:dR 100 f) (_:0<=f.1) (_:(0<=w/\w<=9)) (_:(0<=st/\st<=3)) (_:(0<=fl/\fl<=3)) (_:∀ H' m7,nF K C H a fp (m.fV i (f,w,st,fl)) H' m7->Q .cR H')
inductive zr  (vs:List V) (H:Hp) (Q:VK) (_E:XK):Prop
 | mk (p xs r:_) (_:vs=[.ref p]) (_:aV K H p xs) (_:bI K H (r.map dE) xs) (_:(∀ f∈r,dR 100 f)) (_:r.length<=7) (_:∀ H',aA H H'->Q (.bl (nZ r)) H')
inductive AV  (vs:List V) (H:Hp) (Q:VK) (_E:XK):Prop
 | mk (p xs rs:_) (_:vs=[.ref p]) (_:aV K H p xs) (_:bI K H (rs.map qg) xs) (_:rs.length<=5) (_:(∀ r∈rs,1<=r.length/\r.length<=7)) (_:Q (.int (i7 rs)) H)
inductive uj  (vs:List V) (H:Hp) (Q:VK) (_E:XK):Prop
 | mk (a fp m p xs r:_) (_:vs=[.ref a,.ref p]) (_:aM K C H a fp m) (_:m.rows.length<4) (_:aV K H p xs) (_:bI K H (r.map dE) xs) (_:(∀ f∈r,dR 100 f)) (_:2<=r.length) (_:r.length<=7) (_:nZ r=true) (_:i7 (m.rows++[r])<=400) (_:∀ H' m7,nF K C H a fp (m.bG r) H' m7->Q (ar m.rows.length) H')
inductive yh  (vs:List V) (H:Hp) (Q:VK) (_E:XK):Prop
 | mk (x dx:_) (most gH load:Int) (_:vs=[.ref x,.int most,.int gH,.int load]) (_:H x=some (.ins C dx [])) (_:H dx=some (.own x)) (_:(0<=most/\most<=4)) (_:(0<=gH/\gH<=30)) (_:(0<=load/\load<=30)) (_:∀ H' m7,nF K C H x [x,dx] (al.new most gH load) H' m7->Q .cR H')
end
theorem bj {a b:Addr} {u:HO} (h:H a=some o) (k:H b=some u) (n:o≠u):a≠b:=λ e=>by
 subst e
 rw [h] at k
 exact n (aba k)
theorem n8 {m:al} {wA pt zG tH gy oV:Addr} (h:some (HO.ins C dx (nU m pm pf ps pt))=some (HO.ins C wA (nU m zG tH gy oV))):dx=wA/\pm=zG/\pf=tH/\ps=gy/\pt=oV:=by
 simp only [nU,Option.some.injEq,HO.ins.injEq,afd,Prod.mk.injEq,afP,and_true,V.ref.injEq] at h
 exact h
theorem lT.same (s:aA H H'):lT fp H H':=λ b o h _=>s b o h
theorem lT.upd {p:Addr} (b:lT fp H H') (hp:p∈fp):lT fp H (upd H' p o):=λ c u h n=>by
 rw [av (λ e=>n (by rw [e];exact hp))]
 exact b c u h n
section
variable {K:W.Frag} {C:Addr} {H H1:Hp} {a:Addr} {fp:List Addr} {m:al}
theorem zj {pt:Addr} {aw:List (List Key×V)} {i j:Nat} {f:bQ} (hh:aM K C H a fp m) (s:aA H H1) (ha:H a=some (.ins C dx (nU m pm pf ps pt))) (gG:H pf=some (.dT aw)) (hi:i<4) (hj:j<4) (d:Dn K H1 (dE f) v) (o:dR 100 f):nF K C H a fp (m.dJ i j f) (upd H1 pf (.dT (putK aw (fE i j) v))) fp:=by
 obtain ⟨⟨wA,zG,tH,gy,oV,vm,vs,vt,oE,mX,tF,jo,eK,lg,eL,eQ,n1,n2,n3,dm,ds,dt,df,fk⟩,q1,q2,q3,q4⟩:=hh
 obtain ⟨rfl,rfl,rfl,rfl,rfl⟩:=n8 (tF.symm.trans ha)
 obtain rfl:oE=aw:=by
   have:=lg.symm.trans gG
   injection this with e
   injection e
 have t1:bg K H1 (upd H1 tH (.dT (putK oE (fE i j) v))):=bZ (s _ _ lg) rfl
 have t0:=(aA.ts (K:=K) s).trans t1
 have w:∀ {b o},H b=some o->o ≠ .dT oE->(upd H1 tH (.dT (putK oE (fE i j) v))) b=some o:=λ h n=>by
   rw [av (bj h lg n)]
   exact s _ _ h
 refine ⟨⟨⟨wA,zG,tH,gy,oV,vm,vs,vt,putK oE (fE i j) v,mX,w tF nofun,w jo nofun,w eK nofun,ag,w eL nofun,w eQ nofun,n1,n2,n3,kP t0 dm,jJ t0 ds,iA t0 dt,λ i' j'=>?_,fk.put hi hj v⟩,q1,q2,q3,⟨q4.rows,q4.len,λ i' j' g hg=>?_,q4.aX,q4.ax⟩⟩,(lT.same s).upd (by rw [mX];simp),t0,λ b hb => .inl hb⟩
 .
  rw [uc]
  by_cases e:i'=(i:Int)/\j'=(j:Int)
  . show kC K _ (if i'=(i:Int)/\j'=(j:Int) then some f else m.aY i' j') _
    rw [abS e,abS (by rw [e.1,e.2])]
    exact Dn.ts t1 _ (gp f) d
  . show kC K _ (if i'=(i:Int)/\j'=(j:Int) then some f else m.aY i' j') _
    rw [abZ e,abZ (λ z=>e (u9 z))]
    exact (df i' j').ts t0
 .
  have hg:(if i'=(i:Int)/\j'=(j:Int) then some f else m.aY i' j')=some g:=hg
  split at hg
  . cases hg
    exact o
  . exact q4.aY i' j' g hg
theorem Ah {pt:Addr} {vs:List V} {i:Nat} {z:bQ×bQ×bQ} (hh:aM K C H a fp m) (s:aA H H1) (ha:H a=some (.ins C dx (nU m pm pf ps pt))) (eL:H ps=some (.lst vs)) (d:Dn K H1 (kK z) v) (o:dR 100 z.1/\dR 100 z.2.1/\dR 100 z.2.2):nF K C H a fp (m.e8 i z) (upd H1 ps (.lst (vs.set i v))) fp:=by
 obtain ⟨⟨wA,zG,tH,gy,oV,vm,zC,vt,oE,mX,tF,jo,eK,lg,qh,eQ,n1,n2,n3,dm,ds,dt,df,fk⟩,q1,q2,q3,q4⟩:=hh
 obtain ⟨rfl,rfl,rfl,rfl,rfl⟩:=n8 (tF.symm.trans ha)
 obtain rfl:zC=vs:=by
   have:=qh.symm.trans eL
   injection this with e
   injection e
 have t1:bg K H1 (upd H1 gy (.lst (zC.set i v))):=bZ (s _ _ qh) rfl
 have t0:=(aA.ts (K:=K) s).trans t1
 have w:∀ {b o},H b=some o->b≠gy->(upd H1 gy (.lst (zC.set i v))) b=some o:=λ h n=>by
   rw [av n]
   exact s _ _ h
 refine ⟨⟨⟨wA,zG,tH,gy,oV,vm,zC.set i v,vt,oE,mX,w tF (bj tF eL nofun),w jo (bj jo eL nofun),w eK n1,w lg (bj lg eL nofun),ag,w eQ n3.symm,n1,n2,n3,kP t0 dm,?_,iA t0 dt,λ i' j'=>(df i' j').ts t0,fk⟩,?_,q2,q3,⟨q4.rows,q4.len,q4.aY,λ y hy=>?_,q4.ax⟩⟩,(lT.same s).upd (by rw [mX];simp),t0,λ b hb => .inl hb⟩
 . show bI K _ ((m.aX.set i z).map kK) _
   rw [aeK]
   exact bI.set (i:=i) (jJ t0 ds) (Dn.ts t1 _ (pi z) d)
 . show (m.aX.set i z).length=_
   rw [adz];exact q1
 . rcases aeq hy with h|h
   . exact q4.aX y h
   . rw [h];exact o
theorem wK {pt:Addr} {i:Nat} {z:bQ×Int×Int×Int} (hh:aM K C H a fp m) (s:aA H H1) (ha:H a=some (.ins C dx (nU m pm pf ps pt))) (eQ:H pt=some (.lst vt)) (d:Dn K H1 (fZ (some z)) v) (o:dR 100 z.1):nF K C H a fp (m.fV i z) (upd H1 pt (.lst (vt.set i v))) fp:=by
 obtain ⟨⟨wA,zG,tH,gy,oV,vm,zC,Cb,oE,mX,tF,jo,eK,lg,qh,CP,n1,n2,n3,dm,ds,dt,df,fk⟩,q1,q2,q3,q4⟩:=hh
 obtain ⟨rfl,rfl,rfl,rfl,rfl⟩:=n8 (tF.symm.trans ha)
 obtain rfl:Cb=vt:=by
   have:=CP.symm.trans eQ
   injection this with e
   injection e
 have t1:bg K H1 (upd H1 oV (.lst (Cb.set i v))):=bZ (s _ _ CP) rfl
 have t0:=(aA.ts (K:=K) s).trans t1
 have w:∀ {b o},H b=some o->b≠oV->(upd H1 oV (.lst (Cb.set i v))) b=some o:=λ h n=>by
   rw [av n]
   exact s _ _ h
 refine ⟨⟨⟨wA,zG,tH,gy,oV,vm,zC,Cb.set i v,oE,mX,w tF (bj tF eQ nofun),w jo (bj jo eQ nofun),w eK n2,w lg (bj lg eQ nofun),w qh n3,ag,n1,n2,n3,kP t0 dm,jJ t0 ds,?_,λ i' j'=>(df i' j').ts t0,fk⟩,q1,?_,q3,⟨q4.rows,q4.len,q4.aY,q4.aX,λ y hy=>?_⟩⟩,(lT.same s).upd (by rw [mX];simp),t0,λ b hb => .inl hb⟩
 . show bI K _ ((m.ax.set i (some z)).map fZ) _
   rw [aeK]
   exact bI.set (i:=i) (iA t0 dt) (Dn.ts t1 _ (pR (some z)) d)
 . show (m.ax.set i (some z)).length=_
   rw [adz];exact q2
 . rcases aeq hy with h|h
   . exact q4.ax y h
   . cases h;exact o
end
theorem Bq (xs:List V):mE xs (some 1) none=xs.tail:=by
 have e:HT.qm xs.length 0 (some 1)=min 1 xs.length:=HT.Cz _ _ 1
 unfold mE
 rw [e,HT.AQ]
 cases xs with
 | nil=>rfl
 | cons x l =>
   have:min 1 (x::l).length=1:=by simp
   rw [this]
   simp
theorem aA.put {D:Addr} (s:aA H H') (h:H D=none):aA H (upd H' D o):=λ b u e=>by
 rw [av (aq e h)]
 exact s b u e
theorem wV {r:List bQ} {i:Nat} {x y:bQ} (hx:r[i]?=some x) (hy:r[i+1]?=some y):(List.zipWith bv r r.tail)[i]?=some (bv x y):=by
 rw [afD,hx]
 have:r.tail[i]?=some y:=by rw [aeV];exact hy
 rw [this]
section
variable {K:W.Frag} {C:Addr} {H H1:Hp} {a:Addr} {fp:List Addr} {m:al}
theorem ym {pt kt q0 N:Addr} {vs:List V} {r:List bQ} (hh:aM K C H a fp m) (s:aA H H1) (ha:H a=some (.ins C dx (nU m pm pf ps pt))) (eK:H pm=some (.lst vm)) (eL:H ps=some (.lst vs)) (eQ:H pt=some (.lst vt)) (hn:H p3=none) (Fe:H1 p3=some (.lst (vm++[.ref kt]))) (dr:Dn K H1 (qg r) (.ref kt)) (mP:m.rows.length<4) (hr:∀ f∈r,dR 100 f) (hl:2<=r.length/\r.length<=7) (dN:∀ H',Dn K H' (dE (0,1)) (.ref N)) (yQ:upd H1 a (.ins C dx (bC "mark_rows" (.ref p3) (nU m pm pf ps pt))) q0=none) :
   ∃ m7,nF K C H a fp (m.bG r) (upd (upd (upd (upd H1 a (.ins C dx (bC "mark_rows" (.ref p3) (nU m pm pf ps pt)))) q0 (.tup [.ref N,.ref N,.ref N])) ps (.lst (vs++[.ref q0]))) pt (.lst (vt++[.cR]))) m7:=by
 obtain ⟨⟨wA,zG,tH,gy,oV,vm',zC,Cb,oE,mX,tF,jo,QE,lg,qh,CP,n1,n2,n3,dm,ds,dt,df,fk⟩,q1,q2,q3,q4⟩:=hh
 obtain ⟨rfl,rfl,rfl,rfl,rfl⟩:=n8 (tF.symm.trans ha)
 obtain rfl:vm'=vm:=by
   have:=QE.symm.trans eK
   injection this with e
   injection e
 obtain rfl:zC=vs:=by
   have:=qh.symm.trans eL
   injection this with e
   injection e
 obtain rfl:Cb=vt:=by
   have:=CP.symm.trans eQ
   injection this with e
   injection e
 let H2:=upd H1 a (.ins C wA (bC "mark_rows" (.ref p3) (nU m zG tH gy oV)))
 let H3:=upd H2 q0 (.tup [.ref N,.ref N,.ref N])
 let H4:=upd H3 gy (.lst (zC++[.ref q0]))
 let H5:=upd H4 oV (.lst (Cb++[.cR]))
 have w2:∀ {b o},H1 b=some o->b≠a->H2 b=some o:=λ h n=>by show upd _ _ _ _=_;rw [av n];exact h
 have s3:aA H2 H3:=ai yQ
 have na:H2 a=some (.ins C wA (bC "mark_rows" (.ref p3) (nU m zG tH gy oV))):=ag
 have Mf:=bj tF eL nofun
 have Mp:=bj tF eQ nofun
 have J5:H2 gy=some (.lst zC):=w2 (s _ _ eL) Mf.symm
 have X5:H2 oV=some (.lst Cb):=w2 (s _ _ eQ) Mp.symm
 have UC:=s3 _ _ J5
 have Sa:=s3 _ _ X5
 have Ys:H4 oV=some (.lst Cb):=by show upd _ _ _ _=_;rw [av n3.symm];exact Sa
 have t12:bg K H1 H2:=bZ (s _ _ tF) rfl
 have t34:bg K H3 H4:=bZ UC rfl
 have MS:bg K H4 H5:=bZ Ys rfl
 have t35:=t34.trans MS
 have t15:=t12.trans ((aA.ts s3).trans t35)
 have J2:=(aA.ts (K:=K) s).trans t15
 have w5:∀ {b o},H2 b=some o->b≠gy->b≠oV->H5 b=some o:=λ h x y=>by
   show upd _ _ _ _=_
   rw [av y]
   show upd _ _ _ _=_
   rw [av x]
   exact s3 _ _ h
 have wo:∀ {b o},H b=some o->b≠a->b≠gy->b≠oV->H5 b=some o:=λ h x y z=>w5 (w2 (s _ _ h) x) y z
 have p3a:p3≠a:=(aq tF hn).symm
 have p3s:p3≠gy:=(aq eL hn).symm
 have p3t:p3≠oV:=(aq eQ hn).symm
 have q0s:q0≠gy:=(aq J5 yQ).symm
 have abv:H5 gy=some (.lst (zC++[.ref q0])):=by
   show upd _ _ _ _=_
   rw [av n3]
   exact ag
 refine ⟨[a,wA,p3,tH,gy,oV],⟨⟨wA,p3,tH,gy,oV,vm'++[.ref kt],zC++[.ref q0],Cb++[.cR],oE,rfl,?_,wo jo (bj jo tF nofun) (bj jo eL nofun) (bj jo eQ nofun),w5 (w2 Fe p3a) p3s p3t,wo lg (bj lg tF nofun) (bj lg eL nofun) (bj lg eQ nofun),abv,ag,p3s,p3t,n3,?_,?_,?_,λ i j=>(df i j).ts J2,fk⟩,?_,?_,?_,?_⟩,?_,J2,?_⟩
 . exact w5 na Mf Mp
 . show bI K H5 ((m.rows++[r]).map qg) _
   rw [My]
   exact (kP J2 dm).snoc (Dn.ts t15 _ (uY r) dr)
 . show bI K H5 ((m.aX++[((0,1),(0,1),(0,1))]).map kK) _
   rw [My]
   exact (jJ J2 ds).snoc (Dn.ts t35 _ (pi _) (Ay (s:=((0,1),(0,1),(0,1))) (bU.of ag) (dN _) (dN _) (dN _)))
 . show bI K H5 ((m.ax++[none]).map fZ) _
   rw [My]
   exact (iA J2 dt).snoc rfl
 . show (m.aX++[_]).length=(m.rows++[r]).length
   rw [aaD,aaD,q1];rfl
 . show (m.ax++[_]).length=(m.rows++[r]).length
   rw [aaD,aaD,q2];rfl
 . show (m.rows++[r]).length<=4
   rw [aaD];exact mP
 .
  refine ⟨λ x hx=>?_,λ x hx=>?_,q4.aY,λ x hx=>?_,λ x hx=>?_⟩
  . rcases List.mem_append.mp hx with h|h
    . exact q4.rows x h
    . rw [List.mem_singleton.mp h];exact hr
  . rcases List.mem_append.mp hx with h|h
    . exact q4.len x h
    . rw [List.mem_singleton.mp h];exact hl
  . rcases List.mem_append.mp hx with h|h
    . exact q4.aX x h
    . rw [List.mem_singleton.mp h];exact ⟨At,At,At⟩
  . rcases List.mem_append.mp hx with h|h
    . exact q4.ax x h
    . cases List.mem_singleton.mp h
 .
  intro b o h n
  rw [mX] at n
  simp only [abt,T1,adj,aeb] at n
  exact wo h n.1 n.2.2.2.2.1 n.2.2.2.2.2
 .
  intro b hb
  rw [mX]
  simp only [abt,T1,adj] at hb ⊢
  rcases hb with rfl|rfl|rfl|rfl|rfl|rfl
  . exact .inl (.inl rfl)
  . exact .inl (.inr (.inl rfl))
  . exact .inr hn
  . exact .inl (.inr (.inr (.inr (.inl rfl))))
  . exact .inl (.inr (.inr (.inr (.inr (.inl rfl)))))
  . exact .inl (.inr (.inr (.inr (.inr (.inr rfl)))))
end
structure jL (K:W.Frag) (C x dx:Addr) (H H':Hp) (fs:List (Str×V)):Prop where
 st:∀ b o,H b=some o->b≠x->H' b=some o
 ts:bg K H H'
 at_:H' x=some (.ins C dx fs)
section
variable {K:W.Frag} {C x dx:Addr} {H H':Hp} {fs fs':List (Str×V)}
theorem jL.start (h:H x=some (.ins C dx fs)):jL K C x dx H H fs:=⟨λ _ _ h _=>h,bg.refl _,h⟩
theorem jL.put (B:jL K C x dx H H' fs):jL K C x dx H (upd H' x (.ins C dx fs')) fs':=⟨λ b o h n=>by rw [av n];exact B.st b o h n,B.ts.trans (bZ B.at_ rfl),ag⟩
theorem jL.new {p:Addr} (B:jL K C x dx H H' fs) (hp:H' p=none):jL K C x dx H (upd H' p o) fs:=⟨λ b u h n=>by rw [av (aq (B.st b u h n) hp)];exact B.st b u h n,B.ts.trans (aA.ts (ai hp)),by rw [av (aq B.at_ hp)];exact B.at_⟩
theorem jL.keep {b:Addr} {u:HO} (B:jL K C x dx H H' fs) (h:H' b=some o) (n:b≠x):(upd H' x u) b=some o:=by rw [av n];exact h
theorem jL.none {p:Addr} (B:jL K C x dx H H' fs) (hp:H' p=none):H p=Option.none:=by
 cases e:H p with
 | none=>rfl
 | some o =>
   by_cases q:p=x
   . rw [q,B.at_] at hp;cases hp
   . rw [B.st p o e q] at hp;cases hp
theorem jL.ne {p:Addr} (B:jL K C x dx H H' fs) (hp:H' p=Option.none):p≠x:=λ q=>by rw [q,B.at_] at hp;cases hp
theorem xO {α:Type} {p:α->Prop} (x:α) (h:x∈([]:List α)):p x:=absurd h T1
theorem BJ {p1 p2 p4:Addr} {most gH load:Int} (B:jL K C x dx H H' (nU (al.new most gH load) p1 p2 p3 p4)) (hx:H x=some (.ins C dx fs')) (jo:H dx=some (.own x)) (h1:H' p1=some (.lst [])) (h2:H' p2=some (.dT [])) (h3:H' p3=some (.lst [])) (h4:H' p4=some (.lst [])) (n1:H p1=none) (n2:H p2=none) (n3:H p3=none) (n4:H p4=none) (e1:p1≠p3) (e2:p1≠p4) (e3:p3≠p4) :
   nF K C H x [x,dx] (al.new most gH load) H' [x,dx,p1,p2,p3,p4]:=by
 refine ⟨⟨⟨dx,p1,p2,p3,p4,[],[],[],[],rfl,B.at_,B.st _ _ jo (bj jo hx nofun),h1,h2,h3,h4,e1,e2,e3,rfl,rfl,rfl,λ _ _=>trivial,aep,xO⟩,rfl,rfl,adm _,⟨xO,xO,λ _ _ _ h=>(by cases h),xO,λ _ h=>absurd h T1⟩⟩,?_,B.ts,?_⟩
 . intro b o h n
   simp only [abt,T1,adj,aeb] at n
   exact B.st b o h n.1
 .
  intro b hb
  simp only [abt,T1,adj] at hb ⊢
  rcases hb with rfl|rfl|rfl|rfl|rfl|rfl
  . exact .inl (.inl rfl)
  . exact .inl (.inr rfl)
  . exact .inr n1
  . exact .inr n2
  . exact .inr n3
  . exact .inr n4
end
theorem lt1000 {n:Nat} (h:Nat.ble (n+1) 1000=true):n<1000:=aeJ h
def al.with (m:al) (x y z:Option Int):al:={ m with most:=x.getD m.most,gH:=y.getD m.gH,load:=z.getD m.load }
theorem vi {ns:List Int} {r:Int} (h0:0<=r) (h1:r<ns.length):∃ z∈ns,wO (ns.map V.int) r=some (.int z):=by
 have hl:r.toNat<ns.length:=by lia
 have e:(ns.map V.int)[r.toNat]?=some (.int (ns[r.toNat]'hl)):=by simp [hl]
 have e2:=cf e
 rw [ad3 h0] at e2
 exact ⟨_,aaY hl,e2⟩
inductive EY  (vs:List V) (H:Hp) (Q:VK) (_E:XK):Prop
 | mk (c k n:Int) (_:vs=[.int c,.int k,.int n]) (_:0<=k) (_:k<=1000) (_:0<n) (_:∀ r,0<=r->r<n->Q (.int r) H)
structure tD where
 a:Int
 b:Int
 t:Int
 d:Int
structure tD.Ok (s:tD):Prop where
 a0:1<=s.a
 a1:s.a<=10 ^ 9
 b0:1<=s.b
 b1:s.b<=10 ^ 9
 t0 : -(10 ^ 9)<=s.t
 t1:s.t<=10 ^ 9
 d0:1<=s.d
 d1:s.d<=10 ^ 9
abbrev tD.vs (s:tD):List V:=[.int s.a,.int s.b,.int s.t,.int s.d]
inductive AD  (vs:List V) (H:Hp) (Q:VK) (_E:XK):Prop
 | mk (c:Int) (_:vs=[.int c]) (_:∀ p H' (s:tD),s.Ok->aA H H'->H' p=some (.tup s.vs)->Q (.ref p) H')
def bS (num parts:Int) (s:tD):Int:=num * s.a * s.d+parts * s.t * s.b
def bK (parts:Int) (s:tD):Int:=parts * s.b * s.d
def aP (num parts:Int) (s:tD):bQ:=nf (bS num parts s) (bK parts s)
inductive Cu (K:W.Frag) (vs:List V) (H:Hp) (Q:VK) (_E:XK):Prop
 | mk (num parts p:_) (s:tD) (_:vs=[.int num,.int parts,.ref p]) (_:bU K H p s.vs) (_:s.Ok) (_:Bd 30 num) (_:0<parts) (_:Bd 30 parts) (_:∀ q H',aA H H'->H' q=some (.tup [.int (aP num parts s).1,.int (aP num parts s).2])->Q (.ref q) H')
theorem di {parts:Int} {s:tD} (h:s.Ok) (hp:0<parts):0<bK parts s:=adi (adi hp (by have:=h.b0;lia)) (by have:=h.d0;lia)
theorem Fc {x:Int} (h0 : -(10 ^ 9)<=x) (h1:x<=10 ^ 9):Bd 30 x:=by show x.natAbs<2 ^ 30;lia
section
variable {s:tD}
theorem tD.Ok.ba (h:s.Ok):Bd 30 s.a:=Fc (by have:=h.a0;lia) h.a1
theorem tD.Ok.bb (h:s.Ok):Bd 30 s.b:=Fc (by have:=h.b0;lia) h.b1
theorem tD.Ok.bt (h:s.Ok):Bd 30 s.t:=Fc h.t0 h.t1
theorem tD.Ok.bd (h:s.Ok):Bd 30 s.d:=Fc (by have:=h.d0;lia) h.d1
end
theorem nS {num parts:Int} {s:tD} {n:Nat} (h:s.Ok) (hp:0<parts) (bn:Bd n num) (bp:Bd n parts):dR (n+61) (aP num parts s):=by
 have F:=ga (t:=bS num parts s) (di h hp)
 have b1:Bd (n+60) (num * s.a * s.d):=((bn.mul h.ba).mul h.bd).mono (by lia)
 have b2:Bd (n+60) (parts * s.t * s.b):=((bp.mul h.bt).mul h.bb).mono (by lia)
 have b3:Bd (n+60) (bK parts s):=((bp.mul h.bb).mul h.bd).mono (by lia)
 exact ⟨(F.M0 (b1.add b2)).mono (by lia),(F.Na b3).mono (by lia),F.pos⟩
theorem oq {x y parts:Int} {s:tD} (h:s.Ok) (hp:0<parts):bv (aP x parts s) (aP y parts s)=decide (x<y):=by
 have F:=ga (t:=bS x parts s) (di h hp)
 have G:=ga (t:=bS y parts s) (di h hp)
 have hB:=di h hp
 have e:(aP x parts s).1 * (aP y parts s).2<(aP y parts s).1 * (aP x parts s).2↔bS x parts s<bS y parts s:=by
   have c1:(aP x parts s).1 * bK parts s=bS x parts s * (aP x parts s).2:=F.iy
   have c2:(aP y parts s).1 * bK parts s=bS y parts s * (aP y parts s).2:=G.iy
   have p1:0<(aP x parts s).2:=F.pos
   have p2:0<(aP y parts s).2:=G.pos
   generalize (aP x parts s).1=q1 at c1 ⊢
   generalize (aP x parts s).2=r1 at c1 p1 ⊢
   generalize (aP y parts s).1=q2 at c2 ⊢
   generalize (aP y parts s).2=r2 at c2 p2 ⊢
   generalize bS x parts s=t1 at c1 ⊢
   generalize bS y parts s=t2 at c2 ⊢
   generalize bK parts s=B at c1 c2 hB
   have k1:(q1 * r2) * B=t1 * (r1 * r2):=by rw [ac2,c1,adu]
   have k2:(q2 * r1) * B=t2 * (r1 * r2):=by rw [ac2,c2,adu,ad7 r2 r1]
   have rp:0<r1 * r2:=adi p1 p2
   constructor
   . intro l
     have:=adJ l hB
     rw [k1,k2] at this
     exact adL this (adD rp)
   . intro l
     have:=adJ l rp
     rw [← k1,← k2] at this
     exact adL this (adD hB)
 unfold bv
 refine decide_eq_decide.mpr (e.trans ?_)
 have had:0<s.a * s.d:=adi (by have:=h.a0;lia) (by have:=h.d0;lia)
 unfold bS
 rw [adu x,adu y]
 constructor
 . intro l
   exact adL (by lia:x * (s.a * s.d)<y * (s.a * s.d)) (adD had)
 . intro l
   have:=adJ l had
   lia
abbrev An (z:Int×Int×Int×Int):List V:=[.int z.1,.int z.2.1,.int z.2.2.1,.int z.2.2.2]
structure KM (z:Int×Int×Int×Int):Prop where
 h:0<=z.1/\z.1<=25
 w:0<=z.2.1/\z.2.1<=9
 s:0<=z.2.2.1/\z.2.2.1<=3
 f:0<=z.2.2.2/\z.2.2.2<=3
inductive mQ  (vs:List V) (H:Hp) (Q:VK) (_E:XK):Prop
 | mk (a b c:Int) (i:Nat) (_:vs=[.int a,.int b,.int c,ar i]) (_:i<4) (_:Q .cR H) (_:∀ p z,KM z->H p=none->Q (.ref p) (upd H p (.tup (An z))))
def dL (H:Hp) (L:List Addr):Hp:=λ b=>if b∈L then none else H b
section
variable {K:W.Frag} {H H':Hp} {L:List Addr} {a:Addr} {o:HO}
theorem fF:aA (dL H L) H:=λ b u h=>by
 unfold dL at h
 split at h
 . cases h
 . exact h
theorem jV (h:H a=some o) (n:a∉L):dL H L a=some o:=by unfold dL;rw [abZ n];exact h
theorem nT (h:a∈L):dL (upd H a o) L=dL H L:=by
 funext b
 unfold dL
 split
 . rfl
 . rename_i n
   rw [av (λ e=>n (by rw [e];exact h))]
theorem jP (s:aA H H'):aA (dL H L) (dL H' L):=λ b u h=>by
 unfold dL at h ⊢
 split at h
 . cases h
 . rename_i n
   rw [abZ n]
   exact s b u h
end
structure ap where
 marks:List (List Int)
 ce:List (Int×Int×Int)
 ax:List (Option (Int×Int×Int×Int))
 aY:Nat->Nat->Option Int
 scale:tD
 bounds:Int×Int×Int
abbrev tM (z:Int×Int×Int):PyData:=.tuple [.int z.1,.int z.2.1,.int z.2.2]
abbrev stI:Option (Int×Int×Int×Int)->PyData
 | none => .none
 | some z => .tuple [.int z.1,.int z.2.1,.int z.2.2.1,.int z.2.2.2]
abbrev yO (l:List Int):PyData:=.list (l.map PyData.int)
def dQ (pm ps pt pf dg pb:Addr):List (Key×V) :=
 [(.inr "marks",.ref pm),(.inr "sky",.ref ps),(.inr "stoves",.ref pt),(.inr "flows",.ref pf),(.inr "scale",.ref dg),(.inr "bounds",.ref pb)]
structure TC (K:W.Frag) (H:Hp) (p pm ps pt pf dg pb:Addr) (vm vs vt:List V) (aw:List (List Key×V)) (m:ap):Prop where
 hp:H p=some (.dK (dQ pm ps pt pf dg pb))
 eK:H pm=some (.lst vm)
 eL:H ps=some (.lst vs)
 eQ:H pt=some (.lst vt)
 gG:H pf=some (.dT aw)
 n1:pm≠ps
 n2:pm≠pt
 n3:ps≠pt
 dm:bI K (dL H [p,pm,ps,pt,pf]) (m.marks.map yO) vm
 ds:bI K (dL H [p,pm,ps,pt,pf]) (m.ce.map tM) vs
 dt:bI K (dL H [p,pm,ps,pt,pf]) (m.ax.map stI) vt
 df:∀ i j:Nat,i<4->j<4->fm aw (fE i j)=(m.aY i j).map V.int
 fk:pN aw
 sc:bU K (dL H [p,pm,ps,pt,pf]) dg m.scale.vs
 bo:bU K (dL H [p,pm,ps,pt,pf]) pb [.int m.bounds.1,.int m.bounds.2.1,.int m.bounds.2.2]
section
variable {K:W.Frag} {H H':Hp} {p pm ps pt pf dg pb:Addr} {vm vs vt:List V} {aw:List (List Key×V)} {m:ap}
theorem TC.same (c:TC K H p pm ps pt pf dg pb vm vs vt aw m) (s:aA H H'):TC K H' p pm ps pt pf dg pb vm vs vt aw m :=
 ⟨s _ _ c.hp,s _ _ c.eK,s _ _ c.eL,s _ _ c.eQ,s _ _ c.gG,c.n1,c.n2,c.n3,bI.same (jP s) _ c.dm,bI.same (jP s) _ c.ds,bI.same (jP s) _ c.dt,c.df,c.fk,(jP s).tup c.sc,(jP s).tup c.bo⟩
theorem TC.Aj (c:TC K H p pm ps pt pf dg pb vm vs vt aw m) {l:List Int} {x:V} (d:Dn K (dL H [p,pm,ps,pt,pf]) (yO l) x) :
   TC K (upd H pm (.lst (vm++[x]))) p pm ps pt pf dg pb (vm++[x]) vs vt aw { m with marks:=m.marks++[l]}:=by
 have e:dL (upd H pm (.lst (vm++[x]))) [p,pm,ps,pt,pf]=dL H [p,pm,ps,pt,pf]:=nT (by simp)
 refine ⟨by rw [av (bj c.hp c.eK nofun)];exact c.hp,ag,by rw [av c.n1.symm];exact c.eL,by rw [av c.n2.symm];exact c.eQ,by rw [av (bj c.gG c.eK nofun)];exact c.gG,c.n1,c.n2,c.n3,?_,by rw [e];exact c.ds,by rw [e];exact c.dt,c.df,c.fk,by rw [e];exact c.sc,by rw [e];exact c.bo⟩
 rw [e]
 show bI K _ ((m.marks++[l]).map yO) _
 rw [My]
 exact c.dm.snoc d
theorem TC.Gu (c:TC K H p pm ps pt pf dg pb vm vs vt aw m) {l:Int×Int×Int} {x:V} (d:Dn K (dL H [p,pm,ps,pt,pf]) (tM l) x) :
   TC K (upd H ps (.lst (vs++[x]))) p pm ps pt pf dg pb vm (vs++[x]) vt aw { m with ce:=m.ce++[l]}:=by
 have e:dL (upd H ps (.lst (vs++[x]))) [p,pm,ps,pt,pf]=dL H [p,pm,ps,pt,pf]:=nT (by simp)
 refine ⟨by rw [av (bj c.hp c.eL nofun)];exact c.hp,by rw [av c.n1];exact c.eK,ag,by rw [av c.n3.symm];exact c.eQ,by rw [av (bj c.gG c.eL nofun)];exact c.gG,c.n1,c.n2,c.n3,by rw [e];exact c.dm,?_,by rw [e];exact c.dt,c.df,c.fk,by rw [e];exact c.sc,by rw [e];exact c.bo⟩
 rw [e]
 show bI K _ ((m.ce++[l]).map tM) _
 rw [My]
 exact c.ds.snoc d
theorem TC.AS (c:TC K H p pm ps pt pf dg pb vm vs vt aw m) {l:Option (Int×Int×Int×Int)} {x:V} (d:Dn K (dL H [p,pm,ps,pt,pf]) (stI l) x) :
   TC K (upd H pt (.lst (vt++[x]))) p pm ps pt pf dg pb vm vs (vt++[x]) aw { m with ax:=m.ax++[l]}:=by
 have e:dL (upd H pt (.lst (vt++[x]))) [p,pm,ps,pt,pf]=dL H [p,pm,ps,pt,pf]:=nT (by simp)
 refine ⟨by rw [av (bj c.hp c.eQ nofun)];exact c.hp,by rw [av c.n2];exact c.eK,by rw [av c.n3];exact c.eL,ag,by rw [av (bj c.gG c.eQ nofun)];exact c.gG,c.n1,c.n2,c.n3,by rw [e];exact c.dm,by rw [e];exact c.ds,?_,c.df,c.fk,by rw [e];exact c.sc,by rw [e];exact c.bo⟩
 rw [e]
 show bI K _ ((m.ax++[l]).map stI) _
 rw [My]
 exact c.dt.snoc d
def ap.dJ (m:ap) (i j:Nat) (k:Int):ap:={ m with aY:=λ a b=>if a=i/\b=j then some k else m.aY a b }
theorem TC.dJ (c:TC K H p pm ps pt pf dg pb vm vs vt aw m) {i j:Nat} {k:Int} (hi:i<4) (hj:j<4) :
   TC K (upd H pf (.dT (putK aw (fE i j) (.int k)))) p pm ps pt pf dg pb vm vs vt (putK aw (fE i j) (.int k)) (m.dJ i j k):=by
 have e:dL (upd H pf (.dT (putK aw (fE i j) (.int k)))) [p,pm,ps,pt,pf]=dL H [p,pm,ps,pt,pf]:=nT (by simp)
 refine ⟨by rw [av (bj c.hp c.gG nofun)];exact c.hp,by rw [av (bj c.eK c.gG nofun)];exact c.eK,by rw [av (bj c.eL c.gG nofun)];exact c.eL,by rw [av (bj c.eQ c.gG nofun)];exact c.eQ,ag,c.n1,c.n2,c.n3,by rw [e];exact c.dm,by rw [e];exact c.ds,by rw [e];exact c.dt,λ a b ha hb=>?_,c.fk.put hi hj _,by rw [e];exact c.sc,by rw [e];exact c.bo⟩
 rw [uc]
 show _=(if a=i/\b=j then some k else m.aY a b).map V.int
 by_cases z:a=i/\b=j
 . rw [abS z,abS (by rw [z.1,z.2])];rfl
 . rw [abZ z,abZ (λ y=>z (by have:=u9 y;lia))]
   exact c.df a b ha hb
end
def lQ (l:List Int):Prop:=∀ i x y,l[i]?=some x->l[i+1]?=some y->x<y
structure qV (n:Nat) (l:List Int):Prop where
 two:2<=l.length
 most:l.length<=if n<=2 then 7 else 5
 Im:lQ l
 bd:∀ x∈l,-200<=x/\x<=200
structure ap.Ok (n i:Nat) (m:ap):Prop where
 lm:m.marks.length=i
 ls:m.ce.length=i
 lt:m.ax.length=i
 rows:∀ l∈m.marks,qV n l
 ce:∀ z∈m.ce,(0<=z.1/\z.1<=3)/\(-30<=z.2.1/\z.2.2<=60)/\z.2.1<=z.2.2/\z.2.2<=z.2.1+30
 ax:∀ z,some z∈m.ax->KM z
 aY:∀ a b,a<i->b<n->a≠b->∃ k,m.aY a b=some k/\0<=k/\k<=3
 scale:m.scale.Ok
 bounds:(0<=m.bounds.1/\m.bounds.1<=4)/\(0<=m.bounds.2.1/\m.bounds.2.1<=30)/\(0<=m.bounds.2.2/\m.bounds.2.2<=30)
def jg (K:W.Frag) (H:Hp) (p:Addr) (m:ap):Prop:=∃ pm ps pt pf dg pb vm vs vt aw,TC K H p pm ps pt pf dg pb vm vs vt aw m
theorem jg.same {K:W.Frag} {p:Addr} {m:ap} (h:jg K H p m) (s:aA H H'):jg K H' p m:=by
 obtain ⟨pm,ps,pt,pf,dg,pb,vm,vs,vt,aw,c⟩:=h
 exact ⟨pm,ps,pt,pf,dg,pb,vm,vs,vt,aw,c.same s⟩
section
variable {H:Hp} {p pm ps pt pf dg pb:Addr}
theorem d8 (h:H p=some (.dK (dQ pm ps pt pf dg pb))):f6 H p (.str "marks") (some (.ref pm)):=f6.k (k:=.inr "marks") h
theorem jR (h:H p=some (.dK (dQ pm ps pt pf dg pb))):f6 H p (.str "sky") (some (.ref ps)):=f6.k (k:=.inr "sky") h
theorem jA (h:H p=some (.dK (dQ pm ps pt pf dg pb))):f6 H p (.str "stoves") (some (.ref pt)):=f6.k (k:=.inr "stoves") h
theorem pQ (h:H p=some (.dK (dQ pm ps pt pf dg pb))):f6 H p (.str "flows") (some (.ref pf)):=f6.k (k:=.inr "flows") h
theorem vL (h:H p=some (.dK (dQ pm ps pt pf dg pb))):f6 H p (.str "scale") (some (.ref dg)):=f6.k (k:=.inr "scale") h
theorem jE (h:H p=some (.dK (dQ pm ps pt pf dg pb))):f6 H p (.str "bounds") (some (.ref pb)):=f6.k (k:=.inr "bounds") h
end
theorem Ez {l:List Int} {j:Nat} (h:j<l.length):wO (l.map V.int) ((0:Int)+(j:Int))=some (.int l[j]):=by
 rw [ac3]
 exact cf (by rw [Jl,ac8 h];rfl)
theorem CA {n:Nat} (h1:1<=n) (h4:n<=4) {x:Int} (e:x=(n:Int) - 1):wO [V.int 6,.int 6,.int 4,.int 4] x=some (.int (if n<=2 then 6 else 4)):=by
 subst e
 match n,h1,h4 with
 | 1,_,_=>rfl
 | 2,_,_=>rfl
 | 3,_,_=>rfl
 | 4,_,_=>rfl
theorem uC {l:List Int} {j:Nat} {z:Int} (h:lQ l) (hl:l.length=j+1) (hz:l[j]'(by lia)<z):lQ (l++[z]):=by
 intro i x y hx hy
 by_cases hi:i+1<l.length
 . rw [acZ (by lia)] at hx
   rw [acZ hi] at hy
   exact h i x y hx hy
 .
  have Cf:i+1<(l++[z]).length:=(List.getElem?_eq_some_iff.mp hy).1
  rw [aaD,adp] at Cf
  have e:i=j:=by lia
  subst e
  rw [acZ (by lia),ac8 (by lia)] at hx
  rw [ade (by lia),hl,Nat.sub_self] at hy
  have hx:=aba hx
  have hy:z=y:=aba hy
  rw [← hx,← hy]
  exact hz
theorem ap.Ok.marks {n i:Nat} {m:ap} {l:List Int} {z:Int×Int×Int} {t:Option (Int×Int×Int×Int)} {fl:Nat->Nat->Option Int} (h:m.Ok n i) (hl:qV n l) (hz:(0<=z.1/\z.1<=3)/\(-30<=z.2.1/\z.2.2<=60)/\z.2.1<=z.2.2/\z.2.2<=z.2.1+30) (ht:∀ y,t=some y->KM y) (hf:∀ a b,a<i+1->b<n->a≠b->∃ k,fl a b=some k/\0<=k/\k<=3) :
   ap.Ok n (i+1) { m with marks:=m.marks++[l],ce:=m.ce++[z],ax:=m.ax++[t],aY:=fl }:=by
 refine ⟨?_,?_,?_,λ x hx=>?_,λ x hx=>?_,λ x hx=>?_,hf,h.scale,h.bounds⟩
 . show (m.marks++[l]).length=_
   rw [aaD,h.lm];rfl
 . show (m.ce++[z]).length=_
   rw [aaD,h.ls];rfl
 . show (m.ax++[t]).length=_
   rw [aaD,h.lt];rfl
 . rcases List.mem_append.mp hx with q|q
   . exact h.rows x q
   . rw [List.mem_singleton.mp q];exact hl
 . rcases List.mem_append.mp hx with q|q
   . exact h.ce x q
   . rw [List.mem_singleton.mp q];exact hz
 . rcases List.mem_append.mp hx with q|q
   . exact h.ax x q
   . exact ht x (List.mem_singleton.mp q).symm
theorem rZ {K:W.Frag}:∀ l:List Int,bI K H (l.map PyData.int) (l.map V.int)
 | []=>rfl
 | x::l=>⟨.int x,l.map V.int,rfl,rfl,rZ l⟩
theorem TC.FF {K:W.Frag} {p pt dg pb b:Addr} {vs:List V} {aw:List (List Key×V)} {m:ap} (c:TC K H p pm ps pt pf dg pb vm vs vt aw m) (h:H b=none):b∉[p,pm,ps,pt,pf]:=by
 simp only [abt,T1,adj,aeb]
 exact ⟨(aq c.hp h).symm,(aq c.eK h).symm,(aq c.eL h).symm,(aq c.eQ h).symm,(aq c.gG h).symm⟩
def HN (H:Hp) (t:Option (Int×Int×Int×Int)) (x:V) (H':Hp):Prop:=(t=none/\x = .cR/\H'=H)∨∃ p z,t=some z/\x = .ref p/\H p=none/\KM z/\H'=upd H p (.tup (An z))
theorem uh {vs:List V} {Q:VK} {E:XK} {a b c:Int} {i:Nat} (hv:vs=[.int a,.int b,.int c,ar i]) (hi:i<4) (h:∀ t x H',HN H t x H'->Q x H'):mQ vs H Q E :=
 ⟨a,b,c,i,hv,hi,h none _ _ (.inl ⟨rfl,rfl,rfl⟩),λ p z hz hp=>h (some z) _ _ (.inr ⟨p,z,rfl,rfl,hp,hz,rfl⟩)⟩
theorem HN.same {t:Option (Int×Int×Int×Int)} {x:V} (h:HN H t x H'):aA H H':=by
 rcases h with ⟨_,_,rfl⟩|⟨p,z,_,_,hp,_,rfl⟩
 . exact aA.refl _
 . exact ai hp
theorem HN.ok {t:Option (Int×Int×Int×Int)} {x:V} (h:HN H t x H'):∀ y,t=some y->KM y:=by
 rcases h with ⟨rfl,_,_⟩|⟨p,z,rfl,_,hp,hz,_⟩
 . exact nofun
 . intro y e;cases e;exact hz
theorem HN.dn {K:W.Frag} {t:Option (Int×Int×Int×Int)} {x:V} {L:List Addr} (h:HN H t x H') (n:∀ b,H b=none->b∉L):Dn K (dL H' L) (stI t) x:=by
 rcases h with ⟨rfl,rfl,_⟩|⟨p,z,rfl,rfl,hp,hz,rfl⟩
 . rfl
 . exact ek (bU.of (jV ag (n p hp))) (aO rfl (aO rfl (aO rfl (aO rfl eM))))
end L2
namespace Mth
def Ov (W k:Int) (f:Int×Int):Prop:=f.1 * W=k * f.2/\0<f.2
theorem Ov.nf {W k:Int} (h:0<W):Ov W k (nf k W):=by
 have F:=ga (t:=k) h
 exact ⟨F.iy,F.pos⟩
theorem BG {W:Int}:Ov W W (1,1):=⟨by show 1 * W=W * 1;lia,by decide⟩
theorem on {W:Int}:Ov W 0 (0,1):=⟨by show 0 * W=0 * 1;lia,by decide⟩
theorem Ov.minus {W a b:Int} {x y:Int×Int} (h:Ov W a x) (k:Ov W b y):Ov W (a - b) (kx x y):=by
 have F:=ga (t:=x.1 * y.2 - y.1 * x.2) (b:=x.2 * y.2) (adi h.2 k.2)
 refine ⟨?_,F.pos⟩
 have c:=F.iy
 have hx:=h.1
 have hy:=k.1
 have pp:0<x.2 * y.2:=adi h.2 k.2
 show (Mth.nf (x.1 * y.2 - y.1 * x.2) (x.2 * y.2)).1 * W=(a - b) * (Mth.nf (x.1 * y.2 - y.1 * x.2) (x.2 * y.2)).2
 generalize (Mth.nf (x.1 * y.2 - y.1 * x.2) (x.2 * y.2)).1=q at c ⊢
 generalize (Mth.nf (x.1 * y.2 - y.1 * x.2) (x.2 * y.2)).2=r at c ⊢
 refine adA (adW pp) ?_
 have e1:x.1 * y.2 * W=a * (x.2 * y.2):=by rw [ac2,hx,adu]
 have e2:y.1 * x.2 * W=b * (x.2 * y.2):=by rw [ac2,hy,adu,ad7 y.2]
 calc q * W * (x.2 * y.2)=(q * (x.2 * y.2)) * W:=by rw [ac2]
   _=(x.1 * y.2 - y.1 * x.2) * r * W:=by rw [c]
   _=((x.1 * y.2 - y.1 * x.2) * W) * r:=by rw [ac2]
   _=(a * (x.2 * y.2) - b * (x.2 * y.2)) * r:=by rw [Int.sub_mul,e1,e2]
   _=(a - b) * r * (x.2 * y.2):=by rw [← Int.sub_mul,ac2]
theorem Ov.plus {W a b:Int} {x y:Int×Int} (h:Ov W a x) (k:Ov W b y):Ov W (a+b) (jz x y):=by
 have F:=ga (t:=x.1 * y.2+y.1 * x.2) (b:=x.2 * y.2) (adi h.2 k.2)
 refine ⟨?_,F.pos⟩
 have c:=F.iy
 have hx:=h.1
 have hy:=k.1
 have pp:0<x.2 * y.2:=adi h.2 k.2
 show (Mth.nf (x.1 * y.2+y.1 * x.2) (x.2 * y.2)).1 * W=(a+b) * (Mth.nf (x.1 * y.2+y.1 * x.2) (x.2 * y.2)).2
 generalize (Mth.nf (x.1 * y.2+y.1 * x.2) (x.2 * y.2)).1=q at c ⊢
 generalize (Mth.nf (x.1 * y.2+y.1 * x.2) (x.2 * y.2)).2=r at c ⊢
 refine adA (adW pp) ?_
 have e1:x.1 * y.2 * W=a * (x.2 * y.2):=by rw [ac2,hx,adu]
 have e2:y.1 * x.2 * W=b * (x.2 * y.2):=by rw [ac2,hy,adu,ad7 y.2]
 calc q * W * (x.2 * y.2)=(q * (x.2 * y.2)) * W:=by rw [ac2]
   _=(x.1 * y.2+y.1 * x.2) * r * W:=by rw [c]
   _=((x.1 * y.2+y.1 * x.2) * W) * r:=by rw [ac2]
   _=(a * (x.2 * y.2)+b * (x.2 * y.2)) * r:=by rw [Int.add_mul,e1,e2]
   _=(a+b) * r * (x.2 * y.2):=by rw [← Int.add_mul,ac2]
theorem Ov.under {W a b:Int} {x y:Int×Int} (hW:0<W) (h:Ov W a x) (k:Ov W b y):bv x y=decide (a<b):=by
 unfold bv
 refine decide_eq_decide.mpr ?_
 have pp:0<x.2 * y.2:=adi h.2 k.2
 have e1:x.1 * y.2 * W=a * (x.2 * y.2):=by rw [ac2,h.1,adu]
 have e2:y.1 * x.2 * W=b * (x.2 * y.2):=by rw [ac2,k.1,adu,ad7 y.2]
 constructor
 .
  intro l
  have:=adJ l hW
  rw [e1,e2] at this
  exact adL this (adD pp)
 .
  intro l
  have:=adJ l pp
  rw [← e1,← e2] at this
  exact adL this (adD hW)
end Mth
namespace L2
open PySem PySem.Spec PyProof.Rows Mth
variable {H:Hp} {elts:List Expr} {l:List Nat} {ta:TA} {tm:ap} {nN:Pos} {x1:Nat}
def sumF (fl:Nat->Nat->Int) (i:Nat):Nat->Int
 | 0=>0
 | t+1=>sumF fl i t+fl i t
structure fK (W:Int) (sk:Nat->Int) (fl:Nat->Nat->Int) (m:al):Prop where
 ce:∀ i,Ov W (sk i) (m.dZ i)
 eO:∀ i j,Ov W (fl i j) (m.eO i j)
theorem fK.fu {W:Int} {sk:Nat->Int} {fl:Nat->Nat->Int} {m:al} (h:fK W sk fl m) (i:Nat):∀ t,Ov W (W - sk i - sumF fl i t) (m.fu i t)
 | 0=>by
   have:=(BG (W:=W)).minus (h.ce i)
   have e:W - sk i - sumF fl i 0=W - sk i:=by show W - sk i - 0=_;lia
   rw [e]
   exact this
 | t+1=>by
   rw [al.i3]
   have:=(h.fu i t).minus (h.eO i t)
   have e:W - sk i - sumF fl i (t+1)=W - sk i - sumF fl i t - fl i t:=by show W - sk i - (sumF fl i t+fl i t)=_;lia
   rw [e]
   exact this
theorem fK.own {W:Int} {sk:Nat->Int} {fl:Nat->Nat->Int} {m:al} (h:fK W sk fl m) (i:Nat):Ov W (W - sk i - sumF fl i m.rows.length) (m.own i):=h.fu i _
theorem fK.tz {W k:Int} {sk:Nat->Int} {fl:Nat->Nat->Int} {m:al} {f:bQ} {i:Nat} (hW:0<W) (h:fK W sk fl m) (hf:Ov W k f) (le:k<=W - sumF fl i m.rows.length):bv (jz (m.own i) (m.dZ i)) f=false:=by
 rw [((h.own i).plus (h.ce i)).under hW hf]
 exact ab2 (by lia)
theorem fK.oU {W k:Int} {sk:Nat->Int} {fl:Nat->Nat->Int} {m:al} {f:bQ} {i j:Nat} (hW:0<W) (h:fK W sk fl m) (hf:Ov W k f) (le:k<=W - sk i - sumF fl i m.rows.length+fl i j):bv (jz (m.own i) (m.eO i j)) f=false:=by
 rw [((h.own i).plus (h.eO i j)).under hW hf]
 exact ab2 (by lia)
theorem rP {m:al} {i j a b:Nat} {f:bQ}:(m.dJ i j f).eO a b=if a=i/\b=j then f else m.eO a b:=by
 unfold al.eO al.dJ
 by_cases e:a=i/\b=j
 . rw [abS e]
   show ((if (a:Int)=(i:Int)/\(b:Int)=(j:Int) then some f else m.aY a b)).getD (0,1)=f
   rw [abS (by lia)];rfl
 . rw [abZ e]
   show ((if (a:Int)=(i:Int)/\(b:Int)=(j:Int) then some f else m.aY a b)).getD (0,1)=_
   rw [abZ (by lia)]
theorem fK.dJ {W k:Int} {sk:Nat->Int} {fl:Nat->Nat->Int} {m:al} {f:bQ} {i j:Nat} (h:fK W sk fl m) (hf:Ov W k f):fK W sk (λ a b=>if a=i/\b=j then k else fl a b) (m.dJ i j f):=by
 refine ⟨λ a=>h.ce a,λ a b=>?_⟩
 rw [rP]
 by_cases e:a=i/\b=j
 . simp only [abS e];exact hf
 . simp only [abZ e];exact h.eO a b
theorem up {m:al} {i a:Nat} {z:bQ×bQ×bQ} (hi:i<m.aX.length):(m.e8 i z).dZ a=if a=i then z.1 else m.dZ a:=by
 unfold al.dZ al.e8
 by_cases e:a=i
 .
  subst e
  rw [abS rfl]
  show (((m.aX.set a z)[a]?).map (·.1)).getD (0,1)=_
  rw [adt hi];rfl
 . rw [abZ e]
   show (((m.aX.set i z)[a]?).map (·.1)).getD (0,1)=_
   rw [ads (λ x=>e x.symm)]
theorem fK.e8 {W k:Int} {sk:Nat->Int} {fl:Nat->Nat->Int} {m:al} {z:bQ×bQ×bQ} {i:Nat} (h:fK W sk fl m) (hi:i<m.aX.length) (hf:Ov W k z.1):fK W (λ a=>if a=i then k else sk a) fl (m.e8 i z):=by
 refine ⟨λ a=>?_,λ a b=>h.eO a b⟩
 rw [up hi]
 by_cases e:a=i
 . simp only [abS e];exact hf
 . simp only [abZ e];exact h.ce a
theorem fK.new {W:Int} {most gH load:Int}:fK W (λ _=>0) (λ _ _=>0) (al.new most gH load):=⟨λ _=>on,λ _ _=>on⟩
theorem fK.bG {W:Int} {sk:Nat->Int} {fl:Nat->Nat->Int} {m:al} {r:List bQ} (h:fK W sk fl m) (hs:∀ i,m.aX.length<=i->sk i=0):fK W sk fl (m.bG r):=by
 refine ⟨λ a=>?_,λ a b=>h.eO a b⟩
 by_cases e:a<m.aX.length
 .
  have:(m.bG r).dZ a=m.dZ a:=by
    show (((m.aX++[((0,1),(0,1),(0,1))])[a]?).map (·.1)).getD (0,1)=((m.aX[a]?).map (·.1)).getD (0,1)
    rw [acZ e]
  rw [this]
  exact h.ce a
 .
  have:(m.bG r).dZ a=(0,1):=by
    show (((m.aX++[((0,1),(0,1),(0,1))])[a]?).map (·.1)).getD (0,1)=(0,1)
    rw [ade (by lia)]
    cases q:a - m.aX.length with
    | zero=>rfl
    | succ n=>rfl
  rw [this,hs a (by lia)]
  exact on
theorem fK.fV {W:Int} {sk:Nat->Int} {fl:Nat->Nat->Int} {m:al} {i:Nat} {z:bQ×Int×Int×Int} (h:fK W sk fl m):fK W sk fl (m.fV i z):=⟨λ a=>h.ce a,λ a b=>h.eO a b⟩
theorem DE {fl:Nat->Nat->Int} {t:Int} {i n:Nat} (hn:n<=4) (ht:0<=t) (h:∀ j,0<=fl i j/\fl i j<=t) (h0:fl i i=0) (hi:i<n):0<=sumF fl i n/\sumF fl i n<=3 * t:=by
 have a0:=h 0
 have a1:=h 1
 have a2:=h 2
 have a3:=h 3
 match n,hn with
 | 0,_=>lia
 | 1,_=>simp only [sumF];lia
 | 2,_=>simp only [sumF];lia
 | 3,_=>simp only [sumF];lia
 | 4,_ =>
   have:i=0∨i=1∨i=2∨i=3:=by lia
   rcases this with rfl|rfl|rfl|rfl<;>simp only [sumF]<;>lia
def ap.row (tm:ap) (l:List Int):List bQ:=l.map λ x=>aP x 1 tm.scale
def ap.m1 (tm:ap) (k:Nat):al:=((tm.marks.take k).map tm.row).foldl al.bG (al.new tm.bounds.1 tm.bounds.2.1 tm.bounds.2.2)
def ap.kU (tm:ap) (z:Int×Int×Int):bQ×bQ×bQ:=(nf z.1 12,aP z.2.1 1 tm.scale,aP z.2.2 1 tm.scale)
def ap.gl (tm:ap) (z:Int×Int×Int×Int):bQ×Int×Int×Int:=(nf (z.1 * tm.scale.a) tm.scale.b,z.2.1,z.2.2.1,z.2.2.2)
def ap.fG (tm:ap) (m:al) (i:Nat):al:=match tm.ce[i]? with|some z=>m.e8 i (tm.kU z)|none=>m
def ap.bD (tm:ap) (m:al) (i:Nat):al:=match tm.ax[i]? with|some (some z)=>m.fV i (tm.gl z)|_=>m
def ap.fD (tm:ap) (i:Nat) (m:al) (j:Nat):al:=if j=i then m else match tm.aY i j with|some k=>m.dJ i j (nf k 12)|none=>m
def ap.dG (tm:ap) (i:Nat) (m:al) (j:Nat):al:=(List.range j).foldl (tm.fD i) m
def ap.kY (tm:ap) (n:Nat) (m:al) (i:Nat):al:=tm.dG i (tm.bD (tm.fG m i) i) n
def ap.m2 (tm:ap) (n k:Nat):al:=(List.range k).foldl (tm.kY n) (tm.m1 n)
theorem ap.Ff {k:Nat} {l:List Int} (h:tm.marks[k]?=some l):tm.m1 (k+1)=(tm.m1 k).bG (tm.row l):=by
 unfold ap.m1
 rw [adS,h,My,adw];rfl
theorem ap.xI (tm:ap) (n k:Nat):tm.m2 n (k+1)=tm.kY n (tm.m2 n k) k:=by
 unfold ap.m2
 rw [adh,adw];rfl
theorem ap.lA (tm:ap) (i:Nat) (m:al) (j:Nat):tm.dG i m (j+1)=tm.fD i (tm.dG i m j) j:=by
 unfold ap.dG
 rw [adh,adw];rfl
theorem BS {n:Nat} {b:Nat} (hb:b=if n<=2 then 6 else 4) (hn:n<=4):∀ {rs:List (List bQ)},(∀ r∈rs,1<=r.length/\r.length<=b+1)->rs.length<=n->0<=i7 rs/\i7 rs<=400:=by
 intro rs h hl
 have key:∀ (rs:List (List bQ)) (p:Int),(∀ r∈rs,1<=r.length/\r.length<=b+1)->0<=p->0<=rs.foldl (λ p r=>p * ((r.length:Int) - 1)) p/\rs.foldl (λ p r=>p * ((r.length:Int) - 1)) p<=p * (b:Int) ^ rs.length:=by
   intro rs
   induction rs with
   | nil=>intro p _ hp;exact ⟨hp,by simp⟩
   | cons r rs ih =>
     intro p h hp
     have hr:=h r acY
     have p0:0<=p * ((r.length:Int) - 1):=aer hp (by lia)
     obtain ⟨a,c⟩:=ih (p * ((r.length:Int) - 1)) (λ x hx=>h x (acV _ hx)) p0
     refine ⟨a,afF c ?_⟩
     have bp:0<=(b:Int) ^ rs.length:=Int.pow_nonneg (by lia)
     have e:p * ((r.length:Int) - 1)<=p * (b:Int):=adR (by lia) hp
     have:=Int.mul_le_mul_of_nonneg_right e bp
     have e3:p * (b:Int) ^ (r::rs).length=p * (b:Int) * (b:Int) ^ rs.length:=by rw [acX,Int.pow_succ,← adu,ac2]
     rw [e3]
     exact this
 obtain ⟨a,c⟩:=key rs 1 h (by decide)
 refine ⟨a,afF c ?_⟩
 rw [Int.one_mul]
 have hbn:(b:Int) ^ n<=400:=by
   subst hb
   match n,hn with
   | 0,_=>decide
   | 1,_=>decide
   | 2,_=>decide
   | 3,_=>decide
   | 4,_=>decide
 have Ce:(1:Int)<=(b:Int):=by subst hb;split<;>lia
 have mono:∀ d k:Nat,(b:Int) ^ k<=(b:Int) ^ (k+d):=by
   intro d k
   induction d with
   | zero=>exact adK _
   | succ d ih =>
     refine afF ih ?_
     rw [← Nat.add_assoc,Int.pow_succ]
     have bp:0<=(b:Int) ^ (k+d):=Int.pow_nonneg (by lia)
     have:=adR Ce bp
     lia
 have:=mono (n - rs.length) rs.length
 rw [show rs.length+(n - rs.length)=n by lia] at this
 lia
theorem vN {l:List Int} (ok:tm.scale.Ok) (h:lQ l):nZ (tm.row l)=true:=by
 unfold nZ
 rw [aee]
 intro b hb
 obtain ⟨i,hi⟩:=List.mem_iff_getElem?.mp hb
 rw [afD] at hi
 unfold ap.row at hi
 rw [aeV,Jl,Jl] at hi
 cases e1:l[i]? with
 | none=>rw [e1] at hi;simp at hi
 | some x =>
   cases e2:l[i+1]? with
   | none=>rw [e1,e2] at hi;simp at hi
   | some y =>
     rw [e1,e2] at hi
     have hi:bv (aP x 1 tm.scale) (aP y 1 tm.scale)=b:=by simpa using hi
     rw [← hi,oq ok (by decide)]
     exact ac7 (h i x y e1 e2)
theorem Ge {n:Nat} {l:List Int} (ok:tm.scale.Ok) (h:qV n l):∀ f∈tm.row l,dR 100 f:=by
 intro f hf
 obtain ⟨x,hx,rfl⟩:=List.mem_map.mp hf
 have:=h.bd x hx
 exact (nS (n:=8) ok (by decide) (show x.natAbs<2 ^ 8 by lia) o6).mono (by decide)
theorem nF.keep {K:W.Frag} {C:Addr} {H0 H':Hp} {a:Addr} {fp m7:List Addr} {m':al} (S:aA H0 H) (n:∀ b∈fp,H0 b=none) (D:nF K C H a fp m' H' m7):aA H0 H'/\∀ b∈m7,H0 b=none:=by
 refine ⟨λ b o h=>D.but b o (S b o h) λ q=>?_,λ b hb=>?_⟩
 . rw [n b q] at h;cases h
 . rcases D.own b hb with q|q
   . exact n b q
   . exact S.free q
structure Kp (m m':al):Prop where
 rows:m'.rows=m.rows
 most:m'.most=m.most
 gH:m'.gH=m.gH
 load:m'.load=m.load
theorem Kp.refl (m:al):Kp m m:=⟨rfl,rfl,rfl,rfl⟩
theorem Kp.trans {m m1 m2:al} (a:Kp m m1) (b:Kp m1 m2):Kp m m2:=⟨b.rows.trans a.rows,b.most.trans a.most,b.gH.trans a.gH,b.load.trans a.load⟩
theorem rY {α:Type} {f:al->α->al} (h:∀ m x,Kp m (f m x)):∀ (l:List α) (m:al),Kp m (l.foldl f m)
 | [],m => .refl m
 | x::l,m=>(h m x).trans (rY h l (f m x))
theorem Hi (tm:ap) (m:al) (i:Nat):Kp m (tm.fG m i):=by
 unfold ap.fG
 split
 . exact ⟨rfl,rfl,rfl,rfl⟩
 . exact .refl m
theorem Bo (tm:ap) (m:al) (i:Nat):Kp m (tm.bD m i):=by
 unfold ap.bD
 split
 . exact ⟨rfl,rfl,rfl,rfl⟩
 . exact .refl m
theorem Ee (tm:ap) (i:Nat) (m:al) (j:Nat):Kp m (tm.fD i m j):=by
 unfold ap.fD
 split
 . exact .refl m
 . split
   . exact ⟨rfl,rfl,rfl,rfl⟩
   . exact .refl m
theorem Di (tm:ap) (n:Nat) (m:al) (i:Nat):Kp m (tm.kY n m i) :=
 ((Hi tm m i).trans (Bo tm _ i)).trans (rY (Ee tm i) _ _)
theorem Ll (tm:ap) (n k:Nat):Kp (tm.m1 n) (tm.m2 n k):=rY (Di tm n) _ _
theorem vn:∀ (rs:List (List bQ)) (m:al),(rs.foldl al.bG m).rows=m.rows++rs/\(rs.foldl al.bG m).most=m.most/\(rs.foldl al.bG m).gH=m.gH/\(rs.foldl al.bG m).load=m.load
 | [],m=>⟨by simp,rfl,rfl,rfl⟩
 | r::rs,m=>by
   obtain ⟨a,b,c,d⟩:=vn rs (m.bG r)
   refine ⟨?_,b,c,d⟩
   show (rs.foldl al.bG (m.bG r)).rows=_
   rw [a]
   show (m.rows++[r])++rs=_
   simp
theorem cN (tm:ap) (n k:Nat):(tm.m2 n k).rows=(tm.marks.take n).map tm.row/\(tm.m2 n k).most=tm.bounds.1/\(tm.m2 n k).gH=tm.bounds.2.1/\(tm.m2 n k).load=tm.bounds.2.2:=by
 have q:=Ll tm n k
 obtain ⟨a,b,c,d⟩:=vn ((tm.marks.take n).map tm.row) (al.new tm.bounds.1 tm.bounds.2.1 tm.bounds.2.2)
 exact ⟨q.rows.trans a,q.most.trans b,q.gH.trans c,q.load.trans d⟩
theorem jW {K:W.Frag}:∀ {l:List Int} {ws:List V},bI K H (l.map PyData.int) ws->ws=l.map V.int
 | [],_,h=>h
 | x::l,_,h=>by
   obtain ⟨y,r,rfl,e,t⟩:=h
   have e:y = .int x:=e
   rw [e,jW t];rfl
theorem kW {α:Type} (l:List α) (g:α->bQ):∀ d∈l.map (λ x=>dE (g x)),c8 d=true:=λ d hd=>by
 obtain ⟨x,_,rfl⟩:=List.mem_map.mp hd
 exact gp _
theorem CO {n:Nat} (ok:tm.Ok n n):∀ r∈tm.marks.map tm.row,1<=r.length/\r.length<=(if n<=2 then 6 else 4)+1:=by
 intro r hr
 obtain ⟨l,hl,rfl⟩:=List.mem_map.mp hr
 have:=ok.rows l hl
 have h1:=this.two
 have h2:=this.most
 unfold ap.row
 rw [xq]
 split at h2<;>rename_i hc<;>simp only [hc,aev,aek]<;>lia
theorem Ov.nonneg {W k:Int} {f:bQ} (hW:0<W) (h:Ov W k f) (hk:0<=k):0<=f.1:=by
 have e:=h.1
 have:0<=f.1 * W:=by rw [e];exact aer hk (adD h.2)
 exact Int.nonneg_of_mul_nonneg_left this hW
theorem Aa {t b:Int} (hb:0<b) (h1:Bd 100 t) (h2:Bd 100 b):dR 100 (nf t b):=by
 have F:=ga (t:=t) hb
 exact ⟨F.M0 h1,F.Na h2,F.pos⟩
theorem Ag {u:Addr} {t b q r:Int} {K:W.Frag} (hb:0<b) (F:Fr t b q r) (hu:H u=some (.tup [.int q,.int r])):Dn K H (dE (nf t b)) (.ref u):=by
 have e:=F.nf hb
 have e1:q=(nf t b).1:=aea Prod.fst e
 have e2:r=(nf t b).2:=aea Prod.snd e
 rw [e1,e2] at hu
 exact ko (bU.of hu)
theorem FS {W:Int} {tm:ap}:∀ (ls:List (List bQ)) (m:al),fK W (λ _=>0) (λ _ _=>0) m->fK W (λ _=>0) (λ _ _=>0) (ls.foldl al.bG m)
 | [],_,h=>h
 | _::ls,_,h=>FS (tm:=tm) ls _ (h.bG λ _ _=>rfl)
theorem ap.Kq {W:Int} (tm:ap) (k:Nat):fK W (λ _=>0) (λ _ _=>0) (tm.m1 k):=FS (tm:=tm) _ _ fK.new
structure SF (sk:Nat->Int) (fl:Nat->Nat->Int):Prop where
 Ca:∀ a,0<=sk a/\sk a<=3
 zF:∀ a b,0<=fl a b/\fl a b<=3
 Mr:∀ a,fl a a=0
def Tw (m:al):Prop:=∃ sk fl,fK 12 sk fl m/\SF sk fl
theorem Tw.ce {m:al} {i:Nat} {z:bQ×bQ×bQ} {k:Int} (h:Tw m) (hi:i<m.aX.length) (hf:Ov 12 k z.1) (k0:0<=k) (k3:k<=3):Tw (m.e8 i z):=by
 obtain ⟨sk,fl,S,F⟩:=h
 refine ⟨_,_,S.e8 hi hf,⟨λ a=>?_,F.zF,F.Mr⟩⟩
 show 0<=(if a=i then k else sk a)/\(if a=i then k else sk a)<=3
 split
 . exact ⟨k0,k3⟩
 . exact F.Ca a
theorem Tw.eO {m:al} {i j:Nat} {f:bQ} {k:Int} (h:Tw m) (qv:i≠j) (hf:Ov 12 k f) (k0:0<=k) (k3:k<=3):Tw (m.dJ i j f):=by
 obtain ⟨sk,fl,S,F⟩:=h
 refine ⟨_,_,S.dJ hf,⟨F.Ca,λ a b=>?_,λ a=>?_⟩⟩
 .
  show 0<=(if a=i/\b=j then k else fl a b)/\(if a=i/\b=j then k else fl a b)<=3
  split
  . exact ⟨k0,k3⟩
  . exact F.zF a b
 . show (if a=i/\a=j then k else fl a a)=0
   rw [abZ (by lia)]
   exact F.Mr a
theorem Tw.iE {m:al} {i:Nat} {z:bQ×Int×Int×Int} (h:Tw m):Tw (m.fV i z):=by
 obtain ⟨sk,fl,S,F⟩:=h
 exact ⟨sk,fl,S.fV,F⟩
theorem Tw.tz {m:al} {i:Nat} {f:bQ} {k:Int} (h:Tw m) (hi:i<m.rows.length) (h4:m.rows.length<=4) (hf:Ov 12 k f) (k3:k<=3):bv (jz (m.own i) (m.dZ i)) f=false:=by
 obtain ⟨sk,fl,S,F⟩:=h
 have:=DE h4 (t:=3) (by decide) (F.zF i) (F.Mr i) hi
 exact S.tz (by decide) hf (by lia)
theorem zM {fl:Nat->Nat->Int} {i j n:Nat} (hn:n<=4) (h:∀ b,0<=fl i b/\fl i b<=3) (h0:fl i i=0) (hi:i<n) (hj:j<n) (qv:i≠j):sumF fl i n - fl i j<=6:=by
 have a0:=h 0
 have a1:=h 1
 have a2:=h 2
 have a3:=h 3
 have ci:i=0∨i=1∨i=2∨i=3:=by lia
 have cj:j=0∨j=1∨j=2∨j=3:=by lia
 match n,hn with
 | 0,_=>lia
 | 1,_=>lia
 | 2,_=>rcases ci with rfl|rfl|rfl|rfl<;>rcases cj with rfl|rfl|rfl|rfl<;>simp only [sumF]<;>lia
 | 3,_=>rcases ci with rfl|rfl|rfl|rfl<;>rcases cj with rfl|rfl|rfl|rfl<;>simp only [sumF]<;>lia
 | 4,_=>rcases ci with rfl|rfl|rfl|rfl<;>rcases cj with rfl|rfl|rfl|rfl<;>simp only [sumF]<;>lia
theorem Tw.oU {m:al} {i j:Nat} {f:bQ} {k:Int} (h:Tw m) (hi:i<m.rows.length) (hj:j<m.rows.length) (qv:i≠j) (h4:m.rows.length<=4) (hf:Ov 12 k f) (k3:k<=3):bv (jz (m.own i) (m.eO i j)) f=false:=by
 obtain ⟨sk,fl,S,F⟩:=h
 have:=zM h4 (F.zF i) (F.Mr i) hi hj qv
 have:=F.Ca i
 exact S.oU (by decide) hf (by lia)
inductive Al (K:W.Frag) (C:Addr) (vs:List V) (H:Hp) (Q:VK) (_E:XK):Prop
 | mk (p:_) (tm:ap) (n:Nat) (_:vs=[.ref p]) (_:jg K H p tm) (_:tm.Ok n n) (_:1<=n) (_:n<=4) (_:∀ a H' fp,aA H H'->aM K C H' a fp (tm.m2 n n)->(∀ b∈fp,H b=none)->(tm.m2 n n).rows.length=n->Tw (tm.m2 n n)->Q (.ref a) H')
def xE:Nat->PyData->Prop
 | _,.none=>True
 | _,.bool _=>True
 | _,.int _=>True
 | n+1,.list ds=>∀ d∈ds,xE n d
 | n+1,.tuple ds=>∀ d∈ds,xE n d
 | _,_=>False
theorem sd {n:Nat} (h:∀ d,xE n d->PyData.eqv d d=true/\d.canLay0=true/\d.depth<=n):∀ ds:List PyData,(∀ d∈ds,xE n d)->PyData.eqvAll ds ds=true/\PyData.canLayAll0 ds=true/\PyData.depthAll ds<=n
 | [],_=>by simp [PyData.eqvAll,PyData.canLayAll0,PyData.depthAll]
 | d::ds,k=>by
   obtain ⟨a,b,c⟩:=h d (k d acY)
   obtain ⟨a',b',c'⟩:=sd h ds (λ e he=>k e (acV _ he))
   simp only [PyData.eqvAll,PyData.canLayAll0,PyData.depthAll,a,b,a',b',Bool.and_self,afP]
   lia
theorem lu:∀ (n:Nat) (d:PyData),xE n d->PyData.eqv d d=true/\d.canLay0=true/\d.depth<=n
 | n,.none,_=>by simp [PyData.eqv,PyData.canLay0,PyData.depth]
 | n,.bool b,_=>by simp [PyData.eqv,PyData.canLay0,PyData.depth]
 | n,.int i,_=>by simp [PyData.eqv,PyData.canLay0,PyData.depth]
 | n+1,.list ds,h=>by
   obtain ⟨a,b,c⟩:=sd (lu n) ds h
   simp only [PyData.eqv,PyData.canLay0,PyData.depth,a,b,afP]
   lia
 | n+1,.tuple ds,h=>by
   obtain ⟨a,b,c⟩:=sd (lu n) ds h
   simp only [PyData.eqv,PyData.canLay0,PyData.depth,a,b,afP]
   lia
 | 0,.list _,h=>h.elim
 | 0,.tuple _,h=>h.elim
 | 0,.str _,h=>h.elim
 | _+1,.str _,h=>h.elim
 | 0,.dict _,h=>h.elim
 | _+1,.dict _,h=>h.elim
theorem dO {n:Nat} {d:PyData} (h:xE n d) (hn:n<=64):SeqAt.shaped d=true:=by
 obtain ⟨_,b,c⟩:=lu n d h
 unfold SeqAt.shaped
 rw [b,ac7 (adf c hn)];rfl
theorem AX {n:Nat} {d:PyData} (h:xE n d):PyData.eqv d d=true:=(lu n d h).1
theorem A0 {K:W.Frag} {x y:V} {d:PyData} {n:Nat} {Q:VK} (hx:Dn K H d x) (hy:Dn K H d y) (p:xE n d) (hn:n<=64) (q:Q (.bl false) H):Kk K x y H Q :=
 ⟨d,d,hx,hy,dO p hn,dO p hn,by rw [AX p];exact q⟩
theorem fT {X:Cx} {K:W.Frag} (h:X.K=K):Lb X (LF K):=by
 subst h
 exact aD
theorem o9:∀ {ns:List Int} {bf:List Value},Vals (ns.map V.int) bf->∃ ys:List (Int×Tok),bf=ys.map (λ p=>Value.int p.1 p.2)/\ys.map (·.1)=ns
 | [],bf,r=>by cases r;exact ⟨[],rfl,rfl⟩
 | n::ns,bf,r=>by
   cases r with
   | cons a b =>
     obtain ⟨t,rfl⟩:=a
     obtain ⟨ys,rfl,e⟩:=o9 b
     exact ⟨(n,t)::ys,rfl,by rw [adl,e]⟩
section
variable {X:Cx}
theorem yK (hc:X.calm=true):gS X (.builtin "sum") (λ xs H Q=>∃ (p:Addr) (ns:List Int),xs=[.ref p]/\aV X.K H p (ns.map V.int)/\∀ r:Int,r=ns.sum->Q (.int r) H):=by
 intro pins s U H xs us Q I r h
 obtain ⟨p,ns,rfl,hq,q⟩:=h
 obtain ⟨u,rfl,r1⟩:=vals1 r
 obtain rfl:u=Value.ref p:=r1
 obtain ⟨bf,rv,pl,_⟩:=I.list hq
 obtain ⟨ys,rfl,e⟩:=o9 rv
 have hl:s.heap.IsList p (intItems ys.toArray):=by have:=pl.isList;simpa [intItems] using this
 refine sum_intListG (I.ok.hd hc) hl λ h' tk t' hk=>?_
 refine ⟨.int _,H,I.kept hk,⟨t',rfl⟩,q _ ?_⟩
 rw [preSum_eq,adT (by simp),← e]
end
theorem G4:bootBuiltins "min" = some (.builtin "min"):=by decide +kernel
theorem HX:bootBuiltins "max" = some (.builtin "max"):=by decide +kernel
theorem Gg:bootBuiltins "sum" = some (.builtin "sum"):=by decide +kernel
theorem i6:bootBuiltins "enumerate" = some (.type "enumerate"):=by decide +kernel
def ju (r:List bQ) (f g:bQ) (b:Nat):Bool:=(!bv g (r.getD b (0,1))) && !bv (r.getD (b+1) (0,1)) f
def i0 (r:List bQ) (f g:bQ) (n:Nat):List Nat:=(List.range n).filter (ju r f g)
def jK (r:List bQ) (f g:bQ):List Nat:=i0 r f g (r.length - 1)
def gW (r:List bQ) (f g:bQ):Bool:=(!bv f (r.getD 0 (0,1))) && !bv (r.getD (r.length - 1) (0,1)) g
theorem iM (r:List bQ) (f g:bQ) (n:Nat):i0 r f g (n+1)=i0 r f g n++if ju r f g n then [n] else []:=by
 unfold i0
 rw [adh,adG]
 cases h:ju r f g n<;>simp [List.filter,h]
theorem mO (r:List bQ) (f g:bQ) (n:Nat):(i0 r f g n).length<=n:=by
 have:=adq (ju r f g) (List.range n)
 rw [acD] at this
 exact this
inductive yW (K:W.Frag) (C:Addr) (vs:List V) (H:Hp) (Q:VK) (_E:XK):Prop
 | mk (a fp m:_) (i:Nat) (r v1 v2 f g:_) (_:vs=[.ref a,ar i,v1,v2]) (_:aM K C H a fp m) (_:m.rows[i]?=some r) (_:Dn K H (dE f) v1) (_:Dn K H (dE g) v2) (_:dR 1000 f) (_:dR 1000 g) (_:∀ H',aA H H'->Q (.bl (gW r f g)) H')
theorem DG {α:Type} {xs:List α} {x:α} (h0:0<xs.length) (h:xs[xs.length - 1]?=some x):wO xs (-1)=some x:=by
 unfold wO xv
 rw [abZ (by lia),abS (by lia)]
 have e:((-1:Int)+(xs.length:Int)).toNat=xs.length - 1:=by lia
 simp only [Option.bind_some]
 first
   | (rw [e];exact h)
   | (have e2:((xs.length:Int) + -1).toNat=xs.length - 1:=by lia
      rw [e2];exact h)
theorem hJ {x y p q:Int} {s:tD} (h:s.Ok) (hp:0<p) (hq:0<q):bv (aP x p s) (aP y q s)=decide (x * q<y * p):=by
 have F:=ga (t:=bS x p s) (di h hp)
 have G:=ga (t:=bS y q s) (di h hq)
 have hB:=di h hp
 have hC:=di h hq
 have c1:(aP x p s).1 * bK p s=bS x p s * (aP x p s).2:=F.iy
 have c2:(aP y q s).1 * bK q s=bS y q s * (aP y q s).2:=G.iy
 have p1:0<(aP x p s).2:=F.pos
 have p2:0<(aP y q s).2:=G.pos
 unfold bv
 rw [decide_eq_decide]
 generalize (aP x p s).1=q1 at c1 ⊢
 generalize (aP x p s).2=r1 at c1 p1 ⊢
 generalize (aP y q s).1=q2 at c2 ⊢
 generalize (aP y q s).2=r2 at c2 p2 ⊢
 have hu:0<bK p s * bK q s:=adi hB hC
 have hv:0<r1 * r2:=adi p1 p2
 have e1:(q1 * r2) * (bK p s * bK q s)=(bS x p s * bK q s) * (r1 * r2):=by
   have:(q1 * r2) * (bK p s * bK q s)=(q1 * bK p s) * (r2 * bK q s):=by grind
   rw [this,c1];grind
 have e2:(q2 * r1) * (bK p s * bK q s)=(bS y q s * bK p s) * (r1 * r2):=by
   have:(q2 * r1) * (bK p s * bK q s)=(q2 * bK q s) * (r1 * bK p s):=by grind
   rw [this,c2];grind
 have s1:q1 * r2<q2 * r1↔bS x p s * bK q s<bS y q s * bK p s:=by
   rw [← aeN hu,e1,e2,aeN hv]
 rw [s1]
 have a0:=h.a0
 have b0:=h.b0
 have d0:=h.d0
 have hw:0<s.a * s.d * s.b * s.d:=adi (adi (adi (by lia) (by lia)) (by lia)) (by lia)
 have e3:bS x p s * bK q s=(x * q) * (s.a * s.d * s.b * s.d)+p * q * s.t * s.b * s.b * s.d:=by unfold bS bK;grind
 have e4:bS y q s * bK p s=(y * p) * (s.a * s.d * s.b * s.d)+p * q * s.t * s.b * s.b * s.d:=by unfold bS bK;grind
 rw [e3,e4,Int.add_lt_add_iff_right,aeN hw]
def gJ (n:Nat):PyData:=.int (n:Int)
theorem im {K:W.Frag}:∀ l:List Nat,bI K H (l.map gJ) (l.map ar)
 | []=>eM
 | n::l=>aO rfl (im l)
theorem sP {K:W.Frag} {p:Addr} (h:aV K H p (l.map ar)):Dn K H (.list (l.map gJ)) (.ref p):=sE h (im l)
theorem xK {n:Nat}:xE (n+1) (.list (l.map gJ)):=by
 intro d hd
 obtain ⟨i,_,rfl⟩:=List.mem_map.mp hd
 cases n<;>exact trivial
theorem DH:([]:List V).length<=sizeLine:=adm _
def Dk (ns:List Int) (lo hi:Option Int):List Int:=(ns.drop (HT.qm ns.length 0 lo)).take (HT.qm ns.length ns.length hi - HT.qm ns.length 0 lo)
theorem zv (ns:List Int) (lo hi:Option Int):mE (ns.map V.int) lo hi=(Dk ns lo hi).map V.int:=by
 unfold mE Dk
 rw [xq,← List.map_drop,← List.map_take]
theorem re:∀ (rs:List (List bQ)) (m:al),(rs.foldl al.bG m).aX=m.aX++List.replicate rs.length ((0,1),(0,1),(0,1))/\(rs.foldl al.bG m).ax=m.ax++List.replicate rs.length none/\(rs.foldl al.bG m).aY=m.aY
 | [],m=>⟨by simp,by simp,rfl⟩
 | r::rs,m=>by
   obtain ⟨a,b,c⟩:=re rs (m.bG r)
   refine ⟨?_,?_,c⟩
   . show (rs.foldl al.bG (m.bG r)).aX=_
     rw [a]
     show (m.aX++[((0,1),(0,1),(0,1))])++_=_
     rw [aeZ,acX,afM];rfl
   . show (rs.foldl al.bG (m.bG r)).ax=_
     rw [b]
     show (m.ax++[none])++_=_
     rw [aeZ,acX,afM];rfl
theorem k8 (tm:ap) (i:Nat) (m:al):∀ j,(tm.dG i m j).aX=m.aX/\(tm.dG i m j).ax=m.ax/\∀ a b:Int,(tm.dG i m j).aY a b=if a=(i:Int)/\0<=b/\b<j/\b≠i then (match tm.aY i b.toNat with|some k=>some (nf k 12)|none=>m.aY a b) else m.aY a b
 | 0=>by
   refine ⟨rfl,rfl,λ a b=>?_⟩
   rw [abZ (by lia)];rfl
 | j+1=>by
   obtain ⟨h1,h2,h3⟩:=k8 tm i m j
   rw [ap.lA]
   unfold ap.fD
   by_cases e:j=i
   .
    rw [abS e]
    refine ⟨h1,h2,λ a b=>?_⟩
    rw [h3]
    by_cases c:a=(i:Int)/\0<=b/\b<(j:Int)/\b≠i
    . rw [abS c,abS (by lia)]
    . rw [abZ c,abZ (by lia)]
   .
    rw [abZ e]
    cases hf:tm.aY i j with
    | none =>
      refine ⟨h1,h2,λ a b=>?_⟩
      show (tm.dG i m j).aY a b=_
      rw [h3]
      by_cases c:a=(i:Int)/\0<=b/\b<(j:Int)/\b≠i
      . rw [abS c,abS (by lia)]
      . rw [abZ c]
        by_cases d:a=(i:Int)/\0<=b/\b<((j+1:Nat):Int)/\b≠i
        . rw [abS d]
          have:b.toNat=j:=by lia
          rw [this,hf]
        . rw [abZ d]
    | some k =>
      refine ⟨h1,h2,λ a b=>?_⟩
      show (if a=(i:Int)/\b=(j:Int) then some (nf k 12) else (tm.dG i m j).aY a b)=_
      by_cases c:a=(i:Int)/\b=(j:Int)
      . rw [abS c,abS (by lia)]
        have:b.toNat=j:=by lia
        rw [this,hf]
      . rw [abZ c,h3]
        by_cases d:a=(i:Int)/\0<=b/\b<(j:Int)/\b≠i
        . rw [abS d,abS (by lia)]
        . rw [abZ d,abZ (by lia)]
theorem fN {n:Nat} (ok:tm.Ok n n):∀ k,k<=n ->
   (∀ i,i<k->(tm.m2 n k).aX[i]?=(tm.ce[i]?).map tm.kU)/\(tm.m2 n k).aX.length=n /\
   (∀ i,i<k->(tm.m2 n k).ax[i]?=(tm.ax[i]?).map λ z=>z.map tm.gl)/\(∀ i,k<=i->i<n->(tm.m2 n k).ax[i]?=some none)/\(tm.m2 n k).ax.length=n /\
   (∀ a b:Nat,a<k->b<n->a≠b->(tm.m2 n k).aY a b=(tm.aY a b).map λ x=>nf x 12) /\
   (∀ a:Nat,(tm.m2 n k).aY a a=none):=by
 intro k
 induction k with
 | zero =>
   intro _
   obtain ⟨a,b,c⟩:=re ((tm.marks.take n).map tm.row) (al.new tm.bounds.1 tm.bounds.2.1 tm.bounds.2.2)
   have hl:((tm.marks.take n).map tm.row).length=n:=by rw [xq,acB,ok.lm];lia
   rw [hl] at a b
   have a':(tm.m2 n 0).aX=List.replicate n ((0,1),(0,1),(0,1)):=a
   have b':(tm.m2 n 0).ax=List.replicate n none:=b
   have c':(tm.m2 n 0).aY=λ _ _=>none:=c
   refine ⟨nofun,by rw [a',adN],nofun,λ i _ hi=>?_,by rw [b',adN],nofun,λ _=>by rw [c']⟩
   rw [b',aex,abS hi]
 | succ k ih =>
   intro hk
   obtain ⟨s1,s2,t1,t2,t3,f1,f2⟩:=ih (by lia)
   have hks:k<tm.ce.length:=by rw [ok.ls];lia
   have Nf:k<tm.ax.length:=by rw [ok.lt];lia
   rw [ap.xI]
   generalize tm.m2 n k=m at s1 s2 t1 t2 t3 f1 f2
   have e1:tm.fG m k=m.e8 k (tm.kU tm.ce[k]):=by unfold ap.fG;rw [au hks]
   unfold ap.kY
   rw [e1]
   obtain ⟨g1,g2,g3⟩:=k8 tm k (tm.bD (m.e8 k (tm.kU tm.ce[k])) k) n
   have Ca:(tm.bD (m.e8 k (tm.kU tm.ce[k])) k).aX=m.aX.set k (tm.kU tm.ce[k]):=by
     unfold ap.bD
     split<;>rfl
   have zF:(tm.bD (m.e8 k (tm.kU tm.ce[k])) k).aY=m.aY:=by
     unfold ap.bD
     split<;>rfl
   have nW:(tm.bD (m.e8 k (tm.kU tm.ce[k])) k).ax=m.ax.set k (tm.ax[k].map tm.gl):=by
     unfold ap.bD
     rw [au Nf]
     cases tm.ax[k] with
     | some z=>rfl
     | none =>
       show m.ax=m.ax.set k none
       have h0:=t2 k (aaT _) (by lia)
       obtain ⟨hl,he⟩:=List.getElem?_eq_some_iff.mp h0
       rw [← he,List.set_getElem_self]
   rw [g1,g2,Ca,nW]
   refine ⟨λ i hi=>?_,by rw [adz];exact s2,λ i hi=>?_,λ i hi hn=>?_,by rw [adz];exact t3,λ a b ha hb vD=>?_,λ a=>?_⟩
   . by_cases e:i=k
     . subst e
       rw [adt (by lia),au hks];rfl
     . rw [ads (by lia)];exact s1 i (by lia)
   . by_cases e:i=k
     . subst e
       rw [adt (by lia),au Nf];rfl
     . rw [ads (by lia)];exact t1 i (by lia)
   . rw [ads (by lia)];exact t2 i (by lia) hn
   .
    rw [g3,zF]
    by_cases e:a=k
    . subst e
      rw [abS (by lia)]
      obtain ⟨x,hx,_⟩:=ok.aY a b (by lia) hb vD
      have:((b:Int)).toNat=b:=by lia
      rw [this,hx];rfl
    . rw [abZ (by lia)]
      exact f1 a b (by lia) hb vD
   . rw [g3,zF]
     rw [abZ (by lia)]
     exact f2 a
section
variable {P:Program} {w:World} {A:Around} {E:Value->Shared->Prop} {s:Shared}
theorem xp {j a:Addr} {i:Nat} {bf:Array Value} {x:Value} {Q:Value->Shared->Prop} (hj:s.heap.IsTupleIter j a i) (ha:s.heap.IsTuple a bf) (hx:bf[i]?=some x) (k:∀ h',h'.IsTupleIter j a (i+1)->Heap.SameBut j s.heap h'->Q x { s with heap:=h' }):wpAny (model P w) A (Builtin.SmallTypes.nextOf (.ref j)) Q E s:=by
 obtain ⟨oj,ej,cj,dj⟩:=id hj
 obtain ⟨oa,ea,_,na,da⟩:=ha
 unfold Builtin.SmallTypes.nextOf
 refine abn (wpAny_callSpecial?_slot (name:=Str.ofString "__next__") hj.typeIs ad8 (wpAny_call_entry ad8 hj.typeIs afG ?_ (afA _)))
 refine abn (m:=field (.ref j) 0) (afB ej dj (x:=.ref a) rfl ?_)
 have nn:¬ ((Value.ref a == Value.none)=true):=acT
 show wpAny _ _ (if (Value.ref a == Value.none)=true then _ else _) _ _ s
 rw [abZ nn]
 refine abn (m:=field (.ref j) 1) (afB ej dj (x:=.int i 0) rfl ?_)
 refine abn (m:=seqItems? (.ref a)) (afJ ea da ?_)
 simp only [adB,hx]
 refine abn (wpAny_setField ej dj (by simp) (ac9 ⟨x,rfl,ac9 (k _ ⟨_,Heap.get?_update_self _ ej (Obj.isFreed_of_fields (Obj.data_mapFields dj _)),(Obj.cls_mapFields ..).trans cj,?_⟩ (Heap.SameBut.update ..))⟩))
 rw [Obj.data_mapFields dj]
 simp [rawInt]
theorem y0 {j a:Addr} {i:Nat} {bf:Array Value} {Q:Value->Shared->Prop} (hh:A.handled=none) (hj:s.heap.IsTupleIter j a i) (ha:s.heap.IsTuple a bf) (hx:bf[i]?=none) (k:∀ h' e,Heap.ExtBut j s.heap h'->(∃ o,h'.get? e=some o/\o.cls = .type "StopIteration")->E (.ref e) { s with heap:=h' }):wpAny (model P w) A (Builtin.SmallTypes.nextOf (.ref j)) Q E s:=by
 obtain ⟨oj,ej,cj,dj⟩:=id hj
 obtain ⟨oa,ea,_,na,da⟩:=ha
 unfold Builtin.SmallTypes.nextOf
 refine abn (wpAny_callSpecial?_slot (name:=Str.ofString "__next__") hj.typeIs ad8 (wpAny_call_entry ad8 hj.typeIs afG ?_ (afA _)))
 refine abn (m:=field (.ref j) 0) (afB ej dj (x:=.ref a) rfl ?_)
 have nn:¬ ((Value.ref a == Value.none)=true):=acT
 show wpAny _ _ (if (Value.ref a == Value.none)=true then _ else _) _ _ s
 rw [abZ nn]
 refine abn (m:=field (.ref j) 1) (afB ej dj (x:=.int i 0) rfl ?_)
 refine abn (m:=seqItems? (.ref a)) (afJ ea da ?_)
 simp only [adB,hx]
 refine abn (wpAny_rule (abn (wpAny_setField ej dj (by simp) (abn (m:=newExc (.type "StopIteration") []) ?_))))
 simp only [newExc,newTuple]
 refine abn (afi (abn (m:=firstArgMember _ _) (wpAny_of_eq (a:=Value.none) (by first|rfl|(simp only [firstArgMember];rfl)) (afi ?_ (by size_fits)))) (by size_fits))
 simp only [raiseNew]
 refine abn (wpAny_handled ?_)
 have h1:A.in1.handled=none:=hh
 first|rw [h1]|rw [hh]
 exact abn (ac9 (wpAny_throw (k _ _ (((Heap.SameBut.update ..).extBut.push _).push _) ⟨_,ac6 _ rfl,rfl⟩)))
end
theorem Bm {P:Program} {w:World} {A:Around} (hh:A.handled=none) (j a:Addr) (ne:a≠j) (bf:Array Value):Draws P w A j [j,a] bf.size (λ i v=>bf[i]?=some v) (λ i h=>h.IsTupleIter j a i/\h.IsTuple a bf) where
 live:=λ _ _ st=>by
   obtain ⟨⟨o,e,_⟩,_⟩:=st
   exact ⟨o,e⟩
 frame:=λ _ _ _ st k=>by
   obtain ⟨h1,oa,ea,r⟩:=st
   exact ⟨h1.at λ o e=>k j (by simp) o e,oa,k a (by simp) oa ea,r⟩
 item:=λ i s Q E hi st q=>xp st.1 st.2 (x:=bf[i]) (by simp [hi]) λ h' h1 sb=>q _ h' s.toks (by simp [hi]) ⟨h1,st.2.extBut sb.extBut ne⟩ sb
 done:=λ s Q E st q=>y0 hh st.1 st.2 (by simp) q
set_option maxHeartbeats 1000000 in
theorem yx (a:Addr) (ob:Obj) (bf:Array Value) (n:Nat) (hc:ob.cls = .type "tuple") (hd:ob.data = .seq bf n) :
   Meets (Builtin.«enumerate.__new__» ⟨[.type "enumerate",.ref a],[]⟩) (λ _ R s=>s.heap.get? a=some ob/\R (.ok (.ret (.ref (s.heap.push { cls:=.type "tuple_iterator",data:=.fields #[.ref a,.int 0 0]}).objs.size)))
     { s with heap:=(s.heap.push { cls:=.type "tuple_iterator",data:=.fields #[.ref a,.int 0 0]}).push { cls:=.type "enumerate",data:=.fields #[.none,.bool false,.ref s.heap.objs.size,rawInt 0,.none,.none]}}):=by
 obtain ⟨cl,dc,dt,sl⟩:=ob
 obtain rfl:cl = .type "tuple":=hc
 obtain rfl:dt = .seq bf n:=hd
 refine .of_wp λ P w A R s q=>?_
 obtain ⟨hh,gg,dd,tt,oo⟩:=s
 obtain ⟨hl,q⟩:=q
 have yp:=sub_enumerate
 have hT:Heap.IsTuple (Shared.heap ⟨hh,gg,dd,tt,oo⟩) a bf:=⟨_,hl,rfl,n,rfl⟩
 wp_walk using aeM hl
 refine wpAny_stack_any λ st=>ac9 ?_
 split
 . rename_i c _ _ _ _ _
   cases (c == Value.type "enumerate")<;>(wp_walk using aeM hl,wpAny_pyIter_tuple hT;exact ⟨_,rfl,q⟩)
 . wp_walk using aeM hl,wpAny_pyIter_tuple hT
   exact ⟨_,rfl,q⟩
section
variable {P:Program} {w:World} {A:Around} {E:Value->Shared->Prop} {s:Shared}
theorem oR {a:Addr} {bf:Array Value} {Q:Value->Shared->Prop} (hT:s.heap.IsTuple a bf) (k:∀ h',IsEnum h' (s.heap.objs.size+1) s.heap.objs.size 0 .none->h'.IsTupleIter s.heap.objs.size a 0->(∀ b o,s.heap.get? b=some o->h'.get? b=some o)->Q (.ref (s.heap.objs.size+1)) { s with heap:=h' }) :
   wpAny (model P w) A (call (.type "enumerate") [.ref a]) Q E s:=by
 obtain ⟨ob,e,hc,n,hd⟩:=hT
 refine callType_new F.called_enumerate (by decide) (F.typeCall_enumerate_1 _) (F.newCall_enumerate_1 _) (λ obj=>F.args_object_init_2 obj _) F.entry_enumerate_new (yx a ob bf n hc hd) ⟨e,?_⟩
 have hz:(s.heap.push { cls:=.type "tuple_iterator",data:=.fields #[.ref a,.int 0 0]}).objs.size=s.heap.objs.size+1:=ae2 ..
 have hn:=ac6 (s.heap.push { cls:=.type "tuple_iterator",data:=.fields #[.ref a,.int 0 0]}) (o:={ cls:=.type "enumerate",data:=.fields #[.none,.bool false,.ref s.heap.objs.size,rawInt 0,.none,.none]}) rfl
 rw [hz] at hn
 show _/\_
 rw [hz]
 exact ⟨⟨_,hn,rfl⟩,k _ hn ⟨_,aa4 _ (ac6 _ rfl),rfl,rfl⟩ λ b o x=>aa4 _ (aa4 _ x)⟩
end
def Du (sq:Hp->Addr->List V->Prop) (a:Addr):It :=
 ⟨λ i H=>∃ xs x,sq H a xs/\xs[i]?=some x,
  λ i H v H'=>∃ p x,H p=none/\v = .ref p/\H'=upd H p (.tup [ar i,x])/\∀ xs,sq H a xs->xs[i]?=some x,
  λ i H=>∃ xs,sq H a xs/\xs.length=i⟩
def EnL (e j a:Addr) (i:Nat) (h:Heap):Prop:=(∃ old,IsEnum h e j i old)/\h.IsListIter j a i
def EnT (e j a:Addr) (i:Nat) (h:Heap):Prop:=(∃ old,IsEnum h e j i old)/\h.IsTupleIter j a i
theorem uB {P:Program} {w:World} {K:W.Frag} {e j a:Addr} (ej:e≠j) (ae:a≠e) (aj:a≠j):Turn P w K (.Tuple elts x1 nN) (Du (aV K) a) [e,j] e (EnL e j a) where
 mem:=by simp
 obj:=λ i h st c hc=>by
   obtain ⟨⟨old,h1⟩,oj,e2,_,d2⟩:=st
   simp only [abt,T1,adj] at hc
   rcases hc with rfl|rfl
   . exact ⟨_,h1,λ v q=>by cases q⟩
   . exact ⟨oj,e2,λ v q=>by rw [d2] at q;cases q⟩
 keep:=λ i h h' st k=>by
   obtain ⟨⟨old,h1⟩,h2⟩:=st
   exact ⟨⟨old,k e (by simp) _ h1⟩,h2.at λ o q=>k j (by simp) o q⟩
 item:=by
   intro X hP hw hK hc i pins s U H E I hf st hg
   subst hP hw hK
   obtain ⟨xs,x,hq,hx⟩:=hg
   obtain ⟨bf,rv,p,hz⟩:=I.list hq
   obtain ⟨u,hu,ru⟩:=rv.get hx
   obtain ⟨⟨old,h1⟩,h2⟩:=st
   have le:e<s.heap.objs.size:=act h1
   have lj:j<s.heap.objs.size:=by obtain ⟨o,q,_⟩:=h2;exact act q
   have hi:i<bf.toArray.size:=by
     have:=(List.getElem?_eq_some_iff.mp hu).1
     simpa using this
   refine wpAny_pyNext_enum_itemD (Draws.list (A:=X.A.in1) (I.ok.hd hc) j a aj bf.toArray) h1 ⟨h2,p.isList⟩ hi ej (by simp [ej,ae.symm]) λ v h' tk hv eo Co ht Mi kk=>?_
   obtain rfl:v=u:=by
     have hv:bf.toArray[i]?=some v:=hv
     rw [afE,hu] at hv
     exact (aba hv).symm
   refine ⟨.ref s.heap.objs.size,rfl,afH (s:={ s with heap:=h',toks:=tk+1 }) eo λ g he sb=>?_⟩
   have AJ:∀ c o,c∉[e,j]->s.heap.get? c=some o->g.get? c=some o:=λ c o hn q=>by
     simp only [abt,T1,adj,aeb] at hn
     exact sb.extBut _ _ hn.1 (kk c o hn.1 hn.2 q)
   have n5:=sb.extBut _ _ (ae0 le) ht
   refine ⟨.ref s.heap.objs.size,upd H s.heap.objs.size (.tup [ar i,x]),I.tf (t':=tk+1) AJ hf (aaT _) ⟨by show 2<=sizeLine;decide,[.int i tk,v],.cons ⟨tk,rfl⟩ (.cons ru .nil),⟨_,n5,rfl,_,rfl⟩⟩,rfl,
     ⟨_,x,I.cq.fresh (aaT _),rfl,rfl,λ xs' h=>by rw [I.kX h hq];exact hx⟩,⟨⟨_,by simpa using he⟩,Co.1.extBut sb.extBut ej.symm⟩,λ c vI=>?_⟩
   have lc:c<s.heap.objs.size:=by
     simp only [abt,T1,adj] at vI
     rcases vI with rfl|rfl
     . exact le
     . exact lj
   rw [av (acW lc)]
   exact (hf c vI).1
 done:=by
   intro X hP hw hK hc i pins s U H E I hf st hg
   subst hP hw hK
   obtain ⟨xs,hq,hl⟩:=hg
   obtain ⟨bf,rv,p,hz⟩:=I.list hq
   obtain ⟨⟨old,h1⟩,h2⟩:=st
   have hn:i=bf.toArray.size:=by rw [abO,← rv.length];exact hl.symm
   subst hn
   refine wpAny_pyNext_enum_endD (Draws.list (A:=X.A.in1) (I.ok.hd hc) j a aj bf.toArray) h1 ⟨h2,p.isList⟩ λ h' eb=>⟨rfl,I.rO (ch:=[e,j]) (t':=s.toks) (λ c o hn q=>?_) hf⟩
   simp only [abt,T1,adj,aeb] at hn
   exact eb c o hn.2 q
 self:=λ _ _ _ _ _ st h=>by
   obtain ⟨⟨old,h1⟩,_⟩:=st
   exact ad0 h1 h
theorem u8 {P:Program} {w:World} {K:W.Frag} {e j a:Addr} (ej:e≠j) (ae:a≠e) (aj:a≠j):Turn P w K (.Tuple elts x1 nN) (Du (bU K) a) [e,j] e (EnT e j a) where
 mem:=by simp
 obj:=λ i h st c hc=>by
   obtain ⟨⟨old,h1⟩,oj,e2,_,d2⟩:=st
   simp only [abt,T1,adj] at hc
   rcases hc with rfl|rfl
   . exact ⟨_,h1,λ v q=>by cases q⟩
   . exact ⟨oj,e2,λ v q=>by rw [d2] at q;cases q⟩
 keep:=λ i h h' st k=>by
   obtain ⟨⟨old,h1⟩,h2⟩:=st
   exact ⟨⟨old,k e (by simp) _ h1⟩,h2.at λ o q=>k j (by simp) o q⟩
 item:=by
   intro X hP hw hK hc i pins s U H E I hf st hg
   subst hP hw hK
   obtain ⟨xs,x,hq,hx⟩:=hg
   obtain ⟨bf,rv,p,hz⟩:=I.tuple hq
   obtain ⟨u,hu,ru⟩:=rv.get hx
   obtain ⟨⟨old,h1⟩,h2⟩:=st
   have le:e<s.heap.objs.size:=act h1
   have lj:j<s.heap.objs.size:=by obtain ⟨o,q,_⟩:=h2;exact act q
   have hi:i<bf.toArray.size:=by
     have:=(List.getElem?_eq_some_iff.mp hu).1
     simpa using this
   refine wpAny_pyNext_enum_itemD (Bm (A:=X.A.in1) (I.ok.hd hc) j a aj bf.toArray) h1 ⟨h2,p⟩ hi ej (by simp [ej,ae.symm]) λ v h' tk hv eo Co ht Mi kk=>?_
   obtain rfl:v=u:=by
     have hv:bf.toArray[i]?=some v:=hv
     rw [afE,hu] at hv
     exact (aba hv).symm
   refine ⟨.ref s.heap.objs.size,rfl,afH (s:={ s with heap:=h',toks:=tk+1 }) eo λ g he sb=>?_⟩
   have AJ:∀ c o,c∉[e,j]->s.heap.get? c=some o->g.get? c=some o:=λ c o hn q=>by
     simp only [abt,T1,adj,aeb] at hn
     exact sb.extBut _ _ hn.1 (kk c o hn.1 hn.2 q)
   have n5:=sb.extBut _ _ (ae0 le) ht
   refine ⟨.ref s.heap.objs.size,upd H s.heap.objs.size (.tup [ar i,x]),I.tf (t':=tk+1) AJ hf (aaT _) ⟨by show 2<=sizeLine;decide,[.int i tk,v],.cons ⟨tk,rfl⟩ (.cons ru .nil),⟨_,n5,rfl,_,rfl⟩⟩,rfl,
     ⟨_,x,I.cq.fresh (aaT _),rfl,rfl,λ xs' h=>by rw [I.yB h hq];exact hx⟩,⟨⟨_,by simpa using he⟩,Co.1.extBut sb.extBut ej.symm⟩,λ c vI=>?_⟩
   have lc:c<s.heap.objs.size:=by
     simp only [abt,T1,adj] at vI
     rcases vI with rfl|rfl
     . exact le
     . exact lj
   rw [av (acW lc)]
   exact (hf c vI).1
 done:=by
   intro X hP hw hK hc i pins s U H E I hf st hg
   subst hP hw hK
   obtain ⟨xs,hq,hl⟩:=hg
   obtain ⟨bf,rv,p,hz⟩:=I.tuple hq
   obtain ⟨⟨old,h1⟩,h2⟩:=st
   have hn:i=bf.toArray.size:=by rw [abO,← rv.length];exact hl.symm
   subst hn
   refine wpAny_pyNext_enum_endD (Bm (A:=X.A.in1) (I.ok.hd hc) j a aj bf.toArray) h1 ⟨h2,p⟩ λ h' eb=>⟨rfl,I.rO (ch:=[e,j]) (t':=s.toks) (λ c o hn q=>?_) hf⟩
   simp only [abt,T1,adj,aeb] at hn
   exact eb c o hn.2 q
 self:=λ _ _ _ _ _ st h=>by
   obtain ⟨⟨old,h1⟩,_⟩:=st
   exact ad0 h1 h
section
variable {X:Cx}
def abX (K:W.Frag) (ta:TA):TI:=λ U H R=>ta U H λ vs H1=>∃ a,vs=[.ref a]/\(∃ xs,aV K H1 a xs)/\R (Du (aV K) a) H1
def N2 (K:W.Frag) (ta:TA):TI:=λ U H R=>ta U H λ vs H1=>∃ a,vs=[.ref a]/\(∃ xs,bU K H1 a xs)/\R (Du (bU K) a) H1
theorem Hb:("enumerate" : Str) ≠ "__name__":=by decide +kernel
theorem Gh:(("enumerate" : Str) == ("__debug__" : Str))=false:=by decide +kernel
theorem HP {a:Expr} {p pos:Pos} (hg:Gl X "enumerate") (hm:X.mg "enumerate" = none) (ha:PA X [a] ta) (hs:starEach [a] X.env=[(false,eval a X.env)]:=by rfl) :
   PI X (.Tuple elts x1 nN) (.Call (.Name "enumerate" p) [a] [] pos) (abX X.K ta):=by
 intro pins s U H R I h
 refine Call_ ?_
 refine jD I hg hm i6 ?_ Hb Gh
 refine ady ?_ hs rfl
 refine cx (ha pos pins s U H _ I h) λ us s1 ⟨vs,H1,I1,r1,q1⟩=>?_
 obtain ⟨a,e,⟨xs,hq⟩,q⟩:=q1
 subst e
 cases r1 with
 | cons r rr =>
   cases rr
   obtain rfl:_=Value.ref a:=r
   obtain ⟨bf,rv,p1,Iz⟩:=I1.list hq
   have la:a<s1.heap.objs.size:=by obtain ⟨_,e,_⟩:=p1.isList;exact act e
   refine call_enumerate_list p1.isList λ h' z1 z2 z3 kk=>ad0 z1 ?_
   refine ⟨s1.heap.objs.size+1,[s1.heap.objs.size+1,s1.heap.objs.size],_,_,H1,rfl,I1.kept (t':=s1.toks) kk,uB (aeC _) (acW (aet la)) (acW la),⟨⟨_,z1⟩,z2⟩,λ c hc=>?_,q⟩
   have hle:s1.heap.objs.size<=c:=by
     simp only [abt,T1,adj] at hc
     rcases hc with rfl|rfl
     . exact ad9 _
     . exact aaT _
   exact I1.uO hle (I1.cq.fresh hle)
theorem G1 {a:Expr} {p pos:Pos} (hg:Gl X "enumerate") (hm:X.mg "enumerate" = none) (ha:PA X [a] ta) (hs:starEach [a] X.env=[(false,eval a X.env)]:=by rfl) :
   PI X (.Tuple elts x1 nN) (.Call (.Name "enumerate" p) [a] [] pos) (N2 X.K ta):=by
 intro pins s U H R I h
 refine Call_ ?_
 refine jD I hg hm i6 ?_ Hb Gh
 refine ady ?_ hs rfl
 refine cx (ha pos pins s U H _ I h) λ us s1 ⟨vs,H1,I1,r1,q1⟩=>?_
 obtain ⟨a,e,⟨xs,hq⟩,q⟩:=q1
 subst e
 cases r1 with
 | cons r rr =>
   cases rr
   obtain rfl:_=Value.ref a:=r
   obtain ⟨bf,rv,p1,Iz⟩:=I1.tuple hq
   have la:a<s1.heap.objs.size:=p1.lt
   refine oR p1 λ h' z1 z2 kk=>ad0 z1 ?_
   refine ⟨s1.heap.objs.size+1,[s1.heap.objs.size+1,s1.heap.objs.size],_,_,H1,rfl,I1.kept (t':=s1.toks) kk,u8 (aeC _) (acW (aet la)) (acW la),⟨⟨_,z1⟩,z2⟩,λ c hc=>?_,q⟩
   have hle:s1.heap.objs.size<=c:=by
     simp only [abt,T1,adj] at hc
     rcases hc with rfl|rfl
     . exact ad9 _
     . exact aaT _
   exact I1.uO hle (I1.cq.fresh hle)
end
theorem jY {sq:Hp->Addr->List V->Prop} {a:Addr} {xs:List V} {g:TG} {tt:TT} {te:TE} {D:Addr} {Q:Hp->Prop} {U:St} (Pv:Nat->List V->St->Hp->Prop) (h0:Pv 0 [] U H) (hl:∀ i acc U H,i<=xs.length->Pv i acc U H->sq H a xs) (hs:∀ i x p acc U H,xs[i]?=some x->H p=none->Pv i acc U H->g (.ref p) U (upd H p (.tup [ar i,x])) λ σ2 H3=>tt σ2 H3 λ k H4 =>
     if k=true then te σ2 H4 λ v H5=>H5 D=some (.lst acc)/\acc.length<sizeLine/\Pv (i+1) (acc++[v]) σ2 (upd H5 D (.lst (acc++[v]))) else Pv (i+1) acc σ2 H4) (hd:∀ acc U H,Pv xs.length acc U H->Q H) :
   ∃ W:Nat->Nat->List V->St->Hp->Prop,(∃ m,W 0 m [] U H)/\∀ i m acc σ' H',W i m acc σ' H'->((Du sq a).stop i H'/\Q H') ∨
     ((Du sq a).go i H'/\∃ N:List V->St->Hp->Prop,(∀ gL σ2 H4,N gL σ2 H4->∃ m',m'<m/\W (i+1) m' gL σ2 H4)/\∀ x H2,(Du sq a).BK i H' x H2->g x σ' H2 λ σ2 H3=>tt σ2 H3 λ k H4 =>
       if k=true then te σ2 H4 λ y H5=>H5 D=some (.lst acc)/\acc.length<sizeLine/\N (acc++[y]) σ2 (upd H5 D (.lst (acc++[y]))) else N acc σ2 H4):=by
 refine ⟨λ i m acc U H=>m=xs.length - i/\i<=xs.length/\Pv i acc U H,⟨_,rfl,adm _,h0⟩,?_⟩
 rintro i m acc U H ⟨rfl,hi,p⟩
 have q:=hl i acc U H hi p
 by_cases mP:i<xs.length
 . refine .inr ⟨⟨xs,xs[i],q,by simp [mP]⟩,Pv (i+1),λ gL σ' H' p'=>⟨xs.length - (i+1),by lia,rfl,mP,p'⟩,λ v H' y=>?_⟩
   obtain ⟨pp,x,hn,rfl,rfl,e1⟩:=y
   exact hs i x pp acc U H (e1 xs q) hn p
 . have e:i=xs.length:=by lia
   subst e
   exact .inl ⟨⟨xs,q,rfl⟩,hd acc U H p⟩
end L2
namespace Tx
open PySem PySem.Builtin PySem.Builtin.Str
theorem len (a:Str):a.cps.toList.length=a.length:=aeS
def sl:Str:=⟨#[47]⟩
theorem cases (x:Str):47∉x.cps.toList∨∃ a b:Str,47∉a.cps.toList/\x.cps.toList=a.cps.toList++47::b.cps.toList:=by
 by_cases h:47∈x.cps.toList
 . obtain ⟨as,bs,e,n⟩:=List.eq_append_cons_of_mem h
   exact .inr ⟨⟨as.toArray⟩,⟨bs.toArray⟩,by simpa using n,by simpa using e⟩
 . exact .inl h
def strN (n:Nat):Str:=Str.ofString (toString ((n:Nat):Int))
def Good (z:Str):Prop:=1<=z.length/\z.length<=30/\NumText.AllDigits z.cps.toList/\¬ (z.cps.toList.head?=some 48/\1<z.length)
def valOf (z:Str):Int:=((NumText.digitsVal z.cps.toList:Nat):Int)
def mi:Str:=⟨#[45]⟩
def AR (z:Str):Bool:=decide (z.cps.toList.head?=some 45)
def bodyOf (z:Str):Str:=if AR z=true then Txt.slice z (some 1) none else z
def PB (z:Str):Int:=if AR z=true then -1 else 1
def Rd (z:Str) (f:Int×Int):Prop :=
 Good (Txt.partition (bodyOf z) sl).1/\(AR z=true->valOf (Txt.partition (bodyOf z) sl).1≠0)/\f.1=PB z * valOf (Txt.partition (bodyOf z) sl).1 /\
 (((Txt.partition (bodyOf z) sl).2.1=sl/\Good (Txt.partition (bodyOf z) sl).2.2/\2<=valOf (Txt.partition (bodyOf z) sl).2.2 /\
     Int.gcd (valOf (Txt.partition (bodyOf z) sl).1) (valOf (Txt.partition (bodyOf z) sl).2.2)=1/\f.2=valOf (Txt.partition (bodyOf z) sl).2.2) ∨
   ((Txt.partition (bodyOf z) sl).2.1≠sl/\f.2=1))
def K0 (t:Int):Str:=if t<0 then mi++strN t.natAbs else strN t.natAbs
def afh (t b:Int):Str:=if b=1 then K0 t else K0 t++sl++strN b.natAbs
end Tx
namespace L2
open PySem PySem.Spec PyProof.Rows Mth
section
variable {P:Program} {w:World} {K:W.Frag} {mg:Str->Option Value} {base:Heap} {x qual m:Str} {st:Stmt} {dV:Value} {f C:Addr} {fd:FuncData} {N ps:List Str} {k:Nat} {sp:Sp} {ds:List Value} {ii:List V}
abbrev Qw:List Value:=[.type "ValueError",.type "Exception",.type "BaseException",.type "object"]
def afy (K:W.Frag) (C:Addr) (qual:Str) (st:Stmt):Prop:=∃ f fd,Rn K C f Qw "ValueError.__new__"/\pU K "__init__" qual st .none f fd
end
open PySem.Builtin PySem.Builtin.ObjectAttr
end L2
namespace Ord
open Bit
theorem sO:∀ W,W<16->parts (rooms W)=(List.range 16).filter (λ o=>decide (o &&& W=o)):=by decide +kernel
structure xL (n:Nat) (has:Nat->Bool) (wd:Nat->Int) (wt:Nat->Bool) (b:Nat) (most heap:Int) (o:Nat):Prop where
 has:∀ r∈rooms o,r<n/\has r=true
 iz:∀ r,r<n->wt r=true->o.testBit r=b.testBit r
 most:((rooms o).length:Int)<=most
 lH:((rooms o).map wd).sum<=heap
def setOf (n:Nat) (p:Nat->Bool):Nat:=sumOf ((List.range n).filter p)
theorem gm (n:Nat) (p:Nat->Bool) (k:Nat):(setOf n p).testBit k=(decide (k<n) && p k):=by
 unfold setOf
 rw [j9]
 by_cases h:k<n<;>cases e:p k<;>simp [h,e]
theorem sC (n:Nat) (p:Nat->Bool):setOf n p<2 ^ n:=Bw λ r hr=>List.mem_range.mp (List.mem_filter.mp hr).1
theorem yu {n:Nat} (p:Nat->Bool) (hn:n<=61):rooms (setOf n p)=(List.range n).filter p :=
 vj (λ r hr=>by have:=List.mem_range.mp (List.mem_filter.mp hr).1;lia) ((afx).filter _)
theorem Er {o k:Nat} (h:o<16) (hk:4<=k):o.testBit k=false:=gs (m:=4) h hk
structure Bh (n:Nat) (has:Nat->Bool) (wd:Nat->Int) (wt:Nat->Bool) (b:Nat) (most heap:Int) (o:Nat):Prop where
 iz:o &&& setOf n wt=b &&& setOf n wt
 most:((rooms o).length:Int)<=most
 lH:((rooms (o &&& setOf n has)).map wd).sum<=heap
section
variable {n:Nat} {has:Nat->Bool} {wd:Nat->Int} {wt:Nat->Bool} {b:Nat} {most heap:Int} {o:Nat}
theorem yb (ho:o<2 ^ 61):o &&& setOf n has=o↔∀ r∈rooms o,r<n/\has r=true:=by
 constructor
 .
  intro e r hr
  have h2:=(fe.mp hr).2
  rw [← e,adC,gm] at h2
  simp only [ac0,adv] at h2
  exact h2.2
 .
  intro h
  refine aef λ k=>?_
  rw [adC,gm]
  by_cases hk:k<61
  .
   cases e:o.testBit k with
   | false=>rfl
   | true =>
     obtain ⟨h1,h2⟩:=h k (fe.mpr ⟨hk,e⟩)
     rw [ac7 h1,h2];rfl
  . rw [gs ho (by lia)];rfl
theorem uZ:o &&& setOf n wt=b &&& setOf n wt↔∀ r,r<n->wt r=true->o.testBit r=b.testBit r:=by
 constructor
 .
  intro e r hr hw
  have h:=aea (λ x=>Nat.testBit x r) e
  simp only [adC,gm,ac7 hr,hw,Bool.and_true] at h
  exact h
 .
  intro h
  refine aef λ k=>?_
  rw [adC,adC,gm]
  by_cases hk:k<n
  . cases e:wt k with
    | false=>simp
    | true=>rw [h k hk e]
  . rw [ab2 hk];simp
theorem Bb (ho:o<2 ^ 61):xL n has wd wt b most heap o↔(o &&& setOf n has=o/\Bh n has wd wt b most heap o):=by
 constructor
 . rintro ⟨h1,h2,h3,h4⟩
   have e:=(yb ho).mpr h1
   exact ⟨e,⟨uZ.mpr h2,h3,by rw [e];exact h4⟩⟩
 . rintro ⟨e,h2,h3,h4⟩
   rw [e] at h4
   exact ⟨(yb ho).mp e,uZ.mp h2,h3,h4⟩
end
open Classical in
theorem zf {n:Nat} (hn:n<=4) (has:Nat->Bool) (wd:Nat->Int) (wt:Nat->Bool) (b:Nat) (most heap:Int) (P L:Nat->Bool)
   (hP:∀ o,o<16->(P o=true↔Bh n has wd wt b most heap o)) (hL:∀ o,o<16->(L o=true↔xL n has wd wt b most heap o)) :
   (parts (rooms (setOf n has))).filter P=(List.range 16).filter L:=by
 have hW:setOf n has<16:=ab4 (sC n has) (adr (by decide) hn:2 ^ n<=2 ^ 4)
 rw [sO _ hW,List.filter_filter]
 refine List.filter_congr λ o ho=>?_
 have ho:o<16:=List.mem_range.mp ho
 have h61:o<2 ^ 61:=ael ho (by decide)
 have:=(hL o ho).trans ((Bb h61).trans (ae8 λ _=>(hP o ho).symm))
 rw [adP,ac0,adv,this]
 exact And.comm
end Ord
namespace L2
open PySem PySem.Spec PyProof.Rows Mth
variable {H:Hp} {l:List Nat} {tm:ap}
section
variable {X:Cx}
inductive Tk (K:W.Frag) (x:V) (lo:Option Int) (hi:Option Int) (H:Hp) (Q:VK):Prop
 | mk (a xs:_) (i:Nat) (_:x = .ref a) (_:bU K H a xs) (_:lo=some (i:Int)) (_:hi=none) (_:1<=i) (_:i<=xs.length) (_:∀ p,H p=none->Q (.ref p) (upd H p (.tup (xs.drop i))))
theorem xV:SlR X (Tk X.K):=by
 intro pins s U H x v vl vu lo hi sl Q I rx hs pl pu h
 obtain ⟨a,xs,i,rfl,hx,rfl,rfl,i1,i2,q⟩:=h
 cases rx
 cases pu
 cases pl
 obtain ⟨bf,r,ht,hz⟩:=I.tuple hx
 have hlen:=r.length
 refine ⟨"tuple",_,slot_tuple_getitem.lookup,ht.typeIs,getItem_tuple_from ht hs i1 (by rw [abO];lia) ?_ (by rw [abO];lia)⟩
 refine ⟨.ref s.heap.objs.size,_,I.laid (t':=s.toks) (o:=.tup (xs.drop i)) (λ b ob q=>aa4 _ q) (aaT _) ?_,rfl,q _ (I.cq.fresh (aaT _))⟩
 refine ⟨by rw [List.length_drop];lia,bf.drop i,r.drop i,⟨_,ac6 _ rfl,rfl,_,rfl⟩⟩
end
structure dY where
 fc:List Nat
 cu:Nat
 ik:List Nat
 failed:List Nat
 heap:Nat
def gn (K:W.Frag) (H:Hp) (p:Addr) (s:dY):Prop :=
 ∃ pb pw pf,bU K H p [.ref pb,ar s.cu,.ref pw,.ref pf,ar s.heap]/\bU K H pb (s.fc.map ar)/\bU K H pw (s.ik.map ar)/\bU K H pf (s.failed.map ar)
theorem gn.same {K:W.Frag} {H':Hp} {p:Addr} {s:dY} (h:gn K H p s) (q:aA H H'):gn K H' p s:=by
 obtain ⟨pb,pw,pf,a,b,c,d⟩:=h
 exact ⟨pb,pw,pf,q.tup a,q.tup b,q.tup c,q.tup d⟩
abbrev Stv:=bQ×Int×Int×Int
def al.tI (m:al) (i:Nat):Option Stv:=(m.ax[i]?).getD none
def al.has (m:al) (i:Nat):Bool:=(m.tI i).isSome
def al.wd (m:al) (i:Nat):Int:=((m.tI i).map λ z=>z.2.1).getD 0
def al.iz (m:al) (i:Nat):Int:=((m.tI i).map λ z=>z.2.2.1).getD 0
def al.fails (m:al) (i:Nat):Int:=((m.tI i).map λ z=>z.2.2.2).getD 0
theorem j8 {m:al} {i:Nat} (h:i<m.ax.length):m.ax[i]?=some (m.tI i):=by
 unfold al.tI
 rw [au h];rfl
def ud:Option Stv->Bool->Nat->Nat->Prop
 | none,f,w,b=>f=false/\w=0/\b=0
 | some z,f,w,b=>(w:Int)<=z.2.2.1/\(b:Int)<=z.2.2.2/\(b=0∨(f=false/\w=0))
def gN (l:List Nat) (i:Nat):Nat:=(l[i]?).getD 0
theorem Hf {i:Nat} (h:i<l.length):l[i]?=some (gN l i):=by
 unfold gN
 rw [au h];rfl
theorem pd {i:Nat} (h:i<l.length):wO (l.map ar) (i:Int)=some (ar (gN l i)):=cf (by rw [Jl,Hf h];rfl)
structure gE (m:al) (s:dY):Prop where
 lb:s.fc.length=m.rows.length
 lw:s.ik.length=m.rows.length
 lf:s.failed.length=m.rows.length
 cu:s.cu<2 ^ m.rows.length
 most:((Bit.rooms s.cu).length:Int)<=m.most
 heap:(s.heap:Int)<=m.gH
 band:∀ i,i<m.rows.length->gN s.fc i+1<(m.rows.getD i []).length
 iE:∀ i,i<m.rows.length->ud (m.tI i) (s.cu.testBit i) (gN s.ik i) (gN s.failed i)
def al.ws (m:al):Nat:=Ord.setOf m.rows.length m.has
def dY.wt (s:dY) (i:Nat):Bool:=decide (0<gN s.ik i)
def dY.held (s:dY):Nat:=Ord.setOf s.ik.length s.wt
def al.lH (m:al) (b:Nat):Int:=((Bit.rooms (b &&& m.ws)).map m.wd).sum
def al.Bn (m:al) (o:Nat) (heap:Int):Bool:=decide (((Bit.rooms o).length:Int)<=m.most) && decide (m.lH o<=heap)
def dY.zA (m:al) (s:dY) (o:Nat):Bool:=decide (o &&& s.held=s.cu &&& s.held) && m.Bn o s.heap
def dY.orders (m:al) (s:dY):List Nat:=(Bit.parts (Bit.rooms m.ws)).filter (s.zA m)
theorem uS {m:al} (h:m.rows.length<=4):m.ws<16:=ab4 (Ord.sC _ _) (adr (by decide) h:2 ^ m.rows.length<=2 ^ 4)
section
variable (K:W.Frag) (C:Addr)
inductive uk  (vs:List V) (H:Hp) (Q:VK) (_E:XK):Prop
 | mk (n:Nat) (_:vs=[ar n]) (_:n<2 ^ 61) (_:∀ H',aA H H'->Q (ar (Bit.rooms n).length) H')
inductive yH  (vs:List V) (H:Hp) (Q:VK) (_E:XK):Prop
 | mk (p l:_) (_:vs=[.ref p]) (_:aV K H p (l.map ar)) (_:(∀ r∈l,r<=1000)) (_:Q (ar (Bit.sumOf l)) H)
inductive pS  (vs:List V) (H:Hp) (Q:VK) (_E:XK):Prop
 | mk (v z f w b:_) (_:vs=[v,.bl f,ar w,ar b]) (_:Dn K H (fZ z) v) (_:ud z f w b) (_:∀ H',aA H H'->Q (.bl true) H')
inductive tu  (vs:List V) (H:Hp) (Q:VK) (_E:XK):Prop
 | mk (a fp m p s:_) (i:Nat) (_:vs=[.ref a,.ref p,ar i]) (_:aM K C H a fp m) (_:gn K H p s) (_:gE m s) (_:i<m.rows.length) (_:∀ H',aA H H'->Q (.bl true) H')
inductive uW  (vs:List V) (H:Hp) (Q:VK) (_E:XK):Prop
 | mk (a fp m p s:_) (_:vs=[.ref a,.ref p]) (_:aM K C H a fp m) (_:gn K H p s) (_:gE m s) (_:∀ H',aA H H'->Q (.bl true) H')
inductive qa  (vs:List V) (H:Hp) (Q:VK) (_E:XK):Prop
 | mk (a fp m p s:_) (_:vs=[.ref a,.ref p]) (_:aM K C H a fp m) (_:gn K H p s) (_:gE m s) (_:∀ H',aA H H'->Q .cR H')
inductive qi  (vs:List V) (H:Hp) (Q:VK) (_E:XK):Prop
 | mk (a fp m:_) (_:vs=[.ref a]) (_:aM K C H a fp m) (_:∀ H',aA H H'->Q (ar m.ws) H')
inductive vO  (vs:List V) (H:Hp) (Q:VK) (_E:XK):Prop
 | mk (a fp m:_) (b:Nat) (_:vs=[.ref a,ar b]) (_:aM K C H a fp m) (_:∀ H',aA H H'->Q (.int (m.lH b)) H')
inductive rW  (vs:List V) (H:Hp) (Q:VK) (_E:XK):Prop
 | mk (p s:_) (_:vs=[.ref p]) (_:gn K H p s) (_:s.ik.length<=4) (_:∀ H',aA H H'->Q (ar s.held) H')
inductive u6  (vs:List V) (H:Hp) (Q:VK) (_E:XK):Prop
 | mk (a fp m:_) (o:Nat) (hp:Int) (_:vs=[.ref a,ar o,.int hp]) (_:aM K C H a fp m) (_:o<2 ^ 61) (_:∀ H',aA H H'->Q (.bl (m.Bn o hp)) H')
inductive sy  (vs:List V) (H:Hp) (Q:VK) (_E:XK):Prop
 | mk (a fp m p s:_) (_:vs=[.ref a,.ref p]) (_:aM K C H a fp m) (_:gn K H p s) (_:gE m s) (_:∀ q H',H q=none->aA H H'->H' q=some (.lst ((s.orders m).map ar))->Q (.ref q) H')
end
theorem Dn.iE {K:W.Frag} {v:V} {z:Stv} (h:Dn K H (fZ (some z)) v):∃ p v1,v = .ref p/\bU K H p [v1,.int z.2.1,.int z.2.2.1,.int z.2.2.2]/\Dn K H (dE z.1) v1:=by
 obtain ⟨p,xs,rfl,hp,t1,r1,rfl,e1,t2,r2,rfl,e2,t3,r3,rfl,e3,t4,r4,rfl,e4,e5⟩:=h
 have e5:r4=[]:=e5
 have e2:t2 = .int z.2.1:=e2
 have e3:t3 = .int z.2.2.1:=e3
 have e4:t4 = .int z.2.2.2:=e4
 subst e2 e3 e4 e5
 exact ⟨p,t1,rfl,hp,e1⟩
theorem wS {n i:Nat} (ok:tm.Ok n n) (hi:i<n):(tm.m2 n n).tI i=((tm.ax[i]?).getD none).map tm.gl:=by
 unfold al.tI
 rw [(fN ok n (aaT n)).2.2.1 i hi]
 cases tm.ax[i]? <;> rfl
structure Part (tm:ap) (n i:Nat) (bs ws fs:List Nat) (b:Nat):Prop where
 lb:bs.length=i
 lw:ws.length=i
 lf:fs.length=i
 cu:b<2 ^ i
 most:((Bit.rooms b).length:Int)<=tm.bounds.1
 band:∀ j,j<i->gN bs j+1<(tm.marks.getD j []).length
 iE:∀ j,j<i->ud ((tm.m2 n n).tI j) (b.testBit j) (gN ws j) (gN fs j)
theorem Part.zero {n:Nat} (ok:tm.Ok n n):Part tm n 0 [] [] [] 0:=by
 refine ⟨rfl,rfl,rfl,by decide,?_,nofun,nofun⟩
 have e:(Bit.rooms 0).length=0:=by decide
 rw [e]
 exact ok.bounds.1.1
theorem wl {x j:Nat} (h:j<l.length):gN (l++[x]) j=gN l j:=by
 unfold gN
 rw [acZ h]
theorem wN {x:Nat}:gN (l++[x]) l.length=x:=by
 unfold gN
 rw [ade (aaT _),Nat.sub_self];rfl
theorem Part.next {n i:Nat} {bs ws fs:List Nat} {b x w f:Nat} {lit:Bool} (h:Part tm n i bs ws fs b) (hi:i<61) (hx:x+1<(tm.marks.getD i []).length) (hf:ud ((tm.m2 n n).tI i) lit w f) (hm:lit=true->((Bit.rooms b).length:Int)<tm.bounds.1):Part tm n (i+1) (bs++[x]) (ws++[w]) (fs++[f]) (if lit then b+2 ^ i else b)/\(Bit.rooms (if lit then b+2 ^ i else b)).length=(Bit.rooms b).length+(if lit then 1 else 0):=by
 have Z7:b.testBit i=false:=Bit.gs h.cu (aaT _)
 have hor:b+2 ^ i=b ||| 2 ^ i:=by
   have:=ae9 h.cu 1
   rw [afL] at this
   rw [aem,this,Nat.or_comm]
 have mP:(if lit then b+2 ^ i else b)<2 ^ (i+1):=by
   have:=h.cu
   rw [aeH]
   split<;>lia
 have hlen:(Bit.rooms (if lit then b+2 ^ i else b)).length=(Bit.rooms b).length+(if lit then 1 else 0):=by
   cases lit with
   | false=>rfl
   | true =>
     show (Bit.rooms (b+2 ^ i)).length=_+1
     rw [hor,Bit.BB hi Z7]
 have hold:∀ j,j<i->(if lit then b+2 ^ i else b).testBit j=b.testBit j:=λ j hj=>by
   cases lit with
   | false=>rfl
   | true =>
     show (b+2 ^ i).testBit j=_
     rw [aem]
     exact Nat.testBit_two_pow_add_gt hj b
 have ab7:(if lit then b+2 ^ i else b).testBit i=lit:=by
   cases lit with
   | false=>exact Z7
   | true =>
     show (b+2 ^ i).testBit i=_
     rw [aem,Nat.testBit_two_pow_add_eq,Z7];rfl
 refine ⟨⟨by rw [aaD,h.lb];rfl,by rw [aaD,h.lw];rfl,by rw [aaD,h.lf];rfl,mP,?_,λ j hj=>?_,λ j hj=>?_⟩,hlen⟩
 .
  rw [hlen]
  have:=h.most
  cases lit with
  | false=>exact this
  | true =>
    have:=hm rfl
    show (((Bit.rooms b).length+1:Nat):Int)<=_
    lia
 .
  by_cases e:j<i
  . rw [wl (by rw [h.lb];exact e)];exact h.band j e
  . obtain rfl:j=i:=by lia
    have:gN (bs++[x]) j=x:=by rw [← h.lb];exact wN
    rw [this];exact hx
 .
  by_cases e:j<i
  . rw [wl (by rw [h.lw];exact e),wl (by rw [h.lf];exact e),hold j e];exact h.iE j e
  . obtain rfl:j=i:=by lia
    have e1:gN (ws++[w]) j=w:=by rw [← h.lw];exact wN
    have e2:gN (fs++[f]) j=f:=by rw [← h.lf];exact wN
    rw [e1,e2,ab7];exact hf
theorem Part.ok {n:Nat} {bs ws fs:List Nat} {b:Nat} {hp:Nat} (ok:tm.Ok n n) (h:Part tm n n bs ws fs b) (hh:(hp:Int)<=tm.bounds.2.1):gE (tm.m2 n n) ⟨bs,b,ws,fs,hp⟩:=by
 obtain ⟨f1,f2,f3,f4⟩:=cN tm n n
 have hl:(tm.m2 n n).rows.length=n:=by rw [f1,xq,acB,ok.lm];lia
 refine ⟨by rw [hl];exact h.lb,by rw [hl];exact h.lw,by rw [hl];exact h.lf,by rw [hl];exact h.cu,by rw [f2];exact h.most,by rw [f3];exact hh,λ i hi=>?_,λ i hi=>?_⟩
 .
  rw [hl] at hi
  have hb:=h.band i hi
  have vF:i<tm.marks.length:=by rw [ok.lm];exact hi
  rw [f1,Ia,Jl,ad4 hi,au vF]
  rw [Ia,au vF] at hb
  show _<(tm.row tm.marks[i]).length
  unfold ap.row
  rw [xq]
  exact hb
 . rw [hl] at hi
   exact h.iE i hi
def DC (tm:ap) (n:Nat) (s:dY) (o:Nat):Prop:=Ord.xL n (tm.m2 n n).has (tm.m2 n n).wd s.wt s.cu tm.bounds.1 s.heap o
inductive tW (K:W.Frag) (vs:List V) (H:Hp) (Q:VK) (_E:XK):Prop
 | mk (p tm:_) (n:Nat) (c:Int) (k:Nat) (_:vs=[.ref p,.int c,ar k]) (_:jg K H p tm) (_:tm.Ok n n) (_:n<=4) (_:k<=900) (_:∀ q s H',aA H H'->gn K H' q s->gE (tm.m2 n n) s->Q (.ref q) H')
end L2
namespace Ord
open Bit
theorem L5:∀ x,x<16->∀ y,y<16->x - (x &&& y)=x ^^^ (x &&& y):=by decide +kernel
def off (x y:Nat):Nat:=x - (x &&& y)
theorem sM {x y:Nat} (hx:x<16) (hy:y<16) (k:Nat):(off x y).testBit k=(x.testBit k && !y.testBit k):=by
 unfold off
 rw [L5 x hx y hy,Nat.testBit_xor,adC]
 cases x.testBit k<;>cases y.testBit k<;>rfl
theorem Go {x y n:Nat} (hx:x<2 ^ n):off x y<2 ^ n:=ac1 (Nat.sub_le _ _) hx
theorem Fv {n x:Nat} (hn:n<=4) (h:x<2 ^ n):x<16:=ab4 h (adr (by decide) hn:2 ^ n<=2 ^ 4)
theorem less {wd:Nat->Int} (h0:∀ r,0<=wd r) {p q:Nat->Bool} (h:∀ x,p x=true->q x=true):∀ l:List Nat,(l.filter p).length<=(l.filter q).length/\((l.filter p).map wd).sum<=((l.filter q).map wd).sum
 | []=>⟨aaT _,adK _⟩
 | x::l=>by
   obtain ⟨a,b⟩:=less h0 h l
   have:=h0 x
   by_cases hp:p x=true
   . rw [aey hp,aey (h x hp)]
     simp only [acX,adl,List.sum_cons]
     lia
   .
    by_cases hq:q x=true
    . rw [aez hp,aey hq]
      simp only [acX,adl,List.sum_cons]
      lia
    . rw [aez hp,aez hq]
      exact ⟨a,b⟩
theorem vM {wd:Nat->Int} (h0:∀ r,0<=wd r) {a b:Nat} (h:∀ x,a.testBit x=true->b.testBit x=true):(rooms a).length<=(rooms b).length/\((rooms a).map wd).sum<=((rooms b).map wd).sum:=less h0 h _
structure Hd where
 n:Nat
 has:Nat->Bool
 wd:Nat->Int
 wt:Nat->Bool
 b:Nat
 most:Int
 heap:Int
def Hd.ws (h:Hd):Nat:=setOf h.n h.has
def Hd.held (h:Hd):Nat:=setOf h.n h.wt
def Hd.lH (h:Hd) (o:Nat):Int:=((rooms (o &&& h.ws)).map h.wd).sum
def Hd.Bn (h:Hd) (o:Nat):Bool:=decide (((rooms o).length:Int)<=h.most) && decide (h.lH o<=h.heap)
def Hd.step (h:Hd) (o r:Nat):Nat:=if h.Bn (o ||| 2 ^ r) then o ||| 2 ^ r else o
def Hd.first (h:Hd):Nat:=h.b &&& h.held
def Hd.go (h:Hd) (kh:Nat):Nat:=(rooms (off (kh &&& h.ws) h.held)).foldl h.step h.first
def Hd.may (h:Hd) (kh r:Nat):Bool:=kh.testBit r && h.has r && !h.wt r
structure Hd.Ok (h:Hd):Prop where
 n4:h.n<=4
 cu:h.b<2 ^ h.n
 sub:∀ r,h.b.testBit r=true->h.has r=true
 most:((rooms h.b).length:Int)<=h.most
 wd0:∀ r,0<=h.wd r
section
variable {h:Hd} {kh i r o:Nat}
structure Hd.In (h:Hd) (i o:Nat):Prop where
 sub:∀ r,o.testBit r=true->r<h.n/\h.has r=true
 held:∀ r,r<h.n->h.wt r=true->o.testBit r=h.b.testBit r
 ae3:∀ r,i<=r->h.wt r=false->o.testBit r=false
def Hd.TD (h:Hd) (o:Nat):Prop:=xL h.n h.has h.wd h.wt h.b h.most h.heap o
end
end Ord
namespace L2
open PySem PySem.Spec PyProof.Rows Mth
variable {B xw:Int} {C:Addr} {D:L2.Ends} {H H' H0:Hp} {M8 a2 a3 a4 a5 a6 a7 a8 a9:TS} {fp jh:List Addr} {tm:ap}
theorem kA (x y:Nat):Builtin.bitAnd (x:Int) (Builtin.bitNot (y:Int))=((Ord.off x y:Nat):Int):=by
 have e:Builtin.bitNot (Builtin.bitNot (y:Int))=(y:Int):=by unfold Builtin.bitNot;lia
 have n:¬ (0:Int)<=Builtin.bitNot (y:Int):=by unfold Builtin.bitNot;lia
 have p:(0:Int)<=(x:Int):=adU _
 unfold Builtin.bitAnd
 rw [ac7 p,ab2 n]
 show (x:Int) - _=_
 rw [e,adB,adB]
 have:=Nat.and_le_left (n:=x) (m:=y)
 unfold Ord.off
 lia
def GD (m:al) (s:dY):Ord.Hd:=⟨m.rows.length,m.has,m.wd,s.wt,s.cu,m.most,s.heap⟩
theorem DS {n o:Nat} {s:dY} (ok:tm.Ok n n) (so:gE (tm.m2 n n) s):DC tm n s o↔(GD (tm.m2 n n) s).TD o:=by
 obtain ⟨f1,f2,f3,f4⟩:=cN tm n n
 have hl:(tm.m2 n n).rows.length=n:=by rw [f1,xq,acB,ok.lm];lia
 unfold DC Ord.Hd.TD GD
 rw [hl,f2]
def dY.may (m:al) (s:dY) (o:Nat):Nat:=Ord.setOf m.rows.length λ r=>o.testBit r && !s.cu.testBit r && decide ((gN s.failed r:Int)<m.fails r)
def dY.lF (m:al) (s:dY) (b i:Nat):Nat:=if s.cu.testBit i=b.testBit i then gN s.ik i - 1 else (m.iz i).toNat
def dY.qX (s:dY) (b out i:Nat):Nat:=if out.testBit i then gN s.failed i+1 else if b.testBit i then 0 else gN s.failed i
def dY.mW (m:al) (s:dY) (b:Nat):Int:=min m.gH ((s.heap:Int) - m.lH b+m.load)
def dY.behind (m:al) (s:dY) (fc:List Nat) (o out:Nat):dY :=
 ⟨fc,Ord.off o out,(List.range m.rows.length).map (s.lF m (Ord.off o out)),(List.range m.rows.length).map (s.qX (Ord.off o out) out),(s.mW m (Ord.off o out)).toNat⟩
section
variable (K:W.Frag) (C:Addr)
inductive ww  (vs:List V) (H:Hp) (Q:VK) (_E:XK):Prop
 | mk (a fp m p s:_) (o:Nat) (_:vs=[.ref a,.ref p,ar o]) (_:aM K C H a fp m) (_:gn K H p s) (_:gE m s) (_:o &&& m.ws=o) (_:∀ H',aA H H'->Q (ar (s.may m o)) H')
inductive pM  (vs:List V) (H:Hp) (Q:VK) (_E:XK):Prop
 | mk (a fp m p s:_) (b i:Nat) (_:vs=[.ref a,.ref p,ar b,ar i]) (_:aM K C H a fp m) (_:gn K H p s) (_:gE m s) (_:i<m.rows.length) (_:(s.cu.testBit i≠b.testBit i->m.has i=true)) (_:0<=m.iz i) (_:Q (ar (s.lF m b i)) H)
inductive l9  (vs:List V) (H:Hp) (Q:VK) (_E:XK):Prop
 | mk (p s:_) (b out i:Nat) (_:vs=[.ref p,ar b,ar out,ar i]) (_:gn K H p s) (_:i<s.failed.length) (_:Q (ar (s.qX b out i)) H)
inductive yq  (vs:List V) (H:Hp) (Q:VK) (_E:XK):Prop
 | mk (a fp m p s:_) (o out:Nat) (_:vs=[.ref a,.ref p,ar o,ar out]) (_:aM K C H a fp m) (_:gn K H p s) (_:gE m s) (_:(∀ i,s.cu.testBit i≠(Ord.off o out).testBit i->m.has i=true)) (_:(∀ i,0<=m.iz i)) (_:0<=s.mW m (Ord.off o out)) (_:∀ q pw pf H',aA H H'->H' q=some (.tup [ar (Ord.off o out),.ref pw,.ref pf,ar (s.mW m (Ord.off o out)).toNat])->H' pw=some (.tup (((List.range m.rows.length).map (s.lF m (Ord.off o out))).map ar))->H' pf=some (.tup (((List.range m.rows.length).map (s.qX (Ord.off o out) out)).map ar))->Q (.ref q) H')
end
theorem Gy {m:al} {s:dY} {o:Nat} (h4:m.rows.length<=4) (ok:gE m s) (ho:o &&& m.ws=o) :
   Bit.sumOf ((Bit.rooms (Ord.off o s.cu)).filter λ r=>decide ((gN s.failed r:Int)<m.fails r))=s.may m o:=by
 have DJ:o<16:=by rw [← ho];exact ac1 aeD (uS h4)
 have N4:s.cu<16:=Ord.Fv h4 ok.cu
 have mP:o<2 ^ m.rows.length:=by rw [← ho];exact ac1 aeD (Ord.sC _ _)
 refine aef λ k=>?_
 rw [Bit.j9,dY.may,Ord.gm]
 rw [adP,adv,afc,Bit.fe,Ord.sM DJ N4]
 simp only [ac0,adv]
 constructor
 .
  rintro ⟨⟨_,h1,h2⟩,h3⟩
  refine ⟨?_,⟨h1,h2⟩,h3⟩
  by_cases q:k<m.rows.length
  . exact q
  . rw [Bit.gs mP (by lia)] at h1;cases h1
 . rintro ⟨h0,⟨h1,h2⟩,h3⟩
   exact ⟨⟨by lia,h1,h2⟩,h3⟩
theorem zg {m:al} {o r:Nat} (ho:o &&& m.ws=o) (hr:o.testBit r=true):r<m.rows.length/\m.has r=true:=by
 rw [← ho,adC,al.ws,Ord.gm] at hr
 simp only [ac0,adv] at hr
 exact hr.2
theorem oB {m:al} {r:Nat} (h:m.has r=true):∃ z,m.tI r=some z:=Option.isSome_iff_exists.mp h
structure ck (m:al) (s:dY) (o out:Nat):Prop where
 h4:m.rows.length<=4
 ok:gE m s
 law:(GD m s).TD o
 DJ:o<16
 JG:out<16
 sub:∀ r,out.testBit r=true->o.testBit r=true/\s.cu.testBit r=false/\(gN s.failed r:Int)<m.fails r
 wd0:∀ r,0<=m.wd r
 Kc:∀ r,0<=m.iz r
 Xq:0<=m.gH
 Mb:0<=m.load
section
variable {m:al} {s:dY} {o out r:Nat}
theorem ck.bit (t:ck m s o out) (r:Nat):(Ord.off o out).testBit r=(o.testBit r && !out.testBit r):=Ord.sM t.DJ t.JG r
theorem ck.MH (t:ck m s o out) (h:o.testBit r=true):r<m.rows.length/\m.has r=true:=by
 have hr:r<61:=by
   by_cases q:r<61
   . exact q
   . rw [Ord.Er t.DJ (by lia)] at h;cases h
 exact t.law.has r (Bit.fe.mpr ⟨hr,h⟩)
theorem ck.IK (t:ck m s o out) (h:(Ord.off o out).testBit r=true):o.testBit r=true/\out.testBit r=false:=by
 rw [t.bit] at h
 simp only [ac0,aeu] at h
 exact h
theorem ck.has (t:ck m s o out) (h:s.cu.testBit r≠(Ord.off o out).testBit r):m.has r=true:=by
 cases hb:(Ord.off o out).testBit r with
 | true=>exact (t.MH (t.IK hb).1).2
 | false =>
   rw [hb] at h
   have hs:s.cu.testBit r=true:=by cases q:s.cu.testBit r with|true=>rfl|false=>exact absurd q h
   have hr:r<m.rows.length:=by
     by_cases q:r<m.rows.length
     . exact q
     . rw [Bit.gs t.ok.cu (by lia)] at hs;cases hs
   have:=t.ok.iE r hr
   unfold al.has
   cases e:m.tI r with
   | some z=>rfl
   | none=>rw [e] at this;rw [this.1] at hs;cases hs
theorem ck.less (t:ck m s o out):(Bit.rooms (Ord.off o out)).length<=(Bit.rooms o).length/\((Bit.rooms (Ord.off o out)).map m.wd).sum<=((Bit.rooms o).map m.wd).sum :=
 Ord.vM t.wd0 λ _ hx=>(t.IK hx).1
theorem ck.and (t:ck m s o out):Ord.off o out &&& m.ws=Ord.off o out:=by
 refine aef λ k=>?_
 rw [adC,al.ws,Ord.gm]
 cases e:(Ord.off o out).testBit k with
 | false=>rfl
 | true =>
   obtain ⟨a,b⟩:=t.MH (t.IK e).1
   rw [ac7 a,b];rfl
theorem ck.lH (t:ck m s o out):m.lH (Ord.off o out)=((Bit.rooms (Ord.off o out)).map m.wd).sum:=by
 unfold al.lH
 rw [t.and]
theorem ck.ES (t:ck m s o out):((Bit.rooms (Ord.off o out)).map m.wd).sum<=(s.heap:Int):=by
 have:=t.less.2
 have q:((Bit.rooms o).map m.wd).sum<=(s.heap:Int):=t.law.lH
 lia
theorem ck.LJ (t:ck m s o out):0<=s.mW m (Ord.off o out):=by
 have:=t.ES
 have:=t.Xq
 have:=t.Mb
 unfold dY.mW
 rw [t.lH]
 lia
end
theorem FO {n:Nat} (ok:tm.Ok n n) (r:Nat):0<=(tm.m2 n n).iz r/\0<=(tm.m2 n n).wd r/\(0<=(tm.m2 n n).fails r):=by
 unfold al.iz al.wd al.fails
 by_cases h:r<n
 .
  rw [wS ok h]
  have wm:r<tm.ax.length:=by rw [ok.lt];exact h
  rw [au wm]
  cases e:tm.ax[r] with
  | none=>exact ⟨adK _,adK _,adK _⟩
  | some z =>
    have q:=ok.ax z (by rw [← e];exact aaY wm)
    exact ⟨q.s.1,q.w.1,q.f.1⟩
 .
  have:(tm.m2 n n).tI r=none:=by
    unfold al.tI
    rw [aeL (by rw [(fN ok n (aaT n)).2.2.2.2.1];lia)];rfl
  rw [this]
  exact ⟨adK _,adK _,adK _⟩
abbrev Pr:=bQ×bQ
def eJ (ds:List Pr):Int×Int:=ds.foldl (λ s d=>(s.1 * (d.1.2 * d.2.2)+d.1.1 * d.2.1 * s.2,s.2 * (d.1.2 * d.2.2))) (0,1)
theorem li (ds:List Pr) (d:Pr):eJ (ds++[d])=((eJ ds).1 * (d.1.2 * d.2.2)+d.1.1 * d.2.1 * (eJ ds).2,(eJ ds).2 * (d.1.2 * d.2.2)):=by
 unfold eJ
 rw [adw];rfl
structure vW (n k:Nat) (d:Pr):Prop where
 a:dR n d.1
 b:dR k d.2
theorem xf (ds:List Pr) (h:∀ d∈ds,vW 900 900 d):∀ j,j<=ds.length->Bd (1802 * j+2) (eJ (ds.take j)).1/\Bd (1800 * j+1) (eJ (ds.take j)).2/\0<(eJ (ds.take j)).2
 | 0,_=>⟨by show Int.natAbs 0<_;decide,by show Int.natAbs 1<_;decide,by show (0:Int)<1;decide⟩
 | j+1,hj=>by
   obtain ⟨a,b,c⟩:=xf ds h j (by lia)
   have hd:=h ds[j] (aaY (by lia))
   have et:ds.take (j+1)=ds.take j++[ds[j]]:=by rw [adS,au (by lia)];rfl
   rw [et,li]
   generalize ds[j]=d at hd
   generalize eJ (ds.take j)=s at a b c
   have bb:Bd 1800 (d.1.2 * d.2.2):=(hd.a.b.mul hd.b.b).mono (by decide)
   have bt:Bd 1800 (d.1.1 * d.2.1):=(hd.a.t.mul hd.b.t).mono (by decide)
   refine ⟨?_,(b.mul bb).mono (by lia),adi c (adi hd.a.p hd.b.p)⟩
   have x1:Bd (1802 * j+2+1800) (s.1 * (d.1.2 * d.2.2)):=a.mul bb
   have x2:Bd (1802 * j+2+1800) (d.1.1 * d.2.1 * s.2):=(bt.mul b).mono (by lia)
   exact (x1.add x2).mono (by lia)
theorem xy {ds:List Pr} (h:∀ d∈ds,vW 900 900 d):0<(eJ ds).2:=by
 have:=(xf ds h ds.length (aaT _)).2.2
 rw [adg] at this
 exact this
theorem n6 {n:Nat}:∀ (es ds:List Pr) {k:Nat},(∀ d∈es,Bd n (d.1.2 * d.2.2))->Bd k (eJ ds).2->Bd (k+n * es.length) (eJ (ds++es)).2
 | [],ds,k,_,h=>by rw [adO];exact h.mono (by lia)
 | e::es,ds,k,he,h=>by
   have e1:ds++e::es=(ds++[e])++es:=by rw [aeZ];rfl
   rw [e1]
   have h2:Bd (k+n) (eJ (ds++[e])).2:=by
     rw [li]
     exact h.mul (he e acY)
   have:=n6 es (ds++[e]) (λ d hd=>he d (acV _ hd)) h2
   refine this.mono ?_
   rw [acX,Nat.mul_succ]
   lia
theorem K8 {t b t' b':Int} (hb:0<b) (hb':0<b') (h:t * b'=t' * b):nf t b=nf t' b':=by
 have F:=ga (t:=t) hb
 have G:=ga (t:=t') hb'
 have c1:(nf t b).1 * b=t * (nf t b).2:=F.iy
 have c2:(nf t' b').1 * b'=t' * (nf t' b').2:=G.iy
 have p1:=F.pos
 have p2:=G.pos
 have k1:=F.MK
 have k2:=G.MK
 generalize nf t b=u at c1 p1 k1 ⊢
 generalize nf t' b'=v at c2 p2 k2 ⊢
 have e:u.1 * v.2=v.1 * u.2:=by
   have hz:b * b'≠0:=adW (adi hb hb')
   refine adA hz ?_
   grind
 have d1:u.2 ∣ v.2:=nY (q:=u.1) ⟨v.1,by rw [e,ad7]⟩ k1
 have d2:v.2 ∣ u.2:=nY (q:=v.1) ⟨u.1,by rw [← e,ad7]⟩ k2
 have er:u.2=v.2:=Int.dvd_antisymm (adD p1) (adD p2) d1 d2
 rw [← er] at e
 exact Prod.ext (adA (adW p1) e) er
abbrev A8 (d:Pr):PyData:=.tuple [dE d.1,dE d.2]
theorem oi (d:Pr):c8 (A8 d)=true:=by simp [A8,dE,c8]
theorem oS (ds:List Pr):∀ e∈ds.map A8,c8 e=true:=λ e he=>by
 obtain ⟨d,_,rfl⟩:=List.mem_map.mp he
 exact oi d
inductive GH (K:W.Frag) (vs:List V) (H:Hp) (Q:VK) (_E:XK):Prop
 | mk (p xs ds:_) (_:vs=[.ref p]) (_:aV K H p xs) (_:bI K H (ds.map A8) xs) (_:(∀ d∈ds,vW 900 900 d)) (_:ds.length<=10) (_:Bd 4000 (eJ ds).2) (_:∀ q H',aA H H'->H' q=some (.tup [.int (nf (eJ ds).1 (eJ ds).2).1,.int (nf (eJ ds).1 (eJ ds).2).2])->Q (.ref q) H')
def cU (m:al) (i:Nat) (airs:List bQ):List Pr:=(List.range airs.length).map λ j=>(m.share i j,airs.getD j (0,1))
def fo (m:al) (i:Nat) (airs:List bQ) (w:bQ) (fired:Bool):List Pr:=cU m i airs++[(m.dZ i,w)]++(if fired then [((1,1),((m.ax[i]?).getD none).map (·.1) |>.getD (0,1))] else [])
def ji (m:al) (i:Nat) (airs:List bQ) (w:bQ) (fired:Bool):bQ:=nf (eJ (fo m i airs w fired)).1 (eJ (fo m i airs w fired)).2
inductive yF (K:W.Frag) (C:Addr) (vs:List V) (H:Hp) (Q:VK) (_E:XK):Prop
 | mk (a fp m:_) (i:Nat) (pa KJ airs wv w fired:_) (_:vs=[.ref a,ar i,.ref pa,wv,.bl fired]) (_:aM K C H a fp m) (_:i<m.rows.length) (_:aV K H pa KJ) (_:bI K H (airs.map dE) KJ) (_:airs.length=m.rows.length) (_:(∀ f∈airs,dR 120 f)) (_:Dn K H (dE w) wv) (_:dR 120 w) (_:(fired=true->∃ z,m.ax[i]?=some (some z))) (_:∀ q H',aA H H'->H' q=some (.tup [.int (ji m i airs w fired).1,.int (ji m i airs w fired).2])->Q (.ref q) H')
theorem AE {m:al} (w:m.Wf) (h4:m.rows.length<=4) (i j:Nat):dR 605 (m.share i j):=by
 unfold al.share
 split
 . exact (w.fu i _).mono (by lia)
 . exact (w.eO i j).mono (by decide)
theorem mY {m:al} {i:Nat} {airs:List bQ} {w:bQ} {fired:Bool} (wf:m.Wf) (h4:m.rows.length<=4) (la:airs.length=m.rows.length) (ha:∀ f∈airs,dR 120 f) (hw:dR 120 w) (hz:fired=true->∃ z,m.ax[i]?=some (some z)) :
   (∀ d∈fo m i airs w fired,vW 900 900 d)/\(fo m i airs w fired).length<=10/\Bd 4000 (eJ (fo m i airs w fired)).2:=by
 have r1:∀ d∈cU m i airs,vW 605 120 d:=λ d hd=>by
   obtain ⟨j,hj,rfl⟩:=List.mem_map.mp hd
   have hj:=List.mem_range.mp hj
   refine ⟨AE wf h4 i j,?_⟩
   show dR 120 (airs.getD j (0,1))
   rw [Ia,au hj]
   exact ha _ (aaY hj)
 have lr:(cU m i airs).length<=4:=by unfold cU;rw [xq,acD];lia
 have s1:vW 100 120 (m.dZ i,w):=⟨wf.dZ i,hw⟩
 have h0:Bd 1 (eJ []).2:=by show Int.natAbs 1<2 ^ 1;decide
 have b1:Bd (1+725 * (cU m i airs).length) (eJ (cU m i airs)).2:=n6 (n:=725) (cU m i airs) [] (λ d hd=>(r1 d hd).a.b.mul (r1 d hd).b.b) h0
 have b2:Bd (2901+220 * 1) (eJ (cU m i airs++[(m.dZ i,w)])).2:=n6 (n:=220) [(m.dZ i,w)] (cU m i airs) (λ d hd=>by rw [List.mem_singleton.mp hd];exact s1.a.b.mul s1.b.b) (b1.mono (by lia))
 unfold fo
 cases fired with
 | false =>
   rw [abZ acT,adO]
   refine ⟨λ d hd=>?_,by rw [aaD];simp only [acX,aeh];lia,b2.mono (by decide)⟩
   rcases List.mem_append.mp hd with h|h
   . exact ⟨(r1 d h).a.mono (by decide),(r1 d h).b.mono (by decide)⟩
   . rw [List.mem_singleton.mp h];exact ⟨s1.a.mono (by decide),s1.b.mono (by decide)⟩
 | true =>
   obtain ⟨z,ez⟩:=hz rfl
   rw [abS rfl,ez]
   have oz:dR 100 z.1:=wf.ax z (acU ez)
   have s2:vW 2 100 (((1,1),z.1):Pr):=⟨⟨by show Int.natAbs 1<2 ^ 2;decide,by show Int.natAbs 1<2 ^ 2;decide,by show (0:Int)<1;decide⟩,oz⟩
   have b3:Bd (3121+102 * 1) (eJ ((cU m i airs++[(m.dZ i,w)])++[((1,1),z.1)])).2:=n6 (n:=102) [((1,1),z.1)] _ (λ d hd=>by rw [List.mem_singleton.mp hd];exact s2.a.b.mul s2.b.b) b2
   refine ⟨λ d hd=>?_,by rw [aaD,aaD];simp only [acX,aeh];lia,b3.mono (by decide)⟩
   rcases List.mem_append.mp hd with h|h
   . rcases List.mem_append.mp h with h|h
     . exact ⟨(r1 d h).a.mono (by decide),(r1 d h).b.mono (by decide)⟩
     . rw [List.mem_singleton.mp h];exact ⟨s1.a.mono (by decide),s1.b.mono (by decide)⟩
   . rw [List.mem_singleton.mp h];exact ⟨s2.a.mono (by decide),s2.b.mono (by decide)⟩
def G5 (W C:Int) (s:Int×Int):Prop:=s.1 * W=C * s.2
theorem G5.next {W C c:Int} {ds:List Pr} {d:Pr} (h:G5 W C (eJ ds)) (hd:d.1.1 * d.2.1 * W=c * (d.1.2 * d.2.2)):G5 W (C+c) (eJ (ds++[d])):=by
 unfold G5 at *
 rw [li]
 generalize eJ ds=s at h
 generalize d.1.2 * d.2.2=B at hd
 generalize d.1.1 * d.2.1=A at hd
 show (s.1 * B+A * s.2) * W=(C+c) * (s.2 * B)
 grind
def bH (f:Nat->Int):Nat->Int
 | 0=>0
 | t+1=>bH f t+f t
theorem pG {f g:Nat->Int}:∀ n,(∀ j,j<n->f j=g j)->bH f n=bH g n
 | 0,_=>rfl
 | n+1,h=>by
   show bH f n+f n=bH g n+g n
   rw [pG n λ j hj=>h j (by lia),h n (by lia)]
theorem uR {f:Nat->Int} {a b:Int} {k:Nat->Int}:∀ n,bH (λ j=>k j * (f j * a+b)) n=bH (λ j=>k j * f j) n * a+bH k n * b
 | 0=>by show (0:Int)=0 * a+0 * b;lia
 | n+1=>by
   show bH (λ j=>k j * (f j * a+b)) n+k n * (f n * a+b)=(bH (λ j=>k j * f j) n+k n * f n) * a+(bH k n+k n) * b
   rw [uR n]
   grind
theorem wa {fl:Nat->Int} {R:Int} {i:Nat} (h0:fl i=0):∀ n,bH (λ j=>if j=i then R else fl j) n=bH fl n+(if i<n then R else 0)
 | 0=>by rw [abZ (by lia)];rfl
 | n+1=>by
   show bH (λ j=>if j=i then R else fl j) n+(if n=i then R else fl n)=bH fl n+fl n+_
   rw [wa h0 n]
   by_cases e:n=i
   . subst e
     rw [abS rfl,abZ (by lia),abS (by lia),h0]
   . rw [abZ e]
     by_cases l:i<n
     . rw [abS l,abS (by lia)];lia
     . rw [abZ l,abZ (by lia)];lia
def ap.gP (tm:ap) (i:Nat):Int:=((tm.ce[i]?).map (·.1)).getD 0
def ap.fg (tm:ap) (i j:Nat):Int:=if i=j then 0 else (tm.aY i j).getD 0
theorem Fa {n:Nat} (ok:tm.Ok n n) (i:Nat) (hi:i<n):Ov 12 (tm.gP i) ((tm.m2 n n).dZ i)/\(∀ j,j<n->j≠i->Ov 12 (tm.fg i j) ((tm.m2 n n).eO i j))/\Ov 12 (12 - tm.gP i - bH (tm.fg i) n) ((tm.m2 n n).own i):=by
 obtain ⟨g1,g2,g3,g4,g5,g6,g7⟩:=fN ok n (aaT n)
 have zD:i<tm.ce.length:=by rw [ok.ls];exact hi
 have e1:(tm.m2 n n).dZ i=nf tm.ce[i].1 12:=by unfold al.dZ;rw [g1 i hi,au zD];rfl
 have e2:tm.gP i=tm.ce[i].1:=by unfold ap.gP;rw [au zD];rfl
 have hs:Ov 12 (tm.gP i) ((tm.m2 n n).dZ i):=by rw [e1,e2];exact Ov.nf (by decide)
 have hf:∀ j,j<n->j≠i->Ov 12 (tm.fg i j) ((tm.m2 n n).eO i j):=λ j hj Wv=>by
   obtain ⟨kk,hk,_⟩:=ok.aY i j hi hj (ad1 Wv)
   unfold al.eO ap.fg
   rw [g6 i j hi hj (ad1 Wv),hk,abZ (ad1 Wv)]
   exact Ov.nf (by decide)
 have hii:Ov 12 (tm.fg i i) ((tm.m2 n n).eO i i):=by
   unfold al.eO ap.fg
   rw [g7 i,abS rfl]
   exact on
 have hl:(tm.m2 n n).rows.length=n:=by rw [(cN tm n n).1,xq,acB,ok.lm];lia
 have key:∀ t,t<=n->Ov 12 (12 - tm.gP i - bH (tm.fg i) t) ((tm.m2 n n).fu i t):=by
   intro t
   induction t with
   | zero =>
     intro _
     have:=(BG (W:=12)).minus hs
     have e:12 - tm.gP i - bH (tm.fg i) 0=12 - tm.gP i:=by show 12 - tm.gP i - 0=_;lia
     rw [e]
     exact this
   | succ t ih =>
     intro ht
     rw [al.i3]
     have hft:Ov 12 (tm.fg i t) ((tm.m2 n n).eO i t):=by
       by_cases e:t=i
       . subst e;exact hii
       . exact hf t (by lia) e
     have:=(ih (by lia)).minus hft
     have e:12 - tm.gP i - bH (tm.fg i) (t+1)=12 - tm.gP i - bH (tm.fg i) t - tm.fg i t:=by show 12 - tm.gP i - (bH (tm.fg i) t+tm.fg i t)=_;lia
     rw [e]
     exact this
 refine ⟨hs,hf,?_⟩
 unfold al.own
 rw [hl]
 exact key n (aaT _)
theorem FW {k W T:Int} {f g:bQ} (hf:Ov 12 k f) (hg:g.1 * B=T * g.2) (e:W=12 * B):f.1 * g.1 * W=(k * T) * (f.2 * g.2):=by
 have:=hf.1
 subst e
 grind
theorem yP {n i:Nat} {parts:Int} {x:Nat->Int} {h:Int} {airs:List bQ} {fired:Bool} (wf:(tm.m2 n n).Wf) (ok:tm.Ok n n) (n4:n<=4) (hi:i<n) (hp:0<parts) (la:airs.length=n) (ha:∀ j,j<n->airs.getD j (0,1)=aP (x j) parts tm.scale) (oa:∀ f∈airs,dR 120 f) (ow:dR 120 (aP xw parts tm.scale)) (hz:fired=true->∃ z,tm.ax[i]?=some (some z)/\z.1=h) :
   ji (tm.m2 n n) i airs (aP xw parts tm.scale) fired=aP (bH (λ j=>(if j=i then 12 - tm.gP i - bH (tm.fg i) n else tm.fg i j) * x j) n+tm.gP i * xw+(if fired then 12 * parts * h else 0)) (12 * parts) tm.scale:=by
 obtain ⟨hs,hf,NG⟩:=Fa ok i hi
 have hl:(tm.m2 n n).rows.length=n:=by rw [(cN tm n n).1,xq,acB,ok.lm];lia
 obtain ⟨g1,g2,g3,g4,g5,g6,g7⟩:=fN ok n (aaT n)
 have hB:=di ok.scale hp
 have hW:bK (12 * parts) tm.scale=12 * bK parts tm.scale:=by unfold bK;grind
 have hsh:∀ j,j<n->Ov 12 (if j=i then 12 - tm.gP i - bH (tm.fg i) n else tm.fg i j) ((tm.m2 n n).share i j):=λ j hj=>by
   unfold al.share
   by_cases e:i=j
   . subst e;rw [abS rfl,abS rfl];exact NG
   . rw [abZ e,abZ (ad1 e)];exact hf j hj (ad1 e)
 have cr:∀ z,(aP z parts tm.scale).1 * bK parts tm.scale=bS z parts tm.scale * (aP z parts tm.scale).2:=λ z=>(ga (t:=bS z parts tm.scale) hB).iy
 have rooms:∀ t,t<=n->G5 (bK (12 * parts) tm.scale) (bH (λ j=>(if j=i then 12 - tm.gP i - bH (tm.fg i) n else tm.fg i j) * bS (x j) parts tm.scale) t) (eJ ((List.range t).map λ j=>(((tm.m2 n n).share i j,airs.getD j (0,1)):Pr))):=by
   intro t
   induction t with
   | zero=>intro _;show (0:Int) * _=0 * 1;lia
   | succ t ih =>
     intro ht
     rw [adh,My]
     refine (ih (by lia)).next ?_
     show ((tm.m2 n n).share i t).1 * (airs.getD t (0,1)).1 * _=_ * (((tm.m2 n n).share i t).2 * (airs.getD t (0,1)).2)
     rw [ha t (by lia)]
     exact FW (hsh t (by lia)) (cr _) hW
 have r1:=rooms n (aaT _)
 have er:cU (tm.m2 n n) i airs=(List.range n).map λ j=>(((tm.m2 n n).share i j,airs.getD j (0,1)):Pr):=by unfold cU;rw [la]
 rw [← er] at r1
 have r2:G5 (bK (12 * parts) tm.scale) _ (eJ (cU (tm.m2 n n) i airs++[((tm.m2 n n).dZ i,aP xw parts tm.scale)])):=r1.next (FW hs (cr xw) hW)
 have IH:bH (λ j=>(if j=i then 12 - tm.gP i - bH (tm.fg i) n else tm.fg i j) * bS (x j) parts tm.scale) n+tm.gP i * bS xw parts tm.scale
     = (bH (λ j=>(if j=i then 12 - tm.gP i - bH (tm.fg i) n else tm.fg i j) * x j) n+tm.gP i * xw) * (tm.scale.a * tm.scale.d)+12 * (parts * tm.scale.t * tm.scale.b):=by
   have e1:bH (λ j=>(if j=i then 12 - tm.gP i - bH (tm.fg i) n else tm.fg i j) * bS (x j) parts tm.scale) n=bH (λ j=>(if j=i then 12 - tm.gP i - bH (tm.fg i) n else tm.fg i j) * (x j * (tm.scale.a * tm.scale.d)+parts * tm.scale.t * tm.scale.b)) n:=pG n λ j _=>by unfold bS;rw [adu (x j)]
   have z0:tm.fg i i=0:=by unfold ap.fg;rw [abS rfl]
   rw [e1,uR,wa z0,abS hi]
   unfold bS
   grind
 have hzi:fired=true->∃ z,(tm.m2 n n).ax[i]?=some (some z):=λ q=>by
   obtain ⟨z,ez,_⟩:=hz q
   exact ⟨tm.gl z,by rw [g3 i hi,ez];rfl⟩
 have Xt:=(mY (i:=i) (fired:=fired) (w:=aP xw parts tm.scale) (airs:=airs) (m:=tm.m2 n n) wf (by lia) (by lia) oa ow hzi).1
 have Gc:=xy Xt
 have hWp:0<bK (12 * parts) tm.scale:=by rw [hW];lia
 have fin:G5 (bK (12 * parts) tm.scale) (bS (bH (λ j=>(if j=i then 12 - tm.gP i - bH (tm.fg i) n else tm.fg i j) * x j) n+tm.gP i * xw+(if fired then 12 * parts * h else 0)) (12 * parts) tm.scale) (eJ (fo (tm.m2 n n) i airs (aP xw parts tm.scale) fired)):=by
   unfold fo
   cases fired with
   | false =>
     simp only [aen,aek,adO,Int.add_zero]
     rw [IH] at r2
     have e2:bS (bH (λ j=>(if j=i then 12 - tm.gP i - bH (tm.fg i) n else tm.fg i j) * x j) n+tm.gP i * xw) (12 * parts) tm.scale=(bH (λ j=>(if j=i then 12 - tm.gP i - bH (tm.fg i) n else tm.fg i j) * x j) n+tm.gP i * xw) * (tm.scale.a * tm.scale.d)+12 * (parts * tm.scale.t * tm.scale.b):=by
       unfold bS;grind
     rw [e2]
     exact r2
   | true =>
     obtain ⟨z,ez,eh⟩:=hz rfl
     have Aw:(tm.m2 n n).ax[i]?=some (some (tm.gl z)):=by rw [g3 i hi,ez];rfl
     simp only [aev]
     rw [Aw]
     have hb:0<tm.scale.b:=by have:=ok.scale.b0;lia
     have cz:(nf (z.1 * tm.scale.a) tm.scale.b).1 * tm.scale.b=z.1 * tm.scale.a * (nf (z.1 * tm.scale.a) tm.scale.b).2:=(ga (t:=z.1 * tm.scale.a) hb).iy
     have r3:=r2.next (d:=((1,1),nf (z.1 * tm.scale.a) tm.scale.b)) (c:=12 * parts * h * (tm.scale.a * tm.scale.d)) (by
       show 1 * (nf (z.1 * tm.scale.a) tm.scale.b).1 * bK (12 * parts) tm.scale=_ * (1 * (nf (z.1 * tm.scale.a) tm.scale.b).2)
       generalize nf (z.1 * tm.scale.a) tm.scale.b=g at cz
       unfold bK
       rw [← eh]
       grind)
     rw [IH] at r3
     have e2:bS (bH (λ j=>(if j=i then 12 - tm.gP i - bH (tm.fg i) n else tm.fg i j) * x j) n+tm.gP i * xw+12 * parts * h) (12 * parts) tm.scale=(bH (λ j=>(if j=i then 12 - tm.gP i - bH (tm.fg i) n else tm.fg i j) * x j) n+tm.gP i * xw) * (tm.scale.a * tm.scale.d)+12 * (parts * tm.scale.t * tm.scale.b)+12 * parts * h * (tm.scale.a * tm.scale.d):=by
       unfold bS;grind
     rw [e2]
     exact r3
 unfold ji
 rw [aP]
 exact K8 Gc hWp fin
section
variable {X:Cx}
def ZF (K:W.Frag) (ta:TA):TI:=λ U H R=>ta U H λ vs H1=>∃ a,vs=[.ref a]/\(((∃ xs,aV K H1 a xs)/\R (Du (aV K) a) H1)∨((∃ xs,bU K H1 a xs)/\R (Du (bU K) a) H1))
theorem Ax {a:Expr} {ta:TA} {p pos nN:Pos} {elts:List Expr} {x1:Nat} (hg:Gl X "enumerate") (hm:X.mg "enumerate" = none) (ha:PA X [a] ta) (hs:starEach [a] X.env=[(false,eval a X.env)]:=by rfl) :
   PI X (.Tuple elts x1 nN) (.Call (.Name "enumerate" p) [a] [] pos) (ZF X.K ta):=by
 intro pins s U H R I h
 refine Call_ ?_
 refine jD I hg hm i6 ?_ Hb Gh
 refine ady ?_ hs rfl
 refine cx (ha pos pins s U H _ I h) λ us s1 ⟨vs,H1,I1,r1,q1⟩=>?_
 obtain ⟨a,e,q⟩:=q1
 subst e
 cases r1 with
 | cons r rr =>
   cases rr
   obtain rfl:_=Value.ref a:=r
   have fr:∀ c∈[s1.heap.objs.size+1,s1.heap.objs.size],s1.heap.objs.size<=c:=λ c hc=>by
     simp only [abt,T1,adj] at hc
     rcases hc with rfl|rfl
     . exact ad9 _
     . exact aaT _
   rcases q with ⟨⟨xs,hq⟩,q⟩|⟨⟨xs,hq⟩,q⟩
   . obtain ⟨bf,rv,p1,Iz⟩:=I1.list hq
     have la:a<s1.heap.objs.size:=by obtain ⟨_,e,_⟩:=p1.isList;exact act e
     refine call_enumerate_list p1.isList λ h' z1 z2 z3 kk=>ad0 z1 ?_
     exact ⟨s1.heap.objs.size+1,[s1.heap.objs.size+1,s1.heap.objs.size],_,_,H1,rfl,I1.kept (t':=s1.toks) kk,uB (aeC _) (acW (aet la)) (acW la),⟨⟨_,z1⟩,z2⟩,λ c hc=>I1.uO (fr c hc) (I1.cq.fresh (fr c hc)),q⟩
   . obtain ⟨bf,rv,p1,Iz⟩:=I1.tuple hq
     have la:a<s1.heap.objs.size:=p1.lt
     refine oR p1 λ h' z1 z2 kk=>ad0 z1 ?_
     exact ⟨s1.heap.objs.size+1,[s1.heap.objs.size+1,s1.heap.objs.size],_,_,H1,rfl,I1.kept (t':=s1.toks) kk,u8 (aeC _) (acW (aet la)) (acW la),⟨⟨_,z1⟩,z2⟩,λ c hc=>I1.uO (fr c hc) (I1.cq.fresh (fr c hc)),q⟩
end
def fz (m:al) (bs:List Nat) (d:Nat):List bQ:=(List.range bs.length).map λ j=>(m.rows.getD j []).getD (bs.getD j 0+d) (0,1)
def jC (m:al) (i:Nat):bQ×bQ×bQ:=(m.aX[i]?).getD ((0,1),(0,1),(0,1))
def io (m:al) (i:Nat) (bs:List Nat) (fired:Bool):bQ:=ji m i (fz m bs 0) (jC m i).2.1 fired
def iF (m:al) (i:Nat) (bs:List Nat) (fired:Bool):bQ:=ji m i (fz m bs 1) (jC m i).2.2 fired
inductive CK (K:W.Frag) (C:Addr) (vs:List V) (H:Hp) (Q:VK) (_E:XK):Prop
 | mk (a fp m:_) (i:Nat) (pb bs fired:_) (_:vs=[.ref a,ar i,.ref pb,.bl fired]) (_:aM K C H a fp m) (_:i<m.rows.length) (_:(aV K H pb (bs.map ar)∨bU K H pb (bs.map ar))) (_:bs.length=m.rows.length) (_:(∀ j,j<m.rows.length->bs.getD j 0+1<(m.rows.getD j []).length)) (_:(fired=true->∃ z,m.ax[i]?=some (some z))) (_:∀ q q1 q2 H',aA H H'->H' q=some (.tup [.ref q1,.ref q2])->H' q1=some (.tup [.int (io m i bs fired).1,.int (io m i bs fired).2])->H' q2=some (.tup [.int (iF m i bs fired).1,.int (iF m i bs fired).2])->Q (.ref q) H')
theorem lh {m:al} {bs:List Nat} (wf:m.Wf) (lb:bs.length=m.rows.length) (hb:∀ j,j<m.rows.length->bs.getD j 0+1<(m.rows.getD j []).length) {d:Nat} (hd:d<=1):∀ f∈fz m bs d,dR 120 f:=λ f hf=>by
 obtain ⟨j,hj,rfl⟩:=List.mem_map.mp hf
 have hj:=List.mem_range.mp hj
 have q:=hb j (by lia)
 have hr:j<m.rows.length:=by lia
 rw [Ia (l:=m.rows),au hr] at q ⊢
 have q:bs.getD j 0+1<m.rows[j].length:=q
 show dR 120 (m.rows[j].getD (bs.getD j 0+d) (0,1))
 rw [Ia,au (by lia)]
 exact (wf.rows m.rows[j] (aaY hr) _ (aaY _)).mono (by decide)
def ap.kT (tm:ap) (n i j:Nat):Int:=if j=i then 12 - tm.gP i - bH (tm.fg i) n else tm.fg i j
theorem Ap {n i:Nat} (ok:tm.Ok n n) (hi:i<n):0<=tm.gP i/\tm.gP i<=3:=by
 have zD:i<tm.ce.length:=by rw [ok.ls];exact hi
 unfold ap.gP
 rw [au zD]
 exact (ok.ce tm.ce[i] (aaY zD)).1
theorem BI {n i j:Nat} (ok:tm.Ok n n) (hi:i<n) (hj:j<n):0<=tm.fg i j/\tm.fg i j<=3:=by
 unfold ap.fg
 by_cases e:i=j
 . rw [abS e];lia
 . obtain ⟨k,hk,h0,h3⟩:=ok.aY i j hi hj e
   rw [abZ e,hk]
   exact ⟨h0,h3⟩
theorem Gs {n i:Nat} (ok:tm.Ok n n) (n4:n<=4) (hi:i<n):bH (tm.fg i) n<=9:=by
 have h:∀ j,j<n->0<=tm.fg i j/\tm.fg i j<=3:=λ j hj=>BI ok hi hj
 have h0:tm.fg i i=0:=by unfold ap.fg;rw [abS rfl]
 have s:∀ t,t<=n->bH (tm.fg i) t+(if i<t then 3 else 0)<=3 * t:=by
   intro t
   induction t with
   | zero=>intro _;show (0:Int)+(if i<0 then 3 else 0)<=_;rw [abZ (by lia)];lia
   | succ t ih =>
     intro ht
     have a:=ih (by lia)
     have b:=h t (by lia)
     show bH (tm.fg i) t+tm.fg i t+(if i<t+1 then 3 else 0)<=_
     by_cases e:t=i
     . subst e
       rw [abZ (by lia)] at a
       rw [abS (by lia),h0]
       lia
     . by_cases l:i<t
       . rw [abS l] at a;rw [abS (by lia)];lia
       . rw [abZ l] at a;rw [abZ (by lia)];lia
 have:=s n (aaT _)
 rw [abS hi] at this
 lia
theorem za {n i j:Nat} (ok:tm.Ok n n) (n4:n<=4) (hi:i<n) (hj:j<n):0<=tm.kT n i j:=by
 unfold ap.kT
 have a:=Ap ok hi
 have b:=Gs ok n4 hi
 have c:=BI (j:=j) ok hi hj
 split<;>lia
def ap.X (tm:ap) (n i:Nat) (x:Nat->Int) (xw:Int):Int:=bH (λ j=>tm.kT n i j * x j) n+tm.gP i * xw
theorem rg {k x y:Nat->Int}:∀ n,(∀ j,j<n->0<=k j/\x j<=y j)->bH (λ j=>k j * x j) n<=bH (λ j=>k j * y j) n
 | 0,_=>adK _
 | n+1,h=>by
   have a:=rg n λ j hj=>h j (by lia)
   have b:=h n (by lia)
   have c:=adR b.2 b.1
   show bH (λ j=>k j * x j) n+k n * x n<=bH (λ j=>k j * y j) n+k n * y n
   lia
theorem o7 {n i:Nat} {x y:Nat->Int} {yw:Int} (ok:tm.Ok n n) (n4:n<=4) (hi:i<n) (h:∀ j,j<n->x j<=y j) (hw:xw<=yw):tm.X n i x xw<=tm.X n i y yw:=by
 have a:=rg (k:=tm.kT n i) (x:=x) (y:=y) n λ j hj=>⟨za ok n4 hi hj,h j hj⟩
 have b:=adR hw (Ap ok hi).1
 unfold ap.X
 lia
def ap.qZ (tm:ap) (j b:Nat):Int:=(tm.marks.getD j []).getD b 0
def ap.xl (tm:ap) (bs:List Nat) (d j:Nat):Int:=tm.qZ j (bs.getD j 0+d)
def ap.jQ (tm:ap) (i:Nat):Int×Int×Int:=(tm.ce[i]?).getD (0,0,0)
def ap.sW (tm:ap) (i:Nat):Int:=(((tm.ax[i]?).getD none).map (·.1)).getD 0
def ap.sX (tm:ap) (n i:Nat) (bs:List Nat) (d:Nat) (xw:Int) (fired:Bool):Int:=tm.X n i (tm.xl bs d) xw+(if fired then 12 * tm.sW i else 0)
structure vK (tm:ap) (n:Nat) (bs:List Nat):Prop where
 len:bs.length=n
 lt:∀ j,j<n->bs.getD j 0+1<(tm.marks.getD j []).length
theorem ss {n j b:Nat} (ok:tm.Ok n n) (hj:j<n) (hb:b<(tm.marks.getD j []).length):∃ h:j<tm.marks.length,∃ h2:b<tm.marks[j].length,tm.qZ j b=tm.marks[j][b]/\-200<=tm.qZ j b/\tm.qZ j b<=200:=by
 have h:j<tm.marks.length:=by rw [ok.lm];exact hj
 have e:tm.marks.getD j []=tm.marks[j]:=by rw [Ia,au h];rfl
 rw [e] at hb
 have e2:tm.qZ j b=tm.marks[j][b]:=by unfold ap.qZ;rw [e,Ia,au hb];rfl
 refine ⟨h,hb,e2,?_⟩
 rw [e2]
 exact (ok.rows tm.marks[j] (aaY h)).bd _ (aaY hb)
theorem qK {n i d:Nat} {bs:List Nat} {fired:Bool} (wf:(tm.m2 n n).Wf) (ok:tm.Ok n n) (n4:n<=4) (hi:i<n) (hb:vK tm n bs) (hd:d<=1) (hxw : -200<=xw/\xw<=200) (hz:fired=true->∃ z,tm.ax[i]?=some (some z)) :
   ji (tm.m2 n n) i (fz (tm.m2 n n) bs d) (aP xw 1 tm.scale) fired=aP (tm.sX n i bs d xw fired) 12 tm.scale:=by
 have hl:(tm.m2 n n).rows.length=n:=by rw [(cN tm n n).1,xq,acB,ok.lm];lia
 have row:∀ j,j<n->(tm.m2 n n).rows.getD j []=tm.row (tm.marks.getD j []):=λ j hj=>by
   have vF:j<tm.marks.length:=by rw [ok.lm];exact hj
   rw [(cN tm n n).1,Ia,Jl,ad4 hj,Ia,au vF];rfl
 have UE:∀ j,j<n->bs.getD j 0+1<((tm.m2 n n).rows.getD j []).length:=λ j hj=>by
   rw [row j hj];unfold ap.row;rw [xq];exact hb.lt j hj
 have ea:∀ j,j<n->(fz (tm.m2 n n) bs d).getD j (0,1)=aP (tm.xl bs d j) 1 tm.scale:=λ j hj=>by
   have mP:=hb.lt j hj
   unfold fz
   rw [Ia,Jl,aei (by rw [hb.len];exact hj)]
   show ((tm.m2 n n).rows.getD j []).getD (bs.getD j 0+d) (0,1)=_
   rw [row j hj]
   unfold ap.row ap.xl ap.qZ
   generalize tm.marks.getD j []=l at mP
   have h2:bs.getD j 0+d<l.length:=by lia
   generalize bs.getD j 0+d=b at h2
   rw [Ia,Ia,Jl,au h2];rfl
 have oa:=lh (m:=tm.m2 n n) (bs:=bs) wf (by rw [hb.len,hl]) (λ j hj=>UE j (by lia)) hd
 have ow:dR 120 (aP xw 1 tm.scale):=(nS (n:=8) ok.scale (by decide) (show xw.natAbs<2 ^ 8 by lia) o6).mono (by decide)
 have wm:i<tm.ax.length:=by rw [ok.lt];exact hi
 have:=yP (h:=tm.sW i) (x:=tm.xl bs d) wf ok n4 hi (by decide:(0:Int)<1) (by unfold fz;rw [xq,acD,hb.len]) ea oa ow (λ q=>by
   obtain ⟨z,ez⟩:=hz q
   refine ⟨z,ez,?_⟩
   unfold ap.sW
   rw [ez];rfl)
 rw [this]
 have e12:(12:Int) * 1=12:=rfl
 rw [e12]
 rfl
theorem Bf {k:Nat->Int} {c:Int}:∀ n,bH (λ j=>k j * c) n=bH k n * c
 | 0=>by show (0:Int)=0 * c;lia
 | n+1=>by
   show bH (λ j=>k j * c) n+k n * c=(bH k n+k n) * c
   rw [Bf n];grind
theorem Ex {n i:Nat} {c:Int} (hi:i<n):tm.X n i (λ _=>c) c=12 * c:=by
 unfold ap.X
 have z0:tm.fg i i=0:=by unfold ap.fg;rw [abS rfl]
 have e:bH (λ j=>tm.kT n i j * c) n=bH (tm.kT n i) n * c:=Bf n
 have e2:bH (tm.kT n i) n=bH (tm.fg i) n+(12 - tm.gP i - bH (tm.fg i) n):=by
   have:=wa (fl:=tm.fg i) (R:=12 - tm.gP i - bH (tm.fg i) n) (i:=i) z0 n
   rw [abS hi] at this
   exact this
 rw [e,e2]
 grind
theorem NQ {n i:Nat} {x:Nat->Int} {c:Int} (ok:tm.Ok n n) (n4:n<=4) (hi:i<n) (h:∀ j,j<n->-c<=x j/\x j<=c) (hw : -c<=xw/\xw<=c) : -(12 * c)<=tm.X n i x xw/\tm.X n i x xw<=12 * c:=by
 have a:=o7 (x:=λ _ => -c) (y:=x) (xw:=-c) ok n4 hi (λ j hj=>(h j hj).1) hw.1
 have b:=o7 (x:=x) (y:=λ _=>c) (yw:=c) ok n4 hi (λ j hj=>(h j hj).2) hw.2
 rw [Ex hi] at a b
 lia
theorem Ek {n i:Nat} (ok:tm.Ok n n) (hi:i<n):0<=tm.sW i/\tm.sW i<=25:=by
 have wm:i<tm.ax.length:=by rw [ok.lt];exact hi
 unfold ap.sW
 rw [au wm]
 cases e:tm.ax[i] with
 | none=>show (0:Int)<=0/\(0:Int)<=25;lia
 | some z=>exact (ok.ax z (by rw [← e];exact aaY wm)).h
theorem KZ {n d j:Nat} {bs:List Nat} (ok:tm.Ok n n) (hb:vK tm n bs) (hd:d<=1) (hj:j<n) : -200<=tm.xl bs d j/\tm.xl bs d j<=200:=by
 obtain ⟨_,_,_,a,b⟩:=ss (b:=bs.getD j 0+d) ok hj (by have:=hb.lt j hj;lia)
 exact ⟨a,b⟩
theorem Fq {n i d:Nat} {bs:List Nat} {fired:Bool} (ok:tm.Ok n n) (n4:n<=4) (hi:i<n) (hb:vK tm n bs) (hd:d<=1) (hw : -200<=xw/\xw<=200) : -3000<=tm.sX n i bs d xw fired/\tm.sX n i bs d xw fired<=3000:=by
 have a:=NQ (x:=tm.xl bs d) (c:=200) ok n4 hi (λ j hj=>KZ ok hb hd hj) hw
 have b:=Ek ok hi
 unfold ap.sX
 split<;>lia
theorem dX {a1:TS} {U:L2.St} (h:let d:L2.Ends:=D;let z:L2.St:=U;let r2:TS:=a3;let r1:TS:=aK a2 r2;aK a1 r1 d z H):(aK a1 (aK a2 (a3))) D U H:=h
theorem dU {a1:TS} {U:L2.St} (h:let d:L2.Ends:=D;let z:L2.St:=U;let r3:TS:=a4;let r2:TS:=aK a3 r3;let r1:TS:=aK a2 r2;aK a1 r1 d z H):(aK a1 (aK a2 (aK a3 (a4)))) D U H:=h
theorem oA {a1:TS} {U:L2.St} (h:let d:L2.Ends:=D;let z:L2.St:=U;let r4:TS:=a5;let r3:TS:=aK a4 r4;let r2:TS:=aK a3 r3;let r1:TS:=aK a2 r2;aK a1 r1 d z H):(aK a1 (aK a2 (aK a3 (aK a4 (a5))))) D U H:=h
theorem oP {a1:TS} {U:L2.St} (h:let d:L2.Ends:=D;let z:L2.St:=U;let r5:TS:=a6;let r4:TS:=aK a5 r5;let r3:TS:=aK a4 r4;let r2:TS:=aK a3 r3;let r1:TS:=aK a2 r2;aK a1 r1 d z H):(aK a1 (aK a2 (aK a3 (aK a4 (aK a5 (a6)))))) D U H:=h
theorem zX {a1:TS} {U:L2.St} (h:let d:L2.Ends:=D;let z:L2.St:=U;let r6:TS:=a7;let r5:TS:=aK a6 r6;let r4:TS:=aK a5 r5;let r3:TS:=aK a4 r4;let r2:TS:=aK a3 r3;let r1:TS:=aK a2 r2;aK a1 r1 d z H):(aK a1 (aK a2 (aK a3 (aK a4 (aK a5 (aK a6 (a7))))))) D U H:=h
theorem ug {a1:TS} {U:L2.St} (h:let d:L2.Ends:=D;let z:L2.St:=U;let r7:TS:=a8;let r6:TS:=aK a7 r7;let r5:TS:=aK a6 r6;let r4:TS:=aK a5 r5;let r3:TS:=aK a4 r4;let r2:TS:=aK a3 r3;let r1:TS:=aK a2 r2;aK a1 r1 d z H):(aK a1 (aK a2 (aK a3 (aK a4 (aK a5 (aK a6 (aK a7 (a8)))))))) D U H:=h
theorem Bx {a1:TS} {U:L2.St} (h:let d:L2.Ends:=D;let z:L2.St:=U;let r8:TS:=a9;let r7:TS:=aK a8 r8;let r6:TS:=aK a7 r7;let r5:TS:=aK a6 r6;let r4:TS:=aK a5 r5;let r3:TS:=aK a4 r4;let r2:TS:=aK a3 r3;let r1:TS:=aK a2 r2;aK a1 r1 d z H):(aK a1 (aK a2 (aK a3 (aK a4 (aK a5 (aK a6 (aK a7 (aK a8 (a9))))))))) D U H:=h
theorem yo {a1:TS} {U:L2.St} (h:let d:L2.Ends:=D;let z:L2.St:=U;let r9:TS:=M8;let r8:TS:=aK a9 r9;let r7:TS:=aK a8 r8;let r6:TS:=aK a7 r7;let r5:TS:=aK a6 r6;let r4:TS:=aK a5 r5;let r3:TS:=aK a4 r4;let r2:TS:=aK a3 r3;let r1:TS:=aK a2 r2;aK a1 r1 d z H):(aK a1 (aK a2 (aK a3 (aK a4 (aK a5 (aK a6 (aK a7 (aK a8 (aK a9 (M8)))))))))) D U H:=h
theorem zl {a1 a11:TS} {U:L2.St} (h:let d:L2.Ends:=D;let z:L2.St:=U;let QQ:TS:=a11;let r9:TS:=aK M8 QQ;let r8:TS:=aK a9 r9;let r7:TS:=aK a8 r8;let r6:TS:=aK a7 r7;let r5:TS:=aK a6 r6;let r4:TS:=aK a5 r5;let r3:TS:=aK a4 r4;let r2:TS:=aK a3 r3;let r1:TS:=aK a2 r2;aK a1 r1 d z H):(aK a1 (aK a2 (aK a3 (aK a4 (aK a5 (aK a6 (aK a7 (aK a8 (aK a9 (aK M8 (a11))))))))))) D U H:=h
theorem Au {a1:TS} {g:TG} {x:V} {U:L2.St} (h:let d:L2.Ends:=D;let z:L2.St:=U;let r:TS:=a1;g x z H λ σ2 H2=>r d σ2 H2):g x U H λ σ2 H2=>a1 D σ2 H2:=h
theorem fb {CX:Ak} {P:Program} {w:World} {K:W.Frag} {mg:Str->Option Value} {base:Heap} {N:List Str} {qual:Str} {scope:Scope} {f:Addr} {cd:Value} {A:Around} {outer:List Env} {s:Shared} {E:XK}:(mD CX P w K mg base N qual scope f cd A outer s H E).K=K:=rfl
theorem aR {X:Cx} {f:Value->Shared->Prop}:(X.kh f).K=X.K:=rfl
@[elab_as_elim] theorem Fl {α:Type} {motive:List α->Prop} {us:List α} (h:us.length=1) (k:∀ a,motive [a]):motive us :=
 cL h λ a _ h=>ado h ▸ k a
@[elab_as_elim] theorem FV {α:Type} {motive:List α->Prop} {us:List α} (h:us.length=2) (k:∀ a b,motive [a,b]):motive us :=
 cL h λ a _ h=>cL h λ b _ h=>ado h ▸ k a b
@[elab_as_elim] theorem FK {α:Type} {motive:List α->Prop} {us:List α} (h:us.length=3) (k:∀ a b c,motive [a,b,c]):motive us :=
 cL h λ a _ h=>cL h λ b _ h=>cL h λ c _ h=>ado h ▸ k a b c
@[elab_as_elim] theorem FR {α:Type} {motive:List α->Prop} {us:List α} (h:us.length=4) (k:∀ a b c d,motive [a,b,c,d]):motive us :=
 cL h λ a _ h=>cL h λ b _ h=>cL h λ c _ h=>cL h λ d _ h=>ado h ▸ k a b c d
@[elab_as_elim] theorem FH {α:Type} {motive:List α->Prop} {us:List α} (h:us.length=5) (k:∀ a b c d e,motive [a,b,c,d,e]):motive us :=
 cL h λ a _ h=>cL h λ b _ h=>cL h λ c _ h=>cL h λ d _ h=>cL h λ e _ h=>ado h ▸ k a b c d e
@[elab_as_elim] theorem Fo {α:Type} {motive:List α->Prop} {us:List α} (h:us.length=6) (k:∀ a b c d e f,motive [a,b,c,d,e,f]):motive us :=
 cL h λ a _ h=>cL h λ b _ h=>cL h λ c _ h=>cL h λ d _ h=>cL h λ e _ h=>cL h λ f _ h=>ado h ▸ k a b c d e f
@[elab_as_elim] theorem Fz {α:Type} {motive:List α->Prop} {us:List α} (h:us.length=7) (k:∀ a b c d e f g,motive [a,b,c,d,e,f,g]):motive us :=
 cL h λ a _ h=>cL h λ b _ h=>cL h λ c _ h=>cL h λ d _ h=>cL h λ e _ h=>cL h λ f _ h=>cL h λ g _ h=>ado h ▸ k a b c d e f g
theorem lc {sc:Scope} {x:Str} (h:(match sc.names.lookup x with|some .local=>true|some .cell=>true|_=>false)=true):Loc sc x:=by
 unfold Loc
 split at h
 . rename_i e;exact .inl e
 . rename_i e;exact .inr e
 . cases h
theorem cQ.m {j k:Nat} {A:Around} (r:cQ k A) (h:j<=k:=by decide):cQ j A:=r.mono h
section
variable {P:Program} {w:World} {K:W.Frag} {mg:Str->Option Value} {base:Heap} {x qual:Str} {st:Stmt} {N ps:List Str} {k:Nat} {sp:Sp} {C:Addr}
theorem fY.cE (h:fY K mg x st) (S:az N ps (ao st)) (gB:∀ (f:Addr) (bx:Value) (A:Around) (outer:List Env) (s:Shared) (H:Hp) (vs:List V) (Q:VK) (E:XK),cQ k (A.deeper (envOfC x (ao st) s.heap.objs.size f bx))->sp vs H Q E ->
     ∃ t,qA (mD wx P w K mg base N x (ao st) f bx A outer s H E).AY (bF st) t/\t { nx:=λ _ H'=>Q .cR H',rt:=Q } (start N vs) H) (len:∀ vs H Q E,sp vs H Q E->vs.length=ps.length:=by intro _ _ _ _ h;first|(cases h;subst_vars;rfl)|(obtain ⟨_,rfl,_⟩:=h;rfl)|(obtain ⟨_,_,rfl,_⟩:=h;rfl)|(obtain ⟨_,_,_,rfl,_⟩:=h;rfl)|(obtain ⟨_,_,_,_,rfl,_⟩:=h;rfl)|(obtain ⟨_,_,_,_,_,rfl,_⟩:=h;rfl)) (hb:∀ (kV doc pm:Value) (an:Option Addr) (bx ct:Value) (us:List Value),us.length=ps.length->bindArgs (W.fnOf x x (cA st) (bF st) (ao st) .none kV doc pm an bx ct) ⟨us,[]⟩=pure (ps.zip us):=by intro _ _ _ _ _ _ us hl;first|exact Fl hl λ _=>rfl|exact FV hl λ _ _=>rfl|exact FK hl λ _ _ _=>rfl|exact FR hl λ _ _ _ _=>rfl|exact FH hl λ _ _ _ _ _=>rfl|exact Fo hl λ _ _ _ _ _ _=>rfl|exact Fz hl λ _ _ _ _ _ _ _=>rfl):Def P w K mg base x (k+1) ps sp:=h.def S len hb gB
theorem gO.gQ {m:Str} (h:gO K C m qual st .none) (S:az N ps (ao st)) (gB:∀ (f:Addr) (bx:Value) (A:Around) (outer:List Env) (s:Shared) (H:Hp) (vs:List V) (Q:VK) (E:XK),cQ k (A.deeper (envOfC qual (ao st) s.heap.objs.size f bx))->sp vs H Q E ->
     ∃ t,qA (mD wx P w K mg base N qual (ao st) f bx A outer s H E).AY (bF st) t/\t { nx:=λ _ H'=>Q .cR H',rt:=Q } (start N vs) H) (len:∀ vs H Q E,sp vs H Q E->vs.length=ps.length:=by intro _ _ _ _ h;first|(cases h;subst_vars;rfl)|(obtain ⟨_,rfl,_⟩:=h;rfl)|(obtain ⟨_,_,rfl,_⟩:=h;rfl)|(obtain ⟨_,_,_,rfl,_⟩:=h;rfl)|(obtain ⟨_,_,_,_,rfl,_⟩:=h;rfl)|(obtain ⟨_,_,_,_,_,rfl,_⟩:=h;rfl)) (hb:∀ (kV doc pm:Value) (an:Option Addr) (bx ct:Value) (us:List Value),us.length=ps.length->bindArgs (W.fnOf m qual (cA st) (bF st) (ao st) .none kV doc pm an bx ct) ⟨us,[]⟩=pure (ps.zip us):=by intro _ _ _ _ _ _ us hl;first|exact Fl hl λ _=>rfl|exact FV hl λ _ _=>rfl|exact FK hl λ _ _ _=>rfl|exact FR hl λ _ _ _ _=>rfl|exact FH hl λ _ _ _ _ _=>rfl|exact Fo hl λ _ _ _ _ _ _=>rfl|exact Fz hl λ _ _ _ _ _ _ _=>rfl):iG P w K mg base C m (k+1) ps [] sp:=h.Db S len hb gB
end
inductive A3 (a b c:Prop):Prop|mk (_:a) (_:b) (_:c)
inductive A4 (a b c d:Prop):Prop|mk (_:a) (_:b) (_:c) (_:d)
inductive A5 (a b c d e:Prop):Prop|mk (_:a) (_:b) (_:c) (_:d) (_:e)
inductive A6 (a b c d e f:Prop):Prop|mk (_:a) (_:b) (_:c) (_:d) (_:e) (_:f)
inductive E2 {a b:Type} (p:a->b->Prop):Prop|mk (x:a) (y:b) (_:p x y)
inductive E3 {a b c:Type} (p:a->b->c->Prop):Prop|mk (x:a) (y:b) (z:c) (_:p x y z)
inductive E4 {a b c d:Type} (p:a->b->c->d->Prop):Prop|mk (x:a) (y:b) (z:c) (u:d) (_:p x y z u)
inductive E5 {a b c d e:Type} (p:a->b->c->d->e->Prop):Prop|mk (x:a) (y:b) (z:c) (u:d) (v:e) (_:p x y z u v)
section
variable {K:W.Frag} {C CW:Addr} {H H':Hp} {x:Addr} {fp:List Addr} {m:al} {s:dY} {g:Int}
theorem gn.ts {p:Addr} (h:gn K H p s) (t:bg K H H'):gn K H' p s:=by
 obtain ⟨pb,pw,pf,a,b,c,d⟩:=h
 exact ⟨pb,pw,pf,t _ _ a,t _ _ b,t _ _ c,t _ _ d⟩
end
theorem sv {m:al} {s:dY} {o:Nat} (h4:m.rows.length<=4):s.may m o<16:=ab4 (Ord.sC _ _) (adr (by decide) h4:2 ^ m.rows.length<=2 ^ 4)
theorem aM.GO {K:W.Frag} {a x:Addr} {m:al} (h:aM K C H a fp m) (st:∀ b o,H b=some o->b≠x->H' b=some o) (ts:bg K H H') (nx:x∉fp):aM K C H' a fp m:=by
 obtain ⟨⟨WT,pm,pf,ps,pt,vm,vs,vt,aw,rfl,ha,jo,eK,gG,eL,eQ,n1,n2,n3,dm,ds,dt,df,fk⟩,q1,q2,q3,q4⟩:=h
 have g:∀ {c o},H c=some o->c∈[a,WT,pm,pf,ps,pt]->H' c=some o:=λ {c o} e hc=>st c o e (λ z=>nx (z ▸ hc))
 exact ⟨⟨WT,pm,pf,ps,pt,vm,vs,vt,aw,rfl,g ha (by simp),g jo (by simp),g eK (by simp),g gG (by simp),g eL (by simp),g eQ (by simp),n1,n2,n3,kP ts dm,jJ ts ds,iA ts dt,λ i j=>(df i j).ts ts,fk⟩,q1,q2,q3,q4⟩
def ni (H0 H:Hp) (L:List Addr) (vm:List V) (ms:List (List Int)):Prop :=
 ∃ jh:List Addr,vm=jh.map V.ref/\jh.length=ms.length/\jh.Nodup/\∀ (j:Nat) pk l,jh[j]?=some pk->ms[j]?=some l->H pk=some (.lst (List.map V.int l))/\pk∉L/\H0 pk=none/\∀ x∈l,-30<=x/\x<=150
section
variable {K:W.Frag} {H0 H H1 H':Hp} {L:List Addr} {vm:List V} {ms:List (List Int)}
theorem ni.nil:ni H0 H L [] []:=⟨[],rfl,rfl,aep,λ j pk l h=>by simp at h⟩
theorem ni.step (h:ni H0 H L vm ms) (s:lT L H H'):ni H0 H' L vm ms:=by
 obtain ⟨jh,e,l,nd,f⟩:=h
 exact ⟨jh,e,l,nd,λ j pk l h1 h2=>⟨s _ _ (f j pk l h1 h2).1 (f j pk l h1 h2).2.1,(f j pk l h1 h2).2⟩⟩
theorem lI (s:aA H H'):lT L H H':=λ b o h _=>s b o h
theorem nO {a:Addr} {o:HO} (h:a∈L):lT L H (upd H a o):=λ b u e n=>by
 have nb:b≠a:=λ z=>n (by rw [z];exact h)
 rw [av nb];exact e
theorem gt {H2:Hp} (a:lT L H H1) (b:lT L H1 H2):lT L H H2:=λ c o h n=>b c o (a c o h n) n
theorem ni.snoc {pk:Addr} {l:List Int} (h:ni H0 H1 L vm ms) (hn:H1 pk=none) (s:lT L H1 H) (hk:H pk=some (.lst (l.map V.int))) (kL:pk∉L) (k0:H0 pk=none) (kb:∀ x∈l,-30<=x/\x<=150):ni H0 H L (vm++[.ref pk]) (ms++[l]):=by
 obtain ⟨jh,e,le,nd,f⟩:=h
 have nw:pk∉jh:=λ z=>by
   obtain ⟨j,hj,e⟩:=adQ z
   have CC:j<ms.length:=by lia
   have:=(f j pk ms[j] (by rw [ac8 hj,e]) (ac8 CC)).1
   rw [hn] at this
   cases this
 refine ⟨jh++[pk],by rw [e,My];rfl,by rw [aaD,aaD,le];rfl,?_,λ j q r h1 h2=>?_⟩
 . rw [List.nodup_append]
   exact ⟨nd,by simp,λ a ha b hb z=>nw (by rw [List.mem_singleton.mp hb] at z;rw [← z];exact ha)⟩
 .
  by_cases c:j<jh.length
  . rw [acZ c] at h1
    rw [acZ (by lia)] at h2
    have:=f j q r h1 h2
    exact ⟨s _ _ this.1 this.2.1,this.2⟩
  .
   rw [ade (by lia)] at h1
   rw [ade (by lia)] at h2
   have c0:j - jh.length=0:=by
     have:=(List.getElem?_eq_some_iff.mp h1).1
     simp at this
     lia
   have c1:j - ms.length=0:=by lia
   rw [c0] at h1
   rw [c1] at h2
   obtain rfl:pk=q:=aba h1
   obtain rfl:l=r:=aba h2
   exact ⟨hk,kL,k0,kb⟩
end
def Fy (K:W.Frag) (H0 H:Hp) (p:Addr) (m:ap):Prop:=∃ pm ps pt pf dg pb vm vs vt aw,TC K H p pm ps pt pf dg pb vm vs vt aw m/\ni H0 H [p,pm,ps,pt,pf] vm m.marks
inductive wX (K:W.Frag) (vs:List V) (H:Hp) (Q:VK) (_E:XK):Prop
 | mk (a:_) (ns:List Int) (_:vs=[.ref a]) (_:aV K H a (ns.map V.int)) (_:∀ p H' m n,1<=n->n<=4->ap.Ok n n m->aA H H'->Fy K H H' p m->Q (.ref p) H')
inductive DO (K:W.Frag) (vs:List V) (H:Hp) (Q:VK) (_E:XK):Prop
 | mk (p m H0:_) (n:Nat) (c:Int) (_:vs=[.ref p,.int c]) (_:ap.Ok n n m) (_:aA H0 H) (_:Fy K H0 H p m) (_:∀ H' m',ap.Ok n n m'->aA H0 H'->jg K H' p m'->Q (.ref p) H')
def gb (l:List Int):List Int:=(l.set 0 (-40)).set (l.length - 1) 200
theorem Ec {n:Nat} {l:List Int} (h:qV n l) (hb:∀ x∈l,-30<=x/\x<=150):qV n (gb l):=by
 have el:(gb l).length=l.length:=by unfold gb;rw [adz,adz]
 have l2:=h.two
 have at_:∀ (i:Nat) (x:Int),(gb l)[i]?=some x->i<l.length/\((i=l.length - 1/\x=200)∨(i≠l.length - 1/\i=0/\x = -40)∨(i≠l.length - 1/\i≠0/\l[i]?=some x)):=λ i x e=>by
   have hi:i<l.length:=by rw [← el];exact (List.getElem?_eq_some_iff.mp e).1
   refine ⟨hi,?_⟩
   unfold gb at e
   by_cases c:i=l.length - 1
   . rw [← c,adt (by rw [adz];exact hi)] at e
     exact .inl ⟨c,(aba e).symm⟩
   .
    rw [ads (by lia)] at e
    by_cases d:i=0
    . subst d
      rw [adt hi] at e
      exact .inr (.inl ⟨c,rfl,(aba e).symm⟩)
    . rw [ads (by lia)] at e
      exact .inr (.inr ⟨c,d,e⟩)
 refine ⟨by rw [el];exact l2,by rw [el];exact h.most,λ i x y h1 h2=>?_,λ x hx=>?_⟩
 .
  obtain ⟨i1,c1⟩:=at_ i x h1
  obtain ⟨i2,c2⟩:=at_ (i+1) y h2
  rcases c1 with ⟨a,b⟩|⟨a,b,c⟩|⟨a,b,c⟩
  . lia
  . rcases c2 with ⟨a2,b2⟩|⟨a2,b2,c2⟩|⟨a2,b2,c2⟩
    . lia
    . lia
    . have:=hb y (acU c2);lia
  . rcases c2 with ⟨a2,b2⟩|⟨a2,b2,c2⟩|⟨a2,b2,c2⟩
    . have:=hb x (acU c);lia
    . lia
    . exact h.Im i x y c c2
 .
  obtain ⟨i,hi,e⟩:=adQ hx
  obtain ⟨_,c⟩:=at_ i x (by rw [ac8 hi,e])
  rcases c with ⟨a,b⟩|⟨a,b,c⟩|⟨a,b,c⟩
  . lia
  . lia
  . have:=hb x (acU c);lia
structure yt (K:W.Frag) (H0 H:Hp) (L jh:List Addr) (ms:List (List Int)) (i:Nat) (H':Hp):Prop where
 same:aA H0 H'
 ts:bg K (dL H L) (dL H' L)
 but:lT jh H H'
 rows:∀ (j:Nat) pk l,jh[j]?=some pk->ms[j]?=some l->H' pk=some (.lst ((if j<i then gb l else l).map V.int))
theorem yt.put {K:W.Frag} {L:List Addr} {ms:List (List Int)} {i:Nat} {pk:Addr} {l:List Int} (h:yt K H0 H L jh ms i H') (nd:jh.Nodup) (hp:jh[i]?=some pk) (hl:ms[i]?=some l) (h0:H0 pk=none) (nL:pk∉L) :
   yt K H0 H L jh ms (i+1) (upd (upd H' pk (.lst ((l.map V.int).set 0 (.int (-40))))) pk (.lst (((l.map V.int).set 0 (.int (-40))).set (((l.map V.int).set 0 (.int (-40))).length - 1) (.int 200)))):=by
 have e:∀ o o',upd (upd H' pk o) pk o'=upd H' pk o':=λ o o'=>by
   funext b
   by_cases z:b=pk
   . rw [z,ag,ag]
   . rw [av z,av z,av z]
 rw [e]
 have ev:(((l.map V.int).set 0 (.int (-40))).set (((l.map V.int).set 0 (.int (-40))).length - 1) (.int 200))=(gb l).map V.int:=by
   unfold gb
   rw [adz,xq,aeK,aeK]
 rw [ev]
 have qY:=h.rows i pk l hp hl
 refine ⟨h.same.put h0,h.ts.trans ?_,λ b o hb n=>?_,λ j q r h1 h2=>?_⟩
 .
  have ec:dL (upd H' pk (.lst ((gb l).map V.int))) L=upd (dL H' L) pk (.lst ((gb l).map V.int)):=by
    funext b
    unfold dL
    by_cases z:b=pk
    . rw [z,ag,abZ nL];exact ag.symm
    . rw [av z,av z]
  rw [ec]
  exact bZ (jV qY nL) rfl
 . rw [av (λ z=>n (by rw [z];exact acU hp))]
   exact h.but b o hb n
 .
  by_cases z:j=i
  . subst z
    obtain rfl:pk=q:=aba (hp.symm.trans h1)
    obtain rfl:l=r:=aba (hl.symm.trans h2)
    rw [ag,abS (ae5 _)]
  .
   have nq:q≠pk:=λ y=>by
     have hj:=(List.getElem?_eq_some_iff.mp h1)
     have hi:=(List.getElem?_eq_some_iff.mp hp)
     obtain ⟨hj,ej⟩:=hj
     obtain ⟨hi,ei⟩:=hi
     exact z (by
       exact (List.getElem?_inj hj nd).mp (h1.trans (by rw [y];exact hp.symm)))
   rw [av nq,h.rows j q r h1 h2]
   by_cases c:j<i
   . rw [abS c,abS (by lia)]
   . rw [abZ c,abZ (by lia)]
theorem zb (z:Int×Int×Int):c8 (tM z)=true:=by simp [c8]
theorem AL (z:Option (Int×Int×Int×Int)):c8 (stI z)=true:=by cases z<;>simp [stI,c8]
theorem xX {K:W.Frag}:∀ {jh:List Addr} {ms:List (List Int)},jh.length=ms.length->(∀ (j:Nat) pk l,jh[j]?=some pk->ms[j]?=some l->H pk=some (.lst (List.map V.int l)))->bI K H (ms.map yO) (jh.map V.ref)
 | [],[],_,_=>rfl
 | pk::jh,l::ms,h,f=>⟨.ref pk,jh.map V.ref,rfl,⟨pk,_,rfl,aV.of (f 0 pk l rfl rfl),rZ l⟩,xX (by simpa using h) λ j q r h1 h2=>f (j+1) q r h1 h2⟩
theorem yt.told {K:W.Frag} {p pm ps pt pf dg pb:Addr} {vs vt:List V} {aw:List (List Key×V)} {m:ap} {n:Nat} (h:yt K H0 H [p,pm,ps,pt,pf] jh m.marks n H') (C:TC K H p pm ps pt pf dg pb (jh.map V.ref) vs vt aw m) (ok:m.Ok n n) (lp:jh.length=n) (f:∀ (j:Nat) pk l,jh[j]?=some pk->m.marks[j]?=some l->pk∉[p,pm,ps,pt,pf]/\∀ x∈l,-30<=x/\x<=150) :
   TC K H' p pm ps pt pf dg pb (jh.map V.ref) vs vt aw { m with marks:=m.marks.map gb }/\ap.Ok n n { m with marks:=m.marks.map gb }:=by
 have nl:∀ b∈[p,pm,ps,pt,pf],b∉jh:=λ b hb z=>by
   obtain ⟨j,hj,e⟩:=adQ z
   have CC:j<m.marks.length:=by rw [ok.lm];lia
   exact (f j b m.marks[j] (by rw [ac8 hj,e]) (ac8 CC)).1 hb
 have g:∀ {b o},H b=some o->b∈[p,pm,ps,pt,pf]->H' b=some o:=λ {b o} e hb=>h.but b o e (nl b hb)
 refine ⟨⟨g C.hp (by simp),g C.eK (by simp),g C.eL (by simp),g C.eQ (by simp),g C.gG (by simp),C.n1,C.n2,C.n3,?_,?_,?_,C.df,C.fk,h.ts _ _ C.sc,h.ts _ _ C.bo⟩,?_⟩
 .
  refine xX (by rw [xq,ok.lm];exact lp) λ j pk l h1 h2=>?_
  have hj:j<n:=by rw [← lp];exact (List.getElem?_eq_some_iff.mp h1).1
  have CC:j<m.marks.length:=by rw [ok.lm];exact hj
  have h2:(m.marks.map gb)[j]?=some l:=h2
  rw [Jl,au CC] at h2
  obtain rfl:gb m.marks[j]=l:=aba h2
  have:=h.rows j pk _ h1 (au CC)
  rw [abS hj] at this
  exact jV this (f j pk _ h1 (au CC)).1
 . exact bI.ts h.ts _ (λ d hd=>by obtain ⟨z,_,rfl⟩:=List.mem_map.mp hd;exact zb z) C.ds
 . exact bI.ts h.ts _ (λ d hd=>by obtain ⟨z,_,rfl⟩:=List.mem_map.mp hd;exact AL z) C.dt
 .
  refine ⟨by show (m.marks.map gb).length=n;rw [xq];exact ok.lm,ok.ls,ok.lt,λ l hl=>?_,ok.ce,ok.ax,ok.aY,ok.scale,ok.bounds⟩
  obtain ⟨r,hr,rfl⟩:=List.mem_map.mp (show l∈m.marks.map gb from hl)
  obtain ⟨j,hj,e⟩:=adQ hr
  have hjn:j<jh.length:=by rw [lp,← ok.lm];exact hj
  exact Ec (ok.rows r hr) (f j jh[j] r (au hjn) (by rw [au hj,e])).2
theorem G7 {n:Nat} (h:0<n):xv n (-1)=some (n - 1):=by
 unfold xv
 rw [abZ (by lia),abS (by lia)]
 congr 1
 lia
theorem KS {n:Nat} (h:0<n):xv n 0=some 0:=by
 unfold xv
 rw [abS (by lia),abS (by lia)]
 rfl
def ap.M9 (tm:ap) (i:Nat) (z lo hi:Int):Prop:=0<=z/\z<((tm.marks.getD i []).length:Int) - 1/\12 * tm.qZ i z.toNat<=hi/\lo<=12 * tm.qZ i (z.toNat+1)
instance {tm:ap} {i:Nat} {z lo hi:Int}:Decidable (tm.M9 i z lo hi):=by unfold ap.M9;infer_instance
def ap.s0 (tm:ap) (n i:Nat) (bs:List Nat) (f:Bool):Int:=tm.sX n i bs 0 (tm.jQ i).2.1 f
def ap.s1 (tm:ap) (n i:Nat) (bs:List Nat) (f:Bool):Int:=tm.sX n i bs 1 (tm.jQ i).2.2 f
theorem zw {r:List bQ} {f g:bQ} {z:Int}:z∈(jK r f g).map (λ n:Nat=>(n:Int))↔0<=z/\z.toNat<r.length - 1/\ju r f g z.toNat=true:=by
 unfold jK i0
 rw [List.mem_map]
 constructor
 . rintro ⟨n,hn,rfl⟩
   obtain ⟨h1,h2⟩:=List.mem_filter.mp hn
   exact ⟨by lia,by simpa using List.mem_range.mp h1,by simpa using h2⟩
 . rintro ⟨h0,h1,h2⟩
   exact ⟨z.toNat,List.mem_filter.mpr ⟨List.mem_range.mpr h1,h2⟩,by lia⟩
section
variable {tm:ap} {n i:Nat}
theorem o8 (ok:tm.Ok n n) (hi:i<n):(tm.m2 n n).rows.getD i []=tm.row (tm.marks.getD i []):=by
 have vF:i<tm.marks.length:=by rw [ok.lm];exact hi
 rw [(cN tm n n).1,Ia,Jl,ad4 hi,Ia,au vF];rfl
theorem lS {l:List Int} {b:Nat} (h:b<l.length):(tm.row l).getD b (0,1)=aP (l.getD b 0) 1 tm.scale:=by
 unfold ap.row
 rw [Ia,Jl,au h,Ia,au h];rfl
theorem kH {A z:Int} (ok:tm.Ok n n) (hi:i<n):z∈(jK ((tm.m2 n n).rows.getD i []) (aP A 12 tm.scale) (aP B 12 tm.scale)).map (λ n:Nat=>(n:Int))↔tm.M9 i z A B:=by
 rw [zw,o8 ok hi]
 unfold ap.M9 ap.qZ ju
 generalize tm.marks.getD i []=l
 have el:(tm.row l).length=l.length:=by unfold ap.row;rw [xq]
 rw [el]
 refine ae8 λ h0=>?_
 have e1:(z.toNat<l.length - 1)↔(z<(l.length:Int) - 1):=by lia
 rw [e1]
 refine ae8 λ h1=>?_
 rw [lS (by lia),lS (by lia),hJ ok.scale (by decide) (by decide),hJ ok.scale (by decide) (by decide)]
 simp only [ac0,aeu,afq]
 lia
theorem tJ (ok:tm.Ok n n) (hi:i<n):(jC (tm.m2 n n) i).2.1=aP (tm.jQ i).2.1 1 tm.scale/\(jC (tm.m2 n n) i).2.2=aP (tm.jQ i).2.2 1 tm.scale/\(-200<=(tm.jQ i).2.1/\(tm.jQ i).2.1<=200)/\(-200<=(tm.jQ i).2.2/\(tm.jQ i).2.2<=200)/\(tm.jQ i).2.1<=(tm.jQ i).2.2:=by
 have zD:i<tm.ce.length:=by rw [ok.ls];exact hi
 have zE:=ok.ce tm.ce[i] (aaY zD)
 unfold jC ap.jQ
 rw [(fN ok n (aaT n)).1 i hi,au zD]
 refine ⟨rfl,rfl,?_⟩
 show (-200<=tm.ce[i].2.1/\tm.ce[i].2.1<=200)/\(-200<=tm.ce[i].2.2/\tm.ce[i].2.2<=200)/\tm.ce[i].2.1<=tm.ce[i].2.2
 lia
theorem tN (ok:tm.Ok n n) (hi:i<n) (h:(tm.m2 n n).has i=true):∃ z,tm.ax[i]?=some (some z):=by
 unfold al.has at h
 rw [wS ok hi] at h
 cases e:tm.ax[i]? with
 | none=>rw [e] at h;cases h
 | some o =>
   cases o with
   | none=>rw [e] at h;cases h
   | some z=>exact ⟨z,rfl⟩
section
variable {bs:List Nat} {f:Bool}
theorem kD (wf:(tm.m2 n n).Wf) (ok:tm.Ok n n) (n4:n<=4) (hi:i<n) (hb:vK tm n bs) (hz:f=true->(tm.m2 n n).has i=true):io (tm.m2 n n) i bs f=aP (tm.s0 n i bs f) 12 tm.scale/\iF (tm.m2 n n) i bs f=aP (tm.s1 n i bs f) 12 tm.scale:=by
 obtain ⟨e1,e2,b1,b2,_⟩:=tJ ok hi
 unfold io iF ap.s0 ap.s1
 rw [e1,e2]
 exact ⟨qK wf ok n4 hi hb (by decide) b1 λ q=>tN ok hi (hz q),qK wf ok n4 hi hb (by decide) b2 λ q=>tN ok hi (hz q)⟩
theorem Lx (ok:tm.Ok n n) (n4:n<=4) (hi:i<n) (hb:vK tm n bs):(-3000<=tm.s0 n i bs f/\tm.s0 n i bs f<=3000)/\(-3000<=tm.s1 n i bs f/\tm.s1 n i bs f<=3000)/\tm.s0 n i bs f<=tm.s1 n i bs f:=by
 obtain ⟨_,_,b1,b2,le⟩:=tJ ok hi
 refine ⟨Fq ok n4 hi hb (by decide) b1,Fq ok n4 hi hb (by decide) b2,?_⟩
 have:=o7 (x:=tm.xl bs 0) (y:=tm.xl bs 1) ok n4 hi (λ j hj=>?_) le
 . unfold ap.s0 ap.s1 ap.sX
   lia
 .
  obtain ⟨h1,h2,e0,_⟩:=ss (b:=bs.getD j 0) ok hj (by have:=hb.lt j hj;lia)
  obtain ⟨_,h3,e1,_⟩:=ss (b:=bs.getD j 0+1) ok hj (hb.lt j hj)
  have Im:=(ok.rows tm.marks[j] (aaY h1)).Im _ _ _ (au h2) (au h3)
  rw [← e0,← e1] at Im
  exact adD Im
theorem tK {x:Int} (ok:tm.Ok n n) (h1 : -5000<=x) (h2:x<=5000):dR 1000 (aP x 12 tm.scale):=(nS (n:=16) ok.scale (by decide) (show x.natAbs<2 ^ 16 by lia) (show Int.natAbs 12<2 ^ 16 by decide)).mono (by decide)
theorem vo (wf:(tm.m2 n n).Wf) (ok:tm.Ok n n) (n4:n<=4) (hi:i<n) (hb:vK tm n bs) (hz:f=true->(tm.m2 n n).has i=true):dR 1000 (io (tm.m2 n n) i bs f)/\dR 1000 (iF (tm.m2 n n) i bs f):=by
 obtain ⟨e1,e2⟩:=kD wf ok n4 hi hb hz
 obtain ⟨b1,b2,_⟩:=Lx (f:=f) ok n4 hi hb
 rw [e1,e2]
 exact ⟨tK ok (by lia) (by lia),tK ok (by lia) (by lia)⟩
end
end
theorem aM.some {K:W.Frag} {a:Addr} {m:al} (h:aM K C H a fp m):∀ c∈fp,∃ o,H c=some o:=by
 obtain ⟨⟨WT,pm,pf,ps,pt,vm,vs,vt,aw,rfl,ha,jo,eK,gG,eL,eQ,_⟩,_⟩:=h
 intro c hc
 simp only [abt,T1,adj] at hc
 rcases hc with rfl|rfl|rfl|rfl|rfl|rfl
 . exact ⟨_,ha⟩
 . exact ⟨_,jo⟩
 . exact ⟨_,eK⟩
 . exact ⟨_,gG⟩
 . exact ⟨_,eL⟩
 . exact ⟨_,eQ⟩
def wk (s:dY):PyData:=.tuple [.tuple (s.fc.map gJ),gJ s.cu,.tuple (s.ik.map gJ),.tuple (s.failed.map gJ),gJ s.heap]
theorem gn.dn {K:W.Frag} {p:Addr} {s:dY} (h:gn K H p s):Dn K H (wk s) (.ref p):=by
 obtain ⟨pb,pw,pf,a,b,c,d⟩:=h
 exact ek a (aO (ek b (im _)) (aO rfl (aO (ek c (im _)) (aO (ek d (im _)) (aO rfl eM)))))
theorem Je (s:dY):xE 2 (wk s):=by
 have key:∀ l:List Nat,xE 1 (.tuple (l.map gJ)):=λ l d hd=>by
   obtain ⟨x,_,rfl⟩:=List.mem_map.mp hd
   exact trivial
 intro d hd
 simp only [abt,T1,adj] at hd
 rcases hd with rfl|rfl|rfl|rfl|rfl
 . exact key _
 . exact trivial
 . exact key _
 . exact key _
 . exact trivial
end L2
namespace PySem
open Sem (wp)
mutual
def kd:PyData->Bool
 | .bool _=>true
 | .int _=>true
 | .tuple ds=>tG ds
 | _=>false
def tG:List PyData->Bool
 | []=>true
 | d::ds=>kd d && tG ds
end
mutual
def nX:PyData->PyData
 | .bool b => .int (if b then 1 else 0)
 | .tuple ds => .tuple (kg ds)
 | d=>d
def kg:List PyData->List PyData
 | []=>[]
 | d::ds=>nX d::kg ds
end
mutual
def pY:PyData->Nat
 | .tuple ds=>ql ds+1
 | _=>0
def ql:List PyData->Nat
 | []=>0
 | d::ds=>max (pY d) (ql ds)
end
mutual
def mZ:PyData->Int
 | .int i=>hashInt i
 | .bool b=>hashInt (if b then 1 else 0)
 | .tuple ds=>reduceHash (Builtin.Tuple.tupleHashOf (jS ds))
 | _=>0
def jS:List PyData->List Int
 | []=>[]
 | d::ds=>mZ d::jS ds
end
mutual
def mK:PyData->Nat
 | .tuple ds=>ku ds+1
 | _=>1
def ku:List PyData->Nat
 | []=>0
 | d::ds=>mK d+ku ds
end
mutual
theorem qM:∀ d,kd d=true->mZ (nX d)=mZ d
 | .bool b,_=>by simp only [nX,mZ]
 | .int i,_=>by simp only [nX,mZ]
 | .tuple ds,h=>by simp only [nX,mZ];rw [pK ds h]
 | .none,_ | .str _,_ | .list _,_ | .dict _,_=>by simp only [nX]
theorem pK:∀ ds,tG ds=true->jS (kg ds)=jS ds
 | [],_=>rfl
 | d::ds,h=>by
   rw [tG,ac0] at h
   simp only [kg,jS]
   rw [qM d h.1,pK ds h.2]
end
mutual
theorem qx:∀ d,mK (nX d)=mK d
 | .bool b=>by simp only [nX,mK]
 | .tuple ds=>by simp only [nX,mK];rw [oT ds]
 | .int _ | .none | .str _ | .list _ | .dict _=>by simp only [nX]
theorem oT:∀ ds,ku (kg ds)=ku ds
 | []=>rfl
 | d::ds=>by
   simp only [kg,ku]
   rw [qx d,oT ds]
end
mutual
theorem rS:∀ (d e:PyData),kd d=true->kd e=true->(PyData.eqv d e=true↔nX d=nX e)
 | .bool a,.bool b,_,_=>by cases a<;>cases b<;>simp [PyData.eqv,nX]
 | .bool a,.int j,_,_=>by simp [PyData.eqv,nX]
 | .int i,.bool b,_,_=>by simp [PyData.eqv,nX]
 | .int i,.int j,_,_=>by simp [PyData.eqv,nX]
 | .tuple xs,.tuple ys,h,k=>by
   simp only [PyData.eqv,nX,PyData.tuple.injEq]
   exact ve xs ys h k
 | .bool _,.tuple _,_,_ | .int _,.tuple _,_,_ | .tuple _,.bool _,_,_ | .tuple _,.int _,_,_=>by simp [PyData.eqv,nX]
theorem ve:∀ (ds es:List PyData),tG ds=true->tG es=true->(PyData.eqvAll ds es=true↔kg ds=kg es)
 | [],[],_,_=>by simp [PyData.eqvAll,kg]
 | [],_::_,_,_=>by simp [PyData.eqvAll,kg]
 | _::_,[],_,_=>by simp [PyData.eqvAll,kg]
 | d::ds,e::es,h,k=>by
   rw [tG,ac0] at h k
   simp only [PyData.eqvAll,kg,ac0,afd]
   rw [rS d e h.1 k.1,ve ds es h.2 k.2]
end
section
variable {prog:Program} {w:World} {E:Value->Shared->Prop}
set_option maxHeartbeats 0 in
mutual
theorem pJ:∀ (d:PyData) (v:Value) (as:List Addr) (A:Around) (s:Shared) (Q:Int->Shared->Prop),kd d=true->Reads s.heap v d as->A.units+pY d<cLine ->
   Q (mZ d) { s with toks:=s.toks+mK d }->wpAny (model prog w) A (pyHash v) Q E s
 | .int i,_,_,A,s,Q,_,x,_,h=>by cases x;exact wpAny_pyHash_int h
 | .bool b,_,_,A,s,Q,_,x,hu,h=>by
   cases x
   refine W.pyHash_slot (T:="bool") rfl F.slot_bool_hash entry_int_hash (args_int_hash _) (beq_builtin_none _) (.inl rfl) ?_
   cases b
   . exact (show wpAny _ _ (do ret (← mkInt 0)) _ _ s from abn (wpAny_mkInt (ac9 ⟨_,_,rfl,h⟩)))
   . exact (show wpAny _ _ (do ret (← mkInt 1)) _ _ s from abn (wpAny_mkInt (ac9 ⟨_,_,rfl,h⟩)))
 | .tuple ds,_,_,A,s,Q,hk,x,hu,h=>by
   cases x with
   | @tuple a o vs n _ _ hg hc hd hr =>
     rw [pY] at hu
     refine W.pyHash_slot (T:="tuple") ⟨_,hg,hc⟩ F.slot_tuple_hash F.entry_tuple_hash (F.args_tuple_hash_1 _) (beq_builtin_none _) (.inr (by lia)) ?_
     show wpAny _ _ (Builtin.Tuple.tupleItemsOf (.ref a) >>= _) _ _ s
     refine abn (wpAny_tupleItemsOf hg hd ?_)
     refine abn ?_
     rw [← afS]
     refine mL ds vs.toList _ A.in1 s #[] _ hk hr (by rw [afv];lia) λ b hb=>?_
     show wpAny _ _ (retInt (Builtin.Tuple.tupleHashOf b.toList)) _ _ _
     rw [hb]
     exact abn (wpAny_mkInt (ac9 ⟨_,_,rfl,h⟩))
 | .none,_,_,_,_,_,hk,_,_,_ | .str _,_,_,_,_,_,hk,_,_,_ | .list _,_,_,_,_,_,hk,_,_,_ | .dict _,_,_,_,_,_,hk,_,_,_=>by rw [kd] at hk<;>first|cases hk|nofun
theorem mL:∀ (ds:List PyData) (vs:List Value) (as:List Addr) (A:Around) (s:Shared) (b:Array Int) (Q:Array Int->Shared->Prop),tG ds=true->ReadsAll s.heap vs ds as->A.units+ql ds<cLine ->
   (∀ b',b'.toList=b.toList++jS ds->Q b' { s with toks:=s.toks+ku ds }) ->
   wpAny (model prog w) A (forIn vs b λ x r=>do let h ← pyHash x;pure PUnit.unit;pure (ForInStep.yield (r.push h))) Q E s
 | [],_,_,A,s,b,Q,_,x,_,h=>by cases x;exact ac9 (h b (by simp [jS]))
 | d::ds,_,_,A,s,b,Q,hk,x,hu,h=>by
   cases x with
   | cons x1 x2 =>
     rw [tG,ac0] at hk
     rw [ql] at hu
     rw [List.forIn_cons]
     refine abn (abn (pJ d _ _ A s _ hk.1 x1 (by lia) ?_))
     refine abn (ac9 (ac9 ?_))
     exact mL ds _ _ A { s with toks:=s.toks+mK d } _ Q hk.2 x2 (by lia) λ b' hb=>by
       have:=h b' (by simp [hb,jS])
       rw [ku,← Nat.add_assoc] at this
       exact this
end
set_option maxHeartbeats 0 in
theorem m8:∀ (n:Nat) (d:PyData) (v:Value) (as:List Addr) (A:Around) (s:Shared) (Q:Bool->Shared->Prop),kd d=true->pY d<=n->Reads s.heap v d as->Q true s->wpAny (model prog w) A (eqIsQuiet n v) Q E s
 | n,.int i,_,_,A,s,Q,_,_,x,h=>by cases x;rw [eqIsQuiet_byValue n rfl];exact ac9 h
 | n,.bool i,_,_,A,s,Q,_,_,x,h=>by cases x;rw [eqIsQuiet_byValue n rfl];exact ac9 h
 | 0,.tuple ds,_,_,A,s,Q,_,hn,_,_=>by rw [pY] at hn;lia
 | n+1,.tuple ds,_,_,A,s,Q,hk,hn,x,h=>by
   cases x with
   | @tuple a o vs m _ _ hg hc hd hr =>
     rw [pY] at hn
     unfold eqIsQuiet
     refine abn (wpAny_specialOf ⟨_,hg,hc⟩ F.slot_tuple_eq.lookup ?_)
     show wpAny _ _ (isInstance (.ref a) (.type "tuple") >>= _) _ _ s
     refine abn (wpAny_isInstance ⟨_,hg,hc⟩ isSubtype_tuple_tuple ?_)
     simp only [Bool.not_true,aen,aek]
     refine abn (afJ hg hd ?_)
     refine abn ?_
     show wpAny _ _ (forIn vs _ _) _ _ s
     rw [← afS]
     refine wpAny_forIn_list _ (λ rest r s'=>r.1=none/\s'=s/\∃ es RZ,tG es=true/\ql es<=n/\ReadsAll s.heap rest es RZ) _ ?_ ?_ _ _ ⟨rfl,rfl,ds,_,hk,by lia,hr⟩
     .
      rintro v rest r s' ⟨hr,rfl,es,RZ,h1,h2,h3⟩
      cases h3 with
      | @cons _ _ e es _ _ x1 x2 =>
        rw [tG,ac0] at h1
        rw [ql] at h2
        refine abn (m8 n e v _ _ _ _ h1.1 (by lia) x1 ?_)
        simp only [Bool.not_true,aen,aek]
        exact ac9 ⟨rfl,rfl,es,_,h1.2,by lia,x2⟩
     . rintro ⟨r1,r2⟩ s' ⟨hq,rfl,_⟩
       have hq:r1=none:=hq
       subst hq
       exact ac9 h
 | _,.none,_,_,_,_,_,hk,_,_,_|_,.str _,_,_,_,_,_,hk,_,_,_|_,.list _,_,_,_,_,_,hk,_,_,_|_,.dict _,_,_,_,_,_,hk,_,_,_=>by rw [kd] at hk<;>first|cases hk|nofun
theorem zL {a b:Addr} {d e:PyData} {as bs:List Addr} {A:Around} {s:Shared} {Q:Bool->Shared->Prop} (ra:Reads s.heap (.ref a) d as) (rb:Reads s.heap (.ref b) e bs) (ha:SeqAt.shaped d=true) (hb:SeqAt.shaped e=true) (ka:kd d=true) (kb:kd e=true) (hu:A.units+64<cLine)
   (h:Q (PyData.eqv d e) s):wpAny (model prog w) A (eqBool (.ref a) (.ref b)) Q E s:=by
 unfold eqBool
 try with_reducible refine ae6 ?_
 show wpAny _ _ (if (Value.ref a == Value.ref b)=true then _ else _) Q E s
 by_cases vD:(Value.ref a == Value.ref b)=true
 .
  rw [abS vD]
  have z:a=b:=by have:=eq_of_beq vD;injection this
  subst z
  obtain rfl:=(Reads.unique ra _ _ rb).1
  rw [(rS d d ka ka).mpr rfl] at h
  exact abn (wpAny_rule (ac9 h))
 . rw [abZ vD]
   exact abn (show wpAny _ _ (compareOp .Eq (.ref a) (.ref b)) _ _ _ from SeqAt.compareEq_shaped ra rb ha hb hu (adE h))
end
mutual
theorem oN {h h':Heap} (hk:∀ b o,h.get? b=some o->∀ n vs,o.data = .seq vs n->h'.get? b=some o):∀ (d:PyData) {v:Value} {as:List Addr},kd d=true->Reads h v d as->Reads h' v d as
 | _,_,_,_,.none => .none
 | _,_,_,_,.bool b => .bool b
 | _,_,_,_,.int i t => .int i t
 | _,_,_,_,.str x t => .str x t
 | _,_,_,k,.tuple h1 h2 h3 h4 => .tuple (hk _ _ h1 _ _ h3) h2 h3 (mH hk _ k h4)
 | _,_,_,k,.list h1 h2 h3 h4=>by rw [kd] at k<;>first|cases k|nofun
 | _,_,_,k,.dict h1 h2 h3 h4 h5=>by rw [kd] at k<;>first|cases k|nofun
theorem mH {h h':Heap} (hk:∀ b o,h.get? b=some o->∀ n vs,o.data = .seq vs n->h'.get? b=some o):∀ (ds:List PyData) {vs:List Value} {as:List Addr},tG ds=true->ReadsAll h vs ds as->ReadsAll h' vs ds as
 | _,_,_,_,.nil => .nil
 | _,_,_,k,.cons h1 h2 => .cons (oN hk _ (Bool.and_eq_true_iff.mp k).1 h1) (mH hk _ (Bool.and_eq_true_iff.mp k).2 h2)
end
noncomputable instance:DecidableEq PyData:=λ a b=>Classical.propDecidable (a=b)
def GF (h:Heap) (k:PyData) (a:Addr):Prop:=∃ d as,Reads h (.ref a) d as/\kd d=true/\SeqAt.shaped d=true/\pY d<=8/\nX d=k
noncomputable def o5 (prog:Program) (w:World):HeapKind prog w PyData where
 is:=GF
 hash:=mZ
 draws:=mK
 room:=λ A=>A.units+64<cLine
 inj:=λ ⟨d,_,r,_,_,_,e⟩ ⟨d',_,r',_,_,_,e'⟩=>by
   obtain rfl:=(Reads.unique r _ _ r').1
   exact e.symm.trans e'
 keeps:=λ {h h' k a d o es ep} x ho hd hs=>by
   obtain ⟨x,as,r,k1,k2,k3,e⟩:=x
   refine ⟨x,as,oN (λ b ob q m vs hv=>?_) x k1 r,k1,k2,k3,e⟩
   rw [hs.2 b λ z=>?_]
   . exact q
   . subst z
     rw [ho] at q
     cases q
     rw [hd] at hv
     cases hv
 pyHash:=λ {A E s k a Q} hu ⟨d,as,r,k1,k2,k3,e⟩ h=>by
   subst e
   rw [qM d k1,qx d] at h
   exact pJ d _ as A s Q k1 r (by lia) h
 eqBool:=λ {A E s x y a b Q} hu ⟨d,as,r,k1,k2,k3,e⟩ ⟨d',RZ,r',Fm,k2',Nb,e'⟩ h=>by
   subst e e'
   refine zL r r' k2 k2' k1 Fm hu ?_
   have q:PyData.eqv d d'=decide (nX d=nX d'):=by
     rw [adP,afR]
     exact rS d d' k1 Fm
   rw [q]
   exact h
 quiet:=λ {A E s k a Q} ⟨d,as,r,k1,k2,k3,e⟩ h=>m8 8 d _ as A s Q k1 k3 r h
end PySem
namespace L2
open PySem PySem.Spec PyProof.Rows Mth
variable {B:Int} {H H':Hp} {L:List Addr} {l:List Nat} {tm:ap} {v:V} {xs ys:List V}
mutual
theorem xM:∀ d:PyData,kd d=true->c8 d=true
 | .bool _,_=>by simp [c8]
 | .int _,_=>by simp [c8]
 | .tuple ds,h=>jM.mpr (u7 ds h)
 | .none,h | .str _,h | .list _,h | .dict _,h=>by rw [kd] at h<;>first|cases h|nofun
theorem u7:∀ ds:List PyData,tG ds=true->∀ d∈ds,c8 d=true
 | [],_,d,h=>absurd h T1
 | e::ds,h,d,m=>by
   rw [tG,ac0] at h
   rcases List.mem_cons.mp m with z|z
   . rw [z];exact xM e h.1
   . exact u7 ds h.2 d z
end
def gc (K:W.Frag) (H:Hp) (k:PyData) (b:Addr):Prop:=∃ d,Dn K H d (.ref b)/\kd d=true/\SeqAt.shaped d=true/\pY d<=8/\nX d=k
theorem gc.ts {K:W.Frag} {k:PyData} {b:Addr} (s:bg K H H') (h:gc K H k b):gc K H' k b:=by
 obtain ⟨d,h1,h2,h3,h4,h5⟩:=h
 exact ⟨d,Dn.ts s d (xM d h2) h1,h2,h3,h4,h5⟩
section
variable {X:Cx} {pins:List (Addr×Obj)} {U:St} {H:Hp} {s:Shared}
theorem gc.is {k:PyData} {b:Addr} (I:Inv X pins U H s) (h:gc X.K H k b):GF s.heap k b:=by
 obtain ⟨d,h1,h2,h3,h4,h5⟩:=h
 obtain ⟨as,r⟩:=I.reads d h1 rfl
 exact ⟨d,as,r,h2,h3,h4,h5⟩
end
abbrev qQ:=List (PyData×Addr×V)
abbrev XR:qQ->List (PyData×Addr×Value)->Prop:=Paired λ p q=>p.1=q.1/\p.2.1=q.2.1/\RelV p.2.2 q.2.2
def DxP (P:Program) (w:World) (a:Addr) (aw:qQ) (h:Heap):Prop:=aw.length<=sizeLine/\(a == sysModules)=false/\∃ xs,XR aw xs /\
 ∃ o es ep,h.get? a=some o/\o.ExactDict/\o.data = .dict es ep/\es.toList=xs.map (entryOfKey (o5 P w))/\(xs.map (·.1)).Nodup
def pW (P:Program) (w:World) (a:Addr) (aw:qQ):HO:=.ext (DxP P w a aw)
theorem FG {P:Program} {w:World} {h:Heap} {a:Addr} {aw:qQ} (x:DxP P w a aw h):cw P w H h a (pW P w a aw):=by
 refine ⟨x,?_,λ h1 h2 ⟨z,y,xs,r,o,es,ep,e,q⟩ k=>⟨z,y,xs,r,o,es,ep,k o e,q⟩⟩
 obtain ⟨_,_,_,_,o,_,_,e,_⟩:=x
 exact ⟨o,e⟩
noncomputable def je (aw:qQ) (k:PyData):Option V:=(aw.find? λ x=>decide (x.1=k)).map (·.2.2)
noncomputable def iP (aw:qQ) (k:PyData) (b:Addr) (v:V):qQ:=if (je aw k).isSome then aw.map λ x=>if x.1=k then (x.1,x.2.1,v) else x else aw++[(k,b,v)]
theorem pA {aw:qQ} {xs:List (PyData×Addr×Value)} (r:XR aw xs) (k:PyData):iq (je aw k) ((atKey xs k).map (·.2)):=by
 induction r with
 | nil=>exact True.intro
 | @cons p q ps qs h t ih =>
   obtain ⟨h1,h2,h3⟩:=h
   unfold je atKey at ih ⊢
   rw [adn,adn,h1]
   by_cases e:q.1=k
   . rw [ac7 e];exact h3
   . rw [ab2 e];exact ih
theorem zO {aw:qQ} {xs:List (PyData×Addr×Value)} (r:XR aw xs) (k:PyData) {b:Addr} {u:Value} (rv:RelV v u):XR (iP aw k b v) (storedH xs k b u):=by
 unfold iP storedH
 have e:(je aw k).isSome=(atKey xs k).isSome:=by rw [(pA r k).lV,aeY]
 rw [e]
 by_cases q:(atKey xs k).isSome=true
 .
  rw [abS q,abS q]
  clear e q
  induction r with
  | nil=>exact .nil
  | @cons p q ps qs h t ih =>
    refine .cons ?_ ih
    obtain ⟨h1,h2,h3⟩:=h
    unfold putAt
    dsimp only
    by_cases e:q.1=k
    . rw [abS e,abS (h1.trans e)];exact ⟨h1,h2,rv⟩
    . rw [abZ e,abZ (λ z=>e (h1.symm.trans z))];exact ⟨h1,h2,h3⟩
 . rw [abZ q,abZ q]
   exact ae4 r ⟨rfl,rfl,rv⟩
theorem oK (aw:qQ) (k:PyData) (b:Addr) (v:V):(iP aw k b v).length<=aw.length+1:=by
 unfold iP
 split<;>simp
theorem Bp {aw:qQ} {k:PyData} {b:Addr} {e:PyData×Addr×V} (h:e∈iP aw k b v):(∃ e'∈aw,e'.1=e.1/\e'.2.1=e.2.1)∨e=(k,b,v):=by
 unfold iP at h
 split at h
 . obtain ⟨x,hx,rfl⟩:=List.mem_map.mp h
   refine .inl ⟨x,hx,?_⟩
   split<;>exact ⟨rfl,rfl⟩
 . rcases List.mem_append.mp h with z|z
   . exact .inl ⟨e,z,rfl,rfl⟩
   . exact .inr (List.mem_singleton.mp z)
theorem kO (aw:qQ) (k k':PyData) (b:Addr) (v:V):je (iP aw k b v) k'=if k'=k then some v else je aw k':=by
 unfold iP
 by_cases q:(je aw k).isSome=true
 .
  rw [abS q]
  by_cases e:k'=k
  .
   rw [abS e]
   subst e
   induction aw with
   | nil=>simp [je] at q
   | cons x aw ih =>
     unfold je at ih q ⊢
     rw [adl,adn]
     by_cases z:x.1=k'
     . rw [abS z,ac7 z];rfl
     . rw [abZ z,ab2 z]
       rw [adn,ab2 z] at q
       exact ih q
  .
   rw [abZ e]
   clear q
   induction aw with
   | nil=>rfl
   | cons x aw ih =>
     unfold je at ih ⊢
     rw [adl,adn,adn]
     by_cases z:x.1=k
     . rw [abS z,ab2 (λ y:x.1=k'=>e (y.symm.trans z))]
       exact ih
     . rw [abZ z]
       by_cases z':x.1=k'
       . rw [ac7 z']
       . rw [ab2 z']
         exact ih
 .
  rw [abZ q]
  have q:je aw k=none:=by simpa using q
  unfold je at q ⊢
  rw [List.find?_append]
  by_cases e:k'=k
  . rw [abS e,e]
    have z:(aw.find? λ x=>decide (x.1=k))=none:=by simpa using q
    rw [z,adn,ac7 rfl]
    rfl
  . rw [abZ e,adn,ab2 (λ y=>e y.symm),List.find?_nil,Option.or_none]
structure gK (P:Program) (w:World) (K:W.Frag) (H:Hp) (a:Addr) (aw:qQ):Prop where
 ob:H a=some (pW P w a aw)
 keys:∀ e∈aw,gc K H e.1 e.2.1
theorem gK.nil {P:Program} {w:World} {K:W.Frag} {a:Addr} (h:H a=some (pW P w a [])):gK P w K H a []:=⟨h,λ _ h=>absurd h T1⟩
theorem gK.iz {P:Program} {w:World} {K:W.Frag} {a:Addr} {aw:qQ} (x:gK P w K H a aw) (ts:bg K H H') (e:H' a=H a):gK P w K H' a aw:=⟨e.trans x.ob,λ y hy=>(x.keys y hy).ts ts⟩
theorem gK.same {P:Program} {w:World} {K:W.Frag} {a:Addr} {aw:qQ} (x:gK P w K H a aw) (s:aA H H'):gK P w K H' a aw:=⟨s _ _ x.ob,λ y hy=>(x.keys y hy).ts s.ts⟩
theorem gK.put {P:Program} {w:World} {K:W.Frag} {a b:Addr} {aw:qQ} {k:PyData} (x:gK P w K H a aw) (hk:gc K H k b):gK P w K (upd H a (pW P w a (iP aw k b v))) a (iP aw k b v):=by
 have ts:bg K H (upd H a (pW P w a (iP aw k b v))):=bZ x.ob rfl
 refine ⟨ag,λ e he=>?_⟩
 rcases Bp he with ⟨e',m,e1,e2⟩|rfl
 . rw [← e1,← e2];exact (x.keys e' m).ts ts
 . exact hk.ts ts
section
variable {X:Cx} {pins:List (Addr×Obj)} {U:St} {H:Hp} {s:Shared} {a b:Addr} {aw:qQ} {k:PyData} {v:V}
theorem gK.dict (I:Inv X pins U H s) (x:gK X.prog X.w X.K H a aw):aw.length<=sizeLine/\(a == sysModules)=false/\∃ xs,XR aw xs/\s.heap.DictOfH (o5 X.prog X.w) a xs:=by
 obtain ⟨z,y,xs,r,o,es,ep,h1,h2,h3,h4,h5⟩:=(show cw X.prog X.w H s.heap a (pW X.prog X.w a aw) from I.cq a _ x.ob).1
 refine ⟨z,y,xs,r,o,es,ep,h1,h2,h3,h4,λ e he=>?_,h5⟩
 have all:∀ {l:qQ} {m:List (PyData×Addr×Value)},XR l m->(∀ e∈l,gc X.K H e.1 e.2.1)->∀ x∈m,GF s.heap x.1 x.2.1:=by
   intro l m q
   induction q with
   | nil=>intro _ x hx;exact absurd hx T1
   | @cons p q ps qs hq t ih =>
     intro hl x hx
     rcases List.mem_cons.mp hx with e|hx
     . subst e
       rw [← hq.1,← hq.2.1]
       exact (hl p acY).is I
     . exact ih (λ e he=>hl e (acV _ he)) x hx
 exact all r x.keys e he
theorem rM {A:Around} {P:Program} {w:World} (hu:A.units+65<cLine):(o5 P w).room A.in1:=by
 show A.in1.units+64<cLine
 rw [afv]
 lia
end
def LL (P:Program) (w:World) (K:W.Frag) (td ty:TE):TE:=λ U H Q=>td U H λ x H1=>ty U H1 λ y H2=>∃ a b aw k v,x = .ref a/\y = .ref b/\gK P w K H2 a aw/\gc K H2 k b/\je aw k=some v/\Q v H2
inductive ED (P:Program) (w:World) (K:W.Frag) (y:V) (x:V) (H:Hp) (Q:VK):Prop
 | mk (a b aw k:_) (_:x = .ref a) (_:y = .ref b) (_:gK P w K H a aw) (_:gc K H k b) (_:Q (.bl (!(je aw k).isSome)) H)
def LS (P:Program) (w:World) (K:W.Frag) (td ty tv:TE):TS:=λ D U H=>tv U H λ v H1=>td U H1 λ x H2=>ty U H2 λ y H3=>∃ a b aw k,x = .ref a/\y = .ref b/\gK P w K H3 a aw/\gc K H3 k b/\aw.length<sizeLine /\
 D.nx U (upd H3 a (pW P w a (iP aw k b v)))
def Ki (P:Program) (w:World):TE:=λ _ H Q=>∀ p,H p=none->Q (.ref p) (upd H p (pW P w p []))
theorem cQ.IB {k:Nat} {A:Around} (r:cQ k A):A.units+65<cLine:=by have:=r.un;lia
section
variable {X:Cx} {o i e value:Expr} {pos pos' nN:Pos} {td ty tv:TE} {P:Program} {w:World} {K:W.Frag}
theorem xB (hP:X.prog=P) (hw:X.w=w):PE X (.Dict [] [] pos) (Ki P w):=by
 subst hP hw
 exact λ pins s U H Q I h=>wpAny_Dict_empty ⟨.ref s.heap.objs.size,_,I.laid (a:=s.heap.objs.size) (o:=pW X.prog X.w s.heap.objs.size []) (t':=s.toks) (λ _ _ q=>aa4 _ q) (aaT _)
   (FG ⟨adm _,beq_eq_false_iff_ne.mpr (ad1 (acW I.big)),[],.nil,_,#[],0,ac6 _ rfl,⟨rfl,rfl,rfl⟩,rfl,rfl,aep⟩),rfl,h _ (I.cq.fresh (aaT _))⟩
theorem CQ (hP:X.prog=P) (hw:X.w=w) (hK:X.K=K) (hu:X.A.units+65<cLine) (ho:PE X o td) (hi:PE X i ty) (hs:HS i):PE X (.Subscript o i pos) (LL P w K td ty):=by
 subst hP hw hK
 intro pins s U H Q I h
 refine xu PySem.F.slot_dict_getitem.lookup hs (cx (ho pins s U H _ I h) λ u s1 ⟨x,H1,I1,rx,q1⟩=>cx (hi pins s1 U H1 _ I1 q1) λ iv s2 ⟨y,H2,I2,ry,a,b,aw,k,v,ex,ey,g,hk,hv,q2⟩=>?_)
 subst ex ey
 obtain rfl:u=Value.ref a:=rx
 obtain rfl:iv=Value.ref b:=ry
 obtain ⟨z,hd,xs,rel,dd⟩:=g.dict I2
 refine ⟨dd.typeIs,?_⟩
 obtain ⟨w',hw,yV⟩:=iq.some_of (v:=v) (o:=(atKey xs k).map (·.2)) (by rw [← hv];exact pA rel k)
 obtain ⟨p,hp,Ai⟩:=Option.map_eq_some_iff.mp hw
 refine wpAny_getItem_heap (rM hu) (hk.is I2) dd hp ?_
 rw [Ai]
 exact ⟨v,H2,I2.tok _,yV,q2⟩
theorem qN (hP:X.prog=P) (hw:X.w=w) (hK:X.K=K) (hu:X.A.units+65<cLine):gI X (compareOp .NotIn) (ED P w K):=by
 subst hP hw hK
 intro pins s U H x y v u Q I rx ry h
 obtain ⟨a,b,aw,k,rfl,rfl,g,hk,q2⟩:=h
 obtain rfl:u=Value.ref a:=ry
 obtain rfl:v=Value.ref b:=rx
 obtain ⟨z,hd,xs,rel,dd⟩:=g.dict I
 refine wpAny_notIn_heap (rM hu) (hk.is I) hd dd ⟨.bl _,H,I.tok _,?_,q2⟩
 have q:=(pA rel k).lV
 rw [aeY] at q
 rw [q]
 rfl
theorem xC (hP:X.prog=P) (hw:X.w=w) (hK:X.K=K) (hu:X.A.units+65<cLine) (ho:PE X o td) (hi:PE X i ty) (hv:PE X value tv) (hs:swapsWith value (some (.Subscript o i pos')) pos.line X.env=pure false) :
   PS X (.Assign [.Subscript o i pos'] value pos) (LS P w K td ty tv):=by
 subst hP hw hK
 intro pins s U H D I h
 refine wpAny_Assign_Subscript (cx (hv pins s U H _ I h) λ r s1 ⟨v,H1,I1,rv,q1⟩=>cx (ho pins s1 U H1 _ I1 q1) λ u s2 ⟨x,H2,I2,rx,q2⟩=>cx (hi pins s2 U H2 _ I2 q2) λ iv s3 ⟨y,H3,I3,ry,a,b,aw,k,ex,ey,g,hk,hl,q3⟩=>?_) hs
 subst ex ey
 obtain rfl:u=Value.ref a:=rx
 obtain rfl:iv=Value.ref b:=ry
 obtain ⟨z,hd,xs,rel,dd⟩:=g.dict I3
 have hz:xs.length<=sizeLine:=by rw [← aeo rel];exact z
 have Kj:(iP aw k b v).length<=sizeLine:=adf (oK aw k b v) hl
 refine wpAny_setItem_heap (hsz:=hz) (rM hu) (hk.is I3) dd λ h' A1 hs=>⟨U,_,?_,q3⟩
 obtain ⟨q,es,ep,hq,h2,h3,h4,_,h5⟩:=A1
 exact nR I3 (by rw [g.ob];exact True.intro) hs ⟨q,hq⟩ (FG ⟨Kj,hd,_,zO rel k rv,q,es,ep,hq,h2,h3,h4,h5⟩)
end
section
variable {X:Cx}
inductive V9 (K:W.Frag) (x:V) (y:V) (H:Hp) (Q:VK):Prop
 | mk (p xs:_) (_:x = .cR) (_:y = .ref p) (_:aV K H p xs) (_:(∀ v∈xs,v = .cR∨∃ a ys,v = .ref a/\aV K H a ys)) (_:Q (.bl (decide (V.cR∈xs))) H)
theorem Bu {s:Shared} {pins:List (Addr×Obj)} {U:St} (I:Inv X pins U H s) (hu:X.A.units+1<cLine):∀ {xs:List V} {bf:List Value},Vals xs bf->(∀ v∈xs,v = .cR∨∃ a ys,v = .ref a/\aV X.K H a ys) ->
   (∀ u∈bf,SeqAt.EqAt X.A.in1 s u .none (u == Value.none))/\(bf.any λ u=>u == Value.none)=decide (V.cR∈xs)
 | _,_,.nil,_=>⟨λ _ h=>absurd h T1,rfl⟩
 | x::xs,u::bf,.cons r t,h=>by
   obtain ⟨i1,i2⟩:=Bu I hu t λ v hv=>h v (acV _ hv)
   rcases h x acY with rfl|⟨a,ys,rfl,hq⟩
   .
    obtain rfl:u=Value.none:=r
    refine ⟨λ w hw=>?_,?_⟩
    . rcases List.mem_cons.mp hw with e|hw
      . rw [e];exact SeqAt.EqAt.same _
      . exact i1 w hw
    . rw [aeA,ac7 (show V.cR∈V.cR::xs from acY)]
      rfl
   .
    obtain rfl:u=Value.ref a:=r
    obtain ⟨jts,_,pl,_⟩:=I.list hq
    refine ⟨λ w hw=>?_,?_⟩
    . rcases List.mem_cons.mp hw with e|hw
      . rw [e];exact SeqAt.EqAt.list_none pl.isList (by rw [afv];exact hu)
      . exact i1 w hw
    . rw [aeA,i2]
      have e:(V.cR∈V.ref a::xs)↔V.cR∈xs:=by simp
      rw [show (Value.ref a == Value.none)=false from rfl,Bool.false_or]
      exact (decide_eq_decide.mpr e).symm
theorem HE (hu:X.A.units+1<cLine):gI X (compareOp .In) (V9 X.K):=by
 intro pins s U H x y v u Q I rx ry h
 obtain ⟨p,xs,rfl,rfl,hq,hx,q⟩:=h
 obtain rfl:u=Value.ref p:=ry
 obtain rfl:v=Value.none:=rx
 obtain ⟨bf,r,pl,hz⟩:=I.list hq
 obtain ⟨h1,h2⟩:=Bu I hu r hx
 refine SeqAt.in_listAt (λ u=>u == Value.none) pl.isList (λ w hw=>h1 w (by simpa using hw)) ⟨.bl _,H,I,rfl,?_⟩
 rw [show (bf.toArray.any λ u=>u == Value.none)=(bf.any λ u=>u == Value.none) by simp,h2]
 exact q
inductive FY (K:W.Frag) (x:V) (y:V) (H:Hp) (Q:VK):Prop
 | mk (a b xs ys:_) (_:x = .ref a) (_:y = .ref b) (_:bU K H a xs) (_:bU K H b ys) (_:xs.length+ys.length<=sizeLine) (_:∀ q H',aA H H'->bU K H' q (xs++ys)->Q (.ref q) H')
theorem Cy:gI X (binaryOp .Add) (FY X.K):=by
 intro pins s U H x y v u Q I rx ry h
 obtain ⟨a,b,xs,ys,rfl,rfl,ha,hb,hz,qq⟩:=h
 by_cases hx:xs=[]
 .
  cases rx
  cases ry
  obtain ⟨bf,r1,p1,_⟩:=I.tuple ha
  obtain ⟨kM,r2,p2,_⟩:=I.tuple hb
  obtain ⟨⟨cls,dd,data,sl⟩,ho,hc,n,hd⟩:=id p1
  obtain ⟨⟨OV,Ht,data2,MY⟩,GJ,K6,n2,hd2⟩:=id p2
  simp only at hc hd K6 hd2
  subst hc hd K6 hd2
  have e0:bf=[]:=r1.nP.mpr hx
  refine concat_meets ⟨_,ho,rfl⟩ ⟨_,GJ,rfl⟩ afp seq_tuple_add aeE aew (aes _ _)
    (tuple_addW0 a b bf.toArray kM.toArray n n2 dd Ht sl MY (by rw [e0];rfl)) ⟨ho,GJ,⟨.ref b,H,I,rfl,qq b H (aA.refl _) (by rw [hx];exact hb)⟩⟩
 . exact Dm pins s U H _ _ v u Q I rx ry ⟨a,b,xs,ys,rfl,rfl,ha,hb,hx,hz,λ e=>qq a H (aA.refl _) (by rw [e,adO];exact ha),λ _ p hp=>qq p _ (ai hp) (bU.of ag)⟩
theorem vw {K:W.Frag} (hK:X.K=K):gI X (binaryOp .Add) (FY K):=by subst hK;exact Cy
end
abbrev rfs (h d:Addr):List (Str×V):=[("hold",.ref h),("spreads",.ref d)]
def eB (m:al) (i:Nat) (bs:List Nat) (fired:Bool):Option (List Nat) :=
 if gW (m.rows.getD i []) (io m i bs fired) (iF m i bs fired)=true then some (jK (m.rows.getD i []) (io m i bs fired) (iF m i bs fired)) else none
def d5 (L:List Addr) (H:Hp) (v:V):Option (List Nat)->Prop
 | none=>v = .cR
 | some l=>∃ q,v = .ref q/\q∉L/\H q=some (.lst (l.map ar))
def jl (i:Nat) (bs:List Nat) (f:Bool):PyData:=.tuple [.int i,.tuple (bs.map gJ),.int (if f then 1 else 0)]
theorem pL:∀ l:List Nat,tG (l.map gJ)=true
 | []=>rfl
 | _::l=>by rw [adl,tG,pL l];rfl
theorem lZ:∀ l:List Nat,kg (l.map gJ)=l.map gJ
 | []=>rfl
 | _::l=>by rw [adl,kg,lZ l];rfl
theorem mf:∀ l:List Nat,ql (l.map gJ)=0
 | []=>rfl
 | _::l=>by rw [adl,ql,mf l];rfl
theorem t9:∀ {l r:List Nat},l.map gJ=r.map gJ->l=r
 | [],[],_=>rfl
 | [],_::_,h=>by cases h
 | _::_,[],h=>by cases h
 | a::l,b::r,h=>by
   obtain ⟨h1,h2⟩:=aeW h
   have h1:(a:Int)=(b:Int):=afK h1
   rw [t9 h2,aft h1]
theorem Ba {i i':Nat} {bs J0:List Nat} {f f':Bool} (h:jl i bs f=jl i' J0 f'):i=i'/\bs=J0/\f=f':=by
 have h:=PyData.tuple.inj h
 obtain ⟨h1,h⟩:=aeW h
 obtain ⟨h2,h⟩:=aeW h
 obtain ⟨h3,_⟩:=aeW h
 refine ⟨aft (afK h1),t9 (PyData.tuple.inj h2),?_⟩
 cases f<;>cases f'<;>first|rfl|(exact absurd (afK h3) (by decide))
theorem ll {n:Nat}:xE (n+1) (.tuple (l.map gJ)):=by
 intro d hd
 obtain ⟨i,_,rfl⟩:=List.mem_map.mp hd
 cases n<;>exact trivial
section
variable {K:W.Frag} {H H':Hp}
theorem lK {p:Addr} (h:bU K H p (l.map ar)):Dn K H (.tuple (l.map gJ)) (.ref p):=ek h (im l)
theorem xb {p pb:Addr} {i:Nat} {bs:List Nat} {f:Bool} (h:bU K H p [ar i,.ref pb,.bl f]) (hb:bU K H pb (bs.map ar)):gc K H (jl i bs f) p:=by
 refine ⟨.tuple [.int i,.tuple (bs.map gJ),.bool f],ek h (aO rfl (aO (lK hb) (aO rfl eM))),?_,dO (n:=2) ?_ (by decide),?_,?_⟩
 . simp only [kd,tG,pL];rfl
 .
  intro d hd
  simp only [abt,T1,adj] at hd
  rcases hd with rfl|rfl|rfl
  . exact trivial
  . exact ll
  . exact trivial
 . simp only [pY,ql,mf];decide
 . simp only [nX,kg,lZ];rfl
theorem d5.but {L':List Addr} {d:Addr} {o:HO} {r:Option (List Nat)} (hd:H d=some o) (no:∀ xs,o ≠ .lst xs) (b:∀ c u,H c=some u->c≠d->c∉L->H' c=some u) (hL:∀ c∈L',c∈L) (h:d5 L H v r):d5 L' H' v r:=by
 cases r with
 | none=>exact h
 | some l =>
   obtain ⟨q,e,n,hq⟩:=h
   exact ⟨q,e,λ z=>n (hL q z),b q _ hq (λ z=>by rw [z,hd] at hq;exact no _ (aba hq)) n⟩
theorem d5.same {r:Option (List Nat)} (s:aA H H') (h:d5 L H v r):d5 L H' v r:=by
 cases r with
 | none=>exact h
 | some l =>
   obtain ⟨q,e,n,hq⟩:=h
   exact ⟨q,e,n,s _ _ hq⟩
theorem d5.new {D:Addr} {r:Option (List Nat)} (hD:H D=none) (h:d5 L H v r):d5 (D::L) H v r:=by
 cases r with
 | none=>exact h
 | some l =>
   obtain ⟨q,e,n,hq⟩:=h
   exact ⟨q,e,λ z=>(List.mem_cons.mp z).elim (λ z=>by rw [z,hD] at hq;cases hq) n,hq⟩
end
theorem ky {P:Program} {w:World} {a:Addr} {aw:qQ} (xs:List V):pW P w a aw ≠ .lst xs:=λ h=>by cases h
structure fH (P:Program) (w:World) (K:W.Frag) (C CR:Addr) (L:List Addr) (H:Hp) (x d a:Addr) (fp:List Addr) (m:al) (c:Nat):Prop where
 ins:∃ dx,H x=some (.ins CR dx (rfs a d))
 hold:aM K C H a fp m
 nd:d∉fp
 Mv:∃ aw,gK P w K H d aw/\aw.length<=c/\∀ i bs f v,je aw (jl i bs f)=some v->d5 L H v (eB m i bs f)
section
variable {P:Program} {w:World} {K:W.Frag} {C CR:Addr} {L L':List Addr} {H H':Hp} {x d a:Addr} {fp:List Addr} {m:al} {c:Nat}
theorem fH.same (r:fH P w K C CR L H x d a fp m c) (s:aA H H'):fH P w K C CR L H' x d a fp m c:=by
 obtain ⟨⟨dx,hx⟩,hh,nd,aw,hk,hl,hv⟩:=r
 exact ⟨⟨dx,s _ _ hx⟩,hh.same s,nd,aw,hk.same s,hl,λ i bs f v e=>(hv i bs f v e).same s⟩
theorem fH.more (r:fH P w K C CR L H x d a fp m c) {c':Nat} (h:c<=c'):fH P w K C CR L H x d a fp m c':=by
 obtain ⟨i,hh,nd,aw,hk,hl,hv⟩:=r
 exact ⟨i,hh,nd,aw,hk,adf hl h,hv⟩
theorem fH.less (r:fH P w K C CR L H x d a fp m c) (h:∀ b∈L',b∈L):fH P w K C CR L' H x d a fp m c:=by
 obtain ⟨i,hh,nd,aw,hk,hl,hv⟩:=r
 exact ⟨i,hh,nd,aw,hk,hl,λ i bs f v e=>(hv i bs f v e).but hk.ob ky (λ _ _ e _ _=>e) h⟩
theorem fH.new (r:fH P w K C CR L H x d a fp m c) {D:Addr} (h:H D=none):fH P w K C CR (D::L) H x d a fp m c:=by
 obtain ⟨i,hh,nd,aw,hk,hl,hv⟩:=r
 exact ⟨i,hh,nd,aw,hk,hl,λ i bs f v e=>(hv i bs f v e).new h⟩
theorem fH.write (r:fH P w K C CR L H x d a fp m c) {D:Addr} (h:H D=some (.lst xs)) (hD:D∈L) (nf:D∉fp):fH P w K C CR L (upd H D (.lst ys)) x d a fp m c:=by
 obtain ⟨⟨dx,hx⟩,hh,nd,aw,hk,hl,hv⟩:=r
 have ts:bg K H (upd H D (.lst ys)):=bZ h rfl
 have bu:∀ b o,H b=some o->b≠D->(upd H D (.lst ys)) b=some o:=λ b o e n=>by rw [av n];exact e
 have nx:x≠D:=λ z=>by rw [z,h] at hx;cases hx
 have nD:d≠D:=λ z=>by have:=hk.ob;rw [z,h] at this;cases this
 exact ⟨⟨dx,bu _ _ hx nx⟩,hh.GO bu ts nf,nd,aw,hk.iz ts (av nD),hl,λ i bs f v e=>(hv i bs f v e).but hk.ob ky (λ b o e _ n=>bu b o e λ z=>n (z ▸ hD)) λ _ h=>h⟩
theorem fH.put (r:fH P w K C CR L H x d a fp m c) {aw:qQ} {i:Nat} {bs:List Nat} {f:Bool} {b:Addr} (hk:gK P w K H d aw) (hl:aw.length<=c) (hv:∀ i bs f v,je aw (jl i bs f)=some v->d5 L H v (eB m i bs f)) (hb:gc K H (jl i bs f) b) (hs:d5 L H v (eB m i bs f)) :
   fH P w K C CR L (upd H d (pW P w d (iP aw (jl i bs f) b v))) x d a fp m (c+1)/\lT [d] H (upd H d (pW P w d (iP aw (jl i bs f) b v)))/\bg K H (upd H d (pW P w d (iP aw (jl i bs f) b v)))/\d5 L (upd H d (pW P w d (iP aw (jl i bs f) b v))) v (eB m i bs f):=by
 obtain ⟨⟨dx,hx⟩,hh,nd,_⟩:=r
 have bu:∀ b' o,H b'=some o->b'≠d->(upd H d (pW P w d (iP aw (jl i bs f) b v))) b'=some o:=λ c o e n=>by rw [av n];exact e
 have ts:bg K H (upd H d (pW P w d (iP aw (jl i bs f) b v))):=bZ hk.ob rfl
 have nx:x≠d:=λ z=>by rw [z,hk.ob] at hx;cases hx
 refine ⟨⟨⟨dx,by rw [av nx];exact hx⟩,hh.GO bu ts nd,nd,_,hk.put hb,adf (oK ..) (Nat.succ_le_succ hl),λ i' J0 f' v' e=>?_⟩,λ c o e n=>bu c o e λ z=>n (List.mem_singleton.mpr z),ts,hs.but hk.ob ky (λ c o e n _=>bu c o e n) λ _ h=>h⟩
 rw [kO] at e
 by_cases q:jl i' J0 f'=jl i bs f
 .
  rw [abS q] at e
  obtain ⟨rfl,rfl,rfl⟩:=Ba q
  cases e
  exact hs.but hk.ob ky (λ c o e n _=>bu c o e n) λ _ h=>h
 . rw [abZ q] at e
   exact (hv i' J0 f' v' e).but hk.ob ky (λ c o e n _=>bu c o e n) λ _ h=>h
end
def bM (rows:List (List Nat)):List (List Nat):=rows.foldl (λ cs row=>cs.flatMap λ c=>row.map λ b=>c++[b]) [[]]
theorem iY (rows:List (List Nat)) (r:List Nat):bM (rows++[r])=(bM rows).flatMap λ c=>r.map λ b=>c++[b]:=by
 unfold bM
 rw [adw]
 rfl
theorem jF {α β:Type} {k:Nat} {f:α->List β}:∀ {l:List α},(∀ a,(f a).length<=k)->(l.flatMap f).length<=l.length * k
 | [],_=>by simp
 | a::l,h=>by
   rw [List.flatMap_cons,aaD,acX,Nat.succ_mul]
   have:=jF (l:=l) h
   have:=h a
   lia
theorem gR {rows:List (List Nat)} (h:∀ r∈rows,r.length<=6):∀ i,(bM (rows.take i)).length<=6 ^ i
 | 0=>by rw [List.take_zero];decide
 | i+1=>by
   by_cases hi:i<rows.length
   . rw [List.take_succ_eq_append_getElem hi,iY]
     refine adf (jF (k:=6) λ a=>by rw [xq];exact h _ (aaY hi)) ?_
     rw [aeH]
     exact Nat.mul_le_mul_right 6 (gR h i)
   . have e:rows.take (i+1)=rows.take i:=by rw [adT (by lia),adT (by lia)]
     rw [e,aeH]
     have:=gR h i
     lia
theorem snoc_ind {α:Type} {p:List α->Prop} (h0:p []) (h1:∀ l a,p l->p (l++[a])) (l:List α):p l:=by
 rw [← List.reverse_reverse l]
 induction l.reverse with
 | nil=>exact h0
 | cons a r ih=>rw [List.reverse_cons];exact h1 _ _ ih
theorem fU {rows:List (List Nat)}:∀ {c:List Nat},c∈bM rows↔c.length=rows.length/\∀ i,i<rows.length->c.getD i 0∈rows.getD i []:=by
 refine snoc_ind (p:=λ rows=>∀ {c:List Nat},c∈bM rows↔c.length=rows.length/\∀ i,i<rows.length->c.getD i 0∈rows.getD i []) ?_ ?_ rows
 .
  intro c
  constructor
  . intro h
    have:c=[]:=by simpa [bM] using h
    rw [this]
    exact ⟨rfl,λ i h=>absurd h (aeI _)⟩
  . rintro ⟨h,_⟩
    rw [List.length_eq_zero_iff.mp h]
    simp [bM]
 .
  intro rows r ih c
  rw [iY,List.mem_flatMap]
  constructor
  .
   rintro ⟨a,ha,h⟩
   obtain ⟨b,hb,rfl⟩:=List.mem_map.mp h
   obtain ⟨l,hi⟩:=ih.mp ha
   refine ⟨by rw [aaD,aaD,l];rfl,λ i h=>?_⟩
   rw [aaD,adp] at h
   by_cases e:i<rows.length
   . rw [Ia,Ia,acZ (l₁:=a) (by lia),acZ e]
     have:=hi i e
     rw [Ia,Ia] at this
     exact this
   . have e:i=rows.length:=by lia
     subst e
     rw [Ia,Ia,← l,aej,l,aej]
     exact hb
  .
   rintro ⟨l,hi⟩
   rw [aaD,adp] at l hi
   have ne:c≠[]:=λ z=>by rw [z] at l;simp at l
   refine ⟨c.dropLast,ih.mpr ⟨by rw [List.length_dropLast,l];rfl,λ i h=>?_⟩,List.mem_map.mpr ⟨c.getLast ne,?_,List.dropLast_concat_getLast ne⟩⟩
   . have:=hi i (by lia)
     rw [Ia,Ia,acZ h] at this
     rw [Ia,Ia,List.getElem?_dropLast,abS (by lia)]
     exact this
   .
    have:=hi rows.length (by lia)
    rw [Ia,Ia,aej] at this
    rw [List.getLast_eq_getElem]
    rw [ac8 (by lia)] at this
    have e:c.length - 1=rows.length:=by lia
    simp only [e]
    exact this
inductive A7 (a b c d e f g:Prop):Prop|mk (_:a) (_:b) (_:c) (_:d) (_:e) (_:f) (_:g)
def nH (m:al) (s:dY) (b i:Nat):Option (List Nat):=eB m i s.fc (b.testBit i)
def jG (m:al) (s:dY) (b:Nat):Bool:=(List.range m.rows.length).all λ i=>(nH m s b i).isSome
def db (m:al) (s:dY) (b:Nat):List (List Nat):=(List.range m.rows.length).map λ i=>(nH m s b i).getD []
def g9 (m:al) (s:dY) (o out:Nat):List dY:=(bM (db m s (Ord.off o out))).map λ c=>s.behind m c o out
def c3 (m:al) (s:dY) (o:Nat):List Nat:=Bit.parts (Bit.rooms (s.may m o))
def oH (m:al) (s:dY) (o:Nat):List dY:=(c3 m s o).flatMap (g9 m s o)
def Refs {α:Type} (R:Addr->α->Prop) (xs:List V) (l:List α):Prop:=Paired (λ v a=>∃ p,v = .ref p/\R p a) xs l
theorem Refs.imp {α:Type} {R S:Addr->α->Prop} {l:List α} (h:Refs R xs l) (f:∀ p a,R p a->S p a):Refs S xs l:=Paired.AW h λ _ _ ⟨p,e,r⟩=>⟨p,e,f p _ r⟩
theorem Refs.nil {α:Type} {R:Addr->α->Prop}:Refs R [] ([]:List α):=Paired.nil
theorem Refs.snoc {α:Type} {R:Addr->α->Prop} {l:List α} {p:Addr} {a:α} (h:Refs R xs l) (r:R p a):Refs R (xs++[.ref p]) (l++[a]):=ae4 h ⟨p,rfl,r⟩
theorem Refs.append {α:Type} {R:Addr->α->Prop}:∀ {xs ys:List V} {l r:List α},Refs R xs l->Refs R ys r->Refs R (xs++ys) (l++r)
 | _,_,_,_,Paired.nil,h=>h
 | _,_,_,_,Paired.cons a t,h=>Paired.cons a (Refs.append t h)
theorem Refs.length {α:Type} {R:Addr->α->Prop} {l:List α} (h:Refs R xs l):xs.length=l.length:=aeo h
theorem Refs.get {α:Type} {R:Addr->α->Prop}:∀ {xs:List V} {l:List α} {i:Nat} {v:V},Refs R xs l->xs[i]?=some v->∃ p a,v = .ref p/\l[i]?=some a/\R p a
 | _,_,_,_,Paired.nil,h=>by simp at h
 | _,_,0,_,Paired.cons ⟨p,e,r⟩ _,h=>by simp at h;exact ⟨p,_,by rw [← h,e],rfl,r⟩
 | _,_,i+1,_,Paired.cons _ t,h=>by
   obtain ⟨p,a,h1,h2,h3⟩:=Refs.get (i:=i) t (by simpa using h)
   exact ⟨p,a,h1,by simpa using h2,h3⟩
abbrev Dz (K:W.Frag) (H:Hp):List V->List (List Nat)->Prop:=Refs λ t c=>bU K H t (c.map ar)
abbrev qL (K:W.Frag) (H:Hp):List V->List dY->Prop:=Refs (gn K H)
def E8 (m:al) (s:dY):Prop:=∀ i b,i<m.rows.length->(b=true->m.has i=true)->dR 1000 (io m i s.fc b)/\dR 1000 (iF m i s.fc b)
section
variable (P:Program) (w:World) (K:W.Frag) (C CR:Addr)
inductive y9  (vs:List V) (H:Hp) (Q:VK) (_E:XK):Prop
 | mk (a fp m:_) (i:Nat) (r v1 v2 f g:_) (_:vs=[.ref a,ar i,v1,v2]) (_:aM K C H a fp m) (_:m.rows[i]?=some r) (_:Dn K H (dE f) v1) (_:Dn K H (dE g) v2) (_:dR 1000 f) (_:dR 1000 g) (_:∀ p H',H p=none->aA H H'->H' p=some (.lst ((jK r f g).map ar))->Q (.ref p) H')
inductive xa  (vs:List V) (H:Hp) (Q:VK) (_E:XK):Prop
 | mk (p xs rows:_) (_:vs=[.ref p]) (_:aV K H p xs) (_:Refs (λ q (r:List Nat)=>aV K H q (r.map ar)) xs rows) (_:rows.length<=4) (_:(∀ r∈rows,r.length<=6)) (_:∀ q ys H',aA H H'->H' q=some (.lst ys)->Dz K H' ys (bM rows)->Q (.ref q) H')
inductive yI  (vs:List V) (H:Hp) (Q:VK) (_E:XK):Prop
 | mk (x dx a fp m:_) (_:vs=[.ref x,.ref a]) (_:H x=some (.ins CR dx [])) (_:aM K C H a fp m) (_:x∉fp) (_:∀ d H',lT [x] H H'->bg K H H'->H d=none->fH P w K C CR [] H' x d a fp m 0->Q .cR H')
inductive yC  (vs:List V) (H:Hp) (Q:VK) (_E:XK):Prop
 | mk (x d a fp m c:_) (i:Nat) (pb bs f L:_) (_:vs=[.ref x,ar i,.ref pb,.bl f]) (_:fH P w K C CR L H x d a fp m c) (_:(∀ b∈L,H b≠none)) (_:c<=1000000) (_:i<m.rows.length) (_:bU K H pb (bs.map ar)) (_:bs.length=m.rows.length) (_:(∀ j,j<m.rows.length->bs.getD j 0+1<(m.rows.getD j []).length)) (_:(f=true->∃ z,m.ax[i]?=some (some z))) (_:dR 1000 (io m i bs f)) (_:dR 1000 (iF m i bs f)) (_:∀ v H',lT [d] H H'->bg K H H'->fH P w K C CR L H' x d a fp m (c+1)->d5 L H' v (eB m i bs f)->Q v H')
inductive zu  (vs:List V) (H:Hp) (Q:VK) (_E:XK):Prop
 | mk (x d a fp m c p s:_) (o:Nat) (_:vs=[.ref x,.ref p,ar o]) (_:fH P w K C CR [] H x d a fp m c) (_:c<=900000) (_:gn K H p s) (_:gE m s) (_:o &&& m.ws=o) (_:(∀ out∈c3 m s o,ck m s o out)) (_:E8 m s) (_:((∃ out∈c3 m s o,jG m s (Ord.off o out)=false)->∀ H',lT [d] H H'->bg K H H'->fH P w K C CR [] H' x d a fp m (c+64)->Q .cR H')) (_:((∀ out∈c3 m s o,jG m s (Ord.off o out)=true)->∀ q xs H',lT [d] H H'->bg K H H'->fH P w K C CR [] H' x d a fp m (c+64)->H' q=some (.lst xs)->qL K H' xs (oH m s o)->Q (.ref q) H'))
inductive uQ  (vs:List V) (H:Hp) (Q:VK) (_E:XK):Prop
 | mk (a fp m p s:_) (o:Nat) (_:vs=[.ref a,.ref p,ar o]) (_:aM K C H a fp m) (_:gn K H p s) (_:gE m s) (_:o &&& m.ws=o) (_:(∀ out∈c3 m s o,ck m s o out)) (_:E8 m s) (_:((∃ out∈c3 m s o,jG m s (Ord.off o out)=false)->∀ H',aA H H'->Q .cR H')) (_:((∀ out∈c3 m s o,jG m s (Ord.off o out)=true)->∀ q xs H',aA H H'->H' q=some (.lst xs)->qL K H' xs (oH m s o)->Q (.ref q) H'))
end
theorem xG:∀ {acc:List V} {rs:List (Option (List Nat))},Paired (d5 L H) acc rs->∀ v∈acc,v = .cR∨∃ a ys,v = .ref a/\H a=some (.lst ys)
 | _,_,Paired.nil,v,h=>absurd h T1
 | _,r::_,Paired.cons a t,v,h=>by
   rcases List.mem_cons.mp h with e|h
   . subst e
     cases r with
     | none=>exact .inl a
     | some l=>obtain ⟨q,e,_,hq⟩:=a;exact .inr ⟨q,_,e,hq⟩
   . exact xG t v h
theorem pF:∀ {acc:List V} {rs:List (Option (List Nat))},Paired (d5 L H) acc rs->(V.cR∈acc↔none∈rs)
 | _,_,Paired.nil=>by simp
 | _,r::_,Paired.cons a t=>by
   rw [abt,abt,pF t]
   cases r with
   | none=>have a:_=V.cR:=a;rw [a];simp
   | some l=>obtain ⟨q,e,_⟩:=a;rw [e];simp
theorem uE:∀ {acc:List V} {rs:List (Option (List Nat))},Paired (d5 L H) acc rs->none∉rs->Refs (λ q (r:List Nat)=>H q=some (.lst (r.map ar))) acc (rs.map λ r=>r.getD [])
 | _,_,Paired.nil,_=>Paired.nil
 | _,r::_,Paired.cons a t,h=>by
   rw [abt,aeb] at h
   cases r with
   | none=>exact absurd rfl h.1
   | some l=>obtain ⟨q,e,_,hq⟩:=a;exact Paired.cons ⟨q,e,hq⟩ (uE t h.2)
theorem rf {m:al} {s:dY} {b:Nat}:none∈(List.range m.rows.length).map (nH m s b)↔jG m s b=false:=by
 unfold jG
 rw [List.all_eq_false,List.mem_map]
 constructor
 . rintro ⟨i,hi,e⟩;exact ⟨i,hi,by rw [e];decide⟩
 . rintro ⟨i,hi,e⟩;exact ⟨i,hi,by simpa using e⟩
theorem Cv (m:al) (s:dY) (b:Nat):((List.range m.rows.length).map (nH m s b)).map (λ r=>r.getD [])=db m s b:=by
 unfold db
 rw [ae1]
 rfl
theorem uD {m:al} (wf:m.Wf) {s:dY} {b:Nat}:∀ r∈db m s b,r.length<=6:=λ r hr=>by
 obtain ⟨i,hi,rfl⟩:=List.mem_map.mp hr
 have hi:=List.mem_range.mp hi
 have hl:=wf.len _ (aaY hi)
 unfold nH eB
 rw [Ia,au hi]
 split
 .
  have:=mO m.rows[i] (io m i s.fc (b.testBit i)) (iF m i s.fc (b.testBit i)) (m.rows[i].length - 1)
  show (jK m.rows[i] _ _).length<=6
  unfold jK
  lia
 . exact adm _
theorem iZ {m:al} (wf:m.Wf) (h4:m.rows.length<=4) {s:dY} {o:Nat} (out:Nat):(g9 m s o out).length<=1296:=by
 unfold g9
 rw [xq]
 have lr:(db m s (Ord.off o out)).length=m.rows.length:=by unfold db;rw [xq,acD]
 have:=gR (uD wf (s:=s) (b:=Ord.off o out)) 4
 rw [adT (by lia)] at this
 exact this
theorem ui {n:Nat} (h:n<16):(Bit.rooms n).length<=8/\(Bit.parts (Bit.rooms n)).length<=16:=by
 have:∀ b:Fin 16,(Bit.rooms b.val).length<=8/\(Bit.parts (Bit.rooms b.val)).length<=16:=by decide +kernel
 exact this ⟨n,h⟩
structure cZ (n:Nat) (tm cD:ap):Prop where
 marks:cD.marks=tm.marks
 ax:cD.ax=tm.ax
 aY:cD.aY=tm.aY
 scale:cD.scale=tm.scale
 bounds:cD.bounds=tm.bounds
 gP:∀ i,i<n->cD.gP i=tm.gP i
 lo:∀ i,i<n->(tm.jQ i).2.1<=(cD.jQ i).2.1
 hi:∀ i,i<n->(cD.jQ i).2.2<=(tm.jQ i).2.2
section
variable {n:Nat} {tm cD:ap}
theorem cZ.hold (M:cZ n tm cD) (ok:tm.Ok n n) (fX:cD.Ok n n):cD.m2 n n={ tm.m2 n n with aY:=(cD.m2 n n).aY,aX:=(cD.m2 n n).aX }:=by
 obtain ⟨a1,a2,a3,a4⟩:=cN tm n n
 obtain ⟨b1,b2,b3,b4⟩:=cN cD n n
 obtain ⟨_,_,c1,_,c2,_⟩:=fN ok n (aaT n)
 obtain ⟨_,_,d1,_,d2,_⟩:=fN fX n (aaT n)
 have er:(cD.m2 n n).rows=(tm.m2 n n).rows:=by rw [a1,b1,M.marks];unfold ap.row;rw [M.scale]
 have es:(cD.m2 n n).ax=(tm.m2 n n).ax:=by
   refine List.ext_getElem? λ i=>?_
   by_cases h:i<n
   . rw [c1 i h,d1 i h,M.ax];unfold ap.gl;rw [M.scale]
   . rw [aeL (by lia),aeL (by lia)]
 have e1:(cD.m2 n n).most=(tm.m2 n n).most:=by rw [a2,b2,M.bounds]
 have e2:(cD.m2 n n).gH=(tm.m2 n n).gH:=by rw [a3,b3,M.bounds]
 have e3:(cD.m2 n n).load=(tm.m2 n n).load:=by rw [a4,b4,M.bounds]
 generalize cD.m2 n n=m' at er es e1 e2 e3
 generalize tm.m2 n n=m at er es e1 e2 e3
 cases m'
 cases m
 cases er
 cases es
 cases e1
 cases e2
 cases e3
 rfl
theorem cZ.X (M:cZ n tm cD) {i:Nat} (hi:i<n) (x:Nat->Int) (xw:Int):cD.X n i x xw=tm.X n i x xw:=by
 have ef:cD.fg i=tm.fg i:=by funext j;unfold ap.fg;rw [M.aY]
 unfold ap.X ap.kT
 rw [M.gP i hi,ef]
theorem cZ.s (M:cZ n tm cD) (ok:tm.Ok n n) (n4:n<=4) {i:Nat} (hi:i<n) (bs:List Nat) (f:Bool):tm.s0 n i bs f<=cD.s0 n i bs f/\cD.s1 n i bs f<=tm.s1 n i bs f:=by
 have ex:∀ d,cD.xl bs d=tm.xl bs d:=λ d=>by funext j;unfold ap.xl ap.qZ;rw [M.marks]
 have eh:cD.sW i=tm.sW i:=by unfold ap.sW;rw [M.ax]
 unfold ap.s0 ap.s1 ap.sX
 rw [M.X hi,M.X hi,ex,ex,eh]
 have h1:=o7 (x:=tm.xl bs 0) (y:=tm.xl bs 0) ok n4 hi (λ _ _=>adK _) (M.lo i hi)
 have h2:=o7 (x:=tm.xl bs 1) (y:=tm.xl bs 1) ok n4 hi (λ _ _=>adK _) (M.hi i hi)
 constructor<;>lia
end
section
variable {n i:Nat} {tm:ap}
theorem mI {A:Int} (ok:tm.Ok n n) (hi:i<n):gW ((tm.m2 n n).rows.getD i []) (aP A 12 tm.scale) (aP B 12 tm.scale)=true↔12 * tm.qZ i 0<=A/\B<=12 * tm.qZ i ((tm.marks.getD i []).length - 1):=by
 have vF:i<tm.marks.length:=by rw [ok.lm];exact hi
 have l2:=(ok.rows _ (aaY vF)).two
 rw [o8 ok hi]
 unfold gW ap.qZ
 have eg:tm.marks.getD i []=tm.marks[i]:=by rw [Ia,au vF];rfl
 rw [eg]
 generalize tm.marks[i]=l at l2
 have el:(tm.row l).length=l.length:=by unfold ap.row;rw [xq]
 rw [el,lS (by lia),lS (by lia),hJ ok.scale (by decide) (by decide),hJ ok.scale (by decide) (by decide)]
 simp only [ac0,aeu,afq]
 lia
theorem qy {f:Nat->Int} {A:Int} (h0:f 0<=B) (hAB:A<=B):∀ k,A<=f (k+1)->∃ z,z<=k/\f z<=B/\A<=f (z+1)
 | 0,h=>⟨0,aaT _,h0,h⟩
 | k+1,h=>by
   by_cases e:A<=f (k+1)
   . obtain ⟨z,h1,h2⟩:=qy h0 hAB k e
     exact ⟨z,by lia,h2⟩
   . exact ⟨k+1,aaT _,by lia,h⟩
end
section
variable {n:Nat} {tm cD:ap} {s:dY}
theorem tY (ok:tm.Ok n n) (n4:n<=4) (so:gE (tm.m2 n n) s):vK tm n s.fc:=by
 have hl:(tm.m2 n n).rows.length=n:=by rw [(cN tm n n).1,xq,acB,ok.lm];lia
 refine ⟨by rw [so.lb,hl],λ j hj=>?_⟩
 have:=so.band j (by lia)
 rw [o8 ok hj] at this
 unfold ap.row at this
 rw [xq] at this
 unfold gN at this
 rw [Ia]
 exact this
theorem cZ.row (M:cZ n tm cD) (wf:(tm.m2 n n).Wf) (Ib:(cD.m2 n n).Wf) (ok:tm.Ok n n) (fX:cD.Ok n n) (n4:n<=4) (so:gE (tm.m2 n n) s) (BZ:gE (cD.m2 n n) s) {b i:Nat} (hi:i<n) (hz:b.testBit i=true->(tm.m2 n n).has i=true) (Mi:b.testBit i=true->(cD.m2 n n).has i=true) (h:nH (tm.m2 n n) s b i=some l):∃ l',nH (cD.m2 n n) s b i=some l'/\l'≠[]/\∀ z∈l',z∈l:=by
 obtain ⟨e1,e2⟩:=kD wf ok n4 hi (tY ok n4 so) hz
 obtain ⟨e1',Iw⟩:=kD Ib fX n4 hi (tY fX n4 BZ) Mi
 obtain ⟨m1,m2⟩:=M.s ok n4 hi s.fc (b.testBit i)
 obtain ⟨_,_,le'⟩:=Lx (f:=b.testBit i) fX n4 hi (tY fX n4 BZ)
 unfold nH eB at h ⊢
 rw [e1,e2] at h
 rw [e1',Iw]
 split at h
 .
  rename_i w
  cases h
  rw [mI ok hi] at w
  have em:∀ k,cD.qZ i k=tm.qZ i k:=λ k=>by unfold ap.qZ;rw [M.marks]
  have w':=(mI (A:=cD.s0 n i s.fc (b.testBit i)) (B:=cD.s1 n i s.fc (b.testBit i)) fX hi).mpr (by rw [em,em,M.marks];lia)
  rw [abS w']
  refine ⟨_,rfl,λ e=>?_,λ z hz=>?_⟩
  .
   have vF:i<tm.marks.length:=by rw [ok.lm];exact hi
   have l2:=(ok.rows _ (aaY vF)).two
   have eg:tm.marks.getD i []=tm.marks[i]:=by rw [Ia,au vF];rfl
   rw [eg] at w
   obtain ⟨z,z1,z2,z3⟩:=qy (f:=λ k=>12 * tm.qZ i k) (A:=cD.s0 n i s.fc (b.testBit i)) (B:=cD.s1 n i s.fc (b.testBit i)) (by show 12 * tm.qZ i 0<=_;lia) le' (tm.marks[i].length - 2) (by
     show _<=12 * tm.qZ i (tm.marks[i].length - 2+1)
     rw [show tm.marks[i].length - 2+1=tm.marks[i].length - 1 by lia]
     lia)
   have:=(kH (z:=(z:Int)) fX hi).mpr ⟨by lia,by rw [M.marks,eg];lia,by rw [em];exact z2,by rw [em];exact z3⟩
   rw [e] at this
   simp at this
  .
   have:=(kH (z:=(z:Int)) fX hi).mp (List.mem_map.mpr ⟨z,hz,rfl⟩)
   obtain ⟨t1,t2,t3,t4⟩:=this
   rw [M.marks] at t2
   rw [em] at t3 t4
   have:=(kH (z:=(z:Int)) (A:=tm.s0 n i s.fc (b.testBit i)) (B:=tm.s1 n i s.fc (b.testBit i)) ok hi).mpr ⟨t1,t2,by lia,by lia⟩
   obtain ⟨z',Mi,e⟩:=List.mem_map.mp this
   rw [show z=z' from aft e.symm]
   exact Mi
 . cases h
end
section
variable {n:Nat} {tm cD:ap} {s:dY} {o:Nat}
theorem cZ.st (M:cZ n tm cD) (ok:tm.Ok n n) (fX:cD.Ok n n) (so:gE (tm.m2 n n) s):gE (cD.m2 n n) s:=by
 obtain ⟨a,b,c,d,e,f,g,h⟩:=so
 rw [M.hold ok fX]
 exact ⟨a,b,c,d,e,f,g,h⟩
theorem cZ.orders (M:cZ n tm cD) (ok:tm.Ok n n) (fX:cD.Ok n n):s.orders (cD.m2 n n)=s.orders (tm.m2 n n):=by rw [M.hold ok fX];rfl
theorem cZ.outs (M:cZ n tm cD) (ok:tm.Ok n n) (fX:cD.Ok n n):c3 (cD.m2 n n) s o=c3 (tm.m2 n n) s o:=by rw [M.hold ok fX];rfl
theorem cZ.has (M:cZ n tm cD) (ok:tm.Ok n n) (fX:cD.Ok n n):(cD.m2 n n).has=(tm.m2 n n).has:=by rw [M.hold ok fX];rfl
theorem cZ.ws (M:cZ n tm cD) (ok:tm.Ok n n) (fX:cD.Ok n n):(cD.m2 n n).ws=(tm.m2 n n).ws:=by rw [M.hold ok fX];rfl
theorem cZ.rl (M:cZ n tm cD) (ok:tm.Ok n n) (fX:cD.Ok n n):(cD.m2 n n).rows.length=(tm.m2 n n).rows.length:=by rw [M.hold ok fX]
theorem cZ.behind (M:cZ n tm cD) (ok:tm.Ok n n) (fX:cD.Ok n n) (c:List Nat) (out:Nat):s.behind (cD.m2 n n) c o out=s.behind (tm.m2 n n) c o out:=by rw [M.hold ok fX];rfl
theorem mr {n:Nat} (h:n<16):Bit.parts (Bit.rooms n)≠[]/\∀ out∈Bit.parts (Bit.rooms n),out<16/\out &&& n=out:=by
 have:∀ b:Fin 16,Bit.parts (Bit.rooms b.val)≠[]/\∀ out∈Bit.parts (Bit.rooms b.val),out<16/\out &&& b.val=out:=by decide +kernel
 exact this ⟨n,h⟩
theorem cZ.res (M:cZ n tm cD) (wf:(tm.m2 n n).Wf) (Ib:(cD.m2 n n).Wf) (ok:tm.Ok n n) (fX:cD.Ok n n) (n4:n<=4) (so:gE (tm.m2 n n) s) (tn:∀ out∈c3 (tm.m2 n n) s o,ck (tm.m2 n n) s o out) (hs:∀ out∈c3 (tm.m2 n n) s o,jG (tm.m2 n n) s (Ord.off o out)=true) :
   (∀ out∈c3 (cD.m2 n n) s o,jG (cD.m2 n n) s (Ord.off o out)=true)/\oH (cD.m2 n n) s o≠[]/\∀ x∈oH (cD.m2 n n) s o,x∈oH (tm.m2 n n) s o:=by
 have BZ:=M.st ok fX so
 have hl:(tm.m2 n n).rows.length=n:=by rw [(cN tm n n).1,xq,acB,ok.lm];lia
 have hl':(cD.m2 n n).rows.length=n:=by rw [M.rl ok fX,hl]
 have key:∀ out∈c3 (tm.m2 n n) s o,∀ i,i<n->∃ l l',nH (tm.m2 n n) s (Ord.off o out) i=some l/\nH (cD.m2 n n) s (Ord.off o out) i=some l'/\l'≠[]/\∀ z∈l',z∈l:=by
   intro out ho i hi
   have bits:(Ord.off o out).testBit i=true->(tm.m2 n n).has i=true:=λ h=>((tn out ho).MH ((tn out ho).IK h).1).2
   have h1:=List.all_eq_true.mp (hs out ho) i (List.mem_range.mpr (by lia))
   obtain ⟨l,e⟩:=Option.isSome_iff_exists.mp h1
   obtain ⟨l',e',h2,h3⟩:=M.row wf Ib ok fX n4 so BZ hi bits (by rw [M.has ok fX];exact bits) e
   exact ⟨l,l',e,e',h2,h3⟩
 refine ⟨λ out ho=>?_,λ e=>?_,λ x hx=>?_⟩
 .
  rw [M.outs ok fX] at ho
  refine List.all_eq_true.mpr λ i hi=>?_
  obtain ⟨l,l',_,e',_⟩:=key out ho i (by have:=List.mem_range.mp hi;lia)
  rw [e'];rfl
 .
  unfold oH at e
  rw [M.outs ok fX,List.flatMap_eq_nil_iff] at e
  obtain ⟨out,ho⟩:=List.exists_mem_of_ne_nil _ (mr (sv (s:=s) (m:=tm.m2 n n) (o:=o) (by lia))).1
  have e:=e out ho
  unfold g9 at e
  have e:=List.map_eq_nil_iff.mp e
  have:(db (cD.m2 n n) s (Ord.off o out)).map (λ r=>r.headD 0)∈bM (db (cD.m2 n n) s (Ord.off o out)):=by
    refine fU.mpr ⟨xq _,λ i hi=>?_⟩
    have hi':i<n:=by unfold db at hi;rw [xq,acD] at hi;lia
    obtain ⟨l,l',_,e',h2,_⟩:=key out ho i hi'
    have eg:(db (cD.m2 n n) s (Ord.off o out))[i]?=some l':=by
      unfold db
      rw [Jl,aei (by lia),adV,e'];rfl
    rw [Ia,Ia,Jl,eg]
    cases l' with
    | nil=>exact absurd rfl h2
    | cons a r=>exact acY
  rw [e] at this
  exact absurd this T1
 .
  unfold oH at hx ⊢
  rw [M.outs ok fX] at hx
  obtain ⟨out,ho,hx⟩:=List.mem_flatMap.mp hx
  refine List.mem_flatMap.mpr ⟨out,ho,?_⟩
  unfold g9 at hx ⊢
  obtain ⟨c,hc,rfl⟩:=List.mem_map.mp hx
  refine List.mem_map.mpr ⟨c,fU.mpr ?_,(M.behind ok fX c out).symm⟩
  obtain ⟨lc,hc⟩:=fU.mp hc
  have l1:(db (cD.m2 n n) s (Ord.off o out)).length=n:=by unfold db;rw [xq,acD,hl']
  have l2:(db (tm.m2 n n) s (Ord.off o out)).length=n:=by unfold db;rw [xq,acD,hl]
  refine ⟨by lia,λ i hi=>?_⟩
  obtain ⟨l,l',e,e',h2,h3⟩:=key out ho i (by lia)
  have hc:=hc i (by lia)
  have eg:(db (cD.m2 n n) s (Ord.off o out)).getD i []=l':=by
    unfold db
    rw [Ia,Jl,aei (by lia),adV,e'];rfl
  have eg2:(db (tm.m2 n n) s (Ord.off o out)).getD i []=l:=by
    unfold db
    rw [Ia,Jl,aei (by lia),adV,e];rfl
  rw [eg] at hc
  rw [eg2]
  exact h3 _ hc
end
theorem qj {X:Cx}:gS X (.type "dict") (λ xs H Q=>∃ p aw,xs=[.ref p]/\Rd H p (.dK aw)/\∀ l,H l=none->Q (.ref l) (upd H l (.dK aw))):=by
 intro pins s U H xs us Q I r h
 obtain ⟨p,aw,rfl,hq,q⟩:=h
 obtain ⟨u,rfl,rx⟩:=vals1 r
 cases rx
 exact Ao I hq λ l s' hl I'=>⟨.ref l,_,I',rfl,q l hl⟩
def ap.lE (tm:ap) (r:Nat) (z:Int×Int×Int):ap:={ tm with ce:=tm.ce.set r z }
theorem sN {r:Nat} {z:Int×Int×Int} (hr:r<tm.ce.length) (i:Nat):(tm.lE r z).ce[i]?=if i=r then some z else tm.ce[i]?:=by
 show (tm.ce.set r z)[i]?=_
 by_cases e:i=r
 . subst e;rw [abS rfl,adt hr]
 . rw [abZ e,ads (λ q=>e q.symm)]
theorem vG {n r:Nat} {z:Int×Int×Int} (ok:tm.Ok n n) (hz:(0<=z.1/\z.1<=3)/\(-30<=z.2.1/\z.2.2<=60)/\z.2.1<=z.2.2/\z.2.2<=z.2.1+30):(tm.lE r z).Ok n n:=by
 refine ⟨ok.lm,by show (tm.ce.set r z).length=n;rw [adz];exact ok.ls,ok.lt,ok.rows,λ y hy=>?_,ok.ax,ok.aY,ok.scale,ok.bounds⟩
 rcases aeq hy with h|h
 . exact ok.ce y h
 . rw [h];exact hz
theorem rX {n r:Nat} {z:Int×Int×Int} (ok:tm.Ok n n) (hr:r<tm.ce.length) (h1:z.1=tm.ce[r].1) (h2:tm.ce[r].2.1<=z.2.1) (h3:z.2.2<=tm.ce[r].2.2):cZ n tm (tm.lE r z):=by
 refine ⟨rfl,rfl,rfl,rfl,rfl,λ i hi=>?_,λ i hi=>?_,λ i hi=>?_⟩
 .
  unfold ap.gP
  rw [sN hr]
  by_cases e:i=r
  . subst e;rw [abS rfl,au hr];exact h1
  . rw [abZ e]
 .
  unfold ap.jQ
  rw [sN hr]
  by_cases e:i=r
  . subst e;rw [abS rfl,au hr];exact h2
  . rw [abZ e];exact adK _
 .
  unfold ap.jQ
  rw [sN hr]
  by_cases e:i=r
  . subst e;rw [abS rfl,au hr];exact h3
  . rw [abZ e];exact adK _
section
variable {K:W.Frag} {H H':Hp} {p pm ps pt pf dg pb:Addr} {vm vs vt:List V} {aw:List (List Key×V)} {m:ap}
theorem TC.G6 (c:TC K H p pm ps pt pf dg pb vm vs vt aw m) (s:aA H H') {p' gy:Addr} {r:Nat} {z:Int×Int×Int} {x:V} (np:H p'=none) (zI:H gy=none) (hp:H' p'=some (.dK (dQ pm gy pt pf dg pb))) (eL:H' gy=some (.lst (vs.set r x))) (hx:Dn K (dL H' [p',pm,gy,pt,pf]) (tM z) x):TC K H' p' pm gy pt pf dg pb vm (vs.set r x) vt aw (m.lE r z):=by
 have S:aA (dL H [p,pm,ps,pt,pf]) (dL H' [p',pm,gy,pt,pf]):=λ b o h=>by
   unfold dL at h ⊢
   by_cases q:b∈[p,pm,ps,pt,pf]
   . rw [abS q] at h;cases h
   . rw [abZ q] at h
     rw [abZ]
     . exact s b o h
     . simp only [abt,T1,adj,aeb] at q ⊢
       exact ⟨aq h np,q.2.1,aq h zI,q.2.2.2.1,q.2.2.2.2⟩
 refine ⟨hp,s _ _ c.eK,eL,s _ _ c.eQ,s _ _ c.gG,aq c.eK zI,c.n2,(aq c.eQ zI).symm,bI.same S _ c.dm,?_,bI.same S _ c.dt,c.df,c.fk,S.tup c.sc,S.tup c.bo⟩
 show bI K _ ((m.ce.set r z).map tM) _
 rw [aeK]
 exact (bI.same S _ c.ds).set hx
end
inductive zi (K:W.Frag) (vs:List V) (H:Hp) (Q:VK) (_E:XK):Prop
 | mk (p tm:_) (n:Nat) (c:Int) (_:vs=[.ref p,.int c]) (_:jg K H p tm) (_:tm.Ok n n) (_:1<=n) (_:n<=4) (_:∀ p' cD H',aA H H'->jg K H' p' cD->cD.Ok n n->cZ n tm cD->Q (.ref p') H')
theorem qJ {K:W.Frag} {p:Addr} {s:dY} (h:gn K H p s):gc K H (wk s) p:=by
 obtain ⟨pb,pw,pf,h0,h1,h2,h3⟩:=h
 refine ⟨wk s,ek h0 (aO (lK h1) (aO rfl (aO (lK h2) (aO (lK h3) (aO rfl eM))))),?_,dO (n:=2) ?_ (by decide),?_,?_⟩
 . simp only [wk,kd,tG,pL];rfl
 .
  intro d hd
  simp only [abt,T1,adj] at hd
  rcases hd with rfl|rfl|rfl|rfl|rfl
  . exact ll
  . exact trivial
  . exact ll
  . exact ll
  . exact trivial
 . simp only [wk,pY,ql,mf,gJ];decide
 . simp only [wk,nX,kg,lZ];rfl
inductive xr (K:W.Frag) (C:Addr) (vs:List V) (H:Hp) (Q:VK) (_E:XK):Prop
 | mk (a a' fp m7 tm cD:_) (n:Nat) (q st:_) (c:Int) (k:Nat) (_:vs=[.ref a,.ref a',.ref q,.int c,ar k]) (_:aM K C H a fp (tm.m2 n n)) (_:aM K C H a' m7 (cD.m2 n n)) (_:tm.Ok n n) (_:cD.Ok n n) (_:cZ n tm cD) (_:n<=4) (_:gn K H q st) (_:gE (tm.m2 n n) st) (_:k<=900) (_:∀ H',aA H H'->Q (.bl true) H')
theorem Bt {K:W.Frag}:∀ {ys:List V} {l:List dY},qL K H ys l->bI K H (l.map wk) ys
 | _,_,Paired.nil=>eM
 | _,_,Paired.cons ⟨p,e,h⟩ t=>by subst e;exact aO h.dn (Bt t)
theorem E7 {K:W.Frag} {p q:Addr} {l:List dY} {Q:VK} (hx:aV K H p ys) (hl:qL K H ys l) (hy:aV K H q []) (k:Q (.bl (decide (l=[]))) H):HR K (.ref p) (.ref q) H Q:=by
 refine ⟨.list (l.map wk),.list [],sE hx (Bt hl),sE hy eM,dO (n:=3) (λ d hd=>?_) (by decide),dO (n:=1) (show ∀ d∈([]:List PyData),xE 0 d from nofun) (by decide),?_⟩
 . obtain ⟨s,_,rfl⟩:=List.mem_map.mp hd
   exact Je s
 . have:PyData.eqv (.list (l.map wk)) (.list [])=decide (l=[]):=by cases l<;>simp [PyData.eqv,PyData.eqvAll]
   rw [this];exact k
theorem Dt {m:al} (wf:m.Wf) (h4:m.rows.length<=4) (s:dY) (o:Nat):(oH m s o).length<=16 * 1296:=by
 unfold oH
 have:=jF (l:=c3 m s o) (k:=1296) (iZ wf h4 (s:=s) (o:=o))
 have h2:(c3 m s o).length<=16:=(ui (sv (s:=s) (o:=o) h4)).2
 lia
end L2
namespace K24
open PySem PySem.Spec PyProof.Rows L2 Mth
seal PE PS qA J1 PA PG Iu PT Ft PI
def top (i:Nat):Stmt:=PySem.Challenge.pw_stoke_k24_milder_weather.main.body.getD i (.Pass ⟨0,0,0,0⟩)
abbrev i4:Stmt:=top 1
theorem uo:az ["bits","room"] ["bits","room"] (ao i4):=⟨rfl,rfl,rfl,by decide +kernel,rfl,by decide +kernel,by decide +kernel⟩
abbrev gU:Stmt:=top 2
theorem rV:az ["bits","room"] ["bits","room"] (ao gU):=⟨rfl,rfl,rfl,by decide +kernel,rfl,by decide +kernel,by decide +kernel⟩
abbrev iJ:Stmt:=top 3
theorem tO:az ["bits"] ["bits"] (ao iJ):=⟨rfl,rfl,rfl,by decide +kernel,rfl,by decide +kernel,by decide +kernel⟩
abbrev jZ:Stmt:=top 4
theorem vV:az ["bits"] ["bits"] (ao jZ):=⟨rfl,rfl,rfl,by decide +kernel,rfl,by decide +kernel,by decide +kernel⟩
abbrev j6:Stmt:=top 5
theorem iK:az ["bits","parts","room"] ["bits"] (ao j6):=⟨rfl,rfl,rfl,by decide +kernel,rfl,by decide +kernel,by decide +kernel⟩
abbrev j5:Stmt:=top 6
theorem i5:az ["rooms","bits","room"] ["rooms"] (ao j5):=⟨rfl,rfl,rfl,by decide +kernel,rfl,by decide +kernel,by decide +kernel⟩
abbrev ya:Stmt:=inClass (top 17) 0
abbrev vY:Stmt:=inClass (top 18) 0
abbrev j2:Stmt:=top 22
theorem fM:az ["one","other","greater","lesser","rest"] ["one","other"] (ao j2):=⟨rfl,rfl,rfl,by decide +kernel,rfl,by decide +kernel,by decide +kernel⟩
abbrev iV:Stmt:=top 23
theorem jI:az ["top","bottom","common"] ["top","bottom"] (ao iV):=⟨rfl,rfl,rfl,by decide +kernel,rfl,by decide +kernel,by decide +kernel⟩
abbrev tE:Stmt:=top 24
theorem EO:az ["one","other"] ["one","other"] (ao tE):=⟨rfl,rfl,rfl,by decide +kernel,rfl,by decide +kernel,by decide +kernel⟩
abbrev og:Stmt:=top 25
theorem Am:az ["one","other"] ["one","other"] (ao og):=⟨rfl,rfl,rfl,by decide +kernel,rfl,by decide +kernel,by decide +kernel⟩
abbrev oh:Stmt:=top 26
theorem By:az ["one","other"] ["one","other"] (ao oh):=⟨rfl,rfl,rfl,by decide +kernel,rfl,by decide +kernel,by decide +kernel⟩
abbrev dD:Stmt:=top 28
theorem bw:az ["pairs","top","bottom","one","other","below"] ["pairs"] (ao dD):=⟨rfl,rfl,rfl,by decide +kernel,rfl,by decide +kernel,by decide +kernel⟩
abbrev gY:Stmt:=top 29
theorem lC:az ["hold","room","airs","weather","fired","pairs"] ["hold","room","airs","weather","fired"] (ao gY):=⟨rfl,rfl,rfl,by decide +kernel,rfl,by decide +kernel,by decide +kernel⟩
abbrev j3:Stmt:=top 30
theorem gu:az ["hold","room","bands","fired","low","high","lows","highs"] ["hold","room","bands","fired"] (ao j3):=⟨rfl,rfl,rfl,by decide +kernel,rfl,by decide +kernel,by decide +kernel⟩
abbrev j1:Stmt:=top 31
theorem oF:az ["hold","room","least","greatest","marks"] ["hold","room","least","greatest"] (ao j1):=⟨rfl,rfl,rfl,by decide +kernel,rfl,by decide +kernel,by decide +kernel⟩
abbrev lM:Stmt:=top 32
theorem qW:az ["hold","room","least","greatest","marks"] ["hold","room","least","greatest"] (ao lM):=⟨rfl,rfl,rfl,by decide +kernel,rfl,by decide +kernel,by decide +kernel⟩
abbrev i8:Stmt:=top 34
theorem dS:az ["hold","state","bands","burning","waits","failed","heap","many"] ["hold","state"] (ao i8):=⟨rfl,rfl,rfl,by decide +kernel,rfl,by decide +kernel,by decide +kernel⟩
abbrev hR:Stmt:=top 35
theorem eI:az ["hold","state","room","bands","burning","waits","failed","heap"] ["hold","state","room"] (ao hR):=⟨rfl,rfl,rfl,by decide +kernel,rfl,by decide +kernel,by decide +kernel⟩
abbrev gk:Stmt:=top 36
theorem ij:az ["stove","fired","wait","failed","stay","fails"] ["stove","fired","wait","failed"] (ao gk):=⟨rfl,rfl,rfl,by decide +kernel,rfl,by decide +kernel,by decide +kernel⟩
abbrev eW:Stmt:=top 37
theorem mB:az ["hold","state"] ["hold","state"] (ao eW):=⟨rfl,rfl,rfl,by decide +kernel,rfl,by decide +kernel,by decide +kernel⟩
abbrev gj:Stmt:=top 38
theorem qb:az ["hold"] ["hold"] (ao gj):=⟨rfl,rfl,rfl,by decide +kernel,rfl,by decide +kernel,by decide +kernel⟩
abbrev kc:Stmt:=top 39
theorem w9:az ["hold","bits"] ["hold","bits"] (ao kc):=⟨rfl,rfl,rfl,by decide +kernel,rfl,by decide +kernel,by decide +kernel⟩
abbrev h9:Stmt:=top 40
theorem rG:az ["state"] ["state"] (ao h9):=⟨rfl,rfl,rfl,by decide +kernel,rfl,by decide +kernel,by decide +kernel⟩
abbrev iT:Stmt:=top 41
theorem ua:az ["hold","order","heap"] ["hold","order","heap"] (ao iT):=⟨rfl,rfl,rfl,by decide +kernel,rfl,by decide +kernel,by decide +kernel⟩
abbrev hZ:Stmt:=top 42
theorem i9:az ["hold","state","held","going_on"] ["hold","state"] (ao hZ):=⟨rfl,rfl,rfl,by decide +kernel,rfl,by decide +kernel,by decide +kernel⟩
abbrev j0:Stmt:=top 43
theorem pE:az ["hold","state","order","lit"] ["hold","state","order"] (ao j0):=⟨rfl,rfl,rfl,by decide +kernel,rfl,by decide +kernel,by decide +kernel⟩
abbrev eV:Stmt:=top 44
theorem cW:az ["hold","state","order","out","burning","waits","failed","heap"] ["hold","state","order","out"] (ao eV):=⟨rfl,rfl,rfl,by decide +kernel,rfl,by decide +kernel,by decide +kernel⟩
abbrev fR:Stmt:=top 45
theorem oZ:az ["hold","state","burning","room"] ["hold","state","burning","room"] (ao fR):=⟨rfl,rfl,rfl,by decide +kernel,rfl,by decide +kernel,by decide +kernel⟩
abbrev eY:Stmt:=top 46
theorem lU:az ["state","burning","out","room"] ["state","burning","out","room"] (ao eY):=⟨rfl,rfl,rfl,by decide +kernel,rfl,by decide +kernel,by decide +kernel⟩
abbrev iN:Stmt:=top 48
theorem vB:az ["hold","state","order"] ["hold","state","order"] (ao iN):=⟨rfl,rfl,rfl,by decide +kernel,rfl,by decide +kernel,by decide +kernel⟩
abbrev fO:Stmt:=top 49
theorem cX:az ["rows","choices","row","longer","choice"] ["rows"] (ao fO):=⟨rfl,rfl,rfl,by decide +kernel,rfl,by decide +kernel,by decide +kernel⟩
abbrev eE:Stmt:=inClass (top 50) 0
theorem lG:az ["self","hold"] ["self","hold"] (ao eE):=⟨rfl,rfl,rfl,by decide +kernel,rfl,by decide +kernel,by decide +kernel⟩
abbrev cC:Stmt:=inClass (top 50) 1
theorem bB:az ["self","state","order","states","out","burning","rows","stoves"] ["self","state","order"] (ao cC):=⟨rfl,rfl,rfl,by decide +kernel,rfl,by decide +kernel,by decide +kernel⟩
abbrev fq:Stmt:=inClass (top 50) 2
theorem de:az ["self","room","bands","fired","key","least","greatest","safe"] ["self","room","bands","fired"] (ao fq):=⟨rfl,rfl,rfl,by decide +kernel,rfl,by decide +kernel,by decide +kernel⟩
abbrev eT:Stmt:=top 62
theorem lW:az ["thing","greatest"] ["thing","greatest"] (ao eT):=⟨rfl,rfl,rfl,by decide +kernel,rfl,by decide +kernel,by decide +kernel⟩
abbrev hU:Stmt:=top 63
theorem sY:az ["marks"] ["marks"] (ao hU):=⟨rfl,rfl,rfl,by decide +kernel,rfl,by decide +kernel,by decide +kernel⟩
abbrev eD:Stmt:=top 64
theorem dC:az ["rows","product","marks"] ["rows"] (ao eD):=⟨rfl,rfl,rfl,by decide +kernel,rfl,by decide +kernel,by decide +kernel⟩
abbrev b7:Stmt:=inClass (top 65) 0
theorem ml:az ["self","most","cap","load"] ["self","most","cap","load"] (ao b7):=⟨rfl,rfl,rfl,by decide +kernel,rfl,by decide +kernel,by decide +kernel⟩
abbrev eS:Stmt:=inClass (top 65) 1
theorem ix:az ["self","marks","rows"] ["self","marks"] (ao eS):=⟨rfl,rfl,rfl,by decide +kernel,rfl,by decide +kernel,by decide +kernel⟩
abbrev eU:Stmt:=inClass (top 65) 2
theorem mj:az ["self","into","of","share"] ["self","into","of","share"] (ao eU):=⟨rfl,rfl,rfl,by decide +kernel,rfl,by decide +kernel,by decide +kernel⟩
abbrev fx:Stmt:=inClass (top 65) 3
theorem nr:az ["self","room","share","low","high"] ["self","room","share","low","high"] (ao fx):=⟨rfl,rfl,rfl,by decide +kernel,rfl,by decide +kernel,by decide +kernel⟩
abbrev bT:Stmt:=inClass (top 65) 4
theorem ly:az ["self","room","heat","wood","stay","fails"] ["self","room","heat","wood","stay","fails"] (ao bT):=⟨rfl,rfl,rfl,by decide +kernel,rfl,by decide +kernel,by decide +kernel⟩
abbrev gX:Stmt:=inClass (top 65) 5
theorem rF:az ["self"] ["self"] (ao gX):=⟨rfl,rfl,rfl,by decide +kernel,rfl,by decide +kernel,by decide +kernel⟩
abbrev ge:Stmt:=inClass (top 65) 6
theorem p9:az ["self","room"] ["self","room"] (ao ge):=⟨rfl,rfl,rfl,by decide +kernel,rfl,by decide +kernel,by decide +kernel⟩
abbrev gq:Stmt:=inClass (top 65) 7
theorem p8:az ["self","into","of"] ["self","into","of"] (ao gq):=⟨rfl,rfl,rfl,by decide +kernel,rfl,by decide +kernel,by decide +kernel⟩
abbrev iQ:Stmt:=inClass (top 65) 8
theorem vg:az ["self","room"] ["self","room"] (ao iQ):=⟨rfl,rfl,rfl,by decide +kernel,rfl,by decide +kernel,by decide +kernel⟩
abbrev gf:Stmt:=inClass (top 65) 9
theorem pV:az ["self","room"] ["self","room"] (ao gf):=⟨rfl,rfl,rfl,by decide +kernel,rfl,by decide +kernel,by decide +kernel⟩
abbrev eC:Stmt:=inClass (top 65) 10
theorem dH:az ["self","room","rest","other"] ["self","room"] (ao eC):=⟨rfl,rfl,rfl,by decide +kernel,rfl,by decide +kernel,by decide +kernel⟩
abbrev eR:Stmt:=inClass (top 65) 11
theorem lY:az ["self","room"] ["self","room"] (ao eR):=⟨rfl,rfl,rfl,by decide +kernel,rfl,by decide +kernel,by decide +kernel⟩
abbrev cI:Stmt:=inClass (top 65) 12
theorem fJ:az ["self","room","share","former","free"] ["self","room","share","former"] (ao cI):=⟨rfl,rfl,rfl,by decide +kernel,rfl,by decide +kernel,by decide +kernel⟩
abbrev fQ:Stmt:=top 67
theorem oY:az ["_law_script","_law_k"] ["_law_script","_law_k"] (ao fQ):=⟨rfl,rfl,rfl,by decide +kernel,rfl,by decide +kernel,by decide +kernel⟩
abbrev jf:Stmt:=top 68
theorem vd:az ["_law_cell","_law_k","_law_many"] ["_law_cell","_law_k","_law_many"] (ao jf):=⟨rfl,rfl,rfl,by decide +kernel,rfl,by decide +kernel,by decide +kernel⟩
abbrev ic:Stmt:=top 69
theorem eF:az ["_law_top","_law_bottom","_law_one","_law_other","_law_rest"] ["_law_top","_law_bottom"] (ao ic):=⟨rfl,rfl,rfl,by decide +kernel,rfl,by decide +kernel,by decide +kernel⟩
abbrev gZ:Stmt:=top 70
theorem jc:az ["_law_cell","_law_far","_law_some"] ["_law_cell"] (ao gZ):=⟨rfl,rfl,rfl,by decide +kernel,rfl,by decide +kernel,by decide +kernel⟩
abbrev jd:Stmt:=top 71
theorem jt:az ["_law_num","_law_parts","_law_scale_here","_law_whole"] ["_law_num","_law_parts","_law_scale_here"] (ao jd):=⟨rfl,rfl,rfl,by decide +kernel,rfl,by decide +kernel,by decide +kernel⟩
abbrev fC:Stmt:=top 72
theorem f7:az ["_law_a","_law_b","_law_c","_law_room","_law_wood","_law_stay"] ["_law_a","_law_b","_law_c","_law_room"] (ao fC):=⟨rfl,rfl,rfl,by decide +kernel,rfl,by decide +kernel,by decide +kernel⟩
abbrev hE:Stmt:=top 73
theorem bN:az ["_law_script","_law_a","_law_b","_law_c","_law_many","_law_told","_law_room","_law_marks","_law_j","_law_low","_law_of"] ["_law_script"] (ao hE):=⟨rfl,rfl,rfl,by decide +kernel,rfl,by decide +kernel,by decide +kernel⟩
abbrev hG:Stmt:=top 74
theorem cg:az ["_law_told","_law_bounds","_law_scale_here","_law_hold","_law_marks","_law_room","_law_sky","_law_stove","_law_of"] ["_law_told"] (ao hG):=⟨rfl,rfl,rfl,by decide +kernel,rfl,by decide +kernel,by decide +kernel⟩
abbrev fB:Stmt:=top 75
theorem aQ:az ["_law_told","_law_cell","_law_k","_law_bands","_law_waits","_law_failed","_law_burning","_law_lit","_law_room","_law_stove","_law_wait","_law_fails"] ["_law_told","_law_cell","_law_k"] (ao fB):=⟨rfl,rfl,rfl,by decide +kernel,rfl,by decide +kernel,by decide +kernel⟩
abbrev iO:Stmt:=top 76
theorem mR:az ["_law_told","_law_cell","_law_marks"] ["_law_told","_law_cell"] (ao iO):=⟨rfl,rfl,rfl,by decide +kernel,rfl,by decide +kernel,by decide +kernel⟩
abbrev gh:Stmt:=top 77
theorem cm:az ["_law_told","_law_cell","_law_room","_law_share","_law_low","_law_high","_law_least","_law_most","_law_other"] ["_law_told","_law_cell"] (ao gh):=⟨rfl,rfl,rfl,by decide +kernel,rfl,by decide +kernel,by decide +kernel⟩
abbrev ib:Stmt:=top 78
theorem c9:az ["_law_hold","_law_other","_law_state","_law_cell","_law_k","_law_some","_law_order","_law_wide","_law_small","_law_kept","_law_one"] ["_law_hold","_law_other","_law_state","_law_cell","_law_k"] (ao ib):=⟨rfl,rfl,rfl,by decide +kernel,rfl,by decide +kernel,by decide +kernel⟩
abbrev uG:Stmt:=top 79
theorem kB:az ["_law_script","_law_told","_law_hold","_law_other","_law_k","_law_two","_law_state"] ["_law_script"] (ao uG):=⟨rfl,rfl,rfl,by decide +kernel,rfl,by decide +kernel,by decide +kernel⟩
structure Ads where
 aW:Addr
 Reach:Addr
 iX:Addr
 qz:Addr
 f8:Addr
 fL:Addr
structure Txt (K:W.Frag) (mg:Str->Option Value) (A:Ads):Prop where
 HQ:mg "Hold" = some (.ref A.aW)
 Cp:mg "Reach" = some (.ref A.Reach)
 gD:mg "NOUGHT" = some (.ref A.iX)
 xR:mg "WHOLE" = some (.ref A.qz)
 qk:∃ t,mg "LEAST_MARKS" = some (.int 2 t)
 sQ:∃ t,mg "MOST_BANDS" = some (.int 400 t)
 oW:∃ t,mg "MOST_BURNING" = some (.int 4 t)
 xh:∃ t,mg "MOST_CAP" = some (.int 30 t)
 tp:∃ t,mg "MOST_FAILS" = some (.int 3 t)
 va:∃ t,mg "MOST_LOAD" = some (.int 30 t)
 rD:∃ t,mg "MOST_MARKS" = some (.int 7 t)
 sI:∃ t,mg "MOST_ROOMS" = some (.int 4 t)
 ut:∃ t,mg "MOST_STAY" = some (.int 3 t)
 uI:∃ t,mg "MOST_WOOD" = some (.int 9 t)
 jq:xc K A.iX [.int 0,.int 1]
 xW:xc K A.qz [.int 1,.int 1]
 aC:wZ K A.aW
 CS:ER K A.aW
 iR:e9 K A.aW "most"
 jv:e9 K A.aW "cap"
 kQ:e9 K A.aW "load"
 cO:e9 K A.aW "mark_rows"
 fS:e9 K A.aW "flows"
 dk:e9 K A.aW "skies"
 fy:e9 K A.aW "stoves"
 ny:gO K A.aW "__init__" "Hold.__init__" b7 (.ref A.f8)
 nh:GW K A.f8 [.int 4,.int 0,.int 0]
 nk:gO K A.aW "put_room" "Hold.put_room" eS .none
 nc:gO K A.aW "put_flow" "Hold.put_flow" eU .none
 px:gO K A.aW "put_sky" "Hold.put_sky" fx .none
 lX:gO K A.aW "put_stove" "Hold.put_stove" bT (.ref A.fL)
 mm:GW K A.fL [.int 0,.int 0,.int 0]
 uu:gO K A.aW "many" "Hold.many" gX .none
 rT:gO K A.aW "marks" "Hold.marks" ge .none
 sJ:gO K A.aW "share" "Hold.share" gq .none
 xj:gO K A.aW "sky" "Hold.sky" iQ .none
 sF:gO K A.aW "stove" "Hold.stove" gf .none
 mo:gO K A.aW "own_share" "Hold.own_share" eC .none
 nj:gO K A.aW "look_for" "Hold.look_for" eR .none
 jU:gO K A.aW "look_at_share" "Hold.look_at_share" cI .none
 cM:wZ K A.Reach
 AG:ER K A.Reach
 cP:e9 K A.Reach "hold"
 cV:e9 K A.Reach "spreads"
 mz:gO K A.Reach "__init__" "Reach.__init__" eE .none
 jn:gO K A.Reach "states_behind" "Reach.states_behind" cC .none
 pB:gO K A.Reach "spread" "Reach.spread" fq .none
 wQ:fY K mg "has_room" i4
 uq:fY K mg "with_room" gU
 vT:fY K mg "how_many" iJ
 zd:fY K mg "members" jZ
 yX:fY K mg "subsets" j6
 yN:fY K mg "bits_of" j5
 zn:fY K mg "divisor" j2
 vQ:fY K mg "fraction" iV
 Gd:fY K mg "plus" tE
 ET:fY K mg "minus" og
 C9:fY K mg "under" oh
 lJ:fY K mg "sum_of_products" dD
 uF:fY K mg "warmth_of" gY
 yJ:fY K mg "span_of" j3
 yD:fY K mg "touched" j1
 A9:fY K mg "within" lM
 vH:fY K mg "is_state" i8
 tU:fY K mg "fits_room" hR
 si:fY K mg "fits_stove" gk
 nA:fY K mg "look_at_state" eW
 sB:fY K mg "with_stove" gj
 zo:fY K mg "wood_of" kc
 vA:fY K mg "must_stay" h9
 wb:fY K mg "can_burn" iT
 tL:fY K mg "orders_of" hZ
 yS:fY K mg "failing" j0
 nG:fY K mg "stoves_behind" eV
 qe:fY K mg "wait_behind" fR
 nB:fY K mg "failed_behind" eY
 wG:fY K mg "outcomes" iN
 pT:fY K mg "each_choice" fO
 nu:fY K mg "is_whole_upto" eT
 uP:fY K mg "is_rising" hU
 mC:fY K mg "bands_together" eD
 pZ:fY K mg "_law_cell_at" fQ
 wT:fY K mg "_law_pick" jf
 vp:fY K mg "_law_ratio" ic
 ub:fY K mg "_law_scale" gZ
 wI:fY K mg "_law_warm" jd
 oO:fY K mg "_law_stove_by" fC
 uV:fY K mg "_law_drawn" hE
 tR:fY K mg "_law_built" hG
 oQ:fY K mg "_law_state_by" fB
 vU:fY K mg "_law_mild" iO
 sT:fY K mg "_law_milder" gh
 tS:fY K mg "_law_right" ib
 Lu:fY K mg "law" uG
 Bv:mg "abs" = none
 Fp:mg "all" = none
 Ha:mg "bool" = none
 He:mg "dict" = none
 hV:mg "enumerate" = none
 Jv:mg "int" = none
 kS:mg "isinstance" = none
 fW:mg "len" = none
 Bc:mg "list" = none
 K3:mg "max" = none
 Jq:mg "min" = none
 cT:mg "range" = none
 KU:mg "sum" = none
 j7:mg "tuple" = none
 Jr:mg "zip" = none
abbrev kq_ (K:W.Frag) (a:Addr):Prop:=W.keepIn K (.ref a)=true
abbrev kc_ (K:W.Frag) (a:Value) (x:Str):Prop:=W.codeIn K a x=true
abbrev kf_ (K:W.Frag) (a:Addr) (b:Value) (c:Option Addr) (x y:Str) (s:Stmt) (d e f:Value) (g:Option Addr) (h i:Value) (n:Array (Option Value)):Prop:=K.lookup a=some ⟨b,c,.func (W.fnOf x y (cA s) (bF s) (ao s) .none d e f g h i),n⟩
abbrev kn_ (K:W.Frag) (x:Str) (a:Addr):Prop:=W.nsIn K mainGlobals x=some (some (.ref a))
abbrev kg_ (K:W.Frag) (a:Addr) (x:Str) (b:Addr):Prop:=W.findIn K (.ref a) x=some (some (.ref b))
theorem txt_mk {K:W.Frag} {h:Heap} {mg:Str->Option Value} (X:K.In h) (G:h.Ns mainGlobals mg)
 {z0 z1 z2 z3 LV RH Jp L7 IJ JB NM Lz Ar zS BR Bg BL AZ BU A2 BF Bs C8 EF DU Fg EQ D9 EW DM Dd Dj Cs Eu CZ CD Ds CH EE DX EM CI Ew CY EZ Dy DF EB EA D0 Ev Do Fh Cr Dr CM DQ DR Ef Ey Em Cm DI CL D6 DL El En EI:Addr}
 {z4 z5 z6 z7 z8 z9 z10 z11 z12 z13 z17 z18 z22 z23 z35 z36 z37 z83 z84 z85:Tok}
 {z14 z19 z25 z26 z39 z43 z44 z53 z54 z63 z64 z73 z74 z87 z91 z92 aaz aaV P7 QD Xm Wy RW NL Ww Y4 O3 Py Ui abq Tv aas UX Zq abW Zk aat TJ Wc Xn UD acR Ob acs Ry X8 RI Qy Pk Sj PP Nu Qz N9 V7 RU aci VM acb OP UL W4 Yx W6 Nx OH UV aco ZR SA Z2 V6 abz XB Zs P6 ZL abi QG X7 Xj ZM Vn Wz OA QT aaW V0 Rj aaL PK Q7 abR Pf WU aaI T0 Vu To Pu abp WE XT O5 QF Q0 aaH VX XS Zv acP XD Vg Um N1 QO V3 Oy Zi aa0 QI Pe Nz R1 NW Xk abx acz NI YY:Option Addr}
 {z15 z20 z40 z88:Nat}
 {MM z21 z27 z41 z45 z55 z65 z75 z89 z93 Vo aa3 Oz VB abI ZO Nw Qo Uy aa8 N3 Q9 Ul Ve YA WG Ny Zp Vp ZT XV Y8 aam SD X6 Yz Yn OX acG Wl U9 ab6 NS abl Ra abb abT abg TQ acA UI Oc XW ZA Pa aaQ PN Sr Uu Tj YM OS acO WM W0 acj ZE:Array (Option Value)}
 {z28 z29 z30 z31 z32 z33 z38 z46 z47 z48 z49 z50 z51 z56 z57 z58 z59 z60 z61 z66 z67 z68 z69 z70 z71 z76 z77 z78 z79 z80 z81 z86 z94 z95 z96 z97 z98 z99 aaE Rb T2 abN Ky U3 Wm Xe Nr UO Ly QC acv Xa Wj SV K5 abm aaS O6 SY QW JO Uz UU abo Yy VG KL WK PH Rq YN N8 J8 ZW XX Pg Zm O7 Lj Re QH Th Wu PJ L6 PF Vv Vh aad WA L3 YV Tq Od abH U2 Ko WV Nq T6 Sw WH Kt Y2 Q2 Ur Yi Va L8 aan U8 VO VU aaJ Mc YT TV YI UB Q4 Kv Wg O8 O2 YR Wb K2 O4 aa9 Zz T3 Qu Jz Si NF QU aah SJ L0 Yk ab5 ZY Rv Zj Jn Sq NO Zh US Pt Kh Z1 SC Yt acJ acu JC Om Yl RM abM V5 IP Pl WR Ou Q6 Uk KP acl TH NE ZN RQ LX Wk V8 Rf Yu Vd Kx Oj Sk QR OF aal Kb Xl W8 Xf VL Z3 IU Qa XH W7 UN Xr IA acg W2 aa1 VZ XM Ka acw X1 acH NV QA KF Q3 WY Z5 RV UK IG Qh ZB Ze QX abk Lv OY W1 Yo WO Yf Jm Qb Ud VE ab1 SR IF SS acQ acr Wp No KA Pm YG NN Qx Qt LB PQ XN ZZ W5 VI LI Qq PD XC RR TN Lm Te VP Ws Uc R6 LG Vj OB Xi P5 Ta II Q5 abh Wt VR Uf IN Oa aaM Tb aai Rp JK Ol abA Xu ace abE JJ Tt Xw U4 abF SX L9 SI WB aaj SW Yj Lf Ua QP ZK U0 Rz JH Xz abQ Pb RJ Us Ja YD Z9 ZG abu acd LD Q1 Sx WI NU acm Lh Ya O9 T9 Xs Vf J7 PX aa6 Po Uh Nn K1 Sv Rw PM SH TM KG TK aaZ Rr WS acS JU QJ YE acy YH Sc Lo abj Z0 Zg Yb W9 LK abw Su TF TY Tn Ld abG N5 YU acp QB J4 Yw Xy ZU XA SQ LZ Oe:Value}
 (T7:kn_ K "Hold" z0)
 (R0:kn_ K "Reach" z1)
 (X2:kn_ K "NOUGHT" z2)
 (XQ:kn_ K "WHOLE" z3)
 (Wo:W.nsIn K mainGlobals "LEAST_MARKS" = some (some (.int 2 z4)))
 (Ut:W.nsIn K mainGlobals "MOST_BANDS" = some (some (.int 400 z5)))
 (ZS:W.nsIn K mainGlobals "MOST_BURNING" = some (some (.int 4 z6)))
 (ab0:W.nsIn K mainGlobals "MOST_CAP" = some (some (.int 30 z7)))
 (Sz:W.nsIn K mainGlobals "MOST_FAILS" = some (some (.int 3 z8)))
 (RN:W.nsIn K mainGlobals "MOST_LOAD" = some (some (.int 30 z9)))
 (aab:W.nsIn K mainGlobals "MOST_MARKS" = some (some (.int 7 z10)))
 (NB:W.nsIn K mainGlobals "MOST_ROOMS" = some (some (.int 4 z11)))
 (Ow:W.nsIn K mainGlobals "MOST_STAY" = some (some (.int 3 z12)))
 (abV:W.nsIn K mainGlobals "MOST_WOOD" = some (some (.int 9 z13)))
 (UQ:K.lookup z2=some ⟨.type "tuple",z14,.seq #[.int 0 z17,.int 1 z18] z15,MM⟩)
 (OU:K.lookup z3=some ⟨.type "tuple",z19,.seq #[.int 1 z22,.int 1 z23] z20,z21⟩)
 (OJ:W.plainGet K z0 Str.empty=true)
 (RB:W.hasDictIn K z0=true)
 (aaG:W.plainOver K z0=true)
 (aby:W.findIn K (.ref z0) "__setattr__" = some (some (.builtin "object.__setattr__")))
 (Zo:W.makesIn K z0=true)
 (N7:kq_ K z0)
 (Tf:W.findIn K (.ref z0) "most" = some none)
 (X3:W.findIn K (.ref z0) "cap" = some none)
 (ZD:W.findIn K (.ref z0) "load" = some none)
 (Qe:W.findIn K (.ref z0) "mark_rows" = some none)
 (Sb:W.findIn K (.ref z0) "flows" = some none)
 (Os:W.findIn K (.ref z0) "skies" = some none)
 (Rc:W.findIn K (.ref z0) "stoves" = some none)
 (acq:kg_ K z0 "__init__" LV)
 (aaF:W.isFn K (.ref LV)=true)
 (acC:K.lookup LV=some ⟨z28,z25,.func (W.fnOf "__init__" "Hold.__init__" (cA b7) (bF b7) (ao b7) (.ref RH) z29 z30 z31 z26 z32 z33),z27⟩)
 (R8:kc_ K z32 "Hold.__init__")
 (KB:kq_ K LV)
 (SO:K.lookup RH=some ⟨z38,z39,.seq #[.int 4 z35,.int 0 z36,.int 0 z37] z40,z41⟩)
 (Qk:kg_ K z0 "put_room" Jp)
 (YS:W.isFn K (.ref Jp)=true)
 (WL:kf_ K Jp z46 z43 "put_room" "Hold.put_room" eS z47 z48 z49 z44 z50 z51 z45)
 (Nm:kc_ K z50 "Hold.put_room")
 (KD:kq_ K Jp)
 (acK:kg_ K z0 "put_flow" L7)
 (abD:W.isFn K (.ref L7)=true)
 (ab9:kf_ K L7 z56 z53 "put_flow" "Hold.put_flow" eU z57 z58 z59 z54 z60 z61 z55)
 (UJ:kc_ K z60 "Hold.put_flow")
 (J3:kq_ K L7)
 (aav:kg_ K z0 "put_sky" IJ)
 (U1:W.isFn K (.ref IJ)=true)
 (Oo:kf_ K IJ z66 z63 "put_sky" "Hold.put_sky" fx z67 z68 z69 z64 z70 z71 z65)
 (QS:kc_ K z70 "Hold.put_sky")
 (Lw:kq_ K IJ)
 (abP:kg_ K z0 "put_stove" JB)
 (OZ:W.isFn K (.ref JB)=true)
 (TL:K.lookup JB=some ⟨z76,z73,.func (W.fnOf "put_stove" "Hold.put_stove" (cA bT) (bF bT) (ao bT) (.ref NM) z77 z78 z79 z74 z80 z81),z75⟩)
 (aag:kc_ K z80 "Hold.put_stove")
 (LW:kq_ K JB)
 (XF:K.lookup NM=some ⟨z86,z87,.seq #[.int 0 z83,.int 0 z84,.int 0 z85] z88,z89⟩)
 (W3:kg_ K z0 "many" Lz)
 (RO:W.isFn K (.ref Lz)=true)
 (Pd:kf_ K Lz z94 z91 "many" "Hold.many" gX z95 z96 z97 z92 z98 z99 z93)
 (We:kc_ K z98 "Hold.many")
 (IW:kq_ K Lz)
 (R7:kg_ K z0 "marks" Ar)
 (Tg:W.isFn K (.ref Ar)=true)
 (Wi:kf_ K Ar aaE aaz "marks" "Hold.marks" ge Rb T2 abN aaV Ky U3 Vo)
 (N6:kc_ K Ky "Hold.marks")
 (IL:kq_ K Ar)
 (NR:kg_ K z0 "share" zS)
 (Vw:W.isFn K (.ref zS)=true)
 (OG:kf_ K zS Wm P7 "share" "Hold.share" gq Xe Nr UO QD Ly QC aa3)
 (Tu:kc_ K Ly "Hold.share")
 (JT:kq_ K zS)
 (UA:kg_ K z0 "sky" BR)
 (RT:W.isFn K (.ref BR)=true)
 (abe:kf_ K BR acv Xm "sky" "Hold.sky" iQ Xa Wj SV Wy K5 abm Oz)
 (aac:kc_ K K5 "Hold.sky")
 (Kz:kq_ K BR)
 (abc:kg_ K z0 "stove" Bg)
 (Zr:W.isFn K (.ref Bg)=true)
 (Vk:kf_ K Bg aaS RW "stove" "Hold.stove" gf O6 SY QW NL JO Uz VB)
 (PR:kc_ K JO "Hold.stove")
 (KR:kq_ K Bg)
 (SG:kg_ K z0 "own_share" BL)
 (XE:W.isFn K (.ref BL)=true)
 (Rl:kf_ K BL UU Ww "own_share" "Hold.own_share" eC abo Yy VG Y4 KL WK abI)
 (Wq:kc_ K KL "Hold.own_share")
 (Ma:kq_ K BL)
 (Og:kg_ K z0 "look_for" AZ)
 (Oh:W.isFn K (.ref AZ)=true)
 (Wn:kf_ K AZ PH O3 "look_for" "Hold.look_for" eR Rq YN N8 Py J8 ZW ZO)
 (Qn:kc_ K J8 "Hold.look_for")
 (Jd:kq_ K AZ)
 (SZ:kg_ K z0 "look_at_share" BU)
 (WQ:W.isFn K (.ref BU)=true)
 (SU:kf_ K BU XX Ui "look_at_share" "Hold.look_at_share" cI Pg Zm O7 abq Lj Re Nw)
 (Y3:kc_ K Lj "Hold.look_at_share")
 (K4:kq_ K BU)
 (Rm:W.plainGet K z1 Str.empty=true)
 (QN:W.hasDictIn K z1=true)
 (UP:W.plainOver K z1=true)
 (NA:W.findIn K (.ref z1) "__setattr__" = some (some (.builtin "object.__setattr__")))
 (P4:W.makesIn K z1=true)
 (Wd:kq_ K z1)
 (aaf:W.findIn K (.ref z1) "hold" = some none)
 (Sg:W.findIn K (.ref z1) "spreads" = some none)
 (Vq:kg_ K z1 "__init__" A2)
 (Wr:W.isFn K (.ref A2)=true)
 (NC:kf_ K A2 QH Tv "__init__" "Reach.__init__" eE Th Wu PJ aas L6 PF Qo)
 (Yv:kc_ K L6 "Reach.__init__")
 (KQ:kq_ K A2)
 (TW:kg_ K z1 "states_behind" BF)
 (ab3:W.isFn K (.ref BF)=true)
 (abr:kf_ K BF Vv UX "states_behind" "Reach.states_behind" cC Vh aad WA Zq L3 YV Uy)
 (ZP:kc_ K L3 "Reach.states_behind")
 (Md:kq_ K BF)
 (YQ:kg_ K z1 "spread" Bs)
 (acF:W.isFn K (.ref Bs)=true)
 (VD:kf_ K Bs Tq abW "spread" "Reach.spread" fq Od abH U2 Zk Ko WV aa8)
 (ON:kc_ K Ko "Reach.spread")
 (JY:kq_ K Bs)
 (OC:kn_ K "has_room" C8)
 (Yh:kf_ K C8 Nq aat "has_room" "has_room" i4 T6 Sw WH TJ Kt Y2 N3)
 (ach:kc_ K Kt "has_room")
 (Tr:kq_ K C8)
 (Ri:kn_ K "with_room" EF)
 (Yd:kf_ K EF Q2 Wc "with_room" "with_room" gU Ur Yi Va Xn L8 aan Q9)
 (XO:kc_ K L8 "with_room")
 (Wa:kq_ K EF)
 (aaK:kn_ K "how_many" DU)
 (Qm:kf_ K DU U8 UD "how_many" "how_many" iJ VO VU aaJ acR Mc YT Ul)
 (Xh:kc_ K Mc "how_many")
 (P9:kq_ K DU)
 (TZ:kn_ K "members" Fg)
 (R3:kf_ K Fg TV Ob "members" "members" jZ YI UB Q4 acs Kv Wg Ve)
 (abL:kc_ K Kv "members")
 (Sn:kq_ K Fg)
 (U7:kn_ K "subsets" EQ)
 (aaN:kf_ K EQ O8 Ry "subsets" "subsets" j6 O2 YR Wb X8 K2 O4 YA)
 (RA:kc_ K K2 "subsets")
 (Zx:kq_ K EQ)
 (ab8:kn_ K "bits_of" D9)
 (aca:kf_ K D9 aa9 RI "bits_of" "bits_of" j5 Zz T3 Qu Qy Jz Si WG)
 (RK:kc_ K Jz "bits_of")
 (NX:kq_ K D9)
 (ack:kn_ K "divisor" EW)
 (aa2:kf_ K EW NF Pk "divisor" "divisor" j2 QU aah SJ Sj L0 Yk Ny)
 (Ox:kc_ K L0 "divisor")
 (Up:kq_ K EW)
 (Wh:kn_ K "fraction" DM)
 (Uv:kf_ K DM ab5 PP "fraction" "fraction" iV ZY Rv Zj Nu Jn Sq Zp)
 (aaw:kc_ K Jn "fraction")
 (Qv:kq_ K DM)
 (ZJ:kn_ K "plus" Dd)
 (OD:kf_ K Dd NO Qz "plus" "plus" tE Zh US Pt N9 Kh Z1 Vp)
 (X4:kc_ K Kh "plus")
 (SL:kq_ K Dd)
 (OO:kn_ K "minus" Dj)
 (acN:kf_ K Dj SC V7 "minus" "minus" og Yt acJ acu RU JC Om ZT)
 (Vb:kc_ K JC "minus")
 (Sy:kq_ K Dj)
 (Qj:kn_ K "under" Cs)
 (RY:kf_ K Cs Yl aci "under" "under" oh RM abM V5 VM IP Pl XV)
 (WZ:kc_ K IP "under")
 (Np:kq_ K Cs)
 (aaA:kn_ K "sum_of_products" Eu)
 (Ux:kf_ K Eu WR acb "sum_of_products" "sum_of_products" dD Ou Q6 Uk OP KP acl Y8)
 (aaX:kc_ K KP "sum_of_products")
 (Td:kq_ K Eu)
 (Op:kn_ K "warmth_of" CZ)
 (WC:kf_ K CZ TH UL "warmth_of" "warmth_of" gY NE ZN RQ W4 LX Wk aam)
 (Y7:kc_ K LX "warmth_of")
 (OK:kq_ K CZ)
 (Qs:kn_ K "span_of" CD)
 (aax:kf_ K CD V8 Yx "span_of" "span_of" j3 Rf Yu Vd W6 Kx Oj SD)
 (Yp:kc_ K Kx "span_of")
 (SE:kq_ K CD)
 (RX:kn_ K "touched" Ds)
 (Qr:kf_ K Ds Sk Nx "touched" "touched" j1 QR OF aal OH Kb Xl X6)
 (Sh:kc_ K Kb "touched")
 (VH:kq_ K Ds)
 (Pz:kn_ K "within" CH)
 (Zw:kf_ K CH W8 UV "within" "within" lM Xf VL Z3 aco IU Qa Yz)
 (UG:kc_ K IU "within")
 (abU:kq_ K CH)
 (Z8:kn_ K "is_state" EE)
 (Za:kf_ K EE XH ZR "is_state" "is_state" i8 W7 UN Xr SA IA acg Yn)
 (YB:kc_ K IA "is_state")
 (Y1:kq_ K EE)
 (Wx:kn_ K "fits_room" DX)
 (So:kf_ K DX W2 Z2 "fits_room" "fits_room" hR aa1 VZ XM V6 Ka acw OX)
 (aap:kc_ K Ka "fits_room")
 (OI:kq_ K DX)
 (Uw:kn_ K "fits_stove" EM)
 (Z4:kf_ K EM X1 abz "fits_stove" "fits_stove" gk acH NV QA XB KF Q3 acG)
 (Sl:kc_ K KF "fits_stove")
 (WF:kq_ K EM)
 (Ug:kn_ K "look_at_state" CI)
 (UH:kf_ K CI WY Zs "look_at_state" "look_at_state" eW Z5 RV UK P6 IG Qh Wl)
 (acI:kc_ K IG "look_at_state")
 (aaO:kq_ K CI)
 (YC:kn_ K "with_stove" Ew)
 (Rg:kf_ K Ew ZB ZL "with_stove" "with_stove" gj Ze QX abk abi Lv OY U9)
 (XJ:kc_ K Lv "with_stove")
 (Ph:kq_ K Ew)
 (U6:kn_ K "wood_of" CY)
 (Y6:kf_ K CY W1 QG "wood_of" "wood_of" kc Yo WO Yf X7 Jm Qb ab6)
 (RL:kc_ K Jm "wood_of")
 (WN:kq_ K CY)
 (UZ:kn_ K "must_stay" EZ)
 (R9:kf_ K EZ Ud Xj "must_stay" "must_stay" h9 VE ab1 SR ZM IF SS NS)
 (aaR:kc_ K IF "must_stay")
 (RC:kq_ K EZ)
 (Ql:kn_ K "can_burn" Dy)
 (Xg:kf_ K Dy acQ Vn "can_burn" "can_burn" iT acr Wp No Wz KA Pm abl)
 (VA:kc_ K KA "can_burn")
 (TX:kq_ K Dy)
 (Vl:kn_ K "orders_of" DF)
 (Zt:kf_ K DF YG OA "orders_of" "orders_of" hZ NN Qx Qt QT LB PQ Ra)
 (Sd:kc_ K LB "orders_of")
 (Nv:kq_ K DF)
 (YF:kn_ K "failing" EB)
 (ND:kf_ K EB XN aaW "failing" "failing" j0 ZZ W5 VI V0 LI Qq abb)
 (Y0:kc_ K LI "failing")
 (Yc:kq_ K EB)
 (Se:kn_ K "stoves_behind" EA)
 (aaa:kf_ K EA PD Rj "stoves_behind" "stoves_behind" eV XC RR TN aaL Lm Te abT)
 (ZH:kc_ K Lm "stoves_behind")
 (PC:kq_ K EA)
 (V4:kn_ K "wait_behind" D0)
 (SN:kf_ K D0 VP PK "wait_behind" "wait_behind" fR Ws Uc R6 Q7 LG Vj abg)
 (Ye:kc_ K LG "wait_behind")
 (ZX:kq_ K D0)
 (YO:kn_ K "failed_behind" Ev)
 (aaq:kf_ K Ev OB abR "failed_behind" "failed_behind" eY Xi P5 Ta Pf II Q5 TQ)
 (Ue:kc_ K II "failed_behind")
 (Uq:kq_ K Ev)
 (acn:kn_ K "outcomes" Do)
 (aaU:kf_ K Do abh WU "outcomes" "outcomes" iN Wt VR Uf aaI IN Oa acA)
 (P3:kc_ K IN "outcomes")
 (Vr:kq_ K Do)
 (aa5:kn_ K "each_choice" Fh)
 (abK:kf_ K Fh aaM T0 "each_choice" "each_choice" fO Tb aai Rp Vu JK Ol UI)
 (Ro:kc_ K JK "each_choice")
 (VW:kq_ K Fh)
 (YW:kn_ K "is_whole_upto" Cr)
 (U5:kf_ K Cr abA To "is_whole_upto" "is_whole_upto" eT Xu ace abE Pu JJ Tt Oc)
 (Nk:kc_ K JJ "is_whole_upto")
 (Yg:kq_ K Cr)
 (Nj:kn_ K "is_rising" Dr)
 (VJ:kf_ K Dr Xw abp "is_rising" "is_rising" hU U4 abF SX WE L9 SI XW)
 (OR:kc_ K L9 "is_rising")
 (T4:kq_ K Dr)
 (Zb:kn_ K "bands_together" CM)
 (acL:kf_ K CM WB XT "bands_together" "bands_together" eD aaj SW Yj O5 Lf Ua ZA)
 (XI:kc_ K Lf "bands_together")
 (abY:kq_ K CM)
 (Z6:kn_ K "_law_cell_at" DQ)
 (UY:kf_ K DQ QP QF "_law_cell_at" "_law_cell_at" fQ ZK U0 Rz Q0 JH Xz Pa)
 (P2:kc_ K JH "_law_cell_at")
 (Oi:kq_ K DQ)
 (PL:kn_ K "_law_pick" DR)
 (ZV:kf_ K DR abQ aaH "_law_pick" "_law_pick" jf Pb RJ Us VX Ja YD aaQ)
 (RD:kc_ K Ja "_law_pick")
 (WJ:kq_ K DR)
 (NK:kn_ K "_law_ratio" Ef)
 (P1:kf_ K Ef Z9 XS "_law_ratio" "_law_ratio" ic ZG abu acd Zv LD Q1 PN)
 (abd:kc_ K LD "_law_ratio")
 (XZ:kq_ K Ef)
 (YK:kn_ K "_law_scale" Ey)
 (X9:kf_ K Ey Sx acP "_law_scale" "_law_scale" gZ WI NU acm XD Lh Ya Sr)
 (OM:kc_ K Lh "_law_scale")
 (Sm:kq_ K Ey)
 (QL:kn_ K "_law_warm" Em)
 (Vi:kf_ K Em O9 Vg "_law_warm" "_law_warm" jd T9 Xs Vf Um J7 PX Uu)
 (Pj:kc_ K J7 "_law_warm")
 (P0:kq_ K Em)
 (Uj:kn_ K "_law_stove_by" Cm)
 (Xx:kf_ K Cm aa6 N1 "_law_stove_by" "_law_stove_by" fC Po Uh Nn QO K1 Sv Tj)
 (Rs:kc_ K K1 "_law_stove_by")
 (Pc:kq_ K Cm)
 (RP:kn_ K "_law_drawn" DI)
 (Vm:kf_ K DI Rw V3 "_law_drawn" "_law_drawn" hE PM SH TM Oy KG TK YM)
 (VS:kc_ K KG "_law_drawn")
 (Pp:kq_ K DI)
 (aa7:kn_ K "_law_built" CL)
 (Nt:kf_ K CL aaZ Zi "_law_built" "_law_built" hG Rr WS acS aa0 JU QJ OS)
 (O0:kc_ K JU "_law_built")
 (acE:kq_ K CL)
 (Q8:kn_ K "_law_state_by" D6)
 (VN:kf_ K D6 YE QI "_law_state_by" "_law_state_by" fB acy YH Sc Pe Lo abj acO)
 (Ym:kc_ K Lo "_law_state_by")
 (Vz:kq_ K D6)
 (Vt:kn_ K "_law_mild" DL)
 (aaB:kf_ K DL Z0 Nz "_law_mild" "_law_mild" iO Zg Yb W9 R1 LK abw WM)
 (Oq:kc_ K LK "_law_mild")
 (N0:kq_ K DL)
 (aaC:kn_ K "_law_milder" El)
 (aau:kf_ K El Su NW "_law_milder" "_law_milder" gh TF TY Tn Xk Ld abG W0)
 (abf:kc_ K Ld "_law_milder")
 (UF:kq_ K El)
 (Uo:kn_ K "_law_right" En)
 (Xo:kf_ K En N5 abx "_law_right" "_law_right" ib YU acp QB acz J4 Yw acj)
 (UT:kc_ K J4 "_law_right")
 (PV:kq_ K En)
 (S9:kn_ K "law" EI)
 (Zy:kf_ K EI Xy NI "law" "law" uG ZU XA SQ YY LZ Oe ZE)
 (aaP:kc_ K LZ "law")
 (R5:kq_ K EI)
 (acx:W.nsIn K mainGlobals "abs" = some none)
 (SM:W.nsIn K mainGlobals "all" = some none)
 (NP:W.nsIn K mainGlobals "bool" = some none)
 (Pw:W.nsIn K mainGlobals "dict" = some none)
 (Qi:W.nsIn K mainGlobals "enumerate" = some none)
 (Ub:W.nsIn K mainGlobals "int" = some none)
 (OT:W.nsIn K mainGlobals "isinstance" = some none)
 (Qd:W.nsIn K mainGlobals "len" = some none)
 (acf:W.nsIn K mainGlobals "list" = some none)
 (Nl:W.nsIn K mainGlobals "max" = some none)
 (WW:W.nsIn K mainGlobals "min" = some none)
 (PY:W.nsIn K mainGlobals "range" = some none)
 (Sf:W.nsIn K mainGlobals "sum" = some none)
 (Ni:W.nsIn K mainGlobals "tuple" = some none)
 (acM:W.nsIn K mainGlobals "zip" = some none)
 : Txt K mg ⟨z0,z1,z2,z3,RH,NM⟩ :=
⟨ac5 X G T7,
ac5 X G R0,
ac5 X G X2,
ac5 X G XQ,
⟨_,ac5 X G Wo⟩,
⟨_,ac5 X G Ut⟩,
⟨_,ac5 X G ZS⟩,
⟨_,ac5 X G ab0⟩,
⟨_,ac5 X G Sz⟩,
⟨_,ac5 X G RN⟩,
⟨_,ac5 X G aab⟩,
⟨_,ac5 X G NB⟩,
⟨_,ac5 X G Ow⟩,
⟨_,ac5 X G abV⟩,
Fn UQ,
Fn OU,
⟨OJ,RB,aaG,aby⟩,
⟨Zo,N7⟩,
Tf,
X3,
ZD,
Qe,
Sb,
Os,
Rc,
⟨LV,_,⟨acq,aaF,KB⟩,cS (st:=b7) acC R8 KB⟩,
⟨_,_,_,SO,rfl,(.cons ⟨_,rfl⟩ (.cons ⟨_,rfl⟩ (.cons ⟨_,rfl⟩ .nil)))⟩,
⟨Jp,_,⟨Qk,YS,KD⟩,cS (st:=eS) WL Nm KD⟩,
⟨L7,_,⟨acK,abD,J3⟩,cS (st:=eU) ab9 UJ J3⟩,
⟨IJ,_,⟨aav,U1,Lw⟩,cS (st:=fx) Oo QS Lw⟩,
⟨JB,_,⟨abP,OZ,LW⟩,cS (st:=bT) TL aag LW⟩,
⟨_,_,_,XF,rfl,(.cons ⟨_,rfl⟩ (.cons ⟨_,rfl⟩ (.cons ⟨_,rfl⟩ .nil)))⟩,
⟨Lz,_,⟨W3,RO,IW⟩,cS (st:=gX) Pd We IW⟩,
⟨Ar,_,⟨R7,Tg,IL⟩,cS (st:=ge) Wi N6 IL⟩,
⟨zS,_,⟨NR,Vw,JT⟩,cS (st:=gq) OG Tu JT⟩,
⟨BR,_,⟨UA,RT,Kz⟩,cS (st:=iQ) abe aac Kz⟩,
⟨Bg,_,⟨abc,Zr,KR⟩,cS (st:=gf) Vk PR KR⟩,
⟨BL,_,⟨SG,XE,Ma⟩,cS (st:=eC) Rl Wq Ma⟩,
⟨AZ,_,⟨Og,Oh,Jd⟩,cS (st:=eR) Wn Qn Jd⟩,
⟨BU,_,⟨SZ,WQ,K4⟩,cS (st:=cI) SU Y3 K4⟩,
⟨Rm,QN,UP,NA⟩,
⟨P4,Wd⟩,
aaf,
Sg,
⟨A2,_,⟨Vq,Wr,KQ⟩,cS (st:=eE) NC Yv KQ⟩,
⟨BF,_,⟨TW,ab3,Md⟩,cS (st:=cC) abr ZP Md⟩,
⟨Bs,_,⟨YQ,acF,JY⟩,cS (st:=fq) VD ON JY⟩,
⟨C8,_,ac5 X G OC,aS (st:=i4) Yh ach Tr⟩,
⟨EF,_,ac5 X G Ri,aS (st:=gU) Yd XO Wa⟩,
⟨DU,_,ac5 X G aaK,aS (st:=iJ) Qm Xh P9⟩,
⟨Fg,_,ac5 X G TZ,aS (st:=jZ) R3 abL Sn⟩,
⟨EQ,_,ac5 X G U7,aS (st:=j6) aaN RA Zx⟩,
⟨D9,_,ac5 X G ab8,aS (st:=j5) aca RK NX⟩,
⟨EW,_,ac5 X G ack,aS (st:=j2) aa2 Ox Up⟩,
⟨DM,_,ac5 X G Wh,aS (st:=iV) Uv aaw Qv⟩,
⟨Dd,_,ac5 X G ZJ,aS (st:=tE) OD X4 SL⟩,
⟨Dj,_,ac5 X G OO,aS (st:=og) acN Vb Sy⟩,
⟨Cs,_,ac5 X G Qj,aS (st:=oh) RY WZ Np⟩,
⟨Eu,_,ac5 X G aaA,aS (st:=dD) Ux aaX Td⟩,
⟨CZ,_,ac5 X G Op,aS (st:=gY) WC Y7 OK⟩,
⟨CD,_,ac5 X G Qs,aS (st:=j3) aax Yp SE⟩,
⟨Ds,_,ac5 X G RX,aS (st:=j1) Qr Sh VH⟩,
⟨CH,_,ac5 X G Pz,aS (st:=lM) Zw UG abU⟩,
⟨EE,_,ac5 X G Z8,aS (st:=i8) Za YB Y1⟩,
⟨DX,_,ac5 X G Wx,aS (st:=hR) So aap OI⟩,
⟨EM,_,ac5 X G Uw,aS (st:=gk) Z4 Sl WF⟩,
⟨CI,_,ac5 X G Ug,aS (st:=eW) UH acI aaO⟩,
⟨Ew,_,ac5 X G YC,aS (st:=gj) Rg XJ Ph⟩,
⟨CY,_,ac5 X G U6,aS (st:=kc) Y6 RL WN⟩,
⟨EZ,_,ac5 X G UZ,aS (st:=h9) R9 aaR RC⟩,
⟨Dy,_,ac5 X G Ql,aS (st:=iT) Xg VA TX⟩,
⟨DF,_,ac5 X G Vl,aS (st:=hZ) Zt Sd Nv⟩,
⟨EB,_,ac5 X G YF,aS (st:=j0) ND Y0 Yc⟩,
⟨EA,_,ac5 X G Se,aS (st:=eV) aaa ZH PC⟩,
⟨D0,_,ac5 X G V4,aS (st:=fR) SN Ye ZX⟩,
⟨Ev,_,ac5 X G YO,aS (st:=eY) aaq Ue Uq⟩,
⟨Do,_,ac5 X G acn,aS (st:=iN) aaU P3 Vr⟩,
⟨Fh,_,ac5 X G aa5,aS (st:=fO) abK Ro VW⟩,
⟨Cr,_,ac5 X G YW,aS (st:=eT) U5 Nk Yg⟩,
⟨Dr,_,ac5 X G Nj,aS (st:=hU) VJ OR T4⟩,
⟨CM,_,ac5 X G Zb,aS (st:=eD) acL XI abY⟩,
⟨DQ,_,ac5 X G Z6,aS (st:=fQ) UY P2 Oi⟩,
⟨DR,_,ac5 X G PL,aS (st:=jf) ZV RD WJ⟩,
⟨Ef,_,ac5 X G NK,aS (st:=ic) P1 abd XZ⟩,
⟨Ey,_,ac5 X G YK,aS (st:=gZ) X9 OM Sm⟩,
⟨Em,_,ac5 X G QL,aS (st:=jd) Vi Pj P0⟩,
⟨Cm,_,ac5 X G Uj,aS (st:=fC) Xx Rs Pc⟩,
⟨DI,_,ac5 X G RP,aS (st:=hE) Vm VS Pp⟩,
⟨CL,_,ac5 X G aa7,aS (st:=hG) Nt O0 acE⟩,
⟨D6,_,ac5 X G Q8,aS (st:=fB) VN Ym Vz⟩,
⟨DL,_,ac5 X G Vt,aS (st:=iO) aaB Oq N0⟩,
⟨El,_,ac5 X G aaC,aS (st:=gh) aau abf UF⟩,
⟨En,_,ac5 X G Uo,aS (st:=ib) Xo UT PV⟩,
⟨EI,_,ac5 X G S9,aS (st:=uG) Zy aaP R5⟩,
adx X G acx,
adx X G SM,
adx X G NP,
adx X G Pw,
adx X G Qi,
adx X G Ub,
adx X G OT,
adx X G Qd,
adx X G acf,
adx X G Nl,
adx X G WW,
adx X G PY,
adx X G Sf,
adx X G Ni,
adx X G acM⟩
section
variable {P:Program} {w:World} {K:W.Frag} {mg:Str->Option Value} {base:Heap} {Ad:Ads}
theorem xt {lo:Int} {n:Nat} {g:TG} {tb:TS} {D:Ends} {U:L2.St} {H:Hp} (Pv:Nat->L2.St->Hp->Prop) (h0:Pv 0 U H)
   (hs:∀ (bk:L2.St->Hp->Prop) (rt:VK) (i:Nat) (U:L2.St) (H:Hp),i<n->Pv i U H->g (.int (lo+i)) U H λ σ2 H2=>tb ⟨Pv (i+1),rt,bk,Pv (i+1)⟩ σ2 H2) (hd:∀ U H,Pv n U H->D.nx U H) :
   ∃ W:Nat->Nat->L2.St->Hp->Prop,(∃ m,W 0 m U H)/\∀ i m U H,W i m U H ->
     ((zJ lo n).stop i H/\D.nx U H)∨((zJ lo n).go i H/\∃ N:L2.St->Hp->Prop,(∀ σ' H',N σ' H'->∃ m',m'<m/\W (i+1) m' σ' H')/\∀ x H',(zJ lo n).BK i H x H'->g x U H' λ σ2 H2=>tb { D with nx:=N,ct:=N,bk:=D.nx } σ2 H2) :=
 qF Pv h0 (λ i U H hi p=>hs D.nx D.rt i U H hi p) hd
theorem qo {K:W.Frag} {a:Addr} {xs:List V} {g:TG} {tb:TS} {D:Ends} {U:L2.St} {H:Hp} (Pv:Nat->L2.St->Hp->Prop) (h0:Pv 0 U H) (hl:∀ i U H,i<=xs.length->Pv i U H->aV K H a xs)
   (hs:∀ (bk:L2.St->Hp->Prop) (rt:VK) (i:Nat) (x:V) (U:L2.St) (H:Hp),xs[i]?=some x->Pv i U H->g x U H λ σ2 H2=>tb ⟨Pv (i+1),rt,bk,Pv (i+1)⟩ σ2 H2) (hd:∀ U H,Pv xs.length U H->D.nx U H) :
   ∃ W:Nat->Nat->L2.St->Hp->Prop,(∃ m,W 0 m U H)/\∀ i m U H,W i m U H ->
     ((Az K a).stop i H/\D.nx U H)∨((Az K a).go i H/\∃ N:L2.St->Hp->Prop,(∀ σ' H',N σ' H'->∃ m',m'<m/\W (i+1) m' σ' H')/\∀ x H',(Az K a).BK i H x H'->g x U H' λ σ2 H2=>tb { D with nx:=N,ct:=N,bk:=D.nx } σ2 H2) :=
 gv Pv h0 hl (λ i x U H hx p=>hs D.nx D.rt i x U H hx p) hd
def pP {lo:Int} {n:Nat} {g:TG} {tb:TS} {D:Ends} {U:L2.St} {H:Hp} (Pv:Nat->L2.St->Hp->Prop) (h0:Pv 0 U H) (hs:let G:Nat->L2.St->Hp->Prop:=λ i U H=>g (.int (lo+i)) U H λ σ2 H2=>tb { D with nx:=Pv (i+1),ct:=Pv (i+1),bk:=D.nx } σ2 H2
   ∀ (i:Nat) (U:L2.St) (H:Hp),i<n->Pv i U H->G i U H) (hd:∀ U H,Pv n U H->D.nx U H):=qF (lo:=lo) (n:=n) (g:=g) (tb:=tb) (D:=D) (U:=U) (H:=H) Pv h0 hs hd
def jX {K:W.Frag} {a:Addr} {xs:List V} {g:TG} {tb:TS} {D:Ends} {U:L2.St} {H:Hp} (Pv:Nat->L2.St->Hp->Prop) (h0:Pv 0 U H) (hl:∀ i U H,i<=xs.length->Pv i U H->aV K H a xs) (hs:let G:Nat->V->L2.St->Hp->Prop:=λ i x U H=>g x U H λ σ2 H2=>tb { D with nx:=Pv (i+1),ct:=Pv (i+1),bk:=D.nx } σ2 H2
   ∀ (i:Nat) (x:V) (U:L2.St) (H:Hp),xs[i]?=some x->Pv i U H->G i x U H) (hd:∀ U H,Pv xs.length U H->D.nx U H):=gv (K:=K) (a:=a) (xs:=xs) (g:=g) (tb:=tb) (D:=D) (U:=U) (H:=H) Pv h0 hl hs hd
def fh {lo:Int} {n:Nat} {g:TG} {tb:TS} {D:Ends} {U:L2.St} {H:Hp} (Pv:Nat->L2.St->Hp->Prop) (h0:Pv 0 U H) (hs:let G:(L2.St->Hp->Prop)->VK->Nat->L2.St->Hp->Prop:=λ bk rt i U H=>g (.int (lo+i)) U H λ σ2 H2=>tb ⟨Pv (i+1),rt,bk,Pv (i+1)⟩ σ2 H2
   ∀ (bk:L2.St->Hp->Prop) (rt:VK) (i:Nat) (U:L2.St) (H:Hp),i<n->Pv i U H->G bk rt i U H) (hd:∀ U H,Pv n U H->D.nx U H):=xt (lo:=lo) (n:=n) (g:=g) (tb:=tb) (D:=D) (U:=U) (H:=H) Pv h0 hs hd
def GN {K:W.Frag} {a:Addr} {xs:List V} {g:TG} {tb:TS} {D:Ends} {U:L2.St} {H:Hp} (Pv:Nat->L2.St->Hp->Prop) (h0:Pv 0 U H) (hl:∀ i U H,i<=xs.length->Pv i U H->aV K H a xs) (hs:let G:(L2.St->Hp->Prop)->VK->Nat->V->L2.St->Hp->Prop:=λ bk rt i x U H=>g x U H λ σ2 H2=>tb ⟨Pv (i+1),rt,bk,Pv (i+1)⟩ σ2 H2
   ∀ (bk:L2.St->Hp->Prop) (rt:VK) (i:Nat) (x:V) (U:L2.St) (H:Hp),xs[i]?=some x->Pv i U H->G bk rt i x U H) (hd:∀ U H,Pv xs.length U H->D.nx U H):=qo (K:=K) (a:=a) (xs:=xs) (g:=g) (tb:=tb) (D:=D) (U:=U) (H:=H) Pv h0 hl hs hd
theorem wu (T:Txt K mg Ad):Def P w K mg base "divisor" 1 ["one","other"] Gn:=by
 refine T.zn.cE fM λ f bx A outer s H vs Q E hr h=>?_
 obtain ⟨a,b,rfl,k⟩:=h
 refine ⟨_,(af (aB (i:=2) fM.nd rfl (lc rfl) (bh mn (by rfl) T.Bv vP (aa (pv 0) ac)))
     (af (aB (i:=3) fM.nd rfl (lc rfl) (bh mn (by rfl) T.Bv vP (aa (pv 1) ac)))
     (af (tZ ada (aU mS (pv 3) ah (aZ _)) (af (aB (i:=4) fM.nd rfl (lc rfl) (ay gT (pv 2) (pv 3)))
     (af (aB (i:=2) fM.nd rfl (lc rfl) (pv 3))
     (am (aB (i:=3) fM.nd rfl (lc rfl) (pv 4))))))
     (am (aF (pv 2)))))),?_⟩
 try dsimp only [fb,aR]
 first|(refine dU ?_;intro _ _ _ _ _)|skip
 refine ⟨_,rfl,_,rfl,λ g0 eg=>⟨_,rfl,_,rfl,λ l0 el=>?_⟩⟩
 refine ⟨λ m U H'=>H'=H/\E3 λ (g l:Int) (r:Option V)=>A5 (U=[some (.int a),some (.int b),some (.int g),some (.int l),r]) (0<=g) (0<=l) (m=l.toNat) (Int.gcd g l=Int.gcd a b),
   ⟨_,rfl,g0,l0,none,rfl,by lia,by lia,rfl,by rw [eg,el];rfl⟩,?_⟩
 rintro m U H' ⟨rfl,g,l,r,rfl,hg,hl,rfl,e⟩
 refine ⟨_,rfl,rfl,_,rfl,?_⟩
 refine Cj (λ h=>?_) (λ h=>?_)
 .
  have l1:0<l:=by rw [ft] at h;lia
  refine ⟨λ σ' Lc=>Lc=H'/\σ'=[some (.int a),some (.int b),some (.int l),some (.int (g % l)),some (.int (g % l))],λ σ' Lc ⟨e1,e2⟩=>?_,?_⟩
  . have m0:=afe g (by lia:l≠0)
    have m1:=aeX g l1
    exact ⟨(g % l).toNat,by lia,e1,l,g % l,_,e2,hl,m0,rfl,(FB hg l1).trans e⟩
  . refine ⟨_,rfl,_,rfl,_,_,rfl,rfl,l1,λ r _ _ er=>?_⟩
    subst er
    exact ⟨_,rfl,_,rfl,rfl,rfl⟩
 .
  have l1:l=0:=ft.mp h
  subst l1
  refine ⟨_,rfl,k g ?_⟩
  rw [← e,IC hg]
theorem jx (T:Txt K mg Ad):Def P w K mg base "fraction" 2 ["top","bottom"] uT:=by
 refine T.vQ.cE jI λ f bx A outer s H vs Q E hr h=>?_
 obtain ⟨t,b,rfl,hb,bb,k⟩:=h
 refine ⟨_,(af (bA (aU jk (pv 1) ah (aZ _)) (am bY) aJ)
     (af (aB (i:=2) jI.nd rfl (lc rfl) (ak (wu (K:=K) T) hr.m (aa (pv 0) (aa (pv 1) ac))))
     (af (mv (bA (aU pI (pv 1) ah (aZ _)) (am (aB (i:=2) jI.nd rfl (lc rfl) (o4 sH (pv 2)))) aJ))
     (am (aF (b9 (aa (ay gw (pv 0) (pv 2)) (aa (ay gw (pv 1) (pv 2)) ac)))))))),?_⟩
 try dsimp only [fb,aR]
 first|(refine dU ?_;intro _ _ _ _ _)|skip
 refine ⟨_,rfl,rfl,_,rfl,?_⟩
 refine mw (λ e=>hb (ft.mp e)) ?_
 refine ⟨_,rfl,_,rfl,t,b,rfl,λ c ec=>?_⟩
 obtain ⟨c0,cl,fp,fn⟩:=BA hb ec
 have bc:Bd 8999 c:=(bb.le (by lia)).mono (by decide)
 refine ⟨λ σ' H'=>H'=H/\∃ c',A4 (c'≠0) (Bd 8999 c') (Fr t b (t.fdiv c') (b.fdiv c')) (σ'=[some (.int t),some (.int b),some (.int c')]),?_,?_⟩
 .
  refine ⟨_,rfl,_,_,rfl,rfl,_,rfl,?_⟩
  refine jm (λ h=>?_) (λ h=>?_)
  . exact ⟨_,rfl,_,rfl,rfl,-c,by lia,bc.neg,fn h,rfl⟩
  . exact ⟨rfl,c,by lia,bc,fp (by lia),rfl⟩
 .
  rintro σ' H' ⟨rfl,c',h1,h2,h3,rfl⟩
  refine ⟨_,rfl,_,rfl,_,_,rfl,rfl,⟨h1,h2⟩,λ q eq=>⟨_,rfl,_,rfl,_,_,rfl,rfl,⟨h1,h2⟩,λ r er=>⟨zB,λ p hp=>?_⟩⟩⟩
  subst eq er
  exact k _ _ p _ h3 (ai hp) ag
theorem Es (T:Txt K mg Ad):Def P w K mg base "plus" 3 ["one","other"] (vC (λ a b c d=>a * d+c * b) K):=by
 refine T.Gd.cE EO λ f bx A outer s H vs Q E hr h=>?_
 obtain ⟨p1,p2,a,b,c,d,rfl,h1,h2,b0,d0,ba,bb,bc,bd,k⟩:=h
 refine ⟨_,(am (aF (ak (jx (K:=K) T) hr.m (aa (ay aI (ay br (aG aD (pv 0) ah (λ _ _=>rfl)) (aG aD (pv 1) ah (λ _ _=>rfl))) (ay br (aG aD (pv 1) ah (λ _ _=>rfl)) (aG aD (pv 0) ah (λ _ _=>rfl)))) (aa (ay br (aG aD (pv 0) ah (λ _ _=>rfl)) (aG aD (pv 1) ah (λ _ _=>rfl))) ac))))),?_⟩
 try dsimp only [fb,aR]
 refine ⟨_,rfl,_,_,_,_,rfl,rfl,.inr h1,rfl,_,rfl,_,_,_,_,rfl,rfl,.inr h2,rfl,_,_,rfl,rfl,⟨_,_,ba,bd,by decide⟩,λ x1 e1=>?_⟩
 refine ⟨_,rfl,_,_,_,_,rfl,rfl,.inr h2,rfl,_,rfl,_,_,_,_,rfl,rfl,.inr h1,rfl,_,_,rfl,rfl,⟨_,_,bc,bb,by decide⟩,λ x2 e2=>⟨_,_,rfl,rfl,λ t et=>?_⟩⟩
 refine ⟨_,rfl,_,_,_,_,rfl,rfl,.inr h1,rfl,_,rfl,_,_,_,_,rfl,rfl,.inr h2,rfl,_,_,rfl,rfl,⟨_,_,bb,bd,by decide⟩,λ u eu=>?_⟩
 subst e1 e2 et eu
 exact ⟨_,_,rfl,adW (adi b0 d0),(bb.mul bd).mono (by decide),k⟩
theorem uf (T:Txt K mg Ad):Def P w K mg base "minus" 3 ["one","other"] (vC (λ a b c d=>a * d - c * b) K):=by
 refine T.ET.cE Am λ f bx A outer s H vs Q E hr h=>?_
 obtain ⟨p1,p2,a,b,c,d,rfl,h1,h2,b0,d0,ba,bb,bc,bd,k⟩:=h
 refine ⟨_,(am (aF (ak (jx (K:=K) T) hr.m (aa (ay dF (ay br (aG aD (pv 0) ah (λ _ _=>rfl)) (aG aD (pv 1) ah (λ _ _=>rfl))) (ay br (aG aD (pv 1) ah (λ _ _=>rfl)) (aG aD (pv 0) ah (λ _ _=>rfl)))) (aa (ay br (aG aD (pv 0) ah (λ _ _=>rfl)) (aG aD (pv 1) ah (λ _ _=>rfl))) ac))))),?_⟩
 try dsimp only [fb,aR]
 refine ⟨_,rfl,_,_,_,_,rfl,rfl,.inr h1,rfl,_,rfl,_,_,_,_,rfl,rfl,.inr h2,rfl,_,_,rfl,rfl,⟨_,_,ba,bd,by decide⟩,λ x1 e1=>?_⟩
 refine ⟨_,rfl,_,_,_,_,rfl,rfl,.inr h2,rfl,_,rfl,_,_,_,_,rfl,rfl,.inr h1,rfl,_,_,rfl,rfl,⟨_,_,bc,bb,by decide⟩,λ x2 e2=>⟨_,_,rfl,rfl,λ t et=>?_⟩⟩
 refine ⟨_,rfl,_,_,_,_,rfl,rfl,.inr h1,rfl,_,rfl,_,_,_,_,rfl,rfl,.inr h2,rfl,_,_,rfl,rfl,⟨_,_,bb,bd,by decide⟩,λ u eu=>?_⟩
 subst e1 e2 et eu
 exact ⟨_,_,rfl,adW (adi b0 d0),(bb.mul bd).mono (by decide),k⟩
theorem fA (T:Txt K mg Ad):Def P w K mg base "under" 1 ["one","other"] (BX K):=by
 refine T.C9.cE By λ f bx A outer s H vs Q E hr h=>?_
 obtain ⟨p1,p2,a,b,c,d,rfl,h1,h2,ba,bb,bc,bd,k⟩:=h
 refine ⟨_,(am (aF (gi pI (ay br (aG aD (pv 0) ah (λ _ _=>rfl)) (aG aD (pv 1) ah (λ _ _=>rfl))) (ay br (aG aD (pv 1) ah (λ _ _=>rfl)) (aG aD (pv 0) ah (λ _ _=>rfl))) (aZ _)))),?_⟩
 try dsimp only [fb,aR]
 refine ⟨_,rfl,_,_,_,_,rfl,rfl,.inr h1,rfl,_,rfl,_,_,_,_,rfl,rfl,.inr h2,rfl,_,_,rfl,rfl,⟨_,_,ba,bd,by decide⟩,λ x1 e1=>?_⟩
 refine ⟨_,rfl,_,_,_,_,rfl,rfl,.inr h2,rfl,_,rfl,_,_,_,_,rfl,rfl,.inr h1,rfl,_,_,rfl,rfl,⟨_,_,bc,bb,by decide⟩,λ x2 e2=>⟨_,_,rfl,rfl,?_⟩⟩
 subst e1 e2
 exact k
theorem cp (T:Txt K mg Ad):Def P w K mg base "is_whole_upto" 1 ["thing","greatest"] De:=by
 refine T.nu.cE lW λ f bx A outer s H vs Q E hr h=>?_
 obtain ⟨n,g,rfl,k⟩:=h
 refine ⟨_,(af (bA (PW.pt (pC (cy (bh mM (by rfl) T.kS ki (aa (pv 0) (aa (xT (v:=V.ty "bool") rfl T.Ha CG rfl) ac)))) (ma (dA (cy (bh mM (by rfl) T.kS ki (aa (pv 0) (aa (xT (v:=V.ty "int") rfl T.Jv G0 rfl) ac)))))))) (am (aF iC)) aJ)
     (am (aF (BO ia ia ah (pv 0) (pv 1))))),?_⟩
 try dsimp only [fb,aR]
 refine ⟨_,rfl,_,_,_,_,_,rfl,.int n,rfl,rR K,_,rfl,gz ⟨_,rfl,_,_,_,_,_,rfl,.int n,rfl,rfl,_,rfl,gz ?_⟩⟩
 refine ⟨_,rfl,_,_,rfl,rfl,_,rfl,?_⟩
 by_cases h0:(0:Int)<=n
 .
  refine nJ h0 ⟨_,rfl,_,_,rfl,rfl,?_⟩
  have:decide (n<=g)=decide (0<=n/\n<=g):=decide_eq_decide.mpr ⟨λ h=>⟨h0,h⟩,λ h=>h.2⟩
  show Q (V.bl (decide (n<=g))) H
  rw [this]
  exact k
 .
  refine mw h0 ?_
  have:decide (0<=n/\n<=g)=false:=ab2 λ h=>h0 h.1
  rw [this] at k
  exact k
theorem bV (T:Txt K mg Ad):iG P w K mg base Ad.aW "many" 1 ["self"] [] (Ed K Ad.aW):=by
 refine T.uu.gQ rF λ f bx A outer s H vs Q E hr h=>?_
 obtain ⟨a,fp,m,rfl,hh,k⟩:=h
 refine ⟨_,(am (aF (bh bJ (by rfl) T.fW d9 (aa (bR (pv 0) rfl) ac)))),?_⟩
 try dsimp only [fb,aR]
 obtain ⟨⟨dx,pm,pf,ps,pt,vm,vs,vt,aw,rfl,ha,jo,eK,gG,eL,eQ,n1,n2,n3,dm,ds,dt,df,fk⟩,q1,q2,q3,q4⟩:=hh
 refine ⟨_,rfl,a,_,dx,_,_,rfl,ha,T.aC,T.cO,oy ..,_,_,rfl,.inl (aV.of eK),λ n en=>?_⟩
 have e:n=(m.rows.length:Int):=by rw [en,dm.length,xq]
 rw [e]
 exact k
theorem bq (T:Txt K mg Ad):iG P w K mg base Ad.aW "look_for" 3 ["self","room"] [] (uy K Ad.aW):=by
 refine T.nj.gQ lY λ f bx A outer s H vs Q E hr h=>?_
 obtain ⟨a,fp,m,i,rfl,hh,hi,k⟩:=h
 refine ⟨_,(am (bA (dA (iH ia pI ah (pv 1) (eG (pv 0) T.aC (bV (K:=K) T) .nil hr.m))) (am bY) aJ)),?_⟩
 try dsimp only [fb,aR]
 obtain ⟨⟨dx,pm,pf,ps,pt,vm,vs,vt,aw,mX,ha,_⟩,_⟩:=id hh
 refine ⟨_,rfl,_,_,rfl,rfl,_,rfl,nJ (by lia) ⟨_,rfl,a,dx,_,rfl,ha,rfl,a,fp,m,rfl,hh,_,_,rfl,rfl,_,rfl,?_⟩⟩
 exact ff (by lia) k
theorem lq (T:Txt K mg Ad):iG P w K mg base Ad.aW "sky" 4 ["self","room"] [] (HL K Ad.aW):=by
 refine T.xj.gQ vg λ f bx A outer s H vs Q E hr h=>?_
 obtain ⟨a,fp,m,i,z,rfl,hh,hz,k⟩:=h
 refine ⟨_,(af (bi (aN (pv 0) T.aC (bq (K:=K) T) .nil hr.m (aa (pv 1) ac)))
     (am (aF (aG aD (bR (pv 0) rfl) (pv 1) (λ _ _=>rfl))))),?_⟩
 try dsimp only [fb,aR]
 obtain ⟨⟨dx,pm,pf,ps,pt,vm,vs,vt,aw,mX,ha,jo,eK,gG,eL,eQ,n1,n2,n3,dm,ds,dt,df,fk⟩,q1,q2,q3,q4⟩:=id hh
 have hi:i<m.rows.length:=by rw [← q1];exact (List.getElem?_eq_some_iff.mp hz).1
 obtain ⟨v,ev,dv⟩:=ds.get (i:=i) (d:=kK z) (by rw [Jl,hz];rfl)
 refine ⟨_,rfl,a,dx,_,rfl,ha,rfl,_,rfl,a,fp,m,i,rfl,hh,hi,?_⟩
 exact ⟨_,rfl,a,_,dx,_,_,rfl,ha,T.aC,T.dk,iB ..,_,rfl,_,_,_,_,rfl,rfl,.inl (aV.of eL),jO ev,k v dv⟩
theorem c7 (T:Txt K mg Ad):iG P w K mg base Ad.aW "stove" 4 ["self","room"] [] (Af K Ad.aW):=by
 refine T.sF.gQ pV λ f bx A outer s H vs Q E hr h=>?_
 obtain ⟨a,fp,m,i,z,rfl,hh,hz,k⟩:=h
 refine ⟨_,(af (bi (aN (pv 0) T.aC (bq (K:=K) T) .nil hr.m (aa (pv 1) ac)))
     (am (aF (aG aD (bR (pv 0) rfl) (pv 1) (λ _ _=>rfl))))),?_⟩
 try dsimp only [fb,aR]
 obtain ⟨⟨dx,pm,pf,ps,pt,vm,vs,vt,aw,mX,ha,jo,eK,gG,eL,eQ,n1,n2,n3,dm,ds,dt,df,fk⟩,q1,q2,q3,q4⟩:=id hh
 have hi:i<m.rows.length:=by rw [← q2];exact (List.getElem?_eq_some_iff.mp hz).1
 obtain ⟨v,ev,dv⟩:=dt.get (i:=i) (d:=fZ z) (by rw [Jl,hz];rfl)
 refine ⟨_,rfl,a,dx,_,rfl,ha,rfl,_,rfl,a,fp,m,i,rfl,hh,hi,?_⟩
 exact ⟨_,rfl,a,_,dx,_,_,rfl,ha,T.aC,T.fy,kz ..,_,rfl,_,_,_,_,rfl,rfl,.inl (aV.of eQ),jO ev,k v dv⟩
theorem d6 (T:Txt K mg Ad):iG P w K mg base Ad.aW "marks" 4 ["self","room"] [] (BY K Ad.aW):=by
 refine T.rT.gQ p9 λ f bx A outer s H vs Q E hr h=>?_
 obtain ⟨a,fp,m,i,r,rfl,hh,hz,k⟩:=h
 refine ⟨_,(af (bi (aN (pv 0) T.aC (bq (K:=K) T) .nil hr.m (aa (pv 1) ac)))
     (am (aF (eA lN (by rfl) T.Bc xS (aa (aG aD (bR (pv 0) rfl) (pv 1) (λ _ _=>rfl)) ac))))),?_⟩
 try dsimp only [fb,aR]
 obtain ⟨⟨dx,pm,pf,ps,pt,vm,vs,vt,aw,mX,ha,jo,eK,gG,eL,eQ,n1,n2,n3,dm,ds,dt,df,fk⟩,q1,q2,q3,q4⟩:=id hh
 have hi:i<m.rows.length:=(List.getElem?_eq_some_iff.mp hz).1
 obtain ⟨v,ev,b,xs,rfl,hq,dv⟩:=dm.get (i:=i) (d:=qg r) (by rw [Jl,hz];rfl)
 refine ⟨_,rfl,a,dx,_,rfl,ha,rfl,_,rfl,a,fp,m,i,rfl,hh,hi,?_⟩
 exact ⟨_,rfl,a,_,dx,_,_,rfl,ha,T.aC,T.cO,oy ..,_,rfl,_,_,_,_,rfl,rfl,.inl (aV.of eK),jO ev,b,xs,rfl,.inr hq,λ p hp=>k p xs hp dv⟩
theorem gF (T:Txt K mg Ad):iG P w K mg base Ad.aW "own_share" 4 ["self","room"] [] (Gq K Ad.aW):=by
 refine T.mo.gQ dH λ f bx A outer s H vs Q E hr h=>?_
 obtain ⟨a,fp,m,i,rfl,hh,hi,k⟩:=h
 refine ⟨_,(af (aB (i:=2) dH.nd rfl (lc rfl) (ak (uf (K:=K) T) hr.m (aa (fP (v:=V.ref _) rfl T.xR rfl) (aa (aG aD (aG aD (bR (pv 0) rfl) (pv 1) (λ _ _=>rfl)) ah (λ _ _=>rfl)) ac))))
     (af (dB ada rfl (bP rfl T.cT (aa (eG (pv 0) T.aC (bV (K:=K) T) .nil hr.m) ac)) (aE (i:=3) dH.nd rfl (lc rfl)) (am (aB (i:=2) dH.nd rfl (lc rfl) (ak (uf (K:=K) T) hr.m (aa (pv 2) (aa (vh (cF hr) (bR (pv 0) rfl) (b9 (aa (pv 1) (aa (pv 3) ac))) (fP (v:=V.ref _) rfl T.gD rfl) ⟨rfl,rfl,rfl,rfl⟩) ac))))))
     (am (aF (pv 2))))),?_⟩
 try dsimp only [fb,aR]
 first|(refine dX ?_;intro _ _ _ _)|skip
 obtain ⟨⟨dx,pm,pf,ps,pt,vm,vs,vt,aw,mX,ha,jo,eK,gG,eL,eQ,n1,n2,n3,dm,ds,dt,df,fk⟩,q1,q2,q3,q4⟩:=id hh
 have Qc:i<m.aX.length:=by rw [q1];exact hi
 have hz:=au Qc
 obtain ⟨v,ev,dv⟩:=ds.get (i:=i) (d:=kK m.aX[i]) (by rw [Jl,hz];rfl)
 obtain ⟨p0,v1,v2,v3,rfl,yQ,d1,d2,d3⟩:=dv.ce
 obtain ⟨p1,rfl,Cc⟩:=d1.fr
 have es:m.aX[i].1=m.dZ i:=by unfold al.dZ;rw [hz];rfl
 have o1:dR 100 m.aX[i].1:=es ▸ q4.dZ i
 refine ⟨_,rfl,a,_,dx,_,_,rfl,ha,T.aC,T.dk,iB ..,_,rfl,_,_,_,_,rfl,rfl,.inl (aV.of eL),jO ev,_,_,_,_,rfl,rfl,.inr yQ,rfl,?_⟩
 refine ⟨Ad.qz,p1,1,1,_,_,rfl,T.xW.at H,Cc,by decide,o1.p,o6,o6,o1.t.mono (by decide),o1.b.mono (by decide),λ q r u H1 F s1 hu=>?_⟩
 have e0:(q,r)=m.fu i 0:=by
   have:=F.nf (adi (by decide) o1.p)
   rw [this]
   unfold al.fu kx
   rw [← es];rfl
 refine ⟨_,rfl,a,dx,_,rfl,s1 _ _ ha,rfl,a,fp,m,rfl,aM.same s1 hh,_,rfl,by lia,by lia,?_⟩
 refine pP (lo:=0) (n:=m.rows.length) (λ j U H'=>aA H H'/\E2 λ (u:Addr) (x:Option V)=>H' u=some (.tup [.int (m.fu i j).1,.int (m.fu i j).2])/\U=[some (.ref a),some (ar i),some (.ref u),x])
   ⟨s1,u,none,by rw [← e0];exact hu,rfl⟩ ?_ ?_
 .
  rintro _ j U H2 hj ⟨s2,u,x,hu,rfl⟩
  have oj:=(q4.fu i j).mono (show 201+101 * j<=1000 by lia)
  obtain ⟨of,ot⟩:True/\True:=⟨trivial,trivial⟩
  refine ⟨_,rfl,_,rfl,a,_,dx,_,_,rfl,s2 _ _ ha,T.aC,T.fS,mh ..,_,rfl,.inr ⟨_,.inl (s2 _ _ gG)⟩,_,rfl,_,rfl,zB,λ kp vX=>?_⟩
  have s3:=ai (o:=.tup [ar i,.int (0+(j:Int))]) vX
  have ph:(upd H2 kp (.tup [ar i,.int (0+(j:Int))])) kp=some (.tup ((fE i j).map kV)):=by rw [ag,ac3];rfl
  refine ⟨_,f6.t (s3 _ _ (s2 _ _ gG)) ph,?_⟩
  have dfl:Dn K (upd H2 kp (.tup [ar i,.int (0+(j:Int))])) (dE (m.eO i j)) ((fm aw (fE i j)).getD (.ref Ad.iX)):=by
    have:=(aM.same (s2.trans s3) hh).ex
    have q:=df i j
    refine Dn.same (s2.trans s3) _ (yd q (T.jq.fr (f:=(0,1))))
  obtain ⟨pf1,ef1,hf1⟩:=dfl.fr
  have Fx:=q4.eO i j
  rw [ef1]
  refine ⟨u,pf1,_,_,_,_,rfl,bU.of (s3 _ _ hu),hf1,oj.p,Fx.p,oj.t,oj.b,Fx.t.mono (by decide),Fx.b.mono (by decide),λ q r u' H4 F s4 IR=>?_⟩
  refine ⟨s2.trans (s3.trans s4),u',_,?_,rfl⟩
  have:=F.nf (adi oj.p Fx.p)
  rw [IR,al.i3]
  unfold kx
  rw [← this]
 . rintro U H2 ⟨s2,u,x,hu,rfl⟩
   exact ⟨_,rfl,k _ H2 s2 (ko (bU.of hu))⟩
theorem jT (T:Txt K mg Ad):iG P w K mg base Ad.aW "share" 5 ["self","into","of"] [] (Be K Ad.aW):=by
 refine T.sJ.gQ p8 λ f bx A outer s H vs Q E hr h=>?_
 obtain ⟨a,fp,m,i,j,rfl,hh,hi,hj,k⟩:=h
 refine ⟨_,(af (bi (aN (pv 0) T.aC (bq (K:=K) T) .nil hr.m (aa (pv 1) ac)))
     (af (bi (aN (pv 0) T.aC (bq (K:=K) T) .nil hr.m (aa (pv 2) ac)))
     (af (bA (aU jk (pv 1) (pv 2) (aZ _)) (am (aF (aN (pv 0) T.aC (gF (K:=K) T) .nil hr.m (aa (pv 1) ac)))) aJ)
     (am (aF (vh (cF hr) (bR (pv 0) rfl) (b9 (aa (pv 1) (aa (pv 2) ac))) (fP (v:=V.ref _) rfl T.gD rfl) ⟨rfl,rfl,rfl,rfl⟩)))))),?_⟩
 try dsimp only [fb,aR]
 first|(refine dU ?_;intro _ _ _ _ _)|skip
 obtain ⟨⟨dx,pm,pf,ps,pt,vm,vs,vt,aw,mX,ha,jo,eK,gG,eL,eQ,n1,n2,n3,dm,ds,dt,df,fk⟩,q1,q2,q3,q4⟩:=id hh
 refine ⟨_,rfl,a,dx,_,rfl,ha,rfl,_,rfl,a,fp,m,i,rfl,hh,hi,⟨_,rfl,a,dx,_,rfl,ha,rfl,_,rfl,a,fp,m,j,rfl,hh,hj,?_⟩⟩
 refine ⟨_,rfl,_,rfl,rfl,_,rfl,?_⟩
 by_cases qv:i=j
 . subst qv
   refine nJ rfl ⟨_,rfl,a,dx,_,rfl,ha,rfl,_,rfl,a,fp,m,i,rfl,hh,hi,λ v H' s' dv=>k v H' s' ?_⟩
   rw [al.share,abS rfl];exact dv
 .
  refine mw (λ e=>qv (by have:=ft.mp e;lia)) ?_
  refine ⟨_,rfl,a,_,dx,_,_,rfl,ha,T.aC,T.fS,mh ..,_,rfl,.inr ⟨_,.inl gG⟩,_,rfl,_,rfl,zB,λ kp vX=>?_⟩
  have s3:=ai (o:=.tup [ar i,ar j]) vX
  have ph:(upd H kp (.tup [ar i,ar j])) kp=some (.tup ((fE i j).map kV)):=by rw [ag];rfl
  refine ⟨_,f6.t (s3 _ _ gG) ph,k _ _ s3 ?_⟩
  rw [al.share,abZ qv]
  exact Dn.same s3 _ (yd (df i j) (T.jq.fr (f:=(0,1))))
theorem fw (T:Txt K mg Ad):iG P w K mg base Ad.aW "look_at_share" 5 ["self","room","share","former"] [] (DV K Ad.aW):=by
 refine T.jU.gQ fJ λ f bx A outer s H vs Q E hr h=>?_
 obtain ⟨a,fp,m,i,v1,v2,f,g,rfl,hh,hi,d1,d2,o1,o2,hf,hu,k⟩:=h
 refine ⟨_,(af (aB (i:=4) fJ.nd rfl (lc rfl) (ak (Es (K:=K) T) hr.m (aa (aN (pv 0) T.aC (gF (K:=K) T) .nil hr.m (aa (pv 1) ac)) (aa (pv 3) ac))))
     (am (bA (PW.pt (pC (cy (ak (fA (K:=K) T) hr.m (aa (pv 2) (aa (fP (v:=V.ref _) rfl T.gD rfl) ac)))) (ma (cy (ak (fA (K:=K) T) hr.m (aa (pv 4) (aa (pv 2) ac))))))) (am bY) aJ))),?_⟩
 try dsimp only [fb,aR]
 obtain ⟨⟨dx,pm,pf,ps,pt,vm,vs,vt,aw,mX,ha,jo,eK,gG,eL,eQ,n1,n2,n3,dm,ds,dt,df,fk⟩,q1,q2,q3,q4⟩:=id hh
 obtain ⟨p1,rfl,hp1⟩:=d1.fr
 obtain ⟨p2,rfl,Ai⟩:=d2.fr
 refine ⟨_,rfl,a,dx,_,rfl,ha,rfl,_,rfl,a,fp,m,i,rfl,hh,hi,λ v H1 s1 dv=>⟨_,rfl,?_⟩⟩
 obtain ⟨p3,rfl,Fe⟩:=dv.fr
 have oo:dR 800 (m.own i):=(q4.fu i _).mono (by lia)
 refine ⟨p3,p2,_,_,_,_,rfl,Fe,s1.tup Ai,oo.p,o2.p,oo.t.mono (by decide),oo.b.mono (by decide),o2.t.mono (by decide),o2.b.mono (by decide),λ q r u H2 F s2 hu2=>?_⟩
 have e0:(q,r)=jz (m.own i) g:=F.nf (adi oo.p o2.p)
 have op:dR 950 (jz (m.own i) g):=(oo.plus o2).mono (by decide)
 rw [← e0] at op hu
 refine ⟨_,rfl,p1,Ad.iX,_,_,_,_,rfl,s2.tup (s1.tup hp1),T.jq.at _,o1.t.mono (by decide),o1.b.mono (by decide),o6,o6,_,rfl,mw (by lia) ?_⟩
 refine ⟨_,rfl,_,rfl,u,p1,_,_,_,_,rfl,bU.of hu2,s2.tup (s1.tup hp1),op.t.mono (by decide),op.b.mono (by decide),o1.t.mono (by decide),o1.b.mono (by decide),_,rfl,mw (afQ hu) (k _ (s1.trans s2))⟩
theorem lD (T:Txt K mg Ad):iG P w K mg base Ad.aW "put_flow" 6 ["self","into","of","share"] [] (uw K Ad.aW):=by
 refine T.nc.gQ mj λ f bx A outer s H vs Q E hr h=>?_
 obtain ⟨a,fp,m,i,j,v,f,rfl,hh,hi,hj,qv,dv,o1,hf,hu,k⟩:=h
 refine ⟨_,(af (bi (aN (pv 0) T.aC (bq (K:=K) T) .nil hr.m (aa (pv 1) ac)))
     (af (bi (aN (pv 0) T.aC (bq (K:=K) T) .nil hr.m (aa (pv 2) ac)))
     (af (bA (aU jk (pv 1) (pv 2) (aZ _)) (am bY) aJ)
     (af (bi (aN (pv 0) T.aC (fw (K:=K) T) .nil hr.m (aa (pv 1) (aa (pv 3) (aa (aN (pv 0) T.aC (jT (K:=K) T) .nil hr.m (aa (pv 1) (aa (pv 2) ac))) ac)))))
     (am (n9 (cF hr) (bR (pv 0) rfl) (b9 (aa (pv 1) (aa (pv 2) ac))) (pv 3) rfl)))))),?_⟩
 try dsimp only [fb,aR]
 first|(refine oA ?_;intro _ _ _ _ _ _)|skip
 obtain ⟨⟨dx,pm,pf,ps,pt,vm,vs,vt,aw,mX,ha,jo,eK,gG,eL,eQ,n1,n2,n3,dm,ds,dt,df,fk⟩,q1,q2,q3,q4⟩:=id hh
 refine ⟨_,rfl,a,dx,_,rfl,ha,rfl,_,rfl,a,fp,m,i,rfl,hh,hi,⟨_,rfl,a,dx,_,rfl,ha,rfl,_,rfl,a,fp,m,j,rfl,hh,hj,?_⟩⟩
 refine ⟨_,rfl,_,rfl,rfl,_,rfl,mw (λ e=>qv (by have:=ft.mp e;lia)) ?_⟩
 refine ⟨_,rfl,a,dx,_,rfl,ha,rfl,_,rfl,_,rfl,_,rfl,a,dx,_,rfl,ha,rfl,_,rfl,_,rfl,a,fp,m,i,j,rfl,hh,hi,hj,λ z H1 s1 dz=>?_⟩
 rw [al.share,abZ qv] at dz
 refine ⟨a,fp,m,i,v,z,f,_,rfl,hh.same s1,hi,Dn.same s1 _ dv,dz,o1,q4.eO i j,hf,hu,λ H2 s2=>?_⟩
 have s12:=s1.trans s2
 refine ⟨_,rfl,_,rfl,a,_,dx,_,_,rfl,s12 _ _ ha,T.aC,T.fS,mh ..,_,rfl,_,rfl,zB,λ kp vX=>?_⟩
 have s3:=ai (o:=.tup [ar i,ar j]) vX
 have ph:(upd H2 kp (.tup [ar i,ar j])) kp=some (.tup ((fE i j).map kV)):=by rw [ag];rfl
 have sA:=s12.trans s3
 refine ⟨_,_,rfl,p7.t (sA _ _ gG) ph (ac1 fk.len (by decide)),k _ fp (zj hh sA ha gG (by lia) (by lia) (Dn.same sA _ dv) o1)⟩
theorem mG (T:Txt K mg Ad):iG P w K mg base Ad.aW "put_sky" 6 ["self","room","share","low","high"] [] (wr K Ad.aW):=by
 refine T.px.gQ nr λ f bx A outer s H vs Q E hr h=>?_
 obtain ⟨a,fp,m,i,v1,v2,v3,f,lo,hi,rfl,hh,GC,d1,d2,d3,o1,o2,o3,hlh,hf,hu,k⟩:=h
 refine ⟨_,(af (bi (aN (pv 0) T.aC (bq (K:=K) T) .nil hr.m (aa (pv 1) ac)))
     (af (bA (cy (ak (fA (K:=K) T) hr.m (aa (pv 4) (aa (pv 3) ac)))) (am bY) aJ)
     (af (bi (aN (pv 0) T.aC (fw (K:=K) T) .nil hr.m (aa (pv 1) (aa (pv 2) (aa (aG aD (aG aD (bR (pv 0) rfl) (pv 1) (λ _ _=>rfl)) ah (λ _ _=>rfl)) ac)))))
     (am (gC (b9 (aa (pv 2) (aa (pv 3) (aa (pv 4) ac)))) (pr (bR (pv 0) rfl) (pv 1) set_list)))))),?_⟩
 try dsimp only [fb,aR]
 first|(refine dU ?_;intro _ _ _ _ _)|skip
 obtain ⟨⟨dx,pm,pf,ps,pt,vm,vs,vt,aw,mX,ha,jo,eK,gG,eL,eQ,n1,n2,n3,dm,ds,dt,df,fk⟩,q1,q2,q3,q4⟩:=id hh
 obtain ⟨p2,rfl,Ai⟩:=d2.fr
 obtain ⟨p3,rfl,Fe⟩:=d3.fr
 have Qc:i<m.aX.length:=by rw [q1];exact GC
 have hz:=au Qc
 obtain ⟨v,ev,dv⟩:=ds.get (i:=i) (d:=kK m.aX[i]) (by rw [Jl,hz];rfl)
 obtain ⟨p0,w1,w2,w3,rfl,yQ,e1,e2,e3⟩:=dv.ce
 have es:m.aX[i].1=m.dZ i:=by unfold al.dZ;rw [hz];rfl
 rw [es] at e1
 refine ⟨_,rfl,a,dx,_,rfl,ha,rfl,_,rfl,a,fp,m,i,rfl,hh,GC,?_⟩
 refine ⟨_,rfl,_,rfl,p3,p2,_,_,_,_,rfl,Fe,Ai,o3.t.mono (by decide),o3.b.mono (by decide),o2.t.mono (by decide),o2.b.mono (by decide),_,rfl,mw (afQ hlh) ?_⟩
 refine ⟨_,rfl,a,dx,_,rfl,ha,rfl,_,rfl,_,rfl,_,rfl,a,_,dx,_,_,rfl,ha,T.aC,T.dk,iB ..,_,rfl,_,_,_,_,rfl,rfl,.inl (aV.of eL),jO ev,_,_,_,_,rfl,rfl,.inr yQ,rfl,?_⟩
 refine ⟨a,fp,m,i,v1,w1,f,_,rfl,hh,GC,d1,e1,o1,q4.dZ i,hf,hu,λ H2 s2=>?_⟩
 refine ⟨_,rfl,_,rfl,_,rfl,Ih,λ kp vX=>?_⟩
 have s3:=ai (o:=.tup [v1,.ref p2,.ref p3]) vX
 have sA:=s2.trans s3
 have hl:vs.length=m.aX.length:=by rw [ds.length,xq]
 refine ⟨_,rfl,a,_,dx,_,_,rfl,sA _ _ ha,T.aC,T.dk,iB ..,_,rfl,ps,vs,_,i,rfl,rfl,sA _ _ eL,sK (by lia),k _ fp (Ah hh sA ha eL (Ay (bU.of ag) (Dn.same sA _ d1) (Dn.same sA _ d2) (Dn.same sA _ d3)) ⟨o1,o2,o3⟩)⟩
theorem kR (T:Txt K mg Ad):LN P w K mg base Ad.aW "put_stove" "Hold.put_stove" bT (.ref Ad.fL) 4 ["self","room","heat","wood","stay","fails"] (kN K Ad.aW):=by
 refine T.lX.mok ly (λ vs H Q E h=>?_) (λ f _ _ _ s H vs Q E hr h=>?_)
 . obtain ⟨a,fp,m,i,v,f,w1,st,fl,rfl,_⟩:=h
   rfl
 .
  obtain ⟨a,fp,m,i,v,f,w1,st,fl,rfl,hh,hi,dv,o1,hf,hw,nW,zF,k⟩:=h
  refine ⟨_,(af (bi (aN (pv 0) T.aC (bq (K:=K) T) .nil hr.m (aa (pv 1) ac)))
    (af (bA (cy (ak (fA (K:=K) T) hr.m (aa (pv 2) (aa (fP (v:=V.ref _) rfl T.gD rfl) ac)))) (am bY) aJ)
    (af (bA (dA (cy (ak (cp (K:=K) T) hr.m (aa (pv 3) (aa (eP rfl T.uI) ac))))) (am bY) aJ)
    (af (bA (dA (cy (ak (cp (K:=K) T) hr.m (aa (pv 4) (aa (eP rfl T.ut) ac))))) (am bY) aJ)
    (af (bA (dA (cy (ak (cp (K:=K) T) hr.m (aa (pv 5) (aa (eP rfl T.tp) ac))))) (am bY) aJ)
    (am (gC (b9 (aa (pv 2) (aa (pv 3) (aa (pv 4) (aa (pv 5) ac))))) (pr (bR (pv 0) rfl) (pv 1) set_list)))))))),?_⟩
  try dsimp only [fb,aR]
  first|(refine oP ?_;intro _ _ _ _ _ _ _)|skip
  obtain ⟨⟨dx,pm,pf,ps,pt,vm,vs,vt,aw,mX,ha,jo,eK,gG,eL,eQ,n1,n2,n3,dm,ds,dt,df,fk⟩,q1,q2,q3,q4⟩:=id hh
  obtain ⟨p,rfl,hp⟩:=dv.fr
  refine ⟨_,rfl,a,dx,_,rfl,ha,rfl,_,rfl,a,fp,m,i,rfl,hh,hi,?_⟩
  refine ⟨_,rfl,p,Ad.iX,_,_,_,_,rfl,hp,T.jq.at _,o1.t.mono (by decide),o1.b.mono (by decide),o6,o6,_,rfl,mw (by lia) ?_⟩
  refine ⟨_,rfl,w1,9,rfl,_,rfl,ff hw ⟨_,rfl,st,3,rfl,_,rfl,ff nW ⟨_,rfl,fl,3,rfl,_,rfl,ff zF ?_⟩⟩⟩
  refine ⟨_,rfl,_,rfl,_,rfl,_,rfl,Ic,λ kp vX=>?_⟩
  have sA:=ai (o:=.tup [.ref p,.int w1,.int st,.int fl]) vX
  have hl:vt.length=m.ax.length:=by rw [dt.length,xq]
  exact ⟨_,rfl,a,_,dx,_,_,rfl,sA _ _ ha,T.aC,T.fy,kz ..,_,rfl,pt,vt,_,i,rfl,rfl,sA _ _ eQ,sK (by lia),k _ fp (wK (z:=(f,w1,st,fl)) hh sA ha eQ (ek (bU.of ag) (aO (Dn.same sA _ dv) (aO rfl (aO rfl (aO rfl eM))))) o1)⟩
theorem jw (T:Txt K mg Ad):um P w K mg base Ad.aW "put_stove" 4 ["self","room","heat","wood","stay","fails"] [] (kN K Ad.aW) :=
 (kR T).Db T.mm λ items hv=>by
   obtain ⟨u1,u2,u3,rfl,r1,r2,r3⟩:=vals3 hv
   exact ⟨[],.nil,λ _ _ _ _ _ _ us hl=>match us,hl with | [_,_,_,_,_,_],_=>⟨_,rfl,rfl⟩⟩
theorem lv (T:Txt K mg Ad):Def P w K mg base "bands_together" 1 ["rows"] (AV K):=by
 refine T.mC.cE dC λ f bx A outer s H vs Q E hr h=>?_
 obtain ⟨p,xs,rs,rfl,hq,hd,hl,FJ,k⟩:=h
 refine ⟨_,(af (aB (i:=1) dC.nd rfl (lc rfl) ah)
     (af (dB ada rfl (cB (pv 0)) (aE (i:=2) dC.nd rfl (lc rfl)) (am (aB (i:=1) dC.nd rfl (lc rfl) (ay br (pv 1) (ay dF (bh bJ (by rfl) T.fW d9 (aa (pv 2) ac)) ah)))))
     (am (aF (pv 1))))),?_⟩
 try dsimp only [fb,aR]
 first|(refine dX ?_;intro _ _ _ _)|skip
 have Ij:xs.length=rs.length:=by rw [hd.length,xq]
 refine ⟨_,rfl,p,rfl,⟨xs,hq⟩,?_⟩
 refine jX (xs:=xs) (λ i U H'=>H'=H/\∃ (x:Option V),Bd (1+3 * i) (i7 (rs.take i))/\U=[some (.ref p),some (.int (i7 (rs.take i))),x]) ⟨rfl,none,(by show Bd 1 (i7 []);exact o6),rfl⟩ (λ i U H' _ e=>by rw [e.1];exact hq) ?_ ?_
 .
  rintro _ i x U H' hx ⟨rfl,y,hb,rfl⟩
  have hi:i<rs.length:=by rw [← Ij];exact (List.getElem?_eq_some_iff.mp hx).1
  obtain ⟨v,ev,b,ys,rfl,Cg,dv⟩:=hd.get (i:=i) (d:=qg rs[i]) (by rw [Jl,au hi];rfl)
  obtain rfl:x = .ref b:=aba (hx.symm.trans ev)
  have hlen:=FJ rs[i] (aaY hi)
  have el:ys.length=rs[i].length:=by rw [dv.length,xq]
  refine ⟨_,rfl,_,rfl,_,_,rfl,.inr Cg,λ n en=>⟨_,_,rfl,rfl,λ u eu=>⟨_,_,rfl,rfl,?_,λ z ez=>?_⟩⟩⟩
  . exact ⟨_,3,hb,(show u.natAbs<2 ^ 3 by lia),(show 1+3 * i+3<=_ by lia)⟩
  .
   have e1:z=i7 (rs.take (i+1)):=by
     rw [ez,eu,en,el]
     unfold i7
     rw [adS,au hi,adw];rfl
   refine ⟨rfl,_,?_,by rw [← e1];rfl⟩
   rw [← e1,ez]
   exact (hb.mul (show u.natAbs<2 ^ 3 by lia)).mono (by lia)
 .
  rintro U H' ⟨rfl,y,hb,rfl⟩
  refine ⟨_,rfl,?_⟩
  rw [Ij,adg]
  exact k
theorem su (T:Txt K mg Ad):Def P w K mg base "is_rising" 2 ["marks"] (zr K):=by
 refine T.uP.cE sY λ f bx A outer s H vs Q E hr h=>?_
 obtain ⟨p,xs,r,rfl,hq,hd,ho,hl,k⟩:=h
 refine ⟨_,(am (aF (bh (qU rfl) (by rfl) T.Fp AU (aa (hX ["low","high"] [] [] .nil rfl (Hl rfl T.Jr (aa (pv 0) (aa (jr rC (pv 0) (jj ah) se) ac))) (λ _ _ _ _ _=>(eZ (K:=K) (n:=2) rfl rfl (aT (aE (i:=0) (show (["low","high"]:List Str).Nodup by decide +kernel) rfl (lc rfl)) (aT (aE (i:=1) (show (["low","high"]:List Str).Nodup by decide +kernel) rfl (lc rfl)) eX)))) (λ _ _ _ _ _=>dI) (λ _ _ _ _ _=>(ak (fA (K:=K) T) hr.m (aa (pv 0) (aa (pv 1) ac)))) rfl (by decide +kernel) (by decide +kernel) (by decide +kernel)) ac)))),?_⟩
 try dsimp only [fb,aR]
 refine ⟨_,rfl,_,rfl,1,rfl,p,xs,rfl,hq,λ p2 Ai=>?_⟩
 have s2:=ai (o:=.lst (mE xs (some 1) none)) Ai
 rw [Bq] at s2 ⊢
 have Ij:xs.length=r.length:=by rw [hd.length,xq]
 refine ⟨p,p2,rfl,⟨xs,s2.seq hq⟩,⟨xs.tail,aV.of ag⟩,λ D hD=>?_⟩
 have hml:min xs.length xs.tail.length=(List.zipWith bv r r.tail).length:=by rw [List.length_zipWith,List.length_tail,List.length_tail,Ij]
 refine Bz (K:=K) (a:=p) (b:=p2) (xs:=xs) (ys:=xs.tail) (λ i acc U H'=>A4 (aA (upd H p2 (.lst xs.tail)) H') (H' D=some (.lst acc)) (acc=((List.zipWith bv r r.tail).take i).map V.bl) (E2 λ v0 v1=>U=[v0,v1]))
   ⟨ai hD,ag,rfl,none,none,rfl⟩ (λ i acc U H' _ e=>⟨e.1.seq (s2.seq hq),e.1.seq (aV.of ag)⟩) ?_ ?_
 .
  rintro i x y pp acc U H' hx hy sL ⟨s3,iI,rfl,v0,v1,rfl⟩
  rw [aeV] at hy
  have h1:i+1<r.length:=by rw [← Ij];exact (List.getElem?_eq_some_iff.mp hy).1
  obtain ⟨u,eu,du⟩:=hd.get (i:=i) (d:=dE r[i]) (by rw [Jl,au (by lia)];rfl)
  obtain rfl:x=u:=aba (hx.symm.trans eu)
  obtain ⟨v,ev,dv⟩:=hd.get (i:=i+1) (d:=dE r[i+1]) (by rw [Jl,au h1];rfl)
  obtain rfl:y=v:=aba (hy.symm.trans ev)
  obtain ⟨a1,rfl,g1⟩:=du.fr
  obtain ⟨a2,rfl,g2⟩:=dv.fr
  have o1:=ho r[i] (aaY _)
  have o2:=ho r[i+1] (aaY _)
  have s4:aA H' (upd H' pp (.tup [.ref a1,.ref a2])):=ai sL
  have s5:=s2.trans (s3.trans s4)
  have nD:D≠pp:=aq iI sL
  refine ⟨pp,_,rfl,bU.of ag,rfl,_,_,rfl,_,_,rfl,rfl,?_⟩
  refine ⟨_,rfl,_,rfl,a1,a2,_,_,_,_,rfl,s5.tup g1,s5.tup g2,o1.t.mono (by decide),o1.b.mono (by decide),o2.t.mono (by decide),o2.b.mono (by decide),?_⟩
  have hb:=wV (au (show i<r.length by lia)) (au h1)
  refine ⟨by rw [av nD];exact iI,?_,aA.put (s3.trans s4) hD,ag,?_,_,_,rfl⟩
  . rw [xq,acB]
    have:(7:Nat)<sizeLine:=by decide
    rw [← hml]
    lia
  . rw [adS,hb,My]
    rfl
 . rintro acc U H' ⟨s3,iI,rfl,v0,v1,rfl⟩
   rw [hml,adg] at iI
   exact ⟨D,_,rfl,aV.of iI,k _ (s2.trans s3)⟩
theorem lB (T:Txt K mg Ad):iG P w K mg base Ad.aW "put_room" 3 ["self","marks"] [] (uj K Ad.aW):=by
 refine T.nk.gQ ix λ f bx A outer s H vs Q E hr h=>?_
 obtain ⟨a,fp,m,p,xs,r,rfl,hh,h4,hq,hd,ho,Kj,MX,LU,hb,k⟩:=h
 refine ⟨_,(af (bA (aU JM (eG (pv 0) T.aC (bV (K:=K) T) .nil hr.m) (eP rfl T.sI) (aZ _)) (am bY) aJ)
     (af (bA (dA (iH ia ia (eP rfl T.qk) (bh bJ (by rfl) T.fW d9 (aa (pv 1) ac)) (eP rfl T.rD))) (am bY) aJ)
     (af (bA (dA (cy (ak (su (K:=K) T) hr.m (aa (pv 1) ac)))) (am bY) aJ)
     (af (aB (i:=2) ix.nd rfl (lc rfl) (ay zQ (bR (pv 0) rfl) (cG (aa (eA dh (by rfl) T.j7 ip (aa (pv 1) ac)) ac))))
     (af (bA (aU tV (ak (lv (K:=K) T) hr.m (aa (pv 2) ac)) (eP rfl T.sQ) (aZ _)) (am bY) aJ)
     (af (ie (pv 0) (pv 2) rfl)
     (af (bi (il ac4 adc adb cH (bR (pv 0) rfl) (aa (b9 (aa (fP (v:=V.ref _) rfl T.gD rfl) (aa (fP (v:=V.ref _) rfl T.gD rfl) (aa (fP (v:=V.ref _) rfl T.gD rfl) ac)))) ac)))
     (af (bi (il ac4 adc adb cH (bR (pv 0) rfl) (aa gA ac)))
     (am (aF (ay dF (eG (pv 0) T.aC (bV (K:=K) T) .nil hr.m) ah))))))))))),?_⟩
 try dsimp only [fb,aR]
 first|(refine Bx ?_;intro _ _ _ _ _ _ _ _ _ _)|skip
 obtain ⟨⟨dx,pm,pf,ps,pt,vm,vs,vt,aw,mX,ha,jo,eK,gG,eL,eQ,n1,n2,n3,dm,ds,dt,df,fk⟩,q1,q2,q3,q4⟩:=id hh
 have Ij:xs.length=r.length:=by rw [hd.length,xq]
 have lm:vm.length=m.rows.length:=by rw [dm.length,xq]
 have ls:vs.length=m.aX.length:=by rw [ds.length,xq]
 have lt:vt.length=m.ax.length:=by rw [dt.length,xq]
 have szl:(7:Nat)<sizeLine:=by decide
 refine ⟨_,rfl,a,dx,_,rfl,ha,rfl,a,fp,m,rfl,hh,_,_,rfl,rfl,_,rfl,mw (by lia) ?_⟩
 refine ⟨_,rfl,_,_,rfl,.inl hq,λ n en=>⟨_,_,rfl,rfl,_,rfl,nJ (by lia) ⟨_,_,rfl,rfl,_,rfl,ff (by lia) ?_⟩⟩⟩
 refine ⟨_,rfl,p,xs,r,rfl,hq,hd,ho,MX,λ H1 s1=>⟨_,rfl,?_⟩⟩
 rw [LU]
 refine gz ?_
 refine ⟨_,rfl,a,_,dx,_,_,rfl,s1 _ _ ha,T.aC,T.cO,oy ..,_,rfl,p,xs,rfl,.inl ⟨s1.seq hq,λ kt Nf=>⟨Ke,λ kl hkl=>?_⟩⟩⟩
 have s2:=s1.trans (ai (o:=.tup xs) Nf)
 have s3:=s2.trans (ai (o:=.lst [.ref kt]) hkl)
 refine ⟨pm,kl,vm,[.ref kt],rfl,rfl,s3 _ _ eK,ag,by rw [adp];lia,λ p3 Fe=>?_⟩
 have s3':aA (upd H1 kt (.tup xs)) _:=(ai (o:=.lst [.ref kt]) hkl).trans (ai (o:=.lst (vm++[.ref kt])) Fe)
 have s4:=s3.trans (ai (o:=.lst (vm++[.ref kt])) Fe)
 have dr:Dn K (upd (upd (upd H1 kt (.tup xs)) kl (.lst [.ref kt])) p3 (.lst (vm++[.ref kt]))) (qg r) (.ref kt):=ek (bU.of (s3' _ _ ag)) (bI.same s4 _ hd)
 refine ⟨_,rfl,p3,_,m.rows++[r],rfl,aV.of ag,?_,by rw [aaD,adp];lia,?_,_,_,rfl,rfl,_,rfl,mw (by lia) ?_⟩
 . rw [My]
   exact (bI.same s4 _ dm).snoc dr
 .
  intro x hx
  rcases List.mem_append.mp hx with h|h
  . have:=q4.len x h;lia
  . rw [List.mem_singleton.mp h];lia
 refine ⟨_,rfl,_,rfl,a,_,dx,_,rfl,s4 _ _ ha,T.aC,T.cO,lt1000 rfl,?_⟩
 have Ir:H p3=none:=s3.free Fe
 have x3a:p3≠a:=(aq ha Ir).symm
 refine ⟨_,rfl,a,_,dx,_,_,rfl,ag,T.aC,T.dk,iB ..,?_⟩
 have Mf:=bj eL ha nofun
 have Mp:=bj eQ ha nofun
 have g1:=(av (H:=upd (upd (upd H1 kt (.tup xs)) kl (.lst [.ref kt])) p3 (.lst (vm++[.ref kt]))) (o:=.ins Ad.aW dx (bC "mark_rows" (.ref p3) (nU m pm pf ps pt))) Mf).trans (s4 _ _ eL)
 have g2:=(av (H:=upd (upd (upd H1 kt (.tup xs)) kl (.lst [.ref kt])) p3 (.lst (vm++[.ref kt]))) (o:=.ins Ad.aW dx (bC "mark_rows" (.ref p3) (nU m pm pf ps pt))) Mp).trans (s4 _ _ eQ)
 refine ⟨.inl ⟨rfl,vs,aV.of g1⟩,Ih,λ q0 yQ=>?_⟩
 have s5:=ai (o:=.tup [.ref Ad.iX,.ref Ad.iX,.ref Ad.iX]) yQ
 refine ⟨ps,vs,_,rfl,rfl,s5 _ _ g1,by lia,?_⟩
 have g3:=(av (o:=.lst (vs++[.ref q0])) n3.symm).trans (s5 _ _ g2)
 have g4:=(av (o:=.lst (vs++[.ref q0])) Mf.symm).trans (s5 _ _ ag)
 refine ⟨_,rfl,a,_,dx,_,_,rfl,g4,T.aC,T.fy,kz ..,.inl ⟨rfl,vt,aV.of g3⟩,pt,vt,_,rfl,rfl,g3,by lia,?_⟩
 obtain ⟨m7,D⟩:=ym (N:=Ad.iX) (r:=r) hh s4 ha eK eL eQ Ir ag dr h4 ho ⟨Kj,MX⟩ (λ H'=>T.jq.fr (f:=(0,1))) yQ
 obtain ⟨⟨wA,zG,tH,gy,oV,_,_,_,_,_,ha5,_⟩,_⟩:=id D.at_
 refine ⟨_,rfl,a,wA,_,rfl,ha5,rfl,a,m7,_,rfl,D.at_,_,_,rfl,rfl,λ z ez=>?_⟩
 have e:z=(m.rows.length:Int):=by
   rw [ez]
   show (((m.rows++[r]).length:Nat):Int) - 1=_
   rw [aaD,adp];lia
 rw [e]
 exact k _ m7 D
theorem md (T:Txt K mg Ad):LN P w K mg base Ad.aW "__init__" "Hold.__init__" b7 (.ref Ad.f8) 2 ["self","most","cap","load"] (yh K Ad.aW):=by
 refine T.ny.mok ml (λ vs H Q E h=>?_) (λ f _ _ _ s H vs Q E hr h=>?_)
 . obtain ⟨x,dx,most,gH,load,rfl,_⟩:=h
   rfl
 .
  obtain ⟨x,dx,most,gH,load,rfl,hx,jo,hm,hc,hl,k⟩:=h
  refine ⟨_,(af (bA (dA (cy (ak (cp (K:=K) T) hr.m (aa (pv 1) (aa (eP rfl T.oW) ac))))) (am bY) aJ)
    (af (bA (dA (cy (ak (cp (K:=K) T) hr.m (aa (pv 2) (aa (eP rfl T.xh) ac))))) (am bY) aJ)
    (af (bA (dA (cy (ak (cp (K:=K) T) hr.m (aa (pv 3) (aa (eP rfl T.va) ac))))) (am bY) aJ)
    (af (ie (pv 0) (pv 1) rfl)
    (af (ie (pv 0) (pv 2) rfl)
    (af (ie (pv 0) (pv 3) rfl)
    (af (ie (pv 0) (cG ac) rfl)
    (af (ie (pv 0) uN rfl)
    (af (ie (pv 0) (cG ac) rfl)
    (am (ie (pv 0) (cG ac) rfl))))))))))),?_⟩
  try dsimp only [fb,aR]
  first|(refine yo ?_;intro _ _ _ _ _ _ _ _ _ _ _)|skip
  refine ⟨_,rfl,most,4,rfl,_,rfl,ff hm ⟨_,rfl,gH,30,rfl,_,rfl,ff hc ⟨_,rfl,load,30,rfl,_,rfl,ff hl ?_⟩⟩⟩
  have B0:jL K Ad.aW x dx H H []:=.start hx
  refine ⟨_,rfl,_,rfl,x,_,dx,_,rfl,B0.at_,T.aC,T.iR,lt1000 rfl,?_⟩
  have B1:=B0.put (fs':=bC "most" (.int most) [])
  refine ⟨_,rfl,_,rfl,x,_,dx,_,rfl,B1.at_,T.aC,T.jv,lt1000 rfl,?_⟩
  have B2:=B1.put (fs':=bC "cap" (.int gH) (bC "most" (.int most) []))
  refine ⟨_,rfl,_,rfl,x,_,dx,_,rfl,B2.at_,T.aC,T.kQ,lt1000 rfl,?_⟩
  have B3:=B2.put (fs':=bC "load" (.int load) (bC "cap" (.int gH) (bC "most" (.int most) [])))
  refine ⟨adm _,λ p1 f1=>?_⟩
  have B4:=B3.new (o:=.lst []) f1
  refine ⟨_,rfl,x,_,dx,_,rfl,B4.at_,T.aC,T.cO,lt1000 rfl,λ p2 f2=>?_⟩
  have B5:=B4.put (fs':=bC "mark_rows" (.ref p1) (bC "load" (.int load) (bC "cap" (.int gH) (bC "most" (.int most) []))))
  have B6:=B5.new (o:=.dT []) f2
  refine ⟨_,rfl,x,_,dx,_,rfl,B6.at_,T.aC,T.fS,lt1000 rfl,adm _,λ p3 f3=>?_⟩
  have B7:=B6.put (fs':=bC "flows" (.ref p2) (bC "mark_rows" (.ref p1) (bC "load" (.int load) (bC "cap" (.int gH) (bC "most" (.int most) [])))))
  have B8:=B7.new (o:=.lst []) f3
  refine ⟨_,rfl,x,_,dx,_,rfl,B8.at_,T.aC,T.dk,lt1000 rfl,adm _,λ p4 f4=>?_⟩
  have B9:=B8.put (fs':=bC "skies" (.ref p3) (bC "flows" (.ref p2) (bC "mark_rows" (.ref p1) (bC "load" (.int load) (bC "cap" (.int gH) (bC "most" (.int most) []))))))
  have PZ:=B9.new (o:=.lst []) f4
  refine ⟨_,rfl,x,_,dx,_,rfl,PZ.at_,T.aC,T.fy,lt1000 rfl,?_⟩
  have B11:=PZ.put (fs':=nU (al.new most gH load) p1 p2 p3 p4)
  have h1:=B4.keep (u:=.ins Ad.aW dx (bC "mark_rows" (.ref p1) (bC "load" (.int load) (bC "cap" (.int gH) (bC "most" (.int most) []))))) ag (B3.ne f1)
  have h1a:=B6.keep (u:=.ins Ad.aW dx (bC "flows" (.ref p2) (bC "mark_rows" (.ref p1) (bC "load" (.int load) (bC "cap" (.int gH) (bC "most" (.int most) [])))))) (ai (o:=.dT []) f2 _ _ h1) (B3.ne f1)
  have h2a:=B6.keep (u:=.ins Ad.aW dx (bC "flows" (.ref p2) (bC "mark_rows" (.ref p1) (bC "load" (.int load) (bC "cap" (.int gH) (bC "most" (.int most) [])))))) ag (B5.ne f2)
  have kk:=λ b o (h:_=some o) (n:b≠x)=>B8.keep (b:=b) (u:=.ins Ad.aW dx (bC "skies" (.ref p3) (bC "flows" (.ref p2) (bC "mark_rows" (.ref p1) (bC "load" (.int load) (bC "cap" (.int gH) (bC "most" (.int most) []))))))) h n
  have h1b:=kk _ _ (ai (o:=.lst []) f3 _ _ h1a) (B3.ne f1)
  have h2b:=kk _ _ (ai (o:=.lst []) f3 _ _ h2a) (B5.ne f2)
  have h3b:=kk _ _ ag (B7.ne f3)
  have kl:=λ b o (h:_=some o) (n:b≠x)=>PZ.keep (b:=b) (u:=.ins Ad.aW dx (nU (al.new most gH load) p1 p2 p3 p4)) h n
  have h1c:=kl _ _ (ai (o:=.lst []) f4 _ _ h1b) (B3.ne f1)
  have h2c:=kl _ _ (ai (o:=.lst []) f4 _ _ h2b) (B5.ne f2)
  have h3c:=kl _ _ (ai (o:=.lst []) f4 _ _ h3b) (B7.ne f3)
  have h4c:=kl _ _ ag (B9.ne f4)
  exact k _ _ (BJ B11 hx jo h1c h2c h3c h4c (B3.none f1) (B5.none f2) (B7.none f3) (B9.none f4) (aq h1a f3) (aq h1b f4) (aq h3b f4))
theorem ke (T:Txt K mg Ad):um P w K mg base Ad.aW "__init__" 2 ["self","most","cap","load"] [] (yh K Ad.aW) :=
 (md T).Db T.nh λ items hv=>by
   obtain ⟨u1,u2,u3,rfl,r1,r2,r3⟩:=vals3 hv
   exact ⟨[],.nil,λ _ _ _ _ _ _ us hl=>match us,hl with | [_,_,_,_],_=>⟨_,rfl,rfl⟩⟩
theorem bW (T:Txt K mg Ad):Def P w K mg base "_law_cell_at" 1 ["_law_script","_law_k"] (wU K):=by
 refine T.pZ.cE oY λ f bx A outer s H vs Q E hr h=>?_
 obtain ⟨a,ns,z,rfl,hS,hz,k⟩:=h
 refine ⟨_,(af (bA (aU pI (pv 1) (bh bJ (by rfl) T.fW d9 (aa (pv 0) ac)) (aZ _)) (am (aF (aG aD (pv 0) (pv 1) (λ _ _=>rfl)))) aJ)
     (am (aF ah))),?_⟩
 try dsimp only [fb,aR]
 refine ⟨_,rfl,_,rfl,_,_,rfl,.inl hS,λ n en=>⟨_,_,rfl,rfl,_,rfl,?_⟩⟩
 rw [xq] at en
 refine jm (λ h=>?_) (λ h=>?_)
 .
  have hl:z.toNat<ns.length:=by lia
  have e:(ns.map V.int)[z.toNat]?=some (.int (ns[z.toNat]'hl)):=by simp [hl]
  have e2:=cf e
  rw [ad3 hz] at e2
  refine ⟨_,rfl,_,rfl,_,_,_,_,rfl,rfl,.inl hS,e2,k _ (.inl (aaY hl))⟩
 . exact k 0 (.inr rfl)
theorem aH (T:Txt K mg Ad):Def P w K mg base "_law_pick" 1 ["_law_cell","_law_k","_law_many"] EY:=by
 refine T.wT.cE vd λ f bx A outer s H vs Q E hr h=>?_
 obtain ⟨c,k,n,rfl,k0,k1,n0,kk⟩:=h
 refine ⟨_,(am (aF (ay gT (ay gT (ay br (ay aI (ay gT (pv 0) ah) ah) (ay aI (ay br (pv 1) (pv 1)) ah)) ah) (pv 2)))),?_⟩
 try dsimp only [fb,aR]
 refine ⟨_,rfl,_,_,rfl,rfl,by decide,λ x1 a1 b1 e1=>⟨_,_,rfl,rfl,λ x2 e2=>?_⟩⟩
 refine ⟨_,rfl,_,rfl,_,_,rfl,rfl,⟨10,10,(show k.natAbs<2 ^ 10 by lia),(show k.natAbs<2 ^ 10 by lia),by decide⟩,λ x3 e3=>⟨_,_,rfl,rfl,λ x4 e4=>?_⟩⟩
 have kk2:k * k<=1000 * 1000:=Int.mul_le_mul k1 k1 k0 (by decide)
 have kk0:0<=k * k:=aer k0 k0
 refine ⟨_,_,rfl,rfl,⟨22,22,(show x2.natAbs<2 ^ 22 by lia),(show x4.natAbs<2 ^ 22 by lia),by decide⟩,λ x5 e5=>⟨_,_,rfl,rfl,by decide,λ x6 a6 b6 e6=>?_⟩⟩
 exact ⟨_,rfl,_,_,rfl,rfl,n0,λ r a b _=>kk r a b⟩
theorem gr (T:Txt K mg Ad):Def P w K mg base "_law_ratio" 1 ["_law_top","_law_bottom"] BE:=by
 refine T.vp.cE eF λ f bx A outer s H vs Q E hr h=>?_
 obtain ⟨t,b,rfl,hb,bb,k⟩:=h
 refine ⟨_,(af (aB (i:=2) eF.nd rfl (lc rfl) (bh mn (by rfl) T.Bv vP (aa (pv 0) ac)))
     (af (aB (i:=3) eF.nd rfl (lc rfl) (pv 1))
     (af (tZ ada (aU tV (pv 3) ah (aZ _)) (af (aB (i:=4) eF.nd rfl (lc rfl) (ay gT (pv 2) (pv 3)))
     (af (aB (i:=2) eF.nd rfl (lc rfl) (pv 3))
     (am (aB (i:=3) eF.nd rfl (lc rfl) (pv 4))))))
     (am (aF (b9 (aa (ay gw (pv 0) (pv 2)) (aa (ay gw (pv 1) (pv 2)) ac)))))))),?_⟩
 try dsimp only [fb,aR]
 first|(refine dU ?_;intro _ _ _ _ _)|skip
 refine ⟨_,rfl,_,rfl,λ g0 eg=>⟨_,rfl,?_⟩⟩
 refine ⟨λ m U H'=>H'=H/\E3 λ (g l:Int) (r:Option V)=>A5 (U=[some (.int t),some (.int b),some (.int g),some (.int l),r]) (0<=g) (0<=l) (m=l.toNat) (Int.gcd g l=Int.gcd t b),
   ⟨_,rfl,g0,b,none,rfl,by lia,by lia,rfl,by rw [eg];rfl⟩,?_⟩
 rintro m U H' ⟨rfl,g,l,r,rfl,hg,hl,rfl,e⟩
 refine ⟨_,rfl,_,_,rfl,rfl,_,rfl,?_⟩
 refine jm (λ h=>?_) (λ h=>?_)
 .
  have l1:0<l:=h
  refine ⟨λ σ' Lc=>Lc=H'/\σ'=[some (.int t),some (.int b),some (.int l),some (.int (g % l)),some (.int (g % l))],λ σ' Lc ⟨e1,e2⟩=>?_,?_⟩
  . have m0:=afe g (by lia:l≠0)
    have m1:=aeX g l1
    exact ⟨(g % l).toNat,by lia,e1,l,g % l,_,e2,hl,m0,rfl,(FB hg l1).trans e⟩
  . refine ⟨_,rfl,_,rfl,_,_,rfl,rfl,l1,λ r _ _ er=>?_⟩
    subst er
    exact ⟨_,rfl,_,rfl,rfl,rfl⟩
 .
  have l1:l=0:=by lia
  subst l1
  have ec:g=((Int.gcd t b:Nat):Int):=by rw [← e,IC hg]
  obtain ⟨c0,cl,fp,fn⟩:=BA (by lia:b≠0) ec
  have bc:Bd 8999 g:=(bb.le (by lia)).mono (by decide)
  refine ⟨_,rfl,_,rfl,_,_,rfl,rfl,⟨by lia,bc⟩,λ q eq=>⟨_,rfl,_,rfl,_,_,rfl,rfl,⟨by lia,bc⟩,λ r er=>⟨zB,λ p hp=>?_⟩⟩⟩
  subst eq er
  exact k _ _ p _ (fp hb) (ai hp) ag
theorem jH (T:Txt K mg Ad):Def P w K mg base "_law_warm" 2 ["_law_num","_law_parts","_law_scale_here"] (Cu K):=by
 refine T.wI.cE jt λ f bx A outer s H vs Q E hr h=>?_
 obtain ⟨num,parts,p,z,rfl,hq,ok,bn,p0,bp,k⟩:=h
 refine ⟨_,(af (aB (i:=3) jt.nd rfl (lc rfl) (ay br (ay br (pv 0) (aG aD (pv 2) ah (λ _ _=>rfl))) (aG aD (pv 2) ah (λ _ _=>rfl))))
     (af (aB (i:=3) jt.nd rfl (lc rfl) (ay aI (pv 3) (ay br (ay br (pv 1) (aG aD (pv 2) ah (λ _ _=>rfl))) (aG aD (pv 2) ah (λ _ _=>rfl)))))
     (am (aF (ak (gr (K:=K) T) hr.m (aa (pv 3) (aa (ay br (ay br (pv 1) (aG aD (pv 2) ah (λ _ _=>rfl))) (aG aD (pv 2) ah (λ _ _=>rfl))) ac))))))),?_⟩
 try dsimp only [fb,aR]
 first|(refine dX ?_;intro _ _ _ _)|skip
 refine ⟨_,rfl,_,rfl,_,_,_,_,rfl,rfl,.inr hq,rfl,_,_,rfl,rfl,⟨_,_,bn,ok.ba,by decide⟩,λ x1 e1=>⟨_,rfl,_,_,_,_,rfl,rfl,.inr hq,rfl,_,_,rfl,rfl,⟨60,_,by rw [e1];exact bn.mul ok.ba,ok.bd,by decide⟩,λ x2 e2=>?_⟩⟩
 refine ⟨_,rfl,_,rfl,_,rfl,_,_,_,_,rfl,rfl,.inr hq,rfl,_,_,rfl,rfl,⟨_,_,bp,ok.bt,by decide⟩,λ x3 e3=>⟨_,rfl,_,_,_,_,rfl,rfl,.inr hq,rfl,_,_,rfl,rfl,⟨60,_,by rw [e3];exact bp.mul ok.bt,ok.bb,by decide⟩,λ x4 e4=>⟨_,_,rfl,rfl,λ x5 e5=>?_⟩⟩⟩
 refine ⟨_,rfl,_,rfl,_,rfl,_,_,_,_,rfl,rfl,.inr hq,rfl,_,_,rfl,rfl,⟨_,_,bp,ok.bb,by decide⟩,λ x6 e6=>⟨_,rfl,_,_,_,_,rfl,rfl,.inr hq,rfl,_,_,rfl,rfl,⟨60,_,by rw [e6];exact bp.mul ok.bb,ok.bd,by decide⟩,λ x7 e7=>?_⟩⟩
 have h5:x5=bS num parts z:=by rw [e5,e2,e1,e4,e3];rfl
 have h7:x7=bK parts z:=by rw [e7,e6];rfl
 subst h5 h7
 have hB:=di ok p0
 refine ⟨_,_,rfl,hB,?_,λ q r u H' F s' hu=>k u H' s' ?_⟩
 . exact ((bp.mul ok.bb).mul ok.bd).mono (by decide)
 .
  have:=F.nf hB
  rw [hu]
  unfold aP
  rw [← this]
theorem nM (T:Txt K mg Ad):Def P w K mg base "_law_stove_by" 2 ["_law_a","_law_b","_law_c","_law_room"] mQ:=by
 refine T.oO.cE f7 λ f bx A outer s H vs Q E hr h=>?_
 obtain ⟨a,b,c,i,rfl,hi,k0,k⟩:=h
 refine ⟨_,(af (bA (aU jk (ak (aH (K:=K) T) hr.m (aa (pv 1) (aa (ay aI ah (pv 3)) (aa ah ac)))) ah (aZ _)) (am (aF gA)) aJ)
     (af (aB (i:=4) f7.nd rfl (lc rfl) (ak (aH (K:=K) T) hr.m (aa (pv 0) (aa (ay aI ah (pv 3)) (aa ah ac)))))
     (af (aB (i:=5) f7.nd rfl (lc rfl) (ak (aH (K:=K) T) hr.m (aa (pv 0) (aa (ay aI ah (pv 3)) (aa ah ac)))))
     (am (aF (b9 (aa (ak (aH (K:=K) T) hr.m (aa (pv 2) (aa (ay aI ah (pv 3)) (aa ah ac)))) (aa (pv 4) (aa (pv 5) (aa (ak (aH (K:=K) T) hr.m (aa (pv 1) (aa (ay aI ah (pv 3)) (aa ah ac)))) ac)))))))))),?_⟩
 try dsimp only [fb,aR]
 first|(refine dU ?_;intro _ _ _ _ _)|skip
 refine ⟨_,rfl,_,rfl,_,_,rfl,rfl,λ x1 e1=>⟨_,_,_,rfl,by lia,by lia,by decide,λ r a0 a1=>⟨rfl,_,rfl,?_⟩⟩⟩
 refine jm (λ h=>k0) (λ h=>?_)
 refine ⟨_,rfl,_,rfl,_,_,rfl,rfl,λ x2 e2=>⟨_,_,_,rfl,by lia,by lia,by decide,λ w0 b0 b1=>?_⟩⟩
 refine ⟨_,rfl,_,rfl,_,_,rfl,rfl,λ x3 e3=>⟨_,_,_,rfl,by lia,by lia,by decide,λ w1 c0 c1=>?_⟩⟩
 refine ⟨_,rfl,_,rfl,_,_,rfl,rfl,λ x4 e4=>⟨_,_,_,rfl,by lia,by lia,by decide,λ w2 d0 d1=>?_⟩⟩
 refine ⟨_,rfl,_,rfl,_,rfl,_,rfl,_,_,rfl,rfl,λ x5 e5=>⟨_,_,_,rfl,by lia,by lia,by decide,λ w3 g0 g1=>⟨Ic,λ p hp=>?_⟩⟩⟩
 exact k p (w2,w0,w1,w3) ⟨⟨d0,by show w2<=25;lia⟩,⟨b0,by show w0<=9;lia⟩,⟨c0,by show w1<=3;lia⟩,⟨g0,by show w3<=3;lia⟩⟩ hp
set_option maxHeartbeats 0 in
theorem sg (T:Txt K mg Ad):Def P w K mg base "_law_scale" 2 ["_law_cell"] AD:=by
 refine T.ub.cE jc λ f bx A outer s H vs Q E hr h=>?_
 obtain ⟨c,rfl,k⟩:=h
 refine ⟨_,(af (aB (i:=1) jc.nd rfl (lc rfl) (aG aD (cG (aa ah (aa ah (aa (ay nV ah ah) (aa (ay nV ah ah) (aa (ay nV ah ah) (aa (ay nV ah ah) ac))))))) (ak (aH (K:=K) T) hr.m (aa (pv 0) (aa ah (aa ah ac)))) (λ _ _=>rfl)))
     (af (pD (yi:=2) ["_law_k"] ["_law_far","_law_cell"] [1,0] (.cons ⟨rfl,rfl,.inl rfl⟩ (.cons ⟨rfl,rfl,.inl rfl⟩ .nil)) rfl (bP rfl T.cT (aa ah ac)) (λ _ _ _ _ _=>(aE (i:=0) (show (["_law_k","_law_far","_law_cell"]:List Str).Nodup by decide +kernel) rfl (lc rfl))) (λ _ _ _ _ _=>dI) (λ _ _ _ _ _=>(ay aI ah (ay gT (ay gw (ay aI (pv 2) (pv 0)) (ay aI (pv 0) ah)) (pv 1)))) rfl (by decide +kernel) (by decide +kernel) (by decide +kernel) jc.nd rfl (lc rfl) rfl)
     (am (aF (b9 (aa (aG aD (pv 2) ah (λ _ _=>rfl)) (aa (aG aD (pv 2) ah (λ _ _=>rfl)) (aa (ay dF (ay gT (ay gw (pv 0) ah) (ay aI (ay br ah (pv 1)) ah)) (pv 1)) (aa (aG aD (pv 2) ah (λ _ _=>rfl)) ac))))))))),?_⟩
 try dsimp only [fb,aR]
 first|(refine dX ?_;intro _ _ _ _)|skip
 refine ⟨_,_,rfl,rfl,⟨by decide,by decide,by decide⟩,λ r1 e1=>⟨_,_,rfl,rfl,⟨by decide,by decide,by decide⟩,λ r2 e2=>⟨_,_,rfl,rfl,⟨by decide,by decide,by decide⟩,λ r3 e3=>⟨_,_,rfl,rfl,⟨by decide,by decide,by decide⟩,λ r4 e4=>⟨(by show 6<=sizeLine;decide),λ p0 Hn=>?_⟩⟩⟩⟩⟩
 refine ⟨_,rfl,_,_,_,rfl,by decide,by decide,by decide,λ r a0 a1=>?_⟩
 obtain ⟨KW,hm,ea⟩:=vi (ns:=[1,12,r1,r2,r3,r4]) a0 a1
 have ag3:1<=KW/\KW<=10 ^ 9:=by
   have z1:r1=10000:=e1
   have z2:r2=10000:=e2
   have z3:r3=10000:=e3
   have z4:r4=1000000000:=e4
   simp only [abt,T1,adj] at hm
   lia
 refine ⟨p0,_,_,_,rfl,rfl,.inl (aV.of ag),ea,?_⟩
 refine ⟨_,rfl,by decide,by decide,λ D hD=>?_⟩
 have s0:aA H (upd H p0 (.lst [.int 1,.int 12,.int r1,.int r2,.int r3,.int r4])):=ai Hn
 refine dM (lo:=0) (n:=3) (λ i acc U H'=>A4 (aA (upd H p0 (.lst [.int 1,.int 12,.int r1,.int r2,.int r3,.int r4])) H') (H' D=some (.lst acc)) (∃ (zs:List Int),A3 (acc=zs.map V.int) (zs.length=i) (∀ z∈zs,1<=z/\z<=KW)) (∃ v,U=[v,some (.int KW),some (.int c)]))
   ⟨ai hD,ag,⟨[],rfl,rfl,nofun⟩,none,rfl⟩ ?_ ?_
 .
  rintro i acc U H' hi ⟨s1,jp,⟨zs,rfl,Zc,hz⟩,v,rfl⟩
  refine ⟨_,rfl,_,rfl,_,_,rfl,rfl,λ x1 e1=>⟨_,rfl,_,_,rfl,rfl,λ x2 e2=>⟨_,_,rfl,rfl,⟨by lia,(TB 8999 (by lia) (by lia))⟩,λ x3 e3=>⟨_,rfl,_,_,rfl,rfl,by lia,λ x4 a4 b4 e4=>⟨_,_,rfl,rfl,λ x5 e5=>?_⟩⟩⟩⟩⟩
  refine ⟨jp,aL (by rw [xq];lia),s1.put hD,ag,⟨zs++[x5],by rw [My];rfl,by rw [aaD,Zc];rfl,λ z hm=>?_⟩,_,rfl⟩
  rcases List.mem_append.mp hm with q|q
  . exact hz z q
  . rw [List.mem_singleton.mp q];lia
 .
  rintro acc U H' ⟨s1,jp,⟨zs,rfl,Zc,hz⟩,v,rfl⟩
  match zs,Zc,hz,jp with
  | [z0,z1,z2],_,hz,jp =>
    have g0:=hz z0 (by simp)
    have g1:=hz z1 (by simp)
    have g2:=hz z2 (by simp)
    refine ⟨_,rfl,_,_,_,_,rfl,rfl,.inl (aV.of jp),rfl,_,rfl,_,_,_,_,rfl,rfl,.inl (aV.of jp),rfl,?_⟩
    refine ⟨_,rfl,_,_,rfl,rfl,⟨by decide,TB 8999 (by decide) (by decide)⟩,λ y1 f1=>⟨_,rfl,_,_,rfl,rfl,⟨2,31,o6,(show KW.natAbs<2 ^ 31 by lia),by decide⟩,λ y2 f2=>⟨_,_,rfl,rfl,λ y3 f3=>⟨_,_,rfl,rfl,by lia,λ y4 a4 b4 f4=>⟨_,rfl,_,_,rfl,rfl,λ y5 f5=>?_⟩⟩⟩⟩⟩
    refine ⟨_,rfl,_,_,_,_,rfl,rfl,.inl (aV.of jp),rfl,Ic,λ p hp=>?_⟩
    exact k p _ ⟨z0,z1,y5,z2⟩ ⟨g0.1,by show z0<=_;lia,g1.1,by show z1<=_;lia,by show _<=y5;lia,by show y5<=_;lia,g2.1,by show z2<=_;lia⟩ (s0.trans (s1.trans (ai hp))) ag
theorem sG (T:Txt K mg Ad):Def P w K mg base "_law_drawn" 3 ["_law_script"] (wX K):=by
 refine T.uV.cE bN λ f bx A outer s H vs Q E hr h=>?_
 obtain ⟨sa,ns,rfl,hS,k⟩:=h
 refine ⟨_,(af (aB (i:=1) bN.nd rfl (lc rfl) (ak (bW (K:=K) T) hr.m (aa (pv 0) (aa ah ac))))
     (af (aB (i:=2) bN.nd rfl (lc rfl) (ak (bW (K:=K) T) hr.m (aa (pv 0) (aa ah ac))))
     (af (aB (i:=3) bN.nd rfl (lc rfl) (ak (bW (K:=K) T) hr.m (aa (pv 0) (aa ah ac))))
     (af (aB (i:=4) bN.nd rfl (lc rfl) (aG aD (cG (aa ah (aa ah (aa ah (aa ah (aa ah (aa ah ac))))))) (ak (aH (K:=K) T) hr.m (aa (pv 1) (aa ah (aa ah ac)))) (λ _ _=>rfl)))
     (af (aB (i:=5) bN.nd rfl (lc rfl) (@Dh _ _ _ _ _ (@jN _ _ _ _ _ _ _ _ _ bL (cG ac) (@jN _ _ _ _ _ _ _ _ _ bL (cG ac) (@jN _ _ _ _ _ _ _ _ _ bL (cG ac) (@jN _ _ _ _ _ _ _ _ _ bL uN (@jN _ _ _ _ _ _ _ _ _ bL (ak (sg (K:=K) T) hr.m (aa (ak (bW (K:=K) T) hr.m (aa (pv 0) (aa ah ac))) ac)) DA))))) rfl rfl (List.cons_ne_nil _ _) (aeJ rfl)))
     (af (n9 (cF hr) (pv 5) bL (b9 (aa (ak (aH (K:=K) T) hr.m (aa (pv 1) (aa ah (aa ah ac)))) (aa (ak (aH (K:=K) T) hr.m (aa (pv 1) (aa ah (aa ah ac)))) (aa (ak (aH (K:=K) T) hr.m (aa (pv 1) (aa ah (aa ah ac)))) ac)))) rfl)
     (af (dB ada rfl (bP rfl T.cT (aa (pv 4) ac)) (aE (i:=6) bN.nd rfl (lc rfl)) (af (aB (i:=7) bN.nd rfl (lc rfl) (cG (aa (ay dF (ak (aH (K:=K) T) hr.m (aa (pv 2) (aa (pv 6) (aa ah ac)))) ah) ac)))
     (af (dB ada rfl (bP rfl T.cT (aa (ay aI ah (ak (aH (K:=K) T) hr.m (aa (pv 1) (aa (ay aI ah (pv 6)) (aa (aG aD (cG (aa ah (aa ah (aa ah (aa ah ac))))) (ay dF (pv 4) ah) (λ _ _=>rfl)) ac))))) ac)) (aE (i:=8) bN.nd rfl (lc rfl)) (am (bi (il ac4 adc adb cH (pv 7) (aa (ay aI (ay aI (aG aD (pv 7) (pv 8) (λ _ _=>rfl)) ah) (ak (aH (K:=K) T) hr.m (aa (pv 2) (aa (ay aI (ay aI ah (ay br ah (pv 6))) (pv 8)) (aa ah ac))))) ac)))))
     (af (bi (il ac4 adc adb cH (bO (cF hr) (pv 5) bL (λ _ _=>rfl)) (aa (pv 7) ac)))
     (af (aB (i:=9) bN.nd rfl (lc rfl) (ay dF (ak (aH (K:=K) T) hr.m (aa (pv 3) (aa (pv 6) (aa ah ac)))) ah))
     (af (bi (il ac4 adc adb cH (bO (cF hr) (pv 5) bL (λ _ _=>rfl)) (aa (b9 (aa (ak (aH (K:=K) T) hr.m (aa (pv 3) (aa (ay aI ah (pv 6)) (aa ah ac)))) (aa (pv 9) (aa (ay aI (pv 9) (ak (aH (K:=K) T) hr.m (aa (pv 3) (aa (ay aI ah (pv 6)) (aa ah ac))))) ac)))) ac)))
     (af (bi (il ac4 adc adb cH (bO (cF hr) (pv 5) bL (λ _ _=>rfl)) (aa (ak (nM (K:=K) T) hr.m (aa (pv 1) (aa (pv 2) (aa (pv 3) (aa (pv 6) ac))))) ac)))
     (am (dB ada rfl (bP rfl T.cT (aa (pv 4) ac)) (aE (i:=10) bN.nd rfl (lc rfl)) (am (bA (aU mS (pv 10) (pv 6) (aZ _)) (am (n9 (cF hr) (bO (cF hr) (pv 5) bL (λ _ _=>rfl)) (b9 (aa (pv 6) (aa (pv 10) ac))) (ak (aH (K:=K) T) hr.m (aa (pv 2) (aa (ay aI (ay aI ah (ay br ah (pv 6))) (pv 10)) (aa ah ac)))) rfl)) aJ)))))))))))
     (am (aF (pv 5)))))))))),?_⟩
 try dsimp only [fb,aR]
 first|(refine ug ?_;intro _ _ _ _ _ _ _ _ _)|skip
 refine ⟨_,rfl,sa,ns,0,rfl,hS,by decide,λ ca _=>⟨_,rfl,sa,ns,1,rfl,hS,by decide,λ cb _=>⟨_,rfl,sa,ns,2,rfl,hS,by decide,λ cc _=>?_⟩⟩⟩
 refine ⟨(by show 6<=sizeLine;decide),λ l0 hl0=>⟨_,rfl,ca,1,6,rfl,by decide,by decide,by decide,λ r a0 a1=>?_⟩⟩
 obtain ⟨nI,hmn,ea⟩:=vi (ns:=[1,1,2,2,3,4]) a0 a1
 refine ⟨l0,_,_,_,rfl,rfl,.inl (aV.of ag),ea,?_⟩
 have hn:1<=nI/\nI<=4:=by
   simp only [abt,T1,adj] at hmn
   lia
 obtain ⟨n,rfl⟩:∃ n:Nat,nI=(n:Int):=⟨nI.toNat,by lia⟩
 have Hq:aA H (upd H l0 (.lst [.int 1,.int 1,.int 2,.int 2,.int 3,.int 4])):=ai hl0
 intro p hp
 refine ⟨adm _,λ pm eK=>⟨adm _,λ ps eL=>⟨adm _,λ pt eQ=>λ pf gG=>?_⟩⟩⟩
 have JN:=ai (o:=.dK []) hp
 have Jg:=ai (o:=.lst []) eK
 have HY:=ai (o:=.lst []) eL
 have IZ:=ai (o:=.lst []) eQ
 have Kl:=ai (o:=.dT []) gG
 have Kw:=JN.trans (Jg.trans (HY.trans (IZ.trans Kl)))
 refine ⟨_,rfl,sa,ns,3,rfl,(Hq.trans Kw).seq hS,by decide,λ cd _=>⟨cd,rfl,λ dg H2 sc Ik s2 yz=>?_⟩⟩
 have HZ:H2 p=some (.dK []):=s2 _ _ (Kl _ _ (IZ _ _ (HY _ _ (Jg _ _ ag))))
 have Ct:H2 pm=some (.lst []):=s2 _ _ (Kl _ _ (IZ _ _ (HY _ _ ag)))
 have CB:H2 ps=some (.lst []):=s2 _ _ (Kl _ _ (IZ _ _ ag))
 have Ei:H2 pt=some (.lst []):=s2 _ _ (Kl _ _ ag)
 have Da:H2 pf=some (.dT []):=s2 _ _ ag
 have nms:pm≠ps:=aq ag eL
 have nmt:pm≠pt:=aq (HY _ _ ag) eQ
 have nst:ps≠pt:=aq ag eQ
 refine ⟨HZ,[(.inr "marks",.ref pm),(.inr "sky",.ref ps),(.inr "stoves",.ref pt),(.inr "flows",.ref pf),(.inr "scale",.ref dg)],rfl,aeJ rfl,?_⟩
 have nH2:aA H H2:=(Hq.trans Kw).trans s2
 have pn:H p=none:=Hq.free hp
 refine ⟨_,rfl,ca,2,5,rfl,by decide,by decide,by decide,λ w0 w00 w01=>⟨_,rfl,ca,3,31,rfl,by decide,by decide,by decide,λ w1 w10 w11=>⟨_,rfl,ca,4,10,rfl,by decide,by decide,by decide,λ w2 w20 w21=>⟨Ih,λ pb GI=>?_⟩⟩⟩⟩
 refine ⟨_,rfl,_,_,rfl,p7.k (k:=.inr "bounds") (ai GI _ _ ag) (ac1 (ig _ _) (by show 0+5<sizeLine;decide)),?_⟩
 have npm:pm≠p:=bj Ct HZ nofun
 have zI:ps≠p:=bj CB HZ nofun
 have npt:pt≠p:=bj Ei HZ nofun
 have npf:pf≠p:=bj Da HZ (λ z=>nomatch z)
 have JF:dg≠p:=bj yz HZ nofun
 have bup:∀ {b o o'},H2 b=some o->b≠p->(upd H2 p o') b=some o:=λ h n=>by rw [av n];exact h
 have bn:∀ {b o},H2 b=some o->b≠p->b≠pb:=λ h n=>aq (bup h n) GI
 have npb:p≠pb:=aq ag GI
 have b3:∀ {b o o1 o2 o3},H2 b=some o->b≠p->(upd (upd (upd H2 p o1) pb o2) p o3) b=some o:=λ h n=>by rw [av n,av (bn h n)];exact bup h n
 have C0:TC K (upd (upd (upd H2 p (.dK (ja [] [(.inr "marks",.ref pm),(.inr "sky",.ref ps),(.inr "stoves",.ref pt),(.inr "flows",.ref pf),(.inr "scale",.ref dg)]))) pb (.tup [.int w0,.int w1,.int w2])) p
     (.dK (putK (ja [] [(.inr "marks",.ref pm),(.inr "sky",.ref ps),(.inr "stoves",.ref pt),(.inr "flows",.ref pf),(.inr "scale",.ref dg)]) (.inr "bounds") (.ref pb)))) p pm ps pt pf dg pb [] [] [] [] ⟨[],[],[],λ _ _=>none,sc,(w0,w1,w2)⟩:=by
   refine ⟨ag,b3 Ct npm,b3 CB zI,b3 Ei npt,b3 Da npf,nms,nmt,nst,rfl,rfl,rfl,λ _ _ _ _=>rfl,⟨aep,nofun⟩,bU.of (jV (b3 yz JF) ?_),bU.of (jV (by rw [av npb.symm];exact ag) ?_)⟩
   . simp only [abt,T1,adj,aeb]
     exact ⟨JF,bj yz Ct nofun,bj yz CB nofun,bj yz Ei nofun,bj yz Da nofun⟩
   . simp only [abt,T1,adj,aeb]
     exact ⟨npb.symm,(bn Ct npm).symm,(bn CB zI).symm,(bn Ei npt).symm,(bn Da npf).symm⟩
 have S0:aA H (upd (upd (upd H2 p (.dK (ja [] [(.inr "marks",.ref pm),(.inr "sky",.ref ps),(.inr "stoves",.ref pt),(.inr "flows",.ref pf),(.inr "scale",.ref dg)]))) pb (.tup [.int w0,.int w1,.int w2])) p
     (.dK (putK (ja [] [(.inr "marks",.ref pm),(.inr "sky",.ref ps),(.inr "stoves",.ref pt),(.inr "flows",.ref pf),(.inr "scale",.ref dg)]) (.inr "bounds") (.ref pb)))):=((nH2.put pn).trans (ai GI)).put pn
 refine ⟨_,rfl,_,rfl,by lia,by lia,?_⟩
 refine fh (lo:=0) (n:=n) (λ i U H'=>A3 (aA H H') (E5 λ vm vs vt aw m=>A3 (TC K H' p pm ps pt pf dg pb vm vs vt aw m) (ni H H' [p,pm,ps,pt,pf] vm m.marks) (ap.Ok n i m)) (E5 λ x6 x7 x8 x9 Fi=>U=[some (.ref sa),some (.int ca),some (.int cb),some (.int cc),some (ar n),some (.ref p),x6,x7,x8,x9,Fi]))
   ⟨S0,⟨_,_,_,_,_,C0,ni.nil,⟨rfl,rfl,rfl,nofun,nofun,nofun,λ a b h=>absurd h (aeI a),Ik,⟨w00,by show w0<=4;lia⟩,⟨w10,by show w1<=30;lia⟩,⟨w20,by show w2<=30;lia⟩⟩⟩,none,none,none,none,none,rfl⟩ ?_ ?_
 .
  rintro _ _ _ i U H' hi ⟨S1,⟨vm,vs,vt,aw,m,C1,M1,O1⟩,x6,x7,x8,x9,Fi,rfl⟩
  refine ⟨_,rfl,_,rfl,cb,_,61,rfl,by lia,by lia,by decide,λ r0 c0 c1=>⟨_,_,rfl,rfl,λ x0 e0=>⟨Ke,λ pk qY=>?_⟩⟩⟩
  refine ⟨_,rfl,_,rfl,_,_,rfl,rfl,λ y1 f1=>⟨Ic,λ l1 hl1=>⟨_,rfl,_,_,rfl,rfl,λ y2 f2=>⟨l1,_,_,_,rfl,rfl,.inl (aV.of ag),CA (by lia) (by lia) f2,?_⟩⟩⟩⟩
  refine ⟨ca,y1,_,rfl,by lia,by lia,(by split<;>decide),λ r1 b0 b1=>⟨_,_,rfl,rfl,λ y3 f3=>?_⟩⟩
  obtain ⟨q,rfl⟩:∃ q:Nat,y3=(q:Int):=⟨y3.toNat,by lia⟩
  have hq:1<=q/\q<=if n<=2 then 6 else 4:=by
    split at b1<;>rename_i hc<;>simp only [hc,aev,aek]<;>lia
  have hq6:q<=6:=by have:=hq.2;split at this<;>lia
  refine ⟨_,rfl,by lia,by lia,?_⟩
  have sk:aA H' (upd H' pk (.lst [.int x0])):=ai qY
  have nl1:pk≠l1:=aq ag hl1
  refine fh (lo:=0) (n:=q) (λ j U MA=>A3 (aA H' MA) (∃ (l:List Int),A4 (MA pk=some (.lst (l.map V.int))) (l.length=j+1) (lQ l) (∀ x∈l,-30<=x/\x<=30+20 * (j:Int))) (∃ x8,U=[some (.ref sa),some (.int ca),some (.int cb),some (.int cc),some (ar n),some (.ref p),some (.int (0+(i:Int))),some (.ref pk),x8,x9,Fi]))
    ⟨sk.trans (ai hl1),⟨[x0],by rw [av nl1];exact ag,rfl,λ a x y h1 h2=>by simp at h2,λ x hx=>by rw [List.mem_singleton.mp hx];lia⟩,x8,rfl⟩ ?_ ?_
  .
   rintro _ _ _ j U MA hj ⟨S2,⟨l,hk,hl,Hy,xP⟩,x8,rfl⟩
   have Ie:j<l.length:=by lia
   refine ⟨_,rfl,.inl ⟨rfl,_,aV.of hk⟩,_,rfl,_,rfl,pk,_,_,_,rfl,rfl,.inl (aV.of hk),Ez Ie,_,_,rfl,rfl,λ u1 g1=>⟨_,rfl,_,rfl,_,_,rfl,rfl,⟨10,10,o6,(show (0+(i:Int)).natAbs<2 ^ 10 by lia),by decide⟩,λ u2 g2=>⟨_,_,rfl,rfl,λ u3 g3=>⟨_,rfl,_,_,rfl,rfl,λ u4 g4=>?_⟩⟩⟩⟩
   refine ⟨cb,u4,20,rfl,by lia,by lia,by decide,λ r2 d0 d1=>⟨_,_,rfl,rfl,λ u5 g5=>⟨pk,_,_,rfl,rfl,hk,aL (by rw [xq];lia),?_⟩⟩⟩
   have hlj:=xP l[j] (aaY Ie)
   refine ⟨S2.put qY,⟨l++[u5],by rw [ag,My];rfl,by rw [aaD,hl];rfl,uC Hy hl (by lia),λ x hx=>?_⟩,_,rfl⟩
   rcases List.mem_append.mp hx with z|z
   . have:=xP x z;lia
   . rw [List.mem_singleton.mp z];lia
  .
   rintro U MA ⟨S2,⟨l,hk,hl,Hy,xP⟩,x8,rfl⟩
   have C2:=C1.same S2
   have uU:qV n l:=⟨by lia,by have:=hq.2;split at this<;>rename_i hc<;>simp only [hc,aev,aek]<;>lia,Hy,λ x hx=>by have:=xP x hx;lia⟩
   have kL:pk∉[p,pm,ps,pt,pf]:=by
     simp only [abt,T1,adj,aeb]
     exact ⟨(aq C1.hp qY).symm,(aq C1.eK qY).symm,(aq C1.eL qY).symm,(aq C1.eQ qY).symm,(aq C1.gG qY).symm⟩
   have FX:vm.length=i:=by rw [C1.dm.length,xq,O1.lm]
   have lvs:vs.length=i:=by rw [C1.ds.length,xq,O1.ls]
   have lvt:vt.length=i:=by rw [C1.dt.length,xq,O1.lt]
   refine ⟨_,rfl,p,_,rfl,d8 C2.hp,.inl ⟨rfl,_,aV.of C2.eK⟩,_,rfl,pm,vm,_,rfl,rfl,C2.eK,aL (by lia),?_⟩
   have C3:=C2.Aj (l:=l) (x:=.ref pk) ⟨pk,_,rfl,aV.of (jV hk kL),rZ l⟩
   refine ⟨_,rfl,_,rfl,cc,_,61,rfl,by lia,by lia,by decide,λ r3 m0 m1=>⟨_,_,rfl,rfl,λ lo elo=>?_⟩⟩
   refine ⟨_,rfl,p,_,rfl,jR C3.hp,.inl ⟨rfl,_,aV.of C3.eL⟩,_,rfl,_,rfl,_,_,rfl,rfl,λ v1 h1=>⟨cc,v1,4,rfl,by lia,by lia,by decide,λ sh sh0 sh1=>⟨_,rfl,_,rfl,_,rfl,_,rfl,_,_,rfl,rfl,λ v2 h2=>⟨cc,v2,31,rfl,by lia,by lia,by decide,λ r4 n0 n1=>⟨_,_,rfl,rfl,λ Cf ehi=>⟨Ih,λ pz vS=>?_⟩⟩⟩⟩⟩⟩
   have C3':=C3.same (ai (o:=.tup [.int sh,.int lo,.int Cf]) vS)
   refine ⟨ps,vs,_,rfl,rfl,C3'.eL,aL (by lia),?_⟩
   have C4:=C3'.Gu (l:=(sh,lo,Cf)) (x:=.ref pz) (ek (bU.of (jV ag (C3.FF vS))) (aO rfl (aO rfl (aO rfl eM))))
   refine ⟨_,rfl,p,_,rfl,jA C4.hp,.inl ⟨rfl,_,aV.of C4.eQ⟩,_,rfl,_,rfl,_,rfl,_,rfl,?_⟩
   dsimp only [CT,List.cons_append,afb,adO]
   refine uh (a:=ca) (b:=cb) (c:=cc) (i:=i) (by simp only [ac3];rfl) (by lia) λ zt vq H5 nW=>?_
   have C5':=C4.same nW.same
   have hk5:(upd H5 pt (.lst (vt++[vq]))) pk=some (.lst (l.map V.int)):=by
     simp only [abt,T1,adj,aeb] at kL
     rw [av kL.2.2.2.1]
     refine nW.same _ _ ?_
     rw [av kL.2.2.1]
     refine ai vS _ _ ?_
     rw [av kL.2.1]
     exact hk
   refine ⟨pt,vt,_,rfl,rfl,C5'.eQ,aL (by lia),?_⟩
   have C5:=C5'.AS (l:=zt) (x:=vq) (nW.dn λ b hb=>C4.FF hb)
   have pmn:H pm=none:=(Hq.trans JN).free eK
   have psn:H ps=none:=((Hq.trans JN).trans Jg).free eL
   have ptn:H pt=none:=(((Hq.trans JN).trans Jg).trans HY).free eQ
   have pfn:H pf=none:=((((Hq.trans JN).trans Jg).trans HY).trans IZ).free gG
   have S5:aA H _:=(((((S1.trans S2).put pmn).trans (ai (o:=.tup [.int sh,.int lo,.int Cf]) vS)).put (o:=.lst (vs++[.ref pz])) psn).trans nW.same).put (o:=.lst (vt++[vq])) ptn
   have M5:=M1.snoc qY (gt (gt (gt (gt (gt (lI S2) (nO (by simp))) (lI (ai (o:=.tup [.int sh,.int lo,.int Cf]) vS))) (nO (a:=ps) (o:=.lst (vs++[.ref pz])) (by simp))) (lI nW.same)) (nO (a:=pt) (o:=.lst (vt++[vq])) (by simp))) hk5 kL (S1.free qY) (λ x hx=>by have:=xP x hx;lia)
   refine ⟨_,rfl,_,rfl,by lia,by lia,?_⟩
   refine fh (lo:=0) (n:=n) (λ j U H6=>A4 (aA H H6) (E2 λ aw fl=>A3 (TC K H6 p pm ps pt pf dg pb (vm++[.ref pk]) (vs++[.ref pz]) (vt++[vq]) aw { m with marks:=m.marks++[l],ce:=m.ce++[(sh,lo,Cf)],ax:=m.ax++[zt],aY:=fl }) (∀ a b,a<i->b<n->a≠b->∃ k,fl a b=some k/\0<=k/\k<=3) (∀ b,b<j->i≠b->∃ k,fl i b=some k/\0<=k/\k<=3)) (ni H H6 [p,pm,ps,pt,pf] (vm++[.ref pk]) (m.marks++[l])) (∃ Fi,U=[some (.ref sa),some (.int ca),some (.int cb),some (.int cc),some (ar n),some (.ref p),some (.int (0+(i:Int))),some (.ref pk),x8,some (.int lo),Fi]))
     ⟨S5,⟨aw,m.aY,C5,O1.aY,λ b h=>absurd h (aeI b)⟩,M5,Fi,rfl⟩ ?_ ?_
   .
    rintro _ _ _ j U H6 hj ⟨S6,⟨HG,fl,C6,Ep,DB⟩,M6,Fi,rfl⟩
    refine ⟨_,rfl,_,rfl,rfl,_,rfl,?_⟩
    refine Cj (λ h=>?_) (λ h=>?_)
    .
     have qv:i≠j:=λ e=>h (by rw [e])
     refine ⟨_,rfl,_,rfl,_,_,rfl,rfl,⟨10,10,o6,(show (0+(i:Int)).natAbs<2 ^ 10 by lia),by decide⟩,λ u1 g1=>⟨_,_,rfl,rfl,λ u2 g2=>⟨_,rfl,_,_,rfl,rfl,λ u3 g3=>⟨cb,u3,4,rfl,by lia,by lia,by decide,λ kk k0 k1=>?_⟩⟩⟩⟩
     refine ⟨_,rfl,p,_,rfl,pQ C6.hp,_,rfl,_,rfl,zB,λ kp vX=>?_⟩
     have C6':=C6.same (ai (o:=.tup [.int (0+(i:Int)),.int (0+(j:Int))]) vX)
     have ph:(upd H6 kp (.tup [.int (0+(i:Int)),.int (0+(j:Int))])) kp=some (.tup ((fE i j).map kV)):=by rw [ag,ac3,ac3];rfl
     refine ⟨pf,_,rfl,p7.t C6'.gG ph (ac1 C6.fk.len (by decide)),(S6.trans (ai vX)).put pfn,⟨_,_,C6'.dJ (k:=kk) (by lia) (by lia),λ a b ha hb vD=>?_,λ b hb vD=>?_⟩,M6.step (gt (lI (ai vX)) (nO (by simp))),_,rfl⟩
     . by_cases e:a=i/\b=j
       . exact ⟨kk,abS e,k0,by lia⟩
       . obtain ⟨z,h1,h2⟩:=Ep a b ha hb vD
         exact ⟨z,(abZ e).trans h1,h2⟩
     . by_cases e:b=j
       . exact ⟨kk,abS ⟨rfl,e⟩,k0,by lia⟩
       . obtain ⟨z,h1,h2⟩:=DB b (by lia) vD
         exact ⟨z,(abZ (λ y=>e y.2)).trans h1,h2⟩
    . have qv:i=j:=by have:=ft.mp h;lia
      exact ⟨S6,⟨HG,fl,C6,Ep,λ b hb vD=>DB b (by lia) vD⟩,M6,_,rfl⟩
   . rintro U H6 ⟨S6,⟨HG,fl,C6,Ep,DB⟩,M6,Fi,rfl⟩
     refine ⟨S6,⟨_,_,_,HG,_,C6,M6,O1.marks uU ⟨⟨sh0,by show sh<=3;lia⟩,⟨by show -30<=lo;lia,by show Cf<=60;lia⟩,by show lo<=Cf;lia,by show Cf<=lo+30;lia⟩ nW.ok λ a b ha hb vD=>?_⟩,_,_,_,_,_,rfl⟩
     by_cases e:a=i
     . subst e;exact DB b hb vD
     . exact Ep a b (by lia) hb vD
 . rintro U H' ⟨S1,⟨vm,vs,vt,aw,m,C1,M1,O1⟩,x6,x7,x8,x9,Fi,rfl⟩
   exact ⟨_,rfl,k p H' m n (by lia) (by lia) O1 S1 ⟨pm,ps,pt,pf,dg,pb,vm,vs,vt,aw,C1,M1⟩⟩
theorem lR (T:Txt K mg Ad):Def P w K mg base "_law_built" 7 ["_law_told"] (Al K Ad.aW):=by
 refine T.tR.cE cg λ f bx A outer s H vs Q E hr h=>?_
 obtain ⟨p,tm,n,rfl,hT,ok,n1,n4,k⟩:=h
 refine ⟨_,(af (aB (i:=1) cg.nd rfl (lc rfl) (bO (cF hr) (pv 0) bL (λ _ _=>rfl)))
     (af (aB (i:=2) cg.nd rfl (lc rfl) (bO (cF hr) (pv 0) bL (λ _ _=>rfl)))
     (af (aB (i:=3) cg.nd rfl (lc rfl) (BQ T.CS (ke (K:=K) T) hr.m T.HQ (aa (aG aD (pv 1) ah (λ _ _=>rfl)) (aa (aG aD (pv 1) ah (λ _ _=>rfl)) (aa (aG aD (pv 1) ah (λ _ _=>rfl)) ac)))))
     (af (dB ada rfl (cB (bO (cF hr) (pv 0) bL (λ _ _=>rfl))) (aE (i:=4) cg.nd rfl (lc rfl)) (am (bi (aN (pv 3) T.aC (lB (K:=K) T) .nil hr.m (aa (hX ["_law_num"] ["_law_scale_here"] [2] (.cons ⟨rfl,rfl,.inl rfl⟩ .nil) rfl (cB (pv 4)) (λ _ _ _ _ _=>(aE (i:=0) (show (["_law_num","_law_scale_here"]:List Str).Nodup by decide +kernel) rfl (lc rfl))) (λ _ _ _ _ _=>dI) (λ _ _ _ _ _=>(ak (jH (K:=K) T) hr.m (aa (pv 0) (aa ah (aa (pv 1) ac))))) rfl (by decide +kernel) (by decide +kernel) (by decide +kernel)) ac)))))
     (af (dB ada rfl (bP rfl T.cT (aa (bh bJ (by rfl) T.fW d9 (aa (bO (cF hr) (pv 0) bL (λ _ _=>rfl)) ac)) ac)) (aE (i:=5) cg.nd rfl (lc rfl)) (af (aB (i:=6) cg.nd rfl (lc rfl) (aG aD (bO (cF hr) (pv 0) bL (λ _ _=>rfl)) (pv 5) (λ _ _=>rfl)))
     (af (bi (aN (pv 3) T.aC (mG (K:=K) T) .nil hr.m (aa (pv 5) (aa (ak (gr (K:=K) T) hr.m (aa (aG aD (pv 6) ah (λ _ _=>rfl)) (aa ah ac))) (aa (ak (jH (K:=K) T) hr.m (aa (aG aD (pv 6) ah (λ _ _=>rfl)) (aa ah (aa (pv 2) ac)))) (aa (ak (jH (K:=K) T) hr.m (aa (aG aD (pv 6) ah (λ _ _=>rfl)) (aa ah (aa (pv 2) ac)))) ac))))))
     (af (aB (i:=7) cg.nd rfl (lc rfl) (aG aD (bO (cF hr) (pv 0) bL (λ _ _=>rfl)) (pv 5) (λ _ _=>rfl)))
     (af (mv (bA (aU sU (pv 7) gA (aZ _)) (am (bi (BD (pv 3) T.aC (jw (K:=K) T) hr.m (aa (pv 5) (aa (ak (gr (K:=K) T) hr.m (aa (ay br (aG aD (pv 7) ah (λ _ _=>rfl)) (aG aD (pv 2) ah (λ _ _=>rfl))) (aa (aG aD (pv 2) ah (λ _ _=>rfl)) ac))) (aa (aG aD (pv 7) ah (λ _ _=>rfl)) (aa (aG aD (pv 7) ah (λ _ _=>rfl)) (aa (aG aD (pv 7) ah (λ _ _=>rfl)) ac)))))))) aJ))
     (am (dB ada rfl (bP rfl T.cT (aa (bh bJ (by rfl) T.fW d9 (aa (bO (cF hr) (pv 0) bL (λ _ _=>rfl)) ac)) ac)) (aE (i:=8) cg.nd rfl (lc rfl)) (am (bA (aU mS (pv 8) (pv 5) (aZ _)) (am (bi (aN (pv 3) T.aC (lD (K:=K) T) .nil hr.m (aa (pv 5) (aa (pv 8) (aa (ak (gr (K:=K) T) hr.m (aa (bO (cF hr) (bO (cF hr) (pv 0) bL (λ _ _=>rfl)) (b9 (aa (pv 5) (aa (pv 8) ac))) (λ _ _=>rfl)) (aa ah ac))) ac)))))) aJ)))))))))
     (am (aF (pv 3)))))))),?_⟩
 try dsimp only [fb,aR]
 first|(refine oP ?_;intro _ _ _ _ _ _ _)|skip
 obtain ⟨pm,ps,pt,pf,dg,pb,vm,vs,vt,aw,C0⟩:=id hT
 have hb:bU K H pb [.int tm.bounds.1,.int tm.bounds.2.1,.int tm.bounds.2.2]:=fF.tup C0.bo
 have Ik:bU K H dg tm.scale.vs:=fF.tup C0.sc
 refine ⟨_,rfl,p,_,rfl,jE C0.hp,⟨_,rfl,p,_,rfl,vL C0.hp,?_⟩⟩
 refine ⟨_,rfl,_,_,_,_,rfl,rfl,.inr hb,rfl,_,rfl,_,_,_,_,rfl,rfl,.inr hb,rfl,_,rfl,_,_,_,_,rfl,rfl,.inr hb,rfl,?_⟩
 intro a Mu fa fdx nxd
 have fa':upd H Mu (.own a) a=none:=by rw [av nxd.symm];exact fa
 have s0:aA H (upd (upd H Mu (.own a)) a (.ins Ad.aW Mu [])):=(ai fdx).trans (ai fa')
 refine ⟨a,Mu,_,_,_,rfl,ag,by rw [av nxd];exact ag,ok.bounds.1,ok.bounds.2.1,ok.bounds.2.2,λ H1 fp1 D=>⟨rfl,?_⟩⟩
 obtain ⟨S1,F1⟩:=D.keep s0 (λ b hb=>by
   simp only [abt,T1,adj] at hb
   rcases hb with rfl|rfl
   . exact fa
   . exact fdx)
 have C1:=C0.same S1
 refine ⟨_,rfl,p,_,rfl,d8 C1.hp,pm,rfl,⟨vm,aV.of C1.eK⟩,?_⟩
 have FX:vm.length=n:=by rw [C0.dm.length,xq,ok.lm]
 refine qo (xs:=vm) (λ i U H'=>A4 (aA H H') (∃ fp,aM K Ad.aW H' a fp (tm.m1 i)/\∀ b∈fp,H b=none) ((tm.m1 i).rows=(tm.marks.take i).map tm.row) (E5 λ x4 x5 x6 x7 x8=>U=[some (.ref p),some (.ref pb),some (.ref dg),some (.ref a),x4,x5,x6,x7,x8]))
   ⟨S1,⟨fp1,D.at_,F1⟩,rfl,none,none,none,none,none,rfl⟩ (λ i U H' _ e=>aV.of (e.1 _ _ C0.eK)) ?_ ?_
 .
  rintro _ _ i x U H' hx ⟨S2,⟨fp,hh,hF⟩,qR,x4,x5,x6,x7,x8,rfl⟩
  refine Au ?_;intro _ _ _
  have hi:i<tm.marks.length:=by rw [ok.lm,← FX];exact (List.getElem?_eq_some_iff.mp hx).1
  have C2:=C0.same S2
  obtain ⟨v,ev,pk,ws,rfl,qY,IM⟩:=C2.dm.get (i:=i) (d:=yO tm.marks[i]) (by rw [Jl,au hi];rfl)
  obtain rfl:x = .ref pk:=aba (hx.symm.trans ev)
  obtain rfl:=jW IM
  have uU:=ok.rows tm.marks[i] (aaY hi)
  have Mw:aV K H' pk (tm.marks[i].map V.int):=fF.seq qY
  obtain ⟨⟨dx,_,_,_,_,_,_,_,_,_,ha,_⟩,_⟩:=id hh
  have OL:(tm.m1 i).rows.length=i:=by rw [qR,xq,acB];lia
  refine ⟨_,rfl,a,dx,_,rfl,ha,rfl,_,rfl,pk,rfl,⟨_,Mw⟩,λ Dl hD=>?_⟩
  refine fj (K:=K) (a:=pk) (xs:=tm.marks[i].map V.int) (λ j acc U H3=>A4 (aA H' H3) (H3 Dl=some (.lst acc)) (bI K H3 ((tm.marks[i].take j).map λ x=>dE (aP x 1 tm.scale)) acc) (∃ v,U=[v,some (.ref dg)]))
    ⟨ai hD,ag,rfl,none,rfl⟩ (λ j acc U H3 _ e=>e.1.seq Mw) ?_ ?_
  .
   rintro j x acc U H3 Rh ⟨s3,iI,d3,v,rfl⟩
   have Ie:j<tm.marks[i].length:=by have:=(List.getElem?_eq_some_iff.mp Rh).1;rw [xq] at this;exact this
   have ex:x = .int tm.marks[i][j]:=by
     rw [Jl,au Ie] at Rh
     exact (aba Rh).symm
   subst ex
   have bdj:=uU.bd tm.marks[i][j] (aaY Ie)
   refine ⟨_,rfl,_,rfl,_,1,dg,tm.scale,rfl,(S2.trans s3).tup Ik,ok.scale,(show (tm.marks[i][j]).natAbs<2 ^ 30 by lia),by decide,o6,λ q H4 s4 hq=>?_⟩
   have la:acc.length=j:=by rw [d3.length,xq,acB];lia
   have MS:bg K H4 (upd H4 Dl (.lst (acc++[.ref q]))):=bZ (s4 _ _ iI) rfl
   refine ⟨s4 _ _ iI,aL (by have:=uU.most;split at this<;>lia),(s3.trans s4).put hD,ag,?_,_,rfl⟩
   rw [adS,au Ie,My]
   exact (bI.ts ((aA.ts s4).trans MS) _ (kW _ _) d3).snoc (Dn.ts MS _ (gp _) (ko (bU.of hq)))
  .
   rintro acc U H3 ⟨s3,iI,d3,v,rfl⟩
   rw [xq,adg] at d3
   have MX:tm.marks[i].length<=7:=by have:=uU.most;split at this<;>lia
   refine ⟨a,fp,tm.m1 i,Dl,acc,tm.row tm.marks[i],rfl,hh.same s3,by have:=ok.lm;lia,aV.of iI,by unfold ap.row;rw [ae1];exact d3,Ge ok.scale uU,by unfold ap.row;rw [xq];exact uU.two,by unfold ap.row;rw [xq];exact MX,vN ok.scale uU.Im,?_,λ H4 IQ D4=>?_⟩
   .
    have e:(tm.m1 i).rows++[tm.row tm.marks[i]]=(tm.marks.take (i+1)).map tm.row:=by rw [qR,adS,au hi,My];rfl
    rw [e]
    refine (BS (n:=n) rfl n4 (λ r hr=>?_) ?_).2
    . refine CO ok r ?_
      obtain ⟨l,hl,rfl⟩:=List.mem_map.mp hr
      exact List.mem_map.mpr ⟨l,List.mem_of_mem_take hl,rfl⟩
    . rw [xq,acB,ok.lm];lia
   .
    obtain ⟨S4,F4⟩:=D4.keep (S2.trans s3) hF
    have em:=ap.Ff (au hi)
    refine ⟨S4,⟨IQ,by rw [em];exact D4.at_,F4⟩,?_,_,_,_,_,_,rfl⟩
    rw [em]
    show (tm.m1 i).rows++[tm.row tm.marks[i]]=_
    rw [qR,adS,au hi,My];rfl
 .
  rintro U H' ⟨S2,⟨fp,hh,hF⟩,qR,x4,x5,x6,x7,x8,rfl⟩
  rw [FX] at hh qR
  have C2:=C0.same S2
  have OL:(tm.m1 n).rows.length=n:=by rw [qR,xq,acB,ok.lm];lia
  refine ⟨_,rfl,p,_,rfl,d8 C2.hp,pm,vm,rfl,.inl (aV.of C2.eK),λ r er=>?_⟩
  obtain rfl:r=(n:Int):=by rw [er,FX]
  refine ⟨_,rfl,by lia,by lia,?_⟩
  refine fh (lo:=0) (n:=n) (λ i U H'=>A5 (aA H H') (∃ fp,aM K Ad.aW H' a fp (tm.m2 n i)/\∀ b∈fp,H b=none) ((tm.m2 n i).rows.length=n) (Tw (tm.m2 n i)) (E5 λ x4 x5 x6 x7 x8=>U=[some (.ref p),some (.ref pb),some (.ref dg),some (.ref a),x4,x5,x6,x7,x8]))
    ⟨S2,⟨fp,hh,hF⟩,OL,⟨_,_,tm.Kq n,⟨λ _=>by decide,λ _ _=>by decide,λ _=>rfl⟩⟩,x4,x5,x6,x7,x8,rfl⟩ ?_ ?_
  .
   rintro _ _ _ i U H3 hi ⟨S3,⟨fp3,Mo,Yr⟩,Ir,tw,y4,y5,y6,y7,y8,rfl⟩
   have C3:=C0.same S3
   have zD:i<tm.ce.length:=by rw [ok.ls];exact hi
   have wm:i<tm.ax.length:=by rw [ok.lt];exact hi
   obtain ⟨vz,evz,pz,wz,rfl,vS,dz⟩:=C3.ds.get (i:=i) (d:=tM tm.ce[i]) (by rw [Jl,au zD];rfl)
   obtain ⟨z1,r1,rfl,e1,z2,r2,rfl,e2,z3,r3,rfl,e3,e4⟩:=dz
   have e4:r3=[]:=e4
   have e1:z1 = .int tm.ce[i].1:=e1
   have e2:z2 = .int tm.ce[i].2.1:=e2
   have e3:z3 = .int tm.ce[i].2.2:=e3
   subst e1 e2 e3 e4
   have hz:bU K H3 pz [.int tm.ce[i].1,.int tm.ce[i].2.1,.int tm.ce[i].2.2]:=fF.tup vS
   have zE:=ok.ce tm.ce[i] (aaY zD)
   obtain ⟨⟨dx,_,_,_,_,_,_,_,_,_,ha,_⟩,lsk,lst,_⟩:=id Mo
   refine ⟨_,rfl,p,_,rfl,jR C3.hp,_,rfl,ps,vs,_,_,rfl,rfl,.inl (aV.of C3.eL),by rw [ac3];exact cf evz,?_⟩
   refine ⟨_,rfl,a,dx,_,rfl,ha,rfl,_,rfl,_,rfl,pz,_,_,_,rfl,rfl,.inr hz,rfl,_,12,rfl,by decide,o6,λ q r u Hr F sr hu=>?_⟩
   refine ⟨_,rfl,pz,_,_,_,rfl,rfl,.inr (sr.tup hz),rfl,_,rfl,_,1,dg,tm.scale,rfl,(S3.trans sr).tup Ik,ok.scale,(show (tm.ce[i].2.1).natAbs<2 ^ 30 by lia),by decide,o6,λ q1 Hw sw Cc=>?_⟩
   refine ⟨_,rfl,pz,_,_,_,rfl,rfl,.inr (sw.tup (sr.tup hz)),rfl,_,rfl,_,1,dg,tm.scale,rfl,((S3.trans sr).trans sw).tup Ik,ok.scale,(show (tm.ce[i].2.2).natAbs<2 ^ 30 by lia),by decide,o6,λ q2 Hx sx Cg=>?_⟩
   have s3x:=(sr.trans sw).trans sx
   have f12:Ov 12 tm.ce[i].1 (nf tm.ce[i].1 12):=Ov.nf (by decide)
   have okw:∀ x:Int,-200<=x->x<=200->dR 100 (aP x 1 tm.scale):=λ x h1 h2=>(nS (n:=8) ok.scale (by decide) (show x.natAbs<2 ^ 8 by lia) o6).mono (by decide)
   refine ⟨a,fp3,_,i,.ref u,.ref q1,.ref q2,nf tm.ce[i].1 12,aP tm.ce[i].2.1 1 tm.scale,aP tm.ce[i].2.2 1 tm.scale,by rw [ac3];rfl,Mo.same s3x,by lia,Dn.same (sw.trans sx) _ (Ag (by decide) F hu),Dn.same sx _ (ko (bU.of Cc)),ko (bU.of Cg),
     Aa (by decide) (show (tm.ce[i].1).natAbs<2 ^ 100 by lia) o6,okw _ (by lia) (by lia),okw _ (by lia) (by lia),?_,L2.Ov.nonneg (by decide) f12 zE.1.1,tw.tz (by lia) (by lia) f12 zE.1.2,λ H4 IQ D4=>?_⟩
   . rw [oq ok.scale (by decide)]
     exact ab2 (by lia)
   .
    obtain ⟨S4,F4⟩:=D4.keep (S3.trans s3x) Yr
    have C4:=C0.same S4
    have G9:tm.fG (tm.m2 n i) i=(tm.m2 n i).e8 i (tm.kU tm.ce[i]):=by unfold ap.fG;rw [au zD]
    have tw4:Tw (tm.fG (tm.m2 n i) i):=by rw [G9];exact tw.ce (by lia) f12 zE.1.1 zE.1.2
    have rw4:(tm.fG (tm.m2 n i) i).rows.length=n:=by rw [G9];exact Ir
    have ME:aM K Ad.aW H4 a IQ (tm.fG (tm.m2 n i) i):=by rw [G9];exact D4.at_
    generalize hm4:tm.fG (tm.m2 n i) i=m4 at tw4 rw4 ME
    obtain ⟨vq,Vs,dq⟩:=C4.dt.get (i:=i) (d:=stI tm.ax[i]) (by rw [Jl,au wm];rfl)
    refine ⟨_,rfl,p,_,rfl,jA C4.hp,_,rfl,pt,vt,_,_,rfl,rfl,.inl (aV.of C4.eQ),by rw [ac3];exact cf Vs,?_⟩
    refine ⟨λ σ' H5=>A5 (aA H H5) (∃ fp,aM K Ad.aW H5 a fp (tm.bD m4 i)/\∀ b∈fp,H b=none) ((tm.bD m4 i).rows.length=n) (Tw (tm.bD m4 i)) (E2 λ y6 y7=>σ'=[some (.ref p),some (.ref pb),some (.ref dg),some (.ref a),y4,some (.int (0+(i:Int))),y6,y7,y8]),?_,?_⟩
    .
     refine ⟨_,rfl,rfl,_,rfl,?_⟩
     cases Aw:tm.ax[i] with
     | none =>
       rw [Aw] at dq
       have dq:vq = .cR:=dq
       subst dq
       have es:tm.bD m4 i=m4:=by unfold ap.bD;rw [au wm,Aw]
       rw [es]
       refine ff rfl ⟨S4,⟨IQ,ME,F4⟩,rw4,tw4,_,_,rfl⟩
     | some z =>
       rw [Aw] at dq
       obtain ⟨pq,wq,rfl,Ju,t1,r1,rfl,e1,t2,r2,rfl,e2,t3,r3,rfl,e3,t4,r4,rfl,e4,e5⟩:=dq
       have e5:r4=[]:=e5
       have e1:t1 = .int z.1:=e1
       have e2:t2 = .int z.2.1:=e2
       have e3:t3 = .int z.2.2.1:=e3
       have e4:t4 = .int z.2.2.2:=e4
       subst e1 e2 e3 e4 e5
       have FI:bU K H4 pq [.int z.1,.int z.2.1,.int z.2.2.1,.int z.2.2.2]:=fF.tup Ju
       have Ej:=ok.ax z (by rw [← Aw];exact aaY wm)
       have KN:bU K H4 dg tm.scale.vs:=S4.tup Ik
       obtain ⟨⟨Of,_,_,_,_,_,_,_,_,_,ha4,_⟩,_⟩:=id ME
       refine zY nofun ⟨_,rfl,a,Of,_,rfl,ha4,rfl,_,rfl,_,rfl,pq,_,_,_,rfl,rfl,.inr FI,rfl,_,rfl,dg,_,_,_,rfl,rfl,.inr KN,rfl,_,_,rfl,rfl,⟨10,30,(show (z.1).natAbs<2 ^ 10 by have:=Ej.h;lia),ok.scale.ba,by decide⟩,λ yy ey=>?_⟩
       have hB:0<tm.scale.b:=by have:=ok.scale.b0;lia
       refine ⟨_,rfl,dg,_,_,_,rfl,rfl,.inr KN,rfl,yy,tm.scale.b,rfl,hB,ok.scale.bb.mono (by decide),λ q' r' u' Hr' F' Hj IR=>?_⟩
       refine ⟨_,rfl,pq,_,_,_,rfl,rfl,.inr (Hj.tup FI),rfl,_,rfl,pq,_,_,_,rfl,rfl,.inr (Hj.tup FI),rfl,_,rfl,pq,_,_,_,rfl,rfl,.inr (Hj.tup FI),rfl,?_⟩
       subst ey
       have bz:Bd 40 (z.1 * tm.scale.a):=Bd.mul (m:=10) (n:=30) (show (z.1).natAbs<2 ^ 10 by have:=Ej.h;lia) ok.scale.ba
       have ob:Ov tm.scale.b (z.1 * tm.scale.a) (nf (z.1 * tm.scale.a) tm.scale.b):=Ov.nf hB
       have es:tm.bD m4 i=m4.fV i (tm.gl z):=by unfold ap.bD;rw [au wm,Aw]
       refine ⟨a,IQ,m4,i,.ref u',nf (z.1 * tm.scale.a) tm.scale.b,z.2.1,z.2.2.1,z.2.2.2,by rw [ac3];rfl,ME.same Hj,by lia,Ag hB F' IR,Aa hB (bz.mono (by decide)) (ok.scale.bb.mono (by decide)),L2.Ov.nonneg hB ob (aer Ej.h.1 (by have:=ok.scale.a0;lia)),Ej.w,Ej.s,Ej.f,λ H5 Vy D5=>?_⟩
       obtain ⟨S5,F5⟩:=D5.keep (S4.trans Hj) F4
       rw [es]
       exact ⟨S5,⟨Vy,D5.at_,F5⟩,rw4,tw4.iE,_,_,rfl⟩
    .
     rintro σ' H5 ⟨S5,⟨Vy,hh5,F5⟩,rw5,tw5,y6,y7,rfl⟩
     have C5:=C0.same S5
     refine ⟨_,rfl,p,_,rfl,d8 C5.hp,pm,vm,rfl,.inl (aV.of C5.eK),λ r' er'=>?_⟩
     obtain rfl:r'=(n:Int):=by rw [er',FX]
     refine ⟨_,rfl,by lia,by lia,?_⟩
     generalize hm5:tm.bD m4 i=m5 at hh5 rw5 tw5
     refine fh (lo:=0) (n:=n) (λ j U H6=>A5 (aA H H6) (∃ fp,aM K Ad.aW H6 a fp (tm.dG i m5 j)/\∀ b∈fp,H b=none) ((tm.dG i m5 j).rows.length=n) (Tw (tm.dG i m5 j)) (∃ x8,U=[some (.ref p),some (.ref pb),some (.ref dg),some (.ref a),y4,some (.int (0+(i:Int))),y6,y7,x8]))
       ⟨S5,⟨Vy,hh5,F5⟩,rw5,tw5,_,rfl⟩ ?_ ?_
     .
      rintro _ _ _ j U H6 hj ⟨S6,⟨MG,Ig,F6⟩,JE,tw6,x8,rfl⟩
      refine ⟨_,rfl,_,rfl,rfl,_,rfl,?_⟩
      rw [ap.lA]
      generalize tm.dG i m5 j=m6 at Ig JE tw6
      refine Cj (λ h=>?_) (λ h=>?_)
      .
       have qv:i≠j:=λ e=>h (by rw [e])
       obtain ⟨kk,hk,k0,k3⟩:=ok.aY i j hi hj qv
       have C6:=C0.same S6
       obtain ⟨⟨dx6,_,_,_,_,_,_,_,_,_,ha6,_⟩,_⟩:=id Ig
       refine ⟨_,rfl,a,dx6,_,rfl,ha6,rfl,_,rfl,_,rfl,_,rfl,p,_,rfl,pQ C6.hp,_,rfl,_,rfl,zB,λ kp vX=>?_⟩
       have sk:=ai (o:=.tup [.int (0+(i:Int)),.int (0+(j:Int))]) vX
       have ph:(upd H6 kp (.tup [.int (0+(i:Int)),.int (0+(j:Int))])) kp=some (.tup ((fE i j).map kV)):=by rw [ag,ac3,ac3];rfl
       have Zu:f6 (upd H6 kp (.tup [.int (0+(i:Int)),.int (0+(j:Int))])) pf (.ref kp) (some (.int kk)):=by
         have:=f6.t (k:=fE i j) (sk _ _ C6.gG) ph
         rw [C6.df i j (by lia) (by lia),hk] at this
         exact this
       refine ⟨pf,.int kk,rfl,Zu,kk,12,rfl,by decide,o6,λ q' r' u' Hr' F' Hj IR=>?_⟩
       have Gk:Ov 12 kk (nf kk 12):=Ov.nf (by decide)
       have sA:=sk.trans Hj
       refine ⟨a,MG,m6,i,j,.ref u',nf kk 12,by rw [ac3,ac3];rfl,Ig.same sA,by lia,by lia,qv,Ag (by decide) F' IR,Aa (by decide) (show kk.natAbs<2 ^ 100 by lia) o6,L2.Ov.nonneg (by decide) Gk k0,tw6.oU (by lia) (by lia) qv (by lia) Gk k3,λ H7 fp7 D7=>?_⟩
       obtain ⟨S7,F7⟩:=D7.keep (S6.trans sA) F6
       have ef:tm.fD i m6 j=m6.dJ i j (nf kk 12):=by unfold ap.fD;rw [abZ qv.symm,hk]
       rw [ef]
       exact ⟨S7,⟨fp7,D7.at_,F7⟩,JE,tw6.eO qv Gk k0 k3,_,rfl⟩
      . have qv:i=j:=by have:=ft.mp h;lia
        have ef:tm.fD i m6 j=m6:=by unfold ap.fD;rw [abS qv.symm]
        rw [ef]
        exact ⟨S6,⟨MG,Ig,F6⟩,JE,tw6,_,rfl⟩
     . rintro U H6 ⟨S6,⟨MG,Ig,F6⟩,JE,tw6,x8,rfl⟩
       have e2:tm.m2 n (i+1)=tm.dG i m5 n:=by rw [ap.xI,← hm5,← hm4];rfl
       rw [e2]
       exact ⟨S6,⟨MG,Ig,F6⟩,JE,tw6,_,_,_,_,_,rfl⟩
  . rintro U H3 ⟨S3,⟨fp3,Mo,Yr⟩,Ir,tw,y4,y5,y6,y7,y8,rfl⟩
    exact ⟨_,rfl,k a H3 fp3 S3 Mo Yr Ir tw⟩
theorem d7 (T:Txt K mg Ad):Def P w K mg base "has_room" 1 ["bits","room"] uL:=by
 refine T.wQ.cE uo λ f bx A outer s H vs Q E hr h=>?_
 obtain ⟨n,r,rfl,k⟩:=h
 refine ⟨_,(am (aF (gi jk (ay gT (ay xA (pv 0) (pv 1)) ah) ah (aZ _)))),?_⟩
 try dsimp only [fb,aR]
 refine ⟨_,rfl,_,rfl,_,_,rfl,rfl,adU _,λ s es=>⟨_,_,rfl,rfl,by decide,λ m _ _ em=>⟨rfl,?_⟩⟩⟩
 rw [DN n r es em]
 exact k
theorem lP (T:Txt K mg Ad):Def P w K mg base "with_room" 1 ["bits","room"] sS:=by
 refine T.uq.cE rV λ f bx A outer s H vs Q E hr h=>?_
 obtain ⟨n,r,rfl,GC,k⟩:=h
 refine ⟨_,(am (aF (ay Hc (pv 0) (ay Dv ah (pv 1))))),?_⟩
 try dsimp only [fb,aR]
 refine ⟨_,rfl,_,rfl,_,_,rfl,rfl,⟨adU _,by lia,by decide⟩,λ s es=>⟨_,_,rfl,rfl,λ m em=>?_⟩⟩
 have e1:s=((2 ^ r:Nat):Int):=by rw [es,adB,Int.one_mul,Int.natCast_pow];rfl
 rw [em,e1,yT]
 exact k
theorem iS (T:Txt K mg Ad):Def P w K mg base "members" 2 ["bits"] wg:=by
 refine T.zd.cE vV λ f bx A outer s H vs Q E hr h=>?_
 obtain ⟨n,rfl,hn,k⟩:=h
 refine ⟨_,(am (aF (hX ["room"] ["bits"] [0] (.cons ⟨rfl,rfl,.inl rfl⟩ .nil) rfl (bP rfl T.cT (aa (Hg PySem.F.plainAttrs_int PySem.F.slot_int_bit_length PySem.F.type_int_bit_length zy (pv 0)) ac)) (λ _ _ _ _ _=>(aE (i:=0) (show (["room","bits"]:List Str).Nodup by decide +kernel) rfl (lc rfl))) (λ _ _ _ _ _=>(iL (cy (ak (d7 (K:=K) T) hr.m (aa (pv 1) (aa (pv 0) ac)))))) (λ _ _ _ _ _=>(pv 0)) rfl (by decide +kernel) (by decide +kernel) (by decide +kernel)))),?_⟩
 try dsimp only [fb,aR]
 refine ⟨_,rfl,rfl,_,rfl,rfl,λ b eb=>?_⟩
 have hb:Builtin.Int.intBits (n:Int)<=61:=PySem.intBits_le_iff.mpr (by simpa using hn)
 have ML:n<2 ^ Builtin.Int.intBits (n:Int):=by
   have:=PySem.intBits_le_iff.mp (aaT (Builtin.Int.intBits (n:Int)))
   simpa using this
 have eN:b.toNat=Builtin.Int.intBits (n:Int):=by lia
 refine ⟨b,rfl,by lia,by lia,λ D hD=>?_⟩
 refine dM (λ i acc U H'=>A3 (H'=upd H D (.lst acc)) (acc=((List.range i).filter n.testBit).map ar) (∃ v,U=[v,some (ar n)])) ⟨rfl,rfl,none,rfl⟩ ?_ ?_
 .
  rintro i acc U H' hi ⟨rfl,rfl,v,rfl⟩
  refine ⟨_,rfl,_,rfl,n,i,(by show [_,_]=[_,_];rw [ac3];rfl),_,rfl,?_⟩
  have er:((List.range (i+1)).filter n.testBit).map ar=((List.range i).filter n.testBit).map ar++(if n.testBit i=true then [ar i] else []):=by
    rw [adh,adG,My]
    by_cases q:n.testBit i=true<;>simp [q]
  by_cases q:n.testBit i=true
  .
   rw [q]
   refine jy ⟨_,rfl,ag,?_,?_,?_,_,rfl⟩
   . have:=adq n.testBit (List.range i)
     rw [acD] at this
     rw [xq]
     exact aL (by lia)
   . rw [xN]
   . rw [er,abS q,ac3];rfl
  . rw [Bool.not_eq_true] at q
    rw [q]
    refine gz ⟨rfl,?_,_,rfl⟩
    rw [er,q];simp
 . rintro acc U H' ⟨rfl,rfl,v,rfl⟩
   refine k D _ hD (ai hD) ?_
   rw [ag,eN,Bit.wM ML hb]
theorem pO (T:Txt K mg Ad):Def P w K mg base "subsets" 3 ["bits"] vJ:=by
 refine T.yX.cE iK λ f bx A outer s H vs Q E hr h=>?_
 obtain ⟨n,rfl,hn,h8,k⟩:=h
 refine ⟨_,(af (aB (i:=1) iK.nd rfl (lc rfl) (cG (aa ah ac)))
     (af (dB ada rfl (cB (ak (iS (K:=K) T) hr.m (aa (pv 0) ac))) (aE (i:=2) iK.nd rfl (lc rfl)) (am (aB (i:=1) iK.nd rfl (lc rfl) (ay zQ (pv 1) (hX ["part"] ["room"] [2] (.cons ⟨rfl,rfl,.inl rfl⟩ .nil) rfl (cB (pv 1)) (λ _ _ _ _ _=>(aE (i:=0) (show (["part","room"]:List Str).Nodup by decide +kernel) rfl (lc rfl))) (λ _ _ _ _ _=>dI) (λ _ _ _ _ _=>(ak (lP (K:=K) T) hr.m (aa (pv 0) (aa (pv 1) ac)))) rfl (by decide +kernel) (by decide +kernel) (by decide +kernel))))))
     (am (aF (pv 1))))),?_⟩
 try dsimp only [fb,aR]
 first|(refine dX ?_;intro _ _ _ _)|skip
 refine ⟨(by show 1<=sizeLine;decide),λ p0 Hn=>⟨_,rfl,n,rfl,hn,λ pm Hm eK sm km=>⟨pm,rfl,⟨_,aV.of km⟩,?_⟩⟩⟩
 have s0:=(ai (o:=.lst [.int 0]) Hn).trans sm
 refine gv (K:=K) (a:=pm) (xs:=(Bit.rooms n).map ar) (λ i U H'=>aA Hm H'/\E2 λ (pp:Addr) (v:Option V)=>A3 (H pp=none) (U=[some (ar n),some (.ref pp),v]) (H' pp=some (.lst ((Bit.parts ((Bit.rooms n).take i)).map ar))))
   ⟨aA.refl _,p0,none,Hn,rfl,sm _ _ ag⟩ (λ i U H' _ ⟨s1,_⟩=>aV.of (s1 _ _ km)) ?_ ?_
 .
  rintro i x U H' hx ⟨s1,pp,v,sL,rfl,kp⟩
  obtain ⟨r,er,rfl⟩:=cY hx
  have hil:i<(Bit.rooms n).length:=(List.getElem?_eq_some_iff.mp er).1
  have ahO:r<61:=(Bit.fe.mp (acU er)).1
  have agD:(Bit.parts ((Bit.rooms n).take i)).length<=256:=by
    rw [(EV n i).len,acB]
    exact adf (adr (by decide) (by lia:min i (Bit.rooms n).length<=8)) (by decide)
  have next:Bit.parts ((Bit.rooms n).take (i+1))=Bit.parts ((Bit.rooms n).take i)++(Bit.parts ((Bit.rooms n).take i)).map (· ||| 2 ^ r):=by
    rw [cn er,vZ]
  generalize Bit.parts ((Bit.rooms n).take i)=ps at *
  refine ⟨_,rfl,_,rfl,pp,rfl,⟨_,aV.of kp⟩,λ D hD=>?_⟩
  have nD:pp≠D:=aq kp hD
  refine fj (K:=K) (a:=pp) (xs:=ps.map ar) (λ j acc σ' H2=>A3 (H2=upd H' D (.lst acc)) (acc=(ps.take j).map (λ p=>ar (p ||| 2 ^ r))) (∃ v,σ'=[v,some (ar r)])) ⟨rfl,rfl,none,rfl⟩
    (λ j acc σ' H2 _ ⟨e,_,_⟩=>by subst e;exact aV.of (by rw [av nD];exact kp)) ?_ ?_
  .
   rintro j y acc σ' H2 hy ⟨rfl,rfl,v2,rfl⟩
   obtain ⟨p,ep,rfl⟩:=cY hy
   refine ⟨_,rfl,_,rfl,p,r,rfl,by lia,ag,?_,?_,?_,_,rfl⟩
   . rw [xq,acB];exact aL (by lia)
   . rw [xN]
   . rw [cn ep,My];rfl
  .
   rintro acc σ' H2 ⟨rfl,rfl,v2,rfl⟩
   rw [xq,adg]
   refine ⟨pp,D,_,_,rfl,rfl,(by rw [av nD];exact kp),ag,?_,λ q hq=>?_⟩
   . rw [xq,xq];exact aed (aL (by lia))
   . have s2:=ai (o:=.lst (ps.map λ p=>ar (p ||| 2 ^ r))) hD
     have s3:=ai (o:=.lst (ps.map ar++ps.map λ p=>ar (p ||| 2 ^ r))) hq
     refine ⟨s1.trans (s2.trans s3),q,_,s0.free (s1.free (s2.free hq)),rfl,?_⟩
     rw [ag,next,My,ae1];rfl
 . rintro U H' ⟨s1,pp,v,sL,rfl,kp⟩
   rw [xq,adg] at kp
   exact ⟨_,rfl,k pp H' sL (s0.trans s1) kp⟩
theorem mJ (T:Txt K mg Ad):Def P w K mg base "how_many" 3 ["bits"] uk:=by
 refine T.vT.cE tO λ f bx A outer s H vs Q E hr h=>?_
 obtain ⟨n,rfl,hn,k⟩:=h
 refine ⟨_,(am (aF (bh bJ (by rfl) T.fW d9 (aa (ak (iS (K:=K) T) hr.m (aa (pv 0) ac)) ac)))),?_⟩
 try dsimp only [fb,aR]
 refine ⟨_,rfl,n,rfl,hn,λ pm Hm eK sm km=>⟨pm,_,rfl,.inl (aV.of km),λ y ey=>?_⟩⟩
 rw [xq] at ey
 rw [ey]
 exact k Hm sm
theorem kG (T:Txt K mg Ad):Def P w K mg base "bits_of" 2 ["rooms"] (yH K):=by
 refine T.yN.cE i5 λ f bx A outer s H vs Q E hr h=>?_
 obtain ⟨p,l,rfl,hp,hl,k⟩:=h
 refine ⟨_,(af (aB (i:=1) i5.nd rfl (lc rfl) ah)
     (af (dB ada rfl (cB (pv 0)) (aE (i:=2) i5.nd rfl (lc rfl)) (am (aB (i:=1) i5.nd rfl (lc rfl) (ak (lP (K:=K) T) hr.m (aa (pv 1) (aa (pv 2) ac))))))
     (am (aF (pv 1))))),?_⟩
 try dsimp only [fb,aR]
 first|(refine dX ?_;intro _ _ _ _)|skip
 refine ⟨_,rfl,p,rfl,⟨_,hp⟩,?_⟩
 refine gv (K:=K) (a:=p) (xs:=l.map ar) (λ i U H'=>H'=H/\∃ v,U=[some (.ref p),some (ar (Bit.sumOf (l.take i))),v]) ⟨rfl,none,rfl⟩ (λ i U H' _ e=>by rw [e.1];exact hp) ?_ ?_
 .
  rintro i x U H' hx ⟨rfl,v,rfl⟩
  obtain ⟨r,er,rfl⟩:=cY hx
  have en:Bit.sumOf (l.take (i+1))=Bit.sumOf (l.take i) ||| 2 ^ r:=by
    rw [cn er]
    unfold Bit.sumOf
    rw [adw]
    rfl
  exact ⟨_,rfl,_,rfl,_,r,rfl,hl r (acU er),rfl,_,by rw [en];rfl⟩
 . rintro U H' ⟨rfl,v,rfl⟩
   rw [xq,adg]
   exact ⟨_,rfl,k⟩
theorem pX (T:Txt K mg Ad):Def P w K mg base "fits_stove" 1 ["stove","fired","wait","failed"] (pS K):=by
 refine T.si.cE ij λ f bx A outer s H vs Q E hr h=>?_
 obtain ⟨v,z,f,w',b,rfl,hd,hf,k⟩:=h
 refine ⟨_,(af (bA (aU w6 (pv 0) gA (aZ _)) (am (aF (oX (rq (pv 1)) (oX (gi jk (pv 2) ah (aZ _)) (or (gi jk (pv 3) ah (aZ _))))))) aJ)
     (af (gC (jr xV (pv 0) (jj ah) se) (eZ (K:=K) (n:=2) rfl rfl (aT (aE (i:=4) ij.nd rfl (lc rfl)) (aT (aE (i:=5) ij.nd rfl (lc rfl)) eX))))
     (af (bA (PW.pt (pC (dA (iH ia ia ah (pv 2) (pv 4))) (ma (dA (iH ia ia ah (pv 3) (pv 5)))))) (am (aF iC)) aJ)
     (am (aF (Ln (gi jk (pv 3) ah (aZ _)) (or (oX (rq (pv 1)) (or (gi jk (pv 2) ah (aZ _))))))))))),?_⟩
 try dsimp only [fb,aR]
 first|(refine dU ?_;intro _ _ _ _ _)|skip
 cases z with
 | none =>
   obtain ⟨rfl,rfl,rfl⟩:=hf
   have hd:v = .cR:=hd
   subst hd
   exact ⟨_,rfl,rfl,_,rfl,nJ rfl ⟨_,rfl,_,rfl,_,rfl,jy ⟨_,rfl,rfl,_,rfl,nJ rfl ⟨_,rfl,rfl,blT rfl (k H (aA.refl _))⟩⟩⟩⟩
 | some z =>
   obtain ⟨p,v1,rfl,hp,_⟩:=hd.iE
   refine ⟨_,rfl,rfl,_,rfl,mw nofun ?_⟩
   refine ⟨_,rfl,2,rfl,p,_,2,rfl,hp,rfl,rfl,by decide,(by show 2<=4;decide),λ q hq=>?_⟩
   refine ⟨q,_,rfl,bU.of ag,rfl,_,_,rfl,_,_,rfl,rfl,?_⟩
   have s1:=ai (o:=.tup [V.int z.2.2.1,V.int z.2.2.2]) hq
   obtain ⟨f1,f2,f3⟩:=hf
   refine ⟨_,rfl,_,_,rfl,rfl,_,rfl,nJ (by lia) ⟨_,rfl,_,_,rfl,rfl,_,rfl,ff f1 ?_⟩⟩
   refine ⟨_,rfl,_,_,rfl,rfl,_,rfl,nJ (by lia) ⟨_,rfl,_,_,rfl,rfl,_,rfl,ff f2 ?_⟩⟩
   refine ⟨_,rfl,rfl,_,rfl,?_⟩
   rcases f3 with rfl|⟨rfl,rfl⟩
   . exact nJ rfl (k _ s1)
   . refine jm (λ _=>k _ s1) (λ _=>⟨_,rfl,_,rfl,_,rfl,jy ⟨_,rfl,rfl,blT rfl (k _ s1)⟩⟩)
theorem tj (T:Txt K mg Ad):Def P w K mg base "fits_room" 5 ["hold","state","room"] (tu K Ad.aW):=by
 refine T.tU.cE eI λ f bx A outer s H vs Q E hr h=>?_
 obtain ⟨a,fp,m,p,st,i,rfl,hh,hs,ok,hi,k⟩:=h
 refine ⟨_,(af (gC (pv 1) (eZ (K:=K) (n:=5) rfl rfl (aT (aE (i:=3) eI.nd rfl (lc rfl)) (aT (aE (i:=4) eI.nd rfl (lc rfl)) (aT (aE (i:=5) eI.nd rfl (lc rfl)) (aT (aE (i:=6) eI.nd rfl (lc rfl)) (aT (aE (i:=7) eI.nd rfl (lc rfl)) eX)))))))
     (af (bA (dA (iH ia pI ah (aG aD (pv 3) (pv 2) (λ _ _=>rfl)) (ay dF (bh bJ (by rfl) T.fW d9 (aa (aN (pv 0) T.aC (d6 (K:=K) T) .nil hr.m (aa (pv 2) ac)) ac)) ah))) (am (aF iC)) aJ)
     (am (aF (ak (pX (K:=K) T) hr.m (aa (aN (pv 0) T.aC (c7 (K:=K) T) .nil hr.m (aa (pv 2) ac)) (aa (ak (d7 (K:=K) T) hr.m (aa (pv 4) (aa (pv 2) ac))) (aa (aG aD (pv 5) (pv 2) (λ _ _=>rfl)) (aa (aG aD (pv 6) (pv 2) (λ _ _=>rfl)) ac))))))))),?_⟩
 try dsimp only [fb,aR]
 first|(refine dX ?_;intro _ _ _ _)|skip
 obtain ⟨pb,pw,pf,e0,eb,ew,ef⟩:=id hs
 obtain ⟨⟨dx,_,_,_,_,_,_,_,_,_,ha,_⟩,q1,q2,q3,q4⟩:=id hh
 have rH:=au hi
 have Gx:m.rows.getD i []=m.rows[i]:=by rw [Ia,rH];rfl
 have hb:=ok.band i hi
 rw [Gx] at hb
 have l7:=q4.len m.rows[i] (aaY hi)
 have hz:=j8 (m:=m) (i:=i) (by lia)
 refine ⟨_,rfl,p,_,rfl,e0,rfl,_,_,rfl,_,_,rfl,_,_,rfl,_,_,rfl,_,_,rfl,rfl,?_⟩
 refine ⟨_,rfl,_,rfl,_,_,_,_,rfl,rfl,.inr eb,pd (by rw [ok.lb];exact hi),_,_,rfl,rfl,_,rfl,nJ (by lia) ?_⟩
 refine ⟨_,rfl,a,dx,_,rfl,ha,rfl,_,rfl,a,fp,m,i,_,rfl,hh,rH,λ pm xs eK KY=>⟨pm,xs,rfl,.inl (aV.of ag),λ y ey=>⟨_,_,rfl,rfl,λ z ez=>⟨_,_,rfl,rfl,_,rfl,ff ?_ ?_⟩⟩⟩⟩
 . have:=KY.length
   rw [xq] at this
   lia
 have s1:=ai (o:=.lst xs) eK
 refine ⟨_,rfl,a,dx,_,rfl,s1 _ _ ha,rfl,_,rfl,a,fp,m,i,_,rfl,hh.same s1,hz,λ v dv=>?_⟩
 refine ⟨_,rfl,_,rfl,st.cu,i,rfl,?_⟩
 refine ⟨_,rfl,_,rfl,_,_,_,_,rfl,rfl,.inr (s1.tup ew),pd (by rw [ok.lw];exact hi),?_⟩
 refine ⟨_,rfl,_,rfl,_,_,_,_,rfl,rfl,.inr (s1.tup ef),pd (by rw [ok.lf];exact hi),?_⟩
 exact ⟨v,m.tI i,_,_,_,rfl,dv,ok.iE i hi,λ H' s'=>k H' (s1.trans s')⟩
theorem tP (T:Txt K mg Ad):Def P w K mg base "is_state" 6 ["hold","state"] (uW K Ad.aW):=by
 refine T.vH.cE dS λ f bx A outer s H vs Q E hr h=>?_
 obtain ⟨a,fp,m,p,st,rfl,hh,hs,ok,k⟩:=h
 refine ⟨_,(af (gC (pv 1) (eZ (K:=K) (n:=5) rfl rfl (aT (aE (i:=2) dS.nd rfl (lc rfl)) (aT (aE (i:=3) dS.nd rfl (lc rfl)) (aT (aE (i:=4) dS.nd rfl (lc rfl)) (aT (aE (i:=5) dS.nd rfl (lc rfl)) (aT (aE (i:=6) dS.nd rfl (lc rfl)) eX)))))))
     (af (aB (i:=7) dS.nd rfl (lc rfl) (eG (pv 0) T.aC (bV (K:=K) T) .nil hr.m))
     (af (bA (PW.pt (pC (aU mS (bh bJ (by rfl) T.fW d9 (aa (pv 2) ac)) (pv 7) (aZ _)) (pC (aU mS (bh bJ (by rfl) T.fW d9 (aa (pv 4) ac)) (pv 7) (aZ _)) (ma (aU mS (bh bJ (by rfl) T.fW d9 (aa (pv 5) ac)) (pv 7) (aZ _)))))) (am (aF iC)) aJ)
     (af (bA (PW.pt (pC (aU mS (ay xA (pv 3) (pv 7)) ah (aZ _)) (ma (aU tV (ak (mJ (K:=K) T) hr.m (aa (pv 3) ac)) (bR (pv 0) rfl) (aZ _))))) (am (aF iC)) aJ)
     (af (bA (dA (iH ia ia ah (pv 6) (bR (pv 0) rfl))) (am (aF iC)) aJ)
     (am (aF (bh (qU rfl) (by rfl) T.Fp AU (aa (hX ["room"] ["hold","state"] [0,1] (.cons ⟨rfl,rfl,.inl rfl⟩ (.cons ⟨rfl,rfl,.inl rfl⟩ .nil)) rfl (bP rfl T.cT (aa (pv 7) ac)) (λ _ _ _ _ _=>(aE (i:=0) (show (["room","hold","state"]:List Str).Nodup by decide +kernel) rfl (lc rfl))) (λ _ _ _ _ _=>dI) (λ _ _ _ _ _=>(ak (tj (K:=K) T) hr.m (aa (pv 1) (aa (pv 2) (aa (pv 0) ac))))) rfl (by decide +kernel) (by decide +kernel) (by decide +kernel)) ac))))))))),?_⟩
 try dsimp only [fb,aR]
 first|(refine oP ?_;intro _ _ _ _ _ _ _)|skip
 obtain ⟨pb,pw,pf,e0,eb,ew,ef⟩:=id hs
 obtain ⟨⟨dx,pm,EG,Eo,D8,vm,vs,vt,aw,_,ha,_⟩,q1,q2,q3,q4⟩:=id hh
 have Zl:st.cu<2 ^ 61:=ab4 ok.cu (adr (by decide) (by lia))
 refine ⟨_,rfl,p,_,rfl,e0,rfl,_,_,rfl,_,_,rfl,_,_,rfl,_,_,rfl,_,_,rfl,rfl,?_⟩
 refine ⟨_,rfl,a,dx,_,rfl,ha,rfl,a,fp,m,rfl,hh,?_⟩
 refine ⟨_,rfl,pb,_,rfl,.inr eb,λ y ey=>⟨_,rfl,rfl,_,rfl,ff (by rw [ey,xq,ok.lb];rfl) ?_⟩⟩
 refine ⟨_,rfl,pw,_,rfl,.inr ew,λ y ey=>⟨_,rfl,rfl,_,rfl,ff (by rw [ey,xq,ok.lw];rfl) ?_⟩⟩
 refine ⟨_,rfl,pf,_,rfl,.inr ef,λ y ey=>⟨_,rfl,rfl,_,rfl,ff (by rw [ey,xq,ok.lf];rfl) ?_⟩⟩
 refine ⟨_,rfl,_,rfl,_,_,rfl,rfl,adU _,λ s es=>⟨rfl,_,rfl,ff ?_ ?_⟩⟩
 . rw [es,adB]
   have:((st.cu:Nat):Int) / 2 ^ m.rows.length=0:=Int.ediv_eq_zero_of_lt (adU _) (by exact_mod_cast ok.cu)
   rw [this]
 refine ⟨_,rfl,st.cu,rfl,Zl,λ H1 s1=>⟨_,rfl,a,_,dx,_,_,rfl,s1 _ _ ha,T.aC,T.iR,ux ..,_,_,rfl,rfl,_,rfl,mw (by have:=ok.most;lia) ?_⟩⟩
 refine ⟨_,rfl,_,_,rfl,rfl,_,rfl,nJ (by lia) ⟨_,rfl,a,_,dx,_,_,rfl,s1 _ _ ha,T.aC,T.jv,xF ..,_,_,rfl,rfl,_,rfl,ff ok.heap ?_⟩⟩
 refine ⟨_,rfl,_,rfl,by lia,by lia,λ D hD=>?_⟩
 refine dM (lo:=0) (n:=m.rows.length) (λ i acc U H'=>A4 (aA H1 H') (H' D=some (.lst acc)) (acc=(List.replicate i true).map V.bl) (∃ v,U=[v,some (.ref a),some (.ref p)])) ⟨ai hD,ag,rfl,none,rfl⟩ ?_ ?_
 . rintro i acc U H' hi ⟨s2,iU,rfl,v,rfl⟩
   refine ⟨_,rfl,_,rfl,_,rfl,a,fp,m,p,st,i,(by rw [ac3];rfl),hh.same (s1.trans s2),hs.same (s1.trans s2),ok,hi,λ H3 s3=>⟨s3 _ _ iU,aL (by rw [xq,adN];lia),(s2.trans s3).put hD,ag,?_,_,rfl⟩⟩
   rw [List.replicate_succ',My];rfl
 .
  rintro acc U H' ⟨s2,iU,rfl,v,rfl⟩
  refine ⟨D,_,rfl,aV.of iU,?_⟩
  have:(List.replicate m.rows.length true).all id=true:=by
    rw [aee]
    intro x hx
    exact (List.mem_replicate.mp hx).2
  rw [this]
  exact k H' (s1.trans s2)
theorem ir (T:Txt K mg Ad):Def P w K mg base "look_at_state" 7 ["hold","state"] (qa K Ad.aW):=by
 refine T.nA.cE mB λ f bx A outer s H vs Q E hr h=>?_
 obtain ⟨a,fp,m,p,st,rfl,hh,hs,ok,k⟩:=h
 refine ⟨_,(am (bA (dA (cy (ak (tP (K:=K) T) hr.m (aa (pv 0) (aa (pv 1) ac))))) (am bY) aJ)),?_⟩
 try dsimp only [fb,aR]
 exact ⟨_,rfl,_,rfl,a,fp,m,p,st,rfl,hh,hs,ok,λ H' s'=>⟨_,rfl,gz (k H' s')⟩⟩
theorem kj (T:Txt K mg Ad):Def P w K mg base "with_stove" 5 ["hold"] (qi K Ad.aW):=by
 refine T.sB.cE qb λ f bx A outer s H vs Q E hr h=>?_
 obtain ⟨a,fp,m,rfl,hh,k⟩:=h
 refine ⟨_,(am (aF (ak (kG (K:=K) T) hr.m (aa (hX ["room"] ["hold"] [0] (.cons ⟨rfl,rfl,.inl rfl⟩ .nil) rfl (bP rfl T.cT (aa (eG (pv 0) T.aC (bV (K:=K) T) .nil hr.m) ac)) (λ _ _ _ _ _=>(aE (i:=0) (show (["room","hold"]:List Str).Nodup by decide +kernel) rfl (lc rfl))) (λ _ _ _ _ _=>(iL (aU sU (aN (pv 1) T.aC (c7 (K:=K) T) .nil hr.m (aa (pv 0) ac)) gA (aZ _)))) (λ _ _ _ _ _=>(pv 0)) rfl (by decide +kernel) (by decide +kernel) (by decide +kernel)) ac)))),?_⟩
 try dsimp only [fb,aR]
 obtain ⟨⟨dx,pm,EG,Eo,D8,vm,vs,vt,aw,_,ha,_⟩,q1,q2,q3,q4⟩:=id hh
 refine ⟨_,rfl,a,dx,_,rfl,ha,rfl,a,fp,m,rfl,hh,_,rfl,by lia,by lia,λ D hD=>?_⟩
 refine dM (lo:=0) (n:=m.rows.length) (λ i acc U H'=>A4 (aA H H') (H' D=some (.lst acc)) (acc=((List.range i).filter m.has).map ar) (∃ v,U=[v,some (.ref a)])) ⟨ai hD,ag,rfl,none,rfl⟩ ?_ ?_
 .
  rintro i acc U H' hi ⟨s1,jp,rfl,v,rfl⟩
  have hz:=j8 (m:=m) (i:=i) (by lia)
  have er:((List.range (i+1)).filter m.has).map ar=((List.range i).filter m.has).map ar++(if m.has i=true then [ar i] else []):=by
    rw [adh,adG,My]
    by_cases q:m.has i=true<;>simp [q]
  have la:=adq m.has (List.range i)
  rw [acD] at la
  refine ⟨_,rfl,a,dx,_,rfl,s1 _ _ ha,rfl,_,rfl,a,fp,m,i,_,(by rw [ac3];rfl),hh.same s1,hz,λ v dv=>⟨rfl,_,rfl,?_⟩⟩
  cases e:m.tI i with
  | none =>
    rw [e] at dv
    have dv:v = .cR:=dv
    have hn:m.has i=false:=by unfold al.has;rw [e];rfl
    refine ff dv ⟨s1,jp,?_,_,rfl⟩
    rw [er,hn];simp
  | some z =>
    rw [e] at dv
    obtain ⟨pz,_,rfl,_⟩:=dv.iE
    have hn:m.has i=true:=by unfold al.has;rw [e];rfl
    refine zY nofun ⟨_,rfl,jp,aL (by rw [xq];lia),s1.put hD,ag,?_,_,rfl⟩
    rw [er,hn,ac3];rfl
 . rintro acc U H' ⟨s1,jp,rfl,v,rfl⟩
   exact ⟨D,(List.range m.rows.length).filter m.has,rfl,aV.of jp,λ r hr=>by have:=List.mem_range.mp (List.mem_filter.mp hr).1;lia,k H' s1⟩
theorem oG (T:Txt K mg Ad):Def P w K mg base "wood_of" 6 ["hold","bits"] (vO K Ad.aW):=by
 refine T.zo.cE w9 λ f bx A outer s H vs Q E hr h=>?_
 obtain ⟨a,fp,m,b,rfl,hh,k⟩:=h
 refine ⟨_,(am (aF (bh (yK rfl) (by rfl) T.KU Gg (aa (hX ["room"] ["hold"] [0] (.cons ⟨rfl,rfl,.inl rfl⟩ .nil) rfl (cB (ak (iS (K:=K) T) hr.m (aa (ay j4 (pv 1) (ak (kj (K:=K) T) hr.m (aa (pv 0) ac))) ac))) (λ _ _ _ _ _=>(aE (i:=0) (show (["room","hold"]:List Str).Nodup by decide +kernel) rfl (lc rfl))) (λ _ _ _ _ _=>dI) (λ _ _ _ _ _=>(aG (fT (K:=K) rfl) (aN (pv 1) T.aC (c7 (K:=K) T) .nil hr.m (aa (pv 0) ac)) ah (λ _ _=>rfl))) rfl (by decide +kernel) (by decide +kernel) (by decide +kernel)) ac)))),?_⟩
 try dsimp only [fb,aR]
 obtain ⟨⟨dx,pm,EG,Eo,D8,vm,vs,vt,aw,_,ha,_⟩,q1,q2,q3,q4⟩:=id hh
 refine ⟨_,rfl,_,rfl,a,fp,m,rfl,hh,λ H1 s1=>⟨_,_,rfl,rfl,λ y ey=>⟨b &&& m.ws,(by rw [ey,kF];rfl),?_,λ pl Hm kJ sm km=>⟨pl,rfl,⟨_,aV.of km⟩,λ D hD=>?_⟩⟩⟩⟩
 . exact ac1 aeD (ael (uS q3) (by decide))
 have S1:=s1.trans sm
 have lr:=qT (b &&& m.ws)
 have nD:pl≠D:=aq km hD
 refine fj (K:=K) (a:=pl) (xs:=(Bit.rooms (b &&& m.ws)).map ar) (λ j acc U H'=>A4 (aA Hm H') (H' D=some (.lst acc)) (acc=(((Bit.rooms (b &&& m.ws)).take j).map m.wd).map V.int) (∃ v,U=[v,some (.ref a)]))
   ⟨ai hD,ag,rfl,none,rfl⟩ (λ j acc U H' _ e=>aV.of (e.1 _ _ km)) ?_ ?_
 .
  rintro j x acc U H' hx ⟨s2,iU,rfl,v,rfl⟩
  obtain ⟨r,er,rfl⟩:=cY hx
  have hm:=(Bit.fe.mp (acU er)).2
  rw [adC,al.ws,Ord.gm,ac0,ac0,adv] at hm
  obtain ⟨_,GC,FJ⟩:=hm
  obtain ⟨z,ez⟩:=Option.isSome_iff_exists.mp FJ
  have hz:=j8 (m:=m) (i:=r) (by lia)
  have hj:j<(Bit.rooms (b &&& m.ws)).length:=(List.getElem?_eq_some_iff.mp er).1
  refine ⟨_,rfl,a,dx,_,rfl,(S1.trans s2) _ _ ha,rfl,_,rfl,a,fp,m,r,_,rfl,hh.same (S1.trans s2),hz,λ u du=>?_⟩
  rw [ez] at du
  obtain ⟨pz,v1,rfl,vS,_⟩:=du.iE
  refine ⟨pz,_,_,_,rfl,rfl,.inr vS,rfl,iU,aL (by rw [xq,xq,acB];lia),s2.put hD,ag,?_,_,rfl⟩
  rw [cn er,My,My]
  have:m.wd r=z.2.1:=by unfold al.wd;rw [ez];rfl
  show _=_++[V.int (m.wd r)]
  rw [this]
 .
  rintro acc U H' ⟨s2,iU,rfl,v,rfl⟩
  rw [xq,adg] at iU
  refine ⟨D,_,rfl,aV.of iU,λ r er=>?_⟩
  rw [er]
  exact k H' (S1.trans s2)
theorem sR (T:Txt K mg Ad):Def P w K mg base "must_stay" 3 ["state"] (rW K):=by
 refine T.vA.cE rG λ f bx A outer s H vs Q E hr h=>?_
 obtain ⟨p,st,rfl,hs,l4,k⟩:=h
 refine ⟨_,(am (aF (ak (kG (K:=K) T) hr.m (aa (hX ["room","wait"] [] [] .nil rfl (G1 rfl T.hV (aa (aG aD (pv 0) ah (λ _ _=>rfl)) ac)) (λ _ _ _ _ _=>(eZ (K:=K) (n:=2) rfl rfl (aT (aE (i:=0) (show (["room","wait"]:List Str).Nodup by decide +kernel) rfl (lc rfl)) (aT (aE (i:=1) (show (["room","wait"]:List Str).Nodup by decide +kernel) rfl (lc rfl)) eX)))) (λ _ _ _ _ _=>(iL (aU tV (pv 1) ah (aZ _)))) (λ _ _ _ _ _=>(pv 0)) rfl (by decide +kernel) (by decide +kernel) (by decide +kernel)) ac)))),?_⟩
 try dsimp only [fb,aR]
 obtain ⟨pb,pw,pf,e0,eb,ew,ef⟩:=id hs
 refine ⟨_,rfl,p,_,_,_,rfl,rfl,.inr e0,rfl,pw,rfl,⟨_,ew⟩,λ D hD=>?_⟩
 refine jY (sq:=bU K) (a:=pw) (xs:=st.ik.map ar) (λ i acc U H'=>A4 (aA H H') (H' D=some (.lst acc)) (acc=((List.range i).filter st.wt).map ar) (E2 λ v0 v1=>U=[v0,v1]))
   ⟨ai hD,ag,rfl,none,none,rfl⟩ (λ i acc U H' _ e=>e.1.tup ew) ?_ ?_
 .
  rintro i x pp acc U H' hx sL ⟨s1,jp,rfl,v0,v1,rfl⟩
  obtain ⟨wv,ewv,rfl⟩:=cY hx
  have hi:i<st.ik.length:=(List.getElem?_eq_some_iff.mp ewv).1
  have eg:gN st.ik i=wv:=by unfold gN;rw [ewv];rfl
  have s2:aA H' (upd H' pp (.tup [ar i,ar wv])):=ai sL
  have nD:D≠pp:=aq jp sL
  have iU:=s2 _ _ jp
  have la:=adq st.wt (List.range i)
  rw [acD] at la
  refine ⟨pp,_,rfl,bU.of ag,rfl,_,_,rfl,_,_,rfl,rfl,?_⟩
  refine ⟨_,rfl,_,_,rfl,rfl,_,rfl,jm (λ h=>?_) (λ h=>?_)⟩
  . have hw:st.wt i=true:=by unfold dY.wt;rw [eg];exact ac7 (by lia)
    refine ⟨_,rfl,iU,aL (by rw [xq];lia),(s1.trans s2).put hD,ag,?_,_,_,rfl⟩
    rw [adh,adG,My]
    simp [hw]
  . have hw:st.wt i=false:=by unfold dY.wt;rw [eg];exact ab2 (by lia)
    refine ⟨s1.trans s2,iU,?_,_,_,rfl⟩
    rw [adh,adG,My]
    simp [hw]
 . rintro acc U H' ⟨s1,jp,rfl,v0,v1,rfl⟩
   rw [xq] at jp
   exact ⟨D,(List.range st.ik.length).filter st.wt,rfl,aV.of jp,λ r hr=>by have:=List.mem_range.mp (List.mem_filter.mp hr).1;lia,k H' s1⟩
theorem tT (T:Txt K mg Ad):Def P w K mg base "can_burn" 7 ["hold","order","heap"] (u6 K Ad.aW):=by
 refine T.wb.cE ua λ f bx A outer s H vs Q E hr h=>?_
 obtain ⟨a,fp,m,o,hp,rfl,hh,ho,k⟩:=h
 refine ⟨_,(am (aF (oX (gi ia (ak (mJ (K:=K) T) hr.m (aa (pv 1) ac)) (bR (pv 0) rfl) (aZ _)) (or (gi ia (ak (oG (K:=K) T) hr.m (aa (pv 0) (aa (pv 1) ac))) (pv 2) (aZ _)))))),?_⟩
 try dsimp only [fb,aR]
 obtain ⟨⟨dx,pm,EG,Eo,D8,vm,vs,vt,aw,_,ha,_⟩,q1,q2,q3,q4⟩:=id hh
 refine ⟨_,rfl,o,rfl,ho,λ H1 s1=>⟨_,rfl,a,_,dx,_,_,rfl,s1 _ _ ha,T.aC,T.iR,ux ..,_,_,rfl,rfl,_,rfl,jm (λ h=>?_) (λ h=>?_)⟩⟩
 .
  refine ⟨_,rfl,_,rfl,a,fp,m,o,rfl,hh.same s1,λ H2 s2=>⟨_,rfl,_,_,rfl,rfl,?_⟩⟩
  have e:m.Bn o hp=decide (m.lH o<=hp):=by unfold al.Bn;rw [ac7 h,Bool.true_and]
  have:=k H2 (s1.trans s2)
  rw [e] at this
  exact this
 .
  have e:m.Bn o hp=false:=by unfold al.Bn;rw [ab2 h,afl]
  have:=k H1 s1
  rw [e] at this
  exact this
theorem k9 (T:Txt K mg Ad):Def P w K mg base "orders_of" 8 ["hold","state"] (sy K Ad.aW):=by
 refine T.tL.cE i9 λ f bx A outer s H vs Q E hr h=>?_
 obtain ⟨a,fp,m,p,st,rfl,hh,hs,ok,k⟩:=h
 refine ⟨_,(af (bi (ak (ir (K:=K) T) hr.m (aa (pv 0) (aa (pv 1) ac))))
     (af (aB (i:=2) i9.nd rfl (lc rfl) (ak (sR (K:=K) T) hr.m (aa (pv 1) ac)))
     (af (aB (i:=3) i9.nd rfl (lc rfl) (ay j4 (aG aD (pv 1) ah (λ _ _=>rfl)) (pv 2)))
     (am (aF (hX ["order"] ["going_on","hold","held","state"] [3,0,2,1] (.cons ⟨rfl,rfl,.inl rfl⟩ (.cons ⟨rfl,rfl,.inl rfl⟩ (.cons ⟨rfl,rfl,.inl rfl⟩ (.cons ⟨rfl,rfl,.inl rfl⟩ .nil)))) rfl (cB (ak (pO (K:=K) T) hr.m (aa (ak (kj (K:=K) T) hr.m (aa (pv 0) ac)) ac))) (λ _ _ _ _ _=>(aE (i:=0) (show (["order","going_on","hold","held","state"]:List Str).Nodup by decide +kernel) rfl (lc rfl))) (λ _ _ _ _ _=>(iL (PW.pt (wB (aU jk (ay j4 (pv 0) (pv 3)) (pv 1) (aZ _)) (sj (cy (ak (tT (K:=K) T) hr.m (aa (pv 2) (aa (pv 0) (aa (aG (fT (K:=K) rfl) (pv 4) ah (λ _ _=>rfl)) ac)))))))))) (λ _ _ _ _ _=>(pv 0)) rfl (by decide +kernel) (by decide +kernel) (by decide +kernel))))))),?_⟩
 try dsimp only [fb,aR]
 first|(refine dU ?_;intro _ _ _ _ _)|skip
 obtain ⟨pb,pw,pf,e0,eb,ew,ef⟩:=id hs
 obtain ⟨⟨dx,pm,EG,Eo,D8,vm,vs,vt,aw,_,ha,_⟩,q1,q2,q3,q4⟩:=id hh
 refine ⟨_,rfl,_,rfl,a,fp,m,p,st,rfl,hh,hs,ok,λ H1 s1=>?_⟩
 refine ⟨_,rfl,p,st,rfl,hs.same s1,by rw [ok.lw];exact q3,λ H2 s2=>?_⟩
 have S2:=s1.trans s2
 refine ⟨_,rfl,p,_,_,_,rfl,rfl,.inr (S2.tup e0),rfl,_,rfl,_,_,rfl,rfl,λ go ego=>?_⟩
 obtain rfl:go=((st.cu &&& st.held:Nat):Int):=by rw [ego,kF]
 have FZ:=uS q3
 have Mg:(Bit.rooms m.ws).length<=8:=by
   rw [al.ws,Ord.yu _ (by lia)]
   have:=adq m.has (List.range m.rows.length)
   rw [acD] at this
   lia
 refine ⟨_,rfl,a,fp,m,rfl,hh.same S2,λ H3 s3=>⟨m.ws,rfl,ael FZ (by decide),Mg,λ pl Hm kJ sm km=>⟨pl,rfl,⟨_,aV.of km⟩,λ D hD=>?_⟩⟩⟩
 have S3:=(S2.trans s3).trans sm
 have lp:(Bit.parts (Bit.rooms m.ws)).length<=16:=by
   rw [Ord.sO _ FZ]
   exact adf (adq _ _) (by rw [acD];decide)
 have KE:∀ o∈Bit.parts (Bit.rooms m.ws),o<16:=λ o h=>by
   rw [Ord.sO _ FZ] at h
   exact List.mem_range.mp (List.mem_filter.mp h).1
 generalize eL:Bit.parts (Bit.rooms m.ws)=ps at lp KE km
 refine fj (K:=K) (a:=pl) (xs:=ps.map ar) (λ j acc U H'=>A4 (aA Hm H') (H' D=some (.lst acc)) (acc=((ps.take j).filter (st.zA m)).map ar) (∃ v,U=[v,some (ar (st.cu &&& st.held)),some (.ref a),some (ar st.held),some (.ref p)]))
   ⟨ai hD,ag,rfl,none,rfl⟩ (λ j acc U H' _ e=>aV.of (e.1 _ _ km)) ?_ ?_
 .
  rintro j x acc U H' hx ⟨s4,yf,rfl,v,rfl⟩
  obtain ⟨o,eo,rfl⟩:=cY hx
  have ho:=KE o (acU eo)
  have la:=adq (st.zA m) (ps.take j)
  rw [acB] at la
  refine ⟨_,rfl,_,rfl,_,_,rfl,rfl,λ y ey=>⟨_,rfl,rfl,_,rfl,?_⟩⟩
  obtain rfl:y=((o &&& st.held:Nat):Int):=by rw [ey,kF]
  have er:((ps.take (j+1)).filter (st.zA m)).map ar=((ps.take j).filter (st.zA m)).map ar++(if st.zA m o=true then [ar o] else []):=by
    rw [cn eo,adG,My]
    cases q:st.zA m o<;>simp [q]
  refine jm (λ h=>?_) (λ h=>?_)
  .
   have h:o &&& st.held=st.cu &&& st.held:=by have:=ft.mp h;lia
   have ep:st.zA m o=m.Bn o st.heap:=by unfold dY.zA;rw [ac7 h,Bool.true_and]
   refine ⟨_,rfl,_,rfl,_,rfl,p,_,_,_,rfl,rfl,.inr ((S3.trans s4).tup e0),rfl,a,fp,m,o,_,rfl,hh.same (S3.trans s4),ael ho (by decide),λ H5 s5=>⟨_,rfl,?_⟩⟩
   cases q:m.Bn o st.heap with
   | true =>
     refine jy ⟨_,rfl,s5 _ _ yf,aL (by rw [xq];lia),(s4.trans s5).put hD,ag,?_,_,rfl⟩
     rw [er,ep,q];rfl
   | false =>
     refine gz ⟨s4.trans s5,s5 _ _ yf,?_,_,rfl⟩
     rw [er,ep,q];simp
  . have h:¬ (o &&& st.held=st.cu &&& st.held):=λ e=>h (by rw [e];rfl)
    have ep:st.zA m o=false:=by unfold dY.zA;rw [ab2 h,afl]
    refine gz ⟨s4,yf,?_,_,rfl⟩
    rw [er,ep];simp
 .
  rintro acc U H' ⟨s4,yf,rfl,v,rfl⟩
  rw [xq,adg] at yf
  refine k D H' (S3.free hD) (S3.trans s4) ?_
  rw [yf,← eL]
  rfl
inductive ad6  (vs:List V) (H:Hp) (Q:VK) (_E:XK):Prop
 | mk (n r:Nat) (_:vs=[ar n,ar r]) (_:Q (.bl (n.testBit r)) H)
theorem nv (T:Txt K mg Ad):Def P w K mg base "_law_state_by" 2 ["_law_told","_law_cell","_law_k"] (tW K):=by
 refine T.oQ.cE aQ λ f bx A outer s H vs Q E hr h=>?_
 obtain ⟨p,tm,n,c,kk,rfl,hT,ok,n4,hk,k⟩:=h
 refine ⟨_,(af (aB (i:=3) aQ.nd rfl (lc rfl) (cG ac))
     (af (aB (i:=4) aQ.nd rfl (lc rfl) (cG ac))
     (af (aB (i:=5) aQ.nd rfl (lc rfl) (cG ac))
     (af (aB (i:=6) aQ.nd rfl (lc rfl) ah)
     (af (aB (i:=7) aQ.nd rfl (lc rfl) ah)
     (af (dB ada rfl (bP rfl T.cT (aa (bh bJ (by rfl) T.fW d9 (aa (bO (cF hr) (pv 0) bL (λ _ _=>rfl)) ac)) ac)) (aE (i:=8) aQ.nd rfl (lc rfl)) (af (aB (i:=9) aQ.nd rfl (lc rfl) (aG aD (bO (cF hr) (pv 0) bL (λ _ _=>rfl)) (pv 8) (λ _ _=>rfl)))
     (af (aB (i:=10) aQ.nd rfl (lc rfl) ah)
     (af (aB (i:=11) aQ.nd rfl (lc rfl) ah)
     (af (mv (bA (aU sU (pv 9) gA (aZ _)) (af (aB (i:=10) aQ.nd rfl (lc rfl) (ak (aH (K:=K) T) hr.m (aa (pv 1) (aa (ay aI (ay aI (pv 2) ah) (pv 8)) (aa (ay aI (aG aD (pv 9) ah (λ _ _=>rfl)) ah) ac)))))
     (am (bA (PW.pt (wB (aU jk (ak (aH (K:=K) T) hr.m (aa (pv 1) (aa (ay aI (ay aI (pv 2) ah) (pv 8)) (aa ah ac)))) ah (aZ _)) (sj (aU pI (pv 7) (aG aD (bO (cF hr) (pv 0) bL (λ _ _=>rfl)) ah (λ _ _=>rfl)) (aZ _))))) (af (aB (i:=6) aQ.nd rfl (lc rfl) (ay aI (pv 6) (aG aD (cG (aa ah (aa ah (aa ah (aa ah ac))))) (pv 8) (λ _ _=>rfl))))
     (am (aB (i:=7) aQ.nd rfl (lc rfl) (ay aI (pv 7) ah)))) (am (bA (aU jk (pv 10) ah (aZ _)) (am (aB (i:=11) aQ.nd rfl (lc rfl) (ak (aH (K:=K) T) hr.m (aa (pv 1) (aa (ay aI (ay aI (pv 2) ah) (pv 8)) (aa (ay aI (aG aD (pv 9) ah (λ _ _=>rfl)) ah) ac)))))) aJ))))) aJ))
     (af (bi (il ac4 adc adb cH (pv 3) (aa (ak (aH (K:=K) T) hr.m (aa (pv 1) (aa (ay aI (pv 2) (pv 8)) (aa (ay dF (bh bJ (by rfl) T.fW d9 (aa (aG aD (bO (cF hr) (pv 0) bL (λ _ _=>rfl)) (pv 8) (λ _ _=>rfl)) ac)) ah) ac)))) ac)))
     (af (bi (il ac4 adc adb cH (pv 4) (aa (pv 10) ac)))
     (am (bi (il ac4 adc adb cH (pv 5) (aa (pv 11) ac)))))))))))
     (am (aF (b9 (aa (eA dh (by rfl) T.j7 ip (aa (pv 3) ac)) (aa (pv 6) (aa (eA dh (by rfl) T.j7 ip (aa (pv 4) ac)) (aa (eA dh (by rfl) T.j7 ip (aa (pv 5) ac)) (aa (ak (aH (K:=K) T) hr.m (aa (pv 1) (aa (ay aI (pv 2) ah) (aa (ay aI (aG aD (bO (cF hr) (pv 0) bL (λ _ _=>rfl)) ah (λ _ _=>rfl)) ah) ac)))) ac)))))))))))))),?_⟩
 try dsimp only [fb,aR]
 first|(refine zX ?_;intro _ _ _ _ _ _ _ _)|skip
 obtain ⟨pm,ps,pt,pf,dg,pb,vm,vs,vt,aw,C0⟩:=id hT
 have FX:vm.length=n:=by rw [C0.dm.length,xq,ok.lm]
 have hbo:bU K H pb [.int tm.bounds.1,.int tm.bounds.2.1,.int tm.bounds.2.2]:=fF.tup C0.bo
 refine ⟨DH,λ lb hlb=>⟨DH,λ lw NJ=>⟨DH,λ lf MJ=>?_⟩⟩⟩
 have sb:=ai (o:=.lst []) hlb
 have sw:=ai (o:=.lst []) NJ
 have sf:=ai (o:=.lst []) MJ
 have S0:=sb.trans (sw.trans sf)
 have C1:=C0.same S0
 have nbw:lb≠lw:=aq ag NJ
 have nbf:lb≠lf:=aq (sw _ _ ag) MJ
 have nwf:lw≠lf:=aq ag MJ
 have ew0:H lw=none:=sb.free NJ
 have ef0:H lf=none:=sb.free (sw.free MJ)
 refine ⟨_,rfl,p,_,rfl,d8 C1.hp,pm,vm,rfl,.inl (aV.of C1.eK),λ r er=>?_⟩
 obtain rfl:r=(n:Int):=by rw [er,FX]
 refine ⟨_,rfl,by lia,by lia,?_⟩
 refine fh (lo:=0) (n:=n) (λ i U H'=>aA H H'/\E3 λ (bs ws fs:List Nat)=>∃ (b:Nat),A5 (H' lb=some (.lst (bs.map ar))) (H' lw=some (.lst (ws.map ar))) (H' lf=some (.lst (fs.map ar))) (Part tm n i bs ws fs b) (E4 λ (v8 v9 v10 v11:Option V)=>U=[some (.ref p),some (.int c),some (ar kk),some (.ref lb),some (.ref lw),some (.ref lf),some (ar b),some (ar (Bit.rooms b).length),v8,v9,v10,v11]))
   ⟨S0,[],[],[],0,sf _ _ (sw _ _ ag),sf _ _ ag,ag,Part.zero ok,none,none,none,none,rfl⟩ ?_ ?_
 .
  rintro _ _ _ i U H1 hi ⟨S1,bs,ws,fs,b,eb,ew,ef,DT,v8,v9,v10,v11,rfl⟩
  have C1:=C0.same S1
  have wm:i<tm.ax.length:=by rw [ok.lt];exact hi
  have vF:i<tm.marks.length:=by rw [ok.lm];exact hi
  have Dw:=wS ok hi
  rw [au wm] at Dw
  obtain ⟨vq,Vs,dq⟩:=C1.dt.get (i:=i) (d:=stI tm.ax[i]) (by rw [Jl,au wm];rfl)
  refine ⟨_,rfl,p,_,rfl,jA C1.hp,_,rfl,pt,vt,_,_,rfl,rfl,.inl (aV.of C1.eQ),by rw [ac3];exact cf Vs,?_⟩
  refine ⟨λ σ' H'=>A5 (aA H H') (H' lb=some (.lst (bs.map ar))) (H' lw=some (.lst (ws.map ar))) (H' lf=some (.lst (fs.map ar))) (E3 λ (lit:Bool) (w' f':Nat)=>A3 (ud ((tm.m2 n n).tI i) lit w' f') (lit=true->((Bit.rooms b).length:Int)<tm.bounds.1) (σ'=[some (.ref p),some (.int c),some (ar kk),some (.ref lb),some (.ref lw),some (.ref lf),some (ar (if lit then b+2 ^ i else b)),some (ar ((Bit.rooms b).length+if lit then 1 else 0)),some (.int (0+(i:Int))),some vq,some (ar w'),some (ar f')])),?_,?_⟩
  .
   refine ⟨_,rfl,rfl,_,rfl,?_⟩
   cases Aw:tm.ax[i] with
   | none =>
     rw [Aw] at dq Dw
     have dq:vq = .cR:=dq
     subst dq
     exact ff rfl ⟨S1,eb,ew,ef,false,0,0,by rw [Dw];exact ⟨rfl,rfl,rfl⟩,nofun,rfl⟩
   | some z =>
     rw [Aw] at dq Dw
     obtain ⟨pq,wq,rfl,Ju,t1,r1,rfl,e1,t2,r2,rfl,e2,t3,r3,rfl,e3,t4,r4,rfl,e4,e5⟩:=dq
     have e5:r4=[]:=e5
     have e1:t1 = .int z.1:=e1
     have e2:t2 = .int z.2.1:=e2
     have e3:t3 = .int z.2.2.1:=e3
     have e4:t4 = .int z.2.2.2:=e4
     subst e1 e2 e3 e4 e5
     have FI:bU K H1 pq [.int z.1,.int z.2.1,.int z.2.2.1,.int z.2.2.2]:=fF.tup Ju
     have Ej:=ok.ax z (by rw [← Aw];exact aaY wm)
     have zE:=Ej.s
     have Fx:=Ej.f
     refine zY nofun ⟨_,rfl,_,rfl,_,_,rfl,rfl,λ x1 g1=>⟨_,rfl,_,_,rfl,rfl,λ x2 g2=>⟨_,rfl,pq,_,_,_,rfl,rfl,.inr FI,rfl,_,_,rfl,rfl,λ x3 g3=>⟨_,x2,x3,rfl,by lia,by lia,by lia,λ w0 w00 w01=>?_⟩⟩⟩⟩
     obtain ⟨wn,rfl⟩:∃ wn:Nat,w0=(wn:Int):=⟨w0.toNat,by lia⟩
     refine ⟨_,rfl,_,rfl,_,_,rfl,rfl,λ x4 g4=>⟨_,rfl,_,_,rfl,rfl,λ x5 g5=>⟨_,x5,2,rfl,by lia,by lia,by decide,λ r0 r00 r01=>⟨rfl,_,rfl,?_⟩⟩⟩⟩
     have AO:(wn:Int)<=(tm.gl z).2.2.1:=by show (wn:Int)<=z.2.2.1;lia
     refine jm (λ h1=>?_) (λ h1=>gz ?_)
     .
      refine ⟨_,rfl,_,rfl,p,_,rfl,jE C1.hp,pb,_,_,_,rfl,rfl,.inr (S1.tup hbo),rfl,_,_,rfl,rfl,_,rfl,jm (λ h2=>?_) (λ h2=>?_)⟩
      .
       refine ⟨_,rfl,Ic,λ q hq=>?_⟩
       have sq:=ai (o:=.lst [V.int 1,V.int 2,V.int 4,V.int 8]) hq
       have pw2:wO [V.int 1,V.int 2,V.int 4,V.int 8] (0+(i:Int))=some (.int ((2 ^ i:Nat):Int)):=by
         have:i=0∨i=1∨i=2∨i=3:=by lia
         rcases this with rfl|rfl|rfl|rfl<;>rfl
       refine ⟨_,rfl,q,_,_,_,rfl,rfl,.inl (aV.of ag),pw2,_,_,rfl,rfl,λ y1 f1=>⟨_,rfl,_,_,rfl,rfl,λ y2 f2=>?_⟩⟩
       obtain rfl:y1=((b+2 ^ i:Nat):Int):=by rw [f1];push_cast;rfl
       obtain rfl:y2=(((Bit.rooms b).length+1:Nat):Int):=by rw [f2];push_cast;rfl
       exact ⟨S1.trans sq,sq _ _ eb,sq _ _ ew,sq _ _ ef,true,wn,0,by rw [Dw];exact ⟨AO,Fx.1,.inl rfl⟩,λ _=>h2,rfl⟩
      . refine ⟨_,rfl,rfl,_,rfl,jm (λ hw=>⟨_,rfl,_,rfl,_,_,rfl,rfl,λ x6 g6=>⟨_,rfl,_,_,rfl,rfl,λ x7 g7=>⟨_,rfl,pq,_,_,_,rfl,rfl,.inr FI,rfl,_,_,rfl,rfl,λ x8 g8=>⟨_,x7,x8,rfl,by lia,by lia,by lia,λ fv f0 f1=>?_⟩⟩⟩⟩) (λ hw=>⟨S1,eb,ew,ef,false,wn,0,by rw [Dw];exact ⟨AO,Fx.1,.inl rfl⟩,nofun,rfl⟩)⟩
        obtain ⟨fn,rfl⟩:∃ fn:Nat,fv=(fn:Int):=⟨fv.toNat,by lia⟩
        have Mm:wn=0:=by have:=ft.mp hw;lia
        exact ⟨S1,eb,ew,ef,false,wn,fn,by rw [Dw];exact ⟨AO,(by show (fn:Int)<=z.2.2.2;lia),.inr ⟨rfl,Mm⟩⟩,nofun,rfl⟩
     . refine ⟨_,rfl,rfl,_,rfl,jm (λ hw=>⟨_,rfl,_,rfl,_,_,rfl,rfl,λ x6 g6=>⟨_,rfl,_,_,rfl,rfl,λ x7 g7=>⟨_,rfl,pq,_,_,_,rfl,rfl,.inr FI,rfl,_,_,rfl,rfl,λ x8 g8=>⟨_,x7,x8,rfl,by lia,by lia,by lia,λ fv f0 f1=>?_⟩⟩⟩⟩) (λ hw=>⟨S1,eb,ew,ef,false,wn,0,by rw [Dw];exact ⟨AO,Fx.1,.inl rfl⟩,nofun,rfl⟩)⟩
       obtain ⟨fn,rfl⟩:∃ fn:Nat,fv=(fn:Int):=⟨fv.toNat,by lia⟩
       have Mm:wn=0:=by have:=ft.mp hw;lia
       exact ⟨S1,eb,ew,ef,false,wn,fn,by rw [Dw];exact ⟨AO,(by show (fn:Int)<=z.2.2.2;lia),.inr ⟨rfl,Mm⟩⟩,nofun,rfl⟩
  .
   rintro σ' H2 ⟨S2,eb2,ew2,ef2,lit,w',f',fit,lim,rfl⟩
   have C2:=C0.same S2
   have uU:=ok.rows tm.marks[i] (aaY vF)
   have l2:=uU.two
   have l7:tm.marks[i].length<=7:=by have:=uU.most;split at this<;>lia
   have b63:i<61:=by lia
   have lb':=DT.lb
   have lw':=DT.lw
   have lf':=DT.lf
   obtain ⟨v,ev,pk,ws',rfl,qY,IM⟩:=C2.dm.get (i:=i) (d:=yO tm.marks[i]) (by rw [Jl,au vF];rfl)
   obtain rfl:=jW IM
   have Mw:aV K H2 pk (tm.marks[i].map V.int):=fF.seq qY
   refine ⟨_,rfl,.inl ⟨rfl,_,aV.of eb2⟩,_,rfl,_,rfl,_,rfl,_,_,rfl,rfl,λ x1 g1=>?_⟩
   refine ⟨_,rfl,p,_,rfl,d8 C2.hp,_,rfl,pm,vm,_,_,rfl,rfl,.inl (aV.of C2.eK),(by rw [ac3];exact cf ev),pk,_,rfl,.inl Mw,λ y ey=>⟨_,_,rfl,rfl,λ z ez=>?_⟩⟩
   rw [xq] at ey
   refine ⟨_,x1,z,rfl,by lia,by lia,by lia,λ r r0 r1=>?_⟩
   obtain ⟨x,rfl⟩:∃ x:Nat,r=(x:Int):=⟨r.toNat,by lia⟩
   refine ⟨lb,_,_,rfl,rfl,eb2,aL (by rw [xq];lia),?_⟩
   have s3:upd H2 lb (.lst (bs.map ar++[V.int (x:Int)])) lb=some (.lst ((bs++[x]).map ar)):=by rw [ag,My];rfl
   have S3:aA H (upd H2 lb (.lst (bs.map ar++[V.int (x:Int)]))):=S2.put hlb
   have ew3:upd H2 lb (.lst (bs.map ar++[V.int (x:Int)])) lw=some (.lst (ws.map ar)):=by rw [av nbw.symm];exact ew2
   have ef3:upd H2 lb (.lst (bs.map ar++[V.int (x:Int)])) lf=some (.lst (fs.map ar)):=by rw [av nbf.symm];exact ef2
   generalize upd H2 lb (.lst (bs.map ar++[V.int (x:Int)]))=H3 at s3 S3 ew3 ef3 ⊢
   refine ⟨_,rfl,.inl ⟨rfl,_,aV.of ew3⟩,_,rfl,lw,_,_,rfl,rfl,ew3,aL (by rw [xq];lia),?_⟩
   have s4:upd H3 lw (.lst (ws.map ar++[ar w'])) lw=some (.lst ((ws++[w']).map ar)):=by rw [ag,My];rfl
   have S4:aA H (upd H3 lw (.lst (ws.map ar++[ar w']))):=S3.put ew0
   have eb4:upd H3 lw (.lst (ws.map ar++[ar w'])) lb=some (.lst ((bs++[x]).map ar)):=by rw [av nbw];exact s3
   have V2:upd H3 lw (.lst (ws.map ar++[ar w'])) lf=some (.lst (fs.map ar)):=by rw [av nwf.symm];exact ef3
   generalize upd H3 lw (.lst (ws.map ar++[ar w']))=H4 at s4 S4 eb4 V2 ⊢
   refine ⟨_,rfl,.inl ⟨rfl,_,aV.of V2⟩,_,rfl,lf,_,_,rfl,rfl,V2,aL (by rw [xq];lia),?_⟩
   obtain ⟨nx1,nx2⟩:=DT.next (x:=x) b63 (by rw [Ia,au vF];show x+1<tm.marks[i].length;lia) fit lim
   refine ⟨S4.put ef0,bs++[x],ws++[w'],fs++[f'],_,?_,?_,?_,nx1,_,_,_,_,by rw [nx2]⟩
   . rw [av nbf];exact eb4
   . rw [av nwf];exact s4
   . rw [ag,My];rfl
 .
  rintro U H1 ⟨S1,bs,ws,fs,b,eb,ew,ef,DT,v8,v9,v10,v11,rfl⟩
  have lb':=DT.lb
  have lw':=DT.lw
  have lf':=DT.lf
  refine ⟨_,rfl,lb,_,rfl,.inl ⟨aV.of eb,λ kb hkb=>?_⟩⟩
  have s1:=ai (o:=.tup (bs.map ar)) hkb
  refine ⟨_,rfl,_,rfl,lw,_,rfl,.inl ⟨aV.of (s1 _ _ ew),λ kw P8=>?_⟩⟩
  have s2:=ai (o:=.tup (ws.map ar)) P8
  refine ⟨_,rfl,lf,_,rfl,.inl ⟨aV.of ((s1.trans s2) _ _ ef),λ kf Px=>?_⟩⟩
  have s3:=ai (o:=.tup (fs.map ar)) Px
  have S3:=S1.trans (s1.trans (s2.trans s3))
  have C3:=C0.same S3
  refine ⟨_,rfl,_,rfl,_,_,rfl,rfl,λ x1 g1=>?_⟩
  refine ⟨_,rfl,p,_,rfl,jE C3.hp,pb,_,_,_,rfl,rfl,.inr (S3.tup hbo),rfl,_,_,rfl,rfl,λ y ey=>?_⟩
  have ML:=ok.bounds.2.1
  refine ⟨_,x1,y,rfl,by lia,by lia,by lia,λ r r0 r1=>⟨(by show 5<=sizeLine;decide),λ q hq=>?_⟩⟩
  obtain ⟨hp,rfl⟩:∃ hp:Nat,r=(hp:Int):=⟨r.toNat,by lia⟩
  have s4:aA _ _:=ai (o:=.tup [.ref kb,ar b,.ref kw,.ref kf,ar hp]) hq
  exact k q ⟨bs,b,ws,fs,hp⟩ _ (S3.trans s4) ⟨kb,kw,kf,bU.of ag,bU.of (s4 _ _ (s3 _ _ (s2 _ _ ag))),bU.of (s4 _ _ (s3 _ _ ag)),bU.of (s4 _ _ ag)⟩ (DT.ok ok (by lia))
theorem wW (T:Txt K mg Ad):Def P w K mg base "failing" 5 ["hold","state","order"] (ww K Ad.aW):=by
 refine T.yS.cE pE λ f bx A outer s H vs Q E hr h=>?_
 obtain ⟨a,fp,m,p,st,o,rfl,hh,hs,ok,ho,k⟩:=h
 refine ⟨_,(af (aB (i:=3) pE.nd rfl (lc rfl) (ay j4 (pv 2) (o4 wD (aG aD (pv 1) ah (λ _ _=>rfl)))))
     (am (aF (ak (kG (K:=K) T) hr.m (aa (hX ["room"] ["state","hold"] [1,0] (.cons ⟨rfl,rfl,.inl rfl⟩ (.cons ⟨rfl,rfl,.inl rfl⟩ .nil)) rfl (cB (ak (iS (K:=K) T) hr.m (aa (pv 3) ac))) (λ _ _ _ _ _=>(aE (i:=0) (show (["room","state","hold"]:List Str).Nodup by decide +kernel) rfl (lc rfl))) (λ _ _ _ _ _=>(iL (aU pI (aG (fT (K:=K) rfl) (aG (fT (K:=K) rfl) (pv 1) ah (λ _ _=>rfl)) (pv 0) (λ _ _=>rfl)) (aG (fT (K:=K) rfl) (aN (pv 2) T.aC (c7 (K:=K) T) .nil hr.m (aa (pv 0) ac)) ah (λ _ _=>rfl)) (aZ _)))) (λ _ _ _ _ _=>(pv 0)) rfl (by decide +kernel) (by decide +kernel) (by decide +kernel)) ac))))),?_⟩
 try dsimp only [fb,aR]
 obtain ⟨pb,pw,pf,e0,eb,ew,ef⟩:=id hs
 obtain ⟨⟨dx,pm,EG,Eo,D8,vm,vs,vt,aw,_,ha,_⟩,q1,q2,q3,q4⟩:=id hh
 have DJ:o<16:=by rw [← ho];exact ac1 aeD (uS q3)
 have N4:st.cu<16:=Ord.Fv q3 ok.cu
 refine ⟨_,rfl,_,rfl,p,_,_,_,rfl,rfl,.inr e0,rfl,_,rfl,_,_,rfl,rfl,λ y ey=>?_⟩
 obtain rfl:y=((Ord.off o st.cu:Nat):Int):=by rw [ey];exact kA _ _
 have MM:Ord.off o st.cu<2 ^ 4:=Ord.Go (n:=4) DJ
 have em:=Gy q3 ok ho
 have yp:∀ r∈Bit.rooms (Ord.off o st.cu),r<m.rows.length/\m.has r=true:=λ r hr=>by
   have:=(Bit.fe.mp hr).2
   rw [Ord.sM DJ N4,ac0] at this
   exact zg ho this.1
 generalize Ord.off o st.cu=z at MM em yp ⊢
 refine ⟨_,rfl,z,rfl,ael MM (by decide),λ pl Hm kJ sm km=>⟨pl,rfl,⟨_,aV.of km⟩,λ D hD=>?_⟩⟩
 refine fj (K:=K) (a:=pl) (xs:=(Bit.rooms z).map ar) (λ j acc U H'=>A4 (aA Hm H') (H' D=some (.lst acc)) (acc=(((Bit.rooms z).take j).filter λ r=>decide ((gN st.failed r:Int)<m.fails r)).map ar) (∃ v,U=[v,some (.ref p),some (.ref a)]))
   ⟨ai hD,ag,rfl,none,rfl⟩ (λ j acc U H' _ e=>aV.of (e.1 _ _ km)) ?_ ?_
 .
  rintro j x acc U H' hx ⟨s2,iU,rfl,v,rfl⟩
  obtain ⟨r,er,rfl⟩:=cY hx
  obtain ⟨GC,FJ⟩:=yp r (acU er)
  obtain ⟨zz,ez⟩:=oB FJ
  have hz:=j8 (m:=m) (i:=r) (by lia)
  have S2:=sm.trans s2
  have la:=adq (λ r=>decide ((gN st.failed r:Int)<m.fails r)) ((Bit.rooms z).take j)
  have lr:=qT z
  rw [acB] at la
  have zF:m.fails r=zz.2.2.2:=by unfold al.fails;rw [ez];rfl
  refine ⟨_,rfl,p,_,_,_,rfl,rfl,.inr (S2.tup e0),rfl,_,rfl,pf,_,_,_,rfl,rfl,.inr (S2.tup ef),pd (by rw [ok.lf];exact GC),?_⟩
  refine ⟨_,rfl,a,dx,_,rfl,S2 _ _ ha,rfl,_,rfl,a,fp,m,r,_,rfl,hh.same S2,hz,λ u du=>?_⟩
  rw [ez] at du
  obtain ⟨pz,v1,rfl,vS,_⟩:=du.iE
  have er2:(((Bit.rooms z).take (j+1)).filter λ r=>decide ((gN st.failed r:Int)<m.fails r)).map ar=(((Bit.rooms z).take j).filter λ r=>decide ((gN st.failed r:Int)<m.fails r)).map ar++(if decide ((gN st.failed r:Int)<m.fails r)=true then [ar r] else []):=by
    rw [cn er,adG,My]
    by_cases q:(gN st.failed r:Int)<m.fails r<;>simp [q]
  refine ⟨pz,_,_,_,rfl,rfl,.inr vS,rfl,_,_,rfl,rfl,_,rfl,jm (λ h=>?_) (λ h=>?_)⟩
  . refine ⟨_,rfl,iU,aL (by rw [xq];lia),s2.put hD,ag,?_,_,rfl⟩
    rw [er2,ac7 (by rw [zF];exact h)];rfl
  . refine ⟨s2,iU,?_,_,rfl⟩
    rw [er2,ab2 (by rw [zF];exact h)];simp
 .
  rintro acc U H' ⟨s2,iU,rfl,v,rfl⟩
  rw [xq,adg] at iU
  have:=k H' (sm.trans s2)
  rw [← em] at this
  exact ⟨D,_,rfl,aV.of iU,λ r hr=>by have:=(yp r (List.mem_filter.mp hr).1).1;lia,this⟩
theorem ox (T:Txt K mg Ad):Def P w K mg base "wait_behind" 5 ["hold","state","burning","room"] (pM K Ad.aW):=by
 refine T.qe.cE oZ λ f bx A outer s H vs Q E hr h=>?_
 obtain ⟨a,fp,m,p,st,b,i,rfl,hh,hs,ok,hi,hz,h0,k⟩:=h
 refine ⟨_,(af (bA (aU mS (ak (d7 (K:=K) T) hr.m (aa (aG aD (pv 1) ah (λ _ _=>rfl)) (aa (pv 3) ac))) (ak (d7 (K:=K) T) hr.m (aa (pv 2) (aa (pv 3) ac))) (aZ _)) (am (aF (aG aD (aN (pv 0) T.aC (c7 (K:=K) T) .nil hr.m (aa (pv 3) ac)) ah (λ _ _=>rfl)))) aJ)
     (am (aF (bh (yY rfl) (by rfl) T.K3 HX (aa ah (aa (ay dF (aG aD (aG aD (pv 1) ah (λ _ _=>rfl)) (pv 3) (λ _ _=>rfl)) ah) ac)))))),?_⟩
 try dsimp only [fb,aR]
 obtain ⟨pb,pw,pf,e0,eb,ew,ef⟩:=id hs
 obtain ⟨⟨dx,pm,EG,Eo,D8,vm,vs,vt,aw,_,ha,_⟩,q1,q2,q3,q4⟩:=id hh
 refine ⟨_,rfl,p,_,_,_,rfl,rfl,.inr e0,rfl,_,rfl,st.cu,i,rfl,?_⟩
 refine ⟨_,rfl,_,rfl,b,i,rfl,rfl,_,rfl,Cj (λ MI=>?_) (λ heq=>?_)⟩
 .
  have MI:¬ st.cu.testBit i=b.testBit i:=λ e=>MI (by rw [e])
  obtain ⟨z,ez⟩:=oB (hz MI)
  have nW:=j8 (m:=m) (i:=i) (by lia)
  refine ⟨_,rfl,a,dx,_,rfl,ha,rfl,_,rfl,a,fp,m,i,_,rfl,hh,nW,λ u du=>?_⟩
  rw [ez] at du
  obtain ⟨pz,v1,rfl,vS,_⟩:=du.iE
  have e1:m.iz i=z.2.2.1:=by unfold al.iz;rw [ez];rfl
  have e2:ar (st.lF m b i) = .int z.2.2.1:=by
    unfold dY.lF
    rw [abZ MI,← e1]
    show V.int _=_
    rw [ad3 h0]
  rw [e2] at k
  exact ⟨pz,_,_,_,rfl,rfl,.inr vS,rfl,k⟩
 .
  have heq:st.cu.testBit i=b.testBit i:=by injection heq
  refine ⟨_,rfl,p,_,_,_,rfl,rfl,.inr e0,rfl,_,rfl,pw,_,_,_,rfl,rfl,.inr ew,pd (by rw [ok.lw];exact hi),_,_,rfl,rfl,λ y ey=>?_⟩
  refine ⟨0,y,rfl,?_⟩
  have e2:(if y > 0 then y else 0)=((st.lF m b i:Nat):Int):=by
    unfold dY.lF
    rw [abS heq]
    split<;>lia
  rw [e2]
  exact k
theorem my (T:Txt K mg Ad):Def P w K mg base "failed_behind" 2 ["state","burning","out","room"] (l9 K):=by
 refine T.nB.cE lU λ f bx A outer s H vs Q E hr h=>?_
 obtain ⟨p,st,b,out,i,rfl,hs,hi,k⟩:=h
 refine ⟨_,(af (bA (cy (ak (d7 (K:=K) T) hr.m (aa (pv 2) (aa (pv 3) ac)))) (am (aF (ay aI (aG aD (aG aD (pv 0) ah (λ _ _=>rfl)) (pv 3) (λ _ _=>rfl)) ah))) aJ)
     (af (bA (cy (ak (d7 (K:=K) T) hr.m (aa (pv 1) (aa (pv 3) ac)))) (am (aF ah)) aJ)
     (am (aF (aG aD (aG aD (pv 0) ah (λ _ _=>rfl)) (pv 3) (λ _ _=>rfl)))))),?_⟩
 try dsimp only [fb,aR]
 first|(refine dX ?_;intro _ _ _ _)|skip
 obtain ⟨pb,pw,pf,e0,eb,ew,ef⟩:=id hs
 unfold dY.qX at k
 refine ⟨_,rfl,_,rfl,out,i,rfl,_,rfl,?_⟩
 cases h1:out.testBit i with
 | true =>
   rw [h1] at k
   refine jy ⟨_,rfl,p,_,_,_,rfl,rfl,.inr e0,rfl,_,rfl,pf,_,_,_,rfl,rfl,.inr ef,pd hi,_,_,rfl,rfl,λ y ey=>?_⟩
   rw [ey]
   exact k
 | false =>
   rw [h1] at k
   refine gz ⟨_,rfl,_,rfl,b,i,rfl,_,rfl,?_⟩
   cases h2:b.testBit i with
   | true =>
     rw [h2] at k
     exact jy k
   | false =>
     rw [h2] at k
     exact gz ⟨_,rfl,p,_,_,_,rfl,rfl,.inr e0,rfl,_,rfl,pf,_,_,_,rfl,rfl,.inr ef,pd hi,k⟩
theorem mF (T:Txt K mg Ad):Def P w K mg base "stoves_behind" 7 ["hold","state","order","out"] (yq K Ad.aW):=by
 refine T.nG.cE cW λ f bx A outer s H vs Q E hr h=>?_
 obtain ⟨a,fp,m,p,st,o,out,rfl,hh,hs,ok,hz,h0,Hn,k⟩:=h
 refine ⟨_,(af (aB (i:=4) cW.nd rfl (lc rfl) (ay j4 (pv 2) (o4 wD (pv 3))))
     (af (pD (yi:=5) ["room"] ["hold","state","burning"] [0,1,4] (.cons ⟨rfl,rfl,.inl rfl⟩ (.cons ⟨rfl,rfl,.inl rfl⟩ (.cons ⟨rfl,rfl,.inl rfl⟩ .nil))) rfl (bP rfl T.cT (aa (eG (pv 0) T.aC (bV (K:=K) T) .nil hr.m) ac)) (λ _ _ _ _ _=>(aE (i:=0) (show (["room","hold","state","burning"]:List Str).Nodup by decide +kernel) rfl (lc rfl))) (λ _ _ _ _ _=>dI) (λ _ _ _ _ _=>(ak (ox (K:=K) T) hr.m (aa (pv 1) (aa (pv 2) (aa (pv 3) (aa (pv 0) ac)))))) rfl (by decide +kernel) (by decide +kernel) (by decide +kernel) cW.nd rfl (lc rfl) rfl)
     (af (pD (yi:=6) ["room"] ["state","burning","out"] [1,4,3] (.cons ⟨rfl,rfl,.inl rfl⟩ (.cons ⟨rfl,rfl,.inl rfl⟩ (.cons ⟨rfl,rfl,.inl rfl⟩ .nil))) rfl (bP rfl T.cT (aa (eG (pv 0) T.aC (bV (K:=K) T) .nil hr.m) ac)) (λ _ _ _ _ _=>(aE (i:=0) (show (["room","state","burning","out"]:List Str).Nodup by decide +kernel) rfl (lc rfl))) (λ _ _ _ _ _=>dI) (λ _ _ _ _ _=>(ak (my (K:=K) T) hr.m (aa (pv 1) (aa (pv 2) (aa (pv 3) (aa (pv 0) ac)))))) rfl (by decide +kernel) (by decide +kernel) (by decide +kernel) cW.nd rfl (lc rfl) rfl)
     (af (aB (i:=7) cW.nd rfl (lc rfl) (bh (zc rfl) (by rfl) T.Jq G4 (aa (bR (pv 0) rfl) (aa (ay aI (ay dF (aG aD (pv 1) ah (λ _ _=>rfl)) (ak (oG (K:=K) T) hr.m (aa (pv 0) (aa (pv 4) ac)))) (bR (pv 0) rfl)) ac))))
     (am (aF (b9 (aa (pv 4) (aa (eA dh (by rfl) T.j7 ip (aa (pv 5) ac)) (aa (eA dh (by rfl) T.j7 ip (aa (pv 6) ac)) (aa (pv 7) ac))))))))))),?_⟩
 try dsimp only [fb,aR]
 first|(refine oA ?_;intro _ _ _ _ _ _)|skip
 obtain ⟨pb,pw,pf,e0,eb,ew,ef⟩:=id hs
 obtain ⟨⟨dx,pm,EG,Eo,D8,vm,vs,vt,aw,_,ha,_⟩,q1,q2,q3,q4⟩:=id hh
 refine ⟨_,rfl,_,rfl,_,rfl,_,_,rfl,rfl,λ y ey=>?_⟩
 obtain rfl:y=((Ord.off o out:Nat):Int):=by rw [ey];exact kA _ _
 generalize Ord.off o out=b at hz Hn k ⊢
 refine ⟨_,rfl,a,dx,_,rfl,ha,rfl,a,fp,m,rfl,hh,_,rfl,by lia,by lia,λ D hD=>?_⟩
 refine dM (lo:=0) (n:=m.rows.length) (λ j acc U H'=>A4 (aA H H') (H' D=some (.lst acc)) (acc=((List.range j).map (st.lF m b)).map ar) (∃ v,U=[v,some (.ref a),some (.ref p),some (ar b)])) ⟨ai hD,ag,rfl,none,rfl⟩ ?_ ?_
 . rintro j acc U H' hj ⟨s1,jp,rfl,v,rfl⟩
   refine ⟨_,rfl,_,rfl,_,rfl,_,rfl,a,fp,m,p,st,b,j,(by rw [ac3];rfl),hh.same s1,hs.same s1,ok,hj,hz j,h0 j,jp,aL (by rw [xq,xq,acD];lia),s1.put hD,ag,?_,_,rfl⟩
   rw [adh,My,My];rfl
 rintro acc U H1 ⟨s1,jp,rfl,v,rfl⟩
 refine ⟨_,rfl,a,dx,_,rfl,s1 _ _ ha,rfl,a,fp,m,rfl,hh.same s1,_,rfl,by lia,by lia,λ D2 iU=>?_⟩
 refine dM (lo:=0) (n:=m.rows.length) (λ j acc U H'=>A4 (aA H1 H') (H' D2=some (.lst acc)) (acc=((List.range j).map (st.qX b out)).map ar) (∃ v,U=[v,some (.ref p),some (ar b),some (ar out)])) ⟨ai iU,ag,rfl,none,rfl⟩ ?_ ?_
 . rintro j acc U H' hj ⟨s2,iI,rfl,v,rfl⟩
   refine ⟨_,rfl,_,rfl,_,rfl,_,rfl,p,st,b,out,j,(by rw [ac3];rfl),hs.same (s1.trans s2),by rw [ok.lf];exact hj,iI,aL (by rw [xq,xq,acD];lia),s2.put iU,ag,?_,_,rfl⟩
   rw [adh,My,My];rfl
 rintro acc U H2 ⟨s2,iI,rfl,v,rfl⟩
 have S2:=s1.trans s2
 refine ⟨_,rfl,a,_,dx,_,_,rfl,S2 _ _ ha,T.aC,T.jv,xF ..,?_⟩
 refine ⟨_,rfl,p,_,_,_,rfl,rfl,.inr (S2.tup e0),rfl,?_⟩
 refine ⟨_,rfl,_,rfl,a,fp,m,b,rfl,hh.same S2,λ H3 s3=>?_⟩
 have S3:=S2.trans s3
 refine ⟨_,_,rfl,rfl,λ x1 g1=>⟨_,rfl,a,_,dx,_,_,rfl,S3 _ _ ha,T.aC,T.kQ,BN ..,_,_,rfl,rfl,λ x2 g2=>⟨_,x2,rfl,?_⟩⟩⟩
 have e2:(if x2<m.gH then x2 else m.gH)=(((st.mW m b).toNat:Nat):Int):=by
   rw [ad3 Hn]
   unfold dY.mW
   split<;>lia
 rw [e2]
 refine ⟨_,rfl,_,rfl,D,_,rfl,.inl ⟨aV.of ((s2.trans s3) _ _ jp),λ kw P8=>?_⟩⟩
 have u1:aA _ _:=ai (o:=.tup (((List.range m.rows.length).map (st.lF m b)).map ar)) P8
 refine ⟨_,rfl,D2,_,rfl,.inl ⟨aV.of (u1 _ _ (s3 _ _ iI)),λ kf Px=>?_⟩⟩
 have u2:aA _ _:=ai (o:=.tup (((List.range m.rows.length).map (st.qX b out)).map ar)) Px
 refine ⟨_,rfl,Ic,λ q hq=>?_⟩
 have u3:aA _ _:=ai (o:=.tup [ar b,.ref kw,.ref kf,ar (st.mW m b).toNat]) hq
 exact k q kw kf _ (((S3.trans u1).trans u2).trans u3) ag (u3 _ _ (u2 _ _ ag)) (u3 _ _ ag)
open Classical in
noncomputable def HK (tm:ap) (n:Nat) (s:dY) (o:Nat):Bool:=decide (DC tm n s o)
open Classical in
open Classical in
open Classical in
theorem vy {tm:ap} {n o:Nat} {s:dY}:HK tm n s o=true↔DC tm n s o:=by unfold HK;exact afR
theorem xg {tm:ap} {n:Nat} {s:dY} (ok:tm.Ok n n) (n4:n<=4) (so:gE (tm.m2 n n) s):s.orders (tm.m2 n n)=(List.range 16).filter (HK tm n s):=by
 obtain ⟨f1,f2,f3,f4⟩:=cN tm n n
 have hl:(tm.m2 n n).rows.length=n:=by rw [f1,xq,acB,ok.lm];lia
 have hw:s.ik.length=n:=by rw [so.lw,hl]
 unfold dY.orders al.ws
 rw [hl]
 refine Ord.zf n4 (tm.m2 n n).has (tm.m2 n n).wd s.wt s.cu tm.bounds.1 s.heap _ _ (λ o _=>?_) (λ o _=>vy)
 unfold dY.zA al.Bn dY.held al.lH al.ws
 rw [hw,hl,f2,ac0,ac0,adv,adv,adv]
 exact ⟨λ ⟨a,b,c⟩=>⟨a,b,c⟩,λ ⟨a,b,c⟩=>⟨a,b,c⟩⟩
theorem kE (T:Txt K mg Ad):Def P w K mg base "sum_of_products" 3 ["pairs"] (GH K):=by
 refine T.lJ.cE bw λ f bx A outer s H vs Q E hr h=>?_
 obtain ⟨p,xs,ds,rfl,hp,hd,ho,hl,hB,k⟩:=h
 refine ⟨_,(af (aB (i:=1) bw.nd rfl (lc rfl) ah)
     (af (aB (i:=2) bw.nd rfl (lc rfl) ah)
     (af (dB ada rfl (cB (pv 0)) (eZ (K:=K) (n:=2) rfl rfl (aT (aE (i:=3) bw.nd rfl (lc rfl)) (aT (aE (i:=4) bw.nd rfl (lc rfl)) eX))) (af (aB (i:=5) bw.nd rfl (lc rfl) (ay br (aG aD (pv 3) ah (λ _ _=>rfl)) (aG aD (pv 4) ah (λ _ _=>rfl))))
     (af (aB (i:=1) bw.nd rfl (lc rfl) (ay aI (ay br (pv 1) (pv 5)) (ay br (ay br (aG aD (pv 3) ah (λ _ _=>rfl)) (aG aD (pv 4) ah (λ _ _=>rfl))) (pv 2))))
     (am (aB (i:=2) bw.nd rfl (lc rfl) (ay br (pv 2) (pv 5)))))))
     (am (aF (ak (jx (K:=K) T) hr.m (aa (pv 1) (aa (pv 2) ac)))))))),?_⟩
 try dsimp only [fb,aR]
 first|(refine dU ?_;intro _ _ _ _ _)|skip
 have lx:xs.length=ds.length:=by rw [hd.length,xq]
 refine ⟨_,rfl,p,rfl,⟨_,hp⟩,?_⟩
 refine gv (K:=K) (a:=p) (xs:=xs) (λ i U H'=>H'=H/\E3 λ (v3 v4 v5:Option V)=>U=[some (.ref p),some (.int (eJ (ds.take i)).1),some (.int (eJ (ds.take i)).2),v3,v4,v5]) ⟨rfl,none,none,none,rfl⟩ (λ i U H' _ e=>by rw [e.1];exact hp) ?_ ?_
 .
  rintro i x U H' hx ⟨rfl,v3,v4,v5,rfl⟩
  have hi:i<ds.length:=by rw [← lx];exact (List.getElem?_eq_some_iff.mp hx).1
  obtain ⟨b1,b2,b3⟩:=xf ds ho i (by lia)
  have et:ds.take (i+1)=ds.take i++[ds[i]]:=by rw [adS,au hi];rfl
  obtain ⟨y,ey,pq,ws,rfl,Ju,IM⟩:=hd.get (i:=i) (d:=A8 ds[i]) (by rw [Jl,au hi];rfl)
  obtain rfl:x = .ref pq:=aba (hx.symm.trans ey)
  have hd:=ho ds[i] (aaY hi)
  obtain ⟨w1,r1,rfl,d1,w2,r2,rfl,d2,e3⟩:=IM
  have e3:r2=[]:=e3
  subst e3
  obtain ⟨p1,rfl,h1⟩:=Dn.fr d1
  obtain ⟨p2,rfl,h2⟩:=Dn.fr d2
  rw [et,li]
  generalize ds[i]=d at hd h1 h2 ⊢
  generalize eJ (ds.take i)=s at b1 b2 b3 ⊢
  refine ⟨pq,_,rfl,Ju,rfl,_,_,rfl,_,_,rfl,rfl,?_⟩
  refine ⟨_,rfl,p1,_,_,_,rfl,rfl,.inr h1,rfl,_,rfl,p2,_,_,_,rfl,rfl,.inr h2,rfl,_,_,rfl,rfl,⟨900,900,hd.a.b,hd.b.b,by decide⟩,λ be YZ=>?_⟩
  have YZ:be=d.1.2 * d.2.2:=YZ
  have bb:Bd 1800 (d.1.2 * d.2.2):=hd.a.b.mul hd.b.b
  subst YZ
  have sm:1802 * i+2+1800<=100000:=by lia
  refine ⟨_,rfl,_,rfl,_,_,rfl,rfl,⟨1802 * i+2,1800,b1,bb,by lia⟩,λ x1 e1=>?_⟩
  refine ⟨_,rfl,p1,_,_,_,rfl,rfl,.inr h1,rfl,_,rfl,p2,_,_,_,rfl,rfl,.inr h2,rfl,_,_,rfl,rfl,⟨900,900,hd.a.t,hd.b.t,by decide⟩,λ x2 e2=>?_⟩
  have bt:Bd 1800 x2:=by rw [e2];exact hd.a.t.mul hd.b.t
  refine ⟨_,rfl,_,_,rfl,rfl,⟨1800,1800 * i+1,bt,b2,by lia⟩,λ x3 e3=>⟨_,_,rfl,rfl,λ x4 e4=>?_⟩⟩
  refine ⟨_,rfl,_,rfl,_,_,rfl,rfl,⟨1800 * i+1,1800,b2,bb,by lia⟩,λ x5 e5=>⟨rfl,some (.ref p1),some (.ref p2),some (.int (d.1.2 * d.2.2)),?_⟩⟩
  have f4:x4=s.1 * (d.1.2 * d.2.2)+d.1.1 * d.2.1 * s.2:=by rw [e4,e1,e3,e2]
  have f5:x5=s.2 * (d.1.2 * d.2.2):=e5
  rw [f4,f5]
  rfl
 .
  rintro U H' ⟨rfl,v3,v4,v5,rfl⟩
  rw [lx,adg]
  have Gc:=xy ho
  refine ⟨_,rfl,_,rfl,_,_,rfl,by lia,hB,λ q r u H2 F s2 hu=>k u H2 s2 ?_⟩
  have:=F.nf Gc
  rw [hu,← this]
theorem kZ (T:Txt K mg Ad):Def P w K mg base "warmth_of" 6 ["hold","room","airs","weather","fired"] (yF K Ad.aW):=by
 refine T.uF.cE lC λ f bx A outer s H vs Q E hr h=>?_
 obtain ⟨a,fp,m,i,pa,KJ,airs,wv,wf,fired,rfl,hh,hi,hpa,da,la,oa,dw,ow,hz,k⟩:=h
 refine ⟨_,(af (pD (yi:=5) ["of","air"] ["room","hold"] [1,0] (.cons ⟨rfl,rfl,.inl rfl⟩ (.cons ⟨rfl,rfl,.inl rfl⟩ .nil)) rfl (HP rfl T.hV (aa (pv 2) ac)) (λ _ _ _ _ _=>(eZ (K:=K) (n:=2) rfl rfl (aT (aE (i:=0) (show (["of","air","room","hold"]:List Str).Nodup by decide +kernel) rfl (lc rfl)) (aT (aE (i:=1) (show (["of","air","room","hold"]:List Str).Nodup by decide +kernel) rfl (lc rfl)) eX)))) (λ _ _ _ _ _=>dI) (λ _ _ _ _ _=>(b9 (aa (aN (pv 3) T.aC (jT (K:=K) T) .nil hr.m (aa (pv 2) (aa (pv 0) ac))) (aa (pv 1) ac)))) rfl (by decide +kernel) (by decide +kernel) (by decide +kernel) lC.nd rfl (lc rfl) rfl)
     (af (bi (il ac4 adc adb cH (pv 5) (aa (b9 (aa (aG aD (aN (pv 0) T.aC (lq (K:=K) T) .nil hr.m (aa (pv 1) ac)) ah (λ _ _=>rfl)) (aa (pv 3) ac))) ac)))
     (af (mv (bA (cy (pv 4)) (am (bi (il ac4 adc adb cH (pv 5) (aa (b9 (aa (fP (v:=V.ref _) rfl T.xR rfl) (aa (aG aD (aN (pv 0) T.aC (c7 (K:=K) T) .nil hr.m (aa (pv 1) ac)) ah (λ _ _=>rfl)) ac))) ac)))) aJ))
     (am (aF (ak (kE (K:=K) T) hr.m (aa (pv 5) ac))))))),?_⟩
 try dsimp only [fb,aR]
 first|(refine dU ?_;intro _ _ _ _ _)|skip
 obtain ⟨⟨dx,pm,EG,Eo,D8,vm,vs,vt,aw,mX,ha,_⟩,q1,q2,q3,q4⟩:=id hh
 obtain ⟨Xt,NY,pbd⟩:=mY (i:=i) (fired:=fired) q4 q3 la oa ow hz
 have lav:KJ.length=airs.length:=by rw [da.length,xq]
 refine ⟨_,rfl,pa,rfl,⟨_,hpa⟩,λ D hD=>?_⟩
 refine jY (sq:=aV K) (a:=pa) (xs:=KJ) (λ j acc U H'=>A4 (aA H H') (H' D=some (.lst acc)) (bI K H' (((List.range j).map λ j=>((m.share i j,airs.getD j (0,1)):Pr)).map A8) acc) (E2 λ v0 v1=>U=[v0,v1,some (ar i),some (.ref a)]))
   ⟨ai hD,ag,rfl,none,none,rfl⟩ (λ j acc U H' _ e=>e.1.seq hpa) ?_ ?_
 .
  rintro j x pp acc U H' hx sL ⟨s1,jp,d1,v0,v1,rfl⟩
  have hj:j<airs.length:=by rw [← lav];exact (List.getElem?_eq_some_iff.mp hx).1
  obtain ⟨y,ey,dy⟩:=da.get (i:=j) (d:=dE airs[j]) (by rw [Jl,au hj];rfl)
  obtain rfl:x=y:=aba (hx.symm.trans ey)
  have s2:aA H' (upd H' pp (.tup [ar j,x])):=ai sL
  have nD:D≠pp:=aq jp sL
  have S2:=s1.trans s2
  refine ⟨pp,_,rfl,bU.of ag,rfl,_,_,rfl,_,_,rfl,rfl,?_⟩
  refine ⟨_,rfl,a,dx,_,rfl,S2 _ _ ha,rfl,_,rfl,_,rfl,a,fp,m,i,j,rfl,hh.same S2,hi,by lia,λ v H3 s3 dv=>?_⟩
  have S3:=S2.trans s3
  refine ⟨_,rfl,zB,λ pt eQ=>?_⟩
  have s4:aA H3 (upd H3 pt (.tup [v,x])):=ai eQ
  have S4:=S3.trans s4
  have yf:=s4 _ _ (s3 _ _ (s2 _ _ jp))
  have ts:bg K (upd H3 pt (.tup [v,x])) (upd (upd H3 pt (.tup [v,x])) D (.lst (acc++[.ref pt]))):=bZ yf rfl
  have zK:acc.length=j:=by rw [d1.length,xq,xq,acD]
  refine ⟨yf,aL (by lia),(S4).put hD,ag,?_,_,_,rfl⟩
  rw [adh,My,My]
  refine (bI.ts ((aA.ts ((s2.trans s3).trans s4)).trans ts) _ (oS _) d1).snoc (Dn.ts ts _ (oi _) ?_)
  have ea:airs.getD j (0,1)=airs[j]:=by rw [Ia,au hj];rfl
  show Dn K _ (A8 (m.share i j,airs.getD j (0,1))) _
  rw [ea]
  exact ek (bU.of ag) (aO (Dn.same s4 _ dv) (aO (Dn.same S4 _ dy) eM))
 .
  rintro acc U H1 ⟨s1,jp,d1,v0,v1,rfl⟩
  rw [lav] at d1
  have d1:bI K H1 ((cU m i airs).map A8) acc:=d1
  have zK:acc.length<=4:=by rw [d1.length,xq];unfold cU;rw [xq,acD];lia
  have Ca:i<m.aX.length:=by lia
  have Jj:=au Ca
  have Iq:m.dZ i=m.aX[i].1:=by unfold al.dZ;rw [Jj];rfl
  refine ⟨_,rfl,.inl ⟨rfl,_,aV.of jp⟩,_,rfl,a,dx,_,rfl,s1 _ _ ha,rfl,_,rfl,a,fp,m,i,_,rfl,hh.same s1,Jj,λ v dv=>?_⟩
  obtain ⟨p0,Cd,MO,Mn,rfl,yQ,dd1,Ht,dd3⟩:=dv.ce
  refine ⟨p0,_,_,_,rfl,rfl,.inr yQ,rfl,_,rfl,zB,λ pt eQ=>?_⟩
  have s2:aA H1 (upd H1 pt (.tup [Cd,wv])):=ai eQ
  have iU:=s2 _ _ jp
  refine ⟨D,_,_,rfl,rfl,iU,aL (by lia),?_⟩
  have ts:bg K (upd H1 pt (.tup [Cd,wv])) (upd (upd H1 pt (.tup [Cd,wv])) D (.lst (acc++[.ref pt]))):=bZ iU rfl
  have iI:(upd (upd H1 pt (.tup [Cd,wv])) D (.lst (acc++[.ref pt]))) D=some (.lst (acc++[.ref pt])):=ag
  have S3:aA H (upd (upd H1 pt (.tup [Cd,wv])) D (.lst (acc++[.ref pt]))):=(s1.trans s2).put hD
  have d3:bI K (upd (upd H1 pt (.tup [Cd,wv])) D (.lst (acc++[.ref pt]))) ((cU m i airs++[(m.dZ i,wf)]).map A8) (acc++[.ref pt]):=by
    rw [My]
    refine (bI.ts ((aA.ts s2).trans ts) _ (oS _) d1).snoc (Dn.ts ts _ (oi _) ?_)
    refine ek (bU.of ag) (aO (Dn.same s2 _ ?_) (aO (Dn.same (s1.trans s2) _ dw) eM))
    rw [Iq];exact dd1
  generalize (upd (upd H1 pt (.tup [Cd,wv])) D (.lst (acc++[.ref pt])))=H3 at iI S3 d3 ⊢
  refine ⟨λ σ' H'=>aA H H'/\∃ xs,A3 (H' D=some (.lst xs)) (bI K H' ((fo m i airs wf fired).map A8) xs) (σ'=[some (.ref a),some (ar i),some (.ref pa),some wv,some (.bl fired),some (.ref D)]),?_,?_⟩
  .
   refine ⟨_,rfl,_,rfl,?_⟩
   cases fired with
   | false =>
     refine gz ⟨S3,_,iI,?_,rfl⟩
     unfold fo
     rw [abZ acT,adO]
     exact d3
   | true =>
     obtain ⟨z,ez⟩:=hz rfl
     refine jy ⟨_,rfl,.inl ⟨rfl,_,aV.of iI⟩,?_⟩
     refine ⟨_,rfl,a,dx,_,rfl,S3 _ _ ha,rfl,_,rfl,a,fp,m,i,_,rfl,hh.same S3,ez,λ u du=>?_⟩
     obtain ⟨pz,zs,rfl,vS,t1,r1,rfl,e1,_⟩:=du
     refine ⟨pz,_,_,_,rfl,rfl,.inr vS,cf (j:=0) rfl,zB,λ M3 Rk=>?_⟩
     have s4:aA H3 (upd H3 M3 (.tup [.ref Ad.qz,t1])):=ai Rk
     have yf:=s4 _ _ iI
     refine ⟨D,_,_,rfl,rfl,yf,aL (by rw [aaD];simp only [acX,aeh];lia),(S3.trans s4).put hD,_,ag,?_,rfl⟩
     have ts2:bg K (upd H3 M3 (.tup [.ref Ad.qz,t1])) (upd (upd H3 M3 (.tup [.ref Ad.qz,t1])) D (.lst ((acc++[.ref pt])++[.ref M3]))):=bZ yf rfl
     have ez2:(((m.ax[i]?).getD none).map (·.1)).getD (0,1)=z.1:=by rw [ez];rfl
     unfold fo
     rw [abS rfl,My]
     refine (bI.ts ((aA.ts s4).trans ts2) _ (oS _) d3).snoc (Dn.ts ts2 _ (oi _) ?_)
     show Dn K _ (A8 ((1,1),(((m.ax[i]?).getD none).map (·.1)).getD (0,1))) _
     rw [ez2]
     exact ek (bU.of ag) (aO (T.xW.fr (f:=(1,1))) (aO (Dn.same s4 _ e1) eM))
  . rintro σ' H4 ⟨S4,xs,yf,d4,rfl⟩
    exact ⟨_,rfl,D,xs,_,rfl,aV.of yf,d4,Xt,NY,pbd,λ q H5 s5 hq5=>k q H5 (S4.trans s5) hq5⟩
theorem wP (T:Txt K mg Ad):Def P w K mg base "span_of" 7 ["hold","room","bands","fired"] (CK K Ad.aW):=by
 refine T.yJ.cE gu λ f bx A outer s H vs Q E hr h=>?_
 obtain ⟨a,fp,m,i,pb,bs,fired,rfl,hh,hi,hb,lb,xP,hz,k⟩:=h
 refine ⟨_,(af (gC (jr xV (aN (pv 0) T.aC (lq (K:=K) T) .nil hr.m (aa (pv 1) ac)) (jj ah) se) (eZ (K:=K) (n:=2) rfl rfl (aT (aE (i:=4) gu.nd rfl (lc rfl)) (aT (aE (i:=5) gu.nd rfl (lc rfl)) eX))))
     (af (pD (yi:=6) ["of","band"] ["hold"] [0] (.cons ⟨rfl,rfl,.inl rfl⟩ .nil) rfl (Ax rfl T.hV (aa (pv 2) ac)) (λ _ _ _ _ _=>(eZ (K:=K) (n:=2) rfl rfl (aT (aE (i:=0) (show (["of","band","hold"]:List Str).Nodup by decide +kernel) rfl (lc rfl)) (aT (aE (i:=1) (show (["of","band","hold"]:List Str).Nodup by decide +kernel) rfl (lc rfl)) eX)))) (λ _ _ _ _ _=>dI) (λ _ _ _ _ _=>(aG (fT (K:=K) rfl) (aN (pv 2) T.aC (d6 (K:=K) T) .nil hr.m (aa (pv 0) ac)) (pv 1) (λ _ _=>rfl))) rfl (by decide +kernel) (by decide +kernel) (by decide +kernel) gu.nd rfl (lc rfl) rfl)
     (af (pD (yi:=7) ["of","band"] ["hold"] [0] (.cons ⟨rfl,rfl,.inl rfl⟩ .nil) rfl (Ax rfl T.hV (aa (pv 2) ac)) (λ _ _ _ _ _=>(eZ (K:=K) (n:=2) rfl rfl (aT (aE (i:=0) (show (["of","band","hold"]:List Str).Nodup by decide +kernel) rfl (lc rfl)) (aT (aE (i:=1) (show (["of","band","hold"]:List Str).Nodup by decide +kernel) rfl (lc rfl)) eX)))) (λ _ _ _ _ _=>dI) (λ _ _ _ _ _=>(aG (fT (K:=K) rfl) (aN (pv 2) T.aC (d6 (K:=K) T) .nil hr.m (aa (pv 0) ac)) (ay aI (pv 1) ah) (λ _ _=>rfl))) rfl (by decide +kernel) (by decide +kernel) (by decide +kernel) gu.nd rfl (lc rfl) rfl)
     (am (aF (b9 (aa (ak (kZ (K:=K) T) hr.m (aa (pv 0) (aa (pv 1) (aa (pv 6) (aa (pv 4) (aa (pv 3) ac)))))) (aa (ak (kZ (K:=K) T) hr.m (aa (pv 0) (aa (pv 1) (aa (pv 7) (aa (pv 5) (aa (pv 3) ac)))))) ac)))))))),?_⟩
 try dsimp only [fb,aR]
 first|(refine dU ?_;intro _ _ _ _ _)|skip
 obtain ⟨⟨dx,pm,EG,Eo,D8,vm,vs,vt,aw,mX,ha,_⟩,q1,q2,q3,q4⟩:=id hh
 have Ca:i<m.aX.length:=by lia
 have Jj:=au Ca
 have Iq:jC m i=m.aX[i]:=by unfold jC;rw [Jj];rfl
 have okk:=q4.aX m.aX[i] (aaY Ca)
 have olo:dR 120 (jC m i).2.1:=by rw [Iq];exact okk.2.1.mono (by decide)
 have ohi:dR 120 (jC m i).2.2:=by rw [Iq];exact okk.2.2.mono (by decide)
 have le0:(fz m bs 0).length=m.rows.length:=by unfold fz;rw [xq,acD,lb]
 have le1:(fz m bs 1).length=m.rows.length:=by unfold fz;rw [xq,acD,lb]
 refine ⟨_,rfl,a,dx,_,rfl,ha,rfl,_,rfl,a,fp,m,i,_,rfl,hh,Jj,λ v dv=>?_⟩
 obtain ⟨p0,Cd,MO,Mn,rfl,yQ,dd1,Ht,dd3⟩:=dv.ce
 refine ⟨1,rfl,p0,_,1,rfl,yQ,rfl,rfl,by decide,(by show 1<=3;decide),λ q0 hq=>?_⟩
 refine ⟨q0,_,rfl,bU.of ag,rfl,_,_,rfl,_,_,rfl,rfl,?_⟩
 have S0:aA H (upd H q0 (.tup ([Cd,MO,Mn].drop 1))):=ai hq
 generalize upd H q0 (.tup ([Cd,MO,Mn].drop 1))=H0 at S0 ⊢
 have dlo:Dn K H0 (dE (jC m i).2.1) MO:=by rw [Iq];exact Dn.same S0 _ Ht
 have dhi:Dn K H0 (dE (jC m i).2.2) Mn:=by rw [Iq];exact Dn.same S0 _ dd3
 rcases hb with hb|hb
 .
  have hb:=S0.seq hb
  refine ⟨_,rfl,pb,rfl,.inl ⟨⟨_,hb⟩,λ D hD=>?_⟩⟩
  refine jY (sq:=aV K) (a:=pb) (xs:=bs.map ar) (λ j acc U H'=>A4 (aA H0 H') (H' D=some (.lst acc)) (bI K H' (((List.range j).map λ j=>(m.rows.getD j []).getD (bs.getD j 0+0) (0,1)).map dE) acc) (E2 λ v0 v1=>U=[v0,v1,some (.ref a)]))
    ⟨ai hD,ag,rfl,none,none,rfl⟩ (λ j acc U H' _ e=>e.1.seq hb) ?_ ?_
  .
   rintro j x pp acc U H' hx sL ⟨s1,jp,d1,v0,v1,rfl⟩
   obtain ⟨b,eb,rfl⟩:=cY hx
   have hj:j<bs.length:=(List.getElem?_eq_some_iff.mp eb).1
   have hr:j<m.rows.length:=by lia
   have eg:bs.getD j 0=b:=by rw [Ia,eb];rfl
   have s2:aA H' (upd H' pp (.tup [ar j,ar b])):=ai sL
   have S2:=S0.trans (s1.trans s2)
   have er:m.rows.getD j []=m.rows[j]:=by rw [Ia,au hr];rfl
   have q:=xP j hr
   rw [er,eg] at q
   refine ⟨pp,_,rfl,bU.of ag,rfl,_,_,rfl,_,_,rfl,rfl,?_⟩
   refine ⟨_,rfl,a,dx,_,rfl,S2 _ _ ha,rfl,_,rfl,a,fp,m,j,_,rfl,hh.same S2,au hr,λ pm xs eK yZ=>?_⟩
   have s3:aA (upd H' pp (.tup [ar j,ar b])) (upd (upd H' pp (.tup [ar j,ar b])) pm (.lst xs)):=ai eK
   obtain ⟨y,ey,dy⟩:=yZ.get (i:=b) (d:=dE m.rows[j][b]) (by rw [Jl,au (by lia)];rfl)
   have iI:=s3 _ _ (s2 _ _ jp)
   have ts:bg K (upd (upd H' pp (.tup [ar j,ar b])) pm (.lst xs)) (upd (upd (upd H' pp (.tup [ar j,ar b])) pm (.lst xs)) D (.lst (acc++[y]))):=bZ iI rfl
   have zK:acc.length=j:=by rw [d1.length,xq,xq,acD]
   refine ⟨_,rfl,pm,_,_,_,rfl,rfl,.inl (aV.of ag),cf ey,iI,aL (by lia),(s1.trans (s2.trans s3)).put hD,ag,?_,_,_,rfl⟩
   rw [adh,My,My]
   refine (bI.ts ((aA.ts (s2.trans s3)).trans ts) _ (kW _ id) (by simpa using d1)).snoc (Dn.ts ts _ (gp _) ?_)
   show Dn K _ (dE ((m.rows.getD j []).getD (bs.getD j 0+0) (0,1))) y
   rw [er,eg,Nat.add_zero,Ia,au (by lia:b<m.rows[j].length)]
   exact Dn.same s3 _ dy
  rintro acc U H1 ⟨s1,jp,d1,v0,v1,rfl⟩
  rw [xq] at d1
  have d1:bI K H1 ((fz m bs 0).map dE) acc:=d1
  have Ce:=s1.seq hb
  have S1:=S0.trans s1
  refine ⟨_,rfl,pb,rfl,.inl ⟨⟨_,Ce⟩,λ D2 iU=>?_⟩⟩
  refine jY (sq:=aV K) (a:=pb) (xs:=bs.map ar) (λ j acc U H'=>A4 (aA H1 H') (H' D2=some (.lst acc)) (bI K H' (((List.range j).map λ j=>(m.rows.getD j []).getD (bs.getD j 0+1) (0,1)).map dE) acc) (E2 λ v0 v1=>U=[v0,v1,some (.ref a)]))
    ⟨ai iU,ag,rfl,none,none,rfl⟩ (λ j acc U H' _ e=>e.1.seq Ce) ?_ ?_
  .
   rintro j x pp gx U H' hx sL ⟨J6,GL,Jb,v0,v1,rfl⟩
   obtain ⟨b,eb,rfl⟩:=cY hx
   have hj:j<bs.length:=(List.getElem?_eq_some_iff.mp eb).1
   have hr:j<m.rows.length:=by lia
   have eg:bs.getD j 0=b:=by rw [Ia,eb];rfl
   have s2:aA H' (upd H' pp (.tup [ar j,ar b])):=ai sL
   have S2:=S1.trans (J6.trans s2)
   have er:m.rows.getD j []=m.rows[j]:=by rw [Ia,au hr];rfl
   have q:=xP j hr
   rw [er,eg] at q
   refine ⟨pp,_,rfl,bU.of ag,rfl,_,_,rfl,_,_,rfl,rfl,?_⟩
   refine ⟨_,rfl,a,dx,_,rfl,S2 _ _ ha,rfl,_,rfl,a,fp,m,j,_,rfl,hh.same S2,au hr,λ pm xs eK yZ=>?_⟩
   have s3:aA (upd H' pp (.tup [ar j,ar b])) (upd (upd H' pp (.tup [ar j,ar b])) pm (.lst xs)):=ai eK
   obtain ⟨y,ey,dy⟩:=yZ.get (i:=b+1) (d:=dE m.rows[j][b+1]) (by rw [Jl,au (by lia)];rfl)
   have iI:=s3 _ _ (s2 _ _ GL)
   have ts:bg K (upd (upd H' pp (.tup [ar j,ar b])) pm (.lst xs)) (upd (upd (upd H' pp (.tup [ar j,ar b])) pm (.lst xs)) D2 (.lst (gx++[y]))):=bZ iI rfl
   have zK:gx.length=j:=by rw [Jb.length,xq,xq,acD]
   refine ⟨_,rfl,_,_,rfl,rfl,λ z ez=>?_⟩
   obtain rfl:z=((b+1:Nat):Int):=by rw [ez];push_cast;rfl
   refine ⟨pm,_,_,_,rfl,rfl,.inl (aV.of ag),cf ey,iI,aL (by lia),(J6.trans (s2.trans s3)).put iU,ag,?_,_,_,rfl⟩
   rw [adh,My,My]
   refine (bI.ts ((aA.ts (s2.trans s3)).trans ts) _ (kW _ id) (by simpa using Jb)).snoc (Dn.ts ts _ (gp _) ?_)
   show Dn K _ (dE ((m.rows.getD j []).getD (bs.getD j 0+1) (0,1))) y
   rw [er,eg,Ia,au (by lia:b+1<m.rows[j].length)]
   exact Dn.same s3 _ dy
  rintro gx U H2 ⟨s2,iI,d2,v0,v1,rfl⟩
  rw [xq] at d2
  have d2:bI K H2 ((fz m bs 1).map dE) gx:=d2
  have S2:=S1.trans s2
  refine ⟨_,rfl,_,rfl,_,rfl,_,rfl,_,rfl,a,fp,m,i,D,acc,fz m bs 0,_,_,fired,rfl,hh.same S2,hi,aV.of (s2 _ _ jp),bI.same s2 _ d1,le0,lh q4 lb xP (by decide),Dn.same ((s1.trans s2)) _ dlo,olo,hz,λ w1 H3 s3 XU=>?_⟩
  have S3:=S2.trans s3
  refine ⟨_,rfl,_,rfl,_,rfl,_,rfl,_,rfl,a,fp,m,i,D2,gx,fz m bs 1,_,_,fired,rfl,hh.same S3,hi,aV.of (s3 _ _ iI),bI.same s3 _ d2,le1,lh q4 lb xP (by decide),Dn.same ((s1.trans s2).trans s3) _ dhi,ohi,hz,λ w2 H4 s4 hw2=>⟨zB,λ q hq=>?_⟩⟩
  have s5:aA H4 (upd H4 q (.tup [.ref w1,.ref w2])):=ai hq
  exact k q w1 w2 _ ((S3.trans s4).trans s5) ag (s5 _ _ (s4 _ _ XU)) (s5 _ _ hw2)
 .
  have hb:=S0.tup hb
  refine ⟨_,rfl,pb,rfl,.inr ⟨⟨_,hb⟩,λ D hD=>?_⟩⟩
  refine jY (sq:=bU K) (a:=pb) (xs:=bs.map ar) (λ j acc U H'=>A4 (aA H0 H') (H' D=some (.lst acc)) (bI K H' (((List.range j).map λ j=>(m.rows.getD j []).getD (bs.getD j 0+0) (0,1)).map dE) acc) (E2 λ v0 v1=>U=[v0,v1,some (.ref a)]))
    ⟨ai hD,ag,rfl,none,none,rfl⟩ (λ j acc U H' _ e=>e.1.tup hb) ?_ ?_
  .
   rintro j x pp acc U H' hx sL ⟨s1,jp,d1,v0,v1,rfl⟩
   obtain ⟨b,eb,rfl⟩:=cY hx
   have hj:j<bs.length:=(List.getElem?_eq_some_iff.mp eb).1
   have hr:j<m.rows.length:=by lia
   have eg:bs.getD j 0=b:=by rw [Ia,eb];rfl
   have s2:aA H' (upd H' pp (.tup [ar j,ar b])):=ai sL
   have S2:=S0.trans (s1.trans s2)
   have er:m.rows.getD j []=m.rows[j]:=by rw [Ia,au hr];rfl
   have q:=xP j hr
   rw [er,eg] at q
   refine ⟨pp,_,rfl,bU.of ag,rfl,_,_,rfl,_,_,rfl,rfl,?_⟩
   refine ⟨_,rfl,a,dx,_,rfl,S2 _ _ ha,rfl,_,rfl,a,fp,m,j,_,rfl,hh.same S2,au hr,λ pm xs eK yZ=>?_⟩
   have s3:aA (upd H' pp (.tup [ar j,ar b])) (upd (upd H' pp (.tup [ar j,ar b])) pm (.lst xs)):=ai eK
   obtain ⟨y,ey,dy⟩:=yZ.get (i:=b) (d:=dE m.rows[j][b]) (by rw [Jl,au (by lia)];rfl)
   have iI:=s3 _ _ (s2 _ _ jp)
   have ts:bg K (upd (upd H' pp (.tup [ar j,ar b])) pm (.lst xs)) (upd (upd (upd H' pp (.tup [ar j,ar b])) pm (.lst xs)) D (.lst (acc++[y]))):=bZ iI rfl
   have zK:acc.length=j:=by rw [d1.length,xq,xq,acD]
   refine ⟨_,rfl,pm,_,_,_,rfl,rfl,.inl (aV.of ag),cf ey,iI,aL (by lia),(s1.trans (s2.trans s3)).put hD,ag,?_,_,_,rfl⟩
   rw [adh,My,My]
   refine (bI.ts ((aA.ts (s2.trans s3)).trans ts) _ (kW _ id) (by simpa using d1)).snoc (Dn.ts ts _ (gp _) ?_)
   show Dn K _ (dE ((m.rows.getD j []).getD (bs.getD j 0+0) (0,1))) y
   rw [er,eg,Nat.add_zero,Ia,au (by lia:b<m.rows[j].length)]
   exact Dn.same s3 _ dy
  rintro acc U H1 ⟨s1,jp,d1,v0,v1,rfl⟩
  rw [xq] at d1
  have d1:bI K H1 ((fz m bs 0).map dE) acc:=d1
  have Ce:=s1.tup hb
  have S1:=S0.trans s1
  refine ⟨_,rfl,pb,rfl,.inr ⟨⟨_,Ce⟩,λ D2 iU=>?_⟩⟩
  refine jY (sq:=bU K) (a:=pb) (xs:=bs.map ar) (λ j acc U H'=>A4 (aA H1 H') (H' D2=some (.lst acc)) (bI K H' (((List.range j).map λ j=>(m.rows.getD j []).getD (bs.getD j 0+1) (0,1)).map dE) acc) (E2 λ v0 v1=>U=[v0,v1,some (.ref a)]))
    ⟨ai iU,ag,rfl,none,none,rfl⟩ (λ j acc U H' _ e=>e.1.tup Ce) ?_ ?_
  .
   rintro j x pp gx U H' hx sL ⟨J6,GL,Jb,v0,v1,rfl⟩
   obtain ⟨b,eb,rfl⟩:=cY hx
   have hj:j<bs.length:=(List.getElem?_eq_some_iff.mp eb).1
   have hr:j<m.rows.length:=by lia
   have eg:bs.getD j 0=b:=by rw [Ia,eb];rfl
   have s2:aA H' (upd H' pp (.tup [ar j,ar b])):=ai sL
   have S2:=S1.trans (J6.trans s2)
   have er:m.rows.getD j []=m.rows[j]:=by rw [Ia,au hr];rfl
   have q:=xP j hr
   rw [er,eg] at q
   refine ⟨pp,_,rfl,bU.of ag,rfl,_,_,rfl,_,_,rfl,rfl,?_⟩
   refine ⟨_,rfl,a,dx,_,rfl,S2 _ _ ha,rfl,_,rfl,a,fp,m,j,_,rfl,hh.same S2,au hr,λ pm xs eK yZ=>?_⟩
   have s3:aA (upd H' pp (.tup [ar j,ar b])) (upd (upd H' pp (.tup [ar j,ar b])) pm (.lst xs)):=ai eK
   obtain ⟨y,ey,dy⟩:=yZ.get (i:=b+1) (d:=dE m.rows[j][b+1]) (by rw [Jl,au (by lia)];rfl)
   have iI:=s3 _ _ (s2 _ _ GL)
   have ts:bg K (upd (upd H' pp (.tup [ar j,ar b])) pm (.lst xs)) (upd (upd (upd H' pp (.tup [ar j,ar b])) pm (.lst xs)) D2 (.lst (gx++[y]))):=bZ iI rfl
   have zK:gx.length=j:=by rw [Jb.length,xq,xq,acD]
   refine ⟨_,rfl,_,_,rfl,rfl,λ z ez=>?_⟩
   obtain rfl:z=((b+1:Nat):Int):=by rw [ez];push_cast;rfl
   refine ⟨pm,_,_,_,rfl,rfl,.inl (aV.of ag),cf ey,iI,aL (by lia),(J6.trans (s2.trans s3)).put iU,ag,?_,_,_,rfl⟩
   rw [adh,My,My]
   refine (bI.ts ((aA.ts (s2.trans s3)).trans ts) _ (kW _ id) (by simpa using Jb)).snoc (Dn.ts ts _ (gp _) ?_)
   show Dn K _ (dE ((m.rows.getD j []).getD (bs.getD j 0+1) (0,1))) y
   rw [er,eg,Ia,au (by lia:b+1<m.rows[j].length)]
   exact Dn.same s3 _ dy
  rintro gx U H2 ⟨s2,iI,d2,v0,v1,rfl⟩
  rw [xq] at d2
  have d2:bI K H2 ((fz m bs 1).map dE) gx:=d2
  have S2:=S1.trans s2
  refine ⟨_,rfl,_,rfl,_,rfl,_,rfl,_,rfl,a,fp,m,i,D,acc,fz m bs 0,_,_,fired,rfl,hh.same S2,hi,aV.of (s2 _ _ jp),bI.same s2 _ d1,le0,lh q4 lb xP (by decide),Dn.same ((s1.trans s2)) _ dlo,olo,hz,λ w1 H3 s3 XU=>?_⟩
  have S3:=S2.trans s3
  refine ⟨_,rfl,_,rfl,_,rfl,_,rfl,_,rfl,a,fp,m,i,D2,gx,fz m bs 1,_,_,fired,rfl,hh.same S3,hi,aV.of (s3 _ _ iI),bI.same s3 _ d2,le1,lh q4 lb xP (by decide),Dn.same ((s1.trans s2).trans s3) _ dhi,ohi,hz,λ w2 H4 s4 hw2=>⟨zB,λ q hq=>?_⟩⟩
  have s5:aA H4 (upd H4 q (.tup [.ref w1,.ref w2])):=ai hq
  exact k q w1 w2 _ ((S3.trans s4).trans s5) ag (s5 _ _ (s4 _ _ XU)) (s5 _ _ hw2)
theorem wy (T:Txt K mg Ad):Def P w K mg base "touched" 5 ["hold","room","least","greatest"] (y9 K Ad.aW):=by
 refine T.yD.cE oF λ f bx A outer s H vs Q E hr h=>?_
 obtain ⟨a,fp,m,i,r,v1,v2,f1,f2,rfl,hh,LP,d1,d2,o1,o2,k⟩:=h
 refine ⟨_,(af (aB (i:=4) oF.nd rfl (lc rfl) (aN (pv 0) T.aC (d6 (K:=K) T) .nil hr.m (aa (pv 1) ac)))
     (am (aF (hX ["band"] ["greatest","least","marks"] [3,2,4] (.cons ⟨rfl,rfl,.inl rfl⟩ (.cons ⟨rfl,rfl,.inl rfl⟩ (.cons ⟨rfl,rfl,.inl rfl⟩ .nil))) rfl (bP rfl T.cT (aa (ay dF (bh bJ (by rfl) T.fW d9 (aa (pv 4) ac)) ah) ac)) (λ _ _ _ _ _=>(aE (i:=0) (show (["band","greatest","least","marks"]:List Str).Nodup by decide +kernel) rfl (lc rfl))) (λ _ _ _ _ _=>(iL (PW.pt (wB (dA (cy (ak (fA (K:=K) T) hr.m (aa (pv 1) (aa (aG (fT (K:=K) rfl) (pv 3) (pv 0) (λ _ _=>rfl)) ac))))) (sj (dA (cy (ak (fA (K:=K) T) hr.m (aa (aG (fT (K:=K) rfl) (pv 3) (ay aI (pv 0) ah) (λ _ _=>rfl)) (aa (pv 2) ac)))))))))) (λ _ _ _ _ _=>(pv 0)) rfl (by decide +kernel) (by decide +kernel) (by decide +kernel))))),?_⟩
 try dsimp only [fb,aR]
 obtain ⟨⟨dx,pm,pf,ps,pt,vm,vs,vt,aw,mX,ha,_⟩,lsk,lst,l4,wf⟩:=id hh
 have Lq:r∈m.rows:=acU LP
 have hl:=wf.len r Lq
 have uU:=wf.rows r Lq
 refine ⟨_,rfl,a,dx,_,rfl,ha,rfl,_,rfl,a,fp,m,i,r,rfl,hh,LP,λ p xs hp yZ=>?_⟩
 have S1:aA H (upd H p (.lst xs)):=ai hp
 have kp:(upd H p (.lst xs)) p=some (.lst xs):=ag
 have D1:=bI.same S1 _ yZ
 have e1:=Dn.same S1 _ d1
 have e2:=Dn.same S1 _ d2
 generalize upd H p (.lst xs)=H1 at S1 kp D1 e1 e2 ⊢
 have lx:xs.length=r.length:=by rw [yZ.length,xq]
 obtain ⟨p1,rfl,q1⟩:=e1.fr
 obtain ⟨p2,rfl,q2⟩:=e2.fr
 refine ⟨_,rfl,_,_,rfl,.inl (aV.of kp),λ y ey=>?_⟩
 have hn:2<=r.length/\r.length<=7:=hl
 refine ⟨_,_,rfl,rfl,λ z ez=>⟨_,rfl,by lia,by lia,λ D hD=>?_⟩⟩
 obtain ⟨n,en⟩:∃ n:Nat,z=(n:Int)/\n+1=r.length:=⟨r.length - 1,by lia,by lia⟩
 obtain ⟨rfl,en⟩:=en
 refine dM (lo:=0) (n:=n) (λ j acc U H'=>A4 (aA H1 H') (H' D=some (.lst acc)) (acc=(i0 r f1 f2 j).map ar) (∃ v,U=[v,some (.ref p2),some (.ref p1),some (.ref p)]))
   ⟨ai hD,ag,rfl,none,rfl⟩ ?_ ?_
 .
  rintro j acc U H' hj ⟨s2,iU,rfl,v,rfl⟩
  have Tz:j<r.length:=by lia
  have Gb:j+1<r.length:=by lia
  obtain ⟨x,ex,KY⟩:=(bI.same s2 _ D1).get (i:=j) (d:=dE r[j]) (by rw [Jl,au Tz];rfl)
  obtain ⟨x',MF,La⟩:=(bI.same s2 _ D1).get (i:=j+1) (d:=dE r[j+1]) (by rw [Jl,au Gb];rfl)
  obtain ⟨u1,rfl,w1⟩:=KY.fr
  obtain ⟨u2,rfl,w2⟩:=La.fr
  have GZ:=(uU r[j] (aaY Tz)).mono (n:=1000) (by decide)
  have LA:=(uU r[j+1] (aaY Gb)).mono (n:=1000) (by decide)
  have q1':=s2.tup q1
  have q2':=s2.tup q2
  have kp':=s2 _ _ kp
  have et:ju r f1 f2 j=((!bv f2 r[j]) && !bv r[j+1] f1):=by
    unfold ju
    rw [Ia,Ia,au Tz,au Gb];rfl
  have la:=mO r f1 f2 j
  refine ⟨_,rfl,_,rfl,_,rfl,_,_,_,_,rfl,rfl,.inl (aV.of kp'),by rw [ac3];exact cf ex,p2,u1,_,_,_,_,rfl,q2',w1,o2.t,o2.b,GZ.t,GZ.b,_,rfl,?_⟩
  show if (!bv f2 r[j])=true then _ else _
  cases c1:bv f2 r[j] with
  | true =>
    refine gz (gz ⟨s2,iU,?_,_,rfl⟩)
    rw [iM,et,c1];simp
  | false =>
    refine jy ⟨_,rfl,_,rfl,_,_,rfl,rfl,λ y1 ey1=>⟨_,_,_,_,rfl,rfl,.inl (aV.of kp'),by rw [ey1,ac3];exact cf (j:=j+1) MF,_,rfl,u2,p1,_,_,_,_,rfl,w2,q1',LA.t,LA.b,o1.t,o1.b,_,rfl,?_⟩⟩
    show if (!bv r[j+1] f1)=true then _ else _
    cases c2:bv r[j+1] f1 with
    | true =>
      refine gz ⟨s2,iU,?_,_,rfl⟩
      rw [iM,et,c1,c2];simp
    | false =>
      refine jy ⟨_,rfl,iU,aL (by rw [xq];lia),s2.put hD,ag,?_,_,rfl⟩
      rw [iM,et,c1,c2,My,ac3];rfl
 .
  rintro acc U H' ⟨s2,iU,rfl,v,rfl⟩
  have e:n=r.length - 1:=by lia
  rw [e] at iU
  exact k D H' (S1.free hD) (S1.trans s2) iU
theorem yn (T:Txt K mg Ad):Def P w K mg base "within" 5 ["hold","room","least","greatest"] (yW K Ad.aW):=by
 refine T.A9.cE qW λ f bx A outer s H vs Q E hr h=>?_
 obtain ⟨a,fp,m,i,r,v1,v2,f1,f2,rfl,hh,LP,d1,d2,o1,o2,k⟩:=h
 refine ⟨_,(af (aB (i:=4) qW.nd rfl (lc rfl) (aN (pv 0) T.aC (d6 (K:=K) T) .nil hr.m (aa (pv 1) ac)))
     (am (aF (oX (rq (ak (fA (K:=K) T) hr.m (aa (pv 2) (aa (aG aD (pv 4) ah (λ _ _=>rfl)) ac)))) (or (rq (ak (fA (K:=K) T) hr.m (aa (aG aD (pv 4) (o4 sH ah) (λ _ _=>rfl)) (aa (pv 3) ac))))))))),?_⟩
 try dsimp only [fb,aR]
 obtain ⟨⟨dx,pm,pf,ps,pt,vm,vs,vt,aw,mX,ha,_⟩,lsk,lst,l4,wf⟩:=id hh
 have Lq:r∈m.rows:=acU LP
 have hl:=wf.len r Lq
 have uU:=wf.rows r Lq
 refine ⟨_,rfl,a,dx,_,rfl,ha,rfl,_,rfl,a,fp,m,i,r,rfl,hh,LP,λ p xs hp yZ=>?_⟩
 have S1:aA H (upd H p (.lst xs)):=ai hp
 have kp:(upd H p (.lst xs)) p=some (.lst xs):=ag
 have D1:=bI.same S1 _ yZ
 have e1:=Dn.same S1 _ d1
 have e2:=Dn.same S1 _ d2
 generalize upd H p (.lst xs)=H1 at S1 kp D1 e1 e2 ⊢
 have lx:xs.length=r.length:=by rw [yZ.length,xq]
 obtain ⟨p1,rfl,q1⟩:=e1.fr
 obtain ⟨p2,rfl,q2⟩:=e2.fr
 have h0:0<r.length:=by lia
 have h1:r.length - 1<r.length:=by lia
 obtain ⟨x,ex,KY⟩:=D1.get (i:=0) (d:=dE r[0]) (by rw [Jl,au h0];rfl)
 obtain ⟨x',MF,La⟩:=D1.get (i:=r.length - 1) (d:=dE r[r.length - 1]) (by rw [Jl,au h1];rfl)
 obtain ⟨u1,rfl,w1⟩:=KY.fr
 obtain ⟨u2,rfl,w2⟩:=La.fr
 have GZ:=(uU r[0] (aaY h0)).mono (n:=1000) (by decide)
 have LA:=(uU r[r.length - 1] (aaY h1)).mono (n:=1000) (by decide)
 have et:gW r f1 f2=((!bv f1 r[0]) && !bv r[r.length - 1] f2):=by
   unfold gW
   rw [Ia,Ia,au h0,au h1];rfl
 have kk:=k H1 S1
 rw [et] at kk
 refine ⟨_,rfl,_,rfl,_,_,_,_,rfl,rfl,.inl (aV.of kp),cf (j:=0) ex,p1,u1,_,_,_,_,rfl,q1,w1,o1.t,o1.b,GZ.t,GZ.b,_,rfl,_,rfl,?_⟩
 show if (!bv f1 r[0])=true then _ else _
 cases c1:bv f1 r[0] with
 | true =>
   rw [c1] at kk
   exact gz kk
 | false =>
   rw [c1] at kk
   refine jy ⟨_,rfl,_,rfl,_,_,_,_,rfl,rfl,.inl (aV.of kp),DG (by lia) (by rw [lx];exact MF),_,rfl,u2,p2,_,_,_,_,rfl,w2,q2,LA.t,LA.b,o2.t,o2.b,_,rfl,?_⟩
   show Q (.bl (!bv r[r.length - 1] f2)) H1
   exact kk
theorem uK {K:W.Frag} {H:Hp} {p q:Addr} {l:List Nat} {Q:VK} (hx:aV K H p (l.map ar)) (hy:aV K H q []) (k:Q (.bl (decide (l=[]))) H):HR K (.ref p) (.ref q) H Q:=by
 refine ⟨.list (l.map gJ),.list [],sP hx,sE hy eM,dO (n:=1) xK (by decide),dO (n:=1) (show ∀ d∈([]:List PyData),xE 0 d from nofun) (by decide),?_⟩
 have:PyData.eqv (.list (l.map gJ)) (.list [])=decide (l=[]):=by cases l<;>simp [PyData.eqv,PyData.eqvAll]
 rw [this];exact k
theorem uv (T:Txt K mg Ad):Def P w K mg base "_law_mild" 2 ["_law_told","_law_cell"] (DO K):=by
 refine T.vU.cE mR λ f bx A outer s H vs Q E hr h=>?_
 obtain ⟨p,m,H0,n,c,rfl,ok,S0,hT,k⟩:=h
 refine ⟨_,(af (mv (bA (aU tV (ak (aH (K:=K) T) hr.m (aa (pv 1) (aa ah (aa ah ac)))) ah (aZ _)) (am (dB ada rfl (cB (bO (cF hr) (pv 0) bL (λ _ _=>rfl))) (aE (i:=2) mR.nd rfl (lc rfl)) (af (gC (o4 sH ah) (pr (pv 2) ah set_list))
     (am (gC ah (pr (pv 2) (o4 sH ah) set_list)))))) aJ))
     (am (aF (pv 0)))),?_⟩
 try dsimp only [fb,aR]
 obtain ⟨pm,ps,pt,pf,dg,pb,vm,vs,vt,aw,C0,jh,rfl,lp,nd,hf⟩:=hT
 refine ⟨λ σ' H'=>(∃ m',A3 (ap.Ok n n m') (aA H0 H') (jg K H' p m'))/\∃ (v2:Option V),σ'=[some (.ref p),some (.int c),v2],?_,?_⟩
 case refine_2 =>
   rintro σ' H' ⟨⟨m',fX,S',hT'⟩,v2,rfl⟩
   exact ⟨_,rfl,k H' m' fX S' hT'⟩
 refine ⟨_,rfl,c,45,3,rfl,by decide,by decide,by decide,λ r a0 a1=>⟨_,_,rfl,rfl,_,rfl,jm (λ h=>?_) (λ h=>?_)⟩⟩
 .
  have lpn:jh.length=n:=by rw [lp,ok.lm]
  refine ⟨_,rfl,p,_,rfl,d8 C0.hp,pm,rfl,⟨_,aV.of C0.eK⟩,?_⟩
  have nl:pm∉jh:=λ z=>by
    obtain ⟨j,hj,e⟩:=adQ z
    have CC:j<m.marks.length:=by lia
    exact (hf j pm m.marks[j] (by rw [ac8 hj,e]) (ac8 CC)).2.1 (by simp)
  refine jX (K:=K) (a:=pm) (xs:=jh.map V.ref) (λ i U H'=>yt K H0 H [p,pm,ps,pt,pf] jh m.marks i H'/\∃ (v2:Option V),U=[some (.ref p),some (.int c),v2])
    ⟨⟨S0,bg.refl _,λ b o hb _=>hb,λ j pk l h1 h2=>by rw [abZ (aeI _)];exact (hf j pk l h1 h2).1⟩,none,rfl⟩ (λ i U H' _ e=>aV.of (e.1.but _ _ C0.eK nl)) ?_ ?_
  .
   rintro _ i x U H1 hx ⟨M1,v2,rfl⟩
   rw [Jl] at hx
   obtain ⟨pk,qY,rfl⟩:=Option.map_eq_some_iff.mp hx
   have hi:i<jh.length:=(List.getElem?_eq_some_iff.mp qY).1
   have hl:m.marks[i]?=some (m.marks[i]'(by lia)):=ac8 _
   have r1:=M1.rows i pk _ qY hl
   rw [abZ (adM _)] at r1
   obtain ⟨_,nL,h0,_⟩:=hf i pk _ qY hl
   have l2:=(ok.rows _ (acU hl)).two
   have Gj:0<(List.map V.int (m.marks[i]'(by lia))).length:=by rw [xq];lia
   refine ⟨_,rfl,_,rfl,pk,_,0,0,rfl,rfl,r1,KS Gj,?_⟩
   refine ⟨_,rfl,_,rfl,pk,_,-1,_,rfl,rfl,ag,G7 (by rw [adz];exact Gj),?_⟩
   exact ⟨M1.put nd qY hl h0 nL,_,rfl⟩
  . rintro U H1 ⟨M1,v2,rfl⟩
    rw [xq,lpn] at M1
    obtain ⟨C1,GZ⟩:=M1.told C0 ok lpn (λ j pk l h1 h2=>⟨(hf j pk l h1 h2).2.1,(hf j pk l h1 h2).2.2.2⟩)
    exact ⟨⟨_,GZ,M1.same,⟨pm,ps,pt,pf,dg,pb,_,vs,vt,aw,C1⟩⟩,_,rfl⟩
 . exact ⟨⟨m,ok,S0,⟨pm,ps,pt,pf,dg,pb,_,vs,vt,aw,C0⟩⟩,_,rfl⟩
theorem pj (T:Txt K mg Ad):Def P w K mg base "each_choice" 1 ["rows"] (xa K):=by
 refine T.pT.cE cX λ f bx A outer s H vs Q E hr h=>?_
 obtain ⟨p,xs,rows,rfl,hp,Ii,l4,l6,k⟩:=h
 refine ⟨_,(af (aB (i:=1) cX.nd rfl (lc rfl) (cG (aa (b9 ac) ac)))
     (af (dB ada rfl (cB (pv 0)) (aE (i:=2) cX.nd rfl (lc rfl)) (af (aB (i:=3) cX.nd rfl (lc rfl) (cG ac))
     (af (dB ada rfl (cB (pv 1)) (aE (i:=4) cX.nd rfl (lc rfl)) (am (bi (il ac4 afo afn rj (pv 3) (aa (hX ["band"] ["choice"] [4] (.cons ⟨rfl,rfl,.inl rfl⟩ .nil) rfl (cB (pv 2)) (λ _ _ _ _ _=>(aE (i:=0) (show (["band","choice"]:List Str).Nodup by decide +kernel) rfl (lc rfl))) (λ _ _ _ _ _=>dI) (λ _ _ _ _ _=>(ay (vw (K:=K) rfl) (pv 1) (b9 (aa (pv 0) ac)))) rfl (by decide +kernel) (by decide +kernel) (by decide +kernel)) ac)))))
     (am (aB (i:=1) cX.nd rfl (lc rfl) (pv 3))))))
     (am (aF (pv 1))))),?_⟩
 try dsimp only [fb,aR]
 first|(refine dX ?_;intro _ _ _ _)|skip
 refine ⟨DH,λ t0 ht0=>⟨Ke,λ pc hpc=>?_⟩⟩
 have s0:=ai (o:=.tup []) ht0
 have s1:=ai (o:=.lst [.ref t0]) hpc
 refine ⟨_,rfl,p,rfl,⟨_,(s0.trans s1).seq hp⟩,?_⟩
 have lx:=Ii.length
 refine gv (K:=K) (a:=p) (xs:=xs) (λ i U H'=>aA H H'/\E2 λ q ys=>A3 (H' q=some (.lst ys)) (Dz K H' ys (bM (rows.take i))) (E3 λ (v2 v3 v4:Option V)=>U=[some (.ref p),some (.ref q),v2,v3,v4]))
   ⟨s0.trans s1,pc,[.ref t0],ag,Refs.snoc .nil (bU.of (s1 _ _ ag)),none,none,none,rfl⟩ (λ i U H' _ ⟨s2,_⟩=>s2.seq hp) ?_ ?_
 .
  rintro i x U H1 hx ⟨S1,q,ys,hq,hc,v2,v3,v4,rfl⟩
  obtain ⟨qr,r,rfl,er,hqr⟩:=Ii.get hx
  have hi:i<rows.length:=(List.getElem?_eq_some_iff.mp er).1
  have r6:=l6 r (acU er)
  have lc:=gR l6 i
  have p6:6 ^ i<=216:=by
    have:=adr (n:=6) (by decide) (show i<=3 by lia)
    lia
  have enx:bM (rows.take (i+1))=(bM (rows.take i)).flatMap λ c=>r.map λ b=>c++[b]:=by
    rw [cn er,iY]
  have lcs:∀ c∈bM (rows.take i),c.length<=4:=λ c h=>by
    have:=(fU.mp h).1
    rw [acB] at this
    lia
  generalize bM (rows.take i)=cs at hc lc enx lcs
  rw [enx]
  clear enx
  refine ⟨DH,λ pl kJ=>?_⟩
  have s2:=ai (o:=.lst []) kJ
  refine ⟨_,rfl,q,rfl,⟨_,aV.of (s2 _ _ hq)⟩,?_⟩
  refine gv (K:=K) (a:=q) (xs:=ys) (λ j U H'=>aA H1 H'/\∃ zs,A3 (H' pl=some (.lst zs)) (Dz K H' zs ((cs.take j).flatMap λ c=>r.map λ b=>c++[b])) (∃ (v4:Option V),U=[some (.ref p),some (.ref q),some (.ref qr),some (.ref pl),v4]))
    ⟨s2,[],ag,.nil,v4,rfl⟩ (λ j U H' _ ⟨s3,_⟩=>aV.of (s3 _ _ hq)) ?_ ?_
  .
   rintro j y U H2 hy ⟨S2,zs,hz,LO,v4,rfl⟩
   obtain ⟨tc,c,rfl,ec,QK⟩:=hc.get hy
   have hj:j<cs.length:=(List.getElem?_eq_some_iff.mp ec).1
   have FJ:aV K H2 qr (r.map ar):=(S1.trans S2).seq hqr
   have ht2:bU K H2 tc (c.map ar):=S2.tup QK
   have lz:zs.length<=216 * 6:=by
     rw [LO.length]
     refine adf (jF (k:=6) λ a=>by rw [xq];exact r6) ?_
     rw [acB]
     lia
   rw [cn ec,afN,afz]
   refine ⟨_,rfl,.inl ⟨rfl,_,aV.of hz⟩,_,rfl,qr,rfl,⟨_,FJ⟩,λ D hD=>?_⟩
   refine fj (K:=K) (a:=qr) (xs:=r.map ar) (λ b acc σ' H3=>A4 (aA H2 H3) (H3 D=some (.lst acc)) (Dz K H3 acc ((r.take b).map λ x=>c++[x])) (∃ v,σ'=[v,some (.ref tc)]))
     ⟨ai hD,ag,.nil,none,rfl⟩ (λ b acc σ' H3 _ ⟨s3,_,_,_⟩=>s3.seq FJ) ?_ ?_
   .
    rintro b z acc σ' H3 hb ⟨s3,iI,ln,v,rfl⟩
    obtain ⟨bn,eb,rfl⟩:=cY hb
    have hbl:b<r.length:=(List.getElem?_eq_some_iff.mp eb).1
    have la:acc.length<=6:=by rw [ln.length,xq,acB];lia
    refine ⟨_,rfl,_,rfl,Ke,λ tb Tc=>?_⟩
    have s4:=ai (o:=.tup [ar bn]) Tc
    refine ⟨tc,tb,_,_,rfl,rfl,(s3.trans s4).tup ht2,bU.of ag,?_,λ t5 H5 s5 h5=>?_⟩
    . have:=lcs c (acU ec)
      exact aed (aL (by rw [xq,adp];lia))
    . refine ⟨s5 _ _ (s4 _ _ iI),ac1 la (by decide),((s3.trans s4).trans s5).put hD,ag,?_,_,rfl⟩
      rw [cn eb,My]
      have ts:bg K H5 (upd H5 D (.lst (acc++[.ref t5]))):=bZ (s5 _ _ (s4 _ _ iI)) rfl
      refine Refs.snoc (ln.imp λ p a h=>ts _ _ ((s4.trans s5).tup h)) (ts _ _ ?_)
      rw [My]
      exact h5
   .
    rintro acc σ' H3 ⟨s3,iI,ln,v,rfl⟩
    rw [xq,adg] at ln
    have la:acc.length<=6:=by rw [ln.length,xq];exact r6
    have hz3:=s3 _ _ hz
    refine ⟨pl,D,zs,acc,rfl,rfl,hz3,iI,aed (ac1 (show zs.length+acc.length<=1302 by lia) (by decide)),?_⟩
    have ts:bg K H3 (upd H3 pl (.lst (zs++acc))):=bZ hz3 rfl
    exact ⟨(S2.trans s3).put kJ,_,ag,Refs.append (LO.imp λ p a h=>ts _ _ (s3.tup h)) (ln.imp λ p a h=>ts _ _ h),_,rfl⟩
  . rintro U H2 ⟨S2,zs,hz,LO,v4,rfl⟩
    rw [hc.length,adg] at LO
    exact ⟨_,rfl,S1.trans S2,pl,zs,hz,LO,_,_,_,rfl⟩
 . rintro U H1 ⟨S1,q,ys,hq,hc,v2,v3,v4,rfl⟩
   rw [adT (by lia)] at hc
   exact ⟨_,rfl,k q ys H1 S1 hq hc⟩
theorem kq (T:Txt K mg Ad):iG P w K mg base Ad.Reach "__init__" 1 ["self","hold"] [] (yI P w K Ad.aW Ad.Reach):=by
 refine T.mz.gQ lG λ f bx A outer s H vs Q E hr h=>?_
 obtain ⟨x,dx,a,fp,m,rfl,hx,hh,nx,k⟩:=h
 refine ⟨_,(af (ie (pv 0) (pv 1) rfl)
     (am (ie (pv 0) (xB (P:=P) (w:=w) rfl rfl) rfl))),?_⟩
 try dsimp only [fb,aR]
 have B0:jL K Ad.Reach x dx H H []:=.start hx
 refine ⟨_,rfl,_,rfl,x,_,dx,_,rfl,B0.at_,T.cM,T.cP,lt1000 rfl,?_⟩
 have B1:=B0.put (fs':=bC "hold" (.ref a) [])
 intro d hd
 have B2:=B1.new (o:=pW P w d []) hd
 refine ⟨_,rfl,x,_,dx,_,rfl,B2.at_,T.cM,T.cV,lt1000 rfl,?_⟩
 have B3:=B2.put (fs':=bC "spreads" (.ref d) (bC "hold" (.ref a) []))
 have nd:d≠x:=B1.ne hd
 have hdn:H d=none:=B1.none hd
 refine k d _ (λ c u hc n=>B3.st c u hc λ z=>n (List.mem_singleton.mpr z)) B3.ts hdn ⟨⟨dx,B3.at_⟩,hh.GO B3.st B3.ts nx,λ z=>?_,[],gK.nil (by rw [av nd];exact ag),aaT _,λ i bs f v e=>by cases e⟩
 obtain ⟨o,ho⟩:=hh.some d z
 rw [hdn] at ho
 cases ho
set_option maxHeartbeats 0 in
theorem l8 (T:Txt K mg Ad):iG P w K mg base Ad.Reach "spread" 8 ["self","room","bands","fired"] [] (yC P w K Ad.aW Ad.Reach):=by
 refine T.pB.gQ de λ f bx A outer s H vs Q E hr h=>?_
 obtain ⟨x,d,a,fp,m,c,i,pb,bs,b,L,rfl,Hh,hL,hc,hi,GI,lb,hb,hf,Mj,Nd,k⟩:=h
 refine ⟨_,(af (aB (i:=4) de.nd rfl (lc rfl) (b9 (aa (pv 1) (aa (pv 2) (aa (pv 3) ac)))))
     (af (mv (bA (aU (qN (P:=P) (w:=w) (K:=K) rfl rfl rfl hr.IB) (pv 4) (bR (pv 0) rfl) (by with_unfolding_all rfl)) (af (gC (ak (wP (K:=K) T) hr.m (aa (bR (pv 0) rfl) (aa (pv 1) (aa (pv 2) (aa (pv 3) ac))))) (eZ (K:=K) (n:=2) rfl rfl (aT (aE (i:=5) de.nd rfl (lc rfl)) (aT (aE (i:=6) de.nd rfl (lc rfl)) eX))))
     (af (aB (i:=7) de.nd rfl (lc rfl) (ak (yn (K:=K) T) hr.m (aa (bR (pv 0) rfl) (aa (pv 1) (aa (pv 5) (aa (pv 6) ac))))))
     (am (xC (P:=P) (w:=w) (K:=K) rfl rfl rfl hr.IB (bR (pv 0) rfl) (pv 4) (Bl (cy (pv 7)) (ak (wy (K:=K) T) hr.m (aa (bR (pv 0) rfl) (aa (pv 1) (aa (pv 5) (aa (pv 6) ac))))) gA) rfl)))) aJ))
     (am (aF (CQ (P:=P) (w:=w) (K:=K) rfl rfl rfl hr.IB (bR (pv 0) rfl) (pv 4) (λ _ _=>rfl)))))),?_⟩
 try dsimp only [fb,aR]
 first|(refine dX ?_;intro _ _ _ _)|skip
 refine ⟨_,rfl,_,rfl,_,rfl,Ih,λ tk MB=>?_⟩
 have s1:=ai (o:=.tup [ar i,.ref pb,.bl b]) MB
 have AN:=Hh.same s1
 have Ae:gc K (upd H tk (.tup [ar i,.ref pb,.bl b])) (jl i bs b) tk:=xb (bU.of ag) (s1.tup GI)
 generalize upd H tk (.tup [ar i,.ref pb,.bl b])=H1 at s1 AN Ae ⊢
 obtain ⟨⟨dx,hx⟩,hh,nd,aw,FA,hl,hv⟩:=id AN
 refine ⟨λ σ' H'=>(E2 λ aw v=>A7 (lT [d] H1 H') (bg K H1 H') (fH P w K Ad.aW Ad.Reach L H' x d a fp m (c+1)) (gK P w K H' d aw) (gc K H' (jl i bs b) tk) (je aw (jl i bs b)=some v) (d5 L H' v (eB m i bs b)))/\E3 λ (v5 v6 v7:Option V)=>σ'=[some (.ref x),some (ar i),some (.ref pb),some (.bl b),some (.ref tk),v5,v6,v7],?_,?_⟩
 .
  refine ⟨_,rfl,_,rfl,x,_,dx,_,_,rfl,hx,T.cM,T.cV,rfl,d,tk,aw,_,rfl,rfl,FA,Ae,_,rfl,?_⟩
  cases e:je aw (jl i bs b) with
  | some v=>exact gz ⟨⟨aw,v,λ _ _ h _=>h,bg.refl _,AN.more (ad9 _),FA,Ae,e,hv i bs b v e⟩,none,none,none,rfl⟩
  | none =>
    refine jy ?_
    refine ⟨_,rfl,x,_,dx,_,_,rfl,hx,T.cM,T.cP,rfl,_,rfl,_,rfl,_,rfl,a,fp,m,i,pb,bs,b,rfl,hh,hi,.inr (s1.tup GI),lb,hb,hf,λ q q1 q2 H2 s2 e0 e1 e2=>?_⟩
    refine ⟨q,_,rfl,bU.of e0,rfl,_,_,rfl,_,_,rfl,rfl,?_⟩
    have Ip:=s2 _ _ hx
    have rH:=au hi
    have Gx:m.rows.getD i []=m.rows[i]:=by rw [Ia,rH];rfl
    refine ⟨_,rfl,x,_,dx,_,_,rfl,Ip,T.cM,T.cP,rfl,_,rfl,_,rfl,_,rfl,a,fp,m,i,m.rows[i],.ref q1,.ref q2,_,_,rfl,hh.same s2,rH,ko (bU.of e1),ko (bU.of e2),Mj,Nd,λ H3 s3=>?_⟩
    have S3:=s2.trans s3
    have MR:=S3 _ _ hx
    have Dp:eB m i bs b=if gW m.rows[i] (io m i bs b) (iF m i bs b)=true then some (jK m.rows[i] (io m i bs b) (iF m i bs b)) else none:=by unfold eB;rw [Gx]
    cases ew:gW m.rows[i] (io m i bs b) (iF m i bs b) with
    | true =>
      rw [ew,abS rfl] at Dp
      refine ⟨_,rfl,_,rfl,jy ⟨_,rfl,x,_,dx,_,_,rfl,MR,T.cM,T.cP,rfl,_,rfl,_,rfl,_,rfl,a,fp,m,i,m.rows[i],.ref q1,.ref q2,_,_,rfl,hh.same S3,rH,ko (bU.of (s3 _ _ e1)),ko (bU.of (s3 _ _ e2)),Mj,Nd,λ pt H4 nt s4 ht=>?_⟩⟩
      have S4:=S3.trans s4
      have Xc:d5 L H4 (.ref pt) (eB m i bs b):=by rw [Dp];exact ⟨pt,rfl,λ z=>hL pt z ((s1.trans S3).free nt),ht⟩
      obtain ⟨p1,p2,p3,p4⟩:=(AN.same S4).put (FA.same S4) hl (λ i bs f v e=>(hv i bs f v e).same S4) (Ae.ts S4.ts) Xc
      exact ⟨_,rfl,x,_,dx,_,_,rfl,S4 _ _ hx,T.cM,T.cV,rfl,_,rfl,d,tk,aw,_,rfl,rfl,FA.same S4,Ae.ts S4.ts,ac1 (adf hl hc) (by decide),⟨_,.ref pt,λ c o e n=>p2 c o (S4 c o e) n,S4.ts.trans p3,p1,(FA.same S4).put (Ae.ts S4.ts),(Ae.ts S4.ts).ts p3,by rw [kO,abS rfl],p4⟩,_,_,_,rfl⟩
    | false =>
      rw [ew,abZ acT] at Dp
      have Xc:d5 L H3 .cR (eB m i bs b):=by rw [Dp];rfl
      obtain ⟨p1,p2,p3,p4⟩:=(AN.same S3).put (FA.same S3) hl (λ i bs f v e=>(hv i bs f v e).same S3) (Ae.ts S3.ts) Xc
      exact ⟨_,rfl,_,rfl,gz ⟨_,rfl,x,_,dx,_,_,rfl,MR,T.cM,T.cV,rfl,_,rfl,d,tk,aw,_,rfl,rfl,FA.same S3,Ae.ts S3.ts,ac1 (adf hl hc) (by decide),⟨_,.cR,λ c o e n=>p2 c o (S3 c o e) n,S3.ts.trans p3,p1,(FA.same S3).put (Ae.ts S3.ts),(Ae.ts S3.ts).ts p3,by rw [kO,abS rfl],p4⟩,_,_,_,rfl⟩⟩
 .
  rintro σ' H2 ⟨⟨V1,v,b2,t2,re2,hk2,Jw,ev,DP⟩,v5,v6,v7,rfl⟩
  obtain ⟨La,Ip⟩:=re2.ins
  refine ⟨_,rfl,x,_,La,_,_,rfl,Ip,T.cM,T.cV,rfl,_,rfl,d,tk,V1,_,v,rfl,rfl,hk2,Jw,ev,?_⟩
  exact k v H2 (λ c o e n=>b2 c o (s1 c o e) n) (s1.ts.trans t2) re2 DP
set_option maxHeartbeats 0 in
theorem iu (T:Txt K mg Ad):iG P w K mg base Ad.Reach "states_behind" 9 ["self","state","order"] [] (zu P w K Ad.aW Ad.Reach):=by
 refine T.jn.gQ bB λ f bx A outer s H vs Q E hr h=>?_
 obtain ⟨x,d,a,fp,m,c,p,st,o,rfl,Hh,hc,hs,so,ow,tn,zE,k1,k2⟩:=h
 refine ⟨_,(af (aB (i:=3) bB.nd rfl (lc rfl) (cG ac))
     (af (dB ada rfl (cB (ak (pO (K:=K) T) hr.m (aa (ak (wW (K:=K) T) hr.m (aa (bR (pv 0) rfl) (aa (pv 1) (aa (pv 2) ac)))) ac))) (aE (i:=4) bB.nd rfl (lc rfl)) (af (aB (i:=5) bB.nd rfl (lc rfl) (ay j4 (pv 2) (o4 wD (pv 4))))
     (af (pD (yi:=6) ["room"] ["self","state","burning"] [0,1,5] (.cons ⟨rfl,rfl,.inl rfl⟩ (.cons ⟨rfl,rfl,.inl rfl⟩ (.cons ⟨rfl,rfl,.inl rfl⟩ .nil))) rfl (bP rfl T.cT (aa (eG (bR (pv 0) rfl) T.aC (bV (K:=K) T) .nil hr.m) ac)) (λ _ _ _ _ _=>(aE (i:=0) (show (["room","self","state","burning"]:List Str).Nodup by decide +kernel) rfl (lc rfl))) (λ _ _ _ _ _=>dI) (λ _ _ _ _ _=>(aN (pv 1) T.cM (l8 (P:=P) (w:=w) T) .nil hr.m (aa (pv 0) (aa (aG (fT (K:=K) rfl) (pv 2) ah (λ _ _=>rfl)) (aa (ak (d7 (K:=K) T) hr.m (aa (pv 3) (aa (pv 0) ac))) ac))))) rfl (by decide +kernel) (by decide +kernel) (by decide +kernel) bB.nd rfl (lc rfl) rfl)
     (af (bA (aU (HE (cF hr)) gA (pv 6) (by with_unfolding_all rfl)) (am (aF gA)) aJ)
     (af (aB (i:=7) bB.nd rfl (lc rfl) (ak (mF (K:=K) T) hr.m (aa (bR (pv 0) rfl) (aa (pv 1) (aa (pv 2) (aa (pv 4) ac))))))
     (am (bi (il ac4 afo afn rj (pv 3) (aa (hX ["bands"] ["stoves"] [7] (.cons ⟨rfl,rfl,.inl rfl⟩ .nil) rfl (cB (ak (pj (K:=K) T) hr.m (aa (pv 6) ac))) (λ _ _ _ _ _=>(aE (i:=0) (show (["bands","stoves"]:List Str).Nodup by decide +kernel) rfl (lc rfl))) (λ _ _ _ _ _=>dI) (λ _ _ _ _ _=>(ay (vw (K:=K) rfl) (b9 (aa (pv 0) ac)) (pv 1))) rfl (by decide +kernel) (by decide +kernel) (by decide +kernel)) ac)))))))))
     (am (aF (pv 3))))),?_⟩
 try dsimp only [fb,aR]
 first|(refine dX ?_;intro _ _ _ _)|skip
 obtain ⟨_,_,_,q3,q4⟩:=id Hh.hold
 refine ⟨DH,λ ps eL=>?_⟩
 have s1:=ai (o:=.lst []) eL
 have e1:(upd H ps (.lst [])) ps=some (.lst []):=ag
 generalize upd H ps (.lst [])=H1 at s1 e1 ⊢
 obtain ⟨dx,hx⟩:=Hh.ins
 refine ⟨_,rfl,x,_,dx,_,_,rfl,s1 _ _ hx,T.cM,T.cP,rfl,_,rfl,_,rfl,a,fp,m,p,st,o,rfl,Hh.hold.same s1,hs.same s1,so,ow,λ H2 s2=>?_⟩
 have S2:=s1.trans s2
 have m16:st.may m o<16:=sv q3
 have ol:=ui m16
 refine ⟨st.may m o,rfl,by lia,ol.1,λ pl H3 kJ s3 hl=>⟨pl,rfl,⟨_,aV.of hl⟩,?_⟩⟩
 have S3:=S2.trans s3
 have e3:H3 ps=some (.lst []):=s3 _ _ (s2 _ _ e1)
 have npl:pl≠ps:=(aq (s2 _ _ e1) kJ).symm
 have Xd:ps∉fp:=λ z=>by
   obtain ⟨u,hu⟩:=Hh.hold.some ps z
   rw [eL] at hu;cases hu
 have JQ:fH P w K Ad.aW Ad.Reach [ps] H3 x d a fp m c:=(Hh.new eL).same S3
 obtain ⟨kv0,LM,_⟩:=JQ.Mv
 have npd:pl≠d:=λ z=>by rw [z,LM.ob] at hl;cases hl
 have zI:ps≠d:=λ z=>by rw [z,LM.ob] at e3;cases e3
 have M7:=hs.same S3
 have lo:(c3 m st o).length<=16:=ol.2
 have hl:H3 pl=some (.lst ((c3 m st o).map ar)):=hl
 unfold oH at k2
 generalize c3 m st o=outs at hl lo tn k1 k2
 refine jX (K:=K) (a:=pl) (xs:=outs.map ar) (λ i U H'=>A6 (lT [d,ps] H3 H') (bg K H3 H') (fH P w K Ad.aW Ad.Reach [ps] H' x d a fp m (c+4 * i)) (∃ xs,H' ps=some (.lst xs)/\qL K H' xs ((outs.take i).flatMap (g9 m st o))) (∀ out∈outs.take i,jG m st (Ord.off o out)=true) (E4 λ (v4 v5 v6 v7:Option V)=>U=[some (.ref x),some (.ref p),some (ar o),some (.ref ps),v4,v5,v6,v7]))
   ⟨λ _ _ h _=>h,bg.refl _,JQ,⟨[],e3,Refs.nil⟩,λ _ h=>absurd h (by simp),none,none,none,none,rfl⟩ (λ i U H' _ ⟨b,_,_,_,_,_⟩=>aV.of (b _ _ hl (by simp [npd,npl]))) ?_ ?_
 .
  rintro _ i v U H4 hv ⟨b4,t4,Ci,⟨xs,EN,CN⟩,qC,v4,v5,v6,v7,rfl⟩
  obtain ⟨out,eo,rfl⟩:=cY hv
  have hi:i<outs.length:=(List.getElem?_eq_some_iff.mp eo).1
  have KO:=tn out (acU eo)
  have bits:∀ i,(Ord.off o out).testBit i=true->m.has i=true:=λ i h=>(KO.MH (KO.IK h).1).2
  refine ⟨_,rfl,_,rfl,_,rfl,_,_,rfl,rfl,λ y ey=>?_⟩
  obtain rfl:y=((Ord.off o out:Nat):Int):=by rw [ey];exact kA _ _
  obtain ⟨Of,hx4⟩:=Ci.ins
  obtain ⟨⟨dxh,_,_,_,_,_,_,_,_,_,Zn,_⟩,_⟩:=id Ci.hold
  refine ⟨_,rfl,x,_,Of,_,_,rfl,hx4,T.cM,T.cP,rfl,a,dxh,_,rfl,Zn,rfl,a,fp,m,rfl,Ci.hold,_,rfl,by lia,by lia,λ D hD=>?_⟩
  have IT:gn K H4 p st:=M7.ts t4
  obtain ⟨pb,pw,pf,h0,hb0,Mm,hf0⟩:=id IT
  obtain ⟨kv4,SB,_⟩:=Ci.Mv
  have nD:D≠d:=(aq SB.ob hD).symm
  have nfD:D∉fp:=λ z=>by
    obtain ⟨u,hu⟩:=Ci.hold.some D z
    rw [hD] at hu;cases hu
  refine dM (lo:=0) (n:=m.rows.length) (λ j acc σ' H5=>A6 (lT [d] H4 H5) (bg K H4 H5) (fH P w K Ad.aW Ad.Reach [D,ps] H5 x d a fp m (c+4 * i+j)) (H5 D=some (.lst acc)) (Paired (d5 [D,ps] H5) acc ((List.range j).map (nH m st (Ord.off o out)))) (∃ v,σ'=[v,some (.ref x),some (.ref p),some (ar (Ord.off o out))]))
    ⟨λ b u h _=>ai hD b u h,(ai hD).ts,(Ci.new hD).same (ai hD),ag,.nil,none,rfl⟩ ?_ ?_
  .
   rintro j acc σ' H5 hj ⟨b5,t5,FQ,Lg,ln,v,rfl⟩
   obtain ⟨R4,Vx⟩:=FQ.ins
   obtain ⟨kv5,RE,_⟩:=FQ.Mv
   have la:acc.length=j:=by rw [aeo ln,xq,acD]
   have EC:=b5 _ _ EN (by simp [zI])
   obtain ⟨Mj,Nd⟩:=zE j ((Ord.off o out).testBit j) hj (bits j)
   refine ⟨_,rfl,x,R4,_,rfl,Vx,rfl,_,rfl,_,rfl,p,_,_,_,rfl,rfl,.inr (t5 _ _ h0),rfl,_,rfl,_,rfl,Ord.off o out,j,by rw [ac3];rfl,?_⟩
   refine ⟨x,d,a,fp,m,c+4 * i+j,j,pb,st.fc,(Ord.off o out).testBit j,[D,ps],by rw [ac3];rfl,FQ,?_,by lia,hj,t5 _ _ hb0,so.lb,λ j hj=>by have:=so.band j hj;unfold gN at this;rw [Ia];exact this,λ z=>?_,Mj,Nd,λ v6 H6 b6 t6 re6 Ts=>?_⟩
   . intro b hb
     simp only [abt,T1,adj] at hb
     rcases hb with rfl|rfl
     . rw [Lg];exact nofun
     . rw [EC];exact nofun
   . obtain ⟨z',ez⟩:=oB (bits j z)
     exact ⟨z',by rw [j8 (by lia),ez]⟩
   .
    have Y5:=b6 _ _ Lg (by simp [nD])
    obtain ⟨kv6,RS,_⟩:=re6.Mv
    have ks:∀ {v r},d5 [D,ps] H6 v r->d5 [D,ps] (upd H6 D (.lst (acc++[v6]))) v r:=λ h=>h.but RS.ob ky (λ c u e _ n=>by rw [av (λ z=>n (by simp [z]))];exact e) λ _ h=>h
    refine ⟨Y5,aL (by lia),λ b u h n=>by rw [av (aq h hD)];exact b6 b u (b5 b u h n) n,t5.trans (t6.trans (bZ Y5 rfl)),re6.write Y5 (by simp) nfD,ag,?_,_,rfl⟩
    rw [adh,My]
    exact ae4 (Paired.AW ln λ a r h=>ks (h.but RE.ob ky (λ c u e n _=>b6 c u e (by simp [n])) λ _ h=>h)) (ks Ts)
  .
   rintro acc σ' H5 ⟨b5,t5,FQ,Lg,ln,v,rfl⟩
   have zZ:∀ v∈acc,v = .cR∨∃ a ys,v = .ref a/\aV K H5 a ys:=λ v hv=>(xG ln v hv).imp id λ ⟨q,ys,e,h⟩=>⟨q,ys,e,aV.of h⟩
   have EC:=b5 _ _ EN (by simp [zI])
   obtain ⟨R4,Vx⟩:=FQ.ins
   have B5:lT [d] H H5:=λ b u h n=>b5 b u (b4 b u (S3 b u h) (by
     simp only [abt,T1,adj,aeb] at n ⊢
     exact ⟨n,aq h eL⟩)) n
   have T5:bg K H H5:=S3.ts.trans (t4.trans t5)
   refine ⟨_,rfl,D,acc,rfl,rfl,aV.of Lg,zZ,_,rfl,jm (λ hn=>?_) (λ hn=>?_)⟩
   . exact k1 ⟨out,acU eo,rf.mp ((pF ln).mp hn)⟩ H5 B5 T5 ((FQ.less (by simp)).more (by lia))
   have nn:none∉(List.range m.rows.length).map (nH m st (Ord.off o out)):=λ z=>hn ((pF ln).mpr z)
   have rH:=uE ln nn
   rw [Cv] at rH
   have sf:jG m st (Ord.off o out)=true:=by
     cases e:jG m st (Ord.off o out) with
     | true=>rfl
     | false=>exact absurd (rf.mpr e) nn
   refine ⟨_,rfl,x,_,R4,_,_,rfl,Vx,T.cM,T.cP,rfl,_,rfl,_,rfl,_,rfl,a,fp,m,p,st,o,out,rfl,FQ.hold,IT.ts t5,so,λ i h=>KO.has h,KO.Kc,KO.LJ,λ qt pw' tH H6 s6 g1 g2 g3=>?_⟩
   have lr:(db m st (Ord.off o out)).length=m.rows.length:=by unfold db;rw [xq,acD]
   refine ⟨_,rfl,.inl ⟨rfl,_,aV.of (s6 _ _ EC)⟩,_,rfl,D,acc,db m st (Ord.off o out),rfl,aV.of (s6 _ _ Lg),rH.imp λ q r h=>aV.of (s6 _ _ h),by lia,uD q4,λ qc ys H7 s7 hqc sD=>⟨qc,rfl,⟨_,aV.of hqc⟩,λ D2 iU=>?_⟩⟩
   have bl:=iZ q4 q3 (s:=st) (o:=o) out
   unfold g9 at bl
   rw [xq] at bl
   have eb:g9 m st o out=(bM (db m st (Ord.off o out))).map λ c=>st.behind m c o out:=rfl
   have l4:∀ c∈bM (db m st (Ord.off o out)),c.length<=4:=λ c h=>by have:=(fU.mp h).1;lia
   generalize bM (db m st (Ord.off o out))=cs at sD bl eb l4
   refine fj (K:=K) (a:=qc) (xs:=ys) (λ j gx σ' H8=>A4 (aA H7 H8) (H8 D2=some (.lst gx)) (qL K H8 gx ((cs.take j).map λ c=>st.behind m c o out)) (∃ v,σ'=[v,some (.ref qt)]))
     ⟨ai iU,ag,Refs.nil,none,rfl⟩ (λ j gx σ' H8 _ ⟨s8,_,_,_⟩=>aV.of (s8 _ _ hqc)) ?_ ?_
   .
    rintro j z gx σ' H8 hz ⟨s8,QZ,pH,v,rfl⟩
    obtain ⟨tc,cc,rfl,ec,QK⟩:=sD.get hz
    have hj:j<cs.length:=(List.getElem?_eq_some_iff.mp ec).1
    have la:gx.length<=1296:=by rw [pH.length,xq,acB];lia
    have Qf:=s7.trans s8
    refine ⟨_,rfl,Ke,λ tb Tc=>?_⟩
    have s9:=ai (o:=.tup [.ref tc]) Tc
    refine ⟨_,rfl,tb,qt,_,_,rfl,rfl,bU.of ag,bU.of (s9 _ _ (Qf _ _ g1)),(by show 1+4<=sizeLine;decide),λ tq MD Ho h10=>?_⟩
    have JW:=Ho _ _ (s9 _ _ QZ)
    have ts:bg K MD (upd MD D2 (.lst (gx++[.ref tq]))):=bZ JW rfl
    have AM:=s9.trans Ho
    refine ⟨JW,ac1 la (by decide),(s8.trans AM).put iU,ag,?_,_,rfl⟩
    rw [cn ec,My]
    refine Refs.snoc (pH.imp λ p a h=>(h.same AM).ts ts) ?_
    exact ⟨tc,pw',tH,ts _ _ h10,ts _ _ ((s8.trans AM).tup QK),ts _ _ ((Qf.trans AM).tup (bU.of g2)),ts _ _ ((Qf.trans AM).tup (bU.of g3))⟩
   .
    rintro gx σ' H8 ⟨s8,QZ,pH,v,rfl⟩
    rw [sD.length,adg] at pH
    rw [← eb] at pH
    have S8:=(s6.trans s7).trans s8
    have GG:=S8 _ _ EC
    have lx:xs.length<=16 * 1296:=by
      rw [CN.length]
      refine adf (jF (k:=1296) (iZ q4 q3)) ?_
      rw [acB]
      lia
    have la:gx.length<=1296:=by rw [pH.length];exact iZ q4 q3 out
    refine ⟨ps,D2,xs,gx,rfl,rfl,GG,QZ,aed (ac1 (show xs.length+gx.length<=22032 by lia) (by decide)),?_⟩
    have ts:bg K H8 (upd H8 ps (.lst (xs++gx))):=bZ GG rfl
    refine ⟨λ b u h n=>?_,t4.trans (t5.trans (S8.ts.trans ts)),(((FQ.less (by simp)).same S8).write GG (by simp) Xd).more (by lia),⟨_,ag,?_⟩,λ abB h'=>?_,_,_,_,_,rfl⟩
    . have n':=n
      simp only [abt,T1,adj,aeb] at n'
      rw [av n'.2]
      exact S8 _ _ (b5 _ _ (b4 b u h n) (by simp [n'.1]))
    . rw [cn eo,afN,afz]
      exact Refs.append (CN.imp λ p a h=>(((h.ts t5).same S8).ts ts)) (pH.imp λ p a h=>h.ts ts)
    . rw [cn eo] at h'
      rcases List.mem_append.mp h' with z|z
      . exact qC abB z
      . rw [List.mem_singleton.mp z];exact sf
 .
  rintro U H4 ⟨b4,t4,Ci,⟨xs,EN,CN⟩,qC,v4,v5,v6,v7,rfl⟩
  rw [xq,adg] at CN qC
  refine ⟨_,rfl,k2 qC ps xs H4 (λ b u h n=>b4 b u (S3 b u h) ?_) (S3.ts.trans t4) ((Ci.less (by simp)).more (by rw [xq];lia)) EN CN⟩
  simp only [abt,T1,adj,aeb] at n ⊢
  exact ⟨n,aq h eL⟩
theorem mV (T:Txt K mg Ad):Def P w K mg base "outcomes" 10 ["hold","state","order"] (uQ K Ad.aW):=by
 refine T.wG.cE vB λ f bx A outer s H vs Q E hr h=>?_
 obtain ⟨a,fp,m,p,st,o,rfl,hh,hs,so,ow,tn,zE,k1,k2⟩:=h
 refine ⟨_,(af (bi (ak (ir (K:=K) T) hr.m (aa (pv 0) (aa (pv 1) ac))))
     (am (aF (aN (ur T.AG (kq (P:=P) (w:=w) T) .nil hr.m T.Cp (aa (pv 0) ac)) T.cM (iu (P:=P) (w:=w) T) .nil hr.m (aa (pv 1) (aa (pv 2) ac)))))),?_⟩
 try dsimp only [fb,aR]
 refine ⟨_,rfl,_,rfl,a,fp,m,p,st,rfl,hh,hs,so,λ H1 s1=>?_⟩
 refine ⟨_,rfl,λ x dx hx jo n=>?_⟩
 have s2:aA H1 (upd (upd H1 dx (.own x)) x (.ins Ad.Reach dx [])):=(ai jo).trans (ai (by first|(rw [av n];exact hx)|(rw [av n.symm];exact hx)))
 have Ip:(upd (upd H1 dx (.own x)) x (.ins Ad.Reach dx [])) x=some (.ins Ad.Reach dx []):=ag
 generalize upd (upd H1 dx (.own x)) x (.ins Ad.Reach dx [])=H2 at s2 Ip ⊢
 have S2:=s1.trans s2
 have xn:H x=none:=s1.free hx
 refine ⟨x,dx,a,fp,m,rfl,Ip,hh.same S2,λ z=>?_,λ d H3 b3 t3 hd re3=>⟨rfl,?_⟩⟩
 . obtain ⟨u,hu⟩:=hh.some x z
   rw [xn] at hu;cases hu
 obtain ⟨dx3,MR⟩:=re3.ins
 have fr:∀ {H4},lT [d] H3 H4->aA H H4:=λ b4 b u h=>b4 b u (b3 b u (S2 b u h) (by simp only [aeU];exact aq h xn)) (by simp only [aeU];exact aq (S2 b u h) hd)
 exact ⟨x,dx3,_,rfl,MR,rfl,_,rfl,_,rfl,x,d,a,fp,m,0,p,st,o,rfl,re3,by lia,(hs.same S2).ts t3,so,ow,tn,zE,λ h H4 b4 t4 Ci=>k1 h H4 (fr b4),λ h q xs H4 b4 t4 Ci e1 e2=>k2 h q xs H4 (fr b4) e1 e2⟩
theorem AT {tm:ap} {n o out:Nat} {s:dY} (ok:tm.Ok n n) (n4:n<=4) (so:gE (tm.m2 n n) s) (DJ:out<16) (ho:o∈s.orders (tm.m2 n n)) (hf:out &&& s.may (tm.m2 n n) o=out):ck (tm.m2 n n) s o out:=by
 obtain ⟨f1,f2,f3,f4⟩:=cN tm n n
 have hl:(tm.m2 n n).rows.length=n:=by rw [f1,xq,acB,ok.lm];lia
 rw [xg ok n4 so,afc,List.mem_range,vy,DS ok so] at ho
 refine ⟨by lia,so,ho.2,ho.1,DJ,λ r h=>?_,λ r=>(FO ok r).2.1,λ r=>(FO ok r).1,by rw [f3];exact ok.bounds.2.1.1,by rw [f4];exact ok.bounds.2.2.1⟩
 have:(out &&& s.may (tm.m2 n n) o).testBit r=true:=by rw [hf];exact h
 rw [adC] at this
 have:=(ac0 _ _ ▸ this:out.testBit r=true/\(s.may (tm.m2 n n) o).testBit r=true).2
 unfold dY.may at this
 rw [Ord.gm] at this
 simp only [ac0,aeu,adv] at this
 exact ⟨this.2.1.1,this.2.1.2,this.2.2⟩
set_option maxHeartbeats 0 in
theorem qd (T:Txt K mg Ad):Def P w K mg base "_law_milder" 2 ["_law_told","_law_cell"] (zi K):=by
 refine T.sT.cE cm λ f bx A outer s H vs Q E hr h=>?_
 obtain ⟨p,tm,n,c,rfl,hT,ok,n1,n4,k⟩:=h
 refine ⟨_,(af (aB (i:=2) cm.nd rfl (lc rfl) (ak (aH (K:=K) T) hr.m (aa (pv 1) (aa ah (aa (bh bJ (by rfl) T.fW d9 (aa (bO (cF hr) (pv 0) bL (λ _ _=>rfl)) ac)) ac)))))
     (af (gC (aG aD (bO (cF hr) (pv 0) bL (λ _ _=>rfl)) (pv 2) (λ _ _=>rfl)) (eZ (K:=K) (n:=3) rfl rfl (aT (aE (i:=3) cm.nd rfl (lc rfl)) (aT (aE (i:=4) cm.nd rfl (lc rfl)) (aT (aE (i:=5) cm.nd rfl (lc rfl)) eX)))))
     (af (aB (i:=6) cm.nd rfl (lc rfl) (ay aI (pv 4) (ak (aH (K:=K) T) hr.m (aa (pv 1) (aa ah (aa (ay aI (ay dF (pv 5) (pv 4)) ah) ac))))))
     (af (aB (i:=7) cm.nd rfl (lc rfl) (ay aI (pv 6) (ak (aH (K:=K) T) hr.m (aa (pv 1) (aa ah (aa (ay aI (ay dF (pv 5) (pv 6)) ah) ac))))))
     (af (aB (i:=8) cm.nd rfl (lc rfl) (eA qj (by rfl) T.He Ck (aa (pv 0) ac)))
     (af (n9 (cF hr) (pv 8) bL (eA lN (by rfl) T.Bc xS (aa (bO (cF hr) (pv 0) bL (λ _ _=>rfl)) ac)) rfl)
     (af (gC (b9 (aa (pv 3) (aa (pv 6) (aa (pv 7) ac)))) (pr (bO (cF hr) (pv 8) bL (λ _ _=>rfl)) (pv 2) set_list))
     (am (aF (pv 8)))))))))),?_⟩
 try dsimp only [fb,aR]
 first|(refine ug ?_;intro _ _ _ _ _ _ _ _ _)|skip
 obtain ⟨pm,ps,pt,pf,dg,pb,vm,vs,vt,aw,C⟩:=hT
 have FX:vm.length=n:=by rw [C.dm.length,xq,ok.lm]
 have lvs:vs.length=n:=by rw [C.ds.length,xq,ok.ls]
 refine ⟨_,rfl,_,rfl,p,_,rfl,d8 C.hp,pm,vm,rfl,.inl (aV.of C.eK),λ y ey=>⟨c,71,y,rfl,by decide,by decide,by lia,λ r a0 a1=>?_⟩⟩
 obtain ⟨r,rfl⟩:∃ q:Nat,r=(q:Int):=⟨r.toNat,by lia⟩
 have hrn:r<n:=by lia
 have Ii:r<tm.ce.length:=by rw [ok.ls];exact hrn
 obtain ⟨x,ex,dx⟩:=C.ds.get (i:=r) (d:=tM tm.ce[r]) (by rw [Jl,au Ii];rfl)
 have zE:=ok.ce tm.ce[r] (aaY Ii)
 obtain ⟨q,ys,rfl,hq,u1,t1,rfl,e1,u2,t2,rfl,e2,u3,t3,rfl,e3,e4⟩:=dx
 have e1:u1=V.int tm.ce[r].1:=e1
 have e2:u2=V.int tm.ce[r].2.1:=e2
 have e3:u3=V.int tm.ce[r].2.2:=e3
 have e4:t3=[]:=e4
 subst e1 e2 e3 e4
 have hq:bU K H q [.int tm.ce[r].1,.int tm.ce[r].2.1,.int tm.ce[r].2.2]:=fF.tup hq
 refine ⟨_,rfl,p,_,rfl,jR C.hp,_,rfl,ps,_,_,_,rfl,rfl,.inl (aV.of C.eL),cf ex,q,_,rfl,hq,rfl,_,_,rfl,_,_,rfl,_,_,rfl,rfl,?_⟩
 refine ⟨_,rfl,_,rfl,_,rfl,_,rfl,_,_,rfl,rfl,λ y1 g1=>⟨_,_,rfl,rfl,λ y2 g2=>⟨c,72,y2,rfl,by decide,by decide,by lia,λ r1 b0 b1=>⟨_,_,rfl,rfl,λ least el=>?_⟩⟩⟩⟩
 refine ⟨_,rfl,_,rfl,_,rfl,_,rfl,_,_,rfl,rfl,λ y3 g3=>⟨_,_,rfl,rfl,λ y4 g4=>⟨c,73,y4,rfl,by decide,by decide,by lia,λ r2 c0 c1=>⟨_,_,rfl,rfl,λ most em=>?_⟩⟩⟩⟩
 refine ⟨_,rfl,p,_,rfl,Rd.of C.hp,λ p' Pq=>?_⟩
 have s1:=ai (o:=.dK (dQ pm ps pt pf dg pb)) Pq
 have k1:(upd H p' (.dK (dQ pm ps pt pf dg pb))) p'=some (.dK (dQ pm ps pt pf dg pb)):=ag
 generalize upd H p' (.dK (dQ pm ps pt pf dg pb))=H1 at s1 k1 ⊢
 have C1:=C.same s1
 refine ⟨_,rfl,p,_,rfl,jR C1.hp,ps,vs,rfl,.inl (aV.of C1.eL),λ gy qh=>?_⟩
 have s2:=ai (o:=.lst vs) qh
 have k2:(upd H1 gy (.lst vs)) gy=some (.lst vs):=ag
 have Fm:=s2 _ _ k1
 generalize upd H1 gy (.lst vs)=H2 at s2 Fm k2 ⊢
 have npp:gy≠p':=(aq k1 qh).symm
 refine ⟨_,rfl,p',_,rfl,p7.k (k:=.inr "sky") Fm (by show 6<sizeLine;decide),?_⟩
 have S2:=s1.trans s2
 have S3:=S2.put (o:=.dK (putK (dQ pm ps pt pf dg pb) (.inr "sky") (.ref gy))) Pq
 have k3:(upd H2 p' (.dK (putK (dQ pm ps pt pf dg pb) (.inr "sky") (.ref gy)))) p'=some (.dK (dQ pm gy pt pf dg pb)):=ag
 have k4:(upd H2 p' (.dK (putK (dQ pm ps pt pf dg pb) (.inr "sky") (.ref gy)))) gy=some (.lst vs):=by rw [av npp];exact k2
 generalize upd H2 p' (.dK (putK (dQ pm ps pt pf dg pb) (.inr "sky") (.ref gy)))=H3 at S3 k3 k4 ⊢
 refine ⟨_,rfl,_,rfl,_,rfl,Ih,λ t ht=>?_⟩
 have s4:=ai (o:=.tup [.int tm.ce[r].1,.int least,.int most]) ht
 have k5:(upd H3 t (.tup [.int tm.ce[r].1,.int least,.int most])) t=some (.tup [.int tm.ce[r].1,.int least,.int most]):=ag
 have Nb:=s4 _ _ k3
 have k4':=s4 _ _ k4
 generalize upd H3 t (.tup [.int tm.ce[r].1,.int least,.int most])=H4 at s4 k5 Nb k4' ⊢
 refine ⟨_,rfl,p',_,rfl,jR Nb,_,rfl,gy,_,_,r,rfl,rfl,k4',sK (by lia),?_⟩
 have zI:H gy=none:=s1.free qh
 have S4:=S3.trans s4
 have S5:=S4.put (o:=.lst (vs.set r (.ref t))) zI
 have nt:t≠gy:=(aq k4 ht).symm
 have ntp:t≠p':=(aq k3 ht).symm
 have k6:(upd H4 gy (.lst (vs.set r (.ref t)))) t=some (.tup [.int tm.ce[r].1,.int least,.int most]):=by rw [av nt];exact k5
 have C3:=C.same S3
 refine ⟨_,rfl,k p' (tm.lE r (tm.ce[r].1,least,most)) _ S5 ⟨pm,gy,pt,pf,dg,pb,vm,_,vt,aw,C.G6 S5 Pq zI (by rw [av npp.symm];exact Nb) ag ?_⟩ (vG ok ⟨zE.1,⟨by show -30<=least;lia,by show most<=60;lia⟩,by show least<=most;lia,by show most<=least+30;lia⟩) (rX ok Ii rfl (by show _<=least;lia) (by show most<=_;lia))⟩
 . refine ek (bU.of (jV k6 ?_)) (aO rfl (aO rfl (aO rfl eM)))
   simp only [abt,T1,adj,aeb]
   exact ⟨ntp,(aq C3.eK ht).symm,nt,(aq C3.eQ ht).symm,(aq C3.gG ht).symm⟩
theorem sZ (T:Txt K mg Ad):Def P w K mg base "_law_right" 11 ["_law_hold","_law_other","_law_state","_law_cell","_law_k"] (xr K Ad.aW):=by
 refine T.tS.cE c9 λ f bx A outer s H vs Q E hr h=>?_
 obtain ⟨a,a',fp,m7,tm,cD,n,q,st,c,kk,rfl,hh,Mq,ok,fX,M,n4,hs,so,hk,k⟩:=h
 refine ⟨_,(af (aB (i:=5) c9.nd rfl (lc rfl) (ak (k9 (K:=K) T) hr.m (aa (pv 0) (aa (pv 2) ac))))
     (af (bA (aU (G8 hr.units) (ak (k9 (K:=K) T) hr.m (aa (pv 1) (aa (pv 2) ac))) (pv 5) (aZ _)) (am (aF iC)) aJ)
     (af (bA (aU (wR hr.units) (pv 5) (cG ac) (aZ _)) (am (aF iC)) aJ)
     (af (aB (i:=6) c9.nd rfl (lc rfl) (aG aD (pv 5) (ak (aH (K:=K) T) hr.m (aa (pv 3) (aa (pv 4) (aa (bh bJ (by rfl) T.fW d9 (aa (pv 5) ac)) ac)))) (λ _ _=>rfl)))
     (af (aB (i:=7) c9.nd rfl (lc rfl) (ak (mV (K:=K) T) hr.m (aa (pv 0) (aa (pv 2) (aa (pv 6) ac)))))
     (af (aB (i:=8) c9.nd rfl (lc rfl) (ak (mV (K:=K) T) hr.m (aa (pv 1) (aa (pv 2) (aa (pv 6) ac)))))
     (af (bA (aU w6 (pv 7) gA (aZ _)) (am (aF iC)) aJ)
     (af (bA (PW.pt (pC (aU w6 (pv 8) gA (aZ _)) (ma (aU (wR hr.units) (pv 8) (cG ac) (aZ _))))) (am (aF iC)) aJ)
     (af (aB (i:=9) c9.nd rfl (lc rfl) (xB (P:=P) (w:=w) rfl rfl))
     (af (dB ada rfl (cB (pv 7)) (aE (i:=10) c9.nd rfl (lc rfl)) (am (xC (P:=P) (w:=w) (K:=K) rfl rfl rfl hr.IB (pv 9) (pv 10) iC rfl)))
     (am (aF (gi (wR hr.units) (hX ["_law_one"] ["_law_kept"] [9] (.cons ⟨rfl,rfl,.inl rfl⟩ .nil) rfl (cB (pv 8)) (λ _ _ _ _ _=>(aE (i:=0) (show (["_law_one","_law_kept"]:List Str).Nodup by decide +kernel) rfl (lc rfl))) (λ _ _ _ _ _=>(iL (aU (qN (P:=P) (w:=w) (K:=K) rfl rfl rfl hr.IB) (pv 0) (pv 1) (by with_unfolding_all rfl)))) (λ _ _ _ _ _=>(pv 0)) rfl (by decide +kernel) (by decide +kernel) (by decide +kernel)) (cG ac) (aZ _)))))))))))))),?_⟩
 try dsimp only [fb,aR]
 first|(refine zl ?_;intro _ _ _ _ _ _ _ _ _ _ _ _)|skip
 have BZ:=M.st ok fX so
 refine ⟨_,rfl,_,rfl,a,fp,_,q,st,rfl,hh,hs,so,λ po H1 np s1 k1=>?_⟩
 refine ⟨_,rfl,_,rfl,a',m7,_,q,st,rfl,Mq.same s1,hs.same s1,BZ,λ po' H2 np' s2 k2=>⟨_,rfl,?_⟩⟩
 rw [M.orders ok fX] at k2
 have S2:=s1.trans s2
 have Fm:=s2 _ _ k1
 refine A0 (sP (aV.of k2)) (sP (aV.of Fm)) (xK (n:=1)) (by decide) ⟨_,rfl,gz ?_⟩
 refine ⟨_,rfl,DH,λ pe hpe=>?_⟩
 have s3:=ai (o:=.lst []) hpe
 have k3:(upd H2 pe (.lst [])) pe=some (.lst []):=ag
 generalize upd H2 pe (.lst [])=H3 at s3 k3 ⊢
 have S3:=S2.trans s3
 have Gr:=s3 _ _ Fm
 refine uK (aV.of Gr) (aV.of k3) ⟨_,rfl,jm (λ h=>k H3 S3) (λ h=>?_)⟩
 have Gj:0<(st.orders (tm.m2 n n)).length:=List.length_pos_iff.mpr h
 have hl:(tm.m2 n n).rows.length=n:=by rw [(cN tm n n).1,xq,acB,ok.lm];lia
 refine ⟨_,rfl,_,rfl,_,rfl,_,rfl,po,_,rfl,.inl (aV.of Gr),λ x2 e2=>?_⟩
 rw [xq] at e2
 refine ⟨c,kk,x2,rfl,by lia,by lia,by lia,λ r a0 a1=>?_⟩
 have hr:r.toNat<(st.orders (tm.m2 n n)).length:=by lia
 have ho:(st.orders (tm.m2 n n))[r.toNat]∈st.orders (tm.m2 n n):=aaY hr
 have ato:=cf (xs:=(st.orders (tm.m2 n n)).map ar) (j:=r.toNat) (v:=ar (st.orders (tm.m2 n n))[r.toNat]) (by rw [Jl,au hr];rfl)
 rw [ad3 a0] at ato
 refine ⟨po,_,_,_,rfl,rfl,.inl (aV.of Gr),ato,?_⟩
 generalize (st.orders (tm.m2 n n))[r.toNat]=o at ho
 obtain ⟨_,_,_,l4,wf⟩:=id hh
 obtain ⟨_,_,_,_,Ib⟩:=id Mq
 have ow:o &&& (tm.m2 n n).ws=o:=((mr (uS l4)).2 o (List.mem_filter.mp ho).1).2
 have om:=(mr (sv (s:=st) (o:=o) l4)).2
 have tn:∀ out∈c3 (tm.m2 n n) st o,ck (tm.m2 n n) st o out:=λ out h=>AT ok n4 so (om out h).1 ho (om out h).2
 have tn':∀ out∈c3 (cD.m2 n n) st o,ck (cD.m2 n n) st o out:=λ out h=>by
   have hm:st.may (cD.m2 n n) o=st.may (tm.m2 n n) o:=by rw [M.hold ok fX];rfl
   rw [M.outs ok fX] at h
   exact AT fX n4 BZ (om out h).1 (by rw [M.orders ok fX];exact ho) (by rw [hm];exact (om out h).2)
 have sp:E8 (tm.m2 n n) st:=λ i b hi hz=>vo wf ok n4 (by lia) (tY ok n4 so) hz
 have sp':E8 (cD.m2 n n) st:=λ i b hi hz=>vo Ib fX n4 (by rw [M.rl ok fX] at hi;lia) (tY fX n4 BZ) hz
 refine ⟨_,rfl,_,rfl,_,rfl,a,fp,_,q,st,o,rfl,hh.same S3,hs.same S3,so,ow,tn,sp,λ hu H4 s4=>?_,λ qC pw xs H4 s4 kw CN=>?_⟩
 . have S4:=S3.trans s4
   exact ⟨_,rfl,_,rfl,_,rfl,a',m7,_,q,st,o,rfl,Mq.same S4,hs.same S4,BZ,by rw [M.ws ok fX];exact ow,tn',sp',λ _ H5 s5=>⟨_,rfl,rfl,_,rfl,jy (k H5 (S4.trans s5))⟩,λ _ _ _ H5 s5 _ _=>⟨_,rfl,rfl,_,rfl,jy (k H5 (S4.trans s5))⟩⟩
 have S4:=S3.trans s4
 obtain ⟨L4,ne',sub⟩:=M.res wf Ib ok fX n4 so tn qC
 refine ⟨_,rfl,_,rfl,_,rfl,a',m7,_,q,st,o,rfl,Mq.same S4,hs.same S4,BZ,by rw [M.ws ok fX];exact ow,tn',sp',λ ⟨out,h1,h2⟩=>(by rw [L4 out h1] at h2;cases h2),λ _ MT ys H5 s5 ksm hys=>?_⟩
 have S5:=S4.trans s5
 refine ⟨_,rfl,rfl,_,rfl,jm (λ h=>nomatch h) λ _=>?_⟩
 refine ⟨_,rfl,rfl,_,rfl,jm (λ h=>nomatch h) λ _=>?_⟩
 refine ⟨_,rfl,DH,λ pe2 YX=>?_⟩
 have s6:=ai (o:=.lst []) YX
 refine E7 (aV.of (s6 _ _ ksm)) (hys.imp λ p s h=>h.same s6) (aV.of ag) ⟨_,rfl,?_⟩
 rw [ab2 ne']
 refine gz λ d hd=>?_
 generalize upd H5 pe2 (.lst [])=H6 at s6 hd ⊢
 have s7:=ai (o:=pW P w d []) hd
 have k7:(upd H6 d (pW P w d [])) d=some (pW P w d []):=ag
 generalize upd H6 d (pW P w d [])=H7 at s7 k7 ⊢
 have On:=s6.trans s7
 have s47:=s5.trans On
 have S7:=S4.trans s47
 have dn:H d=none:=(S5.trans s6).free hd
 have MC:=s47 _ _ kw
 have ZI:=On _ _ ksm
 have npw:pw∉[d]:=λ z=>by rw [List.mem_singleton.mp z,k7] at MC;cases MC
 have nsm:MT∉[d]:=λ z=>by rw [List.mem_singleton.mp z,k7] at ZI;cases ZI
 have QM:=CN.imp λ p s h=>h.same s47
 have Y9:=hys.imp λ p s h=>h.same On
 have OQ:=Dt wf l4 st o
 have aeG:xs.length<=16 * 1296:=by rw [CN.length];exact OQ
 refine ⟨_,rfl,pw,rfl,⟨_,aV.of MC⟩,?_⟩
 refine jX (K:=K) (a:=pw) (xs:=xs) (λ i U H'=>A4 (lT [d] H7 H') (bg K H7 H') (∃ aw,A3 (gK P w K H' d aw) (aw.length<=i) (∀ s∈(oH (tm.m2 n n) st o).take i,(je aw (wk s)).isSome=true)) (∃ (v10:Option V),U=[some (.ref a),some (.ref a'),some (.ref q),some (.int c),some (ar kk),some (.ref po),some (ar o),some (.ref pw),some (.ref MT),some (.ref d),v10]))
   ⟨λ _ _ h _=>h,bg.refl _,⟨[],gK.nil k7,aaT _,λ _ h=>absurd h (by simp)⟩,none,rfl⟩ (λ i U H' _ ⟨b,_,_,_⟩=>aV.of (b _ _ MC npw)) ?_ ?_
 .
  rintro _ i v U H8 hv ⟨b8,t8,⟨aw,JA,hl8,Ml⟩,v10,rfl⟩
  obtain ⟨p1,s1,rfl,es,hs1⟩:=QM.get hv
  have hi:i<xs.length:=(List.getElem?_eq_some_iff.mp hv).1
  have key:=qJ (hs1.ts t8)
  refine ⟨_,rfl,_,rfl,d,p1,aw,wk s1,rfl,rfl,JA,key,ac1 (show aw.length<=20736 by lia) (by decide),λ b u h n=>?_,t8.trans (bZ JA.ob rfl),⟨_,JA.put key,adf (oK ..) (Nat.succ_le_succ hl8),λ s hs=>?_⟩,_,rfl⟩
  . rw [av (λ z=>n (List.mem_singleton.mpr z))];exact b8 b u h n
  .
   rw [kO]
   by_cases e:wk s=wk s1
   . rw [abS e];rfl
   . rw [abZ e]
     rw [cn es] at hs
     rcases List.mem_append.mp hs with z|z
     . exact Ml s z
     . exact absurd (by rw [List.mem_singleton.mp z]) e
 .
  rintro U H8 ⟨b8,t8,⟨aw,JA,hl8,Ml⟩,v10,rfl⟩
  rw [CN.length,adg] at Ml
  have ks8:=b8 _ _ ZI nsm
  refine ⟨_,rfl,MT,rfl,⟨_,aV.of ks8⟩,λ D hD=>?_⟩
  refine fj (K:=K) (a:=MT) (xs:=ys) (λ j acc σ' H9=>A4 (aA H8 H9) (H9 D=some (.lst acc)) (acc=[]) (∃ v,σ'=[v,some (.ref d)]))
    ⟨ai hD,ag,rfl,none,rfl⟩ (λ j acc σ' H9 _ ⟨s9,_,_,_⟩=>aV.of (s9 _ _ ks8)) ?_ ?_
  .
   rintro j y acc σ' H9 hy ⟨s9,YL,rfl,v,rfl⟩
   obtain ⟨p2,s2,rfl,es,DP⟩:=Y9.get hy
   have hm:=Ml s2 (sub s2 (acU es))
   refine ⟨_,rfl,_,rfl,d,p2,aw,wk s2,rfl,rfl,JA.same s9,qJ ((DP.ts t8).same s9),_,rfl,?_⟩
   rw [hm]
   exact gz ⟨s9,YL,rfl,_,rfl⟩
  .
   rintro acc σ' H9 ⟨s9,YL,rfl,v,rfl⟩
   refine ⟨DH,λ pe3 Qg=>?_⟩
   have Ho:=ai (o:=.lst []) Qg
   refine uK (l:=[]) (aV.of (Ho _ _ YL)) (aV.of ag) (k _ λ b u h=>?_)
   exact Ho b u (s9 b u (b8 b u (S7 b u h) (by simp only [aeU];exact aq h dn)))
set_option maxHeartbeats 0 in
theorem F3 {f:Addr} {fd:FuncData} (F:EL K "law" "law" uG f fd) (T:Txt K mg Ad):kr P w K mg base wx 12 f fd ["_law_script"] (zR K):=by
 refine F.ok kB (λ vs H Q E h=>?_) (λ bx A outer s H vs Q E hr h=>?_)
 . obtain ⟨a,ns,rfl,_⟩:=h
   rfl
 .
  obtain ⟨a,ns,rfl,hS,hlen,xZ,k⟩:=h
  refine ⟨_,(af (aB (i:=1) kB.nd rfl (lc rfl) (ak (uv (K:=K) T) hr.m (aa (ak (sG (K:=K) T) hr.m (aa (pv 0) ac)) (aa (ak (bW (K:=K) T) hr.m (aa (pv 0) (aa ah ac))) ac))))
    (af (aB (i:=2) kB.nd rfl (lc rfl) (ak (lR (K:=K) T) hr.m (aa (pv 1) ac)))
    (af (aB (i:=3) kB.nd rfl (lc rfl) (ak (lR (K:=K) T) hr.m (aa (ak (qd (K:=K) T) hr.m (aa (pv 1) (aa (ak (bW (K:=K) T) hr.m (aa (pv 0) (aa ah ac))) ac))) ac)))
    (af (dB ada rfl (bP rfl T.cT (aa (ay aI ah (ay gw (bh bJ (by rfl) T.fW d9 (aa (jr rC (pv 0) (jj ah) (jj ah)) ac)) ah)) ac)) (aE (i:=4) kB.nd rfl (lc rfl)) (af (aB (i:=5) kB.nd rfl (lc rfl) (jr rC (pv 0) (jj (ay aI ah (ay br ah (pv 4)))) (jj (ay aI ah (ay br ah (pv 4))))))
    (af (aB (i:=6) kB.nd rfl (lc rfl) (ak (nv (K:=K) T) hr.m (aa (pv 1) (aa (ak (bW (K:=K) T) hr.m (aa (pv 5) (aa ah ac))) (aa (pv 4) ac)))))
    (am (bA (dA (cy (ak (sZ (K:=K) T) hr.m (aa (pv 2) (aa (pv 3) (aa (pv 6) (aa (ak (bW (K:=K) T) hr.m (aa (pv 5) (aa ah ac))) (aa (pv 4) ac)))))))) (am (aF iC)) aJ)))))
    (am (aF iC)))))),?_⟩
  try dsimp only [fb,aR]
  first|(refine oA ?_;intro _ _ _ _ _ _)|skip
  refine ⟨_,rfl,a,ns,rfl,hS,λ p H0 tm0 n n1 n4 ok0 S0 hT0=>?_⟩
  refine ⟨_,rfl,a,ns,4,rfl,S0.seq hS,by decide,λ c4 _=>⟨p,tm0,H,n,c4,rfl,ok0,S0,hT0,λ H1 tm ok S1 hT=>?_⟩⟩
  refine ⟨_,rfl,p,tm,n,rfl,hT,ok,n1,n4,λ ha H2 fph S2 hh hF hn tw=>?_⟩
  have hT2:=hT.same S2
  have hS2:=(S1.trans S2).seq hS
  refine ⟨_,rfl,_,rfl,a,ns,2,rfl,hS2,by decide,λ c2 _=>⟨p,tm,n,c2,rfl,hT2,ok,n1,n4,λ p' cD H3 S3 hT3 fX M=>⟨p',cD,n,rfl,hT3,fX,n1,n4,λ ho H4 fpo S4 hho hFo _ _=>?_⟩⟩⟩
  have SK:=S3.trans S4
  have hS4:=SK.seq hS2
  refine ⟨_,rfl,4,rfl,13,rfl,a,_,rfl,hS4,λ pc hpc=>⟨_,_,rfl,.inl (aV.of ag),λ c ec=>⟨_,_,rfl,rfl,⟨by decide,o6⟩,λ d ed=>⟨_,_,rfl,rfl,λ e ee=>?_⟩⟩⟩⟩
  have hc:c<=63:=by
    have:=mU (ns.map V.int) (some 4) (some 13)
    rw [xq] at this
    lia
  have hc0:0<=c:=by lia
  rw [afg c (by decide)] at ed
  have t0:=ai (o:=.lst (mE (ns.map V.int) (some 4) (some 13))) hpc
  refine ⟨e,rfl,by lia,by lia,pP (lo:=0) (n:=e.toNat) (λ i U H'=>aA H4 H'/\E3 λ (v4 v5 v6:Option V)=>U=[some (.ref a),some (.ref p),some (.ref ha),some (.ref ho),v4,v5,v6]) ⟨t0,none,none,none,rfl⟩ ?_ ?_⟩
  .
   rintro _ i U H5 hi ⟨S5,v4,v5,v6,rfl⟩
   have bk:Bd 100 (0+(i:Int)):=TB 100 (by lia) (by lia)
   refine ⟨_,rfl,_,rfl,_,_,rfl,rfl,⟨3,100,o6,bk,by decide⟩,λ m1 em1=>⟨_,_,rfl,rfl,λ m2 em2=>⟨_,rfl,_,rfl,_,_,rfl,rfl,⟨3,100,o6,bk,by decide⟩,λ m3 em3=>⟨_,_,rfl,rfl,λ m4 em4=>⟨_,rfl,a,_,rfl,S5.seq hS4,λ p2 Ai=>?_⟩⟩⟩⟩⟩
   have t4:=ai (o:=.lst (mE (ns.map V.int) (some m2) (some m4))) Ai
   have k4:(upd H5 p2 (.lst (mE (ns.map V.int) (some m2) (some m4)))) p2=some (.lst ((Dk ns (some m2) (some m4)).map V.int)):=by rw [← zv];exact ag
   generalize upd H5 p2 (.lst (mE (ns.map V.int) (some m2) (some m4)))=H6 at t4 k4 ⊢
   generalize Dk ns (some m2) (some m4)=two at k4
   have S6:=S5.trans t4
   refine ⟨_,rfl,_,rfl,p2,two,0,rfl,aV.of k4,by decide,λ c5 _=>⟨_,rfl,p,tm,n,c5,i,by rw [ac3];rfl,hT2.same (SK.trans S6),ok,n4,by lia,λ q st H7 S7 nW so=>?_⟩⟩
   have S47:=S6.trans S7
   refine ⟨_,rfl,_,rfl,_,rfl,_,rfl,p2,two,1,rfl,aV.of (S7 _ _ k4),by decide,λ c6 _=>⟨_,rfl,ha,ho,fph,fpo,tm,cD,n,q,st,c6,i,by rw [ac3];rfl,hh.same (SK.trans S47),hho.same S47,ok,fX,M,n4,nW,so,by lia,λ H8 S8=>?_⟩⟩
   exact ⟨_,rfl,gz ⟨S47.trans S8,_,_,_,rfl⟩⟩
  . rintro U H5 ⟨S5,v4,v5,v6,rfl⟩
    exact k H5
end
theorem walk {l:W.OpenLaw} {q:Program} {loose:List Str} {XP:(Str->Option Value)->Heap->Prop} {YP:World->Heap->Prop} {d:DefRec} {K:Params->W.Frag} (hn:l.most=some 63) (ID:d.params.defaults=[]) (Le:d.name = "law")
   (hY:∀ (w:World) (h:Heap),YP w h->(K w.params).In h)
   (F:∀ (w:World) (mg:Str->Option Value) (h:Heap),(K w.params).In h->h.Ns mainGlobals mg->∃ A,Txt (K w.params) mg A) :
   W.WalkO q loose XP YP l.row.toRowW d [] (λ f vs=>PySem.call f vs) :=
 L2.Bj (k:=12) (x:="_law_script") hn ID ⟨rfl,by decide,by decide⟩ hY
   (λ w mg fa h KX G Iy=>by
     obtain ⟨_,T⟩:=F w mg h KX G
     obtain ⟨f,fd,hm,Fd⟩:=id T.Lu
     rw [Le] at Iy
     have e:=Iy.symm.trans hm
     cases e
     exact ⟨fd,Fd.GU (λ _ _ _ _ _ _ _=>rfl),λ base _ _=>F3 Fd T⟩)
end K24
namespace PySem.W.Fast
def tw14005231703716660143:=0
def tw5969980241217734025:=0
def tw5719051985974279311:=0
def tw4380219781851302249:=0
def tw15403922262399397206:=0
def tw11737421896825097038:=0
def tw15393096739080867748:=0
def tw10458261553550768505:=0
def tw716971183135341706:=0
def tw16198906235565388741:=0
def tw13246241737532567536:=0
def tw1041216843612660550:=0
def tw5154534962825648860:=0
def tw1343472861129124706:=0
def tw498513327562388542:=0
def tw6909787643856377841:=0
def tw5472838831440994785:=0
def tw14426019516272627138:=0
def tw17175974798453823790:=0
def tw11070082254572690686:=0
def tw14526901885745169080:=0
def tw15551178061485442148:=0
def tw2507912951533826269:=0
def tw8880777819943692370:=0
def tw7257688318425597942:=0
def tw1736014843831634472:=0
def tw10694296840692929931:=0
def tw12007647894986041560:=0
def tw7725945356806754109:=0
def tw10792405192233828983:=0
def tw18256784409712582389:=0
def tw5107356735405379955:=0
def tw5739909313733192032:=0
def tw6091773480528095838:=0
def tw4203639612863699914:=0
def tw6271290898386175657:=0
def tw16159423647960573763:=0
def tw18217437127543130257:=0
def tw3022240809452683579:=0
def tw14749821456582631171:=0
def tw7050715911552397035:=0
def tw8004426176672127119:=0
def tw16934765033484590837:=0
def tw6581242768834342839:=0
def tw5253829822158802301:=0
def tw14487551106282848718:=0
def tw11916446413517192008:=0
def tw17707556581223457918:=0
def tw3806307408763174677:=0
def tw1991903791049948754:=0
def tw11687548712486220960:=0
def tw14912323109829859891:=0
def tw15812557137094308731:=0
def tw12019620208320902467:=0
def tw104699508485597171:=0
def tw535831061069026249:=0
def tw11449785686479241722:=0
def tw8633786560341612002:=0
def tw2513030896901492808:=0
def tw8092034120736474854:=0
def tw12711502269251320980:=0
def tw12385986153342009781:=0
def tw16777798548844286911:=0
def tw12211721184626222866:=0
def tw2889744191658099085:=0
def tw13626550086339010054:=0
def tw18048869927121935663:=0
def tw12180798589869410589:=0
def tw16903674814333524851:=0
def tw4462610523886587028:=0
def tw17565270162832135819:=0
def tw16740752689797496456:=0
def tw4034463616574580412:=0
def tw15340339676800983702:=0
def tw1372079066567744975:=0
def tw16090554467053614399:=0
def tw1081705210393225579:=0
def tw7549205140349664287:=0
def tw6826643179389568516:=0
def tw13619771362556736697:=0
def tw17173516113335700701:=0
def tw12698957888053562314:=0
def tw11353863725082110762:=0
def tw1803164471907477520:=0
def tw1647015970293641253:=0
def tw12535511901452163567:=0
def tw10541574577773144417:=0
def tw4849728948904429164:=0
def tw920487895219504684:=0
def tw16456910786818375555:=0
def tw2692528950373868186:=0
def tw906315319924717529:=0
def tw7244223883799265081:=0
end PySem.W.Fast
open PySem PySem.W PyProof.Rows
set_option maxRecDepth 100000 in
set_option maxHeartbeats 0 in
theorem PySem.Challenge.cw_stoke_k24_milder_weather_holds : PySem.Challenge.rw_stoke_k24_milder_weather.Holds := by
 w_on; o_law; k_head; (case hw => w_witness2)
 k_fill
 refine K24.walk (l:=PySem.Challenge.rw_stoke_k24_milder_weather) rfl rfl rfl (fun w h Y => PySem.W.kIn_of Y) ?F
 case F =>
   intro w mg h KX G
   refine' ⟨_,K24.txt_mk KX G ?_ ?_ ?_ ?_ ?_ ?_ ?_ ?_ ?_ ?_ ?_ ?_ ?_ ?_ ?_ ?_ ?_ ?_ ?_ ?_ ?_ ?_ ?_ ?_ ?_ ?_ ?_ ?_ ?_ ?_ ?_ ?_ ?_ ?_ ?_ ?_ ?_ ?_ ?_ ?_ ?_ ?_ ?_ ?_ ?_ ?_ ?_ ?_ ?_ ?_ ?_ ?_ ?_ ?_ ?_ ?_ ?_ ?_ ?_ ?_ ?_ ?_ ?_ ?_ ?_ ?_ ?_ ?_ ?_ ?_ ?_ ?_ ?_ ?_ ?_ ?_ ?_ ?_ ?_ ?_ ?_ ?_ ?_ ?_ ?_ ?_ ?_ ?_ ?_ ?_ ?_ ?_ ?_ ?_ ?_ ?_ ?_ ?_ ?_ ?_ ?_ ?_ ?_ ?_ ?_ ?_ ?_ ?_ ?_ ?_ ?_ ?_ ?_ ?_ ?_ ?_ ?_ ?_ ?_ ?_ ?_ ?_ ?_ ?_ ?_ ?_ ?_ ?_ ?_ ?_ ?_ ?_ ?_ ?_ ?_ ?_ ?_ ?_ ?_ ?_ ?_ ?_ ?_ ?_ ?_ ?_ ?_ ?_ ?_ ?_ ?_ ?_ ?_ ?_ ?_ ?_ ?_ ?_ ?_ ?_ ?_ ?_ ?_ ?_ ?_ ?_ ?_ ?_ ?_ ?_ ?_ ?_ ?_ ?_ ?_ ?_ ?_ ?_ ?_ ?_ ?_ ?_ ?_ ?_ ?_ ?_ ?_ ?_ ?_ ?_ ?_ ?_ ?_ ?_ ?_ ?_ ?_ ?_ ?_ ?_ ?_ ?_ ?_ ?_ ?_ ?_ ?_ ?_ ?_ ?_ ?_ ?_ ?_ ?_ ?_ ?_ ?_ ?_ ?_ ?_ ?_ ?_ ?_ ?_ ?_ ?_ ?_ ?_ ?_ ?_ ?_ ?_ ?_ ?_ ?_ ?_ ?_ ?_ ?_ ?_ ?_ ?_ ?_ ?_ ?_ ?_ ?_ ?_ ?_ ?_ ?_ ?_ ?_ ?_ ?_ ?_ ?_ ?_ ?_ ?_ ?_ ?_ ?_ ?_ ?_ ?_ ?_ ?_ ?_ ?_ ?_ ?_ ?_ ?_ ?_ ?_ ?_ ?_ ?_ ?_ ?_ ?_ ?_ ?_ ?_ ?_ ?_ ?_ ?_ ?_ ?_ ?_ ?_ ?_ ?_ ?_ ?_ ?_ ?_ ?_ ?_ ?_ ?_ ?_ ?_ ?_ ?_ ?_ ?_ ?_ ?_ ?_ ?_ ?_ ?_ ?_ ?_ ?_ ?_ ?_ ?_ ?_⟩
   all_goals try ((try delta K24.kq_); (try delta K24.kc_); (try delta K24.kf_); (try delta K24.kn_); (try delta K24.kg_); first | k_is | k_exc | kernel_rfl)
