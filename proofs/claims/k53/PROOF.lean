import PyProof.Rows.All
import Wide.All
import OpenK.AllK
import Wide.FinOn
import Lean
import PyProof.EqAt
import PyProof.EqKinds
import PyProof.TupleCall
import PySem.Challenge.RW_stoke_k53_never_hurts
set_option compiler.extract_closed false
set_option maxHeartbeats 0
set_option Elab.async false
set_option linter.all false
set_option maxRecDepth 100000
abbrev dX:=PySem.Str->Option PySem.Value
abbrev jC:=Option PySem.Value
abbrev bM:=List PySem.Value
abbrev bJ:=List PySem.Addr
abbrev de:=List PySem.Str
abbrev aS:=List Nat
abbrev aA:=PySem.Value
abbrev am:=PySem.Addr
abbrev aE:=PySem.W.Frag
abbrev bE:=PySem.Heap
abbrev bD:=PySem.Program
abbrev bz:=PySem.World
def Br:=@List.getElem?_eq_some_iff
def No:=@List.length_map
def PY:=@List.getD_eq_getElem?_getD
def RS:=@List.getElem?_eq_getElem
def Zj:=@List.getElem?_map
def aaa:=@PySem.wpAny_bind
def aab:=@List.mem_cons
def aac:=@List.mem_singleton
def aae:=@List.not_mem_nil
def aaf:=@List.length_append
def aah:=@List.mem_of_getElem?
def aai:=@List.map_append
def aaj:=@List.mem_cons_of_mem
def aak:=@Nat.le_refl
def aal:=@PySem.Heap.get?_push_of_some
def aam:=@List.length_range
def aan:=@List.getElem?_append_left
def aao:=@PySem.wpAny_pure
def aap:=@decide_eq_false
def aaq:=@Option.some.inj
def aar:=@List.mem_cons_self
def aas:=@Nat.lt_of_le_of_lt
def aat:=@List.size_toArray
def aau:=@if_pos
def aav:=@PySem.Heap.lt_size
def aaw:=@Nat.lt_of_lt_of_le
def aax:=@if_neg
def aay:=@List.getElem_mem
def aaz:=@List.mem_append
def aaA:=@Nat.le_trans
def aaB:=@List.take_length
def aaC:=@Bool.false_ne_true
def aaD:=@List.length_singleton
def aaE:=@List.mem_map
def aaF:=@PySem.F.plainAttrs_list
def aaG:=@decide_eq_true
def aaH:=@PySem.PassesOwn.never
def aaJ:=@List.mem_range
def aaK:=@List.length_take
def aaL:=@PySem.F.type_list_append
def aaM:=@PySem.F.slot_list_append
def aaN:=@Int.mul_pos
def aaO:=@Nat.ne_of_lt
def aaP:=@List.mem_append_right
def aaQ:=@List.map_cons
def aaR:=@PySem.Heap.get?_push_size
def aaS:=@List.nodup_cons
def aaT:=@or_false
def aaU:=@Int.mul_right_comm
def aaV:=@Int.toNat_natCast
def aaW:=@List.length_cons
def aaX:=@Int.zero_add
def aaY:=@Bool.and_eq_true
def aaZ:=@Nat.zero_le
def aa0:=@List.getElem?_append_right
def aa1:=@List.getElem?_concat_length
def aa2:=@List.eq_nil_of_length_eq_zero
def aa3:=@List.mem_filter
def aa4:=@List.mem_append_left
def aa5:=@Int.le_refl
def aa6:=@List.range_succ
def aa7:=@List.length_filter_le
def aa8:=@List.getElem?_eq_none
def aa9:=@List.find?_cons
def aba:=@Int.natCast_nonneg
def abb:=@List.take_of_length_le
def abc:=@PyProof.Rows.callWith_type1
def abd:=@Int.le_of_lt
def abe:=@List.getElem?_range
def abf:=@List.append_nil
def abg:=@Int.mul_lt_mul_of_pos_right
def abh:=@Int.lt_of_mul_lt_mul_right
def abi:=@List.mem_iff_getElem
def abj:=@Option.map_eq_some_iff
def abk:=@Nat.not_lt_zero
def abl:=@List.mem_flatMap
def abm:=@beq_eq_false_iff_ne
def abn:=@PySem.W.mg_none_of
def abp:=@List.length_set
def abq:=@List.filter_append
def abr:=@Nat.pow_le_pow_right
def abt:=@Bool.and_eq_true_iff
def abv:=@List.all_eq_true
def abw:=@Int.eq_of_mul_eq_mul_right
def abx:=@Int.mul_assoc
def aby:=@Nat.testBit_and
def abA:=@PySem.wpAny_truthy_bool
def abB:=@PySem.wpAny_mono
def abC:=@Bool.false_eq_true
def abD:=@List.lookup_cons
def abE:=@congrArg
def abG:=@Nat.lt_irrefl
def abH:=@List.take_add_one
def abI:=@List.foldl_append
def abJ:=@PySem.mem_of_lookup
def abK:=@PySem.wpAny_field
def abL:=@not_or
def abM:=@Nat.mul_le_mul_right
def abN:=@PySem.wpAny_holding
def abO:=@of_decide_eq_true
def abP:=@Option.isSome_iff_exists
def abQ:=@List.pairwise_singleton
def abR:=@List.map_congr_left
def abS:=@List.length_eq_zero_iff
def abT:=@List.countP_eq_zero
def abV:=@List.cons.inj
def abW:=@PySem.wpAny_newObj_type
def abX:=@Nat.le_add_right
def abY:=@Int.mul_nonneg
def abZ:=@of_decide_eq_false
def ab0:=@PySem.wpAny_callSpecial?_slot
def ab2:=@PySem.Paired.length
def ab3:=@Option.map_some
def ab4:=@Nat.le_of_lt
def ab5:=@List.length_replicate
def ab6:=@Int.ne_of_gt
def ab7:=@Bool.eq_iff_iff
def ab8:=@decide_eq_true_eq
def ab9:=@List.append_assoc
def aca:=@PySem.wpAny_Call_Name_kw
def acb:=@Int.fdiv_eq_ediv_of_nonneg
def acd:=@PySem.wpAny_passesOwn
def ace:=@decide_eq_decide
def acf:=@PySem.wpAny_pyIter_enum
def acg:=@Int.toNat_of_nonneg
def ach:=@beq_iff_eq
def aci:=@Nat.ne_of_gt
def acj:=@List.map_map
def ack:=@Int.mul_fdiv_cancel_left
def acl:=@Int.mul_comm
def acm:=@PySem.F.slot_tuple_iterator_next
def acn:=@PySem.W.mg_of
def aco:=@PySem.PyData.tuple.inj
def acp:=@Nat.le_succ
def acq:=@if_false
def acr:=@List.take_succ
def acs:=@List.nodup_nil
def act:=@PySem.W.kia_one
def acu:=@List.mem_iff_getElem?
def acv:=@Int.mul_le_mul_of_nonneg_right
def acw:=@if_true
def acx:=@Ne.symm
def acy:=@Int.mul_le_mul_of_nonneg_left
def acz:=@PySem.intBits_le_iff
def acA:=@Nat.eq_of_testBit_eq
def acB:=@PySem.wpAny_seqItems
def acC:=@Array.length_toList
def acD:=@PySem.wpAny_call_entry
def acE:=@PySem.Around.in1_units
def acF:=@Option.toList_some
def acG:=@Nat.add_comm
def acH:=@Int.le_trans
def acI:=@Array.forIn_toList
def acJ:=@Nat.lt_pow_two_of_testBit
def acK:=@List.getElem?_zip_eq_some
def acL:=@Int.natAbs_mul
def acM:=@PySem.F.args_tuple_add_2
def acN:=@PySem.Paired.snoc
def acO:=@Nat.lt_succ_of_lt
def acP:=@List.nodup_append
def acQ:=@Int.not_lt
def acR:=@Bool.not_eq_true'
def acS:=@PySem.F.entry_tuple_add
def acT:=@List.filter_cons_of_pos
def acU:=@List.filter_cons_of_neg
def acV:=@List.any_cons
def acW:=@Int.one_mul
def acX:=@Nat.succ_ne_zero
def acY:=@Nat.succ_ne_self
def acZ:=@Nat.succ_le_succ
def ac0:=@Nat.and_le_right
def ac1:=@List.length_drop
def ac2:=@PySem.Calls.spliced_cons
def ac3:=@PySem.F.slot_tuple_add
def ac4:=@PySem.PyData.int.inj
def ac5:=@PySem.Heap.size_push
def ac6:=@PySem.wpAny_dictEntries
def ac7:=@PySem.F.slot_dict_get
def ac8:=@Nat.pow_succ
def ac9:=@Nat.lt_trans
def ada:=@List.nil_append
def adb:=@List.length_nil
def adc:=@List.forIn_cons
def ade:=@PySem.AutoSeq1.wpAny_loadPart'
def adf:=@List.replicate_succ'
def adg:=@List.pairwise_append
def adh:=@Nat.testBit_two_pow
def adi:=@List.filterMap_cons
def adj:=@PySem.Calls.callWith_builtin
def adk:=@PySem.wpAny_specialOf
def adl:=@PySem.wpAny_execs_nil
def adm:=@Nat.add_sub_cancel
def adn:=@List.map_singleton
def ado:=@Int.ofNat.inj
def adp:=@Int.emod_lt_of_pos
def adq:=@PySem.Heap.get?_update_self
def adr:=@PySem.F.slot_zip_next
def ads:=@Option.isSome_map
def adt:=@List.pairwise_map
def adu:=@PySem.Heap.get?_none_of_le
def adv:=@List.Nodup.length_le_of_subset
def adx:=@Nat.lt_succ_self
def ady:=@List.length_tail
def adz:=@List.getElem_inj
def adA:=@List.filter_cons
def adB:=@List.cons_append
def adC:=@PySem.Heap.SameBut.update
def adD:=@Nat.two_pow_add_eq_or_of_lt
def adE:=@List.of_mem_zip
def adF:=@List.foldl_cons
def adG:=@List.cons.injEq
def adH:=@Int.emod_nonneg
def adI:=@Nat.testBit_or
def adJ:=@List.take_zero
def adK:=@List.mem_or_eq_of_mem_set
def adL:=@PySem.Calls.spliced_nil
def adM:=@Bool.not_false
def adN:=@Bool.false_and
def adO:=@PySem.wpAny_typeOf
def adP:=@PySem.codeAny_mono
def adQ:=@PySem.F.type_list_extend
def adR:=@PySem.F.slot_list_extend
def adS:=@List.getElem?_take_of_lt
def adT:=@List.Pairwise.imp_of_mem
def adU:=@PySem.wpAny_pyIter_zip
def adV:=@PySem.wpAny_isInstance
def adW:=@PySem.noFill_tuple_add
def adX:=@PySem.F.args_dict_get_3
def adY:=@Nat.add_sub_cancel_left
def adZ:=@List.getElem?_replicate
def ad0:=@Int.eq_ofNat_of_zero_le
def ad1:=@Bool.not_true
def ad2:=@PySem.F.entry_dict_get
def ad3:=@List.pairwise_lt_range
def ad4:=@List.getElem?_set_self
def ad5:=@List.flatMap_singleton
def ad6:=@List.filter_eq_nil_iff
def ad7:=@PySem.F.args_tuple_iterator_next_1
def ad8:=@Nat.succ_pos
def ad9:=@Nat.succ.inj
def aea:=@Nat.sub_self
def aeb:=@Nat.add_zero
def aec:=@List.getElem?_toArray
def aed:=@Int.natAbs_dvd_natAbs
def aee:=@PySem.F.entry_tuple_iterator_next
def aef:=@PySem.wpAny_letOwnedTupleGo_enum
def aeg:=@List.mem_of_mem_take
def aeh:=@List.getElem?_set_ne
def aei:=@List.getElem?_of_mem
def aej:=@PySem.Calls.Name_function_global
def aek:=@Nat.mul_one
def ael:=@List.length_zipWith
def aem:=@List.flatMap_append
def aen:=@Int.mul_neg
def aeo:=@true_and
def aeq:=@List.pairwise_cons
def aer:=@List.mem_filterMap
def aet:=@List.getElem?_tail
def aeu:=@List.getElem?_eq_some_iff
theorem za_ (h:True:=by rfl):True:=⟨⟩
theorem zb_ (h:True:=by decide):True:=⟨⟩
theorem zc_ (h:True:=by decide +kernel):True:=⟨⟩
theorem zd_ (h:True:=by first|exact .inl rfl|exact .inr rfl|assumption):True:=⟨⟩
theorem ze_ (h:True:=by with_unfolding_all rfl):True:=⟨⟩
namespace L2
open PySem PySem.Spec PyProof.Rows
variable {H:Hp} {Q:VK} {es:List Expr} {g:TG} {o u:HO} {pos':Pos} {qual:Str} {s':Shared} {t':Nat} {tb:TS} {te ti to:TE} {tg:Expr} {v:V} {U:St}
abbrev Key:=Sum Int Str
def vV:Key->aA->Bool
 | .inl k,v=>Value.isInt k v
 | .inr x,v=>Value.isStrOf x v
def T8 (w:bz):Key->Int
 | .inl k=>hashInt k
 | .inr x=>hashStr w x
def dG:∀ {k:Key} {v:aA},vV k v=true->(∃ i t,k=Sum.inl i/\v=Value.int i t)\/(∃ x t,k=Sum.inr x/\v=Value.str x t)
 | .inl i,v,h=>by
   obtain ⟨t,e⟩:=Value.isInt_shape (k:=i) (v:=v) h
   exact .inl ⟨i,t,rfl,e⟩
 | .inr x,v,h=>by
   obtain ⟨t,e⟩:=Value.isStrOf_shape (x:=x) (v:=v) h
   exact .inr ⟨x,t,rfl,e⟩
def D5 (i:Int) (t:Tok):vV (.inl i) (.int i t)=true:=by simp [vV,Value.isInt]
def Ev (x:Str) (t:Tok):vV (.inr x) (.str x t)=true:=by simp [vV,Value.isStrOf]
def LG (a b:Int):decide ((Sum.inl a:Key)=Sum.inl b)=(a == b):=by
 by_cases e:a=b
 . subst e;simp
 . have h:¬ (Sum.inl a:Key)=Sum.inl b:=λ q=>e (Sum.inl.inj q)
   rw [aap h]
   exact (abm.mpr e).symm
def LP (a b:Str):decide ((Sum.inr a:Key)=Sum.inr b)=decide (a=b):=by
 by_cases e:a=b
 . subst e;simp
 . have h:¬ (Sum.inr a:Key)=Sum.inr b:=λ q=>e (Sum.inr.inj q)
   rw [aap h,aap e]
def Ld (a:Int) (b:Str):decide ((Sum.inl a:Key)=Sum.inr b)=false:=aap (λ q=>nomatch q)
def MH (a:Str) (b:Int):decide ((Sum.inr a:Key)=Sum.inl b)=false:=aap (λ q=>nomatch q)
def cO (prog:bD) (w:bz):PySem.KeyKind prog w Key where
 is:=vV
 hash:=T8 w
 inj:=λ v a b d c=>by
   rcases dG d with ⟨i,t,rfl,rfl⟩|⟨x,t,rfl,rfl⟩
   . rcases dG c with ⟨j,u,rfl,e⟩|⟨y,u,rfl,e⟩
     . injection e with e1 _;rw [e1]
     . exact nomatch e
   . rcases dG c with ⟨j,u,rfl,e⟩|⟨y,u,rfl,e⟩
     . exact nomatch e
     . injection e with e1 _;rw [e1]
 byValue:=λ k v h=>by
   rcases dG h with ⟨i,t,rfl,rfl⟩|⟨x,t,rfl,rfl⟩<;>rfl
 pyHash:=λ H h=>by
   rcases dG H with ⟨i,t,rfl,rfl⟩|⟨x,t,rfl,rfl⟩
   . exact wpAny_pyHash_int h
   . exact wpAny_pyHash_str h
 eqBool:=λ f H h=>by
   rcases dG f with ⟨i,t,rfl,rfl⟩|⟨x,t,rfl,rfl⟩
   . rcases dG H with ⟨j,u,rfl,rfl⟩|⟨y,u,rfl,rfl⟩
     . rw [LG] at h;exact wpAny_eqBool_int h
     . rw [Ld] at h;exact SeqAt.EqAt.int_str i t y u _ _ _ _ h
   . rcases dG H with ⟨j,u,rfl,rfl⟩|⟨y,u,rfl,rfl⟩
     . rw [MH] at h;exact SeqAt.EqAt.str_int x t j u _ _ _ _ h
     . rw [LP] at h;exact wpAny_eqBool_str h
 «strs»:=λ k x t v h=>by
   rcases dG h with ⟨i,u,rfl,e⟩|⟨y,u,rfl,e⟩
   . exact nomatch e
   . injection e with e1 _
     subst e1
     cases v<;>rfl
def Az (prog:bD) (w:bz) (i:Int) (t:Tok):(cO prog w).is (.inl i) (.int i t)=true:=D5 i t
def yY (prog:bD) (w:bz) (x:Str) (t:Tok):(cO prog w).is (.inr x) (.str x t)=true:=Ev x t
inductive V where
 | cC|bl (b:Bool)|int (i:Int)|str (x:Str)|ET (b:Array UInt8)|KM (b:UInt64)|ref (a:am)|ty (n:String)
 deriving DecidableEq
abbrev aB:=List V
abbrev eL:=Option V
def RelV:V->aA->Prop
 | .cC,u=>u=Value.none
 | .bl b,u=>u=Value.bool b
 | .int i,u=>∃ t,u=Value.int i t
 | .str x,u=>∃ t,u=Value.str x t
 | .ET b,u=>∃ t,u=Value.bytes b t
 | .KM b,u=>∃ t,u=Value.float b t
 | .ref a,u=>u=Value.ref a
 | .ty n,u=>u=Value.type n
abbrev Vals:aB->bM->Prop:=Paired RelV
theorem Vals.length {xs:aB} {us:bM} (r:Vals xs us):xs.length=us.length:=ab2 r
theorem Vals.get:∀ {xs:aB} {us:bM} {i:Nat} {x:V},Vals xs us->xs[i]?=some x->∃ u,us[i]?=some u/\RelV x u
 | _,_,_,_,.nil,e=>by simp at e
 | _,_,0,_,.cons r _,e=>by simp at e;subst e;exact ⟨_,rfl,r⟩
 | _,_,i+1,x,.cons _ t,e=>by
   obtain ⟨u,h,H⟩:=Vals.get (i:=i) (x:=x) t (by simpa using e)
   exact ⟨u,by simpa using h,H⟩
theorem Vals.set {x:V} {u:aA} (r:RelV x u):∀ {xs:aB} {us:bM} (i:Nat),Vals xs us->Vals (xs.set i x) (us.set i u)
 | _,_,_,.nil => .nil
 | _,_,0,.cons _ t => .cons r t
 | _,_,i+1,.cons q t => .cons q (Vals.set r i t)
theorem Vals.append:∀ {xs ys:aB} {us w:bM},Vals xs us->Vals ys w->Vals (xs++ys) (us++w)
 | _,_,_,_,.nil,s=>s
 | _,_,_,_,.cons r t,s => .cons r (Vals.append t s)
theorem Vals.take:∀ {xs:aB} {us:bM} (n:Nat),Vals xs us->Vals (xs.take n) (us.take n)
 | _,_,0,_ => .nil
 | _,_,_+1,.nil => .nil
 | _,_,n+1,.cons r t => .cons r (Vals.take n t)
theorem Vals.drop:∀ {xs:aB} {us:bM} (n:Nat),Vals xs us->Vals (xs.drop n) (us.drop n)
 | _,_,0,r=>r
 | _,_,_+1,.nil => .nil
 | _,_,n+1,.cons _ t=>Vals.drop n t
def kX:eL->jC->Prop
 | some v,some u=>RelV v u
 | none,none=>True
 | _,_=>False
def KV {a:Type}:List (a×V)->List (a×aA)->Prop:=Paired λ (p:a×V) (q:a×aA)=>p.1=q.1/\RelV p.2 q.2
def kV:Key->V
 | .inl i => .int i
 | .inr x => .str x
inductive HO where
 | lst (xs:aB)
 | tup (xs:aB)
 | dK (aD:List (Key×V))|dT (aD:List (List Key×V))
 | set (S:Int->Bool) (n:Nat)
 | ins (C dx:am) (fs:List (Str×V))
 | own (x:am)
 | xd (fs:List (Str×V))
 | met (f x:am)
 | WV (lo hi:Int)
 | AL (o:Obj) (u:HO)
 | L6 (ps:Array aA)
 | ext (φ:bE->Prop)
abbrev Hp:=am->Option HO
def upd (H:Hp) (a:am) (o:HO):Hp:=λ b=>if b=a then some o else H b
def ag {a:am}:upd H a o a=some o:=by unfold upd;rw [aau rfl]
def aw {a b:am} (h:b≠a):upd H a o b=H b:=by unfold upd;rw [aax h]
def mX {a:am}:upd (upd H a o) a u=upd H a u:=by
 funext b;unfold upd;split<;>rfl
def N7 {a b:am} (h:H a=some o) (h':H b=some u) (d:o≠u):a≠b:=by
 intro e;subst e;rw [h] at h';exact d (aaq h')
def az {a b:am} (h:H a=some o) (h':H b=none):a≠b:=by
 intro e;subst e;rw [h] at h';cases h'
section
variable (P:bD) (w:bz)
def dC (H:Hp) (h:bE) (a:am):HO->Prop
 | .lst xs=>xs.length<=sizeLine/\∃ (b:bM) (n:Nat),Vals xs b/\h.get? a=some { cls:=.type "list",data:=.seq b.toArray n }
 | .tup xs=>xs.length<=sizeLine/\∃ b:bM,Vals xs b/\IsTup h a b.toArray
 | .dK A=>A.length<=sizeLine/\(a == sysModules)=false/\∃ vs,KV A vs/\h.DictOf (cO P w) a vs
 | .dT A=>A.length<=sizeLine/\(a == sysModules)=false/\∃ xs:List (List Key×am×aA),
     Paired (λ (p:List Key×V) (q:List Key×am×aA)=>p.1=q.1/\H q.2.1=some (.tup (p.1.map kV))/\RelV p.2 q.2.2) A xs /\
     ∃ o es E,h.get? a=some o/\o.ExactDict/\o.data = .dict es E/\es.toList=xs.map (entryOfKey (tupleKind (cO P w)))/\(xs.map (·.1)).Nodup
 | .set S n=>h.SetOf (intKind P w) a S n
 | .ins C dx fs=>H dx=some (.own a)/\fs.length<=1000/\dx≠a/\h.get? a=some (W.instObj C dx) /\
     ∃ m,h.Ns1 dx m/\(∀ f,kX (fs.lookup f) (m f))/\PySem.Within m (fs.map (·.1))
 | .own _=>∃ o,h.get? a=some o
 | .xd fs=>∃ m,h.Ns1 a m/\∀ f,kX (fs.lookup f) (m f)
 | .WV lo hi=>∃ t u v,h.get? a=some { cls:=.type "range",data:=.fields #[.int lo t,.int hi u,.int 1 v]}
 | .AL o u=>h.get? a=some o/\dC H h a u
 | .L6 g=>h.get? a=some { cls:=.none,data:=.fields g }
 | .met f x=>h.get? a=some (W.methodObj (.ref f) (.ref x))
 | .ext c=>c h/\(∃ o,h.get? a=some o)/\∀ d e:bE,c d->(∀ o,d.get? a=some o->e.get? a=some o)->c e
def oM (H:Hp) (h:bE):Prop:=∀ a o,H a=some o->dC P w H h a o
end
section
variable {P:bD} {w:bz} {H H':Hp} {h h':bE} {a:am} {o:HO}
theorem dC.lt (x:dC P w H h a o):a<h.objs.size:=by
 cases o with
 | lst X=>obtain ⟨Z,Z,Z,Z,e⟩:=x;exact aav e
 | tup X=>obtain ⟨Z,Z,Z,p⟩:=x;exact p.lt
 | dK A=>obtain ⟨Z,Z,Z,Z,o,Z,Z,e,Z⟩:=x;exact aav e
 | dT A=>obtain ⟨Z,Z,Z,Z,o,Z,Z,e,Z⟩:=x;exact aav e
 | set S n=>obtain ⟨o,Z,Z,Z,e,Z⟩:=x;exact aav e
 | ins C d F=>obtain ⟨Z,Z,Z,e,Z⟩:=x;exact aav e
 | own y=>obtain ⟨Z,e⟩:=x;exact aav e
 | xd F=>obtain ⟨Z,⟨Z,Z,Z,e,Z⟩,Z⟩:=x;exact aav e
 | WV lo hi=>obtain ⟨Z,Z,Z,e⟩:=x;exact aav e
 | AL O u=>obtain ⟨e,Z⟩:=x;exact aav e
 | L6 b=>exact aav (show h.get? a=some _ from x)
 | met f y=>exact aav (show h.get? a=some _ from x)
 | ext c=>obtain ⟨Z,⟨Z,e⟩,Z⟩:=x;exact aav e
theorem Paired.yB {c d:Type} {F G:c->d->Prop}:∀ {l₁:List c} {l₂:List d},Paired F l₁ l₂->(∀ a b,F a b->G a b)->Paired G l₁ l₂
 | _,_,.nil,_ => .nil
 | _,_,.cons r t,f => .cons (f _ _ r) (Paired.yB t f)
def dC.eY (x:dC P w H h a o) (k:∀ b u,(b=a\/H b=some (.own a))->h.get? b=some u->h'.get? b=some u) (l:∀ b,H b=some (.own a)->H' b=some (.own a)) (D:∀ b xs,H b=some (.tup xs)->H' b=some (.tup xs)):dC P w H' h' a o:=by
 induction o with
 | lst xs=>obtain ⟨z,B,n,r,e⟩:=x;exact ⟨z,B,n,r,k _ _ (.inl rfl) e⟩
 | tup xs=>obtain ⟨z,B,r,O,e,c⟩:=x;exact ⟨z,B,r,O,k _ _ (.inl rfl) e,c⟩
 | dK A=>obtain ⟨z,y,V,r,O,es,E,e,c⟩:=x;exact ⟨z,y,V,r,O,es,E,k _ _ (.inl rfl) e,c⟩
 | dT A =>
   obtain ⟨z,y,xs,r,O,es,E,e,c⟩:=x
   exact ⟨z,y,xs,Paired.yB r λ p q z=>⟨z.1,D _ _ z.2.1,z.2.2⟩,O,es,E,k _ _ (.inl rfl) e,c⟩
 | set S n=>obtain ⟨O,es,E,t,e,c⟩:=x;exact ⟨O,es,E,t,k _ _ (.inl rfl) e,c⟩
 | ins C G F =>
   obtain ⟨d,z,N,e,m,⟨g,es,E,j,c⟩,r⟩:=x
   exact ⟨l _ d,z,N,k _ _ (.inl rfl) e,m,⟨g,es,E,k _ _ (.inr d) j,c⟩,r⟩
 | own y=>obtain ⟨O,e⟩:=x;exact ⟨O,k _ _ (.inl rfl) e⟩
 | xd F=>obtain ⟨m,⟨g,es,E,e,c⟩,r⟩:=x;exact ⟨m,⟨g,es,E,k _ _ (.inl rfl) e,c⟩,r⟩
 | WV lo hi=>obtain ⟨t,u,v,e⟩:=x;exact ⟨t,u,v,k _ _ (.inl rfl) e⟩
 | AL O u I=>obtain ⟨e,q⟩:=x;exact ⟨k _ _ (.inl rfl) e,I q⟩
 | L6 i =>
   have e:h.get? a=some { cls:=.none,data:=.fields i }:=x
   show h'.get? a=some { cls:=.none,data:=.fields i }
   exact k a _ (.inl rfl) e
 | met f y =>
   have e:h.get? a=some (W.methodObj (.ref f) (.ref y)):=x
   show h'.get? a=some (W.methodObj (.ref f) (.ref y))
   exact k a _ (.inl rfl) e
 | ext J=>obtain ⟨p,⟨o,e⟩,s⟩:=x;exact ⟨s _ _ p λ o q=>k _ _ (.inl rfl) q,⟨o,k _ _ (.inl rfl) e⟩,s⟩
theorem oM.lt (x:oM P w H h) (e:H a=some o):a<h.objs.size:=(x a o e).lt
def oM.fresh (x:oM P w H h) (e:h.objs.size<=a):H a=none:=by
 cases q:H a with
 | none=>rfl
 | some u=>exact absurd (aaw (x.lt q) e) (abG _)
def oM.kept (x:oM P w H h) (k:∀ b u,h.get? b=some u->h'.get? b=some u):oM P w H h':=λ a o e =>
 (x a o e).eY (λ b u Z q=>k b u q) (λ Z q=>q) λ Z Z q=>q
def oM.laid (x:oM P w H h) (k:∀ b u,h.get? b=some u->h'.get? b=some u) (g:h.objs.size<=a) (n:dC P w (upd H a o) h' a o):oM P w (upd H a o) h':=λ b u e=>by
 have f:=x.fresh g
 by_cases d:b=a
 . subst d;rw [ag] at e;cases e;exact n
 . rw [aw d] at e
   exact (x b u e).eY (λ c v Z q=>k c v q) (λ c q=>by rw [aw (az q f)];exact q) λ c X q=>by rw [aw (az q f)];exact q
end
def Rd (H:Hp) (a:am) (u:HO):Prop:=H a=some u\/∃ o,H a=some (.AL o u)
def Rd.ok {P:bD} {w:bz} {h:bE} {a:am} (r:Rd H a u) (x:oM P w H h):dC P w H h a u:=by
 rcases r with r|⟨o,r⟩
 . exact x a u r
 . obtain ⟨Z,q⟩:=x a _ r
   exact q
def Rz:Option HO->Prop
 | some (.lst _)=>True
 | some (.dK _)=>True
 | some (.dT _)=>True
 | some (.set _ _)=>True
 | some (.ins _ _ _)=>True
 | some (.ext _)=>True
 | _=>False
section
variable {P:bD} {w:bz} {H:Hp} {h h':bE} {x e:am} {o':HO}
def oM.write (ok:oM P w H h) (m:Rz (H x)) (f:e=x\/H e=some (.own x)) (k:∀ b u,b≠e->h.get? b=some u->h'.get? b=some u) (C:∃ u,h'.get? e=some u) (n:dC P w (upd H x o') h' x o'):oM P w (upd H x o') h':=λ b u q=>by
 have Q:∀ c y,H c=some (.own y)->c≠x:=λ c y r z=>by subst z;rw [r] at m;exact m
 have T:∀ c X,H c=some (.tup X)->c≠x:=λ c X r z=>by subst z;rw [r] at m;exact m
 by_cases a:b=x
 . subst a;rw [ag] at q;cases q;exact n
 .
  rw [aw a] at q
  by_cases M:b=e
  .
   have g:H b=some (.own x):=by
     rcases f with z|z
     . exact absurd (M.trans z) a
     . rw [M];exact z
   rw [q] at g;cases g
   obtain ⟨v,i⟩:=C
   exact ⟨v,by rw [M];exact i⟩
  .
   refine (ok b u q).eY (λ c v d r=>k c v ?_ r) (λ c r=>by rw [aw (Q c b r)];exact r) λ c X r=>by rw [aw (T c X r)];exact r
   rcases d with rfl|d
   . exact M
   . rintro rfl
     rcases f with z|z
     . exact Q c b d z
     . rw [d] at z;cases z;exact a rfl
end
structure Un (fs ex:bJ) (H H':Hp) (h h':bE):Prop where
 keep:∀ b o,h.get? b=some o->H b=none->b∉fs->b∉ex->h'.get? b=some o
 slot:∀ b o,h.get? b=some o->H b=none->b∈fs->b∉ex->∃ sl,h'.get? b=some { o with slots:=sl }
 free:∀ b o,h.get? b=some o->H b=none->b∉ex->H' b=none
 there:∀ b o,h.get? b=some o->b∉ex->∃ o',h'.get? b=some o'
 zN:∀ b xs,H b=some (.tup xs)->H' b=some (.tup xs)
 wW:∀ b o u,H b=some (.AL o u)->H' b=some (.AL o u)
 yX:∀ b ps,H b=some (.L6 ps)->∃ more,H' b=some (.L6 (ps++more))
section
variable {fs ex:bJ} {H H1:Hp} {h h1 h':bE} {a x e:am} {o:HO}
def Un.any (u:Un fs ex H H1 h h1) {b:am} {o:Obj} (q:h.get? b=some o) (n:H b=none) (c:b∉ex):∃ sl,h1.get? b=some { o with slots:=sl }:=by
 by_cases a:b∈fs
 . exact u.slot b o q n a c
 . exact ⟨o.slots,u.keep b o q n a c⟩
def Un.kept (k:∀ b u,h.get? b=some u->h'.get? b=some u):Un fs ex H H h h' :=
 ⟨λ b o q Z Z Z=>k b o q,λ b o q Z Z Z=>⟨o.slots,k b o q⟩,λ Z Z Z n Z=>n,λ b o q Z=>⟨o,k b o q⟩,λ Z Z q=>q,λ Z Z Z q=>q,λ Z p q=>⟨#[],by rw [q];simp⟩⟩
def Un.refl:Un fs ex H H h h:=Un.kept λ Z Z q=>q
def Un.laid (k:∀ b u,h.get? b=some u->h'.get? b=some u) (d:h.objs.size<=a) (c:H a=none):Un fs ex H (upd H a o) h h' where
 keep:=λ b u q Z Z Z=>k b u q
 slot:=λ b u q Z Z Z=>⟨u.slots,k b u q⟩
 free:=λ b u q n Z=>by rw [aw (aaO (aaw (aav q) d))];exact n
 there:=λ b u q Z=>⟨u,k b u q⟩
 zN:=λ b x q=>by rw [aw (az q c)];exact q
 wW:=λ b u x q=>by rw [aw (az q c)];exact q
 yX:=λ b p q=>⟨#[],by rw [aw (az q c),q];simp⟩
def Un.write (m:Rz (H x)) (f:e=x\/H e=some (.own x)) (k:∀ b u,b≠e->h.get? b=some u->h'.get? b=some u) (C:∃ u,h'.get? e=some u):Un fs ex H (upd H x o) h h':=by
 have d:∀ b,H b=none->b≠x:=λ b n z=>by subst z;rw [n] at m;exact m
 have c:∀ b,H b=none->b≠e:=λ b n z=>by
   subst z
   rcases f with r|r
   . exact d b n r
   . rw [n] at r;cases r
 have a:∀ b u,H b=some u->¬ Rz (some u)->b≠x:=λ b u q N z=>by subst z;rw [q] at m;exact N m
 refine ⟨λ b u q n Z Z=>k b u (c b n) q,λ b u q n Z Z=>⟨u.slots,k b u (c b n) q⟩,λ b u q n Z=>by rw [aw (d b n)];exact n,λ b u q Z=>?_,
   λ b X q=>by rw [aw (a b _ q λ z=>z)];exact q,λ b u X q=>by rw [aw (a b _ q λ z=>z)];exact q,λ b p q=>⟨#[],by rw [aw (a b _ q λ z=>z),q];simp⟩⟩
 by_cases M:b=e
 . subst M;exact C
 . exact ⟨u,k b u M q⟩
end
def R0 (h:bE) (H:Hp):bJ:=(List.range h.objs.size).filter λ a=>(H a).isSome
def xv (h:bE) (H:Hp):bE:=W.hideAll h (R0 h H)
def DR (h:bE) (H:Hp):(xv h H).objs.size=h.objs.size:=W.hideAll_size _ _
def G7 {h:bE} {b:am} {o:Obj} (e:h.get? b=some o) (n:H b=none):(xv h H).get? b=some o :=
 W.hideAll_get _ e λ a=>by
   have q:(H b).isSome=true:=(aa3.mp a).2
   rw [n] at q;simp at q
def Jn {h:bE} {b:am} {o:Obj} (e:(xv h H).get? b=some o):h.get? b=some o/\H b=none:=by
 have E:h.get? b=some o:=W.of_hideAll (R0 h H) e
 refine ⟨E,?_⟩
 cases q:H b with
 | none=>rfl
 | some x =>
   have a:b∈R0 h H:=aa3.mpr ⟨aaJ.mpr (aav E),by simp [q]⟩
   have z:(xv h H).get? b=none:=W.hideAll_none (R0 h H) a
   rw [z] at e;cases e
def Ia (g h:bE) (L:am):List (am×Obj):=(List.range h.objs.size).filterMap λ a=>if a=L\/(g.get? a).isSome=true then none else (h.get? a).map λ o=>(a,o)
def rest (g h:bE) (L d:am):List (am×Obj):=(Ia g h L).filter λ p=>decide (p.1≠d)
structure Mod (K:aE) (mg:dX) (base:bE):Prop where
 PK:K.In base
 glob:base.Ns mainGlobals mg
 blt:∃ mb,base.Ns builtinsNs mb/\∀ x:Str,x ≠ "__name__"->mb x=bootBuiltins x
 nolimit:base.NoLimit
structure Cx where
 prog:bD
 w:bz
 K:aE
 mg:dX
 base:bE
 A:Around
 N:de
 s₀:Shared
 H₀:Hp
 env:Env
 outer:List Env
 stack:List Env
 ex:bJ
 fn:Str->Bool
 calm:Bool
 pn:List (am×Obj)
 xe:aA->Shared->Prop
abbrev Ch (X:Cx) (e:Expr) (es:List Expr):Prop:=starEach (e::es) X.env=(false,eval e X.env)::starEach es X.env
abbrev Fb (X:Cx) (es:List Expr) (pos:Pos):Prop:=(backTo pos (starEach es X.env)).any (·.1)=false
abbrev Re (X:Cx) (x:Str):Prop:=X.fn x=true\/X.env.scope.names.lookup x=some .local
abbrev AJ (x:Str):Prop:=(x == ("__debug__" : Str))=false
def EV (l:List Env):bJ:=l.filterMap (·.frame)
abbrev Cx.fs (X:Cx):bJ:=EV X.outer
def Qd (s:Scope) (x:Str):Prop:=s.names.lookup x=some .local\/s.names.lookup x=some .cell\/s.names.lookup x=some .free
def Loc (s:Scope) (x:Str):Prop:=s.names.lookup x=some .local\/s.names.lookup x=some .cell
def Look (env:Env) (h:bE) (m:dX) (x:Str) (u:aA):Prop :=
 (env.kindOf x=some .local/\m x=some u)\/((env.kindOf x=some .cell\/env.kindOf x=some .free)/\∃ c,env.cells.lookup x=some c/\h.IsCell c (some u))
structure Cx.Ok (X:Cx):Prop where
 mod:Mod X.K X.mg X.base
 kind:X.env.scope.kind = .function
 glob:X.env.globals=mainGlobals
 blt:X.env.builtins=builtinsNs
 above:X.s₀.heap.objs.size<=X.env.locals
 inj:∀ x y c,X.env.cells.lookup x=some c->X.env.cells.lookup y=some c->x=y
 has:∀ x,(X.env.kindOf x=some .cell\/X.env.kindOf x=some .free)->∃ c,X.env.cells.lookup x=some c
 QQ:∀ x c,X.fn x=true->X.env.cells.lookup x=some c->X.s₀.heap.objs.size<=c
 hd:X.calm=true->X.A.handled=none
 frames:X.A.frames=some X.stack
 RU:X.stack=X.outer\/(X.stack=X.env::X.outer/\X.env.frame=some X.env.locals)
 ZZ:∀ b∈X.ex,b≠X.env.locals/\∀ x c,X.env.cells.lookup x=some c->c≠b
 bs:∀ b o,X.base.get? b=some o->X.s₀.heap.get? b=some o/\X.H₀ b=none
 KO:X.base.objs.size<=X.s₀.heap.objs.size
 F6:∀ b o,X.base.get? b=some o->b∉X.ex
 IU:∀ b∈X.ex,b∉X.fs
 sI:X.s₀.heap.FunFrames X.base X.outer
 Me:∀ b∈X.fs,X.H₀ b=none
structure Inv (X:Cx) (pins:List (am×Obj)) (U:List (eL)) (H:Hp) (s:Shared):Prop where
 ok:X.Ok
 os:s.os=X.s₀.os
 bare:AllBare s.gens
 base:Un X.fs X.ex X.H₀ H X.s₀.heap s.heap
 loc:∃ m,s.heap.Ns X.env.locals m/\∀ (i:Nat) (x:Str) (v:V),X.N[i]?=some x->U[i]?=some (some v)->Qd X.env.scope x->∃ u,RelV v u/\Look X.env s.heap m x u
 cell:∀ x c,X.env.cells.lookup x=some c->∃ v,s.heap.IsCell c v
 free:H X.env.locals=none
 np:∀ x c,X.env.cells.lookup x=some c->H c=none
 pin:∀ p∈X.pn++pins,s.heap.get? p.1=some p.2/\H p.1=none/\p.1≠X.env.locals/\p.1∉X.fs/\∀ v,p.2.data ≠ .cell v
 dF:oM X.prog X.w H s.heap
 len:U.length=X.N.length
section
variable {X:Cx} {pins:List (am×Obj)} {U:List (eL)} {H H':Hp} {s:Shared} {h':bE}
def Cx.Ok.Wj (ok:X.Ok) {b:am} {o:Obj} (e:X.base.get? b=some o):b∉X.fs:=λ h=>by
 have:=(ok.sI.mem h).1
 rw [e] at this;cases this
theorem Inv.bs (I:Inv X pins U H s):∀ b o,X.base.get? b=some o->s.heap.get? b=some o/\H b=none:=λ b o e =>
 ⟨I.base.keep b o (I.ok.bs b o e).1 (I.ok.bs b o e).2 (I.ok.Wj e) (I.ok.F6 b o e),I.base.free b o (I.ok.bs b o e).1 (I.ok.bs b o e).2 (I.ok.F6 b o e)⟩
def Inv.bk (I:Inv X pins U H s):∀ b o,X.base.get? b=some o->s.heap.get? b=some o:=λ b o e=>(I.bs b o e).1
theorem Inv.mod (I:Inv X pins U H s):Mod X.K X.mg X.base:=I.ok.mod
def Inv.sF (I:Inv X pins U H s):X.K.In s.heap:=I.ok.mod.PK.keeps I.bk
theorem Inv.lt (I:Inv X pins U H s):X.env.locals<s.heap.objs.size:=let ⟨_,h,_⟩:=I.loc;h.lt
def Inv.sz (I:Inv X pins U H s):X.s₀.heap.objs.size<=s.heap.objs.size:=aaA I.ok.above (ab4 I.lt)
def Inv.Wr (I:Inv X pins U H s) {a:am} (h:s.heap.objs.size<=a):a∉X.fs:=λ b=>by
 obtain ⟨Z,o,c,Z⟩:=I.ok.sI.mem b
 exact absurd (aaw (aav c) (aaA I.sz h)) (abG _)
def Inv.K8 (I:Inv X pins U H s):∀ x c,X.env.cells.lookup x=some c->c≠X.env.locals:=λ x c e z=>by
 obtain ⟨v,o,a,h⟩:=I.cell x c e
 obtain ⟨m,⟨b,es,E,A,O,Z⟩,Z⟩:=I.loc
 rw [z,A] at a;cases a;rw [O] at h;cases h
theorem Inv.sI (I:Inv X pins U H s):s.heap.FunFrames X.base X.outer:=by
 have all:∀ (l:List Env),(∀ b∈EV l,b∈X.fs)->X.s₀.heap.FunFrames X.base l->s.heap.FunFrames X.base l:=by
   intro l
   induction l with
   | nil=>intro Z Z;trivial
   | cons env r n =>
     intro d i
     obtain ⟨g,⟨L,o,c,j,k,f⟩,m⟩:=i
     have h:L∈X.fs:=d L (by unfold EV;rw [adi,c];exact aar)
     obtain ⟨sl,e⟩:=I.base.slot L o k (I.ok.Me L h) h λ z=>I.ok.IU L z h
     exact ⟨g,⟨L,_,c,j,e,f⟩,n (λ b a=>d b (by unfold EV;rw [adi,c];exact aaj _ a)) m⟩
 exact all X.outer (λ Z a=>a) I.ok.sI
theorem Inv.stack (I:Inv X pins U H s):s.heap.FunFrames X.base X.stack:=by
 rcases I.ok.RU with e|⟨e,h⟩
 . rw [e];exact I.sI
 .
  rw [e]
  obtain ⟨m,a,Z⟩:=I.loc
  refine .cons (by rw [I.ok.kind];decide) h a ?_ I.sI
  exact adu (aaA I.ok.KO I.ok.above)
def Inv.Bp (I:Inv X pins U H s):∀ b∈EV X.stack,b∈X.env.locals::X.fs:=λ b h=>by
 rcases I.ok.RU with e|⟨e,a⟩
 . rw [e] at h;exact aaj _ h
 .
  rw [e] at h
  unfold EV at h
  rw [adi,a] at h
  exact h
def Inv.Cq (I:Inv X pins U H s):∀ b∈EV X.stack,H b=none:=λ b h=>by
 rcases aab.mp (I.Bp b h) with e|h
 . rw [e];exact I.free
 . obtain ⟨Z,o,a,Z⟩:=I.ok.sI.mem h
   exact I.base.free b o a (I.ok.Me b h) λ z=>I.ok.IU b z h
def Inv.step {g':Array GenState} {t':Nat} {d':Drawn} {ch:bJ} (I:Inv X pins U H s) (A:∀ b∈ch,(b∈X.ex\/X.s₀.heap.objs.size<=b)/\b≠X.env.locals/\(∀ x c,X.env.cells.lookup x=some c->c≠b)/\∀ p∈X.pn++pins,p.1≠b) (K:∀ b o,b≠X.env.locals->b∉X.fs->b∉ch->s.heap.get? b=some o->H b=none->h'.get? b=some o) (S:∀ b o,b≠X.env.locals->b∈X.fs->b∉ch->s.heap.get? b=some o->H b=none->∃ sl,h'.get? b=some { o with slots:=sl }) (f:∀ b o,b∉ch->s.heap.get? b=some o->H b=none->H' b=none) (t:∀ b o,b∉ch->s.heap.get? b=some o->∃ y,h'.get? b=some y) (zN:∀ b xs,H b=some (.tup xs)->H' b=some (.tup xs)) (wW:∀ b o u,H b=some (.AL o u)->H' b=some (.AL o u)) (yX:∀ b B,H b=some (.L6 B)->∃ M,H' b=some (.L6 (B++M))) (ns:∀ m,s.heap.Ns X.env.locals m->h'.Ns X.env.locals m) (L:oM X.prog X.w H' h') (T:AllBare g') :
   Inv X pins U H' { s with heap:=h',gens:=g',drawn:=d',toks:=t' }:=by
 have Y:∀ b o,X.s₀.heap.get? b=some o->b≠X.env.locals:=λ b o e=>aaO (aaw (aav e) I.ok.above)
 have R:∀ b o,X.s₀.heap.get? b=some o->b∉X.ex->b∉ch:=λ b o e h a=>by
   rcases (A b a).1 with z|z
   . exact h z
   . exact absurd (aaw (aav e) z) (abG _)
 have C:∀ x c,X.env.cells.lookup x=some c->∀ v,s.heap.IsCell c v->h'.IsCell c v:=λ x c e v ⟨o,g,D⟩=>by
   have O:c∉ch:=λ z=>(A c z).2.2.1 x c e rfl
   by_cases G:c∈X.fs
   . obtain ⟨sl,q⟩:=S c o (I.K8 x c e) G O g (I.np x c e)
     exact ⟨_,q,D⟩
   . exact ⟨o,K c o (I.K8 x c e) G O g (I.np x c e),D⟩
 refine ⟨I.ok,I.os,T,⟨λ b o e n a h=>?_,λ b o e n a h=>?_,λ b o e n h=>?_,λ b o e h=>?_,λ b xs e=>zN b xs (I.base.zN b xs e),λ b o xs e=>wW b o xs (I.base.wW b o xs e),λ b B e=>?_⟩,?_,λ x c e=>?_,?_,λ x c e=>?_,λ p J=>?_,L,I.len⟩
 . exact K b o (Y b o e) a (R b o e h) (I.base.keep b o e n a h) (I.base.free b o e n h)
 . obtain ⟨sl,E⟩:=I.base.slot b o e n a h
   obtain ⟨F,j⟩:=S b _ (Y b o e) a (R b o e h) E (I.base.free b o e n h)
   exact ⟨F,j⟩
 . obtain ⟨y,E⟩:=I.base.there b o e h
   exact f b y (R b o e h) E (I.base.free b o e n h)
 . obtain ⟨y,E⟩:=I.base.there b o e h
   exact t b y (R b o e h) E
 . obtain ⟨m1,E⟩:=I.base.yX b B e
   obtain ⟨m2,j⟩:=yX b _ E
   exact ⟨m1++m2,by rw [j,Array.append_assoc]⟩
 .
  obtain ⟨m,W,V⟩:=I.loc
  refine ⟨m,ns m W,λ i x v E j Q=>?_⟩
  obtain ⟨u,r,l⟩:=V i x v E j Q
  refine ⟨u,r,?_⟩
  rcases l with l|⟨k,c,e,z⟩
  . exact .inl l
  . exact .inr ⟨k,c,e,C x c e _ z⟩
 . obtain ⟨v,z⟩:=I.cell x c e
   exact ⟨v,C x c e v z⟩
 . obtain ⟨m,⟨o,Z,Z,g,Z⟩,Z⟩:=I.loc
   exact f _ o (λ z=>(A _ z).2.1 rfl) g I.free
 . obtain ⟨v,o,g,D⟩:=I.cell x c e
   exact f c o (λ z=>(A c z).2.2.1 x c e rfl) g (I.np x c e)
 . obtain ⟨e,n,N,nf,d⟩:=I.pin p J
   have O:p.1∉ch:=λ z=>(A p.1 z).2.2.2 p J rfl
   exact ⟨K p.1 p.2 N nf O e n,f p.1 p.2 O e n,N,nf,d⟩
def Inv.un {t':Nat} (I:Inv X pins U H s) (u:Un X.fs [] H H' s.heap h') (d:oM X.prog X.w H' h'):Inv X pins U H' { s with heap:=h',toks:=t' }:=by
 obtain ⟨m,⟨o,es,E,a,r⟩,Z⟩:=id I.loc
 obtain ⟨sl,c⟩:=u.any a I.free (by simp)
 exact I.step (g':=s.gens) (d':=s.drawn) (ch:=[]) (λ Z z=>nomatch z) (λ b o Z h Z e n=>u.keep b o e n h (by simp)) (λ b o Z h Z e n=>u.slot b o e n h (by simp)) (λ b o Z e n=>u.free b o e n (by simp)) (λ b o Z e=>u.there b o e (by simp)) u.zN u.wW u.yX (λ M f=>by
   obtain ⟨O,T,x,A,R⟩:=f
   rw [a] at A;cases A
   exact ⟨_,T,x,c,R⟩) d I.bare
def Inv.call {g':Array GenState} {t':Nat} {d':Drawn} {ch:bJ} (I:Inv X pins U H s) (u:Un (EV X.stack) ch H H' s.heap h') (D:oM X.prog X.w H' h') (j:AllBare g') (f:∀ b∈ch,(b∈X.ex\/X.s₀.heap.objs.size<=b)/\b≠X.env.locals/\(∀ x c,X.env.cells.lookup x=some c->c≠b)/\∀ p∈X.pn++pins,p.1≠b) :
   Inv X pins U H' { s with heap:=h',gens:=g',drawn:=d',toks:=t' }:=by
 obtain ⟨m,⟨o,es,E,d,r⟩,Z⟩:=id I.loc
 obtain ⟨sl,a⟩:=u.any d I.free λ z=>(f _ z).2.1 rfl
 exact I.step (ch:=ch) f (λ b o a i h e n=>u.keep b o e n (λ z=>(aab.mp (I.Bp b z)).elim a i) h) (λ b o Z Z h e n=>u.any e n h) (λ b o h e n=>u.free b o e n h) (λ b o h e=>u.there b o e h) u.zN u.wW u.yX (λ M k=>by
   obtain ⟨O,T,g,A,R⟩:=k
   rw [d] at A;cases A
   exact ⟨_,T,g,a,R⟩) D j
def Inv.turned {t':Nat} {i:am} (I:Inv X pins U H s) (k:∀ b o,b≠i->s.heap.get? b=some o->h'.get? b=some o) (t:H i=none) (a:i≠X.env.locals) (d:i∈X.ex\/X.s₀.heap.objs.size<=i) (f:∀ x c,X.env.cells.lookup x=some c->c≠i) (g:∀ p∈X.pn++pins,p.1≠i):Inv X pins U H { s with heap:=h',toks:=t' }:=by
 have N:∀ b u,H b=some u->b≠i:=λ b u e z=>by rw [z,t] at e;cases e
 refine I.step (g':=s.gens) (d':=s.drawn) (ch:=[i]) (λ b j=>?_) (λ b o Z Z h e Z=>k b o (λ z=>h (by simp [z])) e) (λ b o Z Z h e Z=>⟨o.slots,k b o (λ z=>h (by simp [z])) e⟩) (λ Z Z Z Z n=>n)
   (λ b o h e=>⟨o,k b o (λ z=>h (by simp [z])) e⟩) (λ Z Z e=>e) (λ Z Z Z e=>e) (λ b y e=>⟨#[],by rw [e];simp⟩) (λ m l=>?_) (λ b u e=>?_) I.bare
 . have e:b=i:=by simpa using j
   subst e
   exact ⟨d,a,f,g⟩
 . obtain ⟨o,es,E,w,r⟩:=l
   exact ⟨o,es,E,k _ o (acx a) w,r⟩
 .
  refine (I.dF b u e).eY (λ c v h q=>k c v ?_ q) (λ Z q=>q) λ Z Z q=>q
  rcases h with z|z
  . rw [z];exact N b u e
  . exact N c _ z
def Inv.tok (I:Inv X pins U H s) (t:Nat):Inv X pins U H { s with toks:=t }:=I.un (h':=s.heap) (t':=t) Un.refl I.dF
theorem Inv.kept {t':Nat} (I:Inv X pins U H s) (k:∀ b u,s.heap.get? b=some u->h'.get? b=some u):Inv X pins U H { s with heap:=h',toks:=t' }:=I.un (Un.kept k) (I.dF.kept k)
theorem Inv.laid {a:am} {t':Nat} (I:Inv X pins U H s) (k:∀ b u,s.heap.get? b=some u->h'.get? b=some u) (h:s.heap.objs.size<=a) (n:dC X.prog X.w (upd H a o) h' a o) :
   Inv X pins U (upd H a o) { s with heap:=h',toks:=t' }:=I.un (Un.laid k h (I.dF.fresh h)) (I.dF.laid k h n)
theorem Inv.write {x e:am} {t':Nat} (I:Inv X pins U H s) (m:Rz (H x)) (h:e=x\/H e=some (.own x)) (k:∀ b u,b≠e->s.heap.get? b=some u->h'.get? b=some u) (C:∃ u,h'.get? e=some u) (n:dC X.prog X.w (upd H x o) h' x o):Inv X pins U (upd H x o) { s with heap:=h',toks:=t' }:=I.un (Un.write m h k C) (I.dF.write m h k C n)
def Inv.C6 {K:List (am×Obj)} (I:Inv X pins U H s) (h:∀ p∈K,s.heap.get? p.1=some p.2/\H p.1=none/\p.1≠X.env.locals/\p.1∉X.fs/\∀ v,p.2.data ≠ .cell v):Inv X K U H s :=
 ⟨I.ok,I.os,I.bare,I.base,I.loc,I.cell,I.free,I.np,λ p a=>(aaz.mp a).elim (λ z=>I.pin p (aa4 _ z)) (h p),I.dF,I.len⟩
def zO {N:de} (h:N.Nodup) {i j:Nat} {x:Str} (a:N[i]?=some x) (b:N[j]?=some x):i=j:=by
 obtain ⟨H,e⟩:=Br.mp a
 obtain ⟨c,E⟩:=Br.mp b
 exact (adz h).mp (e.trans E.symm)
def wm {M:Model} {A:Around} {E:aA->Shared->Prop} {i:Nat} {x:Str} {u:aA} {Q:Unit->Shared->Prop} (I:Inv X pins U H s) (hN:X.N.Nodup) (hi:X.N[i]?=some x) (B:Loc X.env.scope x) (r:RelV v u) (h:∀ s',Inv X pins (U.set i (some v)) H s'->(∃ a,Heap.SameBut a s.heap s'.heap/\(a=X.env.locals\/X.env.cells.lookup x=some a))->Q () s') (hf:autoParam (Re X x) zd_._auto_1):wpAny M A (storeName X.env x u) Q E s:=by
 obtain ⟨m,S,hl⟩:=id I.loc
 have Wg:(X.env.scope.kind == .class || (X.env.scope.kind == .module && X.env.locals != X.env.globals))=false:=by rw [I.ok.kind];rfl
 have ZP:i<U.length:=by rw [I.len];exact (Br.mp hi).1
 have L:=I.K8
 have t:∀ {a:am} {h':bE},(∃ o,s.heap.get? a=some o/\H a=none)->Heap.SameBut a s.heap h'->oM X.prog X.w H h':=λ {a h'} ha f b ob e=>by
   obtain ⟨Z,Z,jM⟩:=ha
   refine (I.dF b ob e).eY (λ c W l q=>(f.2 c ?_).trans q) (λ Z q=>q) λ Z Z q=>q
   rintro rfl
   rcases l with rfl|l
   . rw [jM] at e;cases e
   . rw [jM] at l;cases l
 rcases B with D|D
 .
  refine wpAny_storeName_local D S (λ h' T f=>?_) Wg
  obtain ⟨oL,Z,Z,V,Z⟩:=id S
  refine h _ ⟨I.ok,I.os,I.bare,⟨λ b o e n F B=>?_,λ b o e n F B=>?_,I.base.free,λ b o e B=>?_,I.base.zN,I.base.wW,I.base.yX⟩,⟨_,T,λ j y v' g C R=>?_⟩,λ y c e=>?_,I.free,I.np,λ p Y=>?_,t ⟨oL,V,I.free⟩ f,by simpa using I.len⟩ ⟨_,f,.inl rfl⟩
  . exact (f.2 b (aaO (aaw (aav e) I.ok.above))).trans (I.base.keep b o e n F B)
  . obtain ⟨sl,g⟩:=I.base.slot b o e n F B
    exact ⟨sl,(f.2 b (aaO (aaw (aav e) I.ok.above))).trans g⟩
  . obtain ⟨o',g⟩:=I.base.there b o e B
    exact ⟨o',(f.2 b (aaO (aaw (aav e) I.ok.above))).trans g⟩
  .
   by_cases G:j=i
   . subst G
     rw [hi] at g;cases g
     rw [ad4 ZP] at C
     cases C
     exact ⟨u,r,.inl ⟨D,by simp⟩⟩
   .
    rw [aeh (acx G)] at C
    obtain ⟨u',r',q⟩:=hl j y v' g C R
    refine ⟨u',r',?_⟩
    rcases q with ⟨k,e⟩|⟨k,c,e,z⟩
    . refine .inl ⟨k,?_⟩
      have:y≠x:=λ e=>G (zO hN g (e ▸ hi))
      simp [this,e]
    . exact .inr ⟨k,c,e,z.sameBut f (L y c e)⟩
  . obtain ⟨W,z⟩:=I.cell y c e
    exact ⟨W,z.sameBut f (L y c e)⟩
  . obtain ⟨e,n,K,nf,d⟩:=I.pin p Y
    exact ⟨(f.2 p.1 K).trans e,n,K,nf,d⟩
 .
  have O:X.fn x=true:=by
    rcases hf with z|z
    . exact z
    . rw [z] at D;cases D
  obtain ⟨c,l⟩:=I.ok.has x (.inl D)
  obtain ⟨W,z⟩:=I.cell x c l
  refine wpAny_storeName_cell I.ok.kind D l z (λ h' yn f=>?_)
  obtain ⟨oc,Yq,UJ⟩:=id z
  refine h { s with heap:=h' } ⟨I.ok,I.os,I.bare,⟨λ b o e n F B=>?_,λ b o e n F B=>?_,I.base.free,λ b o e B=>?_,I.base.zN,I.base.wW,I.base.yX⟩,⟨m,S.sameBut f (acx (L x c l)),λ j y v' g C R=>?_⟩,λ y J e=>?_,I.free,I.np,λ p Y=>?_,t ⟨oc,Yq,I.np x c l⟩ f,by simpa using I.len⟩ ⟨c,f,.inr l⟩
  . exact (f.2 b (aaO (aaw (aav e) (I.ok.QQ x c O l)))).trans (I.base.keep b o e n F B)
  . obtain ⟨sl,g⟩:=I.base.slot b o e n F B
    exact ⟨sl,(f.2 b (aaO (aaw (aav e) (I.ok.QQ x c O l)))).trans g⟩
  . obtain ⟨o',g⟩:=I.base.there b o e B
    exact ⟨o',(f.2 b (aaO (aaw (aav e) (I.ok.QQ x c O l)))).trans g⟩
  .
   by_cases G:j=i
   . subst G
     rw [hi] at g;cases g
     rw [ad4 ZP] at C
     cases C
     exact ⟨u,r,.inr ⟨.inl D,c,l,yn⟩⟩
   .
    rw [aeh (acx G)] at C
    obtain ⟨u',r',q⟩:=hl j y v' g C R
    refine ⟨u',r',?_⟩
    rcases q with q|⟨k,J,e,z'⟩
    . exact .inl q
    . refine .inr ⟨k,J,e,z'.sameBut f ?_⟩
      rintro rfl
      exact G (zO hN g (I.ok.inj _ _ _ e l ▸ hi))
  . by_cases Zo:J=c
    . subst Zo;exact ⟨_,yn⟩
    . obtain ⟨w2,z2⟩:=I.cell y J e
      exact ⟨w2,z2.sameBut f Zo⟩
  .
   obtain ⟨e,n,K,nf,d⟩:=I.pin p Y
   refine ⟨(f.2 p.1 ?_).trans e,n,K,nf,d⟩
   intro q
   rw [q,Yq] at e
   have q':oc=p.2:=aaq e
   exact d W (by rw [<- q'];exact UJ)
def ub {M:Model} {A:Around} {E:aA->Shared->Prop} {i:Nat} {x:Str} {u:aA} {Q:Unit->Shared->Prop} (I:Inv X pins U H s) (b:X.N.Nodup) (hi:X.N[i]?=some x) (d:Loc X.env.scope x) (r:RelV v u) (h:∀ s',Inv X pins (U.set i (some v)) H s'->Q () s') (c:autoParam (Re X x) zd_._auto_1):wpAny M A (storeName X.env x u) Q E s :=
 wm I b hi d r (λ s' a Z=>h s' a) c
def Inv.O6 {ch:bJ} (I:Inv X pins U H s) (a:s'.os=s.os) (u:Un (EV X.stack) ch H H' s.heap s'.heap) (D:oM X.prog X.w H' s'.heap) (h:AllBare s'.gens) (f:∀ b∈ch,(b∈X.ex\/X.s₀.heap.objs.size<=b)/\b≠X.env.locals/\(∀ x c,X.env.cells.lookup x=some c->c≠b)/\∀ p∈X.pn++pins,p.1≠b):Inv X pins U H' s':=by
 obtain ⟨h',g,d,t',o⟩:=s'
 have e:o=s.os:=a
 subst e
 exact I.call (g':=g) (t':=t') (d':=d) u D h f
end
abbrev XK:=aA->Option am->Hp->Prop
abbrev St:=List (eL)
abbrev VK:=V->Hp->Prop
abbrev TE:=St->Hp->VK->Prop
abbrev TT:=St->Hp->(Bool->Hp->Prop)->Prop
abbrev TA:=St->Hp->(aB->Hp->Prop)->Prop
structure Ends where
 nx:St->Hp->Prop
 rt:VK
 bk:St->Hp->Prop:=λ _ _=>False
 ct:St->Hp->Prop:=λ _ _=>False
abbrev TS:=Ends->St->Hp->Prop
inductive EP (X:Cx) (pins:List (am×Obj)) (U:St) (Q:VK) (u:aA) (s':Shared):Prop|mk (v:V) (H':Hp) (_:Inv X pins U H' s') (_:RelV v u) (_:Q v H')
def TP (X:Cx) (p:List (am×Obj)) (U:St) (Q:Bool->Hp->Prop) (b:Bool) (s':Shared):Prop:=∃ H,Inv X p U H s'/\Q b H
inductive AP (X:Cx) (pins:List (am×Obj)) (U:St) (Q:aB->Hp->Prop) (us:bM) (s':Shared):Prop|mk (vs:aB) (H':Hp) (_:Inv X pins U H' s') (_:Vals vs us) (_:Q vs H')
def SP (X:Cx) (p:List (am×Obj)) (D:Ends) (f:Flow) (s':Shared):Prop :=
 match f with
 | .next=>∃ a H,Inv X p a H s'/\D.nx a H
 | .brk=>∃ a H,Inv X p a H s'/\D.bk a H
 | .cont=>∃ a H,Inv X p a H s'/\D.ct a H
 | .ret u=>∃ v a H,Inv X p a H s'/\RelV v u/\D.rt v H
def PE (X:Cx) (e:Expr) (t:TE):Prop :=
 ∀ (p:List (am×Obj)) (s:Shared) (U:St) (H:Hp) (Q:VK),Inv X p U H s->t U H Q->wpAny (model X.prog X.w) X.A (eval e X.env) (EP X p U Q) X.xe s
def PT (X:Cx) (e:Expr) (t:TT):Prop :=
 ∀ (p:List (am×Obj)) (s:Shared) (U:St) (H:Hp) (Q:Bool->Hp->Prop),Inv X p U H s->t U H Q->wpAny (model X.prog X.w) X.A (isTrue e X.env (eval e X.env)) (TP X p U Q) X.xe s
def PW (X:Cx) (e:Expr) (t:TT):Prop :=
 ∀ (W:Sem aA) (p:List (am×Obj)) (s:Shared) (U:St) (H:Hp) (Q:Bool->Hp->Prop),Inv X p U H s->t U H Q->wpAny (model X.prog X.w) X.A (isTrue e X.env W) (TP X p U Q) X.xe s
def PW.pt {X:Cx} {e:Expr} {t:TT} (h:PW X e t):PT X e t:=h _
def PA (X:Cx) (es:List Expr) (t:TA):Prop :=
 ∀ (a:Pos) (p:List (am×Obj)) (s:Shared) (U:St) (H:Hp) (Q:aB->Hp->Prop),Inv X p U H s->t U H Q->wpAny (model X.prog X.w) X.A (spliced (backTo a (starEach es X.env))) (AP X p U Q) X.xe s
def PS (X:Cx) (st:Stmt) (t:TS):Prop :=
 ∀ (p:List (am×Obj)) (s:Shared) (U:St) (H:Hp) (D:Ends),Inv X p U H s->t D U H->wpAny (model X.prog X.w) X.A (exec st X.env) (SP X p D) X.xe s
def vO (X:Cx) (st:List Stmt) (t:TS):Prop :=
 ∀ (p:List (am×Obj)) (s:Shared) (U:St) (H:Hp) (D:Ends),Inv X p U H s->t D U H->wpAny (model X.prog X.w) X.A (execs st X.env) (SP X p D) X.xe s
def c7 {b:Type} {t:Sem b} {Q q:b->Shared->Prop} {M:Model} {A:Around} {E:aA->Shared->Prop} {s:Shared} (h:wpAny M A t Q E s) (H:∀ a s,Q a s->q a s):wpAny M A t q E s:=abB h H λ Z Z x=>x
section
variable {X:Cx}
inductive Im (i:Nat) (U:St) (H:Hp) (Q:VK):Prop|mk (v:_) (_:U[i]?=some (some v)) (_:Q v H)
def tC (v:V):TE:=λ Z H Q=>Q v H
def Lb {i:Nat} {x:Str} {d:Pos} (k:X.N[i]?=some x) (t:Qd X.env.scope x) (b:autoParam (AJ x) zb_._auto_1) (y:autoParam ((x == ("__classdict__" : Str))=false) zb_._auto_1):PE X (.Name x d) (Im i):=by
 intro p s U H Q I h
 obtain ⟨v,e,h⟩:=h
 obtain ⟨m,q,n⟩:=I.loc
 obtain ⟨u,r,l⟩:=n i x v k e t
 have f:EP X p U Q u s:=⟨v,H,I,r,h⟩
 rcases l with ⟨a,o⟩|⟨a,c,j,g⟩
 . exact wpAny_Name (wpAny_loadName_local I.ok.kind a q o f) b
 . rcases a with a|a
   . exact wpAny_Name (wpAny_loadName_cell I.ok.kind a j g f) b
   . exact wpAny_Name (wpAny_loadName_free I.ok.kind a j g f y) b
def ac {i j p}:PE X (.Constant (.int i) j p) (tC (.int i)):=λ Z Z Z H Z I h=>wpAny_Constant_int ⟨.int i,H,I.tok _,⟨_,rfl⟩,h⟩
def fP {b j p}:PE X (.Constant (.bool b) j p) (tC (.bl b)):=λ Z Z Z H Z I h=>Constant_bool ⟨.bl b,H,I,rfl,h⟩
def cy {j p}:PE X (.Constant .none j p) (tC .cC):=λ Z Z Z H Z I h=>Constant_none ⟨.cC,H,I,rfl,h⟩
def Gl (X:Cx) (x:Str):Prop:=X.env.kindOf x=some .globalImplicit
def ym {E:aA->Shared->Prop} {p:List (am×Obj)} {s:Shared} {x:Str} {u:aA} {a:Pos} {Q:aA->Shared->Prop} (I:Inv X p U H s) (c:Gl X x) (d:X.mg x=some u) (h:Q u s) (b:autoParam (AJ x) zb_._auto_1):wpAny (model X.prog X.w) X.A (eval (.Name x a) X.env) Q E s :=
 aej I.ok.kind c (Calls.loadGlobal_global (by rw [I.ok.glob];exact I.mod.glob.keeps I.bk) d h) b
def jv {E:aA->Shared->Prop} {p:List (am×Obj)} {s:Shared} {x:Str} {u:aA} {a:Pos} {Q:aA->Shared->Prop} (I:Inv X p U H s) (e:Gl X x) (f:X.mg x=none) (i:bootBuiltins x=some u) (h:Q u s) (g:autoParam (x ≠ "__name__") zb_._auto_1) (d:autoParam (AJ x) zb_._auto_1):wpAny (model X.prog X.w) X.A (eval (.Name x a) X.env) Q E s:=by
 obtain ⟨m,b,c⟩:=I.mod.blt
 exact aej I.ok.kind e (Calls.loadGlobal_builtin (by rw [I.ok.glob];exact I.mod.glob.keeps I.bk) f (by rw [I.ok.blt];exact b.keeps I.bk) ((c x g).trans i) h) d
def hV {x:Str} {u:aA} {p:Pos} (b:Gl X x) (c:X.mg x=some u) (r:RelV v u) (a:autoParam (AJ x) zb_._auto_1):PE X (.Name x p) (tC v) :=
 λ Z Z Z H Z I h=>ym I b c ⟨v,H,I,r,h⟩ a
def Ct {x:Str} {u:aA} {p:Pos} (b:Gl X x) (c:X.mg x=none) (e:bootBuiltins x=some u) (r:RelV v u) (d:autoParam (x ≠ "__name__") zb_._auto_1) (a:autoParam (AJ x) zb_._auto_1):PE X (.Name x p) (tC v) :=
 λ Z Z Z H Z I h=>jv I b c e ⟨v,H,I,r,h⟩ d a
variable {a b:Expr} {ta tb:TE} {pos:Pos}
def tB (t:TE):TT:=λ U H Q=>t U H λ x h=>∃ c,x = .bl c/\Q c h
def cT {e:Expr} {t:TE} (h:PE X e t) (b:∀ w,isTrue e X.env w=(do let v <- w;standAt e.pos;holding [v] (truthy v)):=by intro Z;rfl):PT X e (tB t):=by
 intro p s U H Q I c
 refine isTrue_plain (c7 (h p s U H _ I c) λ v S ⟨x,a,i,r,f⟩=>?_) (b _)
 obtain ⟨d,rfl,q⟩:=f
 cases r
 exact abA ⟨a,i,q⟩
variable {tA SU:TT} {rest:List Expr}
def Vb (t u:TT):TT:=λ U H Q=>t U H λ c h=>if c=true then u U h Q else Q false h
def tOr (t u:TT):TT:=λ U H Q=>t U H λ c h=>if c=true then Q true h else u U h Q
def TU (t:TT):TT:=λ U H Q=>t U H λ c h=>Q (!c) h
def mK (b:PT X a tA):PW X (.BoolOp .And [a] pos) tA:=by
 intro w p s U H Q I h
 refine isTrue_and (c7 (b p s U H Q I h) λ c S e=>?_)
 cases c with
 | true=>exact isTrue_and_nil e
 | false=>exact e
def rf (b:PT X a tA):PW X (.BoolOp .Or [a] pos) tA:=by
 intro w p s U H Q I h
 refine isTrue_or (c7 (b p s U H Q I h) λ c S e=>?_)
 cases c with
 | false=>exact isTrue_or_nil e
 | true=>exact e
def qe (e:PT X a tA) (f:PW X (.BoolOp .And (b::rest) pos) SU):PW X (.BoolOp .And (a::b::rest) pos) (Vb tA SU):=by
 intro w p s U H Q I h
 refine isTrue_and (c7 (e p s U H _ I h) λ c S ⟨d,i,q⟩=>?_)
 cases c with
 | true=>exact f w p S U d Q i q
 | false=>exact ⟨d,i,q⟩
def tZ (e:PT X a tA) (f:PW X (.BoolOp .Or (b::rest) pos) SU):PW X (.BoolOp .Or (a::b::rest) pos) (tOr tA SU):=by
 intro w p s U H Q I h
 refine isTrue_or (c7 (e p s U H _ I h) λ c S ⟨d,i,q⟩=>?_)
 cases c with
 | true=>exact ⟨d,i,q⟩
 | false=>exact f w p S U d Q i q
def eJ (d:PT X a tA):PT X (.UnaryOp .Not a pos) (TU tA):=by
 intro p s U H Q I h
 exact isTrue_not (d p s U H (λ c b=>Q (!c) b) I h)
def Qf (t tb:TE):TE:=λ U H Q=>t U H λ x h=>∃ c,x = .bl c/\if c=true then tb U h Q else Q (.bl false) h
def T1 (t tb:TE):TE:=λ U H Q=>t U H λ x h=>∃ c,x = .bl c/\if c=true then Q (.bl true) h else tb U h Q
def Nx (t:TE):TE:=λ U H Q=>t U H λ x h=>∃ c,x = .bl c/\Q (.bl (!c)) h
def qW {o} {t:TE} (h:PE X a t):PE X (.BoolOp o [a] pos) t:=λ p s U H Q I b=>BoolOp_one (h p s U H Q I b)
def uc (e:PE X a ta) (f:PE X (.BoolOp .And (b::rest) pos) tb):PE X (.BoolOp .And (a::b::rest) pos) (Qf ta tb):=by
 intro p s U H Q I h
 refine BoolOp_and (c7 (e p s U H _ I h) λ v S ⟨x,d,i,r,q⟩=>?_)
 obtain ⟨c,rfl,q⟩:=q
 cases r
 refine abA ?_
 cases c with
 | true=>exact f p S U d Q i q
 | false=>exact ⟨.bl false,d,i,rfl,q⟩
def Ko (e:PE X a ta) (f:PE X (.BoolOp .Or (b::rest) pos) tb):PE X (.BoolOp .Or (a::b::rest) pos) (T1 ta tb):=by
 intro p s U H Q I h
 refine BoolOp_or (c7 (e p s U H _ I h) λ v S ⟨x,d,i,r,q⟩=>?_)
 obtain ⟨c,rfl,q⟩:=q
 cases r
 refine abA ?_
 cases c with
 | false=>exact f p S U d Q i q
 | true=>exact ⟨.bl true,d,i,rfl,q⟩
def u4 (d:PE X a ta):PE X (.UnaryOp .Not a pos) (Nx ta):=by
 intro p s U H Q I h
 refine UnaryOp_ (c7 (d p s U H _ I h) λ v S ⟨x,b,i,r,q⟩=>?_)
 obtain ⟨c,rfl,q⟩:=q
 cases r
 exact not_of (abA ⟨.bl (!c),b,i,rfl,q⟩)
def Y4 (t:TT) (T tb:TE):TE:=λ U H Q=>t U H λ c h=>if c=true then T U h Q else tb U h Q
def jQ {c:Expr} (j:PT X c tA) (f:PE X a ta) (g:PE X b tb):PE X (.IfExp c a b pos) (Y4 tA ta tb):=by
 intro p s U H Q I h
 refine wpAny_IfExp (c7 (j p s U H _ I h) λ d S ⟨e,i,q⟩=>?_)
 cases d with
 | true=>exact f p S U e Q i q
 | false=>exact g p S U e Q i q
end
def aX (K:aE) (H:Hp) (a:am) (xs:aB):Prop :=
 Rd H a (.lst xs) \/
   ∃ (o:Obj) (b:Array aA) (n:Nat),K.lookup a=some o/\o.cls = .type "list"/\o.dict=none/\o.data = .seq b n/\b.size<=sizeLine/\Vals xs b.toList
def bY (K:aE) (H:Hp) (a:am) (xs:aB):Prop :=
 Rd H a (.tup xs) \/
   ∃ (o:Obj) (b:Array aA) (n:Nat),K.lookup a=some o/\o.cls = .type "tuple"/\o.data = .seq b n/\b.size<=sizeLine/\Vals xs b.toList
def Wb:aA->eL
 | .none=>some .cC
 | .bool b=>some (.bl b)
 | .int i _=>some (.int i)
 | .str x _=>some (.str x)
 | .bytes b _=>some (.ET b)
 | .float b _=>some (.KM b)
 | .ref a=>some (.ref a)
 | .type n=>some (.ty n)
 | _=>none
def RelV.abs {x:V} {u:aA} (r:RelV x u):Wb u=some x:=by
 cases x with
 | cC=>cases r;rfl
 | bl _=>cases r;rfl
 | int _=>obtain ⟨t,rfl⟩:=r;rfl
 | str _=>obtain ⟨t,rfl⟩:=r;rfl
 | ET _=>obtain ⟨t,rfl⟩:=r;rfl
 | KM _=>obtain ⟨t,rfl⟩:=r;rfl
 | ref _=>cases r;rfl
 | ty _=>cases r;rfl
def RelV.inj {x y:V} {u:aA} (r:RelV x u) (q:RelV y u):x=y:=aaq (r.abs.symm.trans q.abs)
theorem Vals.inj:∀ {xs ys:aB} {us:bM},Vals xs us->Vals ys us->xs=ys
 | _,_,_,.nil,.nil=>rfl
 | _,_,_,.cons r t,.cons R t'=>by rw [r.inj R,Vals.inj t t']
section
variable {X:Cx} {pins:List (am×Obj)} {U:St} {H:Hp} {s:Shared} {a:am} {xs ys:aB}
def aX.of {K:aE} (h:H a=some (.lst xs)):aX K H a xs:=.inl (.inl h)
def bY.of {K:aE} (h:H a=some (.tup xs)):bY K H a xs:=.inl (.inl h)
def Inv.list (I:Inv X pins U H s) (h:aX X.K H a xs):∃ b:bM,Vals xs b/\PlainL s.heap a b.toArray/\xs.length<=sizeLine:=by
 rcases h with h|⟨o,b,n,f,c,d,g,i,r⟩
 . obtain ⟨z,b,n,r,e⟩:=h.ok I.dF
   exact ⟨b,r,⟨_,n,e,rfl,rfl,rfl⟩,z⟩
 .
  refine ⟨b.toList,r,⟨o,n,I.sF a o f,c,d,by simpa using g⟩,?_⟩
  have e:=r.length
  simp only [acC] at e
  lia
def Inv.tuple (I:Inv X pins U H s) (h:bY X.K H a xs):∃ b:bM,Vals xs b/\IsTup s.heap a b.toArray/\xs.length<=sizeLine:=by
 rcases h with h|⟨o,b,n,d,c,f,g,r⟩
 . obtain ⟨z,b,r,p⟩:=h.ok I.dF
   exact ⟨b,r,p,z⟩
 .
  refine ⟨b.toList,r,⟨o,I.sF a o d,c,n,by simpa using f⟩,?_⟩
  have e:=r.length
  simp only [acC] at e
  lia
def Inv.pH (I:Inv X pins U H s) (h:aX X.K H a xs) (h':aX X.K H a ys):xs=ys:=by
 obtain ⟨b,r,⟨o,n,e,Z,Z,d⟩,Z⟩:=I.list h
 obtain ⟨i,R,⟨O,N,E,Z,Z,D⟩,Z⟩:=I.list h'
 rw [e] at E;cases E
 rw [d] at D
 injection D with d1 _
 have:b=i:=by simpa using abE Array.toList d1
 subst this
 exact r.inj R
def Inv.Dt (I:Inv X pins U H s) (h:bY X.K H a xs) (h':bY X.K H a ys):xs=ys:=by
 obtain ⟨b,r,⟨o,e,Z,n,d⟩,Z⟩:=I.tuple h
 obtain ⟨i,R,⟨O,E,Z,N,D⟩,Z⟩:=I.tuple h'
 rw [e] at E;cases E
 rw [d] at D
 injection D with d1 _
 have:b=i:=by simpa using abE Array.toList d1
 subst this
 exact r.inj R
end
abbrev Cx.oB (X:Cx) (E:aA->Shared->Prop):Cx:={ X with xe:=E }
abbrev Cx.EX (X:Cx):Cx:=X.oB λ _ _=>False
theorem Cx.Ok.oB {X:Cx} (ok:X.Ok) (E:aA->Shared->Prop):(X.oB E).Ok :=
 ⟨ok.mod,ok.kind,ok.glob,ok.blt,ok.above,ok.inj,ok.has,ok.QQ,ok.hd,ok.frames,ok.RU,ok.ZZ,ok.bs,ok.KO,ok.F6,ok.IU,ok.sI,ok.Me⟩
def Cx.Ok.lY {X:Cx} {E:aA->Shared->Prop} (ok:(X.oB E).Ok):X.Ok :=
 ⟨ok.mod,ok.kind,ok.glob,ok.blt,ok.above,ok.inj,ok.has,ok.QQ,ok.hd,ok.frames,ok.RU,ok.ZZ,ok.bs,ok.KO,ok.F6,ok.IU,ok.sI,ok.Me⟩
section
variable {X:Cx} {pins:List (am×Obj)} {U:St} {H:Hp} {s:Shared} {E:aA->Shared->Prop}
theorem Inv.oB (I:Inv X pins U H s) (E:aA->Shared->Prop):Inv (X.oB E) pins U H s:=⟨I.ok.oB E,I.os,I.bare,I.base,I.loc,I.cell,I.free,I.np,I.pin,I.dF,I.len⟩
theorem Inv.lY (I:Inv (X.oB E) pins U H s):Inv X pins U H s:=⟨I.ok.lY,I.os,I.bare,I.base,I.loc,I.cell,I.free,I.np,I.pin,I.dF,I.len⟩
theorem SP.lY {D:Ends} {f:Flow} (h:SP (X.oB E) pins D f s'):SP X pins D f s':=by
 cases f with
 | next=>obtain ⟨a,H,I,q⟩:=h;exact ⟨a,H,I.lY,q⟩
 | brk=>obtain ⟨a,H,I,q⟩:=h;exact ⟨a,H,I.lY,q⟩
 | cont=>obtain ⟨a,H,I,q⟩:=h;exact ⟨a,H,I.lY,q⟩
 | ret u=>obtain ⟨v,a,H,I,r,q⟩:=h;exact ⟨v,a,H,I.lY,r,q⟩
theorem vO.EX {st:List Stmt} {t:TS} (h:vO X.EX st t):vO X st t:=λ pins s U H D I a =>
 abB (h pins s U H D (I.oB _) a) (λ Z Z q=>q.lY) λ Z Z z=>False.elim z
end
section
variable {X:Cx} {st:Stmt} {rest:List Stmt} {t u:TS} {e:Expr} {te:TE} {pos:Pos}
def Oq:TS:=λ D U H=>D.nx U H
def bA (t u:TS):TS:=λ D U H=>t { D with nx:=u D } U H
def aJ:vO X [] Oq:=λ Z Z U H Z I h=>adl ⟨U,H,I,h⟩
def ai (c:PS X st t) (d:vO X rest u):vO X (st::rest) (bA t u):=by
 intro p s U H D I h
 refine wpAny_execs_cons (c7 (c p s U H { D with nx:=u D } I h) λ f S q=>?_)
 cases f with
 | next =>
   obtain ⟨a,b,i,q⟩:=q
   exact d p S a b D i q
 | ret v=>exact q
 | brk=>exact q
 | cont=>exact q
def ap (a:PS X st t):vO X [st] t:=by
 intro p s U H D I h
 refine wpAny_execs_cons (c7 (a p s U H D I h) λ f S q=>?_)
 cases f with
 | next=>exact adl q
 | ret v=>exact q
 | brk=>exact q
 | cont=>exact q
def Inv.quiet {p:List (am×Obj)} {s:Shared} (I:Inv X p U H s):interactive X.env=false:=by simp [interactive,I.ok.kind]
def P1 (t:TE):TS:=λ D U H=>t U H λ Z h=>D.nx U h
def bC (b:PE X e te) (c:autoParam (swapsWith e none pos.line X.env=pure false) za_._auto_1):PS X (.Expr e pos) (P1 te):=by
 intro p s U H D I h
 exact wpAny_Expr_any (c7 (b p s U H _ I h) λ v S ⟨x,a,i,r,q⟩=>⟨U,a,i,q⟩) I.quiet c
def X4 (t:TE):TS:=λ D U H=>t U H D.rt
def aH (b:PE X e te):PS X (.Return (some e) pos) (X4 te):=by
 intro p s U H D I h
 exact wpAny_Return_some (c7 (b p s U H _ I h) λ v S ⟨x,a,i,r,q⟩=>⟨x,U,a,i,r,q⟩)
def Ug (c:TT) (t u:TS):TS:=λ D U H=>c U H λ b h=>if b=true then t D U h else u D U h
def bB {c:Expr} {a b:List Stmt} {T:TT} (j:PT X c T) (f:vO X a t) (g:vO X b u):PS X (.If c a b pos) (Ug T t u):=by
 intro p s U H D I h
 refine wpAny_If (c7 (j p s U H _ I h) λ d S ⟨e,i,q⟩=>?_)
 cases d with
 | true=>exact f p S U e D i q
 | false=>exact g p S U e D i q
def L4:TS:=λ Z Z Z=>False
def cE:PS X st L4:=λ Z Z Z Z Z Z h=>h.elim
end
abbrev TG:=V->St->Hp->(St->Hp->Prop)->Prop
abbrev MU:=aB->St->Hp->(St->Hp->Prop)->Prop
def PG (X:Cx) (T:Expr) (t:TG):Prop :=
 ∀ (p:List (am×Obj)) (s:Shared) (U:St) (H:Hp) (v:V) (u:aA) (Q:St->Hp->Prop),Inv X p U H s->RelV v u->t v U H Q ->
   wpAny (model X.prog X.w) X.A (assign T X.env u) (λ Z s'=>∃ a h,Inv X p a h s'/\Q a h) X.xe s
def MZ (X:Cx) (T:List Expr) (t:MU):Prop :=
 ∀ (p:List (am×Obj)) (s:Shared) (U:St) (H:Hp) (v:aB) (u:bM) (Q:St->Hp->Prop),Inv X p U H s->Vals v u->t v U H Q ->
   wpAny (model X.prog X.w) X.A (assignInOrder ((assignEach T X.env).map (·.2)) u) (λ Z s'=>∃ a h,Inv X p a h s'/\Q a h) X.xe s
abbrev Hf:=V->V->V->Hp->(Hp->Prop)->Prop
def Ln (X:Cx) (t:Hf):Prop :=
 ∀ (p:List (am×Obj)) (s:Shared) (U:St) (H:Hp) (o i v:V) (O I u:aA) (Q:Hp->Prop),Inv X p U H s->RelV o O->RelV i I->RelV v u->t o i v H Q ->
   wpAny (model X.prog X.w) X.A (setItem O I u) (λ Z s'=>∃ h,Inv X p U h s'/\Q h) X.xe s
abbrev M4:=V->V->Hp->VK->Prop
def RJ (X:Cx) (o:Operator) (t:M4):Prop :=
 ∀ (p:List (am×Obj)) (s:Shared) (U:St) (H:Hp) (x y:V) (v u:aA) (Q:VK),Inv X p U H s->RelV x v->RelV y u->t x y H Q ->
   wpAny (model X.prog X.w) X.A (inplaceOp o v u) (EP X p U Q) X.xe s
section
variable {X:Cx} {pos:Pos}
def tW (i:Nat):TG:=λ v U H Q=>Q (U.set i (some v)) H
def CN {i:Nat} {x:Str} (b:X.N.Nodup) (hi:X.N[i]?=some x) (d:Loc X.env.scope x) (c:autoParam (Re X x) zd_._auto_1):PG X (.Name x pos) (tW i):=by
 intro p s U H v u Q I r h
 exact wpAny_assign_Name (ub I b hi d r (λ s' a=>⟨_,H,a,h⟩) c)
def X9:MU:=λ v U H Q=>v=[]/\Q U H
inductive Ps (t:TG) (u:MU) (vs:aB) (U:St) (H:Hp) (Q:(St->Hp->Prop)):Prop|mk (v r:_) (_:vs=v::r) (_:t v U H λ σ' H'=>u r σ' H' Q)
def cZ:MZ X [] X9:=by
 intro p s U H v u Q I r h
 obtain ⟨e,h⟩:=h
 subst e
 cases r
 exact assignInOrder_nil ⟨U,H,I,h⟩
def aP {e:Expr} {t:TG} {u:MU} (c:PG X e t) (d:MZ X es u) (f:autoParam ((assignEach (e::es) X.env).map (·.2)=assign e X.env::(assignEach es X.env).map (·.2)) za_._auto_1):MZ X (e::es) (Ps t u):=by
 intro p s U H j g Q I r h
 obtain ⟨v,V,E,h⟩:=h
 subst E
 cases r with
 | cons r R =>
   rw [f]
   refine assignInOrder_cons (c7 (c p s U H _ _ _ I r h) λ Z S ⟨a,b,i,q⟩=>?_)
   exact d p S a b _ _ Q i R q
inductive Pq (K:aE) (n:Nat) (t:MU) (v:V) (U:St) (H:Hp) (Q:(St->Hp->Prop)):Prop|mk (a xs:_) (_:v = .ref a) (_:bY K H a xs) (_:xs.length=n) (_:t xs U H Q)
def Lx {k:Nat} {t:MU} {n:Nat} (f:X.calm=true) (h:MZ X es t) (j:autoParam ((assignEach es X.env).length=n) za_._auto_1) (J:autoParam ((assignEach es X.env).findIdx? (·.1)=none) za_._auto_1):PG X (.Tuple es k pos) (Pq X.K n t):=by
 intro p s U H v u Q I r c
 obtain ⟨a,x,E,l,g,c⟩:=c
 subst E
 cases r
 obtain ⟨B,R,m,w⟩:=I.tuple l
 refine assign_Tuple_tuple (I.ok.hd f) m (by simp [j,<- g,R.length]) J λ d q=>?_
 have i:Inv X p U H { s with heap:=d }:=I.kept (t':=s.toks) λ b o e=>q b o (aaO (aav e)) e
 exact h p _ U H x _ Q i (by simpa using R) c
def X7 (c T:TE) (t:Hf):TG:=λ v U H Q=>c U H λ o h=>T U h λ i a=>t o i v a λ b=>Q U b
def xR {o i:Expr} {t:Hf} (k:PE X o to) (hi:PE X i ti) (l:Ln X t) (j:∀ v,assign (.Subscript o i pos) X.env v=(do
     let O <- holding [v] (eval o X.env)
     let a <- holding [v,O] (eval i X.env)
     standAt pos
     holding [v,O,a] (setItem O a v)
     release [v,O,a] []):=by intro Z;rfl):PG X (.Subscript o i pos) (X7 to ti t):=by
 intro p s U H v u Q I r h
 rw [j]
 refine aaa (abN (c7 (k p s U H _ I h) λ O S ⟨x,b,e,R,q⟩=>?_))
 refine aaa (abN (c7 (hi p S U b _ e q) λ a z ⟨y,c,f,w,m⟩=>?_))
 refine aaa (wpAny_standAt (aaa (abN (c7 (l p z U c x y v O a u _ f R w r m) λ Z A ⟨d,g,n⟩=>?_))))
 exact wpAny_release ⟨U,d,g,n⟩
def F0 (t:TE) (g:TG):TS:=λ D U H=>t U H λ x h=>g x U h D.nx
def iW {e:Expr} (c:PE X e te) (d:PG X tg g) (f:autoParam (swapsWithSole [tg] e pos.line X.env=pure false) za_._auto_1) (hw:autoParam (swappedStores [tg] e X.env=pure none) za_._auto_1) (b:autoParam ((assignEach [tg] X.env).map (·.2)=[assign tg X.env]) za_._auto_1):PS X (.Assign [tg] e pos) (F0 te g):=by
 intro p s U H D I h
 refine wpAny_Assign_stores (c7 (c p s U H _ I h) λ v S ⟨x,a,i,r,Q⟩=>?_) f hw
 rw [b]
 exact c7 (d p S U a x v _ i r Q) λ Z j q=>q
def My {i:Nat} {x:Str} {e:Expr} (d:X.N.Nodup) (hi:X.N[i]?=some x) (k:Loc X.env.scope x) (f:PE X e te) (j:autoParam (swapsWith e (some (.Name x pos')) pos.line X.env=pure false) za_._auto_1) (g:autoParam (Re X x) zd_._auto_1) :
   PS X (.Assign [.Name x pos'] e pos) (F0 te (tW i)):=by
 intro p s U H D I h
 refine wpAny_Assign_Name (c7 (f p s U H _ I h) λ v S ⟨y,a,b,r,q⟩=>?_) j
 exact ub b d hi k r (λ l c=>⟨_,a,c,q⟩) g
def US (i:Nat) (t:TE) (T:M4):TS:=λ D U H=>∃ x,U[i]?=some (some x)/\t U H λ y h=>T x y h λ z a=>D.nx (U.set i (some z)) a
def Le {i:Nat} {x:Str} {e:Expr} {o:Operator} {t:M4} (C:X.N.Nodup) (hi:X.N[i]?=some x) (d:Loc X.env.scope x) (J:PE X e te) (Q:RJ X o t) (K:autoParam (Re X x) zd_._auto_1) :
   PS X (.AugAssign (.Name x pos') o e pos) (US i te t):=by
 intro p s U H D I h
 obtain ⟨v,E,h⟩:=h
 obtain ⟨m,O,L⟩:=I.loc
 have T:Qd X.env.scope x:=by rcases d with k|k;exact .inl k;exact .inr (.inl k)
 obtain ⟨u,r,l⟩:=L i x v hi E T
 refine wpAny_AugAssign_Name ?_
 have g:wpAny (model X.prog X.w) X.A (eval e X.env) (λ w S=>wpAny (model X.prog X.w) X.A (inplaceOp o u w) (λ r b=>wpAny (model X.prog X.w) X.A (storeName X.env x r) (λ Z=>SP X p D .next) X.xe b) X.xe S) X.xe s:=by
   refine c7 (J p s U H _ I h) λ w s1 ⟨y,f,n,W,R⟩=>?_
   refine c7 (Q p s1 U f v y u w _ n r W R) λ z s2 ⟨zv,j,q,Y,V⟩=>?_
   exact ub q C hi d Y (λ s3 B=>⟨_,j,B,V⟩) K
 rcases l with ⟨a,M⟩|⟨a,c,F,G⟩
 . exact wpAny_loadName_local I.ok.kind a O M g
 .
  rcases a with a|a
  . exact wpAny_loadName_cell I.ok.kind a F G g
  .
   rcases d with k|k
   . have:X.env.scope.names.lookup x=some .free:=a
     rw [k] at this;cases this
   . have:X.env.scope.names.lookup x=some .free:=a
     rw [k] at this;cases this
def Ql (f T t:TE) (J:V->V->Hp->VK->Prop) (S:M4) (j:Hf):TS:=λ D U H=>f U H λ o h=>T U h λ i a=>J o i a λ x b=>t U b λ y c=>S x y c λ z d=>j o i z d λ e=>D.nx U e
def RB (X:Cx) (t:V->V->Hp->VK->Prop):Prop :=
 ∀ (p:List (am×Obj)) (s:Shared) (U:St) (H:Hp) (o i:V) (O I:aA) (Q:VK),Inv X p U H s->RelV o O->RelV i I->t o i H Q ->
   wpAny (model X.prog X.w) X.A (getItem O I) (EP X p U Q) X.xe s
def JI {o i e:Expr} {J:V->V->Hp->VK->Prop} {S:M4} {j:Hf} {c:Operator} {L:Pos} (F:PE X o to) (hi:PE X i ti) (E:RB X J) (C:PE X e te) (G:RJ X c S) (K:Ln X j) (B:∀ O a n,augStore i O a n=(do holding [n,O,a] (setItem O a n);release [n,O,a] [];pure .next):=by intros;rfl):PS X (.AugAssign (.Subscript o i L) c e pos) (Ql to ti te J S j):=by
 intro p s U H D I h
 refine wpAny_AugAssign_SubscriptAny (c7 (F p s U H _ I h) λ O s1 ⟨x,f,t,r,Q⟩=>?_) B
 refine c7 (hi p s1 U f _ t Q) λ a s2 ⟨d,g,u,R,M⟩=>?_
 refine c7 (E p s2 U g x d O a _ u r R M) λ b s3 ⟨x3,k,w,r3,N⟩=>?_
 refine c7 (C p s3 U k _ w N) λ v s4 ⟨x4,l,y,r4,T⟩=>?_
 refine c7 (G p s4 U l x3 x4 b v _ y r3 r4 T) λ n s5 ⟨x5,m,z,r5,W⟩=>?_
 exact c7 (K p s5 U m x d x5 O a n _ z r R r5 W) λ Z s6 ⟨q,A,Y⟩=>⟨U,q,A,Y⟩
def Yr (f:Int->Int->Int):M4:=λ x y H Q=>∃ i j,x = .int i/\y = .int j/\Q (.int (f i j)) H
def Mn:RJ X .Add (Yr λ i j=>i+j):=by
 intro p s U H x y v u Q I r R h
 obtain ⟨i,j,e,E,q⟩:=h
 subst e;subst E
 obtain ⟨t,rfl⟩:=r
 obtain ⟨t',rfl⟩:=R
 exact iadd_int ⟨.int _,H,I.tok _,⟨_,rfl⟩,q⟩
def K7:RJ X .Sub (Yr λ i j=>i - j):=by
 intro p s U H x y v u Q I r R h
 obtain ⟨i,j,e,E,q⟩:=h
 subst e;subst E
 obtain ⟨t,rfl⟩:=r
 obtain ⟨t',rfl⟩:=R
 exact isub_int ⟨.int _,H,I.tok _,⟨_,rfl⟩,q⟩
end
section
variable {X:Cx} {pos:Pos}
def LW (c:TT) (tb:TS):TS:=λ D U H=>∃ W:Nat->St->Hp->Prop,(∃ m,W m U H)/\∀ m U H,W m U H ->
 c U H λ b d=>if b=true then ∃ N:St->Hp->Prop,(∀ a h,N a h->∃ M,M<m/\W M a h)/\tb { D with nx:=N,ct:=N,bk:=D.nx } U d else D.nx U d
def oW {c:Expr} {B:List Stmt} {T:TT} (z:PassesOwn (model X.prog X.w) X.A X.env X.xe) (F:PT X c T) (E:vO X B tb):PS X (.While c B [] pos) (LW T tb):=by
 intro p s U H D I h
 obtain ⟨W,⟨M,J⟩,t⟩:=h
 refine wpAny_While (codeAny_whileLoop (λ n s'=>∃ g o,Inv X p g o s'/\W n g o) ?_ M ⟨U,H,I,J⟩)
 rintro n S ⟨d,r,C,K⟩
 refine acd z (c7 (F p S d r _ C (t n d r K)) λ b G ⟨u,x,q⟩=>?_)
 cases b with
 | true =>
   obtain ⟨N,y,q⟩:=q
   rw [aau rfl]
   refine acd z (c7 (E p G d u _ x q) λ f L Q=>?_)
   cases f with
   | next =>
     obtain ⟨a,e,i,k⟩:=Q
     obtain ⟨m,j,l⟩:=y a e k
     exact ⟨m,j,a,e,i,l⟩
   | cont =>
     obtain ⟨a,e,i,k⟩:=Q
     obtain ⟨m,j,l⟩:=y a e k
     exact ⟨m,j,a,e,i,l⟩
   | brk=>exact Q
   | ret v=>exact Q
 | false =>
   rw [aax aaC]
   exact adl ⟨d,u,x,q⟩
end
structure It where
 go:Nat->Hp->Prop
 HC:Nat->Hp->V->Hp->Prop
 stop:Nat->Hp->Prop
def vw (X:Cx) (a:List (am×Obj)) (H:Hp) (b:am):Prop :=
 H b=none/\b≠X.env.locals/\b∉X.fs/\(b∈X.ex\/X.s₀.heap.objs.size<=b)/\(∀ x c,X.env.cells.lookup x=some c->c≠b)/\∀ p∈X.pn++a,p.1≠b
def Inv.zZ {X:Cx} {a:List (am×Obj)} {d:Hp} {s:Shared} {b:am} (I:Inv X a U H s) (h:s.heap.objs.size<=b) (f:d b=none):vw X a d b:=by
 refine ⟨f,aci (aaw I.lt h),I.Wr h,.inr (aaA I.sz h),λ x c e z=>?_,λ p g z=>?_⟩
 . obtain ⟨v,q⟩:=I.cell x c e
   exact absurd (aaw q.lt (by rw [z];exact h)) (abG _)
 . exact absurd (aaw (aav (I.pin p g).1) (by rw [z];exact h)) (abG _)
structure Turn (P:bD) (w:bz) (K:aE) (tg:Expr) (J:It) (fp:bJ) (it:am) (tn:Nat->bE->Prop):Prop where
 mem:it∈fp
 obj:∀ i h,tn i h->∀ b∈fp,∃ o,h.get? b=some o/\∀ v,o.data ≠ .cell v
 keep:∀ i h h',tn i h->(∀ b∈fp,∀ o,h.get? b=some o->h'.get? b=some o)->tn i h'
 item:∀ (X:Cx),X.prog=P->X.w=w->X.K=K->X.calm=true->∀ (i:Nat) (pins:List (am×Obj)) (s:Shared) (U:St) (H:Hp) (E:aA->Shared->Prop),Inv X pins U H s->(∀ b∈fp,vw X pins H b)->tn i s.heap->J.go i H ->
   wpAny (model P w) X.A (pyNext (.ref it)) (λ r s1=>∃ u,r=some u /\
     wpAny (model P w) X.A (letOwnedTupleGo tg (.ref it) u) (λ _ s2=>∃ x H',Inv X pins U H' s2/\RelV x u/\J.HC i H x H'/\tn (i+1) s2.heap/\∀ b∈fp,H' b=none) E s1) E s
 done:∀ (X:Cx),X.prog=P->X.w=w->X.K=K->X.calm=true->∀ (i:Nat) (pins:List (am×Obj)) (s:Shared) (U:St) (H:Hp) (E:aA->Shared->Prop),Inv X pins U H s->(∀ b∈fp,vw X pins H b)->tn i s.heap->J.stop i H ->
   wpAny (model P w) X.A (pyNext (.ref it)) (λ r s1=>r=none/\Inv X pins U H s1) E s
 self:∀ (A:Around) (i:Nat) (s:Shared) (Q:aA->Shared->Prop) (E:aA->Shared->Prop),tn i s.heap->Q (.ref it) s->wpAny (model P w) A (pyIter (.ref it)) Q E s
abbrev TI:=St->Hp->(It->Hp->Prop)->Prop
def YL (X:Cx) (p:List (am×Obj)) (U:St) (T:Expr) (R:It->Hp->Prop) (u:aA) (s:Shared):Prop :=
 ∃ (i:am) (f:bJ) (t:Nat->bE->Prop) (J:It) (H:Hp),u = .ref i/\Inv X p U H s/\Turn X.prog X.w X.K T J f i t/\t 0 s.heap/\(∀ b∈f,vw X p H b)/\R J H
def PI (X:Cx) (t i:Expr) (W:TI):Prop :=
 ∀ (p:List (am×Obj)) (s:Shared) (U:St) (H:Hp) (R:It->Hp->Prop),Inv X p U H s->W U H R ->
   wpAny (model X.prog X.w) X.A (eval i X.env) (λ v S=>wpAny (model X.prog X.w) X.A (pyIter v) (YL X p U t R) X.xe S) X.xe s
def Ku {M:Model} {A:Around} {E:aA->Shared->Prop} {s:Shared} {i:am} {u:aA} {o:Obj} {n:String} {vs:Array aA} {Q:Unit->Shared->Prop} (d:s.heap.get? i=some o) (a:o.cls = .type n) (b:o.data = .fields vs) (c:["enumerate","zip","dict_itemiterator","dict_reverseitemiterator","odict_iterator","itertools.zip_longest","itertools.pairwise"].contains n=false) (H:Q () s):wpAny M A (letOwnedTupleGo tg (.ref i) u) Q E s:=by
 unfold letOwnedTupleGo
 cases tg<;>first
   | exact aao H
   | (cases u<;>first
       | exact aao H
       | (refine aaa (wpAny_load d ?_)
          rw [a,b]
          show wpAny M A (if (["enumerate","zip","dict_itemiterator","dict_reverseitemiterator","odict_iterator","itertools.zip_longest","itertools.pairwise"].contains n && vs[0]? == some (rawInt _))=true then _ else _) Q E s
          rw [aax (by intro h;rw [c,adN] at h;cases h)]
          exact aao H))
def Kg (K:aE) (a:am):It :=
 ⟨λ i H=>∃ X x,aX K H a X/\X[i]?=some x,λ i H x h=>h=H/\∀ X,aX K H a X->X[i]?=some x,λ i H=>∃ X,aX K H a X/\X.length<=i⟩
def Iq (lo:Int) (n:Nat):It:=⟨λ i Z=>i<n,λ i H x h=>h=H/\x = .int (lo+i),λ i Z=>n<=i⟩
def D8 {P:bD} {w:bz} {K:aE} (a j:am):Turn P w K tg (Kg K a) [j] j (λ i h=>h.IsListIter j a i) where
 mem:=by simp
 obj:=λ i h S b g=>by
   have e:b=j:=by simpa using g
   subst e
   obtain ⟨o,e,c,d⟩:=S
   exact ⟨o,e,λ v z=>by rw [d] at z;cases z⟩
 keep:=λ i h l S k=>S.at λ o e=>k j (by simp) o e
 item:=by
   intro X B D A L i f s U H E I m S C
   subst B D A
   obtain ⟨xs,x,n,G⟩:=C
   obtain ⟨N,R,p,W⟩:=I.list n
   obtain ⟨u,T,Y⟩:=R.get G
   obtain ⟨F,q,Q,r,t,y⟩:=m j (by simp)
   refine wpAny_pyNext_list_item S p.isList (x:=u) (by simpa using T) λ l J sb=>?_
   have M:Inv X f U H { s with heap:=l }:=I.turned (t':=s.toks) (λ b o g e=>(sb.2 b g).trans e) F q r t y
   obtain ⟨o,e,c,d⟩:=id J
   exact ⟨u,rfl,Ku (s:={ s with heap:=l }) e c d (by decide) ⟨x,H,M,Y,⟨rfl,λ ys V=>by rw [I.pH V n];exact G⟩,J,λ b g=>(m b g).1⟩⟩
 done:=by
   intro X B D A L i f s U H E I m S C
   subst B D A
   obtain ⟨xs,n,G⟩:=C
   obtain ⟨N,R,p,W⟩:=I.list n
   obtain ⟨F,q,Q,r,t,y⟩:=m j (by simp)
   have hl:=R.length
   exact wpAny_pyNext_list_end (I.ok.hd L) S p.isList (by simp;lia) λ l O=>⟨rfl,I.turned (t':=s.toks) (λ b o g e=>O b o g e) F q r t y⟩
 self:=λ Z Z Z Z Z S h=>wpAny_pyIter_listiter S h
def BH {P:bD} {w:bz} {K:aE} (a:am) (lo:Int) (n:Nat):Turn P w K tg (Iq lo n) [a] a (λ i h=>IsRangeIter h a (lo+(i:Nat) * 1) ((n:Int) - (i:Nat)) 1) where
 mem:=by simp
 obj:=λ i h S b c=>by
   have e:b=a:=by simpa using c
   subst e
   exact ⟨_,S,λ v z=>by
     have L:Data.fields _=Data.cell v:=z
     cases L⟩
 keep:=λ i h d S k=>k a (by simp) _ S
 item:=by
   intro X r y q u i p s U H E I f S x
   subst r y q
   obtain ⟨F,g,D,j,l,m⟩:=f a (by simp)
   have W:=Walks.range (prog:=X.prog) (w:=X.w) (I.ok.hd u) a lo 1 n
   refine W.item i s _ _ x S λ v d T G A J=>?_
   obtain ⟨t,rfl⟩:=G
   have B:Inv X p U H { s with heap:=d,toks:=T }:=I.turned (λ b o c e=>J b o (by simpa using c) e) F g j l m
   refine ⟨_,rfl,Ku (s:={ s with heap:=d,toks:=T }) (n:="range_iterator") A rfl rfl (by decide) ⟨.int (lo+i),H,B,⟨t,?_⟩,⟨rfl,rfl⟩,A,λ b c=>(f b c).1⟩⟩
   rw [Int.mul_one]
 done:=by
   intro X r y q u i p s U H E I f S x
   subst r y q
   obtain ⟨F,g,D,j,l,m⟩:=f a (by simp)
   exact wpAny_pyNext_range_end (I.ok.hd u) S (by have:n<=i:=x;lia) λ d C=>⟨rfl,I.turned (t':=s.toks) (λ b o c e=>C b o c e) F g j l m⟩
 self:=λ Z Z Z Z Z S h=>wpAny_pyIter_rangeiter S h
section
variable {X:Cx} {tg:Expr}
inductive Wc (K:aE) (R:It->Hp->Prop) (x:V) (H1:Hp):Prop|mk (a:am) (h1:x = .ref a) (h2:∃ xs,aX K H1 a xs) (q:R (Kg K a) H1)
def Ki (K:aE) (t:TE):TI:=λ U H R=>t U H (Wc K R)
def cf {l:Expr} {t:TE} (g:PE X l t):PI X tg l (Ki X.K t):=by
 intro c s U H R I h
 refine c7 (g c s U H _ I h) λ v S ⟨x,d,i,r,Q⟩=>?_
 obtain ⟨a,e,⟨n,j⟩,q⟩:=Q
 subst e
 cases r
 obtain ⟨B,m,p,k⟩:=i.list j
 refine wpAny_pyIter_list p.isList ?_
 refine ⟨S.heap.objs.size,[S.heap.objs.size],_,_,d,rfl,i.kept (t':=S.toks) λ b o e=>aal _ e,D8 a _,⟨_,aaR _ rfl,rfl,rfl⟩,λ b f=>?_,q⟩
 have e:b=S.heap.objs.size:=by simpa using f
 subst e
 exact i.zZ (aak _) (i.dF.fresh (aak _))
def Fc {p:List (am×Obj)} {s:Shared} {R:It->Hp->Prop} {E:aA->Shared->Prop} {lo hi:Int} {t u v:Tok} {T:Nat} (I:Inv X p U H s) (h : -(2 ^ 62)<=lo) (d:lo<2 ^ 62) (f : -(2 ^ 62)<=hi) (g:hi<2 ^ 62) (q:R (Iq lo (hi - lo).toNat) H):wpAny (model X.prog X.w) X.A (pyIter (.ref s.heap.objs.size)) (YL X p U tg R) E { s with heap:=s.heap.push { cls:=.type "range",data:=.fields #[.int lo t,.int hi u,.int 1 v]},toks:=T }:=by
 refine wpAny_pyIter_range (IsRange.new ..) (small_one h d f g) ?_
 have i:Inv X p U H { s with heap:=s.heap.push { cls:=.type "range",data:=.fields #[.int lo t,.int hi u,.int 1 v]},toks:=T }:=I.kept λ b o e=>aal _ e
 refine ⟨(s.heap.push { cls:=.type "range",data:=.fields #[.int lo t,.int hi u,.int 1 v]}).objs.size,[(s.heap.push { cls:=.type "range",data:=.fields #[.int lo t,.int hi u,.int 1 v]}).objs.size],_,_,H,rfl,
   i.kept (t':=T) λ b o e=>aal _ e,BH _ lo (hi - lo).toNat,?_,λ b j=>?_,q⟩
 .
  have a:lo+((0:Nat):Int) * 1=lo:=by simp
  have c:(((hi - lo).toNat:Nat):Int) - ((0:Nat):Int)=Builtin.Range.rangeSize lo hi 1:=by rw [rangeSize_one];split<;>lia
  show IsRangeIter _ _ (lo+((0:Nat):Int) * 1) ((((hi - lo).toNat:Nat):Int) - ((0:Nat):Int)) 1
  rw [a,c]
  exact aaR _ rfl
 . have e:b=(s.heap.push { cls:=.type "range",data:=.fields #[.int lo t,.int hi u,.int 1 v]}).objs.size:=by simpa using j
   subst e
   exact i.zZ (aak _) (i.dF.fresh (aak _))
inductive W3 (R:It->Hp->Prop) (vs:aB) (H1:Hp):Prop|mk (j:Int) (h1:vs=[.int j]) (h2 : -(2 ^ 62)<=j) (h3:j<2 ^ 62) (q:R (Iq 0 j.toNat) H1)
def QM (t:TA):TI:=λ U H R=>t U H (W3 R)
def cg {a:Expr} {T:TA} {p c:Pos} (f:Gl X "range") (g:X.mg "range" = none) (d:PA X [a] T) (k:autoParam (starEach [a] X.env=[(false,eval a X.env)]) za_._auto_1):PI X tg (.Call (.Name "range" p) [a] [] c) (QM T):=by
 intro b s U H R I h
 refine Call_ (jv I f g boot_range (abc (c7 (d c b s U H _ I h) λ u S ⟨v,o,i,m,Q⟩=>?_) k rfl))
 obtain ⟨j,e,Q,l,q⟩:=Q
 subst e
 cases m with
 | cons r n =>
   cases n
   obtain ⟨t,rfl⟩:=r
   exact call_range_1 (Fc i (by lia) (by lia) Q l (by simpa using q))
def Wp (w:TI) (g:TG) (tb:TS):TS:=λ D U H=>w U H λ J c=>∃ W:Nat->Nat->St->Hp->Prop,(∃ m,W 0 m U c)/\∀ i m U H,W i m U H ->
 (J.stop i H/\D.nx U H)\/(J.go i H/\∃ N:St->Hp->Prop,(∀ a h,N a h->∃ M,M<m/\W (i+1) M a h)/\∀ x h,J.HC i H x h->g x U h λ b d=>tb { D with nx:=N,ct:=N,bk:=D.nx } b d)
def uP (f:bJ) (h:bE):List (am×Obj):=f.filterMap λ b=>(h.get? b).map λ o=>(b,o)
def kI {f:bJ} {h:bE} {b:am} {o:Obj} (H:b∈f) (e:h.get? b=some o):(b,o)∈uP f h:=aer.mpr ⟨b,H,by rw [e];rfl⟩
def DB {f:bJ} {h:bE} {p:am×Obj} (a:p∈uP f h):p.1∈f/\h.get? p.1=some p.2:=by
 obtain ⟨b,H,e⟩:=aer.mp a
 cases q:h.get? b with
 | none=>rw [q] at e;cases e
 | some o =>
   rw [q] at e
   have E:(b,o)=p:=aaq e
   subst E
   exact ⟨H,q⟩
def Inv.pinned {a:List (am×Obj)} {s:Shared} {f:bJ} (I:Inv X a U H s) (i:∀ b∈f,vw X a H b) (j:∀ b∈f,∃ o,s.heap.get? b=some o/\∀ v,o.data ≠ .cell v):Inv X (a++uP f s.heap) U H s :=
 I.C6 λ p k=>(aaz.mp k).elim (λ z=>I.pin p (aaP _ z)) λ z=>by
   obtain ⟨h,e⟩:=DB z
   obtain ⟨F,c,g,Z⟩:=i p.1 h
   obtain ⟨o,E,d⟩:=j p.1 h
   rw [e] at E;cases E
   exact ⟨e,F,c,g,d⟩
def Inv.pi {a pl:List (am×Obj)} {s:Shared} (I:Inv X (a++pl) U H s):Inv X a U H s:=I.C6 λ p h=>I.pin p (aaP _ (aa4 _ h))
def c6 {q:Expr} {B:List Stmt} {wi:TI} {V:Pos} (z:PassesOwn (model X.prog X.w) X.A X.env X.xe) (hc:X.calm=true) (hi:PI X tg q wi) (hg:PG X tg g) (l:vO X B tb) (hs:∀ x,foldedSetIterable q X.env x=pure x:=by intro _;rfl):PS X (.For tg q B [] V) (Wp wi g tb):=by
 intro p s U H D I h
 refine wpAny_For (c7 (hi p s U H _ I h) λ v s1 h1=>c7 h1 λ Ue s2 h2=>?_) hs
 obtain ⟨it,F,tn,J,H2,e,I2,T,RK,f2,W,⟨m0,w0⟩,G⟩:=h2
 subst e
 have O:∀ {H':Hp},(∀ b∈F,H' b=none)->∀ b∈F,vw X p H' b:=λ hn b l=>⟨hn b l,(f2 b l).2⟩
 refine codeAny_forLoop_any (λ n s'=>∃ i t H',Inv X p t H' s'/\tn i s'.heap/\(∀ b∈F,H' b=none)/\W i n t H') ?_ m0 ⟨0,U,H2,I2,RK,λ b l=>(f2 b l).1,w0⟩
 rintro n s3 ⟨i,y,K,I3,Zh,Yl,w3⟩
 rcases G i n y K w3 with ⟨E,qn⟩|⟨go,N,hN,S⟩
 . refine acd z (c7 (T.done X rfl rfl rfl hc i p s3 y K X.xe I3 (O Yl) Zh E) λ r s4 ⟨R,I4⟩=>?_)
   subst R
   exact adl ⟨y,K,I4,qn⟩
 .
  refine acd z (c7 (T.item X rfl rfl rfl hc i p s3 y K X.xe I3 (O Yl) Zh go) λ r s4 ⟨u,R,h4⟩=>?_)
  subst R
  refine acd z (c7 h4 λ _ s5 ⟨x,H5,I5,r5,y5,M,RI⟩=>?_)
  have L:=I5.pinned (O RI) (T.obj _ _ M)
  refine acd z (c7 (hg _ s5 y H5 x u _ L r5 (S x H5 y5)) λ _ s6 ⟨ab,H6,I6,q6⟩=>?_)
  refine acd z (c7 (l _ s6 ab H6 _ I6 q6) λ f Y Q=>?_)
  have k:∀ {a:St} {c:Hp},Inv X (p++uP F s5.heap) a c Y->N a c->∃ m,m<n/\∃ i t H',Inv X p t H' Y/\tn i Y.heap/\(∀ b∈F,H' b=none)/\W i m t H':=λ {a c} j C=>by
    obtain ⟨m',hm,w7⟩:=hN a c C
    refine ⟨m',hm,i+1,a,c,j.pi,T.keep _ _ _ M λ b l o e=>(j.pin (b,o) (aaP _ (aaP _ (kI l e)))).1,λ b l=>?_,w7⟩
    obtain ⟨o,e,d⟩:=T.obj _ _ M b l
    exact (j.pin (b,o) (aaP _ (aaP _ (kI l e)))).2.1
  cases f with
  | next=>obtain ⟨a,c,j,C⟩:=Q;exact k j C
  | cont=>obtain ⟨a,c,j,C⟩:=Q;exact k j C
  | brk=>obtain ⟨a,c,j,Q⟩:=Q;exact ⟨a,c,j.pi,Q⟩
  | ret v=>obtain ⟨x7,a,c,j,r7,Q⟩:=Q;exact ⟨x7,a,c,j.pi,r7,Q⟩
end
def jP {K:aE} {a:am} {xs:aB} {D:Ends} (b:Nat->St->Hp->Prop) (h0:b 0 U H) (k:∀ i U H,i<=xs.length->b i U H->aX K H a xs) (l:∀ i x U H,xs[i]?=some x->b i U H->g x U H λ d f=>tb { D with nx:=b (i+1),ct:=b (i+1),bk:=D.nx } d f) (j:∀ U H,b xs.length U H->D.nx U H) :
   ∃ W:Nat->Nat->St->Hp->Prop,(∃ m,W 0 m U H)/\∀ i m U H,W i m U H ->
     ((Kg K a).stop i H/\D.nx U H)\/((Kg K a).go i H/\∃ N:St->Hp->Prop,(∀ c h,N c h->∃ m',m'<m/\W (i+1) m' c h)/\∀ x h,(Kg K a).HC i H x h->g x U h λ d f=>tb { D with nx:=N,ct:=N,bk:=D.nx } d f):=by
 refine ⟨λ i m U H=>m=xs.length - i/\i<=xs.length/\b i U H,⟨xs.length,by simp,aaZ _,h0⟩,?_⟩
 rintro i m U H ⟨rfl,hi,p⟩
 have q:=k i U H hi p
 by_cases n:i<xs.length
 .
  refine .inr ⟨⟨xs,xs[i],q,by simp [n]⟩,b (i+1),λ c h o=>⟨xs.length - (i+1),by lia,rfl,n,o⟩,λ x h y=>?_⟩
  obtain ⟨e,y⟩:=y
  subst e
  exact l i x U _ (y xs q) p
 . have e:i=xs.length:=by lia
   subst e
   exact .inl ⟨⟨xs,q,aak _⟩,j U H p⟩
def wG {lo:Int} {n:Nat} {D:Ends} (a:Nat->St->Hp->Prop) (h0:a 0 U H) (k:∀ i U H,i<n->a i U H->g (.int (lo+i)) U H λ c d=>tb { D with nx:=a (i+1),ct:=a (i+1),bk:=D.nx } c d) (j:∀ U H,a n U H->D.nx U H) :
   ∃ W:Nat->Nat->St->Hp->Prop,(∃ m,W 0 m U H)/\∀ i m U H,W i m U H ->
     ((Iq lo n).stop i H/\D.nx U H)\/((Iq lo n).go i H/\∃ N:St->Hp->Prop,(∀ b h,N b h->∃ m',m'<m/\W (i+1) m' b h)/\∀ x h,(Iq lo n).HC i H x h->g x U h λ c d=>tb { D with nx:=N,ct:=N,bk:=D.nx } c d):=by
 refine ⟨λ i m U H=>m=n - i/\i<=n/\a i U H,⟨n,by simp,aaZ _,h0⟩,?_⟩
 rintro i m U H ⟨rfl,hi,p⟩
 by_cases f:i<n
 .
  refine .inr ⟨f,a (i+1),λ b h l=>⟨n - (i+1),by lia,rfl,f,l⟩,λ x h y=>?_⟩
  obtain ⟨e,y⟩:=y
  subst e y
  exact k i U _ f p
 . have e:i=n:=by lia
   subst e
   exact .inl ⟨aak _,j U H p⟩
abbrev R2:=V->V->Hp->VK->Prop
def jo (X:Cx) (f:aA->aA->Sem aA) (r:R2):Prop :=
 ∀ (p:List (am×Obj)) (s:Shared) (U:St) (H:Hp) (x y:V) (v u:aA) (Q:VK),Inv X p U H s->RelV x v->RelV y u->r x y H Q ->
   wpAny (model X.prog X.w) X.A (f v u) (EP X p U Q) X.xe s
def SQ (X:Cx) (f:aA->Sem aA) (r:V->Hp->VK->Prop):Prop :=
 ∀ (p:List (am×Obj)) (s:Shared) (U:St) (H:Hp) (x:V) (v:aA) (Q:VK),Inv X p U H s->RelV x v->r x H Q ->
   wpAny (model X.prog X.w) X.A (f v) (EP X p U Q) X.xe s
def iJ (X:Cx) (f:aA) (r:aB->Hp->VK->Prop):Prop :=
 ∀ (p:List (am×Obj)) (s:Shared) (U:St) (H:Hp) (x:aB) (u:bM) (Q:VK),Inv X p U H s->Vals x u->r x H Q ->
   wpAny (model X.prog X.w) X.A (call f u) (EP X p U Q) X.xe s
def QC (r:R2) (t tb:TE):TE:=λ U H Q=>t U H λ x h=>tb U h λ y a=>r x y a Q
def tUn (r:V->Hp->VK->Prop) (t:TE):TE:=λ U H Q=>t U H λ x h=>r x h Q
inductive rI (C:Int->Int->Prop) (g:Int->Int->V) (x:V) (y:V) (H:Hp) (Q:VK):Prop|mk (i j:_) (_:x = .int i) (_:y = .int j) (_:C i j) (_:Q (g i j) H)
inductive Hx (g:Int->Int->V) (x:V) (y:V) (H:Hp) (Q:VK):Prop|mk (i j:_) (_:x = .int i) (_:y = .int j) (_:Q (g i j) H)
inductive rU (g:Int->V) (x:V) (H:Hp) (Q:VK):Prop|mk (i:_) (_:x = .int i) (_:Q (g i) H)
section
variable {X:Cx} {a b c:Expr} {ta tb:TE} {pos:Pos}
def MT (j:PE X a ta) (k:PE X b tb) {p:List (am×Obj)} {s:Shared} {R:V->V->Hp->Prop} (I:Inv X p U H s) (h:ta U H λ x H1=>tb U H1 λ y c=>R x y c) {Q:aA->Shared->Prop} {f:aA->aA->Sem aA} (l:∀ v u e x y c,Inv X p U c e->RelV x v->RelV y u->R x y c->wpAny (model X.prog X.w) X.A (f v u) Q X.xe e) :
   wpAny (model X.prog X.w) X.A (eval a X.env) (λ v S=>wpAny (model X.prog X.w) X.A (eval b X.env) (λ u d=>wpAny (model X.prog X.w) X.A (f v u) Q X.xe d) X.xe S) X.xe s:=by
 refine c7 (j p s U H _ I h) λ v o ⟨x,H1,i,r,q⟩=>?_
 refine c7 (k p o U H1 _ i q) λ u e ⟨y,c,g,n,m⟩=>?_
 exact l v u e x y c g r n m
def ax {o:Operator} {r:R2} (f:jo X (binaryOp o) r) (d:PE X a ta) (e:PE X b tb):PE X (.BinOp a o b pos) (QC r ta tb):=by
 intro p s U H Q I h
 exact wpAny_BinOp (MT d e I h λ v u S x y c i R g q=>f p S U c x y v u Q i R g q)
def rM {o:UnaryOp} {r:V->Hp->VK->Prop} (d:SQ X (unaryOp o) r) (c:PE X a ta):PE X (.UnaryOp o a pos) (tUn r ta):=by
 intro p s U H Q I h
 exact UnaryOp_ (c7 (c p s U H _ I h) λ v S ⟨x,b,i,R,q⟩=>d p S U b x v Q i R q)
def Nr {f:aA->aA->Sem aA} {C:Int->Int->Prop} {g:Int->Int->Int} (r:∀ (i j:Int) (t u:Tok) (s:Shared) (Q:aA->Shared->Prop) (E:aA->Shared->Prop),C i j->Q (.int (g i j) s.toks) { s with toks:=s.toks+1 }->wpAny (model X.prog X.w) X.A (f (.int i t) (.int j u)) Q E s) :
   jo X f (rI C λ i j => .int (g i j)):=by
 intro p s U H x y v u Q I R b h
 obtain ⟨i,j,rfl,rfl,a,q⟩:=h
 obtain ⟨t,rfl⟩:=R
 obtain ⟨t',rfl⟩:=b
 exact r i j t t' s _ _ a ⟨.int (g i j),H,I.tok _,⟨_,rfl⟩,q⟩
def Jj {f:aA->aA->Sem aA} {g:Int->Int->Int} (r:∀ (i j:Int) (t u:Tok) (s:Shared) (Q:aA->Shared->Prop) (E:aA->Shared->Prop),Q (.int (g i j) s.toks) { s with toks:=s.toks+1 }->wpAny (model X.prog X.w) X.A (f (.int i t) (.int j u)) Q E s) :
   jo X f (Hx λ i j => .int (g i j)):=by
 intro p s U H x y v u Q I R a h
 obtain ⟨i,j,rfl,rfl,q⟩:=h
 obtain ⟨t,rfl⟩:=R
 obtain ⟨t',rfl⟩:=a
 exact r i j t t' s _ _ ⟨.int (g i j),H,I.tok _,⟨_,rfl⟩,q⟩
def Jr {f:aA->aA->Sem aA} {g:Int->Int->Bool} (r:∀ (i j:Int) (t u:Tok) (s:Shared) (Q:aA->Shared->Prop) (E:aA->Shared->Prop),Q (.bool (g i j)) s->wpAny (model X.prog X.w) X.A (f (.int i t) (.int j u)) Q E s) :
   jo X f (Hx λ i j => .bl (g i j)):=by
 intro p s U H x y v u Q I R a h
 obtain ⟨i,j,rfl,rfl,q⟩:=h
 obtain ⟨t,rfl⟩:=R
 obtain ⟨t',rfl⟩:=a
 exact r i j t t' s _ _ ⟨.bl (g i j),H,I,rfl,q⟩
def JM (i j:Int):Prop:=0<=j/\j<=1000000/\i.natAbs<2 ^ 64
def AT (k:Nat):(0:Int)<=2 ^ k:=by
 rw [two_pow_cast]
 exact aba _
def MR:jo X (binaryOp .Add) (Hx λ i j => .int (i+j)):=Jj λ Z Z Z Z Z Z Z q=>add_int q
def Lw:jo X (binaryOp .Sub) (Hx λ i j => .int (i - j)):=Jj λ Z Z Z Z Z Z Z q=>sub_int q
def Ly:jo X (binaryOp .Mod) (rI (λ Z j=>0<j) λ i j => .int (i % j)):=Nr λ i j Z Z Z Z Z h q=>by
 have H:(0:Int)<j:=h
 exact mod_int' (by lia) (by rw [Int.fmod_eq_emod_of_nonneg i (by lia)];exact q)
def K0:jo X (binaryOp .Pow) (rI JM λ i j => .int (i ^ j.toNat)):=Nr λ Z Z Z Z Z Z Z h q=>pow_int_small h.1 h.2.1 h.2.2 q
def LK:jo X (binaryOp .LShift) (rI JM λ i j => .int (i * 2 ^ j.toNat)):=Nr λ Z Z Z Z Z Z Z h q=>lshift_int_small h.1 h.2.1 h.2.2 q
def MX:jo X (binaryOp .RShift) (rI (λ Z j=>0<=j) λ i j => .int (i / 2 ^ j.toNat)):=Nr λ i j Z Z Z Z Z h q =>
 rshift_int h (by rw [acb i (AT _)];exact q)
def Mj:jo X (binaryOp .BitAnd) (Hx λ i j => .int (Builtin.bitAnd i j)):=Jj λ Z Z Z Z Z Z Z q=>and_int q
def Rv:jo X (binaryOp .BitOr) (Hx λ i j => .int (Builtin.bitOr i j)):=Jj λ Z Z Z Z Z Z Z q=>or_int q
def Y5 {f:aA->Sem aA} {g:Int->Int} (r:∀ (i:Int) (t:Tok) (s:Shared) (Q:aA->Shared->Prop) (E:aA->Shared->Prop),Q (.int (g i) s.toks) { s with toks:=s.toks+1 }->wpAny (model X.prog X.w) X.A (f (.int i t)) Q E s) :
   SQ X f (rU λ i => .int (g i)):=by
 intro p s U H x v Q I R h
 obtain ⟨i,rfl,q⟩:=h
 obtain ⟨t,rfl⟩:=R
 exact r i t s _ _ ⟨.int (g i),H,I.tok _,⟨_,rfl⟩,q⟩
def uS:SQ X (unaryOp .USub) (rU λ i => .int (-i)):=Y5 λ Z Z Z Z Z q=>neg_int q
def By:SQ X (unaryOp .Invert) (rU λ i => .int (Builtin.bitNot i)):=Y5 λ Z Z Z Z Z q=>invert_int q
end
def Oe:V->V->Bool
 | .cC,.cC=>true | .cC,.int _=>true | .int _,.cC=>true | .cC,.bl _=>true | .bl _,.cC=>true | .cC,.str _=>true | .str _,.cC=>true
 | .int _,.int _=>true | .bl _,.bl _=>true | .str _,.str _=>true | .ET _,.ET _=>true
 | .int _,.str _=>true | .str _,.int _=>true | .bl _,.str _=>true | .str _,.bl _=>true
 | _,_=>false
def rEq:R2:=λ x y H Q=>Oe x y=true/\Q (.bl (decide (x=y))) H
def rNe:R2:=λ x y H Q=>Oe x y=true/\Q (.bl (!decide (x=y))) H
def Dj {i j:Int}:decide (V.int i=V.int j)=(i == j):=by
 rw [ab7]
 simp
def FA {i j:Bool}:decide (V.bl i=V.bl j)=(i == j):=by
 rw [ab7]
 simp
def CO {i j:Str}:decide (V.str i=V.str j)=(i == j):=by
 rw [ab7]
 simp
def CC {i j:Array UInt8}:decide (V.ET i=V.ET j)=(i.toList == j.toList):=by
 rw [ab7]
 cases i
 cases j
 simp
section
variable {X:Cx} {a b c:Expr} {ta tb tc:TE} {pos:Pos}
def ci {p:List (am×Obj)} {s:Shared} {k K:Bool} (I:Inv X p U H s) (q:Q (.bl k) H) (e:k=K):EP X p U Q (.bool K) s:=by
 subst e
 exact ⟨.bl k,H,I,rfl,q⟩
def cP:jo X (compareOp .Eq) rEq:=by
 intro p s U H x y v u Q I R r h
 obtain ⟨a,q⟩:=h
 cases x with
 | cC =>
   cases R
   cases y with
   | cC=>cases r;exact PySem.EqNone.eq_none_none (ci I q (by simp))
   | bl j=>cases r;exact PySem.EqNone.eq_none_bool (ci I q (by simp))
   | int j=>obtain ⟨t',rfl⟩:=r;exact PySem.EqNone.eq_none_int (ci I q (by simp))
   | str j=>obtain ⟨t',rfl⟩:=r;exact PySem.EqNone.eq_none_str (ci I q (by simp))
   | _=>exact absurd (show false=true from a) aaC
 | bl i =>
   cases R
   cases y with
   | cC=>cases r;exact PySem.EqNone.eq_bool_none (ci I q (by simp))
   | bl j=>cases r;exact eq_bool (ci I q FA)
   | str j=>obtain ⟨t',rfl⟩:=r;exact PySem.EqMixed.eq_bool_str (ci I q (by simp))
   | _=>exact absurd (show false=true from a) aaC
 | int i =>
   obtain ⟨t,rfl⟩:=R
   cases y with
   | cC=>cases r;exact PySem.EqNone.eq_int_none (ci I q (by simp))
   | int j=>obtain ⟨t',rfl⟩:=r;exact eq_int (ci I q Dj)
   | str j=>obtain ⟨t',rfl⟩:=r;exact PySem.EqMixed.eq_int_str (ci I q (by simp))
   | _=>exact absurd (show false=true from a) aaC
 | str i =>
   obtain ⟨t,rfl⟩:=R
   cases y with
   | cC=>cases r;exact PySem.EqNone.eq_str_none (ci I q (by simp))
   | bl j=>cases r;exact PySem.EqMixed.eq_str_bool (ci I q (by simp))
   | int j=>obtain ⟨t',rfl⟩:=r;exact PySem.EqMixed.eq_str_int (ci I q (by simp))
   | str j=>obtain ⟨t',rfl⟩:=r;exact eq_str (ci I q CO)
   | _=>exact absurd (show false=true from a) aaC
 | ET i =>
   obtain ⟨t,rfl⟩:=R
   cases y with
   | ET j=>obtain ⟨t',rfl⟩:=r;exact W.eq_bytes (ci I q CC)
   | _=>exact absurd (show false=true from a) aaC
 | _=>cases y<;>exact absurd (show false=true from a) aaC
def rR:jo X (compareOp .NotEq) rNe:=by
 intro p s U H x y v u Q I R r h
 obtain ⟨a,q⟩:=h
 cases x with
 | cC =>
   cases R
   cases y with
   | cC=>cases r;exact PySem.EqNone.ne_none_none (ci I q (by simp))
   | bl j=>cases r;exact PySem.EqNone.ne_none_bool (ci I q (by simp))
   | int j=>obtain ⟨t',rfl⟩:=r;exact PySem.EqNone.ne_none_int (ci I q (by simp))
   | str j=>obtain ⟨t',rfl⟩:=r;exact PySem.EqNone.ne_none_str (ci I q (by simp))
   | _=>exact absurd (show false=true from a) aaC
 | bl i =>
   cases R
   cases y with
   | cC=>cases r;exact PySem.EqNone.ne_bool_none (ci I q (by simp))
   | bl j=>cases r;exact ne_bool (ci I q (abE not FA))
   | str j=>obtain ⟨t',rfl⟩:=r;exact PySem.EqMixed.ne_bool_str (ci I q (by simp))
   | _=>exact absurd (show false=true from a) aaC
 | int i =>
   obtain ⟨t,rfl⟩:=R
   cases y with
   | cC=>cases r;exact PySem.EqNone.ne_int_none (ci I q (by simp))
   | int j=>obtain ⟨t',rfl⟩:=r;exact ne_int (ci I q (abE not Dj))
   | str j=>obtain ⟨t',rfl⟩:=r;exact PySem.EqMixed.ne_int_str (ci I q (by simp))
   | _=>exact absurd (show false=true from a) aaC
 | str i =>
   obtain ⟨t,rfl⟩:=R
   cases y with
   | cC=>cases r;exact PySem.EqNone.ne_str_none (ci I q (by simp))
   | bl j=>cases r;exact PySem.EqMixed.ne_str_bool (ci I q (by simp))
   | int j=>obtain ⟨t',rfl⟩:=r;exact PySem.EqMixed.ne_str_int (ci I q (by simp))
   | str j=>obtain ⟨t',rfl⟩:=r;exact ne_str (ci I q (abE not CO))
   | _=>exact absurd (show false=true from a) aaC
 | ET i =>
   obtain ⟨t,rfl⟩:=R
   cases y with
   | ET j=>obtain ⟨t',rfl⟩:=r;exact W.ne_bytes (ci I q (abE not CC))
   | _=>exact absurd (show false=true from a) aaC
 | _=>cases y<;>exact absurd (show false=true from a) aaC
def kS:jo X (compareOp .Lt) (Hx λ i j => .bl (decide (i<j))):=Jr λ Z Z Z Z Z Z Z q=>lt_int q
def jp:jo X (compareOp .LtE) (Hx λ i j => .bl (decide (i<=j))):=Jr λ Z Z Z Z Z Z Z q=>le_int q
def vU:jo X (compareOp .Gt) (Hx λ i j => .bl (decide (j<i))):=Jr λ Z Z Z Z Z Z Z q=>gt_int q
def FQ:jo X (compareOp .GtE) (Hx λ i j => .bl (decide (j<=i))):=Jr λ Z Z Z Z Z Z Z q=>ge_int q
def ji:jo X (compareOp .Is) (λ x y H Q=>y = .cC/\Q (.bl (decide (x = .cC))) H):=by
 intro p s U H x y v u Q I r R h
 obtain ⟨rfl,q⟩:=h
 cases R
 refine is_none_gen (ci I q ?_)
 cases x<;>first
   | (cases r;rfl)
   | (obtain ⟨t,rfl⟩:=r;rfl)
def oZ:jo X (compareOp .IsNot) (λ x y H Q=>y = .cC/\Q (.bl (!decide (x = .cC))) H):=by
 intro p s U H x y v u Q I r R h
 obtain ⟨rfl,q⟩:=h
 cases R
 refine isnot_none_gen (ci I q ?_)
 cases x<;>first
   | (cases r;rfl)
   | (obtain ⟨t,rfl⟩:=r;rfl)
def aM (b:Expr) {o:CmpOp} (h:autoParam (o ≠ .In) zb_._auto_1) (H:autoParam (o ≠ .NotIn) zb_._auto_1):behindInMarks o b=false:=by
 have e:(o == CmpOp.In)=false:=by cases o<;>first|rfl|exact absurd rfl h
 have E:(o == CmpOp.NotIn)=false:=by cases o<;>first|rfl|exact absurd rfl H
 cases b<;>simp [behindInMarks,e,E]
def dI {o:CmpOp} {r:R2} (g:jo X (compareOp o) r) (d:PE X a ta) (e:PE X b tb) (f:behindInMarks o b=false):PE X (.Compare a [o] [b] pos) (QC r ta tb):=by
 intro p s U H Q I h
 exact wpAny_Compare1 (MT d e I h λ v u S x y c i R j q=>g p S U c x y v u Q i R j q) f
inductive UL (Q:Bool->Hp->Prop) (x:V) (H:Hp):Prop|mk (k:Bool) (h:x = .bl k) (q:Q k H)
def Gc (t:TE):TT:=λ U H Q=>t U H (UL Q)
def aK {o:CmpOp} {r:R2} (t:jo X (compareOp o) r) (m:PE X a ta) (n:PE X b tb) (q:behindInMarks o b=false):PT X (.Compare a [o] [b] pos) (Gc (QC r ta tb)):=by
 intro p s U H Q I h
 refine wpAny_isTrue_Compare1 (c7 (m p s U H _ I h) λ v S ⟨x,d,i,R,w⟩=>c7 (n p S U d _ i w) λ u E ⟨y,f,j,C,A⟩ =>
   c7 (t p E U f x y v u _ j R C A) λ c F ⟨z,g,l,D,k,e,B⟩=>?_) q
 subst e
 cases D
 exact abA ⟨g,l,B⟩
def Gx (r R:R2) (t tb T:TE):TE:=λ U H Q=>t U H λ x a=>tb U a λ y b=>r x y b λ z h=>∃ k,z = .bl k /\
 (if k=true then T U h λ w c=>R y w c Q else Q (.bl false) h)
def Fj {o M:CmpOp} {r R:R2} (F:jo X (compareOp o) r) (A:jo X (compareOp M) R) (B:PE X a ta) (C:PE X b tb) (D:PE X c tc) (E:autoParam (lastMarks [o,M] [b,c]=false) ze_._auto_1):PE X (.Compare a [o,M] [b,c] pos) (Gx r R ta tb tc):=by
 intro p s U H Q I h
 refine Compare_chain (c7 (B p s U H _ I h) λ v S ⟨x,j,n,L,G⟩=>chain_link (c7 (C p S U j _ n G) λ u T ⟨y,l,t,g,J⟩ =>
   c7 (F p T U l x y v u _ t L g J) λ d V ⟨z,f,i,N,k,e,q⟩=>?_)) E
 subst e
 cases N
 refine abA ?_
 cases k with
 | false=>exact ite_ff ⟨.bl false,f,i,rfl,q⟩
 | true=>exact ite_tt (chain_last (c7 (D p V U f _ i q) λ Y W ⟨z',m,w,O,K⟩=>A p W U m y z' u Y Q w g O K))
def jL {o M:CmpOp} {r R:R2} (L:jo X (compareOp o) r) (A:jo X (compareOp M) R) (F:PE X a ta) (G:PE X b tb) (J:PE X c tc) (K:autoParam (lastMarks [o,M] [b,c]=false) ze_._auto_1):PT X (.Compare a [o,M] [b,c] pos) (Gc (Gx r R ta tb tc)):=by
 intro p s U H Q I h
 refine isTrue_chain (c7 (F p s U H _ I h) λ v s1 ⟨x,j,t,W,O⟩=>test_link (c7 (G p s1 U j _ t O) λ u s2 ⟨y,l,w,g,S⟩ =>
   c7 (L p s2 U l x y v u _ w W g S) λ d s3 ⟨z,f,i,Y,k,e,q⟩=>?_)) K
 subst e
 cases Y
 refine abA ?_
 cases k with
 | false =>
   obtain ⟨k',E,N⟩:=q
   cases E
   exact ite_ff ⟨f,i,N⟩
 | true =>
   refine ite_tt (test_last (c7 (J p s3 U f _ i q) λ w' s4 ⟨z',m,B,r4,T⟩=>c7 (A p s4 U m y z' u w' _ B g r4 T) λ d' s5 ⟨z2,n,C,r5,k2,D,V⟩=>?_))
   subst D
   cases r5
   exact abA ⟨n,C,V⟩
def ui:(sizeLine:Nat)<2 ^ 63:=by rw [sizeLine_eq];decide
def vals1 {x:V} {us:bM} (r:Vals [x] us):∃ u,us=[u]/\RelV x u:=by
 cases r with
 | cons R a=>cases a;exact ⟨_,rfl,R⟩
def vals2 {x y:V} {us:bM} (r:Vals [x,y] us):∃ u w',us=[u,w']/\RelV x u/\RelV y w':=by
 cases r with
 | cons R a =>
   cases a with
   | cons b c=>cases c;exact ⟨_,_,rfl,R,b⟩
def FU:iJ X (.builtin "abs") (λ xs H Q=>∃ i,xs=[.int i]/\Q (.int (if i<0 then -i else i)) H):=by
 intro p s U H xs a Q I r h
 obtain ⟨i,rfl,q⟩:=h
 obtain ⟨u,rfl,t,rfl⟩:=vals1 r
 exact call_abs_int λ u T=>⟨.int (if i<0 then -i else i),H,I.tok _,⟨_,rfl⟩,q⟩
def p7 (b:X.calm=true):iJ X (.builtin "max") (λ xs H Q=>∃ i j,xs=[.int i,.int j]/\Q (.int (if j > i then j else i)) H):=by
 intro p s U H xs d Q I r h
 obtain ⟨i,j,rfl,q⟩:=h
 obtain ⟨u,w,rfl,⟨t,rfl⟩,⟨t',rfl⟩⟩:=vals2 r
 refine max_two_ints (I.ok.hd b) λ c T k=>⟨_,H,I.kept k,?_,q⟩
 by_cases a:j > i
 . rw [aau a,aau a];exact ⟨_,rfl⟩
 . rw [aax a,aax a];exact ⟨_,rfl⟩
def mP (b:X.calm=true):iJ X (.builtin "min") (λ xs H Q=>∃ i j,xs=[.int i,.int j]/\Q (.int (if j<i then j else i)) H):=by
 intro p s U H xs d Q I r h
 obtain ⟨i,j,rfl,q⟩:=h
 obtain ⟨u,w,rfl,⟨t,rfl⟩,⟨t',rfl⟩⟩:=vals2 r
 refine min_two_ints (I.ok.hd b) λ c T k=>⟨_,H,I.kept k,?_,q⟩
 by_cases a:j<i
 . rw [aau a,aau a];exact ⟨_,rfl⟩
 . rw [aax a,aax a];exact ⟨_,rfl⟩
def qz:iJ X (.type "int") (λ xs H Q=>(∃ i,xs=[.int i]/\Q (.int i) H)\/∃ k,xs=[.bl k]/\Q (.int (if k then 1 else 0)) H):=by
 intro p s U H xs a Q I r h
 rcases h with ⟨i,rfl,q⟩|⟨k,rfl,q⟩
 . obtain ⟨u,rfl,t,rfl⟩:=vals1 r
   exact call_int_int ⟨.int i,H,I,⟨_,rfl⟩,q⟩
 . obtain ⟨u,rfl,R⟩:=vals1 r
   cases R
   exact call_int_bool ⟨.int (if k then 1 else 0),H,I.tok _,⟨_,rfl⟩,q⟩
end
structure Bb (h:bE) (x dx C:am) (mA:dX):Prop where
 obj:h.get? x=some (W.instObj C dx)
 ns:h.Ns1 dx mA
 ne:dx≠x
def DA {h:bE} {dx:am} {m:dX} (n:h.Ns1 dx m):∃ O,h.get? dx=some O/\∀ name,W.lookIn name O=some (m name):=by
 obtain ⟨o,es,E,d,H,b,_,c⟩:=n
 refine ⟨o,d,λ name=>?_⟩
 have e:=c name
 unfold nsFind findBy at e
 rw [<- Array.find?_toList] at e
 unfold W.lookIn
 rw [H]
 dsimp only
 split
 . rename_i y q
   rw [q] at e
   exact abE some e
 .
  rename_i q
  rw [q] at e
  have a:es.toList.any (·.refKey)=false:=by
    rw [List.any_eq_false]
    intro y f
    obtain ⟨z,t,B⟩:=b y (Array.mem_toList_iff.mp f)
    simp [DictEntry.refKey,B]
  have A:¬ es.toList.any (·.refKey)=true:=by rw [a];exact aaC
  rw [aax A]
  exact abE some e
def Bb.look {h:bE} {x dx C:am} {m:dX} (I:Bb h x dx C m):∃ o,W.InstAt h x (W.instObj C dx) C (some o)/\∀ name,W.lookIn name o=some (m name) :=
 let ⟨o,a,H⟩:=DA I.ns
 ⟨o,⟨I.obj,rfl,rfl,a⟩,H⟩
section
variable {prog:bD} {w:bz} {A:Around} {E:aA->Shared->Prop} {s:Shared} {K:aE} {x dx C f:am} {mA:dX} {name:Str} {v:aA}
def get_map {e:Bool} {Q:aA->Shared->Prop} (X:K.In s.heap) (I:Bb s.heap x dx C mA) (b:W.plainGet K C name=true) (c:W.hasDictIn K C=true) (a:W.findIn K (.ref C) name=some none) (f:mA name=some v) (H:W.handedIn v=true) (h:Q v { s with toks:=s.toks+1 }) :
   wpAny (model prog w) A (getAttr (.ref x) name e) Q E s:=by
 obtain ⟨o,J,d⟩:=I.look
 exact W.get_value X J (W.plainGet_of b).1 (W.findObj_own c a rfl (by rw [d,f])) H h
def Hk {pl:Sem Bool} {Q:aA×bM->Shared->Prop} (X:K.In s.heap) (I:Bb s.heap x dx C mA) (H:W.plainGet K C name=true) (a:W.findIn K (.ref C) name=some (some (.ref f))) (c:W.isFn K (.ref f)=true) (d:mA name=none) (h:Q (.ref f,[.ref x]) s) :
   wpAny (model prog w) A (getMethod (.ref x) name pl) Q E s:=by
 obtain ⟨o,J,b⟩:=I.look
 exact W.method_fn X J (W.plainGet_of H).1 (W.plainGet_of H).2 a (ach.mp c) (by show (W.lookIn name o).map (·.isSome)=some false;rw [b,d];rfl) h
def Jf {ns:de} {Q:Unit->Shared->Prop} (X:K.In s.heap) (I:Bb s.heap x dx C mA) (l:W.findIn K (.ref C) "__setattr__" = some (some (.builtin "object.__setattr__"))) (k:W.plainOver K C=true) (m:W.takerIn K C name=some none) (j:W.hasDictIn K C=true) (hw:PySem.Within mA ns) (hsz:ns.length<=sizeLine) (h:∀ h',Bb h' x dx C (λ y=>if y=name then some v else mA y)->Heap.SameBut dx s.heap h'->Q () { s with heap:=h',toks:=s.toks+2 }) :
   wpAny (model prog w) A (setAttr (.ref x) name v) Q E s:=by
 obtain ⟨t,J,p⟩:=I.look
 refine W.set_plain X J l (W.osa_open (s:={ s with toks:=s.toks+1 }) (r:=none) X J k m λ b=>?_)
 obtain ⟨o,i,O⟩:=W.any_some j
 have n:s.heap.get? x=some ⟨.ref C,some dx,.plain,#[]⟩:=I.obj
 refine aaa (aao (aaa (aaa (wpAny_loadPart n (aaa (W.Looks.here (s:={ s with toks:=s.toks+1 }) (W.looks_clsIn X i) ?_))))))
 rw [O]
 refine aao (a:=some dx) (aaa (aao (aaa ?_)))
 refine wpAny_nsSet1 (s:={ s with toks:=s.toks+1 }) I.ns λ h' z e=>?_
 obtain ⟨q,g,f,d,c,H⟩:=z.count (PySem.Within.cons name v hw)
 refine aaa (wpAny_lookBehind d (by rw [c];exact pastItsLine_dict (aaA H (by rw [aaW];lia))) ?_)
 exact aao (h _ ⟨(e.2 _ (acx I.ne)).trans I.obj,z,I.ne⟩ e)
def Hg {R:Result->Shared->Prop} {vs:bM} {k:List (Str×aA)} (X:K.In s.heap) (a:W.makesIn K C=true) (hi:W.findIn K (.ref C) "__init__" = some (some (.ref f))) (H:W.typeIn K (.ref f)=some (.type "function")) (h:codeAny (model prog w) (A.under (.builtin "type.__call__" ⟨.ref C::vs,k⟩)) (.call (.ref f) ⟨.ref (s.heap.objs.size+1)::vs,k⟩) (W.InitBack (s.heap.objs.size+1) R)
     { s with heap:=(s.heap.push W.emptyDict).push (W.instObj C s.heap.objs.size)}) :
   codeAny (model prog w) A (.call (.ref C) ⟨vs,k⟩) R s:=by
 obtain ⟨b,g,d,t,o⟩:=s
 exact W.make_core (W.makes_of X a) (W.looks_findIn X hi) (λ S=>W.bind_fn X S H) (.inl rfl) h
end
def aQ (f:Str) (v:V):List (Str×V)->List (Str×V)
 | []=>[(f,v)]
 | (g,x)::r=>if g=f then (g,v)::r else (g,x)::aQ f v r
theorem rQ (f g:Str) (v:V):∀ fs:List (Str×V),(aQ f v fs).lookup g=if g=f then some v else fs.lookup g
 | []=>by
   show List.lookup g [(f,v)]=_
   by_cases h:g=f
   . have H:(g == f)=true:=ach.mpr h
     simp only [List.lookup,H,aau h]
   . have H:(g == f)=false:=abm.mpr h
     simp only [List.lookup,H,aax h]
 | (k,x)::r=>by
   have i:=rQ f g v r
   rw [show aQ f v ((k,x)::r)=(if k=f then (k,v)::r else (k,x)::aQ f v r) from rfl]
   by_cases a:k=f
   .
    rw [aau a]
    by_cases h:g=k
    . have H:(g == k)=true:=ach.mpr h
      simp only [List.lookup,H,aau (h.trans a)]
    . have H:(g == k)=false:=abm.mpr h
      simp only [List.lookup,H,aax (λ e:g=f=>h (e.trans a.symm))]
   .
    rw [aax a]
    by_cases h:g=k
    . have H:(g == k)=true:=ach.mpr h
      simp only [List.lookup,H,aax (λ e:g=f=>a (h.symm.trans e))]
    . have H:(g == k)=false:=abm.mpr h
      simp only [List.lookup,H]
      exact i
theorem qM (f:Str) (v:V):∀ fs:List (Str×V),f∈(aQ f v fs).map (·.1)/\∀ g,g∈fs.map (·.1)->g∈(aQ f v fs).map (·.1)
 | []=>⟨by simp [aQ],λ g h=>by simp at h⟩
 | (k,x)::r=>by
   obtain ⟨i,I⟩:=qM f v r
   rw [show aQ f v ((k,x)::r)=(if k=f then (k,v)::r else (k,x)::aQ f v r) from rfl]
   by_cases H:k=f
   . rw [aau H]
     subst H
     exact ⟨by simp,λ g h=>by simpa using h⟩
   .
    rw [aax H]
    refine ⟨?_,λ g h=>?_⟩
    . rw [aaQ]
      exact aaj _ i
    . rw [aaQ] at h |-
      rcases aab.mp h with e|e
      . exact aab.mpr (.inl e)
      . exact aaj _ (I g e)
theorem se (f:Str) (v:V):∀ fs:List (Str×V),(aQ f v fs).length<=fs.length+1
 | []=>by simp [aQ]
 | (k,x)::r=>by
   have i:=se f v r
   rw [show aQ f v ((k,x)::r)=(if k=f then (k,v)::r else (k,x)::aQ f v r) from rfl]
   by_cases h:k=f
   . rw [aau h,aaW,aaW];lia
   . rw [aax h,aaW,aaW];lia
def kX.some_of {o:jC} (r:kX (some v) o):∃ u,o=some u/\RelV v u:=by
 cases o with
 | none=>exact (show False from r).elim
 | some u=>exact ⟨u,rfl,r⟩
def kX.none_of {o:jC} (r:kX none o):o=none:=by
 cases o with
 | none=>rfl
 | some u=>exact (show False from r).elim
def DK {u:aA} (r:RelV v u):W.handedIn u=true:=by
 cases v with
 | cC=>cases (show u=Value.none from r);rfl
 | bl b=>cases (show u=Value.bool b from r);rfl
 | int i=>obtain ⟨t,e⟩:=(show ∃ t,u=Value.int i t from r);cases e;rfl
 | str x=>obtain ⟨t,e⟩:=(show ∃ t,u=Value.str x t from r);cases e;rfl
 | ET b=>obtain ⟨t,e⟩:=(show ∃ t,u=Value.bytes b t from r);cases e;rfl
 | KM b=>obtain ⟨t,e⟩:=(show ∃ t,u=Value.float b t from r);cases e;rfl
 | ref a=>cases (show u=Value.ref a from r);rfl
 | ty n=>cases (show u=Value.type n from r);rfl
section
variable {P:bD} {w:bz} {H:Hp} {h:bE} {a C dx:am} {fs:List (Str×V)}
def sU (D:oM P w H h) (e:H a=some (.ins C dx fs)):∃ m,Bb h a dx C m/\(∀ f,kX (fs.lookup f) (m f))/\PySem.Within m (fs.map (·.1))/\fs.length<=1000/\H dx=some (.own a):=by
 obtain ⟨d,z,N,o,m,n,r,q⟩:=(show dC P w H h a (.ins C dx fs) from D a _ e)
 exact ⟨m,⟨o,n,N⟩,r,q,z,d⟩
end
structure zm (K:aE) (C:am):Prop where
 pg:W.plainGet K C Str.empty=true
 hd:W.hasDictIn K C=true
 po:W.plainOver K C=true
 sa:W.findIn K (.ref C) "__setattr__" = some (some (.builtin "object.__setattr__"))
def zm.get {K:aE} {C:am} (c:zm K C) (f:Str):W.plainGet K C f=true:=c.pg
def c5 (K:aE) (C:am) (f:Str):Prop:=W.findIn K (.ref C) f=some none
def c5.NA {K:aE} {C:am} {f:Str} (n:c5 K C f):W.takerIn K C f=some none:=by
 unfold W.takerIn
 rw [show W.findIn K (.ref C) f=some none from n]
 rfl
structure Meth (K:aE) (C:am) (m:Str) (f:am):Prop where
 at_:W.findIn K (.ref C) m=some (some (.ref f))
 fn:W.isFn K (.ref f)=true
 kp:W.keepIn K (.ref f)=true
section
variable {X:Cx} {pins:List (am×Obj)} {U:St} {H:Hp} {s:Shared} {a C dx:am} {fs:List (Str×V)} {f:Str} {v:V} {A:Around} {E:aA->Shared->Prop}
def Bf {b:Bool} {Q:aA->Shared->Prop} (I:Inv X pins U H s) (e:H a=some (.ins C dx fs)) (c:zm X.K C) (n:c5 X.K C f) (l:fs.lookup f=some v) (h:∀ u s',Inv X pins U H s'->RelV v u->Q u s'):wpAny (model X.prog X.w) A (getAttr (.ref a) f b) Q E s:=by
 obtain ⟨m,O,r,Z,Z,Z⟩:=sU I.dF e
 obtain ⟨u,d,R⟩:=kX.some_of (v:=v) (o:=m f) (by rw [<- l];exact r f)
 exact get_map I.sF O (c.get f) c.hd n d (DK R) (h u _ (I.tok _) R)
def uX {m:Str} {g:am} {pl:Sem Bool} {Q:aA×bM->Shared->Prop} (I:Inv X pins U H s) (e:H a=some (.ins C dx fs)) (c:zm X.K C) (k:Meth X.K C m g) (l:fs.lookup m=none) (h:Q (.ref g,[.ref a]) s):wpAny (model X.prog X.w) A (getMethod (.ref a) m pl) Q E s:=by
 obtain ⟨M,O,r,Z,Z,Z⟩:=sU I.dF e
 have b:M m=none:=kX.none_of (by rw [<- l];exact r m)
 exact Hk I.sF O (c.get m) k.at_ k.fn b h
def BL {y:V} {u:aA} {Q:Unit->Shared->Prop} (I:Inv X pins U H s) (e:H a=some (.ins C dx fs)) (c:zm X.K C) (n:c5 X.K C f) (B:fs.length<1000) (R:RelV y u) (h:∀ s',Inv X pins U (upd H a (.ins C dx (aQ f y fs))) s'->Q () s'):wpAny (model X.prog X.w) A (setAttr (.ref a) f u) Q E s:=by
 obtain ⟨m,O,r,W,Z,i⟩:=sU I.dF e
 have v:(fs.map (·.1)).length<=sizeLine:=by rw [No,sizeLine_eq];lia
 refine Jf I.sF O c.sa c.po n.NA c.hd W v λ k d S=>h _ ?_
 have p:∃ o,k.get? dx=some o:=let ⟨o,_,_,j,_⟩:=d.ns;⟨o,j⟩
 refine I.write (x:=a) (e:=dx) (by rw [e];exact True.intro) (.inr i) (λ b q l z=>(S.2 b l).trans z) p ?_
 refine ⟨by rw [aw O.ne];exact i,?_,O.ne,d.obj,_,d.ns,λ g=>?_,λ g t=>?_⟩
 . have:=se f y fs;lia
 .
  show kX ((aQ f y fs).lookup g) (if g=f then some u else m g)
  rw [rQ]
  by_cases q:g=f
  . rw [aau q,aau q];exact R
  . rw [aax q,aax q];exact r g
 .
  by_cases q:g=f
  . rw [q];exact (qM f y fs).1
  . refine (qM f y fs).2 g (W g λ z=>t ?_)
    show (if g=f then some u else m g)=none
    rw [aax q];exact z
def Inv.made (I:Inv X pins U H s):Inv X pins U (upd (upd H s.heap.objs.size (.own (s.heap.objs.size+1))) (s.heap.objs.size+1) (.ins C s.heap.objs.size []))
   { s with heap:=(s.heap.push W.emptyDict).push (W.instObj C s.heap.objs.size)}:=by
 have E:(s.heap.push W.emptyDict).get? s.heap.objs.size=some W.emptyDict:=aaR s.heap rfl
 have c:((s.heap.push W.emptyDict).push (W.instObj C s.heap.objs.size)).get? (s.heap.objs.size+1)=some (W.instObj C s.heap.objs.size):=by
   have:=aaR (s.heap.push W.emptyDict) (o:=W.instObj C s.heap.objs.size) rfl
   rwa [ac5] at this
 have d:(s.heap.push W.emptyDict).Ns s.heap.objs.size (λ Z=>none):=⟨W.emptyDict,#[],_,E,rfl,(λ e h=>absurd h (by simp)),λ Z=>rfl⟩
 have i:=I.laid (a:=s.heap.objs.size) (o:=.own (s.heap.objs.size+1)) (h':=s.heap.push W.emptyDict) (t':=s.toks) (λ b u q=>aal _ q) (aak _) ⟨_,E⟩
 refine i.laid (a:=s.heap.objs.size+1) (o:=.ins C s.heap.objs.size []) (t':=s.toks) (λ b u q=>aal _ q) (Nat.le_of_eq (ac5 _ _)) ?_
 have n:s.heap.objs.size≠s.heap.objs.size+1:=aaO (adx _)
 refine ⟨by rw [aw n,ag],aaZ _,n,c,λ Z=>none,(Heap.Ns1.of_empty d).at λ o q=>aal _ q,λ Z=>True.intro,λ y f=>absurd rfl f⟩
def Iv {prog:bD} {w:bz} {env:Env} {e:Expr} {f:Str} {p:Pos} {s:Shared} {Q:aA->Shared->Prop} (H:attributeBase e f env (eval e env)=eval e env) (h:wpAny (model prog w) A (eval e env) (λ o S=>wpAny (model prog w) A (getAttr o f true) Q E S) E s):wpAny (model prog w) A (eval (.Attribute e f p) env) Q E s :=
 Attribute_any_ h (by rw [arm_eval_Attribute,H])
end
inductive Nv (K:aE) (f:Str) (Q:VK) (x:V) (H1:Hp):Prop|mk (a C dx:am) (fs:List (Str×V)) (v:V) (h1:x = .ref a) (h2:H1 a=some (.ins C dx fs)) (h3:zm K C) (h4:c5 K C f) (h5:fs.lookup f=some v) (q:Q v H1)
def W9 (K:aE) (t:TE) (f:Str):TE:=λ U H Q=>t U H (Nv K f Q)
def UD (K:aE) (t T:TE) (f:Str):TS:=λ D U H=>T U H λ y b=>t U b λ x h=>∃ a C d F,x = .ref a/\h a=some (.ins C d F)/\zm K C/\c5 K C f/\F.length<1000 /\
 D.nx U (upd h a (.ins C d (aQ f y F)))
section
variable {X:Cx} {o e value:Expr} {f:Str} {pos pos':Pos} {ta tv:TE}
def aU (j:PE X e ta) (g:attributeBase e f X.env (eval e X.env)=eval e X.env):PE X (.Attribute e f pos) (W9 X.K ta f):=by
 intro p s U H Q I h
 refine Iv g (c7 (j p s U H _ I h) λ u S ⟨x,b,i,R,a,C,D,F,v,ex,E,c,n,l,q⟩=>?_)
 subst ex
 obtain rfl:u=Value.ref a:=R
 exact Bf i E c n l λ m k d r=>⟨v,b,d,r,q⟩
def dh (g:PE X o ta) (k:PE X value tv) (j:swapsWith value (some (.Attribute o f pos')) pos.line X.env=pure false):PS X (.Assign [.Attribute o f pos'] value pos) (UD X.K ta tv f):=by
 intro p s U H D I h
 refine plainObj_wpAny_Assign_Attribute (c7 (k p s U H _ I h) λ u S ⟨y,b,i,R,q⟩=>c7 (g p S U b _ i q) λ O v ⟨x,m,d,r,a,C,t,F,ex,E,c,n,l,Q⟩=>?_) j
 subst ex
 obtain rfl:O=Value.ref a:=r
 exact BL d E c n l R λ w e=>⟨U,_,e,Q⟩
end
section
variable {X:Cx} {pins:List (am×Obj)} {U:St} {H:Hp} {s:Shared} {A:Around} {E:aA->Shared->Prop} {Q:aA->Shared->Prop} {c:aA} {b:Bool}
inductive qR (K:aE) (H:Hp):V->aA->Prop where
 | cC:qR K H .cC (.type "NoneType")
 | bl (x:Bool):qR K H (.bl x) (.type "bool")
 | int (i:Int):qR K H (.int i) (.type "int")
 | str (x:Str):qR K H (.str x) (.type "str")
 | KM (x:UInt64):qR K H (.KM x) (.type "float")
 | lst {a:am} {xs:aB} (e:H a=some (.lst xs)):qR K H (.ref a) (.type "list")
 | AL {a:am} {o:Obj} {xs:aB} (e:H a=some (.AL o (.lst xs))):qR K H (.ref a) (.type "list")
 | tup {a:am} {xs:aB} (e:H a=some (.tup xs)):qR K H (.ref a) (.type "tuple")
 | dK {a:am} {aD:List (Key×V)} (e:H a=some (.dK aD)):qR K H (.ref a) (.type "dict")
 | dT {a:am} {aD:List (List Key×V)} (e:H a=some (.dT aD)):qR K H (.ref a) (.type "dict")
 | ins {a C dx:am} {fs:List (Str×V)} (e:H a=some (.ins C dx fs)) (cl:zm K C) (ha:W.findIn K (.ref C) "__class__" = some (some (.builtin "object.__class__")))
     (hn:W.specialIn K (.builtin "object.__class__") "__get__" = some (some (.builtin "getset_descriptor.__get__"))) (RR:W.takesIn K (.builtin "object.__class__")=some true)
     (hm:W.mroIn K C (.type "object")=some true):qR K H (.ref a) (.ref C)
def DM {x:V} {u t:aA} (I:Inv X pins U H s) (r:RelV x u) (ty:qR X.K H x t) (e:W.kitOne X.K t c=some b) (h:∀ T,Q (.bool b) { s with toks:=T }) :
   wpAny (model X.prog X.w) A (call (.builtin "isinstance") [u,c]) Q E s:=by
 cases ty with
 | cC=>cases (show u=Value.none from r);exact act W.kitx_none I.sF True.intro e (λ z=>nomatch z) h
 | bl y=>cases (show u=Value.bool y from r);exact act W.kitx_bool I.sF True.intro e (λ z=>nomatch z) h
 | int i=>obtain ⟨t,q⟩:=(show ∃ t,u=Value.int i t from r);cases q;exact act W.kitx_int I.sF True.intro e (λ z=>nomatch z) h
 | str y=>obtain ⟨t,q⟩:=(show ∃ t,u=Value.str y t from r);cases q;exact act W.kitx_str I.sF True.intro e (λ z=>nomatch z) h
 | KM y=>obtain ⟨t,q⟩:=(show ∃ t,u=Value.float y t from r);cases q;exact act W.kitx_float I.sF True.intro e (λ z=>nomatch z) h
 | @lst a g d =>
   cases (show u=Value.ref a from r)
   obtain ⟨Z,Z,n,Z,f⟩:=(show dC X.prog X.w H s.heap a (.lst g) from I.dF a _ d)
   exact act W.kitx_list I.sF ⟨_,f,rfl⟩ e (λ z=>nomatch z) h
 | @AL a F g d =>
   cases (show u=Value.ref a from r)
   obtain ⟨Z,Z,Z,n,Z,f⟩:=(show dC X.prog X.w H s.heap a (.AL F (.lst g)) from I.dF a _ d)
   exact act W.kitx_list I.sF ⟨_,f,rfl⟩ e (λ z=>nomatch z) h
 | @tup a g d =>
   cases (show u=Value.ref a from r)
   obtain ⟨Z,Z,Z,p⟩:=(show dC X.prog X.w H s.heap a (.tup g) from I.dF a _ d)
   obtain ⟨o,f,j,Z⟩:=p
   exact act W.kitx_tuple I.sF ⟨o,f,j⟩ e (λ z=>nomatch z) h
 | @dK a k d =>
   cases (show u=Value.ref a from r)
   obtain ⟨Z,Z,S,Z,p⟩:=(show dC X.prog X.w H s.heap a (.dK k) from I.dF a _ d)
   obtain ⟨o,es,m,f,j,Z⟩:=p
   exact act W.kitx_dict I.sF ⟨o,f,j.1⟩ e (λ z=>nomatch z) h
 | @dT a k d =>
   cases (show u=Value.ref a from r)
   obtain ⟨Z,Z,g,Z,o,es,m,f,j,Z⟩:=(show dC X.prog X.w H s.heap a (.dT k) from I.dF a _ d)
   exact act W.kitx_dict I.sF ⟨o,f,j.1⟩ e (λ z=>nomatch z) h
 | @ins a C G L d l v D R B =>
   cases (show u=Value.ref a from r)
   obtain ⟨M,O,Z⟩:=sU I.dF d
   obtain ⟨N,J,Z⟩:=O.look
   exact act (W.kitx_own (l.get _) l.hd v D R B) I.sF J e (λ z=>nomatch z) h
end
structure dg (k:Nat) (A:Around):Prop where
 hd:A.handled=none
 dp:A.depth+3 * k+5<recursionLimit
 un:A.units+16 * k+200<cLine
def dg.mono {j k:Nat} {A:Around} (r:dg k A) (h:j<=k):dg j A:=⟨r.hd,by have:=r.dp;lia,by have:=r.un;lia⟩
theorem dg.deeper {k:Nat} {A:Around} (r:dg (k+1) A) (env:Env):dg k (A.deeper env) :=
 ⟨r.hd,by have:=r.dp;show A.depth+1+3 * k+5<_;lia,by have:=r.un;show A.units+3+16 * k+200<_;lia⟩
def BQ {A:Around} {C:am} {us:bM} {k:List (Str×aA)}:(A.under (.builtin "type.__call__" ⟨.ref C::us,k⟩)).depth=A.depth+1:=by
 first|rfl|simp [Around.under,Code.weight,Code.isCreation,Code.isGuard,Code.isCaller,Code.frames,Code.isFrame,guardIds]
def Bv {A:Around} {C:am} {us:bM} {k:List (Str×aA)}:(A.under (.builtin "type.__call__" ⟨.ref C::us,k⟩)).units=A.units+1:=by
 first|rfl|simp [Around.under,Code.cUnits,Code.frames,Code.isFrame]
def dg.make {k:Nat} {A:Around} (r:dg (k+1) A) (C:am) (us:bM) (K:List (Str×aA)):dg k (A.under (.builtin "type.__call__" ⟨.ref C::us,K⟩)) :=
 ⟨r.hd,by have:=r.dp;rw [BQ];lia,by have:=r.un;rw [Bv];lia⟩
theorem dg.depth {k:Nat} {A:Around} (r:dg k A):A.depth<recursionLimit:=by have:=r.dp;lia
theorem dg.units {k:Nat} {A:Around} (r:dg k A):A.units+64<cLine:=by have:=r.un;lia
def LD:TA:=λ Z H Q=>Q [] H
def OE (t:TE) (T:TA):TA:=λ U H Q=>t U H λ x h=>T U h λ X a=>Q (x::X) a
section
variable {X:Cx} {e:Expr} {es:List Expr} {te:TE} {t:TA} {pos:Pos}
def af:PA X [] LD:=λ Z Z Z Z H Q I h=>adL ⟨[],H,I,.nil,h⟩
def aa (d:PE X e te) (f:PA X es t) (g:autoParam (Ch X e es) za_._auto_1):PA X (e::es) (OE te t):=by
 intro pos p s U H Q I h
 rw [g]
 show wpAny _ _ (spliced ((false,eval e X.env)::backTo pos (starEach es X.env))) _ _ s
 refine ac2 (c7 (d p s U H _ I h) λ u S ⟨x,a,i,r,q⟩=>?_)
 exact c7 (f pos p S U a _ i q) λ m l ⟨k,b,c,R,j⟩=>⟨x::k,b,c,.cons r R,j⟩
def XO (t:TA):TE:=λ U H Q=>t U H λ x h=>x.length<=sizeLine/\∀ p,h p=none->Q (.ref p) (upd h p (.tup x))
def XA (t:TA):TE:=λ U H Q=>t U H λ x h=>x.length<=sizeLine/\∀ p,h p=none->Q (.ref p) (upd h p (.lst x))
def aY {x} (h:PA X es t):PE X (.Tuple es x pos) (XO t):=by
 intro p s U H Q I d
 refine wpAny_Tuple_spliced (c7 (h pos p s U H _ I d) λ f S ⟨g,a,i,r,z,q⟩=>⟨by rw [<- r.length];exact z,?_⟩)
 have c:a S.heap.objs.size=none:=i.dF.fresh (aak _)
 refine ⟨.ref S.heap.objs.size,upd a S.heap.objs.size (.tup g),i.laid (t':=S.toks) (λ b u e=>aal _ e) (aak _) ?_,rfl,q _ c⟩
 exact ⟨z,f,r,⟨_,aaR _ rfl,rfl,_,rfl⟩⟩
def bG (h:PA X es t):PE X (.List es pos) (XA t):=by
 intro p s U H Q I d
 refine wpAny_List_spliced (c7 (h pos p s U H _ I d) λ f S ⟨x,a,i,r,z,q⟩=>⟨by rw [<- r.length];exact z,?_⟩)
 have c:a S.heap.objs.size=none:=i.dF.fresh (aak _)
 refine ⟨.ref S.heap.objs.size,upd a S.heap.objs.size (.lst x),i.laid (t':=S.toks) (λ b u e=>aal _ e) (aak _) ?_,rfl,q _ c⟩
 exact ⟨z,f,0,r,aaR _ rfl⟩
end
abbrev Sp:=aB->Hp->VK->XK->Prop
abbrev HL:=List Env->Hp->Shared->XK->aA->Shared->Prop
structure BF (P:bD) (w:bz) (K:aE) (mg:dX) (base:bE) (A:Around) (outer:List Env) (s:Shared) (H:Hp):Prop where
 frames:A.frames=some outer
 mod:Mod K mg base
 bs:∀ b o,base.get? b=some o->s.heap.get? b=some o/\H b=none
 KO:base.objs.size<=s.heap.objs.size
 sI:s.heap.FunFrames base outer
 Me:∀ b∈EV outer,H b=none
 dF:oM P w H s.heap
 bare:AllBare s.gens
def CE (outer:List Env) (P:bD) (w:bz) (H:Hp) (s:Shared) (Q:VK) (u:aA) (s':Shared):Prop :=
 ∃ v h,s'.os=s.os/\AllBare s'.gens/\Un (EV outer) [] H h s.heap s'.heap/\oM P w h s'.heap/\RelV v u/\Q v h
def CR (C:HL) (outer:List Env) (P:bD) (w:bz) (H:Hp) (s:Shared) (Q:VK) (E:XK) (r:Result) (s':Shared):Prop :=
 match r with
 | .ok (.ret u)=>CE outer P w H s Q u s'
 | .ok _=>False
 | .error e=>C outer H s E e s'
structure lZ (P:bD) (w:bz) (K:aE) (mg:dX) (base:bE) (CX:HL) (k:Nat) (f:am) (fd:FuncData) (ps:de) (sp:Sp):Prop where
 len:∀ vs H Q E,sp vs H Q E->vs.length=ps.length
 run:∀ (A:Around) (outer:List Env) (s:Shared) (H:Hp) (args:Args) (us:bM) (vs:aB) (Q:VK) (E:XK),dg k A->BF P w K mg base A outer s H->BindsTo s fd args (ps.zip us)->Vals vs us->sp vs H Q E ->
   codeAny (model P w) A (.call (.ref f) args) (CR CX outer P w H s Q E) s
def BF.make {P:bD} {w:bz} {K:aE} {m:dX} {b:bE} {A:Around} {outer:List Env} {s:Shared} (e:BF P w K m b A outer s H) (C:am) (us:bM) (k:List (Str×aA)) :
   BF P w K m b (A.under (.builtin "type.__call__" ⟨.ref C::us,k⟩)) outer s H:=⟨by first|exact e.frames|(simpa [Around.under,Code.envs,Code.isFrame,pushEnvs] using e.frames),e.mod,e.bs,e.KO,e.sI,e.Me,e.dF,e.bare⟩
section
variable {X:Cx} {pins:List (am×Obj)} {U:St} {H:Hp} {s s':Shared}
def Inv.QR (I:Inv X pins U H s):BF X.prog X.w X.K X.mg X.base X.A X.stack s H :=
 ⟨I.ok.frames,I.ok.mod,I.bs,aaA I.ok.KO I.sz,I.stack,I.Cq,I.dF,I.bare⟩
def Inv.after {u:aA} (I:Inv X pins U H s) (h:CE X.stack X.prog X.w H s Q u s'):EP X pins U Q u s':=by
 obtain ⟨v,a,O,B,e,D,r,q⟩:=h
 obtain ⟨c,g,d,t,o⟩:=s'
 obtain rfl:o=s.os:=O
 exact ⟨v,a,I.call (h':=c) (g':=g) (d':=d) (t':=t) (ch:=[]) e D B (λ b z=>absurd z (by simp)),r,q⟩
end
def CY (s:Sp) (i:aB) (E:XK) (t:TA):TE:=λ U H Q=>t U H λ v h=>s (v++i) h Q E
inductive Mw (C:am) (m:Str) (sp:Sp) (iL:aB) (E:XK) (t:TA) (U:St) (Q:VK) (x:V) (H1:Hp):Prop|mk (a dx:am) (fs:List (Str×V)) (h1:x = .ref a) (h2:H1 a=some (.ins C dx fs)) (h3:fs.lookup m=none) (q:t U H1 λ vs H2=>sp (x::(vs++iL)) H2 Q E)
def Ao (C:am) (m:Str) (s:Sp) (i:aB) (E:XK) (T:TE) (t:TA):TE:=λ U H Q=>T U H (Mw C m s i E t U Q)
def GR (C:am) (s:Sp) (i:aB) (E:XK) (t:TA):TE:=λ U H Q=>t U H λ V h=>∀ x d,h x=none->h d=none->d≠x ->
 s (.ref x::(V++i)) (upd (upd h d (.own x)) x (.ins C d [])) (λ v a=>v = .cC/\Q (.ref x) a) E
def Binds (K:aE) (f:FuncData) (p:de) (d:bM):Prop :=
 ∀ (s:Shared) (u:bM),K.In s.heap->(u++d).length=p.length->BindsTo s f ⟨u,[]⟩ (p.zip (u++d))
def Binds.all {K:aE} {f:FuncData} {p:de} (h:∀ us:bM,us.length=p.length->bindArgs f ⟨us,[]⟩=pure (p.zip us)):Binds K f p []:=λ s us Z H=>by
 rw [abf] at H |-
 exact .of_eq (h us H)
def Passes (C:HL) (X:Cx) (E:XK):Prop:=∀ (p:List (am×Obj)) (U:St) (H:Hp) (s:Shared) (e:aA) (s':Shared),Inv X p U H s->C X.stack H s E e s'->X.xe e s'
section
variable {X:Cx} {CX:HL} {k:Nat} {f C:am} {fd:FuncData} {ps:de} {sp:Sp} {iL:aB} {ds:bM} {E:XK} {x m:Str} {p pos apos:Pos} {e o:Expr} {es:List Expr} {ta:TE} {t:TA}
def AQ {p:List (am×Obj)} {s:Shared} {us:bM} {vs:aB} (F:lZ X.prog X.w X.K X.mg X.base CX k f fd ps sp) (i:dg k X.A) (c:Binds X.K fd ps ds) (d:Vals iL ds) (j:Passes CX X E) (I:Inv X p U H s) (r:Vals vs us) (h:sp (vs++iL) H Q E):wpAny (model X.prog X.w) X.A (call (.ref f) us) (EP X p U Q) X.xe s:=by
 have R:Vals (vs++iL) (us++ds):=r.append d
 have g:(us++ds).length=ps.length:=by rw [<- R.length];exact F.len _ _ _ _ h
 refine wpAny_call (adP (F.run X.A X.stack s H ⟨us,[]⟩ (us++ds) (vs++iL) Q E i I.QR (c s us I.sF g) R h) λ r s' a=>?_)
 cases r with
 | error e=>exact j p U H s e s' I a
 | ok b =>
   cases b with
   | ret u=>exact I.after a
   | next=>exact False.elim a
   | brk=>exact False.elim a
   | cont=>exact False.elim a
def Cw (F:lZ X.prog X.w X.K X.mg X.base CX k f fd ps sp) (u:dg k X.A) (m:Gl X x) (o:X.mg x=some (.ref f)) (n:W.keepIn X.K (.ref f)=true) (d:Binds X.K fd ps ds) (j:Vals iL ds) (v:Passes CX X E) (c:PA X (e::es) t) (b:autoParam (AJ x) zb_._auto_1) (l:autoParam (Ch X e es) za_._auto_1) (g:autoParam (Fb X es pos) za_._auto_1) :
   PE X (.Call (.Name x p) (e::es) [] pos) (CY sp iL E t):=by
 intro a s U H Q I h
 refine aca (ym I m o ?_ b)
 refine W.callWith_K (h₀:=X.base) I.ok.mod.PK n (c7 (c pos a s U H _ I h) λ z S ⟨V,y,i,r,q⟩=>⟨i.sF,?_⟩) l g
 exact AQ F u d j v i r q
def IJ {pl:Sem Bool} (D:PE X o ta) (c:zm X.K C) (d:Meth X.K C m f) (F:lZ X.prog X.w X.K X.mg X.base CX k f fd ps sp) (J:dg k X.A) (z:Binds X.K fd ps ds) (B:Vals iL ds) (M:Passes CX X E) (y:PA X (e::es) t) (N:autoParam (Ch X e es) za_._auto_1) (G:autoParam (Fb X es pos) za_._auto_1) (L:autoParam (eval (.Call (.Attribute o m apos) (e::es) [] pos) X.env=(do
     let O <- eval o X.env
     standAt apos.atName
     let (f,first) <- holding [O] (getMethod O m pl)
     callWith pos f first (backTo pos (starEach (e::es) X.env)) (backToKw pos (keywordEach [] X.env)))) za_._auto_1) :
   PE X (.Call (.Attribute o m apos) (e::es) [] pos) (Ao C m sp iL E ta t):=by
 intro p s U H Q I h
 refine W.methodCall_KW (pl:=pl) (c7 (D p s U H _ I h) λ u T ⟨x,j,i,S,a,Y,fs,ex,n,l,q⟩=>?_) L
 subst ex
 obtain rfl:u=Value.ref a:=S
 refine uX i n c d l ?_
 refine W.callWith_K (first:=[.ref a]) (h₀:=X.base) I.ok.mod.PK d.kp (c7 (y pos p T U j _ i q) λ g s2 ⟨v,V,b,r,R⟩=>⟨b.sF,?_⟩) N G
 exact AQ (us:=.ref a::g) (vs:=.ref a::v) F J z B M b (.cons rfl r) R
def G3 {pl:Sem Bool} (j:PE X o ta) (c:zm X.K C) (b:Meth X.K C m f) (F:lZ X.prog X.w X.K X.mg X.base CX k f fd ps sp) (n:dg k X.A) (d:Binds X.K fd ps ds) (g:Vals iL ds) (t:Passes CX X E) (r:autoParam (eval (.Call (.Attribute o m apos) [] [] pos) X.env=(do
     let O <- eval o X.env
     standAt apos.atName
     let (f,first) <- holding [O] (getMethod O m pl)
     callWith pos f first (backTo pos (starEach [] X.env)) (backToKw pos (keywordEach [] X.env)))) za_._auto_1) :
   PE X (.Call (.Attribute o m apos) [] [] pos) (Ao C m sp iL E ta LD):=by
 intro p s U H Q I h
 refine W.methodCall_KW (pl:=pl) (c7 (j p s U H _ I h) λ u S ⟨x,v,i,R,a,D,y,ex,e,l,q⟩=>?_) r
 subst ex
 obtain rfl:u=Value.ref a:=R
 refine uX i e c b l ?_
 exact W.callWith_K0 (first:=[.ref a]) i.sF b.kp (AQ (us:=[.ref a]) (vs:=[.ref a]) F n d g t i (.cons rfl .nil) q)
structure Mk (K:aE) (C f:am):Prop where
 makes:W.makesIn K C=true
 init:W.findIn K (.ref C) "__init__" = some (some (.ref f))
 fn:W.isFn K (.ref f)=true
 kp:W.keepIn K (.ref C)=true
def Fl {p:List (am×Obj)} {s:Shared} {us:bM} {vs:aB} (M:Mk X.K C f) (F:lZ X.prog X.w X.K X.mg X.base CX k f fd ps sp) (q:dg (k+1) X.A) (l:Binds X.K fd ps ds) (m:Vals iL ds) (t:Passes CX X E) (I:Inv X p U H s) (r:Vals vs us) (h:∀ x dx,H x=none->H dx=none->dx≠x->sp (.ref x::(vs++iL)) (upd (upd H dx (.own x)) x (.ins C dx [])) (λ v c=>v = .cC/\Q (.ref x) c) E) :
   wpAny (model X.prog X.w) X.A (call (.ref C) us) (EP X p U Q) X.xe s:=by
 have a:=h (s.heap.objs.size+1) s.heap.objs.size (I.dF.fresh (acp _)) (I.dF.fresh (aak _)) (aaO (adx _))
 have i:=Inv.made (C:=C) I
 have R:Vals (V.ref (s.heap.objs.size+1)::(vs++iL)) (Value.ref (s.heap.objs.size+1)::(us++ds)):=.cons rfl (r.append m)
 have o:(Value.ref (s.heap.objs.size+1)::us++ds).length=ps.length:=by
   have e:=R.length
   rw [F.len _ _ _ _ a] at e
   exact e.symm
 refine wpAny_call (Hg (f:=f) I.sF M.makes M.init (ach.mp M.fn) (adP (F.run _ X.stack _ _ ⟨Value.ref (s.heap.objs.size+1)::us,[]⟩ (Value.ref (s.heap.objs.size+1)::(us++ds)) _ _ E (q.make C us [])
   (i.QR.make C us []) (l _ (Value.ref (s.heap.objs.size+1)::us) i.sF o) R a) λ r s' n=>?_))
 cases r with
 | error e=>exact t p U _ _ e s' i n
 | ok j =>
   cases j with
   | ret u =>
     obtain ⟨v,b,d,z,g,y⟩:=i.after n
     subst g
     exact ⟨z,⟨V.ref (s.heap.objs.size+1),b,d,rfl,y⟩⟩
   | next=>exact False.elim n
   | brk=>exact False.elim n
   | cont=>exact False.elim n
def Jy (M:Mk X.K C f) (F:lZ X.prog X.w X.K X.mg X.base CX k f fd ps sp) (o:dg (k+1) X.A) (m:Gl X x) (n:X.mg x=some (.ref C)) (d:Binds X.K fd ps ds) (j:Vals iL ds) (u:Passes CX X E) (c:PA X (e::es) t) (b:autoParam (AJ x) zb_._auto_1) (l:autoParam (Ch X e es) za_._auto_1) (g:autoParam (Fb X es pos) za_._auto_1) :
   PE X (.Call (.Name x p) (e::es) [] pos) (GR C sp iL E t):=by
 intro a s U H Q I h
 refine aca (ym I m n ?_ b)
 refine W.callWith_K (h₀:=X.base) I.ok.mod.PK M.kp (c7 (c pos a s U H _ I h) λ y S ⟨V,v,i,r,q⟩=>⟨i.sF,?_⟩) l g
 exact Fl M F o d j u i r q
end
structure aC (N P:de) (sc:Scope):Prop where
 kind:sc.kind = .function
 co:sc.isCoroutine=false
 gen:sc.isGenerator=false
 nd:N.Nodup
 pre:N.take P.length=P
 par:∀ x∈P,sc.names.lookup x=some .local\/sc.names.lookup x=some .cell
 L5:∀ y∈sc.names,y.2 ≠ .free
theorem wB {k:Str->Option NameKind} {x:Str}:∀ {b:List (Str×aA)} {m:dX},(∀ v,(x,v)∉b)->bindL k b m x=m x
 | [],_,_=>rfl
 | (n,v)::r,m,h=>by
   unfold bindL
   rw [wB λ w hw=>h w (aaj _ hw)]
   split
   . have:x≠n:=by rintro rfl;exact h v aar
     simp [this]
   . rfl
theorem wy {k:Str->Option NameKind} {x:Str}:∀ {b:List (Str×aA)} {m:dX},(∀ v,(x,v)∉b)->bindC k b m x=m x
 | [],_,_=>rfl
 | (n,v)::r,m,h=>by
   unfold bindC
   rw [wy λ w hw=>h w (aaj _ hw)]
   split
   . rfl
   . have:x≠n:=by rintro rfl;exact h v aar
     simp [this]
theorem wx {k:Str->Option NameKind} {x:Str} {v:aA}:∀ {P:de} {vs:bM} {i:Nat} {m:dX},P.Nodup->P[i]?=some x->vs[i]?=some v->k x=some .local ->
   bindL k (P.zip vs) m x=some v
 | [],_,_,_,_,h,_,_=>by simp at h
 | _::_,[],_,_,_,_,h,_=>by simp at h
 | p::P,w::vs,0,m,n,H,a,b=>by
   simp at H a;subst H;subst a
   show bindL k ((p,w)::P.zip vs) m p=_
   unfold bindL
   rw [wB λ v c=>(aaS.mp n).1 (adE c).1,aau b]
   simp
 | p::P,w::vs,i+1,m,n,H,a,b=>by
   show bindL k ((p,w)::P.zip vs) m x=_
   unfold bindL
   exact wx (i:=i) (aaS.mp n).2 (by simpa using H) (by simpa using a) b
theorem wg {k:Str->Option NameKind} {x:Str} {v:aA}:∀ {P:de} {vs:bM} {i:Nat} {m:dX},P.Nodup->P[i]?=some x->vs[i]?=some v->k x≠some .local ->
   bindC k (P.zip vs) m x=some v
 | [],_,_,_,_,h,_,_=>by simp at h
 | _::_,[],_,_,_,_,h,_=>by simp at h
 | p::P,w::vs,0,m,n,H,a,b=>by
   simp at H a;subst H;subst a
   show bindC k ((p,w)::P.zip vs) m p=_
   unfold bindC
   rw [wy λ v c=>(aaS.mp n).1 (adE c).1,aax b]
   simp
 | p::P,w::vs,i+1,m,n,H,a,b=>by
   show bindC k ((p,w)::P.zip vs) m x=_
   unfold bindC
   exact wg (i:=i) (aaS.mp n).2 (by simpa using H) (by simpa using a) b
def start (N:de) (vs:aB):St:=vs.map some++List.replicate (N.length - vs.length) none
def qv (C:HL) (P:bD) (w:bz) (K:aE) (mg:dX) (base:bE) (N:de) (q:Str) (S:Scope) (f:am) (c:aA) (A:Around) (outer:List Env) (s:Shared) (H:Hp) (E:XK):Cx where
 prog:=P
 w:=w
 K:=K
 mg:=mg
 base:=base
 A:=A.deeper (envOfC q S s.heap.objs.size f c)
 N:=N
 s₀:=s
 H₀:=H
 env:=envOfC q S s.heap.objs.size f c
 outer:=outer
 stack:=envOfC q S s.heap.objs.size f c::outer
 ex:=[]
 calm:=true
 fn:=λ Z=>true
 pn:=[]
 xe:=λ e s'=>wpAny (model P w) (A.deeper (envOfC q S s.heap.objs.size f c)) (leaving (envOfC q S s.heap.objs.size f c) e) (λ Z V=>C outer H s E e V) (λ a V=>C outer H s E a V) s'
def zQ {s:Scope} {n:Nat} {x:Str} (h:s.names.lookup x=some .cell):∃ c,(cellsFrom n s.names []).lookup x=some c:=by
 have q:=W.cellsFrom_some s.names n [] (.inl h)
 exact abP.mp q
def Em {D:HL} {P:bD} {w:bz} {K:aE} {M:dX} {B:bE} {N m:de} {d:Scope} {f:am} {C:aA} {A:Around} {outer:List Env} {s s1:Shared} {E:XK} {us:bM} {vs:aB} (S:aC N m d) (L:A.handled=none) (j:BF P w K M B A outer s H) (U:vs.length=m.length) (r:Vals vs us) (x:InCallC s s.heap.objs.size (bindL (envOfC qual d s.heap.objs.size f C).kindOf (m.zip us) λ Z=>none) (cellsFrom (s.heap.objs.size+1) d.names []) (bindC (envOfC qual d s.heap.objs.size f C).kindOf (m.zip us) λ Z=>none) s1) :
   Inv (qv D P w K M B N qual d f C A outer s H E) [] (start N vs) H s1:=by
 have Q:m.length<=N.length:=by have:=abE List.length S.pre;rw [aaK] at this;lia
 obtain ⟨t,V,rfl,G⟩:=x.done
 have R:∀ b:am,b∉(qv D P w K M B N qual d f C A outer s H E).ex:=λ b z=>absurd (show b∈([]:bJ) from z) (by simp)
 refine ⟨⟨j.mod,S.kind,rfl,rfl,aak _,λ y z c t g=>?_,λ y l=>?_,λ y c Z h=>?_,λ Z=>L,Around.frames_deeper j.frames,.inr ⟨rfl,rfl⟩,λ b z=>absurd z (R b),j.bs,j.KO,λ b Z Z=>R b,λ b z=>absurd z (R b),j.sI,j.Me⟩,
   rfl,j.bare,Un.kept G,⟨_,x.toInCall.ns,λ i y v t g T=>?_⟩,λ y c h=>⟨_,x.cell y c h⟩,j.dF.fresh (aak _),λ y c h=>?_,λ p o=>absurd (show p∈([]:List (am×Obj)) from o) (by simp),j.dF.kept G,?_⟩
 . exact name_of_addr x.apart (abJ t) (abJ g)
 .
  have l:d.names.lookup y=some .cell\/d.names.lookup y=some .free:=l
  rcases l with l|l
  . exact zQ l
  . exact absurd rfl (S.L5 _ (abJ l))
 . exact ab4 (x.above y c (abJ h))
 .
  have hi:i<vs.length:=by
    unfold start at g
    by_cases hi:i<vs.length
    . exact hi
    . rw [aa0 (by simpa using hi)] at g
      rw [adZ] at g
      split at g<;>cases g
  have J:vs[i]?=some v:=by
    unfold start at g
    rw [aan (by simpa using hi),Zj] at g
    cases e:vs[i]? with
    | none=>rw [e] at g;cases g
    | some a=>rw [e] at g;cases g;rfl
  obtain ⟨u,I,O⟩:=r.get J
  have o:m[i]?=some y:=by
    rw [<- S.pre,adS (by lia)];exact t
  have F:m.Nodup:=by rw [<- S.pre];exact S.nd.sublist (List.take_sublist _ _)
  refine ⟨u,O,?_⟩
  rcases S.par y (aah o) with k|k
  . exact .inl ⟨k,wx F o I k⟩
  .
   obtain ⟨c,e⟩:=zQ (n:=s.heap.objs.size+1) k
   refine .inr ⟨.inl k,c,e,?_⟩
   have q:=x.cell y c e
   rw [wg F o I (by show d.names.lookup y≠_;rw [k];decide)] at q
   exact q
 . exact j.dF.fresh (ab4 (x.above y c (abJ h)))
 .
  unfold start
  show _=N.length
  rw [aaf,No,ab5]
  lia
def J1 {C:HL} {P:bD} {w:bz} {K:aE} {m:dX} {B:bE} {k:Nat} {f:am} {name:Str} {p:Arguments} {c:List Stmt} {a:Scope} {T kV D U g ct oc:aA} {O od:Option am} {yO:Array (jC)} {N l:de} {sp:Sp} (lk:K.lookup f=some ⟨oc,od,.func (W.fnOf name qual p c a T kV D U O g ct),yO⟩) (yp:W.codeIn K g qual=true) (S:aC N l a) (len:∀ vs H Q E,sp vs H Q E->vs.length=l.length) (ii:∀ (A:Around) (outer:List Env) (s:Shared) (H:Hp) (vs:aB) (Q:VK) (E:XK),dg k (A.deeper (envOfC qual a s.heap.objs.size f g))->sp vs H Q E ->
     ∃ t,vO (qv C P w K m B N qual a f g A outer s H E) c t/\t { nx:=λ _ h=>Q .cC h,rt:=Q } (start N vs) H) :
   lZ P w K m B C (k+1) f (W.fnOf name qual p c a T kV D U O g ct) l sp:=by
 refine ⟨len,λ A outer s H args us vs Q E z j hb r G=>?_⟩
 have hl:=len _ _ _ _ G
 have M:K.In s.heap:=j.mod.PK.keeps λ b o e=>(j.bs b o e).1
 have L:s.heap.NoLimit:=j.mod.nolimit.keeps λ b o e=>(j.bs b o e).1
 have X:∀ y∈l.zip us,a.names.lookup y.1=some .local\/(a.names.lookup y.1=some .cell/\((cellsFrom (s.heap.objs.size+1) a.names []).lookup y.1).isSome=true):=λ ⟨n,v⟩ hy=>by
   rcases S.par n (adE hy).1 with q|q
   . exact .inl q
   . exact .inr ⟨q,W.cellsFrom_some _ _ _ (.inl q)⟩
 refine codeAny_call_function z.depth (M _ _ lk) rfl S.co S.gen rfl (W.codeRec_of M yp) (hb _ _ _ _ ?_)
 refine wpAny_newFunctionEnv_cells S.kind X λ env he s1 x=>?_
 subst he
 refine ⟨L.keeps x.toInCall.keep,codeAny_func ?_⟩
 obtain ⟨t,ht,hq⟩:=ii A outer s H vs Q E (z.deeper _) G
 have I:Inv (qv C P w K m B N qual a f g A outer s H E) [] (start N vs) H s1:=Em S z.hd j hl r x
 refine abB (ht [] s1 (start N vs) H _ I hq) (λ Y s' i=>?_) λ e s' i=>i
 have F:∀ {d:St} {h:Hp} {v:V} {u:aA},Inv (qv C P w K m B N qual a f g A outer s H E) [] d h s'->RelV v u->Q v h->CE outer P w H s Q u s' :=
   λ {d h v u} J R q=>⟨v,h,J.os,J.bare,J.base,J.dF,R,q⟩
 cases Y with
 | ret u =>
   obtain ⟨v,d,h,J,R,q⟩:=i
   exact F J R q
 | next =>
   obtain ⟨d,h,J,q⟩:=i
   exact F (v:=V.cC) (u:=Value.none) J rfl q
 | brk =>
   obtain ⟨_,_,_,q⟩:=i
   exact False.elim q
 | cont =>
   obtain ⟨_,_,_,q⟩:=i
   exact False.elim q
section
variable {X:Cx} {x:Str} {p pos:Pos} {e:Expr} {es:List Expr} {t:TA} {id T:String} {r:aB->Hp->VK->Prop}
def ZA (r:aB->Hp->VK->Prop) (t:TA):TE:=λ U H Q=>t U H λ v h=>r v h Q
def aV (d:iJ X (.builtin id) r) (j:Gl X x) (k:X.mg x=none) (m:bootBuiltins x=some (.builtin id)) (c:PA X (e::es) t) (l:autoParam (x ≠ "__name__") zb_._auto_1) (A:autoParam (AJ x) zb_._auto_1) (f:autoParam (Ch X e es) za_._auto_1) (g:autoParam (Fb X es pos) za_._auto_1):PE X (.Call (.Name x p) (e::es) [] pos) (ZA r t):=by
 intro a s U H Q I h
 refine aca (jv I j k m ?_ l A)
 exact PyProof.Rows.callWith_builtin1 (c7 (c pos a s U H _ I h) λ u S ⟨v,b,i,R,q⟩=>d a S U b v u Q i R q) f g
def cH (d:iJ X (.type T) r) (j:Gl X x) (k:X.mg x=none) (m:bootBuiltins x=some (.type T)) (c:PA X (e::es) t) (l:autoParam (x ≠ "__name__") zb_._auto_1) (A:autoParam (AJ x) zb_._auto_1) (f:autoParam (Ch X e es) za_._auto_1) (g:autoParam (Fb X es pos) za_._auto_1):PE X (.Call (.Name x p) (e::es) [] pos) (ZA r t):=by
 intro a s U H Q I h
 refine aca (jv I j k m ?_ l A)
 exact abc (c7 (c pos a s U H _ I h) λ u S ⟨v,b,i,R,q⟩=>d a S U b v u Q i R q) f g
end
end L2
namespace HT
open PySem PyProof.Rows
def lexLt:List Int->List Int->Bool
 | [],[]=>false
 | [],_::_=>true
 | _::_,[]=>false
 | x::xs,y::ys=>if x=y then lexLt xs ys else decide (x<y)
section
variable {prog:bD} {w:bz} {A:Around} {E:aA->Shared->Prop} {s:Shared}
def Ih {t b:am} {vs W:bM} {Q:aA->Shared->Prop} (m:IsTup s.heap t vs.toArray) (k:IsTup s.heap b W.toArray) (g:vs≠[])
   (i:W=[]->Q (.ref t) s) (j:W≠[]->Q (.ref s.heap.objs.size) { s with heap:=s.heap.push { cls:=.type "tuple",data:=.seq (vs++W).toArray }})
   (hsz:vs.length+W.length<=sizeLine):wpAny (model prog w) A (binaryOp .Add (.ref t) (.ref b)) Q E s:=by
 obtain ⟨⟨cls,D,data,sl⟩,H,c,n,f⟩:=id m
 obtain ⟨⟨V,l,d,S⟩,L,M,N,h⟩:=id k
 simp only at c f M h
 subst c f M h
 have e:vs.toArray++W.toArray=(vs++W).toArray:=by simp
 by_cases a:W=[]
 . exact concat_meets ⟨_,H,rfl⟩ ⟨_,L,rfl⟩ adW seq_tuple_add ac3 acS (acM _ _)
     (tuple_addW1 t b vs.toArray W.toArray n N D l sl S (by simpa using g) (by simp [a])) ⟨H,L,i a⟩
 .
  refine concat_meets ⟨_,H,rfl⟩ ⟨_,L,rfl⟩ adW seq_tuple_add ac3 acS (acM _ _)
    (tuple_addW2 t b vs.toArray W.toArray n N D l sl S (by simpa using g) (by simpa using a) (by rw [aat,aat];exact hsz)) ⟨H,L,?_⟩
  rw [e]
  exact j a
def tf (n d:Nat):Option Int->Nat
 | none=>d
 | some v=>if v<0 then (v+(n:Int)).toNat else min v.toNat n
def FC (n d:Nat):tf n d none=d:=rfl
def J0 (n d k:Nat):tf n d (some (k:Int))=min k n:=by
 show (if (k:Int)<0 then ((k:Int)+(n:Int)).toNat else min (k:Int).toNat n)=min k n
 rw [aax (by lia),aaV]
end
end HT
namespace L2
open PySem PySem.Spec PyProof.Rows
variable {H H':Hp} {t':Nat} {U:St}
abbrev TO:=St->Hp->(Option Int->Hp->Prop)->Prop
def PO (X:Cx) (e:Option Expr) (t:TO):Prop :=
 ∀ (p:List (am×Obj)) (s:Shared) (U:St) (H:Hp) (Q:Option Int->Hp->Prop),Inv X p U H s->t U H Q ->
   wpAny (model X.prog X.w) X.A (evalPart e X.env) (λ u S=>∃ o H',Inv X p U H' S/\IsPart u o/\Q o H') X.xe s
def Jc:TO:=λ Z H Q=>Q none H
def Pp (t:TE):TO:=λ U H Q=>t U H λ x h=>∃ i,x = .int i/\Q (some i) h
section
variable {X:Cx} {e:Expr} {te:TE} {lo hi:Option Expr} {tl th:TO} {pos p2:Pos}
def pS:PO X none Jc:=by
 intro p s U H Q I h
 rw [evalPart_none]
 exact aao ⟨none,H,I,.none,h⟩
def pI (h:PE X e te):PO X (some e) (Pp te):=by
 intro p s U H Q I c
 rw [evalPart_some]
 refine c7 (h p s U H _ I c) λ u S ⟨x,a,b,r,d⟩=>?_
 obtain ⟨i,rfl,q⟩:=d
 obtain ⟨t,rfl⟩:=r
 exact ⟨some i,a,b,.int i t,q⟩
def Sm (X:Cx) (r:V->Option Int->Option Int->Hp->VK->Prop):Prop :=
 ∀ (p:List (am×Obj)) (s:Shared) (U:St) (H:Hp) (x:V) (v a b:aA) (lo hi:Option Int) (sl:am) (Q:VK),Inv X p U H s->RelV x v->s.heap.IsSliceOf sl a b .none->IsPart a lo->IsPart b hi->r x lo hi H Q ->
   ∃ T id,typeLookup (.type T) "__getitem__" = pure (some (.builtin id))/\s.TypeIs v T/\wpAny (model X.prog X.w) X.A (getItem v (.ref sl)) (EP X p U Q) X.xe s
def tSl (r:V->Option Int->Option Int->Hp->VK->Prop) (t:TE) (c T:TO):TE:=λ U H Q=>t U H λ x h=>c U h λ l a=>T U a λ u b=>r x l u b Q
def lW {r:V->Option Int->Option Int->Hp->VK->Prop} (z:Sm X r) (o:PE X e te) (y:PO X lo tl) (C:PO X hi th):PE X (.Subscript e (.Slice lo hi none p2) pos) (tSl r te tl th):=by
 intro p s U H Q I h
 refine Subscript_ (c7 (o p s U H _ I h) λ v K ⟨x,f,i,R,F⟩=>?_)
 refine wpAny_Slice (c7 (y p K U f _ i F) λ a L ⟨l,g,j,D,G⟩=>c7 (C p L U g _ j G) λ c S ⟨u,d,k,E,J⟩=>?_)
 rw [evalPart_none]
 refine aao ?_
 have m:Inv X p U d { S with heap:=S.heap.push { cls:=.type "slice",data:=.fields #[a,c,.none]}}:=k.kept (t':=S.toks) λ b O q=>aal _ q
 obtain ⟨T,id,n,B,t⟩:=z p { S with heap:=S.heap.push { cls:=.type "slice",data:=.fields #[a,c,.none]}} U d x v a c l u S.heap.objs.size Q m R (Heap.IsSliceOf.new ..) D E J
 show wpAny (model X.prog X.w) X.A (subscriptTail e (.Slice lo hi none p2) v (.ref S.heap.objs.size)) (EP X p U Q) X.xe { S with heap:=S.heap.push { cls:=.type "slice",data:=.fields #[a,c,.none]}}
 exact tail_any (ops:=[.ref S.heap.objs.size,v]) B n t (by with_unfolding_all rfl)
def vF (xs:aB) (lo hi:Option Int):aB:=(xs.drop (HT.tf xs.length 0 lo)).take (HT.tf xs.length xs.length hi - HT.tf xs.length 0 lo)
def zq (xs:aB) (lo hi:Option Int):(vF xs lo hi).length<=xs.length:=by
 unfold vF
 rw [aaK,ac1]
 lia
inductive NH (K:aE) (x:V) (y:V) (H:Hp) (Q:VK):Prop|mk (a b xs ys:_) (_:x = .ref a) (_:y = .ref b) (_:bY K H a xs) (_:bY K H b ys) (_:xs≠[]) (_:xs.length+ys.length<=sizeLine) (_:(ys=[]->Q (.ref a) H)) (_:(ys≠[]->∀ p,H p=none->Q (.ref p) (upd H p (.tup (xs++ys)))))
def Vals.sT {xs:aB} {us:bM} (r:Vals xs us):us=[]↔xs=[]:=by
 cases r with
 | nil=>simp
 | cons _ _=>simp
def IQ:jo X (binaryOp .Add) (NH X.K):=by
 intro p s U H x y v u Q I k l h
 obtain ⟨a,b,m,Y,rfl,rfl,d,e,f,c,i,j⟩:=h
 cases k
 cases l
 obtain ⟨B,R,g,Z⟩:=I.tuple d
 obtain ⟨O,r,p2,Z⟩:=I.tuple e
 refine HT.Ih g p2 (λ z=>f (R.sT.mp z)) (λ z=>⟨.ref a,H,I,rfl,i (r.sT.mp z)⟩) (λ z=>?_) (by rw [<- R.length,<- r.length];exact c)
 refine ⟨.ref s.heap.objs.size,_,I.laid (t':=s.toks) (o:=.tup (m++Y)) (λ b n q=>aal _ q) (aak _) ?_,rfl,j (λ w=>z (r.sT.mpr w)) _ (I.dF.fresh (aak _))⟩
 exact ⟨by rw [aaf];exact c,_,R.append r,IsTup.new _ _⟩
end
def EU (n:Nat) (i:Int):Option Nat:=if 0<=i then (if i<n then some i.toNat else none) else if -(n:Int)<=i then some (i+n).toNat else none
def oh {α:Type} (xs:List α) (i:Int):Option α:=(EU xs.length i).bind λ j=>xs[j]?
def C4 {n:Nat} {i:Int} {j:Nat} (h:EU n i=some j):seqIndex? i n=some j/\j<n/\-(n:Int)<=i/\i<n:=by
 unfold EU at h
 by_cases a:0<=i
 .
  rw [aau a] at h
  by_cases H:i<n
  . rw [aau H] at h
    have e:i.toNat=j:=aaq h
    exact ⟨by rw [seqIndex_of a H,e],by lia,by lia,H⟩
  . rw [aax H] at h;cases h
 .
  rw [aax a] at h
  by_cases H : -(n:Int)<=i
  . rw [aau H] at h
    have e:(i+n).toNat=j:=aaq h
    exact ⟨by rw [seqIndex_neg (by lia) H,e],by lia,H,by lia⟩
  . rw [aax H] at h;cases h
def C9 {a:Type} {xs:List a} {i:Int} {v:a} (h:oh xs i=some v):∃ j,seqIndex? i xs.length=some j/\xs[j]?=some v/\j<xs.length/\-(xs.length:Int)<=i/\i<xs.length:=by
 unfold oh at h
 cases e:EU xs.length i with
 | none=>rw [e] at h;cases h
 | some j =>
   rw [e] at h
   obtain ⟨H,b,c,d⟩:=C4 e
   exact ⟨j,H,h,b,c,d⟩
def cm {a:Type} {xs:List a} {j:Nat} {v:a} (h:xs[j]?=some v):oh xs (j:Int)=some v:=by
 have H:j<xs.length:=(Br.mp h).1
 have e:EU xs.length (j:Int)=some j:=by
   unfold EU
   rw [aau (by lia),aau (by lia)];simp
 unfold oh;rw [e];exact h
def HY (b:Expr):Prop:=∀ o i,subscripted b false o i=operate [o,i] (getItem o i)
def ND (X:Cx) (r:R2):Prop :=
 ∀ (a S:Expr) (p:List (am×Obj)) (s:Shared) (U:St) (H:Hp) (x y:V) (v u:aA) (Q:VK),Inv X p U H s->RelV x v->RelV y u->r x y H Q ->
   subscripted S false v u=operate [v,u] (getItem v u)->wpAny (model X.prog X.w) X.A (subscriptTail a S v u) (EP X p U Q) X.xe s
def Wn (X:Cx) (id:String) (r:V->aB->Hp->VK->Prop):Prop :=
 ∀ (p:List (am×Obj)) (s:Shared) (U:St) (H:Hp) (x:V) (a:aB) (v:aA) (u:bM) (Q:VK),Inv X p U H s->RelV x v->Vals a u->r x a H Q ->
   wpAny (model X.prog X.w) X.A (call (.builtin id) (v::u)) (EP X p U Q) X.xe s
section
variable {X:Cx} {a b:Expr} {ta tb:TE} {pos:Pos}
def ar {r:R2} (f:ND X r) (d:PE X a ta) (e:PE X b tb) (g:HY b:=by exact λ Z Z=>rfl):PE X (.Subscript a b pos) (QC r ta tb):=by
 intro p s U H Q I h
 exact Subscript_ (MT d e I h λ v u S x y c i R j q=>f a b p S U c x y v u Q i R j q (g _ _))
inductive UR (K:aE) (x:V) (y:V) (H:Hp) (Q:VK):Prop|mk (p xs i v:_) (_:x = .ref p) (_:y = .int i) (_:aX K H p xs) (_:oh xs i=some v) (_:Q v H)
inductive XH (K:aE) (x:V) (y:V) (H:Hp) (Q:VK):Prop|mk (p xs i v:_) (_:x = .ref p) (_:y = .int i) (_:bY K H p xs) (_:oh xs i=some v) (_:Q v H)
def Je:ND X (UR X.K):=by
 intro V S a s U H x y v u Q I R D h k
 obtain ⟨p,M,i,z,rfl,rfl,C,o,q⟩:=h
 cases R
 obtain ⟨t,rfl⟩:=D
 obtain ⟨B,r,d,L⟩:=I.list C
 obtain ⟨j,b,l,F,m,n⟩:=C9 o
 obtain ⟨w,e,J⟩:=r.get l
 have A:=r.length
 have G:=ui
 have f:EP X a U Q w s:=⟨z,H,I,J,q⟩
 by_cases g:0<=i
 .
  have c:i.toNat=j:=by
    rw [seqIndex_of g n] at b
    exact aaq b
  exact item_listR d.isList g (by lia) (by rw [c];simpa using e) f k
 .
  have c:(i+(B.toArray.size:Int)).toNat=j:=by
    rw [seqIndex_neg (by lia) m] at b
    rw [aat,<- A]
    exact aaq b
  exact subscriptTail_builtinR (x:=w) d.isList.typeIs slot_list_getitem.lookup
    (wpAny_getItem_list_neg (Q:=λ r E=>r=w/\EP X a U Q r E) d.isList (by lia) (by rw [aat]<;>lia) (by lia) (by rw [c];simpa using e) ⟨rfl,f⟩) k
def KU:ND X (XH X.K):=by
 intro V S a s U H x y v u Q I R n h m
 obtain ⟨p,G,i,z,rfl,rfl,l,g,q⟩:=h
 cases R
 obtain ⟨t,rfl⟩:=n
 obtain ⟨B,r,b,F⟩:=I.tuple l
 obtain ⟨j,c,d,A,C,D⟩:=C9 g
 obtain ⟨w,e,J⟩:=r.get d
 have k:=r.length
 have E:=ui
 have f:EP X a U Q w s:=⟨z,H,I,J,q⟩
 exact subscriptTail_builtinR (x:=w) b.typeIs slot_tuple_getitem.lookup
   (getItem_tuple (j:=j) (Q:=λ r o=>r=w/\EP X a U Q r o) b (by lia) (by lia) (by rw [aat,<- k];exact c) (by simpa using e) ⟨rfl,f⟩) m
def Bk (b:bM) (n j:Nat) (u:aA):Obj.mapSeq (·.setIfInBounds j u) { cls:=.type "list",data:=.seq b.toArray n }={ cls:=.type "list",data:=.seq (b.set j u).toArray n }:=by
 simp [Obj.mapSeq]
theorem Inv.lst {a:List (am×Obj)} {s:Shared} {p:am} {xs:aB} (I:Inv X a U H s) (h:H p=some (.lst xs)) :
   ∃ (b:bM) (n:Nat),Vals xs b/\s.heap.get? p=some { cls:=.type "list",data:=.seq b.toArray n }/\xs.length<=sizeLine:=by
 obtain ⟨z,b,n,r,e⟩:=I.dF p _ h
 exact ⟨b,n,r,e,z⟩
def Inv.LB {a:List (am×Obj)} {s:Shared} {p:am} {xs ys:aB} {B its':bM} {n N:Nat} {f:Obj->Obj} (I:Inv X a U H s) (h:H p=some (.lst xs)) (g:s.heap.get? p=some { cls:=.type "list",data:=.seq B.toArray n }) (c:f { cls:=.type "list",data:=.seq B.toArray n }={ cls:=.type "list",data:=.seq its'.toArray N }) (r:Vals ys its') (i:ys.length<=sizeLine) (t:Nat) :
   Inv X a U (upd H p (.lst ys)) { s with heap:=s.heap.update p f,toks:=t }:=by
 have e:(s.heap.update p f).get? p=some { cls:=.type "list",data:=.seq its'.toArray N }:=by
   rw [adq f g (by rw [c]<;>rfl),c]
 refine I.write (x:=p) (e:=p) (by rw [h];trivial) (.inl rfl) (λ b u d q=>(Heap.get?_update_other _ _ (acx d)).trans q) ⟨_,e⟩ ?_
 exact ⟨i,its',N,r,e⟩
def Om:V->V->V->Hp->(Hp->Prop)->Prop:=λ o i v H Q=>∃ p x k j,o = .ref p/\i = .int k/\H p=some (.lst x)/\EU x.length k=some j/\Q (upd H p (.lst (x.set j v)))
def set_list:Ln X Om:=by
 intro a s U H o i v O F u Q I z R A h
 obtain ⟨p,C,k,j,rfl,rfl,w,x,q⟩:=h
 cases z
 obtain ⟨t,rfl⟩:=R
 obtain ⟨B,n,r,e,y⟩:=I.lst w
 obtain ⟨b,D,l,m⟩:=C4 x
 have d:=r.length
 have E:=ui
 have f:Inv X a U (upd H p (.lst (C.set j v))) { s with heap:=s.heap.update p (Obj.mapSeq (·.setIfInBounds j u))} :=
   I.LB w e (Bk B n j u) (r.set A j) (by rw [abp];exact y) s.toks
 by_cases g:0<=k
 .
  have c:k.toNat=j:=by
    rw [seqIndex_of g m] at b
    exact aaq b
  exact W.ki_setAt e g (by lia) (by rw [aat,<- d];exact m) (by rw [c];exact ⟨_,f,q⟩)
 .
  have c:(k+(B.toArray.size:Int)).toNat=j:=by
    rw [seqIndex_neg (by lia) l] at b
    rw [aat,<- d]
    exact aaq b
  exact W.ki_setBack e (by lia) (by rw [aat,<- d];exact l) (by lia) (by rw [c];exact ⟨_,f,q⟩)
def xf (lo hi:Option Int) (n:Nat):(sliceBounds lo hi none n).1=((HT.tf n 0 lo:Nat):Int)/\(sliceBounds lo hi none n).2.1=((HT.tf n n hi:Nat):Int)/\(sliceBounds lo hi none n).2.2=1:=by
 refine ⟨?_,?_,rfl⟩
 .
  cases lo with
  | none=>simp [sliceBounds,HT.tf]
  | some i =>
    simp only [sliceBounds,HT.tf,Option.getD_none,show (1:Int) > 0 by decide,acw]
    by_cases h:i<0
    . simp only [h,acw]<;>lia
    . simp only [h,acq]<;>lia
 .
  cases hi with
  | none=>simp [sliceBounds,HT.tf]
  | some i =>
    simp only [sliceBounds,HT.tf,Option.getD_none,show (1:Int) > 0 by decide,acw]
    by_cases h:i<0
    . simp only [h,acw]<;>lia
    . simp only [h,acq]<;>lia
def vk (b:bM) (lo hi:Option Int):slicePick b.toArray lo hi none=((b.drop (HT.tf b.length 0 lo)).take (HT.tf b.length b.length hi - HT.tf b.length 0 lo)).toArray:=by
 obtain ⟨h,H,a⟩:=xf lo hi b.toArray.size
 unfold slicePick
 rw [h,H,a]
 simp only [sliceRange_one,pick_run,aat]<;>rfl
inductive Tk (K:aE) (x:V) (lo:Option Int) (hi:Option Int) (H:Hp) (Q:VK):Prop|mk (a xs:_) (_:x = .ref a) (_:aX K H a xs) (_:∀ p,H p=none->Q (.ref p) (upd H p (.lst (vF xs lo hi))))
def Da:Sm X (Tk X.K):=by
 intro p s U H x v V l lo hi sl Q I R f j k h
 obtain ⟨a,c,rfl,g,q⟩:=h
 cases R
 obtain ⟨B,r,e,i⟩:=I.list g
 have d:=r.length
 refine ⟨"list",_,slot_list_getitem.lookup,e.isList.typeIs,?_⟩
 refine wpAny_getItem_list_slice e.isList f j k .none (by simp) ?_ (by rw [aat]<;>lia)
 rw [vk,<- d]
 refine ⟨.ref s.heap.objs.size,_,I.laid (t':=s.toks) (o:=.lst (vF c lo hi)) (λ b O q=>aal _ q) (aak _) ?_,rfl,q _ (I.dF.fresh (aak _))⟩
 exact ⟨aaA (zq c lo hi) i,_,0,(r.drop (HT.tf c.length 0 lo)).take (HT.tf c.length c.length hi - HT.tf c.length 0 lo),aaR _ rfl⟩
def wT:iJ X (.builtin "len") (λ xs H Q=>∃ p ys,xs=[.ref p]/\(aX X.K H p ys\/bY X.K H p ys)/\Q (.int ys.length) H):=by
 intro d s U H xs i Q I r h
 obtain ⟨p,ys,rfl,b,q⟩:=h
 obtain ⟨u,rfl,f⟩:=vals1 r
 cases f
 have g:=ui
 rcases b with b|b
 . obtain ⟨B,R,c,e⟩:=I.list b
   have a:=R.length
   exact Calls.call_len_list c.isList (by simp only [aat]<;>lia) ⟨.int ys.length,H,I.tok _,⟨s.toks+1,by rw [aat,a]⟩,q⟩
 . obtain ⟨B,R,c,e⟩:=I.tuple b
   have a:=R.length
   exact len_tuple c (by simp only [aat]<;>lia) ⟨.int ys.length,H,I.tok _,⟨s.toks+1,by rw [aat,a]⟩,q⟩
def gv:iJ X (.type "list") (λ xs H Q=>∃ p ys,xs=[.ref p]/\(aX X.K H p ys\/bY X.K H p ys)/\∀ l,H l=none->Q (.ref l) (upd H l (.lst ys))):=by
 intro j s U H xs z Q I r h
 obtain ⟨p,ys,rfl,g,q⟩:=h
 obtain ⟨u,rfl,y⟩:=vals1 r
 cases y
 have f:∀ (B:bM),Vals ys B->ys.length<=sizeLine->∀ (a:bE) (c:Nat),(∀ b O,s.heap.get? b=some O->a.get? b=some O) ->
     a.get? s.heap.objs.size=some { cls:=.type "list",dict:=none,data:=.seq B.toArray c,slots:=#[]}->EP X j U Q (.ref s.heap.objs.size) { s with heap:=a }:=λ B R i a c k e =>
   ⟨.ref s.heap.objs.size,_,I.laid (t':=s.toks) k (aak _) (show dC X.prog X.w _ a _ (.lst ys) from ⟨i,B,c,R,e⟩),rfl,q _ (I.dF.fresh (aak _))⟩
 rcases g with g|g
 .
  obtain ⟨B,R,x,i⟩:=I.list g
  have d:=R.length
  obtain ⟨o,v,m,n,t⟩:=x.isList
  exact call_list_seq p (.inl rfl) v m t (λ a c k e=>f B R i a c k e) (by simp only [aat]<;>lia)
 .
  obtain ⟨B,R,x,i⟩:=I.tuple g
  have d:=R.length
  obtain ⟨o,v,m,n,t⟩:=x
  exact call_list_seq p (.inr rfl) v m t (λ a c k e=>f B R i a c k e) (by simp only [aat]<;>lia)
def eV:iJ X (.type "tuple") (λ xs H Q=>∃ p ys,xs=[.ref p]/\((aX X.K H p ys/\∀ l,H l=none->Q (.ref l) (upd H l (.tup ys)))\/(bY X.K H p ys/\Q (.ref p) H))):=by
 intro a s U H xs t Q I r h
 obtain ⟨p,ys,rfl,h⟩:=h
 obtain ⟨u,rfl,n⟩:=vals1 r
 cases n
 rcases h with ⟨d,q⟩|⟨d,q⟩
 .
  obtain ⟨B,R,f,j⟩:=I.list d
  have g:=R.length
  refine call_tuple_list f.isList (λ c m=>?_) (by simp only [aat]<;>lia)
  have i:Inv X a U H { s with heap:=c }:=I.kept (t':=s.toks) m
  have k:Inv X a U (upd H c.objs.size (.tup ys)) { s with heap:=c.push { cls:=.type "tuple",data:=.seq B.toArray }} :=
    i.laid (t':=s.toks) (λ b o e=>aal _ e) (aak _) (show dC X.prog X.w _ _ _ (.tup ys) from ⟨j,B,R,IsTup.new _ _⟩)
  exact ⟨.ref c.objs.size,_,k,rfl,q _ (i.dF.fresh (aak _))⟩
 . obtain ⟨B,R,f,j⟩:=I.tuple d
   exact call_tuple_same f ⟨.ref p,H,I,rfl,q⟩
def Xl (K:aE) (T:String) (x:V) (H:Hp):Prop:=match x with
 | .str _=>T = "str"
 | .int _=>T = "int"
 | .ref p=>(T = "list"/\∃ X,aX K H p X)\/(T = "tuple"/\∃ o,K.lookup p=some o/\o.cls = .type "tuple"/\o.dict=none) \/
     (T = "dict"/\((∃ a,H p=some (.dK a))\/∃ a,H p=some (.dT a)))\/(T = "set"/\∃ S n,H p=some (.set S n))
 | _=>False
def GB {b:List (am×Obj)} {s:Shared} {T:String} {x:V} {v:aA} (I:Inv X b U H s) (r:RelV x v) (ty:Xl X.K T x H) :
   s.TypeIs v T/\∀ a,v = .ref a->∃ O,s.heap.get? a=some O/\O.dict=none:=by
 cases x with
 | str z =>
   obtain ⟨t,rfl⟩:=r
   cases (show T = "str" from ty)
   exact ⟨typeIs_str s z t,λ Z e=>nomatch e⟩
 | int i =>
   obtain ⟨t,rfl⟩:=r
   cases (show T = "int" from ty)
   exact ⟨typeIs_int s i t,λ Z e=>nomatch e⟩
 | ref p =>
   cases r
   rcases ty with ⟨rfl,k,j⟩|⟨rfl,o,h,g,d⟩|⟨rfl,h⟩|⟨rfl,S,n,h⟩
   . obtain ⟨B,Z,f,Z⟩:=I.list j
     refine ⟨f.isList.typeIs,λ a e=>?_⟩
     cases e
     obtain ⟨o,n,e,c,d,Z⟩:=f
     exact ⟨o,e,d⟩
   . refine ⟨⟨o,I.sF p o h,g⟩,λ a e=>?_⟩
     cases e
     exact ⟨o,I.sF _ o h,d⟩
   .
    have z:∃ o,s.heap.get? p=some o/\o.ExactDict:=by
      rcases h with ⟨A,h⟩|⟨A,h⟩
      . obtain ⟨Z,Z,Z,Z,o,Z,Z,e,ex,Z⟩:=I.dF p _ h
        exact ⟨o,e,ex⟩
      . obtain ⟨Z,Z,Z,Z,o,Z,Z,e,ex,Z⟩:=I.dF p _ h
        exact ⟨o,e,ex⟩
    obtain ⟨o,e,ex⟩:=z
    refine ⟨⟨o,e,ex.1⟩,λ a E=>?_⟩
    cases E
    exact ⟨o,e,ex.2.1⟩
   . obtain ⟨o,Z,Z,Z,e,ex,Z⟩:=I.dF p _ h
     refine ⟨⟨o,e,ex.1⟩,λ a E=>?_⟩
     cases E
     exact ⟨o,e,ex.2.1⟩
 | _=>exact False.elim ty
def VS (K:aE) (T:String) (r:V->aB->Hp->VK->Prop) (t:TE):TE:=λ U H Q=>t U H λ x h=>Xl K T x h/\r x [] h Q
def tBM (K:aE) (T:String) (r:V->aB->Hp->VK->Prop) (b:TE) (t:TA):TE:=λ U H Q=>b U H λ x h=>Xl K T x h/\t U h λ X a=>r x X a Q
variable {o e:Expr} {es:List Expr} {to:TE} {t:TA} {name:Str} {apos mh:Pos} {T id:String} {r:V->aB->Hp->VK->Prop}
def Ll (g:PlainAttrs T) (S:Slot T name id) (b:typeOf (.builtin id)=pure (.type "method_descriptor")) (e:Wn X id r) (f:PE X o to) (F:autoParam (attributeBase o name X.env (eval o X.env)=eval o X.env) za_._auto_1) (G:autoParam ((apos.endLine == mh.line)=true) za_._auto_1):PE X (.Call (.Attribute o name apos) [] [] mh) (VS X.K T r to):=by
 intro p s U H Q I h
 refine wpAny_Call_method0_late F G (c7 (f p s U H _ I h) λ v j ⟨x,a,i,R,ty,q⟩=>?_)
 obtain ⟨c,d⟩:=GB i R ty
 exact ⟨T,id,g,S,b,c,d,adj rfl (PySem.evalArgs_none (e p j U a x [] v [] Q i R .nil q))⟩
def im (q:PlainAttrs T) (S:Slot T name id) (f:typeOf (.builtin id)=pure (.type "method_descriptor")) (l:Wn X id r) (m:PE X o to) (k:PA X (e::es) t) (F:autoParam (attributeBase o name X.env (eval o X.env)=eval o X.env) za_._auto_1) (u:autoParam (((backTo mh (starEach (e::es) X.env)).all (λ x => !x.1) && (backToKw mh (keywordEach [] X.env)).all (λ x=>x.1.isSome)
     && decide ((e::es).length+([]:List Keyword).length+(if ([]:List Keyword).isEmpty then 0 else 1)<30))=true) za_._auto_1) (G:autoParam ((apos.endLine == mh.line)=true) za_._auto_1) (n:autoParam (Ch X e es) za_._auto_1) (M:autoParam ((backTo mh (starEach es X.env)).any (·.1)=false) za_._auto_1) :
   PE X (.Call (.Attribute o name apos) (e::es) [] mh) (tBM X.K T r to t):=by
 intro p s U H Q I h
 refine wpAny_Call_method_late F u G rfl (c7 (m p s U H _ I h) λ v A ⟨x,b,i,R,ty,w⟩=>?_)
 obtain ⟨g,j⟩:=GB i R ty
 refine ⟨T,id,q,S,f,g,j,?_⟩
 have a:=k mh p A U b _ i w
 rw [n] at a |-
 refine adj (by show (false || (backTo mh (starEach es X.env)).any (·.1))=false;rw [M]<;>rfl) (Calls.evalArgs_plain ?_)
 exact c7 a λ C B ⟨V,c,d,z,y⟩=>l p B U c x V v C Q d R z y
end
def YT (X:Cx) (id:String) (r:V->aB->Hp->VK->Prop):Prop :=
 ∀ (p:List (am×Obj)) (s:Shared) (U:St) (H:Hp) (x:V) (a:aB) (v:aA) (u:bM) (Q:VK),Inv X p U H s->RelV x v->Vals a u->r x a H Q ->
   wpAny (model X.prog X.w) X.A (call (.builtin id) (v::u)) (EP X p U Q) X.xe s
def Vals.one:∀ {x:V} {us:bM},Vals [x] us->∃ u,us=[u]/\RelV x u
 | _,_,.cons r .nil=>⟨_,rfl,r⟩
def Vals.zero:∀ {us:bM},Vals [] us->us=[]
 | _,.nil=>rfl
section
variable {X:Cx} {pins:List (am×Obj)} {U:St} {H:Hp} {s:Shared} {l b:am} {xs ys:aB}
def Inv.Rw {b its':bM} {n:Nat} {f:Array aA->Array aA} {t':Nat} (I:Inv X pins U H s) (h:H l=some (.lst xs)) (e:s.heap.get? l=some { cls:=.type "list",data:=.seq b.toArray n }) (c:f b.toArray=its'.toArray) (g:Vals ys its') (i:ys.length<=sizeLine) :
   Inv X pins U (upd H l (.lst ys)) { s with heap:=s.heap.update l (Obj.mapSeq f),toks:=t' }:=by
 have q:=PySem.IsL.update e f
 rw [c] at q
 refine I.write (x:=l) (e:=l) (by rw [h];exact trivial) (.inl rfl) (λ B u a d=>(Heap.get?_update_other s.heap (Obj.mapSeq f) (acx a)).trans d) ⟨_,q⟩ ?_
 exact ⟨i,its',_,g,q⟩
def Inv.XB {b:bM} {t':Nat} (I:Inv X pins U H s) (h:Vals ys b) (a:ys.length<=sizeLine) :
   Inv X pins U (upd H s.heap.objs.size (.lst ys)) { s with heap:=s.heap.push { cls:=.type "list",data:=.seq b.toArray },toks:=t' } :=
 I.laid (λ Z Z q=>aal _ q) (aak _) ⟨a,b,0,h,aaR _ rfl⟩
theorem Inv.fresh (I:Inv X pins U H s):H s.heap.objs.size=none:=I.dF.fresh (aak _)
def Inv.Fp (I:Inv X pins U H s) (h:H l=some (.lst xs)):xs.length<=sizeLine/\∃ (b:bM) (n:Nat),Vals xs b/\xs.length=b.length/\s.heap.get? l=some { cls:=.type "list",data:=.seq b.toArray n }:=by
 obtain ⟨z,b,n,r,e⟩:=I.dF l _ h
 exact ⟨z,b,n,r,r.length,e⟩
def GG {n:Nat} (h:n<=sizeLine):Builtin.List.listTooLong n=false:=by
 unfold Builtin.List.listTooLong
 exact aap (by lia)
end
section
variable {X:Cx}
inductive JC (x:V) (vs:aB) (H:Hp) (Q:VK):Prop|mk (l xs y:_) (_:x = .ref l) (_:vs=[y]) (_:H l=some (.lst xs)) (_:xs.length<sizeLine) (_:Q .cC (upd H l (.lst (xs++[y]))))
def cA:YT X "list.append" JC:=by
 intro p s U H x V v i Q I d c h
 obtain ⟨l,j,y,rfl,rfl,a,g,q⟩:=h
 cases d
 obtain ⟨u,rfl,R⟩:=c.one
 obtain ⟨z,b,n,r,f,e⟩:=I.Fp a
 refine call_meets F.slot_list_append ⟨_,e,rfl⟩ F.entry_list_append (F.args_list_append_2 _ _) (PySem.list_append l b.toArray n u (by rw [aat];lia)) ⟨e,?_⟩
 refine ⟨.cC,_,I.Rw (its':=b++[u]) a e (by simp) (r.append (.cons R .nil)) ?_,rfl,q⟩
 rw [aaf,aaD]
 lia
inductive IH (x:V) (vs:aB) (H:Hp) (Q:VK):Prop|mk (l b xs zs:_) (_:x = .ref l) (_:vs=[.ref b]) (_:H l=some (.lst xs)) (_:H b=some (.lst zs)) (_:xs.length+zs.length<=sizeLine) (_:Q .cC (upd H l (.lst (xs++zs))))
def vZ:YT X "list.extend" IH:=by
 intro p s U H x V v t Q I j i h
 obtain ⟨l,b,w,C,rfl,rfl,c,f,m,q⟩:=h
 cases j
 obtain ⟨u,rfl,g⟩:=i.one
 cases g
 obtain ⟨z,B,n,r,k,e⟩:=I.Fp c
 obtain ⟨A,o,N,R,y,E⟩:=I.Fp f
 have a:B.toArray.size+o.toArray.size<=sizeLine:=by rw [aat,aat];lia
 have d:¬ (!B.toArray.isEmpty && Builtin.List.listTooLong (B.toArray.size+o.toArray.size))=true:=by
   rw [GG a,Bool.and_false]
   exact aaC
 refine call_meets F.slot_list_extend ⟨_,e,rfl⟩ F.entry_list_extend (F.args_list_extend_2 _ _)
   (AutoSeq1.list_extend_list_list_0 l B.toArray n b o.toArray N d (by rw [aat];lia) (by lia)) ⟨e,E,?_⟩
 refine ⟨.cC,_,I.Rw (its':=B++o) c e (by simp) (r.append R) ?_,rfl,q⟩
 rw [aaf]
 lia
inductive WX (x:V) (y:V) (H:Hp) (Q:VK):Prop|mk (l b xs zs:_) (_:x = .ref l) (_:y = .ref b) (_:H l=some (.lst xs)) (_:H b=some (.lst zs)) (_:xs.length+zs.length<=sizeLine) (_:∀ p,H p=none->Q (.ref p) (upd H p (.lst (xs++zs))))
def xL:jo X (binaryOp .Add) WX:=by
 intro p s U H x y v u Q I f g h
 obtain ⟨l,b,k,t,rfl,rfl,d,c,j,q⟩:=h
 cases f
 cases g
 obtain ⟨z,B,n,r,i,e⟩:=I.Fp d
 obtain ⟨m,o,N,R,Y,E⟩:=I.Fp c
 refine PySem.P.add_list e E ?_ (by rw [aat,aat];lia)
 have a:B.toArray++o.toArray=(B++o).toArray:=by simp
 rw [a]
 exact ⟨.ref _,_,I.XB (t':=s.toks) (r.append R) (by rw [aaf];lia),rfl,q _ I.fresh⟩
end
section
variable {κ:Type} [DecidableEq κ]
def gI (a:List (κ×V)) (k:κ):eL:=(a.find? λ K=>decide (K.1=k)).map (·.2)
def putK (a:List (κ×V)) (k:κ) (v:V):List (κ×V) :=
 if (a.any λ K=>decide (K.1=k))=true then a.map (λ K=>if K.1=k then (K.1,v) else K) else a++[(k,v)]
def fw {p:κ×V} {r:List (κ×V)} {k:κ} (e:p.1=k):gI (p::r) k=some p.2:=by simp [gI,aa9,e]
def fy {p:κ×V} {r:List (κ×V)} {k:κ} (e:¬ p.1=k):gI (p::r) k=gI r k:=by simp [gI,aa9,e]
theorem jJ (k:κ):∀ a:List (κ×V),(a.any λ K=>decide (K.1=k))=(gI a k).isSome
 | []=>rfl
 | p::r=>by
   rw [acV]
   by_cases e:p.1=k
   . simp only [fw e,aaG e,Bool.true_or,Option.isSome_some]
   . rw [fy e,aap e,Bool.false_or];exact jJ k r
theorem zu (k j:κ) (y:V):∀ a:List (κ×V),gI (a.map λ K=>if K.1=k then (K.1,y) else K) j=(gI a j).map λ x=>if j=k then y else x
 | []=>rfl
 | p::r=>by
   have i:=zu k j y r
   rw [aaQ]
   by_cases h:p.1=k
   . rw [aau h]
     by_cases e:p.1=j
     . rw [fw (p:=(p.1,y)) e,fw e,ab3,aau (e.symm.trans h)]
     . rw [fy (p:=(p.1,y)) e,fy e,i]
   . rw [aax h]
     by_cases e:p.1=j
     . rw [fw (p:=p) e,fw e,ab3,aax (λ z=>h (e.trans z))]
     . rw [fy (p:=p) e,fy e,i]
theorem v8 (k j:κ) (y:V):∀ a:List (κ×V),gI a k=none->gI (a++[(k,y)]) j=if j=k then some y else gI a j
 | [],_=>by
   by_cases e:k=j
   . rw [aau e.symm];exact fw (p:=(k,y)) e
   . rw [aax (λ z=>e z.symm)];exact fy (p:=(k,y)) e
 | p::r,h=>by
   rw [adB]
   have H:¬ p.1=k:=λ z=>by rw [fw z] at h;cases h
   rw [fy H] at h
   have i:=v8 k j y r h
   by_cases e:p.1=j
   . rw [fw e,fw e,aax (λ z=>H (e.trans z))]
   . rw [fy e,fy e,i]
def Fh (A:List (κ×V)) (k j:κ) (y:V):gI (putK A k y) j=if j=k then some y else gI A j:=by
 unfold putK
 by_cases a:(A.any λ K=>decide (K.1=k))=true
 .
  rw [aau a,zu]
  rw [jJ] at a
  by_cases e:j=k
  . obtain ⟨x,h⟩:=abP.mp a
    rw [aau e,e,h,ab3,aau rfl]
  . rw [aax e]
    cases gI A j with
    | none=>rfl
    | some x=>rw [ab3,aax e]
 .
  rw [aax a]
  refine v8 k j y A ?_
  rw [jJ] at a
  cases q:gI A k with
  | none=>rfl
  | some x=>rw [q] at a;exact (a rfl).elim
def rS (a:List (κ×V)) (k:κ) (v:V):(putK a k v).length<=a.length+1:=by
 unfold putK
 split
 . rw [No];lia
 . rw [aaf,aaW,adb];lia
def GL {a:List (κ×V)} {k:κ} (v:V) (h:gI a k=none):putK a k v=a++[(k,v)]:=by
 unfold putK
 rw [jJ,h]
 exact aax (by decide)
def kX.qV {o:eL} {u:jC} (r:kX o u):o.isSome=u.isSome:=by
 cases o with
 | none=>cases u with
   | none=>rfl
   | some _=>exact (show False from r).elim
 | some _=>cases u with
   | none=>exact (show False from r).elim
   | some _=>rfl
theorem kX.getD {o:eL} {u:jC} {d:V} {d':aA} (r:kX o u) (R:RelV d d'):RelV (o.getD d) (u.getD d'):=by
 cases o with
 | none=>cases u with
   | none=>exact R
   | some _=>exact (show False from r).elim
 | some _=>cases u with
   | none=>exact (show False from r).elim
   | some _=>exact r
def KV.val {a:List (κ×V)} {vs:List (κ×aA)} (r:KV a vs) (k:κ):kX (gI a k) (valueAt vs k):=by
 unfold KV at r
 induction r with
 | nil=>exact True.intro
 | @cons p q d Q h t i =>
   obtain ⟨H,c⟩:=h
   by_cases e:p.1=k
   . have E:q.1=k:=H.symm.trans e
     have b:valueAt (q::Q) k=some q.2:=by simp [valueAt,aa9,E]
     rw [fw e,b];exact c
   . have E:¬ q.1=k:=λ z=>e (H.trans z)
     have b:valueAt (q::Q) k=valueAt Q k:=by simp [valueAt,aa9,E]
     rw [fy e,b];exact i
theorem KV.any {a:List (κ×V)} {vs:List (κ×aA)} (r:KV a vs) (k:κ):(a.any λ K=>decide (K.1=k))=vs.any λ K=>decide (K.1=k):=by
 unfold KV at r
 induction r with
 | nil=>rfl
 | cons h t i=>rw [acV,acV,i,h.1]
def KV.MI {a:List (κ×V)} {vs:List (κ×aA)} (r:KV a vs) (k:κ) {y:V} {u:aA} (R:RelV y u) :
   KV (a.map λ K=>if K.1=k then (K.1,y) else K) (vs.map λ K=>if K.1=k then (K.1,u) else K):=by
 unfold KV at r |-
 induction r with
 | nil=>exact .nil
 | @cons p q c Q h t i =>
   rw [aaQ,aaQ]
   refine .cons ?_ i
   obtain ⟨H,b⟩:=h
   by_cases e:p.1=k
   . rw [aau e,aau (H.symm.trans e)];exact ⟨H,R⟩
   . rw [aax e,aax (λ z=>e (H.trans z))];exact ⟨H,b⟩
def KV.put {a:List (κ×V)} {vs:List (κ×aA)} (r:KV a vs) (k:κ) {y:V} {u:aA} (R:RelV y u):KV (putK a k y) (stored vs k u):=by
 unfold putK stored
 rw [r.any k]
 by_cases e:(vs.any λ K=>decide (K.1=k))=true
 . rw [aau e,aau e];exact r.MI k R
 . rw [aax e,aax e];exact acN r ⟨rfl,R⟩
theorem KV.length {a:List (κ×V)} {vs:List (κ×aA)} (r:KV a vs):a.length=vs.length:=ab2 r
end
def G9 {P:bD} {w:bz} {k:Key} {u:aA} (r:RelV (kV k) u):(cO P w).is k u=true:=by
 cases k with
 | inl i=>obtain ⟨t,e⟩:=(show ∃ t,u=Value.int i t from r);subst e;exact Az P w i t
 | inr x=>obtain ⟨t,e⟩:=(show ∃ t,u=Value.str x t from r);subst e;exact yY P w x t
theorem wI {P:bD} {w:bz}:∀ {K:List Key} {us:bM},Vals (K.map kV) us->ItemsAre (cO P w) K us
 | [],_,r=>by rw [List.map_nil] at r;cases r;exact .nil
 | k::K,_,r=>by
   rw [aaQ] at r
   cases r with
   | cons h t=>exact .cons (G9 h) (wI t)
abbrev KT (H:Hp):List (List Key×V)->List (List Key×am×aA)->Prop:=Paired λ p q=>p.1=q.1/\H q.2.1=some (.tup (p.1.map kV))/\RelV p.2 q.2.2
def KT.val {a:List (List Key×V)} {xs:List (List Key×am×aA)} (r:KT H a xs) (k:List Key):kX (gI a k) ((atKey xs k).map (·.2)):=by
 induction r with
 | nil=>exact True.intro
 | @cons p q f Q h t i =>
   obtain ⟨c,Z,d⟩:=h
   by_cases e:p.1=k
   . have E:q.1=k:=c.symm.trans e
     have b:atKey (q::Q) k=some q.2:=by simp [atKey,aa9,E]
     rw [fw e,b];exact d
   . have E:¬ q.1=k:=λ z=>e (c.trans z)
     have b:atKey (q::Q) k=atKey Q k:=by simp [atKey,aa9,E]
     rw [fy e,b];exact i
def KT.MI {A:List (List Key×V)} {xs:List (List Key×am×aA)} (r:KT H A xs) (k:List Key) {y:V} {u:aA} (R:RelV y u) :
   KT H (A.map λ K=>if K.1=k then (K.1,y) else K) (xs.map (putAt k u)):=by
 induction r with
 | nil=>exact .nil
 | @cons p q d Q h t i =>
   rw [aaQ,aaQ]
   refine .cons ?_ i
   obtain ⟨a,b,c⟩:=h
   unfold putAt
   by_cases e:p.1=k
   . rw [aau e,aau (a.symm.trans e)];exact ⟨a,b,R⟩
   . rw [aax e,aax (λ z=>e (a.trans z))];exact ⟨a,b,c⟩
def KT.put {a:List (List Key×V)} {xs:List (List Key×am×aA)} (r:KT H a xs) (k:List Key) {b:am} {y:V} {u:aA} (h:H b=some (.tup (k.map kV))) (R:RelV y u) :
   KT H (putK a k y) (storedH xs k b u):=by
 have e:(a.any λ K=>decide (K.1=k))=(atKey xs k).isSome:=by
   rw [jJ,(r.val k).qV,ads]
 unfold putK storedH
 rw [e]
 by_cases q:(atKey xs k).isSome=true
 . rw [aau q,aau q];exact r.MI k R
 . rw [aax q,aax q];exact acN r ⟨rfl,h,R⟩
def KT.keeps {a:List (List Key×V)} {xs:List (List Key×am×aA)} (r:KT H a xs) (h:∀ b ys,H b=some (.tup ys)->H' b=some (.tup ys)):KT H' a xs :=
 Paired.yB r λ Z Z z=>⟨z.1,h _ _ z.2.1,z.2.2⟩
section
variable {P:bD} {w:bz} {H:Hp} {h:bE} {a:am}
def Kp {u:HO} (ok:oM P w H h) (e:Rd H a u):dC P w H h a u:=e.ok ok
def FP {A:List (Key×V)} (ok:oM P w H h) (e:Rd H a (.dK A)):A.length<=sizeLine/\(a == sysModules)=false/\∃ vs,KV A vs/\h.DictOf (cO P w) a vs :=
 show dC P w H h a (.dK A) from Kp ok e
def Nu {A:List (Key×V)} (ok:oM P w H h) (e:H a=some (.dK A)):A.length<=sizeLine/\(a == sysModules)=false/\∃ vs,KV A vs/\h.DictOf (cO P w) a vs:=FP ok (.inl e)
def Cb {k:List Key} (ok:oM P w H h) (e:H a=some (.tup (k.map kV))):(tupleKind (cO P w)).is h k a:=by
 obtain ⟨Z,b,r,o,c,d,n,f⟩:=(show dC P w H h a (.tup (k.map kV)) from ok a _ e)
 exact ⟨o,b.toArray,n,c,d,f,by simpa using wI r⟩
def C2 {A:List (List Key×V)} (ok:oM P w H h) (e:Rd H a (.dT A)):A.length<=sizeLine/\(a == sysModules)=false /\
   ∃ xs,KT H A xs/\h.DictOfH (tupleKind (cO P w)) a xs:=by
 obtain ⟨z,y,xs,r,o,d,E,f,g,i,j,k⟩:=(show dC P w H h a (.dT A) from Kp ok e)
 refine ⟨z,y,xs,r,o,d,E,f,g,i,j,λ x b=>?_,k⟩
 have all:∀ {l:List (List Key×V)} {m:List (List Key×am×aA)},KT H l m->∀ x∈m,(tupleKind (cO P w)).is h x.1 x.2.1:=by
   intro l m q
   induction q with
   | nil=>intro x b;exact nomatch b
   | @cons p q n Q c t I =>
     intro x b
     rcases aab.mp b with e|b
     . subst e
       exact Cb ok (by rw [<- c.1];exact c.2.1)
     . exact I x b
 exact all r x b
def Pw {A:List (List Key×V)} (ok:oM P w H h) (e:H a=some (.dT A)):A.length<=sizeLine/\(a == sysModules)=false /\
   ∃ xs,KT H A xs/\h.DictOfH (tupleKind (cO P w)) a xs:=C2 ok (.inl e)
end
def EJ (H:Hp) (a:am) (y:V) (r:eL):Prop :=
 (∃ A k,Rd H a (.dK A)/\y=kV k/\r=gI A k)\/∃ A k b,Rd H a (.dT A)/\y = .ref b/\H b=some (.tup (k.map kV))/\r=gI A k
def Fm (H:Hp) (a:am) (y v:V) (h:Hp):Prop :=
 (∃ A k,H a=some (.dK A)/\y=kV k/\A.length<sizeLine/\h=upd H a (.dK (putK A k v))) \/
 ∃ A k b,H a=some (.dT A)/\y = .ref b/\H b=some (.tup (k.map kV))/\A.length<sizeLine/\h=upd H a (.dT (putK A k v))
def EJ.t {a b:am} {A:List (List Key×V)} {k:List Key} (e:H a=some (.dT A)) (E:H b=some (.tup (k.map kV))):EJ H a (.ref b) (gI A k):=.inr ⟨A,k,b,.inl e,rfl,E,rfl⟩
def Fm.t {a b:am} {A:List (List Key×V)} {k:List Key} {v:V} (e:H a=some (.dT A)) (E:H b=some (.tup (k.map kV))) (h:A.length<sizeLine) :
   Fm H a (.ref b) v (upd H a (.dT (putK A k v))):=.inr ⟨A,k,b,e,rfl,E,h,rfl⟩
section
variable {X:Cx} {pins:List (am×Obj)} {U:St} {H:Hp} {s:Shared} {a:am} {y v:V} {u r:aA} {o:eL} {A:Around} {E:aA->Shared->Prop}
def Inv.big (I:Inv X pins U H s):sysModules<s.heap.objs.size:=by
 have h:mainGlobals<s.heap.objs.size:=(I.mod.glob.keeps I.bk).lt
 exact ac9 (by decide) h
def xT {h':bE} {t':Nat} {o:HO} (I:Inv X pins U H s) (m:Rz (H a)) (d:Heap.SameBut a s.heap h') (c:∃ q,h'.get? a=some q) (n:dC X.prog X.w (upd H a o) h' a o) :
   Inv X pins U (upd H a o) { s with heap:=h',toks:=t' } :=
 I.write (x:=a) (e:=a) m (.inl rfl) (λ b q h z=>(d.2 b h).trans z) c n
def K4 {P:bD} {w:bz} {h':bE} {A:List (Key×V)} {vs:List (Key×aA)} (z:A.length<=sizeLine) (h:(a == sysModules)=false) (r:KV A vs) (d:h'.DictOf (cO P w) a vs) :
   dC P w H' h' a (.dK A):=⟨z,h,vs,r,d⟩
def DH {Q:Unit->Shared->Prop} (T:A.units+1<cLine) (I:Inv X pins U H s) (g:Fm H a y v H') (G:RelV y u) (F:RelV v r) (h:∀ s',Inv X pins U H' s'->Q () s') :
   wpAny (model X.prog X.w) A (setItem (.ref a) u r) Q E s:=by
 rcases g with ⟨d,k,e,m,l,j⟩|⟨d,k,b,e,m,x,l,j⟩
 .
  subst m j
  obtain ⟨z,n,V,R,D⟩:=Nu I.dF e
  have t:V.length<=sizeLine:=by rw [<- R.length];exact z
  have o:(putK d k v).length<=sizeLine:=by have:=rS d k v;lia
  refine wpAny_setItem_pairs (hsz:=t) (G9 G) D λ C f p=>h _ ?_
  have S:∃ q,C.get? a=some q:=let ⟨q,_,_,i,_⟩:=f;⟨q,i⟩
  exact xT I (by rw [e];exact True.intro) p S (K4 o n (R.put k F) f)
 .
  subst m j
  cases (show u=Value.ref b from G)
  obtain ⟨z,n,W,R,D⟩:=Pw I.dF e
  have t:W.length<=sizeLine:=by rw [<- ab2 R];exact z
  have o:(putK d k v).length<=sizeLine:=by have:=rS d k v;lia
  refine wpAny_setItem_heap (hsz:=t) (tupleKind_room_in1 T) (Cb I.dF x) D λ C f p=>h _ ?_
  obtain ⟨q,K,J,i,L,M,N,Z,O⟩:=f
  refine xT I (by rw [e];exact True.intro) p ⟨q,i⟩ ⟨o,n,_,(R.put k x F).keeps λ c Y B=>?_,q,K,J,i,L,M,N,O⟩
  rw [aw (N7 B e (λ z=>nomatch z))]
  exact B
end
def Pn (i:Expr):Prop:=∀ o I,subscripted i false o I=operate [o,I] (getItem o I)
def JR {prog:bD} {w:bz} {A:Around} {E:aA->Shared->Prop} {s:Shared} {env:Env} {v S:Expr} {p:Pos} {T id:String} {Q:aA->Shared->Prop} (g:typeLookup (.type T) "__getitem__" = pure (some (.builtin id))) (j:Pn S) (h:wpAny (model prog w) A (eval v env) (λ o a=>wpAny (model prog w) A (eval S env) (λ i s₂=>s₂.TypeIs o T/\wpAny (model prog w) A (getItem o i) Q E s₂) E a) E s) :
   wpAny (model prog w) A (eval (.Subscript v S p) env) Q E s:=by
 refine Subscript_ (abB h (λ o a c=>abB c (λ i s₂ H=>?_) λ Z Z x=>x) λ Z Z x=>x)
 obtain ⟨e,H⟩:=H
 unfold subscriptTail
 refine aaa ?_
 rw [getitemInPython_of_ne e.not_modules]
 refine aaa (adk e g ?_)
 have f:wpAny (model prog w) A (subscripted S false o i) (λ r b=>wpAny (model prog w) A (letTemporaryGo v o r >>= λ Z=>pure r) Q E b) E s₂:=by
   rw [j o i]
   exact wpAny_operating (abB H (λ r b d=>aaa (wpAny_letTemporaryGo (aao d))) λ Z Z x=>x)
 first
   | exact aao (aaa f)
   | exact aaa (aao (aaa f))
   | exact aaa f
def NO (t ty T:TE):TS:=λ D U H=>T U H λ v b=>t U b λ x c=>ty U c λ y d=>∃ a h,x = .ref a/\Fm d a y v h/\D.nx U h
section
variable {X:Cx} {o i e value:Expr} {pos pos':Pos} {td ty tv:TE}
def Jd (n:X.A.units+1<cLine) (l:PE X o td) (hi:PE X i ty) (q:PE X value tv) (m:swapsWith value (some (.Subscript o i pos')) pos.line X.env=pure false) :
   PS X (.Assign [.Subscript o i pos'] value pos) (NO td ty tv):=by
 intro p s U H D I h
 refine wpAny_Assign_Subscript (c7 (q p s U H _ I h) λ r S ⟨v,b,e,R,Q⟩=>c7 (l p S U b _ e Q) λ u C ⟨x,c,f,z,t⟩=>c7 (hi p C U c _ f t) λ F G ⟨y,E,j,B,a,d,ex,g,w⟩=>?_) m
 subst ex
 obtain rfl:u=Value.ref a:=z
 exact DH n j g B R λ J k=>⟨U,d,k,w⟩
end
def Gg {P:bD} {w:bz} (h:bE) (a:sysModules<h.objs.size):dC P w H (h.push { cls:=.type "dict",data:=.dict #[]}) h.objs.size (.dT []) :=
 ⟨aaZ _,abm.mpr (acx (aaO a)),[],.nil,_,#[],0,aaR _ rfl,⟨rfl,rfl,rfl⟩,rfl,rfl,acs⟩
def LN:TE:=λ Z H Q=>∀ p,H p=none->Q (.ref p) (upd H p (.dT []))
section
variable {X:Cx} {pos:Pos}
def Fy:PE X (.Dict [] [] pos) LN:=λ p s U H Q I h =>
 wpAny_Dict_empty ⟨.ref s.heap.objs.size,_,I.laid (a:=s.heap.objs.size) (o:=.dT []) (t':=s.toks) (λ Z Z q=>aal _ q) (aak _) (Gg s.heap I.big),rfl,h _ (I.dF.fresh (aak _))⟩
end
def Ha:List (TE×TE)->St->Hp->(List (V×V)->Hp->Prop)->Prop
 | [],_,H,Q=>Q [] H
 | (t,T)::r,U,H,Q=>t U H λ x H1=>T U H1 λ y h=>Ha r U h λ p a=>Q ((x,y)::p) a
abbrev VV:List (V×V)->List (aA×aA)->Prop:=Paired λ p q=>RelV p.1 q.1/\RelV p.2 q.2
def PPs (X:Cx) (a:Pos) (k:List (Option Expr)) (v:List Expr) (t:List (TE×TE)):Prop :=
 ∀ (p:List (am×Obj)) (s:Shared) (U:St) (H:Hp) (Q:List (V×V)->Hp->Prop),Inv X p U H s->Ha t U H Q ->
   wpAny (model X.prog X.w) X.A (evalPairs (pairTrees k v X.env a)) (λ c S=>∃ b H',Inv X p U H' S/\VV b c/\Q b H') X.xe s
structure M2 (X:Cx) (o:Expr) (m:Str) (apos:Pos) (e f:Expr) (mh:Pos):Prop where
 base:attributeBase o m X.env (eval o X.env)=eval o X.env
 tM:((backTo mh (starEach [e,f] X.env)).all (λ x => !x.1) && (backToKw mh (keywordEach [] X.env)).all (λ x=>x.1.isSome)
   && decide (([e,f]:List Expr).length+([]:List Keyword).length+(if ([]:List Keyword).isEmpty then 0 else 1)<30))=true
 line:(apos.endLine == mh.line)=true
 trees:backTo mh (starEach [e,f] X.env)=[(false,eval e X.env),(false,eval f X.env)]
def IsD (H:Hp) (a:am):Prop:=(∃ A,Rd H a (.dK A))\/∃ A,Rd H a (.dT A)
def Li {X:Cx} {p:List (am×Obj)} {s:Shared} {a:am} (I:Inv X p U H s) (d:IsD H a) :
   s.TypeIs (.ref a) "dict"/\(∀ b,Value.ref a = .ref b->∃ o,s.heap.get? b=some o/\o.dict=none)/\(a == sysModules)=false:=by
 rcases d with ⟨A,e⟩|⟨A,e⟩
 .
  obtain ⟨Z,f,v,Z,D⟩:=FP I.dF e
  refine ⟨D.typeIs,λ b q=>?_,f⟩
  cases q
  obtain ⟨o,Z,Z,h,c,Z⟩:=D
  exact ⟨o,h,c.2.1⟩
 .
  obtain ⟨Z,f,x,Z,D⟩:=C2 I.dF e
  refine ⟨D.typeIs,λ b q=>?_,f⟩
  cases q
  obtain ⟨o,Z,Z,h,c,Z⟩:=D
  exact ⟨o,h,c.2.1⟩
section
variable {X:Cx} {pins:List (am×Obj)} {U:St} {H:Hp} {s:Shared} {a:am} {y d:V} {u r:aA} {o:eL} {A:Around} {E:aA->Shared->Prop}
def Mx {Q:aA->Shared->Prop} (p:A.units+1<cLine) (I:Inv X pins U H s) (g:EJ H a y o) (j:RelV y u) (i:RelV d r) (h:∀ W s',Inv X pins U H s'->RelV (o.getD d) W->Q W s') :
   wpAny (model X.prog X.w) A (call (.builtin "dict.get") [.ref a,u,r]) Q E s:=by
 rcases g with ⟨m,k,e,c,l⟩|⟨m,k,b,e,c,n,l⟩
 .
  subst c
  obtain ⟨z,f,v,R,D⟩:=FP I.dF e
  refine call_meetsIn ac7 D.typeIs ad2 (adX _ _ _) (meets_dict_get_default (cO X.prog X.w) a (G9 j) f r) ⟨_,D.mapOf,h _ _ (I.tok _) ?_⟩
  rw [l]
  exact (R.val k).getD i
 .
  subst c
  cases (show u=Value.ref b from j)
  obtain ⟨z,f,x,R,D⟩:=C2 I.dF e
  refine call_meetsIn ac7 D.typeIs ad2 (adX _ _ _) (meetsH_dict_get_default (tupleKind (cO X.prog X.w)) a b f r) ⟨tupleKind_room_in1 p,k,x,Cb I.dF n,D,h _ _ (I.tok _) ?_⟩
  rw [l]
  exact (R.val k).getD i
end
def Mr (t ty T:TE):TE:=λ U H Q=>t U H λ x h=>∃ a,x = .ref a/\IsD h a/\ty U h λ y c=>T U c λ z b=>∃ o,EJ b a y o/\Q (o.getD z) b
section
variable {X:Cx} {o e f:Expr} {apos mh:Pos} {td ty tx:TE}
def AA (v:X.A.units+1<cLine) (t:PE X o td) (q:PE X e ty) (r:PE X f tx) (m:M2 X o "get" apos e f mh):PE X (.Call (.Attribute o "get" apos) [e,f] [] mh) (Mr td ty tx):=by
 intro p s U H Q I h
 refine wpAny_Call_method m.base m.tM m.line PySem.F.plainAttrs_dict ac7 PySem.F.type_dict_get (c7 (t p s U H _ I h) λ u S ⟨x,b,i,R,a,ex,d,w⟩=>?_)
 subst ex
 obtain rfl:u=Value.ref a:=R
 obtain ⟨T,K,Z⟩:=Li i d
 refine ⟨T,K,?_⟩
 rw [m.trees]
 refine adj rfl (Calls.evalArgs_plain (ac2 (c7 (q p S U b _ i w) λ M G ⟨y,c,k,D,B⟩ =>
   ac2 (c7 (r p G U c _ k B) λ L N ⟨z,j,l,E,O,g,C⟩=>adL ?_))))
 exact Mx v l g D E λ W V n J=>⟨_,j,n,J,C⟩
end
end L2
namespace Att
open PySem PySem.W PySem.Calls PyProof.Rows
def sS {P:Params} {h:bE}:∀ (ns:List Int) (vs:bM),WellAll P h vs (ns.map WData.int)->IntsAre vs ns:=by
 intro ns
 induction ns with
 | nil =>
   intro vs w
   rw [List.map_nil] at w
   cases w
   exact .nil
 | cons n ns i =>
   intro vs w
   rw [aaQ] at w
   cases w with
   | cons a b =>
     cases a
     exact .cons _ _ (i _ b)
def EG {l:OpenLaw} {n:Nat} (j:l.most=some n) {P:Params} {h:bE} {args:List WData} {v:bM}
   (I:l.row.toRowW.claim.pre args=true) (N:WellAll P h v args) :
   ∃ a vs ns,v=[Value.ref a]/\args=[WData.list (ns.map WData.int)]/\h.get? a=some { cls:=.type "list",data:=.seq vs.toArray }/\IntsAre vs ns/\ns.length<=n:=by
 have T:WShape.hasAll [] args [.list .int]=true:=(pre_splitW I).1
 have e:l.pre.holds [] { args:=args }=true:=(pre_splitW I).2
 obtain ⟨d,r,rfl,f,g⟩:=hasAllW_cons T
 obtain rfl:=hasAllW_nil g
 obtain ⟨x,rfl,i⟩:=hasW_list f
 obtain ⟨ns,rfl⟩:=items_int i
 have H:ns.length<=n:=by
   unfold OpenLaw.pre at e
   have b:(WTm.not (.lt (.lit (.int (n:Int))) (.len (.arg 0)))).holds [] { args:=[.list (ns.map .int)]}=true:=by
     have b:=(holds_andW e).1
     rw [j] at b
     exact b
   have c:=condW_of b (w_not (w_lt w_lit (w_len_list (w_arg rfl))))
   rw [No] at c
   refine Nat.le_of_not_lt λ q=>?_
   have Q:(n:Int)<((ns.length:Nat):Int):=by lia
   first
     | (rw [aaG Q] at c;exact absurd c (by decide))
     | (simp at c;lia)
 cases N with
 | cons w W =>
   cases W
   cases w with
   | list k L=>exact ⟨_,_,ns,rfl,rfl,k,sS ns _ L,H⟩
def Ei (l:OpenLaw) (args:List WData):l.row.toRowW.claim.post args (.bool true) args=true :=
 postW_of (r:=l.row.toRowW) (X:=(true == true))
   (show WShape.has [] (.bool true) .bool=true by first|rfl|decide|simp [WShape.has,WShape.arms,WShape.armsAll])
   (show (WTm.eq .res (.lit (.bool true))).value [] { args:=args,res:=some (.bool true),after:=args }=some (.bool (true == true)) from w_eq_bool (w_res rfl) w_lit) rfl
section
def Xg (h:bE):bE:={ h with objs:=#[]}
def ledger (h:bE) (L d:am):List (am×Obj):=(List.range h.objs.size).filterMap λ a=>if a=L\/a=d then none else (h.get? a).map λ o=>(a,o)
end
end Att
namespace L2
open PySem PySem.Spec PyProof.Rows
variable {H H':Hp} {qual:Str}
theorem wa:∀ {vs:bM} {ns:List Int},IntsAre vs ns->Vals (ns.map V.int) vs
 | _,_,.nil => .nil
 | _,_,.cons n t h => .cons ⟨t,rfl⟩ (wa h)
def Pd (H:Hp):Prop:=∀ b,H b=none\/∃ o x,H b=some (.AL o (.lst x))
def Fv {P:bD} {w:bz} {K:aE} {M A:dX} {G:HL} {k:Nat} {l a:am} {O:FuncData} {x:Str} {X:Sp} {s₁:Shared} {vs:bM} {ns:List Int} (I:K.In s₁.heap) (S:s₁.heap.Ns mainGlobals M) (c:s₁.heap.Ns builtinsNs A) (t:∀ x:Str,x ≠ "__name__"->A x=bootBuiltins x) (TV:s₁.heap.NoLimit) (hg:s₁.gens=#[]) (i:s₁.heap.get? a=some { cls:=.type "list",data:=.seq vs.toArray }) (hi:IntsAre vs ns) (U:ns.length<=sizeLine) (hr:dg k callerA) (F:∀ B:bE,K.In B->B.Ns mainGlobals M->lZ P w K M B G k l O [x] X) (NU:∀ (s:Shared) (u:aA),BindsTo s O ⟨[u],[]⟩ [(x,u)]) (J5:∀ H:Hp,Pd H->aX K H a (ns.map V.int)->X [.ref a] H (λ v _=>v = .bl true) λ _ _ _=>False) (p:∀ H e s',G [] H s₁ (λ _ _ _=>False) e s'->False) :
   codeAny (model P w) callerA (.call (.ref l) ⟨[.ref a],[]⟩) (λ r s'=>r = .ok (.ret (.bool true))/\OldK s₁.heap s'.heap/\s'.os=s₁.os/\AllBare s'.gens) s₁:=by
 have W:=wa hi
 have Vv:=hi.length
 have C:∀ H:Hp,Pd H->aX K H a (ns.map V.int)->oM P w H s₁.heap->(∀ b,H b≠none->b=a)->(H a≠none->K.lookup a=none) ->
     codeAny (model P w) callerA (.call (.ref l) ⟨[.ref a],[]⟩) (λ r s'=>r = .ok (.ret (.bool true))/\OldK s₁.heap s'.heap/\s'.os=s₁.os/\AllBare s'.gens) s₁:=by
   intro H T hS L Q hK
   have D:∀ {b:am} {o:Obj},s₁.heap.get? b=some o->H b=none->(xv s₁.heap H).get? b=some o:=λ e n=>G7 e n
   have Rg:∀ {b:am} {o:Obj} {E:Array DictEntry} {ep:Nat},s₁.heap.get? b=some o->o.data = .dict E ep->H b=none:=λ {b o E ep} e d=>by
     cases q:H b with
     | none=>rfl
     | some u =>
       have j:b=a:=Q b (by rw [q];simp)
       subst j
       rw [i] at e;cases e
       have d':Data.seq vs.toArray _=Data.dict E ep:=d
       cases d'
   have R:∀ {b:am} {m:dX},s₁.heap.Ns b m->(xv s₁.heap H).Ns b m:=λ {b m} ⟨o,E,ep,e,d,r⟩=>⟨o,E,ep,D e (Rg e d),d,r⟩
   have J:K.In (xv s₁.heap H):=λ b o e=>D (I b o e) (by
     cases q:H b with
     | none=>rfl
     | some u =>
       have j:b=a:=Q b (by rw [q];simp)
       subst j
       rw [hK (by rw [q];simp)] at e;cases e)
   have hM:Mod K M (xv s₁.heap H):=⟨J,R S,⟨A,R c,t⟩,let ⟨mc,h1,h2⟩:=TV;⟨mc,R h1,h2⟩⟩
   have e0:BF P w K M (xv s₁.heap H) callerA [] s₁ H:=⟨rfl,hM,λ b o e=>Jn e,Nat.le_of_eq (DR _ _),trivial,λ b c=>absurd (show b∈([]:bJ) from c) (by simp),L,.of_eq hg⟩
   refine adP ((F _ J (R S)).run callerA [] s₁ H ⟨[.ref a],[]⟩ [.ref a] [.ref a] _ _ hr e0 (NU s₁ (.ref a)) (.cons rfl .nil) (J5 H T hS)) λ r s' h=>?_
   cases r with
   | error e=>exact (p H e s' h).elim
   | ok fl =>
     cases fl with
     | next=>exact False.elim h
     | brk=>exact False.elim h
     | cont=>exact False.elim h
     | ret u =>
       obtain ⟨v,H',os,f,Y,TJ,r',q⟩:=h
       have q':v = .bl true:=q
       subst q'
       obtain rfl:u=Value.bool true:=r'
       refine ⟨rfl,OldK.of_keep λ b o e=>?_,os,f⟩
       cases q:H b with
       | none=>exact Y.keep b o e q (by intro z;exact absurd (show b∈([]:bJ) from z) (by simp)) (by simp)
       | some u =>
         rcases T b with z|⟨ob,xs,z⟩
         . rw [q] at z;cases z
         . have z2:=Y.wW b ob _ z
           obtain ⟨N,_⟩:=L b _ z
           obtain ⟨e2,_⟩:=TJ b _ z2
           rw [e] at N;cases N
           exact e2
 cases y:K.lookup a with
 | some o =>
   have e:=I a o y
   rw [i] at e
   cases e
   refine C (λ _=>none) (λ _ => .inl rfl) (.inr ⟨_,vs.toArray,_,y,rfl,rfl,rfl,by rw [aat,Vv];exact U,by simpa using W⟩) (λ b u z=>by have g:(none:Option HO)=some u:=z;cases g) (λ b z=>absurd rfl z) λ z=>absurd rfl z
 | none =>
   refine C (λ b=>if b=a then some (.AL { cls:=.type "list",data:=.seq vs.toArray } (.lst (ns.map V.int))) else none) (λ b=>?_) (.inl (.inr ⟨{ cls:=.type "list",data:=.seq vs.toArray },aau rfl⟩)) (λ b u z=>?_) (λ b z=>?_) λ _=>y
   . by_cases c:b=a
     . exact .inr ⟨_,_,aau c⟩
     . exact .inl (aax c)
   .
    by_cases c:b=a
    . have g:=(aau c).symm.trans z
      cases g
      subst c
      exact ⟨i,by rw [No];exact U,vs,_,W,i⟩
    . have g:=(aax c).symm.trans z
      cases g
   . by_cases c:b=a
     . exact c
     . exact absurd (aax c) z
def inClass (s:Stmt) (j:Nat):Stmt:=match s with
 | .ClassDef _ _ _ b _ _ _ _ _ _ _=>b.getD j (.Pass ⟨0,0,0,0⟩)
 | _ => .Pass ⟨0,0,0,0⟩
def dA (s:Stmt):Arguments:=match s with
 | .FunctionDef _ a _ _ _ _ _ _ _ _=>a
 | _=>{ posonlyargs:=[],args:=[],vararg:=none,kwonlyargs:=[],kw_defaults:=[],kwarg:=none,defaults:=[]}
def ce (s:Stmt):List Stmt:=match s with
 | .FunctionDef _ _ b _ _ _ _ _ _ _=>b
 | _=>[]
def au (s:Stmt):Scope:=match s with
 | .FunctionDef _ _ _ _ _ _ S _ _ _=>S
 | _=>{ kind:=.function,names:=[],isGenerator:=false,isCoroutine:=false }
abbrev yJ:HL:=λ _ _ _ _ _ _=>False
abbrev E0:XK:=λ _ _ _=>False
def zT {X:Cx}:Passes yJ X E0:=λ Z Z Z Z Z Z Z h=>h.elim
structure Jm (K:aE) (x qual:Str) (st:Stmt) (f:am) (fd:FuncData):Prop where
 ex:∃ (oc:aA) (od:Option am) (kV doc pm:aA) (an:Option am) (bQ ct:aA) (yO:Array (jC)),
   fd=W.fnOf x qual (dA st) (ce st) (au st) .none kV doc pm an bQ ct/\K.lookup f=some ⟨oc,od,.func fd,yO⟩/\W.codeIn K bQ qual=true
 kp:W.keepIn K (.ref f)=true
section
variable {P:bD} {w:bz} {K:aE} {mg:dX} {base:bE}
def Jm.ok {x:Str} {st:Stmt} {f:am} {a:FuncData} {N p:de} {k:Nat} {sp:Sp} (F:Jm K x qual st f a) (S:aC N p (au st)) (len:∀ vs H Q E,sp vs H Q E->vs.length=p.length) (i:∀ (b:aA) (A:Around) (outer:List Env) (s:Shared) (H:Hp) (vs:aB) (Q:VK) (E:XK),dg k (A.deeper (envOfC qual (au st) s.heap.objs.size f b))->sp vs H Q E ->
     ∃ t,vO (qv yJ P w K mg base N qual (au st) f b A outer s H E).EX (ce st) t/\t { nx:=λ Z H'=>Q .cC H',rt:=Q } (start N vs) H):lZ P w K mg base yJ (k+1) f a p sp:=by
 obtain ⟨o,O,kV,d,g,e,b,ct,Y,rfl,l,y⟩:=F.ex
 refine J1 l y S len λ A outer s H vs Q E c J=>?_
 obtain ⟨t,h,q⟩:=i b A outer s H vs Q E c J
 exact ⟨t,h.EX,q⟩
def Jm.binds {x:Str} {st:Stmt} {f:am} {e:FuncData} {c:de} (F:Jm K x qual st f e) (h:∀ (kV d p:aA) (a:Option am) (b ct:aA) (us:bM),us.length=c.length->bindArgs (W.fnOf x qual (dA st) (ce st) (au st) .none kV d p a b ct) ⟨us,[]⟩=pure (c.zip us)):Binds K e c []:=by
 obtain ⟨o,O,kV,d,p,a,b,ct,y,rfl,l,Y⟩:=F.ex
 exact .all (h kV d p a b ct)
def Mg {x:Str} {st:Stmt} {f:am} {o:aA} {O a:Option am} {y:Array (jC)} {kV d p b ct:aA} (l:K.lookup f=some ⟨o,O,.func (W.fnOf x qual (dA st) (ce st) (au st) .none kV d p a b ct),y⟩) (c:W.codeIn K b qual=true) (k:W.keepIn K (.ref f)=true):Jm K x qual st f (W.fnOf x qual (dA st) (ce st) (au st) .none kV d p a b ct):=⟨⟨o,O,kV,d,p,a,b,ct,y,rfl,l,c⟩,k⟩
end
def Dp {A:Around} {k:Nat} (h:dg k A):A.units+1<cLine:=aas (Nat.add_le_add_left (by decide:1<=64) _) h.units
def bo {n:Nat} (h:n<=1000):n<sizeLine:=aas h (by decide)
section
variable {X:Cx}
def pv (i:Nat) {x:Str} {p:Pos} (h:autoParam (X.N[i]?=some x) za_._auto_1) (a:Qd X.env.scope x:=by first|exact Or.inl rfl|exact Or.inr (Or.inl rfl)|exact Or.inr (Or.inr rfl)) (H:autoParam (AJ x) zb_._auto_1) (y:autoParam ((x == ("__classdict__" : Str))=false) zb_._auto_1):PE X (.Name x p) (Im i):=Lb h a H y
end
def fe {A B:Prop} (h:B):if false=true then A else B:=by
 rw [aax aaC]
 exact h
def gn {A B:Prop} (h:A):if true=true then A else B:=by
 rw [aau rfl]
 exact h
def fQ {c A B:Prop} [Decidable c] (H:c) (h:B):if (!decide c)=true then A else B:=by
 rw [aaG H]
 exact fe h
def aG (H h:Hp):Prop:=∀ b o,H b=some o->h b=some o
def aG.refl (H:Hp):aG H H:=λ Z Z h=>h
def aG.trans {H1 H2:Hp} (a:aG H H1) (b:aG H1 H2):aG H H2:=λ c o h=>b c o (a c o h)
def aG.free (e:aG H H') {l:am} (h:H' l=Option.none):H l=Option.none:=by
 cases q:H l with
 | none=>rfl
 | some o =>
   rw [e l o q] at h
   cases h
def aG.seq {K:aE} {a:am} {xs:aB} (e:aG H H') (h:aX K H a xs):aX K H' a xs:=by
 rcases h with (h|⟨o,h⟩)|h
 . exact .inl (.inl (e _ _ h))
 . exact .inl (.inr ⟨o,e _ _ h⟩)
 . exact .inr h
section
variable {κ:Type} [DecidableEq κ]
def Hn {a:List (κ×V)} {k:κ} (h:gI a k=none):¬ k∈a.map (·.1):=by
 intro m
 obtain ⟨p,H,e⟩:=aaE.mp m
 have q:(a.any λ K=>decide (K.1=k))=true:=List.any_eq_true.mpr ⟨p,H,aaG e⟩
 rw [jJ,h] at q
 exact absurd q (by simp)
theorem Dh:∀ {l:List κ} {k:κ},l.Nodup->¬ k∈l->(l++[k]).Nodup
 | [],k,_,_=>by simp
 | a::r,k,h,H=>by
   obtain ⟨b,c⟩:=aaS.mp h
   show (a::(r++[k])).Nodup
   refine aaS.mpr ⟨λ m=>?_,Dh c λ m=>H (aab.mpr (Or.inr m))⟩
   rcases aaz.mp m with q|q
   . exact b q
   . exact H (aab.mpr (Or.inl (aac.mp q).symm))
def JD {a:List (κ×V)} {k:κ} (v:V) (H:(a.map (·.1)).Nodup) (h:gI a k=none):((putK a k v).map (·.1)).Nodup:=by
 rw [GL v h,aai]
 exact Dh H (Hn h)
end
end L2
namespace Mth
def Ka {g l:Int} (h:0<=g) (H:0<l):Int.gcd l (g % l)=Int.gcd g l:=by
 obtain ⟨a,rfl⟩:=ad0 h
 obtain ⟨b,rfl⟩:=ad0 (abd H)
 show Nat.gcd b (((a:Int) % (b:Int))).natAbs=Nat.gcd a b
 have:(((a:Int) % (b:Int))).natAbs=a % b:=by rw [<- Int.natCast_emod];rfl
 rw [this,Nat.gcd_comm a b,Nat.gcd_comm b,<- Nat.gcd_rec]
def Oj {g:Int} (h:0<=g):((Int.gcd g 0:Nat):Int)=g:=by
 rw [Int.gcd_zero_right];lia
def wE {a b:Int} (H:0<a) (h:0<a * b):0<b:=by
 rcases (by lia:0<b\/b<=0) with q|q
 . exact q
 . have:=abY (abd H) (by lia:0 <= -b)
   rw [aen] at this
   lia
structure Fr (t b q r:Int):Prop where
 pos:0<r
 jU:q * b=t * r
 SF:Int.gcd q r=1
 N3:q.natAbs<=t.natAbs
 Qv:r.natAbs<=b.natAbs
def uw {c q:Int} (h:0<c):q.natAbs<=(c * q).natAbs:=by
 rw [acL]
 exact Nat.le_mul_of_pos_left _ (by lia)
def KA {t b c:Int} (e:b≠0) (f:c=((Int.gcd t b:Nat):Int)):0<c/\c<=b.natAbs/\(0<b->Fr t b (t.fdiv c) (b.fdiv c))/\(b<0->Fr t b (t.fdiv (-c)) (b.fdiv (-c))):=by
 have o:0<Int.gcd t b:=Int.gcd_pos_iff.mpr (.inr e)
 have C:0<c:=by lia
 have D:c ∣ t:=f ▸ Int.gcd_dvd_left t b
 have i:c ∣ b:=f ▸ Int.gcd_dvd_right t b
 obtain ⟨q,H⟩:=D
 obtain ⟨r,h⟩:=i
 have z:r≠0:=by rintro rfl;rw [Int.mul_zero] at h;exact e h
 have d:c<=b.natAbs:=by
   rw [h,acL]
   have:c.natAbs * 1<=c.natAbs * r.natAbs:=Nat.mul_le_mul_left _ (by lia)
   lia
 have E:t.fdiv c=q:=by rw [H,ack _ (by lia)]
 have j:b.fdiv c=r:=by rw [h,ack _ (by lia)]
 have k:t.fdiv (-c) = -q:=by rw [show t = -c * -q by rw [H,Int.neg_mul_neg],ack _ (by lia)]
 have l:b.fdiv (-c) = -r:=by rw [show b = -c * -r by rw [h,Int.neg_mul_neg],ack _ (by lia)]
 have g:Int.gcd q r=1:=by
   have a:Int.gcd (c * q) (c * r)=c.natAbs * Int.gcd q r:=Int.gcd_mul_left c q r
   rw [<- H,<- h] at a
   have n:c.natAbs=Int.gcd t b:=by lia
   rw [n] at a
   have m:Int.gcd t b * Int.gcd q r=Int.gcd t b * 1:=by rw [<- a,aek]
   exact Nat.eq_of_mul_eq_mul_left o m
 have L:q.natAbs<=t.natAbs:=H ▸ uw C
 have p:r.natAbs<=b.natAbs:=h ▸ uw C
 refine ⟨C,d,λ B=>?_,λ B=>?_⟩
 . rw [E,j]
   exact ⟨wE C (h ▸ B),by rw [H,h,abx,Int.mul_left_comm],g,L,p⟩
 . rw [k,l]
   refine ⟨wE C (by rw [aen,<- h];lia),?_,by rw [Int.gcd_neg,Int.neg_gcd];exact g,by lia,by lia⟩
   rw [H,h,Int.neg_mul,aen,abx,Int.mul_left_comm]
def Bd (n:Nat) (x:Int):Prop:=x.natAbs<2 ^ n
def Bd.mono {m n:Nat} {x:Int} (h:Bd m x) (l:m<=n):Bd n x:=aaw h (abr (by decide) l)
def Bd.mul {m n:Nat} {x y:Int} (h:Bd m x) (k:Bd n y):Bd (m+n) (x * y):=by
 unfold Bd at *
 rw [acL,Nat.pow_add]
 exact Nat.mul_lt_mul'' h k
def Bd.add {m:Nat} {x y:Int} (h:Bd m x) (k:Bd m y):Bd (m+1) (x+y):=by
 unfold Bd at *
 rw [ac8]
 have:=Int.natAbs_add_le x y
 lia
def Bd.neg {m:Nat} {x:Int} (h:Bd m x):Bd m (-x):=by unfold Bd at *;rw [Int.natAbs_neg];exact h
def Bd.sub {m:Nat} {x y:Int} (h:Bd m x) (k:Bd m y):Bd (m+1) (x - y):=by rw [Int.sub_eq_add_neg];exact h.add k.neg
def Bd.le {m:Nat} {x y:Int} (h:Bd m y) (k:x.natAbs<=y.natAbs):Bd m x:=aas k h
def Bd.log {n:Nat} {x:Int} (h:Bd n x) (a:0<n):x.natAbs.log2<n:=by
 by_cases H:x.natAbs=0
 . rw [H];simpa using a
 . exact (Nat.log2_lt H).mpr h
def Fr.OC {t b q r:Int} {n:Nat} (h:Fr t b q r) (k:Bd n t):Bd n q:=k.le h.N3
def Fr.Oa {t b q r:Int} {n:Nat} (h:Fr t b q r) (k:Bd n b):Bd n r:=k.le h.Qv
end Mth
namespace Bit
def rooms (n:Nat):aS:=(List.range 61).filter n.testBit
def f7 {n k:Nat}:k∈rooms n↔k<61/\n.testBit k=true:=by
 unfold rooms;rw [aa3,aaJ]
def pK (n:Nat):(rooms n).Pairwise (· < ·):=(ad3).filter _
def iU {n m k:Nat} (h:n<2 ^ m) (H:m<=k):n.testBit k=false:=Nat.testBit_lt_two_pow (aaw h (abr (by decide) H))
def Bn {n m:Nat} (h:n<2 ^ m) (f:m<=61):(List.range m).filter n.testBit=rooms n:=by
 unfold rooms
 obtain ⟨d,c⟩:∃ d,61=m+d:=⟨61 - m,by lia⟩
 have e:List.range 61=List.range (m+d):=by rw [c]
 rw [e,List.range_add,abq]
 have:(List.map (m + ·) (List.range d)).filter n.testBit=[]:=by
   rw [ad6]
   intro a H
   obtain ⟨b,Z,rfl⟩:=aaE.mp H
   rw [iU h (by lia)]
   exact aaC
 rw [this,abf]
def sumOf (l:aS):Nat:=l.foldl (λ n r=>n ||| 2 ^ r) 0
theorem yQ:∀ (l:aS) (a k:Nat),(l.foldl (λ n r=>n ||| 2 ^ r) a).testBit k=(a.testBit k || decide (k∈l))
 | [],a,k=>by simp
 | r::l,a,k=>by
   rw [adF,yQ l,adI,adh,Bool.or_assoc]
   congr 1
   by_cases h:r=k
   . subst h;simp
   . have:decide (k∈r::l)=decide (k∈l):=by simp [acx h]
     rw [this];simp [h]
def mW (l:aS) (k:Nat):(sumOf l).testBit k=decide (k∈l):=by
 unfold sumOf;rw [yQ];simp
def Fq {l:aS} {m:Nat} (h:∀ r∈l,r<m):sumOf l<2 ^ m:=by
 refine acJ _ λ i hi=>?_
 rw [mW]
 exact aap λ q=>absurd (h i q) (by lia)
def zA {l:aS} (h:∀ r∈l,r<61) (g:l.Pairwise (· < ·)):rooms (sumOf l)=l:=by
 have E:∀ k,k∈rooms (sumOf l)↔k∈l:=λ k=>by
   rw [f7,mW]
   constructor
   . rintro ⟨Z,q⟩;exact abO q
   . intro q;exact ⟨h k q,aaG q⟩
 have u:∀ (a b:aS),a.Pairwise (· < ·)->b.Pairwise (· < ·)->(∀ k,k∈a↔k∈b)->a=b:=by
   intro a
   induction a with
   | nil =>
     intro b Z Z H
     cases b with
     | nil=>rfl
     | cons y b=>exact absurd ((H y).mpr aar) (by simp)
   | cons x a i =>
     intro b e f H
     cases b with
     | nil=>exact absurd ((H x).mp aar) (by simp)
     | cons y b =>
       obtain ⟨d,c⟩:=aeq.mp e
       obtain ⟨F,p⟩:=aeq.mp f
       have V:x=y:=by
         rcases aab.mp ((H x).mp aar) with q|q
         . exact q
         . rcases aab.mp ((H y).mpr aar) with Q|Q
           . exact Q.symm
           . have:=F x q;have:=d y Q;lia
       subst V
       rw [i b c p λ k=>?_]
       constructor
       . intro q
         rcases aab.mp ((H k).mp (aaj _ q)) with z|z
         . subst z;exact absurd (d k q) (abG _)
         . exact z
       . intro q
         rcases aab.mp ((H k).mpr (aaj _ q)) with z|z
         . subst z;exact absurd (F k q) (abG _)
         . exact z
 exact u _ _ (pK _) g E
def parts (l:aS):aS:=l.foldl (λ p r=>p++p.map (· ||| 2 ^ r)) [0]
def AU {p r:Nat} (h:p<2 ^ r):p ||| 2 ^ r=p+2 ^ r:=by
 have:=adD h 1
 rw [aek] at this
 rw [Nat.or_comm,<- this,acG]
structure Ok (ps l:aS):Prop where
 len:ps.length=2 ^ l.length
 first:ps[0]?=some 0
 last:ps[ps.length - 1]?=some (sumOf l)
 rise:ps.Pairwise (· < ·)
 sub:∀ p∈ps,∀ k,p.testBit k=true->k∈l
def LQ:Ok [0] []:=⟨rfl,rfl,rfl,by simp,λ p H k h=>by
 have:p=0:=by simpa using H
 subst this;simp at h⟩
def IZ {d l:aS} {r:Nat} (h:Ok d l) (o:∀ x∈l,x<r):Ok (d++d.map (· ||| 2 ^ r)) (l++[r]):=by
 have s:∀ p∈d,p<2 ^ r:=λ p m=>acJ _ λ i hi=>by
   cases e:p.testBit i with
   | false=>rfl
   | true=>have:=o i (h.sub p m i e);lia
 have n:0<d.length:=by rw [h.len];exact Nat.two_pow_pos _
 refine ⟨?_,?_,?_,?_,?_⟩
 . rw [aaf,No,h.len,aaf,aaD,ac8];lia
 . rw [aan n];exact h.first
 .
  rw [aaf,No,aa0 (by lia),Zj]
  have e:d.length+d.length - 1 - d.length=d.length - 1:=by lia
  rw [e,h.last]
  show some (sumOf l ||| 2 ^ r)=some (sumOf (l++[r]))
  unfold sumOf
  rw [abI];rfl
 .
  rw [adg]
  refine ⟨h.rise,?_,λ a H b f=>?_⟩
  . rw [adt]
    refine adT ?_ h.rise
    intro a b H f N
    rw [AU (s a H),AU (s b f)];lia
  . obtain ⟨c,g,rfl⟩:=aaE.mp f
    have:=s a H
    rw [AU (s c g)];lia
 .
  intro p m k j
  rcases aaz.mp m with q|q
  . exact aa4 _ (h.sub p q k j)
  .
   obtain ⟨c,g,rfl⟩:=aaE.mp q
   rw [adI,Bool.or_eq_true] at j
   rcases j with z|z
   . exact aa4 _ (h.sub c g k z)
   . rw [adh] at z
     have:=abO z
     subst this
     exact aaP _ (by simp)
theorem CB:∀ (b a p:aS),Ok p a->(a++b).Pairwise (· < ·)->Ok (b.foldl (λ p r=>p++p.map (· ||| 2 ^ r)) p) (a++b)
 | [],a,p,h,_=>by simpa using h
 | r::b,a,p,h,H=>by
   rw [adF]
   have e:a++r::b=(a++[r])++b:=by simp
   have c:∀ x∈a,x<r:=λ x d=>(adg.mp H).2.2 x d r aar
   rw [e] at H |-
   exact CB b (a++[r]) _ (IZ h c) H
def G0 {n r:Nat} (f:r<61) (h:n.testBit r=false):(rooms (n ||| 2 ^ r)).length=(rooms n).length+1:=by
 have c:∀ (l:aS),l.Nodup->(l.filter (n ||| 2 ^ r).testBit).length=(l.filter n.testBit).length+(if r∈l then 1 else 0):=by
   intro l
   induction l with
   | nil=>intro Z;rfl
   | cons x l i =>
     intro b
     obtain ⟨H,a⟩:=aaS.mp b
     have e:=i a
     have g:(n ||| 2 ^ r).testBit x=(n.testBit x || decide (r=x)):=by rw [adI,adh]
     rw [adA,adA,g]
     by_cases q:r=x
     . subst q
       rw [h]
       simp only [decide_true,Bool.or_true,acw,aaW,e,aax H,aab,true_or]
       simp
     . have Q:(r∈x::l)↔r∈l:=by simp [q]
       have d:decide (r=x)=false:=aap q
       rw [d,Bool.or_false]
       cases n.testBit x with
       | true=>simp only [acw,aaW,e];by_cases z:r∈l<;>simp [z,q]<;>lia
       | false=>simp only [abC,acq,e];by_cases z:r∈l<;>simp [z,q]
 have:=c (List.range 61) List.nodup_range
 rw [aau (aaJ.mpr f)] at this
 exact this
end Bit
namespace L2
open PySem PySem.Spec PyProof.Rows Mth
def BW:bootBuiltins "abs" = some (.builtin "abs"):=by decide +kernel
def cK:bootBuiltins "len" = some (.builtin "len"):=by decide +kernel
def nB:bootBuiltins "isinstance" = some (.builtin "isinstance"):=by decide +kernel
def Fu:bootBuiltins "all" = some (.builtin "all"):=by decide +kernel
def jR:bootBuiltins "tuple" = some (.type "tuple"):=by decide +kernel
def o5:bootBuiltins "list" = some (.type "list"):=by decide +kernel
def xH:bootBuiltins "int" = some (.type "int"):=by decide +kernel
def IN:bootBuiltins "bool" = some (.type "bool"):=by decide +kernel
def C3 {n:Nat} {x:Int} (h:Bd n x):Builtin.Int.intBits x<=n:=acz.mpr h
def JY {n:Nat} {x:Int} (h:Builtin.Int.intBits x<=n):Bd n x:=acz.mp h
section
variable {X:Cx}
def Kk (i j:Int):Prop:=∃ m n,Bd m i/\Bd n j/\m+n<=100000000
def J4 (_ j:Int):Prop:=j≠0/\Bd 8999 j
def Iz:jo X (binaryOp .Mult) (rI Kk λ i j => .int (i * j)):=Nr λ Z Z Z Z Z Z Z a q=>by
 obtain ⟨m,n,h,H,b⟩:=a
 exact mul_int q (IntMulOk.of_le (C3 h) (C3 H) (by lia))
def FK:jo X (binaryOp .FloorDiv) (rI J4 λ i j => .int (i.fdiv j)):=Nr λ Z Z Z Z Z Z Z h q=>by
 have H:Bd 8999 _:=h.2
 exact floordiv_int h.1 q (.inl (PyProof.noPylong_of_log2 (aaw (H.log (by decide)) (by decide))))
inductive Pf (K:aE) (x:V) (y:V) (H:Hp) (Q:VK):Prop|mk (p xs i v:_) (_:x = .ref p) (_:y = .int i) (_:(aX K H p xs\/bY K H p xs)) (_:oh xs i=some v) (_:Q v H)
def ao:ND X (Pf X.K):=by
 intro V S a s U H x y v u Q I r R h d
 obtain ⟨p,f,i,w,e,E,b,c,q⟩:=h
 rcases b with b|b
 . exact Je V S a s U H x y v u Q I r R ⟨p,f,i,w,e,E,b,c,q⟩ d
 . exact KU V S a s U H x y v u Q I r R ⟨p,f,i,w,e,E,b,c,q⟩ d
def rH:iJ X (.builtin "isinstance") (λ xs H Q=>∃ x c t C b,xs=[x,c]/\qR X.K H x t/\RelV c C/\W.kitOne X.K t C=some b/\Q (.bl b) H):=by
 intro p s U H xs g Q I r h
 obtain ⟨x,c,t,C,b,rfl,ty,R,e,q⟩:=h
 obtain ⟨u,w,rfl,f,d⟩:=vals2 r
 have:w=C:=by
   cases c with
   | cC=>cases d;cases R;rfl
   | bl b=>cases d;cases R;rfl
   | ref a=>cases d;cases R;rfl
   | ty n=>cases d;cases R;rfl
   | int i=>exact absurd e (by obtain ⟨k,rfl⟩:=R;intro z;unfold W.kitOne W.kitCls at z;cases ty<;>simp at z)
   | str i=>exact absurd e (by obtain ⟨k,rfl⟩:=R;intro z;unfold W.kitOne W.kitCls at z;cases ty<;>simp at z)
   | ET i=>exact absurd e (by obtain ⟨k,rfl⟩:=R;intro z;unfold W.kitOne W.kitCls at z;cases ty<;>simp at z)
   | KM i=>exact absurd e (by obtain ⟨k,rfl⟩:=R;intro z;unfold W.kitOne W.kitCls at z;cases ty<;>simp at z)
 subst this
 exact DM I f ty e λ T=>⟨.bl b,H,I.tok _,rfl,q⟩
end
def gJ (K:aE) (m:dX) (x:Str) (st:Stmt):Prop:=∃ f F,m x=some (.ref f)/\Jm K x x st f F
def Def (P:bD) (w:bz) (K:aE) (m:dX) (b:bE) (x:Str) (k:Nat) (p:de) (s:Sp):Prop :=
 ∃ f F,m x=some (.ref f)/\W.keepIn K (.ref f)=true/\Binds K F p []/\lZ P w K m b yJ k f F p s
section
variable {P:bD} {w:bz} {K:aE} {mg:dX} {base:bE}
def gJ.def {x:Str} {st:Stmt} {N p:de} {k:Nat} {sp:Sp} (h:gJ K mg x st) (S:aC N p (au st)) (len:∀ vs H Q E,sp vs H Q E->vs.length=p.length)
   (g:∀ (kV d m:aA) (c:Option am) (b ct:aA) (us:bM),us.length=p.length->bindArgs (W.fnOf x x (dA st) (ce st) (au st) .none kV d m c b ct) ⟨us,[]⟩=pure (p.zip us))
   (I:∀ (f:am) (b:aA) (A:Around) (outer:List Env) (s:Shared) (H:Hp) (vs:aB) (Q:VK) (E:XK),dg k (A.deeper (envOfC x (au st) s.heap.objs.size f b))->sp vs H Q E ->
     ∃ t,vO (qv yJ P w K mg base N x (au st) f b A outer s H E).EX (ce st) t/\t { nx:=λ Z a=>Q .cC a,rt:=Q } (start N vs) H):Def P w K mg base x (k+1) p sp:=by
 obtain ⟨f,e,i,F⟩:=h
 exact ⟨f,e,i,F.kp,F.binds g,F.ok S len λ b A outer s H vs Q E j l=>I f b A outer s H vs Q E j l⟩
def Jm.Lf {x q:Str} {st:Stmt} {f:am} {e:FuncData} {p:Str} (F:Jm K x q st f e)
   (h:∀ (kV d c:aA) (a:Option am) (b ct:aA) (u:aA),bindArgs (W.fnOf x q (dA st) (ce st) (au st) .none kV d c a b ct) ⟨[u],[]⟩=pure [(p,u)]) (s:Shared) (u:aA):BindsTo s e ⟨[u],[]⟩ [(p,u)]:=by
 obtain ⟨o,O,kV,d,c,a,b,ct,y,rfl,l,Y⟩:=F.ex
 exact .of_eq (h kV d c a b ct u)
end
section
variable {X:Cx} {x:Str} {p pos:Pos} {e:Expr} {es:List Expr} {t:TA} {k:Nat} {ps:de} {sp:Sp}
def ay (D:Def X.prog X.w X.K X.mg X.base x k ps sp) (j:dg k X.A) (h:PA X (e::es) t) (c:autoParam (Gl X x) za_._auto_1) (a:autoParam (AJ x) zb_._auto_1)
   (b:autoParam (Ch X e es) za_._auto_1) (g:autoParam (Fb X es pos) za_._auto_1):PE X (.Call (.Name x p) (e::es) [] pos) (CY sp [] E0 t):=by
 obtain ⟨f,l,i,d,H,F⟩:=D
 exact Cw F j c i d H .nil zT h a b g
end
def Bj {n:Int} {m:Nat} (h:(W.WData.int n).weight<=m):Bd m n:=by
 refine JY ?_
 simpa only [W.WData.weight,Builtin.Int.intBits] using h
end L2
namespace Att
open PySem PySem.W PySem.Calls PyProof.Rows Mth
def xA {l:OpenLaw} {n:Nat} {q:bD} {L:de} {X:(dX)->bE->Prop} {y:bz->bE->Prop} {d:DefRec}
   (J:l.most=some n) (Q:d.params.defaults=[])
   (c:∀ (w:bz) (s₀ s:Shared) (m M:dX) (F:am) (o:Obj) (p C D:aA) (a:am) (vs:bM) (ns:List Int),
     Ground q L [] X w s₀ m M s.heap->y w s.heap ->
     s.heap.get? F=some o->o.data = .func (docDef d.name d.params d.body d.scope p C D)->s.heap.CodeRec C d.name->m d.name=some (.ref F) ->
     s.heap.get? a=some { cls:=.type "list",data:=.seq vs.toArray }->IntsAre vs ns->ns.length<=n->(∀ z∈ns,Bd 1048576 z)->s.gens=#[] ->
     codeAny (model l.prog w) callerA (.call (.ref F) ⟨[.ref a],[]⟩) (λ r s'=>r = .ok (.ret (.bool true))/\OldK s.heap s'.heap/\s'.os=s.os/\AllBare s'.gens) s) :
   WalkO q L X y l.row.toRowW d [] (λ f vs=>PySem.call f vs):=by
 intro w s₀ s m M G Y F o p C D k kV K A T e j B args v as I U R N V
 obtain rfl:k = .none:=Dflts.none e Q
 obtain rfl:kV = .none:=Dflts.noKw e
 obtain ⟨a,vs,ns,rfl,rfl,i,h,H⟩:=EG J I N
 have g:∀ z∈ns,Bd 1048576 z:=λ z S=>by
   have t:=layableW_arg U _ (aac.mpr rfl)
   have b:=layableW_item t (.int z) (aaE.mpr ⟨z,S,rfl⟩)
   exact L2.Bj (aaA (layableW_iff.mp b).2.2 (by decide))
 refine enter_call (adP (c w s₀ s m M F o p C D a vs ns G Y K (fd_plain A) T j i h H g B) λ r s' O=>?_)
 obtain ⟨rfl,b,u,x⟩:=O
 exact ⟨.inl ⟨.bool true,.bool true,[],rfl,λ Z=>rfl,.bool true,Ei l _,λ Z=>⟨List.Pairwise.nil,λ Z E=>(nomatch E)⟩⟩,b,u,x⟩
end Att
namespace L2
open PySem PySem.Spec PyProof.Rows Mth
variable {H H':Hp} {elt iter tg:Expr} {elts ifs:List Expr} {g:TG} {nt t' x1:Nat} {o:HO} {te:TE} {o8:Pos} {U:St}
inductive FE (K:aE) (vs:aB) (H:Hp) (Q:VK) (_E:XK):Prop|mk (a:am) (ns:List Int) (_:vs=[.ref a]) (_:aX K H a (ns.map V.int)) (_:ns.length<=63) (_:(∀ z∈ns,Bd 1048576 z)) (_:∀ H',Q (.bl true) H')
def FL {l:W.OpenLaw} {k:Nat} {q:bD} {L:de} {X:(dX)->bE->Prop} {y:bz->bE->Prop} {d:DefRec} {K:Params->aE} {x:Str} (I:l.most=some 63) (Q:d.params.defaults=[]) (J:dg k callerA) (v:∀ (w:bz) (h:bE),y w h->(K w.params).In h) (F:∀ (w:bz) (m:dX) (j:am) (h:bE),(K w.params).In h->h.Ns mainGlobals m->m d.name=some (.ref j) ->
     ∃ n:FuncData,(∀ (s:Shared) (u:aA),BindsTo s n ⟨[u],[]⟩ [(x,u)]) /\
       ∀ B:bE,(K w.params).In B->B.Ns mainGlobals m->lZ l.prog w (K w.params) m B yJ k j n [x] (FE (K w.params))) :
   W.WalkO q L X y l.row.toRowW d [] (λ f vs=>PySem.call f vs):=by
 refine Att.xA I Q λ w s₀ S m mb j o pm R D a vs O G Y ho V yp N M i c C E=>?_
 have p:=v w _ Y
 obtain ⟨n,A,r⟩:=F w m j _ p G.T.g N
 exact Fv p G.T.g G.T.b G.T.builtins G.T.nolimit E M i (aaA c (by decide)) J r A (λ H U t=>⟨a,O,rfl,t,c,C,λ Z=>rfl⟩) λ H e s' z=>z
section
variable {X:Cx}
inductive QO (x:V) (y:V) (H:Hp) (Q:VK):Prop|mk (i j:_) (_:x = .int i) (_:y = .int j) (_:∀ r:Int,r=i+j->Q (.int r) H)
inductive NW (x:V) (y:V) (H:Hp) (Q:VK):Prop|mk (i j:_) (_:x = .int i) (_:y = .int j) (_:∀ r:Int,r=i - j->Q (.int r) H)
inductive Qs (x:V) (y:V) (H:Hp) (Q:VK):Prop|mk (i j:_) (_:x = .int i) (_:y = .int j) (_:Kk i j) (_:∀ r:Int,r=i * j->Q (.int r) H)
inductive O3 (x:V) (y:V) (H:Hp) (Q:VK):Prop|mk (i j:_) (_:x = .int i) (_:y = .int j) (_:J4 i j) (_:∀ r:Int,r=i.fdiv j->Q (.int r) H)
inductive PF (x:V) (y:V) (H:Hp) (Q:VK):Prop|mk (i j:_) (_:x = .int i) (_:y = .int j) (_:JM i j) (_:∀ r:Int,r=i ^ j.toNat->Q (.int r) H)
inductive Ow (x:V) (y:V) (H:Hp) (Q:VK):Prop|mk (i j:_) (_:x = .int i) (_:y = .int j) (_:JM i j) (_:∀ r:Int,r=i * 2 ^ j.toNat->Q (.int r) H)
inductive OP (x:V) (y:V) (H:Hp) (Q:VK):Prop|mk (i j:_) (_:x = .int i) (_:y = .int j) (_:0<=j) (_:∀ r:Int,r=i / 2 ^ j.toNat->Q (.int r) H)
inductive Xm (x:V) (y:V) (H:Hp) (Q:VK):Prop|mk (i j:_) (_:x = .int i) (_:y = .int j) (_:∀ r:Int,r=Builtin.bitOr i j->Q (.int r) H)
inductive Ob (x:V) (y:V) (H:Hp) (Q:VK):Prop|mk (i j:_) (_:x = .int i) (_:y = .int j) (_:∀ r:Int,r=Builtin.bitAnd i j->Q (.int r) H)
inductive rLM (x:V) (y:V) (H:Hp) (Q:VK):Prop|mk (i j:_) (_:x = .int i) (_:y = .int j) (_:0<j) (_:∀ r:Int,0<=r->r<j->r=i % j->Q (.int r) H)
def aO:jo X (binaryOp .Add) QO:=λ p s U H x y v u Q I r R ⟨i,j,e,E,q⟩=>MR p s U H x y v u Q I r R ⟨i,j,e,E,q _ rfl⟩
def cQ:jo X (binaryOp .Sub) NW:=λ p s U H x y v u Q I r R ⟨i,j,e,E,q⟩=>Lw p s U H x y v u Q I r R ⟨i,j,e,E,q _ rfl⟩
def bF:jo X (binaryOp .Mult) Qs:=λ p s U H x y v u Q I r R ⟨i,j,e,E,c,q⟩=>Iz p s U H x y v u Q I r R ⟨i,j,e,E,c,q _ rfl⟩
def eR:jo X (binaryOp .FloorDiv) O3:=λ p s U H x y v u Q I r R ⟨i,j,e,E,c,q⟩=>FK p s U H x y v u Q I r R ⟨i,j,e,E,c,q _ rfl⟩
def Dc:jo X (binaryOp .Pow) PF:=λ p s U H x y v u Q I r R ⟨i,j,e,E,c,q⟩=>K0 p s U H x y v u Q I r R ⟨i,j,e,E,c,q _ rfl⟩
def JU:jo X (binaryOp .LShift) Ow:=λ p s U H x y v u Q I r R ⟨i,j,e,E,c,q⟩=>LK p s U H x y v u Q I r R ⟨i,j,e,E,c,q _ rfl⟩
def CH:jo X (binaryOp .RShift) OP:=λ p s U H x y v u Q I r R ⟨i,j,e,E,c,q⟩=>MX p s U H x y v u Q I r R ⟨i,j,e,E,c,q _ rfl⟩
def MY:jo X (binaryOp .BitOr) Xm:=λ p s U H x y v u Q I r R ⟨i,j,e,E,q⟩=>Rv p s U H x y v u Q I r R ⟨i,j,e,E,q _ rfl⟩
def mS:jo X (binaryOp .BitAnd) Ob:=λ p s U H x y v u Q I r R ⟨i,j,e,E,q⟩=>Mj p s U H x y v u Q I r R ⟨i,j,e,E,q _ rfl⟩
def aI:jo X (binaryOp .Mod) rLM:=λ p s U H x y v u Q I r R ⟨i,j,e,E,c,q⟩ =>
 Ly p s U H x y v u Q I r R ⟨i,j,e,E,c,q _ (adH _ (by lia)) (adp _ c) rfl⟩
def rq:iJ X (.builtin "abs") (λ xs H Q=>∃ i,xs=[.int i]/\∀ r:Int,r=i.natAbs->Q (.int r) H) :=
 λ p s U H xs u Q I r ⟨i,e,q⟩=>FU p s U H xs u Q I r ⟨i,e,q _ (by split<;>lia)⟩
def bH:iJ X (.builtin "len") (λ xs H Q=>∃ p ys,xs=[.ref p]/\(aX X.K H p ys\/bY X.K H p ys)/\∀ r:Int,r=ys.length->Q (.int r) H) :=
 λ a s U H xs u Q I r ⟨p,ys,e,h,q⟩=>wT a s U H xs u Q I r ⟨p,ys,e,h,q _ rfl⟩
def WH (t:TS):TS:=λ D U H=>∃ P:St->Hp->Prop,t { D with nx:=P } U H/\∀ a H',P a H'->D.nx a H'
def ku {st:Stmt} {t:TS} (h:PS X st t):PS X st (WH t):=by
 intro p s U H D I d
 obtain ⟨P,b,c⟩:=d
 refine c7 (h p s U H { D with nx:=P } I b) λ f S q=>?_
 cases f with
 | next =>
   obtain ⟨a,H',i,q⟩:=q
   exact ⟨a,H',i,c a H' q⟩
 | ret v=>exact q
 | brk=>exact q
 | cont=>exact q
end
def qG {c A B:Prop} [Decidable c] (H:c) (h:A):if decide c=true then A else B:=by
 rw [aaG H];exact gn h
def oY {c A B:Prop} [Decidable c] (H:¬ c) (h:B):if decide c=true then A else B:=by
 rw [aap H];exact fe h
def eM {c A B:Prop} [Decidable c] (H:c->A) (a:¬ c->B):if decide c=true then A else B:=by
 by_cases h:c
 . exact qG h (H h)
 . exact oY h (a h)
def En {c A B:Prop} [Decidable c] (H:¬ c->A) (a:c->B):if (!decide c)=true then A else B:=by
 by_cases h:c
 . exact fQ h (a h)
 . rw [aap h];exact gn (H h)
def Nz {c A B:Prop} [Decidable c] (H:¬ c) (h:A):if (!decide c)=true then A else B:=by
 rw [aap H];exact gn h
def blT {c:Prop} [Decidable c] (h:c) {Q:VK} (q:Q (.bl true) H):Q (.bl (decide c)) H:=by rw [aaG h];exact q
def fD {a b:Int}:V.int a=V.int b↔a=b:=⟨λ e=>by cases e;rfl,λ e=>by rw [e]⟩
def ak {p:am} (h:H p=none):aG H (upd H p o):=λ b u e=>by rw [aw (az e h)];exact e
def aG.tup {K:aE} {a:am} {xs:aB} (e:aG H H') (h:bY K H a xs):bY K H' a xs:=by
 rcases h with (h|⟨o,h⟩)|h
 . exact .inl (.inl (e _ _ h))
 . exact .inl (.inr ⟨o,e _ _ h⟩)
 . exact .inr h
def oN {n:Nat} {x:Int} (h:autoParam (x.natAbs<2 ^ n) zb_._auto_1):Bd n x:=h
def yk (K:aE):W.kitOne K (.type "int") (.type "bool")=some false:=by
 show (if W.kitMeta "bool" = true then ((PySem.fastBuiltinMro "int").map (·.contains (Value.type "bool"))) else none)=some false
 decide +kernel
def vg {x y:V}:[x,y].length<=sizeLine:=by show 2<=sizeLine;decide
def yF {x y z:V}:[x,y,z].length<=sizeLine:=by show 3<=sizeLine;decide
inductive MB (vs:aB) (H:Hp) (Q:VK) (_E:XK):Prop|mk (a b:Int) (_:vs=[.int a,.int b]) (_:∀ r:Int,r=((Int.gcd a b:Nat):Int)->Q (.int r) H)
inductive Aj (vs:aB) (H:Hp) (Q:VK) (_E:XK):Prop|mk (t b:Int) (_:vs=[.int t,.int b]) (_:b≠0) (_:Bd 4000 b) (_:∀ q r p H',Fr t b q r->aG H H'->H' p=some (.tup [.int q,.int r])->Q (.ref p) H')
inductive As (f:Int->Int->Int->Int->Int) (K:aE) (vs:aB) (H:Hp) (Q:VK) (_E:XK):Prop|mk (p1 p2 a b c d:_) (_:vs=[.ref p1,.ref p2]) (_:bY K H p1 [.int a,.int b]) (_:bY K H p2 [.int c,.int d]) (_:0<b) (_:0<d) (_:Bd 1000 a) (_:Bd 1000 b) (_:Bd 1000 c) (_:Bd 1000 d) (_:∀ q r p H',Fr (f a b c d) (b * d) q r->aG H H'->H' p=some (.tup [.int q,.int r])->Q (.ref p) H')
inductive Ho (K:aE) (vs:aB) (H:Hp) (Q:VK) (_E:XK):Prop|mk (p1 p2 a b c d:_) (_:vs=[.ref p1,.ref p2]) (_:bY K H p1 [.int a,.int b]) (_:bY K H p2 [.int c,.int d]) (_:Bd 1000 a) (_:Bd 1000 b) (_:Bd 1000 c) (_:Bd 1000 d) (_:Q (.bl (decide (a * d<c * b))) H)
inductive BZ (K:aE) (vs:aB) (H:Hp) (Q:VK) (_E:XK):Prop|mk (a:am) (ns:List Int) (k:Int) (_:vs=[.ref a,.int k]) (_:aX K H a (ns.map V.int)) (_:0<=k) (_:∀ z,(z∈ns\/z=0)->Q (.int z) H)
def cF (X:Cx) (N':de) (S:Scope) (cl:List (Str×am)) (C:am) (s:Shared) (H:Hp) (ex:bJ):Cx :=
 { X with N:=N',env:=compEnvC S cl C X.env,s₀:=s,H₀:=H,outer:=X.stack,ex:=ex,fn:=λ Z=>false,pn:=[],xe:=λ Z Z=>False }
def Km (X:Cx) (i:List Expr) (t:TT):Prop :=
 ∀ (p:List (am×Obj)) (s:Shared) (U:St) (H:Hp) (Q:Bool->Hp->Prop),Inv X p U H s->t U H Q ->
   wpAny (model X.prog X.w) X.A (forIn i true λ c r=>if r=true then do let ok <- isTrue c X.env (eval c X.env);pure (ForInStep.yield ok) else pure (ForInStep.yield r)) (TP X p U Q) X.xe s
def Uf:TT:=λ Z H Q=>Q true H
def cr {X:Cx}:Km X [] Uf:=λ Z Z Z H Z I h=>wpAny_tests_nil ⟨H,I,h⟩
def ke {X:Cx} {c:Expr} {tt:TT} (a:PT X c tt):Km X [c] tt:=λ p s U H Q I h=>wpAny_tests_one (a p s U H Q I h)
def f8 (env:Env):List (Str×NameKind)->List (Str×am)->List (Str×am)
 | [],acc=>acc
 | y::r,acc=>f8 env r (if (y.2 == NameKind.free)=true then (y.1,(env.cells.lookup y.1).getD 0)::acc else acc)
theorem xI (env:Env):∀ (names:List (Str×NameKind)) (acc:List (Str×am)),(∀ y∈names,y.2 = .free->∃ c,env.cells.lookup y.1=some c) ->
   (forIn names acc λ x __s=>if (x.snd == NameKind.free)=true then do
       let __do_lift <- cellOf env x.fst
       pure (ForInStep.yield ((x.fst,__do_lift)::__s))
     else pure (ForInStep.yield __s))=(pure (f8 env names acc):Sem _)
 | [],acc,_=>rfl
 | y::r,acc,h=>by
   rw [adc]
   by_cases H:(y.2 == NameKind.free)=true
   .
    obtain ⟨c,e⟩:=h y aar (ach.mp H)
    rw [aau H]
    have E:cellOf env y.1=pure c:=by unfold cellOf;rw [e]
    rw [E]
    simp only [pure_bind]
    rw [xI env r _ λ z a=>h z (aaj _ a)]
    simp only [f8,H,acw,e,Option.getD_some]
   . rw [aax H]
     simp only [pure_bind]
     rw [xI env r _ λ z a=>h z (aaj _ a)]
     simp only [f8,H,acq]
     rfl
def JO {s:Scope} {env:Env} (h:∀ y∈s.names,y.2 = .free->∃ c,env.cells.lookup y.1=some c):closureFor s env=pure (f8 env s.names []):=by
 simp only [closureFor]
 rw [xI env s.names [] h]
 simp only [pure_bind]
theorem wz {env:Env}:∀ {names:List (Str×NameKind)} {acc:List (Str×am)},(∀ y∈names,y.2 = .free->∃ c,env.cells.lookup y.1=some c)->(∀ x c,acc.lookup x=some c->env.cells.lookup x=some c) ->
   ∀ x c,(f8 env names acc).lookup x=some c->env.cells.lookup x=some c
 | [],_,_,H,x,c,e=>H x c e
 | y::r,acc,h,H,x,c,e=>by
   refine wz (names:=r) (λ z b=>h z (aaj _ b)) ?_ x c e
   intro x c e
   by_cases a:(y.2 == NameKind.free)=true
   .
    rw [aau a] at e
    obtain ⟨C,E⟩:=h y aar (ach.mp a)
    rw [E,Option.getD_some,abD] at e
    cases q:x == y.1 with
    | true=>rw [q] at e;cases e;rw [ach.mp q];exact E
    | false=>rw [q] at e;exact H x c e
   . rw [aax a] at e;exact H x c e
theorem wA {env:Env}:∀ {names:List (Str×NameKind)} {acc:List (Str×am)} {x:Str},(∃ c,acc.lookup x=some c)->∃ c,(f8 env names acc).lookup x=some c
 | [],_,_,h=>h
 | y::r,acc,x,⟨c,h⟩=>by
   refine wA (names:=r) ?_
   by_cases H:(y.2 == NameKind.free)=true
   . rw [aau H,abD]
     cases q:x == y.1 with
     | true=>exact ⟨_,rfl⟩
     | false=>exact ⟨c,h⟩
   . rw [aax H];exact ⟨c,h⟩
theorem qO {env:Env}:∀ {names:List (Str×NameKind)} {acc:List (Str×am)} {y:Str×NameKind},y∈names->y.2 = .free->∃ c,(f8 env names acc).lookup y.1=some c
 | z::r,acc,y,h,H=>by
   rcases aab.mp h with rfl|h
   . refine wA (names:=r) ?_
     rw [aau (ach.mpr H),abD]
     simp
   . exact qO (names:=r) h H
def uh {s:Scope} {env:Env} {x:Str} {k:NameKind} (h:(relabel s env).names.lookup x=some k) (c:k = .cell\/k = .free) (g:∀ y∈s.names,y.2 ≠ .cell):(x,NameKind.free)∈s.names:=by
 have d:=abJ h
 obtain ⟨⟨n,K⟩,H,a⟩:=aaE.mp d
 dsimp only at a
 split at a
 .
  rename_i b
  cases a
  have:(K == NameKind.free)=true:=by
    simp only [aaY] at b
    exact b.1.1
  rw [ach.mp this] at H
  exact H
 .
  cases a
  rcases c with rfl|rfl
  . exact absurd rfl (g _ H)
  . exact H
theorem iI {env:Env}:∀ {names:List (Str×NameKind)} {x:Str},names.lookup x=some .free ->
   (names.map λ (n,k)=>if (k == NameKind.free && env.scope.kind == .function && env.kindOf n == some .cell) then (n,NameKind.cell) else (n,k)).lookup x=some .cell \/
   (names.map λ (n,k)=>if (k == NameKind.free && env.scope.kind == .function && env.kindOf n == some .cell) then (n,NameKind.cell) else (n,k)).lookup x=some .free
 | [],_,h=>by simp at h
 | (n,k)::r,x,h=>by
   have i:=@iI env r x
   show List.lookup x ((if (k == NameKind.free && env.scope.kind == .function && env.kindOf n == some .cell)=true then (n,NameKind.cell) else (n,k))::_)=_\/List.lookup x ((if (k == NameKind.free && env.scope.kind == .function && env.kindOf n == some .cell)=true then (n,NameKind.cell) else (n,k))::_)=_
   cases H:x == n with
   | true =>
     simp only [abD,H] at h
     cases h
     by_cases a:(NameKind.free == NameKind.free && env.scope.kind == .function && env.kindOf n == some .cell)=true
     . rw [aau a];simp [abD,H]
     . rw [aax a];simp [abD,H]
   | false =>
     simp only [abD,H] at h
     by_cases a:(k == NameKind.free && env.scope.kind == .function && env.kindOf n == some .cell)=true
     . rw [aau a];simp only [abD,H];exact i h
     . rw [aax a];simp only [abD,H];exact i h
section
variable {prog:bD} {w:bz} {A:Around} {R:Result->Shared->Prop} {s:Shared}
def At {t:Expr} {a:Scope} {q:Pos} {u acc:aA} {env:Env} (I:Nat->Shared->Prop) (T:∀ n s,I n s->wpAny (model prog w) A (pyNext u) (λ r S=>match r with
     | none=>R (.ok .next) S
     | some v=>wpAny (model prog w) A (letOwnedTupleGo t u v) (λ Z S=>wpAny (model prog w) A (assign t env v) (λ Z g =>
         wpAny (model prog w) A (forIn ifs true λ c r=>if r=true then do let ok <- isTrue c env (eval c env);pure (ForInStep.yield ok) else pure (ForInStep.yield r)) (λ ok b =>
           if ok=true then wpAny (model prog w) A (eval elt env) (λ x i =>
             wpAny (model prog w) A (call (.builtin "list.append") [acc,x]) (λ Z j=>∃ m,m<n/\I m j) (notedBy (model prog w) A env λ e s'=>R (.error e) s') i) (notedBy (model prog w) A env λ e s'=>R (.error e) s') b
           else ∃ m,m<n/\I m b) (notedBy (model prog w) A env λ e s'=>R (.error e) s') g) (notedBy (model prog w) A env λ e s'=>R (.error e) s') S) (notedBy (model prog w) A env λ e s'=>R (.error e) s') S) (notedBy (model prog w) A env λ e s'=>R (.error e) s') s) (n:Nat) (h:I n s) :
   codeAny (model prog w) A (.compLoop (.ListComp elt [⟨t,iter,ifs,0⟩] a q) 0 u acc env) R s:=by
 refine codeAny_loop rfl I (λ n s z=>?_) n h
 show wpAny _ A ((compTurn (.ListComp elt [⟨t,iter,ifs,0⟩] a q) 0 u acc env).onRaise (λ x=>do noteFrame x env;theTreesLotGoes x)) _ _ s
 refine wpAny_noted ?_
 rw [compTurn_list]
 refine aaa (wpAny_standAt (aaa (abB (T n s z) (λ r S d=>?_) λ Z Z H=>H)))
 cases r with
 | none=>exact aao d
 | some v =>
   refine aaa (abB d (λ Z y k=>?_) λ Z Z H=>H)
   refine aaa (abB k (λ Z g l=>aaa (abB l (λ ok b f=>?_) λ Z Z H=>H)) λ Z Z H=>H)
   cases ok with
   | false=>exact aao ⟨rfl,f⟩
   | true =>
     exact aaa (aaa (abB f (λ x i o=>aaa (abB o (λ Z j p=>aao (aao ⟨rfl,p⟩)) λ Z Z H=>H)) λ Z Z H=>H))
end
section
variable {X:Cx}
def Ah (w:TI) (g:TG) (T:TT) (t:TE) (n:Nat) (sl:aS):TE:=λ U H Q=>w U H λ J d=>∀ D,d D=none ->
 ∃ W:Nat->Nat->aB->St->Hp->Prop,(∃ m,W 0 m [] (List.replicate n none++sl.map λ j=>(U[j]?).join) (upd d D (.lst []))) /\
   ∀ i m A c H',W i m A c H' ->
     (J.stop i H'/\Q (.ref D) H') \/
     (J.go i H'/\∃ N:aB->St->Hp->Prop,(∀ G a h,N G a h->∃ M,M<m/\W (i+1) M G a h)/\∀ x e,J.HC i H' x e->g x c e λ a k=>T a k λ b h =>
       if b=true then t a h λ y f=>f D=some (.lst A)/\A.length<sizeLine/\N (A++[y]) a (upd f D (.lst (A++[y])))
       else N A a h)
def vY {S:Scope} {ad:Pos} {wi:TI} {tt:TT} {N':de} {sl:aS} (hc:X.calm=true) (hi:PI X tg iter wi) (hg:∀ cl C s H ex,PG (cF X N' S cl C s H ex) tg g) (ht:∀ cl C s H ex,Km (cF X N' S cl C s H ex) ifs tt) (he:∀ cl C s H ex,PE (cF X N' S cl C s H ex) elt te) (Po:N'.length=nt+sl.length) (QE:∀ k j:Nat,sl[k]?=some j->∃ x,N'[nt+k]?=some x/\X.N[j]?=some x/\S.names.lookup x=some .free) (hk:S.kind = .function) (gP:∀ y∈S.names,y.2 ≠ .cell) (jZ:∀ y∈S.names,y.2 = .local->S.names.lookup y.1=some .local) (jM:∀ y∈S.names,y.2 = .free->X.env.kindOf y.1=some .cell\/X.env.kindOf y.1=some .free) (hs:∀ x,foldedSetIterable iter X.env x=pure x) {use:Option (aA->Sem Unit)} {Qp:aA->Shared->Prop} {D:List (am×Obj)} {s:Shared} {Q:V->Hp->Prop} {ae:Pos} (I:Inv X D U H s) (h:Ah wi g tt te nt sl U H Q) (a0:∀ (s6:Shared) (R:Hp) (d c:am) m,Inv X D U R s6->vw X D R c->s6.heap.Ns c m->Q (.ref d) R->compPost (model X.prog X.w) X.A X.xe use Qp (.ref d) c (.ok .next) s6) :
   wpAny (model X.prog X.w) X.A (comprehension (.ListComp elt [⟨tg,iter,ifs,0⟩] S ad) S X.env ae (newList []) false (eval iter X.env) use) Qp X.xe s:=by
 have N0:∀ y∈S.names,y.2 = .free->∃ c,X.env.cells.lookup y.1=some c:=λ y hy hf=>I.ok.has y.1 (jM y hy hf)
 have ze:=wz (env:=X.env) (names:=S.names) (acc:=[]) N0 (λ x c e=>by simp at e)
 refine wpAny_comprehension_free (use:=use) (cl:=f8 X.env S.names []) rfl hs (JO N0) hk jZ (c7 (hi D s U H _ I h) λ v s1 h1=>c7 h1 λ Ue t h2=>?_)
 obtain ⟨it,F,tn,J,K,rfl,I2,T,RK,f2,q⟩:=h2
 have nD:K t.heap.objs.size=none:=I2.dF.fresh (aak _)
 obtain ⟨W,⟨m0,w0⟩,al⟩:=q t.heap.objs.size nD
 refine abW ?_ (by show 0<=sizeLine;exact aaZ _)
 have B:Inv X D U (upd K t.heap.objs.size (.lst [])) { t with heap:=t.heap.push { cls:=.type "list",data:=.seq ([]:bM).toArray }} :=
   I2.laid (t':=t.toks) (λ b u e=>aal _ e) (aak _) ⟨aaZ _,[],0,.nil,aaR _ rfl⟩
 generalize Mm:({ t with heap:=t.heap.push { cls:=.type "list",data:=.seq ([]:bM).toArray }}:Shared)=f at B |-
 have a4:t.heap.objs.size<=f.heap.objs.size:=by rw [<- Mm];show _<=(Heap.push _ _).objs.size;rw [ac5];exact acp _
 have Jv:∀ b o,t.heap.get? b=some o->f.heap.get? b=some o:=λ b o e=>by rw [<- Mm];exact aal _ e
 refine wpAny_newFunctionEnv gP (by intro y hy;simp at hy) (λ h₁ Sl a5=>?_) hk
 have AD:∀ b o,f.heap.get? b=some o->h₁.get? b=some o:=λ b o e=>a5.extBut b o (aaO (aav e)) (aal _ e)
 have nC:(upd K t.heap.objs.size (.lst [])) f.heap.objs.size=none:=B.dF.fresh (aak _)
 have a9:f.heap.get? f.heap.objs.size=none:=adu (aak _)
 have Q2:∀ b∈F,b<t.heap.objs.size:=λ b a=>by
   obtain ⟨o,e,Z⟩:=T.obj _ _ RK b a
   exact aav e
 have Zs:∀ b∈F,b≠f.heap.objs.size:=λ b a=>aaO (aaw (Q2 b a) a4)
 have a1:∀ b∈F,b≠t.heap.objs.size:=λ b a=>aaO (Q2 b a)
 have Ym:∀ b∈F,b∉EV X.stack:=λ b a hm=>by
   rcases aab.mp (I2.Bp b hm) with z|z
   . exact (f2 b a).2.1 z
   . exact (f2 b a).2.2.1 z
 have a8:∀ x c,(f8 X.env S.names []).lookup x=some c->X.env.cells.lookup x=some c:=ze
 have xa:∀ b∈F,(b∈X.ex\/X.s₀.heap.objs.size<=b)/\b≠X.env.locals/\(∀ x c,X.env.cells.lookup x=some c->c≠b)/\∀ p∈X.pn++D,p.1≠b:=λ b a =>
   ⟨(f2 b a).2.2.2.1,(f2 b a).2.1,(f2 b a).2.2.2.2.1,(f2 b a).2.2.2.2.2⟩
 have KG:(cF X N' S (f8 X.env S.names []) f.heap.objs.size f (upd K t.heap.objs.size (.lst [])) F).Ok:=by
   refine ⟨B.ok.mod,hk,B.ok.glob,B.ok.blt,aak _,λ x y c h1 h2=>B.ok.inj x y c (ze x c h1) (ze y c h2),λ x hx=>?_,(λ x c hf=>nomatch hf),B.ok.hd,B.ok.frames,.inl rfl,λ b a=>⟨Zs b a,λ x c e=>(xa b a).2.2.1 x c (ze x c e)⟩,
     B.bs,aaA B.ok.KO B.sz,λ b o e a=>?_,Ym,B.stack,B.Cq⟩
   . have hm:(x,NameKind.free)∈S.names:=by
       rcases hx with hx|hx
       . exact uh hx (.inl rfl) gP
       . exact uh hx (.inr rfl) gP
     exact qO hm rfl
   . rcases (xa b a).1 with z|z
     . exact B.ok.F6 b o e z
     . exact absurd (aaw (aav (B.ok.bs b o e).1) z) (abG _)
 have I4:Inv (cF X N' S (f8 X.env S.names []) f.heap.objs.size f (upd K t.heap.objs.size (.lst [])) F) [] (List.replicate nt none++sl.map λ j=>(U[j]?).join) (upd K t.heap.objs.size (.lst []))
     { f with heap:=h₁,toks:=f.toks+([]:List (Str×aA)).length }:=by
   refine ⟨KG,rfl,B.bare,Un.kept AD,⟨_,Sl,λ i x v e1 Y e3=>?_⟩,λ x c e=>?_,nC,λ x c e=>B.np x c (ze x c e),λ p hp=>absurd hp (by simp [cF]),B.dF.kept AD,?_⟩
   .
    by_cases hi:i<nt
    . rw [aan (by simpa using hi),adZ] at Y
      split at Y<;>cases Y
    .
     rw [aa0 (by simpa using hi),ab5,Zj] at Y
     cases ej:sl[i - nt]? with
     | none=>rw [ej] at Y;cases Y
     | some j =>
       rw [ej] at Y
       have Sz:(U[j]?).join=some v:=aaq Y
       have aN:U[j]?=some (some v):=by
         cases q:U[j]? with
         | none=>rw [q] at Sz;cases Sz
         | some o=>rw [q] at Sz;cases Sz;rfl
       obtain ⟨y,n1,n2,n3⟩:=QE _ j ej
       have:nt+(i - nt)=i:=by lia
       rw [this] at n1
       have Vo:y=x:=aaq (n1.symm.trans e1)
       subst Vo
       have hm:(y,NameKind.free)∈S.names:=abJ n3
       have ZQ:=jM _ hm rfl
       obtain ⟨m,hn,hl⟩:=B.loc
       have Ts:Qd X.env.scope y:=by
         rcases ZQ with z|z
         . exact .inr (.inl z)
         . exact .inr (.inr z)
       obtain ⟨u,r,l⟩:=hl j y v n2 aN Ts
       refine ⟨u,r,.inr ⟨iI n3,?_⟩⟩
       obtain ⟨c,ec⟩:=qO (env:=X.env) (acc:=[]) hm rfl
       refine ⟨c,ec,?_⟩
       rcases l with ⟨k1,Z⟩|⟨Z,c',e',Lm⟩
       . rcases ZQ with z|z
         . rw [show X.env.kindOf y=some .local from k1] at z;cases z
         . rw [show X.env.kindOf y=some .local from k1] at z;cases z
       . have Fa:c=c':=aaq ((ze y c ec).symm.trans e')
         subst Fa
         obtain ⟨o,ho,hd⟩:=Lm
         exact ⟨o,AD c o ho,hd⟩
   . obtain ⟨v,o,ho,hd⟩:=B.cell x c (ze x c e)
     exact ⟨v,o,AD c o ho,hd⟩
   . show _=N'.length
     rw [Po,aaf,ab5,No]
 have Yn:tn 0 h₁:=T.keep _ _ _ RK λ b a o e=>AD b o (Jv b o e)
 have MG:∀ {pl:List (am×Obj)} {H':Hp},pl=[]->(∀ b∈F,H' b=none)->∀ b∈F,vw (cF X N' S (f8 X.env S.names []) f.heap.objs.size f (upd K t.heap.objs.size (.lst [])) F) pl H' b:=λ {pl H'} gc hn b a=>by
   subst gc
   exact ⟨hn b a,Zs b a,Ym b a,.inl a,λ x c e=>(xa b a).2.2.1 x c (ze x c e),λ p hp=>absurd hp (by simp [cF])⟩
 have a2:∀ b∈F,(upd K t.heap.objs.size (.lst [])) b=none:=λ b a=>by rw [aw (a1 b a)];exact (f2 b a).1
 have ab:codeAny (model X.prog X.w) X.A (.compLoop (.ListComp elt [⟨tg,iter,ifs,0⟩] S ad) 0 (.ref it) (.ref t.heap.objs.size) (compEnvC S (f8 X.env S.names []) f.heap.objs.size X.env))
     (compPost (model X.prog X.w) X.A X.xe use Qp (.ref t.heap.objs.size) f.heap.objs.size) { f with heap:=h₁,toks:=f.toks+([]:List (Str×aA)).length }:=by
   refine At (λ n s'=>∃ i E M H',Inv (cF X N' S (f8 X.env S.names []) f.heap.objs.size f (upd K t.heap.objs.size (.lst [])) F) [] M H' s'/\tn i s'.heap/\(∀ b∈F,H' b=none)/\W i n E M H') ?_ m0 ⟨0,[],_,_,I4,Yn,a2,w0⟩
   rintro n s5 ⟨i,E,O,R,I5,M1,RI,w5⟩
   rcases al i n E O R w5 with ⟨aj,qn⟩|⟨go,N,hN,ah⟩
   . refine c7 (T.done (cF X N' S (f8 X.env S.names []) f.heap.objs.size f (upd K t.heap.objs.size (.lst [])) F) rfl rfl rfl hc i [] s5 O R _ I5 (MG rfl RI) M1 aj) λ r s6 ⟨hr,I6⟩=>?_
     subst hr
     obtain ⟨m,hn,Z⟩:=id I6.loc
     exact a0 s6 R _ _ m (B.O6 (s':=s6) I6.os I6.base I6.dF I6.bare xa) (B.zZ (aak _) I6.free) hn qn
   .
    refine c7 (T.item (cF X N' S (f8 X.env S.names []) f.heap.objs.size f (upd K t.heap.objs.size (.lst [])) F) rfl rfl rfl hc i [] s5 O R _ I5 (MG rfl RI) M1 go) λ r s6 ⟨u,hr,h6⟩=>?_
    subst hr
    refine c7 h6 λ Z s7 ⟨x,H7,I7,r7,y7,VL,a3⟩=>?_
    have aF:=I7.pinned (MG rfl a3) (T.obj _ _ VL)
    have L:∀ {s8:Shared} {G:St} {H8:Hp} {gK:aB},Inv (cF X N' S (f8 X.env S.names []) f.heap.objs.size f (upd K t.heap.objs.size (.lst [])) F) ([]++uP F s7.heap) G H8 s8->(∃ m',m'<n/\W (i+1) m' gK G H8) ->
        ∃ m,m<n/\∃ i E M H',Inv (cF X N' S (f8 X.env S.names []) f.heap.objs.size f (upd K t.heap.objs.size (.lst [])) F) [] M H' s8/\tn i s8.heap/\(∀ b∈F,H' b=none)/\W i m E M H':=λ {s8 G H8 gK} I8 ⟨m',hm,w8⟩=>by
      refine ⟨m',hm,i+1,gK,G,H8,I8.pi,T.keep _ _ _ VL λ b a o e=>(I8.pin (b,o) (aaP _ (aaP _ (kI a e)))).1,λ b a=>?_,w8⟩
      obtain ⟨o,e,d⟩:=T.obj _ _ VL b a
      exact (I8.pin (b,o) (aaP _ (aaP _ (kI a e)))).2.1
    refine abB (hg _ _ _ _ _ _ s7 O H7 x u _ aF r7 (ah x H7 y7)) (λ Z s8 ⟨G,H8,I8,q8⟩=>?_) λ Z Z z=>False.elim z
    refine abB (ht _ _ _ _ _ _ s8 G H8 _ I8 q8) (λ ok s9 ⟨H9,I9,q9⟩=>?_) λ Z Z z=>False.elim z
    cases ok with
    | false =>
      rw [aax aaC] at q9 |-
      exact L I9 (hN _ _ _ q9)
    | true =>
      rw [aau rfl] at q9 |-
      refine abB (he _ _ _ _ _ _ s9 G H9 _ I9 q9) (λ y FH ⟨yv,Ii,an,WP,hD,hz,a6⟩=>?_) λ Z Z z=>False.elim z
      refine abB (cA (X:=(cF X N' S (f8 X.env S.names []) f.heap.objs.size f (upd K t.heap.objs.size (.lst [])) F)) _ FH G Ii (.ref t.heap.objs.size) [yv] (.ref t.heap.objs.size) [y] (λ Z Hy=>N (E++[yv]) G Hy) an rfl (.cons WP .nil) ⟨_,E,yv,rfl,rfl,hD,hz,a6⟩) (λ Z ba ⟨bb,Hy,aD,YW,a7⟩=>?_) λ Z Z z=>False.elim z
      exact L aD (hN _ _ _ a7)
 exact codeAny_compStart_list ab (T.self _ 0 _ _ _ Yn ab)
def Jq {S:Scope} {p:Pos} {w:TI} {t:TT} {N':de} {sl:aS} (n:X.calm=true) (hi:PI X tg iter w) (r:∀ cl C s H ex,PG (cF X N' S cl C s H ex) tg g) (A:∀ cl C s H ex,Km (cF X N' S cl C s H ex) ifs t) (o:∀ cl C s H ex,PE (cF X N' S cl C s H ex) elt te) (f:N'.length=nt+sl.length) (i:∀ k j:Nat,sl[k]?=some j->∃ x,N'[nt+k]?=some x/\X.N[j]?=some x/\S.names.lookup x=some .free) (u:S.kind = .function) (G:∀ y∈S.names,y.2 ≠ .cell) (D:∀ y∈S.names,y.2 = .local->S.names.lookup y.1=some .local) (B:∀ y∈S.names,y.2 = .free->X.env.kindOf y.1=some .cell\/X.env.kindOf y.1=some .free) (z:∀ x,foldedSetIterable iter X.env x=pure x:=by intro Z;rfl) :
   PE X (.ListComp elt [⟨tg,iter,ifs,0⟩] S p) (Ah w g t te nt sl):=by
 intro a s U H Q I h
 rw [eval_ListComp]
 exact vY n hi r A o f i u G D B z I h λ E e d c m J F v q=>⟨m,v,λ L K=>⟨.ref d,e,J.turned (t':=E.toks) (λ b Z l q=>(K.2 b l).trans q) F.1 F.2.1 F.2.2.2.1 F.2.2.2.2.1 F.2.2.2.2.2,rfl,q⟩⟩
def fJ {S:Scope} {p:Pos} {w:TI} {c:TT} (T f:de) (sl:aS) (a:Paired (λ (j:Nat) (x:Str)=>X.N[j]?=some x/\S.names.lookup x=some .free/\(X.env.kindOf x=some .cell\/X.env.kindOf x=some .free)) sl f) (l:X.calm=true) (hi:PI X tg iter w) (o:∀ cl C s H ex,PG (cF X (T++f) S cl C s H ex) tg g) (v:∀ cl C s H ex,Km (cF X (T++f) S cl C s H ex) ifs c) (m:∀ cl C s H ex,PE (cF X (T++f) S cl C s H ex) elt te) (q:autoParam (S.kind = .function) za_._auto_1) (G:autoParam (∀ y∈S.names,y.2 ≠ .cell) zc_._auto_1) (B:autoParam (∀ y∈S.names,y.2 = .local->S.names.lookup y.1=some .local) zc_._auto_1) (J:autoParam (∀ y∈S.names,y.2 = .free->y.1∈f) zc_._auto_1) (u:∀ x,foldedSetIterable iter X.env x=pure x:=by intro Z;rfl) :
   PE X (.ListComp elt [⟨tg,iter,ifs,0⟩] S p) (Ah w g c te T.length sl):=by
 have K:∀ {sl:aS} {f:de},Paired (λ (j:Nat) (x:Str)=>X.N[j]?=some x/\S.names.lookup x=some .free/\(X.env.kindOf x=some .cell\/X.env.kindOf x=some .free)) sl f ->
     (∀ k j:Nat,sl[k]?=some j->∃ x,f[k]?=some x/\X.N[j]?=some x/\S.names.lookup x=some .free)/\∀ x∈f,X.env.kindOf x=some .cell\/X.env.kindOf x=some .free:=by
   intro sl f a
   induction a with
   | nil=>exact ⟨λ k j h=>by simp at h,λ x b=>by simp at b⟩
   | cons r t i =>
     refine ⟨λ k j h=>?_,λ x b=>?_⟩
     . cases k with
       | zero =>
         have e:_=j:=aaq h
         subst e
         exact ⟨_,rfl,r.1,r.2.1⟩
       | succ k=>exact i.1 k j (by simpa using h)
     . rcases aab.mp b with z|z
       . rw [z];exact r.2.2
       . exact i.2 x z
 refine Jq (N':=T++f) l hi o v m (by rw [aaf,a.length]) (λ k j h=>?_) q G B (λ y A n=>(K a).2 _ (J y A n)) u
 obtain ⟨x,E,d⟩:=(K a).1 k j h
 exact ⟨x,by rw [aa0 (abX _ _),adY];exact E,d⟩
end
def dR {lo:Int} {n:Nat} {t:TT} {D:am} {Q:Hp->Prop} (c:Nat->aB->St->Hp->Prop) (h0:c 0 [] U H) (q:∀ i acc U H,i<n->c i acc U H->g (.int (lo+i)) U H λ a j=>t a j λ b h =>
     if b=true then te a h λ y f=>f D=some (.lst acc)/\acc.length<sizeLine/\c (i+1) (acc++[y]) a (upd f D (.lst (acc++[y]))) else c (i+1) acc a h) (o:∀ acc U H,c n acc U H->Q H) :
   ∃ W:Nat->Nat->aB->St->Hp->Prop,(∃ m,W 0 m [] U H)/\∀ i m acc d H',W i m acc d H'->((Iq lo n).stop i H'/\Q H') \/
     ((Iq lo n).go i H'/\∃ N:aB->St->Hp->Prop,(∀ G a h,N G a h->∃ m',m'<m/\W (i+1) m' G a h)/\∀ x l,(Iq lo n).HC i H' x l->g x d l λ a j=>t a j λ b h =>
       if b=true then te a h λ y f=>f D=some (.lst acc)/\acc.length<sizeLine/\N (acc++[y]) a (upd f D (.lst (acc++[y]))) else N acc a h):=by
 refine ⟨λ i m acc U H=>m=n - i/\i<=n/\c i acc U H,⟨n,by simp,aaZ _,h0⟩,?_⟩
 rintro i m acc U H ⟨rfl,hi,p⟩
 by_cases k:i<n
 .
  refine .inr ⟨k,c (i+1),λ G d H' r=>⟨n - (i+1),by lia,rfl,k,r⟩,λ x H' y=>?_⟩
  obtain ⟨e,y⟩:=y
  subst e y
  exact q i acc U _ k p
 . have e:i=n:=by lia
   subst e
   exact .inl ⟨aak _,o acc U H p⟩
def cR {K:aE} {a:am} {xs:aB} {t:TT} {D:am} {Q:Hp->Prop} (d:Nat->aB->St->Hp->Prop) (h0:d 0 [] U H) (r:∀ i acc U H,i<=xs.length->d i acc U H->aX K H a xs) (s:∀ i x acc U H,xs[i]?=some x->d i acc U H->g x U H λ c k=>t c k λ b h =>
     if b=true then te c h λ y j=>j D=some (.lst acc)/\acc.length<sizeLine/\d (i+1) (acc++[y]) c (upd j D (.lst (acc++[y]))) else d (i+1) acc c h) (o:∀ acc U H,d xs.length acc U H->Q H) :
   ∃ W:Nat->Nat->aB->St->Hp->Prop,(∃ m,W 0 m [] U H)/\∀ i m acc f H',W i m acc f H'->((Kg K a).stop i H'/\Q H') \/
     ((Kg K a).go i H'/\∃ N:aB->St->Hp->Prop,(∀ G c h,N G c h->∃ m',m'<m/\W (i+1) m' G c h)/\∀ x l,(Kg K a).HC i H' x l->g x f l λ c k=>t c k λ b h =>
       if b=true then te c h λ y j=>j D=some (.lst acc)/\acc.length<sizeLine/\N (acc++[y]) c (upd j D (.lst (acc++[y]))) else N acc c h):=by
 refine ⟨λ i m acc U H=>m=xs.length - i/\i<=xs.length/\d i acc U H,⟨xs.length,by simp,aaZ _,h0⟩,?_⟩
 rintro i m acc U H ⟨rfl,hi,p⟩
 have q:=r i acc U H hi p
 by_cases n:i<xs.length
 .
  refine .inr ⟨⟨xs,xs[i],q,by simp [n]⟩,d (i+1),λ G f H' u=>⟨xs.length - (i+1),by lia,rfl,n,u⟩,λ x H' y=>?_⟩
  obtain ⟨e,y⟩:=y
  subst e
  exact s i x acc U _ (y xs q) p
 . have e:i=xs.length:=by lia
   subst e
   exact .inl ⟨⟨xs,q,aak _⟩,o acc U H p⟩
section
variable {X:Cx}
inductive IP (x:V) (vs:aB) (H:Hp) (Q:VK):Prop|mk (i:Int) (_:x = .int i) (_:vs=[]) (_:∀ b:Int,b=((Builtin.Int.intBits i:Nat):Int)->Q (.int b) H)
def Dv:Wn X "int.bit_length" IP:=by
 intro p s U H x V v u Q I R r h
 obtain ⟨i,rfl,rfl,q⟩:=h
 obtain ⟨t,rfl⟩:=R
 obtain rfl:=Vals.zero r
 exact call_int_bit_length ⟨.int _,H,I.tok _,⟨_,rfl⟩,q _ rfl⟩
def EH (a b:Nat):Builtin.bitOr (a:Int) (b:Int)=((a ||| b:Nat):Int):=by
 have d:decide (0<=Builtin.bitNot (a:Int))=false:=aap (by unfold Builtin.bitNot;lia)
 have D:decide (0<=Builtin.bitNot (b:Int))=false:=aap (by unfold Builtin.bitNot;lia)
 have n:(Builtin.bitNot (Builtin.bitNot (a:Int))).toNat=a:=by unfold Builtin.bitNot;lia
 have N:(Builtin.bitNot (Builtin.bitNot (b:Int))).toNat=b:=by unfold Builtin.bitNot;lia
 unfold Builtin.bitOr Builtin.bitAnd
 rw [d,D]
 dsimp only
 rw [n,N]
 unfold Builtin.bitNot
 lia
def oH (a b:Nat):Builtin.bitAnd (a:Int) (b:Int)=((a &&& b:Nat):Int):=by simp [Builtin.bitAnd]
end
def aq (k:Nat):V:=.int (k:Int)
inductive zV (vs:aB) (H:Hp) (Q:VK) (_E:XK):Prop|mk (n r:Nat) (_:vs=[aq n,aq r]) (_:Q (.bl (n.testBit r)) H)
inductive xZ (vs:aB) (H:Hp) (Q:VK) (_E:XK):Prop|mk (n r:Nat) (_:vs=[aq n,aq r]) (_:r<=1000) (_:Q (aq (n ||| 2 ^ r)) H)
inductive BP (vs:aB) (H:Hp) (Q:VK) (_E:XK):Prop|mk (n:Nat) (_:vs=[aq n]) (_:n<2 ^ 61) (_:∀ p H',H p=none->aG H H'->H' p=some (.lst ((Bit.rooms n).map aq))->Q (.ref p) H')
inductive AY (vs:aB) (H:Hp) (Q:VK) (_E:XK):Prop|mk (n:Nat) (_:vs=[aq n]) (_:n<2 ^ 61) (_:(Bit.rooms n).length<=8) (_:∀ p H',H p=none->aG H H'->H' p=some (.lst ((Bit.parts (Bit.rooms n)).map aq))->Q (.ref p) H')
def we (n:Nat):(Bit.rooms n).length<=61:=by
 have:=aa7 n.testBit (List.range 61)
 rw [aam] at this
 exact this
def IS (n r:Nat) {s m:Int} (es:s=(n:Int) / 2 ^ ((r:Int)).toNat) (b:m=s % 2):decide (V.int m=V.int 1)=n.testBit r:=by
 rw [Nat.testBit_eq_decide_div_mod_eq]
 have e:s=((n / 2 ^ r:Nat):Int):=by
   rw [es,aaV]
   have:((2:Int) ^ r)=((2 ^ r:Nat):Int):=by rw [Int.natCast_pow];rfl
   rw [this,<- Int.natCast_ediv]
 have E:m=((n / 2 ^ r % 2:Nat):Int):=by rw [b,e];exact (Int.natCast_emod _ _).symm
 have a:(V.int m=V.int 1)↔(n / 2 ^ r % 2=1):=by rw [fD,E];lia
 exact ace.mpr a
def AW (l:aS) (r:Nat):Bit.parts (l++[r])=Bit.parts l++(Bit.parts l).map (· ||| 2 ^ r):=by
 unfold Bit.parts;rw [abI];rfl
def Ij (n i:Nat):Bit.Ok (Bit.parts ((Bit.rooms n).take i)) ((Bit.rooms n).take i):=by
 have:=Bit.CB ((Bit.rooms n).take i) [] [0] Bit.LQ (by rw [ada];exact (Bit.pK n).sublist (List.take_sublist _ _))
 rw [ada] at this
 exact this
def bS {a:Type} {l:List a} {i:Nat} {x:a} (h:l[i]?=some x):l.take (i+1)=l.take i++[x]:=by
 rw [abH,h];rfl
def BK {a:Type} {xs:List a} {v:a} (h:xs[xs.length - 1]?=some v):oh xs (-1)=some v:=by
 have H:xs.length - 1<xs.length:=(Br.mp h).1
 have e:EU xs.length (-1)=some (xs.length - 1):=by
   unfold EU
   rw [aax (by decide),aau (by lia)]
   congr 1
   lia
 unfold oh
 rw [e];exact h
def dH {l:aS} {i:Nat} {x:V} (h:(l.map aq)[i]?=some x):∃ k,l[i]?=some k/\x=aq k:=by
 rw [Zj] at h
 cases e:l[i]? with
 | none=>rw [e] at h;cases h
 | some k=>rw [e] at h;exact ⟨k,rfl,(aaq h).symm⟩
def Cx.held (X:Cx) (e:am) (o:Obj):Cx:={ X with A:=X.A.mark (some (.ref e)),calm:=false,pn:=X.pn++[(e,o)],xe:=λ Z Z=>False }
open PySem.Builtin PySem.Builtin.ObjectAttr
open PySem.Builtin PySem.Builtin.ObjectAttr
@[elab_as_elim] theorem dP {α:Type} {motive:List α->Prop} {n:Nat} {us:List α} (h:us.length=n+1) (k:∀ a t,t.length=n->motive (a::t)):motive us:=by
 cases us with
 | nil=>cases h
 | cons a t=>exact k a t (ad9 h)
def aag {b:Type} {n:Nat} {l:List b} (h:l.length=n+1):∃ a t,l=a::t/\t.length=n:=dP h λ a t h=>⟨a,t,rfl,h⟩
section
variable {X:Cx} {x:Str} {pos:Pos}
def fR {i:Int} (a:Gl X x) (h:∃ t,X.mg x=some (.int i t)) (H:autoParam (AJ x) zb_._auto_1):PE X (.Name x pos) (tC (.int i)):=by
 obtain ⟨t,h⟩:=h
 exact hV a h ⟨t,rfl⟩ H
end
def AR (K:aE) (a:am) (xs:aB):Prop :=
 ∃ (o:Obj) (b:Array aA) (n:Nat),K.lookup a=some o/\o.cls = .type "tuple"/\o.data = .seq b n/\b.size<=sizeLine/\Vals xs b.toList
def AR.at {K:aE} {a:am} {xs:aB} (h:AR K a xs) (H:Hp):bY K H a xs:=.inr h
def KE {K:aE} {a:am} {d:Option am} {n:Nat} {sl:Array (jC)} {i j:Int} {t u:Tok} (h:K.lookup a=some ⟨.type "tuple",d,.seq #[.int i t,.int j u] n,sl⟩):AR K a [.int i,.int j] :=
 ⟨_,_,_,h,rfl,rfl,by show 2<=sizeLine;decide,.cons ⟨t,rfl⟩ (.cons ⟨u,rfl⟩ .nil)⟩
def Ex (K:aE) (T:am) (I:aB):Prop:=∃ o n i,K.lookup T=some o/\o.data = .seq i n/\Vals I i.toList
structure uf (K:aE) (x qual:Str) (st:Stmt) (dV:aA) (f:am) (fd:FuncData):Prop where
 ex:∃ (oc:aA) (od:Option am) (kV doc pm:aA) (an:Option am) (bQ ct:aA) (yO:Array (jC)),
   fd=W.fnOf x qual (dA st) (ce st) (au st) dV kV doc pm an bQ ct/\K.lookup f=some ⟨oc,od,.func fd,yO⟩/\W.codeIn K bQ qual=true
 kp:W.keepIn K (.ref f)=true
def Cr {K:aE} {x q:Str} {st:Stmt} {f:am} {o:aA} {O a:Option am} {y:Array (jC)} {D kV d p b ct:aA} (l:K.lookup f=some ⟨o,O,.func (W.fnOf x q (dA st) (ce st) (au st) D kV d p a b ct),y⟩) (c:W.codeIn K b q=true) (k:W.keepIn K (.ref f)=true):uf K x q st D f (W.fnOf x q (dA st) (ce st) (au st) D kV d p a b ct):=⟨⟨o,O,kV,d,p,a,b,ct,y,rfl,l,c⟩,k⟩
section
variable {P:bD} {w:bz} {K:aE} {mg:dX} {base:bE} {x qual m:Str} {st:Stmt} {dV:aA} {f C:am} {fd:FuncData} {N ps:de} {k:Nat} {sp:Sp} {ds:bM}
def uf.ok (F:uf K x qual st dV f fd) (S:aC N ps (au st)) (len:∀ vs H Q E,sp vs H Q E->vs.length=ps.length) (i:∀ (b:aA) (A:Around) (outer:List Env) (s:Shared) (H:Hp) (vs:aB) (Q:VK) (E:XK),dg k (A.deeper (envOfC qual (au st) s.heap.objs.size f b))->sp vs H Q E ->
     ∃ t,vO (qv yJ P w K mg base N qual (au st) f b A outer s H E).EX (ce st) t/\t { nx:=λ Z H'=>Q .cC H',rt:=Q } (start N vs) H):lZ P w K mg base yJ (k+1) f fd ps sp:=by
 obtain ⟨o,O,kV,d,p,c,b,ct,Y,rfl,l,y⟩:=F.ex
 refine J1 l y S len λ A outer s H vs Q E a J=>?_
 obtain ⟨t,h,q⟩:=i b A outer s H vs Q E a J
 exact ⟨t,h.EX,q⟩
def uf.binds {T:am} {o:Obj} {n:Nat} {i:Array aA} (F:uf K x qual st (.ref T) f fd) (e:K.lookup T=some o) (j:o.data = .seq i n) (h:∀ (kV d p:aA) (a:Option am) (b ct:aA) (us:bM),(us++ds).length=ps.length->∃ k,bindArgs (W.fnOf x qual (dA st) (ce st) (au st) (.ref T) kV d p a b ct) ⟨us,[]⟩=seqItems? (.ref T) >>= k/\k (some i)=pure (ps.zip (us++ds))):Binds K fd ps ds:=by
 obtain ⟨O,m,kV,d,p,a,b,ct,y,rfl,l,Y⟩:=F.ex
 intro s us X g
 obtain ⟨k,H,c⟩:=h kV d p a b ct us g
 exact W.binds_K X rfl e j H c
def uf.Mp (F:uf K x qual st .none f fd) (h:∀ (kV d p:aA) (a:Option am) (b ct:aA) (us:bM),us.length=ps.length->bindArgs (W.fnOf x qual (dA st) (ce st) (au st) .none kV d p a b ct) ⟨us,[]⟩=pure (ps.zip us)):Binds K fd ps []:=by
 obtain ⟨o,O,kV,d,p,a,b,ct,y,rfl,l,Y⟩:=F.ex
 exact .all (h kV d p a b ct)
def ga (K:aE) (C:am) (m q:Str) (st:Stmt) (d:aA):Prop:=∃ f fd,Meth K C m f/\uf K m q st d f fd
def hC (P:bD) (w:bz) (K:aE) (M:dX) (b:bE) (C:am) (m:Str) (k:Nat) (p:de) (d:bM) (s:Sp):Prop :=
 ∃ f fd,Meth K C m f/\Binds K fd p d/\lZ P w K M b yJ k f fd p s
def ga.Io (h:ga K C m qual st .none) (S:aC N ps (au st)) (len:∀ vs H Q E,sp vs H Q E->vs.length=ps.length) (c:∀ (kV d p:aA) (a:Option am) (b ct:aA) (us:bM),us.length=ps.length->bindArgs (W.fnOf m qual (dA st) (ce st) (au st) .none kV d p a b ct) ⟨us,[]⟩=pure (ps.zip us)) (i:∀ (f:am) (b:aA) (A:Around) (outer:List Env) (s:Shared) (H:Hp) (vs:aB) (Q:VK) (E:XK),dg k (A.deeper (envOfC qual (au st) s.heap.objs.size f b))->sp vs H Q E ->
     ∃ t,vO (qv yJ P w K mg base N qual (au st) f b A outer s H E).EX (ce st) t/\t { nx:=λ Z H'=>Q .cC H',rt:=Q } (start N vs) H):hC P w K mg base C m (k+1) ps [] sp:=by
 obtain ⟨f,fd,M,F⟩:=h
 exact ⟨f,fd,M,F.Mp c,F.ok S len λ b A outer s H vs Q E e g=>i f b A outer s H vs Q E e g⟩
structure DN (K:aE) (C:am):Prop where
 makes:W.makesIn K C=true
 kp:W.keepIn K (.ref C)=true
def Gy (K:aE) (m:dX) (x:Str) (st:Stmt) (d:aA):Prop:=∃ f fd,m x=some (.ref f)/\uf K x x st d f fd
def Of (P:bD) (w:bz) (K:aE) (m:dX) (b:bE) (x:Str) (k:Nat) (p:de) (d:bM) (s:Sp):Prop :=
 ∃ f fd,m x=some (.ref f)/\W.keepIn K (.ref f)=true/\Binds K fd p d/\lZ P w K m b yJ k f fd p s
end
section
variable {X:Cx} {C:am} {m x:Str} {p pos apos:Pos} {e o:Expr} {es:List Expr} {ta:TE} {t:TA} {k:Nat} {ps:de} {sp:Sp} {ds:bM} {iL:aB}
def aW {pl:Sem Bool} (b:PE X o ta) (c:zm X.K C) (D:hC X.prog X.w X.K X.mg X.base C m k ps ds sp) (a:Vals iL ds) (i:dg k X.A) (h:PA X (e::es) t) (J:autoParam (Ch X e es) za_._auto_1) (g:autoParam (Fb X es pos) za_._auto_1) (j:autoParam (eval (.Call (.Attribute o m apos) (e::es) [] pos) X.env=(do
     let O <- eval o X.env
     standAt apos.atName
     let (f,first) <- holding [O] (getMethod O m pl)
     callWith pos f first (backTo pos (starEach (e::es) X.env)) (backToKw pos (keywordEach [] X.env)))) za_._auto_1) :
   PE X (.Call (.Attribute o m apos) (e::es) [] pos) (Ao C m sp iL E0 ta t):=by
 obtain ⟨f,l,d,H,F⟩:=D
 exact IJ (pl:=pl) b c d F i H a zT h J g j
def fH {pl:Sem Bool} (a:PE X o ta) (c:zm X.K C) (D:hC X.prog X.w X.K X.mg X.base C m k ps ds sp) (H:Vals iL ds) (d:dg k X.A) (e:autoParam (eval (.Call (.Attribute o m apos) [] [] pos) X.env=(do
     let O <- eval o X.env
     standAt apos.atName
     let (f,first) <- holding [O] (getMethod O m pl)
     callWith pos f first (backTo pos (starEach [] X.env)) (backToKw pos (keywordEach [] X.env)))) za_._auto_1) :
   PE X (.Call (.Attribute o m apos) [] [] pos) (Ao C m sp iL E0 ta LD):=by
 obtain ⟨f,g,b,h,F⟩:=D
 exact G3 (pl:=pl) a c b F d h H zT e
def oR (M:DN X.K C) (D:hC X.prog X.w X.K X.mg X.base C "__init__" k ps ds sp) (b:Vals iL ds) (j:dg (k+1) X.A) (i:X.mg x=some (.ref C)) (h:PA X (e::es) t) (d:autoParam (Gl X x) za_._auto_1) (a:autoParam (AJ x) zb_._auto_1) (c:autoParam (Ch X e es) za_._auto_1) (g:autoParam (Fb X es pos) za_._auto_1):PE X (.Call (.Name x p) (e::es) [] pos) (GR C sp iL E0 t):=by
 obtain ⟨f,l,m,H,F⟩:=D
 exact Jy ⟨M.makes,m.at_,m.fn,M.kp⟩ F j d i H b zT h a c g
def Eo (D:Of X.prog X.w X.K X.mg X.base x k ps ds sp) (b:Vals iL ds) (l:dg k X.A) (h:PA X (e::es) t) (d:autoParam (Gl X x) za_._auto_1) (a:autoParam (AJ x) zb_._auto_1) (c:autoParam (Ch X e es) za_._auto_1) (g:autoParam (Fb X es pos) za_._auto_1):PE X (.Call (.Name x p) (e::es) [] pos) (CY sp iL E0 t):=by
 obtain ⟨f,m,j,i,H,F⟩:=D
 exact Cw F l d j i H b zT h a c g
end
section
variable {X:Cx} {pins:List (am×Obj)} {U:St} {H:Hp} {s:Shared} {h':bE} {ch:bJ}
def Inv.yb {a:am} {t':Nat} (I:Inv X pins U H s) (k:∀ b u,b∉ch->s.heap.get? b=some u->h'.get? b=some u) (e:∀ b∈ch,vw X pins H b) (g:s.heap.objs.size<=a) (N:dC X.prog X.w (upd H a o) h' a o):Inv X pins U (upd H a o) { s with heap:=h',toks:=t' }:=by
 have f:H a=none:=I.dF.fresh g
 refine I.step (g':=s.gens) (d':=s.drawn) (ch:=ch) (λ b d=>⟨(e b d).2.2.2.1,(e b d).2.1,(e b d).2.2.2.2.1,(e b d).2.2.2.2.2⟩) (λ b u Z Z h q Z=>k b u h q) (λ b u Z Z h q Z=>⟨u.slots,k b u h q⟩)
   (λ b u Z q n=>by rw [aw (aaO (aaw (aav q) g))];exact n) (λ b u h q=>⟨u,k b u h q⟩) (λ b x q=>by rw [aw (az q f)];exact q) (λ b u x q=>by rw [aw (az q f)];exact q)
   (λ b p q=>⟨#[],by rw [aw (az q f),q];simp⟩) (λ m j=>?_) (λ b u q=>?_) I.bare
 . obtain ⟨O,i,E,l,r⟩:=j
   exact ⟨O,i,E,k _ O (λ z=>(e _ z).2.1 rfl) l,r⟩
 .
  by_cases d:b=a
  . subst d
    rw [ag] at q
    cases q
    exact N
  .
   rw [aw d] at q
   refine (I.dF b u q).eY (λ c v h z=>k c v (λ y=>?_) z) (λ c z=>by rw [aw (az z f)];exact z) λ c x z=>by rw [aw (az z f)];exact z
   have n:=(e c y).1
   rcases h with rfl|h
   . rw [n] at q;cases q
   . rw [n] at h;cases h
def Inv.xz {t':Nat} (I:Inv X pins U H s) (k:∀ b u,b∉ch->s.heap.get? b=some u->h'.get? b=some u) (a:∀ b∈ch,vw X pins H b):Inv X pins U H { s with heap:=h',toks:=t' }:=by
 refine I.step (g':=s.gens) (d':=s.drawn) (ch:=ch) (λ b d=>⟨(a b d).2.2.2.1,(a b d).2.1,(a b d).2.2.2.2.1,(a b d).2.2.2.2.2⟩) (λ b u Z Z h q Z=>k b u h q) (λ b u Z Z h q Z=>⟨u.slots,k b u h q⟩)
   (λ Z Z Z Z n=>n) (λ b u h q=>⟨u,k b u h q⟩) (λ Z Z q=>q) (λ Z Z Z q=>q) (λ b p q=>⟨#[],by rw [q];simp⟩) (λ m f=>?_) (λ b u q=>?_) I.bare
 . obtain ⟨o,E,e,g,r⟩:=f
   exact ⟨o,E,e,k _ o (λ z=>(a _ z).2.1 rfl) g,r⟩
 .
  refine (I.dF b u q).eY (λ c v h z=>k c v (λ y=>?_) z) (λ Z z=>z) λ Z Z z=>z
  have n:=(a c y).1
  rcases h with rfl|h
  . rw [n] at q;cases q
  . rw [n] at h;cases h
end
def NI (K:aE) (a b:am):It :=
 ⟨λ i H=>∃ X Y x y,aX K H a X/\aX K H b Y/\X[i]?=some x/\Y[i]?=some y,
  λ i H v H'=>∃ p x y,H p=none/\v = .ref p/\H'=upd H p (.tup [x,y])/\(∀ X,aX K H a X->X[i]?=some x)/\∀ Y,aX K H b Y->Y[i]?=some y,
  λ i H=>∃ X Y,aX K H a X/\aX K H b Y/\(X.length<=i\/Y.length<=i)⟩
def lN (z TI TO I c a b:am) (i:Nat) (h:bE):Prop:=IsZip h z TI TO .none/\IsPair h TI (.ref I) (.ref c)/\(∃ u v,IsPair h TO u v)/\h.IsListIter I a i/\h.IsListIter c b i
def lN.obj {z TI TO I d a b:am} {i:Nat} {h:bE} (st:lN z TI TO I d a b i h):∀ c∈[z,TI,TO,I,d],∃ o,h.get? c=some o/\∀ v,o.data ≠ .cell v:=λ c H=>by
 obtain ⟨g,t,⟨u,v,G⟩,⟨O,E,Z,D⟩,⟨j,f,Z,e⟩⟩:=st
 simp only [aab,aae,aaT] at H
 rcases H with rfl|rfl|rfl|rfl|rfl
 . exact ⟨_,g,λ v q=>by cases q⟩
 . exact ⟨_,t,λ v q=>by cases q⟩
 . exact ⟨_,G,λ v q=>by cases q⟩
 . exact ⟨O,E,λ v q=>by rw [D] at q;cases q⟩
 . exact ⟨j,f,λ v q=>by rw [e] at q;cases q⟩
def Gz {P:bD} {w:bz} {K:aE} {z TI TO f g a b:am} (D:ZipApart z TI TO f g a b) :
   Turn P w K (.Tuple elts x1 o8) (NI K a b) [z,TI,TO,f,g] z (lN z TI TO f g a b) where
 mem:=by simp
 obj:=λ i h S=>S.obj
 keep:=λ i h C S k=>by
   obtain ⟨n,t,⟨u,v,G⟩,l,m⟩:=S
   exact ⟨k z (by simp) _ n,k TI (by simp) _ t,⟨u,v,k TO (by simp) _ G⟩,l.at λ o e=>k f (by simp) o e,m.at λ o e=>k g (by simp) o e⟩
 item:=by
   intro X J O F hc i p s U H E I q S L
   subst J O F
   obtain ⟨xs,ys,x,y,A,T,hx,hy⟩:=L
   obtain ⟨II,B,Q,Lp⟩:=I.list A
   obtain ⟨oG,N,R,Uz⟩:=I.list T
   obtain ⟨u1,M,V⟩:=B.get hx
   obtain ⟨u2,Vt,W⟩:=N.get hy
   have lt:∀ c∈[z,TI,TO,f,g],c<s.heap.objs.size:=λ c Y=>by
     obtain ⟨o,e,Z⟩:=S.obj c Y
     exact aav e
   obtain ⟨n,t,⟨u,v,G⟩,l,m⟩:=S
   refine wpAny_pyNext_zip_item D n t G l m Q.isList R.isList (x:=u1) (y:=u2) (by simpa using M) (by simpa using Vt) λ C z1 z2 z3 z4 z5 z6 r=>?_
   refine ⟨.ref s.heap.objs.size,rfl,wpAny_letOwnedTupleGo_zip (s:={ s with heap:=C }) z1 λ Ry zz j=>?_⟩
   have FV:∀ c o,c∉[z,TI,TO,f,g]->s.heap.get? c=some o->Ry.get? c=some o:=λ c o d e=>by
     simp only [aab,aae,aaT,abL] at d
     exact j.extBut _ _ d.1 (r c o d.1 d.2.2.1 d.2.2.2.1 d.2.2.2.2 e)
   have nz:s.heap.objs.size≠z:=aci (lt z (by simp))
   have n5:IsPair Ry s.heap.objs.size u1 u2:=j.extBut _ _ nz z5
   refine ⟨.ref s.heap.objs.size,upd H s.heap.objs.size (.tup [x,y]),I.yb (t':=s.toks) FV q (aak _) ⟨by show 2<=sizeLine;decide,[u1,u2],.cons V (.cons W .nil),⟨_,n5,rfl,_,rfl⟩⟩,rfl,
     ⟨_,x,y,I.dF.fresh (aak _),rfl,rfl,λ Yz h=>by rw [I.pH h A];exact hx,λ ab h=>by rw [I.pH h T];exact hy⟩,?_,λ c Y=>?_⟩
   . exact ⟨zz,j.extBut _ _ D.TIz (r _ _ D.TIz D.TITO D.TIi1 D.TIi2 t),⟨_,_,j.extBut _ _ D.TOz z2⟩,z3.extBut j.extBut D.i1z,z4.extBut j.extBut D.i2z⟩
   . rw [aw (aaO (lt c Y))]
     exact (q c Y).1
 done:=by
   intro X J O F hc i p s U H E I q S L
   subst J O F
   obtain ⟨xs,ys,A,T,hl⟩:=L
   obtain ⟨II,B,Q,Lp⟩:=I.list A
   obtain ⟨oG,N,R,Uz⟩:=I.list T
   have l1:=B.length
   have l2:=N.length
   obtain ⟨n,t,⟨u,v,G⟩,l,m⟩:=S
   have V2:II.toArray[i]?=none\/oG.toArray[i]?=none:=by
     rcases hl with h|h
     . exact .inl (by simp;lia)
     . exact .inr (by simp;lia)
   refine wpAny_pyNext_zip_end (I.ok.hd hc) D n t G l m Q.isList R.isList V2 λ C r=>⟨rfl,I.xz (ch:=[z,TI,TO,f,g]) (t':=s.toks) (λ c o d e=>?_) q⟩
   simp only [aab,aae,aaT,abL] at d
   exact r c o d.1 d.2.2.1 d.2.2.2.1 d.2.2.2.2 e
 self:=λ Z Z Z Z Z S h=>adU S.1 h
def G8:bootBuiltins "zip" = some (.type "zip"):=by decide +kernel
section
variable {X:Cx}
def SY (K:aE) (t:TA):TI:=λ U H R=>t U H λ v h=>∃ a b,v=[.ref a,.ref b]/\(∃ x,aX K h a x)/\(∃ y,aX K h b y)/\R (NI K a b) h
def Mh {a b:Expr} {t:TA} {p g:Pos} (w:Gl X "zip") (x:X.mg "zip" = none) (o:PA X [a,b] t) (y:autoParam (starEach [a,b] X.env=[(false,eval a X.env),(false,eval b X.env)]) za_._auto_1) (j:autoParam (starEach [b] X.env=[(false,eval b X.env)]) za_._auto_1):PI X (.Tuple elts x1 o8) (.Call (.Name "zip" p) [a,b] [] g) (SY X.K t):=by
 intro f s U H R I h
 refine Call_ (jv I w x G8 (abc (c7 (o g f s U H _ I h) λ us S ⟨vs,n,i,E,Q⟩=>?_) (by rw [y,j]) (by rw [j];rfl)))
 obtain ⟨a,b,e,⟨xs,A⟩,⟨ys,T⟩,q⟩:=Q
 subst e
 obtain ⟨u,v,rfl,r,D⟩:=vals2 E
 obtain rfl:u=Value.ref a:=r
 obtain rfl:v=Value.ref b:=D
 obtain ⟨N,W,l,O⟩:=i.list A
 obtain ⟨oG,V,m,Y⟩:=i.list T
 refine call_zip_2 l.isList m.isList λ h' z F G J M z6 B=>?_
 have L:a<S.heap.objs.size:=by obtain ⟨Z,e,Z⟩:=l.isList;exact aav e
 have C:b<S.heap.objs.size:=by obtain ⟨Z,e,Z⟩:=m.isList;exact aav e
 refine adU z ?_
 refine ⟨S.heap.objs.size+4,[S.heap.objs.size+4,S.heap.objs.size+2,S.heap.objs.size+3,S.heap.objs.size,S.heap.objs.size+1],_,_,n,rfl,i.kept (t':=S.toks) B,Gz (zipApart_new L C),⟨z,F,⟨_,_,G⟩,J,M⟩,λ c k=>?_,q⟩
 have d:S.heap.objs.size<=c:=by
   simp only [aab,aae,aaT] at k
   rcases k with rfl|rfl|rfl|rfl|rfl
   . exact abX _ _
   . exact abX _ _
   . exact abX _ _
   . exact aak _
   . exact abX _ _
 exact i.zZ d (i.dF.fresh d)
end
def G1 {K:aE} {a b:am} {xs ys:aB} {t:TT} {D:am} {Q:Hp->Prop} (d:Nat->aB->St->Hp->Prop) (h0:d 0 [] U H) (z:∀ i acc U H,i<=min xs.length ys.length->d i acc U H->aX K H a xs/\aX K H b ys) (B:∀ i x y p acc U H,xs[i]?=some x->ys[i]?=some y->H p=none->d i acc U H->g (.ref p) U (upd H p (.tup [x,y])) λ c l=>t c l λ k h =>
     if k=true then te c h λ v j=>j D=some (.lst acc)/\acc.length<sizeLine/\d (i+1) (acc++[v]) c (upd j D (.lst (acc++[v]))) else d (i+1) acc c h) (w:∀ acc U H,d (min xs.length ys.length) acc U H->Q H) :
   ∃ W:Nat->Nat->aB->St->Hp->Prop,(∃ m,W 0 m [] U H)/\∀ i m acc f H',W i m acc f H'->((NI K a b).stop i H'/\Q H') \/
     ((NI K a b).go i H'/\∃ N:aB->St->Hp->Prop,(∀ G c h,N G c h->∃ m',m'<m/\W (i+1) m' G c h)/\∀ x o,(NI K a b).HC i H' x o->g x f o λ c l=>t c l λ k h =>
       if k=true then te c h λ y j=>j D=some (.lst acc)/\acc.length<sizeLine/\N (acc++[y]) c (upd j D (.lst (acc++[y]))) else N acc c h):=by
 refine ⟨λ i m acc U H=>m=min xs.length ys.length - i/\i<=min xs.length ys.length/\d i acc U H,⟨_,rfl,aaZ _,h0⟩,?_⟩
 rintro i m acc U H ⟨rfl,hi,p⟩
 obtain ⟨q,n⟩:=z i acc U H hi p
 by_cases C:i<min xs.length ys.length
 .
  have s:i<xs.length:=by lia
  have u:i<ys.length:=by lia
  refine .inr ⟨⟨xs,ys,xs[i],ys[i],q,n,by simp [s],by simp [u]⟩,d (i+1),λ G f H' F=>⟨min xs.length ys.length - (i+1),by lia,rfl,C,F⟩,λ v H' y=>?_⟩
  obtain ⟨I,x,y,A,rfl,rfl,E,r⟩:=y
  exact B i x y I acc U H (E xs q) (r ys n) A p
 . have e:i=min xs.length ys.length:=by lia
   subst e
   exact .inl ⟨⟨xs,ys,q,n,by lia⟩,w acc U H p⟩
mutual
def Dn (K:aE) (H:Hp):PyData->V->Prop
 | .none,v=>v = .cC
 | .bool b,v=>v = .bl b
 | .int i,v=>v = .int i
 | .str x,v=>v = .str x
 | .list d,v=>∃ a xs,v = .ref a/\aX K H a xs/\bL K H d xs
 | .tuple d,v=>∃ a xs,v = .ref a/\bY K H a xs/\bL K H d xs
 | .dict _,_=>False
def bL (K:aE) (H:Hp):List PyData->aB->Prop
 | [],xs=>xs=[]
 | d::D,xs=>∃ x r,xs=x::r/\Dn K H d x/\bL K H D r
end
mutual
def eQ:PyData->Bool
 | .list _=>false
 | .dict _=>false
 | .tuple d=>rG d
 | _=>true
def rG:List PyData->Bool
 | []=>true
 | d::D=>eQ d && rG D
end
@[simp] theorem LJ:rG []=true:=rfl
@[simp] theorem An {d:PyData} {ds:List PyData}:rG (d::ds)=(eQ d && rG ds):=rfl
theorem uC:∀ {D:List PyData},rG D=true↔∀ d∈D,eQ d=true
 | []=>⟨λ Z d h=>absurd h aae,λ Z=>rfl⟩
 | d::D=>by
   rw [An,aaY,uC]
   constructor
   . rintro ⟨a,b⟩ e H
     rcases aab.mp H with rfl|H
     . exact a
     . exact b e H
   . exact λ h=>⟨h d aar,λ e H=>h e (aaj _ H)⟩
def lX {D:List PyData}:eQ (.tuple D)=true↔∀ d∈D,eQ d=true:=uC
def aT (K:aE) (H h:Hp):Prop:=∀ a x,bY K H a x->bY K h a x
def aT.refl {K:aE} (H:Hp):aT K H H:=λ Z Z h=>h
def aT.trans {K:aE} {H1 H2:Hp} (a:aT K H H1) (b:aT K H1 H2):aT K H H2:=λ c x h=>b c x (a c x h)
def aG.ts {K:aE} (s:aG H H'):aT K H H':=λ Z Z h=>s.tup h
def Ai:HO->Bool
 | .tup _=>false
 | .AL _ _=>false
 | _=>true
def bV {K:aE} {a:am} {O:HO} (h:H a=some o) (n:Ai o=true):aT K H (upd H a O):=λ b x q=>by
 have N:∀ u,H b=some u->Ai u=false->b≠a:=λ u e z y=>by
   subst y
   rw [h] at e
   cases e
   rw [n] at z
   cases z
 rcases q with (q|⟨c,q⟩)|q
 . exact .inl (.inl (by rw [aw (N _ q rfl)];exact q))
 . exact .inl (.inr ⟨c,by rw [aw (N _ q rfl)];exact q⟩)
 . exact .inr q
section
variable {K:aE} {H H':Hp}
mutual
theorem Dn.same (s:aG H H'):∀ (d:PyData) {v:V},Dn K H d v->Dn K H' d v
 | .none,_,h=>by rw [Dn] at h |-;exact h
 | .bool _,_,h=>by rw [Dn] at h |-;exact h
 | .int _,_,h=>by rw [Dn] at h |-;exact h
 | .str _,_,h=>by rw [Dn] at h |-;exact h
 | .list D,_,h=>by
   rw [Dn] at h |-
   obtain ⟨a,xs,e,q,r⟩:=h
   exact ⟨a,xs,e,s.seq q,bL.same s D r⟩
 | .tuple D,_,h=>by
   rw [Dn] at h |-
   obtain ⟨a,xs,e,q,r⟩:=h
   exact ⟨a,xs,e,s.tup q,bL.same s D r⟩
 | .dict _,_,h=>by rw [Dn] at h;exact h.elim
theorem bL.same (s:aG H H'):∀ (D:List PyData) {xs:aB},bL K H D xs->bL K H' D xs
 | [],_,h=>by rw [bL] at h |-;exact h
 | d::D,_,h=>by
   rw [bL] at h |-
   obtain ⟨x,r,e,q,t⟩:=h
   exact ⟨x,r,e,Dn.same s d q,bL.same s D t⟩
end
mutual
theorem Dn.ts (s:aT K H H'):∀ (d:PyData) {v:V},eQ d=true->Dn K H d v->Dn K H' d v
 | .none,_,_,h=>by rw [Dn] at h |-;exact h
 | .bool _,_,_,h=>by rw [Dn] at h |-;exact h
 | .int _,_,_,h=>by rw [Dn] at h |-;exact h
 | .str _,_,_,h=>by rw [Dn] at h |-;exact h
 | .list D,_,f,_=>by rw [eQ] at f;cases f
 | .tuple D,_,f,h=>by
   rw [Dn] at h |-
   obtain ⟨a,xs,e,q,r⟩:=h
   exact ⟨a,xs,e,s _ _ q,bL.ts s D (lX.mp f) r⟩
 | .dict _,_,_,h=>by rw [Dn] at h;exact h.elim
theorem bL.ts (s:aT K H H'):∀ (D:List PyData) {xs:aB},(∀ d∈D,eQ d=true)->bL K H D xs->bL K H' D xs
 | [],_,_,h=>by rw [bL] at h |-;exact h
 | d::D,_,f,h=>by
   rw [bL] at h |-
   obtain ⟨x,r,e,q,t⟩:=h
   exact ⟨x,r,e,Dn.ts s d (f d aar) q,bL.ts s D (λ d a=>f d (aaj _ a)) t⟩
end
theorem bL.length:∀ {D:List PyData} {xs:aB},bL K H D xs->xs.length=D.length
 | [],_,h=>by rw [bL] at h;rw [h];rfl
 | d::D,_,h=>by
   rw [bL] at h
   obtain ⟨x,r,rfl,Z,t⟩:=h
   rw [aaW,aaW,bL.length t]
theorem bL.get:∀ {D:List PyData} {xs:aB} {i:Nat} {d:PyData},bL K H D xs->D[i]?=some d->∃ x,xs[i]?=some x/\Dn K H d x
 | [],_,_,_,_,e=>by simp at e
 | _::_,_,0,_,h,e=>by
   rw [bL] at h
   obtain ⟨x,r,rfl,q,t⟩:=h
   simp at e
   subst e
   exact ⟨x,rfl,q⟩
 | _::D,_,i+1,d,h,e=>by
   rw [bL] at h
   obtain ⟨x,r,rfl,q,t⟩:=h
   obtain ⟨y,E,a⟩:=bL.get (i:=i) t (by simpa using e)
   exact ⟨y,by simpa using E,a⟩
theorem bL.snoc:∀ {D:List PyData} {xs:aB} {d:PyData} {x:V},bL K H D xs->Dn K H d x->bL K H (D++[d]) (xs++[x])
 | [],_,d,x,h,q=>by
   rw [bL] at h
   subst h
   exact ⟨x,[],rfl,q,rfl⟩
 | _::D,_,d,x,h,q=>by
   rw [bL] at h
   obtain ⟨y,r,rfl,Q,t⟩:=h
   exact ⟨y,r++[x],rfl,Q,bL.snoc t q⟩
theorem bL.set:∀ {D:List PyData} {xs:aB} {i:Nat} {d:PyData} {x:V},bL K H D xs->Dn K H d x->bL K H (D.set i d) (xs.set i x)
 | [],_,_,_,_,h,_=>by
   rw [bL] at h
   subst h
   exact rfl
 | _::_,_,0,d,x,h,q=>by
   rw [bL] at h
   obtain ⟨y,r,rfl,Q,t⟩:=h
   exact ⟨x,r,rfl,q,t⟩
 | _::D,_,i+1,d,x,h,q=>by
   rw [bL] at h
   obtain ⟨y,r,rfl,Q,t⟩:=h
   exact ⟨y,r.set i x,rfl,Q,bL.set t q⟩
def dS:bL K H [] []:=rfl
def br {d:PyData} {D:List PyData} {x:V} {xs:aB} (a:Dn K H d x) (b:bL K H D xs):bL K H (d::D) (x::xs):=⟨x,xs,rfl,a,b⟩
def nX {i:Int}:Dn K H (.int i) (.int i):=rfl
def K9:Dn K H .none .cC:=rfl
def fX {a:am} {xs:aB} {d:List PyData} (h:bY K H a xs) (r:bL K H d xs):Dn K H (.tuple d) (.ref a):=⟨a,xs,rfl,h,r⟩
def rj {a:am} {xs:aB} {d:List PyData} (h:aX K H a xs) (r:bL K H d xs):Dn K H (.list d) (.ref a):=⟨a,xs,rfl,h,r⟩
abbrev dW (f:Int×Int):PyData:=.tuple [.int f.1,.int f.2]
def jl {p:am} {f:Int×Int} (h:bY K H p [.int f.1,.int f.2]):Dn K H (dW f) (.ref p):=fX h (br nX (br nX dS))
def Dn.fr {v:V} {f:Int×Int} (h:Dn K H (dW f) v):∃ p,v = .ref p/\bY K H p [.int f.1,.int f.2]:=by
 obtain ⟨p,X,e,q,x,r,c,E,y,R,d,a,b⟩:=h
 have E:x=V.int f.1:=E
 have a:y=V.int f.2:=a
 have b:R=[]:=b
 subst c E d a b
 exact ⟨p,e,q⟩
def iP (f:Int×Int):eQ (dW f)=true:=by simp [dW,eQ]
end
section
variable {X:Cx} {pins:List (am×Obj)} {U:St} {H:Hp} {s:Shared}
mutual
theorem Inv.reads (I:Inv X pins U H s):∀ (d:PyData) {v:V} {u:aA},Dn X.K H d v->RelV v u->∃ as,Reads s.heap u d as
 | .none,_,_,h,r=>by
   have h:_=V.cC:=h
   subst h
   obtain rfl:=(show _=Value.none from r)
   exact ⟨_,.none⟩
 | .bool b,_,_,h,r=>by
   have h:_=V.bl b:=h
   subst h
   obtain rfl:=(show _=Value.bool b from r)
   exact ⟨_,.bool b⟩
 | .int i,_,_,h,r=>by
   have h:_=V.int i:=h
   subst h
   obtain ⟨t,rfl⟩:=r
   exact ⟨_,.int i t⟩
 | .str x,_,_,h,r=>by
   have h:_=V.str x:=h
   subst h
   obtain ⟨t,rfl⟩:=r
   exact ⟨_,.str x t⟩
 | .list D,_,_,h,r=>by
   obtain ⟨a,j,rfl,q,t⟩:=h
   obtain rfl:=(show _=Value.ref a from r)
   obtain ⟨B,g,p,Z⟩:=I.list q
   obtain ⟨o,f,c,n,e⟩:=p.isList
   obtain ⟨as,R⟩:=Inv.readsAll I D t g
   exact ⟨_,.list f c e (by simpa using R)⟩
 | .tuple D,_,_,h,r=>by
   obtain ⟨a,j,rfl,q,t⟩:=h
   obtain rfl:=(show _=Value.ref a from r)
   obtain ⟨B,g,p,Z⟩:=I.tuple q
   obtain ⟨o,f,c,n,e⟩:=p
   obtain ⟨as,R⟩:=Inv.readsAll I D t g
   exact ⟨_,.tuple f c e (by simpa using R)⟩
 | .dict _,_,_,h,_=>(show False from h).elim
theorem Inv.readsAll (I:Inv X pins U H s):∀ (D:List PyData) {xs:aB} {us:bM},bL X.K H D xs->Vals xs us->∃ as,ReadsAll s.heap us D as
 | [],_,_,h,r=>by
   have h:_=[]:=h
   subst h
   obtain rfl:=Vals.zero r
   exact ⟨_,.nil⟩
 | d::D,_,_,h,r=>by
   obtain ⟨x,t,rfl,q,Q⟩:=h
   cases r with
   | cons R a =>
     obtain ⟨as,b⟩:=Inv.reads I d q R
     obtain ⟨B,c⟩:=Inv.readsAll I D Q a
     exact ⟨_,.cons b c⟩
end
def wq (l:X.calm=true):iJ X (.builtin "all") (λ xs H Q=>∃ (p:am) (bs:List Bool),xs=[.ref p]/\aX X.K H p (bs.map V.bl)/\Q (.bl (bs.all id)) H):=by
 intro pins s U H xs D Q I r h
 obtain ⟨p,bs,rfl,t,q⟩:=h
 obtain ⟨u,rfl,w⟩:∃ u,D=[u]/\RelV (.ref p) u:=by
   cases r with
   | cons a b=>cases b;exact ⟨_,rfl,a⟩
 obtain rfl:u=Value.ref p:=w
 obtain ⟨B,R,f,Z⟩:=I.list t
 have n:p<s.heap.objs.size:=by obtain ⟨Z,e,Z⟩:=f.isList;exact aav e
 have c:B.length=bs.length:=by rw [<- R.length,No]
 have W:∀ i v,B.toArray[i]?=some v->v=Value.bool (bs.getD i false):=λ i v e=>by
   have E:B[i]?=some v:=by simpa using e
   have hi:i<bs.length:=by rw [<- c];exact (Br.mp E).1
   obtain ⟨u,g,A⟩:=R.get (i:=i) (x:=V.bl (bs[i])) (by simp [hi])
   rw [E] at g
   cases g
   have C:v=Value.bool bs[i]:=A
   rw [C]
   simp [hi]
 refine call_all_walk (wpAny_pyIter_list f.isList ⟨s.heap.objs.size,_,_,_,_,_,λ i=>bs.getD i false,rfl,Walks.list (by simpa using I.ok.hd l) _ p (aaO n) B.toArray,⟨⟨_,aaR _ rfl,rfl,rfl⟩,f.isList.push _⟩,λ i v S G F j d=>?_,λ J T m=>?_⟩)
 . rw [W i v j]
   exact aao d
 .
  have e:(List.range B.toArray.size).all (λ i=>bs.getD i false)=bs.all id:=by
    have:B.toArray.size=bs.length:=by simpa using c
    rw [this,ab7,abv,abv]
    constructor
    . intro h b k
      obtain ⟨i,hi,rfl⟩:=List.getElem_of_mem k
      have:=h i (aaJ.mpr hi)
      simpa [hi] using this
    . intro h i hi
      have hi:=aaJ.mp hi
      have:=h _ (aay hi)
      simpa [hi] using this
  rw [e]
  exact ⟨.bl _,H,I.kept (t':=T) λ b o z=>m b o (λ y=>by
    have y:b=s.heap.objs.size:=by simpa using y
    exact absurd (aav z) (by rw [y];exact abG _)) (aal _ z),rfl,q⟩
end
section
variable {P:bD} {w:bz} {K:aE} {mg:dX} {base:bE} {x qual m:Str} {st:Stmt} {dV:aA} {f C:am} {fd:FuncData} {N ps:de} {k:Nat} {sp:Sp} {ds:bM} {iL:aB}
def NQ (P:bD) (w:bz) (K:aE) (M:dX) (b:bE) (C:am) (m q:Str) (st:Stmt) (d:aA) (k:Nat) (p:de) (s:Sp):Prop :=
 ∃ f fd,Meth K C m f/\uf K m q st d f fd/\lZ P w K M b yJ k f fd p s
def zS (P:bD) (w:bz) (K:aE) (M:dX) (b:bE) (C:am) (m:Str) (k:Nat) (p:de) (i:aB) (s:Sp):Prop :=
 ∃ ds,Vals i ds/\hC P w K M b C m k p ds s
def ga.ZG (h:ga K C m qual st dV) (S:aC N ps (au st)) (len:∀ vs H Q E,sp vs H Q E->vs.length=ps.length) (i:∀ (f:am) (b:aA) (A:Around) (outer:List Env) (s:Shared) (H:Hp) (vs:aB) (Q:VK) (E:XK),dg k (A.deeper (envOfC qual (au st) s.heap.objs.size f b))->sp vs H Q E ->
     ∃ t,vO (qv yJ P w K mg base N qual (au st) f b A outer s H E).EX (ce st) t/\t { nx:=λ Z H'=>Q .cC H',rt:=Q } (start N vs) H):NQ P w K mg base C m qual st dV (k+1) ps sp:=by
 obtain ⟨f,fd,M,F⟩:=h
 exact ⟨f,fd,M,F,F.ok S len λ b A outer s H vs Q E a c=>i f b A outer s H vs Q E a c⟩
def NQ.Io {T:am} {b:aB} (h:NQ P w K mg base C m qual st (.ref T) k ps sp) (H:Ex K T b) (a:∀ i:Array aA,Vals b i.toList->∃ ds,Vals iL ds/\∀ (kV d p:aA) (A:Option am) (B ct:aA) (us:bM),(us++ds).length=ps.length->∃ k,bindArgs (W.fnOf m qual (dA st) (ce st) (au st) (.ref T) kV d p A B ct) ⟨us,[]⟩=seqItems? (.ref T) >>= k/\k (some i)=pure (ps.zip (us++ds))) :
   zS P w K mg base C m k ps iL sp:=by
 obtain ⟨f,fd,M,F,O⟩:=h
 obtain ⟨o,n,i,H,e,g⟩:=H
 obtain ⟨ds,c,a⟩:=a i g
 exact ⟨ds,c,f,fd,M,F.binds H e a,O⟩
def Pb (P:bD) (w:bz) (K:aE) (m:dX) (b:bE) (x:Str) (st:Stmt) (d:aA) (k:Nat) (p:de) (s:Sp):Prop :=
 ∃ f fd,m x=some (.ref f)/\uf K x x st d f fd/\lZ P w K m b yJ k f fd p s
def Ee (P:bD) (w:bz) (K:aE) (m:dX) (b:bE) (x:Str) (k:Nat) (p:de) (i:aB) (s:Sp):Prop :=
 ∃ ds,Vals i ds/\Of P w K m b x k p ds s
def Gy.dok (h:Gy K mg x st dV) (S:aC N ps (au st)) (len:∀ vs H Q E,sp vs H Q E->vs.length=ps.length) (i:∀ (f:am) (b:aA) (A:Around) (outer:List Env) (s:Shared) (H:Hp) (vs:aB) (Q:VK) (E:XK),dg k (A.deeper (envOfC x (au st) s.heap.objs.size f b))->sp vs H Q E ->
     ∃ t,vO (qv yJ P w K mg base N x (au st) f b A outer s H E).EX (ce st) t/\t { nx:=λ Z H'=>Q .cC H',rt:=Q } (start N vs) H):Pb P w K mg base x st dV (k+1) ps sp:=by
 obtain ⟨f,fd,M,F⟩:=h
 exact ⟨f,fd,M,F,F.ok S len λ b A outer s H vs Q E a c=>i f b A outer s H vs Q E a c⟩
def Pb.Js {T:am} {b:aB} (h:Pb P w K mg base x st (.ref T) k ps sp) (H:Ex K T b) (a:∀ i:Array aA,Vals b i.toList->∃ ds,Vals iL ds/\∀ (kV d p:aA) (A:Option am) (B ct:aA) (us:bM),(us++ds).length=ps.length->∃ k,bindArgs (W.fnOf x x (dA st) (ce st) (au st) (.ref T) kV d p A B ct) ⟨us,[]⟩=seqItems? (.ref T) >>= k/\k (some i)=pure (ps.zip (us++ds))) :
   Ee P w K mg base x k ps iL sp:=by
 obtain ⟨f,fd,M,F,O⟩:=h
 obtain ⟨o,n,i,H,e,g⟩:=H
 obtain ⟨ds,c,a⟩:=a i g
 exact ⟨ds,c,f,fd,M,F.kp,F.binds H e a,O⟩
def vals3 {a b c:V} {i:Array aA} (h:Vals [a,b,c] i.toList):∃ u v z,i=#[u,v,z]/\RelV a u/\RelV b v/\RelV c z:=by
 obtain ⟨l⟩:=i
 cases h with
 | cons H h=>cases h with
   | cons d h=>cases h with
     | cons e h=>cases h with
       | nil=>exact ⟨_,_,_,rfl,H,d,e⟩
end
section
variable {X:Cx} {C:am} {m x:Str} {p pos apos:Pos} {e o:Expr} {es:List Expr} {ta:TE} {t:TA} {k:Nat} {ps:de} {sp:Sp} {iL:aB}
def GS {pl:Sem Bool} (a:PE X o ta) (c:zm X.K C) (D:zS X.prog X.w X.K X.mg X.base C m k ps iL sp) (b:dg k X.A) (h:PA X (e::es) t) (j:autoParam (Ch X e es) za_._auto_1) (g:autoParam (Fb X es pos) za_._auto_1) (d:autoParam (eval (.Call (.Attribute o m apos) (e::es) [] pos) X.env=(do
     let O <- eval o X.env
     standAt apos.atName
     let (f,first) <- holding [O] (getMethod O m pl)
     callWith pos f first (backTo pos (starEach (e::es) X.env)) (backToKw pos (keywordEach [] X.env)))) za_._auto_1) :
   PE X (.Call (.Attribute o m apos) (e::es) [] pos) (Ao C m sp iL E0 ta t):=by
 obtain ⟨i,H,D⟩:=D
 exact aW (pl:=pl) a c D H b h j g d
def zt (M:DN X.K C) (D:zS X.prog X.w X.K X.mg X.base C "__init__" k ps iL sp) (f:dg (k+1) X.A) (d:X.mg x=some (.ref C)) (h:PA X (e::es) t) (c:autoParam (Gl X x) za_._auto_1) (a:autoParam (AJ x) zb_._auto_1) (b:autoParam (Ch X e es) za_._auto_1) (g:autoParam (Fb X es pos) za_._auto_1):PE X (.Call (.Name x p) (e::es) [] pos) (GR C sp iL E0 t):=by
 obtain ⟨i,H,D⟩:=D
 exact oR M D H f d h c a b g
def jS (D:Ee X.prog X.w X.K X.mg X.base x k ps iL sp) (d:dg k X.A) (h:PA X (e::es) t) (c:autoParam (Gl X x) za_._auto_1) (a:autoParam (AJ x) zb_._auto_1) (b:autoParam (Ch X e es) za_._auto_1) (g:autoParam (Fb X es pos) za_._auto_1):PE X (.Call (.Name x p) (e::es) [] pos) (CY sp iL E0 t):=by
 obtain ⟨f,H,D⟩:=D
 exact Eo D H d h c a b g
end
def cW {X:Cx} {K:aE} {es:List Expr} {k:Nat} {p:Pos} {t:MU} {n:Nat} (H:X.K=K) (a:X.calm=true) (h:MZ X es t) (b:autoParam ((assignEach es X.env).length=n) za_._auto_1) (j:autoParam ((assignEach es X.env).findIdx? (·.1)=none) za_._auto_1):PG X (.Tuple es k p) (Pq K n t):=by
 subst H
 exact Lx a h b j
end L2
namespace PySem
open Sem (wp)
theorem lA:∀ (l:List DictEntry) (c:Int),(l.map (·.hash)).Nodup->(l.filter (·.hash == c)).length<=1
 | [],_,_=>aaZ _
 | e::l,c,h=>by
   rw [aaQ,aaS] at h
   rw [adA]
   split
   .
    rename_i q
    have q:e.hash=c:=by simpa using q
    have:l.filter (·.hash == c)=[]:=by
      rw [ad6]
      intro x H z
      exact h.1 (aaE.mpr ⟨x,H,by rw [q];simpa using z⟩)
    rw [this]
    exact aak _
   . exact lA l c h.2
section
variable {prog:bD} {w:bz} {K:Type} [DecidableEq K] {knd:KeyKind prog w K} {A:Around} {E:aA->Shared->Prop} {s:Shared}
def m5 {k:List K} {a:am} {Q:Bool->Shared->Prop} (b:IsTupleKey knd s.heap k a) (h:Q false s):wpAny (model prog w) A (Builtin.Dict.quietEq (.ref a)) Q E s:=by
 have H:=b.typeIs
 unfold Builtin.Dict.quietEq
 exact aaa (adk H F.slot_tuple_eq.lookup (aao h))
def kH {id:String} {d:am} {o:Obj} {es f} {xs:List (List K×am×aA)} {Q:Array DictEntry->Shared->Prop} (m:s.heap.get? d=some o) (i:o.data = .dict es f) (a:es.toList=xs.map (entryOfKey (tupleKind knd)))
   (hi:∀ x∈xs,IsTupleKey knd s.heap x.1 x.2.1) (j:(xs.map λ x=>tupleKeyHash knd x.1).Nodup) (h:Q es s) :
   wpAny (model prog w) A (Builtin.Dict.entriesForEmpty id d) Q E s:=by
 unfold Builtin.Dict.entriesForEmpty
 refine aaa (ac6 m i ?_)
 have k:(es.toList.map (·.hash)).Nodup:=by
   rw [a,acj]
   exact j
 refine aaa ?_
 refine wpAny_forIn_array' _ (λ rest Z S=>S=s/\∀ e∈rest,e∈es.toList) _ ?_ ?_ _ _ ⟨rfl,λ Z h=>h⟩
 .
  rintro e rest b S ⟨rfl,c⟩
  have H:=c e aar
  rw [a] at H
  obtain ⟨x,n,rfl⟩:=aaE.mp H
  refine aaa (m5 (hi x n) ?_)
  have g:¬ ((es.filter λ y=>y.hash == (entryOfKey (tupleKind knd) x).hash).size > 1):=by
    have:=lA es.toList (entryOfKey (tupleKind knd) x).hash k
    have p:(es.filter λ y=>y.hash == (entryOfKey (tupleKind knd) x).hash).size=(es.toList.filter λ y=>y.hash == (entryOfKey (tupleKind knd) x).hash).length:=by
      obtain ⟨l⟩:=es
      simp
    lia
  simp only [adM,acw,aax g]
  exact aao ⟨rfl,λ e a=>c e (aaj _ a)⟩
 . rintro b S ⟨rfl,Z⟩
   exact aao h
def rg {J:String} {d o:am} {xs:List (List K×am×aA)} {Q:Unit->Shared->Prop} (m:d≠o) (p:(o == sysModules)=false)
   (D:s.heap.DictOfH (tupleKind knd) d []) (I:s.heap.DictOfH (tupleKind knd) o xs) (F:(xs.map λ x=>tupleKeyHash knd x.1).Nodup)
   (k:∀ h',(∃ q es u,h'.get? d=some q/\q.ExactDict/\q.data = .dict es u/\es.toList=xs.map (entryOfKey (tupleKind knd))/\(xs.map (·.1)).Nodup)->Heap.SameBut d s.heap h'->Q () { s with heap:=h' }) (hsz:xs.length<=sizeLine) :
   wpAny (model prog w) A (Builtin.Dict.mergeDict J d o) Q E s:=by
 obtain ⟨O,W,b,S,y,a,j,r,G⟩:=id D
 obtain ⟨T,H,v,N,R,c,C,L,n⟩:=id I
 have i:W=#[]:=by
   obtain ⟨l⟩:=W
   have:l=[]:=by simpa using j
   rw [this]
 have h:H.size=xs.length:=by
   obtain ⟨l⟩:=H
   have:l.length=_:=abE List.length C
   simpa using this
 unfold Builtin.Dict.mergeDict
 rw [aax (by simpa using m)]
 unfold Builtin.Dict.showsAll
 rw [aax (by rw [p];exact aaC)]
 refine aaa (aao ?_)
 refine aaa (ac6 N c ?_)
 dsimp only
 cases xs with
 | nil =>
   have B:H=#[]:=by
     obtain ⟨l⟩:=H
     have:l=[]:=by simpa using C
     rw [this]
   subst B
   have f:Q () s:=by
     have:=k s.heap ⟨O,W,b,S,y,a,j,n⟩ (Heap.SameBut.refl _ _)
     exact this
   split
   . rename_i g
     exact absurd g (by simp)
   . refine aaa (wpAny_dictEpoch N c ?_)
     refine aaa (ac6 N c ?_)
     refine aaa ?_
     rw [Std.Legacy.Range.forIn_eq_forIn_range']
     exact aao (aao f)
 | cons x xs =>
   have g:(decide (H.size<=8) && H.all λ e=>(keyPart e.key).isSome)=false:=by
     obtain ⟨l⟩:=H
     have t:l=_:=C
     subst t
     have:keyPart (entryOfKey (tupleKind knd) x).key=none:=rfl
     simp [this]
   rw [g]
   simp only [adM,acw]
   refine aaa (ac6 S a ?_)
   rw [i]
   simp only [Array.isEmpty_empty,acw]
   refine aaa (kH N c C L F ?_)
   have M:H.isEmpty=false:=by
     rw [Array.isEmpty_eq_false_iff]
     intro z
     rw [z] at h
     simp at h
   rw [M]
   simp only [adM,acw]
   refine aaa (wpAny_updateDictKeysTo S a (aao (k _ ⟨_,_,b+1,adq _ S (Obj.isFreed_of_dict (Obj.data_mapDictKeys a _)),y.mapDictKeys _,Obj.data_mapDictKeys a _,C,n⟩ (adC ..))) (by rw [h];lia))
def vE {o:am} {xs:List (List K×am×aA)} {Q:aA->Shared->Prop} (i:(o == sysModules)=false) (H:s.heap.DictOfH (tupleKind knd) o xs) (hsz:xs.length<=sizeLine) (p:(xs.map λ x=>tupleKeyHash knd x.1).Nodup)
   (h:∀ h',(∃ q es j,h'.get? s.heap.objs.size=some q/\q.ExactDict/\q.data = .dict es j/\es.toList=xs.map (entryOfKey (tupleKind knd))/\(xs.map (·.1)).Nodup)->Heap.SameBut s.heap.objs.size (s.heap.push { cls:=.type "dict",data:=.dict #[]}) h'->Q (.ref s.heap.objs.size) { s with heap:=h' }) :
   wpAny (model prog w) A (call (.type "dict") [.ref o]) Q E s:=by
 refine callType_codes (Q₁:=λ O S=>O = .ref s.heap.objs.size/\S={ s with heap:=s.heap.push { cls:=.type "dict",data:=.dict #[]}}) F.kt_called_dict (F.kt_typeCall_dict_1 _) F.entry_dict_init (kt_code_dict_new _ ⟨rfl,rfl⟩) ?_
 rintro O S ⟨rfl,rfl⟩
 have X:(s.heap.push { cls:=.type "dict",data:=.dict #[]}).DictOfH (tupleKind knd) s.heap.objs.size []:=Heap.DictOfH.new s.heap
 have a:(s.heap.push { cls:=.type "dict",data:=.dict #[]}).DictOfH (tupleKind knd) o xs:=by
   obtain ⟨t,d,b,N,z,c,C,L,f⟩:=id H
   exact ⟨t,d,b,aal _ N,z,c,C,λ x r=>(let ⟨q,I,n,k,l⟩:=L x r;⟨q,I,n,aal _ k,l⟩),f⟩
 have W:s.heap.objs.size≠o:=by
   obtain ⟨Z,Z,Z,m,Z⟩:=H
   exact λ e=>absurd (aav m) (by rw [e];exact abG _)
 refine ⟨X.typeIs,F.args_dict_init_2 _ _,?_⟩
 unfold Builtin.«dict.__init__»
 refine aaa ?_
 unfold Builtin.Dict.selfAndRest
 refine aaa (wpAny_notOrdered_dict X.typeIs ?_)
 show wpAny _ _ (pure (s.heap.objs.size,[Value.ref o])) _ _ _
 refine aao ?_
 show wpAny _ _ (Builtin.Dict.updateFrom "dict.__init__" s.heap.objs.size (.ref o) [] .none) _ _ _
 unfold Builtin.Dict.updateFrom
 refine aaa (adO a.typeIs ?_)
 rw [aax (by decide)]
 refine aaa ?_
 unfold Builtin.Dict.merge
 refine aaa ?_
 unfold Builtin.Dict.readDirectly
 refine aaa (adV a.typeIs isSubtype_dict_dict ?_)
 simp only [ad1,abC,acq]
 refine aaa (adk a.typeIs F.slot_dict_iter.lookup (aao ?_))
 simp only [beq_self_eq_true,acw]
 refine aaa (aao ?_)
 refine rg (hsz:=hsz) W i X a p λ h' g T=>?_
 show wpAny _ _ (Builtin.Dict.addKeywords s.heap.objs.size [] >>= _) _ _ _
 exact aaa (aao (aao ⟨rfl,h h' g T⟩))
end
end PySem
namespace L2
open PySem PySem.Spec PyProof.Rows Mth
variable {elt iter tg:Expr} {g:TG} {ifs:List Expr} {py IE:Pos} {te:TE} {yi:Nat}
section
variable {X:Cx} {pins:List (am×Obj)} {U:St} {H:Hp} {s:Shared} {a:am} {aD:List (List Key×V)} {A:Around} {E:aA->Shared->Prop}
def El {Q:aA->Shared->Prop} (I:Inv X pins U H s) (e:Rd H a (.dT aD)) (g:(aD.map λ k=>tupleKeyHash (cO X.prog X.w) k.1).Nodup) (h:∀ p s',H p=none->Inv X pins U (upd H p (.dT aD)) s'->Q (.ref p) s'):wpAny (model X.prog X.w) A (call (.type "dict") [.ref a]) Q E s:=by
 obtain ⟨z,n,l,R,d⟩:=C2 I.dF e
 have u:l.map (λ x=>tupleKeyHash (cO X.prog X.w) x.1)=aD.map λ k=>tupleKeyHash (cO X.prog X.w) k.1:=by
   clear d z g h e
   induction R with
   | nil=>rfl
   | cons r _ v=>rw [aaQ,aaQ,v,r.1]
 refine vE n d (by rw [<- ab2 R];exact z) (by rw [u];exact g) λ y m t=>?_
 have i:H s.heap.objs.size=none:=I.dF.fresh (aak _)
 refine h _ _ i (I.laid (a:=s.heap.objs.size) (o:=.dT aD) (t':=s.toks) (λ b q j=>?_) (aak _) ⟨z,abm.mpr (acx (aaO I.big)),l,R.keeps λ c Y f=>?_,m⟩)
 . exact (t.2 b (aaO (aav j))).trans (aal _ j)
 . rw [aw (az f i)];exact f
end
def vM {X:Cx}:iJ X (.type "dict") (λ xs H Q=>∃ p a,xs=[.ref p]/\H p=some (.dT a)/\(a.map λ k=>tupleKeyHash (cO X.prog X.w) k.1).Nodup/\∀ l,H l=none->Q (.ref l) (upd H l (.dT a))):=by
 intro b s U H xs f Q I r h
 obtain ⟨p,a,rfl,e,c,q⟩:=h
 obtain ⟨u,rfl,R⟩:=vals1 r
 cases R
 exact El I (.inl e) c λ l S d i=>⟨.ref l,_,i,rfl,q l d⟩
def Cu:bootBuiltins "dict" = some (.type "dict"):=by decide +kernel
section
variable {X:Cx}
def IT {y:Str} {S:Scope} {p:Pos} {w:TI} {t:TT} {N':de} {n:Nat} {sl:aS} (W:X.calm=true) (hi:PI X tg iter w) (hg:∀ cl C s H ex,PG (cF X N' S cl C s H ex) tg g) (ht:∀ cl C s H ex,Km (cF X N' S cl C s H ex) ifs t) (Y:∀ cl C s H ex,PE (cF X N' S cl C s H ex) elt te) (E:N'.length=n+sl.length) (Q:∀ k j:Nat,sl[k]?=some j->∃ x,N'[n+k]?=some x/\X.N[j]?=some x/\S.names.lookup x=some .free) (hk:S.kind = .function) (O:∀ y∈S.names,y.2 ≠ .cell) (jZ:∀ y∈S.names,y.2 = .local->S.names.lookup y.1=some .local) (jM:∀ y∈S.names,y.2 = .free->X.env.kindOf y.1=some .cell\/X.env.kindOf y.1=some .free) (R:X.N.Nodup) (K:X.N[yi]?=some y) (hy:Loc X.env.scope y) (hf:X.fn y=true\/X.env.scope.names.lookup y=some .local) (G:swapsWith (.ListComp elt [⟨tg,iter,ifs,0⟩] S p) (some (.Name y py)) IE.line X.env=pure true) (hs:∀ x,foldedSetIterable iter X.env x=pure x:=by intro Z;rfl) :
   PS X (.Assign [.Name y py] (.ListComp elt [⟨tg,iter,ifs,0⟩] S p) IE) (F0 (Ah w g t te n sl) (tW yi)):=by
 intro f s U H D I h
 rw [exec_Assign_Name_used _ _ _ _ G]
 refine aaa (wpAny_standAt (aaa ?_))
 show wpAny _ X.A (do let _ <- comprehension (.ListComp elt [⟨tg,iter,ifs,0⟩] S p) S X.env _ (newList []) false (eval iter X.env) (some (assign (.Name y py) X.env))) _ _ s
 refine aaa (abB (vY (use:=some (assign (.Name y py) X.env)) (Qp:=λ Z l=>SP X f D .next l) W hi hg ht Y E Q hk O jZ jM hs I h λ s6 u d c m J F hn q=>?_)
   (λ Z l hq=>aao (aao hq)) λ Z Z e=>e)
 refine wpAny_assign_Name (wm (v:=.ref d) J R K hy rfl (λ s7 B ⟨a,i,T⟩=>?_) hf)
 have na:c≠a:=λ z=>by
   rcases T with q|q
   . exact F.2.1 (z.trans q)
   . exact F.2.2.2.2.1 _ a q z.symm
 refine ⟨m,?_,λ h' sb=>?_⟩
 . obtain ⟨o,M,L,ho,r⟩:=hn
   exact ⟨o,M,L,(i.2 _ na).trans ho,r⟩
 . exact ⟨_,u,B.turned (t':=s7.toks) (λ b Z V q=>(sb.2 b V).trans q) F.1 F.2.1 F.2.2.2.1 F.2.2.2.2.1 F.2.2.2.2.2,q⟩
def rN {y:Str} {S:Scope} {p:Pos} {w:TI} {l:TT} (T f:de) (sl:aS) (a:Paired (λ (j:Nat) (x:Str)=>X.N[j]?=some x/\S.names.lookup x=some .free/\(X.env.kindOf x=some .cell\/X.env.kindOf x=some .free)) sl f) (o:X.calm=true) (hi:PI X tg iter w) (v:∀ cl C s H ex,PG (cF X (T++f) S cl C s H ex) tg g) (D:∀ cl C s H ex,Km (cF X (T++f) S cl C s H ex) ifs l) (q:∀ cl C s H ex,PE (cF X (T++f) S cl C s H ex) elt te) (n:X.N.Nodup) (d:Loc X.env.scope y) (A:autoParam (S.kind = .function) za_._auto_1) (G:autoParam (∀ y∈S.names,y.2 ≠ .cell) zc_._auto_1) (F:autoParam (∀ y∈S.names,y.2 = .local->S.names.lookup y.1=some .local) zc_._auto_1) (J:autoParam (∀ y∈S.names,y.2 = .free->y.1∈f) zc_._auto_1) (u:autoParam (X.N[yi]?=some y) za_._auto_1) (U:autoParam (swapsWith (.ListComp elt [⟨tg,iter,ifs,0⟩] S p) (some (.Name y py)) IE.line X.env=pure true) za_._auto_1) (b:autoParam (X.fn y=true\/X.env.scope.names.lookup y=some .local) zd_._auto_1) (B:∀ x,foldedSetIterable iter X.env x=pure x:=by intro Z;rfl) :
   PS X (.Assign [.Name y py] (.ListComp elt [⟨tg,iter,ifs,0⟩] S p) IE) (F0 (Ah w g l te T.length sl) (tW yi)):=by
 have K:∀ {sl:aS} {f:de},Paired (λ (j:Nat) (x:Str)=>X.N[j]?=some x/\S.names.lookup x=some .free/\(X.env.kindOf x=some .cell\/X.env.kindOf x=some .free)) sl f ->
     (∀ k j:Nat,sl[k]?=some j->∃ x,f[k]?=some x/\X.N[j]?=some x/\S.names.lookup x=some .free)/\∀ x∈f,X.env.kindOf x=some .cell\/X.env.kindOf x=some .free:=by
   intro sl f a
   induction a with
   | nil=>exact ⟨λ k j h=>by simp at h,λ x c=>by simp at c⟩
   | cons r t i =>
     refine ⟨λ k j h=>?_,λ x c=>?_⟩
     . cases k with
       | zero =>
         have e:_=j:=aaq h
         subst e
         exact ⟨_,rfl,r.1,r.2.1⟩
       | succ k=>exact i.1 k j (by simpa using h)
     . rcases aab.mp c with z|z
       . rw [z];exact r.2.2
       . exact i.2 x z
 refine IT (N':=T++f) o hi v D q (by rw [aaf,a.length]) (λ k j h=>?_) A G F (λ y d b=>(K a).2 _ (J y d b)) n u d b U B
 obtain ⟨x,E,m⟩:=(K a).1 k j h
 exact ⟨x,by rw [aa0 (abX _ _),adY];exact E,m⟩
end
abbrev cq:=Int×Int
structure av where
 most:Int
 d6:Int
 load:Int
 rows:List (List cq)
 cb:Int->Int->Option cq
 aN:List (cq×cq×cq)
 bv:List (Option (cq×Int×Int×Int))
abbrev pF (s:cq×cq×cq):PyData:=.tuple [dW s.1,dW s.2.1,dW s.2.2]
abbrev fz:Option (cq×Int×Int×Int)->PyData
 | none => .none
 | some s => .tuple [dW s.1,.int s.2.1,.int s.2.2.1,.int s.2.2.2]
abbrev vj (r:List cq):PyData:=.tuple (r.map dW)
def lF (m:av) (a p b c:am):List (Str×V) :=
 [("most",.int m.most),("cap",.int m.d6),("load",.int m.load),("mark_rows",.ref a),("flows",.ref p),("skies",.ref b),("stoves",.ref c)]
section
variable (m:av) (pm pf ps pt:am)
def tU:(lF m pm pf ps pt).lookup ("most" : Str)=some (.int m.most):=by rfl
def xP:(lF m pm pf ps pt).lookup ("cap" : Str)=some (.int m.d6):=by rfl
def AC:(lF m pm pf ps pt).lookup ("load" : Str)=some (.int m.load):=by rfl
def oO:(lF m pm pf ps pt).lookup ("mark_rows" : Str)=some (.ref pm):=by rfl
def mU:(lF m pm pf ps pt).lookup ("flows" : Str)=some (.ref pf):=by rfl
def iV:(lF m pm pf ps pt).lookup ("skies" : Str)=some (.ref ps):=by rfl
def kE:(lF m pm pf ps pt).lookup ("stoves" : Str)=some (.ref pt):=by rfl
end
def n8 (K:aE) (H:Hp):Option cq->eL->Prop
 | none,none=>True
 | some f,some v=>Dn K H (dW f) v
 | _,_=>False
abbrev jj (i j:Int):List Key:=[.inl i,.inl j]
def rW (a:List (List Key×V)):Prop:=(a.map (·.1)).Nodup/\∀ p∈a,∃ i j:Nat,i<4/\j<4/\p.1=jj i j
end L2
namespace Mth
def nf (t b:Int):Int×Int:=(t.fdiv (Int.gcd t b:Nat),b.fdiv (Int.gcd t b:Nat))
def sV {r q s:Int} (h:r ∣ q * s) (c:Int.gcd q r=1):r ∣ s:=by
 have H:r.natAbs ∣ q.natAbs * s.natAbs:=by rw [<- acL];exact aed.mpr h
 have a:Nat.Coprime r.natAbs q.natAbs:=by rw [Nat.coprime_comm];exact c
 exact aed.mp (Nat.Coprime.dvd_of_dvd_mul_left a H)
def Fr.uniq {t b q r Q r':Int} (H:b≠0) (h:Fr t b q r) (k:Fr t b Q r'):q=Q/\r=r':=by
 have e:q * r'=Q * r:=by
   have E:(q * r') * b=(Q * r) * b:=by
     have a:=h.jU
     have A:=k.jU
     calc (q * r') * b=(q * b) * r':=by rw [aaU]
       _=(t * r) * r':=by rw [a]
       _=(t * r') * r:=by rw [aaU]
       _=(Q * b) * r:=by rw [A]
       _=(Q * r) * b:=by rw [aaU]
   exact abw H E
 have d:r ∣ r':=by
   have:r ∣ q * r':=⟨Q,by rw [e,acl]⟩
   exact sV this h.SF
 have D:r' ∣ r:=by
   have:r' ∣ Q * r:=⟨q,by rw [<- e,acl]⟩
   exact sV this k.SF
 have c:r=r':=Int.dvd_antisymm (abd h.pos) (abd k.pos) d D
 subst c
 exact ⟨abw (ab6 h.pos) e,rfl⟩
def il {t b:Int} (h:0<b):Fr t b (nf t b).1 (nf t b).2:=(KA (ab6 h) rfl).2.2.1 h
theorem Fr.nf {t b q r:Int} (H:0<b) (h:Fr t b q r):(q,r)=nf t b:=by
 obtain ⟨e,E⟩:=h.uniq (ab6 H) (il H)
 rw [e,E]
def mq (x y:Int×Int):Int×Int:=nf (x.1 * y.2+y.1 * x.2) (x.2 * y.2)
def nS (x y:Int×Int):Int×Int:=nf (x.1 * y.2 - y.1 * x.2) (x.2 * y.2)
def bg (x y:Int×Int):Bool:=decide (x.1 * y.2<y.1 * x.2)
structure dY (n:Nat) (f:Int×Int):Prop where
 t:Bd n f.1
 b:Bd n f.2
 p:0<f.2
theorem dY.mono {m n:Nat} {f:Int×Int} (h:dY m f) (l:m<=n):dY n f:=⟨h.t.mono l,h.b.mono l,h.p⟩
def dY.minus {m n:Nat} {x y:Int×Int} (h:dY m x) (k:dY n y):dY (m+n+1) (nS x y):=by
 have F:=il (t:=x.1 * y.2 - y.1 * x.2) (b:=x.2 * y.2) (aaN h.p k.p)
 have B:Bd (m+n) (x.1 * y.2):=h.t.mul k.b
 have a:Bd (m+n) (y.1 * x.2):=by rw [acG];exact k.t.mul h.b
 exact ⟨F.OC (B.sub a),F.Oa ((h.b.mul k.b).mono (acp _)),F.pos⟩
def dY.plus {m n:Nat} {x y:Int×Int} (h:dY m x) (k:dY n y):dY (m+n+1) (mq x y):=by
 have F:=il (t:=x.1 * y.2+y.1 * x.2) (b:=x.2 * y.2) (aaN h.p k.p)
 have B:Bd (m+n) (x.1 * y.2):=h.t.mul k.b
 have a:Bd (m+n) (y.1 * x.2):=by rw [acG];exact k.t.mul h.b
 exact ⟨F.OC (B.add a),F.Oa ((h.b.mul k.b).mono (acp _)),F.pos⟩
def Gm:dY 100 (0,1):=⟨(by decide:(_:Int).natAbs<_),(by decide:(_:Int).natAbs<_),by decide⟩
def xD:dY 100 (1,1):=⟨(by decide:(_:Int).natAbs<_),(by decide:(_:Int).natAbs<_),by decide⟩
end Mth
namespace L2
open PySem PySem.Spec PyProof.Rows Mth
variable {H H':Hp} {o u:HO} {v:V}
structure av.Wf (m:av):Prop where
 rows:∀ r∈m.rows,∀ f∈r,dY 100 f
 len:∀ r∈m.rows,2<=r.length/\r.length<=7
 cb:∀ i j f,m.cb i j=some f->dY 100 f
 aN:∀ s∈m.aN,dY 100 s.1/\dY 100 s.2.1/\dY 100 s.2.2
 bv:∀ x,some x∈m.bv->dY 100 x.1
structure aZ (K:aE) (C:am) (H:Hp) (a:am) (fp:bJ) (m:av):Prop where
 ex:∃ dx pm pf ps pt vm vs vt aD,fp=[a,dx,pm,pf,ps,pt]/\H a=some (.ins C dx (lF m pm pf ps pt))/\H dx=some (.own a)/\H pm=some (.lst vm)/\H pf=some (.dT aD)/\H ps=some (.lst vs)/\H pt=some (.lst vt) /\
   pm≠ps/\pm≠pt/\ps≠pt/\bL K H (m.rows.map vj) vm/\bL K H (m.aN.map pF) vs/\bL K H (m.bv.map fz) vt/\(∀ i j,n8 K H (m.cb i j) (gI aD (jj i j)))/\rW aD
 sk:m.aN.length=m.rows.length
 st:m.bv.length=m.rows.length
 mx:m.rows.length<=4
 wf:m.Wf
def gG (f:bJ) (H h:Hp):Prop:=∀ b o,H b=some o->b∉f->h b=some o
def av.kq (m:av) (i j:Nat):cq:=(m.cb i j).getD (0,1)
def av.fO (m:av) (i:Nat):cq:=((m.aN[i]?).map (·.1)).getD (0,1)
def av.ge (m:av) (i n:Nat):cq:=(List.range n).foldl (λ a j=>nS a (m.kq i j)) (nS (1,1) (m.fO i))
def av.own (m:av) (i:Nat):cq:=m.ge i m.rows.length
def av.share (m:av) (i j:Nat):cq:=if i=j then m.own i else m.kq i j
theorem av.Wf.kq {m:av} (w:m.Wf) (i j:Nat):dY 100 (m.kq i j):=by
 unfold av.kq
 cases e:m.cb i j with
 | none=>exact Gm
 | some f=>exact w.cb i j f e
theorem av.Wf.fO {m:av} (w:m.Wf) (i:Nat):dY 100 (m.fO i):=by
 unfold av.fO
 cases e:m.aN[i]? with
 | none=>exact Gm
 | some f=>exact (w.aN f (aah e)).1
def av.n9 (m:av) (i n:Nat):m.ge i (n+1)=nS (m.ge i n) (m.kq i n):=by
 unfold av.ge
 rw [aa6,abI];rfl
theorem av.Wf.ge {m:av} (w:m.Wf) (i:Nat):∀ n,dY (201+101 * n) (m.ge i n)
 | 0=>(xD.minus (w.fO i)).mono (by decide)
 | n+1=>by
   rw [av.n9]
   exact ((w.ge i n).minus (w.kq i n)).mono (by lia)
section
variable {K:aE} {H:Hp} {v:V}
def Dn.oK {s:cq×cq×cq} (h:Dn K H (pF s) v):∃ p V a v3,v = .ref p/\bY K H p [V,a,v3]/\Dn K H (dW s.1) V/\Dn K H (dW s.2.1) a/\Dn K H (dW s.2.2) v3:=by
 obtain ⟨p,k,e,q,x,R,c,d,X,j,f,D,i,r,g,b,E⟩:=h
 have E:r=[]:=E
 subst c f g E
 exact ⟨p,x,X,i,e,q,d,D,b⟩
def Gf {s:cq×cq×cq} {p:am} {v a b:V} (q:bY K H p [v,a,b]) (d:Dn K H (dW s.1) v) (D:Dn K H (dW s.2.1) a) (c:Dn K H (dW s.2.2) b):Dn K H (pF s) (.ref p) :=
 fX q (br d (br D (br c dS)))
def tY (s:cq×cq×cq):eQ (pF s)=true:=by simp [pF,dW,eQ]
def tR (s:Option (cq×Int×Int×Int)):eQ (fz s)=true:=by cases s<;>simp [fz,dW,eQ]
def Am (r:List cq):eQ (vj r)=true:=lX.mpr λ d h=>by
 obtain ⟨f,Z,rfl⟩:=aaE.mp h
 exact iP f
def AR.fr {a:am} {f:cq} (h:AR K a [.int f.1,.int f.2]):Dn K H (dW f) (.ref a):=jl (h.at H)
end
def aL {a:Type} {l:List a} {i:Nat} (h:i<l.length):l[i]?=some l[i]:=RS h
def fK {a:Type} {xs:List a} {i:Nat} {v:a} (h:xs[i]?=some v):oh xs (i:Int)=some v:=cm h
def CV {K:aE} {o:Option cq} {r:eL} {z:V} (h:n8 K H o r) (a:Dn K H (dW (0,1)) z):Dn K H (dW (o.getD (0,1))) (r.getD z):=by
 cases o with
 | none=>cases r with
   | none=>exact a
   | some v=>exact (show False from h).elim
 | some f=>cases r with
   | none=>exact (show False from h).elim
   | some v=>exact h
inductive IK (vs:aB) (H:Hp) (Q:VK) (_E:XK):Prop|mk (n g:Int) (_:vs=[.int n,.int g]) (_:Q (.bl (decide (0<=n/\n<=g))) H)
section
variable (K:aE) (C:am)
inductive Iu (vs:aB) (H:Hp) (Q:VK) (_E:XK):Prop|mk (a fp m:_) (_:vs=[.ref a]) (_:aZ K C H a fp m) (_:Q (aq m.rows.length) H)
inductive zh (vs:aB) (H:Hp) (Q:VK) (_E:XK):Prop|mk (a fp m:_) (i:Nat) (_:vs=[.ref a,aq i]) (_:aZ K C H a fp m) (_:i<m.rows.length) (_:Q .cC H)
inductive KZ (vs:aB) (H:Hp) (Q:VK) (_E:XK):Prop|mk (a fp m:_) (i:Nat) (s:_) (_:vs=[.ref a,aq i]) (_:aZ K C H a fp m) (_:m.aN[i]?=some s) (_:∀ v,Dn K H (pF s) v->Q v H)
inductive FN (vs:aB) (H:Hp) (Q:VK) (_E:XK):Prop|mk (a fp m:_) (i:Nat) (s:_) (_:vs=[.ref a,aq i]) (_:aZ K C H a fp m) (_:m.bv[i]?=some s) (_:∀ v,Dn K H (fz s) v->Q v H)
inductive He (vs:aB) (H:Hp) (Q:VK) (_E:XK):Prop|mk (a fp m:_) (i:Nat) (r:_) (_:vs=[.ref a,aq i]) (_:aZ K C H a fp m) (_:m.rows[i]?=some r) (_:∀ p xs,H p=none->bL K H (r.map dW) xs->Q (.ref p) (upd H p (.lst xs)))
inductive MN (vs:aB) (H:Hp) (Q:VK) (_E:XK):Prop|mk (a fp m:_) (i:Nat) (_:vs=[.ref a,aq i]) (_:aZ K C H a fp m) (_:i<m.rows.length) (_:∀ v H',aG H H'->Dn K H' (dW (m.own i)) v->Q v H')
inductive F5 (vs:aB) (H:Hp) (Q:VK) (_E:XK):Prop|mk (a fp m:_) (i j:Nat) (_:vs=[.ref a,aq i,aq j]) (_:aZ K C H a fp m) (_:i<m.rows.length) (_:j<m.rows.length) (_:∀ v H',aG H H'->Dn K H' (dW (m.share i j)) v->Q v H')
end
theorem aZ.same {K:aE} {C:am} {a:am} {f:bJ} {m:av} (s:aG H H') (h:aZ K C H a f m):aZ K C H' a f m:=by
 obtain ⟨⟨g,r,p,t,u,V,y,z,A,e,l,J,G,M,k,I,n,N,o,D,b,c,d,F⟩,Q,v,w,x⟩:=h
 refine ⟨⟨g,r,p,t,u,V,y,z,A,e,s _ _ l,s _ _ J,s _ _ G,s _ _ M,s _ _ k,s _ _ I,n,N,o,bL.same s _ D,bL.same s _ b,bL.same s _ c,λ i j=>?_,F⟩,Q,v,w,x⟩
 have:=d i j
 revert this
 cases m.cb i j<;>cases gI A (jj i j)<;>intro q
 . exact q
 . exact q
 . exact q
 . exact Dn.same s _ q
def pL {n i:Nat} (h:i<n):EU n (i:Int)=some i:=by
 unfold EU
 rw [aau (by lia),aau (by lia),aaV]
def pX {x y z t:V}:[x,y,z,t].length<=sizeLine:=by show 4<=sizeLine;decide
def vW {x:V}:[x].length<=sizeLine:=by show 1<=sizeLine;decide
theorem wJ {b:Type} [DecidableEq b]:∀ (l L:List b),l.Nodup->(∀ x∈l,x∈L)->l.length<=L.length
 | [],_,_,_=>aaZ _
 | x::l,L,f,h=>by
   obtain ⟨c,d⟩:=aaS.mp f
   have H:=h x aar
   have:=wJ l (L.erase x) d λ y a=>(List.mem_erase_of_ne (λ e=>c (by rw [<- e];exact a))).mpr (h y (aaj _ a))
   rw [List.length_erase_of_mem H] at this
   have g:=List.length_pos_of_mem H
   rw [aaW]
   lia
def JZ:List (List Key):=(List.range 4).flatMap λ (i:Nat)=>(List.range 4).map λ (j:Nat)=>jj (i:Int) (j:Int)
def rW.len {a:List (List Key×V)} (h:rW a):a.length<=16:=by
 have:=wJ (a.map (·.1)) JZ h.1 λ x c=>by
   obtain ⟨p,b,rfl⟩:=aaE.mp c
   obtain ⟨i,j,hi,H,e⟩:=h.2 p b
   rw [e]
   exact abl.mpr ⟨i,aaJ.mpr hi,aaE.mpr ⟨j,aaJ.mpr H,rfl⟩⟩
 rw [No] at this
 exact aaA this (by decide)
def rW.put {A:List (List Key×V)} (h:rW A) {i j:Nat} (hi:i<4) (g:j<4) (v:V):rW (putK A (jj i j) v):=by
 refine ⟨?_,λ p H=>?_⟩
 .
  cases e:gI A (jj i j) with
  | none=>exact JD v h.1 e
  | some y =>
    have f:(A.any λ k=>decide (k.1=jj i j))=true:=by
      unfold gI at e
      cases q:A.find? λ k=>decide (k.1=jj i j) with
      | none=>rw [q] at e;cases e
      | some z=>have Q:=List.find?_some q;exact List.any_eq_true.mpr ⟨z,List.mem_of_find?_eq_some q,Q⟩
    unfold putK
    rw [aau f,acj]
    have:((λ x:List Key×V=>x.1) ∘ λ k:List Key×V=>if k.1=jj i j then (k.1,v) else k)=λ x=>x.1:=by
      funext x
      show (if x.1=jj i j then (x.1,v) else x).1=x.1
      split<;>rfl
    rw [this]
    exact h.1
 .
  unfold putK at H
  split at H
  . obtain ⟨z,l,rfl⟩:=aaE.mp H
    obtain ⟨a,b,c,d,e⟩:=h.2 z l
    refine ⟨a,b,c,d,?_⟩
    split<;>exact e
  .
   rcases aaz.mp H with H|H
   . exact h.2 p H
   . have:p=(jj i j,v):=by simpa using H
     subst this
     exact ⟨i,j,hi,g,rfl⟩
def GU {i j I J:Int} (h:jj i j=jj I J):i=I/\j=J:=by
 simp only [jj,adG,Sum.inl.injEq,and_true] at h
 exact h
def av.j4 (m:av) (i j:Nat) (f:cq):av:={ m with cb:=λ a b=>if a=(i:Int)/\b=(j:Int) then some f else m.cb a b }
def av.rE (m:av) (i:Nat) (s:cq×cq×cq):av:={ m with aN:=m.aN.set i s }
def av.jW (m:av) (i:Nat) (s:cq×Int×Int×Int):av:={ m with bv:=m.bv.set i (some s)}
def av.sW (m:av) (r:List cq):av:={ m with rows:=m.rows++[r],aN:=m.aN++[((0,1),(0,1),(0,1))],bv:=m.bv++[none]}
def av.new (most d6 load:Int):av:=⟨most,d6,load,[],λ Z Z=>none,[],[]⟩
structure sL (K:aE) (C:am) (H:Hp) (a:am) (fp:bJ) (m':av) (H':Hp) (mI:bJ):Prop where
 at_:aZ K C H' a mI m'
 but:gG fp H H'
 ts:aT K H H'
 own:∀ b∈mI,b∈fp\/H b=none
theorem n8.ts {K:aE} (s:aT K H H'):∀ {o:Option cq} {v:eL},n8 K H o v->n8 K H' o v
 | none,none,_=>trivial
 | some f,some v,h=>Dn.ts s _ (iP f) h
 | none,some _,h=>h
 | some _,none,h=>h
def kA {K:aE} {rs:List (List cq)} {xs:aB} (s:aT K H H') (h:bL K H (rs.map vj) xs):bL K H' (rs.map vj) xs:=bL.ts s _ (λ d a=>by obtain ⟨r,Z,rfl⟩:=aaE.mp a;exact Am r) h
def jh {K:aE} {rs:List (cq×cq×cq)} {xs:aB} (s:aT K H H') (h:bL K H (rs.map pF) xs):bL K H' (rs.map pF) xs:=bL.ts s _ (λ d a=>by obtain ⟨r,Z,rfl⟩:=aaE.mp a;exact tY r) h
def hG {K:aE} {rs:List (Option (cq×Int×Int×Int))} {xs:aB} (s:aT K H H') (h:bL K H (rs.map fz) xs):bL K H' (rs.map fz) xs:=bL.ts s _ (λ d a=>by obtain ⟨r,Z,rfl⟩:=aaE.mp a;exact tR r) h
def tj (r:List cq):Bool:=(List.zipWith bg r r.tail).all id
def i9 (rs:List (List cq)):Int:=rs.foldl (λ p r=>p * ((r.length:Int) - 1)) 1
section
variable (K:aE) (C:am)
inductive Jg (vs:aB) (H:Hp) (Q:VK) (_E:XK):Prop|mk (a fp m:_) (i:Nat) (v1 v2 f g:_) (_:vs=[.ref a,aq i,v1,v2]) (_:aZ K C H a fp m) (_:i<m.rows.length) (_:Dn K H (dW f) v1) (_:Dn K H (dW g) v2) (_:dY 100 f) (_:dY 100 g) (_:0<=f.1) (_:bg (mq (m.own i) g) f=false) (_:∀ H',aG H H'->Q .cC H')
inductive AB (vs:aB) (H:Hp) (Q:VK) (_E:XK):Prop|mk (a fp m:_) (i j:Nat) (v f:_) (_:vs=[.ref a,aq i,aq j,v]) (_:aZ K C H a fp m) (_:i<m.rows.length) (_:j<m.rows.length) (_:i≠j) (_:Dn K H (dW f) v) (_:dY 100 f) (_:0<=f.1) (_:bg (mq (m.own i) (m.kq i j)) f=false) (_:∀ H' mI,sL K C H a fp (m.j4 i j f) H' mI->Q .cC H')
inductive AV (vs:aB) (H:Hp) (Q:VK) (_E:XK):Prop|mk (a fp m:_) (i:Nat) (v1 v2 v3 f lo hi:_) (_:vs=[.ref a,aq i,v1,v2,v3]) (_:aZ K C H a fp m) (_:i<m.rows.length) (_:Dn K H (dW f) v1) (_:Dn K H (dW lo) v2) (_:Dn K H (dW hi) v3) (_:dY 100 f) (_:dY 100 lo) (_:dY 100 hi) (_:bg hi lo=false) (_:0<=f.1) (_:bg (mq (m.own i) (m.fO i)) f=false) (_:∀ H' mI,sL K C H a fp (m.rE i (f,lo,hi)) H' mI->Q .cC H')
inductive pR (vs:aB) (H:Hp) (Q:VK) (_E:XK):Prop|mk (a fp m:_) (i:Nat) (v f:_) (w st fl:Int) (_:vs=[.ref a,aq i,v,.int w,.int st,.int fl]) (_:aZ K C H a fp m) (_:i<m.rows.length) (_:Dn K H (dW f) v) (_:dY 100 f) (_:0<=f.1) (_:(0<=w/\w<=9)) (_:(0<=st/\st<=3)) (_:(0<=fl/\fl<=3)) (_:∀ H' mI,sL K C H a fp (m.jW i (f,w,st,fl)) H' mI->Q .cC H')
inductive DI (vs:aB) (H:Hp) (Q:VK) (_E:XK):Prop|mk (p xs r:_) (_:vs=[.ref p]) (_:aX K H p xs) (_:bL K H (r.map dW) xs) (_:(∀ f∈r,dY 100 f)) (_:r.length<=7) (_:∀ H',aG H H'->Q (.bl (tj r)) H')
inductive Hb (vs:aB) (H:Hp) (Q:VK) (_E:XK):Prop|mk (p xs rs:_) (_:vs=[.ref p]) (_:aX K H p xs) (_:bL K H (rs.map vj) xs) (_:rs.length<=5) (_:(∀ r∈rs,1<=r.length/\r.length<=7)) (_:Q (.int (i9 rs)) H)
inductive Av (vs:aB) (H:Hp) (Q:VK) (_E:XK):Prop|mk (a fp m p xs r:_) (_:vs=[.ref a,.ref p]) (_:aZ K C H a fp m) (_:m.rows.length<4) (_:aX K H p xs) (_:bL K H (r.map dW) xs) (_:(∀ f∈r,dY 100 f)) (_:2<=r.length) (_:r.length<=7) (_:tj r=true) (_:i9 (m.rows++[r])<=400) (_:∀ H' mI,sL K C H a fp (m.sW r) H' mI->Q (aq m.rows.length) H')
inductive Cy (vs:aB) (H:Hp) (Q:VK) (_E:XK):Prop|mk (x dx:_) (most d6 load:Int) (_:vs=[.ref x,.int most,.int d6,.int load]) (_:H x=some (.ins C dx [])) (_:H dx=some (.own x)) (_:(0<=most/\most<=4)) (_:(0<=d6/\d6<=30)) (_:(0<=load/\load<=30)) (_:∀ H' mI,sL K C H x [x,dx] (av.new most d6 load) H' mI->Q .cC H')
end
def eK {a b:am} (h:H a=some o) (k:H b=some u) (n:o≠u):a≠b:=λ e=>by
 subst e
 rw [h] at k
 exact n (aaq k)
def oQ {m:av} {C dx A a p b c D v s q:am} (h:some (HO.ins C dx (lF m a p b c))=some (HO.ins C A (lF m D v s q))):dx=A/\a=D/\p=v/\b=s/\c=q:=by
 simp only [lF,Option.some.injEq,HO.ins.injEq,adG,Prod.mk.injEq,aeo,and_true,V.ref.injEq] at h
 exact h
def gG.same {f:bJ} (s:aG H H'):gG f H H':=λ b o h Z=>s b o h
theorem gG.upd {f:bJ} {p:am} (b:gG f H H') (a:p∈f):gG f H (upd H' p o):=λ c u h n=>by
 rw [aw (λ e=>n (by rw [e];exact a))]
 exact b c u h n
section
variable {K:aE} {C:am} {H H1:Hp} {a:am} {fp:bJ} {m:av}
def EK {dx pm p ps pt:am} {A:List (List Key×V)} {i j:Nat} {f:cq} (Q:aZ K C H a fp m) (s:aG H H1) (N:H a=some (.ins C dx (lF m pm p ps pt))) (X:H p=some (.dT A)) (hi:i<4) (R:j<4) (d:Dn K H1 (dW f) v) (o:dY 100 f):sL K C H a fp (m.j4 i j f) (upd H1 p (.dT (putK A (jj i j) v))) fp:=by
 obtain ⟨⟨u,D,l,si,qS,vm,vs,vt,k,r,W,U,G,M,L,S,Y,n2,n3,y,B,E,x,F⟩,q1,q2,q3,q⟩:=Q
 obtain ⟨rfl,rfl,rfl,rfl,rfl⟩:=oQ (W.symm.trans N)
 obtain rfl:k=A:=by
   have:=M.symm.trans X
   injection this with e
   injection e
 have T:aT K H1 (upd H1 l (.dT (putK k (jj i j) v))):=bV (s _ _ M) rfl
 have t:=(aG.ts (K:=K) s).trans T
 have w:∀ {b o},H b=some o->o ≠ .dT k->(upd H1 l (.dT (putK k (jj i j) v))) b=some o:=λ h n=>by
   rw [aw (eK h M n)]
   exact s _ _ h
 refine ⟨⟨⟨u,D,l,si,qS,vm,vs,vt,putK k (jj i j) v,r,w W nofun,w U nofun,w G nofun,ag,w L nofun,w S nofun,Y,n2,n3,kA t y,jh t B,hG t E,λ I J=>?_,F.put hi R v⟩,q1,q2,q3,⟨q.rows,q.len,λ I J g c=>?_,q.aN,q.bv⟩⟩,(gG.same s).upd (by rw [r];simp),t,λ b O => .inl O⟩
 .
  rw [Fh]
  by_cases e:I=(i:Int)/\J=(j:Int)
  . show n8 K _ (if I=(i:Int)/\J=(j:Int) then some f else m.cb I J) _
    rw [aau e,aau (by rw [e.1,e.2])]
    exact Dn.ts T _ (iP f) d
  . show n8 K _ (if I=(i:Int)/\J=(j:Int) then some f else m.cb I J) _
    rw [aax e,aax (λ z=>e (GU z))]
    exact (x I J).ts t
 .
  have c:(if I=(i:Int)/\J=(j:Int) then some f else m.cb I J)=some g:=c
  split at c
  . cases c
    exact o
  . exact q.cb I J g c
def Gj {dx Y X p pt:am} {vs:aB} {i:Nat} {z:cq×cq×cq} (J:aZ K C H a fp m) (s:aG H H1) (E:H a=some (.ins C dx (lF m Y X p pt))) (g:H p=some (.lst vs)) (d:Dn K H1 (pF z) v) (o:dY 100 z.1/\dY 100 z.2.1/\dY 100 z.2.2):sL K C H a fp (m.rE i z) (upd H1 p (.lst (vs.set i v))) fp:=by
 obtain ⟨⟨A,D,vx,S,qS,vm,T,vt,U,f,W,j,G,M,l,Q,N,V,c,u,x,B,r,F⟩,q1,q2,q3,q⟩:=J
 obtain ⟨rfl,rfl,rfl,rfl,rfl⟩:=oQ (W.symm.trans E)
 obtain rfl:T=vs:=by
   have:=l.symm.trans g
   injection this with e
   injection e
 have k:aT K H1 (upd H1 S (.lst (T.set i v))):=bV (s _ _ l) rfl
 have t:=(aG.ts (K:=K) s).trans k
 have w:∀ {b o},H b=some o->b≠S->(upd H1 S (.lst (T.set i v))) b=some o:=λ h n=>by
   rw [aw n]
   exact s _ _ h
 refine ⟨⟨⟨A,D,vx,S,qS,vm,T.set i v,vt,U,f,w W (eK W g nofun),w j (eK j g nofun),w G N,w M (eK M g nofun),ag,w Q c.symm,N,V,c,kA t u,?_,hG t B,λ O R=>(r O R).ts t,F⟩,?_,q2,q3,⟨q.rows,q.len,q.cb,λ y L=>?_,q.bv⟩⟩,(gG.same s).upd (by rw [f];simp),t,λ b I => .inl I⟩
 . show bL K _ ((m.aN.set i z).map pF) _
   rw [List.map_set]
   exact bL.set (i:=i) (jh t x) (Dn.ts k _ (tY z) d)
 . show (m.aN.set i z).length=_
   rw [abp];exact q1
 . rcases adK L with h|h
   . exact q.aN y h
   . rw [h];exact o
def Cd {dx Y X ps p:am} {V:aB} {i:Nat} {z:cq×Int×Int×Int} (J:aZ K C H a fp m) (s:aG H H1) (x:H a=some (.ins C dx (lF m Y X ps p))) (I:H p=some (.lst V)) (d:Dn K H1 (fz (some z)) v) (o:dY 100 z.1):sL K C H a fp (m.jW i z) (upd H1 p (.lst (V.set i v))) fp:=by
 obtain ⟨⟨A,g,vx,si,Q,vm,tD,D,S,f,W,j,G,M,zf,E,U,N,c,l,r,u,k,F⟩,q1,q2,q3,q⟩:=J
 obtain ⟨rfl,rfl,rfl,rfl,rfl⟩:=oQ (W.symm.trans x)
 obtain rfl:D=V:=by
   have:=E.symm.trans I
   injection this with e
   injection e
 have T:aT K H1 (upd H1 Q (.lst (D.set i v))):=bV (s _ _ E) rfl
 have t:=(aG.ts (K:=K) s).trans T
 have w:∀ {b o},H b=some o->b≠Q->(upd H1 Q (.lst (D.set i v))) b=some o:=λ h n=>by
   rw [aw n]
   exact s _ _ h
 refine ⟨⟨⟨A,g,vx,si,Q,vm,tD,D.set i v,S,f,w W (eK W I nofun),w j (eK j I nofun),w G N,w M (eK M I nofun),w zf c,ag,U,N,c,kA t l,jh t r,?_,λ O R=>(k O R).ts t,F⟩,q1,?_,q3,⟨q.rows,q.len,q.cb,q.aN,λ y L=>?_⟩⟩,(gG.same s).upd (by rw [f];simp),t,λ b B => .inl B⟩
 . show bL K _ ((m.bv.set i (some z)).map fz) _
   rw [List.map_set]
   exact bL.set (i:=i) (hG t u) (Dn.ts T _ (tR (some z)) d)
 . show (m.bv.set i (some z)).length=_
   rw [abp];exact q2
 . rcases adK L with h|h
   . exact q.bv y h
   . cases h;exact o
end
def GI (xs:aB):vF xs (some 1) none=xs.tail:=by
 have e:HT.tf xs.length 0 (some 1)=min 1 xs.length:=HT.J0 _ _ 1
 unfold vF
 rw [e,HT.FC]
 cases xs with
 | nil=>rfl
 | cons x l =>
   have:min 1 (x::l).length=1:=by simp
   rw [this]
   simp
def aG.put {D:am} (s:aG H H') (h:H D=none):aG H (upd H' D o):=λ b u e=>by
 rw [aw (az e h)]
 exact s b u e
def uD {r:List cq} {i:Nat} {x y:cq} (h:r[i]?=some x) (H:r[i+1]?=some y):(List.zipWith bg r r.tail)[i]?=some (bg x y):=by
 rw [List.getElem?_zipWith,h]
 have:r.tail[i]?=some y:=by rw [aet];exact H
 rw [this]
section
variable {K:aE} {C:am} {H H1:Hp} {a:am} {fp:bJ} {m:av}
def Ey {dx B R l t p G Q N:am} {X vs Y:aB} {r:List cq} (hh:aZ K C H a fp m) (s:aG H H1) (ha:H a=some (.ins C dx (lF m B R l t))) (gH:H B=some (.lst X)) (g:H l=some (.lst vs)) (I:H t=some (.lst Y)) (v:H p=none) (Bl:H1 p=some (.lst (X++[.ref G]))) (dr:Dn K H1 (vj r) (.ref G)) (nE:m.rows.length<4) (hr:∀ f∈r,dY 100 f) (hl:2<=r.length/\r.length<=7) (F:∀ H',Dn K H' (dW (0,1)) (.ref N)) (wr:upd H1 a (.ins C dx (aQ "mark_rows" (.ref p) (lF m B R l t))) Q=none) :
   ∃ mI,sL K C H a fp (m.sW r) (upd (upd (upd (upd H1 a (.ins C dx (aQ "mark_rows" (.ref p) (lF m B R l t)))) Q (.tup [.ref N,.ref N,.ref N])) l (.lst (vs++[.ref Q]))) t (.lst (Y++[.cC]))) mI:=by
 obtain ⟨⟨A,DU,V,S,q,NS,T,D,j6,pY,w,J,Ma,M,zf,EE,n1,n2,L,dm,ds,dt,df,fk⟩,q1,q2,q3,u⟩:=hh
 obtain ⟨rfl,rfl,rfl,rfl,rfl⟩:=oQ (w.symm.trans ha)
 obtain rfl:NS=X:=by
   have:=Ma.symm.trans gH
   injection this with e
   injection e
 obtain rfl:T=vs:=by
   have:=zf.symm.trans g
   injection this with e
   injection e
 obtain rfl:D=Y:=by
   have:=EE.symm.trans I
   injection this with e
   injection e
 let H2:=upd H1 a (.ins C A (aQ "mark_rows" (.ref p) (lF m DU V S q)))
 let H3:=upd H2 Q (.tup [.ref N,.ref N,.ref N])
 let H4:=upd H3 S (.lst (T++[.ref Q]))
 let H5:=upd H4 q (.lst (D++[.cC]))
 have W:∀ {b o},H1 b=some o->b≠a->H2 b=some o:=λ h n=>by show upd _ _ _ _=_;rw [aw n];exact h
 have E:aG H2 H3:=ak wr
 have na:H2 a=some (.ins C A (aQ "mark_rows" (.ref p) (lF m DU V S q))):=ag
 have Qq:=eK w g nofun
 have R6:=eK w I nofun
 have PN:H2 S=some (.lst T):=W (s _ _ g) Qq.symm
 have XM:H2 q=some (.lst D):=W (s _ _ I) R6.symm
 have Xr:=E _ _ PN
 have Ya:=E _ _ XM
 have X5:H4 q=some (.lst D):=by show upd _ _ _ _=_;rw [aw L.symm];exact Ya
 have OA:aT K H1 H2:=bV (s _ _ w) rfl
 have U:aT K H3 H4:=bV Xr rfl
 have SD:aT K H4 H5:=bV X5 rfl
 have Zt:=U.trans SD
 have Zx:=OA.trans ((aG.ts E).trans Zt)
 have d:=(aG.ts (K:=K) s).trans Zx
 have w5:∀ {b o},H2 b=some o->b≠S->b≠q->H5 b=some o:=λ h x y=>by
   show upd _ _ _ _=_
   rw [aw y]
   show upd _ _ _ _=_
   rw [aw x]
   exact E _ _ h
 have wo:∀ {b o},H b=some o->b≠a->b≠S->b≠q->H5 b=some o:=λ h x y z=>w5 (W (s _ _ h) x) y z
 have O:p≠a:=(az w v).symm
 have k:p≠S:=(az g v).symm
 have Zu:p≠q:=(az I v).symm
 have ab:Q≠S:=(az PN wr).symm
 have Xw:H5 S=some (.lst (T++[.ref Q])):=by
   show upd _ _ _ _=_
   rw [aw L]
   exact ag
 refine ⟨[a,A,p,V,S,q],⟨⟨A,p,V,S,q,NS++[.ref G],T++[.ref Q],D++[.cC],j6,rfl,?_,wo J (eK J w nofun) (eK J g nofun) (eK J I nofun),w5 (W Bl O) k Zu,wo M (eK M w nofun) (eK M g nofun) (eK M I nofun),Xw,ag,k,Zu,L,?_,?_,?_,λ i j=>(df i j).ts d,fk⟩,?_,?_,?_,?_⟩,?_,d,?_⟩
 . exact w5 na Qq R6
 . show bL K H5 ((m.rows++[r]).map vj) _
   rw [aai]
   exact (kA d dm).snoc (Dn.ts Zx _ (Am r) dr)
 . show bL K H5 ((m.aN++[((0,1),(0,1),(0,1))]).map pF) _
   rw [aai]
   exact (jh d ds).snoc (Dn.ts Zt _ (tY _) (Gf (s:=((0,1),(0,1),(0,1))) (bY.of ag) (F _) (F _) (F _)))
 . show bL K H5 ((m.bv++[none]).map fz) _
   rw [aai]
   exact (hG d dt).snoc rfl
 . show (m.aN++[_]).length=(m.rows++[r]).length
   rw [aaf,aaf,q1];rfl
 . show (m.bv++[_]).length=(m.rows++[r]).length
   rw [aaf,aaf,q2];rfl
 . show (m.rows++[r]).length<=4
   rw [aaf];exact nE
 .
  refine ⟨λ x c=>?_,λ x c=>?_,u.cb,λ x c=>?_,λ x c=>?_⟩
  . rcases aaz.mp c with h|h
    . exact u.rows x h
    . rw [aac.mp h];exact hr
  . rcases aaz.mp c with h|h
    . exact u.len x h
    . rw [aac.mp h];exact hl
  . rcases aaz.mp c with h|h
    . exact u.aN x h
    . rw [aac.mp h];exact ⟨Gm,Gm,Gm⟩
  . rcases aaz.mp c with h|h
    . exact u.bv x h
    . cases aac.mp h
 .
  intro b o h n
  rw [pY] at n
  simp only [aab,aae,aaT,abL] at n
  exact wo h n.1 n.2.2.2.2.1 n.2.2.2.2.2
 .
  intro b hb
  rw [pY]
  simp only [aab,aae,aaT] at hb |-
  rcases hb with rfl|rfl|rfl|rfl|rfl|rfl
  . exact .inl (.inl rfl)
  . exact .inl (.inr (.inl rfl))
  . exact .inr v
  . exact .inl (.inr (.inr (.inr (.inl rfl))))
  . exact .inl (.inr (.inr (.inr (.inr (.inl rfl)))))
  . exact .inl (.inr (.inr (.inr (.inr (.inr rfl)))))
end
structure jw (K:aE) (C x dx:am) (H H':Hp) (fs:List (Str×V)):Prop where
 st:∀ b o,H b=some o->b≠x->H' b=some o
 ts:aT K H H'
 at_:H' x=some (.ins C dx fs)
section
variable {K:aE} {C x dx:am} {H H':Hp} {fs fs':List (Str×V)}
def jw.start (h:H x=some (.ins C dx fs)):jw K C x dx H H fs:=⟨λ Z Z h Z=>h,aT.refl _,h⟩
def jw.put (B:jw K C x dx H H' fs):jw K C x dx H (upd H' x (.ins C dx fs')) fs':=⟨λ b o h n=>by rw [aw n];exact B.st b o h n,B.ts.trans (bV B.at_ rfl),ag⟩
def jw.new {p:am} (B:jw K C x dx H H' fs) (a:H' p=none):jw K C x dx H (upd H' p o) fs:=⟨λ b u h n=>by rw [aw (az (B.st b u h n) a)];exact B.st b u h n,B.ts.trans (aG.ts (ak a)),by rw [aw (az B.at_ a)];exact B.at_⟩
def jw.keep {b:am} (B:jw K C x dx H H' fs) (h:H' b=some o) (n:b≠x):(upd H' x u) b=some o:=by rw [aw n];exact h
theorem jw.none {p:am} (B:jw K C x dx H H' fs) (h:H' p=none):H p=Option.none:=by
 cases e:H p with
 | none=>rfl
 | some o =>
   by_cases q:p=x
   . rw [q,B.at_] at h;cases h
   . rw [B.st p o e q] at h;cases h
def jw.ne {p:am} (B:jw K C x dx H H' fs) (h:H' p=Option.none):p≠x:=λ q=>by rw [q,B.at_] at h;cases h
def Cs {a:Type} {p:a->Prop} (x:a) (h:x∈([]:List a)):p x:=absurd h aae
def Gh {p d a c:am} {most d6 load:Int} (B:jw K C x dx H H' (lF (av.new most d6 load) p d a c)) (q:H x=some (.ins C dx fs')) (j:H dx=some (.own x)) (i:H' p=some (.lst [])) (k:H' d=some (.dT [])) (l:H' a=some (.lst [])) (m:H' c=some (.lst [])) (N:H p=none) (r:H d=none) (s:H a=none) (t:H c=none) (E:p≠a) (f:p≠c) (g:a≠c) :
   sL K C H x [x,dx] (av.new most d6 load) H' [x,dx,p,d,a,c]:=by
 refine ⟨⟨⟨dx,p,d,a,c,[],[],[],[],rfl,B.at_,B.st _ _ j (eK j q nofun),i,k,l,m,E,f,g,rfl,rfl,rfl,λ Z Z=>trivial,acs,Cs⟩,rfl,rfl,aaZ _,⟨Cs,Cs,λ Z Z Z h=>(by cases h),Cs,λ Z h=>absurd h aae⟩⟩,?_,B.ts,?_⟩
 . intro b o h n
   simp only [aab,aae,aaT,abL] at n
   exact B.st b o h n.1
 .
  intro b e
  simp only [aab,aae,aaT] at e |-
  rcases e with rfl|rfl|rfl|rfl|rfl|rfl
  . exact .inl (.inl rfl)
  . exact .inl (.inr rfl)
  . exact .inr N
  . exact .inr r
  . exact .inr s
  . exact .inr t
end
def lt1000 {n:Nat} (h:Nat.ble (n+1) 1000=true):n<1000:=Nat.le_of_ble_eq_true h
def C1 (i j:Int):Int:=reduceHash (Builtin.Tuple.tupleHashOf [hashInt i,hashInt j])
def Dx:∀ i j I J:Fin 4,C1 (i.val:Int) (j.val:Int)=C1 (I.val:Int) (J.val:Int)->i=I/\j=J:=by decide +kernel
def EB (i:Nat) (hi:i<4) (j:Nat) (H:j<4) (I:Nat) (W:I<4) (J:Nat) (U:J<4) (h:C1 (i:Int) (j:Int)=C1 (I:Int) (J:Int)):i=I/\j=J:=by
 obtain ⟨a,b⟩:=Dx ⟨i,hi⟩ ⟨j,H⟩ ⟨I,W⟩ ⟨J,U⟩ h
 exact ⟨abE Fin.val a,abE Fin.val b⟩
def rW.hash {P:bD} {w:bz} {A:List (List Key×V)} (h:rW A):(A.map λ k=>tupleKeyHash (cO P w) k.1).Nodup:=by
 have H:=adt.mp h.1
 refine adt.mpr (H.imp_of_mem λ {a b} d f n e=>?_)
 obtain ⟨i,j,hi,g,E⟩:=h.2 a d
 obtain ⟨I,J,W,U,c⟩:=h.2 b f
 rw [E,c] at e
 obtain ⟨z,l⟩:=EB i hi j g I W J U e
 exact n (by rw [E,c,z,l])
def JK:Option Int->V
 | none => .cC
 | some n => .int n
def BR {U:St} {Q:VK} {t:TE} {k:Nat} {o:Option Int} {d:Int} (a:U[k]?=some (some (JK o))) (b:∀ q:VK,q (.int d) H->t U H q) (h:Q (.int (o.getD d)) H) :
   Y4 (Gc (QC (λ x y H Q=>y = .cC/\Q (.bl (decide (x = .cC))) H) (Im k) (tC .cC))) t (Im k) U H Q:=by
 refine ⟨_,by rw [a],rfl,_,rfl,?_⟩
 cases o with
 | none=>exact qG rfl (b Q h)
 | some n=>exact oY nofun ⟨_,a,h⟩
def av.with (m:av) (x y z:Option Int):av:={ m with most:=x.getD m.most,d6:=y.getD m.d6,load:=z.getD m.load }
def av.Nd (m:av):Prop:=(0<=m.most/\m.most<=4)/\(0<=m.d6/\m.d6<=30)/\(0<=m.load/\m.load<=30)
inductive tz (K:aE) (C:am) (vs:aB) (H:Hp) (Q:VK) (_E:XK):Prop|mk (a fp m x y z:_) (_:vs=[.ref a,JK x,JK y,JK z]) (_:aZ K C H a fp m) (_:(m.with x y z).Nd) (_:∀ b H' mI,aG H H'->aZ K C H' b mI (m.with x y z)->(∀ c∈mI,H c=none)->Q (.ref b) H')
def JT {K:aE} {C:am} {H1:Hp} {a x dx:am} {S:bJ} {m m':av} {l c L b:am} {v vs f:aB} {A:List (List Key×V)} {o g p h k:am} (hh:aZ K C H a S m) (ha:H a=some (.ins C o (lF m g p h k))) (U:H g=some (.lst v)) (mQ:H p=some (.dT A)) (W:H h=some (.lst vs)) (iM:H k=some (.lst f)) (s:aG H H1) (e:m'.rows=m.rows/\m'.cb=m.cb/\m'.aN=m.aN/\m'.bv=m.bv) (B:jw K C x dx H1 H' (lF m' l c L b)) (ju:H' dx=some (.own x)) (X:H' l=some (.lst v)) (Y:H' c=some (.dT A)) (h3:H' L=some (.lst vs)) (h4:H' b=some (.lst f)) (G:l≠L) (I:l≠b) (O:L≠b):aZ K C H' x [x,dx,l,c,L,b] m':=by
 obtain ⟨⟨AM,DU,vx,si,qS,N,T,D,J,pY,wK,u,M,mZ,zf,E,n1,n2,n3,y,z,F,w,Q⟩,q1,q2,q3,q⟩:=hh
 obtain ⟨rfl,rfl,rfl,rfl,rfl⟩:=oQ (wK.symm.trans ha)
 obtain rfl:N=v:=by
   have:=M.symm.trans U
   injection this with e
   injection e
 obtain rfl:T=vs:=by
   have:=zf.symm.trans W
   injection this with e
   injection e
 obtain rfl:D=f:=by
   have:=E.symm.trans iM
   injection this with e
   injection e
 obtain rfl:J=A:=by
   have:=mZ.symm.trans mQ
   injection this with e
   injection e
 have t:=(aG.ts (K:=K) s).trans B.ts
 obtain ⟨r,n,R,d⟩:=e
 refine ⟨⟨dx,l,c,L,b,N,T,D,J,rfl,B.at_,ju,X,Y,h3,h4,G,I,O,?_,?_,?_,λ i j=>?_,Q⟩,?_,?_,?_,⟨?_,?_,?_,?_,?_⟩⟩
 . rw [r];exact kA t y
 . rw [R];exact jh t z
 . rw [d];exact hG t F
 . rw [n];exact (w i j).ts t
 . rw [r,R];exact q1
 . rw [r,d];exact q2
 . rw [r];exact q3
 . rw [r];exact q.rows
 . rw [r];exact q.len
 . rw [n];exact q.cb
 . rw [R];exact q.aN
 . rw [d];exact q.bv
structure nH where
 a:Int
 b:Int
 t:Int
 d:Int
structure nH.Ok (s:nH):Prop where
 a0:1<=s.a
 a1:s.a<=10 ^ 9
 b0:1<=s.b
 b1:s.b<=10 ^ 9
 t0 : -(10 ^ 9)<=s.t
 t1:s.t<=10 ^ 9
 d0:1<=s.d
 d1:s.d<=10 ^ 9
abbrev nH.vs (s:nH):aB:=[.int s.a,.int s.b,.int s.t,.int s.d]
inductive Hr (vs:aB) (H:Hp) (Q:VK) (_E:XK):Prop|mk (c:Int) (_:vs=[.int c]) (_:∀ p H' (s:nH),s.Ok->aG H H'->H' p=some (.tup s.vs)->Q (.ref p) H')
def eh (n parts:Int) (s:nH):Int:=n * s.a * s.d+parts * s.t * s.b
def gQ (parts:Int) (s:nH):Int:=parts * s.b * s.d
def aR (n parts:Int) (s:nH):cq:=nf (eh n parts s) (gQ parts s)
def fZ {parts:Int} {s:nH} (h:s.Ok) (H:0<parts):0<gQ parts s:=aaN (aaN H (by have:=h.b0;lia)) (by have:=h.d0;lia)
def IX {x:Int} (h0 : -(10 ^ 9)<=x) (h:x<=10 ^ 9):Bd 30 x:=by show x.natAbs<2 ^ 30;lia
section
variable {s:nH}
def nH.Ok.ba (h:s.Ok):Bd 30 s.a:=IX (by have:=h.a0;lia) h.a1
def nH.Ok.bb (h:s.Ok):Bd 30 s.b:=IX (by have:=h.b0;lia) h.b1
def nH.Ok.bt (h:s.Ok):Bd 30 s.t:=IX h.t0 h.t1
def nH.Ok.bd (h:s.Ok):Bd 30 s.d:=IX (by have:=h.d0;lia) h.d1
end
def Ck {N parts:Int} {s:nH} {n:Nat} (h:s.Ok) (H:0<parts) (g:Bd n N) (B:Bd n parts):dY (n+61) (aR N parts s):=by
 have F:=il (t:=eh N parts s) (fZ h H)
 have c:Bd (n+60) (N * s.a * s.d):=((g.mul h.ba).mul h.bd).mono (by lia)
 have e:Bd (n+60) (parts * s.t * s.b):=((B.mul h.bt).mul h.bb).mono (by lia)
 have f:Bd (n+60) (gQ parts s):=((B.mul h.bb).mul h.bd).mono (by lia)
 exact ⟨(F.OC (c.add e)).mono (by lia),(F.Oa f).mono (by lia),F.pos⟩
def gW {x y parts:Int} {s:nH} (h:s.Ok) (b:0<parts):bg (aR x parts s) (aR y parts s)=decide (x<y):=by
 have F:=il (t:=eh x parts s) (fZ h b)
 have G:=il (t:=eh y parts s) (fZ h b)
 have H:=fZ h b
 have e:(aR x parts s).1 * (aR y parts s).2<(aR y parts s).1 * (aR x parts s).2↔eh x parts s<eh y parts s:=by
   have c:(aR x parts s).1 * gQ parts s=eh x parts s * (aR x parts s).2:=F.jU
   have C:(aR y parts s).1 * gQ parts s=eh y parts s * (aR y parts s).2:=G.jU
   have p:0<(aR x parts s).2:=F.pos
   have f:0<(aR y parts s).2:=G.pos
   generalize (aR x parts s).1=q at c |-
   generalize (aR x parts s).2=r at c p |-
   generalize (aR y parts s).1=Q at C |-
   generalize (aR y parts s).2=r2 at C f |-
   generalize eh x parts s=T at c |-
   generalize eh y parts s=g at C |-
   generalize gQ parts s=B at c C H
   have k:(q * r2) * B=T * (r * r2):=by rw [aaU,c,abx]
   have K:(Q * r) * B=g * (r * r2):=by rw [aaU,C,abx,acl r2 r]
   have R:0<r * r2:=aaN p f
   constructor
   . intro l
     have:=abg l H
     rw [k,K] at this
     exact abh this (abd R)
   . intro l
     have:=abg l R
     rw [<- k,<- K] at this
     exact abh this (abd H)
 unfold bg
 refine ace.mpr (e.trans ?_)
 have Y:0<s.a * s.d:=aaN (by have:=h.a0;lia) (by have:=h.d0;lia)
 unfold eh
 rw [abx x,abx y]
 constructor
 . intro l
   exact abh (by lia:x * (s.a * s.d)<y * (s.a * s.d)) (abd Y)
 . intro l
   have:=abg l Y
   lia
structure StI (z:Int×Int×Int×Int):Prop where
 h:0<=z.1/\z.1<=25
 w:0<=z.2.1/\z.2.1<=9
 s:0<=z.2.2.1/\z.2.2.1<=3
 f:0<=z.2.2.2/\z.2.2.2<=3
def cU (H:Hp) (L:bJ):Hp:=λ b=>if b∈L then none else H b
section
variable {K:aE} {H H':Hp} {L:bJ} {a:am} {o:HO}
def gk:aG (cU H L) H:=λ b u h=>by
 unfold cU at h
 split at h
 . cases h
 . exact h
def iz (h:H a=some o) (n:a∉L):cU H L a=some o:=by unfold cU;rw [aax n];exact h
def j5 (h:a∈L):cU (upd H a o) L=cU H L:=by
 funext b
 unfold cU
 split
 . rfl
 . rename_i n
   rw [aw (λ e=>n (by rw [e];exact h))]
def md (s:aG H H'):aG (cU H L) (cU H' L):=λ b u h=>by
 unfold cU at h |-
 split at h
 . cases h
 . rename_i n
   rw [aax n]
   exact s b u h
def Ca (H:Hp) (L:bJ):Prop:=∀ b∈L,∃ o,H b=some o/\Ai o=true
def Gs (h:Ca H L):aT K H (cU H L):=λ b x q=>by
 have n:∀ u,H b=some u->Ai u=false->b∉L:=λ u e z y=>by
   obtain ⟨o,E,n⟩:=h b y
   rw [e] at E
   cases E
   rw [n] at z
   cases z
 rcases q with (q|⟨O,q⟩)|q
 . exact .inl (.inl (iz q (n _ q rfl)))
 . exact .inl (.inr ⟨O,iz q (n _ q rfl)⟩)
 . exact .inr q
end
structure bR where
 marks:List (List Int)
 oK:List (Int×Int×Int)
 bv:List (Option (Int×Int×Int×Int))
 cb:Nat->Nat->Option Int
 scale:nH
 bounds:Int×Int×Int
section
variable {m:bR}
def bR.j4 (m:bR) (i j:Nat) (k:Int):bR:={ m with cb:=λ a b=>if a=i/\b=j then some k else m.cb a b }
end
def JG (l:List Int):Prop:=∀ i x y,l[i]?=some x->l[i+1]?=some y->x<y
structure Rb (n:Nat) (l:List Int):Prop where
 two:2<=l.length
 most:l.length<=if n<=2 then 7 else 5
 ris:JG l
 bd:∀ x∈l,-200<=x/\x<=200
structure bR.Ok (n i:Nat) (m:bR):Prop where
 lm:m.marks.length=i
 ls:m.oK.length=i
 lt:m.bv.length=i
 rows:∀ l∈m.marks,Rb n l
 oK:∀ z∈m.oK,(0<=z.1/\z.1<=3)/\(-30<=z.2.1/\z.2.2<=60)/\z.2.1<=z.2.2/\z.2.2<=z.2.1+30
 bv:∀ z,some z∈m.bv->StI z
 cb:∀ a b,a<i->b<n->a≠b->∃ k,m.cb a b=some k/\0<=k/\k<=3
 scale:m.scale.Ok
 bounds:(0<=m.bounds.1/\m.bounds.1<=4)/\(0<=m.bounds.2.1/\m.bounds.2.1<=30)/\(0<=m.bounds.2.2/\m.bounds.2.2<=30)
end L2
namespace Mth
def Ov (W k:Int) (f:Int×Int):Prop:=f.1 * W=k * f.2/\0<f.2
theorem Ov.nf {W k:Int} (h:0<W):Ov W k (nf k W):=by
 have F:=il (t:=k) h
 exact ⟨F.jU,F.pos⟩
def L3 {W:Int}:Ov W W (1,1):=⟨by show 1 * W=W * 1;lia,by decide⟩
def yq {W:Int}:Ov W 0 (0,1):=⟨by show 0 * W=0 * 1;lia,by decide⟩
def Ov.minus {W a b:Int} {x y:Int×Int} (h:Ov W a x) (k:Ov W b y):Ov W (a - b) (nS x y):=by
 have F:=il (t:=x.1 * y.2 - y.1 * x.2) (b:=x.2 * y.2) (aaN h.2 k.2)
 refine ⟨?_,F.pos⟩
 have c:=F.jU
 have H:=h.1
 have d:=k.1
 have p:0<x.2 * y.2:=aaN h.2 k.2
 show (Mth.nf (x.1 * y.2 - y.1 * x.2) (x.2 * y.2)).1 * W=(a - b) * (Mth.nf (x.1 * y.2 - y.1 * x.2) (x.2 * y.2)).2
 generalize (Mth.nf (x.1 * y.2 - y.1 * x.2) (x.2 * y.2)).1=q at c |-
 generalize (Mth.nf (x.1 * y.2 - y.1 * x.2) (x.2 * y.2)).2=r at c |-
 refine abw (ab6 p) ?_
 have e:x.1 * y.2 * W=a * (x.2 * y.2):=by rw [aaU,H,abx]
 have E:y.1 * x.2 * W=b * (x.2 * y.2):=by rw [aaU,d,abx,acl y.2]
 calc q * W * (x.2 * y.2)=(q * (x.2 * y.2)) * W:=by rw [aaU]
   _=(x.1 * y.2 - y.1 * x.2) * r * W:=by rw [c]
   _=((x.1 * y.2 - y.1 * x.2) * W) * r:=by rw [aaU]
   _=(a * (x.2 * y.2) - b * (x.2 * y.2)) * r:=by rw [Int.sub_mul,e,E]
   _=(a - b) * r * (x.2 * y.2):=by rw [<- Int.sub_mul,aaU]
def Ov.plus {W a b:Int} {x y:Int×Int} (h:Ov W a x) (k:Ov W b y):Ov W (a+b) (mq x y):=by
 have F:=il (t:=x.1 * y.2+y.1 * x.2) (b:=x.2 * y.2) (aaN h.2 k.2)
 refine ⟨?_,F.pos⟩
 have c:=F.jU
 have H:=h.1
 have d:=k.1
 have p:0<x.2 * y.2:=aaN h.2 k.2
 show (Mth.nf (x.1 * y.2+y.1 * x.2) (x.2 * y.2)).1 * W=(a+b) * (Mth.nf (x.1 * y.2+y.1 * x.2) (x.2 * y.2)).2
 generalize (Mth.nf (x.1 * y.2+y.1 * x.2) (x.2 * y.2)).1=q at c |-
 generalize (Mth.nf (x.1 * y.2+y.1 * x.2) (x.2 * y.2)).2=r at c |-
 refine abw (ab6 p) ?_
 have e:x.1 * y.2 * W=a * (x.2 * y.2):=by rw [aaU,H,abx]
 have E:y.1 * x.2 * W=b * (x.2 * y.2):=by rw [aaU,d,abx,acl y.2]
 calc q * W * (x.2 * y.2)=(q * (x.2 * y.2)) * W:=by rw [aaU]
   _=(x.1 * y.2+y.1 * x.2) * r * W:=by rw [c]
   _=((x.1 * y.2+y.1 * x.2) * W) * r:=by rw [aaU]
   _=(a * (x.2 * y.2)+b * (x.2 * y.2)) * r:=by rw [Int.add_mul,e,E]
   _=(a+b) * r * (x.2 * y.2):=by rw [<- Int.add_mul,aaU]
def Ov.under {W a b:Int} {x y:Int×Int} (H:0<W) (h:Ov W a x) (k:Ov W b y):bg x y=decide (a<b):=by
 unfold bg
 refine ace.mpr ?_
 have p:0<x.2 * y.2:=aaN h.2 k.2
 have e:x.1 * y.2 * W=a * (x.2 * y.2):=by rw [aaU,h.1,abx]
 have E:y.1 * x.2 * W=b * (x.2 * y.2):=by rw [aaU,k.1,abx,acl y.2]
 constructor
 .
  intro l
  have:=abg l H
  rw [e,E] at this
  exact abh this (abd p)
 .
  intro l
  have:=abg l p
  rw [<- e,<- E] at this
  exact abh this (abd H)
end Mth
namespace L2
open PySem PySem.Spec PyProof.Rows Mth
variable {H:Hp} {elts:List Expr} {ta:TA} {o8:Pos} {x1:Nat}
def sumF (fl:Nat->Nat->Int) (i:Nat):Nat->Int
 | 0=>0
 | t+1=>sumF fl i t+fl i t
structure xj (W:Int) (sk:Nat->Int) (fl:Nat->Nat->Int) (m:av):Prop where
 oK:∀ i,Ov W (sk i) (m.fO i)
 kq:∀ i j,Ov W (fl i j) (m.kq i j)
theorem xj.ge {W:Int} {s:Nat->Int} {fl:Nat->Nat->Int} {m:av} (h:xj W s fl m) (i:Nat):∀ t,Ov W (W - s i - sumF fl i t) (m.ge i t)
 | 0=>by
   have:=(L3 (W:=W)).minus (h.oK i)
   have e:W - s i - sumF fl i 0=W - s i:=by show W - s i - 0=_;lia
   rw [e]
   exact this
 | t+1=>by
   rw [av.n9]
   have:=(h.ge i t).minus (h.kq i t)
   have e:W - s i - sumF fl i (t+1)=W - s i - sumF fl i t - fl i t:=by show W - s i - (sumF fl i t+fl i t)=_;lia
   rw [e]
   exact this
theorem xj.own {W:Int} {s:Nat->Int} {fl:Nat->Nat->Int} {m:av} (h:xj W s fl m) (i:Nat):Ov W (W - s i - sumF fl i m.rows.length) (m.own i):=h.ge i _
def xj.yo {W k:Int} {s:Nat->Int} {fl:Nat->Nat->Int} {m:av} {f:cq} {i:Nat} (H:0<W) (h:xj W s fl m) (a:Ov W k f) (l:k<=W - sumF fl i m.rows.length):bg (mq (m.own i) (m.fO i)) f=false:=by
 rw [((h.own i).plus (h.oK i)).under H a]
 exact aap (by lia)
def xj.ut {W k:Int} {s:Nat->Int} {fl:Nat->Nat->Int} {m:av} {f:cq} {i j:Nat} (H:0<W) (h:xj W s fl m) (a:Ov W k f) (l:k<=W - s i - sumF fl i m.rows.length+fl i j):bg (mq (m.own i) (m.kq i j)) f=false:=by
 rw [((h.own i).plus (h.kq i j)).under H a]
 exact aap (by lia)
def bR.row (t:bR) (l:List Int):List cq:=l.map λ x=>aR x 1 t.scale
def bR.m1 (t:bR) (k:Nat):av:=((t.marks.take k).map t.row).foldl av.sW (av.new t.bounds.1 t.bounds.2.1 t.bounds.2.2)
def bR.Ks (t:bR) (z:Int×Int×Int):cq×cq×cq:=(nf z.1 12,aR z.2.1 1 t.scale,aR z.2.2 1 t.scale)
def bR.CI (t:bR) (z:Int×Int×Int×Int):cq×Int×Int×Int:=(nf (z.1 * t.scale.a) t.scale.b,z.2.1,z.2.2.1,z.2.2.2)
def bR.JP (t:bR) (m:av) (i:Nat):av:=match t.oK[i]? with|some z=>m.rE i (t.Ks z)|none=>m
def bR.Er (t:bR) (m:av) (i:Nat):av:=match t.bv[i]? with|some (some z)=>m.jW i (t.CI z)|_=>m
def bR.Ft (t:bR) (i:Nat) (m:av) (j:Nat):av:=if j=i then m else match t.cb i j with|some k=>m.j4 i j (nf k 12)|none=>m
def bR.Jz (t:bR) (i:Nat) (m:av) (j:Nat):av:=(List.range j).foldl (t.Ft i) m
def bR.FG (t:bR) (n:Nat) (m:av) (i:Nat):av:=t.Jz i (t.Er (t.JP m i) i) n
def bR.m2 (t:bR) (n k:Nat):av:=(List.range k).foldl (t.FG n) (t.m1 n)
def sL.keep {K:aE} {C:am} {c d:Hp} {a:am} {f m:bJ} {m':av} (S:aG c H) (n:∀ b∈f,c b=none) (D:sL K C H a f m' d m):aG c d/\∀ b∈m,c b=none:=by
 refine ⟨λ b o h=>D.but b o (S b o h) λ q=>?_,λ b e=>?_⟩
 . rw [n b q] at h;cases h
 . rcases D.own b e with q|q
   . exact n b q
   . exact S.free q
theorem rT {K:aE}:∀ {l:List Int} {w:aB},bL K H (l.map PyData.int) w->w=l.map V.int
 | [],_,h=>h
 | x::l,_,h=>by
   obtain ⟨y,r,rfl,e,t⟩:=h
   have e:y = .int x:=e
   rw [e,rT t];rfl
def mJ {a:Type} (l:List a) (g:a->cq):∀ d∈l.map (λ x=>dW (g x)),eQ d=true:=λ d h=>by
 obtain ⟨x,Z,rfl⟩:=aaE.mp h
 exact iP _
def Ov.nonneg {W k:Int} {f:cq} (H:0<W) (h:Ov W k f) (a:0<=k):0<=f.1:=by
 have e:=h.1
 have:0<=f.1 * W:=by rw [e];exact abY a (abd h.2)
 exact Int.nonneg_of_mul_nonneg_left this H
def G5 {t b:Int} (a:0<b) (h:Bd 100 t) (H:Bd 100 b):dY 100 (nf t b):=by
 have F:=il (t:=t) a
 exact ⟨F.OC h,F.Oa H,F.pos⟩
def Yf {x:Int} (h:x.natAbs<2 ^ 100):dY 100 (x,1):=⟨h,xD.b,xD.p⟩
def MC:Nat->PyData->Prop
 | _,.none=>True
 | _,.bool _=>True
 | _,.int _=>True
 | n+1,.list D=>∀ d∈D,MC n d
 | n+1,.tuple D=>∀ d∈D,MC n d
 | _,_=>False
theorem ya {n:Nat} (h:∀ d,MC n d->PyData.eqv d d=true/\d.canLay0=true/\d.depth<=n):∀ D:List PyData,(∀ d∈D,MC n d)->PyData.eqvAll D D=true/\PyData.canLayAll0 D=true/\PyData.depthAll D<=n
 | [],_=>by simp [PyData.eqvAll,PyData.canLayAll0,PyData.depthAll]
 | d::D,k=>by
   obtain ⟨a,b,c⟩:=h d (k d aar)
   obtain ⟨A,B,C⟩:=ya h D (λ e H=>k e (aaj _ H))
   simp only [PyData.eqvAll,PyData.canLayAll0,PyData.depthAll,a,b,A,B,Bool.and_self,aeo]
   lia
theorem tV:∀ (n:Nat) (d:PyData),MC n d->PyData.eqv d d=true/\d.canLay0=true/\d.depth<=n
 | n,.none,_=>by simp [PyData.eqv,PyData.canLay0,PyData.depth]
 | n,.bool b,_=>by simp [PyData.eqv,PyData.canLay0,PyData.depth]
 | n,.int i,_=>by simp [PyData.eqv,PyData.canLay0,PyData.depth]
 | n+1,.list D,h=>by
   obtain ⟨a,b,c⟩:=ya (tV n) D h
   simp only [PyData.eqv,PyData.canLay0,PyData.depth,a,b,aeo]
   lia
 | n+1,.tuple D,h=>by
   obtain ⟨a,b,c⟩:=ya (tV n) D h
   simp only [PyData.eqv,PyData.canLay0,PyData.depth,a,b,aeo]
   lia
 | 0,.list _,h=>h.elim
 | 0,.tuple _,h=>h.elim
 | 0,.str _,h=>h.elim
 | _+1,.str _,h=>h.elim
 | 0,.dict _,h=>h.elim
 | _+1,.dict _,h=>h.elim
def uN {n:Nat} {d:PyData} (h:MC n d) (H:n<=64):SeqAt.shaped d=true:=by
 obtain ⟨Z,b,c⟩:=tV n d h
 unfold SeqAt.shaped
 rw [b,aaG (aaA c H)];rfl
def dZ {X:Cx} {K:aE} (h:X.K=K):ND X (Pf K):=by
 subst h
 exact ao
theorem tO:∀ {ns:List Int} {B:bM},Vals (ns.map V.int) B->∃ ys:List (Int×Tok),B=ys.map (λ p=>Value.int p.1 p.2)/\ys.map (·.1)=ns
 | [],B,r=>by cases r;exact ⟨[],rfl,rfl⟩
 | n::ns,B,r=>by
   cases r with
   | cons a b =>
     obtain ⟨t,rfl⟩:=a
     obtain ⟨ys,rfl,e⟩:=tO b
     exact ⟨(n,t)::ys,rfl,by rw [aaQ,e]⟩
section
variable {X:Cx}
def Ed (b:X.calm=true):iJ X (.builtin "sum") (λ xs H Q=>∃ (p:am) (ns:List Int),xs=[.ref p]/\aX X.K H p (ns.map V.int)/\∀ r:Int,r=ns.sum->Q (.int r) H):=by
 intro a s U H xs k Q I r h
 obtain ⟨p,ns,rfl,f,q⟩:=h
 obtain ⟨u,rfl,R⟩:=vals1 r
 obtain rfl:u=Value.ref p:=R
 obtain ⟨B,i,g,Z⟩:=I.list f
 obtain ⟨y,rfl,e⟩:=tO i
 have d:s.heap.IsList p (intItems y.toArray):=by have:=g.isList;simpa [intItems] using this
 refine sum_intListG (I.ok.hd b) d λ j T t c=>?_
 refine ⟨.int _,H,I.kept c,⟨t,rfl⟩,q _ ?_⟩
 rw [preSum_eq,abb (by simp),<- e]
end
def wF {X:Cx} {K:aE} (h:X.K=K):iJ X (.builtin "len") (λ xs H Q=>∃ p ys,xs=[.ref p]/\(aX K H p ys\/bY K H p ys)/\∀ r:Int,r=ys.length->Q (.int r) H):=by
 subst h
 exact bH
def ye:bootBuiltins "min" = some (.builtin "min"):=by decide +kernel
def Bq:bootBuiltins "max" = some (.builtin "max"):=by decide +kernel
def LU:bootBuiltins "sum" = some (.builtin "sum"):=by decide +kernel
def ki:bootBuiltins "enumerate" = some (.type "enumerate"):=by decide +kernel
def oI (r:List cq) (f g:cq) (b:Nat):Bool:=(!bg g (r.getD b (0,1))) && !bg (r.getD (b+1) (0,1)) f
def kM (r:List cq) (f g:cq) (n:Nat):aS:=(List.range n).filter (oI r f g)
def og (r:List cq) (f g:cq):aS:=kM r f g (r.length - 1)
def iS (r:List cq) (f g:cq):Bool:=(!bg f (r.getD 0 (0,1))) && !bg (r.getD (r.length - 1) (0,1)) g
def kC (r:List cq) (f g:cq) (n:Nat):kM r f g (n+1)=kM r f g n++if oI r f g n then [n] else []:=by
 unfold kM
 rw [aa6,abq]
 cases h:oI r f g n<;>simp [List.filter,h]
def mj (r:List cq) (f g:cq) (n:Nat):(kM r f g n).length<=n:=by
 have:=aa7 (oI r f g) (List.range n)
 rw [aam] at this
 exact this
def Ib {a:Type} {xs:List a} {x:a} (h0:0<xs.length) (h:xs[xs.length - 1]?=some x):oh xs (-1)=some x:=by
 unfold oh EU
 rw [aax (by lia),aau (by lia)]
 have e:((-1:Int)+(xs.length:Int)).toNat=xs.length - 1:=by lia
 simp only [Option.bind_some]
 first
   | (rw [e];exact h)
   | (have E:((xs.length:Int) + -1).toNat=xs.length - 1:=by lia
      rw [E];exact h)
def jy (n:Nat):PyData:=.int (n:Int)
theorem u5 {K:aE}:∀ l:aS,bL K H (l.map jy) (l.map aq)
 | []=>dS
 | n::l=>br rfl (u5 l)
def Dk {K:aE} {p:am} {l:aS} (h:aX K H p (l.map aq)):Dn K H (.list (l.map jy)) (.ref p):=rj h (u5 l)
def E6:([]:aB).length<=sizeLine:=aaZ _
def LS (ns:List Int) (lo hi:Option Int):List Int:=(ns.drop (HT.tf ns.length 0 lo)).take (HT.tf ns.length ns.length hi - HT.tf ns.length 0 lo)
def D3 (ns:List Int) (lo hi:Option Int):vF (ns.map V.int) lo hi=(LS ns lo hi).map V.int:=by
 unfold vF LS
 rw [No,<- List.map_drop,<- List.map_take]
section
variable {P:bD} {w:bz} {A:Around} {E:aA->Shared->Prop} {s:Shared}
def Be {j a:am} {i:Nat} {b:Array aA} {x:aA} {Q:aA->Shared->Prop} (h:s.heap.IsTupleIter j a i) (H:s.heap.IsTuple a b) (g:b[i]?=some x) (k:∀ h',h'.IsTupleIter j a (i+1)->Heap.SameBut j s.heap h'->Q x { s with heap:=h' }):wpAny (model P w) A (Builtin.SmallTypes.nextOf (.ref j)) Q E s:=by
 obtain ⟨O,e,c,d⟩:=id h
 obtain ⟨o,f,Z,N,D⟩:=H
 unfold Builtin.SmallTypes.nextOf
 refine aaa (ab0 (name:=Str.ofString "__next__") h.typeIs acm (acD acm h.typeIs aee ?_ (ad7 _)))
 refine aaa (m:=field (.ref j) 0) (abK e d (x:=.ref a) rfl ?_)
 have n:¬ ((Value.ref a == Value.none)=true):=aaC
 show wpAny _ _ (if (Value.ref a == Value.none)=true then _ else _) _ _ s
 rw [aax n]
 refine aaa (m:=field (.ref j) 1) (abK e d (x:=.int i 0) rfl ?_)
 refine aaa (m:=seqItems? (.ref a)) (acB f D ?_)
 simp only [aaV,g]
 refine aaa (wpAny_setField e d (by simp) (aao ⟨x,rfl,aao (k _ ⟨_,adq _ e (Obj.isFreed_of_fields (Obj.data_mapFields d _)),(Obj.cls_mapFields ..).trans c,?_⟩ (adC ..))⟩))
 rw [Obj.data_mapFields d]
 simp [rawInt]
def Dz {j a:am} {i:Nat} {B:Array aA} {Q:aA->Shared->Prop} (H:A.handled=none) (h:s.heap.IsTupleIter j a i) (g:s.heap.IsTuple a B) (l:B[i]?=none) (k:∀ h' e,Heap.ExtBut j s.heap h'->(∃ o,h'.get? e=some o/\o.cls = .type "StopIteration")->E (.ref e) { s with heap:=h' }):wpAny (model P w) A (Builtin.SmallTypes.nextOf (.ref j)) Q E s:=by
 obtain ⟨p,b,C,d⟩:=id h
 obtain ⟨O,c,Z,N,D⟩:=g
 unfold Builtin.SmallTypes.nextOf
 refine aaa (ab0 (name:=Str.ofString "__next__") h.typeIs acm (acD acm h.typeIs aee ?_ (ad7 _)))
 refine aaa (m:=field (.ref j) 0) (abK b d (x:=.ref a) rfl ?_)
 have n:¬ ((Value.ref a == Value.none)=true):=aaC
 show wpAny _ _ (if (Value.ref a == Value.none)=true then _ else _) _ _ s
 rw [aax n]
 refine aaa (m:=field (.ref j) 1) (abK b d (x:=.int i 0) rfl ?_)
 refine aaa (m:=seqItems? (.ref a)) (acB c D ?_)
 simp only [aaV,l]
 refine aaa (wpAny_rule (aaa (wpAny_setField b d (by simp) (aaa (m:=newExc (.type "StopIteration") []) ?_))))
 simp only [newExc,newTuple]
 refine aaa (abW (aaa (m:=firstArgMember _ _) (wpAny_of_eq (a:=Value.none) (by first|rfl|(simp only [firstArgMember];rfl)) (abW ?_ (by size_fits)))) (by size_fits))
 simp only [raiseNew]
 refine aaa (wpAny_handled ?_)
 have f:A.in1.handled=none:=H
 first|rw [f]|rw [H]
 exact aaa (aao (wpAny_throw (k _ _ (((adC ..).extBut.push _).push _) ⟨_,aaR _ rfl,rfl⟩)))
end
def GA {P:bD} {w:bz} {A:Around} (g:A.handled=none) (j a:am) (n:a≠j) (b:Array aA):Draws P w A j [j,a] b.size (λ i v=>b[i]?=some v) (λ i h=>h.IsTupleIter j a i/\h.IsTuple a b) where
 live:=λ Z Z S=>by
   obtain ⟨⟨o,e,Z⟩,Z⟩:=S
   exact ⟨o,e⟩
 frame:=λ Z Z Z S k=>by
   obtain ⟨H,O,d,r⟩:=S
   exact ⟨H.at λ o e=>k j (by simp) o e,O,k a (by simp) O d,r⟩
 item:=λ i s Q E hi S q=>Be S.1 S.2 (x:=b[i]) (by simp [hi]) λ f H c=>q _ f s.toks (by simp [hi]) ⟨H,S.2.extBut c.extBut n⟩ c
 done:=λ s Q E S q=>Dz g S.1 S.2 (by simp) q
set_option maxHeartbeats 1000000 in
def Ej (a:am) (o:Obj) (bI:Array aA) (n:Nat) (b:o.cls = .type "tuple") (e:o.data = .seq bI n) :
   Meets (Builtin.«enumerate.__new__» ⟨[.type "enumerate",.ref a],[]⟩) (λ _ R s=>s.heap.get? a=some o/\R (.ok (.ret (.ref (s.heap.push { cls:=.type "tuple_iterator",data:=.fields #[.ref a,.int 0 0]}).objs.size)))
     { s with heap:=(s.heap.push { cls:=.type "tuple_iterator",data:=.fields #[.ref a,.int 0 0]}).push { cls:=.type "enumerate",data:=.fields #[.none,.bool false,.ref s.heap.objs.size,rawInt 0,.none,.none]}}):=by
 obtain ⟨C,i,D,sl⟩:=o
 obtain rfl:C = .type "tuple":=b
 obtain rfl:D = .seq bI n:=e
 refine .of_wp λ P w A R s q=>?_
 obtain ⟨f,g,d,t,O⟩:=s
 obtain ⟨h,q⟩:=q
 have E:=sub_enumerate
 have H:Heap.IsTuple (Shared.heap ⟨f,g,d,t,O⟩) a bI:=⟨_,h,rfl,n,rfl⟩
 wp_walk using ade h
 refine wpAny_stack_any λ S=>aao ?_
 split
 . rename_i c _ _ _ _ _
   cases (c == Value.type "enumerate")<;>(wp_walk using ade h,wpAny_pyIter_tuple H;exact ⟨_,rfl,q⟩)
 . wp_walk using ade h,wpAny_pyIter_tuple H
   exact ⟨_,rfl,q⟩
section
variable {P:bD} {w:bz} {A:Around} {E:aA->Shared->Prop} {s:Shared}
def uH {a:am} {B:Array aA} {Q:aA->Shared->Prop} (c:s.heap.IsTuple a B) (k:∀ h',IsEnum h' (s.heap.objs.size+1) s.heap.objs.size 0 .none->h'.IsTupleIter s.heap.objs.size a 0->(∀ b o,s.heap.get? b=some o->h'.get? b=some o)->Q (.ref (s.heap.objs.size+1)) { s with heap:=h' }) :
   wpAny (model P w) A (call (.type "enumerate") [.ref a]) Q E s:=by
 obtain ⟨g,e,d,n,f⟩:=c
 refine callType_new F.called_enumerate (by decide) (F.typeCall_enumerate_1 _) (F.newCall_enumerate_1 _) (λ O=>F.args_object_init_2 O _) F.entry_enumerate_new (Ej a g B n d f) ⟨e,?_⟩
 have H:(s.heap.push { cls:=.type "tuple_iterator",data:=.fields #[.ref a,.int 0 0]}).objs.size=s.heap.objs.size+1:=ac5 ..
 have h:=aaR (s.heap.push { cls:=.type "tuple_iterator",data:=.fields #[.ref a,.int 0 0]}) (o:={ cls:=.type "enumerate",data:=.fields #[.none,.bool false,.ref s.heap.objs.size,rawInt 0,.none,.none]}) rfl
 rw [H] at h
 show _/\_
 rw [H]
 exact ⟨⟨_,h,rfl⟩,k _ h ⟨_,aal _ (aaR _ rfl),rfl,rfl⟩ λ b o x=>aal _ (aal _ x)⟩
end
def EY (sq:Hp->am->aB->Prop) (a:am):It :=
 ⟨λ i H=>∃ X x,sq H a X/\X[i]?=some x,
  λ i H v h=>∃ p x,H p=none/\v = .ref p/\h=upd H p (.tup [aq i,x])/\∀ X,sq H a X->X[i]?=some x,
  λ i H=>∃ X,sq H a X/\X.length=i⟩
def EnL (e j a:am) (i:Nat) (h:bE):Prop:=(∃ o,IsEnum h e j i o)/\h.IsListIter j a i
def EnT (e j a:am) (i:Nat) (h:bE):Prop:=(∃ o,IsEnum h e j i o)/\h.IsTupleIter j a i
def zd {P:bD} {w:bz} {K:aE} {e j a:am} (y:e≠j) (ae:a≠e) (L:a≠j):Turn P w K (.Tuple elts x1 o8) (EY (aX K) a) [e,j] e (EnL e j a) where
 mem:=by simp
 obj:=λ i h S c l=>by
   obtain ⟨⟨O,b⟩,oj,e2,Z,d2⟩:=S
   simp only [aab,aae,aaT] at l
   rcases l with rfl|rfl
   . exact ⟨_,b,λ v q=>by cases q⟩
   . exact ⟨oj,e2,λ v q=>by rw [d2] at q;cases q⟩
 keep:=λ i h z S k=>by
   obtain ⟨⟨O,b⟩,f⟩:=S
   exact ⟨⟨O,k e (by simp) _ b⟩,f.at λ o q=>k j (by simp) o q⟩
 item:=by
   intro X D G C l i m s U H E I n S F
   subst D G C
   obtain ⟨xs,x,r,N⟩:=F
   obtain ⟨B,R,p,hz⟩:=I.list r
   obtain ⟨u,M,ru⟩:=R.get N
   obtain ⟨⟨O,b⟩,f⟩:=S
   have Q:e<s.heap.objs.size:=aav b
   have lj:j<s.heap.objs.size:=by obtain ⟨o,q,Z⟩:=f;exact aav q
   have hi:i<B.toArray.size:=by
     have:=(Br.mp M).1
     simpa using this
   refine wpAny_pyNext_enum_itemD (Draws.list (A:=X.A.in1) (I.ok.hd l) j a L B.toArray) b ⟨f,p.isList⟩ hi y (by simp [y,ae.symm]) λ v z T t eo W ht ab kk=>?_
   obtain rfl:v=u:=by
     have t:B.toArray[i]?=some v:=t
     rw [aec,M] at t
     exact (aaq t).symm
   refine ⟨.ref s.heap.objs.size,rfl,aef (s:={ s with heap:=z,toks:=T+1 }) eo λ g he J=>?_⟩
   have V:∀ c o,c∉[e,j]->s.heap.get? c=some o->g.get? c=some o:=λ c o d q=>by
     simp only [aab,aae,aaT,abL] at d
     exact J.extBut _ _ d.1 (kk c o d.1 d.2 q)
   have n5:=J.extBut _ _ (aci Q) ht
   refine ⟨.ref s.heap.objs.size,upd H s.heap.objs.size (.tup [aq i,x]),I.yb (t':=T+1) V n (aak _) ⟨by show 2<=sizeLine;decide,[.int i T,v],.cons ⟨T,rfl⟩ (.cons ru .nil),⟨_,n5,rfl,_,rfl⟩⟩,rfl,
     ⟨_,x,I.dF.fresh (aak _),rfl,rfl,λ Yz h=>by rw [I.pH h r];exact N⟩,⟨⟨_,by simpa using he⟩,W.1.extBut J.extBut y.symm⟩,λ c Y=>?_⟩
   have lc:c<s.heap.objs.size:=by
     simp only [aab,aae,aaT] at Y
     rcases Y with rfl|rfl
     . exact Q
     . exact lj
   rw [aw (aaO lc)]
   exact (n c Y).1
 done:=by
   intro X D G C l i m s U H E I n S F
   subst D G C
   obtain ⟨xs,r,hl⟩:=F
   obtain ⟨B,R,p,hz⟩:=I.list r
   obtain ⟨⟨O,b⟩,f⟩:=S
   have d:i=B.toArray.size:=by rw [aat,<- R.length];exact hl.symm
   subst d
   refine wpAny_pyNext_enum_endD (Draws.list (A:=X.A.in1) (I.ok.hd l) j a L B.toArray) b ⟨f,p.isList⟩ λ z eb=>⟨rfl,I.xz (ch:=[e,j]) (t':=s.toks) (λ c o d q=>?_) n⟩
   simp only [aab,aae,aaT,abL] at d
   exact eb c o d.2 q
 self:=λ Z Z Z Z Z S h=>by
   obtain ⟨⟨O,b⟩,Z⟩:=S
   exact acf b h
def zY {P:bD} {w:bz} {K:aE} {e j a:am} (y:e≠j) (ae:a≠e) (L:a≠j):Turn P w K (.Tuple elts x1 o8) (EY (bY K) a) [e,j] e (EnT e j a) where
 mem:=by simp
 obj:=λ i h S c l=>by
   obtain ⟨⟨O,b⟩,oj,e2,Z,d2⟩:=S
   simp only [aab,aae,aaT] at l
   rcases l with rfl|rfl
   . exact ⟨_,b,λ v q=>by cases q⟩
   . exact ⟨oj,e2,λ v q=>by rw [d2] at q;cases q⟩
 keep:=λ i h z S k=>by
   obtain ⟨⟨O,b⟩,f⟩:=S
   exact ⟨⟨O,k e (by simp) _ b⟩,f.at λ o q=>k j (by simp) o q⟩
 item:=by
   intro X D G C l i m s U H E I n S F
   subst D G C
   obtain ⟨xs,x,r,N⟩:=F
   obtain ⟨B,R,p,hz⟩:=I.tuple r
   obtain ⟨u,M,ru⟩:=R.get N
   obtain ⟨⟨O,b⟩,f⟩:=S
   have Q:e<s.heap.objs.size:=aav b
   have lj:j<s.heap.objs.size:=by obtain ⟨o,q,Z⟩:=f;exact aav q
   have hi:i<B.toArray.size:=by
     have:=(Br.mp M).1
     simpa using this
   refine wpAny_pyNext_enum_itemD (GA (A:=X.A.in1) (I.ok.hd l) j a L B.toArray) b ⟨f,p⟩ hi y (by simp [y,ae.symm]) λ v z T t eo W ht ab kk=>?_
   obtain rfl:v=u:=by
     have t:B.toArray[i]?=some v:=t
     rw [aec,M] at t
     exact (aaq t).symm
   refine ⟨.ref s.heap.objs.size,rfl,aef (s:={ s with heap:=z,toks:=T+1 }) eo λ g he J=>?_⟩
   have V:∀ c o,c∉[e,j]->s.heap.get? c=some o->g.get? c=some o:=λ c o d q=>by
     simp only [aab,aae,aaT,abL] at d
     exact J.extBut _ _ d.1 (kk c o d.1 d.2 q)
   have n5:=J.extBut _ _ (aci Q) ht
   refine ⟨.ref s.heap.objs.size,upd H s.heap.objs.size (.tup [aq i,x]),I.yb (t':=T+1) V n (aak _) ⟨by show 2<=sizeLine;decide,[.int i T,v],.cons ⟨T,rfl⟩ (.cons ru .nil),⟨_,n5,rfl,_,rfl⟩⟩,rfl,
     ⟨_,x,I.dF.fresh (aak _),rfl,rfl,λ Yz h=>by rw [I.Dt h r];exact N⟩,⟨⟨_,by simpa using he⟩,W.1.extBut J.extBut y.symm⟩,λ c Y=>?_⟩
   have lc:c<s.heap.objs.size:=by
     simp only [aab,aae,aaT] at Y
     rcases Y with rfl|rfl
     . exact Q
     . exact lj
   rw [aw (aaO lc)]
   exact (n c Y).1
 done:=by
   intro X D G C l i m s U H E I n S F
   subst D G C
   obtain ⟨xs,r,hl⟩:=F
   obtain ⟨B,R,p,hz⟩:=I.tuple r
   obtain ⟨⟨O,b⟩,f⟩:=S
   have d:i=B.toArray.size:=by rw [aat,<- R.length];exact hl.symm
   subst d
   refine wpAny_pyNext_enum_endD (GA (A:=X.A.in1) (I.ok.hd l) j a L B.toArray) b ⟨f,p⟩ λ z eb=>⟨rfl,I.xz (ch:=[e,j]) (t':=s.toks) (λ c o d q=>?_) n⟩
   simp only [aab,aae,aaT,abL] at d
   exact eb c o d.2 q
 self:=λ Z Z Z Z Z S h=>by
   obtain ⟨⟨O,b⟩,Z⟩:=S
   exact acf b h
section
variable {X:Cx}
def WG (K:aE) (t:TA):TI:=λ U H R=>t U H λ v h=>∃ a,v=[.ref a]/\(∃ x,aX K h a x)/\R (EY (aX K) a) h
def Tz (K:aE) (t:TA):TI:=λ U H R=>t U H λ v h=>∃ a,v=[.ref a]/\(∃ x,bY K h a x)/\R (EY (bY K) a) h
def MM:("enumerate" : Str) ≠ "__name__":=by decide +kernel
def Mf:(("enumerate" : Str) == ("__debug__" : Str))=false:=by decide +kernel
def qI {a:Expr} {p f:Pos} (n:Gl X "enumerate") (o:X.mg "enumerate" = none) (m:PA X [a] ta) (u:autoParam (starEach [a] X.env=[(false,eval a X.env)]) za_._auto_1) :
   PI X (.Tuple elts x1 o8) (.Call (.Name "enumerate" p) [a] [] f) (WG X.K ta):=by
 intro d s U H R I h
 refine Call_ ?_
 refine jv I n o ki ?_ MM Mf
 refine abc ?_ u rfl
 refine c7 (m f d s U H _ I h) λ D S ⟨V,k,i,w,Q⟩=>?_
 obtain ⟨a,e,⟨E,t⟩,q⟩:=Q
 subst e
 cases w with
 | cons r x =>
   cases x
   obtain rfl:_=Value.ref a:=r
   obtain ⟨B,C,j,L⟩:=i.list t
   have l:a<S.heap.objs.size:=by obtain ⟨Z,e,Z⟩:=j.isList;exact aav e
   refine call_enumerate_list j.isList λ A z y F v=>acf z ?_
   refine ⟨S.heap.objs.size+1,[S.heap.objs.size+1,S.heap.objs.size],_,_,k,rfl,i.kept (t':=S.toks) v,zd (acY _) (aaO (acO l)) (aaO l),⟨⟨_,z⟩,y⟩,λ c g=>?_,q⟩
   have b:S.heap.objs.size<=c:=by
     simp only [aab,aae,aaT] at g
     rcases g with rfl|rfl
     . exact acp _
     . exact aak _
   exact i.zZ b (i.dF.fresh b)
def LZ {a:Expr} {p f:Pos} (n:Gl X "enumerate") (o:X.mg "enumerate" = none) (m:PA X [a] ta) (u:autoParam (starEach [a] X.env=[(false,eval a X.env)]) za_._auto_1) :
   PI X (.Tuple elts x1 o8) (.Call (.Name "enumerate" p) [a] [] f) (Tz X.K ta):=by
 intro d s U H R I h
 refine Call_ ?_
 refine jv I n o ki ?_ MM Mf
 refine abc ?_ u rfl
 refine c7 (m f d s U H _ I h) λ D S ⟨V,k,i,w,Q⟩=>?_
 obtain ⟨a,e,⟨E,t⟩,q⟩:=Q
 subst e
 cases w with
 | cons r x =>
   cases x
   obtain rfl:_=Value.ref a:=r
   obtain ⟨B,C,j,L⟩:=i.tuple t
   have l:a<S.heap.objs.size:=j.lt
   refine uH j λ A z y v=>acf z ?_
   refine ⟨S.heap.objs.size+1,[S.heap.objs.size+1,S.heap.objs.size],_,_,k,rfl,i.kept (t':=S.toks) v,zY (acY _) (aaO (acO l)) (aaO l),⟨⟨_,z⟩,y⟩,λ c g=>?_,q⟩
   have b:S.heap.objs.size<=c:=by
     simp only [aab,aae,aaT] at g
     rcases g with rfl|rfl
     . exact acp _
     . exact aak _
   exact i.zZ b (i.dF.fresh b)
end
def kj {sq:Hp->am->aB->Prop} {a:am} {xs:aB} {g:TG} {T:TT} {t:TE} {D:am} {Q:Hp->Prop} {U:St} (c:Nat->aB->St->Hp->Prop) (h0:c 0 [] U H) (s:∀ i acc U H,i<=xs.length->c i acc U H->sq H a xs) (w:∀ i x p acc U H,xs[i]?=some x->H p=none->c i acc U H->g (.ref p) U (upd H p (.tup [aq i,x])) λ b l=>T b l λ k h =>
     if k=true then t b h λ v j=>j D=some (.lst acc)/\acc.length<sizeLine/\c (i+1) (acc++[v]) b (upd j D (.lst (acc++[v]))) else c (i+1) acc b h) (r:∀ acc U H,c xs.length acc U H->Q H) :
   ∃ W:Nat->Nat->aB->St->Hp->Prop,(∃ m,W 0 m [] U H)/\∀ i m acc f d,W i m acc f d->((EY sq a).stop i d/\Q d) \/
     ((EY sq a).go i d/\∃ N:aB->St->Hp->Prop,(∀ G b h,N G b h->∃ m',m'<m/\W (i+1) m' G b h)/\∀ x n,(EY sq a).HC i d x n->g x f n λ b l=>T b l λ k h =>
       if k=true then t b h λ y j=>j D=some (.lst acc)/\acc.length<sizeLine/\N (acc++[y]) b (upd j D (.lst (acc++[y]))) else N acc b h):=by
 refine ⟨λ i m acc U H=>m=xs.length - i/\i<=xs.length/\c i acc U H,⟨_,rfl,aaZ _,h0⟩,?_⟩
 rintro i m acc U H ⟨rfl,hi,p⟩
 have q:=s i acc U H hi p
 by_cases o:i<xs.length
 . refine .inr ⟨⟨xs,xs[i],q,by simp [o]⟩,c (i+1),λ G f d z=>⟨xs.length - (i+1),by lia,rfl,o,z⟩,λ v d y=>?_⟩
   obtain ⟨A,x,u,rfl,rfl,E⟩:=y
   exact w i x A acc U H (E xs q) u p
 . have e:i=xs.length:=by lia
   subst e
   exact .inl ⟨⟨xs,q,rfl⟩,r acc U H p⟩
end L2
namespace Tx
open PySem PySem.Builtin PySem.Builtin.Str
def len (a:Str):a.cps.toList.length=a.length:=acC
def sl:Str:=⟨#[47]⟩
def cases (x:Str):47∉x.cps.toList\/∃ a b:Str,47∉a.cps.toList/\x.cps.toList=a.cps.toList++47::b.cps.toList:=by
 by_cases h:47∈x.cps.toList
 . obtain ⟨as,B,e,n⟩:=List.eq_append_cons_of_mem h
   exact .inr ⟨⟨as.toArray⟩,⟨B.toArray⟩,by simpa using n,by simpa using e⟩
 . exact .inl h
def strN (n:Nat):Str:=Str.ofString (toString ((n:Nat):Int))
def Good (z:Str):Prop:=1<=z.length/\z.length<=30/\NumText.AllDigits z.cps.toList/\¬ (z.cps.toList.head?=some 48/\1<z.length)
def valOf (z:Str):Int:=((NumText.digitsVal z.cps.toList:Nat):Int)
def mi:Str:=⟨#[45]⟩
def Ga (z:Str):Bool:=decide (z.cps.toList.head?=some 45)
def bodyOf (z:Str):Str:=if Ga z=true then Txt.slice z (some 1) none else z
def Tf (z:Str):Int:=if Ga z=true then -1 else 1
def Rd (z:Str) (f:Int×Int):Prop :=
 Good (Txt.partition (bodyOf z) sl).1/\(Ga z=true->valOf (Txt.partition (bodyOf z) sl).1≠0)/\f.1=Tf z * valOf (Txt.partition (bodyOf z) sl).1 /\
 (((Txt.partition (bodyOf z) sl).2.1=sl/\Good (Txt.partition (bodyOf z) sl).2.2/\2<=valOf (Txt.partition (bodyOf z) sl).2.2 /\
     Int.gcd (valOf (Txt.partition (bodyOf z) sl).1) (valOf (Txt.partition (bodyOf z) sl).2.2)=1/\f.2=valOf (Txt.partition (bodyOf z) sl).2.2) \/
   ((Txt.partition (bodyOf z) sl).2.1≠sl/\f.2=1))
def Q4 (t:Int):Str:=if t<0 then mi++strN t.natAbs else strN t.natAbs
def abu (t b:Int):Str:=if b=1 then Q4 t else Q4 t++sl++strN b.natAbs
end Tx
namespace L2
open PySem PySem.Spec PyProof.Rows Mth
open PySem.Builtin PySem.Builtin.ObjectAttr
end L2
namespace Ord
open Bit
def Cf:∀ W,W<16->parts (rooms W)=(List.range 16).filter (λ o=>decide (o &&& W=o)):=by decide +kernel
structure KF (n:Nat) (has:Nat->Bool) (wd:Nat->Int) (wt:Nat->Bool) (b:Nat) (most heap:Int) (o:Nat):Prop where
 has:∀ r∈rooms o,r<n/\has r=true
 eY:∀ r,r<n->wt r=true->o.testBit r=b.testBit r
 most:((rooms o).length:Int)<=most
 mE:((rooms o).map wd).sum<=heap
def setOf (n:Nat) (p:Nat->Bool):Nat:=sumOf ((List.range n).filter p)
def iN (n:Nat) (p:Nat->Bool) (k:Nat):(setOf n p).testBit k=(decide (k<n) && p k):=by
 unfold setOf
 rw [mW]
 by_cases h:k<n<;>cases e:p k<;>simp [h,e]
def Bc (n:Nat) (p:Nat->Bool):setOf n p<2 ^ n:=Fq λ r h=>aaJ.mp (aa3.mp h).1
def EM {n:Nat} (p:Nat->Bool) (H:n<=61):rooms (setOf n p)=(List.range n).filter p :=
 zA (λ r h=>by have:=aaJ.mp (aa3.mp h).1;lia) ((ad3).filter _)
def Ic {o k:Nat} (h:o<16) (H:4<=k):o.testBit k=false:=iU (m:=4) h H
structure Mc (n:Nat) (has:Nat->Bool) (wd:Nat->Int) (wt:Nat->Bool) (b:Nat) (most heap:Int) (o:Nat):Prop where
 eY:o &&& setOf n wt=b &&& setOf n wt
 most:((rooms o).length:Int)<=most
 mE:((rooms (o &&& setOf n has)).map wd).sum<=heap
section
variable {n:Nat} {has:Nat->Bool} {wd:Nat->Int} {wt:Nat->Bool} {b:Nat} {most heap:Int} {o:Nat}
def Cg (c:o<2 ^ 61):o &&& setOf n has=o↔∀ r∈rooms o,r<n/\has r=true:=by
 constructor
 .
  intro e r d
  have H:=(f7.mp d).2
  rw [<- e,aby,iN] at H
  simp only [aaY,ab8] at H
  exact H.2
 .
  intro h
  refine acA λ k=>?_
  rw [aby,iN]
  by_cases b:k<61
  .
   cases e:o.testBit k with
   | false=>rfl
   | true =>
     obtain ⟨a,H⟩:=h k (f7.mpr ⟨b,e⟩)
     rw [aaG a,H];rfl
  . rw [iU c (by lia)];rfl
def yR:o &&& setOf n wt=b &&& setOf n wt↔∀ r,r<n->wt r=true->o.testBit r=b.testBit r:=by
 constructor
 .
  intro e r a c
  have h:=abE (λ x=>Nat.testBit x r) e
  simp only [aby,iN,aaG a,c,Bool.and_true] at h
  exact h
 .
  intro h
  refine acA λ k=>?_
  rw [aby,aby,iN]
  by_cases H:k<n
  . cases e:wt k with
    | false=>simp
    | true=>rw [h k H e]
  . rw [aap H];simp
def Fi (c:o<2 ^ 61):KF n has wd wt b most heap o↔(o &&& setOf n has=o/\Mc n has wd wt b most heap o):=by
 constructor
 . rintro ⟨d,H,a,h⟩
   have e:=(Cg c).mpr d
   exact ⟨e,⟨yR.mpr H,a,by rw [e];exact h⟩⟩
 . rintro ⟨e,H,a,h⟩
   rw [e] at h
   exact ⟨(Cg c).mp e,yR.mp H,a,h⟩
end
end Ord
namespace L2
open PySem PySem.Spec PyProof.Rows Mth
variable {H:Hp}
section
variable {prog:bD} {w:bz} {A:Around} {E:aA->Shared->Prop} {s:Shared}
def Gp {b n:Nat} (h:b<=n):Builtin.Slice.sliceAdjust none (some (b:Int)) 1 (n:Int)=(0,(b:Int)):=by
 unfold Builtin.Slice.sliceAdjust
 simp only [show ¬ ((1:Int)<0) by lia,show ¬ ((b:Int)<0) by lia,acq]
 congr 1;lia
def Gb (b:Nat):Builtin.Slice.slicePlaces 0 (b:Int) 1=b:=by
 unfold Builtin.Slice.slicePlaces
 simp only [show (1:Int) > 0 by lia,acw,Int.ediv_one]
 split<;>lia
def GC {sl:am} {b n:Nat} {u:Tok} {Q:Int×Int×Nat->Shared->Prop} (a:s.heap.IsSliceOf sl .none (.int b u) .none) (H:b<=n) (h:Q (0,1,b) s) :
   wpAny (model prog w) A (Builtin.Slice.sliceApplied (.ref sl) (pure (n:Int))) Q E s:=by
 obtain ⟨o,q,z,S⟩:=id a
 unfold Builtin.Slice.sliceApplied;unfold Builtin.Slice.sliceFields
 refine aaa (aaa (abK q S (x:=.none) rfl (aaa (abK q S (x:=.int b u) rfl (aaa (abK q S (x:=.none) rfl (aao (aaa (slicePart_none ?_)))))))))
 show wpAny _ _ (if ((1:Int) == 0)=true then _ else _) _ _ s
 rw [aax (show ¬ (((1:Int) == 0)=true) by decide)]
 refine aaa (slicePart_none (aaa (slicePart_int (aaa (aao ?_)))))
 show wpAny _ _ (match Builtin.Slice.sliceAdjust none (some (b:Int)) 1 (n:Int) with|(lo,hi)=>pure (lo,(1:Int),Builtin.Slice.slicePlaces lo hi 1)) _ _ s
 rw [Gp H]
 show wpAny _ _ (pure ((0:Int),(1:Int),Builtin.Slice.slicePlaces 0 (b:Int) 1)) _ _ s
 rw [Gb]
 exact aao h
def Ds (xs:Array aA) (b:Nat) (h:b<=xs.size):((List.range b).filterMap λ (k:Nat)=>xs[((0:Int)+(k:Int) * 1).toNat]?).toArray=(xs.toList.take b).toArray:=by
 have e:(λ (k:Nat)=>xs[((0:Int)+(k:Int) * 1).toNat]?)=λ k=>xs[0+k]?:=by
   funext k
   rw [show ((0:Int)+(k:Int) * 1).toNat=0+k by lia]
 have q:=pick_run xs 0 b
 rw [List.filterMap_map] at q
 rw [e]
 refine abE List.toArray (Eq.trans ?_ (q.trans (by rw [List.drop_zero])))
 rfl
def ER {t sl:am} {i:Array aA} {b:Nat} {u:Tok} {Q:aA->Shared->Prop} (H:IsTup s.heap t i) (c:s.heap.IsSliceOf sl .none (.int b u) .none) (a:b<i.size) (h:Q (.ref s.heap.objs.size) { s with heap:=s.heap.push { cls:=.type "tuple",data:=.seq (i.toList.take b).toArray }}) (hsz:i.size<=sizeLine):wpAny (model prog w) A (getItem (.ref t) (.ref sl)) Q E s:=by
 have f:sizeOk (.seq (i.toList.take b).toArray):=by
   show (i.toList.take b).toArray.size<=sizeLine
   rw [aat,aaK,acC];lia
 obtain ⟨o,q,z,S⟩:=id c
 have T:s.TypeIs (.ref sl) "slice":=⟨o,q,z⟩
 unfold getItem;try with_reducible refine abN ?_
 first|refine aaa (aao ?_)|skip
 refine aaa (wpAny_sequenceKey H.typeIs (by decide) (aaa (ab0 (name:=Str.ofString "__getitem__") H.typeIs slot_tuple_getitem (acD slot_tuple_getitem H.typeIs entry_tuple_getitem ?_ (args_tuple_getitem _ _)))))
 show wpAny _ _ (Builtin.Tuple.tupleItemsOf (.ref t) >>= _) _ _ s
 refine aaa (tupleItemsOf_ H (aaa (adO T ?_)))
 rw [aau (by decide)]
 refine aaa (GC c (ab4 a) ?_)
 have N:¬ (((0:Int) == 0 && (1:Int) == 1 && b == i.size)=true):=by
   rw [show (b == i.size)=false by rw [abm];lia];simp
 show wpAny _ _ (if ((0:Int) == 0 && (1:Int) == 1 && b == i.size)=true then _ else _) _ _ s
 rw [aax N,Ds i b (ab4 a)]
 first
   | exact aaa (m:=Builtin.Tuple.tupleExact _) (abW (aao ⟨_,rfl,aao h⟩) f)
   | exact aaa (m:=Builtin.Tuple.tupleExact _) (abW (aaa (aao (aao ⟨_,rfl,aao h⟩))) f)
   | exact aaa (aaa (m:=Builtin.Tuple.tupleExact _) (abW (aao (aao ⟨_,rfl,aao h⟩)) f))
   | exact aaa (aaa (m:=Builtin.Tuple.tupleExact _) (abW (aao ⟨_,rfl,aao h⟩) f))
end
section
variable {X:Cx}
inductive V7 (K:aE) (x:V) (lo:Option Int) (hi:Option Int) (H:Hp) (Q:VK):Prop|mk (a xs:_) (i:Nat) (_:x = .ref a) (_:bY K H a xs) (_:lo=some (i:Int)) (_:hi=none) (_:1<=i) (_:i<=xs.length) (_:∀ p,H p=none->Q (.ref p) (upd H p (.tup (xs.drop i))))
def Co:Sm X (V7 X.K):=by
 intro p s U H x v V t lo hi sl Q I R e j k h
 obtain ⟨a,l,i,rfl,f,rfl,rfl,g,n,q⟩:=h
 cases R
 cases k
 cases j
 obtain ⟨B,r,d,m⟩:=I.tuple f
 have c:=r.length
 refine ⟨"tuple",_,slot_tuple_getitem.lookup,d.typeIs,getItem_tuple_from d e g (by rw [aat];lia) ?_ (by rw [aat];lia)⟩
 refine ⟨.ref s.heap.objs.size,_,I.laid (t':=s.toks) (o:=.tup (l.drop i)) (λ b O q=>aal _ q) (aak _) ?_,rfl,q _ (I.dF.fresh (aak _))⟩
 refine ⟨by rw [ac1];lia,B.drop i,r.drop i,⟨_,aaR _ rfl,rfl,_,rfl⟩⟩
inductive WL (K:aE) (x:V) (lo:Option Int) (hi:Option Int) (H:Hp) (Q:VK):Prop|mk (a xs:_) (j:Nat) (_:x = .ref a) (_:bY K H a xs) (_:lo=none) (_:hi=some (j:Int)) (_:j<xs.length) (_:∀ p,H p=none->Q (.ref p) (upd H p (.tup (xs.take j))))
def Jl:Sm X (WL X.K):=by
 intro p s U H x v V m lo hi sl Q I R e g i h
 obtain ⟨a,k,j,rfl,f,rfl,rfl,J,q⟩:=h
 cases R
 cases i
 cases g
 obtain ⟨B,r,d,l⟩:=I.tuple f
 have c:=r.length
 refine ⟨"tuple",_,slot_tuple_getitem.lookup,d.typeIs,ER d e (by rw [aat];lia) ?_ (by rw [aat];lia)⟩
 refine ⟨.ref s.heap.objs.size,_,I.laid (t':=s.toks) (o:=.tup (k.take j)) (λ b O q=>aal _ q) (aak _) ?_,rfl,q _ (I.dF.fresh (aak _))⟩
 refine ⟨by rw [aaK];lia,B.take j,r.take j,⟨_,aaR _ rfl,rfl,_,rfl⟩⟩
end
structure cD where
 cJ:aS
 cB:Nat
 ib:aS
 failed:aS
 heap:Nat
def iR (K:aE) (H:Hp) (p:am) (s:cD):Prop :=
 ∃ a c b,bY K H p [.ref a,aq s.cB,.ref c,.ref b,aq s.heap]/\bY K H a (s.cJ.map aq)/\bY K H c (s.ib.map aq)/\bY K H b (s.failed.map aq)
def iR.same {K:aE} {e:Hp} {p:am} {s:cD} (h:iR K H p s) (q:aG H e):iR K e p s:=by
 obtain ⟨f,i,g,a,b,c,d⟩:=h
 exact ⟨f,i,g,q.tup a,q.tup b,q.tup c,q.tup d⟩
abbrev VO:=cq×Int×Int×Int
def av.pW (m:av) (i:Nat):Option VO:=(m.bv[i]?).getD none
def av.has (m:av) (i:Nat):Bool:=(m.pW i).isSome
def av.wd (m:av) (i:Nat):Int:=((m.pW i).map λ z=>z.2.1).getD 0
def av.eY (m:av) (i:Nat):Int:=((m.pW i).map λ z=>z.2.2.1).getD 0
def av.fails (m:av) (i:Nat):Int:=((m.pW i).map λ z=>z.2.2.2).getD 0
def mO {m:av} {i:Nat} (h:i<m.bv.length):m.bv[i]?=some (m.pW i):=by
 unfold av.pW
 rw [aL h];rfl
def CP:Option VO->Bool->Nat->Nat->Prop
 | none,f,w,b=>f=false/\w=0/\b=0
 | some z,f,w,b=>(w:Int)<=z.2.2.1/\(b:Int)<=z.2.2.2/\(b=0\/(f=false/\w=0))
def gN (l:aS) (i:Nat):Nat:=(l[i]?).getD 0
def LR {l:aS} {i:Nat} (h:i<l.length):l[i]?=some (gN l i):=by
 unfold gN
 rw [aL h];rfl
def uO {l:aS} {i:Nat} (h:i<l.length):oh (l.map aq) (i:Int)=some (aq (gN l i)):=cm (by rw [Zj,LR h];rfl)
structure eX (m:av) (s:cD):Prop where
 lb:s.cJ.length=m.rows.length
 lw:s.ib.length=m.rows.length
 lf:s.failed.length=m.rows.length
 cB:s.cB<2 ^ m.rows.length
 most:((Bit.rooms s.cB).length:Int)<=m.most
 heap:(s.heap:Int)<=m.d6
 band:∀ i,i<m.rows.length->gN s.cJ i+1<(m.rows.getD i []).length
 bX:∀ i,i<m.rows.length->CP (m.pW i) (s.cB.testBit i) (gN s.ib i) (gN s.failed i)
def av.ws (m:av):Nat:=Ord.setOf m.rows.length m.has
def cD.wt (s:cD) (i:Nat):Bool:=decide (0<gN s.ib i)
def cD.held (s:cD):Nat:=Ord.setOf s.ib.length s.wt
def av.mE (m:av) (b:Nat):Int:=((Bit.rooms (b &&& m.ws)).map m.wd).sum
def av.HK (m:av) (o:Nat) (heap:Int):Bool:=decide (((Bit.rooms o).length:Int)<=m.most) && decide (m.mE o<=heap)
def cD.EW (m:av) (s:cD) (o:Nat):Bool:=decide (o &&& s.held=s.cB &&& s.held) && m.HK o s.heap
def cD.orders (m:av) (s:cD):aS:=(Bit.parts (Bit.rooms m.ws)).filter (s.EW m)
def uF {m:av} (h:m.rows.length<=4):m.ws<16:=aaw (Ord.Bc _ _) (abr (by decide) h:2 ^ m.rows.length<=2 ^ 4)
section
variable (K:aE) (C:am)
inductive zi (vs:aB) (H:Hp) (Q:VK) (_E:XK):Prop|mk (n:Nat) (_:vs=[aq n]) (_:n<2 ^ 61) (_:∀ H',aG H H'->Q (aq (Bit.rooms n).length) H')
inductive DO (vs:aB) (H:Hp) (Q:VK) (_E:XK):Prop|mk (p l:_) (_:vs=[.ref p]) (_:aX K H p (l.map aq)) (_:(∀ r∈l,r<=1000)) (_:Q (aq (Bit.sumOf l)) H)
inductive vi (vs:aB) (H:Hp) (Q:VK) (_E:XK):Prop|mk (v z f w b:_) (_:vs=[v,.bl f,aq w,aq b]) (_:Dn K H (fz z) v) (_:CP z f w b) (_:∀ H',aG H H'->Q (.bl true) H')
inductive wY (vs:aB) (H:Hp) (Q:VK) (_E:XK):Prop|mk (a fp m p s:_) (i:Nat) (_:vs=[.ref a,.ref p,aq i]) (_:aZ K C H a fp m) (_:iR K H p s) (_:eX m s) (_:i<m.rows.length) (_:∀ H',aG H H'->Q (.bl true) H')
inductive zJ (vs:aB) (H:Hp) (Q:VK) (_E:XK):Prop|mk (a fp m p s:_) (_:vs=[.ref a,.ref p]) (_:aZ K C H a fp m) (_:iR K H p s) (_:eX m s) (_:∀ H',aG H H'->Q (.bl true) H')
inductive vz (vs:aB) (H:Hp) (Q:VK) (_E:XK):Prop|mk (a fp m p s:_) (_:vs=[.ref a,.ref p]) (_:aZ K C H a fp m) (_:iR K H p s) (_:eX m s) (_:∀ H',aG H H'->Q .cC H')
inductive vh (vs:aB) (H:Hp) (Q:VK) (_E:XK):Prop|mk (a fp m:_) (_:vs=[.ref a]) (_:aZ K C H a fp m) (_:∀ H',aG H H'->Q (aq m.ws) H')
inductive AN (vs:aB) (H:Hp) (Q:VK) (_E:XK):Prop|mk (a fp m:_) (b:Nat) (_:vs=[.ref a,aq b]) (_:aZ K C H a fp m) (_:∀ H',aG H H'->Q (.int (m.mE b)) H')
inductive xu (vs:aB) (H:Hp) (Q:VK) (_E:XK):Prop|mk (p s:_) (_:vs=[.ref p]) (_:iR K H p s) (_:s.ib.length<=4) (_:∀ H',aG H H'->Q (aq s.held) H')
inductive Ar (vs:aB) (H:Hp) (Q:VK) (_E:XK):Prop|mk (a fp m:_) (o:Nat) (hp:Int) (_:vs=[.ref a,aq o,.int hp]) (_:aZ K C H a fp m) (_:o<2 ^ 61) (_:∀ H',aG H H'->Q (.bl (m.HK o hp)) H')
inductive xG (vs:aB) (H:Hp) (Q:VK) (_E:XK):Prop|mk (a fp m p s:_) (_:vs=[.ref a,.ref p]) (_:aZ K C H a fp m) (_:iR K H p s) (_:eX m s) (_:∀ q H',H q=none->aG H H'->H' q=some (.lst ((s.orders m).map aq))->Q (.ref q) H')
end
def Dn.bX {K:aE} {v:V} {z:VO} (h:Dn K H (fz (some z)) v):∃ p v1,v = .ref p/\bY K H p [v1,.int z.2.1,.int z.2.2.1,.int z.2.2.2]/\Dn K H (dW z.1) v1:=by
 obtain ⟨p,x,rfl,d,t,R,rfl,c,T,i,rfl,e,f,j,rfl,E,g,r,rfl,a,b⟩:=h
 have b:r=[]:=b
 have e:T = .int z.2.1:=e
 have E:f = .int z.2.2.1:=E
 have a:g = .int z.2.2.2:=a
 subst e E a b
 exact ⟨p,t,rfl,d,c⟩
def xC {l:aS} {x j:Nat} (h:j<l.length):gN (l++[x]) j=gN l j:=by
 unfold gN
 rw [aan h]
def Gn {l:aS} {x:Nat}:gN (l++[x]) l.length=x:=by
 unfold gN
 rw [aa0 (aak _),aea];rfl
end L2
namespace Ord
open Bit
def QA:∀ x,x<16->∀ y,y<16->x - (x &&& y)=x ^^^ (x &&& y):=by decide +kernel
def off (x y:Nat):Nat:=x - (x &&& y)
def xM {x y:Nat} (h:x<16) (H:y<16) (k:Nat):(off x y).testBit k=(x.testBit k && !y.testBit k):=by
 unfold off
 rw [QA x h y H,Nat.testBit_xor,aby]
 cases x.testBit k<;>cases y.testBit k<;>rfl
def Mu {x y n:Nat} (h:x<2 ^ n):off x y<2 ^ n:=aas (Nat.sub_le _ _) h
def Kv {n x:Nat} (H:n<=4) (h:x<2 ^ n):x<16:=aaw h (abr (by decide) H:2 ^ n<=2 ^ 4)
theorem less {w:Nat->Int} (h0:∀ r,0<=w r) {p q:Nat->Bool} (h:∀ x,p x=true->q x=true):∀ l:aS,(l.filter p).length<=(l.filter q).length/\((l.filter p).map w).sum<=((l.filter q).map w).sum
 | []=>⟨aak _,aa5 _⟩
 | x::l=>by
   obtain ⟨a,b⟩:=less h0 h l
   have:=h0 x
   by_cases H:p x=true
   . rw [acT H,acT (h x H)]
     simp only [aaW,aaQ,List.sum_cons]
     lia
   .
    by_cases c:q x=true
    . rw [acU H,acT c]
      simp only [aaW,aaQ,List.sum_cons]
      lia
    . rw [acU H,acU c]
      exact ⟨a,b⟩
def BG {w:Nat->Int} (h0:∀ r,0<=w r) {a b:Nat} (h:∀ x,a.testBit x=true->b.testBit x=true):(rooms a).length<=(rooms b).length/\((rooms a).map w).sum<=((rooms b).map w).sum:=less h0 h _
structure Hd where
 n:Nat
 has:Nat->Bool
 wd:Nat->Int
 wt:Nat->Bool
 b:Nat
 most:Int
 heap:Int
def Hd.ws (h:Hd):Nat:=setOf h.n h.has
def Hd.held (h:Hd):Nat:=setOf h.n h.wt
def Hd.mE (h:Hd) (o:Nat):Int:=((rooms (o &&& h.ws)).map h.wd).sum
def Hd.HK (h:Hd) (o:Nat):Bool:=decide (((rooms o).length:Int)<=h.most) && decide (h.mE o<=h.heap)
def Hd.step (h:Hd) (o r:Nat):Nat:=if h.HK (o ||| 2 ^ r) then o ||| 2 ^ r else o
def Hd.first (h:Hd):Nat:=h.b &&& h.held
def Hd.go (h:Hd) (o:Nat):Nat:=(rooms (off (o &&& h.ws) h.held)).foldl h.step h.first
def Hd.may (h:Hd) (o r:Nat):Bool:=o.testBit r && h.has r && !h.wt r
structure Hd.Ok (h:Hd):Prop where
 n4:h.n<=4
 cB:h.b<2 ^ h.n
 sub:∀ r,h.b.testBit r=true->h.has r=true
 most:((rooms h.b).length:Int)<=h.most
 Zw:∀ r,0<=h.wd r
section
variable {h:Hd} {i r o:Nat}
structure Hd.In (h:Hd) (i o:Nat):Prop where
 sub:∀ r,o.testBit r=true->r<h.n/\h.has r=true
 held:∀ r,r<h.n->h.wt r=true->o.testBit r=h.b.testBit r
 abz:∀ r,i<=r->h.wt r=false->o.testBit r=false
def Hd.Yy (h:Hd) (o:Nat):Prop:=KF h.n h.has h.wd h.wt h.b h.most h.heap o
end
end Ord
namespace L2
open PySem PySem.Spec PyProof.Rows Mth
variable {D:L2.Ends} {H:Hp} {HD a2 a3 a4 a5 a6 a7 a8 a9:TS}
def ou (x y:Nat):Builtin.bitAnd (x:Int) (Builtin.bitNot (y:Int))=((Ord.off x y:Nat):Int):=by
 have e:Builtin.bitNot (Builtin.bitNot (y:Int))=(y:Int):=by unfold Builtin.bitNot;lia
 have n:¬ (0:Int)<=Builtin.bitNot (y:Int):=by unfold Builtin.bitNot;lia
 have p:(0:Int)<=(x:Int):=aba _
 unfold Builtin.bitAnd
 rw [aaG p,aap n]
 show (x:Int) - _=_
 rw [e,aaV,aaV]
 have:=Nat.and_le_left (n:=x) (m:=y)
 unfold Ord.off
 lia
def NP (m:av) (s:cD):Ord.Hd:=⟨m.rows.length,m.has,m.wd,s.wt,s.cB,m.most,s.heap⟩
def cD.may (m:av) (s:cD) (o:Nat):Nat:=Ord.setOf m.rows.length λ r=>o.testBit r && !s.cB.testBit r && decide ((gN s.failed r:Int)<m.fails r)
def cD.jf (m:av) (s:cD) (b i:Nat):Nat:=if s.cB.testBit i=b.testBit i then gN s.ib i - 1 else (m.eY i).toNat
def cD.jK (s:cD) (b o i:Nat):Nat:=if o.testBit i then gN s.failed i+1 else if b.testBit i then 0 else gN s.failed i
def cD.kQ (m:av) (s:cD) (b:Nat):Int:=min m.d6 ((s.heap:Int) - m.mE b+m.load)
def cD.behind (m:av) (s:cD) (c:aS) (o O:Nat):cD :=
 ⟨c,Ord.off o O,(List.range m.rows.length).map (s.jf m (Ord.off o O)),(List.range m.rows.length).map (s.jK (Ord.off o O) O),(s.kQ m (Ord.off o O)).toNat⟩
section
variable (K:aE) (C:am)
inductive Cc (vs:aB) (H:Hp) (Q:VK) (_E:XK):Prop|mk (a fp m p s:_) (o:Nat) (_:vs=[.ref a,.ref p,aq o]) (_:aZ K C H a fp m) (_:iR K H p s) (_:eX m s) (_:o &&& m.ws=o) (_:∀ H',aG H H'->Q (aq (s.may m o)) H')
inductive uK (vs:aB) (H:Hp) (Q:VK) (_E:XK):Prop|mk (a fp m p s:_) (b i:Nat) (_:vs=[.ref a,.ref p,aq b,aq i]) (_:aZ K C H a fp m) (_:iR K H p s) (_:eX m s) (_:i<m.rows.length) (_:(s.cB.testBit i≠b.testBit i->m.has i=true)) (_:0<=m.eY i) (_:Q (aq (s.jf m b i)) H)
inductive rA (vs:aB) (H:Hp) (Q:VK) (_E:XK):Prop|mk (p s:_) (b out i:Nat) (_:vs=[.ref p,aq b,aq out,aq i]) (_:iR K H p s) (_:i<s.failed.length) (_:Q (aq (s.jK b out i)) H)
inductive Eg (vs:aB) (H:Hp) (Q:VK) (_E:XK):Prop|mk (a fp m p s:_) (o out:Nat) (_:vs=[.ref a,.ref p,aq o,aq out]) (_:aZ K C H a fp m) (_:iR K H p s) (_:eX m s) (_:(∀ i,s.cB.testBit i≠(Ord.off o out).testBit i->m.has i=true)) (_:(∀ i,0<=m.eY i)) (_:0<=s.kQ m (Ord.off o out)) (_:∀ q pw pf H',aG H H'->H' q=some (.tup [aq (Ord.off o out),.ref pw,.ref pf,aq (s.kQ m (Ord.off o out)).toNat])->H' pw=some (.tup (((List.range m.rows.length).map (s.jf m (Ord.off o out))).map aq))->H' pf=some (.tup (((List.range m.rows.length).map (s.jK (Ord.off o out) out)).map aq))->Q (.ref q) H')
end
def LF {m:av} {s:cD} {o:Nat} (b:m.rows.length<=4) (ok:eX m s) (c:o &&& m.ws=o) :
   Bit.sumOf ((Bit.rooms (Ord.off o s.cB)).filter λ r=>decide ((gN s.failed r:Int)<m.fails r))=s.may m o:=by
 have E:o<16:=by rw [<- c];exact aas ac0 (uF b)
 have V:s.cB<16:=Ord.Kv b ok.cB
 have n:o<2 ^ m.rows.length:=by rw [<- c];exact aas ac0 (Ord.Bc _ _)
 refine acA λ k=>?_
 rw [Bit.mW,cD.may,Ord.iN]
 rw [ab7,ab8,aa3,Bit.f7,Ord.xM E V]
 simp only [aaY,ab8]
 constructor
 .
  rintro ⟨⟨Z,h,H⟩,a⟩
  refine ⟨?_,⟨h,H⟩,a⟩
  by_cases q:k<m.rows.length
  . exact q
  . rw [Bit.iU n (by lia)] at h;cases h
 . rintro ⟨d,⟨h,H⟩,a⟩
   exact ⟨⟨by lia,h,H⟩,a⟩
def Dw {m:av} {o r:Nat} (H:o &&& m.ws=o) (h:o.testBit r=true):r<m.rows.length/\m.has r=true:=by
 rw [<- H,aby,av.ws,Ord.iN] at h
 simp only [aaY,ab8] at h
 exact h.2
def uV {m:av} {r:Nat} (h:m.has r=true):∃ z,m.pW r=some z:=abP.mp h
def zc {f:Nat->Nat} {n i:Nat} (h:i<n):gN ((List.range n).map f) i=f i:=by
 unfold gN
 rw [Zj,abe h];rfl
structure cx (m:av) (s:cD) (o out:Nat):Prop where
 h4:m.rows.length<=4
 ok:eX m s
 Sr:(NP m s).Yy o
 E7:o<16
 ON:out<16
 sub:∀ r,out.testBit r=true->o.testBit r=true/\s.cB.testBit r=false/\(gN s.failed r:Int)<m.fails r
 Zw:∀ r,0<=m.wd r
 KN:∀ r,0<=m.eY r
 Td:0<=m.d6
 Oo:0<=m.load
section
variable {m:av} {s:cD} {o out r:Nat}
def cx.bit (t:cx m s o out) (r:Nat):(Ord.off o out).testBit r=(o.testBit r && !out.testBit r):=Ord.xM t.E7 t.ON r
def cx.Ky (t:cx m s o out) (h:o.testBit r=true):r<m.rows.length/\m.has r=true:=by
 have H:r<61:=by
   by_cases q:r<61
   . exact q
   . rw [Ord.Ic t.E7 (by lia)] at h;cases h
 exact t.Sr.has r (Bit.f7.mpr ⟨H,h⟩)
def cx.Lk (t:cx m s o out) (h:(Ord.off o out).testBit r=true):o.testBit r=true/\out.testBit r=false:=by
 rw [t.bit] at h
 simp only [aaY,acR] at h
 exact h
theorem cx.has (t:cx m s o out) (h:s.cB.testBit r≠(Ord.off o out).testBit r):m.has r=true:=by
 cases a:(Ord.off o out).testBit r with
 | true=>exact (t.Ky (t.Lk a).1).2
 | false =>
   rw [a] at h
   have H:s.cB.testBit r=true:=by cases q:s.cB.testBit r with|true=>rfl|false=>exact absurd q h
   have b:r<m.rows.length:=by
     by_cases q:r<m.rows.length
     . exact q
     . rw [Bit.iU t.ok.cB (by lia)] at H;cases H
   have:=t.ok.bX r b
   unfold av.has
   cases e:m.pW r with
   | some z=>rfl
   | none=>rw [e] at this;rw [this.1] at H;cases H
def cx.lit (t:cx m s o out) (h:out.testBit r=true):gN s.ib r=0/\(Ord.off o out).testBit r=false:=by
 obtain ⟨H,a,d⟩:=t.sub r h
 have b:=(t.Ky H).1
 constructor
 .
  by_cases w:gN s.ib r=0
  . exact w
  . have c:s.wt r=true:=aaG (by lia)
    have e:o.testBit r=s.cB.testBit r:=t.Sr.eY r b c
    rw [H,a] at e;cases e
 . rw [t.bit,h];simp
def cx.fits (t:cx m s o out) (g:r<m.rows.length):CP (m.pW r) ((Ord.off o out).testBit r) (s.jf m (Ord.off o out) r) (s.jK (Ord.off o out) out r):=by
 have O:=t.ok.bX r g
 have T:=t.KN r
 cases e:m.pW r with
 | none =>
   rw [e] at O
   obtain ⟨b,c,a⟩:=O
   have n:m.has r=false:=by unfold av.has;rw [e];rfl
   have H:(Ord.off o out).testBit r=false:=by
     cases q:(Ord.off o out).testBit r with
     | false=>rfl
     | true=>rw [(t.Ky (t.Lk q).1).2] at n;cases n
   have h:out.testBit r=false:=by
     cases q:out.testBit r with
     | false=>rfl
     | true=>rw [(t.Ky (t.sub r q).1).2] at n;cases n
   refine ⟨H,?_,?_⟩
   . unfold cD.jf
     rw [b,H,aau rfl,c]
   . unfold cD.jK
     rw [h,H,a];rfl
 | some z =>
   rw [e] at O
   obtain ⟨b,c,a⟩:=O
   have f:m.eY r=z.2.2.1:=by unfold av.eY;rw [e];rfl
   have d:m.fails r=z.2.2.2:=by unfold av.fails;rw [e];rfl
   refine ⟨?_,?_,?_⟩
   . unfold cD.jf
     split
     . lia
     . rw [acg T,f];exact aa5 _
   .
    unfold cD.jK
    split
    . rename_i h
      have:=(t.sub r h).2.2
      rw [d] at this
      lia
    . split<;>lia
   .
    cases h:out.testBit r with
    | true =>
      obtain ⟨L,l⟩:=t.lit h
      refine .inr ⟨l,?_⟩
      unfold cD.jf
      rw [l,(t.sub r h).2.1,aau rfl,L]
    | false =>
      cases H:(Ord.off o out).testBit r with
      | true=>exact .inl (by unfold cD.jK;rw [h,H];rfl)
      | false =>
        have E:s.jK (Ord.off o out) out r=gN s.failed r:=by unfold cD.jK;rw [h,H];rfl
        rw [E]
        rcases a with q|⟨Q,i⟩
        . exact .inl q
        . refine .inr ⟨rfl,?_⟩
          unfold cD.jf
          rw [Q,H,aau rfl,i]
def cx.less (t:cx m s o out):(Bit.rooms (Ord.off o out)).length<=(Bit.rooms o).length/\((Bit.rooms (Ord.off o out)).map m.wd).sum<=((Bit.rooms o).map m.wd).sum :=
 Ord.BG t.Zw λ Z h=>(t.Lk h).1
def cx.and (t:cx m s o out):Ord.off o out &&& m.ws=Ord.off o out:=by
 refine acA λ k=>?_
 rw [aby,av.ws,Ord.iN]
 cases e:(Ord.off o out).testBit k with
 | false=>rfl
 | true =>
   obtain ⟨a,b⟩:=t.Ky (t.Lk e).1
   rw [aaG a,b];rfl
theorem cx.mE (t:cx m s o out):m.mE (Ord.off o out)=((Bit.rooms (Ord.off o out)).map m.wd).sum:=by
 unfold av.mE
 rw [t.and]
def cx.JV (t:cx m s o out):((Bit.rooms (Ord.off o out)).map m.wd).sum<=(s.heap:Int):=by
 have:=t.less.2
 have q:((Bit.rooms o).map m.wd).sum<=(s.heap:Int):=t.Sr.mE
 lia
def cx.KP (t:cx m s o out):0<=s.kQ m (Ord.off o out):=by
 have:=t.JV
 have:=t.Td
 have:=t.Oo
 unfold cD.kQ
 rw [t.mE]
 lia
def cx.lt (t:cx m s o out):Ord.off o out<2 ^ m.rows.length:=acJ _ λ k h=>by
 cases e:(Ord.off o out).testBit k with
 | false=>rfl
 | true=>have:=(t.Ky (t.Lk e).1).1;lia
def cx.next (t:cx m s o out) {c:aS} (l:c.length=m.rows.length) (H:∀ i,i<m.rows.length->gN c i+1<(m.rows.getD i []).length):eX m (s.behind m c o out):=by
 have h:=t.KP
 refine ⟨l,by simp [cD.behind],by simp [cD.behind],t.lt,?_,?_,H,λ i hi=>?_⟩
 .
  have a:=t.less.1
  have b:((Bit.rooms o).length:Int)<=m.most:=t.Sr.most
  show ((Bit.rooms (Ord.off o out)).length:Int)<=m.most
  lia
 .
  show (((s.kQ m (Ord.off o out)).toNat:Nat):Int)<=m.d6
  rw [acg h]
  unfold cD.kQ
  lia
 . show CP (m.pW i) ((Ord.off o out).testBit i) (gN ((List.range m.rows.length).map (s.jf m (Ord.off o out))) i) (gN ((List.range m.rows.length).map (s.jK (Ord.off o out) out)) i)
   rw [zc hi,zc hi]
   exact t.fits hi
end
abbrev Pr:=cq×cq
def eD (D:List Pr):Int×Int:=D.foldl (λ s d=>(s.1 * (d.1.2 * d.2.2)+d.1.1 * d.2.1 * s.2,s.2 * (d.1.2 * d.2.2))) (0,1)
def gF (D:List Pr) (d:Pr):eD (D++[d])=((eD D).1 * (d.1.2 * d.2.2)+d.1.1 * d.2.1 * (eD D).2,(eD D).2 * (d.1.2 * d.2.2)):=by
 unfold eD
 rw [abI];rfl
structure yN (n k:Nat) (d:Pr):Prop where
 a:dY n d.1
 b:dY k d.2
theorem yg (D:List Pr) (h:∀ d∈D,yN 900 900 d):∀ j,j<=D.length->Bd (1802 * j+2) (eD (D.take j)).1/\Bd (1800 * j+1) (eD (D.take j)).2/\0<(eD (D.take j)).2
 | 0,_=>⟨by show Int.natAbs 0<_;decide,by show Int.natAbs 1<_;decide,by show (0:Int)<1;decide⟩
 | j+1,f=>by
   obtain ⟨a,b,c⟩:=yg D h j (by lia)
   have H:=h D[j] (aay (by lia))
   have E:D.take (j+1)=D.take j++[D[j]]:=by rw [acr,aL (by lia)];rfl
   rw [E,gF]
   generalize D[j]=d at H
   generalize eD (D.take j)=s at a b c
   have B:Bd 1800 (d.1.2 * d.2.2):=(H.a.b.mul H.b.b).mono (by decide)
   have e:Bd 1800 (d.1.1 * d.2.1):=(H.a.t.mul H.b.t).mono (by decide)
   refine ⟨?_,(b.mul B).mono (by lia),aaN c (aaN H.a.p H.b.p)⟩
   have x:Bd (1802 * j+2+1800) (s.1 * (d.1.2 * d.2.2)):=a.mul B
   have X:Bd (1802 * j+2+1800) (d.1.1 * d.2.1 * s.2):=(e.mul b).mono (by lia)
   exact (x.add X).mono (by lia)
def xh {D:List Pr} (h:∀ d∈D,yN 900 900 d):0<(eD D).2:=by
 have:=(yg D h D.length (aak _)).2.2
 rw [aaB] at this
 exact this
theorem tu {n:Nat}:∀ (es D:List Pr) {k:Nat},(∀ d∈es,Bd n (d.1.2 * d.2.2))->Bd k (eD D).2->Bd (k+n * es.length) (eD (D++es)).2
 | [],D,k,_,h=>by rw [abf];exact h.mono (by lia)
 | e::es,D,k,H,h=>by
   have E:D++e::es=(D++[e])++es:=by rw [ab9];rfl
   rw [E]
   have a:Bd (k+n) (eD (D++[e])).2:=by
     rw [gF]
     exact h.mul (H e aar)
   have:=tu es (D++[e]) (λ d b=>H d (aaj _ b)) a
   refine this.mono ?_
   rw [aaW,Nat.mul_succ]
   lia
def Kd {t b t' b':Int} (H:0<b) (Y:0<b') (h:t * b'=t' * b):nf t b=nf t' b':=by
 have F:=il (t:=t) H
 have G:=il (t:=t') Y
 have c:(nf t b).1 * b=t * (nf t b).2:=F.jU
 have C:(nf t' b').1 * b'=t' * (nf t' b').2:=G.jU
 have p:=F.pos
 have a:=G.pos
 have k:=F.SF
 have K:=G.SF
 generalize nf t b=u at c p k |-
 generalize nf t' b'=v at C a K |-
 have e:u.1 * v.2=v.1 * u.2:=by
   have f:b * b'≠0:=ab6 (aaN H Y)
   refine abw f ?_
   grind
 have d:u.2 ∣ v.2:=sV (q:=u.1) ⟨v.1,by rw [e,acl]⟩ k
 have D:v.2 ∣ u.2:=sV (q:=v.1) ⟨u.1,by rw [<- e,acl]⟩ K
 have E:u.2=v.2:=Int.dvd_antisymm (abd p) (abd a) d D
 rw [<- E] at e
 exact Prod.ext (abw (ab6 p) e) E
abbrev GM (d:Pr):PyData:=.tuple [dW d.1,dW d.2]
def sY (d:Pr):eQ (GM d)=true:=by simp [GM,dW,eQ]
def uQ (D:List Pr):∀ e∈D.map GM,eQ e=true:=λ e h=>by
 obtain ⟨d,Z,rfl⟩:=aaE.mp h
 exact sY d
inductive MV (K:aE) (vs:aB) (H:Hp) (Q:VK) (_E:XK):Prop|mk (p xs ds:_) (_:vs=[.ref p]) (_:aX K H p xs) (_:bL K H (ds.map GM) xs) (_:(∀ d∈ds,yN 900 900 d)) (_:ds.length<=10) (_:Bd 4000 (eD ds).2) (_:∀ q H',aG H H'->H' q=some (.tup [.int (nf (eD ds).1 (eD ds).2).1,.int (nf (eD ds).1 (eD ds).2).2])->Q (.ref q) H')
def cX (m:av) (i:Nat) (c:List cq):List Pr:=(List.range c.length).map λ j=>(m.share i j,c.getD j (0,1))
def eI (m:av) (i:Nat) (c:List cq) (w:cq) (fired:Bool):List Pr:=cX m i c++[(m.fO i,w)]++(if fired then [((1,1),((m.bv[i]?).getD none).map (·.1) |>.getD (0,1))] else [])
def fG (m:av) (i:Nat) (c:List cq) (w:cq) (fired:Bool):cq:=nf (eD (eI m i c w fired)).1 (eD (eI m i c w fired)).2
inductive EI (K:aE) (C:am) (vs:aB) (H:Hp) (Q:VK) (_E:XK):Prop|mk (a fp m:_) (i:Nat) (pa PB cw wv w fired:_) (_:vs=[.ref a,aq i,.ref pa,wv,.bl fired]) (_:aZ K C H a fp m) (_:i<m.rows.length) (_:aX K H pa PB) (_:bL K H (cw.map dW) PB) (_:cw.length=m.rows.length) (_:(∀ f∈cw,dY 120 f)) (_:Dn K H (dW w) wv) (_:dY 120 w) (_:(fired=true->∃ z,m.bv[i]?=some (some z))) (_:∀ q H',aG H H'->H' q=some (.tup [.int (fG m i cw w fired).1,.int (fG m i cw w fired).2])->Q (.ref q) H')
def GF {m:av} (w:m.Wf) (h:m.rows.length<=4) (i j:Nat):dY 605 (m.share i j):=by
 unfold av.share
 split
 . exact (w.ge i _).mono (by lia)
 . exact (w.kq i j).mono (by decide)
def ie {m:av} {i:Nat} {c:List cq} {w:cq} {fired:Bool} (W:m.Wf) (o:m.rows.length<=4) (L:c.length=m.rows.length) (p:∀ f∈c,dY 120 f) (hw:dY 120 w) (q:fired=true->∃ z,m.bv[i]?=some (some z)) :
   (∀ d∈eI m i c w fired,yN 900 900 d)/\(eI m i c w fired).length<=10/\Bd 4000 (eD (eI m i c w fired)).2:=by
 have r:∀ d∈cX m i c,yN 605 120 d:=λ d H=>by
   obtain ⟨j,e,rfl⟩:=aaE.mp H
   have e:=aaJ.mp e
   refine ⟨GF W o i j,?_⟩
   show dY 120 (c.getD j (0,1))
   rw [PY,aL e]
   exact p _ (aay e)
 have t:(cX m i c).length<=4:=by unfold cX;rw [No,aam];lia
 have s:yN 100 120 (m.fO i,w):=⟨W.fO i,hw⟩
 have l:Bd 1 (eD []).2:=by show Int.natAbs 1<2 ^ 1;decide
 have g:Bd (1+725 * (cX m i c).length) (eD (cX m i c)).2:=tu (n:=725) (cX m i c) [] (λ d H=>(r d H).a.b.mul (r d H).b.b) l
 have B:Bd (2901+220 * 1) (eD (cX m i c++[(m.fO i,w)])).2:=tu (n:=220) [(m.fO i,w)] (cX m i c) (λ d H=>by rw [aac.mp H];exact s.a.b.mul s.b.b) (g.mono (by lia))
 unfold eI
 cases fired with
 | false =>
   rw [aax aaC,abf]
   refine ⟨λ d H=>?_,by rw [aaf];simp only [aaW,adb];lia,B.mono (by decide)⟩
   rcases aaz.mp H with h|h
   . exact ⟨(r d h).a.mono (by decide),(r d h).b.mono (by decide)⟩
   . rw [aac.mp h];exact ⟨s.a.mono (by decide),s.b.mono (by decide)⟩
 | true =>
   obtain ⟨z,E⟩:=q rfl
   rw [aau rfl,E]
   have O:dY 100 z.1:=W.bv z (aah E)
   have S:yN 2 100 (((1,1),z.1):Pr):=⟨⟨by show Int.natAbs 1<2 ^ 2;decide,by show Int.natAbs 1<2 ^ 2;decide,by show (0:Int)<1;decide⟩,O⟩
   have k:Bd (3121+102 * 1) (eD ((cX m i c++[(m.fO i,w)])++[((1,1),z.1)])).2:=tu (n:=102) [((1,1),z.1)] _ (λ d H=>by rw [aac.mp H];exact S.a.b.mul S.b.b) B
   refine ⟨λ d H=>?_,by rw [aaf,aaf];simp only [aaW,adb];lia,k.mono (by decide)⟩
   rcases aaz.mp H with h|h
   . rcases aaz.mp h with h|h
     . exact ⟨(r d h).a.mono (by decide),(r d h).b.mono (by decide)⟩
     . rw [aac.mp h];exact ⟨s.a.mono (by decide),s.b.mono (by decide)⟩
   . rw [aac.mp h];exact ⟨S.a.mono (by decide),S.b.mono (by decide)⟩
def m7 (f:Nat->Int):Nat->Int
 | 0=>0
 | t+1=>m7 f t+f t
def bR.YR (t:bR) (i:Nat):Int:=((t.oK[i]?).map (·.1)).getD 0
def bR.flT (t:bR) (i j:Nat):Int:=if i=j then 0 else (t.cb i j).getD 0
section
variable {X:Cx}
def VY (K:aE) (t:TA):TI:=λ U H R=>t U H λ v h=>∃ a,v=[.ref a]/\(((∃ x,aX K h a x)/\R (EY (aX K) a) h)\/((∃ x,bY K h a x)/\R (EY (bY K) a) h))
def Hl {a:Expr} {t:TA} {p g O:Pos} {E:List Expr} {D:Nat} (v:Gl X "enumerate") (w:X.mg "enumerate" = none) (u:PA X [a] t) (x:autoParam (starEach [a] X.env=[(false,eval a X.env)]) za_._auto_1) :
   PI X (.Tuple E D O) (.Call (.Name "enumerate" p) [a] [] g) (VY X.K t):=by
 intro f s U H R I h
 refine Call_ ?_
 refine jv I v w ki ?_ MM Mf
 refine abc ?_ x rfl
 refine c7 (u g f s U H _ I h) λ J S ⟨V,n,i,y,Q⟩=>?_
 obtain ⟨a,e,q⟩:=Q
 subst e
 cases y with
 | cons r A =>
   cases A
   obtain rfl:_=Value.ref a:=r
   have F:∀ c∈[S.heap.objs.size+1,S.heap.objs.size],S.heap.objs.size<=c:=λ c b=>by
     simp only [aab,aae,aaT] at b
     rcases b with rfl|rfl
     . exact acp _
     . exact aak _
   rcases q with ⟨⟨G,j⟩,q⟩|⟨⟨G,j⟩,q⟩
   . obtain ⟨B,C,d,L⟩:=i.list j
     have l:a<S.heap.objs.size:=by obtain ⟨Z,e,Z⟩:=d.isList;exact aav e
     refine call_enumerate_list d.isList λ o z m M k=>acf z ?_
     exact ⟨S.heap.objs.size+1,[S.heap.objs.size+1,S.heap.objs.size],_,_,n,rfl,i.kept (t':=S.toks) k,zd (acY _) (aaO (acO l)) (aaO l),⟨⟨_,z⟩,m⟩,λ c b=>i.zZ (F c b) (i.dF.fresh (F c b)),q⟩
   . obtain ⟨B,C,d,L⟩:=i.tuple j
     have l:a<S.heap.objs.size:=d.lt
     refine uH d λ o z m k=>acf z ?_
     exact ⟨S.heap.objs.size+1,[S.heap.objs.size+1,S.heap.objs.size],_,_,n,rfl,i.kept (t':=S.toks) k,zY (acY _) (aaO (acO l)) (aaO l),⟨⟨_,z⟩,m⟩,λ c b=>i.zZ (F c b) (i.dF.fresh (F c b)),q⟩
end
def f9 (m:av) (bs:aS) (d:Nat):List cq:=(List.range bs.length).map λ j=>(m.rows.getD j []).getD (bs.getD j 0+d) (0,1)
def gC (m:av) (i:Nat):cq×cq×cq:=(m.aN[i]?).getD ((0,1),(0,1),(0,1))
def je (m:av) (i:Nat) (bs:aS) (fired:Bool):cq:=fG m i (f9 m bs 0) (gC m i).2.1 fired
def iZ (m:av) (i:Nat) (bs:aS) (fired:Bool):cq:=fG m i (f9 m bs 1) (gC m i).2.2 fired
inductive JQ (K:aE) (C:am) (vs:aB) (H:Hp) (Q:VK) (_E:XK):Prop|mk (a fp m:_) (i:Nat) (pb bs fired:_) (_:vs=[.ref a,aq i,.ref pb,.bl fired]) (_:aZ K C H a fp m) (_:i<m.rows.length) (_:(aX K H pb (bs.map aq)\/bY K H pb (bs.map aq))) (_:bs.length=m.rows.length) (_:(∀ j,j<m.rows.length->bs.getD j 0+1<(m.rows.getD j []).length)) (_:(fired=true->∃ z,m.bv[i]?=some (some z))) (_:∀ q q1 q2 H',aG H H'->H' q=some (.tup [.ref q1,.ref q2])->H' q1=some (.tup [.int (je m i bs fired).1,.int (je m i bs fired).2])->H' q2=some (.tup [.int (iZ m i bs fired).1,.int (iZ m i bs fired).2])->Q (.ref q) H')
def kr {m:av} {bs:aS} (w:m.Wf) (L:bs.length=m.rows.length) (a:∀ j,j<m.rows.length->bs.getD j 0+1<(m.rows.getD j []).length) {d:Nat} (c:d<=1):∀ f∈f9 m bs d,dY 120 f:=λ f b=>by
 obtain ⟨j,h,rfl⟩:=aaE.mp b
 have h:=aaJ.mp h
 have q:=a j (by lia)
 have H:j<m.rows.length:=by lia
 rw [PY (l:=m.rows),aL H] at q |-
 have q:bs.getD j 0+1<m.rows[j].length:=q
 show dY 120 (m.rows[j].getD (bs.getD j 0+d) (0,1))
 rw [PY,aL (by lia)]
 exact (w.rows m.rows[j] (aay H) _ (aay _)).mono (by decide)
def bR.kT (t:bR) (n i j:Nat):Int:=if j=i then 12 - t.YR i - m7 (t.flT i) n else t.flT i j
def bR.X (t:bR) (n i:Nat) (x:Nat->Int) (a:Int):Int:=m7 (λ j=>t.kT n i j * x j) n+t.YR i * a
def bR.VW (t:bR) (j b:Nat):Int:=(t.marks.getD j []).getD b 0
def bR.xl (t:bR) (bs:aS) (d j:Nat):Int:=t.VW j (bs.getD j 0+d)
def bR.Qb (t:bR) (i:Nat):Int×Int×Int:=(t.oK[i]?).getD (0,0,0)
def bR.XW (t:bR) (i:Nat):Int:=(((t.bv[i]?).getD none).map (·.1)).getD 0
def bR.sX (t:bR) (n i:Nat) (bs:aS) (d:Nat) (x:Int) (fired:Bool):Int:=t.X n i (t.xl bs d) x+(if fired then 12 * t.XW i else 0)
def dQ {a:TS} {U:L2.St} (h:let d:L2.Ends:=D;let z:L2.St:=U;let R:TS:=a3;let r:TS:=bA a2 R;bA a r d z H):(bA a (bA a2 (a3))) D U H:=h
def eP {a:TS} {U:L2.St} (h:let d:L2.Ends:=D;let z:L2.St:=U;let b:TS:=a4;let R:TS:=bA a3 b;let r:TS:=bA a2 R;bA a r d z H):(bA a (bA a2 (bA a3 (a4)))) D U H:=h
def u8 {a:TS} {U:L2.St} (h:let d:L2.Ends:=D;let z:L2.St:=U;let c:TS:=a5;let b:TS:=bA a4 c;let R:TS:=bA a3 b;let r:TS:=bA a2 R;bA a r d z H):(bA a (bA a2 (bA a3 (bA a4 (a5))))) D U H:=h
def jT {a:TS} {U:L2.St} (h:let d:L2.Ends:=D;let z:L2.St:=U;let e:TS:=a6;let c:TS:=bA a5 e;let b:TS:=bA a4 c;let R:TS:=bA a3 b;let r:TS:=bA a2 R;bA a r d z H):(bA a (bA a2 (bA a3 (bA a4 (bA a5 (a6)))))) D U H:=h
def Al {a:TS} {U:L2.St} (h:let d:L2.Ends:=D;let z:L2.St:=U;let g:TS:=a8;let f:TS:=bA a7 g;let e:TS:=bA a6 f;let c:TS:=bA a5 e;let b:TS:=bA a4 c;let R:TS:=bA a3 b;let r:TS:=bA a2 R;bA a r d z H):(bA a (bA a2 (bA a3 (bA a4 (bA a5 (bA a6 (bA a7 (a8)))))))) D U H:=h
def zK {a:TS} {U:L2.St} (h:let d:L2.Ends:=D;let z:L2.St:=U;let i:TS:=a9;let g:TS:=bA a8 i;let f:TS:=bA a7 g;let e:TS:=bA a6 f;let c:TS:=bA a5 e;let b:TS:=bA a4 c;let R:TS:=bA a3 b;let r:TS:=bA a2 R;bA a r d z H):(bA a (bA a2 (bA a3 (bA a4 (bA a5 (bA a6 (bA a7 (bA a8 (a9))))))))) D U H:=h
def Ea {a:TS} {U:L2.St} (h:let d:L2.Ends:=D;let z:L2.St:=U;let j:TS:=HD;let i:TS:=bA a9 j;let g:TS:=bA a8 i;let f:TS:=bA a7 g;let e:TS:=bA a6 f;let c:TS:=bA a5 e;let b:TS:=bA a4 c;let R:TS:=bA a3 b;let r:TS:=bA a2 R;bA a r d z H):(bA a (bA a2 (bA a3 (bA a4 (bA a5 (bA a6 (bA a7 (bA a8 (bA a9 (HD)))))))))) D U H:=h
def DJ {A Z a b:TS} {U:L2.St} (h:let d:L2.Ends:=D;let z:L2.St:=U;let r:TS:=b;let Y:TS:=bA a r;let W:TS:=bA Z Y;let l:TS:=bA HD W;let k:TS:=bA a9 l;let j:TS:=bA a8 k;let i:TS:=bA a7 j;let g:TS:=bA a6 i;let f:TS:=bA a5 g;let e:TS:=bA a4 f;let c:TS:=bA a3 e;let R:TS:=bA a2 c;bA A R d z H):(bA A (bA a2 (bA a3 (bA a4 (bA a5 (bA a6 (bA a7 (bA a8 (bA a9 (bA HD (bA Z (bA a (b))))))))))))) D U H:=h
@[elab_as_elim] theorem Kb {α:Type} {motive:List α->Prop} {us:List α} (h:us.length=1) (k:∀ a,motive [a]):motive us :=
 dP h λ a _ h=>aa2 h ▸ k a
@[elab_as_elim] theorem De {α:Type} {motive:List α->Prop} {us:List α} (h:us.length=2) (k:∀ a b,motive [a,b]):motive us :=
 dP h λ a _ h=>dP h λ b _ h=>aa2 h ▸ k a b
@[elab_as_elim] theorem FT {α:Type} {motive:List α->Prop} {us:List α} (h:us.length=3) (k:∀ a b c,motive [a,b,c]):motive us :=
 dP h λ a _ h=>dP h λ b _ h=>dP h λ c _ h=>aa2 h ▸ k a b c
@[elab_as_elim] theorem C5 {α:Type} {motive:List α->Prop} {us:List α} (h:us.length=4) (k:∀ a b c d,motive [a,b,c,d]):motive us :=
 dP h λ a _ h=>dP h λ b _ h=>dP h λ c _ h=>dP h λ d _ h=>aa2 h ▸ k a b c d
@[elab_as_elim] theorem Kj {α:Type} {motive:List α->Prop} {us:List α} (h:us.length=5) (k:∀ a b c d e,motive [a,b,c,d,e]):motive us :=
 dP h λ a _ h=>dP h λ b _ h=>dP h λ c _ h=>dP h λ d _ h=>dP h λ e _ h=>aa2 h ▸ k a b c d e
@[elab_as_elim] theorem Gr {α:Type} {motive:List α->Prop} {us:List α} (h:us.length=6) (k:∀ a b c d e f,motive [a,b,c,d,e,f]):motive us :=
 dP h λ a _ h=>dP h λ b _ h=>dP h λ c _ h=>dP h λ d _ h=>dP h λ e _ h=>dP h λ f _ h=>aa2 h ▸ k a b c d e f
@[elab_as_elim] theorem J7 {α:Type} {motive:List α->Prop} {us:List α} (h:us.length=7) (k:∀ a b c d e f g,motive [a,b,c,d,e,f,g]):motive us :=
 dP h λ a _ h=>dP h λ b _ h=>dP h λ c _ h=>dP h λ d _ h=>dP h λ e _ h=>dP h λ f _ h=>dP h λ g _ h=>aa2 h ▸ k a b c d e f g
def lc {s:Scope} {x:Str} (h:(match s.names.lookup x with|some .local=>true|some .cell=>true|_=>false)=true):Loc s x:=by
 unfold Loc
 split at h
 . rename_i e;exact .inl e
 . rename_i e;exact .inr e
 . cases h
def dg.m {j k:Nat} {A:Around} (r:dg k A) (h:j<=k:=by first|decide|lia):dg j A:=r.mono h
section
variable {P:bD} {w:bz} {K:aE} {mg:dX} {base:bE} {x qual:Str} {st:Stmt} {N ps:de} {k:Nat} {sp:Sp} {C:am}
def gJ.cN (h:gJ K mg x st) (S:aC N ps (au st)) (i:∀ (f:am) (b:aA) (A:Around) (outer:List Env) (s:Shared) (H:Hp) (vs:aB) (Q:VK) (E:XK),dg k (A.deeper (envOfC x (au st) s.heap.objs.size f b))->sp vs H Q E ->
     ∃ t,vO (qv yJ P w K mg base N x (au st) f b A outer s H E).EX (ce st) t/\t { nx:=λ Z c=>Q .cC c,rt:=Q } (start N vs) H) (len:∀ vs H Q E,sp vs H Q E->vs.length=ps.length:=by intro Z Z Z Z h;first|(cases h;subst_vars;rfl)|(obtain ⟨Z,rfl,Z⟩:=h;rfl)|(obtain ⟨Z,Z,rfl,Z⟩:=h;rfl)|(obtain ⟨Z,Z,Z,rfl,Z⟩:=h;rfl)|(obtain ⟨Z,Z,Z,Z,rfl,Z⟩:=h;rfl)|(obtain ⟨Z,Z,Z,Z,Z,rfl,Z⟩:=h;rfl)) (g:∀ (kV d p:aA) (e:Option am) (b ct:aA) (us:bM),us.length=ps.length->bindArgs (W.fnOf x x (dA st) (ce st) (au st) .none kV d p e b ct) ⟨us,[]⟩=pure (ps.zip us):=by intro Z Z Z Z Z Z us a;first|exact Kb a λ Z=>rfl|exact De a λ Z Z=>rfl|exact FT a λ Z Z Z=>rfl|exact C5 a λ Z Z Z Z=>rfl|exact Kj a λ Z Z Z Z Z=>rfl|exact Gr a λ Z Z Z Z Z Z=>rfl|exact J7 a λ Z Z Z Z Z Z Z=>rfl):Def P w K mg base x (k+1) ps sp:=h.def S len g i
def ga.fS {m:Str} (h:ga K C m qual st .none) (S:aC N ps (au st)) (i:∀ (f:am) (b:aA) (A:Around) (outer:List Env) (s:Shared) (H:Hp) (vs:aB) (Q:VK) (E:XK),dg k (A.deeper (envOfC qual (au st) s.heap.objs.size f b))->sp vs H Q E ->
     ∃ t,vO (qv yJ P w K mg base N qual (au st) f b A outer s H E).EX (ce st) t/\t { nx:=λ Z c=>Q .cC c,rt:=Q } (start N vs) H) (len:∀ vs H Q E,sp vs H Q E->vs.length=ps.length:=by intro Z Z Z Z h;first|(cases h;subst_vars;rfl)|(obtain ⟨Z,rfl,Z⟩:=h;rfl)|(obtain ⟨Z,Z,rfl,Z⟩:=h;rfl)|(obtain ⟨Z,Z,Z,rfl,Z⟩:=h;rfl)|(obtain ⟨Z,Z,Z,Z,rfl,Z⟩:=h;rfl)|(obtain ⟨Z,Z,Z,Z,Z,rfl,Z⟩:=h;rfl)) (g:∀ (kV d p:aA) (e:Option am) (b ct:aA) (us:bM),us.length=ps.length->bindArgs (W.fnOf m qual (dA st) (ce st) (au st) .none kV d p e b ct) ⟨us,[]⟩=pure (ps.zip us):=by intro Z Z Z Z Z Z us a;first|exact Kb a λ Z=>rfl|exact De a λ Z Z=>rfl|exact FT a λ Z Z Z=>rfl|exact C5 a λ Z Z Z Z=>rfl|exact Kj a λ Z Z Z Z Z=>rfl|exact Gr a λ Z Z Z Z Z Z=>rfl|exact J7 a λ Z Z Z Z Z Z Z=>rfl):hC P w K mg base C m (k+1) ps [] sp:=h.Io S len g i
end
inductive A3 (a b c:Prop):Prop|mk (_:a) (_:b) (_:c)
inductive A4 (a b c d:Prop):Prop|mk (_:a) (_:b) (_:c) (_:d)
inductive A5 (a b c d e:Prop):Prop|mk (_:a) (_:b) (_:c) (_:d) (_:e)
inductive A6 (a b c d e f:Prop):Prop|mk (_:a) (_:b) (_:c) (_:d) (_:e) (_:f)
inductive E2 {a b:Type} (p:a->b->Prop):Prop|mk (x:a) (y:b) (_:p x y)
inductive E3 {a b c:Type} (p:a->b->c->Prop):Prop|mk (x:a) (y:b) (z:c) (_:p x y z)
inductive E4 {a b c d:Type} (p:a->b->c->d->Prop):Prop|mk (x:a) (y:b) (z:c) (u:d) (_:p x y z u)
inductive E5 {a b c d e:Type} (p:a->b->c->d->e->Prop):Prop|mk (x:a) (y:b) (z:c) (u:d) (v:e) (_:p x y z u v)
section
variable {K:aE} {H H':Hp} {s:cD} {g:Int}
def iR.ts {p:am} (h:iR K H p s) (t:aT K H H'):iR K H' p s:=by
 obtain ⟨e,g,f,a,b,c,d⟩:=h
 exact ⟨e,g,f,t _ _ a,t _ _ b,t _ _ c,t _ _ d⟩
end
def yr {m:av} {s:cD} {o:Nat} (h:m.rows.length<=4):s.may m o<16:=aaw (Ord.Bc _ _) (abr (by decide) h:2 ^ m.rows.length<=2 ^ 4)
def aZ.JL {K:aE} {C:am} {d:Hp} {a x:am} {f:bJ} {m:av} (h:aZ K C H a f m) (st:∀ b o,H b=some o->b≠x->d b=some o) (t:aT K H d) (nx:x∉f):aZ K C d a f m:=by
 obtain ⟨⟨M,k,p,l,n,V,S,T,A,rfl,v,J,G,y,u,I,N,B,E,q,r,s,D,F⟩,Q,L,O,R⟩:=h
 have g:∀ {c o},H c=some o->c∈[a,M,k,p,l,n]->d c=some o:=λ {c o} e w=>st c o e (λ z=>nx (z ▸ w))
 exact ⟨⟨M,k,p,l,n,V,S,T,A,rfl,g v (by simp),g J (by simp),g G (by simp),g y (by simp),g u (by simp),g I (by simp),N,B,E,kA t q,jh t r,hG t s,λ i j=>(D i j).ts t,F⟩,Q,L,O,R⟩
def bR.Y7 (t:bR) (i:Nat) (z lo hi:Int):Prop:=0<=z/\z<((t.marks.getD i []).length:Int) - 1/\12 * t.VW i z.toNat<=hi/\lo<=12 * t.VW i (z.toNat+1)
instance {t:bR} {i:Nat} {z lo hi:Int}:Decidable (t.Y7 i z lo hi):=by unfold bR.Y7;infer_instance
def bR.s0 (t:bR) (n i:Nat) (bs:aS) (f:Bool):Int:=t.sX n i bs 0 (t.Qb i).2.1 f
def bR.s1 (t:bR) (n i:Nat) (bs:aS) (f:Bool):Int:=t.sX n i bs 1 (t.Qb i).2.2 f
theorem aZ.some {K:aE} {C:am} {a:am} {f:bJ} {m:av} (h:aZ K C H a f m):∀ c∈f,∃ o,H c=some o:=by
 obtain ⟨⟨e,k,p,l,n,v,V,q,A,rfl,d,j,g,M,G,i,Z⟩,Z⟩:=h
 intro c b
 simp only [aab,aae,aaT] at b
 rcases b with rfl|rfl|rfl|rfl|rfl|rfl
 . exact ⟨_,d⟩
 . exact ⟨_,j⟩
 . exact ⟨_,g⟩
 . exact ⟨_,M⟩
 . exact ⟨_,G⟩
 . exact ⟨_,i⟩
def ma (s:cD):PyData:=.tuple [.tuple (s.cJ.map jy),jy s.cB,.tuple (s.ib.map jy),.tuple (s.failed.map jy),jy s.heap]
end L2
namespace PySem
open Sem (wp)
mutual
def kd:PyData->Bool
 | .bool _=>true
 | .int _=>true
 | .tuple d=>yH d
 | _=>false
def yH:List PyData->Bool
 | []=>true
 | d::D=>kd d && yH D
end
mutual
def tE:PyData->PyData
 | .bool b => .int (if b then 1 else 0)
 | .tuple D => .tuple (nc D)
 | d=>d
def nc:List PyData->List PyData
 | []=>[]
 | d::D=>tE d::nc D
end
mutual
def vB:PyData->Nat
 | .tuple d=>vH d+1
 | _=>0
def vH:List PyData->Nat
 | []=>0
 | d::D=>max (vB d) (vH D)
end
mutual
def rJ:PyData->Int
 | .int i=>hashInt i
 | .bool b=>hashInt (if b then 1 else 0)
 | .tuple d=>reduceHash (Builtin.Tuple.tupleHashOf (lT d))
 | _=>0
def lT:List PyData->List Int
 | []=>[]
 | d::D=>rJ d::lT D
end
mutual
def rO:PyData->Nat
 | .tuple d=>nW d+1
 | _=>1
def nW:List PyData->Nat
 | []=>0
 | d::D=>rO d+nW D
end
mutual
theorem wc:∀ d,kd d=true->rJ (tE d)=rJ d
 | .bool b,_=>by simp only [tE,rJ]
 | .int i,_=>by simp only [tE,rJ]
 | .tuple D,h=>by simp only [tE,rJ];rw [uY D h]
 | .none,_ | .str _,_ | .list _,_ | .dict _,_=>by simp only [tE]
theorem uY:∀ D,yH D=true->lT (nc D)=lT D
 | [],_=>rfl
 | d::D,h=>by
   rw [yH,aaY] at h
   simp only [nc,lT]
   rw [wc d h.1,uY D h.2]
end
mutual
theorem ww:∀ d,rO (tE d)=rO d
 | .bool b=>by simp only [tE,rO]
 | .tuple D=>by simp only [tE,rO];rw [tI D]
 | .int _ | .none | .str _ | .list _ | .dict _=>by simp only [tE]
theorem tI:∀ D,nW (nc D)=nW D
 | []=>rfl
 | d::D=>by
   simp only [nc,nW]
   rw [ww d,tI D]
end
mutual
theorem xp:∀ (d e:PyData),kd d=true->kd e=true->(PyData.eqv d e=true↔tE d=tE e)
 | .bool a,.bool b,_,_=>by cases a<;>cases b<;>simp [PyData.eqv,tE]
 | .bool a,.int j,_,_=>by simp [PyData.eqv,tE]
 | .int i,.bool b,_,_=>by simp [PyData.eqv,tE]
 | .int i,.int j,_,_=>by simp [PyData.eqv,tE]
 | .tuple xs,.tuple ys,h,k=>by
   simp only [PyData.eqv,tE,PyData.tuple.injEq]
   exact Au xs ys h k
 | .bool _,.tuple _,_,_ | .int _,.tuple _,_,_ | .tuple _,.bool _,_,_ | .tuple _,.int _,_,_=>by simp [PyData.eqv,tE]
theorem Au:∀ (D es:List PyData),yH D=true->yH es=true->(PyData.eqvAll D es=true↔nc D=nc es)
 | [],[],_,_=>by simp [PyData.eqvAll,nc]
 | [],_::_,_,_=>by simp [PyData.eqvAll,nc]
 | _::_,[],_,_=>by simp [PyData.eqvAll,nc]
 | d::D,e::es,h,k=>by
   rw [yH,aaY] at h k
   simp only [PyData.eqvAll,nc,aaY,adG]
   rw [xp d e h.1 k.1,Au D es h.2 k.2]
end
section
variable {prog:bD} {w:bz} {E:aA->Shared->Prop}
mutual
theorem ul:∀ (d:PyData) (v:aA) (as:bJ) (A:Around) (s:Shared) (Q:Int->Shared->Prop),kd d=true->Reads s.heap v d as->A.units+vB d<cLine ->
   Q (rJ d) { s with toks:=s.toks+rO d }->wpAny (model prog w) A (pyHash v) Q E s
 | .int i,_,_,A,s,Q,_,x,_,h=>by cases x;exact wpAny_pyHash_int h
 | .bool b,_,_,A,s,Q,_,x,e,h=>by
   cases x
   refine W.pyHash_slot (T:="bool") rfl F.slot_bool_hash entry_int_hash (args_int_hash _) (beq_builtin_none _) (.inl rfl) ?_
   cases b
   . exact (show wpAny _ _ (do ret (<- mkInt 0)) _ _ s from aaa (wpAny_mkInt (aao ⟨_,_,rfl,h⟩)))
   . exact (show wpAny _ _ (do ret (<- mkInt 1)) _ _ s from aaa (wpAny_mkInt (aao ⟨_,_,rfl,h⟩)))
 | .tuple D,_,_,A,s,Q,H,x,e,h=>by
   cases x with
   | @tuple a o vs n _ _ c g j k =>
     rw [vB] at e
     refine W.pyHash_slot (T:="tuple") ⟨_,c,g⟩ F.slot_tuple_hash F.entry_tuple_hash (F.args_tuple_hash_1 _) (beq_builtin_none _) (.inr (by lia)) ?_
     show wpAny _ _ (Builtin.Tuple.tupleItemsOf (.ref a) >>= _) _ _ s
     refine aaa (wpAny_tupleItemsOf c j ?_)
     refine aaa ?_
     rw [<- acI]
     refine rK D vs.toList _ A.in1 s #[] _ H k (by rw [acE];lia) λ b f=>?_
     show wpAny _ _ (retInt (Builtin.Tuple.tupleHashOf b.toList)) _ _ _
     rw [f]
     exact aaa (wpAny_mkInt (aao ⟨_,_,rfl,h⟩))
 | .none,_,_,_,_,_,H,_,_,_ | .str _,_,_,_,_,_,H,_,_,_ | .list _,_,_,_,_,_,H,_,_,_ | .dict _,_,_,_,_,_,H,_,_,_=>by rw [kd] at H<;>first|cases H|nofun
theorem rK:∀ (D:List PyData) (vs:bM) (as:bJ) (A:Around) (s:Shared) (b:Array Int) (Q:Array Int->Shared->Prop),yH D=true->ReadsAll s.heap vs D as->A.units+vH D<cLine ->
   (∀ B,B.toList=b.toList++lT D->Q B { s with toks:=s.toks+nW D }) ->
   wpAny (model prog w) A (forIn vs b λ x r=>do let h <- pyHash x;pure PUnit.unit;pure (ForInStep.yield (r.push h))) Q E s
 | [],_,_,A,s,b,Q,_,x,_,h=>by cases x;exact aao (h b (by simp [lT]))
 | d::D,_,_,A,s,b,Q,H,x,c,h=>by
   cases x with
   | cons X e =>
     rw [yH,aaY] at H
     rw [vH] at c
     rw [adc]
     refine aaa (aaa (ul d _ _ A s _ H.1 X (by lia) ?_))
     refine aaa (aao (aao ?_))
     exact rK D _ _ A { s with toks:=s.toks+rO d } _ Q H.2 e (by lia) λ B a=>by
       have:=h B (by simp [a,lT])
       rw [nW,<- Nat.add_assoc] at this
       exact this
end
theorem rX:∀ (n:Nat) (d:PyData) (v:aA) (as:bJ) (A:Around) (s:Shared) (Q:Bool->Shared->Prop),kd d=true->vB d<=n->Reads s.heap v d as->Q true s->wpAny (model prog w) A (eqIsQuiet n v) Q E s
 | n,.int i,_,_,A,s,Q,_,_,x,h=>by cases x;rw [eqIsQuiet_byValue n rfl];exact aao h
 | n,.bool i,_,_,A,s,Q,_,_,x,h=>by cases x;rw [eqIsQuiet_byValue n rfl];exact aao h
 | 0,.tuple D,_,_,A,s,Q,_,f,_,_=>by rw [vB] at f;lia
 | n+1,.tuple D,_,_,A,s,Q,H,f,x,h=>by
   cases x with
   | @tuple a o vs m _ _ c j q k =>
     rw [vB] at f
     unfold eqIsQuiet
     refine aaa (adk ⟨_,c,j⟩ F.slot_tuple_eq.lookup ?_)
     show wpAny _ _ (isInstance (.ref a) (.type "tuple") >>= _) _ _ s
     refine aaa (adV ⟨_,c,j⟩ isSubtype_tuple_tuple ?_)
     simp only [ad1,abC,acq]
     refine aaa (acB c q ?_)
     refine aaa ?_
     show wpAny _ _ (forIn vs _ _) _ _ s
     rw [<- acI]
     refine wpAny_forIn_list _ (λ rest r s'=>r.1=none/\s'=s/\∃ es T,yH es=true/\vH es<=n/\ReadsAll s.heap rest es T) _ ?_ ?_ _ _ ⟨rfl,rfl,D,_,H,by lia,k⟩
     .
      rintro v rest r s' ⟨k,rfl,es,T,b,l,p⟩
      cases p with
      | @cons _ _ e es _ _ X t =>
        rw [yH,aaY] at b
        rw [vH] at l
        refine aaa (rX n e v _ _ _ _ b.1 (by lia) X ?_)
        simp only [ad1,abC,acq]
        exact aao ⟨rfl,rfl,es,_,b.2,by lia,t⟩
     . rintro ⟨R,u⟩ s' ⟨g,rfl,Z⟩
       have g:R=none:=g
       subst g
       exact aao h
 | _,.none,_,_,_,_,_,H,_,_,_|_,.str _,_,_,_,_,_,H,_,_,_|_,.list _,_,_,_,_,_,H,_,_,_|_,.dict _,_,_,_,_,_,H,_,_,_=>by rw [kd] at H<;>first|cases H|nofun
def Fn {a b:am} {d e:PyData} {as bs:bJ} {A:Around} {s:Shared} {Q:Bool->Shared->Prop} (r:Reads s.heap (.ref a) d as) (R:Reads s.heap (.ref b) e bs) (H:SeqAt.shaped d=true) (c:SeqAt.shaped e=true) (k:kd d=true) (K:kd e=true) (f:A.units+64<cLine)
   (h:Q (PyData.eqv d e) s):wpAny (model prog w) A (eqBool (.ref a) (.ref b)) Q E s:=by
 unfold eqBool
 try with_reducible refine abN ?_
 show wpAny _ _ (if (Value.ref a == Value.ref b)=true then _ else _) Q E s
 by_cases N:(Value.ref a == Value.ref b)=true
 .
  rw [aau N]
  have z:a=b:=by have:=eq_of_beq N;injection this
  subst z
  obtain rfl:=(Reads.unique r _ _ R).1
  rw [(xp d d k k).mpr rfl] at h
  exact aaa (wpAny_rule (aao h))
 . rw [aax N]
   exact aaa (show wpAny _ _ (compareOp .Eq (.ref a) (.ref b)) _ _ _ from SeqAt.compareEq_shaped r R H c f (abA h))
end
mutual
theorem oq {h h':bE} (f:∀ b o,h.get? b=some o->∀ n vs,o.data = .seq vs n->h'.get? b=some o):∀ (d:PyData) {v:aA} {as:bJ},kd d=true->Reads h v d as->Reads h' v d as
 | _,_,_,_,.none => .none
 | _,_,_,_,.bool b => .bool b
 | _,_,_,_,.int i t => .int i t
 | _,_,_,_,.str x t => .str x t
 | _,_,_,k,.tuple a c H e => .tuple (f _ _ a _ _ H) c H (rY f _ k e)
 | _,_,_,k,.list a c H e=>by rw [kd] at k<;>first|cases k|nofun
 | _,_,_,k,.dict a c H e g=>by rw [kd] at k<;>first|cases k|nofun
theorem rY {h h':bE} (H:∀ b o,h.get? b=some o->∀ n vs,o.data = .seq vs n->h'.get? b=some o):∀ (d:List PyData) {vs:bM} {as:bJ},yH d=true->ReadsAll h vs d as->ReadsAll h' vs d as
 | _,_,_,_,.nil => .nil
 | _,_,_,k,.cons a c => .cons (oq H _ (abt.mp k).1 a) (rY H _ (abt.mp k).2 c)
end
noncomputable instance:DecidableEq PyData:=λ a b=>Classical.propDecidable (a=b)
def uy (h:bE) (k:PyData) (a:am):Prop:=∃ d as,Reads h (.ref a) d as/\kd d=true/\SeqAt.shaped d=true/\vB d<=8/\tE d=k
noncomputable def ik (prog:bD) (w:bz):HeapKind prog w PyData where
 is:=uy
 hash:=rJ
 draws:=rO
 room:=λ A=>A.units+64<cLine
 inj:=λ ⟨d,_,r,_,_,_,e⟩ ⟨D,_,R,_,_,_,i⟩=>by
   obtain rfl:=(Reads.unique r _ _ R).1
   exact e.symm.trans i
 keeps:=λ {h C k a d o B v} x p n t=>by
   obtain ⟨x,as,r,K,f,g,e⟩:=x
   refine ⟨x,as,oq (λ b O q m V l=>?_) x K r,K,f,g,e⟩
   rw [t.2 b λ z=>?_]
   . exact q
   . subst z
     rw [p] at q
     cases q
     rw [n] at l
     cases l
 pyHash:=λ {A E s k a Q} H ⟨d,as,r,K,f,g,e⟩ h=>by
   subst e
   rw [wc d K,ww d] at h
   exact ul d _ as A s Q K r (by lia) h
 eqBool:=λ {A E s x y a b Q} H ⟨d,as,r,K,f,g,e⟩ ⟨D,T,R,c,j,u,i⟩ h=>by
   subst e i
   refine Fn r R f j K c H ?_
   have q:PyData.eqv d D=decide (tE d=tE D):=by
     rw [ab7,decide_eq_true_iff]
     exact xp d D K c
   rw [q]
   exact h
 quiet:=λ {A E s k a Q} ⟨d,as,r,K,f,g,e⟩ h=>rX 8 d _ as A s Q K g r h
end PySem
namespace L2
open PySem PySem.Spec PyProof.Rows Mth
variable {H H':Hp} {c c' cur:Nat} {o:HO} {v:V}
mutual
theorem CA:∀ d:PyData,kd d=true->eQ d=true
 | .bool _,_=>by simp [eQ]
 | .int _,_=>by simp [eQ]
 | .tuple D,h=>lX.mpr (yT D h)
 | .none,h | .str _,h | .list _,h | .dict _,h=>by rw [kd] at h<;>first|cases h|nofun
theorem yT:∀ D:List PyData,yH D=true->∀ d∈D,eQ d=true
 | [],_,d,h=>absurd h aae
 | e::D,h,d,m=>by
   rw [yH,aaY] at h
   rcases aab.mp m with z|z
   . rw [z];exact CA e h.1
   . exact yT D h.2 d z
end
def gO (K:aE) (H:Hp) (k:PyData) (b:am):Prop:=∃ d,Dn K H d (.ref b)/\kd d=true/\SeqAt.shaped d=true/\vB d<=8/\tE d=k
theorem gO.ts {K:aE} {k:PyData} {b:am} (s:aT K H H') (h:gO K H k b):gO K H' k b:=by
 obtain ⟨d,c,a,e,f,g⟩:=h
 exact ⟨d,Dn.ts s d (CA d a) c,a,e,f,g⟩
section
variable {X:Cx} {pins:List (am×Obj)} {U:St} {H:Hp} {s:Shared}
def gO.is {k:PyData} {b:am} (I:Inv X pins U H s) (h:gO X.K H k b):uy s.heap k b:=by
 obtain ⟨d,a,c,e,f,g⟩:=h
 obtain ⟨as,r⟩:=I.reads d a rfl
 exact ⟨d,as,r,c,e,f,g⟩
end
abbrev oJ:=List (PyData×am×V)
abbrev XR:oJ->List (PyData×am×aA)->Prop:=Paired λ p q=>p.1=q.1/\p.2.1=q.2.1/\RelV p.2.2 q.2.2
def Y3 (P:bD) (w:bz) (a:am) (A:oJ) (h:bE):Prop:=A.length<=sizeLine/\(a == sysModules)=false/\∃ x,XR A x /\
 ∃ o e E,h.get? a=some o/\o.ExactDict/\o.data = .dict e E/\e.toList=x.map (entryOfKey (ik P w))/\(x.map (·.1)).Nodup
def kU (P:bD) (w:bz) (a:am) (A:oJ):HO:=.ext (Y3 P w a A)
def FW {P:bD} {w:bz} {h:bE} {a:am} {A:oJ} (x:Y3 P w a A h):dC P w H h a (kU P w a A):=by
 refine ⟨x,?_,λ c d ⟨z,y,X,r,o,b,E,e,q⟩ k=>⟨z,y,X,r,o,b,E,k o e,q⟩⟩
 obtain ⟨Z,Z,Z,Z,o,Z,Z,e,Z⟩:=x
 exact ⟨o,e⟩
noncomputable def iw (a:oJ) (k:PyData):eL:=(a.find? λ x=>decide (x.1=k)).map (·.2.2)
noncomputable def fM (a:oJ) (k:PyData) (b:am) (v:V):oJ:=if (iw a k).isSome then a.map λ x=>if x.1=k then (x.1,x.2.1,v) else x else a++[(k,b,v)]
def uv {a:oJ} {xs:List (PyData×am×aA)} (r:XR a xs) (k:PyData):kX (iw a k) ((atKey xs k).map (·.2)):=by
 induction r with
 | nil=>exact True.intro
 | @cons p q d Q h t i =>
   obtain ⟨H,c,b⟩:=h
   unfold iw atKey at i |-
   rw [aa9,aa9,H]
   by_cases e:q.1=k
   . rw [aaG e];exact b
   . rw [aap e];exact i
def Fo {a:oJ} {xs:List (PyData×am×aA)} (r:XR a xs) (k:PyData) {b:am} {u:aA} (R:RelV v u):XR (fM a k b v) (storedH xs k b u):=by
 unfold fM storedH
 have e:(iw a k).isSome=(atKey xs k).isSome:=by rw [(uv r k).qV,ads]
 rw [e]
 by_cases q:(atKey xs k).isSome=true
 .
  rw [aau q,aau q]
  clear e q
  induction r with
  | nil=>exact .nil
  | @cons p q f Q h t i =>
    refine .cons ?_ i
    obtain ⟨H,c,d⟩:=h
    unfold putAt
    dsimp only
    by_cases e:q.1=k
    . rw [aau e,aau (H.trans e)];exact ⟨H,c,R⟩
    . rw [aax e,aax (λ z=>e (H.symm.trans z))];exact ⟨H,c,d⟩
 . rw [aax q,aax q]
   exact acN r ⟨rfl,rfl,R⟩
def ue (a:oJ) (k:PyData) (b:am) (v:V):(fM a k b v).length<=a.length+1:=by
 unfold fM
 split<;>simp
def G4 {a:oJ} {k:PyData} {b:am} {e:PyData×am×V} (h:e∈fM a k b v):(∃ E∈a,E.1=e.1/\E.2.1=e.2.1)\/e=(k,b,v):=by
 unfold fM at h
 split at h
 . obtain ⟨x,H,rfl⟩:=aaE.mp h
   refine .inl ⟨x,H,?_⟩
   split<;>exact ⟨rfl,rfl⟩
 . rcases aaz.mp h with z|z
   . exact .inl ⟨e,z,rfl,rfl⟩
   . exact .inr (aac.mp z)
def lO (a:oJ) (k k':PyData) (b:am) (v:V):iw (fM a k b v) k'=if k'=k then some v else iw a k':=by
 unfold fM
 by_cases q:(iw a k).isSome=true
 .
  rw [aau q]
  by_cases e:k'=k
  .
   rw [aau e]
   subst e
   induction a with
   | nil=>simp [iw] at q
   | cons x a i =>
     unfold iw at i q |-
     rw [aaQ,aa9]
     by_cases z:x.1=k'
     . rw [aau z,aaG z];rfl
     . rw [aax z,aap z]
       rw [aa9,aap z] at q
       exact i q
  .
   rw [aax e]
   clear q
   induction a with
   | nil=>rfl
   | cons x a i =>
     unfold iw at i |-
     rw [aaQ,aa9,aa9]
     by_cases z:x.1=k
     . rw [aau z,aap (λ y:x.1=k'=>e (y.symm.trans z))]
       exact i
     . rw [aax z]
       by_cases c:x.1=k'
       . rw [aaG c]
       . rw [aap c]
         exact i
 .
  rw [aax q]
  have q:iw a k=none:=by simpa using q
  unfold iw at q |-
  rw [List.find?_append]
  by_cases e:k'=k
  . rw [aau e,e]
    have z:(a.find? λ x=>decide (x.1=k))=none:=by simpa using q
    rw [z,aa9,aaG rfl]
    rfl
  . rw [aax e,aa9,aap (λ y=>e y.symm),List.find?_nil,Option.or_none]
structure iB (P:bD) (w:bz) (K:aE) (H:Hp) (a:am) (aD:oJ):Prop where
 ob:H a=some (kU P w a aD)
 keys:∀ e∈aD,gO K H e.1 e.2.1
def iB.nil {P:bD} {w:bz} {K:aE} {a:am} (h:H a=some (kU P w a [])):iB P w K H a []:=⟨h,λ Z h=>absurd h aae⟩
def iB.eY {P:bD} {w:bz} {K:aE} {a:am} {aD:oJ} (x:iB P w K H a aD) (t:aT K H H') (e:H' a=H a):iB P w K H' a aD:=⟨e.trans x.ob,λ y h=>(x.keys y h).ts t⟩
def iB.same {P:bD} {w:bz} {K:aE} {a:am} {aD:oJ} (x:iB P w K H a aD) (s:aG H H'):iB P w K H' a aD:=⟨s _ _ x.ob,λ y h=>(x.keys y h).ts s.ts⟩
def iB.put {P:bD} {w:bz} {K:aE} {a b:am} {A:oJ} {k:PyData} (x:iB P w K H a A) (f:gO K H k b):iB P w K (upd H a (kU P w a (fM A k b v))) a (fM A k b v):=by
 have t:aT K H (upd H a (kU P w a (fM A k b v))):=bV x.ob rfl
 refine ⟨ag,λ e h=>?_⟩
 rcases G4 h with ⟨E,m,c,d⟩|rfl
 . rw [<- c,<- d];exact (x.keys E m).ts t
 . exact f.ts t
section
variable {X:Cx} {pins:List (am×Obj)} {U:St} {H:Hp} {s:Shared} {a b:am} {aD:oJ} {k:PyData} {v:V}
def iB.dict (I:Inv X pins U H s) (x:iB X.prog X.w X.K H a aD):aD.length<=sizeLine/\(a == sysModules)=false/\∃ xs,XR aD xs/\s.heap.DictOfH (ik X.prog X.w) a xs:=by
 obtain ⟨z,y,xs,r,o,f,E,g,i,j,k,n⟩:=(show dC X.prog X.w H s.heap a (kU X.prog X.w a aD) from I.dF a _ x.ob).1
 refine ⟨z,y,xs,r,o,f,E,g,i,j,k,λ e b=>?_,n⟩
 have all:∀ {l:oJ} {m:List (PyData×am×aA)},XR l m->(∀ e∈l,gO X.K H e.1 e.2.1)->∀ x∈m,uy s.heap x.1 x.2.1:=by
   intro l m q
   induction q with
   | nil=>intro Z x h;exact absurd h aae
   | @cons p q v Q d t u =>
     intro c x h
     rcases aab.mp h with e|h
     . subst e
       rw [<- d.1,<- d.2.1]
       exact (c p aar).is I
     . exact u (λ e b=>c e (aaj _ b)) x h
 exact all r x.keys e b
def yu {A:Around} {P:bD} {w:bz} (h:A.units+65<cLine):(ik P w).room A.in1:=by
 show A.in1.units+64<cLine
 rw [acE]
 lia
end
def Q5 (P:bD) (w:bz) (K:aE) (t ty:TE):TE:=λ U H Q=>t U H λ x c=>ty U c λ y h=>∃ a b A k v,x = .ref a/\y = .ref b/\iB P w K h a A/\gO K h k b/\iw A k=some v/\Q v h
inductive IA (P:bD) (w:bz) (K:aE) (y:V) (x:V) (H:Hp) (Q:VK):Prop|mk (a b aD k:_) (_:x = .ref a) (_:y = .ref b) (_:iB P w K H a aD) (_:gO K H k b) (_:Q (.bl (!(iw aD k).isSome)) H)
def Q1 (P:bD) (w:bz) (K:aE) (t ty T:TE):TS:=λ D U H=>T U H λ v c=>t U c λ x d=>ty U d λ y h=>∃ a b A k,x = .ref a/\y = .ref b/\iB P w K h a A/\gO K h k b/\A.length<sizeLine /\
 D.nx U (upd h a (kU P w a (fM A k b v)))
def Py (P:bD) (w:bz):TE:=λ Z H Q=>∀ p,H p=none->Q (.ref p) (upd H p (kU P w p []))
def dg.Iw {k:Nat} {A:Around} (r:dg k A):A.units+65<cLine:=by have:=r.un;lia
section
variable {X:Cx} {o i e value:Expr} {pos pos':Pos} {td ty tv:TE} {P:bD} {w:bz} {K:aE}
def C8 (b:X.prog=P) (hw:X.w=w):PE X (.Dict [] [] pos) (Py P w):=by
 subst b hw
 exact λ p s U H Q I h=>wpAny_Dict_empty ⟨.ref s.heap.objs.size,_,I.laid (a:=s.heap.objs.size) (o:=kU X.prog X.w s.heap.objs.size []) (t':=s.toks) (λ Z Z q=>aal _ q) (aak _)
   (FW ⟨aaZ _,abm.mpr (acx (aaO I.big)),[],.nil,_,#[],0,aaR _ rfl,⟨rfl,rfl,rfl⟩,rfl,rfl,acs⟩),rfl,h _ (I.dF.fresh (aak _))⟩
def o9 (m:X.prog=P) (hw:X.w=w) (l:X.K=K) (C:X.A.units+65<cLine) (q:PE X o td) (hi:PE X i ty) (B:Pn i):PE X (.Subscript o i pos) (Q5 P w K td ty):=by
 subst m hw l
 intro c s U H Q I h
 refine JR PySem.F.slot_dict_getitem.lookup B (c7 (q c s U H _ I h) λ u S ⟨x,e,j,R,M⟩=>c7 (hi c S U e _ j M) λ L s2 ⟨y,f,d,O,a,b,V,k,v,ex,E,g,n,G,N⟩=>?_)
 subst ex E
 obtain rfl:u=Value.ref a:=R
 obtain rfl:L=Value.ref b:=O
 obtain ⟨z,Y,T,r,D⟩:=g.dict d
 refine ⟨D.typeIs,?_⟩
 obtain ⟨w',hw,J⟩:=kX.some_of (v:=v) (o:=(atKey T k).map (·.2)) (by rw [<- G];exact uv r k)
 obtain ⟨p,t,W⟩:=abj.mp hw
 refine wpAny_getItem_heap (yu C) (n.is d) D t ?_
 rw [W]
 exact ⟨v,f,d.tok _,J,N⟩
def wH (e:X.prog=P) (hw:X.w=w) (c:X.K=K) (j:X.A.units+65<cLine):jo X (compareOp .NotIn) (IA P w K):=by
 subst e hw c
 intro p s U H x y v u Q I R m h
 obtain ⟨a,b,n,k,rfl,rfl,g,i,l⟩:=h
 obtain rfl:u=Value.ref a:=m
 obtain rfl:v=Value.ref b:=R
 obtain ⟨z,f,o,r,d⟩:=g.dict I
 refine wpAny_notIn_heap (yu j) (i.is I) f d ⟨.bl _,H,I.tok _,?_,l⟩
 have q:=(uv r k).qV
 rw [ads] at q
 rw [q]
 rfl
def Cn (O:X.prog=P) (hw:X.w=w) (N:X.K=K) (W:X.A.units+65<cLine) (V:PE X o td) (hi:PE X i ty) (Y:PE X value tv) (d:swapsWith value (some (.Subscript o i pos')) pos.line X.env=pure false) :
   PS X (.Assign [.Subscript o i pos'] value pos) (Q1 P w K td ty tv):=by
 subst O hw N
 intro p s U H D I h
 refine wpAny_Assign_Subscript (c7 (Y p s U H _ I h) λ r s1 ⟨v,j,n,rv,q1⟩=>c7 (V p s1 U j _ n q1) λ u s2 ⟨x,l,t,rx,q2⟩=>c7 (hi p s2 U l _ t q2) λ iv s3 ⟨y,H3,c,ry,a,b,e,k,ex,F,g,S,T,q3⟩=>?_) d
 subst ex F
 obtain rfl:u=Value.ref a:=rx
 obtain rfl:iv=Value.ref b:=ry
 obtain ⟨z,Q,xs,R,B⟩:=g.dict c
 have hz:xs.length<=sizeLine:=by rw [<- ab2 R];exact z
 have yK:(fM e k b v).length<=sizeLine:=aaA (ue e k b v) T
 refine wpAny_setItem_heap (hsz:=hz) (yu W) (S.is c) B λ h' m d=>⟨U,_,?_,q3⟩
 obtain ⟨q,C,E,f,G,J,L,Z,M⟩:=m
 exact xT c (by rw [g.ob];exact True.intro) d ⟨q,f⟩ (FW ⟨yK,Q,_,Fo R k rv,q,C,E,f,G,J,L,M⟩)
end
section
variable {X:Cx}
inductive Xh (K:aE) (x:V) (y:V) (H:Hp) (Q:VK):Prop|mk (p xs:_) (_:x = .cC) (_:y = .ref p) (_:aX K H p xs) (_:(∀ v∈xs,v = .cC\/∃ a ys,v = .ref a/\aX K H a ys)) (_:Q (.bl (decide (V.cC∈xs))) H)
theorem Hu {s:Shared} {p:List (am×Obj)} {U:St} (I:Inv X p U H s) (c:X.A.units+1<cLine):∀ {xs:aB} {B:bM},Vals xs B->(∀ v∈xs,v = .cC\/∃ a ys,v = .ref a/\aX X.K H a ys) ->
   (∀ u∈B,SeqAt.EqAt X.A.in1 s u .none (u == Value.none))/\(B.any λ u=>u == Value.none)=decide (V.cC∈xs)
 | _,_,.nil,_=>⟨λ Z h=>absurd h aae,rfl⟩
 | x::xs,u::B,.cons r t,h=>by
   obtain ⟨i,g⟩:=Hu I c t λ v f=>h v (aaj _ f)
   rcases h x aar with rfl|⟨a,ys,rfl,d⟩
   .
    obtain rfl:u=Value.none:=r
    refine ⟨λ w b=>?_,?_⟩
    . rcases aab.mp b with e|b
      . rw [e];exact SeqAt.EqAt.same _
      . exact i w b
    . rw [acV,aaG (show V.cC∈V.cC::xs from aar)]
      rfl
   .
    obtain rfl:u=Value.ref a:=r
    obtain ⟨j,Z,k,Z⟩:=I.list d
    refine ⟨λ w b=>?_,?_⟩
    . rcases aab.mp b with e|b
      . rw [e];exact SeqAt.EqAt.list_none k.isList (by rw [acE];exact c)
      . exact i w b
    . rw [acV,g]
      have e:(V.cC∈V.ref a::xs)↔V.cC∈xs:=by simp
      rw [show (Value.ref a == Value.none)=false from rfl,Bool.false_or]
      exact (ace.mpr e).symm
def LL (f:X.A.units+1<cLine):jo X (compareOp .In) (Xh X.K):=by
 intro a s U H x y v u Q I R k h
 obtain ⟨p,m,rfl,rfl,e,i,q⟩:=h
 obtain rfl:u=Value.ref p:=k
 obtain rfl:v=Value.none:=R
 obtain ⟨b,r,j,l⟩:=I.list e
 obtain ⟨c,d⟩:=Hu I f r i
 refine SeqAt.in_listAt (λ u=>u == Value.none) j.isList (λ w g=>c w (by simpa using g)) ⟨.bl _,H,I,rfl,?_⟩
 rw [show (b.toArray.any λ u=>u == Value.none)=(b.any λ u=>u == Value.none) by simp,d]
 exact q
inductive Kf (K:aE) (x:V) (y:V) (H:Hp) (Q:VK):Prop|mk (a b xs ys:_) (_:x = .ref a) (_:y = .ref b) (_:bY K H a xs) (_:bY K H b ys) (_:xs.length+ys.length<=sizeLine) (_:∀ q H',aG H H'->bY K H' q (xs++ys)->Q (.ref q) H')
def CT:jo X (binaryOp .Add) (Kf X.K):=by
 intro d s U H x y v u Q I r R h
 obtain ⟨a,b,m,Y,rfl,rfl,f,g,z,q⟩:=h
 by_cases i:m=[]
 .
  cases r
  cases R
  obtain ⟨B,F,A,Z⟩:=I.tuple f
  obtain ⟨O,G,C,Z⟩:=I.tuple g
  obtain ⟨⟨cls,t,data,sl⟩,l,j,n,k⟩:=id A
  obtain ⟨⟨V,o,D,S⟩,L,M,N,c⟩:=id C
  simp only at j k M c
  subst j k M c
  have E:B=[]:=F.sT.mpr i
  refine concat_meets ⟨_,l,rfl⟩ ⟨_,L,rfl⟩ adW seq_tuple_add ac3 acS (acM _ _)
    (tuple_addW0 a b B.toArray O.toArray n N t o sl S (by rw [E];rfl)) ⟨l,L,⟨.ref b,H,I,rfl,q b H (aG.refl _) (by rw [i];exact g)⟩⟩
 . exact IQ d s U H _ _ v u Q I r R ⟨a,b,m,Y,rfl,rfl,f,g,i,z,λ e=>q a H (aG.refl _) (by rw [e,abf];exact f),λ Z p w=>q p _ (ak w) (bY.of ag)⟩
def zx {K:aE} (h:X.K=K):jo X (binaryOp .Add) (Kf K):=by subst h;exact CT
end
abbrev rfs (h d:am):List (Str×V):=[("hold",.ref h),("spreads",.ref d)]
def d7 (m:av) (i:Nat) (bs:aS) (fired:Bool):Option (aS) :=
 if iS (m.rows.getD i []) (je m i bs fired) (iZ m i bs fired)=true then some (og (m.rows.getD i []) (je m i bs fired) (iZ m i bs fired)) else none
def fB (L:bJ) (H:Hp) (v:V):Option (aS)->Prop
 | none=>v = .cC
 | some l=>∃ q,v = .ref q/\q∉L/\H q=some (.lst (l.map aq))
def k7 (i:Nat) (bs:aS) (f:Bool):PyData:=.tuple [.int i,.tuple (bs.map jy),.int (if f then 1 else 0)]
theorem uq:∀ l:aS,yH (l.map jy)=true
 | []=>rfl
 | _::l=>by rw [aaQ,yH,uq l];rfl
theorem qa:∀ l:aS,nc (l.map jy)=l.map jy
 | []=>rfl
 | _::l=>by rw [aaQ,nc,qa l];rfl
theorem qi:∀ l:aS,vH (l.map jy)=0
 | []=>rfl
 | _::l=>by rw [aaQ,vH,qi l];rfl
theorem mH:∀ {l r:aS},l.map jy=r.map jy->l=r
 | [],[],_=>rfl
 | [],_::_,h=>by cases h
 | _::_,[],h=>by cases h
 | a::l,b::r,h=>by
   obtain ⟨H,c⟩:=abV h
   have H:(a:Int)=(b:Int):=ac4 H
   rw [mH c,ado H]
def GD {i I:Nat} {bs R:aS} {f F:Bool} (h:k7 i bs f=k7 I R F):i=I/\bs=R/\f=F:=by
 have h:=aco h
 obtain ⟨H,h⟩:=abV h
 obtain ⟨a,h⟩:=abV h
 obtain ⟨b,Z⟩:=abV h
 refine ⟨ado (ac4 H),mH (aco a),?_⟩
 cases f<;>cases F<;>first|rfl|(exact absurd (ac4 b) (by decide))
def pE {n:Nat} {l:aS}:MC (n+1) (.tuple (l.map jy)):=by
 intro d h
 obtain ⟨i,Z,rfl⟩:=aaE.mp h
 cases n<;>exact trivial
section
variable {K:aE} {H H':Hp}
def pM {p:am} {l:aS} (h:bY K H p (l.map aq)):Dn K H (.tuple (l.map jy)) (.ref p):=fX h (u5 l)
def BX {p b:am} {i:Nat} {bs:aS} {f:Bool} (h:bY K H p [aq i,.ref b,.bl f]) (c:bY K H b (bs.map aq)):gO K H (k7 i bs f) p:=by
 refine ⟨.tuple [.int i,.tuple (bs.map jy),.bool f],fX h (br rfl (br (pM c) (br rfl dS))),?_,uN (n:=2) ?_ (by decide),?_,?_⟩
 . simp only [kd,yH,uq];rfl
 .
  intro d a
  simp only [aab,aae,aaT] at a
  rcases a with rfl|rfl|rfl
  . exact trivial
  . exact pE
  . exact trivial
 . simp only [vB,vH,qi];decide
 . simp only [tE,nc,qa];rfl
def fB.but {L L':bJ} {d:am} {r:Option (aS)} (g:H d=some o) (N:∀ xs,o ≠ .lst xs) (b:∀ c u,H c=some u->c≠d->c∉L->H' c=some u) (f:∀ c∈L',c∈L) (h:fB L H v r):fB L' H' v r:=by
 cases r with
 | none=>exact h
 | some l =>
   obtain ⟨q,e,n,a⟩:=h
   exact ⟨q,e,λ z=>n (f q z),b q _ a (λ z=>by rw [z,g] at a;exact N _ (aaq a)) n⟩
def fB.same {L:bJ} {r:Option (aS)} (s:aG H H') (h:fB L H v r):fB L H' v r:=by
 cases r with
 | none=>exact h
 | some l =>
   obtain ⟨q,e,n,a⟩:=h
   exact ⟨q,e,n,s _ _ a⟩
def fB.new {L:bJ} {D:am} {r:Option (aS)} (b:H D=none) (h:fB L H v r):fB (D::L) H v r:=by
 cases r with
 | none=>exact h
 | some l =>
   obtain ⟨q,e,n,a⟩:=h
   exact ⟨q,e,λ z=>(aab.mp z).elim (λ z=>by rw [z,b] at a;cases a) n,a⟩
end
def nZ {P:bD} {w:bz} {a:am} {A:oJ} (xs:aB):kU P w a A ≠ .lst xs:=λ h=>by cases h
structure eG (P:bD) (w:bz) (K:aE) (C CR:am) (L:bJ) (H:Hp) (x d a:am) (fp:bJ) (m:av) (c:Nat):Prop where
 ins:∃ dx,H x=some (.ins CR dx (rfs a d))
 hold:aZ K C H a fp m
 nd:d∉fp
 Mq:∃ aD,iB P w K H d aD/\aD.length<=c/\∀ i bs f v,iw aD (k7 i bs f)=some v->fB L H v (d7 m i bs f)
section
variable {P:bD} {w:bz} {K:aE} {C CR:am} {L L':bJ} {H H':Hp} {x d a:am} {fp:bJ} {m:av} {c:Nat}
theorem eG.same (r:eG P w K C CR L H x d a fp m c) (s:aG H H'):eG P w K C CR L H' x d a fp m c:=by
 obtain ⟨⟨D,l⟩,h,n,A,g,j,k⟩:=r
 exact ⟨⟨D,s _ _ l⟩,h.same s,n,A,g.same s,j,λ i b f v e=>(k i b f v e).same s⟩
def eG.more (r:eG P w K C CR L H x d a fp m c) (h:c<=c'):eG P w K C CR L H x d a fp m c':=by
 obtain ⟨i,b,n,A,e,f,g⟩:=r
 exact ⟨i,b,n,A,e,aaA f h,g⟩
def eG.less (r:eG P w K C CR L H x d a fp m c) (h:∀ b∈L',b∈L):eG P w K C CR L' H x d a fp m c:=by
 obtain ⟨i,j,n,A,g,k,l⟩:=r
 exact ⟨i,j,n,A,g,k,λ i B f v e=>(l i B f v e).but g.ob nZ (λ Z Z e Z Z=>e) h⟩
theorem eG.new (r:eG P w K C CR L H x d a fp m c) {D:am} (h:H D=none):eG P w K C CR (D::L) H x d a fp m c:=by
 obtain ⟨i,g,n,A,j,k,l⟩:=r
 exact ⟨i,g,n,A,j,k,λ i b f v e=>(l i b f v e).new h⟩
def eG.write (r:eG P w K C CR L H x d a fp m c) {D:am} {xs ys:aB} (h:H D=some (.lst xs)) (p:D∈L) (nf:D∉fp):eG P w K C CR L (upd H D (.lst ys)) x d a fp m c:=by
 obtain ⟨⟨l,j⟩,q,y,A,g,s,u⟩:=r
 have t:aT K H (upd H D (.lst ys)):=bV h rfl
 have B:∀ b o,H b=some o->b≠D->(upd H D (.lst ys)) b=some o:=λ b o e n=>by rw [aw n];exact e
 have nx:x≠D:=λ z=>by rw [z,h] at j;cases j
 have N:d≠D:=λ z=>by have:=g.ob;rw [z,h] at this;cases this
 exact ⟨⟨l,B _ _ j nx⟩,q.JL B t nf,y,A,g.eY t (aw N),s,λ i k f v e=>(u i k f v e).but g.ob nZ (λ b o e Z n=>B b o e λ z=>n (z ▸ p)) λ Z h=>h⟩
theorem eG.put (r:eG P w K C CR L H x d a fp m c) {A:oJ} {i:Nat} {bs:aS} {f:Bool} {b:am} (g:iB P w K H d A) (u:A.length<=c) (y:∀ i bs f v,iw A (k7 i bs f)=some v->fB L H v (d7 m i bs f)) (p:gO K H (k7 i bs f) b) (l:fB L H v (d7 m i bs f)) :
   eG P w K C CR L (upd H d (kU P w d (fM A (k7 i bs f) b v))) x d a fp m (c+1)/\gG [d] H (upd H d (kU P w d (fM A (k7 i bs f) b v)))/\aT K H (upd H d (kU P w d (fM A (k7 i bs f) b v)))/\fB L (upd H d (kU P w d (fM A (k7 i bs f) b v))) v (d7 m i bs f):=by
 obtain ⟨⟨D,k⟩,s,N,Z⟩:=r
 have B:∀ j o,H j=some o->j≠d->(upd H d (kU P w d (fM A (k7 i bs f) b v))) j=some o:=λ c o e n=>by rw [aw n];exact e
 have t:aT K H (upd H d (kU P w d (fM A (k7 i bs f) b v))):=bV g.ob rfl
 have nx:x≠d:=λ z=>by rw [z,g.ob] at k;cases k
 refine ⟨⟨⟨D,by rw [aw nx];exact k⟩,s.JL B t N,N,_,g.put p,aaA (ue ..) (acZ u),λ I R F V e=>?_⟩,λ c o e n=>B c o e λ z=>n (aac.mpr z),t,l.but g.ob nZ (λ c o e n Z=>B c o e n) λ Z h=>h⟩
 rw [lO] at e
 by_cases q:k7 I R F=k7 i bs f
 .
  rw [aau q] at e
  obtain ⟨rfl,rfl,rfl⟩:=GD q
  cases e
  exact l.but g.ob nZ (λ c o e n Z=>B c o e n) λ Z h=>h
 . rw [aax q] at e
   exact (y I R F V e).but g.ob nZ (λ c o e n Z=>B c o e n) λ Z h=>h
end
def bP (rows:List (aS)):List (aS):=rows.foldl (λ C r=>C.flatMap λ c=>r.map λ b=>c++[b]) [[]]
def iO (rows:List (aS)) (r:aS):bP (rows++[r])=(bP rows).flatMap λ c=>r.map λ b=>c++[b]:=by
 unfold bP
 rw [abI]
 rfl
theorem fo {b c:Type} {k:Nat} {f:b->List c}:∀ {l:List b},(∀ a,(f a).length<=k)->(l.flatMap f).length<=l.length * k
 | [],_=>by simp
 | a::l,h=>by
   rw [List.flatMap_cons,aaf,aaW,Nat.succ_mul]
   have:=fo (l:=l) h
   have:=h a
   lia
theorem jm {rows:List (aS)} (h:∀ r∈rows,r.length<=6):∀ i,(bP (rows.take i)).length<=6 ^ i
 | 0=>by rw [adJ];decide
 | i+1=>by
   by_cases hi:i<rows.length
   . rw [List.take_succ_eq_append_getElem hi,iO]
     refine aaA (fo (k:=6) λ a=>by rw [No];exact h _ (aay hi)) ?_
     rw [ac8]
     exact abM 6 (jm h i)
   . have e:rows.take (i+1)=rows.take i:=by rw [abb (by lia),abb (by lia)]
     rw [e,ac8]
     have:=jm h i
     lia
def snoc_ind {b:Type} {p:List b->Prop} (h0:p []) (h:∀ l a,p l->p (l++[a])) (l:List b):p l:=by
 rw [<- List.reverse_reverse l]
 induction l.reverse with
 | nil=>exact h0
 | cons a r i=>rw [List.reverse_cons];exact h _ _ i
def fY {rows:List (aS)}:∀ {c:aS},c∈bP rows↔c.length=rows.length/\∀ i,i<rows.length->c.getD i 0∈rows.getD i []:=by
 refine snoc_ind (p:=λ rows=>∀ {c:aS},c∈bP rows↔c.length=rows.length/\∀ i,i<rows.length->c.getD i 0∈rows.getD i []) ?_ ?_ rows
 .
  intro c
  constructor
  . intro h
    have:c=[]:=by simpa [bP] using h
    rw [this]
    exact ⟨rfl,λ i h=>absurd h (abk _)⟩
  . rintro ⟨h,Z⟩
    rw [abS.mp h]
    simp [bP]
 .
  intro rows r I c
  rw [iO,abl]
  constructor
  .
   rintro ⟨a,H,h⟩
   obtain ⟨b,d,rfl⟩:=aaE.mp h
   obtain ⟨l,hi⟩:=I.mp H
   refine ⟨by rw [aaf,aaf,l];rfl,λ i h=>?_⟩
   rw [aaf,aaD] at h
   by_cases e:i<rows.length
   . rw [PY,PY,aan (l₁:=a) (by lia),aan e]
     have:=hi i e
     rw [PY,PY] at this
     exact this
   . have e:i=rows.length:=by lia
     subst e
     rw [PY,PY,<- l,aa1,l,aa1]
     exact d
  .
   rintro ⟨l,hi⟩
   rw [aaf,aaD] at l hi
   have n:c≠[]:=λ z=>by rw [z] at l;simp at l
   refine ⟨c.dropLast,I.mpr ⟨by rw [List.length_dropLast,l];rfl,λ i h=>?_⟩,aaE.mpr ⟨c.getLast n,?_,List.dropLast_concat_getLast n⟩⟩
   . have:=hi i (by lia)
     rw [PY,PY,aan h] at this
     rw [PY,PY,List.getElem?_dropLast,aau (by lia)]
     exact this
   .
    have:=hi rows.length (by lia)
    rw [PY,PY,aa1] at this
    rw [List.getLast_eq_getElem]
    rw [RS (by lia)] at this
    have e:c.length - 1=rows.length:=by lia
    simp only [e]
    exact this
inductive A7 (a b c d e f g:Prop):Prop|mk (_:a) (_:b) (_:c) (_:d) (_:e) (_:f) (_:g)
inductive A8 (a b c d e f g h:Prop):Prop|mk (_:a) (_:b) (_:c) (_:d) (_:e) (_:f) (_:g) (_:h)
def kW (m:av) (s:cD) (b i:Nat):Option (aS):=d7 m i s.cJ (b.testBit i)
def jq (m:av) (s:cD) (b:Nat):Bool:=(List.range m.rows.length).all λ i=>(kW m s b i).isSome
def gr (m:av) (s:cD) (b:Nat):List (aS):=(List.range m.rows.length).map λ i=>(kW m s b i).getD []
def iT (m:av) (s:cD) (o O:Nat):List cD:=(bP (gr m s (Ord.off o O))).map λ c=>s.behind m c o O
def dD (m:av) (s:cD) (o:Nat):aS:=Bit.parts (Bit.rooms (s.may m o))
def qA (m:av) (s:cD) (o:Nat):List cD:=(dD m s o).flatMap (iT m s o)
def Refs {b:Type} (R:am->b->Prop) (xs:aB) (l:List b):Prop:=Paired (λ v a=>∃ p,v = .ref p/\R p a) xs l
def Refs.imp {b:Type} {R S:am->b->Prop} {xs:aB} {l:List b} (h:Refs R xs l) (f:∀ p a,R p a->S p a):Refs S xs l:=Paired.yB h λ Z Z ⟨p,e,r⟩=>⟨p,e,f p _ r⟩
theorem Refs.nil {a:Type} {R:am->a->Prop}:Refs R [] ([]:List a):=Paired.nil
def Refs.snoc {b:Type} {R:am->b->Prop} {xs:aB} {l:List b} {p:am} {a:b} (h:Refs R xs l) (r:R p a):Refs R (xs++[.ref p]) (l++[a]):=acN h ⟨p,rfl,r⟩
theorem Refs.append {b:Type} {R:am->b->Prop}:∀ {xs ys:aB} {l r:List b},Refs R xs l->Refs R ys r->Refs R (xs++ys) (l++r)
 | _,_,_,_,Paired.nil,h=>h
 | _,_,_,_,Paired.cons a t,h=>Paired.cons a (Refs.append t h)
theorem Refs.length {a:Type} {R:am->a->Prop} {xs:aB} {l:List a} (h:Refs R xs l):xs.length=l.length:=ab2 h
theorem Refs.get {b:Type} {R:am->b->Prop}:∀ {xs:aB} {l:List b} {i:Nat} {v:V},Refs R xs l->xs[i]?=some v->∃ p a,v = .ref p/\l[i]?=some a/\R p a
 | _,_,_,_,Paired.nil,h=>by simp at h
 | _,_,0,_,Paired.cons ⟨p,e,r⟩ _,h=>by simp at h;exact ⟨p,_,by rw [<- h,e],rfl,r⟩
 | _,_,i+1,_,Paired.cons _ t,h=>by
   obtain ⟨p,a,H,c,d⟩:=Refs.get (i:=i) t (by simpa using h)
   exact ⟨p,a,H,by simpa using c,d⟩
abbrev Jp (K:aE) (H:Hp):aB->List (aS)->Prop:=Refs λ t c=>bY K H t (c.map aq)
abbrev ni (K:aE) (H:Hp):aB->List cD->Prop:=Refs (iR K H)
def FF (m:av) (s:cD):Prop:=∀ i b,i<m.rows.length->(b=true->m.has i=true)->dY 20000 (je m i s.cJ b)/\dY 20000 (iZ m i s.cJ b)
section
variable (P:bD) (w:bz) (K:aE) (C CR:am)
inductive ED (vs:aB) (H:Hp) (Q:VK) (_E:XK):Prop|mk (p1 p2 a b c d:_) (_:vs=[.ref p1,.ref p2]) (_:bY K H p1 [.int a,.int b]) (_:bY K H p2 [.int c,.int d]) (_:Bd 20000 a) (_:Bd 20000 b) (_:Bd 20000 c) (_:Bd 20000 d) (_:Q (.bl (decide (a * d<c * b))) H)
inductive BU (vs:aB) (H:Hp) (Q:VK) (_E:XK):Prop|mk (a fp m:_) (i:Nat) (r v1 v2 f g:_) (_:vs=[.ref a,aq i,v1,v2]) (_:aZ K C H a fp m) (_:m.rows[i]?=some r) (_:Dn K H (dW f) v1) (_:Dn K H (dW g) v2) (_:dY 20000 f) (_:dY 20000 g) (_:∀ H',aG H H'->Q (.bl (iS r f g)) H')
inductive D0 (vs:aB) (H:Hp) (Q:VK) (_E:XK):Prop|mk (a fp m:_) (i:Nat) (r v1 v2 f g:_) (_:vs=[.ref a,aq i,v1,v2]) (_:aZ K C H a fp m) (_:m.rows[i]?=some r) (_:Dn K H (dW f) v1) (_:Dn K H (dW g) v2) (_:dY 20000 f) (_:dY 20000 g) (_:∀ p H',H p=none->aG H H'->H' p=some (.lst ((og r f g).map aq))->Q (.ref p) H')
inductive A0 (vs:aB) (H:Hp) (Q:VK) (_E:XK):Prop|mk (p xs rows:_) (_:vs=[.ref p]) (_:aX K H p xs) (_:Refs (λ q (r:aS)=>aX K H q (r.map aq)) xs rows) (_:rows.length<=4) (_:(∀ r∈rows,r.length<=6)) (_:∀ q ys H',aG H H'->H' q=some (.lst ys)->Jp K H' ys (bP rows)->Q (.ref q) H')
inductive EF (vs:aB) (H:Hp) (Q:VK) (_E:XK):Prop|mk (x dx a fp m:_) (_:vs=[.ref x,.ref a]) (_:H x=some (.ins CR dx [])) (_:aZ K C H a fp m) (_:x∉fp) (_:∀ d H',gG [x] H H'->aT K H H'->H d=none->eG P w K C CR [] H' x d a fp m 0->Q .cC H')
inductive EN (vs:aB) (H:Hp) (Q:VK) (_E:XK):Prop|mk (x d a fp m c:_) (i:Nat) (pb bs f L:_) (_:vs=[.ref x,aq i,.ref pb,.bl f]) (_:eG P w K C CR L H x d a fp m c) (_:(∀ b∈L,H b≠none)) (_:c<=16000000) (_:i<m.rows.length) (_:bY K H pb (bs.map aq)) (_:bs.length=m.rows.length) (_:(∀ j,j<m.rows.length->bs.getD j 0+1<(m.rows.getD j []).length)) (_:(f=true->∃ z,m.bv[i]?=some (some z))) (_:dY 20000 (je m i bs f)) (_:dY 20000 (iZ m i bs f)) (_:∀ v H',gG [d] H H'->aT K H H'->eG P w K C CR L H' x d a fp m (c+1)->fB L H' v (d7 m i bs f)->Q v H')
inductive Ep (vs:aB) (H:Hp) (Q:VK) (_E:XK):Prop|mk (x d a fp m c p s:_) (o:Nat) (L:_) (_:vs=[.ref x,.ref p,aq o]) (_:eG P w K C CR L H x d a fp m c) (_:(∀ b∈L,H b≠none)) (_:c<=15000000) (_:iR K H p s) (_:eX m s) (_:o &&& m.ws=o) (_:(∀ out∈dD m s o,cx m s o out)) (_:FF m s) (_:((∃ out∈dD m s o,jq m s (Ord.off o out)=false)->∀ H',gG [d] H H'->aT K H H'->eG P w K C CR L H' x d a fp m (c+64)->Q .cC H')) (_:((∀ out∈dD m s o,jq m s (Ord.off o out)=true)->∀ q xs H',H q=none->gG [d] H H'->aT K H H'->eG P w K C CR L H' x d a fp m (c+64)->H' q=some (.lst xs)->ni K H' xs (qA m s o)->Q (.ref q) H'))
end
theorem CF {L:bJ}:∀ {acc:aB} {rs:List (Option (aS))},Paired (fB L H) acc rs->∀ v∈acc,v = .cC\/∃ a ys,v = .ref a/\H a=some (.lst ys)
 | _,_,Paired.nil,v,h=>absurd h aae
 | _,r::_,Paired.cons a t,v,h=>by
   rcases aab.mp h with e|h
   . subst e
     cases r with
     | none=>exact .inl a
     | some l=>obtain ⟨q,e,Z,b⟩:=a;exact .inr ⟨q,_,e,b⟩
   . exact CF t v h
theorem tT {L:bJ}:∀ {acc:aB} {rs:List (Option (aS))},Paired (fB L H) acc rs->(V.cC∈acc↔none∈rs)
 | _,_,Paired.nil=>by simp
 | _,r::_,Paired.cons a t=>by
   rw [aab,aab,tT t]
   cases r with
   | none=>have a:_=V.cC:=a;rw [a];simp
   | some l=>obtain ⟨q,e,Z⟩:=a;rw [e];simp
theorem zP {L:bJ}:∀ {acc:aB} {rs:List (Option (aS))},Paired (fB L H) acc rs->none∉rs->Refs (λ q (r:aS)=>H q=some (.lst (r.map aq))) acc (rs.map λ r=>r.getD [])
 | _,_,Paired.nil,_=>Paired.nil
 | _,r::_,Paired.cons a t,h=>by
   rw [aab,abL] at h
   cases r with
   | none=>exact absurd rfl h.1
   | some l=>obtain ⟨q,e,Z,b⟩:=a;exact Paired.cons ⟨q,e,b⟩ (zP t h.2)
def wn {m:av} {s:cD} {b:Nat}:none∈(List.range m.rows.length).map (kW m s b)↔jq m s b=false:=by
 unfold jq
 rw [List.all_eq_false,aaE]
 constructor
 . rintro ⟨i,hi,e⟩;exact ⟨i,hi,by rw [e];decide⟩
 . rintro ⟨i,hi,e⟩;exact ⟨i,hi,by simpa using e⟩
def I0 (m:av) (s:cD) (b:Nat):((List.range m.rows.length).map (kW m s b)).map (λ r=>r.getD [])=gr m s b:=by
 unfold gr
 rw [acj]
 rfl
def zX {m:av} (w:m.Wf) {s:cD} {b:Nat}:∀ r∈gr m s b,r.length<=6:=λ r h=>by
 obtain ⟨i,hi,rfl⟩:=aaE.mp h
 have hi:=aaJ.mp hi
 have H:=w.len _ (aay hi)
 unfold kW d7
 rw [PY,aL hi]
 split
 .
  have:=mj m.rows[i] (je m i s.cJ (b.testBit i)) (iZ m i s.cJ (b.testBit i)) (m.rows[i].length - 1)
  show (og m.rows[i] _ _).length<=6
  unfold og
  lia
 . exact aaZ _
def j3 {m:av} (w:m.Wf) (h:m.rows.length<=4) {s:cD} {o:Nat} (O:Nat):(iT m s o O).length<=1296:=by
 unfold iT
 rw [No]
 have l:(gr m s (Ord.off o O)).length=m.rows.length:=by unfold gr;rw [No,aam]
 have:=jm (zX w (s:=s) (b:=Ord.off o O)) 4
 rw [abb (by lia)] at this
 exact this
def pO {n:Nat} (h:n<16):(Bit.rooms n).length<=8/\(Bit.parts (Bit.rooms n)).length<=16:=by
 have:∀ b:Fin 16,(Bit.rooms b.val).length<=8/\(Bit.parts (Bit.rooms b.val)).length<=16:=by decide +kernel
 exact this ⟨n,h⟩
def g8 {K:aE} {p:am} {s:cD} (h:iR K H p s):gO K H (ma s) p:=by
 obtain ⟨g,j,i,b,c,e,f⟩:=h
 refine ⟨ma s,fX b (br (pM c) (br rfl (br (pM e) (br (pM f) (br rfl dS))))),?_,uN (n:=2) ?_ (by decide),?_,?_⟩
 . simp only [ma,kd,yH,uq];rfl
 .
  intro d a
  simp only [aab,aae,aaT] at a
  rcases a with rfl|rfl|rfl|rfl|rfl
  . exact pE
  . exact trivial
  . exact pE
  . exact pE
  . exact trivial
 . simp only [ma,vB,vH,qi,jy];decide
 . simp only [ma,tE,nc,qa];rfl
def qD {n:Nat} (h:n<16):Bit.parts (Bit.rooms n)≠[]/\∀ o∈Bit.parts (Bit.rooms n),o<16/\o &&& n=o:=by
 have:∀ b:Fin 16,Bit.parts (Bit.rooms b.val)≠[]/\∀ o∈Bit.parts (Bit.rooms b.val),o<16/\o &&& b.val=o:=by decide +kernel
 exact this ⟨n,h⟩
def Ip {m:av} (w:m.Wf) (h:m.rows.length<=4) (s:cD) (o:Nat):(qA m s o).length<=16 * 1296:=by
 unfold qA
 have:=fo (l:=dD m s o) (k:=1296) (j3 w h (s:=s) (o:=o))
 have H:(dD m s o).length<=16:=(pO (yr (s:=s) (o:=o) h)).2
 lia
inductive A9 (a b c d e f g h i:Prop):Prop|mk (_:a) (_:b) (_:c) (_:d) (_:e) (_:f) (_:g) (_:h) (_:i)
def jg (m:av) (s:cD) (o:Nat):Option (List cD):=if (dD m s o).all (λ O=>jq m s (Ord.off o O))=true then some (qA m s o) else none
abbrev bU:=List (Option (aS))
def pQ (met:List cD):Option (List cD)->Option (aS)->Prop
 | none,none=>True
 | some l,some J=>Paired (λ j s=>met[j]?=some s) J l
 | _,_=>False
theorem pQ.more {met m:List cD}:∀ {a:Option (List cD)} {b:Option (aS)},pQ met a b->pQ (met++m) a b
 | none,none,_=>trivial
 | some _,some _,h=>Paired.yB h λ j s e=>by rw [aan (Br.mp e).1];exact e
 | none,some _,h=>h.elim
 | some _,none,h=>h.elim
structure qX where
 met:List cD
 fI:List (aS)
 rows:List bU
structure gy (m:av) (g:qX):Prop where
 nd:g.met.Nodup
 lo:g.fI.length<=g.met.length
 lr:g.rows.length<=g.met.length
 st:∀ s∈g.met,eX m s
 fI:∀ (i:Nat) (s:cD) (o:aS),g.met[i]?=some s->g.fI[i]?=some o->o=s.orders m
 rows:∀ (i:Nat) (s:cD) (r:bU),g.met[i]?=some s->g.rows[i]?=some r->Paired (λ o b=>pQ g.met (jg m s o) b) (s.orders m) r
def qX.add (g:qX) (s:cD):qX:={ g with met:=g.met++[s]}
theorem gy.add {m:av} {g:qX} {s:cD} (h:gy m g) (S:eX m s) (n:s∉g.met):gy m (g.add s):=by
 have O:∀ {i x},i<g.met.length->(g.met++[s])[i]?=some x->g.met[i]?=some x:=λ {i x} hi e=>by
   rw [aan hi] at e;exact e
 refine ⟨acP.mpr ⟨h.nd,abQ _ _,λ a H b d e=>n (by rw [<- aac.mp d,<- e];exact H)⟩,?_,?_,λ x f=>?_,λ i x o c E=>?_,λ i x r c E=>?_⟩
 .
  show g.fI.length<=(g.met++[s]).length
  rw [aaf]
  have:=h.lo
  lia
 .
  show g.rows.length<=(g.met++[s]).length
  rw [aaf]
  have:=h.lr
  lia
 . rcases aaz.mp f with z|z
   . exact h.st x z
   . rw [aac.mp z];exact S
 . have E:g.fI[i]?=some o:=E
   exact h.fI i x o (O (by have:=(Br.mp E).1;have:=h.lo;lia) c) E
 . exact Paired.yB (h.rows i x r (O (by have:=(Br.mp E).1;have:g.rows.length<=g.met.length:=h.lr;have E:g.rows[i]?=some r:=E;have:=(Br.mp E).1;lia) c) E) λ Z Z q=>q.more
def ud:Option (aS)->PyData
 | none => .none
 | some l => .list (l.map jy)
def rZ (r:bU):PyData:=.list (r.map ud)
abbrev NR (pm po pr pd:am) (lim:Int):List (Str×V):=[("met",.ref pm),("orders",.ref po),("rows",.ref pr),("places",.ref pd),("limit",.int lim)]
def Af (a:oJ) (met:List cD):Prop:=(∀ i s,met[i]?=some s->iw a (ma s)=some (aq i))/\∀ s,s∉met->iw a (ma s)=none
structure eB (P:bD) (w:bz) (K:aE) (CG:am) (L:bJ) (H:Hp) (x pm po pr pd:am) (lim:Int) (g:qX):Prop where
 ins:∃ dx,H x=some (.ins CG dx (NR pm po pr pd lim))
 met:∃ vm,H pm=some (.lst vm)/\ni K H vm g.met
 fI:∃ vo,H po=some (.lst vo)/\bL K (cU H (L++[pm,po,pr])) (g.fI.map λ l => .list (l.map jy)) vo
 rows:∃ vr,H pr=some (.lst vr)/\bL K (cU H (L++[pm,po,pr])) (g.rows.map rZ) vr
 pls:∃ aD,iB P w K H pd aD/\aD.length<=g.met.length/\Af aD g.met
 n1:pm≠po
 n2:pm≠pr
 n3:po≠pr
def yx {s t:cD} (h:ma s=ma t):s=t:=by
 have h:=aco h
 obtain ⟨H,h⟩:=abV h
 obtain ⟨d,h⟩:=abV h
 obtain ⟨f,h⟩:=abV h
 obtain ⟨g,h⟩:=abV h
 obtain ⟨i,Z⟩:=abV h
 cases s
 cases t
 have e:=mH (aco H)
 have E:=ado (ac4 d)
 have a:=mH (aco f)
 have b:=mH (aco g)
 have c:=ado (ac4 i)
 simp only at e E a b c
 rw [e,E,a,b,c]
def Af.nil:Af [] []:=⟨λ i s h=>by simp at h,λ Z Z=>rfl⟩
def Af.add {a:oJ} {met:List cD} {s:cD} {b:am} (h:Af a met) (n:s∉met):Af (fM a (ma s) b (aq met.length)) (met++[s]):=by
 refine ⟨λ i t e=>?_,λ t H=>?_⟩
 .
  rw [lO]
  by_cases q:ma t=ma s
  .
   rw [aau q]
   obtain rfl:=yx q
   by_cases hi:i<met.length
   . rw [aan hi] at e
     exact absurd (aah e) n
   . have:=(Br.mp e).1
     rw [aaf,aaD] at this
     rw [show i=met.length by lia]
  .
   rw [aax q]
   by_cases hi:i<met.length
   . rw [aan hi] at e
     exact h.1 i t e
   . rw [aa0 (by lia)] at e
     have:=aac.mp (aah e)
     exact absurd (by rw [this]) q
 . rw [aaz,aac,abL] at H
   rw [lO,aax (λ q=>H.2 (yx q))]
   exact h.2 t H.1
section
variable {P:bD} {w:bz} {K:aE} {CG:am} {L:bJ} {H H':Hp} {x pm po pr pd:am} {lim:Int} {g:qX}
theorem eB.same (h:eB P w K CG L H x pm po pr pd lim g) (s:aG H H'):eB P w K CG L H' x pm po pr pd lim g:=by
 obtain ⟨⟨f,i⟩,⟨v,a,A⟩,⟨V,B,c⟩,⟨k,C,d⟩,⟨b,D,e⟩,n,N,j⟩:=h
 exact ⟨⟨f,s _ _ i⟩,⟨v,s _ _ a,A.imp λ p x h=>h.same s⟩,⟨V,s _ _ B,bL.same (md s) _ c⟩,⟨k,s _ _ C,bL.same (md s) _ d⟩,⟨b,D.same s,e⟩,n,N,j⟩
end
def lR:HO->Bool
 | .lst _=>false
 | .tup _=>false
 | .AL _ _=>false
 | _=>true
section
variable {K:aE} {H:Hp} {d:am}
def yj {a:am} {u:HO} (b:∀ o,H d=some o->lR o=true) (e:H a=some u) (h:lR u=false):a∉[d]:=λ z=>by
 rw [aac.mp z] at e
 have:=b u e
 rw [h] at this
 cases this
def aX.vN (b:∀ o,H d=some o->lR o=true) {a:am} {xs:aB} (h:aX K H a xs):aX K (cU H [d]) a xs:=by
 rcases h with (h|⟨o,h⟩)|h
 . exact .inl (.inl (iz h (yj b h rfl)))
 . exact .inl (.inr ⟨o,iz h (yj b h rfl)⟩)
 . exact .inr h
def bY.vN (b:∀ o,H d=some o->lR o=true) {a:am} {xs:aB} (h:bY K H a xs):bY K (cU H [d]) a xs:=by
 rcases h with (h|⟨o,h⟩)|h
 . exact .inl (.inl (iz h (yj b h rfl)))
 . exact .inl (.inr ⟨o,iz h (yj b h rfl)⟩)
 . exact .inr h
mutual
theorem Dn.vN (b:∀ o,H d=some o->lR o=true):∀ (e:PyData) {v:V},Dn K H e v->Dn K (cU H [d]) e v
 | .none,_,h=>by rw [Dn] at h |-;exact h
 | .bool _,_,h=>by rw [Dn] at h |-;exact h
 | .int _,_,h=>by rw [Dn] at h |-;exact h
 | .str _,_,h=>by rw [Dn] at h |-;exact h
 | .list D,_,h=>by
   rw [Dn] at h |-
   obtain ⟨a,xs,e,q,r⟩:=h
   exact ⟨a,xs,e,q.vN b,bL.vN b D r⟩
 | .tuple D,_,h=>by
   rw [Dn] at h |-
   obtain ⟨a,xs,e,q,r⟩:=h
   exact ⟨a,xs,e,q.vN b,bL.vN b D r⟩
 | .dict _,_,h=>by rw [Dn] at h;exact h.elim
theorem bL.vN (a:∀ o,H d=some o->lR o=true):∀ (D:List PyData) {xs:aB},bL K H D xs->bL K (cU H [d]) D xs
 | [],_,h=>by rw [bL] at h |-;exact h
 | e::D,_,h=>by
   rw [bL] at h |-
   obtain ⟨x,r,E,q,t⟩:=h
   exact ⟨x,r,E,Dn.vN a e q,bL.vN a D t⟩
end
def bL.wL {L:bJ} (f:H d=some o) (g:lR o=true) (b:∀ c u,H c=some u->c≠d->c∉L->H' c=some u) {D:List PyData} {xs:aB} (h:bL K (cU H L) D xs):bL K (cU H' L) D xs:=by
 have a:=bL.vN (d:=d) (λ u e=>by
   unfold cU at e
   split at e
   . cases e
   . rw [f] at e;cases e;exact g) D h
 refine bL.same (λ c u e=>?_) D a
 unfold cU at e |-
 split at e
 . cases e
 .
  rename_i n
  split at e
  . cases e
  . rename_i N
    rw [aax N]
    exact b c u e (λ z=>n (aac.mpr z)) N
def Ef {d:am} {L:bJ} (b:gG [d] H H'):∀ c u,H c=some u->c≠d->c∉L->H' c=some u:=λ c u e n Z=>b c u e λ z=>n (aac.mp z)
end
section
variable {P:bD} {w:bz} {K:aE} {CG:am} {L:bJ} {H H':Hp} {x pm po pr pd:am} {lim:Int} {g:qX}
def eB.but {d:am} {kd:oJ} (h:eB P w K CG L H x pm po pr pd lim g) (a:H d=some (kU P w d kd)) (v:d≠pd) (b:gG [d] H H') (t:aT K H H'):eB P w K CG L H' x pm po pr pd lim g:=by
 obtain ⟨⟨o,f⟩,⟨V,A,i⟩,⟨y,B,k⟩,⟨E,C,l⟩,⟨j,D,m⟩,q,r,s⟩:=h
 have N:∀ {c u},H c=some u->(∀ F,u ≠ .ext F)->c∉[d]:=λ e n z=>by
   rw [aac.mp z,a] at e
   exact n _ (aaq e).symm
 refine ⟨⟨o,b _ _ f (N f nofun)⟩,⟨V,b _ _ A (N A nofun),i.imp λ p x h=>h.ts t⟩,⟨y,b _ _ B (N B nofun),bL.wL a rfl (Ef b) k⟩,⟨E,b _ _ C (N C nofun),bL.wL a rfl (Ef b) l⟩,⟨j,D.eY t ?_,m⟩,q,r,s⟩
 rw [D.ob]
 exact b _ _ D.ob (by simp only [aac];exact acx v)
end
def Dr (m:av) (L:Int):Prop:=∀ l:List cD,l.Nodup->(∀ s∈l,eX m s)->(l.length:Int)<=L
structure vf (g g':qX):Prop where
 met:∃ more,g'.met=g.met++more
 fI:g'.fI=g.fI
 rows:g'.rows=g.rows
def vf.refl (g:qX):vf g g:=⟨⟨[],(abf _).symm⟩,rfl,rfl⟩
theorem vf.trans {a b c:qX} (h:vf a b) (k:vf b c):vf a c:=by
 obtain ⟨⟨m,e⟩,o,r⟩:=h
 obtain ⟨⟨M,E⟩,O,R⟩:=k
 exact ⟨⟨m++M,by rw [E,e,ab9]⟩,O.trans o,R.trans r⟩
theorem vf.add (g:qX) (s:cD):vf g (g.add s):=⟨⟨[s],rfl⟩,rfl,rfl⟩
def vf.at {g g':qX} (h:vf g g') {j:Nat} {s:cD} (e:g.met[j]?=some s):g'.met[j]?=some s:=by
 obtain ⟨⟨m,E⟩,Z⟩:=h
 rw [E,aan (Br.mp e).1]
 exact e
section
variable (P:bD) (w:bz) (K:aE) (CG:am)
inductive HS (vs:aB) (H:Hp) (Q:VK) (_E:XK):Prop|mk (x p pm po pr pd lim g m s L:_) (_:vs=[.ref x,.ref p]) (_:eB P w K CG L H x pm po pr pd lim g) (_:gy m g) (_:Dr m lim) (_:lim<=2000) (_:iR K H p s) (_:eX m s) (_:∀ j g' H',gG [pm,pd] H H'->aT K H H'->eB P w K CG L H' x pm po pr pd lim g'->vf g g'->gy m g'->g'.met[j]?=some s->(g'=g\/g'=g.add s)->Q (aq j) H')
inductive BA (vs:aB) (H:Hp) (Q:VK) (_E:XK):Prop|mk (x v pm po pr pd lim g m L:_) (_:vs=[.ref x,v]) (_:eB P w K CG L H x pm po pr pd lim g) (_:gy m g) (_:Dr m lim) (_:lim<=2000) (_:((v = .cC/\Q .cC H)\/∃ q xs l,v = .ref q/\H q=some (.lst xs)/\q≠pm/\ni K H xs l/\(∀ s∈l,eX m s)/\l.length<=100000/\∀ D js g' H',H D=none->gG [pm,pd] H H'->aT K H H'->eB P w K CG L H' x pm po pr pd lim g'->vf g g'->gy m g'->H' D=some (.lst (js.map aq))->Paired (λ j s=>g'.met[j]?=some s) js l->Q (.ref D) H'))
end
section
variable {P:bD} {w:bz} {K:aE} {CG:am} {L:bJ} {H:Hp} {x pm po pr pd p:am} {lim:Int} {g:qX} {s:cD} {vm:aB} {aD:oJ}
theorem eB.add (h:eB P w K CG L H x pm po pr pd lim g) (f:H pm=some (.lst vm)) (G:ni K H vm g.met) (a:iB P w K H pd aD) (Y:aD.length<=g.met.length) (Q:Af aD g.met) (o:iR K H p s) (n:s∉g.met) :
   eB P w K CG L (upd (upd H pd (kU P w pd (fM aD (ma s) p (aq g.met.length)))) pm (.lst (vm++[.ref p]))) x pm po pr pd lim (g.add s)/\gG [pm,pd] H (upd (upd H pd (kU P w pd (fM aD (ma s) p (aq g.met.length)))) pm (.lst (vm++[.ref p]))) /\
   aT K H (upd (upd H pd (kU P w pd (fM aD (ma s) p (aq g.met.length)))) pm (.lst (vm++[.ref p]))):=by
 obtain ⟨⟨D,b⟩,Z,⟨V,i,M⟩,⟨F,C,O⟩,Z,r,y,R⟩:=h
 have m:=g8 o
 have A:pm≠pd:=λ z=>by rw [z,a.ob] at f;cases f
 have nx:x≠pd:=λ z=>by rw [z,a.ob] at b;cases b
 have N:x≠pm:=λ z=>by rw [z,f] at b;cases b
 have S:po≠pd:=λ z=>by rw [z,a.ob] at i;cases i
 have U:pr≠pd:=λ z=>by rw [z,a.ob] at C;cases C
 have T:aT K H (upd H pd (kU P w pd (fM aD (ma s) p (aq g.met.length)))):=bV a.ob rfl
 have B:gG [pd] H (upd H pd (kU P w pd (fM aD (ma s) p (aq g.met.length)))):=λ c u e z=>by rw [aw (λ q=>z (aac.mpr q))];exact e
 have W:=a.put (v:=aq g.met.length) m
 have I:(upd H pd (kU P w pd (fM aD (ma s) p (aq g.met.length)))) pm=some (.lst vm):=by rw [aw A];exact f
 have J:=bL.wL a.ob rfl (Ef B) M
 have k:=bL.wL a.ob rfl (Ef B) O
 have X:(upd H pd (kU P w pd (fM aD (ma s) p (aq g.met.length)))) x=some (.ins CG D (NR pm po pr pd lim)):=by rw [aw nx];exact b
 have j:(upd H pd (kU P w pd (fM aD (ma s) p (aq g.met.length)))) po=some (.lst V):=by rw [aw S];exact i
 have l:(upd H pd (kU P w pd (fM aD (ma s) p (aq g.met.length)))) pr=some (.lst F):=by rw [aw U];exact C
 generalize upd H pd (kU P w pd (fM aD (ma s) p (aq g.met.length)))=d at *
 have t:aT K d (upd d pm (.lst (vm++[.ref p]))):=bV I rfl
 have E:cU (upd d pm (.lst (vm++[.ref p]))) (L++[pm,po,pr])=cU d (L++[pm,po,pr]):=j5 (by simp)
 refine ⟨⟨⟨D,by rw [aw N];exact X⟩,⟨_,ag,?_⟩,⟨V,by rw [aw r.symm];exact j,by rw [E];exact J⟩,⟨F,by rw [aw y.symm];exact l,by rw [E];exact k⟩,⟨_,W.eY t (aw A.symm),?_,Q.add n⟩,r,y,R⟩,λ c u e z=>?_,T.trans t⟩
 . exact Refs.snoc (G.imp λ p s h=>h.ts (T.trans t)) (o.ts (T.trans t))
 .
  refine aaA (ue ..) ?_
  show _<=(g.met++[s]).length
  rw [aaf,aaD]
  lia
 . simp only [aab,aae,aaT,abL] at z
   rw [aw z.1]
   exact B c u e (by simp [z.2])
def eB.new (h:eB P w K CG L H x pm po pr pd lim g) {D:am} (f:H D=none):eB P w K CG (D::L) H x pm po pr pd lim g:=by
 obtain ⟨i,m,⟨v,B,a⟩,⟨V,c,C⟩,d,n,N,j⟩:=h
 have S:aG (cU H (L++[pm,po,pr])) (cU H (D::L++[pm,po,pr])):=λ b o e=>by
   unfold cU at e |-
   split at e
   . cases e
   .
    rename_i q
    rw [aax]
    . exact e
    . intro z
      rcases aab.mp z with z|z
      . rw [z,f] at e;cases e
      . exact q z
 exact ⟨i,m,⟨v,B,bL.same S _ a⟩,⟨V,c,bL.same S _ C⟩,d,n,N,j⟩
def eB.less (h:eB P w K CG L H x pm po pr pd lim g) {L':bJ} (f:∀ b∈L',b∈L):eB P w K CG L' H x pm po pr pd lim g:=by
 obtain ⟨i,m,⟨v,B,a⟩,⟨V,c,C⟩,d,n,N,j⟩:=h
 have S:aG (cU H (L++[pm,po,pr])) (cU H (L'++[pm,po,pr])):=λ b o e=>by
   unfold cU at e |-
   split at e
   . cases e
   .
    rename_i q
    rw [aax]
    . exact e
    . intro z
      refine q (aaz.mpr ?_)
      rcases aaz.mp z with z|z
      . exact .inl (f _ z)
      . exact .inr z
 exact ⟨i,m,⟨v,B,bL.same S _ a⟩,⟨V,c,bL.same S _ C⟩,d,n,N,j⟩
def eB.write (h:eB P w K CG L H x pm po pr pd lim g) {D:am} {xs ys:aB} (a:H D=some (.lst xs)) (l:D∈L) (q:D≠pm) (r:D≠po) (s:D≠pr):eB P w K CG L (upd H D (.lst ys)) x pm po pr pd lim g:=by
 obtain ⟨⟨k,b⟩,⟨vm,A,c⟩,⟨v,B,f⟩,⟨V,C,i⟩,⟨aD,d,j⟩,n,N,m⟩:=h
 have t:aT K H (upd H D (.lst ys)):=bV a rfl
 have e:cU (upd H D (.lst ys)) (L++[pm,po,pr])=cU H (L++[pm,po,pr]):=j5 (aaz.mpr (.inl l))
 have nx:x≠D:=λ z=>by rw [z,a] at b;cases b
 have o:pd≠D:=λ z=>by have:=d.ob;rw [z,a] at this;cases this
 exact ⟨⟨k,by rw [aw nx];exact b⟩,⟨vm,by rw [aw q.symm];exact A,c.imp λ p x h=>h.ts t⟩,⟨v,by rw [aw r.symm];exact B,by rw [e];exact f⟩,⟨V,by rw [aw s.symm];exact C,by rw [e];exact i⟩,⟨aD,d.eY t (aw o),j⟩,n,N,m⟩
end
structure DZ (m:av):Prop where
 h4:m.rows.length<=4
 sp:∀ s,eX m s->FF m s
 tn:∀ s o,eX m s->o∈s.orders m->∀ out∈dD m s o,cx m s o out
 nx:∀ s o x,eX m s->o∈s.orders m->x∈qA m s o->eX m x
def DZ.ow {m:av} (h:DZ m) {s:cD} {o:Nat} (H:o∈s.orders m):o &&& m.ws=o:=((qD (uF h.h4)).2 o (aa3.mp H).1).2
def uM {m:av} (h:m.rows.length<=4) (s:cD):(s.orders m).length<=16:=by
 have:=aa7 (s.EW m) (Bit.parts (Bit.rooms m.ws))
 have:=(pO (uF h)).2
 unfold cD.orders
 lia
def GX {m:av} {s:cD} {o:Nat} (h:∀ O∈dD m s o,jq m s (Ord.off o O)=true):jg m s o=some (qA m s o):=by
 unfold jg
 rw [aau (abv.mpr h)]
def GZ {m:av} {s:cD} {o:Nat} (h:∃ O∈dD m s o,jq m s (Ord.off o O)=false):jg m s o=none:=by
 unfold jg
 rw [aax]
 intro z
 obtain ⟨O,H,a⟩:=h
 have:=abv.mp z O H
 rw [a] at this
 cases this
def qX.ord (g:qX) (l:aS):qX:={ g with fI:=g.fI++[l]}
def qX.row (g:qX) (r:bU):qX:={ g with rows:=g.rows++[r]}
theorem gy.ord {m:av} {g:qX} {s:cD} (h:gy m g) (e:g.met[g.fI.length]?=some s):gy m (g.ord (s.orders m)):=by
 have H:=(Br.mp e).1
 refine ⟨h.nd,?_,h.lr,h.st,λ i x o a E=>?_,h.rows⟩
 . show (g.fI++[s.orders m]).length<=g.met.length
   rw [aaf,aaD];lia
 .
  have E:(g.fI++[s.orders m])[i]?=some o:=E
  by_cases hi:i<g.fI.length
  . rw [aan hi] at E
    exact h.fI i x o a E
  .
   have:=(Br.mp E).1
   rw [aaf,aaD] at this
   obtain rfl:i=g.fI.length:=by lia
   rw [aa1] at E
   have a:g.met[g.fI.length]?=some x:=a
   rw [e] at a
   cases a
   cases E
   rfl
theorem gy.row {m:av} {g:qX} {s:cD} {r:bU} (h:gy m g) (e:g.met[g.rows.length]?=some s) (H:Paired (λ o b=>pQ g.met (jg m s o) b) (s.orders m) r):gy m (g.row r):=by
 have c:=(Br.mp e).1
 refine ⟨h.nd,h.lo,?_,h.st,h.fI,λ i x r' a E=>?_⟩
 . show (g.rows++[r]).length<=g.met.length
   rw [aaf,aaD];lia
 .
  have E:(g.rows++[r])[i]?=some r':=E
  by_cases hi:i<g.rows.length
  . rw [aan hi] at E
    exact h.rows i x r' a E
  .
   have:=(Br.mp E).1
   rw [aaf,aaD] at this
   obtain rfl:i=g.rows.length:=by lia
   rw [aa1] at E
   have a:g.met[g.rows.length]?=some x:=a
   rw [e] at a
   cases a
   cases E
   exact H
inductive Jx (P:bD) (w:bz) (K:aE) (C CG:am) (vs:aB) (H:Hp) (Q:VK) (_E:XK):Prop|mk (x a pm po pr pd lim g m fp:_) (_:vs=[.ref x,.ref a]) (_:eB P w K CG [] H x pm po pr pd lim g) (_:gy m g) (_:g.fI.length=g.rows.length) (_:Dr m lim) (_:lim<=2000) (_:DZ m) (_:aZ K C H a fp m) (_:pm∉fp) (_:po∉fp) (_:pr∉fp) (_:pd∉fp) (_:∀ g' H',gG [pm,po,pr,pd] H H'->aT K H H'->eB P w K CG [] H' x pm po pr pd lim g'->gy m g'->g'.fI.length=g'.rows.length->g'.rows.length=g'.met.length->(∃ more,g'.met=g.met++more)->Q .cC H')
section
variable {P:bD} {w:bz} {K:aE} {CG:am} {L:bJ} {H:Hp} {x pm po pr pd q:am} {lim:Int} {g:qX}
theorem eB.ord (h:eB P w K CG L H x pm po pr pd lim g) {v:aB} {l:aS} (a:H po=some (.lst v)) (m:H q=some (.lst (l.map aq))) (s:q∉L++[pm,po,pr]):eB P w K CG L (upd H po (.lst (v++[.ref q]))) x pm po pr pd lim (g.ord l):=by
 obtain ⟨⟨k,b⟩,⟨V,A,c⟩,⟨u,B,i⟩,⟨y,C,j⟩,⟨f,d,D⟩,n,o,N⟩:=h
 rw [a] at B
 cases B
 have t:aT K H (upd H po (.lst (v++[.ref q]))):=bV a rfl
 have e:cU (upd H po (.lst (v++[.ref q]))) (L++[pm,po,pr])=cU H (L++[pm,po,pr]):=j5 (by simp)
 have nx:x≠po:=λ z=>by rw [z,a] at b;cases b
 have r:pd≠po:=λ z=>by have:=d.ob;rw [z,a] at this;cases this
 refine ⟨⟨k,by rw [aw nx];exact b⟩,⟨V,by rw [aw n];exact A,c.imp λ p x h=>h.ts t⟩,⟨_,ag,?_⟩,⟨y,by rw [aw N.symm];exact C,by rw [e];exact j⟩,⟨f,d.eY t (aw r),D⟩,n,o,N⟩
 rw [e]
 show bL K _ ((g.fI++[l]).map _) _
 rw [aai]
 exact bL.snoc i (Dk (aX.of (iz m s)))
theorem eB.row (h:eB P w K CG L H x pm po pr pd lim g) {v acc:aB} {r:bU} (a:H pr=some (.lst v)) (l:H q=some (.lst acc)) (u:q∉L++[pm,po,pr]) (m:bL K (cU H (L++[pm,po,pr])) (r.map ud) acc):eB P w K CG L (upd H pr (.lst (v++[.ref q]))) x pm po pr pd lim (g.row r):=by
 obtain ⟨⟨k,b⟩,⟨V,A,f⟩,⟨y,B,j⟩,⟨E,c,C⟩,⟨i,d,D⟩,o,n,N⟩:=h
 rw [a] at c
 cases c
 have t:aT K H (upd H pr (.lst (v++[.ref q]))):=bV a rfl
 have e:cU (upd H pr (.lst (v++[.ref q]))) (L++[pm,po,pr])=cU H (L++[pm,po,pr]):=j5 (by simp)
 have nx:x≠pr:=λ z=>by rw [z,a] at b;cases b
 have s:pd≠pr:=λ z=>by have:=d.ob;rw [z,a] at this;cases this
 refine ⟨⟨k,by rw [aw nx];exact b⟩,⟨V,by rw [aw n];exact A,f.imp λ p x h=>h.ts t⟩,⟨y,by rw [aw N];exact B,by rw [e];exact j⟩,⟨_,ag,?_⟩,⟨i,d.eY t (aw s),D⟩,o,n,N⟩
 rw [e]
 show bL K _ ((g.rows++[r]).map _) _
 rw [aai]
 exact bL.snoc C (rj (aX.of (iz l u)) m)
end
section
variable {P:bD} {w:bz} {K:aE} {C CR:am} {L L':bJ} {H H':Hp} {x d a:am} {fp:bJ} {m:av} {c:Nat}
def DF (h:aZ K C H a fp m) (st:∀ b o,H b=some o->b∈fp->H' b=some o) (t:aT K H H'):aZ K C H' a fp m:=by
 obtain ⟨⟨M,d,p,f,k,V,E,L,A,rfl,s,J,G,v,r,I,N,w,x,l,n,q,D,F⟩,Q,y,z,B⟩:=h
 have g:∀ {c o},H c=some o->c∈[a,M,d,p,f,k]->H' c=some o:=λ {c o} e u=>st c o e u
 exact ⟨⟨M,d,p,f,k,V,E,L,A,rfl,g s (by simp),g J (by simp),g G (by simp),g v (by simp),g r (by simp),g I (by simp),N,w,x,kA t l,jh t n,hG t q,λ i j=>(D i j).ts t,F⟩,Q,y,z,B⟩
def eG.frame (r:eG P w K C CR L H x d a fp m c) {M:bJ} (b:gG M H H') (t:aT K H H') (nx:x∉M) (G:d∉M) (nf:∀ c∈fp,c∉M) (k:∀ c∈M,c∈L\/∀ xs,H c≠some (.lst xs)):eG P w K C CR L H' x d a fp m c:=by
 obtain ⟨⟨D,F⟩,p,n,A,g,s,E⟩:=r
 refine ⟨⟨D,b _ _ F nx⟩,DF p (λ c u e o=>b c u e (nf c o)) t,n,A,g.eY t ?_,s,λ i B f v e=>?_⟩
 . rw [g.ob];exact b _ _ g.ob G
 .
  have:=E i B f v e
  cases z:d7 m i B f with
  | none=>rw [z] at this;exact this
  | some l =>
    rw [z] at this
    obtain ⟨q,e,N,j⟩:=this
    exact ⟨q,e,N,b _ _ j λ y=>(k q y).elim N λ h=>h _ j⟩
def eG.zero (r:eG P w K C CR L H x d a fp m 0):eG P w K C CR L' H x d a fp m 0:=by
 obtain ⟨i,b,n,A,c,h,g⟩:=r
 obtain rfl:A=[]:=aa2 (Nat.le_zero.mp h)
 exact ⟨i,b,n,[],c,h,λ i B f v e=>by cases e⟩
end
inductive Hq (P:bD) (w:bz) (K:aE) (C CG:am) (vs:aB) (H:Hp) (Q:VK) (_E:XK):Prop|mk (x dx a q lim fp m xs l:_) (_:vs=[.ref x,.ref a,.ref q,.int lim]) (_:H x=some (.ins CG dx [])) (_:aZ K C H a fp m) (_:x∉fp) (_:DZ m) (_:Dr m lim) (_:lim<=2000) (_:H q=some (.lst xs)) (_:ni K H xs l) (_:(∀ s∈l,eX m s)) (_:∀ pm po pr pd g H',gG [x] H H'->aT K H H'->(∀ b∈[pm,po,pr,pd],H b=none)->eB P w K CG [] H' x pm po pr pd lim g->gy m g->g.fI.length=g.rows.length->g.rows.length=g.met.length->(∀ s∈l,s∈g.met)->(∀ s r,l=s::r->g.met[0]?=some s)->Q .cC H')
structure jI where
 bO:List (List (Option Nat))
 di:aS
 bN:List (Option Nat)
 queue:aS
def nG (rows:List bU):Nat->Nat->Prop
 | 0,p=>rows[p]?=some []
 | k+1,p=>∃ r,rows[p]?=some r/\∀ (c:Nat) (v:Option (aS)),r[c]?=some v->v=none\/∃ J,v=some J/\∃ j∈J,nG rows k j
theorem nG.succ {rows:List bU}:∀ {k p:Nat},nG rows k p->nG rows (k+1) p
 | 0,p,h=>⟨[],h,λ c v e=>by simp at e⟩
 | k+1,p,⟨r,e,h⟩=>⟨r,e,λ c v E=>(h c v E).imp id λ ⟨J,a,j,H,q⟩=>⟨J,a,j,H,q.succ⟩⟩
def nG.mono {rows:List bU} {k n p:Nat} (h:nG rows k p) (l:k<=n):nG rows n p:=by
 obtain ⟨d,rfl⟩:=Nat.exists_eq_add_of_le l
 induction d with
 | zero=>exact h
 | succ d i=>exact (i (abX _ _)).succ
def ug (rows:List bU) (b:List (Option Nat)) (p c t:Nat):Prop:=∃ r:bU,rows[p]?=some r/\(r[c]?=some none/\t=0\/∃ J,r[c]?=some (some J)/\∃ j∈J,b[j]?=some (some t))
structure ic (rows:List bU) (S:jI) (cur:Nat):Prop where
 ll:S.bO.length=rows.length
 lg:S.di.length=rows.length
 lk:S.bN.length=rows.length
 sh:∀ (p:Nat) l r,S.bO[p]?=some l->rows[p]?=some r->l.length=r.length
 go:∀ (p:Nat) l n,S.bO[p]?=some l->S.di[p]?=some n->n=l.countP Option.isNone
 rk:∀ (p:Nat) n,S.di[p]?=some n->(n=0↔∃ k,S.bN[p]?=some (some k))
 qu:∀ p,p∈S.queue↔∃ k,S.bN[p]?=some (some k)
 nd:S.queue.Nodup
 z:∀ p:Nat,rows[p]?=some []↔S.bN[p]?=some (some 0)
 lo:∀ (p:Nat) l (c:Nat) t,S.bO[p]?=some l->l[c]?=some (some t)->t<=cur
 ls:∀ (p:Nat) l (c:Nat) t,S.bO[p]?=some l->l[c]?=some (some t)->ug rows S.bN p c t
 top:∀ (p:Nat) t l,S.bN[p]?=some (some (t+1))->S.bO[p]?=some l->(∀ (c:Nat) t',l[c]?=some (some t')->t'<=t)/\∃ c:Nat,l[c]?=some (some t)
 le:∀ (p:Nat) k,S.bN[p]?=some (some k)->k<=cur+1
 Vj:S.queue.Pairwise λ a b=>∀ x y,S.bN[a]?=some (some x)->S.bN[b]?=some (some y)->x<=y
def jI.fin (S:jI) (p c t:Nat) (l:List (Option Nat)) (n:Nat):jI:=⟨S.bO.set p (l.set c (some t)),S.di.set p (n - 1),if n=1 then S.bN.set p (some (t+1)) else S.bN,if n=1 then S.queue++[p] else S.queue⟩
def cY {b:Type} {l:List b} {i j:Nat} {a x:b}:(l.set i a)[j]?=some x↔(i=j/\i<l.length/\x=a)\/(i≠j/\l[j]?=some x):=by
 rw [List.getElem?_set]
 by_cases h:i=j
 .
  rw [aau h]
  by_cases hi:i<l.length
  . rw [aau hi]
    exact ⟨λ e => .inl ⟨h,hi,(aaq e).symm⟩,λ e=>e.elim (λ e=>by rw [e.2.2]) λ e=>absurd h e.1⟩
  . rw [aax hi]
    exact ⟨λ e=>by simp at e,λ e=>e.elim (λ e=>absurd e.2.1 hi) λ e=>absurd h e.1⟩
 . rw [aax h]
   exact ⟨λ e => .inr ⟨h,e⟩,λ e=>e.elim (λ e=>absurd e.1 h) λ e=>e.2⟩
theorem ic.fin {rows:List bU} {S:jI} {p n:Nat} {l:List (Option Nat)} (h:ic rows S cur) (i:S.bO[p]?=some l) (J:S.di[p]?=some n) (I:l[c]?=some none) (K:ug rows S.bN p c cur):ic rows (S.fin p c cur l n) cur:=by
 have M:c<l.length:=(Br.mp I).1
 have V:l[c]=none:=(Br.mp I).2
 have Y:p<S.bO.length:=(Br.mp i).1
 have ID:p<S.di.length:=(Br.mp J).1
 have R:p<S.bN.length:=by rw [h.lk,<- h.ll];exact Y
 have D:=h.go p l n i J
 have n0:n≠0:=λ z=>by
   rw [z] at D
   exact abT.mp D.symm _ (aah I) rfl
 have N:∀ k,S.bN[p]?≠some (some k):=λ k e=>n0 ((h.rk p n J).mpr ⟨k,e⟩)
 have B:p∉S.queue:=λ z=>by obtain ⟨k,e⟩:=(h.qu p).mp z;exact N k e
 have f:∀ j k,(S.fin p c cur l n).bN[j]?=some (some k)↔(n=1/\j=p/\k=cur+1)\/S.bN[j]?=some (some k):=λ j k=>by
   by_cases H:n=1
   .
    simp only [jI.fin,aau H,cY]
    constructor
    . rintro (⟨rfl,Z,e⟩|⟨Z,e⟩)
      . exact .inl ⟨H,rfl,aaq e⟩
      . exact .inr e
    . rintro (⟨Z,rfl,rfl⟩|e)
      . exact .inl ⟨rfl,R,rfl⟩
      . exact .inr ⟨λ z=>N k (z ▸ e),e⟩
   . simp only [jI.fin,aax H]
     exact ⟨.inr,λ e=>e.elim (λ e=>absurd e.1 H) id⟩
 have U:∀ {j k},S.bN[j]?=some (some k)->(S.fin p c cur l n).bN[j]?=some (some k):=λ e=>(f _ _).mpr (.inr e)
 have W:∀ {Q c' t'},ug rows S.bN Q c' t'->ug rows (S.fin p c cur l n).bN Q c' t':=λ ⟨r,A,q⟩=>⟨r,A,q.imp id λ ⟨js,X,j,hj,e⟩=>⟨js,X,j,hj,U e⟩⟩
 have F:∀ {j L},(S.fin p c cur l n).bO[j]?=some L->(j=p/\L=l.set c (some cur))\/(j≠p/\S.bO[j]?=some L):=λ e=>by
   rcases cY.mp e with ⟨rfl,Z,e⟩|⟨q,e⟩
   . exact .inl ⟨rfl,e⟩
   . exact .inr ⟨λ z=>q z.symm,e⟩
 have G:∀ {j m},(S.fin p c cur l n).di[j]?=some m->(j=p/\m=n - 1)\/(j≠p/\S.di[j]?=some m):=λ e=>by
   rcases cY.mp e with ⟨rfl,Z,e⟩|⟨q,e⟩
   . exact .inl ⟨rfl,e⟩
   . exact .inr ⟨λ z=>q z.symm,e⟩
 have qm:∀ j,j∈(S.fin p c cur l n).queue↔(n=1/\j=p)\/j∈S.queue:=λ j=>by
   by_cases H:n=1
   . simp only [jI.fin,aau H,aaz,aac]
     exact ⟨λ e=>e.elim .inr λ e => .inl ⟨H,e⟩,λ e=>e.elim (λ e => .inr e.2) .inl⟩
   . simp only [jI.fin,aax H]
     exact ⟨.inr,λ e=>e.elim (λ e=>absurd e.1 H) id⟩
 have C:(l.set c (some cur)).countP Option.isNone=n - 1:=by
   rw [List.countP_set M,V,D];rfl
 refine ⟨?_,?_,?_,?_,?_,?_,?_,?_,?_,?_,?_,?_,?_,?_⟩
 . show (S.bO.set p _).length=_
   rw [abp];exact h.ll
 . show (S.di.set p _).length=_
   rw [abp];exact h.lg
 .
  show (if n=1 then S.bN.set p (some (cur+1)) else S.bN).length=_
  split
  . rw [abp];exact h.lk
  . exact h.lk
 .
  intro j L r e A
  rcases F e with ⟨rfl,rfl⟩|⟨Z,e⟩
  . rw [abp];exact h.sh _ _ _ i A
  . exact h.sh _ _ _ e A
 .
  intro j L m e d
  rcases F e with ⟨rfl,rfl⟩|⟨q,e⟩
  . rcases G d with ⟨Z,rfl⟩|⟨q,Z⟩
    . exact C.symm
    . exact absurd rfl q
  . rcases G d with ⟨z,Z⟩|⟨Z,d⟩
    . exact absurd z q
    . exact h.go _ _ _ e d
 .
  intro j m d
  rcases G d with ⟨rfl,rfl⟩|⟨q,d⟩
  . refine ⟨λ z=>⟨cur+1,(f _ _).mpr (.inl ⟨by lia,rfl,rfl⟩)⟩,λ ⟨k,e⟩=>?_⟩
    rcases (f _ _).mp e with ⟨e,Z⟩|e
    . lia
    . exact absurd e (N k)
  . refine (h.rk j m d).trans ⟨λ ⟨k,e⟩=>⟨k,U e⟩,λ ⟨k,e⟩=>?_⟩
    rcases (f _ _).mp e with ⟨Z,e,Z⟩|e
    . exact absurd e q
    . exact ⟨k,e⟩
 .
  intro j
  rw [qm j]
  constructor
  . rintro (⟨w,rfl⟩|e)
    . exact ⟨cur+1,(f _ _).mpr (.inl ⟨w,rfl,rfl⟩)⟩
    . obtain ⟨k,e⟩:=(h.qu j).mp e
      exact ⟨k,U e⟩
  . rintro ⟨k,e⟩
    rcases (f _ _).mp e with ⟨w,E,Z⟩|e
    . exact .inl ⟨w,E⟩
    . exact .inr ((h.qu j).mpr ⟨k,e⟩)
 .
  show (if n=1 then S.queue++[p] else S.queue).Nodup
  split
  . exact acP.mpr ⟨h.nd,abQ _ _,λ a u b v e=>B (by rw [<- aac.mp v,<- e];exact u)⟩
  . exact h.nd
 .
  intro j
  refine (h.z j).trans ⟨U,λ e=>?_⟩
  rcases (f _ _).mp e with ⟨Z,Z,e⟩|e
  . lia
  . exact e
 .
  intro j L c' t e E
  rcases F e with ⟨rfl,rfl⟩|⟨Z,e⟩
  . rcases cY.mp E with ⟨Z,Z,E⟩|⟨Z,E⟩
    . rw [aaq E];exact aak _
    . exact h.lo _ _ _ _ i E
  . exact h.lo _ _ _ _ e E
 .
  intro j L c' t e E
  rcases F e with ⟨rfl,rfl⟩|⟨Z,e⟩
  . rcases cY.mp E with ⟨rfl,Z,E⟩|⟨Z,E⟩
    . rw [aaq E];exact W K
    . exact W (h.ls _ _ _ _ i E)
  . exact W (h.ls _ _ _ _ e E)
 .
  intro j t L o e
  rcases (f _ _).mp o with ⟨Z,rfl,w⟩|s
  .
   obtain rfl:t=cur:=by lia
   rcases F e with ⟨Z,rfl⟩|⟨q,Z⟩
   . refine ⟨λ c' t' T=>?_,c,cY.mpr (.inl ⟨rfl,M,rfl⟩)⟩
     rcases cY.mp T with ⟨Z,Z,E⟩|⟨Z,E⟩
     . rw [aaq E];exact aak _
     . exact h.lo _ _ _ _ i E
   . exact absurd rfl q
  . rcases F e with ⟨rfl,Z⟩|⟨Z,e⟩
    . exact absurd s (N _)
    . exact h.top _ _ _ s e
 .
  intro j k o
  rcases (f _ _).mp o with ⟨Z,Z,rfl⟩|o
  . exact aak _
  . exact h.le _ _ o
 .
  have O:S.queue.Pairwise λ a b=>∀ x y,(S.fin p c cur l n).bN[a]?=some (some x)->(S.fin p c cur l n).bN[b]?=some (some y)->x<=y:=by
    refine h.Vj.imp_of_mem λ {a b} u v q x y ex g=>?_
    rcases (f _ _).mp ex with ⟨Z,rfl,Z⟩|ex
    . exact absurd u B
    rcases (f _ _).mp g with ⟨Z,rfl,Z⟩|g
    . exact absurd v B
    exact q x y ex g
  show (if n=1 then S.queue++[p] else S.queue).Pairwise _
  by_cases H:n=1
  .
   rw [aau H]
   refine adg.mpr ⟨O,abQ _ _,λ a u b v x y ex g=>?_⟩
   rw [aac.mp v] at g
   rcases (f _ _).mp ex with ⟨Z,rfl,Z⟩|ex
   . exact absurd u B
   rcases (f _ _).mp g with ⟨Z,Z,rfl⟩|g
   . exact h.le _ _ ex
   . exact absurd g (N _)
  . rw [aax H];exact O
def fL (rows:List bU) (S:jI):Prop:=∀ (p:Nat) (r:bU) (c:Nat),rows[p]?=some r->r[c]?=some none->∃ l,S.bO[p]?=some l/\l[c]?=some (some 0)
def xn (rows:List bU) (S:jI) (j:Nat):Prop:=∀ (p:Nat) (r:bU) (c:Nat) J,rows[p]?=some r->r[c]?=some (some J)->j∈J->∃ l t k,S.bO[p]?=some l/\l[c]?=some (some t)/\S.bN[j]?=some (some k)/\t<=k
def wD {S:jI} {p t n:Nat} {l:List (Option Nat)} (b:S.bO[p]?=some l) (H:l[c]?=some none) {a:Nat} {L:List (Option Nat)} {t':Nat} (e:S.bO[a]?=some L) (E:L[c']?=some (some t')):∃ d,(S.fin p c t l n).bO[a]?=some d/\d[c']?=some (some t'):=by
 by_cases h:p=a
 .
  subst h
  rw [b] at e
  cases e
  refine ⟨_,cY.mpr (.inl ⟨rfl,(Br.mp b).1,rfl⟩),cY.mpr (.inr ⟨λ z=>?_,E⟩)⟩
  rw [z,E] at H
  cases H
 . exact ⟨L,cY.mpr (.inr ⟨h,e⟩),E⟩
def ic.EQ {rows:List bU} {S:jI} {p n t:Nat} {l:List (Option Nat)} (h:ic rows S cur) (b:S.bO[p]?=some l) (H:S.di[p]?=some n) (a:l[c]?=some none) {j k:Nat} (e:S.bN[j]?=some (some k)):(S.fin p c t l n).bN[j]?=some (some k):=by
 have N:n≠0:=λ z=>by
   have E:=h.go p l n b H
   rw [z] at E
   exact abT.mp E.symm _ (aah a) rfl
 have q:p≠j:=λ z=>N ((h.rk p n H).mpr ⟨k,z ▸ e⟩)
 show (if n=1 then S.bN.set p (some (t+1)) else S.bN)[j]?=_
 split
 . exact cY.mpr (.inr ⟨q,e⟩)
 . exact e
def ic.sound {rows:List bU} {S:jI} (h:ic rows S cur):∀ (k p:Nat),S.bN[p]?=some (some k)->nG rows k p:=by
 intro k
 induction k using Nat.strongRecOn with
 | _ k I =>
   intro p e
   cases k with
   | zero=>exact (h.z p).mpr e
   | succ t =>
     have H:p<rows.length:=by rw [<- h.lk];exact (Br.mp e).1
     have W:p<S.bO.length:=by rw [h.ll];exact H
     have B:p<S.di.length:=by rw [h.lg];exact H
     have E:=RS W
     have b:=RS H
     have f:=RS B
     have G:=(h.rk p _ f).mpr ⟨_,e⟩
     have C:=(h.go p _ _ E f).symm.trans G
     refine ⟨_,b,λ c v d=>?_⟩
     have g:c<S.bO[p].length:=by rw [h.sh p _ _ E b];exact (Br.mp d).1
     have a:=RS g
     have n:=abT.mp C _ (aay g)
     cases q:S.bO[p][c] with
     | none=>rw [q] at n;exact absurd rfl n
     | some T =>
       rw [q] at a
       have L:=(h.top p t _ e E).1 c T a
       obtain ⟨r,K,w⟩:=h.ls p _ c T E a
       rw [b] at K
       cases K
       rcases w with ⟨w,Z⟩|⟨J,w,j,l,i⟩
       . rw [d] at w
         exact .inl (aaq w)
       . rw [d] at w
         exact .inr ⟨J,aaq w,j,l,(I T (by lia) j i).mono L⟩
theorem ic.whole {rows:List bU} {S:jI} (h:ic rows S cur) (N:fL rows S) (G:∀ j∈S.queue,xn rows S j):∀ (k p:Nat),nG rows k p->∃ K,S.bN[p]?=some (some K)/\K<=k
 | 0,p,e=>⟨0,(h.z p).mp e,aak _⟩
 | k+1,p,⟨r,g,x⟩=>by
   have u:p<rows.length:=(Br.mp g).1
   have W:p<S.bO.length:=by rw [h.ll];exact u
   have B:p<S.di.length:=by rw [h.lg];exact u
   have d:=RS W
   have o:=RS B
   have all:∀ c:Nat,c<S.bO[p].length->∃ t,S.bO[p][c]?=some (some t)/\t<=k:=by
     intro c H
     have M:c<r.length:=by rw [<- h.sh p _ _ d g];exact H
     have f:=RS M
     rcases x c _ f with q|⟨J,q,j,w,i⟩
     . rw [q] at f
       obtain ⟨l,a,E⟩:=N p r c g f
       rw [d] at a
       cases a
       exact ⟨0,E,aaZ _⟩
     .
      rw [q] at f
      obtain ⟨K,b,L⟩:=h.whole N G k j i
      obtain ⟨l,t,D,a,E,m,A⟩:=G j ((h.qu j).mpr ⟨K,b⟩) p r c J g f w
      rw [d] at a
      cases a
      rw [b] at m
      cases m
      exact ⟨t,E,by lia⟩
   have C:S.bO[p].countP Option.isNone=0:=abT.mpr λ v y z=>by
     obtain ⟨c,H,rfl⟩:=abi.mp y
     obtain ⟨t,s,Z⟩:=all c H
     rw [RS H] at s
     rw [aaq s] at z
     cases z
   obtain ⟨K,b⟩:=(h.rk p _ o).mp ((h.go p _ _ d o).trans C)
   refine ⟨K,b,?_⟩
   cases K with
   | zero=>exact aaZ _
   | succ t =>
     obtain ⟨c,n⟩:=(h.top p t _ b d).2
     obtain ⟨T,E,L⟩:=all c (Br.mp n).1
     rw [n] at E
     cases E
     lia
def ic.up {rows:List bU} {S:jI} {a b:Nat} (h:ic rows S a) (L:a<=b):ic rows S b :=
 ⟨h.ll,h.lg,h.lk,h.sh,h.go,h.rk,h.qu,h.nd,h.z,λ p l c t e f=>aaA (h.lo p l c t e f) L,h.ls,h.top,λ p k e=>aaA (h.le p k e) (acZ L),h.Vj⟩
def E9 (rows:List bU):jI:=⟨rows.map λ r=>r.map λ Z=>none,rows.map List.length,rows.map λ r=>if r.length=0 then some 0 else none,(List.range rows.length).filter λ p=>rows[p]? == some []⟩
def gz {rows:List bU} {p k:Nat}:(E9 rows).bN[p]?=some (some k)↔rows[p]?=some []/\k=0:=by
 show (rows.map _)[p]?=_↔_
 rw [Zj]
 cases e:rows[p]? with
 | none=>simp
 | some r =>
   simp only [ab3,Option.some.injEq]
   cases r with
   | nil=>simp [eq_comm]
   | cons a r=>simp
def u7 {rows:List bU} {p:Nat} {l:List (Option Nat)} (e:(E9 rows).bO[p]?=some l):∃ r,rows[p]?=some r/\l=r.map λ Z=>none:=by
 have e:(rows.map λ r=>r.map λ Z=>(none:Option Nat))[p]?=some l:=e
 rw [Zj] at e
 obtain ⟨r,E,rfl⟩:=abj.mp e
 exact ⟨r,E,rfl⟩
def AZ {rows:List bU} {p t:Nat} {l:List (Option Nat)} (e:(E9 rows).bO[p]?=some l):l[c]?≠some (some t):=by
 obtain ⟨r,Z,rfl⟩:=u7 e
 intro q
 rw [Zj] at q
 obtain ⟨Z,Z,z⟩:=abj.mp q
 cases z
def Mo (rows:List bU):ic rows (E9 rows) 0:=by
 have C:∀ r:bU,(r.map λ Z=>(none:Option Nat)).countP Option.isNone=r.length:=λ r=>by
   rw [List.countP_map]
   exact List.countP_eq_length.mpr λ a Z=>rfl
 refine ⟨No ..,No ..,No ..,λ p l r e b=>?_,λ p l n e E=>?_,λ p n E=>?_,λ p=>?_,List.nodup_range.filter _,λ p=>?_,λ p l c t e q=>absurd q (AZ e),λ p l c t e q=>absurd q (AZ e),λ p t l e Z=>?_,λ p k e=>?_,?_⟩
 .
  obtain ⟨g,d,rfl⟩:=u7 e
  rw [b] at d
  cases d
  exact No ..
 .
  obtain ⟨r,b,rfl⟩:=u7 e
  have E:(rows.map List.length)[p]?=some n:=E
  rw [Zj,b] at E
  rw [C]
  exact (aaq E).symm
 .
  have E:(rows.map List.length)[p]?=some n:=E
  rw [Zj] at E
  obtain ⟨r,b,rfl⟩:=abj.mp E
  refine ⟨λ z=>⟨0,gz.mpr ⟨by rw [b,abS.mp z],rfl⟩⟩,λ ⟨k,e⟩=>?_⟩
  have:=(gz.mp e).1
  rw [b] at this
  rw [aaq this];rfl
 .
  show p∈(List.range rows.length).filter _↔_
  rw [aa3,aaJ]
  refine ⟨λ ⟨_,e⟩=>⟨0,gz.mpr ⟨by simpa using e,rfl⟩⟩,λ ⟨k,e⟩=>?_⟩
  have:=(gz.mp e).1
  exact ⟨(Br.mp this).1,by rw [this];rfl⟩
 . exact ⟨λ e=>gz.mpr ⟨e,rfl⟩,λ e=>(gz.mp e).1⟩
 . have:=(gz.mp e).2
   lia
 . rw [(gz.mp e).2];exact aaZ _
 . refine adT (R:=λ Z Z=>True) (λ Z Z Z x y ex f=>?_) (List.pairwise_of_forall λ Z Z=>trivial)
   rw [(gz.mp ex).2];exact aaZ _
def sr (m:av):Nat->cD->Prop
 | 0,s=>s.orders m=[]
 | k+1,s=>∀ o∈s.orders m,jg m s o=none\/∃ l,jg m s o=some l/\∃ t∈l,sr m k t
theorem yz {c d:Type} {F:c->d->Prop}:∀ {l₁:List c} {l₂:List d},Paired F l₁ l₂->∀ a∈l₁,∃ b∈l₂,F a b
 | _,_,.nil,_,h=>absurd h aae
 | _,_,.cons f q,a,h=>by
   rcases aab.mp h with rfl|h
   . exact ⟨_,aar,f⟩
   . obtain ⟨b,H,e⟩:=yz q a h
     exact ⟨b,aaj _ H,e⟩
theorem wU {c d:Type} {F:c->d->Prop}:∀ {l₁:List c} {l₂:List d},Paired F l₁ l₂->∀ b∈l₂,∃ a∈l₁,F a b
 | _,_,.nil,_,h=>absurd h aae
 | _,_,.cons f q,a,h=>by
   rcases aab.mp h with rfl|h
   . exact ⟨_,aar,f⟩
   . obtain ⟨b,H,e⟩:=wU q a h
     exact ⟨b,aaj _ H,e⟩
theorem gy.ill {m:av} {g:qX} (h:gy m g) (F:g.rows.length=g.met.length):∀ (k p:Nat) (s:cD),g.met[p]?=some s->(nG g.rows k p↔sr m k s):=by
 have a:∀ {p s},g.met[p]?=some s->∃ r,g.rows[p]?=some r/\Paired (λ o b=>pQ g.met (jg m s o) b) (s.orders m) r:=λ {p s} e=>by
   have x:p<g.rows.length:=by rw [F];exact (Br.mp e).1
   exact ⟨_,RS x,h.rows p s _ e (RS x)⟩
 intro k
 induction k with
 | zero =>
   intro p s e
   obtain ⟨r,E,H⟩:=a e
   have L:=H.length
   show g.rows[p]?=some []↔s.orders m=[]
   rw [E]
   refine ⟨λ z=>?_,λ z=>?_⟩
   . rw [aaq z] at L
     exact abS.mp L
   . rw [z] at L
     rw [abS.mp L.symm]
 | succ k I =>
   intro p s e
   obtain ⟨r,E,H⟩:=a e
   refine ⟨λ ⟨K,w,q⟩ o n=>?_,λ q=>⟨r,E,λ c v B=>?_⟩⟩
   .
    rw [E] at w
    cases w
    obtain ⟨b,C,R⟩:=yz H o n
    obtain ⟨c,D,y⟩:=abi.mp C
    have:=q c b (by rw [RS D,y])
    cases A:jg m s o with
    | none=>exact .inl rfl
    | some l =>
      rw [A] at R
      cases b with
      | none=>exact R.elim
      | some J =>
        rcases this with z|⟨G,z,j,f,i⟩
        . cases z
        . cases z
          obtain ⟨t,u,d⟩:=yz (show Paired _ J l from R) j f
          exact .inr ⟨l,rfl,t,u,(I j t d).mp i⟩
   .
    obtain ⟨o,n,R⟩:=wU H v (aah B)
    cases v with
    | none=>exact .inl rfl
    | some J =>
      rcases q o n with z|⟨l,z,t,u,i⟩
      . rw [z] at R;exact R.elim
      . rw [z] at R
        obtain ⟨j,f,d⟩:=wU (show Paired _ J l from R) t u
        exact .inr ⟨J,rfl,j,f,(I j t d).mpr i⟩
def j7 (m:av) (s:cD):Option Nat->Prop
 | none=>∀ k,¬sr m k s
 | some k=>sr m k s/\∀ i,i<k->¬sr m i s
def ic.rank {m:av} {g:qX} {S:jI} (h:ic g.rows S cur) (n:fL g.rows S) (G:∀ j∈S.queue,xn g.rows S j) (ok:gy m g) (l:g.rows.length=g.met.length) {p:Nat} {s:cD} {v:Option Nat} (e:g.met[p]?=some s) (a:S.bN[p]?=some v):j7 m s v:=by
 cases v with
 | none =>
   intro k q
   obtain ⟨K,E,Z⟩:=h.whole n G k p ((ok.ill l k p s e).mpr q)
   rw [a] at E
   cases E
 | some k =>
   refine ⟨(ok.ill l k p s e).mp (h.sound k p a),λ i hi q=>?_⟩
   obtain ⟨K,E,L⟩:=h.whole n G i p ((ok.ill l i p s e).mpr q)
   rw [a] at E
   cases E
   lia
def j7.le {m m':av} {s s':cD} {a b:Option Nat} (h:j7 m s a) (h':j7 m' s' b) (S:∀ k,sr m' k s'->sr m k s):b=none\/∃ x y,a=some x/\b=some y/\x<=y:=by
 cases b with
 | none=>exact .inl rfl
 | some y =>
   have i:=S y h'.1
   cases a with
   | none=>exact absurd i (h y)
   | some x=>exact .inr ⟨x,y,rfl,rfl,Nat.le_of_not_lt λ z=>h.2 y z i⟩
section
variable {m:av} {a b c:Int}
def rV {s:cD} {h:Nat} (l:m.most<=a) (L:s.heap<=h) {o:Nat} (g:o∈s.orders m):o∈cD.orders { m with most:=a,d6:=b,load:=c } { s with heap:=h }:=by
 obtain ⟨f,d⟩:=aa3.mp g
 refine aa3.mpr ⟨f,?_⟩
 obtain ⟨d,H⟩:=abt.mp d
 refine abt.mpr ⟨d,?_⟩
 obtain ⟨H,e⟩:=abt.mp H
 have H:=abO H
 have e:m.mE o<=(s.heap:Int):=abO e
 refine abt.mpr ⟨aaG (acH H l),aaG ?_⟩
 show m.mE o<=(h:Int)
 lia
def GH {s:cD} {h:Nat} {o:Nat}:(jg m s o=none/\jg { m with most:=a,d6:=b,load:=c } { s with heap:=h } o=none)\/(jg m s o=some (qA m s o)/\jg { m with most:=a,d6:=b,load:=c } { s with heap:=h } o=some (qA { m with most:=a,d6:=b,load:=c } { s with heap:=h } o)):=by
 by_cases q:(dD m s o).all (λ O=>jq m s (Ord.off o O))=true
 . exact .inr ⟨aau q,aau (show (dD { m with most:=a,d6:=b,load:=c } { s with heap:=h } o).all (λ O=>jq { m with most:=a,d6:=b,load:=c } { s with heap:=h } (Ord.off o O))=true from q)⟩
 . exact .inl ⟨aax q,aax (show ¬(dD { m with most:=a,d6:=b,load:=c } { s with heap:=h } o).all (λ O=>jq { m with most:=a,d6:=b,load:=c } { s with heap:=h } (Ord.off o O))=true from q)⟩
theorem tL (L:m.most<=a) (n:m.d6<=b) (lc:m.load<=c):∀ (k:Nat) (s:cD) (h:Nat),s.heap<=h->sr { m with most:=a,d6:=b,load:=c } k { s with heap:=h }->sr m k s
 | 0,s,h,f,q=>List.eq_nil_iff_forall_not_mem.mpr λ o H=>by
   have:=rV (b:=b) (c:=c) L f H
   rw [show cD.orders { m with most:=a,d6:=b,load:=c } { s with heap:=h }=[] from q] at this
   exact absurd this aae
 | k+1,s,h,f,q=>λ o H=>by
   rcases GH (m:=m) (a:=a) (b:=b) (c:=c) (s:=s) (h:=h) (o:=o) with ⟨e,Z⟩|⟨e,E⟩
   . exact .inl e
   .
    rcases q o (rV L f H) with z|⟨l,z,t,d,i⟩
    . rw [E] at z;cases z
    .
     rw [E] at z
     cases z
     obtain ⟨O,j,d⟩:=abl.mp d
     obtain ⟨B,g,rfl⟩:=aaE.mp d
     refine .inr ⟨_,e,s.behind m B o O,abl.mpr ⟨O,j,aaE.mpr ⟨B,g,rfl⟩⟩,?_⟩
     refine tL L n lc k (s.behind m B o O) _ ?_ (show sr _ k { s.behind m B o O with heap:=(cD.kQ { m with most:=a,d6:=b,load:=c } { s with heap:=h } (Ord.off o O)).toNat } from i)
     show (s.kQ m (Ord.off o O)).toNat<=_
     refine Int.toNat_le_toNat ?_
     show min m.d6 ((s.heap:Int) - m.mE (Ord.off o O)+m.load)<=min b ((h:Int) - m.mE (Ord.off o O)+c)
     lia
end
section
variable {X:Cx}
inductive OT (K:aE) (x:V) (y:V) (H:Hp) (Q:VK):Prop|mk (p xs:_) (i:Nat) (v:_) (_:x = .ref p) (_:y=aq i) (_:aX K H p xs) (_:xs[i]?=some v) (_:Q v H)
def Hj:RB X (OT X.K):=by
 intro b s U H x y v u Q I R f h
 obtain ⟨p,l,i,z,rfl,rfl,c,a,q⟩:=h
 cases R
 obtain ⟨t,rfl⟩:=f
 obtain ⟨B,r,d,k⟩:=I.list c
 obtain ⟨w,e,J⟩:=r.get a
 have g:=r.length
 have j:=ui
 have hi:=(Br.mp a).1
 exact wpAny_getItem_list d.isList (aba i) (by lia) (by rw [aaV];simpa using e) ⟨z,H,I,J,q⟩
end
def jX:Option Nat->V
 | none => .cC
 | some n=>aq n
abbrev Rf (pl pg pk pq:am):List (Str×V):=[("lasts",.ref pl),("going",.ref pg),("ranks",.ref pk),("queue",.ref pq)]
structure ig (CR:am) (H:Hp) (x pl pg pk pq:am) (qs:bJ) (S:jI):Prop where
 ins:∃ dx,H x=some (.ins CR dx (Rf pl pg pk pq))
 XV:H pl=some (.lst (qs.map .ref))
 len:qs.length=S.bO.length
 CM:∀ (i:Nat) q l,qs[i]?=some q->S.bO[i]?=some l->H q=some (.lst (l.map jX))
 QS:H pg=some (.lst (S.di.map aq))
 Rh:H pk=some (.lst (S.bN.map jX))
 Sw:H pq=some (.lst (S.queue.map aq))
 nd:(pl::pg::pk::pq::qs).Nodup
def map_set {b c:Type} (f:b->c) (l:List b) (i:Nat) (a:b):(l.map f).set i (f a)=(l.set i a).map f:=List.map_set.symm
def ig.fin {CR:am} {x pl f s u q:am} {Q:bJ} {S:jI} {p t n:Nat} {l:List (Option Nat)} (h:ig CR H x pl f s u Q S) (d:Q[p]?=some q) (O:S.bO[p]?=some l) :
   ig CR (upd (upd H q (.lst ((l.map jX).set c (aq t)))) f (.lst ((S.di.map aq).set p (aq (n - 1))))) x pl f s u Q ⟨S.bO.set p (l.set c (some t)),S.di.set p (n - 1),S.bN,S.queue⟩:=by
 obtain ⟨⟨G,b⟩,I,J,m,K,L,M,o⟩:=h
 have Y:=aah d
 simp only [aaS,aab,abL] at o
 obtain ⟨⟨A,w,y,g⟩,⟨B,j,k⟩,⟨F,C⟩,D,r⟩:=o
 have N:∀ {a},a∉Q->a≠q:=λ n z=>n (z ▸ Y)
 have v:=m p q l d O
 refine ⟨⟨G,?_⟩,?_,?_,λ i V U e E=>?_,?_,?_,?_,?_⟩
 . rw [aw (λ z=>by rw [z,K] at b;cases b),aw (λ z=>by rw [z,v] at b;cases b)];exact b
 . rw [aw A,aw (N g)];exact I
 . rw [abp];exact J
 .
  rw [aw (λ z=>k (by rw [<- z];exact aah e))]
  by_cases hi:p=i
  .
   subst hi
   rw [d] at e
   cases e
   rw [ag]
   rcases cY.mp E with ⟨Z,Z,E⟩|⟨z,Z⟩
   . rw [E]
     exact abE some (abE HO.lst (map_set jX l c (some t)))
   . exact absurd rfl z
  .
   rcases cY.mp E with ⟨z,Z⟩|⟨Z,E⟩
   . exact absurd z hi
   rw [aw (λ z=>?_)]
   . exact m i V U e E
   . rw [z] at e
     obtain ⟨W,R⟩:=Br.mp d
     obtain ⟨X,T⟩:=Br.mp e
     exact hi ((adz r).mp (R.trans T.symm))
 . rw [ag,map_set]
 . rw [aw (λ z=>B z.symm),aw (N C)];exact L
 . rw [aw (λ z=>j z.symm),aw (N D)];exact M
 . simp only [aaS,aab,abL]
   exact ⟨⟨A,w,y,g⟩,⟨B,j,k⟩,⟨F,C⟩,D,r⟩
def ig.Xv {CR:am} {x pl f c d:am} {q:bJ} {S:jI} {p t:Nat} (h:ig CR H x pl f c d q S) :
   ig CR (upd (upd H c (.lst ((S.bN.map jX).set p (aq (t+1))))) d (.lst (S.queue.map aq++[aq p]))) x pl f c d q ⟨S.bO,S.di,S.bN.set p (some (t+1)),S.queue++[p]⟩:=by
 obtain ⟨⟨l,a⟩,m,n,o,r,s,u,b⟩:=h
 have N:=b
 simp only [aaS,aab,abL] at b
 obtain ⟨⟨v,A,g,w⟩,⟨B,j,y⟩,⟨C,k⟩,D,Z⟩:=b
 refine ⟨⟨l,?_⟩,?_,n,λ i Q L e E=>?_,?_,?_,?_,N⟩
 . rw [aw (λ z=>by rw [z,u] at a;cases a),aw (λ z=>by rw [z,s] at a;cases a)];exact a
 . rw [aw g,aw A];exact m
 . have:=aah e
   rw [aw (λ z=>D (by rw [<- z];exact this)),aw (λ z=>k (by rw [<- z];exact this))]
   exact o i Q L e E
 . rw [aw j,aw B];exact r
 . rw [aw C,ag]
   exact abE some (abE HO.lst (map_set jX S.bN p (some (t+1))))
 . rw [ag,aai];rfl
inductive Lq (CR:am) (vs:aB) (H:Hp) (Q:VK) (_E:XK):Prop|mk (x pl pg pk pq qs S:_) (p c t n:Nat) (l:_) (_:vs=[.ref x,aq p,aq c,aq t]) (_:ig CR H x pl pg pk pq qs S) (_:S.bO[p]?=some l) (_:c<l.length) (_:S.di[p]?=some n) (_:n≠0) (_:p<S.bN.length) (_:S.queue.length<=10000) (_:∀ H',gG (pl::pg::pk::pq::qs) H H'->ig CR H' x pl pg pk pq qs (S.fin p c t l n)->Q .cC H')
abbrev Fk (pl pg pk pq:am) (qs:bJ):bJ:=pl::pg::pk::pq::qs
structure AH (S S1:jI):Prop where
 qu:∃ more,S1.queue=S.queue++more
 rk:∀ (j k:Nat),S.bN[j]?=some (some k)->S1.bN[j]?=some (some k)
 la:∀ (p:Nat) l (c:Nat) t,S.bO[p]?=some l->l[c]?=some (some t)->∃ l',S1.bO[p]?=some l'/\l'[c]?=some (some t)
def AH.refl (S:jI):AH S S:=⟨⟨[],(abf _).symm⟩,λ Z Z h=>h,λ Z l Z Z h H=>⟨l,h,H⟩⟩
def AH.trans {S s S2:jI} (a:AH S s) (b:AH s S2):AH S S2:=by
 refine ⟨?_,λ j k h=>b.rk j k (a.rk j k h),λ p l c t h H=>?_⟩
 . obtain ⟨m,e⟩:=a.qu
   obtain ⟨M,E⟩:=b.qu
   exact ⟨m++M,by rw [E,e,ab9]⟩
 . obtain ⟨L,d,f⟩:=a.la p l c t h H
   exact b.la p L c t d f
def ic.P7 {rows:List bU} {S:jI} {p n t:Nat} {l:List (Option Nat)} (h:ic rows S cur) (b:S.bO[p]?=some l) (d:S.di[p]?=some n) (a:l[c]?=some none):AH S (S.fin p c t l n):=by
 refine ⟨?_,λ j k e=>h.EQ b d a e,λ f L c' T e E=>wD b a e E⟩
 by_cases H:n=1
 . exact ⟨[p],aau H⟩
 . exact ⟨[],(aax H).trans (abf _).symm⟩
def xn.more {rows:List bU} {S s:jI} {j:Nat} (g:xn rows S j) (x:AH S s):xn rows s j:=λ p r c J f d H=>by
 obtain ⟨l,t,k,e,E,a,b⟩:=g p r c J f d H
 obtain ⟨L,F,h⟩:=x.la p l c t e E
 exact ⟨L,t,k,F,h,x.rk j k a,b⟩
def fL.more {rows:List bU} {S S1:jI} (g:fL rows S) (x:AH S S1):fL rows S1:=λ p r c b a=>by
 obtain ⟨l,e,E⟩:=g p r c b a
 exact x.la p l c 0 e E
def AH.at {S s:jI} {i j:Nat} (x:AH S s) (e:S.queue[i]?=some j):s.queue[i]?=some j:=by
 obtain ⟨m,E⟩:=x.qu
 rw [E,aan (Br.mp e).1]
 exact e
def ic.ql {rows:List bU} {S:jI} (h:ic rows S cur):S.queue.length<=rows.length:=by
 have:=adv h.nd (l₂:=List.range rows.length) λ p H=>by
   obtain ⟨k,e⟩:=(h.qu p).mp H
   exact aaJ.mpr (by rw [<- h.lk];exact (Br.mp e).1)
 rw [aam] at this
 exact this
def Fw (K:aE) (H:Hp) (F:bJ) (p:am) (A:List (List (Nat×Nat))):Prop:=∃ v,H p=some (.lst v)/\p∉F/\Refs (λ q l=>q∉F/\∃ V,H q=some (.lst V)/\Refs (λ b (a:Nat×Nat)=>bY K H b [aq a.1,aq a.2]) V l) v A
def Fw.but {K:aE} {F:bJ} {c:am} {ah:List (List (Nat×Nat))} (h:Fw K H F c ah) (b:gG F H H') (t:aT K H H'):Fw K H' F c ah:=by
 obtain ⟨v,d,a,f⟩:=h
 exact ⟨v,b _ _ d a,a,f.imp λ q l ⟨n,V,e,r⟩=>⟨n,V,b _ _ e n,r.imp λ p g z=>t _ _ z⟩⟩
def MW (rows:List bU) (a:List (List (Nat×Nat))):Prop:=a.length=rows.length/\∀ (j:Nat) l p c,a[j]?=some l->((p,c)∈l↔∃ r:bU,∃ J,rows[p]?=some r/\r[c]?=some (some J)/\j∈J)
def ig.tJ {CR:am} {x pl p c d:am} {q:bJ} {S:jI} (h:ig CR H x pl p c d q S):Ca H (Fk pl p c d q):=λ b a=>by
 simp only [aab] at a
 rcases a with rfl|rfl|rfl|rfl|a
 . exact ⟨_,h.XV,rfl⟩
 . exact ⟨_,h.QS,rfl⟩
 . exact ⟨_,h.Rh,rfl⟩
 . exact ⟨_,h.Sw,rfl⟩
 . obtain ⟨i,hi,rfl⟩:=abi.mp a
   have C:i<S.bO.length:=by rw [<- h.len];exact hi
   exact ⟨_,h.CM i _ _ (RS hi) (RS C),rfl⟩
def Dq {K:aE} {L:bJ} (h:Ca H L) (b:gG L H H'):aT K H H':=λ c x q=>by
 have n:∀ u,H c=some u->Ai u=false->c∉L:=λ u e z y=>by
   obtain ⟨o,E,n⟩:=h c y
   rw [e] at E
   cases E
   rw [n] at z
   cases z
 rcases q with (q|⟨O,q⟩)|q
 . exact .inl (.inl (b _ _ q (n _ q rfl)))
 . exact .inl (.inr ⟨O,b _ _ q (n _ q rfl)⟩)
 . exact .inr q
def AF {L:bJ} {H1 H2:Hp} (a:gG L H H1) (b:gG L H1 H2):gG L H H2:=λ c o h n=>b c o (a c o h n) n
inductive Ew (K:aE) (CR:am) (vs:aB) (H:Hp) (Q:VK) (_E:XK):Prop|mk (x pl pg pk pq qs S pa ah rows:_) (_:vs=[.ref x,.ref pa]) (_:ig CR H x pl pg pk pq qs S) (_:ic rows S 0) (_:fL rows S) (_:Fw K H (Fk pl pg pk pq qs) pa ah) (_:MW rows ah) (_:rows.length<=2000) (_:∀ H' S' cur,gG (Fk pl pg pk pq qs) H H'->ig CR H' x pl pg pk pq qs S'->ic rows S' cur->fL rows S'->(∀ j∈S'.queue,xn rows S' j)->Q .cC H')
def InH (m:av) (i:Int):Prop:=0<=i/\i<(m.rows.length:Int)
instance (m:av) (i:Int):Decidable (InH m i):=inferInstanceAs (Decidable (_/\_))
end L2
namespace PySem
open Sem (wp)
end PySem
namespace L2
open PySem PySem.Spec PyProof.Rows Mth
def xB {sq:Hp->am->aB->Prop} {a:am} {xs:aB} {g:TG} {tb:TS} {D:Ends} {U:St} {H:Hp} (b:Nat->St->Hp->Prop) (h0:b 0 U H) (k:∀ i U H,i<=xs.length->b i U H->sq H a xs)
   (o:∀ i x p U H,xs[i]?=some x->H p=none->b i U H->g (.ref p) U (upd H p (.tup [aq i,x])) λ d f=>tb ⟨b (i+1),D.rt,D.nx,b (i+1)⟩ d f) (j:∀ U H,b xs.length U H->D.nx U H) :
   ∃ W:Nat->Nat->St->Hp->Prop,(∃ m,W 0 m U H)/\∀ i m U H,W i m U H ->
     ((EY sq a).stop i H/\D.nx U H)\/((EY sq a).go i H/\∃ N:St->Hp->Prop,(∀ c h,N c h->∃ m',m'<m/\W (i+1) m' c h)/\∀ x h,(EY sq a).HC i H x h->g x U h λ d f=>tb { D with nx:=N,ct:=N,bk:=D.nx } d f):=by
 refine ⟨λ i m U H=>m=xs.length - i/\i<=xs.length/\b i U H,⟨_,rfl,aaZ _,h0⟩,?_⟩
 rintro i m U H ⟨rfl,hi,p⟩
 have q:=k i U H hi p
 by_cases n:i<xs.length
 . refine .inr ⟨⟨xs,xs[i],q,by simp [n]⟩,b (i+1),λ c h r=>⟨xs.length - (i+1),by lia,rfl,n,r⟩,λ v h y=>?_⟩
   obtain ⟨s,x,l,rfl,rfl,E⟩:=y
   exact o i x s U H (E xs q) l p
 . have e:i=xs.length:=by lia
   subst e
   exact .inl ⟨⟨xs,q,rfl⟩,j U H p⟩
end L2
namespace Mth
end Mth
namespace L2
open PySem PySem.Spec PyProof.Rows Mth
variable {H H0:Hp}
def Lv {rs:List (List cq)} (h:∀ r∈rs,2<=r.length/\r.length<=5):0<=i9 rs/\i9 rs<=4 ^ rs.length:=by
 have k:∀ (rs:List (List cq)) (a:Int),0<=a->(∀ r∈rs,2<=r.length/\r.length<=5)->0<=rs.foldl (λ p r=>p * ((r.length:Int) - 1)) a/\rs.foldl (λ p r=>p * ((r.length:Int) - 1)) a<=a * 4 ^ rs.length:=by
   intro rs
   induction rs with
   | nil=>intro a H Z;exact ⟨H,by show a<=a * 1;lia⟩
   | cons r rs i =>
     intro a H b
     have f:=b r (by simp)
     rw [adF]
     have B:0<=a * ((r.length:Int) - 1):=abY H (by lia)
     obtain ⟨x,y⟩:=i (a * ((r.length:Int) - 1)) B λ q c=>b q (by simp [c])
     refine ⟨x,acH y ?_⟩
     have l:a * ((r.length:Int) - 1)<=a * 4:=acy (by lia) H
     have d:(0:Int)<=4 ^ rs.length:=Int.pow_nonneg (by decide)
     have:=acv l d
     rw [aaW,Int.pow_succ]
     have e:a * (4 ^ rs.length * 4)=a * 4 * 4 ^ rs.length:=by grind
     rw [e]
     exact this
 have:=k rs 1 (by decide) h
 rw [acW] at this
 exact this
def GO {rs:List (List cq)} (h:∀ r∈rs,2<=r.length/\r.length<=5) (H:rs.length<=4):i9 rs<=400:=by
 have a:=(Lv h).2
 have:(4:Int) ^ rs.length<=256:=by
   have:rs.length=0\/rs.length=1\/rs.length=2\/rs.length=3\/rs.length=4:=by lia
   rcases this with e|e|e|e|e<;>rw [e]<;>decide
 lia
def Gd {X:Cx} {T l:Expr} {t:TE} {K:aE} (h:X.K=K) (H:PE X l t):PI X T l (Ki K t):=by subst h;exact cf H
def Ks (m:av) (r:Nat):cq×cq×cq:=(m.aN[r]?).getD ((0,1),(0,1),(0,1))
def CI (m:av) (r:Nat):Option (cq×Int×Int×Int):=(m.bv[r]?).getD none
structure Sb where
 a:Int
 b:Int
 t:Int
 d:Int
abbrev Sb.vs (s:Sb):aB:=[.int s.a,.int s.b,.int s.t,.int s.d]
structure Sb.Ok (s:Sb):Prop where
 a:1<=s.a/\s.a<=10 ^ 9
 b:1<=s.b/\s.b<=10 ^ 9
 t:s.t.natAbs<=10 ^ 9
 d:1<=s.d/\s.d<=10 ^ 9
def PR {a b:Int} {x y:Nat} (h:a.natAbs<=x) (H:b.natAbs<=y):(a * b).natAbs<=x * y:=by
 rw [acL]
 exact Nat.mul_le_mul h H
structure R7 where
 marks:List Int
 share:Int
 low:Int
 high:Int
 bX:Option (Int×Int×Int×Int)
structure R7.Ok (r:R7):Prop where
 len:2<=r.marks.length/\r.marks.length<=5
 rise:∀ (i:Nat) (x y:Int),r.marks[i]?=some x->r.marks[i+1]?=some y->x<y
 bd:∀ x∈r.marks,x.natAbs<=200
 sh:1<=r.share/\r.share<=3
 lo:r.low<=r.high
 lb:r.low.natAbs<=300
 hb:r.high.natAbs<=300
 st:∀ z,r.bX=some z->(0<=z.1/\z.1<=100)/\(0<=z.2.1/\z.2.1<=9)/\(0<=z.2.2.1/\z.2.2.1<=3)/\(0<=z.2.2.2/\z.2.2.2<=3)
structure zl (K:aE) (H0 H:Hp) (pa:am) (as:bJ) (ah:List (List (Nat×Nat))):Prop where
 sm:aG H0 H
 fr:∀ b∈pa::as,H0 b=none
 nd:(pa::as).Nodup
 le:as.length=ah.length
 hp:H pa=some (.lst (as.map .ref))
 CM:∀ (j:Nat) b l,as[j]?=some b->ah[j]?=some l->∃ vs,H b=some (.lst vs)/\Refs (λ b (pc:Nat×Nat)=>bY K H b [aq pc.1,aq pc.2]) vs l
def zl.same {K:aE} {a:Hp} {c:am} {as:bJ} {ah:List (List (Nat×Nat))} (h:zl K H0 H c as ah) (s:aG H a):zl K H0 a c as ah :=
 ⟨h.sm.trans s,h.fr,h.nd,h.le,s _ _ h.hp,λ j b l e E=>by
   obtain ⟨v,d,f⟩:=h.CM j b l e E
   exact ⟨v,s _ _ d,f.imp λ p g z=>s.ts _ _ z⟩⟩
def zl.put {K:aE} {g b t:am} {as:bJ} {A:List (List (Nat×Nat))} {j p c:Nat} {l:List (Nat×Nat)} {vs:aB} (h:zl K H0 H g as A) (d:as[j]?=some b) (w:A[j]?=some l) (o:H b=some (.lst vs)) (r:Refs (λ b (a:Nat×Nat)=>bY K H b [aq a.1,aq a.2]) vs l) (q:bY K H t [aq p,aq c]):zl K H0 (upd H b (.lst (vs++[.ref t]))) g as (A.set j (l++[(p,c)])):=by
 have T:aT K H (upd H b (.lst (vs++[.ref t]))):=bV o rfl
 have f:=aah d
 have n:=aaS.mp h.nd
 refine ⟨λ x u e=>?_,h.fr,h.nd,?_,?_,λ i B L e E=>?_⟩
 .
  rw [aw (λ z=>?_)]
  . exact h.sm x u e
  . rw [z,h.fr b (aaj _ f)] at e
    cases e
 . rw [abp];exact h.le
 . rw [aw (λ z=>n.1 (by rw [z];exact f))];exact h.hp
 .
  by_cases hi:j=i
  .
   subst hi
   rw [d] at e
   cases e
   rcases cY.mp E with ⟨Z,Z,E⟩|⟨z,Z⟩
   . rw [E]
     exact ⟨_,ag,Refs.snoc (r.imp λ p a z=>T _ _ z) (T _ _ q)⟩
   . exact absurd rfl z
  .
   rcases cY.mp E with ⟨z,Z⟩|⟨Z,E⟩
   . exact absurd z hi
   obtain ⟨v,k,m⟩:=h.CM i B L e E
   refine ⟨v,?_,m.imp λ p a z=>T _ _ z⟩
   rw [aw (λ z=>?_)]
   . exact k
   . rw [z] at e
     obtain ⟨I,J⟩:=Br.mp d
     obtain ⟨y,s⟩:=Br.mp e
     exact hi ((adz n.2).mp (J.trans s.symm))
def mC (rows:List bU) (i n k:Nat) (a:List (List (Nat×Nat))):Prop:=a.length=rows.length/\(∀ (j:Nat) l,a[j]?=some l->∀ p c,((p,c)∈l↔∃ r:bU,∃ J,rows[p]?=some r/\r[c]?=some (some J)/\((p<i/\j∈J)\/(p=i/\c<n/\j∈J)\/(p=i/\c=n/\j∈J.take k))))
def mC.zero (rows:List bU):mC rows 0 0 0 (rows.map λ Z=>[]):=by
 refine ⟨No ..,λ j l e p c=>?_⟩
 rw [Zj] at e
 obtain ⟨r,Z,rfl⟩:=abj.mp e
 refine ⟨λ h=>absurd h aae,λ ⟨r,J,_,_,h⟩=>?_⟩
 rcases h with ⟨h,Z⟩|⟨Z,h,Z⟩|⟨Z,Z,h⟩
 . exact absurd h (abk _)
 . exact absurd h (abk _)
 . simp at h
def mC.done {rows:List bU} {ah:List (List (Nat×Nat))} (h:mC rows rows.length 0 0 ah):MW rows ah:=by
 refine ⟨h.1,λ j l p c e=>(h.2 j l e p c).trans ⟨λ ⟨r,J,E,a,q⟩=>⟨r,J,E,a,?_⟩,λ ⟨r,J,E,a,q⟩=>⟨r,J,E,a,.inl ⟨(Br.mp E).1,q⟩⟩⟩⟩
 rcases q with ⟨Z,q⟩|⟨Z,q,Z⟩|⟨Z,Z,q⟩
 . exact q
 . exact absurd q (abk _)
 . simp at q
def mC.OU {rows:List bU} {i:Nat} {r:bU} {ah:List (List (Nat×Nat))} (b:rows[i]?=some r) (h:mC rows i r.length 0 ah):mC rows (i+1) 0 0 ah:=by
 refine ⟨h.1,λ j l e p c=>(h.2 j l e p c).trans ⟨λ ⟨R,J,E,a,q⟩=>⟨R,J,E,a,?_⟩,λ ⟨R,J,E,a,q⟩=>⟨R,J,E,a,?_⟩⟩⟩
 .
  rcases q with ⟨q,w⟩|⟨q,Z,w⟩|⟨Z,Z,q⟩
  . exact .inl ⟨by lia,w⟩
  . exact .inl ⟨by lia,w⟩
  . simp at q
 .
  rcases q with ⟨q,w⟩|⟨Z,q,Z⟩|⟨Z,Z,q⟩
  .
   by_cases H:p=i
   . subst H
     rw [b] at E
     cases E
     exact .inr (.inl ⟨rfl,(Br.mp a).1,w⟩)
   . exact .inl ⟨by lia,w⟩
  . exact absurd q (abk _)
  . simp at q
def mC.Kh {rows:List bU} {i n k:Nat} {r:bU} {v:Option (aS)} {ah:List (List (Nat×Nat))} (b:rows[i]?=some r) (d:r[n]?=some v) (f:∀ J,v=some J->k=J.length) (h:mC rows i n k ah):mC rows i (n+1) 0 ah:=by
 refine ⟨h.1,λ j l e p c=>(h.2 j l e p c).trans ⟨λ ⟨R,J,E,a,q⟩=>⟨R,J,E,a,?_⟩,λ ⟨R,J,E,a,q⟩=>⟨R,J,E,a,?_⟩⟩⟩
 .
  rcases q with q|⟨q,Q,w⟩|⟨q,Q,w⟩
  . exact .inl q
  . exact .inr (.inl ⟨q,by lia,w⟩)
  . exact .inr (.inl ⟨q,by lia,aeg w⟩)
 .
  rcases q with q|⟨q,Q,w⟩|⟨Z,Z,q⟩
  . exact .inl q
  .
   by_cases H:c=n
   .
    subst q
    subst H
    rw [b] at E
    cases E
    rw [d] at a
    cases a
    rw [f J rfl,aaB]
    exact .inr (.inr ⟨rfl,rfl,w⟩)
   . exact .inr (.inl ⟨q,by lia,w⟩)
  . simp at q
def mC.put {rows:List bU} {i n k j:Nat} {r:bU} {f:aS} {l:List (Nat×Nat)} {A:List (List (Nat×Nat))} (g:rows[i]?=some r) (m:r[n]?=some (some f)) (o:f[k]?=some j) (s:A[j]?=some l) (h:mC rows i n k A):mC rows i n (k+1) (A.set j (l++[(i,n)])):=by
 refine ⟨by rw [abp];exact h.1,λ u L e p c=>?_⟩
 have t:f.take (k+1)=f.take k++[j]:=by
   rw [abH,o];rfl
 rcases cY.mp e with ⟨rfl,Z,rfl⟩|⟨N,e⟩
 .
  rw [aaz,aac,h.2 j l s p c]
  constructor
  .
   rintro (⟨R,J,E,a,q⟩|q)
   .
    refine ⟨R,J,E,a,?_⟩
    rcases q with q|q|⟨Q,b,d⟩
    . exact .inl q
    . exact .inr (.inl q)
    . refine .inr (.inr ⟨Q,b,?_⟩)
      rw [abH]
      exact aa4 _ d
   . cases q
     exact ⟨r,f,g,m,.inr (.inr ⟨rfl,rfl,by rw [t];exact aaP _ (aac.mpr rfl)⟩)⟩
  .
   rintro ⟨R,J,E,a,q⟩
   rcases q with q|q|⟨Q,b,d⟩
   . exact .inl ⟨R,J,E,a,.inl q⟩
   . exact .inl ⟨R,J,E,a,.inr (.inl q)⟩
   . exact .inr (by rw [Q,b])
 .
  rw [h.2 u L e p c]
  constructor
  .
   rintro ⟨R,J,E,a,q⟩
   refine ⟨R,J,E,a,?_⟩
   rcases q with q|q|⟨Q,b,d⟩
   . exact .inl q
   . exact .inr (.inl q)
   . refine .inr (.inr ⟨Q,b,?_⟩)
     rw [abH]
     exact aa4 _ d
  .
   rintro ⟨R,J,E,a,q⟩
   refine ⟨R,J,E,a,?_⟩
   rcases q with q|q|⟨Q,b,d⟩
   . exact .inl q
   . exact .inr (.inl q)
   .
    refine .inr (.inr ⟨Q,b,?_⟩)
    subst Q
    subst b
    rw [g] at E
    cases E
    rw [m] at a
    cases a
    rw [t] at d
    rcases aaz.mp d with z|z
    . exact z
    . exact absurd (aac.mp z).symm N
def zl.row {K:aE} {c q:am} {as:bJ} {A:List (List (Nat×Nat))} (h:zl K H0 H c as A) (f:H q=none):zl K H0 (upd (upd H q (.lst [])) c (.lst (as.map .ref++[.ref q]))) c (as++[q]) (A++[[]]):=by
 have n:=aaS.mp h.nd
 have Q:q≠c:=(az h.hp f).symm
 have s:=ak (o:=.lst []) f
 have N:q∉as:=λ z=>by
   obtain ⟨i,hi,e⟩:=abi.mp z
   have C:i<A.length:=by rw [<- h.le];exact hi
   obtain ⟨v,g,Z⟩:=h.CM i q _ (by rw [RS hi,e]) (RS C)
   rw [f] at g
   cases g
 have B:(upd H q (.lst [])) c=some (.lst (as.map .ref)):=s _ _ h.hp
 have t:aT K H (upd (upd H q (.lst [])) c (.lst (as.map .ref++[.ref q]))):=s.ts.trans (bV B rfl)
 refine ⟨λ x u e=>?_,λ b d=>?_,?_,?_,?_,λ i b l e E=>?_⟩
 .
  rw [aw (λ z=>?_)]
  . exact s _ _ (h.sm x u e)
  . rw [z,h.fr c aar] at e
    cases e
 .
  rcases aab.mp d with rfl|d
  . exact h.fr _ aar
  . rcases aaz.mp d with z|z
    . exact h.fr _ (aaj _ z)
    . rw [aac.mp z];exact h.sm.free f
 .
  refine aaS.mpr ⟨λ z=>?_,acP.mpr ⟨n.2,abQ _ _,λ a m b d e=>N (by rw [<- aac.mp d,<- e];exact m)⟩⟩
  rcases aaz.mp z with z|z
  . exact n.1 z
  . exact Q (aac.mp z).symm
 . rw [aaf,aaf,h.le];rfl
 . rw [ag,aai];rfl
 .
  by_cases hi:i<as.length
  .
   rw [aan hi] at e
   rw [aan (by rw [<- h.le];exact hi)] at E
   obtain ⟨v,j,k⟩:=h.CM i b l e E
   refine ⟨v,?_,k.imp λ p r z=>t _ _ z⟩
   rw [aw (λ z=>n.1 (by rw [<- z];exact aah e))]
   exact s _ _ j
  .
   have L:=(Br.mp e).1
   rw [aaf,aaD] at L
   obtain rfl:i=as.length:=by lia
   rw [aa1] at e
   rw [h.le,aa1] at E
   cases e
   cases E
   exact ⟨[],by rw [aw Q,ag],Refs.nil⟩
def yd (b:Nat) (a:List (List (Nat×Nat))):Prop:=∀ (j:Nat) l,a[j]?=some l->l.length<=b
def yd.mono {a b:Nat} {ah:List (List (Nat×Nat))} (h:yd a ah) (L:a<=b):yd b ah:=λ j l e=>aaA (h j l e) L
def yd.put {b j:Nat} {l:List (Nat×Nat)} {x:Nat×Nat} {a:List (List (Nat×Nat))} (h:yd b a) (e:a[j]?=some l):yd (b+1) (a.set j (l++[x])):=λ i L E=>by
 rcases cY.mp E with ⟨Z,Z,rfl⟩|⟨Z,E⟩
 . rw [aaf]
   exact acZ (h j l e)
 . exact Nat.le_succ_of_le (h i L E)
inductive Hc (K:aE) (vs:aB) (H:Hp) (Q:VK) (_E:XK):Prop|mk (pr vr:_) (rows:List bU) (_:vs=[.ref pr]) (_:H pr=some (.lst vr)) (_:bL K H (rows.map rZ) vr) (_:rows.length<=2000) (_:(∀ r∈rows,r.length<=16/\∀ js,some js∈r->js.length<=400/\∀ j∈js,j<rows.length)) (_:∀ pa as ah H',zl K H H' pa as ah->MW rows ah->Q (.ref pa) H')
theorem wj {K:aE}:∀ {l:aS} {w:aB},bL K H (l.map jy) w->w=l.map aq
 | [],_,h=>h
 | _::_,_,⟨_,_,e,d,r⟩=>by
   rw [e,wj r,show _=_ from d];rfl
end L2
namespace PySem
open PySem.Spec PyProof.Rows
def sB:typeLookup (.type "zip") "__getattr__" = pure none:=by rw [typeLookup_type,builtinLookup_eq_fast];kernel_rfl
def yC:typeLookup (.type "zip") "keys" = pure none:=by rw [typeLookup_type,builtinLookup_eq_fast];kernel_rfl
def Ay:entryFor table "zip.__getattribute__" = some Builtin.«object.__getattribute__» :=
 entryFor_alias (id':="object.__getattribute__") (by kernel_rfl) (by decide +kernel) (by decide +kernel) (by kernel_rfl)
def nA:entryFor table "dict.update.loop" = some Builtin.«dict.update.loop»:=entryFor_of_tree (by kernel_rfl)
def hX:plainId "dict.update.loop" = true:=by decide +kernel
def vI (a:am) (xs:Array aA) (sl:Array (jC)) (name:Str) (u:Tok) (z:typeLookup (.type "zip") name=pure none) (H:(["__module__","__name__","__qualname__","__doc__","__annotations__"]:de).contains name=false) (hsz:name.length+100<=sizeLine:=by size_fits) :
   Meets (Builtin.«object.__getattribute__» ⟨[.ref a,.str name u],[]⟩) (λ A R s=>s.heap.get? a=some { cls:=.type "zip",dict:=none,data:=.fields xs,slots:=sl }/\raisesAttr (.ref a) name A R s) :=
 Meets.of_wp λ p w A R s h=>by
   obtain ⟨b,g,d,t,o⟩:=s
   obtain ⟨c,h⟩:=h
   have e:(⟨b,g,d,t,o⟩:Shared).TypeIs (.ref a) "zip":=⟨_,c,rfl⟩
   unfold Builtin.«object.__getattribute__»
   repeat (any_goals (first|assumption|wp_step))
   simp only [H,abC,acq]
   repeat (any_goals (first|assumption|wp_step))
   exact wpAny_raiseAttrError h.1 h.2 (attrMsg_fits (by decide +kernel) hsz)
def Jh {prog:bD} {w:bz} {A:Around} {E:aA->Shared->Prop} {s:Shared} {a:am} {xs:Array aA} {Q:jC->Shared->Prop}
   (c:s.heap.get? a=some { cls:=.type "zip",dict:=none,data:=.fields xs,slots:=#[]}) (f:A.handled=none)
   (h:∀ h' t,(∀ b o,s.heap.get? b=some o->h'.get? b=some o)->Q none { s with heap:=h',toks:=t }) :
   wpAny (model prog w) A (getAttr? (.ref a) "keys") Q E s:=by
 obtain ⟨i,g,d,t,O⟩:=s
 have H:∀ z,(⟨i,g,d,z,O⟩:Shared).TypeIs (.ref a) "zip":=λ Z=>⟨_,c,rfl⟩
 have j:=sub_AttributeError
 have k:=F.slot_zip_getattribute.lookup
 have l:=F.slot_zip_getattribute.bind (.ref a)
 have m:=sB
 unfold getAttr? getAttrBy? getAttrBy
 repeat (any_goals (first|assumption|exact H _|((with_reducible show wpAny _ _ (call (Value.builtin "zip.__getattribute__") _ _) _ _ _);refine call_meets F.slot_zip_getattribute (H _) Ay (F.args_zip_getattribute_2 _ _) (vI a xs #[] "keys" _ yC (by decide +kernel)) ⟨c,f,λ h' z e K=>?_⟩)|wp_step))
 obtain ⟨T,u,n⟩:=K.there
 show wpAny _ _ (getattributeRaised _ _ _ _ _ _ _) _ _ _
 unfold getattributeRaised
 repeat (any_goals (first|assumption|wp_step))
 exact h _ _ K.keeps
end PySem
namespace PySem
open PySem.Spec PyProof.Rows
abbrev nN (h:bE) (z TI TO T:am) (b:Bool):Prop :=
 h.get? z=some { cls:=.type "zip",dict:=none,data:=.fields #[rawInt T,.bool b,.bool false,.ref TI,.ref TO],slots:=#[]}
section
variable {prog:bD} {w:bz} {A:Around} {E:aA->Shared->Prop} {s:Shared}
def pG {M:Model} {a:am} {Q:Option Obj->Shared->Prop} (h:Q (s.heap.get? a) s):wpAny M A (loadIfAlive a) Q E s:=λ b p H=>by
 unfold loadIfAlive
 rw [Sem.wp_loadIfAlive]
 exact h
def Dd {z TI TO T:am} {b:Bool} {o:Obj} {Q:Bool->Shared->Prop} (a:nN s.heap z TI TO T b) (c:s.heap.get? T=some o) (n:T≠z)
   (h:∀ h',nN h' z TI TO T true->Heap.SameBut z s.heap h'->Q false { s with heap:=h' }) :
   wpAny (model prog w) A (Builtin.SmallTypes.ownedTupleIsFree (.ref z)) Q E s:=by
 unfold Builtin.SmallTypes.ownedTupleIsFree
 refine aaa (abK a rfl (x:=rawInt T) rfl ?_)
 show wpAny _ _ (loadIfAlive _ >>= _) _ _ _
 refine aaa (pG ?_)
 rw [show ((T:Int)).toNat=T from aaV T,c]
 simp only [Option.isNone_some,abC,acq]
 refine aaa (abK a rfl (x:=.bool b) rfl ?_)
 cases b with
 | false =>
   rw [aau (by decide)]
   refine aaa (wpAny_setField_rec a (by simp) λ H S e=>?_)
   exact aao (h H S e)
 | true =>
   rw [aax (by decide)]
   exact aaa (aao (aao (h _ a (Heap.SameBut.refl ..))))
def xQ {z TI TO T i I l j:am} {b:Bool} {U:Obj} {K m:Nat} {xs ys:Array aA} {x y:aA} {Q:aA->Shared->Prop} (D:ZipApart z TI TO i I l j)
   (k:nN s.heap z TI TO T b) (M:s.heap.get? T=some U) (R:T≠z/\T≠i/\T≠I) (V:IsPair s.heap TI (.ref i) (.ref I))
   (u:s.heap.IsListIter i l K) (G:s.heap.IsListIter I j m) (B:s.heap.IsList l xs) (Y:s.heap.IsList j ys) (N:xs[K]?=some x) (O:ys[m]?=some y)
   (J:∀ h',nN h' z TI TO T true->h'.IsListIter i l (K+1)->h'.IsListIter I j (m+1)->IsPair h' s.heap.objs.size x y->h'.objs.size=s.heap.objs.size+1 ->
     (∀ c o,c≠z->c≠i->c≠I->s.heap.get? c=some o->h'.get? c=some o)->Q (.ref s.heap.objs.size) { s with heap:=h' }) :
   wpAny (model prog w) A (Builtin.«zip.__next__» ⟨[.ref z],[]⟩) (λ F s'=>∃ v,F = .done (.ret v)/\Q v s') E s:=by
 show wpAny _ _ (field (.ref z) 2 >>= _) _ _ _
 refine aaa (abK k rfl (x:=.bool false) rfl ?_)
 show wpAny _ _ (field (.ref z) 3 >>= _) _ _ _
 refine aaa (abK k rfl (x:=.ref TI) rfl ?_)
 refine aaa (acB V rfl ?_)
 show wpAny _ _ (Builtin.SmallTypes.ownedTupleIsFree (.ref z) >>= _) _ _ _
 refine aaa (Dd k M R.1 λ n q g=>?_)
 simp only [abC,acq]
 refine aaa ?_
 rw [<- acI]
 simp only [adc,List.forIn_nil]
 refine aaa (aaa (abN ?_))
 show wpAny _ _ (Builtin.SmallTypes.nextOf (.ref i) >>= _) _ _ _
 refine aaa (wpAny_nextOf_list_item (u.extBut g.extBut D.i1z) (B.extBut g.extBut D.l1z) N λ p a L=>aao ?_)
 refine aao ?_
 refine aaa (aaa (abN ?_))
 show wpAny _ _ (Builtin.SmallTypes.nextOf (.ref I) >>= _) _ _ _
 refine aaa (wpAny_nextOf_list_item ((G.extBut g.extBut D.i2z).extBut L.extBut D.i12.symm)
   ((Y.extBut g.extBut D.l2z).extBut L.extBut D.l2i1) O λ h d S=>aao ?_)
 refine aao (aao ?_)
 refine aaa (wpAny_newTuple (hsz:=(show 2<=sizeLine by decide)) ?_)
 have H:h.objs.size=s.heap.objs.size:=by rw [S.1,L.1,g.1]
 have f:nN h z TI TO T true:=S.extBut _ _ D.i2z.symm (L.extBut _ _ D.i1z.symm q)
 refine aao ⟨_,rfl,?_⟩
 show Q (.ref h.objs.size) _
 rw [H]
 refine J _ (aal _ f) ((a.extBut S.extBut D.i12).at λ o e=>aal _ e) (d.at λ o e=>aal _ e) (by rw [<- H];exact aaR _ rfl) (by rw [ac5,H]) λ c o C r t e=>aal _ (S.extBut _ _ t (L.extBut _ _ r (g.extBut _ _ C e)))
def zB {z TI TO T i I l t:am} {b:Bool} {O:Obj} {k:Nat} {xs:Array aA} {Q:Fin->Shared->Prop} (p:A.handled=none) (D:ZipApart z TI TO i I l t)
   (H:nN s.heap z TI TO T b) (m:s.heap.get? T=some O) (N:T≠z/\T≠i/\T≠I) (u:IsPair s.heap TI (.ref i) (.ref I))
   (g:s.heap.IsListIter i l k) (B:s.heap.IsList l xs) (r:xs[k]?=none)
   (j:∀ h' e,(∀ c o,c≠z->c≠i->s.heap.get? c=some o->h'.get? c=some o)->(∃ o,h'.get? e=some o/\o.cls = .type "StopIteration")->E (.ref e) { s with heap:=h' }) :
   wpAny (model prog w) A (Builtin.«zip.__next__» ⟨[.ref z],[]⟩) Q E s:=by
 show wpAny _ _ (field (.ref z) 2 >>= _) _ _ _
 refine aaa (abK H rfl (x:=.bool false) rfl ?_)
 show wpAny _ _ (field (.ref z) 3 >>= _) _ _ _
 refine aaa (abK H rfl (x:=.ref TI) rfl ?_)
 refine aaa (acB u rfl ?_)
 show wpAny _ _ (Builtin.SmallTypes.ownedTupleIsFree (.ref z) >>= _) _ _ _
 refine aaa (Dd H m N.1 λ d S a=>?_)
 simp only [abC,acq]
 refine aaa ?_
 rw [<- acI]
 simp only [adc,List.forIn_nil]
 refine aaa (aaa (abN ?_))
 show wpAny _ _ (Builtin.SmallTypes.nextOf (.ref i) >>= _) _ _ _
 refine aaa (wpAny_nextOf_list_end p (g.extBut a.extBut D.i1z) (B.extBut a.extBut D.l1z) r λ h e L n=>?_)
 exact j h e (λ c o C f q=>L _ _ f (a.extBut _ _ C q)) n
end
end PySem
namespace PySem
open PySem.Spec PyProof.Rows
noncomputable def vA (l:List (PyData×am×aA)):List (PyData×am×aA):=l.foldl (λ a e=>storedH a e.1 e.2.1 e.2.2) []
def mR (l:List (PyData×am×aA)) (e:PyData×am×aA):vA (l++[e])=storedH (vA l) e.1 e.2.1 e.2.2:=by
 unfold vA
 rw [abI]
 rfl
def zr {xs:List (PyData×am×aA)} {k:PyData} {a:am} {v:aA} {x:PyData×am×aA} (h:x∈storedH xs k a v):(∃ e∈xs,e.1=x.1/\e.2.1=x.2.1)\/x=(k,a,v):=by
 unfold storedH at h
 split at h
 .
  obtain ⟨y,H,rfl⟩:=aaE.mp h
  refine .inl ⟨y,H,?_⟩
  unfold putAt
  split<;>exact ⟨rfl,rfl⟩
 . rcases aaz.mp h with z|z
   . exact .inl ⟨x,z,rfl,rfl⟩
   . exact .inr (aac.mp z)
def zR (xs:List (PyData×am×aA)) (k:PyData) (a:am) (v:aA):(storedH xs k a v).length<=xs.length+1:=by
 unfold storedH
 split<;>simp
theorem tH {h:bE} {es:List (PyData×am×aA)} (a:∀ e∈es,uy h e.1 e.2.1):∀ i,∀ x∈vA (es.take i),uy h x.1 x.2.1
 | 0,x,H=>by rw [adJ] at H;exact absurd H aae
 | i+1,x,H=>by
   by_cases hi:i<es.length
   . rw [abH,RS hi,acF,mR] at H
     rcases zr H with ⟨e,c,E,b⟩|rfl
     . rw [<- E,<- b];exact tH a i e c
     . exact a _ (aay hi)
   . rw [abb (by lia),<- abb (i:=i) (l:=es) (by lia)] at H
     exact tH a i x H
theorem uJ (es:List (PyData×am×aA)):∀ i,(vA (es.take i)).length<=i
 | 0=>by rw [adJ];exact aak _
 | i+1=>by
   by_cases hi:i<es.length
   . rw [abH,RS hi,acF,mR]
     exact aaA (zR ..) (acZ (uJ es i))
   . rw [abb (by lia),<- abb (i:=i) (l:=es) (by lia)]
     exact Nat.le_succ_of_le (uJ es i)
def GN (prog:bD) (w:bz) (h:bE) (d:am) (xs:List (PyData×am×aA)):Prop:=∃ o e E,h.get? d=some o/\o.ExactDict/\o.data = .dict e E/\e.toList=xs.map (entryOfKey (ik prog w))/\(xs.map (·.1)).Nodup
def uy.up {h h':bE} {k:PyData} {a:am} (x:uy h k a) (H:∀ b o,h.get? b=some o->h'.get? b=some o):uy h' k a:=by
 obtain ⟨x,as,r,K,c,d,e⟩:=x
 exact ⟨x,as,oq (λ b O q Z Z Z=>H b O q) x K r,K,c,d,e⟩
def lN (h:bE) (d z TI TO i I:am):Prop:=(IsZip h z TI TO .none/\∃ a b,IsPair h TO a b)\/∃ T b o,nN h z TI TO T b/\h.get? T=some o/\(T≠z/\T≠i/\T≠I)/\T≠d
def lN.at {h h':bE} {d z TI TO i i2:am} (x:lN h d z TI TO i i2) (N:z≠d) (c:TO≠d) (H:∀ b o,b≠d->h.get? b=some o->h'.get? b=some o):lN h' d z TI TO i i2:=by
 rcases x with ⟨x,a,b,y⟩|⟨T,b,O,x,y,n,m⟩
 . exact .inl ⟨H _ _ N x,a,b,H _ _ c y⟩
 . exact .inr ⟨T,b,O,H _ _ N x,H _ _ m y,n,m⟩
section
variable {prog:bD} {w:bz} {A:Around} {E:aA->Shared->Prop} {s:Shared}
def uk {d z TI TO i I l L:am} {k:Nat} {xs ys:Array aA} {x y:aA} {Q:jC->Shared->Prop} (D:ZipApart z TI TO i I l L)
   (h:lN s.heap d z TI TO i I) (r:∃ o,s.heap.get? d=some o) (K:IsPair s.heap TI (.ref i) (.ref I))
   (p:s.heap.IsListIter i l k) (q:s.heap.IsListIter I L k) (B:s.heap.IsList l xs) (Y:s.heap.IsList L ys) (G:xs[k]?=some x) (J:ys[k]?=some y)
   (v:∀ h',lN h' d z TI TO i I->h'.IsListIter i l (k+1)->h'.IsListIter I L (k+1)->IsPair h' s.heap.objs.size x y ->
     (∀ c o,c≠z->c≠TO->c≠i->c≠I->s.heap.get? c=some o->h'.get? c=some o)->Q (some (.ref s.heap.objs.size)) { s with heap:=h' }) :
   wpAny (model prog w) A (pyNext (.ref z)) Q E s:=by
 obtain ⟨od,r⟩:=r
 have X:s.heap.objs.size≠d:=aci (aav r)
 rcases h with ⟨h,a,b,M⟩|⟨T,b,oT,h,C,n,W⟩
 .
  have V:=aav h
  have t:i<s.heap.objs.size:=by obtain ⟨Z,e,Z⟩:=p;exact aav e
  have u:I<s.heap.objs.size:=by obtain ⟨Z,e,Z⟩:=q;exact aav e
  exact wpAny_pyNext_zip_item D h K M p q B Y G J λ h' g a2 j m f N H=>v h' (.inr ⟨_,false,_,g,f,⟨aci V,aci t,aci u⟩,X⟩) j m f H
 .
  have R:s.TypeIs (.ref z) "zip":=⟨_,h,rfl⟩
  unfold pyNext
  exact aaa (wpAny_attempt (ab0 (name:=Str.ofString "__next__") R adr
    (acD adr R F.entry_zip_next
      (xQ D h C n K p q B Y G J λ h' g j m f N H=>aao (v h' (.inr ⟨T,true,oT,g,H _ _ n.1 n.2.1 n.2.2 C,n,W⟩) j m f λ c o O Z S U e=>H c o O S U e)) (F.args_zip_next_1 _))))
def vn {d z TI TO i I l L:am} {k:Nat} {xs ys:Array aA} {Q:jC->Shared->Prop} (g:A.handled=none) (D:ZipApart z TI TO i I l L)
   (h:lN s.heap d z TI TO i I) (t:IsPair s.heap TI (.ref i) (.ref I))
   (H:s.heap.IsListIter i l k) (n:s.heap.IsListIter I L k) (B:s.heap.IsList l xs) (y:s.heap.IsList L ys) (j:xs[k]?=none)
   (f:∀ h',(∀ c o,c≠z->c≠TO->c≠i->c≠I->s.heap.get? c=some o->h'.get? c=some o)->Q none { s with heap:=h' }) :
   wpAny (model prog w) A (pyNext (.ref z)) Q E s:=by
 rcases h with ⟨h,a,b,G⟩|⟨T,b,O,h,p,N,M⟩
 . exact wpAny_pyNext_zip_end g D h t G H n B y (.inl j) f
 .
  have R:s.TypeIs (.ref z) "zip":=⟨_,h,rfl⟩
  unfold pyNext
  refine aaa (wpAny_attempt (ab0 (name:=Str.ofString "__next__") R adr
    (acD adr R F.entry_zip_next (zB g D h p N t H B j λ h' e u r=>?_) (F.args_zip_next_1 _))))
  obtain ⟨o,v,q⟩:=r
  refine aaa (adV (T:="StopIteration") (b:=true) ⟨o,v,q⟩ isSubtype_stop ?_)
  exact aao (f _ λ c o C Z m Z e=>u c o C m e)
def IR {R:Result->Shared->Prop} {d z TI TO I a Q S:am} {h0:bE} {xs ys:Array aA} {es:List (PyData×am×aA)} (D:ZipApart z TI TO I a Q S) (hh:A.handled=none) (hu:(ik prog w).room A.in1)
   (fr:∀ c∈[z,TI,TO,I,a,d],h0.get? c=none) (N:∀ c∈[z,TI,TO,I,a],c≠d) (W:h0.IsList Q xs) (yK:h0.IsList S ys) (hn:xs.size=es.length)
   (yM:∀ (i:Nat) e,es[i]?=some e->xs[i]?=some (.ref e.2.1)/\ys[i]?=some e.2.2) (hk:∀ e∈es,uy h0 e.1 e.2.1) (hsz:es.length<=sizeLine) :
   ∀ (k i:Nat) (s:Shared),es.length - i=k->i<=es.length->(∀ b o,h0.get? b=some o->s.heap.get? b=some o)->lN s.heap d z TI TO I a->IsPair s.heap TI (.ref I) (.ref a) ->
     s.heap.IsListIter I Q i->s.heap.IsListIter a S i->GN prog w s.heap d (vA (es.take i)) ->
     (∀ h' T,(∀ b o,h0.get? b=some o->h'.get? b=some o)->GN prog w h' d (vA es)->R (.ok (.ret .none)) { s with heap:=h',toks:=T }) ->
     codeAny (model prog w) A (.builtin "dict.update.loop" ⟨[.ref d,.ref z,rawInt i,.none],[]⟩) R s:=by
 have J:∀ {b o},h0.get? b=some o->b≠z/\b≠TI/\b≠TO/\b≠I/\b≠a/\b≠d:=λ {b o} e=>by
   refine ⟨?_,?_,?_,?_,?_,?_⟩<;>(rintro rfl;rw [fr _ (by simp)] at e;cases e)
 have u:d≠z:=(N z (by simp)).symm
 have U:d≠TO:=(N TO (by simp)).symm
 have X:d≠I:=(N I (by simp)).symm
 have V:d≠a:=(N a (by simp)).symm
 intro k
 induction k with
 | zero =>
   intro i s L hi ext O t B C r F
   obtain rfl:i=es.length:=by lia
   refine codeAny_builtin nA ?_
   rw [Around.under_plainId hX _]
   show wpAny _ A.in1 (pyNext (.ref z) >>= _) _ _ s
   refine aaa (vn (A:=A.in1) hh D O t B C (W.at λ o e=>ext _ _ e) (yK.at λ o e=>ext _ _ e) (Array.getElem?_eq_none (by lia)) λ h' K=>?_)
   show wpAny _ A.in1 (Builtin.Dict.addKeywords d [] >>= _) _ _ _
   refine aaa (aao (aao ?_))
   rw [aaB] at r
   obtain ⟨o,l,m,h,f⟩:=r
   exact F h' s.toks (λ b o e=>K b o (J e).1 (J e).2.2.1 (J e).2.2.2.1 (J e).2.2.2.2.1 (ext b o e)) ⟨o,l,m,K _ _ u U X V h,f⟩
 | succ k ih =>
   intro i s L hi ext O t B C r F
   have nE:i<es.length:=by lia
   have j:=RS nE
   generalize es[i]=e at j
   obtain ⟨M,hy⟩:=yM i e j
   obtain ⟨od,l,m,h,f⟩:=r
   refine codeAny_builtin nA ?_
   rw [Around.under_plainId hX _]
   show wpAny _ A.in1 (pyNext (.ref z) >>= _) _ _ s
   refine aaa (uk D O ⟨_,h⟩ t B C (W.at λ o e=>ext _ _ e) (yK.at λ o e=>ext _ _ e) M hy λ h' a1 a3 a4 a5 K=>?_)
   have E:∀ b o,h0.get? b=some o->h'.get? b=some o:=λ b o e=>K b o (J e).1 (J e).2.2.1 (J e).2.2.2.1 (J e).2.2.2.2.1 (ext b o e)
   have V8:IsPair h' TI (.ref I) (.ref a):=K _ _ D.TIz D.TITO D.TIi1 D.TIi2 t
   have dd:h'.DictOfH (ik prog w) d (vA (es.take i)):=⟨od,l,m,K _ _ u U X V h,f.1,f.2.1,f.2.2.1,λ x M=>(tH hk i x M).up E,f.2.2.2⟩
   have kk:uy h' e.1 e.2.1:=(hk e (aah j)).up E
   have G:Shared.TypeIs { s with heap:=h' } (.ref s.heap.objs.size) "tuple":=⟨_,a5,rfl⟩
   show wpAny _ A.in1 (holding [Value.ref s.heap.objs.size] _ >>= _) _ _ _
   refine aaa (abN (aaa (wpAny_tryCatch ?_)))
   unfold Builtin.Dict.pairItems
   refine aaa (adO G ?_)
   rw [aau (by decide)]
   refine aaa (acB a5 rfl (aao ?_))
   show wpAny _ A.in1 (holding [Value.ref e.2.1,e.2.2] (dictSet d (.ref e.2.1) e.2.2)) _ _ _
   refine abN (wpAny_dictSet_heap (hsz:=aaA (uJ es i) (aaA hi hsz)) hu kk dd λ Y HH Te=>?_)
   have g:∀ b o,b≠d->h'.get? b=some o->Y.get? b=some o:=λ b o n q=>Te.extBut _ _ n q
   obtain ⟨o3,v,p,q1,q2,q3,q4,q5,q6⟩:=HH
   refine aao ⟨plainId_quiet hX _,?_⟩
   have:=ih (i+1) { s with heap:=Y,toks:=s.toks+(ik prog w).draws e.1 } (by lia) nE (λ b o q=>g b o (J q).2.2.2.2.2 (E b o q)) (a1.at u.symm U.symm g) (g _ _ (N TI (by simp)) V8) (a3.at λ o q=>g _ o X.symm q) (a4.at λ o q=>g _ o V.symm q) (by
     rw [abH,j,acF,mR]
     exact ⟨o3,v,p,q1,q2,q3,q4,q6⟩) λ H T x y=>F H T x y
   exact this
def IL {l L:am} {xs ys:Array aA} {es:List (PyData×am×aA)} {Q:aA->Shared->Prop} (j:A.handled=none) (hu:A.units+70<cLine)
   (B:s.heap.IsList l xs) (Y:s.heap.IsList L ys) (M:xs.size=es.length)
   (V:∀ (i:Nat) e,es[i]?=some e->xs[i]?=some (.ref e.2.1)/\ys[i]?=some e.2.2) (K:∀ e∈es,uy s.heap e.1 e.2.1) (hsz:es.length<=sizeLine)
   (h:∀ h' t d,s.heap.objs.size<=d->(∀ b o,s.heap.get? b=some o->h'.get? b=some o)->GN prog w h' d (vA es)->Q (.ref d) { s with heap:=h',toks:=t }) {z:am} {H:bE}
   (I:z=s.heap.objs.size+4) (f:IsZip H z (s.heap.objs.size+2) (s.heap.objs.size+3) .none) (W:IsPair H (s.heap.objs.size+2) (.ref s.heap.objs.size) (.ref (s.heap.objs.size+1)))
   (z3:IsPair H (s.heap.objs.size+3) .none .none) (z4:H.IsListIter s.heap.objs.size l 0) (z5:H.IsListIter (s.heap.objs.size+1) L 0) (z6:H.objs.size=s.heap.objs.size+5)
   (N:∀ c o,s.heap.get? c=some o->H.get? c=some o) :
   wpAny (model prog w) A (call (.type "dict") [.ref z]) Q E { s with heap:=H }:=by
 subst I
 have m:∀ {b o},s.heap.get? b=some o->b<s.heap.objs.size:=λ e=>aav e
 have R:l<s.heap.objs.size:=by obtain ⟨Z,e,Z⟩:=B;exact m e
 have T:L<s.heap.objs.size:=by obtain ⟨Z,e,Z⟩:=Y;exact m e
 refine callType_codes (Q₁:=λ O S=>O = .ref H.objs.size/\S={ s with heap:=H.push { cls:=.type "dict",data:=.dict #[]}}) F.kt_called_dict (F.kt_typeCall_dict_1 _) F.entry_dict_init (kt_code_dict_new _ ⟨rfl,rfl⟩) ?_
 rintro O S ⟨rfl,rfl⟩
 have X:(H.push { cls:=.type "dict",data:=.dict #[]}).DictOfH (ik prog w) H.objs.size []:=Heap.DictOfH.new H
 refine ⟨X.typeIs,F.args_dict_init_2 _ _,?_⟩
 unfold Builtin.«dict.__init__»
 refine aaa ?_
 unfold Builtin.Dict.selfAndRest
 refine aaa (wpAny_notOrdered_dict X.typeIs ?_)
 show wpAny _ _ (pure (H.objs.size,[Value.ref (s.heap.objs.size+4)])) _ _ _
 refine aao ?_
 show wpAny _ _ (Builtin.Dict.updateFrom "dict.__init__" H.objs.size (.ref (s.heap.objs.size+4)) [] .none) _ _ _
 unfold Builtin.Dict.updateFrom
 have u:∀ {b o},H.get? b=some o->(H.push { cls:=.type "dict",data:=.dict #[]}).get? b=some o:=λ e=>aal _ e
 have g:Shared.TypeIs { s with heap:=H.push { cls:=.type "dict",data:=.dict #[]}} (.ref (s.heap.objs.size+4)) "zip":=⟨_,u f,rfl⟩
 refine aaa (adO g ?_)
 rw [aau (by decide)]
 refine aaa (Jh (A:=A.in1.in1) (u f) j λ h6 U k=>?_)
 simp only [Option.isNone_none,acw]
 refine aaa (wpAny_rule ?_)
 refine aaa (adU (k _ _ (u f)) ?_)
 refine aao ⟨plainId_quiet hX _,?_⟩
 have J:∀ {c},s.heap.objs.size<=c->s.heap.get? c=none:=λ e=>adu e
 refine IR (A:=A.in1) (h0:=s.heap) (es:=es) (D:=zipApart_new R T) j (by show A.in1.in1.units+64<cLine;rw [acE,acE];lia) (d:=H.objs.size) (λ c a=>?_) (λ c a=>?_) B Y M V K hsz _ 0 _ rfl (aaZ _) (λ b o e=>k _ _ (u (N _ _ e))) (.inl ⟨k _ _ (u f),_,_,k _ _ (u z3)⟩) (k _ _ (u W)) (z4.at λ o e=>k _ _ (u e)) (z5.at λ o e=>k _ _ (u e)) ?_ (λ h' t x y=>⟨rfl,h h' t _ (by lia) x y⟩)
 . refine J ?_
   simp only [aab,aae,aaT] at a
   rcases a with rfl|rfl|rfl|rfl|rfl|rfl<;>lia
 . simp only [aab,aae,aaT] at a
   rcases a with rfl|rfl|rfl|rfl|rfl<;>(rw [z6];intro z;exact absurd (show (_:Nat)=_ from z) (by lia))
 . obtain ⟨o,C,G,n,p,q,r,Z,v⟩:=X
   exact ⟨o,C,G,k _ _ n,p,q,r,v⟩
end
end PySem
namespace PySem
theorem wu {es:List (PyData×am×aA)} (h:(es.map (·.1)).Nodup):∀ i,i<=es.length->vA (es.take i)=es.take i
 | 0,_=>rfl
 | i+1,hi=>by
   rw [abH,RS hi,acF,mR,wu h i (by lia)]
   refine storedH_new (atKey_none_of_get λ j p e=>?_) _ _
   have H:=(Br.mp e).1
   rw [aaK] at H
   rw [adS (by lia)] at e
   have:=idxH_unique h e (show es[i]?=some (es[i].1,es[i].2) from RS hi)
   lia
end PySem
namespace L2
open PySem PySem.Spec PyProof.Rows Mth
variable {H H':Hp}
def FM (P:bD) (w:bz) (K:aE) (t:TA):TE:=λ U H Q=>t U H λ v h=>∃ q b,∃ a:oJ,v=[.ref q,.ref b]/\aX K h q (a.map λ e => .ref e.2.1)/\aX K h b (a.map λ e=>e.2.2) /\
 (a.map (·.1)).Nodup/\(∀ e∈a,gO K h e.1 e.2.1)/\a.length<=sizeLine/\∀ p,h p=none->Q (.ref p) (upd h p (kU P w p a))
def dg.u70 {k:Nat} {A:Around} (r:dg k A):A.units+70<cLine:=by have:=r.un;lia
theorem uZ:∀ {a:oJ} {us vs:bM},Vals (a.map λ e => .ref e.2.1) us->Vals (a.map λ e=>e.2.2) vs->∃ es:List (PyData×am×aA),XR a es/\us=es.map (λ e => .ref e.2.1)/\vs=es.map λ e=>e.2.2
 | [],_,_,.nil,.nil=>⟨[],.nil,rfl,rfl⟩
 | e::a,_,_,.cons r t,.cons R T=>by
   obtain ⟨es,h,H,b⟩:=uZ t T
   exact ⟨(e.1,e.2.1,_)::es,.cons ⟨rfl,rfl,R⟩ h,by rw [H,show _=_ from r];rfl,by rw [b];rfl⟩
def XR.keys {a:oJ} {es:List (PyData×am×aA)} (h:XR a es):es.map (·.1)=a.map (·.1):=by
 induction h with
 | nil=>rfl
 | cons r _ i=>rw [aaQ,aaQ,i,r.1]
def XR.mem {a:oJ} {es:List (PyData×am×aA)} (h:XR a es):∀ e∈es,∃ x∈a,x.1=e.1/\x.2.1=e.2.1:=by
 induction h with
 | nil=>exact λ Z h=>absurd h aae
 | cons r _ i =>
   intro e H
   rcases aab.mp H with rfl|H
   . exact ⟨_,aar,r.1,r.2.1⟩
   . obtain ⟨x,b,q⟩:=i e H
     exact ⟨x,aaj _ b,q⟩
section
variable {X:Cx} {P:bD} {w:bz} {K:aE}
def Bm {a b:Expr} {T:TA} {p1 m W f:Pos} (hP:X.prog=P) (hw:X.w=w) (hK:X.K=K) (hu:X.A.units+70<cLine) (hc:X.calm=true) (ha:PA X [a,b] T) (N:Gl X "dict") (O:X.mg "dict" = none) (V:Gl X "zip") (l:X.mg "zip" = none) (hs:autoParam (starEach [a,b] X.env=[(false,eval a X.env),(false,eval b X.env)]) za_._auto_1) (M:autoParam (starEach [b] X.env=[(false,eval b X.env)]) za_._auto_1) (t:autoParam (starEach [.Call (.Name "zip" m) [a,b] [] f] X.env=[(false,eval (.Call (.Name "zip" m) [a,b] [] f) X.env)]) za_._auto_1) :
   PE X (.Call (.Name "dict" p1) [.Call (.Name "zip" m) [a,b] [] f] [] W) (FM P w K T):=by
 subst hP hw hK
 intro p s U H Q I h
 refine aca (jv I N O Cu ?_ (by decide) (by decide))
 refine abc ?_ t rfl
 rw [t]
 refine ac2 ?_
 refine aca (jv I V l G8 (abc (c7 (ha f p s U H _ I h) λ us s1 ⟨vs,H1,c,r1,q1⟩=>?_) (by rw [hs,M]) (by rw [M];rfl)) (by decide) (by decide))
 obtain ⟨a,b,z,e,J,tw,nd,hk,G,q⟩:=q1
 subst e
 obtain ⟨u,v,rfl,r,r'⟩:=vals2 r1
 obtain rfl:u=Value.ref a:=r
 obtain rfl:v=Value.ref b:=r'
 obtain ⟨II,S,y,Lp⟩:=c.list J
 obtain ⟨oG,R,Y,Uz⟩:=c.list tw
 obtain ⟨E,g,rfl,rfl⟩:=uZ S R
 have le:E.length=z.length:=g.length.symm
 refine call_zip_2 y.isList Y.isList λ h' z1 z2 z3 z4 z5 z6 kk=>adL ?_
 refine IL (es:=E) (c.ok.hd hc) hu y.isList Y.isList (by simp) (λ i e C=>⟨by simp [C],by simp [C]⟩) (λ e he=>?_) (by rw [le];exact G) (λ h2 tk d L k2 F=>?_) rfl z1 z2 z3 z4 z5 z6 kk
 . obtain ⟨x,hx,j,k⟩:=g.mem e he
   rw [<- j,<- k]
   exact (hk x hx).is c
 .
  have fr:=c.dF.fresh L
  have n:(E.map (·.1)).Nodup:=by rw [g.keys];exact nd
  have D:=wu n E.length (aak _)
  rw [aaB] at D
  rw [D] at F
  obtain ⟨o,ea,ep,j,k,e3,e4,e5⟩:=F
  have B:=c.big
  refine ⟨.ref d,_,c.laid (a:=d) (o:=kU X.prog X.w d z) (t':=tk) k2 L (FW ⟨G,abm.mpr (acx (aaO (aaw B L))),E,g,o,ea,ep,j,k,e3,e4,e5⟩),rfl,q d fr⟩
end
structure MO (H0 H:Hp) (D:am) (qs:bJ) (ls:List (List (Option Nat))):Prop where
 sm:aG H0 H
 fr:∀ b∈D::qs,H0 b=none
 nd:(D::qs).Nodup
 le:qs.length=ls.length
 hp:H D=some (.lst (qs.map .ref))
 CM:∀ (i:Nat) q l,qs[i]?=some q->ls[i]?=some l->H q=some (.lst (l.map jX))
def MO.row {f:Hp} {D q:am} {Q:bJ} {L:List (List (Option Nat))} {l:List (Option Nat)} (h:MO f H D Q L) (d:H q=none):MO f (upd (upd H q (.lst (l.map jX))) D (.lst (Q.map .ref++[.ref q]))) D (Q++[q]) (L++[l]):=by
 have n:=aaS.mp h.nd
 have j:q≠D:=(az h.hp d).symm
 have s:=ak (o:=.lst (l.map jX)) d
 have N:q∉Q:=λ z=>by
   obtain ⟨i,hi,e⟩:=abi.mp z
   have C:i<L.length:=by rw [<- h.le];exact hi
   have g:=h.CM i q _ (by rw [RS hi,e]) (RS C)
   rw [d] at g
   cases g
 refine ⟨λ x u e=>?_,λ b c=>?_,?_,?_,?_,λ i b m e E=>?_⟩
 .
  rw [aw (λ z=>?_)]
  . exact s _ _ (h.sm x u e)
  . rw [z,h.fr D aar] at e
    cases e
 .
  rcases aab.mp c with rfl|c
  . exact h.fr _ aar
  . rcases aaz.mp c with z|z
    . exact h.fr _ (aaj _ z)
    . rw [aac.mp z];exact h.sm.free d
 .
  refine aaS.mpr ⟨λ z=>?_,acP.mpr ⟨n.2,abQ _ _,λ a k b c e=>N (by rw [<- aac.mp c,<- e];exact k)⟩⟩
  rcases aaz.mp z with z|z
  . exact n.1 z
  . exact j (aac.mp z).symm
 . rw [aaf,aaf,h.le];rfl
 . rw [ag,aai];rfl
 .
  by_cases hi:i<Q.length
  . rw [aan hi] at e
    rw [aan (by rw [<- h.le];exact hi)] at E
    rw [aw (λ z=>n.1 (by rw [<- z];exact aah e))]
    exact s _ _ (h.CM i b m e E)
  .
   have p:=(Br.mp e).1
   rw [aaf,aaD] at p
   obtain rfl:i=Q.length:=by lia
   rw [aa1] at e
   rw [h.le,aa1] at E
   cases e
   cases E
   rw [aw j,ag]
def G6 (rows:List bU):Prop:=rows.length<=2000/\∀ r∈rows,r.length<=16/\∀ J,some J∈r->J.length<=400/\∀ j∈J,j<rows.length
inductive FY (P:bD) (w:bz) (K:aE) (CG CR:am) (vs:aB) (H:Hp) (Q:VK) (_E:XK):Prop|mk (x dx y pm po pr pd lim g:_) (_:vs=[.ref x,.ref y]) (_:H x=some (.ins CR dx [])) (_:eB P w K CG [] H y pm po pr pd lim g) (_:G6 g.rows) (_:∀ pl pg pk pq qs S cur H',gG [x] H H'->aT K H H'->ig CR H' x pl pg pk pq qs S->ic g.rows S cur->fL g.rows S->(∀ j∈S.queue,xn g.rows S j)->Q .cC H')
def aX.sm {K:aE} {q:am} {xs:aB} (S:aG H H') (e:aX K H q xs):aX K H' q xs:=by
 rcases e with (e|⟨o,e⟩)|e
 . exact .inl (.inl (S _ _ e))
 . exact .inl (.inr ⟨o,S _ _ e⟩)
 . exact .inr e
structure Bs (K:aE) (C x dx:am) (H H':Hp) (fs:List (Str×V)) (L:List (am×HO)):Prop where
 b:jw K C x dx H H' fs
 at_:∀ e∈L,H' e.1=some e.2/\e.1≠x/\H e.1=none
 nd:(L.map (·.1)).Nodup
section
variable {K:aE} {C x dx D:am} {H H' Bz:Hp} {fs fs':List (Str×V)} {L:List (am×HO)} {o:HO}
theorem Bs.put (h:Bs K C x dx H H' fs L):Bs K C x dx H (upd H' x (.ins C dx fs')) fs' L:=⟨h.b.put,λ e a=>⟨by rw [aw (h.at_ e a).2.1];exact (h.at_ e a).1,(h.at_ e a).2⟩,h.nd⟩
def Bs.more (h:Bs K C x dx H H' fs L) (s:aG H' Bz) (c:H' D=none) (d:Bz D=some o):Bs K C x dx H Bz fs ((D,o)::L):=by
 refine ⟨⟨λ b u e n=>s _ _ (h.b.st b u e n),h.b.ts.trans s.ts,s _ _ h.b.at_⟩,λ e a=>?_,aaS.mpr ⟨λ z=>?_,h.nd⟩⟩
 . rcases aab.mp a with rfl|a
   . exact ⟨d,h.b.ne c,h.b.none c⟩
   . exact ⟨s _ _ (h.at_ e a).1,(h.at_ e a).2⟩
 .
  obtain ⟨e,a,z⟩:=aaE.mp z
  have:=(h.at_ e a).1
  rw [z,c] at this
  cases this
def v9 (pl:am) (q:bJ) (L:List (List (Option Nat))):List (am×HO):=(pl,.lst (q.map .ref))::q.zip (L.map λ l => .lst (l.map jX))
def MO.rkb {pl:am} {q:bJ} {L:List (List (Option Nat))} (h:MO H H' pl q L) (c:H x=some (.ins C dx [])):Bs K C x dx H H' [] (v9 pl q L):=by
 have nx:∀ b∈pl::q,b≠x:=λ b k z=>by rw [<- z,h.fr b k] at c;cases c
 have m:q.length<=(L.map λ l=>HO.lst (l.map jX)).length:=by rw [No,h.le];exact aak _
 refine ⟨⟨λ b o e Z=>h.sm b o e,h.sm.ts,h.sm _ _ c⟩,λ e a=>?_,?_⟩
 .
  rcases aab.mp a with rfl|a
  . exact ⟨h.hp,nx _ aar,h.fr _ aar⟩
  .
   obtain ⟨i,hi⟩:=acu.mp a
   obtain ⟨d,f⟩:=acK.mp hi
   rw [Zj] at f
   obtain ⟨l,j,E⟩:=abj.mp f
   have g:=aaj pl (aah d)
   exact ⟨by rw [<- E];exact h.CM i _ l d j,nx _ g,h.fr _ g⟩
 . show (pl::(q.zip _).map (·.1)).Nodup
   rw [List.map_fst_zip m]
   exact h.nd
def Bs.rk {pl p a c:am} {Q:bJ} {S:jI} (h:Bs K C x dx H H' (Rf pl p a c) ((c,.lst (S.queue.map aq))::(a,.lst (S.bN.map jX))::(p,.lst (S.di.map aq))::v9 pl Q S.bO)) (L:Q.length=S.bO.length):ig C H' x pl p a c Q S:=by
 have s:Q.length<=(S.bO.map λ l=>HO.lst (l.map jX)).length:=by rw [No,L];exact aak _
 refine ⟨⟨dx,h.b.at_⟩,(h.at_ (pl,.lst (Q.map .ref)) (by simp [v9])).1,L,λ i q l e E=>?_,(h.at_ (p,.lst (S.di.map aq)) (by simp)).1,(h.at_ (a,.lst (S.bN.map jX)) (by simp)).1,(h.at_ (c,.lst (S.queue.map aq)) (by simp)).1,?_⟩
 . exact (h.at_ (q,.lst (l.map jX)) (aaj _ (aaj _ (aaj _ (aaj _ (acu.mpr ⟨i,acK.mpr ⟨e,by rw [Zj,E];rfl⟩⟩)))))).1
 .
  have n:=h.nd
  unfold v9 at n
  rw [aaQ,aaQ,aaQ,aaQ,List.map_fst_zip s] at n
  simp only [aaS,aab,abL] at n |-
  obtain ⟨⟨A,d,f,g⟩,⟨B,j,k⟩,⟨m,o⟩,D,r⟩:=n
  exact ⟨⟨λ z=>m z.symm,λ z=>j z.symm,λ z=>f z.symm,D⟩,⟨λ z=>B z.symm,λ z=>d z.symm,o⟩,⟨λ z=>A z.symm,k⟩,g,r⟩
def Bs.fr (h:Bs K C x dx H H' fs L):gG [x] H H':=λ b u e n=>h.b.st b u e λ z=>n (aac.mpr z)
end
structure m4 (rows:List bU) (S:jI) (i n:Nat):Prop where
 ok:ic rows S 0
 dn:∀ (p:Nat) (r:bU) (c:Nat),rows[p]?=some r->r[c]?=some none->(p<i\/(p=i/\c<n))->∃ l,S.bO[p]?=some l/\l[c]?=some (some 0)
 un:∀ (p:Nat) l (c:Nat),S.bO[p]?=some l->c<l.length->(i<p\/(p=i/\n<=c))->l[c]?=some none
def m4.zero (rows:List bU):m4 rows (E9 rows) 0 0:=by
 refine ⟨Mo rows,λ p r c Z Z h=>?_,λ p l c e H Z=>?_⟩
 . rcases h with h|⟨Z,h⟩<;>exact absurd h (abk _)
 .
  have:=RS H
  cases q:l[c] with
  | none=>rw [this,q]
  | some t=>rw [q] at this;exact absurd this (AZ e)
def m4.skip {rows:List bU} {S:jI} {i n:Nat} {r:bU} {j:aS} (h:m4 rows S i n) (a:rows[i]?=some r) (b:r[n]?=some (some j)):m4 rows S i (n+1):=by
 refine ⟨h.ok,λ p R c e E q=>?_,λ p l c e H q=>h.un p l c e H (by lia)⟩
 refine h.dn p R c e E ?_
 rcases q with q|⟨q,Q⟩
 . exact .inl q
 .
  refine .inr ⟨q,?_⟩
  by_cases z:c=n
  .
   subst q
   subst z
   rw [a] at e
   cases e
   rw [b] at E
   cases E
  . lia
def m4.step {rows:List bU} {S:jI} {i n m:Nat} {r:bU} {l:List (Option Nat)} (h:m4 rows S i n) (a:rows[i]?=some r) (b:r[n]?=some none) (E:S.bO[i]?=some l) (k:S.di[i]?=some m):m4 rows (S.fin i n 0 l m) i (n+1):=by
 have d:n<l.length:=by rw [h.ok.sh i l r E a];exact (Br.mp b).1
 have hi:i<S.bO.length:=(Br.mp E).1
 have H:=h.un i l n E d (.inr ⟨rfl,aak _⟩)
 refine ⟨h.ok.fin E k H ⟨r,a,.inl ⟨b,rfl⟩⟩,λ p R c e f q=>?_,λ p L c e y q=>?_⟩
 .
  by_cases z:p=i/\c=n
  . obtain ⟨rfl,rfl⟩:=z
    exact ⟨_,cY.mpr (.inl ⟨rfl,hi,rfl⟩),cY.mpr (.inl ⟨rfl,d,rfl⟩)⟩
  . obtain ⟨L,g,j⟩:=h.dn p R c e f (by lia)
    exact wD E H g j
 .
  rcases cY.mp (show (S.bO.set i (l.set n (some 0)))[p]?=some L from e) with ⟨z,Z,rfl⟩|⟨z,e⟩
  . rw [abp] at y
    refine cY.mpr (.inr ⟨by lia,h.un i l c E y (by lia)⟩)
  . exact h.un p L c e y (by lia)
def m4.next {rows:List bU} {S:jI} {i:Nat} {r:bU} (h:m4 rows S i r.length) (a:rows[i]?=some r):m4 rows S (i+1) 0:=by
 refine ⟨h.ok,λ p R c e E q=>h.dn p R c e E ?_,λ p l c e H q=>h.un p l c e H (by lia)⟩
 by_cases z:p=i
 .
  subst z
  rw [a] at e
  cases e
  exact .inr ⟨rfl,(Br.mp E).1⟩
 . lia
def m4.done {rows:List bU} {S:jI} (h:m4 rows S rows.length 0):fL rows S:=λ p r c e E=>h.dn p r c e E (.inl (Br.mp e).1)
def ig.same {CR:am} {x pl p a b:am} {Q:bJ} {S:jI} (h:ig CR H x pl p a b Q S) (s:aG H H'):ig CR H' x pl p a b Q S:=by
 obtain ⟨⟨d,o⟩,c,f,g,j,k,m,n⟩:=h
 exact ⟨⟨d,s _ _ o⟩,s _ _ c,f,λ i q l e E=>s _ _ (g i q l e E),s _ _ j,s _ _ k,s _ _ m,n⟩
theorem CS {c:Type} {R:am->c->Prop}:∀ {as:bJ} {l:List c},as.length=l.length->(∀ (i:Nat) b a,as[i]?=some b->l[i]?=some a->R b a)->Refs R (as.map .ref) l
 | [],[],_,_=>Refs.nil
 | b::as,a::l,h,f => .cons ⟨b,rfl,f 0 b a rfl rfl⟩ (CS (ad9 h) λ i b a e E=>f (i+1) b a e E)
def ig.there {CR:am} {x pl p a c:am} {q:bJ} {S:jI} (h:ig CR H x pl p a c q S) {b:am} (d:b∈Fk pl p a c q):H b≠none:=by
 obtain ⟨o,e,Z⟩:=h.tJ b d
 rw [e]
 exact nofun
def zl.at {K:aE} {CR:am} {x pl c d f p:am} {q as:bJ} {S:jI} {ah:List (List (Nat×Nat))} (h:ig CR H x pl c d f q S) (a:zl K H H' p as ah):Fw K H' (Fk pl c d f q) p ah :=
 ⟨_,a.hp,λ z=>h.there z (a.fr _ aar),CS a.le λ i b l e E=>⟨λ z=>h.there z (a.fr _ (aaj _ (aah e))),a.CM i b l e E⟩⟩
def Bs.Sg {K:aE} {C x dx pl p c d:am} {fs:List (Str×V)} {q:bJ} {l:List (List (Option Nat))} {o1 o2 o3:HO} (h:Bs K C x dx H H' fs ((d,o1)::(c,o2)::(p,o3)::v9 pl q l)) (L:q.length=l.length):∀ b∈Fk pl p c d q,H b=none:=by
 intro b a
 simp only [aab] at a
 rcases a with rfl|rfl|rfl|rfl|a
 . exact (h.at_ (b,.lst (q.map .ref)) (by simp [v9])).2.2
 . exact (h.at_ (b,o3) (by simp)).2.2
 . exact (h.at_ (b,o2) (by simp)).2.2
 . exact (h.at_ (b,o1) (by simp)).2.2
 . obtain ⟨i,hi,rfl⟩:=abi.mp a
   have e:i<l.length:=by rw [<- L];exact hi
   exact (h.at_ (q[i],.lst (l[i].map jX)) (aaj _ (aaj _ (aaj _ (aaj _ (acu.mpr ⟨i,acK.mpr ⟨RS hi,by rw [Zj,RS e];rfl⟩⟩)))))).2.2
def Gq (m:av):Prop:=∀ s o,eX m s->o∈s.orders m->(qA m s o).length<=400
def MK {K:aE} {V:aB} {met:List cD} (h:ni K H V met):∀ {N:List (Option Nat)},N.length=met.length->∃ a:oJ,V=a.map (λ e => .ref e.2.1)/\N.map jX=a.map (λ e=>e.2.2)/\a.map (·.1)=met.map ma/\∀ e∈a,gO K H e.1 e.2.1:=by
 unfold ni Refs at h
 induction h with
 | nil =>
   intro N b
   obtain rfl:=aa2 b
   exact ⟨[],rfl,rfl,rfl,λ Z h=>absurd h aae⟩
 | @cons v s V met h t I =>
   intro N b
   obtain ⟨p,e,j⟩:=h
   cases N with
   | nil=>cases b
   | cons r N =>
     obtain ⟨a,d,f,g,i⟩:=I (ad9 b)
     refine ⟨(ma s,p,jX r)::a,by rw [e,d];rfl,by rw [aaQ,f];rfl,by rw [aaQ,g];rfl,λ x c=>?_⟩
     rcases aab.mp c with rfl|c
     . exact g8 j
     . exact i x c
theorem Cp:∀ {a:oJ} {i:Nat} {e:PyData×am×V},(a.map (·.1)).Nodup->a[i]?=some e->iw a e.1=some e.2.2
 | [],_,_,_,h=>by simp at h
 | x::a,0,e,_,h=>by
   cases h
   unfold iw
   rw [aa9,aaG rfl]
   rfl
 | x::a,i+1,e,H,h=>by
   have H:=aaS.mp H
   have h:a[i]?=some e:=h
   have n:x.1≠e.1:=λ z=>H.1 (aaE.mpr ⟨e,aah h,z.symm⟩)
   have:=Cp H.2 h
   unfold iw at this |-
   rw [aa9,aap n]
   exact this
def gy.K1 {m:av} {g:qX} (h:gy m g) (G:DZ m) (R:Gq m) (l:g.rows.length=g.met.length) (L:g.met.length<=2000):G6 g.rows:=by
 refine ⟨by lia,λ r d=>?_⟩
 obtain ⟨i,hi,rfl⟩:=abi.mp d
 have E:=RS hi
 have C:i<g.met.length:=by lia
 have b:=RS C
 have a:=h.rows i _ _ b E
 have S:=h.st _ (aay C)
 refine ⟨by rw [<- a.length];exact uM G.h4 _,λ J H=>?_⟩
 obtain ⟨o,c,q⟩:=wU a (some J) H
 have Q:=R _ o S c
 unfold jg at q
 split at q
 .
  have q:Paired (λ j s=>g.met[j]?=some s) J (qA m g.met[i] o):=q
  refine ⟨by rw [q.length];exact Q,λ j H=>?_⟩
  obtain ⟨t,Z,e⟩:=yz q j H
  rw [l]
  exact (Br.mp e).1
 . exact q.elim
inductive Ae (P:bD) (w:bz) (K:aE) (C:am) (vs:aB) (H:Hp) (Q:VK) (_E:XK):Prop|mk (a q lim fp m xs l:_) (_:vs=[.ref a,.ref q,.int lim]) (_:aZ K C H a fp m) (_:DZ m) (_:Dr m lim) (_:lim<=2000) (_:Gq m) (_:H q=some (.lst xs)) (_:ni K H xs l) (_:(∀ s∈l,eX m s)) (_:∀ p aD H',aG H H'->iB P w K H' p aD->(∀ s∈l,∃ v,iw aD (ma s)=some (jX v)/\j7 m s v)->Q (.ref p) H')
section
variable {m:av} {s:cD} {o:Nat}
def MD (a:m.rows.length<=4) (S:eX m s) (c:o∈s.orders m):o<16/\(NP m s).Yy o:=by
 obtain ⟨b,h⟩:=aa3.mp c
 obtain ⟨E,O⟩:=(qD (uF a)).2 o b
 obtain ⟨h,H⟩:=abt.mp h
 obtain ⟨H,a⟩:=abt.mp H
 refine ⟨E,(Ord.Fi (aaw E (by decide))).mpr ⟨O,⟨?_,abO H,abO a⟩⟩⟩
 have:=abO h
 unfold cD.held at this
 rw [S.lw] at this
 exact this
def Fz {r:List cq} {f g:cq} {x:Nat} (h:x∈og r f g):x+1<r.length:=by
 have:=aaJ.mp (aa3.mp h).1
 lia
def sZ (l:aS) (i:Nat):gN l i=l.getD i 0:=by
 unfold gN
 rw [PY]
def IF {D:List Pr} (h:∀ d∈D,yN 900 900 d) (H:D.length<=10):dY 20000 (nf (eD D).1 (eD D).2):=by
 obtain ⟨a,b,c⟩:=yg D h D.length (aak _)
 rw [aaB] at a b c
 have F:=il (t:=(eD D).1) c
 exact ⟨F.OC (a.mono (by lia)),F.Oa (b.mono (by lia)),F.pos⟩
def Il (W:m.Wf) (H:m.rows.length<=4) (r:m.aN.length=m.rows.length) (S:eX m s):FF m s:=by
 intro i b hi g
 have c:∀ j,j<m.rows.length->s.cJ.getD j 0+1<(m.rows.getD j []).length:=λ j l=>by rw [<- sZ];exact S.band j l
 have len:∀ d,(f9 m s.cJ d).length=m.rows.length:=λ d=>by
   unfold f9
   rw [No,aam,S.lb]
 have p:b=true->∃ z,m.bv[i]?=some (some z):=λ e=>by
   have:=g e
   unfold av.has av.pW at this
   cases q:m.bv[i]? with
   | none=>rw [q] at this;cases this
   | some z =>
     cases z with
     | none=>rw [q] at this;cases this
     | some z=>exact ⟨z,rfl⟩
 have h:i<m.aN.length:=by rw [r];exact hi
 have E:gC m i=m.aN[i]:=by unfold gC;rw [RS h];rfl
 have a:=W.aN m.aN[i] (aay h)
 have o:∀ d w,d<=1->dY 120 w->dY 20000 (fG m i (f9 m s.cJ d) w b):=λ d w k n=>by
   obtain ⟨A,f,Z⟩:=ie (i:=i) (fired:=b) W H (len d) (kr W S.lb c k) n p
   exact IF A f
 refine ⟨o 0 _ (by decide) ?_,o 1 _ (by decide) ?_⟩
 . rw [E];exact a.2.1.mono (by decide)
 . rw [E];exact a.2.2.mono (by decide)
end
def Do (m:av):List cD :=
 (bP ((List.range m.rows.length).map λ i=>List.range ((m.rows.getD i []).length - 1))).flatMap λ b=>(List.range (2 ^ m.rows.length)).flatMap λ u =>
   (bP ((List.range m.rows.length).map λ i=>List.range ((m.eY i).toNat+1))).flatMap λ w=>(bP ((List.range m.rows.length).map λ i=>List.range ((m.fails i).toNat+1))).flatMap λ f =>
     (List.range (m.d6.toNat+1)).map λ h=>⟨b,u,w,f,h⟩
def LX {n i:Nat} {F:Nat->aS} (hi:i<n):((List.range n).map F).getD i []=F i:=by
 rw [PY,Zj,abe hi];rfl
def HV {m:av} {s:cD} (S:eX m s):s∈Do m:=by
 have c:∀ {l:aS} {F:Nat->aS},l.length=m.rows.length->(∀ i,i<m.rows.length->gN l i∈F i)->l∈bP ((List.range m.rows.length).map F):=λ {l F} b a=>by
   refine fY.mpr ⟨by rw [No,aam];exact b,λ i hi=>?_⟩
   rw [No,aam] at hi
   rw [LX hi,<- sZ]
   exact a i hi
 have f:∀ i,i<m.rows.length->(gN s.ib i:Int)<=max 0 (m.eY i)/\(gN s.failed i:Int)<=max 0 (m.fails i):=λ i hi=>by
   have:=S.bX i hi
   unfold av.eY av.fails
   cases e:m.pW i with
   | none=>rw [e] at this;obtain ⟨Z,h,H⟩:=this;rw [h,H];exact ⟨Int.le_max_left _ _,Int.le_max_left _ _⟩
   | some z=>rw [e] at this;exact ⟨acH this.1 (Int.le_max_right _ _),acH this.2.1 (Int.le_max_right _ _)⟩
 refine abl.mpr ⟨s.cJ,c S.lb λ i hi=>aaJ.mpr (by have:=S.band i hi;lia),abl.mpr ⟨s.cB,aaJ.mpr S.cB,abl.mpr ⟨s.ib,c S.lw λ i hi=>aaJ.mpr (by have:=(f i hi).1;lia),abl.mpr ⟨s.failed,c S.lf λ i hi=>aaJ.mpr (by have:=(f i hi).2;lia),aaE.mpr ⟨s.heap,aaJ.mpr (by have:=S.heap;lia),rfl⟩⟩⟩⟩⟩
def HR {m:av} {a b c d:Nat} (h:(bP ((List.range m.rows.length).map λ i=>List.range ((m.rows.getD i []).length - 1))).length<=a) (H:(bP ((List.range m.rows.length).map λ i=>List.range ((m.eY i).toNat+1))).length<=b) (e:(bP ((List.range m.rows.length).map λ i=>List.range ((m.fails i).toNat+1))).length<=c) (g:m.d6.toNat+1<=d) :
   (Do m).length<=a * (2 ^ m.rows.length * (b * (c * d))):=by
 unfold Do
 refine aaA (fo (k:=2 ^ m.rows.length * (b * (c * d))) λ x=>?_) (abM _ h)
 refine aaA (fo (k:=b * (c * d)) λ y=>?_) (by rw [aam];exact aak _)
 refine aaA (fo (k:=c * d) λ w=>?_) (abM _ H)
 refine aaA (fo (k:=d) λ f=>?_) (abM _ e)
 rw [No,aam]
 exact g
inductive E8 {a b c d e f g h:Type} (p:a->b->c->d->e->f->g->h->Prop):Prop|mk (x:a) (y:b) (z:c) (u:d) (v:e) (w:f) (t:g) (s:h) (_:p x y z u v w t s)
structure Z0 (rs:List R7) (b0 b1 b2:Int) (p:Nat) (m:av):Prop where
 most:m.most=b0
 d6:m.d6=b1
 load:m.load=b2
 rows:∀ (i:Nat) r,m.rows[i]?=some r->∃ q,rs[i]?=some q/\r.length=q.marks.length
 st:∀ (i:Nat) q,i<p->rs[i]?=some q->(m.pW i).map (·.2)=q.bX.map (·.2)
 no:∀ i,p<=i->m.pW i=none
def Ff:Option (Int×Int×Int×Int)->Bool->Nat->Nat->Prop
 | none,f,w,b=>f=false/\w=0/\b=0
 | some z,f,w,b=>(w:Int)<=z.2.2.1/\(b:Int)<=z.2.2.2/\(b=0\/(f=false/\w=0))
structure lH (rs:List R7) (b0:Int) (i:Nat) (bs ws fs:aS) (b:Nat):Prop where
 lb:bs.length=i
 lw:ws.length=i
 lf:fs.length=i
 cB:b<2 ^ i
 most:((Bit.rooms b).length:Int)<=b0
 band:∀ (j:Nat) q,j<i->rs[j]?=some q->gN bs j+1<q.marks.length
 bX:∀ (j:Nat) q,j<i->rs[j]?=some q->Ff q.bX (b.testBit j) (gN ws j) (gN fs j)
def lH.zero {rs:List R7} {b:Int} (h:0<=b):lH rs b 0 [] [] [] 0:=by
 refine ⟨rfl,rfl,rfl,by decide,?_,λ Z Z h=>absurd h (abk _),λ Z Z h=>absurd h (abk _)⟩
 have e:(Bit.rooms 0).length=0:=by decide
 rw [e]
 exact h
def lH.next {rs:List R7} {B:Int} {i:Nat} {bs W fs:aS} {b x w f:Nat} {lit:Bool} {q:R7} (h:lH rs B i bs W fs b) (hi:i<61) (g:rs[i]?=some q) (o:x+1<q.marks.length) (k:Ff q.bX lit w f) (m:lit=true->((Bit.rooms b).length:Int)<B):lH rs B (i+1) (bs++[x]) (W++[w]) (fs++[f]) (if lit then b+2 ^ i else b)/\(Bit.rooms (if lit then b+2 ^ i else b)).length=(Bit.rooms b).length+(if lit then 1 else 0):=by
 have V:b.testBit i=false:=Bit.iU h.cB (aak _)
 have d:b+2 ^ i=b ||| 2 ^ i:=by
   have:=adD h.cB 1
   rw [aek] at this
   rw [acG,this,Nat.or_comm]
 have N:(if lit then b+2 ^ i else b)<2 ^ (i+1):=by
   have:=h.cB
   rw [ac8]
   split<;>lia
 have H:(Bit.rooms (if lit then b+2 ^ i else b)).length=(Bit.rooms b).length+(if lit then 1 else 0):=by
   cases lit with
   | false=>rfl
   | true =>
     show (Bit.rooms (b+2 ^ i)).length=_+1
     rw [d,Bit.G0 hi V]
 have a:∀ j,j<i->(if lit then b+2 ^ i else b).testBit j=b.testBit j:=λ j c=>by
   cases lit with
   | false=>rfl
   | true =>
     show (b+2 ^ i).testBit j=_
     rw [acG]
     exact Nat.testBit_two_pow_add_gt c b
 have X:(if lit then b+2 ^ i else b).testBit i=lit:=by
   cases lit with
   | false=>exact V
   | true =>
     show (b+2 ^ i).testBit i=_
     rw [acG,Nat.testBit_two_pow_add_eq,V];rfl
 have n:∀ {l:aS} {y:Nat},l.length=i->gN (l++[y]) i=y:=λ {l y} e=>by rw [<- e];exact Gn
 refine ⟨⟨by rw [aaf,h.lb];rfl,by rw [aaf,h.lw];rfl,by rw [aaf,h.lf];rfl,N,?_,λ j r c E=>?_,λ j r c E=>?_⟩,H⟩
 .
  rw [H]
  have:=h.most
  cases lit with
  | false=>exact this
  | true =>
    have:=m rfl
    show (((Bit.rooms b).length+1:Nat):Int)<=_
    lia
 .
  by_cases e:j<i
  . rw [xC (by rw [h.lb];exact e)];exact h.band j r e E
  . obtain rfl:j=i:=by lia
    rw [g] at E
    cases E
    rw [n h.lb];exact o
 .
  by_cases e:j<i
  . rw [xC (by rw [h.lw];exact e),xC (by rw [h.lf];exact e),a j e];exact h.bX j r e E
  . obtain rfl:j=i:=by lia
    rw [g] at E
    cases E
    rw [n h.lw,n h.lf,X];exact k
def lH.ok {rs:List R7} {b B c:Int} {m:av} {s:cD} (h:lH rs b rs.length s.cJ s.ib s.failed s.cB) (l:Z0 rs b B c rs.length m) (L:m.rows.length=rs.length) (H:(s.heap:Int)<=B):eX m s:=by
 refine ⟨by rw [L];exact h.lb,by rw [L];exact h.lw,by rw [L];exact h.lf,by rw [L];exact h.cB,by rw [l.most];exact h.most,by rw [l.d6];exact H,λ i hi=>?_,λ i hi=>?_⟩
 .
  obtain ⟨q,E,e⟩:=l.rows i _ (RS hi)
  rw [PY,RS hi]
  show _<m.rows[i].length
  rw [e]
  exact h.band i q (by lia) E
 .
  have C:i<rs.length:=by lia
  have E:=RS C
  have:=h.bX i _ C E
  have e:=l.st i _ C E
  cases q:rs[i].bX with
  | none =>
    rw [q] at this e
    cases z:m.pW i with
    | none=>exact this
    | some a=>rw [z] at e;cases e
  | some y =>
    rw [q] at this e
    cases z:m.pW i with
    | none=>rw [z] at e;cases e
    | some a =>
      rw [z] at e
      have e:a.2=y.2:=aaq e
      show (_:Int)<=a.2.2.1/\(_:Int)<=a.2.2.2/\_
      rw [e]
      exact this
def nI (G:Nat->Nat):Nat->Nat
 | 0=>1
 | n+1=>nI G n * G n
theorem gi {F:Nat->aS} {G:Nat->Nat}:∀ n,(∀ i,i<n->(F i).length<=G i)->(bP ((List.range n).map F)).length<=nI G n
 | 0,_=>aak _
 | n+1,h=>by
   rw [aa6,aai,adn,iO]
   have I:=gi n λ i hi=>h i (by lia)
   refine aaA (fo (k:=G n) λ a=>by rw [No];exact h n (by lia)) ?_
   exact abM _ I
structure J8 (m:av) (B S F:Nat->Nat) (z:Nat):Prop where
 b:∀ i,i<m.rows.length->(m.rows.getD i []).length<=B i+1
 s:∀ i,i<m.rows.length->m.eY i<=(S i:Int)
 f:∀ i,i<m.rows.length->m.fails i<=(F i:Int)
 cp:m.d6<=(z:Int)
 tM:nI B m.rows.length * (2 ^ m.rows.length * (nI (λ i=>S i+1) m.rows.length * (nI (λ i=>F i+1) m.rows.length * (z+1))))<=2000
 res:nI B m.rows.length<=25
section
variable {m:av} {B S F:Nat->Nat} {c:Nat}
def J8.fin (h:J8 m B S F c):Dr m 2000:=λ l n H=>by
 have L:=adv n (l₂:=Do m) λ s g=>HV (H s g)
 have C:=gi (F:=λ i=>List.range ((m.rows.getD i []).length - 1)) (G:=B) m.rows.length λ i hi=>by rw [aam];have:=h.b i hi;lia
 have a:=gi (F:=λ i=>List.range ((m.eY i).toNat+1)) (G:=λ i=>S i+1) m.rows.length λ i hi=>by rw [aam];have:=h.s i hi;lia
 have e:=gi (F:=λ i=>List.range ((m.fails i).toNat+1)) (G:=λ i=>F i+1) m.rows.length λ i hi=>by rw [aam];have:=h.f i hi;lia
 have:=HR (d:=c+1) C a e (by have:=h.cp;lia)
 exact Int.ofNat_le.mpr (aaA L (aaA this h.tM))
def J8.Lo (h:J8 m B S F c) (H:m.rows.length<=4):Gq m:=λ s o e d=>by
 have bl:∀ O,(iT m s o O).length<=25:=λ O=>by
   unfold iT gr
   rw [No]
   refine aaA (gi (G:=B) m.rows.length λ i hi=>?_) h.res
   show ((kW m s (Ord.off o O) i).getD []).length<=B i
   unfold kW d7
   split
   . have:=mj (m.rows.getD i []) (je m i s.cJ ((Ord.off o O).testBit i)) (iZ m i s.cJ ((Ord.off o O).testBit i)) ((m.rows.getD i []).length - 1)
     have:=h.b i hi
     show (kM _ _ _ _).length<=B i
     lia
   . exact aaZ _
 have:=fo (l:=dD m s o) (k:=25) bl
 have a:(dD m s o).length<=16:=(pO (yr (s:=s) (o:=o) H)).2
 show ((dD m s o).flatMap (iT m s o)).length<=400
 lia
structure EL (m:av):Prop where
 oK:∀ s∈m.aN,bg s.2.2 s.2.1=false
 bX:∀ x,some x∈m.bv->0<=x.1.1/\(0<=x.2.1/\x.2.1<=9)/\(0<=x.2.2.1/\x.2.2.1<=3)/\(0<=x.2.2.2/\x.2.2.2<=3)
 Yc:m.Nd
def uj {a b c d:Int} (h:0<b) (H:0<d):bg (nf a b) (nf c d)=decide (a * d<c * b):=by
 have F:=il (t:=a) h
 have G:=il (t:=c) H
 have C:=F.jU
 have e:=G.jU
 have p:=F.pos
 have g:=G.pos
 unfold bg
 generalize (nf a b).1=q at C |-
 generalize (nf a b).2=r at C p |-
 generalize (nf c d).1=Q at e |-
 generalize (nf c d).2=r2 at e g |-
 refine ace.mpr ?_
 have k:q * r2 * (b * d)=a * d * (r * r2):=by
   have:q * r2 * (b * d)=q * b * (r2 * d):=by grind
   rw [this,C];grind
 have K:Q * r * (b * d)=c * b * (r * r2):=by
   have:Q * r * (b * d)=Q * d * (r * b):=by grind
   rw [this,e];grind
 have z:0<b * d:=aaN h H
 have f:0<r * r2:=aaN p g
 constructor
 .
  intro l
  have:=abg l z
  rw [k,K] at this
  exact abh this (abd f)
 .
  intro l
  have:=abg l f
  rw [<- k,<- K] at this
  exact abh this (abd z)
def pB {a b c:cq} (p:0<a.2) (d:0<b.2) (e:0<c.2) (x:bg a b=false) (y:bg b c=false):bg a c=false:=by
 unfold bg at x y |-
 have x:=acQ.mp (abZ x)
 have y:=acQ.mp (abZ y)
 refine aap (acQ.mpr ?_)
 have u:=acv x (abd e)
 have v:=acv y (abd p)
 have E:b.1 * a.2 * c.2=b.1 * c.2 * a.2:=by grind
 have f:c.1 * b.2 * a.2=c.1 * a.2 * b.2:=by grind
 have g:a.1 * b.2 * c.2=a.1 * c.2 * b.2:=by grind
 exact Int.le_of_mul_le_mul_right (by lia:c.1 * a.2 * b.2<=a.1 * c.2 * b.2) d
structure BM (s t:Int×Int):Prop where
 p:0<s.2
 q:0<t.2
 le:s.1 * t.2<=t.1 * s.2
def BM.step {s t:Int×Int} (h:BM s t) {d:Pr} (b:0<d.1.2) (c:0<d.2.2):BM (s.1 * (d.1.2 * d.2.2)+d.1.1 * d.2.1 * s.2,s.2 * (d.1.2 * d.2.2)) (t.1 * (d.1.2 * d.2.2)+d.1.1 * d.2.1 * t.2,t.2 * (d.1.2 * d.2.2)):=by
 have a:0<d.1.2 * d.2.2:=aaN b c
 generalize d.1.2 * d.2.2=D at a
 generalize d.1.1 * d.2.1=A
 refine ⟨aaN h.p a,aaN h.q a,?_⟩
 show (s.1 * D+A * s.2) * (t.2 * D)<=(t.1 * D+A * t.2) * (s.2 * D)
 have e:(s.1 * D+A * s.2) * (t.2 * D)=D * D * (s.1 * t.2)+A * s.2 * t.2 * D:=by grind
 have E:(t.1 * D+A * t.2) * (s.2 * D)=D * D * (t.1 * s.2)+A * s.2 * t.2 * D:=by grind
 have:=acy h.le (abd (aaN a a))
 lia
def BM.swap {s:Int×Int} (H:0<s.2) {a w W:cq} (A:0<=a.1) (p:0<a.2) (b:0<w.2) (Q:0<W.2) (h:bg W w=false):BM (s.1 * (a.2 * w.2)+a.1 * w.1 * s.2,s.2 * (a.2 * w.2)) (s.1 * (a.2 * W.2)+a.1 * W.1 * s.2,s.2 * (a.2 * W.2)):=by
 refine ⟨aaN H (aaN p b),aaN H (aaN p Q),?_⟩
 have h:w.1 * W.2<=W.1 * w.2:=acQ.mp (abZ h)
 show (s.1 * (a.2 * w.2)+a.1 * w.1 * s.2) * (s.2 * (a.2 * W.2))<=(s.1 * (a.2 * W.2)+a.1 * W.1 * s.2) * (s.2 * (a.2 * w.2))
 have e:(s.1 * (a.2 * w.2)+a.1 * w.1 * s.2) * (s.2 * (a.2 * W.2))=s.1 * s.2 * (a.2 * a.2) * (w.2 * W.2)+a.1 * (a.2 * (s.2 * s.2)) * (w.1 * W.2):=by grind
 have E:(s.1 * (a.2 * W.2)+a.1 * W.1 * s.2) * (s.2 * (a.2 * w.2))=s.1 * s.2 * (a.2 * a.2) * (w.2 * W.2)+a.1 * (a.2 * (s.2 * s.2)) * (W.1 * w.2):=by grind
 have:=acy h (abY A (abd (aaN p (aaN H H))))
 lia
def BM.more {D X:List Pr} (h:BM (eD D) (eD X)) (es:List Pr):(∀ d∈es,0<d.1.2/\0<d.2.2)->BM (eD (D++es)) (eD (X++es)):=by
 refine snoc_ind (p:=λ es=>(∀ d∈es,0<d.1.2/\0<d.2.2)->BM (eD (D++es)) (eD (X++es))) (λ Z=>?_) (λ l d i H=>?_) es
 . rw [abf,abf];exact h
 . rw [<- ab9,<- ab9,gF,gF]
   exact (i λ d a=>H d (aa4 _ a)).step (H d (by simp)).1 (H d (by simp)).2
end
structure AE (m:av) (sk:List (cq×cq×cq)):Prop where
 sh:∀ i,av.fO { m with aN:=sk } i=m.fO i
 nn:∀ i,0<=(m.fO i).1
 lo:∀ i,bg (gC { m with aN:=sk } i).2.1 (gC m i).2.1=false
 hi:∀ i,bg (gC m i).2.2 (gC { m with aN:=sk } i).2.2=false
section
variable {m:av} {sk:List (cq×cq×cq)} {s:cD} {i:Nat} {b:Bool}
theorem AE.share (N:AE m sk) (i j:Nat):av.share { m with aN:=sk } i j=m.share i j:=by
 unfold av.share av.own av.ge
 rw [N.sh];rfl
def oP (w:m.Wf) (i:Nat):dY 100 (gC m i).2.1/\dY 100 (gC m i).2.2:=by
 unfold gC
 cases e:m.aN[i]? with
 | none=>exact ⟨Yf (by decide),Yf (by decide)⟩
 | some z=>exact (w.aN z (aah e)).2
def FX (h:m.has i=true):∃ z,m.bv[i]?=some (some z):=by
 unfold av.has av.pW at h
 cases q:m.bv[i]? with
 | none=>rw [q] at h;cases h
 | some z =>
   cases z with
   | none=>rw [q] at h;cases h
   | some z=>exact ⟨z,rfl⟩
def AE.warm (N:AE m sk) (n:m.Wf) (A:av.Wf { m with aN:=sk }) (c:m.rows.length<=4) {cw:List cq} (L:cw.length=m.rows.length) (e:∀ f∈cw,dY 120 f) {w W:cq} (o:dY 100 w) (S:dY 100 W) (g:b=true->∃ z,m.bv[i]?=some (some z)) (h:bg W w=false) :
   bg (fG { m with aN:=sk } i cw W b) (fG m i cw w b)=false/\bg (fG m i cw w b) (fG m i cw w b)=false:=by
 obtain ⟨k,Z,Z⟩:=ie (i:=i) (fired:=b) n c L e (o.mono (by decide)) g
 obtain ⟨K,Z,Z⟩:=ie (m:={ m with aN:=sk }) (i:=i) (fired:=b) A c L e (S.mono (by decide)) g
 have E:cX { m with aN:=sk } i cw=cX m i cw:=by
   unfold cX
   exact abR λ j Z=>by rw [N.share]
 have O:=n.fO i
 have l:BM (eD (eI m i cw w b)) (eD (eI { m with aN:=sk } i cw W b)):=by
   unfold eI at k |-
   rw [E,N.sh]
   refine BM.more ?_ _ λ d H=>⟨(k d (aaP _ H)).a.p,(k d (aaP _ H)).b.p⟩
   rw [gF,gF]
   exact BM.swap (xh λ d H=>k d (aa4 _ (aa4 _ H))) (N.nn i) O.p o.p S.p h
 unfold fG
 rw [uj l.q l.p,uj l.p l.p]
 exact ⟨aap (acQ.mpr l.le),aap (Int.lt_irrefl _)⟩
def AE.Ro (N:AE m sk) (c:m.Wf) (A:av.Wf { m with aN:=sk }) (g:m.rows.length<=4) {cw:List cq} (L:cw.length=m.rows.length) (n:∀ f∈cw,dY 120 f) {w W:cq} (o:dY 100 w) (S:dY 100 W) (r:b=true->∃ z,m.bv[i]?=some (some z)) (h:bg w W=false) :
   bg (fG m i cw w b) (fG { m with aN:=sk } i cw W b)=false:=by
 obtain ⟨k,Z,Z⟩:=ie (i:=i) (fired:=b) c g L n (o.mono (by decide)) r
 have e:cX { m with aN:=sk } i cw=cX m i cw:=by
   unfold cX
   exact abR λ j Z=>by rw [N.share]
 have O:=c.fO i
 have l:BM (eD (eI { m with aN:=sk } i cw W b)) (eD (eI m i cw w b)):=by
   unfold eI at k |-
   rw [e,N.sh]
   refine BM.more ?_ _ λ d H=>⟨(k d (aaP _ H)).a.p,(k d (aaP _ H)).b.p⟩
   rw [gF,gF]
   exact BM.swap (xh λ d H=>k d (aa4 _ (aa4 _ H))) (N.nn i) O.p S.p o.p h
 unfold fG
 rw [uj l.q l.p]
 exact aap (acQ.mpr l.le)
def AE.span (N:AE m sk) (w:m.Wf) (A:av.Wf { m with aN:=sk }) (h:m.rows.length<=4) (S:eX m s) (c:b=true->m.has i=true) :
   bg (je { m with aN:=sk } i s.cJ b) (je m i s.cJ b)=false/\bg (iZ m i s.cJ b) (iZ { m with aN:=sk } i s.cJ b)=false:=by
 have a:∀ j,j<m.rows.length->s.cJ.getD j 0+1<(m.rows.getD j []).length:=λ j f=>by rw [<- sZ];exact S.band j f
 have len:∀ d,(f9 m s.cJ d).length=m.rows.length:=λ d=>by
   unfold f9
   rw [No,aam,S.lb]
 have H:=λ e=>FX (c e)
 exact ⟨(N.warm w A h (len 0) (kr w S.lb a (by decide)) (oP w i).1 (oP A i).1 H (N.lo i)).1,N.Ro w A h (len 1) (kr w S.lb a (by decide)) (oP w i).2 (oP A i).2 H (N.hi i)⟩
def AE.row (N:AE m sk) (w:m.Wf) (A:av.Wf { m with aN:=sk }) (t:m.rows.length<=4) (y:FF m s) (S:FF { m with aN:=sk } s) (v:eX m s) {u:Nat} (hi:i<m.rows.length) (b:u.testBit i=true->m.has i=true) {l:aS} (e:kW m s u i=some l) :
   ∃ L,kW { m with aN:=sk } s u i=some L/\∀ x∈L,x∈l:=by
 obtain ⟨o,O⟩:=y i _ hi b
 obtain ⟨q,r⟩:=S i _ hi b
 obtain ⟨n,k⟩:=N.span w A t v b
 have g:m.rows.getD i []∈m.rows:=by rw [PY,aL hi];exact aay hi
 have z:=(w.len _ g).1
 have a:∀ j,j<(m.rows.getD i []).length->0<((m.rows.getD i []).getD j (0,1)).2:=λ j f=>by
   rw [PY (l:=m.rows.getD i []),aL f]
   exact (w.rows _ g _ (aay f)).p
 unfold kW d7 at e |-
 split at e
 .
  rename_i c
  cases e
  unfold iS at c
  simp only [aaY,acR] at c
  have C:iS (m.rows.getD i []) (je { m with aN:=sk } i s.cJ (u.testBit i)) (iZ { m with aN:=sk } i s.cJ (u.testBit i))=true:=by
    unfold iS
    rw [pB q.p o.p (a 0 (by lia)) n c.1,pB (a _ (by lia)) O.p r.p c.2 k];rfl
  refine ⟨_,aau C,λ x d=>?_⟩
  have d:x∈og (m.rows.getD i []) (je { m with aN:=sk } i s.cJ (u.testBit i)) (iZ { m with aN:=sk } i s.cJ (u.testBit i)):=d
  obtain ⟨H,h⟩:=aa3.mp d
  refine aa3.mpr ⟨H,?_⟩
  have H:=aaJ.mp H
  unfold oI at h |-
  simp only [aaY,acR] at h
  rw [pB O.p r.p (a x (by lia)) k h.1,pB (a (x+1) (by lia)) q.p o.p h.2 n];rfl
 . cases e
def AE.suc (N:AE m sk) (W:m.Wf) (A:av.Wf { m with aN:=sk }) (g:DZ m) (g':DZ { m with aN:=sk }) (S:eX m s) {o:Nat} (r:o∈s.orders m) {l:List cD} (e:jg m s o=some l) :
   ∃ L,jg { m with aN:=sk } s o=some L/\∀ x∈L,x∈l:=by
 unfold jg at e
 split at e
 .
  rename_i w
  cases e
  have T:=g.tn s o S r
  have k:∀ O∈dD m s o,∀ i,i<m.rows.length->∃ l L,kW m s (Ord.off o O) i=some l/\kW { m with aN:=sk } s (Ord.off o O) i=some L/\∀ x∈L,x∈l:=λ O a i hi=>by
    have n:=abv.mp (abv.mp w O a) i (aaJ.mpr hi)
    obtain ⟨l,E⟩:=abP.mp n
    have t:=T O a
    obtain ⟨L,p,b⟩:=N.row W A g.h4 (g.sp s S) (g'.sp s ⟨S.lb,S.lw,S.lf,S.cB,S.most,S.heap,S.band,S.bX⟩) S hi (λ h=>(t.Ky (t.Lk h).1).2) E
    exact ⟨l,L,E,p,b⟩
  have j:(dD { m with aN:=sk } s o).all (λ O=>jq { m with aN:=sk } s (Ord.off o O))=true:=abv.mpr λ O a=>abv.mpr λ i hi=>by
    obtain ⟨_,L,_,p,_⟩:=k O a i (aaJ.mp hi)
    rw [p];rfl
  refine ⟨_,aau j,λ x f=>?_⟩
  obtain ⟨O,a,f⟩:=abl.mp f
  obtain ⟨c,q,rfl⟩:=aaE.mp f
  obtain ⟨u,v⟩:=fY.mp q
  have d:∀ m:av,(gr m s (Ord.off o O)).length=m.rows.length:=λ m=>by unfold gr;rw [No,aam]
  refine abl.mpr ⟨O,a,aaE.mpr ⟨c,fY.mpr ⟨by rw [u,d,d],λ i hi=>?_⟩,rfl⟩⟩
  rw [d] at hi
  obtain ⟨l,L,E,p,b⟩:=k O a i hi
  have H:=v i (by rw [d];exact hi)
  unfold gr at H |-
  rw [PY (l:=List.map _ _),Zj,abe hi,ab3] at H
  rw [PY (l:=List.map _ _),Zj,abe hi,ab3]
  have H:c.getD i 0∈(kW { m with aN:=sk } s (Ord.off o O) i).getD []:=H
  show c.getD i 0∈(kW m s (Ord.off o O) i).getD []
  rw [p] at H
  rw [E]
  exact b _ H
 . cases e
theorem AE.ill (N:AE m sk) (w:m.Wf) (A:av.Wf { m with aN:=sk }) (g:DZ m) (g':DZ { m with aN:=sk }):∀ (k:Nat) (s:cD),eX m s->sr { m with aN:=sk } k s->sr m k s
 | 0,_,_,q=>q
 | k+1,s,a,q=>λ o h=>by
   cases e:jg m s o with
   | none=>exact .inl rfl
   | some l =>
     obtain ⟨L,E,S⟩:=N.suc w A g g' a h e
     rcases q o h with z|⟨d,z,t,c,i⟩
     . rw [E] at z;cases z
     .
      rw [E] at z
      cases z
      have H:=S t c
      have b:l=qA m s o:=by
        unfold jg at e
        split at e
        . cases e;rfl
        . cases e
      exact .inr ⟨l,rfl,t,H,AE.ill N w A g g' k t (g.nx s o t a h (b ▸ H)) i⟩
end
structure R8 where
 marks:List cq
 share:Int
 lo:cq
 hi:cq
 bX:Option (cq×Int×Int×Int)
 cb:List Int
def Hs (r:R8):PyData:=.tuple [.list (r.marks.map dW),.tuple [.int r.share,dW r.lo,dW r.hi],fz r.bX,.list (r.cb.map PyData.int)]
def R8.fl (r:R8) (j:Nat):Int:=r.cb.getD j 0
structure R8.Ok (n k:Nat) (r:R8):Prop where
 len:2<=r.marks.length/\r.marks.length<=7
 ok:∀ f∈r.marks,dY 100 f
 ri:tj r.marks=true
 sh:1<=r.share/\r.share<=4
 RY:dY 100 r.lo
 SH:dY 100 r.hi
 le:bg r.hi r.lo=false
 st:∀ z,r.bX=some z->dY 100 z.1/\0<=z.1.1/\(0<=z.2.1/\z.2.1<=9)/\(0<=z.2.2.1/\z.2.2.1<=3)/\(0<=z.2.2.2/\z.2.2.2<=3)
 fn:r.cb.length=n
 fb:∀ j,0<=r.fl j/\r.fl j<=3
 own:r.fl k=0
 sum:r.share+m7 r.fl n<=12
def cV (rs:List R8) (i:Nat):R8:=rs.getD i ⟨[],0,(0,1),(0,1),none,[]⟩
structure CU (rs:List R8):Prop where
 n1:1<=rs.length
 n4:rs.length<=4
 ok:∀ i,i<rs.length->(cV rs i).Ok rs.length i
 tM:rs.length=1\/∀ i,i<rs.length->(cV rs i).marks.length<=3
def jH (rs:List R8) (p q i j:Nat):Int:=if i<p\/(i=p/\j<q) then (cV rs i).fl j else 0
def xK (rs:List R8) (s i:Nat):cq×cq×cq:=if i<s then (nf (cV rs i).share 12,(cV rs i).lo,(cV rs i).hi) else ((0,1),(0,1),(0,1))
structure mL (rs:List R8) (b:Int×Int×Int) (s p q t:Nat) (m:av):Prop where
 most:m.most=b.1
 d6:m.d6=b.2.1
 load:m.load=b.2.2
 rows:m.rows=rs.map R8.marks
 oK:m.aN=(List.range rs.length).map (xK rs s)
 st:m.bv=(List.range rs.length).map λ i=>if i<t then (cV rs i).bX else none
 fl:m.cb=λ i j=>if 0<=i/\0<=j/\0<jH rs p q i.toNat j.toNat then some (nf (jH rs p q i.toNat j.toNat) 12) else none
section
variable {rs:List R8} {b:Int×Int×Int} {s p q t:Nat} {m:av}
theorem fV {i:Nat} (h:i<rs.length):rs[i]?=some (cV rs i):=by
 unfold cV
 rw [PY,aL h];rfl
theorem mL.len (h:mL rs b s p q t m):m.rows.length=rs.length:=by rw [h.rows,No]
theorem set_range {a:Type} {n k:Nat} {F:Nat->a} {x:a} (h:k<n):((List.range n).map F).set k x=(List.range n).map λ i=>if i=k then x else F i:=by
 refine List.ext_getElem? λ i=>?_
 rw [List.getElem?_set,No,aam,Zj,Zj]
 by_cases hi:i<n
 .
  rw [abe hi]
  by_cases e:k=i
  . rw [aau e,aau h]
    show some x=some (if i=k then x else F i)
    rw [aau e.symm]
  . rw [aax e]
    show some (F i)=some (if i=k then x else F i)
    rw [aax (acx e)]
 .
  rw [aa8 (l:=List.range n) (by rw [aam];lia)]
  by_cases e:k=i
  . rw [aau e,aau h];lia
  . rw [aax e];rfl
theorem mL.rE {k:Nat} (h:mL rs b k p q t m) (H:k<rs.length):mL rs b (k+1) p q t (m.rE k (nf (cV rs k).share 12,(cV rs k).lo,(cV rs k).hi)):=by
 refine ⟨h.most,h.d6,h.load,h.rows,?_,h.st,h.fl⟩
 show m.aN.set k _=_
 rw [h.oK,set_range H]
 refine abR λ i Z=>?_
 unfold xK
 by_cases e:i=k
 . rw [aau e,aau (by lia),e]
 .
  rw [aax e]
  by_cases E:i<k
  . rw [aau E,aau (by lia)]
  . rw [aax E,aax (by lia)]
theorem mL.jW {k:Nat} {z:cq×Int×Int×Int} (h:mL rs b s p q k m) (H:k<rs.length) (a:(cV rs k).bX=some z):mL rs b s p q (k+1) (m.jW k z):=by
 refine ⟨h.most,h.d6,h.load,h.rows,h.oK,?_,h.fl⟩
 show m.bv.set k _=_
 rw [h.st,set_range H]
 refine abR λ i Z=>?_
 by_cases e:i=k
 . rw [aau e,aau (by lia),e,a]
 .
  rw [aax e]
  by_cases E:i<k
  . rw [aau E,aau (by lia)]
  . rw [aax E,aax (by lia)]
theorem mL.IC {k:Nat} (h:mL rs b s p q k m) (H:(cV rs k).bX=none):mL rs b s p q (k+1) m:=by
 refine ⟨h.most,h.d6,h.load,h.rows,h.oK,?_,h.fl⟩
 rw [h.st]
 refine abR λ i Z=>?_
 by_cases e:i=k
 . rw [aax (by lia),aau (by lia),e,H]
 . by_cases E:i<k
   . rw [aau E,aau (by lia)]
   . rw [aax E,aax (by lia)]
theorem GJ (rs:List R8) (p q:Nat):jH rs p q p q=0:=by unfold jH;rw [aax (by lia)]
theorem zM (rs:List R8) (p q i j:Nat):jH rs p (q+1) i j=if i=p/\j=q then (cV rs p).fl q else jH rs p q i j:=by
 unfold jH
 by_cases e:i=p/\j=q
 . rw [aau (by lia),aau e,e.1,e.2]
 .
  rw [aax e]
  by_cases E:i<p\/(i=p/\j<q)
  . rw [aau E,aau (by lia)]
  . rw [aax E,aax (by lia)]
theorem mL.j4 (h:mL rs b s p q t m) (H:0<(cV rs p).fl q):mL rs b s p (q+1) t (m.j4 p q (nf ((cV rs p).fl q) 12)):=by
 refine ⟨h.most,h.d6,h.load,h.rows,h.oK,h.st,?_⟩
 show (λ a c=>if a=(p:Int)/\c=(q:Int) then some (nf ((cV rs p).fl q) 12) else m.cb a c)=_
 rw [h.fl]
 funext i j
 show (if i=(p:Int)/\j=(q:Int) then some (nf ((cV rs p).fl q) 12) else if 0<=i/\0<=j/\0<jH rs p q i.toNat j.toNat then some (nf (jH rs p q i.toNat j.toNat) 12) else none)=_
 rw [zM rs p q i.toNat j.toNat]
 by_cases e:i=(p:Int)/\j=(q:Int)
 .
  obtain ⟨rfl,rfl⟩:=e
  rw [aau (show (p:Int)=p/\(q:Int)=q from ⟨rfl,rfl⟩)]
  simp only [aaV]
  rw [aau (show True/\True from ⟨trivial,trivial⟩),aau ⟨aba _,aba _,H⟩]
 .
  rw [aax e]
  by_cases E:0<=i/\0<=j
  . rw [aax (show ¬ (i.toNat=p/\j.toNat=q) by lia)]
  . rw [aax (λ z=>E ⟨z.1,z.2.1⟩),aax (λ z=>E ⟨z.1,z.2.1⟩)]
theorem mL.L8 (h:mL rs b s p q t m) (H:(cV rs p).fl q=0):mL rs b s p (q+1) t m:=by
 refine ⟨h.most,h.d6,h.load,h.rows,h.oK,h.st,?_⟩
 rw [h.fl]
 have e:∀ i j,jH rs p (q+1) i j=jH rs p q i j:=λ i j=>by
   rw [zM]
   by_cases e:i=p/\j=q
   . rw [aau e,H,e.1,e.2,GJ]
   . rw [aax e]
 simp only [e]
theorem mL.Gv (h:mL rs b s p q t m) (H:(cV rs p).cb.length<=q):mL rs b s (p+1) 0 t m:=by
 refine ⟨h.most,h.d6,h.load,h.rows,h.oK,h.st,?_⟩
 rw [h.fl]
 have e:∀ i j,jH rs (p+1) 0 i j=jH rs p q i j:=λ i j=>by
   unfold jH
   by_cases e:i<p
   . rw [aau (by lia),aau (by lia)]
   .
    by_cases E:i=p
    . rw [aau (by lia)]
      by_cases a:j<q
      . rw [aau (by lia)]
      . rw [aax (by lia),E]
        unfold R8.fl
        rw [PY,aa8 (by lia)];rfl
    . rw [aax (by lia),aax (by lia)]
 simp only [e]
theorem mL.sh (h:mL rs b s p q t m) (H:∀ i j,0<=(cV rs i).fl j):xj 12 (λ i=>if i<s/\i<rs.length then (cV rs i).share else 0) (jH rs p q) m:=by
 refine ⟨λ i=>?_,λ i j=>?_⟩
 .
  unfold av.fO
  rw [h.oK,Zj]
  by_cases hi:i<rs.length
  .
   rw [abe hi]
   show Ov 12 _ (xK rs s i).1
   unfold xK
   by_cases e:i<s
   . rw [aau ⟨e,hi⟩,aau e];exact Ov.nf (by decide)
   . rw [aax (by lia),aax e];exact yq
  . rw [aa8 (by rw [aam];lia),aax (by lia)];exact yq
 .
  unfold av.kq
  rw [h.fl]
  show Ov 12 _ ((if 0<=(i:Int)/\0<=(j:Int)/\0<jH rs p q (i:Int).toNat (j:Int).toNat then some (nf (jH rs p q (i:Int).toNat (j:Int).toNat) 12) else none).getD (0,1))
  have E:0<=jH rs p q i j:=by
    unfold jH
    split
    . exact H i j
    . exact aa5 _
  by_cases e:0<jH rs p q i j
  . rw [aau ⟨aba _,aba _,by rw [aaV,aaV];exact e⟩,aaV,aaV]
    exact Ov.nf (by decide)
  . rw [aax (by rw [aaV,aaV];exact λ z=>e z.2.2)]
    have:jH rs p q i j=0:=by lia
    rw [this]
    exact yq
theorem PH (H:∀ j,0<=(cV rs p).fl j):∀ n,0<=sumF (jH rs p q) p n/\sumF (jH rs p q) p n<=m7 (cV rs p).fl n
 | 0=>⟨aa5 _,aa5 _⟩
 | n+1=>by
   obtain ⟨a,c⟩:=PH H n
   have h:=H n
   have e:0<=jH rs p q p n/\jH rs p q p n<=(cV rs p).fl n:=by
     unfold jH
     split
     . exact ⟨h,aa5 _⟩
     . exact ⟨aa5 _,h⟩
   show 0<=sumF (jH rs p q) p n+jH rs p q p n/\sumF (jH rs p q) p n+jH rs p q p n<=m7 (cV rs p).fl n+(cV rs p).fl n
   lia
end
def U9 {ns:List Int} {n:Nat} (h:ns.length=n+2):vF (ns.map V.int) (some 2) none=(ns.drop 2).map V.int:=by
 rw [D3]
 unfold LS
 have e:HT.tf ns.length 0 (some 2)=2:=by
   unfold HT.tf
   simp
   lia
 rw [e]
 have E:HT.tf ns.length ns.length none=ns.length:=rfl
 rw [E,abb (by rw [ac1];lia)]
def mM {ns:List Int} {i:Nat} (h:i<ns.length):oh (ns.map V.int) (i:Int)=some (.int (ns.getD i 0)):=by
 refine cm ?_
 rw [Zj,PY,aL h];rfl
inductive DC (vs:aB) (H:Hp) (Q:VK) (_E:XK):Prop|mk (c:Int) (m:Nat) (_:vs=[.int c,aq m]) (_:m<=100) (_:∀ p (ns:List Int) H',aG H H'->H' p=some (.lst (ns.map V.int))->ns.length=m->(∀ z∈ns,0<=z/\z<2 ^ 31)->Q (.ref p) H')
inductive IV (vs:aB) (H:Hp) (Q:VK) (_E:XK):Prop|mk (a b:Int) (_:vs=[.int a,.int b]) (_:0<=a) (_:0<=b) (_:∀ r:Int,r=((Int.gcd a b:Nat):Int)->Q (.int r) H)
inductive Rk (vs:aB) (H:Hp) (Q:VK) (_E:XK):Prop|mk (a b:Int) (_:vs=[.int a,.int b]) (_:0<b) (_:Bd 400 a) (_:Bd 400 b) (_:∀ p H',aG H H'->H' p=some (.tup [.int (nf a b).1,.int (nf a b).2])->Q (.ref p) H')
inductive FS (K:aE) (vs:aB) (H:Hp) (Q:VK) (_E:XK):Prop|mk (num p:_) (s:nH) (_:vs=[.int num,.ref p]) (_:bY K H p s.vs) (_:s.Ok) (_:num.natAbs<=1000) (_:∀ q H',aG H H'->H' q=some (.tup [.int (aR num 1 s).1,.int (aR num 1 s).2])->Q (.ref q) H')
structure GV (n:Nat) (ms:List Int):Prop where
 len:ms.length=n+1
 ri:∀ (a:Nat) (x y:Int),ms[a]?=some x->ms[a+1]?=some y->x<y
 bd:∀ x∈ms,-30<=x/\x<=150
 wide:∀ x y,ms[0]?=some x->ms[n]?=some y->x+2<=y
section
variable (K:aE)
def Xs (H:Hp) (p:am) (n:Nat):Prop:=∃ N:List Int,aX K H p (N.map V.int)/\N.length=n
def Ci (H:Hp) (n:Nat) (v:V):Prop:=v = .cC\/∃ p a b,v = .ref p/\bY K H p [.int a,.int b]/\-30<=a/\b<=150/\a+2<=b
inductive Eb (vs:aB) (H:Hp) (Q:VK) (_E:XK):Prop|mk (px n ev:_) (_:vs=[.ref px,aq n,ev]) (_:Xs K H px 17) (_:1<=n) (_:n<=6) (_:Ci K H n ev) (_:(ev = .cC\/n<=2)) (_:∀ q H' ms,aG H H'->H q=none->H' q=some (.lst (ms.map V.int))->GV n ms->Q (.ref q) H')
structure KQ (s:Int×Int×Int):Prop where
 sh:1<=s.1/\s.1<=4
 le:s.2.1<=s.2.2
 lo:s.2.1.natAbs<=300
 hi:s.2.2.natAbs<=300
inductive Jo (vs:aB) (H:Hp) (Q:VK) (_E:XK):Prop|mk (px pm ms n fi:_) (_:vs=[.ref px,.ref pm,.bl fi]) (_:Xs K H px 17) (_:aX K H pm (ms.map V.int)) (_:1<=n) (_:GV n ms) (_:∀ q H' (s:Int×Int×Int),aG H H'->H' q=some (.tup [.int s.1,.int s.2.1,.int s.2.2])->KQ s->Q (.ref q) H')
def kK:List (aS×aS×Nat×Nat):=[([2],[0],0,30),([6],[1],0,2),([4],[2],2,5),([2,2],[1,1],1,4),([1,1,2,2],[0,0,1,1],0,3),([2,2,2],[0,0,0],0,2)]
structure ve (bs:aS) (fs:List Bool) (z:Int×Int×Int×Int) (b:Int×Int×Int) (k:aS×aS×Nat×Nat):Prop where
 kk:k∈kK
 lb:bs.length=k.1.length
 lf:fs.length=k.1.length
 bb:∀ i,i<bs.length->1<=bs.getD i 0/\bs.getD i 0<=k.1.getD i 0
 ff:∀ i,fs[i]?=some true->z.2.1<=(k.2.1.getD i 0:Int)
 zz:0<=z.1/\z.1<=(k.2.2.1:Int)/\(0<=z.2.2.1/\z.2.2.1<=2)/\(0<=z.2.2.2/\z.2.2.2<=1/\z.2.2.2<=z.2.1)/\z.2.1<=2
 b0:0<=b.1/\b.1<=4
 b1:0<=b.2.1/\b.2.1<=30/\(b.2.1+2<=(k.2.2.2:Int)\/k.2.2.2=30)
 b2:0<=b.2.2/\b.2.2<=2
inductive DQ (vs:aB) (H:Hp) (Q:VK) (_E:XK):Prop|mk (px:_) (_:vs=[.ref px]) (_:Xs K H px 8) (_:∀ q pb pf pz po (bs:aS) (fs:List Bool) (z:Int×Int×Int×Int) (b:Int×Int×Int) k H',aG H H'->H' q=some (.tup [.ref pb,.ref pf,.ref pz,.ref po])->H' pb=some (.lst (bs.map aq))->H' pf=some (.lst (fs.map V.bl))->H' pz=some (.tup [.int z.1,.int z.2.1,.int z.2.2.1,.int z.2.2.2])->H' po=some (.tup [.int b.1,.int b.2.1,.int b.2.2])->ve bs fs z b k->Q (.ref q) H')
end
section
variable {n m l:Nat} {f g h:Bool} {z:Int×Int×Int×Int} {b:Int×Int×Int}
theorem ve.one {B F S Z:Nat} (e:([B],[F],S,Z)∈kK) (N:1<=n) (f:n<=B) (H:z.2.1<=(F:Int)) (g:0<=z.1/\z.1<=(S:Int)/\(0<=z.2.2.1/\z.2.2.1<=2)/\(0<=z.2.2.2/\z.2.2.2<=1/\z.2.2.2<=z.2.1)/\z.2.1<=2) (a:0<=b.1/\b.1<=4) (c:0<=b.2.1/\b.2.1<=30/\(b.2.1+2<=(Z:Int)\/Z=30)) (d:0<=b.2.2/\b.2.2<=2):ve [n] [true] z b ([B],[F],S,Z) :=
 ⟨e,rfl,rfl,λ i hi=>by
   have hi:i<1:=hi
   obtain rfl:i=0:=by lia
   exact ⟨N,f⟩,λ i hi=>by
   have h:=(Br.mp hi).1
   have h:i<1:=h
   obtain rfl:i=0:=by lia
   exact H,g,a,c,d⟩
theorem ve.two (N:1<=n/\n<=2) (M:1<=m/\m<=2) (Z:(0<=z.1/\z.1<=1)/\z.2.1<=1/\(0<=z.2.2.1/\z.2.2.1<=2)/\(0<=z.2.2.2/\z.2.2.2<=z.2.1)) (B:0<=b.1/\b.1<=4) (a:0<=b.2.1/\b.2.1<=2) (c:0<=b.2.2/\b.2.2<=2):ve [n,m] [f,g] z b ([2,2],[1,1],1,4) :=
 ⟨by decide,rfl,rfl,λ i hi=>by
   have hi:i<2:=hi
   have:i=0\/i=1:=by lia
   rcases this with rfl|rfl
   . exact N
   . exact M,λ i hi=>by
   have h:=(Br.mp hi).1
   have h:i<2:=h
   have:i=0\/i=1:=by lia
   rcases this with rfl|rfl
   . exact Z.2.1
   . exact Z.2.1,⟨Z.1.1,Z.1.2,Z.2.2.1,⟨Z.2.2.2.1,by lia,Z.2.2.2.2⟩,by lia⟩,B,⟨a.1,by lia,.inl (by show b.2.1+2<=((4:Nat):Int);lia)⟩,c⟩
theorem ve.four (N:1<=n/\n<=2) (M:1<=m/\m<=2) (B:0<=b.1/\b.1<=4) (a:0<=b.2.1/\b.2.1<=1) (c:0<=b.2.2/\b.2.2<=2):ve [1,1,n,m] [false,false,true,true] (0,1,1,0) b ([1,1,2,2],[0,0,1,1],0,3) :=
 ⟨by decide,rfl,rfl,λ i hi=>by
   have hi:i<4:=hi
   have:i=0\/i=1\/i=2\/i=3:=by lia
   rcases this with rfl|rfl|rfl|rfl
   . exact ⟨aak 1,aak 1⟩
   . exact ⟨aak 1,aak 1⟩
   . exact N
   . exact M,λ i hi=>by
   have h:=(Br.mp hi).1
   have h:i<4:=h
   have:i=0\/i=1\/i=2\/i=3:=by lia
   rcases this with rfl|rfl|rfl|rfl
   . cases hi
   . cases hi
   . decide
   . decide,by decide,B,⟨a.1,by lia,.inl (by show b.2.1+2<=((3:Nat):Int);lia)⟩,c⟩
theorem ve.three (N:1<=n/\n<=2) (M:1<=m/\m<=2) (L:1<=l/\l<=2):ve [n,m,l] [f,g,h] (0,0,0,0) (4,0,0) ([2,2,2],[0,0,0],0,2) :=
 ⟨by decide,rfl,rfl,λ i hi=>by
   have hi:i<3:=hi
   have:i=0\/i=1\/i=2:=by lia
   rcases this with rfl|rfl|rfl
   . exact N
   . exact M
   . exact L,λ i hi=>by
   have H:=(Br.mp hi).1
   have H:i<3:=H
   have:i=0\/i=1\/i=2:=by lia
   rcases this with rfl|rfl|rfl<;>decide,by decide,by decide,by decide,by decide⟩
theorem jd {Q:VK} {bs:aS} {fs:List Bool} {kd:aS×aS×Nat×Nat} (v:ve bs fs z b kd) (k:∀ q g i l j (bs:aS) (fs:List Bool) (z:Int×Int×Int×Int) (b:Int×Int×Int) k H',aG H H'->H' q=some (.tup [.ref g,.ref i,.ref l,.ref j])->H' g=some (.lst (bs.map aq))->H' i=some (.lst (fs.map V.bl))->H' l=some (.tup [.int z.1,.int z.2.1,.int z.2.2.1,.int z.2.2.2])->H' j=some (.tup [.int b.1,.int b.2.1,.int b.2.2])->ve bs fs z b k->Q (.ref q) H') {H1 e h:Hp} {a c d p q:am} (u:aG H H1) (E:H1 a=some (.lst (bs.map aq))) (m:aG H1 e) (n:e c=some (.lst (fs.map V.bl))) (S:aG e h) (r:h d=some (.tup [.int z.1,.int z.2.1,.int z.2.2.1,.int z.2.2.2])) (t:h p=none) (f:upd h p (.tup [.int b.1,.int b.2.1,.int b.2.2]) q=none):Q (.ref q) (upd (upd h p (.tup [.int b.1,.int b.2.1,.int b.2.2])) q (.tup [.ref a,.ref c,.ref d,.ref p])):=by
 have s:=(ak (o:=.tup [.int b.1,.int b.2.1,.int b.2.2]) t).trans (ak (o:=.tup [.ref a,.ref c,.ref d,.ref p]) f)
 exact k q a c d p bs fs z b kd _ (((u.trans m).trans S).trans s) ag (((m.trans S).trans s) _ _ E) ((S.trans s) _ _ n) (s _ _ r) (ak f _ _ ag) v
end
structure WB (sc:nH) (ms:List Int) (s:Int×Int×Int) (zo:Option (Int×Int×Int×Int)) (fl:List Int) (r:R8):Prop where
 marks:r.marks=ms.map λ x=>aR x 1 sc
 share:r.share=s.1
 lo:r.lo=aR s.2.1 1 sc
 hi:r.hi=aR s.2.2 1 sc
 cb:r.cb=fl
 no:zo=none->r.bX=none
 st:∀ z,zo=some z->∃ t,r.bX=some t/\dY 100 t.1/\0<=t.1.1/\(0<=t.2.1/\t.2.1<=z.2.2.1)/\(0<=t.2.2.1/\t.2.2.1<=z.1)/\(0<=t.2.2.2/\t.2.2.2<=z.2.1)
def VT (z:Int×Int×Int×Int):Prop:=(0<=z.1/\z.1<=3)/\(0<=z.2.2.1/\z.2.2.1<=9)/\(0<=z.2.2.2/\z.2.2.2<=z.2.1)/\z.2.1<=3
section
variable (K:aE)
def Fg (H:Hp) (s:V) (Z:Option (Int×Int×Int×Int)):Prop:=(s = .cC/\Z=none)\/∃ p z,s = .ref p/\Z=some z/\bY K H p [.int z.1,.int z.2.1,.int z.2.2.1,.int z.2.2.2]/\VT z
inductive GK (vs:aB) (H:Hp) (Q:VK) (_E:XK):Prop|mk (px pm:_) (ms:List Int) (n ps:_) (s:Int×Int×Int) (sv yE:_) (sc:nH) (pf:_) (fl:List Int) (zo:_) (_:vs=[.ref px,.ref pm,.ref ps,sv,.ref yE,.ref pf]) (_:Xs K H px 17) (_:aX K H pm (ms.map V.int)) (_:n<=6) (_:GV n ms) (_:bY K H ps [.int s.1,.int s.2.1,.int s.2.2]) (_:KQ s) (_:Fg K H sv zo) (_:bY K H yE sc.vs) (_:sc.Ok) (_:H pf=some (.lst (fl.map V.int))) (_:∀ q H' r,aG H H'->(∀ L us,H L=some (.lst us)->L≠pf->Dn K (cU H' [L]) (Hs r) (.ref q))->WB sc ms s zo fl r->Q (.ref q) H')
end
section
variable {sc:nH} {ms:List Int} {s:Int×Int×Int} {zo:Option (Int×Int×Int×Int)} {fl:List Int} {r:R8} {n k m:Nat}
theorem lS {x:Int} (ok:sc.Ok) (h:x.natAbs<=1000):dY 100 (aR x 1 sc):=(Ck (n:=30) ok (by decide) (show x.natAbs<2 ^ 30 by lia) oN).mono (by decide)
theorem NV (ok:sc.Ok) (h:GV m ms):tj (ms.map λ x=>aR x 1 sc)=true:=by
 refine abv.mpr λ b H=>?_
 obtain ⟨i,hi⟩:=aei H
 have a:=(Br.mp hi).1
 rw [ael,ady,No] at a
 have e:ms[i]?=some ms[i]:=aL (by lia)
 have E:ms[i+1]?=some ms[i+1]:=aL (by lia)
 have g:=uD (r:=ms.map λ x=>aR x 1 sc) (i:=i) (by rw [Zj,e];rfl) (by rw [Zj,E];rfl)
 rw [g] at hi
 cases hi
 show bg (aR _ 1 sc) (aR _ 1 sc)=true
 rw [gW ok (by decide)]
 exact aaG (h.ri i _ _ e E)
structure IY (kd:aS×aS×Nat×Nat) (sc:nH) (k:Nat) (r:R8):Prop where
 ok:r.Ok kd.1.length k
 b:r.marks.length<=kd.1.getD k 0+1
 s:∀ z,r.bX=some z->z.2.2.1<=(kd.2.2.1:Int)/\z.2.2.2<=(kd.2.1.getD k 0:Int)
 w:∃ x y:Int,r.lo=aR x 1 sc/\r.hi=aR y 1 sc/\x.natAbs<=300/\y.natAbs<=300
theorem WB.ok (h:WB sc ms s zo fl r) (ok:sc.Ok) (mk:GV m ms) (M:1<=m) (w:m<=6) (S:KQ s) (q:∀ z,zo=some z->VT z) (L:fl.length=n) (F:∀ j,0<=fl.getD j 0/\fl.getD j 0<=3) (own:fl.getD k 0=0) (i:s.1+m7 (λ j=>fl.getD j 0) n<=12):r.Ok n k:=by
 have l:∀ x∈ms,x.natAbs<=1000:=λ x g=>by have:=mk.bd x g;lia
 have u:=S.lo
 have v:=S.hi
 refine ⟨?_,?_,?_,?_,?_,?_,?_,λ t H=>?_,by rw [h.cb];exact L,?_,?_,?_⟩
 . rw [h.marks,No,mk.len];lia
 .
  rw [h.marks]
  intro f p
  obtain ⟨x,g,rfl⟩:=aaE.mp p
  exact lS ok (l x g)
 . rw [h.marks];exact NV ok mk
 . rw [h.share];exact S.sh
 . rw [h.lo];exact lS ok (by lia)
 . rw [h.hi];exact lS ok (by lia)
 . rw [h.lo,h.hi,gW ok (by decide)]
   exact aap (by have:=S.le;lia)
 .
  cases e:zo with
  | none=>rw [h.no e] at H;cases H
  | some z =>
    obtain ⟨T,E,o,a,b,c,d⟩:=h.st z e
    rw [E] at H
    cases H
    obtain ⟨y,A,B,C⟩:=q z e
    exact ⟨o,a,by lia,by lia,by lia⟩
 . intro j;unfold R8.fl;rw [h.cb];exact F j
 . unfold R8.fl;rw [h.cb];exact own
 . have e:r.fl=λ j=>fl.getD j 0:=by funext j;unfold R8.fl;rw [h.cb]
   rw [e,h.share];exact i
theorem zH {kd:aS×aS×Nat×Nat} (h:kd∈kK):1<=kd.1.length/\kd.1.length<=4/\(∀ i,kd.1.getD i 0<=6)/\(2<=kd.1.length->∀ i,kd.1.getD i 0<=2):=by
 have k:∀ (l:aS) (b:Nat),(∀ x∈l,x<=b)->∀ i,l.getD i 0<=b:=λ l b H i=>by
   rw [PY]
   cases e:l[i]? with
   | none=>exact aaZ _
   | some x=>exact H x (aah e)
 unfold kK at h
 simp only [aab,aae,aaT] at h
 rcases h with rfl|rfl|rfl|rfl|rfl|rfl
 . exact ⟨by decide,by decide,k _ _ (by decide),λ h=>absurd h (by decide)⟩
 . exact ⟨by decide,by decide,k _ _ (by decide),λ h=>absurd h (by decide)⟩
 . exact ⟨by decide,by decide,k _ _ (by decide),λ h=>absurd h (by decide)⟩
 . exact ⟨by decide,by decide,k _ _ (by decide),λ Z=>k _ _ (by decide)⟩
 . exact ⟨by decide,by decide,k _ _ (by decide),λ Z=>k _ _ (by decide)⟩
 . exact ⟨by decide,by decide,k _ _ (by decide),λ Z=>k _ _ (by decide)⟩
theorem getD_snoc {fl:List Int} {y:Int} (t:Nat):(fl++[y]).getD t 0=fl.getD t 0/\t≠fl.length\/t=fl.length/\(fl++[y]).getD t 0=y:=by
 simp only [PY]
 by_cases h:t<fl.length
 . rw [aan h];exact .inl ⟨rfl,by lia⟩
 . by_cases e:t=fl.length
   . rw [aa0 (by lia),e,aea];exact .inr ⟨rfl,rfl⟩
   . rw [aa8 (by rw [aaf,aaD];lia),aa8 (by lia)];exact .inl ⟨rfl,e⟩
theorem pj {rs:List R8} {r:R8}:(∀ j,j<rs.length->cV (rs++[r]) j=cV rs j)/\cV (rs++[r]) rs.length=r:=by
 unfold cV
 refine ⟨λ j h=>?_,?_⟩
 . rw [PY,PY,aan h]
 . rw [PY,aa0 (aak _),aea];rfl
theorem IB {kd:aS×aS×Nat×Nat} (h:kd∈kK):kd.2.2.1<=2:=by
 unfold kK at h
 simp only [aab,aae,aaT] at h
 rcases h with rfl|rfl|rfl|rfl|rfl|rfl<;>decide
theorem CD {f:Nat->Int} {c:Int} {k:Nat} (h:∀ j,0<=f j/\f j<=c) (H:f k=0):∀ n,0<=m7 f n/\(m7 f n<=c * (n:Int))/\(k<n->m7 f n<=c * ((n:Int) - 1))
 | 0=>⟨aa5 _,by show (0:Int)<=c * 0;lia,λ z=>absurd z (by lia)⟩
 | n+1=>by
   obtain ⟨a,b,d⟩:=CD h H n
   have m:=h n
   have E:c * ((n+1:Nat):Int)=c * (n:Int)+c:=by push_cast;grind
   have g:c * (((n+1:Nat):Int) - 1)=c * (n:Int):=by push_cast;grind
   have i:c * ((n:Int) - 1)=c * (n:Int) - c:=by grind
   show 0<=m7 f n+f n/\m7 f n+f n<=_/\(_->m7 f n+f n<=_)
   rw [E,g]
   refine ⟨by lia,by lia,λ l=>?_⟩
   by_cases e:k=n
   . subst e;lia
   . have:=d (by lia);rw [i] at this;lia
structure J6 (sc:nH) (rs:List R8) (b:Int×Int×Int) (kd:aS×aS×Nat×Nat):Prop where
 kk:kd∈kK
 n:rs.length=kd.1.length
 r:∀ i,i<rs.length->IY kd sc i (cV rs i)
 b0:0<=b.1/\b.1<=4
 b1:0<=b.2.1/\b.2.1<=30/\(b.2.1+2<=(kd.2.2.2:Int)\/kd.2.2.2=30)
 b2:0<=b.2.2/\b.2.2<=2
end
def wP (K:aE) (H:Hp) (q:am) (rs:List R8) (b:Int×Int×Int):Prop:=∃ a p x,bY K H q [.ref a,.ref p]/\aX K H a x/\bL K H (rs.map Hs) x/\bY K H p [.int b.1,.int b.2.1,.int b.2.2]
theorem wP.same {K:aE} {q:am} {rs:List R8} {b:Int×Int×Int} (h:wP K H q rs b) (s:aG H H'):wP K H' q rs b:=by
 obtain ⟨f,p,x,a,c,d,e⟩:=h
 exact ⟨f,p,x,s.tup a,s.seq c,bL.same s _ d,s.tup e⟩
inductive ES (K:aE) (vs:aB) (H:Hp) (Q:VK) (_E:XK):Prop|mk (ps:_) (ns:List Int) (at_ yE:_) (sc:nH) (_:vs=[.ref ps,aq at_,.ref yE]) (_:aX K H ps (ns.map V.int)) (_:bY K H yE sc.vs) (_:sc.Ok) (_:∀ q rs b kd H',aG H H'->wP K H' q rs b->J6 sc rs b kd->Q (.ref q) H')
section
variable {m:av} {s:cD} {o out:Nat}
def Kq (H:m.rows.length<=4) (p:EL m) (S:eX m s) (b:o∈s.orders m) (l:out∈dD m s o):cx m s o out:=by
 obtain ⟨E,L⟩:=MD H S b
 obtain ⟨u,U⟩:=(qD (yr (s:=s) (o:=o) H)).2 out l
 have a:∀ r,0<=m.wd r/\0<=m.eY r:=λ r=>by
   unfold av.wd av.eY av.pW
   cases e:m.bv[r]? with
   | none=>exact ⟨aa5 _,aa5 _⟩
   | some z =>
     cases z with
     | none=>exact ⟨aa5 _,aa5 _⟩
     | some z =>
       have:=p.bX z (aah e)
       exact ⟨this.2.1.1,this.2.2.1.1⟩
 refine ⟨H,S,L,E,u,λ r h=>?_,λ r=>(a r).1,λ r=>(a r).2,p.Yc.2.1.1,p.Yc.2.2.1⟩
 have:(out &&& s.may m o).testBit r=true:=by rw [U];exact h
 rw [aby] at this
 have:=(aaY _ _ ▸ this:out.testBit r=true/\(s.may m o).testBit r=true).2
 unfold cD.may at this
 rw [Ord.iN] at this
 simp only [aaY,acR,ab8] at this
 exact ⟨this.2.1.1,this.2.1.2,this.2.2⟩
def NX (w:m.Wf) (h:m.rows.length<=4) (f:m.aN.length=m.rows.length) (p:EL m):DZ m:=by
 refine ⟨h,λ s S=>Il w h f S,λ s o S H out L=>Kq h p S H L,λ s o x S H a=>?_⟩
 obtain ⟨out,L,a⟩:=abl.mp a
 obtain ⟨c,d,rfl⟩:=aaE.mp a
 obtain ⟨lc,b⟩:=fY.mp d
 have e:(gr m s (Ord.off o out)).length=m.rows.length:=by unfold gr;rw [No,aam]
 rw [e] at lc b
 refine (Kq h p S H L).next lc λ i hi=>?_
 have:=b i hi
 rw [sZ]
 unfold gr at this
 rw [PY (l:=List.map _ _),Zj,abe hi] at this
 have this:c.getD i 0∈(kW m s (Ord.off o out) i).getD []:=this
 unfold kW d7 at this
 split at this
 . exact Fz this
 . exact absurd this aae
end
section
variable {sc:nH} {rs:List R8} {b:Int×Int×Int} {kd:aS×aS×Nat×Nat} {m:av} {i:Nat}
theorem J6.rooms (h:J6 sc rs b kd):CU rs:=by
 obtain ⟨k,a,c,K⟩:=zH h.kk
 refine ⟨by rw [h.n];exact k,by rw [h.n];exact a,λ i hi=>by rw [h.n];exact (h.r i hi).ok,?_⟩
 by_cases e:rs.length=1
 . exact .inl e
 .
  refine .inr λ i hi=>?_
  have:=K (by have:=h.n;lia) i
  have:=(h.r i hi).b
  lia
structure Ab (rs:List R8) (b:Int×Int×Int) (i:Nat) (m:av):Prop where
 most:m.most=b.1
 d6:m.d6=b.2.1
 load:m.load=b.2.2
 rows:m.rows=(rs.take i).map R8.marks
 oK:m.aN=List.replicate i ((0,1),(0,1),(0,1))
 st:m.bv=List.replicate i none
 fl:m.cb=λ _ _=>none
theorem CJ (h:i<rs.length):rs.take (i+1)=rs.take i++[cV rs i]:=by
 rw [acr,fV h];rfl
theorem Ab.add (h:Ab rs b i m) (hi:i<rs.length):Ab rs b (i+1) (m.sW (cV rs i).marks):=by
 refine ⟨h.most,h.d6,h.load,?_,?_,?_,h.fl⟩
 . show m.rows++[_]=_
   rw [CJ hi,aai,h.rows];rfl
 . show m.aN++[_]=_
   rw [h.oK,adf]
 . show m.bv++[_]=_
   rw [h.st,adf]
theorem wb {a:Type} {x:a} (n:Nat):List.replicate n x=(List.range n).map λ Z=>x:=by
 rw [List.map_const',aam]
theorem Ab.lk (h:Ab rs b rs.length m):mL rs b 0 0 0 0 m:=by
 refine ⟨h.most,h.d6,h.load,by rw [h.rows,aaB],?_,?_,?_⟩
 . rw [h.oK,wb];rfl
 . rw [h.st,wb];rfl
 .
  rw [h.fl]
  funext i j
  have e:jH rs 0 0 i.toNat j.toNat=0:=by unfold jH;rw [aax (by lia)]
  rw [e,aax (by lia)]
theorem Ab.cJ (h:Ab rs b i m) (R:CU rs) (hi:i<rs.length):i9 (m.rows++[(cV rs i).marks])<=400:=by
 have e:m.rows++[(cV rs i).marks]=(rs.take (i+1)).map R8.marks:=by rw [CJ hi,aai,h.rows];rfl
 rcases R.tM with f|t
 .
  have I:i=0:=by lia
  subst I
  have E:m.rows=[]:=by rw [h.rows];rfl
  rw [E]
  show 1 * (((cV rs 0).marks.length:Int) - 1)<=400
  have:=(R.ok 0 hi).len
  lia
 .
  refine GO (λ r c=>?_) (by rw [e,No,aaK];have:=R.n4;lia)
  rw [e] at c
  obtain ⟨q,d,rfl⟩:=aaE.mp c
  obtain ⟨j,H⟩:=aei (aeg d)
  have a:=(Br.mp H).1
  have:cV rs j=q:=by unfold cV;rw [PY,H];rfl
  rw [<- this]
  exact ⟨(R.ok j a).len.1,by have:=t j a;lia⟩
theorem Kc (H:∀ j,0<=(cV rs i).fl j) (q:Nat):∀ n,sumF (jH rs i q) i n+(if q<n then (cV rs i).fl q else 0)<=m7 (cV rs i).fl n
 | 0=>aa5 _
 | n+1=>by
   have I:=Kc H q n
   have h:=H n
   show sumF (jH rs i q) i n+jH rs i q i n+_<=m7 (cV rs i).fl n+(cV rs i).fl n
   by_cases e:n<q
   . have E:jH rs i q i n=(cV rs i).fl n:=by unfold jH;rw [aau (.inr ⟨rfl,e⟩)]
     rw [aax (by lia)] at I |-
     lia
   .
    have E:jH rs i q i n=0:=by unfold jH;rw [aax (by lia)]
    by_cases a:q=n
    . subst a
      rw [aax (by lia)] at I
      rw [aau (by lia)]
      lia
    . rw [aau (by lia)] at I |-
      lia
theorem HX (h:¬ i<rs.length):cV rs i=⟨[],0,(0,1),(0,1),none,[]⟩:=by
 unfold cV
 rw [PY,aa8 (by lia)];rfl
theorem CU.SX (R:CU rs) (i j:Nat):0<=(cV rs i).fl j:=by
 by_cases h:i<rs.length
 . exact ((R.ok i h).fb j).1
 . rw [HX h];exact aa5 _
theorem mL.yo (R:CU rs) (hi:i<rs.length) {t:Nat} (h:mL rs b i i 0 t m):bg (mq (m.own i) (m.fO i)) (nf (cV rs i).share 12)=false:=by
 refine (h.sh R.SX).yo (by decide) (Ov.nf (by decide)) ?_
 rw [h.len]
 have:=(PH (rs:=rs) (p:=i) (q:=0) (R.SX i) rs.length).2
 have:=(R.ok i hi).sum
 lia
theorem mL.ut (R:CU rs) (hi:i<rs.length) {q t:Nat} (a:q<rs.length) (h:mL rs b (i+1) i q t m):bg (mq (m.own i) (m.kq i q)) (nf ((cV rs i).fl q) 12)=false:=by
 refine (h.sh R.SX).ut (by decide) (Ov.nf (by decide)) ?_
 rw [h.len,GJ]
 have H:=Kc (rs:=rs) (i:=i) (R.SX i) q rs.length
 rw [aau a] at H
 show _<=12 - (if i<i+1/\i<rs.length then (cV rs i).share else 0) - _+0
 rw [aau ⟨by lia,hi⟩]
 have:=(R.ok i hi).sum
 lia
abbrev Dg (rs:List R8) (b:Int×Int×Int) (m:av):Prop:=mL rs b rs.length rs.length 0 rs.length m
theorem mL.OI (h:Dg rs b m) (R:CU rs) (B:m.Nd):EL m:=by
 refine ⟨λ s H=>?_,λ x a=>?_,B⟩
 .
  rw [h.oK] at H
  obtain ⟨i,hi,rfl⟩:=aaE.mp H
  have hi:=aaJ.mp hi
  unfold xK
  rw [aau hi]
  exact (R.ok i hi).le
 .
  rw [h.st] at a
  obtain ⟨i,hi,e⟩:=aaE.mp a
  have hi:=aaJ.mp hi
  rw [aau hi] at e
  exact ((R.ok i hi).st x e).2
theorem mL.pW (h:Dg rs b m) (hi:i<rs.length):m.pW i=(cV rs i).bX:=by
 unfold av.pW
 rw [h.st,Zj,abe hi]
 show ((if i<rs.length then (cV rs i).bX else none))=_
 rw [aau hi]
theorem mL.tM (h:Dg rs b m) (P:J6 sc rs b kd) {c:Int} (H:c<=(kd.2.2.2:Int)) {a l:Int}:J8 { m with most:=a,d6:=c,load:=l } (λ i=>kd.1.getD i 0) (λ Z=>kd.2.2.1) (λ i=>kd.2.1.getD i 0) kd.2.2.2:=by
 have L:m.rows.length=kd.1.length:=by rw [h.len,P.n]
 have S:∀ i,i<m.rows.length->m.eY i<=(kd.2.2.1:Int)/\m.fails i<=(kd.2.1.getD i 0:Int):=λ i hi=>by
   rw [h.len] at hi
   unfold av.eY av.fails
   rw [h.pW hi]
   cases e:(cV rs i).bX with
   | none=>exact ⟨aba _,aba _⟩
   | some z=>exact (P.r i hi).s z e
 refine ⟨λ i hi=>?_,λ i hi=>(S i hi).1,λ i hi=>(S i hi).2,H,?_,?_⟩
 .
  have hi:i<m.rows.length:=hi
  rw [h.len] at hi
  show (m.rows.getD i []).length<=_
  rw [h.rows,PY,Zj,fV hi]
  exact (P.r i hi).b
 .
  show nI _ m.rows.length * (2 ^ m.rows.length * (nI _ m.rows.length * (nI _ m.rows.length * _)))<=2000
  rw [L]
  have:=P.kk
  unfold kK at this
  simp only [aab,aae,aaT] at this
  rcases this with rfl|rfl|rfl|rfl|rfl|rfl<;>decide
 .
  show nI _ m.rows.length<=25
  rw [L]
  have:=P.kk
  unfold kK at this
  simp only [aab,aae,aaT] at this
  rcases this with rfl|rfl|rfl|rfl|rfl|rfl<;>decide
def Ez (r:R8):R7:=⟨r.marks.map (·.1),0,0,0,r.bX.map λ z=>(0,z.2)⟩
theorem mL.VR (h:Dg rs b m):Z0 (rs.map Ez) b.1 b.2.1 b.2.2 rs.length m:=by
 refine ⟨h.most,h.d6,h.load,λ i r e=>?_,λ i q hi e=>?_,λ i hi=>?_⟩
 .
  rw [h.rows,Zj] at e
  cases E:rs[i]? with
  | none=>rw [E] at e;cases e
  | some q =>
    rw [E] at e
    cases e
    exact ⟨Ez q,by rw [Zj,E];rfl,by unfold Ez;exact (No ..).symm⟩
 .
  rw [Zj,fV hi] at e
  cases e
  rw [h.pW hi]
  unfold Ez
  cases (cV rs i).bX<;>rfl
 . unfold av.pW
   rw [h.st,aa8 (by rw [No,aam];exact hi)];rfl
end
section
variable (K:aE) (C:am)
inductive FR (vs:aB) (H:Hp) (Q:VK) (_E:XK):Prop|mk (q rs b:_) (_:vs=[.ref q]) (_:wP K H q rs b) (_:CU rs) (_:(0<=b.1/\b.1<=4)) (_:(0<=b.2.1/\b.2.1<=30)) (_:(0<=b.2.2/\b.2.2<=30)) (_:∀ a fp m H',aG H H'->aZ K C H' a fp m->(∀ c∈fp,H c=none)->Dg rs b m->Q (.ref a) H')
inductive DX (vs:aB) (H:Hp) (Q:VK) (_E:XK):Prop|mk (c:Int) q rs b (_:vs=[.int c,.ref q]) (_:wP K H q rs b) (_:CU rs) (_:0<=b.1) (_:0<=b.2.1) (_:∀ q st H',aG H H'->iR K H' q st->(∀ m,Dg rs b m->eX m st)->(st.heap:Int)<=b.2.1->Q (.ref q) H')
end
inductive MA (vs:aB) (H:Hp) (Q:VK) (_E:XK):Prop|mk (u v:Option Nat) (_:vs=[jX v,jX u]) (_:(v=none\/∃ x y,u=some x/\v=some y/\x<=y)) (_:Q (.bl true) H)
section
variable {sc:nH} {x y p:Int}
def TH (ok:sc.Ok):nf ((aR x 1 sc).1 * (aR y 1 sc).2 * (8 - p)+(aR y 1 sc).1 * (aR x 1 sc).2 * p) (8 * (aR x 1 sc).2 * (aR y 1 sc).2)=aR (x * (8 - p)+y * p) 8 sc:=by
 have h:=fZ (parts:=1) ok (by decide)
 have F:=il (t:=eh x 1 sc) h
 have G:=il (t:=eh y 1 sc) h
 have c:(aR x 1 sc).1 * gQ 1 sc=eh x 1 sc * (aR x 1 sc).2:=F.jU
 have C:(aR y 1 sc).1 * gQ 1 sc=eh y 1 sc * (aR y 1 sc).2:=G.jU
 have d:0<(aR x 1 sc).2:=F.pos
 have e:0<(aR y 1 sc).2:=G.pos
 have g:eh (x * (8 - p)+y * p) 8 sc=(8 - p) * eh x 1 sc+p * eh y 1 sc:=by unfold eh;grind
 have H:gQ 8 sc=8 * gQ 1 sc:=by unfold gQ;grind
 have f:aR (x * (8 - p)+y * p) 8 sc=nf (eh (x * (8 - p)+y * p) 8 sc) (gQ 8 sc):=rfl
 rw [f]
 generalize (aR x 1 sc).1=q at c |-
 generalize (aR x 1 sc).2=r at c d |-
 generalize (aR y 1 sc).1=Q at C |-
 generalize (aR y 1 sc).2=R at C e |-
 rw [g,H]
 generalize gQ 1 sc=B at c C h
 generalize eh x 1 sc=a at c
 generalize eh y 1 sc=b at C
 refine Kd (aaN (aaN (by decide) d) e) (aaN (by decide) h) ?_
 have E:(q * R * (8 - p)+Q * r * p) * (8 * B)=8 * (q * B * (R * (8 - p))+Q * B * (r * p)):=by grind
 rw [E,c,C];grind
def J2 (ok:sc.Ok):aR x 1 sc=aR (8 * x) 8 sc:=by
 refine Kd (fZ ok (by decide)) (fZ ok (by decide)) ?_
 unfold eh gQ;grind
end
structure Hz (sc:nH) (rs kZ:List R8):Prop where
 n:kZ.length=rs.length
 r:∀ i,i<rs.length->∃ x y p q:Int,(cV rs i).lo=aR x 1 sc/\(cV rs i).hi=aR y 1 sc/\x.natAbs<=300/\y.natAbs<=300/\(0<=p/\p<=4)/\(0<=q/\q<=4) /\
   cV kZ i={ cV rs i with lo:=aR (x * (8 - p)+y * p) 8 sc,hi:=aR (x * q+y * (8 - q)) 8 sc }
section
variable {sc:nH} {rs kZ:List R8} {b:Int×Int×Int} {m m':av}
theorem WJ {x y p q:Int} (h:x<=y) (d:0<=p/\p<=4) (Q:0<=q/\q<=4):8 * x<=x * (8 - p)+y * p/\x * q+y * (8 - q)<=8 * y/\x * (8 - p)+y * p<=x * q+y * (8 - q):=by
 have a:=abY (show 0<=y - x by lia) d.1
 have b:=abY (show 0<=y - x by lia) Q.1
 have c:=abY (show 0<=y - x by lia) (show 0<=8 - p - q by lia)
 have e:x * (8 - p)+y * p - 8 * x=(y - x) * p:=by grind
 have E:8 * y - (x * q+y * (8 - q))=(y - x) * q:=by grind
 have f:x * q+y * (8 - q) - (x * (8 - p)+y * p)=(y - x) * (8 - p - q):=by grind
 lia
theorem Nh {z:Int} (ok:sc.Ok) (h:z.natAbs<=10000):dY 100 (aR z 8 sc):=(Ck (n:=30) ok (by decide) (show z.natAbs<2 ^ 30 by lia) oN).mono (by decide)
theorem Hz.le {i:Nat} (ok:sc.Ok) (R:CU rs) (hi:i<rs.length) {x y:Int} (e:(cV rs i).lo=aR x 1 sc) (E:(cV rs i).hi=aR y 1 sc):x<=y:=by
 have:=(R.ok i hi).le
 rw [e,E,gW ok (by decide)] at this
 exact acQ.mp (abZ this)
theorem Hz.rooms (N:Hz sc rs kZ) (ok:sc.Ok) (R:CU rs):CU kZ:=by
 refine ⟨by rw [N.n];exact R.n1,by rw [N.n];exact R.n4,λ i hi=>?_,?_⟩
 .
  rw [N.n] at hi |-
  obtain ⟨x,y,p,q,E,a,B,c,b,Q,e⟩:=N.r i hi
  have o:=R.ok i hi
  have X:=Hz.le ok R hi E a
  obtain ⟨l,L,d⟩:=WJ X b Q
  rw [e]
  refine ⟨o.len,o.ok,o.ri,o.sh,Nh ok ?_,Nh ok ?_,?_,o.st,o.fn,o.fb,o.own,o.sum⟩
  . lia
  . lia
  . show bg (aR _ 8 sc) (aR _ 8 sc)=false
    rw [gW ok (by decide)]
    exact aap (by lia)
 .
  rcases R.tM with e|t
  . exact .inl (by rw [N.n];exact e)
  . refine .inr λ i hi=>?_
    rw [N.n] at hi
    obtain ⟨x,y,p,q,E,a,B,c,b,Q,e⟩:=N.r i hi
    rw [e];exact t i hi
theorem Hz.with (N:Hz sc rs kZ) (h:Dg rs b m) (h':Dg kZ b m'):m'={ m with aN:=m'.aN }:=by
 have u:kZ.map R8.marks=rs.map R8.marks:=by
   refine List.ext_getElem? λ i=>?_
   rw [Zj,Zj]
   by_cases hi:i<rs.length
   . rw [fV hi,fV (by rw [N.n];exact hi)]
     obtain ⟨x,y,p,q,g,k,B,E,s,Q,e⟩:=N.r i hi
     rw [e];rfl
   . rw [aa8 (l:=rs) (by lia),aa8 (l:=kZ) (by rw [N.n];lia)]
 have o:m'.bv=m.bv:=by
   rw [h'.st,h.st,N.n]
   refine abR λ i hi=>?_
   have hi:=aaJ.mp hi
   obtain ⟨x,y,p,q,g,k,B,E,s,Q,e⟩:=N.r i hi
   rw [aau hi,aau hi,e]
 have t:jH kZ kZ.length 0=jH rs rs.length 0:=by
   funext i j
   unfold jH
   rw [N.n]
   by_cases hi:i<rs.length
   . obtain ⟨x,y,p,q,g,k,B,E,s,Q,e⟩:=N.r i hi
     rw [aau (.inl hi),aau (.inl hi),e];rfl
   . rw [aax (by lia),aax (by lia)]
 have a:=h'.most.trans h.most.symm
 have A:=h'.d6.trans h.d6.symm
 have c:=h'.load.trans h.load.symm
 have d:m'.rows=m.rows:=by rw [h'.rows,h.rows,u]
 have f:m'.cb=m.cb:=by rw [h'.fl,h.fl,t]
 cases m;cases m'
 simp only at a A c d f o |-
 rw [a,A,c,d,f,o]
theorem Hz.nar (N:Hz sc rs kZ) (ok:sc.Ok) (R:CU rs) (h:Dg rs b m) (h':Dg kZ b m'):AE m m'.aN:=by
 have k:∀ i,(i<rs.length/\∃ x y p q:Int,x<=y/\(0<=p/\p<=4)/\(0<=q/\q<=4)/\m.aN[i]?=some (nf (cV rs i).share 12,aR x 1 sc,aR y 1 sc)/\m'.aN[i]?=some (nf (cV rs i).share 12,aR (x * (8 - p)+y * p) 8 sc,aR (x * q+y * (8 - q)) 8 sc))\/(m.aN[i]?=none/\m'.aN[i]?=none):=λ i=>by
   rw [h.oK,h'.oK,Zj,Zj]
   by_cases hi:i<rs.length
   .
    left
    rw [abe hi,abe (by rw [N.n];exact hi)]
    obtain ⟨x,y,p,q,c,d,B,f,a,Q,e⟩:=N.r i hi
    refine ⟨hi,x,y,p,q,Hz.le ok R hi c d,a,Q,?_,?_⟩
    . show some (xK rs rs.length i)=_
      unfold xK
      rw [aau hi,c,d]
    . show some (xK kZ kZ.length i)=_
      unfold xK
      rw [aau (by rw [N.n];exact hi),e]
   . right
     rw [aa8 (by rw [aam];lia),aa8 (by rw [aam,N.n];lia)]
     exact ⟨rfl,rfl⟩
 refine ⟨λ i=>?_,λ i=>?_,λ i=>?_,λ i=>?_⟩
 .
  unfold av.fO
  rcases k i with ⟨Z,x,y,p,q,Z,Z,Z,e,E⟩|⟨e,E⟩
  . show ((m'.aN[i]?).map (·.1)).getD (0,1)=_
    rw [e,E];rfl
  . show ((m'.aN[i]?).map (·.1)).getD (0,1)=_
    rw [e,E]
 .
  unfold av.fO
  rcases k i with ⟨hi,x,y,p,q,Z,Z,Z,e,E⟩|⟨e,E⟩
  . rw [e]
    exact Ov.nonneg (by decide) (Ov.nf (by decide)) (by have:=(R.ok i hi).sh;lia)
  . rw [e];exact aa5 _
 .
  unfold gC
  rcases k i with ⟨Z,x,y,p,q,X,a,Q,e,E⟩|⟨e,E⟩
  .
   show bg ((m'.aN[i]?).getD _).2.1 ((m.aN[i]?).getD _).2.1=false
   rw [e,E]
   show bg (aR _ 8 sc) (aR x 1 sc)=false
   rw [J2 ok,gW ok (by decide)]
   exact aap (by have:=(WJ X a Q).1;lia)
  . show bg ((m'.aN[i]?).getD _).2.1 ((m.aN[i]?).getD _).2.1=false
    rw [e,E];decide
 .
  unfold gC
  rcases k i with ⟨Z,x,y,p,q,X,a,Q,e,E⟩|⟨e,E⟩
  .
   show bg ((m.aN[i]?).getD _).2.2 ((m'.aN[i]?).getD _).2.2=false
   rw [e,E]
   show bg (aR y 1 sc) (aR _ 8 sc)=false
   rw [J2 ok,gW ok (by decide)]
   exact aap (by have:=(WJ X a Q).2.1;lia)
  . show bg ((m.aN[i]?).getD _).2.2 ((m'.aN[i]?).getD _).2.2=false
    rw [e,E];decide
end
section
variable (K:aE) (C:am)
inductive HP (vs:aB) (H:Hp) (Q:VK) (_E:XK):Prop|mk (v1 v2 p x y:_) (sc:nH) (_:vs=[v1,v2,.int p]) (_:Dn K H (dW (aR x 1 sc)) v1) (_:Dn K H (dW (aR y 1 sc)) v2) (_:sc.Ok) (_:x.natAbs<=300) (_:y.natAbs<=300) (_:(0<=p/\p<=8)) (_:∀ q H',aG H H'->H' q=some (.tup [.int (aR (x * (8 - p)+y * p) 8 sc).1,.int (aR (x * (8 - p)+y * p) 8 sc).2])->Q (.ref q) H')
inductive JB (vs:aB) (H:Hp) (Q:VK) (_E:XK):Prop|mk (q px rs b:_) (sc:nH) (_:vs=[.ref q,.ref px]) (_:wP K H q rs b) (_:sc.Ok) (_:CU rs) (_:(∀ i,i<rs.length->∃ x y:Int,(cV rs i).lo=aR x 1 sc/\(cV rs i).hi=aR y 1 sc/\x.natAbs<=300/\y.natAbs<=300)) (_:Xs K H px 9) (_:∀ q' kZ H',aG H H'->wP K H' q' kZ b->Hz sc rs kZ->Q (.ref q') H')
def wS (kd:aS×aS×Nat×Nat) (m m':av):Prop:=(∃ a c l,m'={ m with most:=a,d6:=c,load:=l }/\m.most<=a/\a<=4/\m.d6<=c/\c<=30/\c<=(kd.2.2.2:Int)/\m.load<=l/\l<=30)\/∃ s,m'={ m with aN:=s }/\AE m s/\EL m'
inductive Bw (vs:aB) (H:Hp) (Q:VK) (_E:XK):Prop|mk (q a px rs b kd fp m:_) (sc:nH) (_:vs=[.ref q,.ref a,.ref px]) (_:wP K H q rs b) (_:sc.Ok) (_:J6 sc rs b kd) (_:aZ K C H a fp m) (_:Dg rs b m) (_:Xs K H px 9) (_:∀ a' mI m' H',aG H H'->aZ K C H' a' mI m'->wS kd m m'->Q (.ref a') H')
end
section
variable {sc:nH} {rs:List R8} {b:Int×Int×Int} {kd:aS×aS×Nat×Nat} {m m':av} {st:cD} {u v:Option Nat}
theorem wS.put (h:wS kd m m') (p:EL m):EL m':=by
 rcases h with ⟨a,c,l,rfl,e,H,f,b,Z,g,d⟩|⟨s,Z,Z,h⟩
 . obtain ⟨q,Q,i⟩:=p.Yc
   exact ⟨p.oK,p.bX,⟨⟨by show 0<=a;lia,H⟩,⟨by show 0<=c;lia,b⟩,⟨by show 0<=l;lia,d⟩⟩⟩
 . exact h
theorem LO (l:Dg rs b m) (P:J6 sc rs b kd):m.d6<=(kd.2.2.2:Int):=by
 rw [l.d6]
 have:=P.b1
 lia
theorem wS.tM (h:wS kd m m') (L:Dg rs b m) (P:J6 sc rs b kd):J8 m' (λ i=>kd.1.getD i 0) (λ Z=>kd.2.2.1) (λ i=>kd.2.1.getD i 0) kd.2.2.2:=by
 rcases h with ⟨a,c,l,rfl,d,e,g,j,H,k,n⟩|⟨S,rfl,Z,Z⟩
 . exact L.tM P H
 . have f:J8 m _ _ _ _:=L.tM P (LO L P) (a:=m.most) (l:=m.load)
   exact ⟨f.b,f.s,f.f,f.cp,f.tM,f.res⟩
theorem wS.state (h:wS kd m m') (s:eX m st):eX m' st:=by
 rcases h with ⟨a,c,l,rfl,H,d,b,e,Z,f,g⟩|⟨S,rfl,Z,Z⟩
 . exact ⟨s.lb,s.lw,s.lf,s.cB,acH s.most H,acH s.heap b,s.band,s.bX⟩
 . exact ⟨s.lb,s.lw,s.lf,s.cB,s.most,s.heap,s.band,s.bX⟩
theorem wS.le (h:wS kd m m') (w:m.Wf) (A:m'.Wf) (g:DZ m) (g':DZ m') (s:eX m st) (r:j7 m st u) (R:j7 m' st v):v=none\/∃ x y,u=some x/\v=some y/\x<=y:=by
 rcases h with ⟨a,c,l,rfl,H,e,b,f,Z,d,i⟩|⟨S,rfl,N,Z⟩
 . exact r.le R λ k q=>tL H b d k st st.heap (aak _) q
 . exact r.le R λ k q=>N.ill w A g g' k st s q
theorem Pg {h:Nat} (l:st.heap<=h) (r:j7 m st u) (R:j7 m { st with heap:=h } v):v=none\/∃ x y,u=some x/\v=some y/\x<=y :=
 r.le R λ k q=>tL (m:=m) (aa5 m.most) (aa5 m.d6) (aa5 m.load) k st h l q
theorem Rp (l:Dg rs b m) (P:J6 sc rs b kd):m.Nd:=by
 unfold av.Nd
 rw [l.most,l.d6,l.load]
 exact ⟨P.b0,⟨P.b1.1,P.b1.2.1⟩,⟨P.b2.1,by have:=P.b2;lia⟩⟩
end
end L2
namespace L2
open PySem PySem.Spec PyProof.Rows Mth
def eO {N Q:de} {sc:Scope} (a:autoParam (sc.kind = .function) za_._auto_1) (b:autoParam (sc.isCoroutine=false) za_._auto_1) (c:autoParam (sc.isGenerator=false) za_._auto_1) (d:autoParam (N.Nodup) zc_._auto_1) (e:autoParam (N.take Q.length=Q) za_._auto_1) (f:autoParam (∀ x∈Q,sc.names.lookup x=some .local\/sc.names.lookup x=some .cell) zc_._auto_1) (g:autoParam (∀ y∈sc.names,y.2 ≠ .free) zc_._auto_1):aC N Q sc:=⟨a,b,c,d,e,f,g⟩
section
variable {X:Cx} {i:Nat} {x:Str} {pos pos':Pos} {e:Expr} {te:TE}
def ij (h:X.N.Nodup) (hi:autoParam (X.N[i]?=some x) za_._auto_1) (a:Loc X.env.scope x:=by exact lc rfl) (H:autoParam (X.fn x=true\/X.env.scope.names.lookup x=some .local) zd_._auto_1):PG X (.Name x pos) (tW i):=CN h hi a H
def k9 (h:X.N.Nodup:=by dsimp only [cF];decide +kernel) (hi:autoParam (X.N[i]?=some x) za_._auto_1) (a:Loc X.env.scope x:=by exact lc rfl) (H:autoParam (X.fn x=true\/X.env.scope.names.lookup x=some .local) zd_._auto_1):PG X (.Name x pos) (tW i):=CN h hi a H
def cL (h:X.N.Nodup) (H:PE X e te) (hi:autoParam (X.N[i]?=some x) za_._auto_1) (c:Loc X.env.scope x:=by exact lc rfl) (b:autoParam (swapsWith e (some (.Name x pos')) pos.line X.env=pure false) za_._auto_1) (a:autoParam (X.fn x=true\/X.env.scope.names.lookup x=some .local) zd_._auto_1):PS X (.Assign [.Name x pos'] e pos) (F0 te (tW i)):=My h hi c H b a
end
end L2
namespace K53
open PySem PySem.Spec PyProof.Rows L2 Mth
seal PE PS vO PPs PA PG MZ PT Km PI
def top (i:Nat):Stmt:=PySem.Challenge.pw_stoke_k53_never_hurts.main.body.getD i (.Pass ⟨0,0,0,0⟩)
abbrev Di:Stmt:=inClass (top 10) 0
abbrev BI:Stmt:=inClass (top 11) 0
abbrev nM:Stmt:=top 13
def yP:aC ["bits","room"] ["bits","room"] (au nM):=eO
abbrev mm:Stmt:=top 14
def xU:aC ["bits","room"] ["bits","room"] (au mm):=eO
abbrev nV:Stmt:=top 15
def yV:aC ["bits"] ["bits"] (au nV):=eO
abbrev qd:Stmt:=top 16
def Bo:aC ["bits"] ["bits"] (au qd):=eO
abbrev qF:Stmt:=top 17
def kg:aC ["bits","parts","room"] ["bits"] (au qF):=eO
abbrev qQ:Stmt:=top 18
def kB:aC ["rooms","bits","room"] ["rooms"] (au qQ):=eO
abbrev nR:Stmt:=top 20
def fq:aC ["hold","state","bands","burning","waits","failed","heap","many"] ["hold","state"] (au nR):=eO
abbrev mF:Stmt:=top 21
def fF:aC ["hold","state","room","bands","burning","waits","failed","heap"] ["hold","state","room"] (au mF):=eO
abbrev kJ:Stmt:=top 22
def jr:aC ["stove","fired","wait","failed","stay","fails"] ["stove","fired","wait","failed"] (au kJ):=eO
abbrev iH:Stmt:=top 23
def rC:aC ["hold","state"] ["hold","state"] (au iH):=eO
abbrev kc:Stmt:=top 24
def vS:aC ["hold"] ["hold"] (au kc):=eO
abbrev qo:Stmt:=top 25
def BN:aC ["hold","bits"] ["hold","bits"] (au qo):=eO
abbrev l9:Stmt:=top 26
def wM:aC ["state"] ["state"] (au l9):=eO
abbrev nU:Stmt:=top 27
def zD:aC ["hold","order","heap"] ["hold","order","heap"] (au nU):=eO
abbrev mD:Stmt:=top 28
def kz:aC ["hold","state","held","going_on"] ["hold","state"] (au mD):=eO
abbrev rF:Stmt:=top 29
def uA:aC ["hold","state","order","lit"] ["hold","state","order"] (au rF):=eO
abbrev iA:Stmt:=top 30
def eE:aC ["hold","state","order","out","burning","waits","failed","heap"] ["hold","state","order","out"] (au iA):=eO
abbrev jt:Stmt:=top 31
def vc:aC ["hold","state","burning","room"] ["hold","state","burning","room"] (au jt):=eO
abbrev iy:Stmt:=top 32
def qk:aC ["state","burning","out","room"] ["state","burning","out","room"] (au iy):=eO
abbrev rD:Stmt:=top 36
def gU:aC ["one","other","greater","lesser","rest"] ["one","other"] (au rD):=eO
abbrev nY:Stmt:=top 37
def lV:aC ["top","bottom","common"] ["top","bottom"] (au nY):=eO
abbrev Bi:Stmt:=top 38
def Ir:aC ["one","other"] ["one","other"] (au Bi):=eO
abbrev wN:Stmt:=top 39
def GY:aC ["one","other"] ["one","other"] (au wN):=eO
abbrev xb:Stmt:=top 40
def zG:aC ["one","other"] ["one","other"] (au xb):=eO
abbrev gD:Stmt:=top 42
def bW:aC ["pairs","top","bottom","one","other","below"] ["pairs"] (au gD):=eO
abbrev lK:Stmt:=top 43
def o6:aC ["hold","room","airs","weather","fired","pairs"] ["hold","room","airs","weather","fired"] (au lK):=eO
abbrev qK:Stmt:=top 44
def iY:aC ["hold","room","bands","fired","low","high","lows","highs"] ["hold","room","bands","fired"] (au qK):=eO
abbrev p9:Stmt:=top 45
def uI:aC ["hold","room","least","greatest","marks"] ["hold","room","least","greatest"] (au p9):=eO
abbrev vb:Stmt:=top 46
def wk:aC ["hold","room","least","greatest","marks"] ["hold","room","least","greatest"] (au vb):=eO
abbrev jx:Stmt:=top 48
def eC:aC ["rows","choices","row","longer","choice"] ["rows"] (au jx):=eO
abbrev gZ:Stmt:=inClass (top 49) 0
def pN:aC ["self","hold"] ["self","hold"] (au gZ):=eO
abbrev eW:Stmt:=inClass (top 49) 1
def bZ:aC ["self","state","order","states","out","burning","rows","stoves"] ["self","state","order"] (au eW):=eO
abbrev ja:Stmt:=inClass (top 49) 2
def eT:aC ["self","room","bands","fired","key","least","greatest","safe"] ["self","room","bands","fired"] (au ja):=eO
abbrev j9:Stmt:=top 51
def rP:aC ["hold","states","limit","game"] ["hold","states","limit"] (au j9):=eO
abbrev iE:Stmt:=inClass (top 52) 0
def g7:aC ["self","hold","states","limit","state"] ["self","hold","states","limit"] (au iE):=eO
abbrev kD:Stmt:=inClass (top 52) 1
def hU:aC ["self","hold","reach","state","orders"] ["self","hold"] (au kD):=eO
abbrev ix:Stmt:=inClass (top 52) 2
def qZ:aC ["self","states"] ["self","states"] (au ix):=eO
abbrev mB:Stmt:=inClass (top 52) 3
def yc:aC ["self","state"] ["self","state"] (au mB):=eO
abbrev iq:Stmt:=top 53
def cG:aC ["rows","ahead","place","choices","number","row","behind"] ["rows"] (au iq):=eO
abbrev gR:Stmt:=inClass (top 54) 0
def dO:aC ["self","game","place","choices","number","row"] ["self","game"] (au gR):=eO
abbrev ir:Stmt:=inClass (top 54) 1
def db:aC ["self","ahead","done","here","place","number"] ["self","ahead"] (au ir):=eO
abbrev lL:Stmt:=inClass (top 54) 2
def yh:aC ["self","place","number","lasting"] ["self","place","number","lasting"] (au lL):=eO
abbrev iD:Stmt:=top 66
def qB:aC ["thing","greatest"] ["thing","greatest"] (au iD):=eO
abbrev lD:Stmt:=top 67
def wO:aC ["marks"] ["marks"] (au lD):=eO
abbrev gX:Stmt:=top 68
def eZ:aC ["rows","product","marks"] ["rows"] (au gX):=eO
abbrev fU:Stmt:=inClass (top 69) 0
def qg:aC ["self","most","cap","load"] ["self","most","cap","load"] (au fU):=eO
abbrev iF:Stmt:=inClass (top 69) 1
def jO:aC ["self","marks","rows"] ["self","marks"] (au iF):=eO
abbrev iC:Stmt:=inClass (top 69) 2
def rB:aC ["self","into","of","share"] ["self","into","of","share"] (au iC):=eO
abbrev i5:Stmt:=inClass (top 69) 3
def sM:aC ["self","room","share","low","high"] ["self","room","share","low","high"] (au i5):=eO
abbrev fE:Stmt:=inClass (top 69) 4
def pU:aC ["self","room","heat","wood","stay","fails"] ["self","room","heat","wood","stay","fails"] (au fE):=eO
abbrev lP:Stmt:=inClass (top 69) 5
def wV:aC ["self"] ["self"] (au lP):=eO
abbrev kN:Stmt:=inClass (top 69) 6
def vL:aC ["self","room"] ["self","room"] (au kN):=eO
abbrev kn:Stmt:=inClass (top 69) 7
def vT:aC ["self","into","of"] ["self","into","of"] (au kn):=eO
abbrev nP:Stmt:=inClass (top 69) 8
def Ak:aC ["self","room"] ["self","room"] (au nP):=eO
abbrev j8:Stmt:=inClass (top 69) 9
def vG:aC ["self","room"] ["self","room"] (au j8):=eO
abbrev g5:Stmt:=inClass (top 69) 10
def fc:aC ["self","room","rest","other"] ["self","room"] (au g5):=eO
abbrev iG:Stmt:=inClass (top 69) 11
def qL:aC ["self","room"] ["self","room"] (au iG):=eO
abbrev fu:Stmt:=inClass (top 69) 12
def gM:aC ["self","room","share","former","free"] ["self","room","share","former"] (au fu):=eO
abbrev jn:Stmt:=top 70
def pC:aC ["hold","most","cap","load","like"] ["hold","most","cap","load"] (au jn):=eO
abbrev jB:Stmt:=top 72
def tQ:aC ["_law_script","_law_k"] ["_law_script","_law_k"] (au jB):=eO
abbrev j0:Stmt:=top 73
def fT:aC ["_law_cell","_law_many","_law_found","_law_number","_law_k"] ["_law_cell","_law_many"] (au j0):=eO
abbrev jz:Stmt:=top 74
def gu:aC ["_law_one","_law_other","_law_rest"] ["_law_one","_law_other"] (au jz):=eO
abbrev oA:Stmt:=top 75
def sg:aC ["_law_top","_law_bottom","_law_by"] ["_law_top","_law_bottom"] (au oA):=eO
abbrev l5:Stmt:=top 76
def kL:aC ["_law_cell","_law_xs","_law_most"] ["_law_cell"] (au l5):=eO
abbrev kh:Stmt:=top 77
def vJ:aC ["_law_steps","_law_scale_here"] ["_law_steps","_law_scale_here"] (au kh):=eO
abbrev lM:Stmt:=top 78
def ky:aC ["_law_xs","_law_bands","_law_ends","_law_marks_here","_law_k"] ["_law_xs","_law_bands","_law_ends"] (au lM):=eO
abbrev qN:Stmt:=top 79
def gY:aC ["_law_xs","_law_marks_here","_law_fired","_law_share","_law_low","_law_high"] ["_law_xs","_law_marks_here","_law_fired"] (au qN):=eO
abbrev my:Stmt:=top 80
def gE:aC ["_law_xs","_law_kind","_law_load","_law_two","_law_first"] ["_law_xs"] (au my):=eO
abbrev om:Stmt:=top 81
def fh:aC ["_law_xs","_law_marks_here","_law_sky_here","_law_stove","_law_scale_here","_law_flows","_law_told","_law_heat","_law_wood","_law_fails","_law_weather"] ["_law_xs","_law_marks_here","_law_sky_here","_law_stove","_law_scale_here","_law_flows"] (au om):=eO
abbrev mv:Stmt:=top 82
def bK:aC ["_law_script","_law_at","_law_scale_here","_law_xs","_law_bands","_law_fired","_law_most","_law_bounds","_law_rooms","_law_ends","_law_k","_law_ys","_law_marks_here","_law_sky_here","_law_stove","_law_share","_law_flows"] ["_law_script","_law_at","_law_scale_here"] (au mv):=eO
abbrev oi:Stmt:=top 83
def f6:aC ["_law_plain_here","_law_hold_here","_law_room_here","_law_k","_law_of"] ["_law_plain_here"] (au oi):=eO
abbrev ip:Stmt:=top 84
def bq:aC ["_law_cell","_law_plain_here","_law_xs","_law_burning","_law_many","_law_waits","_law_failed","_law_k","_law_stove","_law_wait","_law_fails","_law_bands"] ["_law_cell","_law_plain_here"] (au ip):=eO
abbrev jD:Stmt:=top 85
def ur:aC ["_law_rank","_law_former"] ["_law_rank","_law_former"] (au jD):=eO
abbrev jE:Stmt:=top 86
def mr:aC ["_law_one","_law_other","_law_part","_law_top"] ["_law_one","_law_other","_law_part"] (au jE):=eO
abbrev i7:Stmt:=top 87
def dE:aC ["_law_plain_here","_law_xs","_law_rooms","_law_k","_law_room_here","_law_low","_law_high"] ["_law_plain_here","_law_xs"] (au i7):=eO
abbrev kG:Stmt:=top 88
def hZ:aC ["_law_plain_here","_law_hold_here","_law_xs","_law_most","_law_cap","_law_load"] ["_law_plain_here","_law_hold_here","_law_xs"] (au kG):=eO
abbrev C7:Stmt:=top 89
def oE:aC ["_law_script","_law_plain_here","_law_hold_here","_law_state","_law_xs","_law_rank","_law_richer"] ["_law_script"] (au C7):=eO
structure YQ where
 bw:am
 Reach:am
 cS:am
 dk:am
 kF:am
 wC:am
 iu:am
 gT:am
 ox:am
 lB:am
structure Txt (K:aE) (mg:dX) (A:YQ):Prop where
 Fe:mg "Hold" = some (.ref A.bw)
 IM:mg "Reach" = some (.ref A.Reach)
 Mi:mg "Game" = some (.ref A.cS)
 JS:mg "Ranks" = some (.ref A.dk)
 i8:mg "NOUGHT" = some (.ref A.kF)
 Ce:mg "WHOLE" = some (.ref A.wC)
 vK:∃ t,mg "LEAST_MARKS" = some (.int 2 t)
 xN:∃ t,mg "MOST_BANDS" = some (.int 400 t)
 tK:∃ t,mg "MOST_BURNING" = some (.int 4 t)
 Ba:∃ t,mg "MOST_CAP" = some (.int 30 t)
 xF:∃ t,mg "MOST_FAILS" = some (.int 3 t)
 zL:∃ t,mg "MOST_LOAD" = some (.int 30 t)
 xE:∃ t,mg "MOST_MARKS" = some (.int 7 t)
 wQ:∃ t,mg "MOST_ROOMS" = some (.int 4 t)
 zj:∃ t,mg "MOST_STAY" = some (.int 3 t)
 zU:∃ t,mg "MOST_WOOD" = some (.int 9 t)
 lQ:AR K A.kF [.int 0,.int 1]
 Dm:AR K A.wC [.int 1,.int 1]
 aF:zm K A.bw
 Cv:DN K A.bw
 iQ:c5 K A.bw "most"
 jk:c5 K A.bw "cap"
 kP:c5 K A.bw "load"
 cu:c5 K A.bw "mark_rows"
 eU:c5 K A.bw "flows"
 c8:c5 K A.bw "skies"
 eA:c5 K A.bw "stoves"
 ss:ga K A.bw "__init__" "Hold.__init__" fU (.ref A.iu)
 sJ:Ex K A.iu [.int 4,.int 0,.int 0]
 sK:ga K A.bw "put_room" "Hold.put_room" iF .none
 sG:ga K A.bw "put_flow" "Hold.put_flow" iC .none
 uo:ga K A.bw "put_sky" "Hold.put_sky" i5 .none
 qC:ga K A.bw "put_stove" "Hold.put_stove" fE (.ref A.gT)
 rh:Ex K A.gT [.int 0,.int 0,.int 0]
 Ap:ga K A.bw "many" "Hold.many" lP .none
 yt:ga K A.bw "marks" "Hold.marks" kN .none
 xO:ga K A.bw "share" "Hold.share" kn .none
 BC:ga K A.bw "sky" "Hold.sky" nP .none
 yl:ga K A.bw "stove" "Hold.stove" j8 .none
 qE:ga K A.bw "own_share" "Hold.own_share" g5 .none
 sj:ga K A.bw "look_for" "Hold.look_for" iG .none
 mG:ga K A.bw "look_at_share" "Hold.look_at_share" fu .none
 dL:zm K A.Reach
 Hh:DN K A.Reach
 dU:c5 K A.Reach "hold"
 d9:c5 K A.Reach "spreads"
 qx:ga K A.Reach "__init__" "Reach.__init__" gZ .none
 kY:ga K A.Reach "states_behind" "Reach.states_behind" eW .none
 uR:ga K A.Reach "spread" "Reach.spread" ja .none
 ca:zm K A.cS
 JH:DN K A.cS
 ft:c5 K A.cS "met"
 mo:c5 K A.cS "orders"
 dM:c5 K A.cS "rows"
 gA:c5 K A.cS "places"
 nv:c5 K A.cS "limit"
 sR:ga K A.cS "__init__" "Game.__init__" iE .none
 xS:ga K A.cS "go_on" "Game.go_on" kD .none
 sO:ga K A.cS "meet_all" "Game.meet_all" ix .none
 yU:ga K A.cS "meet" "Game.meet" mB .none
 cz:zm K A.dk
 FO:DN K A.dk
 i6:c5 K A.dk "lasts"
 gw:c5 K A.dk "going"
 fC:c5 K A.dk "ranks"
 gB:c5 K A.dk "queue"
 qJ:ga K A.dk "__init__" "Ranks.__init__" gR .none
 sx:ga K A.dk "go_back" "Ranks.go_back" ir .none
 zp:ga K A.dk "end" "Ranks.end" lL .none
 BS:gJ K mg "has_room" nM
 zw:gJ K mg "with_room" mm
 BB:gJ K mg "how_many" nV
 DT:gJ K mg "members" qd
 Es:gJ K mg "subsets" qF
 DL:gJ K mg "bits_of" qQ
 Bu:gJ K mg "is_state" nR
 zW:gJ K mg "fits_room" mF
 yf:gJ K mg "fits_stove" kJ
 sN:gJ K mg "look_at_state" iH
 xV:gJ K mg "with_stove" kc
 DP:gJ K mg "wood_of" qo
 Ag:gJ K mg "must_stay" l9
 Bg:gJ K mg "can_burn" nU
 Aw:gJ K mg "orders_of" mD
 DV:gJ K mg "failing" rF
 sE:gJ K mg "stoves_behind" iA
 vp:gJ K mg "wait_behind" jt
 sQ:gJ K mg "failed_behind" iy
 Du:gJ K mg "divisor" rD
 BJ:gJ K mg "fraction" nY
 Lc:gJ K mg "plus" Bi
 JE:gJ K mg "minus" wN
 Db:gJ K mg "under" xb
 pV:gJ K mg "sum_of_products" gD
 Ax:gJ K mg "warmth_of" lK
 D6:gJ K mg "span_of" qK
 DG:gJ K mg "touched" p9
 G2:gJ K mg "within" vb
 vq:gJ K mg "each_choice" jx
 AX:Gy K mg "ranks_of" j9 (.ref A.ox)
 Bh:Ex K A.ox [.int 2000]
 su:gJ K mg "choices_ahead" iq
 sH:gJ K mg "is_whole_upto" iD
 yW:gJ K mg "is_rising" lD
 qy:gJ K mg "bands_together" gX
 zy:Gy K mg "hold_like" jn (.ref A.lB)
 l8:Ex K A.lB [.cC,.cC,.cC]
 vy:gJ K mg "_law_cell_at" jB
 xW:gJ K mg "_law_stream" j0
 vC:gJ K mg "_law_divisor" jz
 AO:gJ K mg "_law_frac" oA
 zk:gJ K mg "_law_scale" l5
 xi:gJ K mg "_law_warmth" kh
 yS:gJ K mg "_law_marks" lM
 Eh:gJ K mg "_law_sky" qN
 zg:gJ K mg "_law_shape" my
 A1:gJ K mg "_law_room" om
 zC:gJ K mg "_law_plain" mv
 Bx:gJ K mg "_law_hold" oi
 sP:gJ K mg "_law_any_state" ip
 vP:gJ K mg "_law_no_less" jD
 vQ:gJ K mg "_law_between" jE
 uE:gJ K mg "_law_narrower" i7
 xX:gJ K mg "_law_better" kG
 PV:gJ K mg "law" C7
 GP:mg "abs" = none
 J9:mg "all" = none
 Mv:mg "bool" = none
 Ht:mg "dict" = none
 dJ:mg "enumerate" = none
 CK:mg "int" = none
 pJ:mg "isinstance" = none
 eF:mg "len" = none
 tF:mg "list" = none
 FB:mg "max" = none
 Cm:mg "min" = none
 dB:mg "range" = none
 P4:mg "sum" = none
 mN:mg "tuple" = none
 KH:mg "zip" = none
abbrev tp (K:aE) (C:am) (x y:Str) (s:Stmt) (v:aA):Prop:=∃ f b c d e g h i j n,W.findIn K (.ref C) x=some (some (.ref f))/\W.isFn K (.ref f)=true/\K.lookup f=some ⟨b,c,.func (W.fnOf x y (dA s) (ce s) (au s) v d e g h i j),n⟩/\W.codeIn K i y=true/\W.keepIn K (.ref f)=true
abbrev gL (K:aE) (x:Str) (s:Stmt) (v:aA):Prop:=∃ f b c d e g h i j n,W.nsIn K mainGlobals x=some (some (.ref f))/\K.lookup f=some ⟨b,c,.func (W.fnOf x x (dA s) (ce s) (au s) v d e g h i j),n⟩/\W.codeIn K i x=true/\W.keepIn K (.ref f)=true
def iX {K:aE} {C:am} {x y:Str} {s:Stmt} {v:aA} (q:tp K C x y s v):ga K C x y s v:=by
 obtain ⟨f,Z,Z,Z,Z,Z,Z,Z,Z,Z,a,b,c,d,e⟩:=q
 exact ⟨f,_,⟨a,b,e⟩,Cr (st:=s) c d e⟩
def OJ {K:aE} {h:bE} {m:Str->jC} (X:K.In h) (G:h.Ns mainGlobals m) {x:Str} {s:Stmt} {v:aA} (q:gL K x s v):Gy K m x s v:=by
 obtain ⟨f,Z,Z,Z,Z,Z,Z,Z,Z,Z,a,c,d,e⟩:=q
 exact ⟨f,_,acn X G a,Cr (st:=s) c d e⟩
def cM {K:aE} {h:bE} {m:Str->jC} (X:K.In h) (G:h.Ns mainGlobals m) {x:Str} {s:Stmt} (q:gL K x s .none):gJ K m x s:=by
 obtain ⟨f,Z,Z,Z,Z,Z,Z,Z,Z,Z,a,c,d,e⟩:=q
 exact ⟨f,_,acn X G a,Mg (st:=s) c d e⟩
abbrev kq_ (K:W.Frag) (a:Addr):Prop:=W.keepIn K (.ref a)=true
abbrev kn_ (K:W.Frag) (x:Str) (a:Addr):Prop:=W.nsIn K mainGlobals x=some (some (.ref a))
def txt_mk {K:aE} {h:bE} {mg:dX} (X:K.In h) (G:h.Ns mainGlobals mg)
 {a d b c e f g i j k:am}
 {l m n o p q r s t u v w x y z A B C D E F:Tok}
 {H I J L M N:Option am}
 {O P Q R S T:Nat}
 {U V Y Z aa ab:Array (jC)}
 {ac ad ae af:aA}
 (ag:kn_ K "Hold" a)
 (ah:kn_ K "Reach" d)
 (ai:kn_ K "Game" b)
 (aj:kn_ K "Ranks" c)
 (ak:kn_ K "NOUGHT" e)
 (al:kn_ K "WHOLE" f)
 (an:W.nsIn K mainGlobals "LEAST_MARKS" = some (some (.int 2 l)))
 (ao:W.nsIn K mainGlobals "MOST_BANDS" = some (some (.int 400 m)))
 (ap:W.nsIn K mainGlobals "MOST_BURNING" = some (some (.int 4 n)))
 (aq:W.nsIn K mainGlobals "MOST_CAP" = some (some (.int 30 o)))
 (ar:W.nsIn K mainGlobals "MOST_FAILS" = some (some (.int 3 p)))
 (au:W.nsIn K mainGlobals "MOST_LOAD" = some (some (.int 30 q)))
 (av:W.nsIn K mainGlobals "MOST_MARKS" = some (some (.int 7 r)))
 (aw:W.nsIn K mainGlobals "MOST_ROOMS" = some (some (.int 4 s)))
 (ax:W.nsIn K mainGlobals "MOST_STAY" = some (some (.int 3 t)))
 (ay:W.nsIn K mainGlobals "MOST_WOOD" = some (some (.int 9 u)))
 (az:K.lookup e=some ⟨.type "tuple",H,.seq #[.int 0 v,.int 1 w] O,U⟩)
 (aB:K.lookup f=some ⟨.type "tuple",I,.seq #[.int 1 x,.int 1 y] P,V⟩)
 (aC:W.plainGet K a Str.empty=true)
 (aD:W.hasDictIn K a=true)
 (aF:W.plainOver K a=true)
 (aG:W.findIn K (.ref a) "__setattr__" = some (some (.builtin "object.__setattr__")))
 (aH:W.makesIn K a=true)
 (aI:kq_ K a)
 (aJ:W.findIn K (.ref a) "most" = some none)
 (aK:W.findIn K (.ref a) "cap" = some none)
 (aL:W.findIn K (.ref a) "load" = some none)
 (aM:W.findIn K (.ref a) "mark_rows" = some none)
 (aN:W.findIn K (.ref a) "flows" = some none)
 (aO:W.findIn K (.ref a) "skies" = some none)
 (aP:W.findIn K (.ref a) "stoves" = some none)
 (aQ:tp K a "__init__" "Hold.__init__" fU (.ref g))
 (aR:K.lookup g=some ⟨ac,J,.seq #[.int 4 z,.int 0 A,.int 0 B] Q,Y⟩)
 (aS:tp K a "put_room" "Hold.put_room" iF .none)
 (aT:tp K a "put_flow" "Hold.put_flow" iC .none)
 (aU:tp K a "put_sky" "Hold.put_sky" i5 .none)
 (aV:tp K a "put_stove" "Hold.put_stove" fE (.ref i))
 (aW:K.lookup i=some ⟨ad,L,.seq #[.int 0 C,.int 0 D,.int 0 E] R,Z⟩)
 (aX:tp K a "many" "Hold.many" lP .none)
 (aY:tp K a "marks" "Hold.marks" kN .none)
 (aZ:tp K a "share" "Hold.share" kn .none)
 (a0:tp K a "sky" "Hold.sky" nP .none)
 (a1:tp K a "stove" "Hold.stove" j8 .none)
 (a2:tp K a "own_share" "Hold.own_share" g5 .none)
 (a3:tp K a "look_for" "Hold.look_for" iG .none)
 (a4:tp K a "look_at_share" "Hold.look_at_share" fu .none)
 (a5:W.plainGet K d Str.empty=true)
 (a6:W.hasDictIn K d=true)
 (a7:W.plainOver K d=true)
 (a8:W.findIn K (.ref d) "__setattr__" = some (some (.builtin "object.__setattr__")))
 (a9:W.makesIn K d=true)
 (ba:kq_ K d)
 (bb:W.findIn K (.ref d) "hold" = some none)
 (bc:W.findIn K (.ref d) "spreads" = some none)
 (bd:tp K d "__init__" "Reach.__init__" gZ .none)
 (be:tp K d "states_behind" "Reach.states_behind" eW .none)
 (bf:tp K d "spread" "Reach.spread" ja .none)
 (bg:W.plainGet K b Str.empty=true)
 (bh:W.hasDictIn K b=true)
 (bi:W.plainOver K b=true)
 (bj:W.findIn K (.ref b) "__setattr__" = some (some (.builtin "object.__setattr__")))
 (bk:W.makesIn K b=true)
 (bl:kq_ K b)
 (bm:W.findIn K (.ref b) "met" = some none)
 (bn:W.findIn K (.ref b) "orders" = some none)
 (bo:W.findIn K (.ref b) "rows" = some none)
 (bp:W.findIn K (.ref b) "places" = some none)
 (bq:W.findIn K (.ref b) "limit" = some none)
 (br:tp K b "__init__" "Game.__init__" iE .none)
 (bs:tp K b "go_on" "Game.go_on" kD .none)
 (bt:tp K b "meet_all" "Game.meet_all" ix .none)
 (bu:tp K b "meet" "Game.meet" mB .none)
 (bv:W.plainGet K c Str.empty=true)
 (bw:W.hasDictIn K c=true)
 (bx:W.plainOver K c=true)
 (bz:W.findIn K (.ref c) "__setattr__" = some (some (.builtin "object.__setattr__")))
 (bA:W.makesIn K c=true)
 (bB:kq_ K c)
 (bC:W.findIn K (.ref c) "lasts" = some none)
 (bD:W.findIn K (.ref c) "going" = some none)
 (bF:W.findIn K (.ref c) "ranks" = some none)
 (bG:W.findIn K (.ref c) "queue" = some none)
 (bH:tp K c "__init__" "Ranks.__init__" gR .none)
 (bI:tp K c "go_back" "Ranks.go_back" ir .none)
 (bJ:tp K c "end" "Ranks.end" lL .none)
 (bK:gL K "has_room" nM .none)
 (bL:gL K "with_room" mm .none)
 (bM:gL K "how_many" nV .none)
 (bN:gL K "members" qd .none)
 (bO:gL K "subsets" qF .none)
 (bP:gL K "bits_of" qQ .none)
 (bQ:gL K "is_state" nR .none)
 (bR:gL K "fits_room" mF .none)
 (bS:gL K "fits_stove" kJ .none)
 (bT:gL K "look_at_state" iH .none)
 (bU:gL K "with_stove" kc .none)
 (bV:gL K "wood_of" qo .none)
 (bW:gL K "must_stay" l9 .none)
 (bX:gL K "can_burn" nU .none)
 (bY:gL K "orders_of" mD .none)
 (bZ:gL K "failing" rF .none)
 (b0:gL K "stoves_behind" iA .none)
 (b1:gL K "wait_behind" jt .none)
 (b2:gL K "failed_behind" iy .none)
 (b3:gL K "divisor" rD .none)
 (b4:gL K "fraction" nY .none)
 (b5:gL K "plus" Bi .none)
 (b6:gL K "minus" wN .none)
 (b7:gL K "under" xb .none)
 (b8:gL K "sum_of_products" gD .none)
 (b9:gL K "warmth_of" lK .none)
 (ca:gL K "span_of" qK .none)
 (cb:gL K "touched" p9 .none)
 (cc:gL K "within" vb .none)
 (cd:gL K "each_choice" jx .none)
 (ce:gL K "ranks_of" j9 (.ref j))
 (cf:K.lookup j=some ⟨ae,M,.seq #[.int 2000 F] S,aa⟩)
 (cg:gL K "choices_ahead" iq .none)
 (ch:gL K "is_whole_upto" iD .none)
 (ci:gL K "is_rising" lD .none)
 (cj:gL K "bands_together" gX .none)
 (ck:gL K "hold_like" jn (.ref k))
 (cl:K.lookup k=some ⟨af,N,.seq #[.none,.none,.none] T,ab⟩)
 (cm:gL K "_law_cell_at" jB .none)
 (cn:gL K "_law_stream" j0 .none)
 (co:gL K "_law_divisor" jz .none)
 (cp:gL K "_law_frac" oA .none)
 (cq:gL K "_law_scale" l5 .none)
 (cr:gL K "_law_warmth" kh .none)
 (cs:gL K "_law_marks" lM .none)
 (ct:gL K "_law_sky" qN .none)
 (cu:gL K "_law_shape" my .none)
 (cv:gL K "_law_room" om .none)
 (cw:gL K "_law_plain" mv .none)
 (cx:gL K "_law_hold" oi .none)
 (cy:gL K "_law_any_state" ip .none)
 (cz:gL K "_law_no_less" jD .none)
 (cA:gL K "_law_between" jE .none)
 (cB:gL K "_law_narrower" i7 .none)
 (cC:gL K "_law_better" kG .none)
 (cD:gL K "law" C7 .none)
 (cE:W.nsIn K mainGlobals "abs" = some none)
 (cF:W.nsIn K mainGlobals "all" = some none)
 (cG:W.nsIn K mainGlobals "bool" = some none)
 (cH:W.nsIn K mainGlobals "dict" = some none)
 (cI:W.nsIn K mainGlobals "enumerate" = some none)
 (cJ:W.nsIn K mainGlobals "int" = some none)
 (cK:W.nsIn K mainGlobals "isinstance" = some none)
 (cL:W.nsIn K mainGlobals "len" = some none)
 (cN:W.nsIn K mainGlobals "list" = some none)
 (cO:W.nsIn K mainGlobals "max" = some none)
 (cP:W.nsIn K mainGlobals "min" = some none)
 (cQ:W.nsIn K mainGlobals "range" = some none)
 (cR:W.nsIn K mainGlobals "sum" = some none)
 (cS:W.nsIn K mainGlobals "tuple" = some none)
 (cT:W.nsIn K mainGlobals "zip" = some none)
 : Txt K mg ⟨a,d,b,c,e,f,g,i,j,k⟩ :=
⟨acn X G ag,
acn X G ah,
acn X G ai,
acn X G aj,
acn X G ak,
acn X G al,
⟨_,acn X G an⟩,
⟨_,acn X G ao⟩,
⟨_,acn X G ap⟩,
⟨_,acn X G aq⟩,
⟨_,acn X G ar⟩,
⟨_,acn X G au⟩,
⟨_,acn X G av⟩,
⟨_,acn X G aw⟩,
⟨_,acn X G ax⟩,
⟨_,acn X G ay⟩,
KE az,
KE aB,
⟨aC,aD,aF,aG⟩,
⟨aH,aI⟩,
aJ,
aK,
aL,
aM,
aN,
aO,
aP,
iX aQ,
⟨_,_,_,aR,rfl,(.cons ⟨_,rfl⟩ (.cons ⟨_,rfl⟩ (.cons ⟨_,rfl⟩ .nil)))⟩,
iX aS,
iX aT,
iX aU,
iX aV,
⟨_,_,_,aW,rfl,(.cons ⟨_,rfl⟩ (.cons ⟨_,rfl⟩ (.cons ⟨_,rfl⟩ .nil)))⟩,
iX aX,
iX aY,
iX aZ,
iX a0,
iX a1,
iX a2,
iX a3,
iX a4,
⟨a5,a6,a7,a8⟩,
⟨a9,ba⟩,
bb,
bc,
iX bd,
iX be,
iX bf,
⟨bg,bh,bi,bj⟩,
⟨bk,bl⟩,
bm,
bn,
bo,
bp,
bq,
iX br,
iX bs,
iX bt,
iX bu,
⟨bv,bw,bx,bz⟩,
⟨bA,bB⟩,
bC,
bD,
bF,
bG,
iX bH,
iX bI,
iX bJ,
cM X G bK,
cM X G bL,
cM X G bM,
cM X G bN,
cM X G bO,
cM X G bP,
cM X G bQ,
cM X G bR,
cM X G bS,
cM X G bT,
cM X G bU,
cM X G bV,
cM X G bW,
cM X G bX,
cM X G bY,
cM X G bZ,
cM X G b0,
cM X G b1,
cM X G b2,
cM X G b3,
cM X G b4,
cM X G b5,
cM X G b6,
cM X G b7,
cM X G b8,
cM X G b9,
cM X G ca,
cM X G cb,
cM X G cc,
cM X G cd,
OJ X G ce,
⟨_,_,_,cf,rfl,(.cons ⟨_,rfl⟩ .nil)⟩,
cM X G cg,
cM X G ch,
cM X G ci,
cM X G cj,
OJ X G ck,
⟨_,_,_,cl,rfl,(.cons rfl (.cons rfl (.cons rfl .nil)))⟩,
cM X G cm,
cM X G cn,
cM X G co,
cM X G cp,
cM X G cq,
cM X G cr,
cM X G cs,
cM X G ct,
cM X G cu,
cM X G cv,
cM X G cw,
cM X G cx,
cM X G cy,
cM X G cz,
cM X G cA,
cM X G cB,
cM X G cC,
cM X G cD,
abn X G cE,
abn X G cF,
abn X G cG,
abn X G cH,
abn X G cI,
abn X G cJ,
abn X G cK,
abn X G cL,
abn X G cN,
abn X G cO,
abn X G cP,
abn X G cQ,
abn X G cR,
abn X G cS,
abn X G cT⟩
section
variable {P:bD} {w:bz} {K:aE} {mg:dX} {base:bE} {Ad:YQ}
def fW {lo:Int} {n:Nat} {g:TG} {tb:TS} {D:Ends} {U:L2.St} {H:Hp} (p:Nat->L2.St->Hp->Prop) (h0:p 0 U H) (c:let G:Nat->L2.St->Hp->Prop:=λ i U H=>g (.int (lo+i)) U H λ a h=>tb { D with nx:=p (i+1),ct:=p (i+1),bk:=D.nx } a h
   ∀ (i:Nat) (U:L2.St) (H:Hp),i<n->p i U H->G i U H) (b:∀ U H,p n U H->D.nx U H):=wG (lo:=lo) (n:=n) (g:=g) (tb:=tb) (D:=D) (U:=U) (H:=H) p h0 c b
def hJ {K:aE} {a:am} {xs:aB} {g:TG} {tb:TS} {D:Ends} {U:L2.St} {H:Hp} (p:Nat->L2.St->Hp->Prop) (h0:p 0 U H) (d:∀ i U H,i<=xs.length->p i U H->aX K H a xs) (e:let G:Nat->V->L2.St->Hp->Prop:=λ i x U H=>g x U H λ b h=>tb { D with nx:=p (i+1),ct:=p (i+1),bk:=D.nx } b h
   ∀ (i:Nat) (x:V) (U:L2.St) (H:Hp),xs[i]?=some x->p i U H->G i x U H) (c:∀ U H,p xs.length U H->D.nx U H):=jP (K:=K) (a:=a) (xs:=xs) (g:=g) (tb:=tb) (D:=D) (U:=U) (H:=H) p h0 d e c
def Bt (T:Txt K mg Ad):Def P w K mg base "divisor" 1 ["one","other"] MB:=by
 refine T.Du.cN gU λ Z Z Z Z Z H V Q E u h=>?_
 obtain ⟨a,b,rfl,k⟩:=h
 refine ⟨_,(ai (cL (i:=2) gU.nd (aV rq (by rfl) T.GP BW (aa (pv 0) af)))
     (ai (cL (i:=3) gU.nd (aV rq (by rfl) T.GP BW (aa (pv 1) af)))
     (ai (oW aaH (aK rR (pv 3) ac (aM _)) (ai (cL (i:=4) gU.nd (ax aI (pv 2) (pv 3)))
     (ai (cL (i:=2) gU.nd (pv 3))
     (ap (cL (i:=3) gU.nd (pv 4))))))
     (ap (aH (pv 2)))))),?_⟩
 try dsimp only [eS,bj]
 try (refine eP ?_;intro Z Z Z Z Z)
 refine ⟨_,rfl,_,rfl,λ G o=>⟨_,rfl,_,rfl,λ t p=>?_⟩⟩
 refine ⟨λ m U d=>d=H/\E3 λ (g l:Int) (r:eL)=>A5 (U=[some (.int a),some (.int b),some (.int g),some (.int l),r]) (0<=g) (0<=l) (m=l.toNat) (Int.gcd g l=Int.gcd a b),
   ⟨_,rfl,G,t,none,rfl,by lia,by lia,rfl,by rw [o,p];rfl⟩,?_⟩
 rintro m U d ⟨rfl,g,l,r,rfl,f,s,rfl,e⟩
 refine ⟨_,rfl,rfl,_,rfl,?_⟩
 refine En (λ h=>?_) (λ h=>?_)
 .
  have L:0<l:=by rw [fD] at h;lia
  refine ⟨λ c B=>B=d/\c=[some (.int a),some (.int b),some (.int l),some (.int (g % l)),some (.int (g % l))],λ c B ⟨j,n⟩=>?_,?_⟩
  . have M:=adH g (by lia:l≠0)
    have v:=adp g L
    exact ⟨(g % l).toNat,by lia,j,l,g % l,_,n,s,M,rfl,(Ka f L).trans e⟩
  . refine ⟨_,rfl,_,rfl,_,_,rfl,rfl,L,λ r Z Z q=>?_⟩
    subst q
    exact ⟨_,rfl,_,rfl,rfl,rfl⟩
 .
  have L:l=0:=fD.mp h
  subst L
  refine ⟨_,rfl,k g ?_⟩
  rw [<- e,Oj f]
def lU (T:Txt K mg Ad):Def P w K mg base "fraction" 2 ["top","bottom"] Aj:=by
 refine T.BJ.cN lV λ Z Z Z Z Z H V Q E x h=>?_
 obtain ⟨t,b,rfl,j,l,k⟩:=h
 refine ⟨_,(ai (bB (aK cP (pv 1) ac (aM _)) (ap cE) aJ)
     (ai (cL (i:=2) lV.nd (ay (Bt T) x.m (aa (pv 0) (aa (pv 1) af))))
     (ai (ku (bB (aK kS (pv 1) ac (aM _)) (ap (cL (i:=2) lV.nd (rM uS (pv 2)))) aJ))
     (ap (aH (aY (aa (ax eR (pv 0) (pv 2)) (aa (ax eR (pv 1) (pv 2)) af)))))))),?_⟩
 try dsimp only [eS,bj]
 try (refine eP ?_;intro Z Z Z Z Z)
 refine ⟨_,rfl,rfl,_,rfl,?_⟩
 refine oY (λ e=>j (fD.mp e)) ?_
 refine ⟨_,rfl,_,rfl,t,b,rfl,λ c n=>?_⟩
 obtain ⟨y,z,F,fn⟩:=KA j n
 have B:Bd 8999 c:=(l.le (by lia)).mono (by decide)
 refine ⟨λ a d=>d=H/\∃ C,A4 (C≠0) (Bd 8999 C) (Fr t b (t.fdiv C) (b.fdiv C)) (a=[some (.int t),some (.int b),some (.int C)]),?_,?_⟩
 .
  refine ⟨_,rfl,_,_,rfl,rfl,_,rfl,?_⟩
  refine eM (λ h=>?_) (λ h=>?_)
  . exact ⟨_,rfl,_,rfl,rfl,-c,by lia,B.neg,fn h,rfl⟩
  . exact ⟨rfl,c,by lia,B,F (by lia),rfl⟩
 .
  rintro a d ⟨rfl,C,f,g,u,rfl⟩
  refine ⟨_,rfl,_,rfl,_,_,rfl,rfl,⟨f,g⟩,λ q o=>⟨_,rfl,_,rfl,_,_,rfl,rfl,⟨f,g⟩,λ r s=>⟨vg,λ p v=>?_⟩⟩⟩
  subst o s
  exact k _ _ p _ u (ak v) ag
def HQ (T:Txt K mg Ad):Def P w K mg base "plus" 3 ["one","other"] (As (λ a b c d=>a * d+c * b) K):=by
 refine T.Lc.cN Ir λ Z Z Z Z Z H V Q E r h=>?_
 obtain ⟨s,v,a,b,c,d,rfl,f,g,i,D,j,B,l,e,k⟩:=h
 refine ⟨_,(ap (aH (ay (lU T) r.m (aa (ax aO (ax bF (ar ao (pv 0) ac) (ar ao (pv 1) ac)) (ax bF (ar ao (pv 1) ac) (ar ao (pv 0) ac))) (aa (ax bF (ar ao (pv 0) ac) (ar ao (pv 1) ac)) af))))),?_⟩
 try dsimp only [eS,bj]
 refine ⟨_,rfl,_,_,_,_,rfl,rfl,.inr f,rfl,_,rfl,_,_,_,_,rfl,rfl,.inr g,rfl,_,_,rfl,rfl,⟨_,_,j,e,by decide⟩,λ x n=>?_⟩
 refine ⟨_,rfl,_,_,_,_,rfl,rfl,.inr g,rfl,_,rfl,_,_,_,_,rfl,rfl,.inr f,rfl,_,_,rfl,rfl,⟨_,_,l,B,by decide⟩,λ X o=>⟨_,_,rfl,rfl,λ t p=>?_⟩⟩
 refine ⟨_,rfl,_,_,_,_,rfl,rfl,.inr f,rfl,_,rfl,_,_,_,_,rfl,rfl,.inr g,rfl,_,_,rfl,rfl,⟨_,_,B,e,by decide⟩,λ u q=>?_⟩
 subst n o p q
 exact ⟨_,_,rfl,ab6 (aaN i D),(B.mul e).mono (by decide),k⟩
def Ac (T:Txt K mg Ad):Def P w K mg base "minus" 3 ["one","other"] (As (λ a b c d=>a * d - c * b) K):=by
 refine T.JE.cN GY λ Z Z Z Z Z H V Q E r h=>?_
 obtain ⟨s,v,a,b,c,d,rfl,f,g,i,D,j,B,l,e,k⟩:=h
 refine ⟨_,(ap (aH (ay (lU T) r.m (aa (ax cQ (ax bF (ar ao (pv 0) ac) (ar ao (pv 1) ac)) (ax bF (ar ao (pv 1) ac) (ar ao (pv 0) ac))) (aa (ax bF (ar ao (pv 0) ac) (ar ao (pv 1) ac)) af))))),?_⟩
 try dsimp only [eS,bj]
 refine ⟨_,rfl,_,_,_,_,rfl,rfl,.inr f,rfl,_,rfl,_,_,_,_,rfl,rfl,.inr g,rfl,_,_,rfl,rfl,⟨_,_,j,e,by decide⟩,λ x n=>?_⟩
 refine ⟨_,rfl,_,_,_,_,rfl,rfl,.inr g,rfl,_,rfl,_,_,_,_,rfl,rfl,.inr f,rfl,_,_,rfl,rfl,⟨_,_,l,B,by decide⟩,λ X o=>⟨_,_,rfl,rfl,λ t p=>?_⟩⟩
 refine ⟨_,rfl,_,_,_,_,rfl,rfl,.inr f,rfl,_,rfl,_,_,_,_,rfl,rfl,.inr g,rfl,_,_,rfl,rfl,⟨_,_,B,e,by decide⟩,λ u q=>?_⟩
 subst n o p q
 exact ⟨_,_,rfl,ab6 (aaN i D),(B.mul e).mono (by decide),k⟩
def mw (T:Txt K mg Ad):Def P w K mg base "under" 1 ["one","other"] (Ho K):=by
 refine T.Db.cN zG λ Z Z Z Z Z H v Q E n h=>?_
 obtain ⟨p,o,a,b,c,d,rfl,e,f,B,g,i,j,k⟩:=h
 refine ⟨_,(ap (aH (dI kS (ax bF (ar ao (pv 0) ac) (ar ao (pv 1) ac)) (ax bF (ar ao (pv 1) ac) (ar ao (pv 0) ac)) (aM _)))),?_⟩
 try dsimp only [eS,bj]
 refine ⟨_,rfl,_,_,_,_,rfl,rfl,.inr e,rfl,_,rfl,_,_,_,_,rfl,rfl,.inr f,rfl,_,_,rfl,rfl,⟨_,_,B,j,by decide⟩,λ x l=>?_⟩
 refine ⟨_,rfl,_,_,_,_,rfl,rfl,.inr f,rfl,_,rfl,_,_,_,_,rfl,rfl,.inr e,rfl,_,_,rfl,rfl,⟨_,_,i,g,by decide⟩,λ X m=>⟨_,_,rfl,rfl,?_⟩⟩
 subst l m
 exact k
def c9 (T:Txt K mg Ad):Def P w K mg base "is_whole_upto" 1 ["thing","greatest"] IK:=by
 refine T.sH.cN qB λ Z Z Z Z Z H c Q E b h=>?_
 obtain ⟨n,g,rfl,k⟩:=h
 refine ⟨_,(ai (bB (PW.pt (tZ (cT (aV rH (by rfl) T.pJ nB (aa (pv 0) (aa (Ct (v:=V.ty "bool") rfl T.Mv IN rfl) af)))) (rf (eJ (cT (aV rH (by rfl) T.pJ nB (aa (pv 0) (aa (Ct (v:=V.ty "int") rfl T.CK xH rfl) af)))))))) (ap (aH fP)) aJ)
     (ap (aH (Fj jp jp ac (pv 0) (pv 1))))),?_⟩
 try dsimp only [eS,bj]
 refine ⟨_,rfl,_,_,_,_,_,rfl,.int n,rfl,yk K,_,rfl,fe ⟨_,rfl,_,_,_,_,_,rfl,.int n,rfl,rfl,_,rfl,fe ?_⟩⟩
 refine ⟨_,rfl,_,_,rfl,rfl,_,rfl,?_⟩
 by_cases a:(0:Int)<=n
 .
  refine qG a ⟨_,rfl,_,_,rfl,rfl,?_⟩
  have:decide (n<=g)=decide (0<=n/\n<=g):=ace.mpr ⟨λ h=>⟨a,h⟩,λ h=>h.2⟩
  show Q (V.bl (decide (n<=g))) H
  rw [this]
  exact k
 .
  refine oY a ?_
  have:decide (0<=n/\n<=g)=false:=aap λ h=>a h.1
  rw [this] at k
  exact k
def cI (T:Txt K mg Ad):hC P w K mg base Ad.bw "many" 1 ["self"] [] (Iu K Ad.bw):=by
 refine T.Ap.fS wV λ Z Z Z Z Z H v Q E p h=>?_
 obtain ⟨a,o,m,rfl,f,k⟩:=h
 refine ⟨_,(ap (aH (aV bH (by rfl) T.eF cK (aa (aU (pv 0) rfl) af)))),?_⟩
 try dsimp only [eS,bj]
 obtain ⟨⟨D,t,s,u,x,V,v,L,A,rfl,c,J,g,M,G,I,N,q,r,d,j,l,i,F⟩,y,z,B,C⟩:=f
 refine ⟨_,rfl,a,_,D,_,_,rfl,c,T.aF,T.cu,oO ..,_,_,rfl,.inl (aX.of g),λ n b=>?_⟩
 have e:n=(m.rows.length:Int):=by rw [b,d.length,No]
 rw [e]
 exact k
def bT (T:Txt K mg Ad):hC P w K mg base Ad.bw "look_for" 3 ["self","room"] [] (zh K Ad.bw):=by
 refine T.sj.fS qL λ Z Z Z Z Z H v Q E e h=>?_
 obtain ⟨a,f,m,i,rfl,b,hi,k⟩:=h
 refine ⟨_,(ap (bB (eJ (jL jp kS ac (pv 1) (fH (pv 0) T.aF (cI T) .nil e.m))) (ap cE) aJ)),?_⟩
 try dsimp only [eS,bj]
 obtain ⟨⟨d,j,g,l,n,V,v,o,A,p,c,Z⟩,Z⟩:=id b
 refine ⟨_,rfl,_,_,rfl,rfl,_,rfl,qG (by lia) ⟨_,rfl,a,d,_,rfl,c,rfl,a,f,m,rfl,b,_,_,rfl,rfl,_,rfl,?_⟩⟩
 exact fQ (by lia) k
def pA (T:Txt K mg Ad):hC P w K mg base Ad.bw "sky" 4 ["self","room"] [] (KZ K Ad.bw):=by
 refine T.BC.fS Ak λ Z Z Z Z Z H V Q E l h=>?_
 obtain ⟨a,F,m,i,z,rfl,c,e,k⟩:=h
 refine ⟨_,(ai (bC (aW (pv 0) T.aF (bT T) .nil l.m (aa (pv 1) af)))
     (ap (aH (ar ao (aU (pv 0) rfl) (pv 1))))),?_⟩
 try dsimp only [eS,bj]
 obtain ⟨⟨D,B,y,C,L,U,V,W,A,x,b,J,s,M,G,I,N,t,u,o,f,p,n,r⟩,q,O,R,S⟩:=id c
 have hi:i<m.rows.length:=by rw [<- q];exact (Br.mp e).1
 obtain ⟨v,j,g⟩:=f.get (i:=i) (d:=pF z) (by rw [Zj,e];rfl)
 refine ⟨_,rfl,a,D,_,rfl,b,rfl,_,rfl,a,F,m,i,rfl,c,hi,?_⟩
 exact ⟨_,rfl,a,_,D,_,_,rfl,b,T.aF,T.c8,iV ..,_,rfl,_,_,_,_,rfl,rfl,.inl (aX.of G),fK j,k v g⟩
def d8 (T:Txt K mg Ad):hC P w K mg base Ad.bw "stove" 4 ["self","room"] [] (FN K Ad.bw):=by
 refine T.yl.fS vG λ Z Z Z Z Z H V Q E l h=>?_
 obtain ⟨a,F,m,i,z,rfl,c,e,k⟩:=h
 refine ⟨_,(ai (bC (aW (pv 0) T.aF (bT T) .nil l.m (aa (pv 1) af)))
     (ap (aH (ar ao (aU (pv 0) rfl) (pv 1))))),?_⟩
 try dsimp only [eS,bj]
 obtain ⟨⟨D,B,y,C,L,U,V,W,A,x,b,J,G,M,s,I,N,t,u,o,p,f,n,r⟩,O,q,R,S⟩:=id c
 have hi:i<m.rows.length:=by rw [<- q];exact (Br.mp e).1
 obtain ⟨v,j,g⟩:=f.get (i:=i) (d:=fz z) (by rw [Zj,e];rfl)
 refine ⟨_,rfl,a,D,_,rfl,b,rfl,_,rfl,a,F,m,i,rfl,c,hi,?_⟩
 exact ⟨_,rfl,a,_,D,_,_,rfl,b,T.aF,T.eA,kE ..,_,rfl,_,_,_,_,rfl,rfl,.inl (aX.of I),fK j,k v g⟩
def fA (T:Txt K mg Ad):hC P w K mg base Ad.bw "marks" 4 ["self","room"] [] (He K Ad.bw):=by
 refine T.yt.fS vL λ Z Z Z Z Z H V Q E q h=>?_
 obtain ⟨a,F,m,i,r,rfl,e,f,k⟩:=h
 refine ⟨_,(ai (bC (aW (pv 0) T.aF (bT T) .nil q.m (aa (pv 1) af)))
     (ap (aH (cH gv (by rfl) T.tF o5 (aa (ar ao (aU (pv 0) rfl) (pv 1)) af))))),?_⟩
 try dsimp only [eS,bj]
 obtain ⟨⟨D,R,O,S,U,vm,V,vt,A,L,c,J,G,M,z,I,N,B,C,g,t,u,s,y⟩,W,X,Y,q4⟩:=id e
 have hi:i<m.rows.length:=(Br.mp f).1
 obtain ⟨v,l,b,x,rfl,o,j⟩:=g.get (i:=i) (d:=vj r) (by rw [Zj,f];rfl)
 refine ⟨_,rfl,a,D,_,rfl,c,rfl,_,rfl,a,F,m,i,rfl,e,hi,?_⟩
 exact ⟨_,rfl,a,_,D,_,_,rfl,c,T.aF,T.cu,oO ..,_,rfl,_,_,_,_,rfl,rfl,.inl (aX.of G),fK l,b,x,rfl,.inr o,λ p n=>k p x n j⟩
def jb (T:Txt K mg Ad):hC P w K mg base Ad.bw "own_share" 4 ["self","room"] [] (MN K Ad.bw):=by
 refine T.qE.fS fc λ Z Z Z Z Z H vs Q E l h=>?_
 obtain ⟨a,fp,m,i,rfl,G,hi,k⟩:=h
 refine ⟨_,(ai (cL (i:=2) fc.nd (ay (Ac T) l.m (aa (hV (v:=V.ref _) rfl T.Ce rfl) (aa (ar ao (ar ao (aU (pv 0) rfl) (pv 1)) ac) af))))
     (ai (c6 aaH rfl (cg rfl T.dB (aa (fH (pv 0) T.aF (cI T) .nil l.m) af)) (ij (i:=3) fc.nd) (ap (cL (i:=2) fc.nd (ay (Ac T) l.m (aa (pv 2) (aa (AA (Dp l) (aU (pv 0) rfl) (aY (aa (pv 1) (aa (pv 3) af))) (hV (v:=V.ref _) rfl T.i8 rfl) ⟨rfl,rfl,rfl,rfl⟩) af))))))
     (ap (aH (pv 2))))),?_⟩
 try dsimp only [eS,bj]
 try (refine dQ ?_;intro Z Z Z Z)
 obtain ⟨⟨z,pm,pf,ps,pt,vm,vs,vt,aD,pY,B,ju,gH,Y,gS,iM,n1,n2,n3,dm,ds,dt,df,fk⟩,q1,q2,q3,M⟩:=id G
 have Ub:i<m.aN.length:=by rw [q1];exact hi
 have X:=aL Ub
 obtain ⟨v,ev,dv⟩:=ds.get (i:=i) (d:=pF m.aN[i]) (by rw [Zj,X];rfl)
 obtain ⟨p0,v1,v2,v3,rfl,wr,d1,d2,d3⟩:=dv.oK
 obtain ⟨p1,rfl,Aq⟩:=d1.fr
 have W:m.aN[i].1=m.fO i:=by unfold av.fO;rw [X];rfl
 have O:dY 100 m.aN[i].1:=W ▸ M.fO i
 refine ⟨_,rfl,a,_,z,_,_,rfl,B,T.aF,T.c8,iV ..,_,rfl,_,_,_,_,rfl,rfl,.inl (aX.of gS),fK ev,_,_,_,_,rfl,rfl,.inr wr,rfl,?_⟩
 refine ⟨Ad.wC,p1,1,1,_,_,rfl,T.Dm.at H,Aq,by decide,O.p,oN,oN,O.t.mono (by decide),O.b.mono (by decide),λ q r u H1 F N c=>?_⟩
 have e0:(q,r)=m.ge i 0:=by
   have:=F.nf (aaN (by decide) O.p)
   rw [this]
   unfold av.ge nS
   rw [<- W];rfl
 refine ⟨_,rfl,a,z,_,rfl,N _ _ B,rfl,a,fp,m,rfl,aZ.same N G,_,rfl,by lia,by lia,?_⟩
 refine fW (lo:=0) (n:=m.rows.length) (λ j U R=>aG H R/\E2 λ (u:am) (x:eL)=>R u=some (.tup [.int (m.ge i j).1,.int (m.ge i j).2])/\U=[some (.ref a),some (aq i),some (.ref u),x])
   ⟨N,u,none,by rw [<- e0];exact c,rfl⟩ ?_ ?_
 .
  rintro Z j U e hj ⟨s,u,x,c,rfl⟩
  have y:=(M.ge i j).mono (show 201+101 * j<=1000 by lia)
  obtain ⟨of,ot⟩:True/\True:=⟨trivial,trivial⟩
  refine ⟨_,rfl,_,rfl,a,_,z,_,_,rfl,s _ _ B,T.aF,T.eU,mU ..,_,rfl,.inr ⟨_,.inl (s _ _ Y)⟩,_,rfl,_,rfl,vg,λ J Ji=>?_⟩
  have S:=ak (o:=.tup [aq i,.int (0+(j:Int))]) Ji
  have BY:(upd e J (.tup [aq i,.int (0+(j:Int))])) J=some (.tup ((jj i j).map kV)):=by rw [ag,aaX];rfl
  refine ⟨_,EJ.t (S _ _ (s _ _ Y)) BY,?_⟩
  have D:Dn K (upd e J (.tup [aq i,.int (0+(j:Int))])) (dW (m.kq i j)) ((gI aD (jj i j)).getD (.ref Ad.kF)):=by
    have:=(aZ.same (s.trans S) G).ex
    have q:=df i j
    refine Dn.same (s.trans S) _ (CV q (T.lQ.fr (f:=(0,1))))
  obtain ⟨L,A,C⟩:=D.fr
  have g:=M.kq i j
  rw [A]
  refine ⟨u,L,_,_,_,_,rfl,bY.of (S _ _ c),C,y.p,g.p,y.t,y.b,g.t.mono (by decide),g.b.mono (by decide),λ q r u' H4 F s4 I=>?_⟩
  refine ⟨s.trans (S.trans s4),u',_,?_,rfl⟩
  have:=F.nf (aaN y.p g.p)
  rw [I,av.n9]
  unfold nS
  rw [<- this]
 . rintro U e ⟨s,u,x,c,rfl⟩
   exact ⟨_,rfl,k _ e s (jl (bY.of c))⟩
def lI (T:Txt K mg Ad):hC P w K mg base Ad.bw "share" 5 ["self","into","of"] [] (F5 K Ad.bw):=by
 refine T.xO.fS vT λ Z Z Z Z Z H u Q E g h=>?_
 obtain ⟨a,F,m,i,j,rfl,c,hi,r,k⟩:=h
 refine ⟨_,(ai (bC (aW (pv 0) T.aF (bT T) .nil g.m (aa (pv 1) af)))
     (ai (bC (aW (pv 0) T.aF (bT T) .nil g.m (aa (pv 2) af)))
     (ai (bB (aK cP (pv 1) (pv 2) (aM _)) (ap (aH (aW (pv 0) T.aF (jb T) .nil g.m (aa (pv 1) af)))) aJ)
     (ap (aH (AA (Dp g) (aU (pv 0) rfl) (aY (aa (pv 1) (aa (pv 2) af))) (hV (v:=V.ref _) rfl T.i8 rfl) ⟨rfl,rfl,rfl,rfl⟩)))))),?_⟩
 try dsimp only [eS,bj]
 try (refine eP ?_;intro Z Z Z Z Z)
 obtain ⟨⟨d,Y,X,ps,pt,vm,u,vt,A,W,b,N,G,M,I,L,O,R,U,x,y,z,D,C⟩,q1,q2,q3,q4⟩:=id c
 refine ⟨_,rfl,a,d,_,rfl,b,rfl,_,rfl,a,F,m,i,rfl,c,hi,⟨_,rfl,a,d,_,rfl,b,rfl,_,rfl,a,F,m,j,rfl,c,r,?_⟩⟩
 refine ⟨_,rfl,_,rfl,rfl,_,rfl,?_⟩
 by_cases l:i=j
 . subst l
   refine qG rfl ⟨_,rfl,a,d,_,rfl,b,rfl,_,rfl,a,F,m,i,rfl,c,hi,λ v p S q=>k v p S ?_⟩
   rw [av.share,aau rfl];exact q
 .
  refine oY (λ e=>l (by have:=fD.mp e;lia)) ?_
  refine ⟨_,rfl,a,_,d,_,_,rfl,b,T.aF,T.eU,mU ..,_,rfl,.inr ⟨_,.inl M⟩,_,rfl,_,rfl,vg,λ n J=>?_⟩
  have s:=ak (o:=.tup [aq i,aq j]) J
  have B:(upd H n (.tup [aq i,aq j])) n=some (.tup ((jj i j).map kV)):=by rw [ag];rfl
  refine ⟨_,EJ.t (s _ _ M) B,k _ _ s ?_⟩
  rw [av.share,aax l]
  exact Dn.same s _ (CV (D i j) (T.lQ.fr (f:=(0,1))))
def gp (T:Txt K mg Ad):hC P w K mg base Ad.bw "look_at_share" 5 ["self","room","share","former"] [] (Jg K Ad.bw):=by
 refine T.mG.fS gM λ Z Z Z Z Z H R Q E c h=>?_
 obtain ⟨a,I,m,i,v1,v2,f,g,rfl,j,hi,D,z,d,o,hf,l,k⟩:=h
 refine ⟨_,(ai (cL (i:=4) gM.nd (ay (HQ T) c.m (aa (aW (pv 0) T.aF (jb T) .nil c.m (aa (pv 1) af)) (aa (pv 3) af))))
     (ap (bB (PW.pt (tZ (cT (ay (mw T) c.m (aa (pv 2) (aa (hV (v:=V.ref _) rfl T.i8 rfl) af)))) (rf (cT (ay (mw T) c.m (aa (pv 4) (aa (pv 2) af))))))) (ap cE) aJ))),?_⟩
 try dsimp only [eS,bj]
 obtain ⟨⟨C,pm,pf,ps,pt,vm,R,vt,Y,pY,J,ju,gH,mQ,gS,iM,n1,n2,n3,dm,ds,dt,df,fk⟩,q1,q2,q3,N⟩:=id j
 obtain ⟨n,rfl,B⟩:=D.fr
 obtain ⟨L,rfl,W⟩:=z.fr
 refine ⟨_,rfl,a,C,_,rfl,J,rfl,_,rfl,a,I,m,i,rfl,j,hi,λ v U s A=>⟨_,rfl,?_⟩⟩
 obtain ⟨M,rfl,x⟩:=A.fr
 have O:dY 800 (m.own i):=(N.ge i _).mono (by lia)
 refine ⟨M,L,_,_,_,_,rfl,x,s.tup W,O.p,o.p,O.t.mono (by decide),O.b.mono (by decide),o.t.mono (by decide),o.b.mono (by decide),λ q r u X F S y=>?_⟩
 have G:(q,r)=mq (m.own i) g:=F.nf (aaN O.p o.p)
 have e:dY 950 (mq (m.own i) g):=(O.plus o).mono (by decide)
 rw [<- G] at e l
 refine ⟨_,rfl,n,Ad.kF,_,_,_,_,rfl,S.tup (s.tup B),T.lQ.at _,d.t.mono (by decide),d.b.mono (by decide),oN,oN,_,rfl,oY (by lia) ?_⟩
 refine ⟨_,rfl,_,rfl,u,n,_,_,_,_,rfl,bY.of y,S.tup (s.tup B),e.t.mono (by decide),e.b.mono (by decide),d.t.mono (by decide),d.b.mono (by decide),_,rfl,oY (abZ l) (k _ (s.trans S))⟩
def oS (T:Txt K mg Ad):hC P w K mg base Ad.bw "put_flow" 6 ["self","into","of","share"] [] (AB K Ad.bw):=by
 refine T.sG.fS rB λ Z Z Z Z Z H V Q E g h=>?_
 obtain ⟨a,F,m,i,j,v,f,rfl,c,hi,p,l,D,O,x,y,k⟩:=h
 refine ⟨_,(ai (bC (aW (pv 0) T.aF (bT T) .nil g.m (aa (pv 1) af)))
     (ai (bC (aW (pv 0) T.aF (bT T) .nil g.m (aa (pv 2) af)))
     (ai (bB (aK cP (pv 1) (pv 2) (aM _)) (ap cE) aJ)
     (ai (bC (aW (pv 0) T.aF (gp T) .nil g.m (aa (pv 1) (aa (pv 3) (aa (aW (pv 0) T.aF (lI T) .nil g.m (aa (pv 1) (aa (pv 2) af))) af)))))
     (ap (Jd (Dp g) (aU (pv 0) rfl) (aY (aa (pv 1) (aa (pv 2) af))) (pv 3) rfl)))))),?_⟩
 try dsimp only [eS,bj]
 try (refine u8 ?_;intro Z Z Z Z Z Z)
 obtain ⟨⟨d,pm,pf,ps,pt,vm,V,vt,L,pY,b,ju,Y,M,gS,iM,n1,n2,n3,U,W,X,R,u⟩,q1,q2,q3,A⟩:=id c
 refine ⟨_,rfl,a,d,_,rfl,b,rfl,_,rfl,a,F,m,i,rfl,c,hi,⟨_,rfl,a,d,_,rfl,b,rfl,_,rfl,a,F,m,j,rfl,c,p,?_⟩⟩
 refine ⟨_,rfl,_,rfl,rfl,_,rfl,oY (λ e=>l (by have:=fD.mp e;lia)) ?_⟩
 refine ⟨_,rfl,a,d,_,rfl,b,rfl,_,rfl,_,rfl,_,rfl,a,d,_,rfl,b,rfl,_,rfl,_,rfl,a,F,m,i,j,rfl,c,hi,p,λ z I s n=>?_⟩
 rw [av.share,aax l] at n
 refine ⟨a,F,m,i,v,z,f,_,rfl,c.same s,hi,Dn.same s _ D,n,O,A.kq i j,x,y,λ r C=>?_⟩
 have N:=s.trans C
 refine ⟨_,rfl,_,rfl,a,_,d,_,_,rfl,N _ _ b,T.aF,T.eU,mU ..,_,rfl,_,rfl,vg,λ q J=>?_⟩
 have G:=ak (o:=.tup [aq i,aq j]) J
 have B:(upd r q (.tup [aq i,aq j])) q=some (.tup ((jj i j).map kV)):=by rw [ag];rfl
 have S:=N.trans G
 refine ⟨_,_,rfl,Fm.t (S _ _ M) B (aas u.len (by decide)),k _ F (EK c S b M (by lia) (by lia) (Dn.same S _ D) O)⟩
def qj (T:Txt K mg Ad):hC P w K mg base Ad.bw "put_sky" 6 ["self","room","share","low","high"] [] (AV K Ad.bw):=by
 refine T.uo.fS sM λ Z Z Z Z Z H V Q E l h=>?_
 obtain ⟨a,F,m,i,C,v2,v3,f,lo,hi,rfl,e,M,p,q,r,z,O,n,j,R,S,k⟩:=h
 refine ⟨_,(ai (bC (aW (pv 0) T.aF (bT T) .nil l.m (aa (pv 1) af)))
     (ai (bB (cT (ay (mw T) l.m (aa (pv 4) (aa (pv 3) af)))) (ap cE) aJ)
     (ai (bC (aW (pv 0) T.aF (gp T) .nil l.m (aa (pv 1) (aa (pv 2) (aa (ar ao (ar ao (aU (pv 0) rfl) (pv 1)) ac) af)))))
     (ap (iW (aY (aa (pv 2) (aa (pv 3) (aa (pv 4) af)))) (xR (aU (pv 0) rfl) (pv 1) set_list)))))),?_⟩
 try dsimp only [eS,bj]
 try (refine eP ?_;intro Z Z Z Z Z)
 obtain ⟨⟨D,pm,pf,W,pt,vm,V,vt,aD,pY,c,ju,gH,mQ,g,iM,n1,n2,n3,dm,u,dt,df,fk⟩,X,q2,q3,Y⟩:=id e
 obtain ⟨A,rfl,wR⟩:=q.fr
 obtain ⟨B,rfl,G⟩:=r.fr
 have U:i<m.aN.length:=by rw [X];exact M
 have y:=aL U
 obtain ⟨v,N,I⟩:=u.get (i:=i) (d:=pF m.aN[i]) (by rw [Zj,y];rfl)
 obtain ⟨p0,w1,w2,w3,rfl,wr,x,e2,e3⟩:=I.oK
 have L:m.aN[i].1=m.fO i:=by unfold av.fO;rw [y];rfl
 rw [L] at x
 refine ⟨_,rfl,a,D,_,rfl,c,rfl,_,rfl,a,F,m,i,rfl,e,M,?_⟩
 refine ⟨_,rfl,_,rfl,B,A,_,_,_,_,rfl,G,wR,n.t.mono (by decide),n.b.mono (by decide),O.t.mono (by decide),O.b.mono (by decide),_,rfl,oY (abZ j) ?_⟩
 refine ⟨_,rfl,a,D,_,rfl,c,rfl,_,rfl,_,rfl,_,rfl,a,_,D,_,_,rfl,c,T.aF,T.c8,iV ..,_,rfl,_,_,_,_,rfl,rfl,.inl (aX.of g),fK N,_,_,_,_,rfl,rfl,.inr wr,rfl,?_⟩
 refine ⟨a,F,m,i,C,w1,f,_,rfl,e,M,p,x,z,Y.fO i,R,S,λ H2 s2=>?_⟩
 refine ⟨_,rfl,_,rfl,_,rfl,yF,λ kp J=>?_⟩
 have s3:=ak (o:=.tup [C,.ref A,.ref B]) J
 have s:=s2.trans s3
 have hl:V.length=m.aN.length:=by rw [u.length,No]
 refine ⟨_,rfl,a,_,D,_,_,rfl,s _ _ c,T.aF,T.c8,iV ..,_,rfl,W,V,_,i,rfl,rfl,s _ _ g,pL (by lia),k _ F (Gj e s c g (Gf (bY.of ag) (Dn.same s _ p) (Dn.same s _ q) (Dn.same s _ r)) ⟨z,O,n⟩)⟩
def o7 (T:Txt K mg Ad):NQ P w K mg base Ad.bw "put_stove" "Hold.put_stove" fE (.ref Ad.gT) 4 ["self","room","heat","wood","stay","fails"] (pR K Ad.bw):=by
 refine T.qC.ZG pU (λ n H Q E h=>?_) (λ f Z Z Z s H n Q E c h=>?_)
 . obtain ⟨a,e,m,i,v,f,W,d,F,rfl,Z⟩:=h
   rfl
 .
  obtain ⟨a,e,m,i,v,f,W,d,F,rfl,j,hi,D,O,X,x,y,R,k⟩:=h
  refine ⟨_,(ai (bC (aW (pv 0) T.aF (bT T) .nil c.m (aa (pv 1) af)))
    (ai (bB (cT (ay (mw T) c.m (aa (pv 2) (aa (hV (v:=V.ref _) rfl T.i8 rfl) af)))) (ap cE) aJ)
    (ai (bB (eJ (cT (ay (c9 T) c.m (aa (pv 3) (aa (fR rfl T.zU) af))))) (ap cE) aJ)
    (ai (bB (eJ (cT (ay (c9 T) c.m (aa (pv 4) (aa (fR rfl T.zj) af))))) (ap cE) aJ)
    (ai (bB (eJ (cT (ay (c9 T) c.m (aa (pv 5) (aa (fR rfl T.xF) af))))) (ap cE) aJ)
    (ap (iW (aY (aa (pv 2) (aa (pv 3) (aa (pv 4) (aa (pv 5) af))))) (xR (aU (pv 0) rfl) (pv 1) set_list)))))))),?_⟩
  try dsimp only [eS,bj]
  try (refine jT ?_;intro Z Z Z Z Z Z Z)
  obtain ⟨⟨l,pm,pf,ps,A,vm,n,q,B,pY,g,ju,N,mQ,U,I,n1,n2,n3,G,L,r,C,M⟩,q1,q2,q3,q4⟩:=id j
  obtain ⟨p,rfl,u⟩:=D.fr
  refine ⟨_,rfl,a,l,_,rfl,g,rfl,_,rfl,a,e,m,i,rfl,j,hi,?_⟩
  refine ⟨_,rfl,p,Ad.kF,_,_,_,_,rfl,u,T.lQ.at _,O.t.mono (by decide),O.b.mono (by decide),oN,oN,_,rfl,oY (by lia) ?_⟩
  refine ⟨_,rfl,W,9,rfl,_,rfl,fQ x ⟨_,rfl,d,3,rfl,_,rfl,fQ y ⟨_,rfl,F,3,rfl,_,rfl,fQ R ?_⟩⟩⟩
  refine ⟨_,rfl,_,rfl,_,rfl,_,rfl,pX,λ kp J=>?_⟩
  have S:=ak (o:=.tup [.ref p,.int W,.int d,.int F]) J
  have Y:q.length=m.bv.length:=by rw [r.length,No]
  exact ⟨_,rfl,a,_,l,_,_,rfl,S _ _ g,T.aF,T.eA,kE ..,_,rfl,A,q,_,i,rfl,rfl,S _ _ I,pL (by lia),k _ e (Cd (z:=(f,W,d,F)) j S g I (fX (bY.of ag) (br (Dn.same S _ D) (br rfl (br rfl (br rfl dS))))) O)⟩
def lJ (T:Txt K mg Ad):zS P w K mg base Ad.bw "put_stove" 4 ["self","room","heat","wood","stay","fails"] [] (pR K Ad.bw) :=
 (o7 T).Io T.rh λ i H=>by
   obtain ⟨U,j,k,rfl,r,R,g⟩:=vals3 H
   exact ⟨[],.nil,λ Z Z Z Z Z Z u h=>by obtain ⟨a,b,c,d,e,f,rfl⟩:∃ a b c d e f,u=[a,b,c,d,e,f]:=Gr (by simpa using h:u.length=6) λ a b c d e f=>⟨a,b,c,d,e,f,rfl⟩;exact ⟨_,rfl,rfl⟩⟩
def oX (T:Txt K mg Ad):Def P w K mg base "bands_together" 1 ["rows"] (Hb K):=by
 refine T.qy.cN eZ λ Z Z Z Z Z H V Q E G h=>?_
 obtain ⟨p,X,r,rfl,m,j,F,q,k⟩:=h
 refine ⟨_,(ai (cL (i:=1) eZ.nd ac)
     (ai (c6 aaH rfl (cf (pv 0)) (ij (i:=2) eZ.nd) (ap (cL (i:=1) eZ.nd (ax bF (pv 1) (ax cQ (aV bH (by rfl) T.eF cK (aa (pv 2) af)) ac)))))
     (ap (aH (pv 1))))),?_⟩
 try dsimp only [eS,bj]
 try (refine dQ ?_;intro Z Z Z Z)
 have M:X.length=r.length:=by rw [j.length,No]
 refine ⟨_,rfl,p,rfl,⟨X,m⟩,?_⟩
 refine hJ (xs:=X) (λ i U a=>a=H/\∃ (x:eL),Bd (1+3 * i) (i9 (r.take i))/\U=[some (.ref p),some (.int (i9 (r.take i))),x]) ⟨rfl,none,(by show Bd 1 (i9 []);exact oN),rfl⟩ (λ i U a Z e=>by rw [e.1];exact m) ?_ ?_
 .
  rintro Z i x U a o ⟨rfl,y,c,rfl⟩
  have hi:i<r.length:=by rw [<- M];exact (Br.mp o).1
  obtain ⟨v,B,b,Y,rfl,C,D⟩:=j.get (i:=i) (d:=vj r[i]) (by rw [Zj,aL hi];rfl)
  obtain rfl:x = .ref b:=aaq (o.symm.trans B)
  have l:=q r[i] (aay hi)
  have s:Y.length=r[i].length:=by rw [D.length,No]
  refine ⟨_,rfl,_,rfl,_,_,rfl,.inr C,λ n t=>⟨_,_,rfl,rfl,λ u A=>⟨_,_,rfl,rfl,?_,λ z g=>?_⟩⟩⟩
  . exact ⟨_,3,c,(show u.natAbs<2 ^ 3 by lia),(show 1+3 * i+3<=_ by lia)⟩
  .
   have f:z=i9 (r.take (i+1)):=by
     rw [g,A,t,s]
     unfold i9
     rw [acr,aL hi,abI];rfl
   refine ⟨rfl,_,?_,by rw [<- f];rfl⟩
   rw [<- f,g]
   exact (c.mul (show u.natAbs<2 ^ 3 by lia)).mono (by lia)
 .
  rintro U a ⟨rfl,y,c,rfl⟩
  refine ⟨_,rfl,?_⟩
  rw [M,aaB]
  exact k
def wZ (T:Txt K mg Ad):Def P w K mg base "is_rising" 2 ["marks"] (DI K):=by
 refine T.yW.cN wO λ Z Z Z Z Z H vs Q E hr h=>?_
 obtain ⟨p,X,r,rfl,j,g,L,hl,k⟩:=h
 refine ⟨_,(ap (aH (aV (wq rfl) (by rfl) T.J9 Fu (aa (fJ ["low","high"] [] [] .nil rfl (Mh rfl T.KH (aa (pv 0) (aa (lW Da (pv 0) (pI ac) pS) af))) (λ Z Z Z Z Z=>(cW (K:=K) (n:=2) rfl rfl (aP (k9 (i:=0)) (aP (k9 (i:=1)) cZ)))) (λ Z Z Z Z Z=>cr) (λ Z Z Z Z Z=>(ay (mw T) hr.m (aa (pv 0) (aa (pv 1) af))))) af)))),?_⟩
 try dsimp only [eS,bj]
 refine ⟨_,rfl,_,rfl,1,rfl,p,X,rfl,j,λ q wR=>?_⟩
 have s:=ak (o:=.lst (vF X (some 1) none)) wR
 rw [GI] at s |-
 have M:X.length=r.length:=by rw [g.length,No]
 refine ⟨p,q,rfl,⟨X,s.seq j⟩,⟨X.tail,aX.of ag⟩,λ D J=>?_⟩
 have Y:min X.length X.tail.length=(List.zipWith bg r r.tail).length:=by rw [ael,ady,ady,M]
 refine G1 (K:=K) (a:=p) (b:=q) (xs:=X) (ys:=X.tail) (λ i A U c=>A4 (aG (upd H q (.lst X.tail)) c) (c D=some (.lst A)) (A=((List.zipWith bg r r.tail).take i).map V.bl) (E2 λ B C=>U=[B,C]))
   ⟨ak J,ag,rfl,none,none,rfl⟩ (λ i A U c Z e=>⟨e.1.seq (s.seq j),e.1.seq (aX.of ag)⟩) ?_ ?_
 .
  rintro i x y z A U c hx l tN ⟨S,f,rfl,B,C,rfl⟩
  rw [aet] at l
  have I:i+1<r.length:=by rw [<- M];exact (Br.mp l).1
  obtain ⟨u,eu,du⟩:=g.get (i:=i) (d:=dW r[i]) (by rw [Zj,aL (by lia)];rfl)
  obtain rfl:x=u:=aaq (hx.symm.trans eu)
  obtain ⟨v,ev,dv⟩:=g.get (i:=i+1) (d:=dW r[i+1]) (by rw [Zj,aL I];rfl)
  obtain rfl:y=v:=aaq (l.symm.trans ev)
  obtain ⟨F,rfl,g1⟩:=du.fr
  obtain ⟨G,rfl,g2⟩:=dv.fr
  have O:=L r[i] (aay _)
  have N:=L r[i+1] (aay _)
  have R:aG c (upd c z (.tup [.ref F,.ref G])):=ak tN
  have W:=s.trans (S.trans R)
  have nD:D≠z:=az f tN
  refine ⟨z,_,rfl,bY.of ag,rfl,_,_,rfl,_,_,rfl,rfl,?_⟩
  refine ⟨_,rfl,_,rfl,F,G,_,_,_,_,rfl,W.tup g1,W.tup g2,O.t.mono (by decide),O.b.mono (by decide),N.t.mono (by decide),N.b.mono (by decide),?_⟩
  have hb:=uD (aL (show i<r.length by lia)) (aL I)
  refine ⟨by rw [aw nD];exact f,?_,aG.put (S.trans R) J,ag,?_,_,_,rfl⟩
  . rw [No,aaK]
    have:(7:Nat)<sizeLine:=by decide
    rw [<- Y]
    lia
  . rw [acr,hb,aai]
    rfl
 . rintro A U c ⟨S,f,rfl,B,C,rfl⟩
   rw [Y,aaB] at f
   exact ⟨D,_,rfl,aX.of f,k _ (s.trans S)⟩
def pP (T:Txt K mg Ad):hC P w K mg base Ad.bw "put_room" 3 ["self","marks"] [] (Av K Ad.bw):=by
 refine T.sK.fS jO λ Z Z Z Z Z H l Q E y h=>?_
 obtain ⟨a,fp,m,p,X,r,rfl,I,h4,L,F,ho,yK,t,Qh,hb,k⟩:=h
 refine ⟨_,(ai (bB (aK FQ (fH (pv 0) T.aF (cI T) .nil y.m) (fR rfl T.wQ) (aM _)) (ap cE) aJ)
     (ai (bB (eJ (jL jp jp (fR rfl T.vK) (aV bH (by rfl) T.eF cK (aa (pv 1) af)) (fR rfl T.xE))) (ap cE) aJ)
     (ai (bB (eJ (cT (ay (wZ T) y.m (aa (pv 1) af)))) (ap cE) aJ)
     (ai (cL (i:=2) jO.nd (ax xL (aU (pv 0) rfl) (bG (aa (cH eV (by rfl) T.mN jR (aa (pv 1) af)) af))))
     (ai (bB (aK vU (ay (oX T) y.m (aa (pv 2) af)) (fR rfl T.xN) (aM _)) (ap cE) aJ)
     (ai (dh (pv 0) (pv 2) rfl)
     (ai (bC (im aaF aaM aaL cA (aU (pv 0) rfl) (aa (aY (aa (hV (v:=V.ref _) rfl T.i8 rfl) (aa (hV (v:=V.ref _) rfl T.i8 rfl) (aa (hV (v:=V.ref _) rfl T.i8 rfl) af)))) af)))
     (ai (bC (im aaF aaM aaL cA (aU (pv 0) rfl) (aa cy af)))
     (ap (aH (ax cQ (fH (pv 0) T.aF (cI T) .nil y.m) ac))))))))))),?_⟩
 try dsimp only [eS,bj]
 try (refine zK ?_;intro Z Z Z Z Z Z Z Z Z Z)
 obtain ⟨⟨d,O,pf,R,S,j,l,vt,aD,pY,g,ju,gH,mQ,G,M,n1,n2,n3,dm,ds,dt,df,fk⟩,q1,q2,q3,q4⟩:=id I
 have M3:X.length=r.length:=by rw [F.length,No]
 have lm:j.length=m.rows.length:=by rw [dm.length,No]
 have ls:l.length=m.aN.length:=by rw [ds.length,No]
 have lt:vt.length=m.bv.length:=by rw [dt.length,No]
 have ab:(7:Nat)<sizeLine:=by decide
 refine ⟨_,rfl,a,d,_,rfl,g,rfl,a,fp,m,rfl,I,_,_,rfl,rfl,_,rfl,oY (by lia) ?_⟩
 refine ⟨_,rfl,_,_,rfl,.inl L,λ n en=>⟨_,_,rfl,rfl,_,rfl,qG (by lia) ⟨_,_,rfl,rfl,_,rfl,fQ (by lia) ?_⟩⟩⟩
 refine ⟨_,rfl,p,X,r,rfl,L,F,ho,t,λ u U=>⟨_,rfl,?_⟩⟩
 rw [Qh]
 refine fe ?_
 refine ⟨_,rfl,a,_,d,_,_,rfl,U _ _ g,T.aF,T.cu,oO ..,_,rfl,p,X,rfl,.inl ⟨U.seq L,λ b J=>⟨vW,λ A q=>?_⟩⟩⟩
 have s2:=U.trans (ak (o:=.tup X) J)
 have W:=s2.trans (ak (o:=.lst [.ref b]) q)
 refine ⟨O,A,j,[.ref b],rfl,rfl,W _ _ gH,ag,by rw [aaD];lia,λ c B=>?_⟩
 have Y:aG (upd u b (.tup X)) _:=(ak (o:=.lst [.ref b]) q).trans (ak (o:=.lst (j++[.ref b])) B)
 have s:=W.trans (ak (o:=.lst (j++[.ref b])) B)
 have dr:Dn K (upd (upd (upd u b (.tup X)) A (.lst [.ref b])) c (.lst (j++[.ref b]))) (vj r) (.ref b):=fX (bY.of (Y _ _ ag)) (bL.same s _ F)
 refine ⟨_,rfl,c,_,m.rows++[r],rfl,aX.of ag,?_,by rw [aaf,aaD];lia,?_,_,_,rfl,rfl,_,rfl,oY (by lia) ?_⟩
 . rw [aai]
   exact (bL.same s _ dm).snoc dr
 .
  intro x hx
  rcases aaz.mp hx with h|h
  . have:=q4.len x h;lia
  . rw [aac.mp h];lia
 refine ⟨_,rfl,_,rfl,a,_,d,_,rfl,s _ _ g,T.aF,T.cu,lt1000 rfl,?_⟩
 have ZX:H c=none:=W.free B
 have ad:c≠a:=(az g ZX).symm
 refine ⟨_,rfl,a,_,d,_,_,rfl,ag,T.aF,T.c8,iV ..,?_⟩
 have Qq:=eK G g nofun
 have R6:=eK M g nofun
 have g1:=(aw (H:=upd (upd (upd u b (.tup X)) A (.lst [.ref b])) c (.lst (j++[.ref b]))) (o:=.ins Ad.bw d (aQ "mark_rows" (.ref c) (lF m O pf R S))) Qq).trans (s _ _ G)
 have g2:=(aw (H:=upd (upd (upd u b (.tup X)) A (.lst [.ref b])) c (.lst (j++[.ref b]))) (o:=.ins Ad.bw d (aQ "mark_rows" (.ref c) (lF m O pf R S))) R6).trans (s _ _ M)
 refine ⟨.inl ⟨rfl,l,aX.of g1⟩,yF,λ q0 wr=>?_⟩
 have s5:=ak (o:=.tup [.ref Ad.kF,.ref Ad.kF,.ref Ad.kF]) wr
 refine ⟨R,l,_,rfl,rfl,s5 _ _ g1,by lia,?_⟩
 have g3:=(aw (o:=.lst (l++[.ref q0])) n3.symm).trans (s5 _ _ g2)
 have g4:=(aw (o:=.lst (l++[.ref q0])) Qq.symm).trans (s5 _ _ ag)
 refine ⟨_,rfl,a,_,d,_,_,rfl,g4,T.aF,T.eA,kE ..,.inl ⟨rfl,vt,aX.of g3⟩,S,vt,_,rfl,rfl,g3,by lia,?_⟩
 obtain ⟨mI,D⟩:=Ey (N:=Ad.kF) (r:=r) I s g gH G M ZX ag dr h4 ho ⟨yK,t⟩ (λ H'=>T.lQ.fr (f:=(0,1))) wr
 obtain ⟨⟨AM,DU,vx,si,qS,Z,Z,Z,Z,Z,C,Z⟩,Z⟩:=id D.at_
 refine ⟨_,rfl,a,AM,_,rfl,C,rfl,a,mI,_,rfl,D.at_,_,_,rfl,rfl,λ z ez=>?_⟩
 have e:z=(m.rows.length:Int):=by
   rw [ez]
   show (((m.rows++[r]).length:Nat):Int) - 1=_
   rw [aaf,aaD];lia
 rw [e]
 exact k _ mI D
def qH (T:Txt K mg Ad):NQ P w K mg base Ad.bw "__init__" "Hold.__init__" fU (.ref Ad.iu) 2 ["self","most","cap","load"] (Cy K Ad.bw):=by
 refine T.ss.ZG qg (λ vs H Q E h=>?_) (λ f Z Z Z s H vs Q E M h=>?_)
 . obtain ⟨x,d,most,d6,load,rfl,Z⟩:=h
   rfl
 .
  obtain ⟨x,d,most,d6,load,rfl,V,ju,hm,hc,hl,k⟩:=h
  refine ⟨_,(ai (bB (eJ (cT (ay (c9 T) M.m (aa (pv 1) (aa (fR rfl T.tK) af))))) (ap cE) aJ)
    (ai (bB (eJ (cT (ay (c9 T) M.m (aa (pv 2) (aa (fR rfl T.Ba) af))))) (ap cE) aJ)
    (ai (bB (eJ (cT (ay (c9 T) M.m (aa (pv 3) (aa (fR rfl T.zL) af))))) (ap cE) aJ)
    (ai (dh (pv 0) (pv 1) rfl)
    (ai (dh (pv 0) (pv 2) rfl)
    (ai (dh (pv 0) (pv 3) rfl)
    (ai (dh (pv 0) (bG af) rfl)
    (ai (dh (pv 0) Fy rfl)
    (ai (dh (pv 0) (bG af) rfl)
    (ap (dh (pv 0) (bG af) rfl))))))))))),?_⟩
  try dsimp only [eS,bj]
  try (refine Ea ?_;intro Z Z Z Z Z Z Z Z Z Z Z)
  refine ⟨_,rfl,most,4,rfl,_,rfl,fQ hm ⟨_,rfl,d6,30,rfl,_,rfl,fQ hc ⟨_,rfl,load,30,rfl,_,rfl,fQ hl ?_⟩⟩⟩
  have O:jw K Ad.bw x d H H []:=.start V
  refine ⟨_,rfl,_,rfl,x,_,d,_,rfl,O.at_,T.aF,T.iQ,lt1000 rfl,?_⟩
  have R:=O.put (fs':=aQ "most" (.int most) [])
  refine ⟨_,rfl,_,rfl,x,_,d,_,rfl,R.at_,T.aF,T.jk,lt1000 rfl,?_⟩
  have S:=R.put (fs':=aQ "cap" (.int d6) (aQ "most" (.int most) []))
  refine ⟨_,rfl,_,rfl,x,_,d,_,rfl,S.at_,T.aF,T.kP,lt1000 rfl,?_⟩
  have B:=S.put (fs':=aQ "load" (.int load) (aQ "cap" (.int d6) (aQ "most" (.int most) [])))
  refine ⟨aaZ _,λ p e=>?_⟩
  have y:=B.new (o:=.lst []) e
  refine ⟨_,rfl,x,_,d,_,rfl,y.at_,T.aF,T.cu,lt1000 rfl,λ c g=>?_⟩
  have i:=y.put (fs':=aQ "mark_rows" (.ref p) (aQ "load" (.int load) (aQ "cap" (.int d6) (aQ "most" (.int most) []))))
  have l:=i.new (o:=.dT []) g
  refine ⟨_,rfl,x,_,d,_,rfl,l.at_,T.aF,T.eU,lt1000 rfl,aaZ _,λ t a=>?_⟩
  have q:=l.put (fs':=aQ "flows" (.ref c) (aQ "mark_rows" (.ref p) (aQ "load" (.int load) (aQ "cap" (.int d6) (aQ "most" (.int most) [])))))
  have z:=q.new (o:=.lst []) a
  refine ⟨_,rfl,x,_,d,_,rfl,z.at_,T.aF,T.c8,lt1000 rfl,aaZ _,λ X F=>?_⟩
  have A:=z.put (fs':=aQ "skies" (.ref t) (aQ "flows" (.ref c) (aQ "mark_rows" (.ref p) (aQ "load" (.int load) (aQ "cap" (.int d6) (aQ "most" (.int most) []))))))
  have W:=A.new (o:=.lst []) F
  refine ⟨_,rfl,x,_,d,_,rfl,W.at_,T.aF,T.eA,lt1000 rfl,?_⟩
  have v:=W.put (fs':=lF (av.new most d6 load) p c t X)
  have h1:=y.keep (u:=.ins Ad.bw d (aQ "mark_rows" (.ref p) (aQ "load" (.int load) (aQ "cap" (.int d6) (aQ "most" (.int most) []))))) ag (B.ne e)
  have j:=l.keep (u:=.ins Ad.bw d (aQ "flows" (.ref c) (aQ "mark_rows" (.ref p) (aQ "load" (.int load) (aQ "cap" (.int d6) (aQ "most" (.int most) [])))))) (ak (o:=.dT []) g _ _ h1) (B.ne e)
  have D:=l.keep (u:=.ins Ad.bw d (aQ "flows" (.ref c) (aQ "mark_rows" (.ref p) (aQ "load" (.int load) (aQ "cap" (.int d6) (aQ "most" (.int most) [])))))) ag (i.ne g)
  have N:=λ b o (h:_=some o) (n:b≠x)=>z.keep (b:=b) (u:=.ins Ad.bw d (aQ "skies" (.ref t) (aQ "flows" (.ref c) (aQ "mark_rows" (.ref p) (aQ "load" (.int load) (aQ "cap" (.int d6) (aQ "most" (.int most) []))))))) h n
  have U:=N _ _ (ak (o:=.lst []) a _ _ j) (B.ne e)
  have G:=N _ _ (ak (o:=.lst []) a _ _ D) (i.ne g)
  have Y:=N _ _ ag (q.ne a)
  have r:=λ b o (h:_=some o) (n:b≠x)=>W.keep (b:=b) (u:=.ins Ad.bw d (lF (av.new most d6 load) p c t X)) h n
  have C:=r _ _ (ak (o:=.lst []) F _ _ U) (B.ne e)
  have I:=r _ _ (ak (o:=.lst []) F _ _ G) (i.ne g)
  have J:=r _ _ (ak (o:=.lst []) F _ _ Y) (q.ne a)
  have L:=r _ _ ag (A.ne F)
  exact k _ _ (Gh v V ju C I J L (B.none e) (i.none g) (q.none a) (A.none F) (az j a) (az U F) (az Y F))
def iK (T:Txt K mg Ad):zS P w K mg base Ad.bw "__init__" 2 ["self","most","cap","load"] [] (Cy K Ad.bw) :=
 (qH T).Io T.sJ λ i H=>by
   obtain ⟨U,f,g,rfl,r,R,e⟩:=vals3 H
   exact ⟨[],.nil,λ Z Z Z Z Z Z u h=>by obtain ⟨a,b,c,d,rfl⟩:∃ a b c d,u=[a,b,c,d]:=C5 (by simpa using h:u.length=4) λ a b c d=>⟨a,b,c,d,rfl⟩;exact ⟨_,rfl,rfl⟩⟩
def kO (T:Txt K mg Ad):Pb P w K mg base "hold_like" jn (.ref Ad.lB) 4 ["hold","most","cap","load"] (tz K Ad.bw):=by
 refine T.zy.dok pC (λ V H Q E h=>?_) (λ f Z Z Z s H V Q E hr h=>?_)
 . obtain ⟨a,fp,m,x,y,z,rfl,Z⟩:=h
   rfl
 .
  obtain ⟨a,fp,m,O,g,j,rfl,hh,U,k⟩:=h
  refine ⟨_,(ai (cL (i:=4) pC.nd (zt T.Cv (iK T) hr.m T.Fe (aa (jQ (aK ji (pv 1) cy (aM _)) (aU (pv 0) rfl) (pv 1)) (aa (jQ (aK ji (pv 2) cy (aM _)) (aU (pv 0) rfl) (pv 2)) (aa (jQ (aK ji (pv 3) cy (aM _)) (aU (pv 0) rfl) (pv 3)) af)))))
    (ai (dh (pv 4) (cH gv (by rfl) T.tF o5 (aa (aU (pv 0) rfl) af)) rfl)
    (ai (dh (pv 4) (cH vM (by rfl) T.Ht Cu (aa (aU (pv 0) rfl) af)) rfl)
    (ai (dh (pv 4) (cH gv (by rfl) T.tF o5 (aa (aU (pv 0) rfl) af)) rfl)
    (ai (dh (pv 4) (cH gv (by rfl) T.tF o5 (aa (aU (pv 0) rfl) af)) rfl)
    (ap (aH (pv 4)))))))),?_⟩
  try dsimp only [eS,bj]
  try (refine jT ?_;intro Z Z Z Z Z Z Z)
  obtain ⟨⟨t,pm,pf,ps,pt,vm,V,W,aD,pY,p,ju,gH,mQ,gS,iM,n1,n2,n3,dm,ds,dt,df,fk⟩,q1,q2,q3,q4⟩:=id hh
  refine BR (o:=O) (d:=m.most) rfl (λ Q' h=>⟨_,rfl,a,_,t,_,_,rfl,p,T.aF,T.iQ,tU ..,h⟩) ?_
  refine BR (o:=g) (d:=m.d6) rfl (λ Q' h=>⟨_,rfl,a,_,t,_,_,rfl,p,T.aF,T.jk,xP ..,h⟩) ?_
  refine BR (o:=j) (d:=m.load) rfl (λ Q' h=>⟨_,rfl,a,_,t,_,_,rfl,p,T.aF,T.kP,AC ..,h⟩) ?_
  intro x dx l Nm RH
  have an:upd H dx (.own x) x=none:=by rw [aw RH.symm];exact l
  have s0:aG H (upd (upd H dx (.own x)) x (.ins Ad.bw dx [])):=(ak Nm).trans (ak an)
  refine ⟨x,dx,_,_,_,rfl,ag,by rw [aw RH];exact ag,U.1,U.2.1,U.2.2,λ H1 T7 D=>⟨rfl,?_⟩⟩
  have S:aG H H1:=λ b o e=>D.but b o (s0 b o e) λ q=>by
    simp only [aab,aae,aaT] at q
    rcases q with rfl|rfl
    . rw [l] at e;cases e
    . rw [Nm] at e;cases e
  have TW:∀ b∈T7,H b=none:=λ b U=>by
    rcases D.own b U with q|q
    . simp only [aab,aae,aaT] at q
      rcases q with rfl|rfl
      . exact l
      . exact Nm
    . exact s0.free q
  obtain ⟨⟨v,g1,g2,R,G,Z,Z,Z,Z,Wm,uu,Og,Z⟩,Z⟩:=D.at_
  have U8:H v=none:=TW v (by rw [Wm];simp)
  have aN:v≠x:=eK Og uu nofun
  have M:jw K Ad.bw x v H1 H1 (lF (m.with O g j) g1 g2 R G):=.start uu
  refine ⟨_,rfl,a,_,t,_,_,rfl,S _ _ p,T.aF,T.cu,oO ..,pm,vm,rfl,.inl (aX.of (S _ _ gH)),λ r C=>?_⟩
  have B1:=M.new (o:=.lst vm) C
  refine ⟨_,rfl,x,_,v,_,rfl,B1.at_,T.aF,T.cu,lt1000 rfl,?_⟩
  have B:=B1.put (fs':=lF (m.with O g j) r g2 R G)
  have k2:∀ b o,H b=some o->_=some o:=λ b o h=>B.st b o (S b o h) (az h l)
  have e1:=B1.keep (u:=.ins Ad.bw v (lF (m.with O g j) r g2 R G)) ag (M.ne C)
  refine ⟨_,rfl,a,_,t,_,_,rfl,k2 _ _ p,T.aF,T.eU,mU ..,pf,aD,rfl,k2 _ _ mQ,fk.hash,λ J I=>?_⟩
  have B3:=B.new (o:=.dT aD) I
  refine ⟨_,rfl,x,_,v,_,rfl,B3.at_,T.aF,T.eU,lt1000 rfl,?_⟩
  have N:=B3.put (fs':=lF (m.with O g j) r J R G)
  have k4:∀ b o,H b=some o->_=some o:=λ b o h=>N.st b o (S b o h) (az h l)
  have Yi:=λ b o (h:_=some o) (n:b≠x)=>B3.keep (b:=b) (u:=.ins Ad.bw v (lF (m.with O g j) r J R G)) h n
  have Zz:=Yi _ _ (ak (o:=.dT aD) I _ _ e1) (M.ne C)
  have ad:=Yi _ _ ag (B.ne I)
  refine ⟨_,rfl,a,_,t,_,_,rfl,k4 _ _ p,T.aF,T.c8,iV ..,ps,V,rfl,.inl (aX.of (k4 _ _ gS)),λ l3 A=>?_⟩
  have B5:=N.new (o:=.lst V) A
  refine ⟨_,rfl,x,_,v,_,rfl,B5.at_,T.aF,T.c8,lt1000 rfl,?_⟩
  have X:=B5.put (fs':=lF (m.with O g j) r J l3 G)
  have k6:∀ b o,H b=some o->_=some o:=λ b o h=>X.st b o (S b o h) (az h l)
  have X8:=λ b o (h:_=some o) (n:b≠x)=>B5.keep (b:=b) (u:=.ins Ad.bw v (lF (m.with O g j) r J l3 G)) h n
  have YE:=X8 _ _ (ak (o:=.lst V) A _ _ Zz) (M.ne C)
  have ae:=X8 _ _ (ak (o:=.lst V) A _ _ ad) (B.ne I)
  have YG:=X8 _ _ ag (N.ne A)
  refine ⟨_,rfl,a,_,t,_,_,rfl,k6 _ _ p,T.aF,T.eA,kE ..,pt,W,rfl,.inl (aX.of (k6 _ _ iM)),λ l4 F=>?_⟩
  have B7:=X.new (o:=.lst W) F
  refine ⟨_,rfl,x,_,v,_,rfl,B7.at_,T.aF,T.eA,lt1000 rfl,?_⟩
  have B8:=B7.put (fs':=lF (m.with O g j) r J l3 l4)
  have k8:∀ b o,H b=some o->_=some o:=λ b o h=>B8.st b o (S b o h) (az h l)
  have Y:=λ b o (h:_=some o) (n:b≠x)=>B7.keep (b:=b) (u:=.ins Ad.bw v (lF (m.with O g j) r J l3 l4)) h n
  have ab:=Y _ _ (ak (o:=.lst W) F _ _ YE) (M.ne C)
  have ah:=Y _ _ (ak (o:=.lst W) F _ _ ae) (B.ne I)
  have aj:=Y _ _ (ak (o:=.lst W) F _ _ YG) (N.ne A)
  have al:=Y _ _ ag (X.ne F)
  have L:=JT (m':=m.with O g j) hh p gH mQ gS iM S ⟨rfl,rfl,rfl,rfl⟩ B8 (B8.st _ _ Og aN) ab ah aj al (az Zz A) (az YE F) (az YG F)
  refine ⟨_,rfl,k x _ _ k8 L λ c hc=>?_⟩
  simp only [aab,aae,aaT] at hc
  rcases hc with rfl|rfl|rfl|rfl|rfl|rfl
  . exact l
  . exact U8
  . exact S.free C
  . exact S.free (B.none I)
  . exact S.free (N.none A)
  . exact S.free (X.none F)
def uG (T:Txt K mg Ad):Ee P w K mg base "hold_like" 4 ["hold","most","cap","load"] [] (tz K Ad.bw) :=
 (kO T).Js T.l8 λ i H=>by
   obtain ⟨U,f,g,rfl,r,R,e⟩:=vals3 H
   exact ⟨[],.nil,λ Z Z Z Z Z Z u h=>by obtain ⟨a,b,c,d,rfl⟩:∃ a b c d,u=[a,b,c,d]:=C5 (by simpa using h:u.length=4) λ a b c d=>⟨a,b,c,d,rfl⟩;exact ⟨_,rfl,rfl⟩⟩
def uT (T:Txt K mg Ad):Ee P w K mg base "hold_like" 4 ["hold","most","cap","load"] [.cC,.cC] (tz K Ad.bw) :=
 (kO T).Js T.l8 λ i H=>by
   obtain ⟨e,U,c,rfl,d,r,R⟩:=vals3 H
   exact ⟨[U,c],.cons r (.cons R .nil),λ Z Z Z Z Z Z u h=>by obtain ⟨a,b,rfl⟩:∃ a b,u=[a,b]:=De (by simpa using h:u.length=2) λ a b=>⟨a,b,rfl⟩;exact ⟨_,rfl,rfl⟩⟩
def fj (T:Txt K mg Ad):Def P w K mg base "has_room" 1 ["bits","room"] zV:=by
 refine T.BS.cN yP λ Z Z Z Z Z H v Q E b h=>?_
 obtain ⟨n,r,rfl,k⟩:=h
 refine ⟨_,(ap (aH (dI cP (ax aI (ax CH (pv 0) (pv 1)) ac) ac (aM _)))),?_⟩
 try dsimp only [eS,bj]
 refine ⟨_,rfl,_,rfl,_,_,rfl,rfl,aba _,λ s a=>⟨_,_,rfl,rfl,by decide,λ m Z Z e=>⟨rfl,?_⟩⟩⟩
 rw [IS n r a e]
 exact k
def pD (T:Txt K mg Ad):Def P w K mg base "with_room" 1 ["bits","room"] xZ:=by
 refine T.zw.cN xU λ Z Z Z Z Z H v Q E c h=>?_
 obtain ⟨n,r,rfl,M,k⟩:=h
 refine ⟨_,(ap (aH (ax MY (pv 0) (ax JU ac (pv 1))))),?_⟩
 try dsimp only [eS,bj]
 refine ⟨_,rfl,_,rfl,_,_,rfl,rfl,⟨aba _,by lia,by decide⟩,λ s b=>⟨_,_,rfl,rfl,λ m a=>?_⟩⟩
 have e:s=((2 ^ r:Nat):Int):=by rw [b,aaV,acW,Int.natCast_pow];rfl
 rw [a,e,EH]
 exact k
def ko (T:Txt K mg Ad):Def P w K mg base "members" 2 ["bits"] BP:=by
 refine T.DT.cN Bo λ Z Z Z Z Z H V Q E l h=>?_
 obtain ⟨n,rfl,j,k⟩:=h
 refine ⟨_,(ap (aH (fJ ["room"] ["bits"] [0] (.cons ⟨rfl,rfl,.inl rfl⟩ .nil) rfl (cg rfl T.dB (aa (Ll PySem.F.plainAttrs_int PySem.F.slot_int_bit_length PySem.F.type_int_bit_length Dv (pv 0)) af)) (λ Z Z Z Z Z=>(k9 (i:=0))) (λ Z Z Z Z Z=>(ke (cT (ay (fj T) l.m (aa (pv 1) (aa (pv 0) af)))))) (λ Z Z Z Z Z=>(pv 0))))),?_⟩
 try dsimp only [eS,bj]
 refine ⟨_,rfl,rfl,_,rfl,rfl,λ b o=>?_⟩
 have g:Builtin.Int.intBits (n:Int)<=61:=acz.mpr (by simpa using j)
 have p:n<2 ^ Builtin.Int.intBits (n:Int):=by
   have:=acz.mp (aak (Builtin.Int.intBits (n:Int)))
   simpa using this
 have f:b.toNat=Builtin.Int.intBits (n:Int):=by lia
 refine ⟨b,rfl,by lia,by lia,λ D d=>?_⟩
 refine dR (λ i a U c=>A3 (c=upd H D (.lst a)) (a=((List.range i).filter n.testBit).map aq) (∃ v,U=[v,some (aq n)])) ⟨rfl,rfl,none,rfl⟩ ?_ ?_
 .
  rintro i a U c hi ⟨rfl,rfl,v,rfl⟩
  refine ⟨_,rfl,_,rfl,n,i,(by show [_,_]=[_,_];rw [aaX];rfl),_,rfl,?_⟩
  have e:((List.range (i+1)).filter n.testBit).map aq=((List.range i).filter n.testBit).map aq++(if n.testBit i=true then [aq i] else []):=by
    rw [aa6,abq,aai]
    by_cases q:n.testBit i=true<;>simp [q]
  by_cases q:n.testBit i=true
  .
   rw [q]
   refine gn ⟨_,rfl,ag,?_,?_,?_,_,rfl⟩
   . have:=aa7 n.testBit (List.range i)
     rw [aam] at this
     rw [No]
     exact bo (by lia)
   . rw [mX]
   . rw [e,aau q,aaX];rfl
  . rw [Bool.not_eq_true] at q
    rw [q]
    refine fe ⟨rfl,?_,_,rfl⟩
    rw [e,q];simp
 . rintro a U c ⟨rfl,rfl,v,rfl⟩
   refine k D _ d (ak d) ?_
   rw [ag,f,Bit.Bn p g]
def tG (T:Txt K mg Ad):Def P w K mg base "subsets" 3 ["bits"] AY:=by
 refine T.Es.cN kg λ _ _ _ _ _ H vs Q E B h=>?_
 obtain ⟨n,rfl,X,h8,k⟩:=h
 refine ⟨_,(ai (cL (i:=1) kg.nd (bG (aa ac af)))
     (ai (c6 aaH rfl (cf (ay (ko T) B.m (aa (pv 0) af))) (ij (i:=2) kg.nd) (ap (cL (i:=1) kg.nd (ax xL (pv 1) (fJ ["part"] ["room"] [2] (.cons ⟨rfl,rfl,.inl rfl⟩ .nil) rfl (cf (pv 1)) (λ _ _ _ _ _=>(k9 (i:=0))) (λ _ _ _ _ _=>cr) (λ _ _ _ _ _=>(ay (pD T) B.m (aa (pv 0) (aa (pv 1) af)))))))))
     (ap (aH (pv 1))))),?_⟩
 try dsimp only [eS,bj]
 try (refine dQ ?_;intro _ _ _ _)
 refine ⟨(by show 1<=sizeLine;decide),λ p0 N=>⟨_,rfl,n,rfl,X,λ G M gH J C=>⟨G,rfl,⟨_,aX.of C⟩,?_⟩⟩⟩
 have S:=(ak (o:=.lst [.int 0]) N).trans J
 refine jP (K:=K) (a:=G) (xs:=(Bit.rooms n).map aq) (λ i U d=>aG M d/\E2 λ (b:am) (v:eL)=>A3 (H b=none) (U=[some (aq n),some (.ref b),v]) (d b=some (.lst ((Bit.parts ((Bit.rooms n).take i)).map aq))))
   ⟨aG.refl _,p0,none,N,rfl,J _ _ ag⟩ (λ i U d _ ⟨s,_⟩=>aX.of (s _ _ C)) ?_ ?_
 .
  rintro i x U d Y ⟨s,b,v,L,rfl,f⟩
  obtain ⟨r,t,rfl⟩:=dH Y
  have W:i<(Bit.rooms n).length:=(Br.mp t).1
  have R:r<61:=(Bit.f7.mp (aah t)).1
  have O:(Bit.parts ((Bit.rooms n).take i)).length<=256:=by
    rw [(Ij n i).len,aaK]
    exact aaA (abr (by decide) (by lia:min i (Bit.rooms n).length<=8)) (by decide)
  have next:Bit.parts ((Bit.rooms n).take (i+1))=Bit.parts ((Bit.rooms n).take i)++(Bit.parts ((Bit.rooms n).take i)).map (· ||| 2 ^ r):=by
    rw [bS t,AW]
  generalize Bit.parts ((Bit.rooms n).take i)=g at *
  refine ⟨_,rfl,_,rfl,b,rfl,⟨_,aX.of f⟩,λ D u=>?_⟩
  have F:b≠D:=az f u
  refine cR (K:=K) (a:=b) (xs:=g.map aq) (λ j A c l=>A3 (l=upd d D (.lst A)) (A=(g.take j).map (λ p=>aq (p ||| 2 ^ r))) (∃ v,c=[v,some (aq r)])) ⟨rfl,rfl,none,rfl⟩
    (λ j A c l _ ⟨e,_,_⟩=>by subst e;exact aX.of (by rw [aw F];exact f)) ?_ ?_
  .
   rintro j y A c l hy ⟨rfl,rfl,v2,rfl⟩
   obtain ⟨p,V,rfl⟩:=dH hy
   refine ⟨_,rfl,_,rfl,p,r,rfl,by lia,ag,?_,?_,?_,_,rfl⟩
   . rw [No,aaK];exact bo (by lia)
   . rw [mX]
   . rw [bS V,aai];rfl
  .
   rintro A c l ⟨rfl,rfl,v2,rfl⟩
   rw [No,aaB]
   refine ⟨b,D,_,_,rfl,rfl,(by rw [aw F];exact f),ag,?_,λ q z=>?_⟩
   . rw [No,No];exact ab4 (bo (by lia))
   . have I:=ak (o:=.lst (g.map λ p=>aq (p ||| 2 ^ r))) u
     have s3:=ak (o:=.lst (g.map aq++g.map λ p=>aq (p ||| 2 ^ r))) z
     refine ⟨s.trans (I.trans s3),q,_,S.free (s.free (I.free z)),rfl,?_⟩
     rw [ag,next,aai,acj];rfl
 . rintro U d ⟨s,b,v,L,rfl,f⟩
   rw [No,aaB] at f
   exact ⟨_,rfl,k b d L (S.trans s) f⟩
def sd (T:Txt K mg Ad):Def P w K mg base "how_many" 3 ["bits"] zi:=by
 refine T.BB.cN yV λ Z Z Z Z Z H v Q E c h=>?_
 obtain ⟨n,rfl,b,k⟩:=h
 refine ⟨_,(ap (aH (aV bH (by rfl) T.eF cK (aa (ay (ko T) c.m (aa (pv 0) af)) af)))),?_⟩
 try dsimp only [eS,bj]
 refine ⟨_,rfl,n,rfl,b,λ p a g s d=>⟨p,_,rfl,.inl (aX.of d),λ y e=>?_⟩⟩
 rw [No] at e
 rw [e]
 exact k a s
def oy (T:Txt K mg Ad):Def P w K mg base "bits_of" 2 ["rooms"] (DO K):=by
 refine T.DL.cN kB λ Z Z Z Z Z H V Q E j h=>?_
 obtain ⟨p,l,rfl,d,g,k⟩:=h
 refine ⟨_,(ai (cL (i:=1) kB.nd ac)
     (ai (c6 aaH rfl (cf (pv 0)) (ij (i:=2) kB.nd) (ap (cL (i:=1) kB.nd (ay (pD T) j.m (aa (pv 1) (aa (pv 2) af))))))
     (ap (aH (pv 1))))),?_⟩
 try dsimp only [eS,bj]
 try (refine dQ ?_;intro Z Z Z Z)
 refine ⟨_,rfl,p,rfl,⟨_,d⟩,?_⟩
 refine jP (K:=K) (a:=p) (xs:=l.map aq) (λ i U b=>b=H/\∃ v,U=[some (.ref p),some (aq (Bit.sumOf (l.take i))),v]) ⟨rfl,none,rfl⟩ (λ i U b Z e=>by rw [e.1];exact d) ?_ ?_
 .
  rintro i x U b n ⟨rfl,v,rfl⟩
  obtain ⟨r,c,rfl⟩:=dH n
  have f:Bit.sumOf (l.take (i+1))=Bit.sumOf (l.take i) ||| 2 ^ r:=by
    rw [bS c]
    unfold Bit.sumOf
    rw [abI]
    rfl
  exact ⟨_,rfl,_,rfl,_,r,rfl,g r (aah c),rfl,_,by rw [f];rfl⟩
 . rintro U b ⟨rfl,v,rfl⟩
   rw [No,aaB]
   exact ⟨_,rfl,k⟩
def vD (T:Txt K mg Ad):Def P w K mg base "fits_stove" 1 ["stove","fired","wait","failed"] (vi K):=by
 refine T.yf.cN jr λ Z Z Z Z Z H r Q E l h=>?_
 obtain ⟨v,z,f,W,b,rfl,a,c,k⟩:=h
 refine ⟨_,(ai (bB (aK ji (pv 0) cy (aM _)) (ap (aH (uc (u4 (pv 1)) (uc (dI cP (pv 2) ac (aM _)) (qW (dI cP (pv 3) ac (aM _))))))) aJ)
     (ai (iW (lW Co (pv 0) (pI ac) pS) (cW (K:=K) (n:=2) rfl rfl (aP (ij (i:=4) jr.nd) (aP (ij (i:=5) jr.nd) cZ))))
     (ai (bB (PW.pt (tZ (eJ (jL jp jp ac (pv 2) (pv 4))) (rf (eJ (jL jp jp ac (pv 3) (pv 5)))))) (ap (aH fP)) aJ)
     (ap (aH (Ko (dI cP (pv 3) ac (aM _)) (qW (uc (u4 (pv 1)) (qW (dI cP (pv 2) ac (aM _))))))))))),?_⟩
 try dsimp only [eS,bj]
 try (refine eP ?_;intro Z Z Z Z Z)
 cases z with
 | none =>
   obtain ⟨rfl,rfl,rfl⟩:=c
   have a:v = .cC:=a
   subst a
   exact ⟨_,rfl,rfl,_,rfl,qG rfl ⟨_,rfl,_,rfl,_,rfl,gn ⟨_,rfl,rfl,_,rfl,qG rfl ⟨_,rfl,rfl,blT rfl (k H (aG.refl _))⟩⟩⟩⟩
 | some z =>
   obtain ⟨p,m,rfl,g,Z⟩:=a.bX
   refine ⟨_,rfl,rfl,_,rfl,oY nofun ?_⟩
   refine ⟨_,rfl,2,rfl,p,_,2,rfl,g,rfl,rfl,by decide,(by show 2<=4;decide),λ q j=>?_⟩
   refine ⟨q,_,rfl,bY.of ag,rfl,_,_,rfl,_,_,rfl,rfl,?_⟩
   have s:=ak (o:=.tup [V.int z.2.2.1,V.int z.2.2.2]) j
   obtain ⟨F,d,e⟩:=c
   refine ⟨_,rfl,_,_,rfl,rfl,_,rfl,qG (by lia) ⟨_,rfl,_,_,rfl,rfl,_,rfl,fQ F ?_⟩⟩
   refine ⟨_,rfl,_,_,rfl,rfl,_,rfl,qG (by lia) ⟨_,rfl,_,_,rfl,rfl,_,rfl,fQ d ?_⟩⟩
   refine ⟨_,rfl,rfl,_,rfl,?_⟩
   rcases e with rfl|⟨rfl,rfl⟩
   . exact qG rfl (k _ s)
   . refine eM (λ Z=>k _ s) (λ Z=>⟨_,rfl,_,rfl,_,rfl,gn ⟨_,rfl,rfl,blT rfl (k _ s)⟩⟩)
def yA (T:Txt K mg Ad):Def P w K mg base "fits_room" 5 ["hold","state","room"] (wY K Ad.bw):=by
 refine T.zW.cN fF λ Z Z Z Z Z H vs Q E b h=>?_
 obtain ⟨a,f,m,p,F,i,rfl,c,u,ok,hi,k⟩:=h
 refine ⟨_,(ai (iW (pv 1) (cW (K:=K) (n:=5) rfl rfl (aP (ij (i:=3) fF.nd) (aP (ij (i:=4) fF.nd) (aP (ij (i:=5) fF.nd) (aP (ij (i:=6) fF.nd) (aP (ij (i:=7) fF.nd) cZ)))))))
     (ai (bB (eJ (jL jp kS ac (ar ao (pv 3) (pv 2)) (ax cQ (aV bH (by rfl) T.eF cK (aa (aW (pv 0) T.aF (fA T) .nil b.m (aa (pv 2) af)) af)) ac))) (ap (aH fP)) aJ)
     (ap (aH (ay (vD T) b.m (aa (aW (pv 0) T.aF (d8 T) .nil b.m (aa (pv 2) af)) (aa (ay (fj T) b.m (aa (pv 4) (aa (pv 2) af))) (aa (ar ao (pv 5) (pv 2)) (aa (ar ao (pv 6) (pv 2)) af))))))))),?_⟩
 try dsimp only [eS,bj]
 try (refine dQ ?_;intro Z Z Z Z)
 obtain ⟨O,U,R,j,l,r,q⟩:=id u
 obtain ⟨⟨d,Z,Z,Z,Z,Z,Z,Z,Z,Z,e,Z⟩,V,W,X,C⟩:=id c
 have Y:=aL hi
 have L:m.rows.getD i []=m.rows[i]:=by rw [PY,Y];rfl
 have t:=ok.band i hi
 rw [L] at t
 have N:=C.len m.rows[i] (aay hi)
 have A:=mO (m:=m) (i:=i) (by lia)
 refine ⟨_,rfl,p,_,rfl,j,rfl,_,_,rfl,_,_,rfl,_,_,rfl,_,_,rfl,_,_,rfl,rfl,?_⟩
 refine ⟨_,rfl,_,rfl,_,_,_,_,rfl,rfl,.inr l,uO (by rw [ok.lb];exact hi),_,_,rfl,rfl,_,rfl,qG (by lia) ?_⟩
 refine ⟨_,rfl,a,d,_,rfl,e,rfl,_,rfl,a,f,m,i,_,rfl,c,Y,λ B x G I=>⟨B,x,rfl,.inl (aX.of ag),λ y J=>⟨_,_,rfl,rfl,λ z M=>⟨_,_,rfl,rfl,_,rfl,fQ ?_ ?_⟩⟩⟩⟩
 . have:=I.length
   rw [No] at this
   lia
 have s:=ak (o:=.lst x) G
 refine ⟨_,rfl,a,d,_,rfl,s _ _ e,rfl,_,rfl,a,f,m,i,_,rfl,c.same s,A,λ v D=>?_⟩
 refine ⟨_,rfl,_,rfl,F.cB,i,rfl,?_⟩
 refine ⟨_,rfl,_,rfl,_,_,_,_,rfl,rfl,.inr (s.tup r),uO (by rw [ok.lw];exact hi),?_⟩
 refine ⟨_,rfl,_,rfl,_,_,_,_,rfl,rfl,.inr (s.tup q),uO (by rw [ok.lf];exact hi),?_⟩
 exact ⟨v,m.pW i,_,_,_,rfl,D,ok.bX i hi,λ g S=>k g (s.trans S)⟩
def yZ (T:Txt K mg Ad):Def P w K mg base "is_state" 6 ["hold","state"] (zJ K Ad.bw):=by
 refine T.Bu.cN fq λ Z Z Z Z Z H R Q E l h=>?_
 obtain ⟨a,F,m,p,d,rfl,j,q,ok,k⟩:=h
 refine ⟨_,(ai (iW (pv 1) (cW (K:=K) (n:=5) rfl rfl (aP (ij (i:=2) fq.nd) (aP (ij (i:=3) fq.nd) (aP (ij (i:=4) fq.nd) (aP (ij (i:=5) fq.nd) (aP (ij (i:=6) fq.nd) cZ)))))))
     (ai (cL (i:=7) fq.nd (fH (pv 0) T.aF (cI T) .nil l.m))
     (ai (bB (PW.pt (tZ (aK rR (aV bH (by rfl) T.eF cK (aa (pv 2) af)) (pv 7) (aM _)) (tZ (aK rR (aV bH (by rfl) T.eF cK (aa (pv 4) af)) (pv 7) (aM _)) (rf (aK rR (aV bH (by rfl) T.eF cK (aa (pv 5) af)) (pv 7) (aM _)))))) (ap (aH fP)) aJ)
     (ai (bB (PW.pt (tZ (aK rR (ax CH (pv 3) (pv 7)) ac (aM _)) (rf (aK vU (ay (sd T) l.m (aa (pv 3) af)) (aU (pv 0) rfl) (aM _))))) (ap (aH fP)) aJ)
     (ai (bB (eJ (jL jp jp ac (pv 6) (aU (pv 0) rfl))) (ap (aH fP)) aJ)
     (ap (aH (aV (wq rfl) (by rfl) T.J9 Fu (aa (fJ ["room"] ["hold","state"] [0,1] (.cons ⟨rfl,rfl,.inl rfl⟩ (.cons ⟨rfl,rfl,.inl rfl⟩ .nil)) rfl (cg rfl T.dB (aa (pv 7) af)) (λ Z Z Z Z Z=>(k9 (i:=0))) (λ Z Z Z Z Z=>cr) (λ Z Z Z Z Z=>(ay (yA T) l.m (aa (pv 1) (aa (pv 2) (aa (pv 0) af)))))) af))))))))),?_⟩
 try dsimp only [eS,bj]
 try (refine jT ?_;intro Z Z Z Z Z Z Z)
 obtain ⟨M,O,N,z,B,J,C⟩:=id q
 obtain ⟨⟨f,pm,Y,Ja,X,vm,R,vt,aD,Z,g,Z⟩,q1,q2,q3,q4⟩:=id j
 have u:d.cB<2 ^ 61:=aaw ok.cB (abr (by decide) (by lia))
 refine ⟨_,rfl,p,_,rfl,z,rfl,_,_,rfl,_,_,rfl,_,_,rfl,_,_,rfl,_,_,rfl,rfl,?_⟩
 refine ⟨_,rfl,a,f,_,rfl,g,rfl,a,F,m,rfl,j,?_⟩
 refine ⟨_,rfl,M,_,rfl,.inr B,λ y e=>⟨_,rfl,rfl,_,rfl,fQ (by rw [e,No,ok.lb];rfl) ?_⟩⟩
 refine ⟨_,rfl,O,_,rfl,.inr J,λ y e=>⟨_,rfl,rfl,_,rfl,fQ (by rw [e,No,ok.lw];rfl) ?_⟩⟩
 refine ⟨_,rfl,N,_,rfl,.inr C,λ y e=>⟨_,rfl,rfl,_,rfl,fQ (by rw [e,No,ok.lf];rfl) ?_⟩⟩
 refine ⟨_,rfl,_,rfl,_,_,rfl,rfl,aba _,λ s G=>⟨rfl,_,rfl,fQ ?_ ?_⟩⟩
 . rw [G,aaV]
   have:((d.cB:Nat):Int) / 2 ^ m.rows.length=0:=Int.ediv_eq_zero_of_lt (aba _) (by exact_mod_cast ok.cB)
   rw [this]
 refine ⟨_,rfl,d.cB,rfl,u,λ t S=>⟨_,rfl,a,_,f,_,_,rfl,S _ _ g,T.aF,T.iQ,tU ..,_,_,rfl,rfl,_,rfl,oY (by have:=ok.most;lia) ?_⟩⟩
 refine ⟨_,rfl,_,_,rfl,rfl,_,rfl,qG (by lia) ⟨_,rfl,a,_,f,_,_,rfl,S _ _ g,T.aF,T.jk,xP ..,_,_,rfl,rfl,_,rfl,fQ ok.heap ?_⟩⟩
 refine ⟨_,rfl,_,rfl,by lia,by lia,λ D o=>?_⟩
 refine dR (lo:=0) (n:=m.rows.length) (λ i A U b=>A4 (aG t b) (b D=some (.lst A)) (A=(List.replicate i true).map V.bl) (∃ v,U=[v,some (.ref a),some (.ref p)])) ⟨ak o,ag,rfl,none,rfl⟩ ?_ ?_
 . rintro i A U b hi ⟨c,I,rfl,v,rfl⟩
   refine ⟨_,rfl,_,rfl,_,rfl,a,F,m,p,d,i,(by rw [aaX];rfl),j.same (S.trans c),q.same (S.trans c),ok,hi,λ W r=>⟨r _ _ I,bo (by rw [No,ab5];lia),(c.trans r).put o,ag,?_,_,rfl⟩⟩
   rw [adf,aai];rfl
 .
  rintro A U b ⟨c,I,rfl,v,rfl⟩
  refine ⟨D,_,rfl,aX.of I,?_⟩
  have:(List.replicate m.rows.length true).all id=true:=by
    rw [abv]
    intro x L
    exact (List.mem_replicate.mp L).2
  rw [this]
  exact k b (S.trans c)
def jN (T:Txt K mg Ad):Def P w K mg base "look_at_state" 7 ["hold","state"] (vz K Ad.bw):=by
 refine T.sN.cN rC λ Z Z Z Z Z H v Q E d h=>?_
 obtain ⟨a,f,m,p,S,rfl,c,e,ok,k⟩:=h
 refine ⟨_,(ap (bB (eJ (cT (ay (yZ T) d.m (aa (pv 0) (aa (pv 1) af))))) (ap cE) aJ)),?_⟩
 try dsimp only [eS,bj]
 exact ⟨_,rfl,_,rfl,a,f,m,p,S,rfl,c,e,ok,λ b s=>⟨_,rfl,fe (k b s)⟩⟩
def nl (T:Txt K mg Ad):Def P w K mg base "with_stove" 5 ["hold"] (vh K Ad.bw):=by
 refine T.xV.cN vS λ Z Z Z Z Z H V Q E c h=>?_
 obtain ⟨a,F,m,rfl,f,k⟩:=h
 refine ⟨_,(ap (aH (ay (oy T) c.m (aa (fJ ["room"] ["hold"] [0] (.cons ⟨rfl,rfl,.inl rfl⟩ .nil) rfl (cg rfl T.dB (aa (fH (pv 0) T.aF (cI T) .nil c.m) af)) (λ Z Z Z Z Z=>(k9 (i:=0))) (λ Z Z Z Z Z=>(ke (aK oZ (aW (pv 1) T.aF (d8 T) .nil c.m (aa (pv 0) af)) cy (aM _)))) (λ Z Z Z Z Z=>(pv 0))) af)))),?_⟩
 try dsimp only [eS,bj]
 obtain ⟨⟨j,y,I,J,u,R,V,S,x,Z,p,Z⟩,C,G,M,O⟩:=id f
 refine ⟨_,rfl,a,j,_,rfl,p,rfl,a,F,m,rfl,f,_,rfl,by lia,by lia,λ D o=>?_⟩
 refine dR (lo:=0) (n:=m.rows.length) (λ i A U b=>A4 (aG H b) (b D=some (.lst A)) (A=((List.range i).filter m.has).map aq) (∃ v,U=[v,some (.ref a)])) ⟨ak o,ag,rfl,none,rfl⟩ ?_ ?_
 .
  rintro i A U b hi ⟨s,N,rfl,v,rfl⟩
  have t:=mO (m:=m) (i:=i) (by lia)
  have l:((List.range (i+1)).filter m.has).map aq=((List.range i).filter m.has).map aq++(if m.has i=true then [aq i] else []):=by
    rw [aa6,abq,aai]
    by_cases q:m.has i=true<;>simp [q]
  have L:=aa7 m.has (List.range i)
  rw [aam] at L
  refine ⟨_,rfl,a,j,_,rfl,s _ _ p,rfl,_,rfl,a,F,m,i,_,(by rw [aaX];rfl),f.same s,t,λ v d=>⟨rfl,_,rfl,?_⟩⟩
  cases e:m.pW i with
  | none =>
    rw [e] at d
    have d:v = .cC:=d
    have g:m.has i=false:=by unfold av.has;rw [e];rfl
    refine fQ d ⟨s,N,?_,_,rfl⟩
    rw [l,g];simp
  | some z =>
    rw [e] at d
    obtain ⟨B,Z,rfl,Z⟩:=d.bX
    have g:m.has i=true:=by unfold av.has;rw [e];rfl
    refine Nz nofun ⟨_,rfl,N,bo (by rw [No];lia),s.put o,ag,?_,_,rfl⟩
    rw [l,g,aaX];rfl
 . rintro A U b ⟨s,N,rfl,v,rfl⟩
   exact ⟨D,(List.range m.rows.length).filter m.has,rfl,aX.of N,λ r c=>by have:=aaJ.mp (aa3.mp c).1;lia,k b s⟩
def ux (T:Txt K mg Ad):Def P w K mg base "wood_of" 6 ["hold","bits"] (AN K Ad.bw):=by
 refine T.DP.cN BN λ Z Z Z Z Z H vs Q E l h=>?_
 obtain ⟨a,F,m,b,rfl,g,k⟩:=h
 refine ⟨_,(ap (aH (aV (Ed rfl) (by rfl) T.P4 LU (aa (fJ ["room"] ["hold"] [0] (.cons ⟨rfl,rfl,.inl rfl⟩ .nil) rfl (cf (ay (ko T) l.m (aa (ax mS (pv 1) (ay (nl T) l.m (aa (pv 0) af))) af))) (λ Z Z Z Z Z=>(k9 (i:=0))) (λ Z Z Z Z Z=>cr) (λ Z Z Z Z Z=>(ar (dZ (K:=K) rfl) (aW (pv 1) T.aF (d8 T) .nil l.m (aa (pv 0) af)) ac))) af)))),?_⟩
 try dsimp only [eS,bj]
 obtain ⟨⟨G,pm,IG,Ja,HW,vm,vs,vt,aD,Z,L,Z⟩,q1,q2,R,q4⟩:=id g
 refine ⟨_,rfl,_,rfl,a,F,m,rfl,g,λ H1 W=>⟨_,_,rfl,rfl,λ y J=>⟨b &&& m.ws,(by rw [J,oH];rfl),?_,λ p B gc X n=>⟨p,rfl,⟨_,aX.of n⟩,λ D f=>?_⟩⟩⟩⟩
 . exact aas ac0 (ac9 (uF R) (by decide))
 have S:=W.trans X
 have lr:=we (b &&& m.ws)
 have nD:p≠D:=az n f
 refine cR (K:=K) (a:=p) (xs:=(Bit.rooms (b &&& m.ws)).map aq) (λ j A U c=>A4 (aG B c) (c D=some (.lst A)) (A=(((Bit.rooms (b &&& m.ws)).take j).map m.wd).map V.int) (∃ v,U=[v,some (.ref a)]))
   ⟨ak f,ag,rfl,none,rfl⟩ (λ j A U c Z e=>aX.of (e.1 _ _ n)) ?_ ?_
 .
  rintro j x A U c M ⟨s,I,rfl,v,rfl⟩
  obtain ⟨r,d,rfl⟩:=dH M
  have t:=(Bit.f7.mp (aah d)).2
  rw [aby,av.ws,Ord.iN,aaY,aaY,ab8] at t
  obtain ⟨Z,MJ,C⟩:=t
  obtain ⟨z,q⟩:=abP.mp C
  have N:=mO (m:=m) (i:=r) (by lia)
  have hj:j<(Bit.rooms (b &&& m.ws)).length:=(Br.mp d).1
  refine ⟨_,rfl,a,G,_,rfl,(S.trans s) _ _ L,rfl,_,rfl,a,F,m,r,_,rfl,g.same (S.trans s),N,λ u o=>?_⟩
  rw [q] at o
  obtain ⟨O,v1,rfl,Y,Z⟩:=o.bX
  refine ⟨O,_,_,_,rfl,rfl,.inr Y,rfl,I,bo (by rw [No,No,aaK];lia),s.put f,ag,?_,_,rfl⟩
  rw [bS d,aai,aai]
  have:m.wd r=z.2.1:=by unfold av.wd;rw [q];rfl
  show _=_++[V.int (m.wd r)]
  rw [this]
 .
  rintro A U c ⟨s,I,rfl,v,rfl⟩
  rw [No,aaB] at I
  refine ⟨D,_,rfl,aX.of I,λ r d=>?_⟩
  rw [d]
  exact k c (S.trans s)
def wX (T:Txt K mg Ad):Def P w K mg base "must_stay" 3 ["state"] (xu K):=by
 refine T.Ag.cN wM λ Z Z Z Z Z H R Q E c h=>?_
 obtain ⟨p,s,rfl,y,G,k⟩:=h
 refine ⟨_,(ap (aH (ay (oy T) c.m (aa (fJ ["room","wait"] [] [] .nil rfl (LZ rfl T.dJ (aa (ar ao (pv 0) ac) af)) (λ Z Z Z Z Z=>(cW (K:=K) (n:=2) rfl rfl (aP (k9 (i:=0)) (aP (k9 (i:=1)) cZ)))) (λ Z Z Z Z Z=>(ke (aK vU (pv 1) ac (aM _)))) (λ Z Z Z Z Z=>(pv 0))) af)))),?_⟩
 try dsimp only [eS,bj]
 obtain ⟨M,q,O,u,C,l,F⟩:=id y
 refine ⟨_,rfl,p,_,_,_,rfl,rfl,.inr u,rfl,q,rfl,⟨_,l⟩,λ D o=>?_⟩
 refine kj (sq:=bY K) (a:=q) (xs:=s.ib.map aq) (λ i A U b=>A4 (aG H b) (b D=some (.lst A)) (A=((List.range i).filter s.wt).map aq) (E2 λ v V=>U=[v,V]))
   ⟨ak o,ag,rfl,none,none,rfl⟩ (λ i A U b Z e=>e.1.tup l) ?_ ?_
 .
  rintro i x f A U b B t ⟨S,N,rfl,v,V,rfl⟩
  obtain ⟨W,z,rfl⟩:=dH B
  have hi:i<s.ib.length:=(Br.mp z).1
  have j:gN s.ib i=W:=by unfold gN;rw [z];rfl
  have g:aG b (upd b f (.tup [aq i,aq W])):=ak t
  have J:D≠f:=az N t
  have I:=g _ _ N
  have L:=aa7 s.wt (List.range i)
  rw [aam] at L
  refine ⟨f,_,rfl,bY.of ag,rfl,_,_,rfl,_,_,rfl,rfl,?_⟩
  refine ⟨_,rfl,_,_,rfl,rfl,_,rfl,eM (λ h=>?_) (λ h=>?_)⟩
  . have d:s.wt i=true:=by unfold cD.wt;rw [j];exact aaG (by lia)
    refine ⟨_,rfl,I,bo (by rw [No];lia),(S.trans g).put o,ag,?_,_,_,rfl⟩
    rw [aa6,abq,aai]
    simp [d]
  . have d:s.wt i=false:=by unfold cD.wt;rw [j];exact aap (by lia)
    refine ⟨S.trans g,I,?_,_,_,rfl⟩
    rw [aa6,abq,aai]
    simp [d]
 . rintro A U b ⟨S,N,rfl,v,V,rfl⟩
   rw [No] at N
   exact ⟨D,(List.range s.ib.length).filter s.wt,rfl,aX.of N,λ r c=>by have:=aaJ.mp (aa3.mp c).1;lia,k b S⟩
def zb (T:Txt K mg Ad):Def P w K mg base "can_burn" 7 ["hold","order","heap"] (Ar K Ad.bw):=by
 refine T.Bg.cN zD λ Z Z Z Z Z H v Q E d h=>?_
 obtain ⟨a,F,m,o,b,rfl,c,j,k⟩:=h
 refine ⟨_,(ap (aH (uc (dI jp (ay (sd T) d.m (aa (pv 1) af)) (aU (pv 0) rfl) (aM _)) (qW (dI jp (ay (ux T) d.m (aa (pv 0) (aa (pv 1) af))) (pv 2) (aM _)))))),?_⟩
 try dsimp only [eS,bj]
 obtain ⟨⟨D,p,I,J,l,V,v,u,A,Z,i,Z⟩,q,n,r,t⟩:=id c
 refine ⟨_,rfl,o,rfl,j,λ f s=>⟨_,rfl,a,_,D,_,_,rfl,s _ _ i,T.aF,T.iQ,tU ..,_,_,rfl,rfl,_,rfl,eM (λ h=>?_) (λ h=>?_)⟩⟩
 .
  refine ⟨_,rfl,_,rfl,a,F,m,o,rfl,c.same s,λ g S=>⟨_,rfl,_,_,rfl,rfl,?_⟩⟩
  have e:m.HK o b=decide (m.mE o<=b):=by unfold av.HK;rw [aaG h,Bool.true_and]
  have:=k g (s.trans S)
  rw [e] at this
  exact this
 .
  have e:m.HK o b=false:=by unfold av.HK;rw [aap h,adN]
  have:=k f s
  rw [e] at this
  exact this
def yw (T:Txt K mg Ad):Def P w K mg base "orders_of" 8 ["hold","state"] (xG K Ad.bw):=by
 refine T.Aw.cN kz λ Z Z Z Z Z H vs Q E c h=>?_
 obtain ⟨a,F,m,p,s,rfl,l,C,ok,k⟩:=h
 refine ⟨_,(ai (bC (ay (jN T) c.m (aa (pv 0) (aa (pv 1) af))))
     (ai (cL (i:=2) kz.nd (ay (wX T) c.m (aa (pv 1) af)))
     (ai (cL (i:=3) kz.nd (ax mS (ar ao (pv 1) ac) (pv 2)))
     (ap (aH (fJ ["order"] ["going_on","hold","held","state"] [3,0,2,1] (.cons ⟨rfl,rfl,.inl rfl⟩ (.cons ⟨rfl,rfl,.inl rfl⟩ (.cons ⟨rfl,rfl,.inl rfl⟩ (.cons ⟨rfl,rfl,.inl rfl⟩ .nil)))) rfl (cf (ay (tG T) c.m (aa (ay (nl T) c.m (aa (pv 0) af)) af))) (λ Z Z Z Z Z=>(k9 (i:=0))) (λ Z Z Z Z Z=>(ke (PW.pt (qe (aK cP (ax mS (pv 0) (pv 3)) (pv 1) (aM _)) (mK (cT (ay (zb T) c.m (aa (pv 2) (aa (pv 0) (aa (ar (dZ (K:=K) rfl) (pv 4) ac) af)))))))))) (λ Z Z Z Z Z=>(pv 0)))))))),?_⟩
 try dsimp only [eS,bj]
 try (refine eP ?_;intro Z Z Z Z Z)
 obtain ⟨pb,pw,pf,J,eb,ew,ef⟩:=id C
 obtain ⟨⟨dx,pm,IG,Ja,HW,vm,vs,vt,aD,Z,ha,Z⟩,q1,q2,N,q4⟩:=id l
 refine ⟨_,rfl,_,rfl,a,F,m,p,s,rfl,l,C,ok,λ H1 O=>?_⟩
 refine ⟨_,rfl,p,s,rfl,C.same O,by rw [ok.lw];exact N,λ H2 s2=>?_⟩
 have t:=O.trans s2
 refine ⟨_,rfl,p,_,_,_,rfl,rfl,.inr (t.tup J),rfl,_,rfl,_,_,rfl,rfl,λ go u=>?_⟩
 obtain rfl:go=((s.cB &&& s.held:Nat):Int):=by rw [u,oH]
 have r:=uF N
 have V:(Bit.rooms m.ws).length<=8:=by
   rw [av.ws,Ord.EM _ (by lia)]
   have:=aa7 m.has (List.range m.rows.length)
   rw [aam] at this
   lia
 refine ⟨_,rfl,a,F,m,rfl,l.same t,λ H3 s3=>⟨m.ws,rfl,ac9 r (by decide),V,λ M R gc sm G=>⟨M,rfl,⟨_,aX.of G⟩,λ D B=>?_⟩⟩⟩
 have f:=(t.trans s3).trans sm
 have lp:(Bit.parts (Bit.rooms m.ws)).length<=16:=by
   rw [Ord.Cf _ r]
   exact aaA (aa7 _ _) (by rw [aam];decide)
 have I:∀ o∈Bit.parts (Bit.rooms m.ws),o<16:=λ o h=>by
   rw [Ord.Cf _ r] at h
   exact aaJ.mp (aa3.mp h).1
 generalize X:Bit.parts (Bit.rooms m.ws)=d at lp I G
 refine cR (K:=K) (a:=M) (xs:=d.map aq) (λ j A U b=>A4 (aG R b) (b D=some (.lst A)) (A=((d.take j).filter (s.EW m)).map aq) (∃ v,U=[v,some (aq (s.cB &&& s.held)),some (.ref a),some (aq s.held),some (.ref p)]))
   ⟨ak B,ag,rfl,none,rfl⟩ (λ j A U b Z e=>aX.of (e.1 _ _ G)) ?_ ?_
 .
  rintro j x A U b hx ⟨S,Y,rfl,v,rfl⟩
  obtain ⟨o,L,rfl⟩:=dH hx
  have ho:=I o (aah L)
  have la:=aa7 (s.EW m) (d.take j)
  rw [aaK] at la
  refine ⟨_,rfl,_,rfl,_,_,rfl,rfl,λ y W=>⟨_,rfl,rfl,_,rfl,?_⟩⟩
  obtain rfl:y=((o &&& s.held:Nat):Int):=by rw [W,oH]
  have z:((d.take (j+1)).filter (s.EW m)).map aq=((d.take j).filter (s.EW m)).map aq++(if s.EW m o=true then [aq o] else []):=by
    rw [bS L,abq,aai]
    cases q:s.EW m o<;>simp [q]
  refine eM (λ h=>?_) (λ h=>?_)
  .
   have h:o &&& s.held=s.cB &&& s.held:=by have:=fD.mp h;lia
   have g:s.EW m o=m.HK o s.heap:=by unfold cD.EW;rw [aaG h,Bool.true_and]
   refine ⟨_,rfl,_,rfl,_,rfl,p,_,_,_,rfl,rfl,.inr ((f.trans S).tup J),rfl,a,F,m,o,_,rfl,l.same (f.trans S),ac9 ho (by decide),λ H5 n=>⟨_,rfl,?_⟩⟩
   cases q:m.HK o s.heap with
   | true =>
     refine gn ⟨_,rfl,n _ _ Y,bo (by rw [No];lia),(S.trans n).put B,ag,?_,_,rfl⟩
     rw [z,g,q];rfl
   | false =>
     refine fe ⟨S.trans n,n _ _ Y,?_,_,rfl⟩
     rw [z,g,q];simp
  . have h:¬ (o &&& s.held=s.cB &&& s.held):=λ e=>h (by rw [e];rfl)
    have g:s.EW m o=false:=by unfold cD.EW;rw [aap h,adN]
    refine fe ⟨S,Y,?_,_,rfl⟩
    rw [z,g];simp
 .
  rintro A U b ⟨S,Y,rfl,v,rfl⟩
  rw [No,aaB] at Y
  refine k D b (f.free B) (f.trans S) ?_
  rw [Y,<- X]
  rfl
def BO (T:Txt K mg Ad):Def P w K mg base "failing" 5 ["hold","state","order"] (Cc K Ad.bw):=by
 refine T.DV.cN uA λ Z Z Z Z Z H vs Q E b h=>?_
 obtain ⟨a,fp,m,p,s,o,rfl,O,hs,ok,g,k⟩:=h
 refine ⟨_,(ai (cL (i:=3) uA.nd (ax mS (pv 2) (rM By (ar ao (pv 1) ac))))
     (ap (aH (ay (oy T) b.m (aa (fJ ["room"] ["state","hold"] [1,0] (.cons ⟨rfl,rfl,.inl rfl⟩ (.cons ⟨rfl,rfl,.inl rfl⟩ .nil)) rfl (cf (ay (ko T) b.m (aa (pv 3) af))) (λ Z Z Z Z Z=>(k9 (i:=0))) (λ Z Z Z Z Z=>(ke (aK kS (ar (dZ (K:=K) rfl) (ar (dZ (K:=K) rfl) (pv 1) ac) (pv 0)) (ar (dZ (K:=K) rfl) (aW (pv 2) T.aF (d8 T) .nil b.m (aa (pv 0) af)) ac) (aM _)))) (λ Z Z Z Z Z=>(pv 0))) af))))),?_⟩
 try dsimp only [eS,bj]
 obtain ⟨pb,pw,pf,G,eb,ew,ef⟩:=id hs
 obtain ⟨⟨dx,pm,IG,Ja,HW,vm,vs,vt,aD,Z,ha,Z⟩,q1,q2,l,q4⟩:=id O
 have t:o<16:=by rw [<- g];exact aas ac0 (uF l)
 have V5:s.cB<16:=Ord.Kv l ok.cB
 refine ⟨_,rfl,_,rfl,p,_,_,_,rfl,rfl,.inr G,rfl,_,rfl,_,_,rfl,rfl,λ y ey=>?_⟩
 obtain rfl:y=((Ord.off o s.cB:Nat):Int):=by rw [ey];exact ou _ _
 have C:Ord.off o s.cB<2 ^ 4:=Ord.Mu (n:=4) t
 have J:=LF l ok g
 have f:∀ r∈Bit.rooms (Ord.off o s.cB),r<m.rows.length/\m.has r=true:=λ r b=>by
   have:=(Bit.f7.mp b).2
   rw [Ord.xM t V5,aaY] at this
   exact Dw g this.1
 generalize Ord.off o s.cB=z at C J f |-
 refine ⟨_,rfl,z,rfl,ac9 C (by decide),λ W Y gc X V=>⟨W,rfl,⟨_,aX.of V⟩,λ D N=>?_⟩⟩
 refine cR (K:=K) (a:=W) (xs:=(Bit.rooms z).map aq) (λ j A U c=>A4 (aG Y c) (c D=some (.lst A)) (A=(((Bit.rooms z).take j).filter λ r=>decide ((gN s.failed r:Int)<m.fails r)).map aq) (∃ v,U=[v,some (.ref p),some (.ref a)]))
   ⟨ak N,ag,rfl,none,rfl⟩ (λ j A U c Z e=>aX.of (e.1 _ _ V)) ?_ ?_
 .
  rintro j x A U c hx ⟨S,I,rfl,v,rfl⟩
  obtain ⟨r,L,rfl⟩:=dH hx
  obtain ⟨MJ,KL⟩:=f r (aah L)
  obtain ⟨zz,M⟩:=uV KL
  have hz:=mO (m:=m) (i:=r) (by lia)
  have d:=X.trans S
  have la:=aa7 (λ r=>decide ((gN s.failed r:Int)<m.fails r)) ((Bit.rooms z).take j)
  have lr:=we z
  rw [aaK] at la
  have R:m.fails r=zz.2.2.2:=by unfold av.fails;rw [M];rfl
  refine ⟨_,rfl,p,_,_,_,rfl,rfl,.inr (d.tup G),rfl,_,rfl,pf,_,_,_,rfl,rfl,.inr (d.tup ef),uO (by rw [ok.lf];exact MJ),?_⟩
  refine ⟨_,rfl,a,dx,_,rfl,d _ _ ha,rfl,_,rfl,a,fp,m,r,_,rfl,O.same d,hz,λ u F=>?_⟩
  rw [M] at F
  obtain ⟨pz,v1,rfl,vd,Z⟩:=F.bX
  have B:(((Bit.rooms z).take (j+1)).filter λ r=>decide ((gN s.failed r:Int)<m.fails r)).map aq=(((Bit.rooms z).take j).filter λ r=>decide ((gN s.failed r:Int)<m.fails r)).map aq++(if decide ((gN s.failed r:Int)<m.fails r)=true then [aq r] else []):=by
    rw [bS L,abq,aai]
    by_cases q:(gN s.failed r:Int)<m.fails r<;>simp [q]
  refine ⟨pz,_,_,_,rfl,rfl,.inr vd,rfl,_,_,rfl,rfl,_,rfl,eM (λ h=>?_) (λ h=>?_)⟩
  . refine ⟨_,rfl,I,bo (by rw [No];lia),S.put N,ag,?_,_,rfl⟩
    rw [B,aaG (by rw [R];exact h)];rfl
  . refine ⟨S,I,?_,_,rfl⟩
    rw [B,aap (by rw [R];exact h)];simp
 .
  rintro A U c ⟨S,I,rfl,v,rfl⟩
  rw [No,aaB] at I
  have:=k c (X.trans S)
  rw [<- J] at this
  exact ⟨D,_,rfl,aX.of I,λ r b=>by have:=(f r (aa3.mp b).1).1;lia,this⟩
def uU (T:Txt K mg Ad):Def P w K mg base "wait_behind" 5 ["hold","state","burning","room"] (uK K Ad.bw):=by
 refine T.vp.cN vc λ Z Z Z Z Z H G Q E f h=>?_
 obtain ⟨a,F,m,p,s,b,i,rfl,l,v,ok,hi,x,r,k⟩:=h
 refine ⟨_,(ai (bB (aK rR (ay (fj T) f.m (aa (ar ao (pv 1) ac) (aa (pv 3) af))) (ay (fj T) f.m (aa (pv 2) (aa (pv 3) af))) (aM _)) (ap (aH (ar ao (aW (pv 0) T.aF (d8 T) .nil f.m (aa (pv 3) af)) ac))) aJ)
     (ap (aH (aV (p7 rfl) (by rfl) T.FB Bq (aa ac (aa (ax cQ (ar ao (ar ao (pv 1) ac) (pv 3)) ac) af)))))),?_⟩
 try dsimp only [eS,bj]
 obtain ⟨W,A,X,g,R,q,S⟩:=id v
 obtain ⟨⟨n,Y,L,N,I,vm,G,vt,O,Z,t,Z⟩,q1,q2,q3,q4⟩:=id l
 refine ⟨_,rfl,p,_,_,_,rfl,rfl,.inr g,rfl,_,rfl,s.cB,i,rfl,?_⟩
 refine ⟨_,rfl,_,rfl,b,i,rfl,rfl,_,rfl,En (λ M=>?_) (λ c=>?_)⟩
 .
  have M:¬ s.cB.testBit i=b.testBit i:=λ e=>M (by rw [e])
  obtain ⟨z,j⟩:=uV (x M)
  have J:=mO (m:=m) (i:=i) (by lia)
  refine ⟨_,rfl,a,n,_,rfl,t,rfl,_,rfl,a,F,m,i,_,rfl,l,J,λ u D=>?_⟩
  rw [j] at D
  obtain ⟨B,v1,rfl,C,Z⟩:=D.bX
  have o:m.eY i=z.2.2.1:=by unfold av.eY;rw [j];rfl
  have d:aq (s.jf m b i) = .int z.2.2.1:=by
    unfold cD.jf
    rw [aax M,<- o]
    show V.int _=_
    rw [acg r]
  rw [d] at k
  exact ⟨B,_,_,_,rfl,rfl,.inr C,rfl,k⟩
 .
  have c:s.cB.testBit i=b.testBit i:=by injection c
  refine ⟨_,rfl,p,_,_,_,rfl,rfl,.inr g,rfl,_,rfl,A,_,_,_,rfl,rfl,.inr q,uO (by rw [ok.lw];exact hi),_,_,rfl,rfl,λ y U=>?_⟩
  refine ⟨0,y,rfl,?_⟩
  have d:(if y > 0 then y else 0)=((s.jf m b i:Nat):Int):=by
    unfold cD.jf
    rw [aau c]
    split<;>lia
  rw [d]
  exact k
def qU (T:Txt K mg Ad):Def P w K mg base "failed_behind" 2 ["state","burning","out","room"] (rA K):=by
 refine T.sQ.cN qk λ Z Z Z Z Z H v Q E f h=>?_
 obtain ⟨p,S,b,o,i,rfl,l,hi,k⟩:=h
 refine ⟨_,(ai (bB (cT (ay (fj T) f.m (aa (pv 2) (aa (pv 3) af)))) (ap (aH (ax aO (ar ao (ar ao (pv 0) ac) (pv 3)) ac))) aJ)
     (ai (bB (cT (ay (fj T) f.m (aa (pv 1) (aa (pv 3) af)))) (ap (aH ac)) aJ)
     (ap (aH (ar ao (ar ao (pv 0) ac) (pv 3)))))),?_⟩
 try dsimp only [eS,bj]
 try (refine dQ ?_;intro Z Z Z Z)
 obtain ⟨r,s,g,e,n,q,a⟩:=id l
 unfold cD.jK at k
 refine ⟨_,rfl,_,rfl,o,i,rfl,_,rfl,?_⟩
 cases c:o.testBit i with
 | true =>
   rw [c] at k
   refine gn ⟨_,rfl,p,_,_,_,rfl,rfl,.inr e,rfl,_,rfl,g,_,_,_,rfl,rfl,.inr a,uO hi,_,_,rfl,rfl,λ y j=>?_⟩
   rw [j]
   exact k
 | false =>
   rw [c] at k
   refine fe ⟨_,rfl,_,rfl,b,i,rfl,_,rfl,?_⟩
   cases d:b.testBit i with
   | true =>
     rw [d] at k
     exact gn k
   | false =>
     rw [d] at k
     exact fe ⟨_,rfl,p,_,_,_,rfl,rfl,.inr e,rfl,_,rfl,g,_,_,_,rfl,rfl,.inr a,uO hi,k⟩
def qT (T:Txt K mg Ad):Def P w K mg base "stoves_behind" 7 ["hold","state","order","out"] (Eg K Ad.bw):=by
 refine T.sE.cN eE λ Z Z Z Z Z H vs Q E e h=>?_
 obtain ⟨a,F,m,p,S,o,O,rfl,d,z,ok,R,h0,J,k⟩:=h
 refine ⟨_,(ai (cL (i:=4) eE.nd (ax mS (pv 2) (rM By (pv 3))))
     (ai (rN (yi:=5) ["room"] ["hold","state","burning"] [0,1,4] (.cons ⟨rfl,rfl,.inl rfl⟩ (.cons ⟨rfl,rfl,.inl rfl⟩ (.cons ⟨rfl,rfl,.inl rfl⟩ .nil))) rfl (cg rfl T.dB (aa (fH (pv 0) T.aF (cI T) .nil e.m) af)) (λ Z Z Z Z Z=>(k9 (i:=0))) (λ Z Z Z Z Z=>cr) (λ Z Z Z Z Z=>(ay (uU T) e.m (aa (pv 1) (aa (pv 2) (aa (pv 3) (aa (pv 0) af)))))) eE.nd (lc rfl))
     (ai (rN (yi:=6) ["room"] ["state","burning","out"] [1,4,3] (.cons ⟨rfl,rfl,.inl rfl⟩ (.cons ⟨rfl,rfl,.inl rfl⟩ (.cons ⟨rfl,rfl,.inl rfl⟩ .nil))) rfl (cg rfl T.dB (aa (fH (pv 0) T.aF (cI T) .nil e.m) af)) (λ Z Z Z Z Z=>(k9 (i:=0))) (λ Z Z Z Z Z=>cr) (λ Z Z Z Z Z=>(ay (qU T) e.m (aa (pv 1) (aa (pv 2) (aa (pv 3) (aa (pv 0) af)))))) eE.nd (lc rfl))
     (ai (cL (i:=7) eE.nd (aV (mP rfl) (by rfl) T.Cm ye (aa (aU (pv 0) rfl) (aa (ax aO (ax cQ (ar ao (pv 1) ac) (ay (ux T) e.m (aa (pv 0) (aa (pv 4) af)))) (aU (pv 0) rfl)) af))))
     (ap (aH (aY (aa (pv 4) (aa (cH eV (by rfl) T.mN jR (aa (pv 5) af)) (aa (cH eV (by rfl) T.mN jR (aa (pv 6) af)) (aa (pv 7) af))))))))))),?_⟩
 try dsimp only [eS,bj]
 try (refine u8 ?_;intro Z Z Z Z Z Z)
 obtain ⟨pb,pw,pf,e0,eb,ew,ef⟩:=id z
 obtain ⟨⟨l,pm,IG,Ja,HW,vm,vs,vt,aD,Z,r,Z⟩,q1,q2,q3,q4⟩:=id d
 refine ⟨_,rfl,_,rfl,_,rfl,_,_,rfl,rfl,λ y ey=>?_⟩
 obtain rfl:y=((Ord.off o O:Nat):Int):=by rw [ey];exact ou _ _
 generalize Ord.off o O=b at R J k |-
 refine ⟨_,rfl,a,l,_,rfl,r,rfl,a,F,m,rfl,d,_,rfl,by lia,by lia,λ D M=>?_⟩
 refine dR (lo:=0) (n:=m.rows.length) (λ j A U c=>A4 (aG H c) (c D=some (.lst A)) (A=((List.range j).map (S.jf m b)).map aq) (∃ v,U=[v,some (.ref a),some (.ref p),some (aq b)])) ⟨ak M,ag,rfl,none,rfl⟩ ?_ ?_
 . rintro j A U c t ⟨s,N,rfl,v,rfl⟩
   refine ⟨_,rfl,_,rfl,_,rfl,_,rfl,a,F,m,p,S,b,j,(by rw [aaX];rfl),d.same s,z.same s,ok,t,R j,h0 j,N,bo (by rw [No,No,aam];lia),s.put M,ag,?_,_,rfl⟩
   rw [aa6,aai,aai];rfl
 rintro A U H1 ⟨s,N,rfl,v,rfl⟩
 refine ⟨_,rfl,a,l,_,rfl,s _ _ r,rfl,a,F,m,rfl,d.same s,_,rfl,by lia,by lia,λ I V=>?_⟩
 refine dR (lo:=0) (n:=m.rows.length) (λ j A U c=>A4 (aG H1 c) (c I=some (.lst A)) (A=((List.range j).map (S.jK b O)).map aq) (∃ v,U=[v,some (.ref p),some (aq b),some (aq O)])) ⟨ak V,ag,rfl,none,rfl⟩ ?_ ?_
 . rintro j A U c t ⟨f,B,rfl,v,rfl⟩
   refine ⟨_,rfl,_,rfl,_,rfl,_,rfl,p,S,b,O,j,(by rw [aaX];rfl),z.same (s.trans f),by rw [ok.lf];exact t,B,bo (by rw [No,No,aam];lia),f.put V,ag,?_,_,rfl⟩
   rw [aa6,aai,aai];rfl
 rintro A U H2 ⟨f,B,rfl,v,rfl⟩
 have g:=s.trans f
 refine ⟨_,rfl,a,_,l,_,_,rfl,g _ _ r,T.aF,T.jk,xP ..,?_⟩
 refine ⟨_,rfl,p,_,_,_,rfl,rfl,.inr (g.tup e0),rfl,?_⟩
 refine ⟨_,rfl,_,rfl,a,F,m,b,rfl,d.same g,λ H3 C=>?_⟩
 have L:=g.trans C
 refine ⟨_,_,rfl,rfl,λ x1 g1=>⟨_,rfl,a,_,l,_,_,rfl,L _ _ r,T.aF,T.kP,AC ..,_,_,rfl,rfl,λ X g2=>⟨_,X,rfl,?_⟩⟩⟩
 have e2:(if X<m.d6 then X else m.d6)=(((S.kQ m b).toNat:Nat):Int):=by
   rw [acg J]
   unfold cD.kQ
   split<;>lia
 rw [e2]
 refine ⟨_,rfl,_,rfl,D,_,rfl,.inl ⟨aX.of ((f.trans C) _ _ N),λ Y x=>?_⟩⟩
 have u1:aG _ _:=ak (o:=.tup (((List.range m.rows.length).map (S.jf m b)).map aq)) x
 refine ⟨_,rfl,I,_,rfl,.inl ⟨aX.of (u1 _ _ (C _ _ B)),λ W u=>?_⟩⟩
 have u2:aG _ _:=ak (o:=.tup (((List.range m.rows.length).map (S.jK b O)).map aq)) u
 refine ⟨_,rfl,pX,λ q hq=>?_⟩
 have G:aG _ _:=ak (o:=.tup [aq b,.ref Y,.ref W,aq (S.kQ m b).toNat]) hq
 exact k q Y W _ (((L.trans u1).trans u2).trans G) ag (G _ _ (u2 _ _ ag)) (G _ _ ag)
def oC (T:Txt K mg Ad):Def P w K mg base "sum_of_products" 3 ["pairs"] (MV K):=by
 refine T.pV.cN bW λ Z Z Z Z Z H vs Q E hr h=>?_
 obtain ⟨p,X,D,rfl,N,c,z,hl,hB,k⟩:=h
 refine ⟨_,(ai (cL (i:=1) bW.nd ac)
     (ai (cL (i:=2) bW.nd ac)
     (ai (c6 aaH rfl (cf (pv 0)) (cW (K:=K) (n:=2) rfl rfl (aP (ij (i:=3) bW.nd) (aP (ij (i:=4) bW.nd) cZ))) (ai (cL (i:=5) bW.nd (ax bF (ar ao (pv 3) ac) (ar ao (pv 4) ac)))
     (ai (cL (i:=1) bW.nd (ax aO (ax bF (pv 1) (pv 5)) (ax bF (ax bF (ar ao (pv 3) ac) (ar ao (pv 4) ac)) (pv 2))))
     (ap (cL (i:=2) bW.nd (ax bF (pv 2) (pv 5)))))))
     (ap (aH (ay (lU T) hr.m (aa (pv 1) (aa (pv 2) af)))))))),?_⟩
 try dsimp only [eS,bj]
 try (refine eP ?_;intro Z Z Z Z Z)
 have R:X.length=D.length:=by rw [c.length,No]
 refine ⟨_,rfl,p,rfl,⟨_,N⟩,?_⟩
 refine jP (K:=K) (a:=p) (xs:=X) (λ i U g=>g=H/\E3 λ (V G I:eL)=>U=[some (.ref p),some (.int (eD (D.take i)).1),some (.int (eD (D.take i)).2),V,G,I]) ⟨rfl,none,none,none,rfl⟩ (λ i U g Z e=>by rw [e.1];exact N) ?_ ?_
 .
  rintro i x U g O ⟨rfl,V,G,I,rfl⟩
  have hi:i<D.length:=by rw [<- R];exact (Br.mp O).1
  obtain ⟨J,B,b3⟩:=yg D z i (by lia)
  have et:D.take (i+1)=D.take i++[D[i]]:=by rw [acr,aL hi];rfl
  obtain ⟨y,ey,pq,ws,rfl,W,l⟩:=c.get (i:=i) (d:=GM D[i]) (by rw [Zj,aL hi];rfl)
  obtain rfl:x = .ref pq:=aaq (O.symm.trans ey)
  have c:=z D[i] (aay hi)
  obtain ⟨w1,r1,rfl,d1,w2,r2,rfl,d2,f⟩:=l
  have f:r2=[]:=f
  subst f
  obtain ⟨A,rfl,o⟩:=Dn.fr d1
  obtain ⟨C,rfl,v⟩:=Dn.fr d2
  rw [et,gF]
  generalize D[i]=d at c o v |-
  generalize eD (D.take i)=s at J B b3 |-
  refine ⟨pq,_,rfl,W,rfl,_,_,rfl,_,_,rfl,rfl,?_⟩
  refine ⟨_,rfl,A,_,_,_,rfl,rfl,.inr o,rfl,_,rfl,C,_,_,_,rfl,rfl,.inr v,rfl,_,_,rfl,rfl,⟨900,900,c.a.b,c.b.b,by decide⟩,λ be j=>?_⟩
  have j:be=d.1.2 * d.2.2:=j
  have L:Bd 1800 (d.1.2 * d.2.2):=c.a.b.mul c.b.b
  subst j
  have sm:1802 * i+2+1800<=100000:=by lia
  refine ⟨_,rfl,_,rfl,_,_,rfl,rfl,⟨1802 * i+2,1800,J,L,by lia⟩,λ x1 e1=>?_⟩
  refine ⟨_,rfl,A,_,_,_,rfl,rfl,.inr o,rfl,_,rfl,C,_,_,_,rfl,rfl,.inr v,rfl,_,_,rfl,rfl,⟨900,900,c.a.t,c.b.t,by decide⟩,λ x2 M=>?_⟩
  have bt:Bd 1800 x2:=by rw [M];exact c.a.t.mul c.b.t
  refine ⟨_,rfl,_,_,rfl,rfl,⟨1800,1800 * i+1,bt,B,by lia⟩,λ x3 f=>⟨_,_,rfl,rfl,λ x4 e4=>?_⟩⟩
  refine ⟨_,rfl,_,rfl,_,_,rfl,rfl,⟨1800 * i+1,1800,B,L,by lia⟩,λ x5 e5=>⟨rfl,some (.ref A),some (.ref C),some (.int (d.1.2 * d.2.2)),?_⟩⟩
  have f4:x4=s.1 * (d.1.2 * d.2.2)+d.1.1 * d.2.1 * s.2:=by rw [e4,e1,f,M]
  have f5:x5=s.2 * (d.1.2 * d.2.2):=e5
  rw [f4,f5]
  rfl
 .
  rintro U g ⟨rfl,V,G,I,rfl⟩
  rw [R,aaB]
  have Y:=xh z
  refine ⟨_,rfl,_,rfl,_,_,rfl,by lia,hB,λ q r u S F s2 hu=>k u S s2 ?_⟩
  have:=F.nf Y
  rw [hu,<- this]
def pT (T:Txt K mg Ad):Def P w K mg base "warmth_of" 6 ["hold","room","airs","weather","fired"] (EI K Ad.bw):=by
 refine T.Ax.cN o6 λ Z Z Z Z Z H vs Q E M h=>?_
 obtain ⟨a,fp,m,i,pa,PB,c,W,wf,F,rfl,L,hi,SE,da,la,oa,dw,ow,hz,k⟩:=h
 refine ⟨_,(ai (rN (yi:=5) ["of","air"] ["room","hold"] [1,0] (.cons ⟨rfl,rfl,.inl rfl⟩ (.cons ⟨rfl,rfl,.inl rfl⟩ .nil)) rfl (qI rfl T.dJ (aa (pv 2) af)) (λ Z Z Z Z Z=>(cW (K:=K) (n:=2) rfl rfl (aP (k9 (i:=0)) (aP (k9 (i:=1)) cZ)))) (λ Z Z Z Z Z=>cr) (λ Z Z Z Z Z=>(aY (aa (aW (pv 3) T.aF (lI T) .nil M.m (aa (pv 2) (aa (pv 0) af))) (aa (pv 1) af)))) o6.nd (lc rfl))
     (ai (bC (im aaF aaM aaL cA (pv 5) (aa (aY (aa (ar ao (aW (pv 0) T.aF (pA T) .nil M.m (aa (pv 1) af)) ac) (aa (pv 3) af))) af)))
     (ai (ku (bB (cT (pv 4)) (ap (bC (im aaF aaM aaL cA (pv 5) (aa (aY (aa (hV (v:=V.ref _) rfl T.Ce rfl) (aa (ar ao (aW (pv 0) T.aF (d8 T) .nil M.m (aa (pv 1) af)) ac) af))) af)))) aJ))
     (ap (aH (ay (oC T) M.m (aa (pv 5) af))))))),?_⟩
 try dsimp only [eS,bj]
 try (refine eP ?_;intro Z Z Z Z Z)
 obtain ⟨⟨dx,pm,IG,Ja,HW,vm,vs,vt,aD,pY,ha,Z⟩,q1,q2,q3,q4⟩:=id L
 obtain ⟨ad,W6,ab⟩:=ie (i:=i) (fired:=F) q4 q3 la oa ow hz
 have YO:PB.length=c.length:=by rw [da.length,No]
 refine ⟨_,rfl,pa,rfl,⟨_,SE⟩,λ D J=>?_⟩
 refine kj (sq:=aX K) (a:=pa) (xs:=PB) (λ j acc U b=>A4 (aG H b) (b D=some (.lst acc)) (bL K b (((List.range j).map λ j=>((m.share i j,c.getD j (0,1)):Pr)).map GM) acc) (E2 λ v0 v1=>U=[v0,v1,some (aq i),some (.ref a)]))
   ⟨ak J,ag,rfl,none,none,rfl⟩ (λ j acc U b Z e=>e.1.seq SE) ?_ ?_
 .
  rintro j x pp acc U b hx tN ⟨A,N,o,v0,v1,rfl⟩
  have hj:j<c.length:=by rw [<- YO];exact (Br.mp hx).1
  obtain ⟨y,ey,dy⟩:=da.get (i:=j) (d:=dW c[j]) (by rw [Zj,aL hj];rfl)
  obtain rfl:x=y:=aaq (hx.symm.trans ey)
  have s:aG b (upd b pp (.tup [aq j,x])):=ak tN
  have nD:D≠pp:=az N tN
  have R:=A.trans s
  refine ⟨pp,_,rfl,bY.of ag,rfl,_,_,rfl,_,_,rfl,rfl,?_⟩
  refine ⟨_,rfl,a,dx,_,rfl,R _ _ ha,rfl,_,rfl,_,rfl,a,fp,m,i,j,rfl,L.same R,hi,by lia,λ v l s3 dv=>?_⟩
  have t:=R.trans s3
  refine ⟨_,rfl,vg,λ p iM=>?_⟩
  have S:aG l (upd l p (.tup [v,x])):=ak iM
  have G:=t.trans S
  have Y:=S _ _ (s3 _ _ (s _ _ N))
  have B:aT K (upd l p (.tup [v,x])) (upd (upd l p (.tup [v,x])) D (.lst (acc++[.ref p]))):=bV Y rfl
  have Et:acc.length=j:=by rw [o.length,No,No,aam]
  refine ⟨Y,bo (by lia),(G).put J,ag,?_,_,_,rfl⟩
  rw [aa6,aai,aai]
  refine (bL.ts ((aG.ts ((s.trans s3).trans S)).trans B) _ (uQ _) o).snoc (Dn.ts B _ (sY _) ?_)
  have ea:c.getD j (0,1)=c[j]:=by rw [PY,aL hj];rfl
  show Dn K _ (GM (m.share i j,c.getD j (0,1))) _
  rw [ea]
  exact fX (bY.of ag) (br (Dn.same S _ dv) (br (Dn.same G _ dy) dS))
 .
  rintro acc U g ⟨A,N,o,v0,v1,rfl⟩
  rw [YO] at o
  have o:bL K g ((cX m i c).map GM) acc:=o
  have Et:acc.length<=4:=by rw [o.length,No];unfold cX;rw [No,aam];lia
  have RO:i<m.aN.length:=by lia
  have Qn:=aL RO
  have M7:m.fO i=m.aN[i].1:=by unfold av.fO;rw [Qn];rfl
  refine ⟨_,rfl,.inl ⟨rfl,_,aX.of N⟩,_,rfl,a,dx,_,rfl,A _ _ ha,rfl,_,rfl,a,fp,m,i,_,rfl,L.same A,Qn,λ v dv=>?_⟩
  obtain ⟨p0,r,RV,Sf,rfl,wr,Ys,Lh,ae⟩:=dv.oK
  refine ⟨p0,_,_,_,rfl,rfl,.inr wr,rfl,_,rfl,vg,λ p iM=>?_⟩
  have s:aG g (upd g p (.tup [r,W])):=ak iM
  have io:=s _ _ N
  refine ⟨D,_,_,rfl,rfl,io,bo (by lia),?_⟩
  have B:aT K (upd g p (.tup [r,W])) (upd (upd g p (.tup [r,W])) D (.lst (acc++[.ref p]))):=bV io rfl
  have O:(upd (upd g p (.tup [r,W])) D (.lst (acc++[.ref p]))) D=some (.lst (acc++[.ref p])):=ag
  have t:aG H (upd (upd g p (.tup [r,W])) D (.lst (acc++[.ref p]))):=(A.trans s).put J
  have d3:bL K (upd (upd g p (.tup [r,W])) D (.lst (acc++[.ref p]))) ((cX m i c++[(m.fO i,wf)]).map GM) (acc++[.ref p]):=by
    rw [aai]
    refine (bL.ts ((aG.ts s).trans B) _ (uQ _) o).snoc (Dn.ts B _ (sY _) ?_)
    refine fX (bY.of ag) (br (Dn.same s _ ?_) (br (Dn.same (A.trans s) _ dw) dS))
    rw [M7];exact Ys
  generalize (upd (upd g p (.tup [r,W])) D (.lst (acc++[.ref p])))=l at O t d3 |-
  refine ⟨λ C b=>aG H b/\∃ X,A3 (b D=some (.lst X)) (bL K b ((eI m i c wf F).map GM) X) (C=[some (.ref a),some (aq i),some (.ref pa),some W,some (.bl F),some (.ref D)]),?_,?_⟩
  .
   refine ⟨_,rfl,_,rfl,?_⟩
   cases F with
   | false =>
     refine fe ⟨t,_,O,?_,rfl⟩
     unfold eI
     rw [aax aaC,abf]
     exact d3
   | true =>
     obtain ⟨z,ez⟩:=hz rfl
     refine gn ⟨_,rfl,.inl ⟨rfl,_,aX.of O⟩,?_⟩
     refine ⟨_,rfl,a,dx,_,rfl,t _ _ ha,rfl,_,rfl,a,fp,m,i,_,rfl,L.same t,ez,λ u du=>?_⟩
     obtain ⟨pz,zs,rfl,vd,t1,r1,rfl,e1,Z⟩:=du
     refine ⟨pz,_,_,_,rfl,rfl,.inr vd,cm (j:=0) rfl,vg,λ I XN=>?_⟩
     have S:aG l (upd l I (.tup [.ref Ad.wC,t1])):=ak XN
     have Y:=S _ _ O
     refine ⟨D,_,_,rfl,rfl,Y,bo (by rw [aaf];simp only [aaW,adb];lia),(t.trans S).put J,_,ag,?_,rfl⟩
     have YB:aT K (upd l I (.tup [.ref Ad.wC,t1])) (upd (upd l I (.tup [.ref Ad.wC,t1])) D (.lst ((acc++[.ref p])++[.ref I]))):=bV Y rfl
     have Yu:(((m.bv[i]?).getD none).map (·.1)).getD (0,1)=z.1:=by rw [ez];rfl
     unfold eI
     rw [aau rfl,aai]
     refine (bL.ts ((aG.ts S).trans YB) _ (uQ _) d3).snoc (Dn.ts YB _ (sY _) ?_)
     show Dn K _ (GM ((1,1),(((m.bv[i]?).getD none).map (·.1)).getD (0,1))) _
     rw [Yu]
     exact fX (bY.of ag) (br (T.Dm.fr (f:=(1,1))) (br (Dn.same S _ e1) dS))
  . rintro C H4 ⟨G,X,Y,d4,rfl⟩
    exact ⟨_,rfl,D,X,_,rfl,aX.of Y,d4,ad,W6,ab,λ q H5 s5 GW=>k q H5 (G.trans s5) GW⟩
def AS (T:Txt K mg Ad):Def P w K mg base "span_of" 7 ["hold","room","bands","fired"] (JQ K Ad.bw):=by
 refine T.D6.cN iY λ Z Z Z Z Z H vs Q E f h=>?_
 obtain ⟨a,O,m,i,R,B,F,rfl,L,hi,A,lb,W,hz,k⟩:=h
 refine ⟨_,(ai (iW (lW Co (aW (pv 0) T.aF (pA T) .nil f.m (aa (pv 1) af)) (pI ac) pS) (cW (K:=K) (n:=2) rfl rfl (aP (ij (i:=4) iY.nd) (aP (ij (i:=5) iY.nd) cZ))))
     (ai (rN (yi:=6) ["of","band"] ["hold"] [0] (.cons ⟨rfl,rfl,.inl rfl⟩ .nil) rfl (Hl rfl T.dJ (aa (pv 2) af)) (λ Z Z Z Z Z=>(cW (K:=K) (n:=2) rfl rfl (aP (k9 (i:=0)) (aP (k9 (i:=1)) cZ)))) (λ Z Z Z Z Z=>cr) (λ Z Z Z Z Z=>(ar (dZ (K:=K) rfl) (aW (pv 2) T.aF (fA T) .nil f.m (aa (pv 0) af)) (pv 1))) iY.nd (lc rfl))
     (ai (rN (yi:=7) ["of","band"] ["hold"] [0] (.cons ⟨rfl,rfl,.inl rfl⟩ .nil) rfl (Hl rfl T.dJ (aa (pv 2) af)) (λ Z Z Z Z Z=>(cW (K:=K) (n:=2) rfl rfl (aP (k9 (i:=0)) (aP (k9 (i:=1)) cZ)))) (λ Z Z Z Z Z=>cr) (λ Z Z Z Z Z=>(ar (dZ (K:=K) rfl) (aW (pv 2) T.aF (fA T) .nil f.m (aa (pv 0) af)) (ax aO (pv 1) ac))) iY.nd (lc rfl))
     (ap (aH (aY (aa (ay (pT T) f.m (aa (pv 0) (aa (pv 1) (aa (pv 6) (aa (pv 4) (aa (pv 3) af)))))) (aa (ay (pT T) f.m (aa (pv 0) (aa (pv 1) (aa (pv 7) (aa (pv 5) (aa (pv 3) af)))))) af)))))))),?_⟩
 try dsimp only [eS,bj]
 try (refine eP ?_;intro Z Z Z Z Z)
 obtain ⟨⟨dx,g,IG,Ja,HW,vm,vs,vt,aD,pY,ha,Z⟩,q1,q2,q3,q4⟩:=id L
 have RO:i<m.aN.length:=by lia
 have Qn:=aL RO
 have M7:gC m i=m.aN[i]:=by unfold gC;rw [Qn];rfl
 have AI:=q4.aN m.aN[i] (aay RO)
 have RY:dY 120 (gC m i).2.1:=by rw [M7];exact AI.2.1.mono (by decide)
 have SH:dY 120 (gC m i).2.2:=by rw [M7];exact AI.2.2.mono (by decide)
 have Zd:(f9 m B 0).length=m.rows.length:=by unfold f9;rw [No,aam,lb]
 have Yk:(f9 m B 1).length=m.rows.length:=by unfold f9;rw [No,aam,lb]
 refine ⟨_,rfl,a,dx,_,rfl,ha,rfl,_,rfl,a,O,m,i,_,rfl,L,Qn,λ v dv=>?_⟩
 obtain ⟨p0,Hv,RV,Sf,rfl,wr,Ys,Lh,ad⟩:=dv.oK
 refine ⟨1,rfl,p0,_,1,rfl,wr,rfl,rfl,by decide,(by show 1<=3;decide),λ q0 hq=>?_⟩
 refine ⟨q0,_,rfl,bY.of ag,rfl,_,_,rfl,_,_,rfl,rfl,?_⟩
 have M:aG H (upd H q0 (.tup ([Hv,RV,Sf].drop 1))):=ak hq
 generalize upd H q0 (.tup ([Hv,RV,Sf].drop 1))=H0 at M |-
 have YX:Dn K H0 (dW (gC m i).2.1) RV:=by rw [M7];exact Dn.same M _ Lh
 have ab:Dn K H0 (dW (gC m i).2.2) Sf:=by rw [M7];exact Dn.same M _ ad
 rcases A with A|A
 .
  have A:=M.seq A
  refine ⟨_,rfl,R,rfl,.inl ⟨⟨_,A⟩,λ D hD=>?_⟩⟩
  refine kj (sq:=aX K) (a:=R) (xs:=B.map aq) (λ j acc U c=>A4 (aG H0 c) (c D=some (.lst acc)) (bL K c (((List.range j).map λ j=>(m.rows.getD j []).getD (B.getD j 0+0) (0,1)).map dW) acc) (E2 λ V u=>U=[V,u,some (.ref a)]))
    ⟨ak hD,ag,rfl,none,none,rfl⟩ (λ j acc U c Z e=>e.1.seq A) ?_ ?_
  .
   rintro j x p acc U c hx tN ⟨t,nJ,o,V,u,rfl⟩
   obtain ⟨b,C,rfl⟩:=dH hx
   have hj:j<B.length:=(Br.mp C).1
   have f:j<m.rows.length:=by lia
   have G:B.getD j 0=b:=by rw [PY,C];rfl
   have s:aG c (upd c p (.tup [aq j,aq b])):=ak tN
   have l:=M.trans (t.trans s)
   have I:m.rows.getD j []=m.rows[j]:=by rw [PY,aL f];rfl
   have q:=W j f
   rw [I,G] at q
   refine ⟨p,_,rfl,bY.of ag,rfl,_,_,rfl,_,_,rfl,rfl,?_⟩
   refine ⟨_,rfl,a,dx,_,rfl,l _ _ ha,rfl,_,rfl,a,O,m,j,_,rfl,L.same l,aL f,λ g X gH Eu=>?_⟩
   have S:aG (upd c p (.tup [aq j,aq b])) (upd (upd c p (.tup [aq j,aq b])) g (.lst X)):=ak gH
   obtain ⟨y,ey,dy⟩:=Eu.get (i:=b) (d:=dW m.rows[j][b]) (by rw [Zj,aL (by lia)];rfl)
   have r:=S _ _ (s _ _ nJ)
   have J:aT K (upd (upd c p (.tup [aq j,aq b])) g (.lst X)) (upd (upd (upd c p (.tup [aq j,aq b])) g (.lst X)) D (.lst (acc++[y]))):=bV r rfl
   have Et:acc.length=j:=by rw [o.length,No,No,aam]
   refine ⟨_,rfl,g,_,_,_,rfl,rfl,.inl (aX.of ag),cm ey,r,bo (by lia),(t.trans (s.trans S)).put hD,ag,?_,_,_,rfl⟩
   rw [aa6,aai,aai]
   refine (bL.ts ((aG.ts (s.trans S)).trans J) _ (mJ _ id) (by simpa using o)).snoc (Dn.ts J _ (iP _) ?_)
   show Dn K _ (dW ((m.rows.getD j []).getD (B.getD j 0+0) (0,1))) y
   rw [I,G,aeb,PY,aL (by lia:b<m.rows[j].length)]
   exact Dn.same S _ dy
  rintro acc U H1 ⟨t,nJ,o,V,u,rfl⟩
  rw [No] at o
  have o:bL K H1 ((f9 m B 0).map dW) acc:=o
  have Fs:=t.seq A
  have S1:=M.trans t
  refine ⟨_,rfl,R,rfl,.inl ⟨⟨_,Fs⟩,λ Y io=>?_⟩⟩
  refine kj (sq:=aX K) (a:=R) (xs:=B.map aq) (λ j acc U c=>A4 (aG H1 c) (c Y=some (.lst acc)) (bL K c (((List.range j).map λ j=>(m.rows.getD j []).getD (B.getD j 0+1) (0,1)).map dW) acc) (E2 λ V u=>U=[V,u,some (.ref a)]))
    ⟨ak io,ag,rfl,none,none,rfl⟩ (λ j acc U c Z e=>e.1.seq Fs) ?_ ?_
  .
   rintro j x p jc U c hx tN ⟨QW,L1,PL,V,u,rfl⟩
   obtain ⟨b,C,rfl⟩:=dH hx
   have hj:j<B.length:=(Br.mp C).1
   have f:j<m.rows.length:=by lia
   have G:B.getD j 0=b:=by rw [PY,C];rfl
   have s:aG c (upd c p (.tup [aq j,aq b])):=ak tN
   have l:=S1.trans (QW.trans s)
   have I:m.rows.getD j []=m.rows[j]:=by rw [PY,aL f];rfl
   have q:=W j f
   rw [I,G] at q
   refine ⟨p,_,rfl,bY.of ag,rfl,_,_,rfl,_,_,rfl,rfl,?_⟩
   refine ⟨_,rfl,a,dx,_,rfl,l _ _ ha,rfl,_,rfl,a,O,m,j,_,rfl,L.same l,aL f,λ g X gH Eu=>?_⟩
   have S:aG (upd c p (.tup [aq j,aq b])) (upd (upd c p (.tup [aq j,aq b])) g (.lst X)):=ak gH
   obtain ⟨y,ey,dy⟩:=Eu.get (i:=b+1) (d:=dW m.rows[j][b+1]) (by rw [Zj,aL (by lia)];rfl)
   have r:=S _ _ (s _ _ L1)
   have J:aT K (upd (upd c p (.tup [aq j,aq b])) g (.lst X)) (upd (upd (upd c p (.tup [aq j,aq b])) g (.lst X)) Y (.lst (jc++[y]))):=bV r rfl
   have Et:jc.length=j:=by rw [PL.length,No,No,aam]
   refine ⟨_,rfl,_,_,rfl,rfl,λ z ez=>?_⟩
   obtain rfl:z=((b+1:Nat):Int):=by rw [ez];push_cast;rfl
   refine ⟨g,_,_,_,rfl,rfl,.inl (aX.of ag),cm ey,r,bo (by lia),(QW.trans (s.trans S)).put io,ag,?_,_,_,rfl⟩
   rw [aa6,aai,aai]
   refine (bL.ts ((aG.ts (s.trans S)).trans J) _ (mJ _ id) (by simpa using PL)).snoc (Dn.ts J _ (iP _) ?_)
   show Dn K _ (dW ((m.rows.getD j []).getD (B.getD j 0+1) (0,1))) y
   rw [I,G,PY,aL (by lia:b+1<m.rows[j].length)]
   exact Dn.same S _ dy
  rintro jc U H2 ⟨s,r,N,V,u,rfl⟩
  rw [No] at N
  have N:bL K H2 ((f9 m B 1).map dW) jc:=N
  have l:=S1.trans s
  refine ⟨_,rfl,_,rfl,_,rfl,_,rfl,_,rfl,a,O,m,i,D,acc,f9 m B 0,_,_,F,rfl,L.same l,hi,aX.of (s _ _ nJ),bL.same s _ o,Zd,kr q4 lb W (by decide),Dn.same ((t.trans s)) _ YX,RY,hz,λ w1 H3 S V0=>?_⟩
  have S3:=l.trans S
  refine ⟨_,rfl,_,rfl,_,rfl,_,rfl,_,rfl,a,O,m,i,Y,jc,f9 m B 1,_,_,F,rfl,L.same S3,hi,aX.of (S _ _ r),bL.same S _ N,Yk,kr q4 lb W (by decide),Dn.same ((t.trans s).trans S) _ ab,SH,hz,λ w2 H4 s4 Qj=>⟨vg,λ q hq=>?_⟩⟩
  have s5:aG H4 (upd H4 q (.tup [.ref w1,.ref w2])):=ak hq
  exact k q w1 w2 _ ((S3.trans s4).trans s5) ag (s5 _ _ (s4 _ _ V0)) (s5 _ _ Qj)
 .
  have A:=M.tup A
  refine ⟨_,rfl,R,rfl,.inr ⟨⟨_,A⟩,λ D hD=>?_⟩⟩
  refine kj (sq:=bY K) (a:=R) (xs:=B.map aq) (λ j acc U c=>A4 (aG H0 c) (c D=some (.lst acc)) (bL K c (((List.range j).map λ j=>(m.rows.getD j []).getD (B.getD j 0+0) (0,1)).map dW) acc) (E2 λ V u=>U=[V,u,some (.ref a)]))
    ⟨ak hD,ag,rfl,none,none,rfl⟩ (λ j acc U c Z e=>e.1.tup A) ?_ ?_
  .
   rintro j x p acc U c hx tN ⟨t,nJ,o,V,u,rfl⟩
   obtain ⟨b,C,rfl⟩:=dH hx
   have hj:j<B.length:=(Br.mp C).1
   have f:j<m.rows.length:=by lia
   have G:B.getD j 0=b:=by rw [PY,C];rfl
   have s:aG c (upd c p (.tup [aq j,aq b])):=ak tN
   have l:=M.trans (t.trans s)
   have I:m.rows.getD j []=m.rows[j]:=by rw [PY,aL f];rfl
   have q:=W j f
   rw [I,G] at q
   refine ⟨p,_,rfl,bY.of ag,rfl,_,_,rfl,_,_,rfl,rfl,?_⟩
   refine ⟨_,rfl,a,dx,_,rfl,l _ _ ha,rfl,_,rfl,a,O,m,j,_,rfl,L.same l,aL f,λ g X gH Eu=>?_⟩
   have S:aG (upd c p (.tup [aq j,aq b])) (upd (upd c p (.tup [aq j,aq b])) g (.lst X)):=ak gH
   obtain ⟨y,ey,dy⟩:=Eu.get (i:=b) (d:=dW m.rows[j][b]) (by rw [Zj,aL (by lia)];rfl)
   have r:=S _ _ (s _ _ nJ)
   have J:aT K (upd (upd c p (.tup [aq j,aq b])) g (.lst X)) (upd (upd (upd c p (.tup [aq j,aq b])) g (.lst X)) D (.lst (acc++[y]))):=bV r rfl
   have Et:acc.length=j:=by rw [o.length,No,No,aam]
   refine ⟨_,rfl,g,_,_,_,rfl,rfl,.inl (aX.of ag),cm ey,r,bo (by lia),(t.trans (s.trans S)).put hD,ag,?_,_,_,rfl⟩
   rw [aa6,aai,aai]
   refine (bL.ts ((aG.ts (s.trans S)).trans J) _ (mJ _ id) (by simpa using o)).snoc (Dn.ts J _ (iP _) ?_)
   show Dn K _ (dW ((m.rows.getD j []).getD (B.getD j 0+0) (0,1))) y
   rw [I,G,aeb,PY,aL (by lia:b<m.rows[j].length)]
   exact Dn.same S _ dy
  rintro acc U H1 ⟨t,nJ,o,V,u,rfl⟩
  rw [No] at o
  have o:bL K H1 ((f9 m B 0).map dW) acc:=o
  have Fs:=t.tup A
  have S1:=M.trans t
  refine ⟨_,rfl,R,rfl,.inr ⟨⟨_,Fs⟩,λ Y io=>?_⟩⟩
  refine kj (sq:=bY K) (a:=R) (xs:=B.map aq) (λ j acc U c=>A4 (aG H1 c) (c Y=some (.lst acc)) (bL K c (((List.range j).map λ j=>(m.rows.getD j []).getD (B.getD j 0+1) (0,1)).map dW) acc) (E2 λ V u=>U=[V,u,some (.ref a)]))
    ⟨ak io,ag,rfl,none,none,rfl⟩ (λ j acc U c Z e=>e.1.tup Fs) ?_ ?_
  .
   rintro j x p jc U c hx tN ⟨QW,L1,PL,V,u,rfl⟩
   obtain ⟨b,C,rfl⟩:=dH hx
   have hj:j<B.length:=(Br.mp C).1
   have f:j<m.rows.length:=by lia
   have G:B.getD j 0=b:=by rw [PY,C];rfl
   have s:aG c (upd c p (.tup [aq j,aq b])):=ak tN
   have l:=S1.trans (QW.trans s)
   have I:m.rows.getD j []=m.rows[j]:=by rw [PY,aL f];rfl
   have q:=W j f
   rw [I,G] at q
   refine ⟨p,_,rfl,bY.of ag,rfl,_,_,rfl,_,_,rfl,rfl,?_⟩
   refine ⟨_,rfl,a,dx,_,rfl,l _ _ ha,rfl,_,rfl,a,O,m,j,_,rfl,L.same l,aL f,λ g X gH Eu=>?_⟩
   have S:aG (upd c p (.tup [aq j,aq b])) (upd (upd c p (.tup [aq j,aq b])) g (.lst X)):=ak gH
   obtain ⟨y,ey,dy⟩:=Eu.get (i:=b+1) (d:=dW m.rows[j][b+1]) (by rw [Zj,aL (by lia)];rfl)
   have r:=S _ _ (s _ _ L1)
   have J:aT K (upd (upd c p (.tup [aq j,aq b])) g (.lst X)) (upd (upd (upd c p (.tup [aq j,aq b])) g (.lst X)) Y (.lst (jc++[y]))):=bV r rfl
   have Et:jc.length=j:=by rw [PL.length,No,No,aam]
   refine ⟨_,rfl,_,_,rfl,rfl,λ z ez=>?_⟩
   obtain rfl:z=((b+1:Nat):Int):=by rw [ez];push_cast;rfl
   refine ⟨g,_,_,_,rfl,rfl,.inl (aX.of ag),cm ey,r,bo (by lia),(QW.trans (s.trans S)).put io,ag,?_,_,_,rfl⟩
   rw [aa6,aai,aai]
   refine (bL.ts ((aG.ts (s.trans S)).trans J) _ (mJ _ id) (by simpa using PL)).snoc (Dn.ts J _ (iP _) ?_)
   show Dn K _ (dW ((m.rows.getD j []).getD (B.getD j 0+1) (0,1))) y
   rw [I,G,PY,aL (by lia:b+1<m.rows[j].length)]
   exact Dn.same S _ dy
  rintro jc U H2 ⟨s,r,N,V,u,rfl⟩
  rw [No] at N
  have N:bL K H2 ((f9 m B 1).map dW) jc:=N
  have l:=S1.trans s
  refine ⟨_,rfl,_,rfl,_,rfl,_,rfl,_,rfl,a,O,m,i,D,acc,f9 m B 0,_,_,F,rfl,L.same l,hi,aX.of (s _ _ nJ),bL.same s _ o,Zd,kr q4 lb W (by decide),Dn.same ((t.trans s)) _ YX,RY,hz,λ w1 H3 S V0=>?_⟩
  have S3:=l.trans S
  refine ⟨_,rfl,_,rfl,_,rfl,_,rfl,_,rfl,a,O,m,i,Y,jc,f9 m B 1,_,_,F,rfl,L.same S3,hi,aX.of (S _ _ r),bL.same S _ N,Yk,kr q4 lb W (by decide),Dn.same ((t.trans s).trans S) _ ab,SH,hz,λ w2 H4 s4 Qj=>⟨vg,λ q hq=>?_⟩⟩
  have s5:aG H4 (upd H4 q (.tup [.ref w1,.ref w2])):=ak hq
  exact k q w1 w2 _ ((S3.trans s4).trans s5) ag (s5 _ _ (s4 _ _ V0)) (s5 _ _ Qj)
def mV (T:Txt K mg Ad):Def P w K mg base "under" 1 ["one","other"] (ED K):=by
 refine T.Db.cN zG λ Z Z Z Z Z H v Q E n h=>?_
 obtain ⟨p,o,a,b,c,d,rfl,e,f,B,g,i,j,k⟩:=h
 refine ⟨_,(ap (aH (dI kS (ax bF (ar ao (pv 0) ac) (ar ao (pv 1) ac)) (ax bF (ar ao (pv 1) ac) (ar ao (pv 0) ac)) (aM _)))),?_⟩
 try dsimp only [eS,bj]
 refine ⟨_,rfl,_,_,_,_,rfl,rfl,.inr e,rfl,_,rfl,_,_,_,_,rfl,rfl,.inr f,rfl,_,_,rfl,rfl,⟨_,_,B,j,by decide⟩,λ x l=>?_⟩
 refine ⟨_,rfl,_,_,_,_,rfl,rfl,.inr f,rfl,_,rfl,_,_,_,_,rfl,rfl,.inr e,rfl,_,_,rfl,rfl,⟨_,_,i,g,by decide⟩,λ X m=>⟨_,_,rfl,rfl,?_⟩⟩
 subst l m
 exact k
def A2 (T:Txt K mg Ad):Def P w K mg base "touched" 5 ["hold","room","least","greatest"] (D0 K Ad.bw):=by
 refine T.DG.cN uI λ Z Z Z Z Z H vs Q E B h=>?_
 obtain ⟨a,fp,m,i,r,v1,v2,f,F,rfl,hh,V,d1,d2,o1,o2,k⟩:=h
 refine ⟨_,(ai (cL (i:=4) uI.nd (aW (pv 0) T.aF (fA T) .nil B.m (aa (pv 1) af)))
     (ap (aH (fJ ["band"] ["greatest","least","marks"] [3,2,4] (.cons ⟨rfl,rfl,.inl rfl⟩ (.cons ⟨rfl,rfl,.inl rfl⟩ (.cons ⟨rfl,rfl,.inl rfl⟩ .nil))) rfl (cg rfl T.dB (aa (ax cQ (aV bH (by rfl) T.eF cK (aa (pv 4) af)) ac) af)) (λ Z Z Z Z Z=>(k9 (i:=0))) (λ Z Z Z Z Z=>(ke (PW.pt (qe (eJ (cT (ay (mV T) B.m (aa (pv 1) (aa (ar (dZ (K:=K) rfl) (pv 3) (pv 0)) af))))) (mK (eJ (cT (ay (mV T) B.m (aa (ar (dZ (K:=K) rfl) (pv 3) (ax aO (pv 0) ac)) (aa (pv 2) af)))))))))) (λ Z Z Z Z Z=>(pv 0)))))),?_⟩
 try dsimp only [eS,bj]
 obtain ⟨⟨dx,pm,pf,ps,pt,vm,vs,vt,aD,pY,ha,Z⟩,ab,lst,l4,wf⟩:=id hh
 have W:r∈m.rows:=aah V
 have hl:=wf.len r W
 have M:=wf.rows r W
 refine ⟨_,rfl,a,dx,_,rfl,ha,rfl,_,rfl,a,fp,m,i,r,rfl,hh,V,λ p X hp O=>?_⟩
 have S:aG H (upd H p (.lst X)):=ak hp
 have G:(upd H p (.lst X)) p=some (.lst X):=ag
 have g:=bL.same S _ O
 have e1:=Dn.same S _ d1
 have e2:=Dn.same S _ d2
 generalize upd H p (.lst X)=H1 at S G g e1 e2 |-
 have lx:X.length=r.length:=by rw [O.length,No]
 obtain ⟨p1,rfl,q1⟩:=e1.fr
 obtain ⟨p2,rfl,q2⟩:=e2.fr
 refine ⟨_,rfl,_,_,rfl,.inl (aX.of G),λ y ey=>?_⟩
 have hn:2<=r.length/\r.length<=7:=hl
 refine ⟨_,_,rfl,rfl,λ z ez=>⟨_,rfl,by lia,by lia,λ D u=>?_⟩⟩
 obtain ⟨n,en⟩:∃ n:Nat,z=(n:Int)/\n+1=r.length:=⟨r.length - 1,by lia,by lia⟩
 obtain ⟨rfl,en⟩:=en
 refine dR (lo:=0) (n:=n) (λ j A U c=>A4 (aG H1 c) (c D=some (.lst A)) (A=(kM r f F j).map aq) (∃ v,U=[v,some (.ref p2),some (.ref p1),some (.ref p)]))
   ⟨ak u,ag,rfl,none,rfl⟩ ?_ ?_
 .
  rintro j A U c hj ⟨s,I,rfl,v,rfl⟩
  have N:j<r.length:=by lia
  have l:j+1<r.length:=by lia
  obtain ⟨x,ex,zn⟩:=(bL.same s _ g).get (i:=j) (d:=dW r[j]) (by rw [Zj,aL N];rfl)
  obtain ⟨x',SV,vX⟩:=(bL.same s _ g).get (i:=j+1) (d:=dW r[j+1]) (by rw [Zj,aL l];rfl)
  obtain ⟨u1,rfl,w1⟩:=zn.fr
  obtain ⟨u2,rfl,w2⟩:=vX.fr
  have za:=(M r[j] (aay N)).mono (n:=20000) (by decide)
  have R:=(M r[j+1] (aay l)).mono (n:=20000) (by decide)
  have J:=s.tup q1
  have L:=s.tup q2
  have Y:=s _ _ G
  have o:oI r f F j=((!bg F r[j]) && !bg r[j+1] f):=by
    unfold oI
    rw [PY,PY,aL N,aL l];rfl
  have la:=mj r f F j
  refine ⟨_,rfl,_,rfl,_,rfl,_,_,_,_,rfl,rfl,.inl (aX.of Y),by rw [aaX];exact cm ex,p2,u1,_,_,_,_,rfl,L,w1,o2.t,o2.b,za.t,za.b,_,rfl,?_⟩
  show if (!bg F r[j])=true then _ else _
  cases C:bg F r[j] with
  | true =>
    refine fe (fe ⟨s,I,?_,_,rfl⟩)
    rw [kC,o,C];simp
  | false =>
    refine gn ⟨_,rfl,_,rfl,_,_,rfl,rfl,λ y1 q=>⟨_,_,_,_,rfl,rfl,.inl (aX.of Y),by rw [q,aaX];exact cm (j:=j+1) SV,_,rfl,u2,p1,_,_,_,_,rfl,w2,J,R.t,R.b,o1.t,o1.b,_,rfl,?_⟩⟩
    show if (!bg r[j+1] f)=true then _ else _
    cases c2:bg r[j+1] f with
    | true =>
      refine fe ⟨s,I,?_,_,rfl⟩
      rw [kC,o,C,c2];simp
    | false =>
      refine gn ⟨_,rfl,I,bo (by rw [No];lia),s.put u,ag,?_,_,rfl⟩
      rw [kC,o,C,c2,aai,aaX];rfl
 .
  rintro A U c ⟨s,I,rfl,v,rfl⟩
  have e:n=r.length - 1:=by lia
  rw [e] at I
  exact k D c (S.free u) (S.trans s) I
def EC (T:Txt K mg Ad):Def P w K mg base "within" 5 ["hold","room","least","greatest"] (BU K Ad.bw):=by
 refine T.G2.cN wk λ Z Z Z Z Z H vs Q E l h=>?_
 obtain ⟨a,V,m,i,r,v1,v2,f,F,rfl,B,L,M,N,O,G,k⟩:=h
 refine ⟨_,(ai (cL (i:=4) wk.nd (aW (pv 0) T.aF (fA T) .nil l.m (aa (pv 1) af)))
     (ap (aH (uc (u4 (ay (mV T) l.m (aa (pv 2) (aa (ar ao (pv 4) ac) af)))) (qW (u4 (ay (mV T) l.m (aa (ar ao (pv 4) (rM uS ac)) (aa (pv 3) af))))))))),?_⟩
 try dsimp only [eS,bj]
 obtain ⟨⟨R,pm,pf,ps,pt,vm,vs,vt,aD,pY,Y,Z⟩,ab,lst,l4,W⟩:=id B
 have y:r∈m.rows:=aah L
 have hl:=W.len r y
 have q:=W.rows r y
 refine ⟨_,rfl,a,R,_,rfl,Y,rfl,_,rfl,a,V,m,i,r,rfl,B,L,λ p X hp s=>?_⟩
 have S:aG H (upd H p (.lst X)):=ak hp
 have o:(upd H p (.lst X)) p=some (.lst X):=ag
 have D:=bL.same S _ s
 have z:=Dn.same S _ M
 have A:=Dn.same S _ N
 generalize upd H p (.lst X)=u at S o D z A |-
 have lx:X.length=r.length:=by rw [s.length,No]
 obtain ⟨p1,rfl,q1⟩:=z.fr
 obtain ⟨p2,rfl,q2⟩:=A.fr
 have e:0<r.length:=by lia
 have g:r.length - 1<r.length:=by lia
 obtain ⟨x,ex,zn⟩:=D.get (i:=0) (d:=dW r[0]) (by rw [Zj,aL e];rfl)
 obtain ⟨x',J,vX⟩:=D.get (i:=r.length - 1) (d:=dW r[r.length - 1]) (by rw [Zj,aL g];rfl)
 obtain ⟨u1,rfl,w1⟩:=zn.fr
 obtain ⟨u2,rfl,w2⟩:=vX.fr
 have I:=(q r[0] (aay e)).mono (n:=20000) (by decide)
 have v:=(q r[r.length - 1] (aay g)).mono (n:=20000) (by decide)
 have U:iS r f F=((!bg f r[0]) && !bg r[r.length - 1] F):=by
   unfold iS
   rw [PY,PY,aL e,aL g];rfl
 have c:=k u S
 rw [U] at c
 refine ⟨_,rfl,_,rfl,_,_,_,_,rfl,rfl,.inl (aX.of o),cm (j:=0) ex,p1,u1,_,_,_,_,rfl,q1,w1,O.t,O.b,I.t,I.b,_,rfl,_,rfl,?_⟩
 show if (!bg f r[0])=true then _ else _
 cases C:bg f r[0] with
 | true =>
   rw [C] at c
   exact fe c
 | false =>
   rw [C] at c
   refine gn ⟨_,rfl,_,rfl,_,_,_,_,rfl,rfl,.inl (aX.of o),Ib (by lia) (by rw [lx];exact J),_,rfl,u2,p2,_,_,_,_,rfl,w2,q2,v.t,v.b,G.t,G.b,_,rfl,?_⟩
   show Q (.bl (!bg r[r.length - 1] F)) u
   exact c
def uB (T:Txt K mg Ad):Def P w K mg base "each_choice" 1 ["rows"] (A0 K):=by
 refine T.vq.cN eC λ Z Z Z Z Z H vs Q E hr h=>?_
 obtain ⟨p,X,rows,rfl,hp,ZH,l4,l6,k⟩:=h
 refine ⟨_,(ai (cL (i:=1) eC.nd (bG (aa (aY af) af)))
     (ai (c6 aaH rfl (cf (pv 0)) (ij (i:=2) eC.nd) (ai (cL (i:=3) eC.nd (bG af))
     (ai (c6 aaH rfl (cf (pv 1)) (ij (i:=4) eC.nd) (ap (bC (im aaF adR adQ vZ (pv 3) (aa (fJ ["band"] ["choice"] [4] (.cons ⟨rfl,rfl,.inl rfl⟩ .nil) rfl (cf (pv 2)) (λ Z Z Z Z Z=>(k9 (i:=0))) (λ Z Z Z Z Z=>cr) (λ Z Z Z Z Z=>(ax (zx (K:=K) rfl) (pv 1) (aY (aa (pv 0) af))))) af)))))
     (ap (cL (i:=1) eC.nd (pv 3))))))
     (ap (aH (pv 1))))),?_⟩
 try dsimp only [eS,bj]
 try (refine dQ ?_;intro Z Z Z Z)
 refine ⟨E6,λ t0 ad=>⟨vW,λ pc Sx=>?_⟩⟩
 have s0:=ak (o:=.tup []) ad
 have s1:=ak (o:=.lst [.ref t0]) Sx
 refine ⟨_,rfl,p,rfl,⟨_,(s0.trans s1).seq hp⟩,?_⟩
 have lx:=ZH.length
 refine jP (K:=K) (a:=p) (xs:=X) (λ i U d=>aG H d/\E2 λ q Y=>A3 (d q=some (.lst Y)) (Jp K d Y (bP (rows.take i))) (E3 λ (v2 v3 V:eL)=>U=[some (.ref p),some (.ref q),v2,v3,V]))
   ⟨s0.trans s1,pc,[.ref t0],ag,Refs.snoc .nil (bY.of (s1 _ _ ag)),none,none,none,rfl⟩ (λ i U d Z ⟨O,_⟩=>O.seq hp) ?_ ?_
 .
  rintro i x U W hx ⟨G,q,Y,I,l,v2,v3,V,rfl⟩
  obtain ⟨N,r,rfl,er,ab⟩:=ZH.get hx
  have hi:i<rows.length:=(Br.mp er).1
  have r6:=l6 r (aah er)
  have lc:=jm l6 i
  have p6:6 ^ i<=216:=by
    have:=abr (n:=6) (by decide) (show i<=3 by lia)
    lia
  have VX:bP (rows.take (i+1))=(bP (rows.take i)).flatMap λ c=>r.map λ b=>c++[b]:=by
    rw [bS er,iO]
  have L:∀ c∈bP (rows.take i),c.length<=4:=λ c h=>by
    have:=(fY.mp h).1
    rw [aaK] at this
    lia
  generalize bP (rows.take i)=cs at l lc VX L
  rw [VX]
  clear VX
  refine ⟨E6,λ u gc=>?_⟩
  have O:=ak (o:=.lst []) gc
  refine ⟨_,rfl,q,rfl,⟨_,aX.of (O _ _ I)⟩,?_⟩
  refine jP (K:=K) (a:=q) (xs:=Y) (λ j U d=>aG W d/\∃ e,A3 (d u=some (.lst e)) (Jp K d e ((cs.take j).flatMap λ c=>r.map λ b=>c++[b])) (∃ (V:eL),U=[some (.ref p),some (.ref q),some (.ref N),some (.ref u),V]))
    ⟨O,[],ag,.nil,V,rfl⟩ (λ j U d Z ⟨s,_⟩=>aX.of (s _ _ I)) ?_ ?_
  .
   rintro j y U F hy ⟨S,e,J,t,V,rfl⟩
   obtain ⟨tc,c,rfl,ec,Tl⟩:=l.get hy
   have hj:j<cs.length:=(Br.mp ec).1
   have KL:aX K F N (r.map aq):=(G.trans S).seq ab
   have Ou:bY K F tc (c.map aq):=S.tup Tl
   have lz:e.length<=216 * 6:=by
     rw [t.length]
     refine aaA (fo (k:=6) λ a=>by rw [No];exact r6) ?_
     rw [aaK]
     lia
   rw [bS ec,aem,ad5]
   refine ⟨_,rfl,.inl ⟨rfl,_,aX.of J⟩,_,rfl,N,rfl,⟨_,KL⟩,λ D hD=>?_⟩
   refine cR (K:=K) (a:=N) (xs:=r.map aq) (λ b A f g=>A4 (aG F g) (g D=some (.lst A)) (Jp K g A ((r.take b).map λ x=>c++[x])) (∃ v,f=[v,some (.ref tc)]))
     ⟨ak hD,ag,.nil,none,rfl⟩ (λ b A f g Z ⟨s,_,_,_⟩=>s.seq KL) ?_ ?_
   .
    rintro b z A f g hb ⟨s,M,m,v,rfl⟩
    obtain ⟨bn,eb,rfl⟩:=dH hb
    have ae:b<r.length:=(Br.mp eb).1
    have la:A.length<=6:=by rw [m.length,No,aaK];lia
    refine ⟨_,rfl,_,rfl,vW,λ tb Ws=>?_⟩
    have B:=ak (o:=.tup [aq bn]) Ws
    refine ⟨tc,tb,_,_,rfl,rfl,(s.trans B).tup Ou,bY.of ag,?_,λ t5 H5 R h5=>?_⟩
    . have:=L c (aah ec)
      exact ab4 (bo (by rw [No,aaD];lia))
    . refine ⟨R _ _ (B _ _ M),aas la (by decide),((s.trans B).trans R).put hD,ag,?_,_,rfl⟩
      rw [bS eb,aai]
      have C:aT K H5 (upd H5 D (.lst (A++[.ref t5]))):=bV (R _ _ (B _ _ M)) rfl
      refine Refs.snoc (m.imp λ p a h=>C _ _ ((B.trans R).tup h)) (C _ _ ?_)
      rw [aai]
      exact h5
   .
    rintro A f g ⟨s,M,m,v,rfl⟩
    rw [No,aaB] at m
    have la:A.length<=6:=by rw [m.length,No];exact r6
    have YI:=s _ _ J
    refine ⟨u,D,e,A,rfl,rfl,YI,M,ab4 (aas (show e.length+A.length<=1302 by lia) (by decide)),?_⟩
    have C:aT K g (upd g u (.lst (e++A))):=bV YI rfl
    exact ⟨(S.trans s).put gc,_,ag,Refs.append (t.imp λ p a h=>C _ _ (s.tup h)) (m.imp λ p a h=>C _ _ h),_,rfl⟩
  . rintro U F ⟨S,e,J,t,V,rfl⟩
    rw [l.length,aaB] at t
    exact ⟨_,rfl,G.trans S,u,e,J,t,_,_,_,rfl⟩
 . rintro U W ⟨G,q,Y,I,l,v2,v3,V,rfl⟩
   rw [abb (by lia)] at l
   exact ⟨_,rfl,k q Y W G I l⟩
def oF (T:Txt K mg Ad):hC P w K mg base Ad.Reach "__init__" 1 ["self","hold"] [] (EF P w K Ad.bw Ad.Reach):=by
 refine T.qx.fS pN λ Z Z Z Z Z H V Q E A h=>?_
 obtain ⟨x,D,a,F,m,rfl,t,q,nx,k⟩:=h
 refine ⟨_,(ai (dh (pv 0) (pv 1) rfl)
     (ap (dh (pv 0) (C8 (P:=P) (w:=w) rfl rfl) rfl))),?_⟩
 try dsimp only [eS,bj]
 have j:jw K Ad.Reach x D H H []:=.start t
 refine ⟨_,rfl,_,rfl,x,_,D,_,rfl,j.at_,T.dL,T.dU,lt1000 rfl,?_⟩
 have b:=j.put (fs':=aQ "hold" (.ref a) [])
 intro d g
 have l:=b.new (o:=kU P w d []) g
 refine ⟨_,rfl,x,_,D,_,rfl,l.at_,T.dL,T.d9,lt1000 rfl,?_⟩
 have B:=l.put (fs':=aQ "spreads" (.ref d) (aQ "hold" (.ref a) []))
 have N:d≠x:=b.ne g
 have p:H d=none:=b.none g
 refine k d _ (λ c u s n=>B.st c u s λ z=>n (aac.mpr z)) B.ts p ⟨⟨D,B.at_⟩,q.JL B.st B.ts nx,λ z=>?_,[],iB.nil (by rw [aw N];exact ag),aak _,λ i y f v e=>by cases e⟩
 obtain ⟨o,r⟩:=q.some d z
 rw [p] at r
 cases r
def qP (T:Txt K mg Ad):hC P w K mg base Ad.Reach "spread" 8 ["self","room","bands","fired"] [] (EN P w K Ad.bw Ad.Reach):=by
 refine T.uR.fS eT λ Z Z Z Z Z H vs Q E p h=>?_
 obtain ⟨x,d,a,I,m,c,i,y,B,b,L,rfl,Ms,hL,hc,hi,yG,lb,hb,hf,Sd,R1,k⟩:=h
 refine ⟨_,(ai (cL (i:=4) eT.nd (aY (aa (pv 1) (aa (pv 2) (aa (pv 3) af)))))
     (ai (ku (bB (aK (wH (P:=P) (w:=w) (K:=K) rfl rfl rfl p.Iw) (pv 4) (aU (pv 0) rfl) (by with_unfolding_all rfl)) (ai (iW (ay (AS T) p.m (aa (aU (pv 0) rfl) (aa (pv 1) (aa (pv 2) (aa (pv 3) af))))) (cW (K:=K) (n:=2) rfl rfl (aP (ij (i:=5) eT.nd) (aP (ij (i:=6) eT.nd) cZ))))
     (ai (cL (i:=7) eT.nd (ay (EC T) p.m (aa (aU (pv 0) rfl) (aa (pv 1) (aa (pv 5) (aa (pv 6) af))))))
     (ap (Cn (P:=P) (w:=w) (K:=K) rfl rfl rfl p.Iw (aU (pv 0) rfl) (pv 4) (jQ (cT (pv 7)) (ay (A2 T) p.m (aa (aU (pv 0) rfl) (aa (pv 1) (aa (pv 5) (aa (pv 6) af))))) cy) rfl)))) aJ))
     (ap (aH (o9 (P:=P) (w:=w) (K:=K) rfl rfl rfl p.Iw (aU (pv 0) rfl) (pv 4) (λ Z Z=>rfl)))))),?_⟩
 try dsimp only [eS,bj]
 try (refine dQ ?_;intro Z Z Z Z)
 refine ⟨_,rfl,_,rfl,_,rfl,yF,λ tk RR=>?_⟩
 have j:=ak (o:=.tup [aq i,.ref y,.bl b]) RR
 have F:=Ms.same j
 have u:gO K (upd H tk (.tup [aq i,.ref y,.bl b])) (k7 i B b) tk:=BX (bY.of ag) (j.tup yG)
 generalize upd H tk (.tup [aq i,.ref y,.bl b])=H1 at j F u |-
 obtain ⟨⟨D,r⟩,R,nd,A,g,J,U⟩:=id F
 refine ⟨λ C l=>(E2 λ A v=>A7 (gG [d] H1 l) (aT K H1 l) (eG P w K Ad.bw Ad.Reach L l x d a I m (c+1)) (iB P w K l d A) (gO K l (k7 i B b) tk) (iw A (k7 i B b)=some v) (fB L l v (d7 m i B b)))/\E3 λ (v5 v6 v7:eL)=>C=[some (.ref x),some (aq i),some (.ref y),some (.bl b),some (.ref tk),v5,v6,v7],?_,?_⟩
 .
  refine ⟨_,rfl,_,rfl,x,_,D,_,_,rfl,r,T.dL,T.d9,rfl,d,tk,A,_,rfl,rfl,g,u,_,rfl,?_⟩
  cases e:iw A (k7 i B b) with
  | some v=>exact fe ⟨⟨A,v,λ Z Z h Z=>h,aT.refl _,F.more (acp _),g,u,e,U i B b v e⟩,none,none,none,rfl⟩
  | none =>
    refine gn ?_
    refine ⟨_,rfl,x,_,D,_,_,rfl,r,T.dL,T.dU,rfl,_,rfl,_,rfl,_,rfl,a,I,m,i,y,B,b,rfl,R,hi,.inr (j.tup yG),lb,hb,hf,λ q q1 q2 H2 Y e0 e1 e2=>?_⟩
    refine ⟨q,_,rfl,bY.of e0,rfl,_,_,rfl,_,_,rfl,rfl,?_⟩
    have N:=Y _ _ r
    have yy:=aL hi
    have L0:m.rows.getD i []=m.rows[i]:=by rw [PY,yy];rfl
    refine ⟨_,rfl,x,_,D,_,_,rfl,N,T.dL,T.dU,rfl,_,rfl,_,rfl,_,rfl,a,I,m,i,m.rows[i],.ref q1,.ref q2,_,_,rfl,R.same Y,yy,jl (bY.of e1),jl (bY.of e2),Sd,R1,λ H3 s3=>?_⟩
    have S:=Y.trans s3
    have HB:=S _ _ r
    have G:d7 m i B b=if iS m.rows[i] (je m i B b) (iZ m i B b)=true then some (og m.rows[i] (je m i B b) (iZ m i B b)) else none:=by unfold d7;rw [L0]
    cases ew:iS m.rows[i] (je m i B b) (iZ m i B b) with
    | true =>
      rw [ew,aau rfl] at G
      refine ⟨_,rfl,_,rfl,gn ⟨_,rfl,x,_,D,_,_,rfl,HB,T.dL,T.dU,rfl,_,rfl,_,rfl,_,rfl,a,I,m,i,m.rows[i],.ref q1,.ref q2,_,_,rfl,R.same S,yy,jl (bY.of (s3 _ _ e1)),jl (bY.of (s3 _ _ e2)),Sd,R1,λ M H4 nt s4 ht=>?_⟩⟩
      have s:=S.trans s4
      have O:fB L H4 (.ref M) (d7 m i B b):=by rw [G];exact ⟨M,rfl,λ z=>hL M z ((j.trans S).free nt),ht⟩
      obtain ⟨V,W,t,X⟩:=(F.same s).put (g.same s) J (λ i B f v e=>(U i B f v e).same s) (u.ts s.ts) O
      exact ⟨_,rfl,x,_,D,_,_,rfl,s _ _ r,T.dL,T.d9,rfl,_,rfl,d,tk,A,_,rfl,rfl,g.same s,u.ts s.ts,aas (aaA J hc) (by decide),⟨_,.ref M,λ c o e n=>W c o (s c o e) n,s.ts.trans t,V,(g.same s).put (u.ts s.ts),(u.ts s.ts).ts t,by rw [lO,aau rfl],X⟩,_,_,_,rfl⟩
    | false =>
      rw [ew,aax aaC] at G
      have O:fB L H3 .cC (d7 m i B b):=by rw [G];rfl
      obtain ⟨V,W,t,X⟩:=(F.same S).put (g.same S) J (λ i B f v e=>(U i B f v e).same S) (u.ts S.ts) O
      exact ⟨_,rfl,_,rfl,fe ⟨_,rfl,x,_,D,_,_,rfl,HB,T.dL,T.d9,rfl,_,rfl,d,tk,A,_,rfl,rfl,g.same S,u.ts S.ts,aas (aaA J hc) (by decide),⟨_,.cC,λ c o e n=>W c o (S c o e) n,S.ts.trans t,V,(g.same S).put (u.ts S.ts),(u.ts S.ts).ts t,by rw [lO,aau rfl],X⟩,_,_,_,rfl⟩⟩
 .
  rintro C H2 ⟨⟨Fx,v,b2,t2,RX,P3,QH,ev,HA⟩,v5,v6,v7,rfl⟩
  obtain ⟨vX,N⟩:=RX.ins
  refine ⟨_,rfl,x,_,vX,_,_,rfl,N,T.dL,T.d9,rfl,_,rfl,d,tk,Fx,_,v,rfl,rfl,P3,QH,ev,?_⟩
  exact k v H2 (λ c o e n=>b2 c o (j c o e) n) (j.ts.trans t2) RX HA
def jV (T:Txt K mg Ad):hC P w K mg base Ad.Reach "states_behind" 9 ["self","state","order"] [] (Ep P w K Ad.bw Ad.Reach):=by
 refine T.kY.fS bZ λ Z Z Z Z Z H vs Q E I h=>?_
 obtain ⟨x,d,a,F,m,c,p,st,o,L,rfl,Ms,hL,hc,hs,so,ow,tn,Gw,k1,k2⟩:=h
 refine ⟨_,(ai (cL (i:=3) bZ.nd (bG af))
     (ai (c6 aaH rfl (cf (ay (tG T) I.m (aa (ay (BO T) I.m (aa (aU (pv 0) rfl) (aa (pv 1) (aa (pv 2) af)))) af))) (ij (i:=4) bZ.nd) (ai (cL (i:=5) bZ.nd (ax mS (pv 2) (rM By (pv 4))))
     (ai (rN (yi:=6) ["room"] ["self","state","burning"] [0,1,5] (.cons ⟨rfl,rfl,.inl rfl⟩ (.cons ⟨rfl,rfl,.inl rfl⟩ (.cons ⟨rfl,rfl,.inl rfl⟩ .nil))) rfl (cg rfl T.dB (aa (fH (aU (pv 0) rfl) T.aF (cI T) .nil I.m) af)) (λ Z Z Z Z Z=>(k9 (i:=0))) (λ Z Z Z Z Z=>cr) (λ Z Z Z Z Z=>(aW (pv 1) T.dL (qP (P:=P) (w:=w) T) .nil I.m (aa (pv 0) (aa (ar (dZ (K:=K) rfl) (pv 2) ac) (aa (ay (fj T) I.m (aa (pv 3) (aa (pv 0) af))) af))))) bZ.nd (lc rfl))
     (ai (bB (aK (LL (Dp I)) cy (pv 6) (by with_unfolding_all rfl)) (ap (aH cy)) aJ)
     (ai (cL (i:=7) bZ.nd (ay (qT T) I.m (aa (aU (pv 0) rfl) (aa (pv 1) (aa (pv 2) (aa (pv 4) af))))))
     (ap (bC (im aaF adR adQ vZ (pv 3) (aa (fJ ["bands"] ["stoves"] [7] (.cons ⟨rfl,rfl,.inl rfl⟩ .nil) rfl (cf (ay (uB T) I.m (aa (pv 6) af))) (λ Z Z Z Z Z=>(k9 (i:=0))) (λ Z Z Z Z Z=>cr) (λ Z Z Z Z Z=>(ax (zx (K:=K) rfl) (aY (aa (pv 0) af)) (pv 1)))) af)))))))))
     (ap (aH (pv 3))))),?_⟩
 try dsimp only [eS,bj]
 try (refine dQ ?_;intro Z Z Z Z)
 obtain ⟨Z,Z,Z,q3,q4⟩:=id Ms.hold
 refine ⟨E6,λ f R=>?_⟩
 have s1:=ak (o:=.lst []) R
 have e1:(upd H f (.lst [])) f=some (.lst []):=ag
 generalize upd H f (.lst [])=H1 at s1 e1 |-
 obtain ⟨dx,hx⟩:=Ms.ins
 refine ⟨_,rfl,x,_,dx,_,_,rfl,s1 _ _ hx,T.dL,T.dU,rfl,_,rfl,_,rfl,a,F,m,p,st,o,rfl,Ms.hold.same s1,hs.same s1,so,ow,λ H2 s2=>?_⟩
 have S2:=s1.trans s2
 have ad:st.may m o<16:=yr q3
 have ol:=pO ad
 refine ⟨st.may m o,rfl,by lia,ol.1,λ pl H3 gc s3 W=>⟨pl,rfl,⟨_,aX.of W⟩,?_⟩⟩
 have S:=S2.trans s3
 have e3:H3 f=some (.lst []):=s3 _ _ (s2 _ _ e1)
 have ah:pl≠f:=(az (s2 _ _ e1) gc).symm
 have WQ:f∉F:=λ z=>by
   obtain ⟨u,hu⟩:=Ms.hold.some f z
   rw [R] at hu;cases hu
 have P2:eG P w K Ad.bw Ad.Reach (f::L) H3 x d a F m c:=(Ms.new R).same S
 obtain ⟨al,QP,Z⟩:=P2.Mq
 have RW:pl≠d:=λ z=>by rw [z,QP.ob] at W;cases W
 have ZE:f≠d:=λ z=>by rw [z,QP.ob] at e3;cases e3
 have Mm:=hs.same S
 have lo:(dD m st o).length<=16:=ol.2
 have W:H3 pl=some (.lst ((dD m st o).map aq)):=W
 unfold qA at k2
 generalize dD m st o=O at W lo tn k1 k2
 refine hJ (K:=K) (a:=pl) (xs:=O.map aq) (λ i U H'=>A6 (gG [d,f] H3 H') (aT K H3 H') (eG P w K Ad.bw Ad.Reach (f::L) H' x d a F m (c+4 * i)) (∃ X,H' f=some (.lst X)/\ni K H' X ((O.take i).flatMap (iT m st o))) (∀ out∈O.take i,jq m st (Ord.off o out)=true) (E4 λ (v4 v5 v6 v7:eL)=>U=[some (.ref x),some (.ref p),some (aq o),some (.ref f),v4,v5,v6,v7]))
   ⟨λ Z Z h Z=>h,aT.refl _,P2,⟨[],e3,Refs.nil⟩,λ Z h=>absurd h (by simp),none,none,none,none,rfl⟩ (λ i U H' Z ⟨b,_,_,_,_,_⟩=>aX.of (b _ _ W (by simp [RW,ah]))) ?_ ?_
 .
  rintro Z i v U H4 hv ⟨b4,t4,B,⟨X,JW,yM⟩,Cj,v4,v5,v6,v7,rfl⟩
  obtain ⟨out,eo,rfl⟩:=dH hv
  have hi:i<O.length:=(Br.mp eo).1
  have PD:=tn out (aah eo)
  have G:∀ i,(Ord.off o out).testBit i=true->m.has i=true:=λ i h=>(PD.Ky (PD.Lk h).1).2
  refine ⟨_,rfl,_,rfl,_,rfl,_,_,rfl,rfl,λ y ey=>?_⟩
  obtain rfl:y=((Ord.off o out:Nat):Int):=by rw [ey];exact ou _ _
  obtain ⟨U0,XS⟩:=B.ins
  obtain ⟨⟨ab,Z,Z,Z,Z,Z,Z,Z,Z,Z,X6,Z⟩,Z⟩:=id B.hold
  refine ⟨_,rfl,x,_,U0,_,_,rfl,XS,T.dL,T.dU,rfl,a,ab,_,rfl,X6,rfl,a,F,m,rfl,B.hold,_,rfl,by lia,by lia,λ D V=>?_⟩
  have OX:iR K H4 p st:=Mm.ts t4
  obtain ⟨pb,pw,pf,h0,Pz,aj,ZL⟩:=id OX
  obtain ⟨an,Vu,Z⟩:=B.Mq
  have nD:D≠d:=(az Vu.ob V).symm
  have ae:D∉F:=λ z=>by
    obtain ⟨u,hu⟩:=B.hold.some D z
    rw [V] at hu;cases hu
  refine dR (lo:=0) (n:=m.rows.length) (λ j A g H5=>A6 (gG [d] H4 H5) (aT K H4 H5) (eG P w K Ad.bw Ad.Reach (D::f::L) H5 x d a F m (c+4 * i+j)) (H5 D=some (.lst A)) (Paired (fB (D::f::L) H5) A ((List.range j).map (kW m st (Ord.off o out)))) (∃ v,g=[v,some (.ref x),some (.ref p),some (aq (Ord.off o out))]))
    ⟨λ b u h Z=>ak V b u h,(ak V).ts,(B.new V).same (ak V),ag,.nil,none,rfl⟩ ?_ ?_
  .
   rintro j A g H5 hj ⟨N,M,C,Lu,Y,v,rfl⟩
   obtain ⟨Pa,N1⟩:=C.ins
   obtain ⟨aD,Pe,Z⟩:=C.Mq
   have la:A.length=j:=by rw [ab2 Y,No,aam]
   have Iy:=N _ _ JW (by simp [ZE])
   obtain ⟨Sd,R1⟩:=Gw j ((Ord.off o out).testBit j) hj (G j)
   refine ⟨_,rfl,x,Pa,_,rfl,N1,rfl,_,rfl,_,rfl,p,_,_,_,rfl,rfl,.inr (M _ _ h0),rfl,_,rfl,_,rfl,Ord.off o out,j,by rw [aaX];rfl,?_⟩
   refine ⟨x,d,a,F,m,c+4 * i+j,j,pb,st.cJ,(Ord.off o out).testBit j,D::f::L,by rw [aaX];rfl,C,?_,by lia,hj,M _ _ Pz,so.lb,λ j hj=>by have:=so.band j hj;unfold gN at this;rw [PY];exact this,λ z=>?_,Sd,R1,λ v6 H6 b6 t6 YF VI=>?_⟩
   .
    intro b hb
    rcases aab.mp hb with rfl|hb
    . rw [Lu];exact nofun
    rcases aab.mp hb with rfl|hb
    . rw [Iy];exact nofun
    . by_cases z:b=d
      . rw [z,Pe.ob];exact nofun
      . cases e:H b with
        | none=>exact absurd e (hL b hb)
        | some u=>rw [N b u (b4 b u (S b u e) (by simp only [aab,aae,aaT,abL];exact ⟨z,az e R⟩)) (by simp [z])];exact nofun
   . obtain ⟨z',ez⟩:=uV (G j z)
     exact ⟨z',by rw [mO (by lia),ez]⟩
   .
    have Jk:=b6 _ _ Lu (by simp [nD])
    obtain ⟨aN,Tg,Z⟩:=YF.Mq
    have ks:∀ {v r},fB (D::f::L) H6 v r->fB (D::f::L) (upd H6 D (.lst (A++[v6]))) v r:=λ h=>h.but Tg.ob nZ (λ c u e Z n=>by rw [aw (λ z=>n (by simp [z]))];exact e) λ Z h=>h
    refine ⟨Jk,bo (by lia),λ b u h n=>by rw [aw (az h V)];exact b6 b u (N b u h n) n,M.trans (t6.trans (bV Jk rfl)),YF.write Jk (by simp) ae,ag,?_,_,rfl⟩
    rw [aa6,aai]
    exact acN (Paired.yB Y λ a r h=>ks (h.but Pe.ob nZ (λ c u e n Z=>b6 c u e (by simp [n])) λ Z h=>h)) (ks VI)
  .
   rintro A g H5 ⟨N,M,C,Lu,Y,v,rfl⟩
   have Lg:∀ v∈A,v = .cC\/∃ a ys,v = .ref a/\aX K H5 a ys:=λ v hv=>(CF Y v hv).imp id λ ⟨q,ys,e,h⟩=>⟨q,ys,e,aX.of h⟩
   have Iy:=N _ _ JW (by simp [ZE])
   obtain ⟨Pa,N1⟩:=C.ins
   have B5:gG [d] H H5:=λ b u h n=>N b u (b4 b u (S b u h) (by
     simp only [aab,aae,aaT,abL] at n |-
     exact ⟨n,az h R⟩)) n
   have T5:aT K H H5:=S.ts.trans (t4.trans M)
   refine ⟨_,rfl,D,A,rfl,rfl,aX.of Lu,Lg,_,rfl,eM (λ hn=>?_) (λ hn=>?_)⟩
   . exact k1 ⟨out,aah eo,wn.mp ((tT Y).mp hn)⟩ H5 B5 T5 ((C.less λ b h=>aaj _ (aaj _ h)).more (by lia))
   have nn:none∉(List.range m.rows.length).map (kW m st (Ord.off o out)):=λ z=>hn ((tT Y).mpr z)
   have yy:=zP Y nn
   rw [I0] at yy
   have sf:jq m st (Ord.off o out)=true:=by
     cases e:jq m st (Ord.off o out) with
     | true=>rfl
     | false=>exact absurd (wn.mpr e) nn
   refine ⟨_,rfl,x,_,Pa,_,_,rfl,N1,T.dL,T.dU,rfl,_,rfl,_,rfl,_,rfl,a,F,m,p,st,o,out,rfl,C.hold,OX.ts M,so,λ i h=>PD.has h,PD.KN,PD.KP,λ qt Qi vx H6 s6 g1 g2 g3=>?_⟩
   have lr:(gr m st (Ord.off o out)).length=m.rows.length:=by unfold gr;rw [No,aam]
   refine ⟨_,rfl,.inl ⟨rfl,_,aX.of (s6 _ _ Iy)⟩,_,rfl,D,A,gr m st (Ord.off o out),rfl,aX.of (s6 _ _ Lu),yy.imp λ q r h=>aX.of (s6 _ _ h),by lia,zX q4,λ qc ys H7 s7 Zm xa=>⟨qc,rfl,⟨_,aX.of Zm⟩,λ D2 io=>?_⟩⟩
   have bl:=j3 q4 q3 (s:=st) (o:=o) out
   unfold iT at bl
   rw [No] at bl
   have eb:iT m st o out=(bP (gr m st (Ord.off o out))).map λ c=>st.behind m c o out:=rfl
   have l4:∀ c∈bP (gr m st (Ord.off o out)),c.length<=4:=λ c h=>by have:=(fY.mp h).1;lia
   generalize bP (gr m st (Ord.off o out))=cs at xa bl eb l4
   refine cR (K:=K) (a:=qc) (xs:=ys) (λ j J g l=>A4 (aG H7 l) (l D2=some (.lst J)) (ni K l J ((cs.take j).map λ c=>st.behind m c o out)) (∃ v,g=[v,some (.ref qt)]))
     ⟨ak io,ag,Refs.nil,none,rfl⟩ (λ j J g l Z ⟨s8,_,_,_⟩=>aX.of (s8 _ _ Zm)) ?_ ?_
   .
    rintro j z J g l hz ⟨s8,KB,tX,v,rfl⟩
    obtain ⟨tc,cc,rfl,ec,Tl⟩:=xa.get hz
    have hj:j<cs.length:=(Br.mp ec).1
    have la:J.length<=1296:=by rw [tX.length,No,aaK];lia
    have KW:=s7.trans s8
    refine ⟨_,rfl,vW,λ tb Ws=>?_⟩
    have s9:=ak (o:=.tup [.ref tc]) Ws
    refine ⟨_,rfl,tb,qt,_,_,rfl,rfl,bY.of ag,bY.of (s9 _ _ (KW _ _ g1)),(by show 1+4<=sizeLine;decide),λ tq Ii FH XG=>?_⟩
    have PU:=FH _ _ (s9 _ _ KB)
    have t:aT K Ii (upd Ii D2 (.lst (J++[.ref tq]))):=bV PU rfl
    have Gi:=s9.trans FH
    refine ⟨PU,aas la (by decide),(s8.trans Gi).put io,ag,?_,_,rfl⟩
    rw [bS ec,aai]
    refine Refs.snoc (tX.imp λ p a h=>(h.same Gi).ts t) ?_
    exact ⟨tc,Qi,vx,t _ _ XG,t _ _ ((s8.trans Gi).tup Tl),t _ _ ((KW.trans Gi).tup (bY.of g2)),t _ _ ((KW.trans Gi).tup (bY.of g3))⟩
   .
    rintro J g l ⟨s8,KB,tX,v,rfl⟩
    rw [xa.length,aaB] at tX
    rw [<- eb] at tX
    have S8:=(s6.trans s7).trans s8
    have LC:=S8 _ _ Iy
    have lx:X.length<=16 * 1296:=by
      rw [yM.length]
      refine aaA (fo (k:=1296) (j3 q4 q3)) ?_
      rw [aaK]
      exact abM 1296 (aaA (Nat.min_le_right _ _) lo)
    have la:J.length<=1296:=by rw [tX.length];exact j3 q4 q3 out
    refine ⟨f,D2,X,J,rfl,rfl,LC,KB,ab4 (aas (show X.length+J.length<=22032 by lia) (by decide)),?_⟩
    have t:aT K l (upd l f (.lst (X++J))):=bV LC rfl
    refine ⟨λ b u h n=>?_,t4.trans (M.trans (S8.ts.trans t)),(((C.less λ b h=>aaj _ h).same S8).write LC (by simp) WQ).more (by lia),⟨_,ag,?_⟩,λ X0 h'=>?_,_,_,_,_,rfl⟩
    . have n':=n
      simp only [aab,aae,aaT,abL] at n'
      rw [aw n'.2]
      exact S8 _ _ (N _ _ (b4 b u h n) (by simp [n'.1]))
    . rw [bS eo,aem,ad5]
      exact Refs.append (yM.imp λ p a h=>(((h.ts M).same S8).ts t)) (tX.imp λ p a h=>h.ts t)
    . rw [bS eo] at h'
      rcases aaz.mp h' with z|z
      . exact Cj X0 z
      . rw [aac.mp z];exact sf
 .
  rintro U H4 ⟨b4,t4,B,⟨X,JW,yM⟩,Cj,v4,v5,v6,v7,rfl⟩
  rw [No,aaB] at yM Cj
  refine ⟨_,rfl,k2 Cj f X H4 R (λ b u h n=>b4 b u (S b u h) ?_) (S.ts.trans t4) ((B.less λ b h=>aaj _ h).more (by rw [No];lia)) JW yM⟩
  simp only [aab,aae,aaT,abL] at n |-
  exact ⟨n,az h R⟩
def nK (T:Txt K mg Ad):hC P w K mg base Ad.cS "meet" 1 ["self","state"] [] (HS P w K Ad.cS):=by
 refine T.yU.fS yc λ Z Z Z Z Z H vs Q E B h=>?_
 obtain ⟨x,p,c,O,R,a,l,g,m,st,L,rfl,u,ok,F,l2,C,so,k⟩:=h
 refine ⟨_,(ai (ku (bB (aK (wH (P:=P) (w:=w) (K:=K) rfl rfl rfl B.Iw) (pv 1) (aU (pv 0) rfl) (by with_unfolding_all rfl)) (ai (bB (aK FQ (aV bH (by rfl) T.eF cK (aa (aU (pv 0) rfl) af)) (aU (pv 0) rfl) (aM _)) (ap cE) aJ)
     (ai (Cn (P:=P) (w:=w) (K:=K) rfl rfl rfl B.Iw (aU (pv 0) rfl) (pv 1) (aV bH (by rfl) T.eF cK (aa (aU (pv 0) rfl) af)) rfl)
     (ap (bC (im aaF aaM aaL cA (aU (pv 0) rfl) (aa (pv 1) af)))))) aJ))
     (ap (aH (o9 (P:=P) (w:=w) (K:=K) rfl rfl rfl B.Iw (aU (pv 0) rfl) (pv 1) (λ Z Z=>rfl))))),?_⟩
 try dsimp only [eS,bj]
 obtain ⟨⟨d,b⟩,⟨v,i,D⟩,Z,Z,⟨A,f,hl,r⟩,Z,Z,Z⟩:=id u
 have n:=g8 C
 refine ⟨λ o q=>(E3 λ j G J=>A9 (gG [c,a] H q) (aT K H q) (eB P w K Ad.cS L q x c O R a l G) (vf g G) (gy m G) (G.met[j]?=some st) (iB P w K q a J) (iw J (ma st)=some (aq j)) (G=g\/G=g.add st))/\o=[some (.ref x),some (.ref p)],?_,?_⟩
 .
  refine ⟨_,rfl,_,rfl,x,_,d,_,_,rfl,b,T.ca,T.gA,rfl,a,p,A,ma st,rfl,rfl,f,n,_,rfl,?_⟩
  by_cases Y:st∈g.met
  . obtain ⟨j,e⟩:=acu.mp Y
    rw [r.1 j st e]
    exact fe ⟨⟨j,g,A,λ Z Z h Z=>h,aT.refl _,u,vf.refl g,ok,e,f,r.1 j st e,.inl rfl⟩,rfl⟩
  .
   rw [r.2 st Y]
   have s:=ok.add so Y
   have ll:((g.met++[st]).length:Int)<=l:=F _ s.nd s.st
   rw [aaf,aaD] at ll
   have lv:=D.length
   refine gn ⟨_,rfl,x,_,d,_,_,rfl,b,T.ca,T.ft,rfl,c,v,rfl,.inl (aX.of i),λ y ey=>⟨_,rfl,x,_,d,_,_,rfl,b,T.ca,T.nv,rfl,_,_,rfl,rfl,_,rfl,eM (λ h=>?_) (λ h=>?_)⟩⟩
   . exfalso;lia
   refine ⟨_,rfl,x,_,d,_,_,rfl,b,T.ca,T.ft,rfl,c,v,rfl,.inl (aX.of i),λ y2 Qu=>?_⟩
   obtain rfl:y2=((g.met.length:Nat):Int):=by rw [Qu,lv]
   refine ⟨_,rfl,x,_,d,_,_,rfl,b,T.ca,T.gA,rfl,_,rfl,a,p,A,ma st,rfl,rfl,f,n,aas (show A.length<=2000 by lia) (by decide),?_⟩
   obtain ⟨M,b1,t1⟩:=u.add i D f hl r C Y
   have nm:c≠a:=λ z=>by rw [z,f.ob] at i;cases i
   have nx:x≠a:=λ z=>by rw [z,f.ob] at b;cases b
   have I:(upd H a (kU P w a (fM A (ma st) p (aq g.met.length)))) c=some (.lst v):=by rw [aw nm];exact i
   have uu:(upd H a (kU P w a (fM A (ma st) p (aq g.met.length)))) x=some (.ins Ad.cS d (NR c O R a l)):=by rw [aw nx];exact b
   obtain ⟨U,t,Z,wR⟩:=M.pls
   have e:(g.add st).met[g.met.length]?=some st:=aa1
   exact ⟨_,rfl,x,_,d,_,_,rfl,uu,T.ca,T.ft,rfl,.inl ⟨rfl,_,aX.of I⟩,_,rfl,c,v,_,rfl,rfl,I,aas (show v.length<=2000 by lia) (by decide),⟨g.met.length,g.add st,U,b1,t1,M,vf.add g st,s,e,t,wR.1 _ _ e,.inr rfl⟩,rfl⟩
 . rintro o V ⟨⟨j,G,J,b2,S,N,gx,X,e,t,ev,wh⟩,rfl⟩
   obtain ⟨vX,W⟩:=N.ins
   exact ⟨_,rfl,x,_,vX,_,_,rfl,W,T.ca,T.gA,rfl,_,rfl,a,p,J,ma st,aq j,rfl,rfl,t,g8 (C.ts S),ev,k j G V b2 S N gx X e wh⟩
def oU (T:Txt K mg Ad):hC P w K mg base Ad.cS "meet_all" 2 ["self","states"] [] (BA P w K Ad.cS):=by
 refine T.sO.fS qZ λ Z Z Z Z Z H vs Q E hr h=>?_
 obtain ⟨x,v,I,X,Y,B,t,g,m,L,rfl,hg,ok,S,l2,h⟩:=h
 refine ⟨_,(ap (aH (jQ (aK ji (pv 1) cy (aM _)) cy (fJ ["state"] ["self"] [0] (.cons ⟨rfl,rfl,.inl rfl⟩ .nil) rfl (cf (pv 1)) (λ Z Z Z Z Z=>(k9 (i:=0))) (λ Z Z Z Z Z=>cr) (λ Z Z Z Z Z=>(aW (pv 1) T.ca (nK (P:=P) (w:=w) T) .nil hr.m (aa (pv 0) af))))))),?_⟩
 try dsimp only [eS,bj]
 rcases h with ⟨rfl,k⟩|⟨q,xs,l,rfl,F,nq,yM,M9,ll,k⟩
 . exact ⟨_,rfl,rfl,_,rfl,gn k⟩
 refine ⟨_,rfl,rfl,_,rfl,eM (λ h=>nomatch h) λ Z=>?_⟩
 refine ⟨_,rfl,q,rfl,⟨_,aX.of F⟩,λ D d=>?_⟩
 obtain ⟨⟨dx,hx⟩,⟨vm,hm,Z⟩,⟨vo,ho,Z⟩,⟨vr,LA,Z⟩,⟨aD,hk,Z⟩,Z,Z,Z⟩:=id hg
 have Nq:D≠I:=(az hm d).symm
 have SN:D≠X:=(az ho d).symm
 have RP:D≠Y:=(az LA d).symm
 have Sj:D≠B:=(az hk.ob d).symm
 have UT:q≠B:=λ z=>by rw [z,hk.ob] at F;cases F
 have lx:=yM.length
 have s0:=ak (o:=.lst []) d
 refine cR (K:=K) (a:=q) (xs:=xs) (λ i A c r=>A5 (gG [I,B] H r) (aT K H r) (r D=some (.lst A)) (E2 λ G J=>A5 (eB P w K Ad.cS (D::L) r x I X Y B t G) (vf g G) (gy m G) (A=J.map aq) (Paired (λ j s=>G.met[j]?=some s) J (l.take i))) (∃ v,c=[v,some (.ref x)]))
   ⟨λ b u h Z=>s0 b u h,s0.ts,ag,⟨g,[],(hg.new d).same s0,vf.refl g,ok,rfl,.nil⟩,none,rfl⟩ (λ i A c r Z ⟨b,_,_,_,_⟩=>aX.of (b _ _ F (by simp [nq,UT]))) ?_ ?_
 .
  rintro i y A c H1 hy ⟨O,M,W,⟨U,J,C,N,za,rfl,f⟩,v,rfl⟩
  obtain ⟨p,st,rfl,R,jG⟩:=yM.get hy
  have hi:i<l.length:=(Br.mp R).1
  have lj:J.length<=100000:=by rw [ab2 f,aaK];lia
  obtain ⟨zn,uu⟩:=C.ins
  refine ⟨_,rfl,x,zn,_,rfl,uu,rfl,_,rfl,x,p,I,X,Y,B,t,U,m,st,D::L,rfl,C,za,S,l2,jG.ts M,M9 st (aah R),λ j g2 H2 b2 t2 Nn Z8 HN ej Z=>?_⟩
  have V:=b2 _ _ W (by simp [Nq,Sj])
  refine ⟨V,aas (show (J.map aq).length<=100000 by rw [No];exact lj) (by decide),λ b u h n=>?_,M.trans (t2.trans (bV V rfl)),ag,⟨g2,J++[j],Nn.write V (by simp) Nq SN RP,N.trans Z8,HN,by rw [aai];rfl,?_⟩,_,rfl⟩
  . rw [aw (az h d)]
    exact b2 b u (O b u h n) n
  . rw [bS R]
    exact acN (Paired.yB f λ j s e=>Z8.at e) ej
 . rintro A c H1 ⟨O,M,W,⟨U,J,C,N,za,rfl,f⟩,v,rfl⟩
   rw [lx,aaB] at f
   exact k D J U H1 d O M (C.less λ b h=>aaj _ h) N za W f
def uW (T:Txt K mg Ad):hC P w K mg base Ad.cS "go_on" 10 ["self","hold"] [] (Jx P w K Ad.bw Ad.cS):=by
 refine T.xS.fS hU λ _ _ _ _ _ H vs Q E hr h=>?_
 obtain ⟨x,a,l,f,A,F,L,g0,m,S,rfl,Zc,UE,ba,ab,l2,hm,hh,f1,f2,f3,f4,k⟩:=h
 refine ⟨_,(ai (cL (i:=2) hU.nd (oR T.Hh (oF (P:=P) (w:=w) T) .nil hr.m T.IM (aa (pv 1) af)))
     (ap (oW aaH (aK kS (aV bH (by rfl) T.eF cK (aa (aU (pv 0) rfl) af)) (aV bH (by rfl) T.eF cK (aa (aU (pv 0) rfl) af)) (aM _)) (ai (cL (i:=3) hU.nd (ar ao (aU (pv 0) rfl) (aV bH (by rfl) T.eF cK (aa (aU (pv 0) rfl) af))))
     (ai (cL (i:=4) hU.nd (ay (yw T) hr.m (aa (pv 1) (aa (pv 3) af))))
     (ai (bC (im aaF aaM aaL cA (aU (pv 0) rfl) (aa (pv 4) af)))
     (ap (bC (im aaF aaM aaL cA (aU (pv 0) rfl) (aa (fJ ["order"] ["self","state","reach"] [0,3,2] (.cons ⟨rfl,rfl,.inl rfl⟩ (.cons ⟨rfl,rfl,.inl rfl⟩ (.cons ⟨rfl,rfl,.inl rfl⟩ .nil))) rfl (cf (pv 4)) (λ _ _ _ _ _=>(k9 (i:=0))) (λ _ _ _ _ _=>cr) (λ _ _ _ _ _=>(aW (pv 1) T.ca (oU (P:=P) (w:=w) T) .nil hr.m (aa (aW (pv 3) T.dL (jV (P:=P) (w:=w) T) .nil hr.m (aa (pv 2) (aa (pv 0) af))) af)))) af)))))))))),?_⟩
 try dsimp only [eS,bj]
 refine ⟨_,rfl,λ X KJ OZ ju n=>?_⟩
 have s1:aG H (upd (upd H KJ (.own X)) X (.ins Ad.Reach KJ [])):=(ak ju).trans (ak (by first|(rw [aw n];exact OZ)|(rw [aw n.symm];exact OZ)))
 have uu:(upd (upd H KJ (.own X)) X (.ins Ad.Reach KJ [])) X=some (.ins Ad.Reach KJ []):=ag
 generalize upd (upd H KJ (.own X)) X (.ins Ad.Reach KJ [])=H1 at s1 uu |-
 have lC:∀ {b},H b=none->b∉S:=λ e z=>by
   obtain ⟨u,hu⟩:=hh.some _ z
   rw [e] at hu;cases hu
 refine ⟨X,KJ,a,S,m,rfl,uu,hh.same s1,lC OZ,λ d H2 b2 t2 hd RX=>⟨rfl,?_⟩⟩
 have dn:H d=none:=s1.free hd
 have S2:aG H H2:=λ b u e=>b2 b u (s1 b u e) (by simp only [aac];exact az e OZ)
 obtain ⟨_,⟨b1,NN,_⟩,⟨cc,a4,_⟩,⟨ck,Zv,_⟩,⟨bv,Sy,_⟩,n1,n2,n3⟩:=id Zc
 have ex:∀ {b u},H b=some u->b≠d/\b≠X:=λ e=>⟨az e dn,az e OZ⟩
 obtain ⟨dm,xm⟩:=ex NN
 obtain ⟨bt,xo⟩:=ex a4
 obtain ⟨dr,co⟩:=ex Zv
 obtain ⟨dd,xd⟩:=ex Sy.ob
 refine ⟨λ mz U R=>A4 (gG [l,f,A,F] H R) (aT K H R) (∃ g,A6 (eB P w K Ad.cS [] R x l f A F L g) (gy m g) (g.fI.length=g.rows.length) (∃ B,g.met=g0.met++B) (eG P w K Ad.bw Ad.Reach [l,f,A] R X d a S m (1024 * g.rows.length)) (mz=2000 - g.rows.length)) (E2 λ (v3 v4:eL)=>U=[some (.ref x),some (.ref a),some (.ref X),v3,v4]),
   ⟨_,λ b u h _=>S2 b u h,S2.ts,⟨g0,Zc.same S2,UE,ba,⟨[],(abf _).symm⟩,RX.zero.more (aaZ _),rfl⟩,none,none,rfl⟩,?_⟩
 rintro mz U H3 ⟨b3,t3,⟨g,hg,ok,lo,ah,re,rfl⟩,v3,v4,rfl⟩
 obtain ⟨⟨dx,hx⟩,⟨vm,Hw,Z6⟩,⟨O,Y0,an⟩,⟨vr,So,aF⟩,⟨aD,hk,_⟩,_,_,_⟩:=id hg
 have bb:vr.length=g.rows.length:=by rw [aF.length,No]
 have b0:O.length=g.fI.length:=by rw [an.length,No]
 have bX:=Z6.length
 have bn:(g.met.length:Int)<=L:=ab g.met ok.nd ok.st
 refine ⟨_,rfl,x,_,dx,_,_,rfl,hx,T.ca,T.dM,rfl,A,vr,rfl,.inl (aX.of So),λ y1 e1=>⟨_,rfl,x,_,dx,_,_,rfl,hx,T.ca,T.ft,rfl,l,vm,rfl,.inl (aX.of Hw),λ y2 e2=>⟨_,_,rfl,rfl,_,rfl,eM (λ h=>?_) (λ h=>?_)⟩⟩⟩
 .
  have hi:g.rows.length<g.met.length:=by lia
  refine ⟨λ I R=>A4 (gG [l,f,A,F] H R) (aT K H R) (∃ G,A6 (eB P w K Ad.cS [] R x l f A F L G) (gy m G) (G.fI.length=G.rows.length) (∃ B,G.met=g0.met++B) (eG P w K Ad.bw Ad.Reach [l,f,A] R X d a S m (1024 * G.rows.length)) (G.rows.length=g.rows.length+1)) (E2 λ (v3 v4:eL)=>I=[some (.ref x),some (.ref a),some (.ref X),v3,v4]),
    λ I R ⟨b,t,⟨G,h1,h2,h3,h4,h5,h6⟩,w3,w4,e⟩=>⟨2000 - G.rows.length,by lia,b,t,⟨G,h1,h2,h3,h4,h5,rfl⟩,w3,w4,e⟩,?_⟩
  obtain ⟨p,st,ep,es,jG⟩:=Z6.get (aL (show g.rows.length<vm.length by lia))
  have so:=ok.st st (aah es)
  have Kx:oh vm ((g.rows.length:Nat):Int)=some (.ref p):=fK (by rw [aL (show g.rows.length<vm.length by lia),ep])
  refine ⟨_,rfl,x,_,dx,_,_,rfl,hx,T.ca,T.ft,rfl,_,rfl,x,_,dx,_,_,rfl,hx,T.ca,T.dM,rfl,A,vr,rfl,.inl (aX.of So),λ y3 e3=>⟨l,_,_,_,rfl,rfl,.inl (aX.of Hw),(by rw [e3,bb];exact Kx:oh vm y3=some (.ref p)),?_⟩⟩
  refine ⟨_,rfl,_,rfl,a,S,m,p,st,rfl,re.hold,jG,so,λ q H4 nq s4 hq=>?_⟩
  have Ge:=s4 _ _ Y0
  refine ⟨_,rfl,x,_,dx,_,_,rfl,s4 _ _ hx,T.ca,T.mo,rfl,.inl ⟨rfl,_,aX.of Ge⟩,_,rfl,f,O,_,rfl,rfl,Ge,aas (show O.length<=2000 by lia) (by decide),?_⟩
  have ad:q≠l:=(az Hw nq).symm
  have ae:q≠f:=(az Y0 nq).symm
  have bf:q≠A:=(az So nq).symm
  have Tj:=(hg.same s4).ord Ge hq (by simp [ad,ae,bf])
  have C0:=(re.same s4).write (ys:=O++[.ref q]) Ge (by simp) f2
  have YH:aT K H4 (upd H4 f (.lst (O++[.ref q]))):=bV Ge rfl
  have GW:(upd H4 f (.lst (O++[.ref q]))) q=some (.lst ((st.orders m).map aq)):=by rw [aw ae];exact hq
  have Dy:(upd H4 f (.lst (O++[.ref q]))) A=some (.lst vr):=by rw [aw n3.symm];exact s4 _ _ So
  have b5:gG [l,f,A,F] H (upd H4 f (.lst (O++[.ref q]))):=λ b u h z=>by
    have:=b3 b u h z
    simp only [aab,aae,aaT,abL] at z
    rw [aw z.2.1]
    exact s4 _ _ this
  have T5:aT K H (upd H4 f (.lst (O++[.ref q]))):=t3.trans (s4.ts.trans YH)
  have DY:iR K (upd H4 f (.lst (O++[.ref q]))) p st:=(jG.same s4).ts YH
  have bh:=ok.ord (s:=st) (by rw [lo];exact es)
  have bQ:=uM hm.h4 st
  generalize upd H4 f (.lst (O++[.ref q]))=H5 at Tj C0 GW Dy b5 T5 DY |-
  obtain ⟨⟨Pa,N1⟩,⟨b4,a2,_⟩,⟨cd,a5,_⟩,_,⟨bx,T6,_⟩,_,_,_⟩:=id Tj
  refine ⟨_,rfl,x,_,Pa,_,_,rfl,N1,T.ca,T.dM,rfl,.inl ⟨rfl,_,aX.of Dy⟩,_,rfl,q,rfl,⟨_,aX.of GW⟩,λ D W=>?_⟩
  have UT:q≠d:=λ z=>by
    obtain ⟨bO,a1,_⟩:=C0.Mq
    rw [z,a1.ob] at GW;cases GW
  have be:q≠F:=λ z=>by rw [z,T6.ob] at GW;cases GW
  have Nq:D≠l:=(az a2 W).symm
  have SN:D≠f:=(az a5 W).symm
  have RP:D≠A:=(az Dy W).symm
  have bc:D≠F:=(az T6.ob W).symm
  have Vg:D∉S:=λ z=>by
    obtain ⟨u,hu⟩:=C0.hold.some D z
    rw [W] at hu;cases hu
  obtain ⟨bp,TF,_⟩:=C0.Mq
  have Sj:D≠d:=(az TF.ob W).symm
  have s5:=ak (o:=.lst []) W
  refine cR (K:=K) (a:=q) (xs:=(st.orders m).map aq) (λ j acc I N=>A5 (gG [l,F,d] H5 N) (aT K H5 N) (N D=some (.lst acc)) (E2 λ G r=>A6 (eB P w K Ad.cS [D] N x l f A F L G) (vf (g.ord (st.orders m)) G) (gy m G) (eG P w K Ad.bw Ad.Reach [D,l,f,A] N X d a S m (1024 * g.rows.length+64 * j)) (bL K (cU N ([D]++[l,f,A])) ((r:bU).map ud) acc) (Paired (λ o b=>pQ G.met (jg m st o) b) ((st.orders m).take j) r)) (∃ v,I=[v,some (.ref x),some (.ref p),some (.ref X)]))
    ⟨λ b u h _=>s5 b u h,s5.ts,ag,⟨_,[],(Tj.new W).same s5,vf.refl _,bh,(C0.new W).same s5,dS,.nil⟩,none,rfl⟩ (λ j acc I N _ ⟨b,_,_,_,_⟩=>aX.of (b _ _ GW (by simp [ad,be,UT]))) ?_ ?_
  .
   rintro j y acc I N hy ⟨b6,t6,Jk,⟨J,r,EA,HM,za,Nk,PZ,NF⟩,v,rfl⟩
   obtain ⟨o,eo,rfl⟩:=dH hy
   have ho:=aah eo
   have hj:j<(st.orders m).length:=(Br.mp eo).1
   have Et:acc.length<=16:=by rw [PZ.length,No,<- ab2 NF,aaK];lia
   obtain ⟨aN,RQ⟩:=EA.ins
   obtain ⟨XY,WF⟩:=Nk.ins
   obtain ⟨_,⟨b9,Y6,_⟩,⟨ch,a6,_⟩,⟨cl,a8,_⟩,⟨bI,bu,_⟩,_,_,_⟩:=id EA
   obtain ⟨bm,JJ,_⟩:=Nk.Mq
   have Oy:∀ (Y:V) (b':Option (aS)) (g2:qX) (C:Hp),gG [l,F,d] N C->aT K N C->eB P w K Ad.cS [D] C x l f A F L g2->vf J g2->gy m g2->eG P w K Ad.bw Ad.Reach [D,l,f,A] C X d a S m (1024 * g.rows.length+64 * j+64)->bL K (cU C ([D]++[l,f,A])) (r.map ud) acc->Dn K (cU C ([D]++[l,f,A])) (ud b') Y->pQ g2.met (jg m st o) b' ->
       C D=some (.lst acc)/\acc.length<sizeLine/\(gG [l,F,d] H5 (upd C D (.lst (acc++[Y])))/\aT K H5 (upd C D (.lst (acc++[Y])))/\(upd C D (.lst (acc++[Y]))) D=some (.lst (acc++[Y]))/\(∃ G r,eB P w K Ad.cS [D] (upd C D (.lst (acc++[Y]))) x l f A F L G/\vf (g.ord (st.orders m)) G/\gy m G/\eG P w K Ad.bw Ad.Reach [D,l,f,A] (upd C D (.lst (acc++[Y]))) X d a S m (1024 * g.rows.length+64 * (j+1))/\bL K (cU (upd C D (.lst (acc++[Y]))) ([D]++[l,f,A])) ((r:bU).map ud) (acc++[Y])/\Paired (λ o b=>pQ G.met (jg m st o) b) ((st.orders m).take (j+1)) r)):=by
     intro Y b' g2 C b8 t8 Vs SK Nh Wh M8 al ri
     have KB:=b8 _ _ Jk (by simp [Nq,bc,Sj])
     refine ⟨KB,bo (by lia),λ b u h n=>?_,t6.trans (t8.trans (bV KB rfl)),ag,g2,r++[b'],Vs.write KB (by simp) Nq SN RP,HM.trans SK,Nh,(Wh.write KB (by simp) Vg).more (by lia),?_,?_⟩
     . rw [aw (az h W)]
       exact b8 b u (b6 b u h n) n
     . rw [j5 (by simp),aai]
       exact bL.snoc M8 al
     . rw [bS eo]
       obtain ⟨⟨B,em⟩,_⟩:=SK
       exact acN (Paired.yB NF λ o b q=>by rw [em];exact q.more) ri
   have WA:∀ b∈[D,l,f,A],N b≠none:=by
     intro b hb
     simp only [aab,aae,aaT] at hb
     rcases hb with rfl|rfl|rfl|rfl
     . rw [Jk];exact nofun
     . rw [Y6];exact nofun
     . rw [a6];exact nofun
     . rw [a8];exact nofun
   refine ⟨_,rfl,x,aN,_,rfl,RQ,rfl,_,rfl,X,XY,_,rfl,WF,rfl,_,rfl,_,rfl,X,d,a,S,m,_,p,st,o,[D,l,f,A],rfl,Nk,WA,by lia,DY.ts t6,so,hm.ow ho,hm.tn st o so ho,hm.sp st so,λ hu H7 b7 t7 UP=>?_,λ a9 q2 bk H7 bd b7 t7 UP tw Tt=>?_⟩
   . have LV:=EA.but JJ.ob dd.symm b7 t7
     refine ⟨x,.cC,l,f,A,F,L,J,m,[D],rfl,LV,za,ab,l2,.inl ⟨rfl,?_⟩⟩
     obtain ⟨z1,z2,z3,z4,z5,g9,r9,y1,y2,y3,y4,y5,y6⟩:=Oy .cC none J H7 (λ b u h n=>b7 b u h (by simp only [aab,aae,aaT,abL] at n;simp [n.2.2])) t7 LV (vf.refl J) za UP (bL.wL JJ.ob rfl (Ef b7) PZ) rfl (by rw [GZ hu];trivial)
     exact ⟨z1,z2,z3,z4,z5,⟨g9,r9,y1,y2,y3,y4,y5,y6⟩,_,rfl⟩
   .
    have LV:=EA.but JJ.ob dd.symm b7 t7
    have bs:=Ip (id Nk.hold).5 hm.h4 st o
    refine ⟨x,.ref q2,l,f,A,F,L,J,m,[D],rfl,LV,za,ab,l2,.inr ⟨q2,bk,qA m st o,rfl,tw,(az Y6 bd).symm,Tt,λ s' h'=>hm.nx st o s' so ho h',by lia,λ D2 js g2 C io b8 t8 Vs SK Nh Uu DW=>?_⟩⟩
    obtain ⟨_,⟨cb,a3,_⟩,⟨cj,a7,_⟩,⟨cn,QN,_⟩,⟨bN,Yt,_⟩,_,_,_⟩:=id LV
    have O9:=b7 _ _ Jk (by simp [Sj])
    have Wh:=UP.frame (M:=[l,F]) b8 t8 (by simp [xm.symm,xd.symm]) (by simp [dm.symm,dd.symm]) (λ c hc z=>by
      simp only [aab,aae,aaT] at z
      rcases z with rfl|rfl
      . exact f1 hc
      . exact f4 hc) (λ c hc=>by
      simp only [aab,aae,aaT] at hc
      rcases hc with rfl|rfl
      . exact .inl (by simp)
      . exact .inr λ xs z=>by rw [Yt.ob] at z;cases z)
    have aj:bL K (cU H7 ([D]++[l,f,A])) (r.map ud) acc:=bL.wL JJ.ob rfl (Ef b7) PZ
    have M8:bL K (cU C ([D]++[l,f,A])) (r.map ud) acc:=bL.wL Yt.ob rfl (λ c u e n1 n2=>b8 c u e (by
      simp only [adB,ada,aab,aae,aaT,abL] at n2 |-
      exact ⟨n2.2.1,n1⟩)) aj
    obtain ⟨z1,z2,z3,z4,z5,g9,r9,y1,y2,y3,y4,y5,y6⟩:=Oy (.ref D2) (some js) g2 C (λ b u h n=>by
      simp only [aab,aae,aaT,abL] at n
      exact b8 b u (b7 b u h (by simp [n.2.2])) (by simp [n.1,n.2.1])) (t7.trans t8) Vs SK Nh Wh M8 (Dk (aX.of (iz Uu (by
      simp only [adB,ada,aab,aae,aaT,abL]
      exact ⟨(az O9 io).symm,(az a3 io).symm,(az a7 io).symm,(az QN io).symm⟩)))) (by rw [GX a9];exact DW)
    exact ⟨z1,z2,z3,z4,z5,⟨g9,r9,y1,y2,y3,y4,y5,y6⟩,_,rfl⟩
  .
   rintro acc I N ⟨b6,t6,Jk,⟨J,r,EA,HM,za,Nk,PZ,NF⟩,v,rfl⟩
   rw [No,aaB] at NF
   have Ik:=b6 _ _ Dy (by
     simp only [aab,aae,aaT,abL]
     exact ⟨n2.symm,(λ z=>by rw [z,T6.ob] at Dy;cases Dy),dr⟩)
   have er:J.rows=g.rows:=HM.rows
   have eo:J.fI=g.fI++[st.orders m]:=HM.fI
   have Up:bL K (cU N ([]++[l,f,A])) (r.map ud) acc:=bL.same (λ b u e=>by
     unfold cU at e |-
     split at e
     . cases e
     . rename_i z
       rw [aax (show b∉[]++[l,f,A] from λ y=>z (aaz.mpr (.inr y)))]
       exact e) _ PZ
   have LV:=(EA.less (L':=[]) λ b h=>absurd h aae).row Ik Jk (by simp [Nq,SN,RP]) Up
   have bi:=za.row (s:=st) (r:=r) (by rw [er];exact HM.at (show (g.ord (st.orders m)).met[g.rows.length]?=some st from es)) NF
   refine ⟨A,vr,_,rfl,rfl,Ik,aas (show vr.length<=2000 by lia) (by decide),λ b u h z=>?_,T5.trans (t6.trans (bV Ik rfl)),⟨J.row r,LV,bi,?_,?_,?_,?_⟩,_,_,rfl⟩
   . have:=b5 b u h z
     simp only [aab,aae,aaT,abL] at z
     rw [aw z.2.2.1]
     exact b6 _ _ this (by simp only [aab,aae,aaT,abL];exact ⟨z.1,z.2.2.2,az h dn⟩)
   . show J.fI.length=(J.rows++[r]).length
     rw [eo,er,aaf,aaf,lo]
     rfl
   . obtain ⟨⟨B,em⟩,_⟩:=HM
     obtain ⟨QB,a0⟩:=ah
     exact ⟨QB++B,by show J.met=_;rw [em];show g.met++B=_;rw [a0,ab9]⟩
   . refine ((Nk.less λ b h=>aaj _ h).write Ik (by simp) f3).more ?_
     show _<=1024 * (J.rows++[r]).length
     rw [er,aaf,aaD,No]
     lia
   . show (J.rows++[r]).length=_
     rw [er,aaf];rfl
 . exact k g H3 b3 t3 hg ok lo (by have:=ok.lr;lia) ah
def ph (T:Txt K mg Ad):hC P w K mg base Ad.cS "__init__" 11 ["self","hold","states","limit"] [] (Hq P w K Ad.bw Ad.cS):=by
 refine T.sR.fS g7 λ Z Z Z Z Z H vs Q E hr h=>?_
 obtain ⟨x,D,a,q,L,fp,m,xs,l,rfl,hx,hh,nx,hm,G,l2,C,yM,M9,k⟩:=h
 refine ⟨_,(ai (c6 aaH rfl (cf (pv 2)) (ij (i:=4) g7.nd) (ap (bC (ay (jN T) hr.m (aa (pv 1) (aa (pv 4) af))))))
     (ai (dh (pv 0) (bG af) rfl)
     (ai (dh (pv 0) (bG af) rfl)
     (ai (dh (pv 0) (bG af) rfl)
     (ai (dh (pv 0) (C8 (P:=P) (w:=w) rfl rfl) rfl)
     (ai (dh (pv 0) (pv 3) rfl)
     (ai (c6 aaH rfl (cf (pv 2)) (ij (i:=4) g7.nd) (ap (bC (aW (pv 0) T.ca (nK (P:=P) (w:=w) T) .nil hr.m (aa (pv 4) af)))))
     (ap (bC (aW (pv 0) T.ca (uW (P:=P) (w:=w) T) .nil hr.m (aa (pv 1) af))))))))))),?_⟩
 try dsimp only [eS,bj]
 try (refine Al ?_;intro Z Z Z Z Z Z Z Z Z)
 have lx:=yM.length
 refine ⟨_,rfl,q,rfl,⟨_,aX.of C⟩,?_⟩
 refine hJ (K:=K) (a:=q) (xs:=xs) (λ i U A=>aG H A/\∃ (v:eL),U=[some (.ref x),some (.ref a),some (.ref q),some (.int L),v]) ⟨aG.refl _,none,rfl⟩ (λ i U A Z ⟨S,_⟩=>aX.of (S _ _ C)) ?_ ?_
 . rintro Z i v U y hv ⟨S,v4,rfl⟩
   obtain ⟨p,N,rfl,B,jG⟩:=yM.get hv
   exact ⟨_,rfl,_,rfl,a,fp,m,p,N,rfl,hh.same S,jG.same S,M9 N (aah B),λ X s2=>⟨S.trans s2,_,rfl⟩⟩
 rintro U y ⟨S,v4,rfl⟩
 have B0:jw K Ad.cS x D y y []:=.start (S _ _ hx)
 refine ⟨E6,λ c gH=>?_⟩
 have B1:=B0.new (o:=.lst []) gH
 refine ⟨_,rfl,x,_,D,_,rfl,B1.at_,T.ca,T.ft,lt1000 rfl,?_⟩
 have O:=B1.put (fs':=aQ "met" (.ref c) [])
 have RG:=B0.ne gH
 have Ls:(upd (upd y c (.lst [])) x (.ins Ad.cS D (aQ "met" (.ref c) []))) c=some (.lst []):=by rw [aw RG];exact ag
 have mn:y c=none:=gH
 generalize upd (upd y c (.lst [])) x (.ins Ad.cS D (aQ "met" (.ref c) []))=X at O Ls |-
 refine ⟨E6,λ d SG=>?_⟩
 have B3:=O.new (o:=.lst []) SG
 refine ⟨_,rfl,x,_,D,_,rfl,B3.at_,T.ca,T.mo,lt1000 rfl,?_⟩
 have R:=B3.put (fs':=aQ "orders" (.ref d) (aQ "met" (.ref c) []))
 have Ui:=O.ne SG
 have on:y d=none:=O.none SG
 have YA:c≠d:=az Ls SG
 have MP:(upd (upd X d (.lst [])) x (.ins Ad.cS D (aQ "orders" (.ref d) (aQ "met" (.ref c) [])))) d=some (.lst []):=by rw [aw Ui];exact ag
 have La:(upd (upd X d (.lst [])) x (.ins Ad.cS D (aQ "orders" (.ref d) (aQ "met" (.ref c) [])))) c=some (.lst []):=by rw [aw RG,aw YA];exact Ls
 generalize upd (upd X d (.lst [])) x (.ins Ad.cS D (aQ "orders" (.ref d) (aQ "met" (.ref c) [])))=Y at R MP La |-
 refine ⟨E6,λ f J=>?_⟩
 have B5:=R.new (o:=.lst []) J
 refine ⟨_,rfl,x,_,D,_,rfl,B5.at_,T.ca,T.dM,lt1000 rfl,?_⟩
 have V:=B5.put (fs':=aQ "rows" (.ref f) (aQ "orders" (.ref d) (aQ "met" (.ref c) [])))
 have Zk:=R.ne J
 have rn:y f=none:=R.none J
 have ZF:c≠f:=az La J
 have Z7:d≠f:=az MP J
 have Oz:(upd (upd Y f (.lst [])) x (.ins Ad.cS D (aQ "rows" (.ref f) (aQ "orders" (.ref d) (aQ "met" (.ref c) []))))) f=some (.lst []):=by rw [aw Zk];exact ag
 have Ph:(upd (upd Y f (.lst [])) x (.ins Ad.cS D (aQ "rows" (.ref f) (aQ "orders" (.ref d) (aQ "met" (.ref c) []))))) d=some (.lst []):=by rw [aw Ui,aw Z7];exact MP
 have NE:(upd (upd Y f (.lst [])) x (.ins Ad.cS D (aQ "rows" (.ref f) (aQ "orders" (.ref d) (aQ "met" (.ref c) []))))) c=some (.lst []):=by rw [aw RG,aw ZF];exact La
 generalize upd (upd Y f (.lst [])) x (.ins Ad.cS D (aQ "rows" (.ref f) (aQ "orders" (.ref d) (aQ "met" (.ref c) []))))=H6 at V Oz Ph NE |-
 refine λ t SB=>?_
 have B7:=V.new (o:=kU P w t []) SB
 refine ⟨_,rfl,x,_,D,_,rfl,B7.at_,T.ca,T.gA,lt1000 rfl,?_⟩
 have B8:=B7.put (fs':=aQ "places" (.ref t) (aQ "rows" (.ref f) (aQ "orders" (.ref d) (aQ "met" (.ref c) []))))
 have RW:=V.ne SB
 have dn:y t=none:=V.none SB
 refine ⟨_,rfl,_,rfl,x,_,D,_,rfl,B8.at_,T.ca,T.nv,lt1000 rfl,?_⟩
 have W:=B8.put (fs':=aQ "limit" (.int L) (aQ "places" (.ref t) (aQ "rows" (.ref f) (aQ "orders" (.ref d) (aQ "met" (.ref c) [])))))
 have kp:∀ {b o o1 o2 o3},H6 b=some o->b≠x->(upd (upd (upd H6 t o1) x o2) x o3) b=some o:=λ e n=>by rw [aw n,aw n,aw (az e SB)];exact e
 have VA:(upd (upd (upd H6 t (kU P w t [])) x (.ins Ad.cS D (aQ "places" (.ref t) (aQ "rows" (.ref f) (aQ "orders" (.ref d) (aQ "met" (.ref c) [])))))) x (.ins Ad.cS D (aQ "limit" (.int L) (aQ "places" (.ref t) (aQ "rows" (.ref f) (aQ "orders" (.ref d) (aQ "met" (.ref c) []))))))) t=some (kU P w t []):=by rw [aw RW,aw RW];exact ag
 have g9:eB P w K Ad.cS [] _ x c d f t L ⟨[],[],[]⟩:=⟨⟨D,W.at_⟩,⟨[],kp NE RG,Refs.nil⟩,⟨[],kp Ph Ui,dS⟩,⟨[],kp Oz Zk,dS⟩,⟨[],iB.nil VA,aak _,Af.nil⟩,YA,ZF,Z7⟩
 generalize upd (upd (upd H6 t (kU P w t [])) x (.ins Ad.cS D (aQ "places" (.ref t) (aQ "rows" (.ref f) (aQ "orders" (.ref d) (aQ "met" (.ref c) [])))))) x (.ins Ad.cS D (aQ "limit" (.int L) (aQ "places" (.ref t) (aQ "rows" (.ref f) (aQ "orders" (.ref d) (aQ "met" (.ref c) []))))))=H9 at W g9 |-
 have b9:gG [x] H H9:=λ b u e n=>W.st b u (S b u e) λ z=>n (aac.mpr z)
 have T9:aT K H H9:=S.ts.trans W.ts
 have Yx:q∉[x]:=λ z=>by rw [aac.mp z,hx] at C;cases C
 have fr:∀ b∈[c,d,f,t],H b=none:=by
   intro b hb
   simp only [aab,aae,aaT] at hb
   rcases hb with rfl|rfl|rfl|rfl
   . exact S.free mn
   . exact S.free on
   . exact S.free rn
   . exact S.free dn
 have ex:∀ {b u},H b=some u->b∉[x]->b∉[c,d,f,t]:=λ e Z z=>by rw [fr _ z] at e;cases e
 refine ⟨_,rfl,q,rfl,⟨_,aX.of (b9 _ _ C Yx)⟩,?_⟩
 refine hJ (K:=K) (a:=q) (xs:=xs) (λ i U A=>A4 (gG [x] H A) (aT K H A) (∃ g,A7 (eB P w K Ad.cS [] A x c d f t L g) (gy m g) (g.fI=[]) (g.rows=[]) (∀ s∈l.take i,s∈g.met) (∀ s r,l=s::r->0<i->g.met[0]?=some s) (i=0->g.met=[])) (∃ (v:eL),U=[some (.ref x),some (.ref a),some (.ref q),some (.int L),v]))
   ⟨b9,T9,⟨_,g9,⟨acs,aak _,aak _,λ Z h=>absurd h aae,λ i s o e=>by simp at e,λ i s o e=>by simp at e⟩,rfl,rfl,λ s h=>absurd h (by simp),λ Z Z Z h=>absurd h (abG _),λ Z=>rfl⟩,_,rfl⟩ (λ i U A Z ⟨b,_,_,_⟩=>aX.of (b _ _ C Yx)) ?_ ?_
 .
  rintro Z i v U Ii hv ⟨Ke,F,⟨g,I,ok,o0,r0,yI,hz,U2⟩,v5,rfl⟩
  obtain ⟨p,N,rfl,B,jG⟩:=yM.get hv
  obtain ⟨L7,ML⟩:=I.ins
  refine ⟨_,rfl,x,L7,_,rfl,ML,rfl,_,rfl,x,p,c,d,f,t,L,g,m,N,[],rfl,I,ok,G,l2,jG.ts F,M9 N (aah B),λ j g' Hy HG KS KR gx xD ej wh=>⟨λ b u e n=>HG b u (Ke b u e n) (λ z=>ex e n (by
    simp only [aab,aae,aaT] at z |-
    rcases z with z|z
    . exact .inl z
    . exact .inr (.inr (.inr z)))),F.trans KS,⟨g',KR,xD,gx.fI.trans o0,gx.rows.trans r0,λ s hs=>?_,λ s r e Z=>?_,λ e=>absurd e (acX _)⟩,_,rfl⟩⟩
  .
   rw [bS B] at hs
   rcases aaz.mp hs with z|z
   . obtain ⟨⟨M,em⟩,Z⟩:=gx
     rw [em]
     exact aa4 _ (yI s z)
   . rw [aac.mp z];exact aah ej
  .
   by_cases h0:0<i
   . exact gx.at (hz s r e h0)
   .
    obtain rfl:i=0:=by lia
    rw [e] at B
    cases B
    rcases wh with rfl|rfl
    . rw [U2 rfl] at ej;simp at ej
    . show (g.met++_)[0]?=_
      rw [U2 rfl];rfl
 .
  rintro U Ii ⟨Ke,F,⟨g,I,ok,o0,r0,yI,hz,U2⟩,v5,rfl⟩
  rw [lx,aaB] at yI
  obtain ⟨L7,ML⟩:=I.ins
  have nf:∀ {b},b∈[c,d,f,t]->b∉fp:=λ hb z=>by
    obtain ⟨u,hu⟩:=hh.some _ z
    rw [fr _ hb] at hu;cases hu
  refine ⟨_,rfl,x,L7,_,rfl,ML,rfl,_,rfl,x,a,c,d,f,t,L,g,m,fp,rfl,I,ok,by rw [o0,r0];rfl,G,l2,hm,hh.JL (λ b u e n=>Ke b u e λ z=>n (aac.mp z)) F nx,nf (by simp),nf (by simp),nf (by simp),nf (by simp),λ g' Hy HG KS KR xD Um Tp ⟨M,em⟩=>?_⟩
  refine k c d f t g' Hy (λ b u e n=>HG b u (Ke b u e n) (ex e n)) (F.trans KS) fr KR xD Um Tp (λ s hs=>by rw [em];exact aa4 _ (yI s hs)) λ s r e=>?_
  have:=hz s r e (by rw [lx,e];exact ad8 _)
  rw [em,aan (Br.mp this).1]
  exact this
def nF (T:Txt K mg Ad):hC P w K mg base Ad.dk "end" 1 ["self","place","number","lasting"] [] (Lq Ad.dk):=by
 refine T.zp.fS yh λ Z Z Z Z Z H vs Q E hr h=>?_
 obtain ⟨x,A,d,i,m,q,S,p,c,t,n,l,rfl,a,y,hc,en,n0,hp,hz,k⟩:=h
 refine ⟨_,(ai (iW (pv 3) (xR (ar ao (aU (pv 0) rfl) (pv 1)) (pv 2) set_list))
     (ai (JI (aU (pv 0) rfl) (pv 1) Hj ac K7 set_list)
     (ap (bB (aK cP (ar ao (aU (pv 0) rfl) (pv 1)) ac (aM _)) (ai (iW (ax aO (pv 3) ac) (xR (aU (pv 0) rfl) (pv 1) set_list))
     (ap (bC (im aaF aaM aaL cA (aU (pv 0) rfl) (aa (pv 1) af))))) aJ)))),?_⟩
 try dsimp only [eS,bj]
 try (refine dQ ?_;intro Z Z Z Z)
 obtain ⟨F,g⟩:=a.ins
 have gc:p<q.length:=by rw [a.len];exact (Br.mp y).1
 have j:q[p]?=some q[p]:=RS gc
 have C:=a.CM p _ l j y
 have M:=a.nd
 simp only [aaS,aab,abL] at M
 obtain ⟨⟨a1,a2,a3,a4⟩,⟨b1,b2,X⟩,⟨c1,c2⟩,d1,Z⟩:=M
 have Y:=aah j
 have J:(S.di.map aq)[p]?=some (aq n):=by rw [Zj,en];rfl
 have I:p<(S.di.map aq).length:=(Br.mp J).1
 refine ⟨_,rfl,_,rfl,x,_,F,_,_,rfl,g,T.cz,T.i6,rfl,_,rfl,A,_,_,_,rfl,rfl,.inl (aX.of a.XV),cm (by rw [Zj,j];rfl),_,rfl,q[p],_,_,c,rfl,rfl,C,?_,?_⟩
 . exact pL (by rw [No];exact hc)
 have L:d≠q[p]:=λ z=>X (z ▸ Y)
 have xq:x≠q[p]:=λ z=>by rw [z,C] at g;cases g
 have xg:x≠d:=λ z=>by rw [z,a.QS] at g;cases g
 refine ⟨_,rfl,x,_,F,_,_,rfl,(aw xq).trans g,T.cz,T.gw,rfl,_,rfl,d,_,p,_,rfl,rfl,aX.of ((aw L).trans a.QS),J,_,_,rfl,rfl,d,_,_,p,rfl,rfl,(aw L).trans a.QS,pL I,?_⟩
 have f:=a.fin (c:=c) (t:=t) (n:=n) j y
 have ez:(V.int ((n:Int) - 1))=aq (n - 1):=by
   show V.int _=V.int _
   rw [show ((n:Int) - 1)=((n - 1:Nat):Int) by lia]
 rw [ez]
 have s:gG (A::d::i::m::q) H (upd (upd H q[p] (.lst ((l.map jX).set c (aq t)))) d (.lst ((S.di.map aq).set p (aq (n - 1))))):=λ b u e N=>by
   simp only [aab,abL] at N
   rw [aw N.2.1,aw (λ z=>N.2.2.2.2 (by rw [z];exact Y))]
   exact e
 generalize upd (upd H q[p] (.lst ((l.map jX).set c (aq t)))) d (.lst ((S.di.map aq).set p (aq (n - 1))))=D at f s |-
 obtain ⟨B,U⟩:=f.ins
 have v:((S.di.set p (n - 1)).map aq)[p]?=some (aq (n - 1)):=by
   rw [Zj,cY.mpr (.inl ⟨rfl,by rw [No] at I;exact I,rfl⟩)];rfl
 refine ⟨_,rfl,x,_,B,_,_,rfl,U,T.cz,T.gw,rfl,_,rfl,d,_,_,_,rfl,rfl,.inl (aX.of f.QS),cm v,?_⟩
 refine ⟨rfl,_,rfl,?_⟩
 by_cases G:n=1
 .
  rw [show decide (aq (n - 1)=V.int 0)=true from aaG (by rw [G];rfl)]
  have R:p<(S.bN.map jX).length:=by rw [No];exact hp
  have xk:x≠i:=λ z=>by rw [z,f.Rh] at U;cases U
  have h2:=f.Xv (p:=p) (t:=t)
  have W:gG (A::d::i::m::q) H (upd (upd D i (.lst ((S.bN.map jX).set p (aq (t+1))))) m (.lst (S.queue.map aq++[aq p]))):=λ b u e N=>by
    have:=s b u e N
    simp only [aab,abL] at N
    rw [aw N.2.2.2.1,aw N.2.2.1]
    exact this
  refine gn ⟨_,rfl,_,_,rfl,rfl,λ r er=>?_⟩
  obtain rfl:r=((t+1:Nat):Int):=er
  refine ⟨_,rfl,x,_,B,_,_,rfl,U,T.cz,T.fC,rfl,_,rfl,i,_,_,p,rfl,rfl,f.Rh,pL R,?_⟩
  have O:=(aw (o:=.lst ((S.bN.map jX).set p (aq (t+1)))) (λ z=>c1 z.symm)).trans f.Sw
  refine ⟨_,rfl,x,_,B,_,_,rfl,(aw xk).trans U,T.cz,T.gB,rfl,.inl ⟨rfl,_,aX.of O⟩,_,rfl,m,_,_,rfl,rfl,O,aas (show (S.queue.map aq).length<=10000 by rw [No];exact hz) (by decide),k _ W ?_⟩
  unfold jI.fin
  rw [aau G,aau G]
  exact h2
 .
  rw [show decide (aq (n - 1)=V.int 0)=false from aap (λ z=>G (by have:=V.int.inj z;lia))]
  refine fe (k D s ?_)
  unfold jI.fin
  rw [aax G,aax G]
  exact f
def oV (T:Txt K mg Ad):hC P w K mg base Ad.dk "go_back" 2 ["self","ahead"] [] (Ew K Ad.dk):=by
 refine T.sx.fS db λ Z Z Z Z Z H vs Q E hr h=>?_
 obtain ⟨x,D,I,C,u,B,S0,pa,ah,rows,rfl,Sy,UE,aF,aj,Nw,lr,k⟩:=h
 refine ⟨_,(ai (cL (i:=2) db.nd ac)
     (ap (oW aaH (aK kS (pv 2) (aV bH (by rfl) T.eF cK (aa (aU (pv 0) rfl) af)) (aM _)) (ai (cL (i:=3) db.nd (ar ao (aU (pv 0) rfl) (pv 2)))
     (ai (c6 aaH rfl (cf (ar ao (pv 1) (pv 3))) (cW (K:=K) (n:=2) rfl rfl (aP (ij (i:=4) db.nd) (aP (ij (i:=5) db.nd) cZ))) (ap (bB (aK ji (ar ao (ar ao (aU (pv 0) rfl) (pv 4)) (pv 5)) cy (aM _)) (ap (bC (aW (pv 0) T.cz (nF (P:=P) (w:=w) T) .nil hr.m (aa (pv 4) (aa (pv 5) (aa (ar ao (aU (pv 0) rfl) (pv 3)) af)))))) aJ)))
     (ap (Le (i:=2) db.nd rfl (lc rfl) ac Mn))))))),?_⟩
 try dsimp only [eS,bj]
 refine ⟨λ mz U f=>(E3 λ S F d=>A8 (gG (Fk D I C u B) H f) (ig Ad.dk f x D I C u B S) (ic rows S F) (fL rows S) (∀ i j,i<d->S.queue[i]?=some j->xn rows S j) (∀ i j k,d<=i->S.queue[i]?=some j->S.bN[j]?=some (some k)->F<=k) (mz=2000 - d) (E3 λ (v3 W Y:eL)=>U=[some (.ref x),some (.ref pa),some (aq d),v3,W,Y])),
   ⟨_,S0,0,0,λ Z Z h Z=>h,Sy,UE,aF,λ i j h=>absurd h (abk _),λ Z Z Z Z Z Z=>aaZ _,rfl,none,none,none,rfl⟩,?_⟩
 rintro mz U H1 ⟨S,F,d,b1,V,ok,nd,gd,lo,rfl,v3,W,Y,rfl⟩
 obtain ⟨dx,hx⟩:=V.ins
 have ql:=ok.ql
 refine ⟨_,rfl,_,rfl,x,_,dx,_,_,rfl,hx,T.cz,T.gB,rfl,u,_,rfl,.inl (aX.of V.Sw),λ y ey=>⟨_,_,rfl,rfl,_,rfl,eM (λ h=>?_) (λ h=>?_)⟩⟩
 .
  rw [No] at ey
  have hi:d<S.queue.length:=by lia
  have R:S.queue[d]?=some S.queue[d]:=RS hi
  generalize S.queue[d]=j at R
  obtain ⟨kk,ek⟩:=(ok.qu j).mp (aah R)
  have za:=ok.up (lo d j kk (aak _) R ek)
  have hj:j<ah.length:=by rw [Nw.1,<- ok.lk];exact (Br.mp ek).1
  have ea:ah[j]?=some ah[j]:=RS hj
  generalize ah[j]=l at ea
  refine ⟨λ ae f=>∃ s,A6 (gG (Fk D I C u B) H f) (ig Ad.dk f x D I C u B s) (ic rows s kk) (AH S s) (xn rows s j) (E3 λ (v3 W Y:eL)=>ae=[some (.ref x),some (.ref pa),some (aq (d+1)),v3,W,Y]),
    λ ae f ⟨s,b',KI,KG,X,gj,w3,w4,w5,e⟩=>⟨2000 - (d+1),by lia,s,kk,d+1,b',KI,KG,nd.more X,λ i a hi e=>?_,λ i a k hi e N=>?_,rfl,w3,w4,w5,e⟩,?_⟩
  .
   by_cases q:i=d
   . rw [q,X.at R] at e
     cases e
     exact gj
   . have hq:i<S.queue.length:=by lia
     have G:=X.at (RS hq)
     rw [e] at G
     cases G
     exact (gd i _ (by lia) (RS hq)).more X
  .
   obtain ⟨i1,O⟩:=Br.mp (X.at R)
   obtain ⟨i2,G⟩:=Br.mp e
   have:=List.pairwise_iff_getElem.mp KG.Vj d i i1 i2 (by lia)
   rw [O,G] at this
   exact this kk k (X.rk _ _ ek) N
  obtain ⟨va,SE,a0,ad⟩:=aj.but b1 (Dq Sy.tJ b1)
  obtain ⟨q,wr⟩:∃ q,va[j]?=some (.ref q)/\q∉Fk D I C u B/\∃ vs,H1 q=some (.lst vs)/\Refs (λ b (pc:Nat×Nat)=>bY K H1 b [aq pc.1,aq pc.2]) vs l:=by
    have hv:j<va.length:=by rw [ad.length];exact hj
    obtain ⟨q,l',eq,o,z⟩:=ad.get (RS hv)
    rw [ea] at o
    cases o
    exact ⟨q,by rw [RS hv,eq],z⟩
  obtain ⟨eq,nq,vs,hq,Yp⟩:=wr
  refine ⟨_,rfl,x,_,dx,_,_,rfl,hx,T.cz,T.gB,rfl,_,rfl,u,_,_,_,rfl,rfl,.inl (aX.of V.Sw),cm (by rw [Zj,R];rfl),?_⟩
  refine ⟨_,rfl,_,rfl,pa,_,_,_,rfl,rfl,.inl (aX.of SE),cm eq,q,rfl,⟨_,aX.of hq⟩,?_⟩
  refine hJ (K:=K) (a:=q) (xs:=vs) (λ i U f=>∃ s,A7 (gG (Fk D I C u B) H f) (gG (Fk D I C u B) H1 f) (ig Ad.dk f x D I C u B s) (ic rows s kk) (AH S s) (∀ p c,(p,c)∈l.take i->∃ t L,s.bO[p]?=some L/\L[c]?=some (some t)) (E2 λ (W Y:eL)=>U=[some (.ref x),some (.ref pa),some (aq d),some (aq j),W,Y])) ⟨S,b1,λ Z Z h Z=>h,V,za,AH.refl S,λ p c h=>by simp at h,_,_,rfl⟩ (λ i U f Z ⟨_,_,b,_,_,_,_,_⟩=>aX.of (b _ _ hq nq)) ?_ ?_
  .
   rintro Z i v U H2 hv ⟨g,b2,Kw,J,A,X,tk,w4,w5,rfl⟩
   obtain ⟨b,⟨p,c⟩,rfl,es,an⟩:=Yp.get hv
   obtain ⟨r,js,N,ec,DW⟩:=(Nw.2 j l p c ea).mp (aah es)
   have hp:p<rows.length:=(Br.mp N).1
   have BE:p<g.bO.length:=by rw [A.ll];exact hp
   have wR:p<g.di.length:=by rw [A.lg];exact hp
   have Bl:p<B.length:=by rw [J.len];exact BE
   have o:=RS BE
   have eg:=RS wR
   have ab:=RS Bl
   have hc:c<g.bO[p].length:=by rw [A.sh p _ _ o N];exact (Br.mp ec).1
   have M:=RS hc
   have yI:=J.CM p _ _ ab o
   obtain ⟨zn,uu⟩:=J.ins
   have T2:aT K H1 H2:=Dq V.tJ Kw
   refine ⟨b,_,rfl,T2 _ _ an,rfl,_,_,rfl,_,_,rfl,rfl,?_⟩
   refine ⟨_,rfl,x,_,zn,_,_,rfl,uu,T.cz,T.i6,rfl,_,rfl,D,_,_,_,rfl,rfl,.inl (aX.of J.XV),cm (by rw [Zj,ab];rfl),_,rfl,B[p],_,_,_,rfl,rfl,.inl (aX.of yI),cm (by rw [Zj,M];rfl),rfl,_,rfl,?_⟩
   have YJ:∀ {S2:jI},AH g S2->(∃ t L,S2.bO[p]?=some L/\L[c]?=some (some t))->∀ p' c',(p',c')∈l.take (i+1)->∃ t L,S2.bO[p']?=some L/\L[c']?=some (some t):=λ x2 hh p' c' hm=>by
     rw [bS es] at hm
     rcases aaz.mp hm with z|z
     . obtain ⟨t,L,O,G⟩:=tk p' c' z
       obtain ⟨aD,f1,f2⟩:=x2.la _ _ _ _ O G
       exact ⟨t,aD,f1,f2⟩
     . cases aac.mp z
       exact hh
   cases q0:g.bO[p][c] with
   | some t =>
     rw [q0] at M
     refine fe ⟨g,b2,Kw,J,A,X,YJ (AH.refl _) ⟨t,_,o,M⟩,_,_,rfl⟩
   | none =>
     rw [q0] at M
     have en:=A.go p _ _ o eg
     have n0:g.di[p]≠0:=λ z=>by
       rw [z] at en
       exact abT.mp en.symm _ (aah M) rfl
     have Ze:=X.rk _ _ ek
     have aN:ug rows g.bN p c kk:=⟨r,N,.inr ⟨js,ec,j,DW,Ze⟩⟩
     refine gn ⟨_,rfl,x,zn,_,rfl,uu,rfl,_,rfl,_,rfl,_,rfl,x,_,zn,_,_,rfl,uu,T.cz,T.fC,rfl,_,rfl,C,_,_,_,rfl,rfl,.inl (aX.of J.Rh),cm (by rw [Zj,Ze];rfl),x,D,I,C,u,B,g,p,c,kk,_,_,rfl,J,o,hc,eg,n0,by rw [A.lk];exact hp,aaA A.ql (aaA lr (by decide)),λ H3 b3 al=>?_⟩
     refine ⟨_,AF b2 b3,AF Kw b3,al,A.fin o eg M aN,X.trans (A.P7 o eg M),YJ (A.P7 o eg M) ⟨kk,_,cY.mpr (.inl ⟨rfl,BE,rfl⟩),cY.mpr (.inl ⟨rfl,hc,rfl⟩)⟩,_,_,rfl⟩
  .
   rintro U H2 ⟨g,b2,Kw,J,A,X,tk,w4,w5,rfl⟩
   rw [Yp.length,aaB] at tk
   refine ⟨_,rfl,_,_,rfl,rfl,g,b2,J,A,X,λ p r c js N ec DW=>?_,_,_,_,rfl⟩
   obtain ⟨t,L,O,G⟩:=tk p c ((Nw.2 j l p c ea).mpr ⟨r,js,N,ec,DW⟩)
   exact ⟨L,t,kk,O,G,X.rk _ _ ek,A.lo _ _ _ _ O G⟩
 .
  rw [No] at ey
  refine k H1 S F b1 V ok nd λ j hj=>?_
  obtain ⟨i,hi,rfl⟩:=abi.mp hj
  exact gd i _ (by lia) (RS hi)
def pZ (T:Txt K mg Ad):Def P w K mg base "choices_ahead" 1 ["rows"] (Hc K):=by
 refine T.su.cN cG λ Z Z Z Z Z H vs Q E hr h=>?_
 obtain ⟨G,vr,rows,rfl,jY,dr,lr,hb,k⟩:=h
 refine ⟨_,(ai (rN (yi:=1) ["row"] [] [] .nil rfl (cf (pv 0)) (λ Z Z Z Z Z=>(k9 (i:=0))) (λ Z Z Z Z Z=>cr) (λ Z Z Z Z Z=>(bG af)) cG.nd (lc rfl))
     (ai (c6 aaH rfl (qI rfl T.dJ (aa (pv 0) af)) (cW (K:=K) (n:=2) rfl rfl (aP (ij (i:=2) cG.nd) (aP (ij (i:=3) cG.nd) cZ))) (ap (c6 aaH rfl (qI rfl T.dJ (aa (pv 3) af)) (cW (K:=K) (n:=2) rfl rfl (aP (ij (i:=4) cG.nd) (aP (ij (i:=5) cG.nd) cZ))) (ap (bB (aK oZ (pv 5) cy (aM _)) (ap (c6 aaH rfl (cf (pv 5)) (ij (i:=6) cG.nd) (ap (bC (im aaF aaM aaL cA (ar ao (pv 1) (pv 6)) (aa (aY (aa (pv 2) (aa (pv 4) af))) af)))))) aJ)))))
     (ap (aH (pv 1))))),?_⟩
 try dsimp only [eS,bj]
 try (refine dQ ?_;intro Z Z Z Z)
 have lv:vr.length=rows.length:=by rw [dr.length,No]
 refine ⟨_,rfl,G,rfl,⟨_,aX.of jY⟩,λ D hD=>?_⟩
 have s0:=ak (o:=.lst []) hD
 have a0:zl K H (upd H D (.lst [])) D [] []:=⟨s0,λ b hb=>by rw [aac.mp hb];exact hD,aaS.mpr ⟨aae,acs⟩,rfl,ag,λ j b l e=>by simp at e⟩
 refine cR (K:=K) (a:=G) (xs:=vr) (λ i f g c=>∃ as,A3 (zl K H c D as ((rows.take i).map λ Z=>[])) (f=as.map .ref) (∃ v,g=[v])) ⟨[],a0,rfl,none,rfl⟩ (λ i f g c Z ⟨_,h,_,_⟩=>aX.of (h.sm _ _ jY)) ?_ ?_
 .
  rintro i y f g H1 hy ⟨as,m,rfl,v,rfl⟩
  have hi:i<rows.length:=by rw [<- lv];exact (Br.mp hy).1
  have la:=m.le
  rw [No,aaK] at la
  refine ⟨E6,λ q J=>⟨ak J _ _ m.hp,aas (show (as.map V.ref).length<=100000 by rw [No];lia) (by decide),as++[q],?_,by rw [aai];rfl,_,rfl⟩⟩
  rw [bS (RS hi),aai]
  exact m.row J
 rintro f g H1 ⟨as,m,rfl,v,rfl⟩
 rw [lv,aaB] at m
 have I:∀ {Bz q xs},aG H Bz->aX K H q xs->aX K Bz q xs:=λ S e=>by
   rcases e with (e|⟨o,e⟩)|e
   . exact .inl (.inl (S _ _ e))
   . exact .inl (.inr ⟨o,S _ _ e⟩)
   . exact .inr e
 refine ⟨_,rfl,G,rfl,⟨_,aX.of (m.sm _ _ jY)⟩,?_⟩
 refine xB (sq:=aX K) (xs:=vr) (λ i U c=>∃ A,A4 (zl K H c D as A) (mC rows i 0 0 A) (yd (i * 16 * 400) A) (E5 λ (v2 v3 R W u:eL)=>U=[some (.ref G),some (.ref D),v2,v3,R,W,u])) ⟨_,m,mC.zero rows,λ j l e=>?_,none,none,none,none,none,rfl⟩ (λ i U c Z ⟨_,h,_,_,_⟩=>aX.of (h.sm _ _ jY)) ?_ ?_
 . rw [Zj] at e
   obtain ⟨r,Z,rfl⟩:=abj.mp e
   exact aaZ _
 .
  rintro i x pp U H2 hx tN ⟨A,a2,t2,l2,v2,v3,R,W,u,rfl⟩
  have hi:i<rows.length:=by rw [<- lv];exact (Br.mp hx).1
  have s:=RS hi
  generalize rows[i]=r at s
  obtain ⟨x',ex,dx⟩:=dr.get (d:=rZ r) (by rw [Zj,s];rfl)
  rw [hx] at ex
  cases ex
  obtain ⟨q,xs,rfl,J,dq⟩:=dx
  have lq:xs.length=r.length:=by rw [dq.length,No]
  have bd:=hb r (aah s)
  refine ⟨pp,_,rfl,bY.of ag,rfl,_,_,rfl,_,_,rfl,rfl,?_⟩
  have a3:=a2.same (ak (o:=.tup [aq i,.ref q]) tN)
  generalize upd H2 pp (.tup [aq i,.ref q])=H3 at a3 |-
  refine ⟨_,rfl,q,rfl,⟨_,I a3.sm J⟩,?_⟩
  refine xB (sq:=aX K) (xs:=xs) (λ n U c=>∃ A,A4 (zl K H c D as A) (mC rows i n 0 A) (yd ((i * 16+n) * 400) A) (E3 λ (R W u:eL)=>U=[some (.ref G),some (.ref D),some (aq i),some (.ref q),R,W,u])) ⟨_,a3,t2,l2,_,_,_,rfl⟩ (λ i U c Z ⟨_,h,_,_,_⟩=>I h.sm J) ?_ ?_
  .
   rintro n y O7 U H4 hy LY ⟨X,a4,N,L,w4,w5,w6,rfl⟩
   have hn:n<r.length:=by rw [<- lq];exact (Br.mp hy).1
   have F:=RS hn
   generalize r[n]=vv at F
   obtain ⟨y',ey,dy⟩:=dq.get (d:=ud vv) (by rw [Zj,F];rfl)
   rw [hy] at ey
   cases ey
   refine ⟨O7,_,rfl,bY.of ag,rfl,_,_,rfl,_,_,rfl,rfl,?_⟩
   have a5:=a4.same (ak (o:=.tup [aq n,y]) LY)
   generalize upd H4 O7 (.tup [aq n,y])=H5 at a5 |-
   cases vv with
   | none =>
     obtain rfl:y = .cC:=dy
     exact ⟨_,rfl,rfl,_,rfl,fe ⟨X,a5,N.Kh s F (λ Z z=>by cases z),L.mono (by lia),_,_,_,rfl⟩⟩
   | some js =>
     obtain ⟨q2,ys,rfl,tw,ab⟩:=dy
     obtain rfl:=wj ab
     obtain ⟨lj,hj⟩:=bd.2 js (aah F)
     refine ⟨_,rfl,rfl,_,rfl,gn ?_⟩
     refine ⟨_,rfl,q2,rfl,⟨_,I a5.sm tw⟩,?_⟩
     refine hJ (K:=K) (a:=q2) (xs:=js.map aq) (λ kx U c=>∃ A,A4 (zl K H c D as A) (mC rows i n kx A) (yd ((i * 16+n) * 400+kx) A) (∃ (u:eL),U=[some (.ref G),some (.ref D),some (aq i),some (.ref q),some (aq n),some (.ref q2),u])) ⟨X,a5,N,by rw [aeb];exact L,_,rfl⟩ (λ i U c Z ⟨_,h,_,_,_⟩=>I h.sm tw) ?_ ?_
     .
      rintro Z kx z U H6 hz ⟨Y,B,O,M,u6,rfl⟩
      rw [Zj] at hz
      obtain ⟨j,ej,rfl⟩:=abj.mp hz
      have NM:=hj j (aah ej)
      have ZD:j<Y.length:=by rw [O.1];exact NM
      have DW:j<as.length:=by rw [B.le];exact ZD
      have C:=RS ZD
      have eb:=RS DW
      have hk:kx<js.length:=(Br.mp ej).1
      generalize Y[j]=la at C
      generalize as[j]=b at eb
      refine ⟨_,rfl,_,rfl,D,_,_,_,rfl,rfl,.inl (aX.of B.hp),cm (by rw [Zj,eb];rfl),?_⟩
      obtain ⟨vs,Y8,SJ⟩:=B.CM j b la eb C
      refine ⟨.inl ⟨rfl,_,aX.of Y8⟩,_,rfl,_,rfl,vg,λ t ht=>?_⟩
      have st:=ak (o:=.tup [aq i,aq n]) ht
      have a7:=B.same st
      have UN:=st _ _ Y8
      have TM:=SJ.imp λ p (pc:Nat×Nat) z=>st.ts (K:=K) _ _ z
      have YU:bY K (upd H6 t (.tup [aq i,aq n])) t [aq i,aq n]:=bY.of ag
      generalize upd H6 t (.tup [aq i,aq n])=H7 at a7 UN TM YU |-
      have le:=M j la C
      refine ⟨b,vs,_,rfl,rfl,UN,aas (show vs.length<=14000000 by rw [TM.length];lia) (by decide),_,a7.put eb C UN TM YU,O.put s F ej C,by rw [<- Nat.add_assoc];exact M.put C,_,rfl⟩
     . rintro U H6 ⟨Y,B,O,M,u6,rfl⟩
       rw [No] at O M
       exact ⟨Y,B,O.Kh s F (λ Z z=>by cases z;rfl),M.mono (by lia),_,_,_,rfl⟩
  . rintro U H4 ⟨X,a4,N,L,w4,w5,w6,rfl⟩
    rw [lq] at N L
    exact ⟨X,a4,N.OU s,L.mono (by have:=bd.1;lia),_,_,_,_,_,rfl⟩
 . rintro U H2 ⟨A,a2,t2,l2,v2,v3,R,W,u,rfl⟩
   rw [lv] at t2
   exact ⟨_,rfl,k D as A H2 a2 t2.done⟩
def nQ (T:Txt K mg Ad):hC P w K mg base Ad.dk "__init__" 3 ["self","game"] [] (FY P w K Ad.cS Ad.dk):=by
 refine T.qJ.fS dO λ Z Z Z Z Z H vs Q E hr h=>?_
 obtain ⟨x,J,y,pm,po,R,pd,ad,g,rfl,hx,hg,M,k⟩:=h
 refine ⟨_,(ai (dh (pv 0) (fJ ["choices"] [] [] .nil rfl (cf (aU (pv 1) rfl)) (λ Z Z Z Z Z=>(k9 (i:=0))) (λ Z Z Z Z Z=>cr) (λ Z Z Z Z Z=>(fJ ["row"] [] [] .nil rfl (Gd (K:=K) rfl (pv 0)) (λ Z Z Z Z Z=>(k9 (i:=0))) (λ Z Z Z Z Z=>cr) (λ Z Z Z Z Z=>cy)))) rfl)
     (ai (dh (pv 0) (fJ ["choices"] [] [] .nil rfl (cf (aU (pv 1) rfl)) (λ Z Z Z Z Z=>(k9 (i:=0))) (λ Z Z Z Z Z=>cr) (λ Z Z Z Z Z=>(aV (wF (K:=K) rfl) (by rfl) T.eF cK (aa (pv 0) af)))) rfl)
     (ai (dh (pv 0) (fJ ["many"] [] [] .nil rfl (cf (aU (pv 0) rfl)) (λ Z Z Z Z Z=>(k9 (i:=0))) (λ Z Z Z Z Z=>cr) (λ Z Z Z Z Z=>(jQ (aK cP (pv 0) ac (aM _)) ac cy))) rfl)
     (ai (dh (pv 0) (fJ ["place","rank"] [] [] .nil rfl (qI rfl T.dJ (aa (aU (pv 0) rfl) af)) (λ Z Z Z Z Z=>(cW (K:=K) (n:=2) rfl rfl (aP (k9 (i:=0)) (aP (k9 (i:=1)) cZ)))) (λ Z Z Z Z Z=>(ke (aK cP (pv 1) ac (aM _)))) (λ Z Z Z Z Z=>(pv 0))) rfl)
     (ai (c6 aaH rfl (qI rfl T.dJ (aa (aU (pv 1) rfl) af)) (cW (K:=K) (n:=2) rfl rfl (aP (ij (i:=2) dO.nd) (aP (ij (i:=3) dO.nd) cZ))) (ap (c6 aaH rfl (qI rfl T.dJ (aa (pv 3) af)) (cW (K:=K) (n:=2) rfl rfl (aP (ij (i:=4) dO.nd) (aP (ij (i:=5) dO.nd) cZ))) (ap (bB (aK ji (pv 5) cy (aM _)) (ap (bC (aW (pv 0) T.cz (nF (P:=P) (w:=w) T) .nil hr.m (aa (pv 2) (aa (pv 4) (aa ac af)))))) aJ)))))
     (ap (bC (aW (pv 0) T.cz (oV (P:=P) (w:=w) T) .nil hr.m (aa (ay (pZ T) hr.m (aa (aU (pv 1) rfl) af)) af))))))))),?_⟩
 try dsimp only [eS,bj]
 try (refine jT ?_;intro Z Z Z Z Z Z Z)
 obtain ⟨dy,hy⟩:=hg.ins
 obtain ⟨vr,jY,dr⟩:=hg.rows
 have Up:=bL.same gk _ dr
 have lv:vr.length=g.rows.length:=by rw [dr.length,No]
 refine ⟨_,rfl,y,_,dy,_,_,rfl,hy,T.ca,T.dM,rfl,R,rfl,⟨_,aX.of jY⟩,λ C gc=>?_⟩
 have s0:=ak (o:=.lst []) gc
 have a0:MO H (upd H C (.lst [])) C [] []:=⟨s0,λ b M=>by rw [aac.mp M];exact gc,aaS.mpr ⟨aae,acs⟩,rfl,ag,λ j b l e=>by simp at e⟩
 refine cR (K:=K) (a:=R) (xs:=vr) (λ i A f s=>∃ N,A3 (MO H s C N ((g.rows.take i).map λ r=>r.map λ Z=>none)) (A=N.map .ref) (∃ v,f=[v])) ⟨[],a0,rfl,none,rfl⟩ (λ i A f s Z ⟨_,h,_,_⟩=>aX.of (h.sm _ _ jY)) ?_ ?_
 .
  rintro i v A f H1 F ⟨N,W,rfl,v0,rfl⟩
  have hi:i<g.rows.length:=by rw [<- lv];exact (Br.mp F).1
  have t:=RS hi
  obtain ⟨v',ev,dv⟩:=Up.get (d:=rZ g.rows[i]) (by rw [Zj,t];rfl)
  rw [F] at ev
  cases ev
  obtain ⟨q,xs,rfl,hq,dq⟩:=dv
  have lq:xs.length=g.rows[i].length:=by rw [dq.length,No]
  have lb:=(M.2 _ (aay hi)).1
  have la:=W.le
  rw [No,aaK] at la
  refine ⟨_,rfl,q,rfl,⟨_,hq.sm W.sm⟩,λ D hD=>?_⟩
  refine cR (K:=K) (a:=q) (xs:=xs) (λ j gK ab s=>s=upd H1 D (.lst gK)/\gK=List.replicate j .cC/\∃ v,ab=[v]) ⟨rfl,rfl,none,rfl⟩ (λ j gK ab s Z ⟨e,_,_⟩=>by rw [e];exact (hq.sm W.sm).sm (ak hD)) ?_ ?_
  . rintro j u gK ab H2 hu ⟨rfl,rfl,v2,rfl⟩
    have hj:j<xs.length:=(Br.mp hu).1
    exact ⟨ag,aas (show (List.replicate j V.cC).length<=100000 by rw [ab5];lia) (by decide),mX,List.replicate_succ'.symm,_,rfl⟩
  .
   rintro gK ab H2 ⟨rfl,rfl,v2,rfl⟩
   have en:List.replicate xs.length V.cC=(g.rows[i].map λ Z=>(none:Option Nat)).map jX:=by
     rw [lq,acj]
     exact (List.map_const' ..).symm
   refine ⟨ak hD _ _ W.hp,aas (show (N.map V.ref).length<=100000 by rw [No];have:=M.1;lia) (by decide),N++[D],?_,by rw [aai];rfl,_,rfl⟩
   rw [bS t,aai,en]
   exact W.row hD
 rintro A f H1 ⟨N,W,rfl,v,rfl⟩
 rw [lv,aaB] at W
 have la:=W.le
 rw [No] at la
 have B0:=W.rkb (K:=K) hx
 generalize Za:(g.rows.map λ r=>r.map λ Z=>(none:Option Nat))=a2 at B0
 refine ⟨_,rfl,x,_,J,_,rfl,B0.b.at_,T.cz,T.i6,lt1000 rfl,?_⟩
 have B1:=B0.put (fs':=aQ "lasts" (.ref C) [])
 have ny:y≠x:=λ z=>by rw [z,hx] at hy;injection hy with h;injection h with _ _ h;cases h
 have nr:R≠x:=λ z=>by rw [z,hx] at jY;cases jY
 have rd:∀ {s fs L},Bs K Ad.dk x J H s fs L->s y=some (.ins Ad.cS dy (NR pm po R pd ad))/\s R=some (.lst vr)/\bL K s (g.rows.map rZ) vr:=λ B=>⟨B.b.st _ _ hy ny,B.b.st _ _ jY nr,bL.same gk _ (bL.wL hx rfl (λ c u e n Z=>B.b.st c u e n) dr)⟩
 generalize upd H1 x (.ins Ad.dk J (aQ "lasts" (.ref C) []))=H2 at B1 |-
 obtain ⟨KC,Qy,al⟩:=rd B1
 refine ⟨_,rfl,y,_,dy,_,_,rfl,KC,T.ca,T.dM,rfl,R,rfl,⟨_,aX.of Qy⟩,λ G ID=>?_⟩
 refine cR (K:=K) (a:=R) (xs:=vr) (λ i A f s=>A3 (s=upd H2 G (.lst A)) (A=(g.rows.take i).map (λ r:bU=>aq r.length)) (∃ v,f=[v])) ⟨rfl,rfl,none,rfl⟩ (λ i A f s Z ⟨e,_,_⟩=>by rw [e];exact aX.of (ak ID _ _ Qy)) ?_ ?_
 .
  rintro i v A f H3 F ⟨rfl,rfl,v0,rfl⟩
  have hi:i<g.rows.length:=by rw [<- lv];exact (Br.mp F).1
  have t:=RS hi
  obtain ⟨v',ev,dv⟩:=al.get (d:=rZ g.rows[i]) (by rw [Zj,t];rfl)
  rw [F] at ev
  cases ev
  obtain ⟨q,xs,rfl,hq,dq⟩:=dv
  have lq:xs.length=g.rows[i].length:=by rw [dq.length,No]
  refine ⟨_,rfl,q,xs,rfl,.inl (hq.sm (ak ID)),λ r K2=>⟨ag,aas (show _<=100000 by rw [No,aaK];have:=M.1;lia) (by decide),mX,?_,_,rfl⟩⟩
  rw [bS t,aai,K2,lq]
  rfl
 rintro A f H3 ⟨rfl,rfl,v0,rfl⟩
 rw [lv,aaB]
 have B2:=B1.more (ak (o:=.lst (g.rows.map λ r:bU=>aq r.length)) ID) ID ag
 refine ⟨_,rfl,x,_,J,_,rfl,B2.b.at_,T.cz,T.gw,lt1000 rfl,?_⟩
 have B3:=B2.put (fs':=aQ "going" (.ref G) (aQ "lasts" (.ref C) []))
 generalize upd (upd H2 G (.lst (g.rows.map λ r:bU=>aq r.length))) x (.ins Ad.dk J (aQ "going" (.ref G) (aQ "lasts" (.ref C) [])))=H4 at B3 |-
 have QG:=(B3.at_ _ aar).1
 have lg:(g.rows.map λ r:bU=>aq r.length).length=g.rows.length:=No ..
 refine ⟨_,rfl,x,_,J,_,_,rfl,B3.b.at_,T.cz,T.gw,rfl,G,rfl,⟨_,aX.of QG⟩,λ I OW=>?_⟩
 refine cR (K:=K) (a:=G) (xs:=g.rows.map λ r:bU=>aq r.length) (λ i A f s=>A3 (s=upd H4 I (.lst A)) (A=(g.rows.take i).map (λ r:bU=>jX (if r.length=0 then some 0 else none))) (∃ v,f=[v])) ⟨rfl,rfl,none,rfl⟩ (λ i A f s Z ⟨e,_,_⟩=>by rw [e];exact aX.of (ak OW _ _ QG)) ?_ ?_
 .
  rintro i v A f H5 F ⟨rfl,rfl,v0,rfl⟩
  have hi:i<g.rows.length:=by rw [<- lg];exact (Br.mp F).1
  have t:=RS hi
  rw [Zj,t] at F
  cases F
  have nx:(upd H4 I (.lst ((g.rows.take i).map (λ r:bU=>jX (if r.length=0 then some 0 else none))))) I=some (.lst ((g.rows.take i).map (λ r:bU=>jX (if r.length=0 then some 0 else none))))/\((g.rows.take i).map (λ r:bU=>jX (if r.length=0 then some 0 else none))).length<sizeLine:=⟨ag,aas (show _<=100000 by rw [No,aaK];have:=M.1;lia) (by decide)⟩
  refine ⟨_,rfl,rfl,_,rfl,?_⟩
  by_cases X:g.rows[i].length=0
  . rw [show decide (aq g.rows[i].length=V.int 0)=true from aaG (by rw [X];rfl)]
    refine gn ⟨nx.1,nx.2,mX,?_,_,rfl⟩
    rw [bS t,aai,adn,aau X]
    rfl
  . rw [show decide (aq g.rows[i].length=V.int 0)=false from aap (λ z=>X (by have:=V.int.inj z;lia))]
    refine fe ⟨nx.1,nx.2,mX,?_,_,rfl⟩
    rw [bS t,aai,adn,aax X]
    rfl
 rintro A f H5 ⟨rfl,rfl,v0,rfl⟩
 rw [lg,aaB]
 have B4:=B3.more (ak (o:=.lst (g.rows.map λ r:bU=>jX (if r.length=0 then some 0 else none))) OW) OW ag
 refine ⟨_,rfl,x,_,J,_,rfl,B4.b.at_,T.cz,T.fC,lt1000 rfl,?_⟩
 have B5:=B4.put (fs':=aQ "ranks" (.ref I) (aQ "going" (.ref G) (aQ "lasts" (.ref C) [])))
 generalize upd (upd H4 I (.lst (g.rows.map λ r:bU=>jX (if r.length=0 then some 0 else none)))) x (.ins Ad.dk J (aQ "ranks" (.ref I) (aQ "going" (.ref G) (aQ "lasts" (.ref C) []))))=H6 at B5 |-
 have OY:=(B5.at_ _ aar).1
 have lk:(g.rows.map λ r:bU=>jX (if r.length=0 then some 0 else none)).length=g.rows.length:=No ..
 refine ⟨_,rfl,x,_,J,_,_,rfl,B5.b.at_,T.cz,T.fC,rfl,I,rfl,⟨_,aX.of OY⟩,λ Y Rl=>?_⟩
 refine kj (sq:=aX K) (a:=I) (xs:=g.rows.map λ r:bU=>jX (if r.length=0 then some 0 else none)) (λ i A f s=>A4 (aG H6 s) (s Y=some (.lst A)) (A=((List.range i).filter λ p=>g.rows[p]? == some []).map aq) (E2 λ v w=>f=[v,w])) ⟨ak Rl,ag,rfl,none,none,rfl⟩ (λ i A f s Z ⟨e,_,_,_⟩=>aX.of (e _ _ OY)) ?_ ?_
 .
  rintro i v p A f H7 F hp ⟨s7,Sa,rfl,v0,w0,rfl⟩
  have hi:i<g.rows.length:=by rw [<- lk];exact (Br.mp F).1
  have t:=RS hi
  rw [Zj,t] at F
  obtain rfl:v=jX (if g.rows[i].length=0 then some 0 else none):=(aaq F).symm
  have s8:=ak (o:=.tup [aq i,jX (if g.rows[i].length=0 then some 0 else none)]) hp
  refine ⟨p,_,rfl,bY.of ag,rfl,_,_,rfl,_,_,rfl,rfl,?_⟩
  have W2:=s8 _ _ Sa
  have KW:=s7.trans s8
  generalize upd H7 p (.tup [aq i,jX (if g.rows[i].length=0 then some 0 else none)])=H8 at W2 KW |-
  have lf:(((List.range i).filter λ p=>g.rows[p]? == some []).map aq).length<=100000:=by
    rw [No]
    have:=aa7 (λ p=>g.rows[p]? == some []) (List.range i)
    rw [aam] at this
    have:=M.1
    lia
  have rs:(List.range (i+1)).filter (λ p=>g.rows[p]? == some [])=(List.range i).filter (λ p=>g.rows[p]? == some [])++[i].filter (λ p=>g.rows[p]? == some []):=by
    rw [aa6,abq]
  by_cases X:g.rows[i].length=0
  .
   have e1:[i].filter (λ p=>g.rows[p]? == some [])=[i]:=by
     have:=abS.mp X
     simp [t,this]
   rw [aau X]
   refine ⟨_,rfl,rfl,_,rfl,gn ⟨_,rfl,W2,aas lf (by decide),λ b u e=>?_,ag,?_,_,_,rfl⟩⟩
   . rw [aw (az e Rl)];exact KW b u e
   . rw [rs,e1,aai];rfl
  .
   have e1:[i].filter (λ p=>g.rows[p]? == some [])=[]:=by
     have:g.rows[i]≠[]:=λ z=>X (by rw [z];rfl)
     simp [t,this]
   rw [aax X]
   refine ⟨_,rfl,rfl,_,rfl,fe ⟨KW,W2,?_,_,_,rfl⟩⟩
   rw [rs,e1,abf]
 rintro A f H7 ⟨s7,Sa,rfl,v0,w0,rfl⟩
 rw [lk] at Sa
 have B6:=B5.more s7 Rl Sa
 refine ⟨_,rfl,x,_,J,_,rfl,B6.b.at_,T.cz,T.gB,lt1000 rfl,?_⟩
 have B7:=B6.put (fs':=aQ "queue" (.ref Y) (aQ "ranks" (.ref I) (aQ "going" (.ref G) (aQ "lasts" (.ref C) []))))
 generalize upd H7 x (.ins Ad.dk J (aQ "queue" (.ref Y) (aQ "ranks" (.ref I) (aQ "going" (.ref G) (aQ "lasts" (.ref C) [])))))=H8 at B7 |-
 have R8:ig Ad.dk H8 x C G I Y N (E9 g.rows):=by
   refine Bs.rk (K:=K) (dx:=J) (H:=H) ?_ (by rw [la];exact (No ..).symm)
   rw [show (E9 g.rows).bN.map jX=g.rows.map (λ r:bU=>jX (if r.length=0 then some 0 else none)) from acj,show (E9 g.rows).di.map aq=g.rows.map (λ r:bU=>aq r.length) from acj,show (E9 g.rows).bO=a2 from Za]
   exact B7
 have Sg:=B7.Sg (by rw [la,<- Za];exact (No ..).symm)
 have b8:=B7.fr
 have t8:=B7.b.ts
 clear B0 B1 B2 B3 B4 B5 B6 B7
 have Uv:∀ {s},gG [x] H s->s y=some (.ins Ad.cS dy (NR pm po R pd ad))/\s R=some (.lst vr)/\bL K s (g.rows.map rZ) vr:=λ b=>⟨b _ _ hy (by simp [ny]),b _ _ jY (by simp [nr]),bL.same gk _ (bL.wL hx rfl (λ c u e n Z=>b c u e (by simp [n])) dr)⟩
 obtain ⟨aF,Wl,M8⟩:=Uv b8
 refine ⟨_,rfl,y,_,dy,_,_,rfl,aF,T.ca,T.dM,rfl,R,rfl,⟨_,aX.of Wl⟩,?_⟩
 refine xB (sq:=aX K) (xs:=vr) (λ i U s=>∃ S,A5 (gG [x] H s) (aT K H s) (ig Ad.dk s x C G I Y N S) (m4 g.rows S i 0) (E4 λ (v2 v3 v4 v5:eL)=>U=[some (.ref x),some (.ref y),v2,v3,v4,v5])) ⟨_,b8,t8,R8,m4.zero _,none,none,none,none,rfl⟩ (λ i U s Z ⟨_,b,_,_,_,_⟩=>aX.of (Uv b).2.1) ?_ ?_
 .
  rintro i v pp U H9 F tN ⟨S,b9,t9,R9,RD,v2,v3,v4,v5,rfl⟩
  have hi:i<g.rows.length:=by rw [<- lv];exact (Br.mp F).1
  have t:=RS hi
  generalize g.rows[i]=r at t
  have bd:=M.2 r (aah t)
  have FH:=ak (o:=.tup [aq i,v]) tN
  refine ⟨pp,_,rfl,bY.of ag,rfl,_,_,rfl,_,_,rfl,rfl,?_⟩
  have Ke:gG [x] H _:=λ c u e n=>FH c u (b9 c u e n)
  have Kz:=t9.trans FH.ts
  have YK:=R9.same FH
  generalize upd H9 pp (.tup [aq i,v])=Ii at Ke Kz YK |-
  obtain ⟨v',ev,dv⟩:=dr.get (d:=rZ r) (by rw [Zj,t];rfl)
  rw [F] at ev
  cases ev
  obtain ⟨q,xs,rfl,hq,dq⟩:=dv
  have lq:xs.length=r.length:=by rw [dq.length,No]
  have YV:∀ {s},gG [x] H s->aX K s q xs:=λ b=>by
    have nx:∀ {u},H q=some u->lR u=false->q∉[x]:=λ e n z=>by
      rw [aac.mp z,hx] at e
      cases e
      cases n
    rcases hq with (e|⟨o,e⟩)|e
    . exact .inl (.inl (b _ _ (gk _ _ e) (nx (gk _ _ e) rfl)))
    . exact .inl (.inr ⟨o,b _ _ (gk _ _ e) (nx (gk _ _ e) rfl)⟩)
    . exact .inr e
  refine ⟨_,rfl,q,rfl,⟨_,YV Ke⟩,?_⟩
  refine xB (sq:=aX K) (xs:=xs) (λ n U s=>∃ S,A5 (gG [x] H s) (aT K H s) (ig Ad.dk s x C G I Y N S) (m4 g.rows S i n) (E2 λ (v4 v5:eL)=>U=[some (.ref x),some (.ref y),some (aq i),some (.ref q),v4,v5])) ⟨_,Ke,Kz,YK,RD,_,_,rfl⟩ (λ i U s Z ⟨_,b,_,_,_,_⟩=>YV b) ?_ ?_
  .
   rintro n u O7 U Hy hu LY ⟨S1,HG,KS,Pu,O,w4,w5,rfl⟩
   have hn:n<r.length:=by rw [<- lq];exact (Br.mp hu).1
   have ec:=RS hn
   generalize r[n]=vv at ec
   obtain ⟨u',eu,du⟩:=dq.get (d:=ud vv) (by rw [Zj,ec];rfl)
   rw [hu] at eu
   cases eu
   have Nl:=ak (o:=.tup [aq n,u]) LY
   refine ⟨O7,_,rfl,bY.of ag,rfl,_,_,rfl,_,_,rfl,rfl,?_⟩
   have Kw:gG [x] H _:=λ c z e m=>Nl c z (HG c z e m)
   have OA:=KS.trans Nl.ts
   have Q6:=Pu.same Nl
   generalize upd Hy O7 (.tup [aq n,u])=a3 at Kw OA Q6 |-
   cases vv with
   | some js =>
     obtain ⟨q2,ys,rfl,Z,Z⟩:=du
     exact ⟨_,rfl,rfl,_,rfl,fe ⟨S1,Kw,OA,Q6,O.skip t ec,_,_,rfl⟩⟩
   | none =>
     obtain rfl:u = .cC:=du
     have BE:i<S1.bO.length:=by rw [O.ok.ll];exact hi
     have wR:i<S1.di.length:=by rw [O.ok.lg];exact hi
     have el:=RS BE
     have eg:=RS wR
     generalize S1.bO[i]=l at el
     generalize S1.di[i]=m at eg
     have hc:n<l.length:=by rw [O.ok.sh i l r el t];exact hn
     have Fa:=O.un i l n el hc (.inr ⟨rfl,aak _⟩)
     have en:=O.ok.go i _ _ el eg
     have n0:m≠0:=λ z=>by
       rw [z] at en
       exact abT.mp en.symm _ (aah Fa) rfl
     obtain ⟨zn,uu⟩:=Q6.ins
     refine ⟨_,rfl,rfl,_,rfl,gn ⟨_,rfl,x,zn,_,rfl,uu,rfl,_,rfl,_,rfl,x,C,G,I,Y,N,S1,i,n,0,m,l,rfl,Q6,el,hc,eg,n0,by rw [O.ok.lk];exact hi,aaA O.ok.ql (aaA M.1 (by decide)),λ a4 Y2 ae=>?_⟩⟩
     refine ⟨_,λ c z e mx=>Y2 c z (Kw c z e mx) λ y=>?_,OA.trans (Dq Q6.tJ Y2),ae,O.step t ec el eg,_,_,rfl⟩
     rw [Sg c y] at e
     cases e
  . rintro U Hy ⟨S1,HG,KS,Pu,O,w4,w5,rfl⟩
    rw [lq] at O
    exact ⟨S1,HG,KS,Pu,O.next t,_,_,_,_,rfl⟩
 .
  rintro U H9 ⟨S,b9,t9,R9,RD,v2,v3,v4,v5,rfl⟩
  rw [lv] at RD
  obtain ⟨Wd,aD⟩:=R9.ins
  obtain ⟨aN,U4,an⟩:=Uv b9
  refine ⟨_,rfl,x,Wd,_,rfl,aD,rfl,_,rfl,y,_,dy,_,_,rfl,aN,T.ca,T.dM,rfl,R,vr,g.rows,rfl,U4,an,M.1,M.2,λ pa as ah Ii HD Nw=>?_⟩
  refine ⟨x,C,G,I,Y,N,S,pa,ah,g.rows,rfl,R9.same HD.sm,RD.ok,RD.done,HD.at R9,Nw,M.1,λ Hy S' aj HG Pu xD Wo Vk=>?_⟩
  exact k C G I Y N S' aj Hy (λ c z e mx=>HG c z (HD.sm c z (b9 c z e mx)) λ y=>by rw [Sg c y] at e;cases e) ((t9.trans HD.sm.ts).trans (Dq (R9.same HD.sm).tJ HG)) Pu xD Wo Vk
def zE (T:Txt K mg Ad):Pb P w K mg base "ranks_of" j9 (.ref Ad.ox) 13 ["hold","states","limit"] (Ae P w K Ad.bw):=by
 refine T.AX.dok rP (λ vs H Q E h=>?_) (λ f Z Z Z s H vs Q E J h=>?_)
 . obtain ⟨a,q,L,fp,m,xs,l,rfl,Z⟩:=h
   rfl
 .
  obtain ⟨a,q,L,fp,m,xs,l,rfl,hh,gh,F,l2,rl,hq,yM,M9,k⟩:=h
  refine ⟨_,(ai (cL (i:=3) rP.nd (oR T.JH (ph (P:=P) (w:=w) T) .nil J.m T.Mi (aa (pv 0) (aa (pv 1) (aa (pv 2) af)))))
    (ap (aH (Bm (P:=P) (w:=w) (K:=K) rfl rfl rfl J.u70 rfl (aa (aU (pv 3) rfl) (aa (aU (oR T.FO (nQ (P:=P) (w:=w) T) .nil J.m T.JS (aa (pv 3) af)) rfl) af)) rfl T.Ht rfl T.KH)))),?_⟩
  try dsimp only [eS,bj]
  refine ⟨_,rfl,_,rfl,_,rfl,λ y D j B n=>?_⟩
  have c:aG H (upd (upd H D (.own y)) y (.ins Ad.cS D [])):=(ak B).trans (ak (by first|(rw [aw n];exact j)|(rw [aw n.symm];exact j)))
  have V:(upd (upd H D (.own y)) y (.ins Ad.cS D [])) y=some (.ins Ad.cS D []):=ag
  generalize upd (upd H D (.own y)) y (.ins Ad.cS D [])=H1 at c V |-
  refine ⟨y,D,a,q,L,fp,m,xs,l,rfl,V,hh.same c,λ z=>?_,gh,F,l2,c _ _ hq,yM.imp (λ Z Z z=>z.same c),M9,λ pm po pr pd g H2 b2 t2 fr C ok lo O yI Z=>⟨rfl,?_⟩⟩
  . obtain ⟨u,hu⟩:=hh.some y z
    rw [j] at hu;cases hu
  have s2:aG H H2:=λ b u e=>b2 b u (c b u e) (by simp only [aac];exact az e j)
  obtain ⟨r,KC⟩:=C.ins
  have lm:g.met.length<=2000:=by
    have:=F g.met ok.nd ok.st
    lia
  have hb:=ok.K1 gh rl O lm
  refine ⟨_,rfl,y,_,r,_,_,rfl,KC,T.ca,T.ft,rfl,_,rfl,λ x d M ju n2=>?_⟩
  have R:aG H2 (upd (upd H2 d (.own x)) x (.ins Ad.dk d [])):=(ak ju).trans (ak (by first|(rw [aw n2];exact M)|(rw [aw n2.symm];exact M)))
  have U:(upd (upd H2 d (.own x)) x (.ins Ad.dk d [])) x=some (.ins Ad.dk d []):=ag
  generalize upd (upd H2 d (.own x)) x (.ins Ad.dk d [])=H3 at R U |-
  refine ⟨x,d,y,pm,po,pr,pd,L,g,rfl,U,C.same R,hb,λ pl pg pk pq qs S ab H4 b4 t4 hk rk nd gd=>⟨rfl,?_⟩⟩
  have s4:aG H2 H4:=λ b u e=>b4 b u (R b u e) (by simp only [aac];exact az e M)
  obtain ⟨U0,XS⟩:=hk.ins
  obtain ⟨vm,gH,Hw⟩:=(C.same s4).met
  have lk:S.bN.length=g.met.length:=by rw [rk.lk,O]
  obtain ⟨A,e1,X,t,Y⟩:=MK Hw lk
  have W:(A.map (·.1)).Nodup:=by
    rw [t]
    exact List.Pairwise.map ma (λ a b h z=>h (yx z)) ok.nd
  have N:A.length=g.met.length:=by rw [<- No (·.1),t,No]
  refine ⟨x,_,U0,_,_,rfl,XS,T.cz,T.fC,rfl,pm,pk,A,rfl,by rw [<- e1];exact aX.of gH,by rw [<- X];exact aX.of hk.Rh,W,Y,aaA (show _<=2000 by lia) (by decide),λ p hp=>?_⟩
  have s5:=ak (o:=kU P w p A) hp
  refine k p A _ ((s2.trans s4).trans s5) ⟨ag,λ e he=>(Y e he).ts s5.ts⟩ λ st jG=>?_
  obtain ⟨i,hi,ei⟩:=abi.mp (yI st jG)
  have G:i<A.length:=by rw [N];exact hi
  have I:i<S.bN.length:=by rw [lk];exact hi
  have v:=RS G
  have er:=RS I
  have em:g.met[i]?=some st:=by rw [RS hi,ei]
  have k1:(A.map (·.1))[i]?=some A[i].1:=by rw [Zj,v];rfl
  rw [t,Zj,em] at k1
  have k2:(A.map (λ e=>e.2.2))[i]?=some A[i].2.2:=by rw [Zj,v];rfl
  rw [<- X,Zj,er] at k2
  refine ⟨S.bN[i],?_,rk.rank nd gd ok O em er⟩
  rw [show ma st=A[i].1 from aaq k1,Cp W v]
  exact k2.symm
def jF (T:Txt K mg Ad):Ee P w K mg base "ranks_of" 13 ["hold","states","limit"] [.int 2000] (Ae P w K Ad.bw) :=
 (zE T).Js T.Bh λ i H=>by
   obtain ⟨u,e,r⟩:=vals1 H
   obtain rfl:i=#[u]:=by
     obtain ⟨l⟩:=i
     exact abE _ e
   exact ⟨[u],.cons r .nil,λ Z Z Z Z Z Z U h=>by obtain ⟨a,b,rfl⟩:∃ a b,U=[a,b]:=De (by simpa using h:U.length=2) λ a b=>⟨a,b,rfl⟩;exact ⟨_,rfl,rfl⟩⟩
def fm (T:Txt K mg Ad):Def P w K mg base "_law_cell_at" 1 ["_law_script","_law_k"] (BZ K):=by
 refine T.vy.cN tQ λ Z Z Z Z Z H v Q E i h=>?_
 obtain ⟨a,N,z,rfl,d,g,k⟩:=h
 refine ⟨_,(ai (bB (aK kS (pv 1) (aV bH (by rfl) T.eF cK (aa (pv 0) af)) (aM _)) (ap (aH (ar ao (pv 0) (pv 1)))) aJ)
     (ap (aH ac))),?_⟩
 try dsimp only [eS,bj]
 refine ⟨_,rfl,_,rfl,_,_,rfl,.inl d,λ n f=>⟨_,_,rfl,rfl,_,rfl,?_⟩⟩
 rw [No] at f
 refine eM (λ h=>?_) (λ h=>?_)
 .
  have b:z.toNat<N.length:=by lia
  have e:(N.map V.int)[z.toNat]?=some (.int (N[z.toNat]'b)):=by simp [b]
  have c:=cm e
  rw [acg g] at c
  refine ⟨_,rfl,_,rfl,_,_,_,_,rfl,rfl,.inl d,c,k _ (.inl (aay b))⟩
 . exact k 0 (.inr rfl)
def fN (T:Txt K mg Ad):Def P w K mg base "_law_stream" 1 ["_law_cell","_law_many"] DC:=by
 refine T.xW.cN fT λ Z Z Z Z Z H vs Q E S h=>?_
 obtain ⟨c,m,rfl,R,k⟩:=h
 refine ⟨_,(ai (cL (i:=2) fT.nd (bG af))
     (ai (cL (i:=3) fT.nd (ax aO (ax aI (pv 0) ac) ac))
     (ai (c6 aaH rfl (cg rfl T.dB (aa (ax aO (pv 1) ac) af)) (ij (i:=4) fT.nd) (ai (cL (i:=3) fT.nd (ax aI (ax aO (ax aO (ax bF (pv 3) ac) (ax bF (ax bF ac (pv 4)) (pv 4))) ac) ac))
     (ap (bC (im aaF aaM aaL cA (pv 2) (aa (ax eR (pv 3) ac) af))))))
     (ap (aH (lW Da (pv 2) (pI ac) pS)))))),?_⟩
 try dsimp only [eS,bj]
 try (refine eP ?_;intro Z Z Z Z Z)
 refine ⟨E6,λ p M=>?_⟩
 refine ⟨_,rfl,_,_,rfl,rfl,by decide,λ q X q1 L=>⟨_,_,rfl,rfl,λ N o=>?_⟩⟩
 refine ⟨_,rfl,_,_,rfl,rfl,λ y r=>⟨_,rfl,by lia,by lia,?_⟩⟩
 obtain rfl:y=((m+2:Nat):Int):=by rw [r];push_cast;rfl
 refine fW (lo:=0) (n:=m+2) (λ i U b=>A3 (aG H b) (∃ (a:List Int),A3 (b p=some (.lst (a.map V.int))) (a.length=i) (∀ z∈a,0<=z/\z<2 ^ 31)) (E2 λ N v=>A3 (0<=N) (N<=2147483647) (U=[some (.int c),some (aq m),some (.ref p),some (.int N),v])))
   ⟨ak M,⟨[],ag,rfl,nofun⟩,N,none,by lia,by lia,rfl⟩ ?_ ?_
 .
  rintro Z i U b hi ⟨s,⟨a,d,l,B⟩,N,v,t,u,rfl⟩
  refine ⟨_,rfl,_,_,rfl,rfl,⟨31,16,(show N.natAbs<2 ^ 31 by lia),oN,by decide⟩,λ y1 C=>?_⟩
  refine ⟨_,rfl,_,_,rfl,rfl,⟨13,7,oN,(show Int.natAbs _<2 ^ 7 by lia),by decide⟩,λ A g=>?_⟩
  have g:A=7919 * (0+(i:Int)):=g
  refine ⟨_,rfl,_,_,rfl,rfl,⟨20,7,(show Int.natAbs _<2 ^ 20 by lia),(show Int.natAbs _<2 ^ 7 by lia),by decide⟩,λ y3 D=>⟨_,_,rfl,rfl,λ y4 F=>⟨_,_,rfl,rfl,λ y5 I=>⟨_,_,rfl,rfl,by decide,λ Y G O J=>?_⟩⟩⟩⟩
  refine ⟨_,rfl,.inl ⟨rfl,_,aX.of d⟩,_,rfl,_,_,rfl,rfl,⟨by decide,oN⟩,λ j e=>?_⟩
  rw [acb _ (by decide)] at e
  have e:j=Y / 3:=e
  refine ⟨p,_,_,rfl,rfl,d,bo (by rw [No];lia),s.put M,⟨a++[j],by rw [aai];exact ag,by rw [aaf,l];rfl,λ z f=>?_⟩,Y,_,G,by lia,rfl⟩
  rcases aaz.mp f with h|h
  . exact B z h
  . rw [aac.mp h];lia
 .
  rintro U b ⟨s,⟨a,d,l,B⟩,N,v,t,u,rfl⟩
  refine ⟨_,rfl,2,rfl,p,_,rfl,aX.of d,λ x W=>?_⟩
  rw [U9 l]
  exact k x (a.drop 2) _ (s.trans (ak W)) ag (by rw [ac1];lia) (λ z f=>B z (List.mem_of_mem_drop f))
def uz (T:Txt K mg Ad):Def P w K mg base "_law_divisor" 1 ["_law_one","_law_other"] IV:=by
 refine T.vC.cN gu λ Z Z Z Z Z H v Q E t h=>?_
 obtain ⟨a,b,rfl,p,q,k⟩:=h
 refine ⟨_,(ai (oW aaH (aK rR (pv 1) ac (aM _)) (ai (cL (i:=2) gu.nd (ax aI (pv 0) (pv 1)))
     (ai (cL (i:=0) gu.nd (pv 1))
     (ap (cL (i:=1) gu.nd (pv 2))))))
     (ap (aH (pv 0)))),?_⟩
 try dsimp only [eS,bj]
 refine ⟨λ m U d=>d=H/\E3 λ (g l:Int) (r:eL)=>A5 (U=[some (.int g),some (.int l),r]) (0<=g) (0<=l) (m=l.toNat) (Int.gcd g l=Int.gcd a b),
   ⟨_,rfl,a,b,none,rfl,p,q,rfl,rfl⟩,?_⟩
 rintro m U d ⟨rfl,g,l,r,rfl,f,s,rfl,e⟩
 refine ⟨_,rfl,rfl,_,rfl,?_⟩
 refine En (λ h=>?_) (λ h=>?_)
 .
  have L:0<l:=by rw [fD] at h;lia
  refine ⟨λ c B=>B=d/\c=[some (.int l),some (.int (g % l)),some (.int (g % l))],λ c B ⟨j,n⟩=>?_,?_⟩
  . have M:=adH g (by lia:l≠0)
    have u:=adp g L
    exact ⟨(g % l).toNat,by lia,j,l,g % l,_,n,s,M,rfl,(Ka f L).trans e⟩
  . refine ⟨_,rfl,_,rfl,_,_,rfl,rfl,L,λ r Z Z o=>?_⟩
    subst o
    exact ⟨_,rfl,_,rfl,rfl,rfl⟩
 .
  have L:l=0:=fD.mp h
  subst L
  refine ⟨_,rfl,k g ?_⟩
  rw [<- e,Oj f]
def ia (T:Txt K mg Ad):Def P w K mg base "_law_frac" 2 ["_law_top","_law_bottom"] Rk:=by
 refine T.AO.cN sg λ Z Z Z Z Z H v Q E q h=>?_
 obtain ⟨a,b,rfl,s,r,c,k⟩:=h
 refine ⟨_,(ai (cL (i:=2) sg.nd (ay (uz T) q.m (aa (aV rq (by rfl) T.GP BW (aa (pv 0) af)) (aa (pv 1) af))))
     (ap (aH (aY (aa (ax eR (pv 0) (pv 2)) (aa (ax eR (pv 1) (pv 2)) af)))))),?_⟩
 try dsimp only [eS,bj]
 refine ⟨_,rfl,_,rfl,λ y j=>⟨_,rfl,y,b,rfl,by lia,by lia,λ d e=>?_⟩⟩
 have n:Int.gcd y b=Int.gcd a b:=by rw [j];unfold Int.gcd;rw [Int.natAbs_natCast]
 rw [n] at e
 have D:0<d:=by rw [e];exact Int.natCast_pos.mpr (Int.gcd_pos_iff.mpr (.inr (by lia)))
 have B:Bd 400 d:=by
   have:Int.gcd a b<=b.natAbs:=Nat.le_of_dvd (by lia) (Int.gcd_dvd_natAbs_right ..)
   show d.natAbs<2 ^ 400
   have l:d.natAbs=Int.gcd a b:=by rw [e];rfl
   rw [l]
   exact aas this c
 refine ⟨_,rfl,_,rfl,_,_,rfl,rfl,⟨by lia,B.mono (by decide)⟩,λ t f=>⟨_,rfl,_,rfl,_,_,rfl,rfl,⟨by lia,B.mono (by decide)⟩,λ u g=>⟨vg,λ p o=>?_⟩⟩⟩
 subst f g e
 exact k p _ (ak o) ag
def jA (T:Txt K mg Ad):Def P w K mg base "_law_warmth" 3 ["_law_steps","_law_scale_here"] (FS K):=by
 refine T.xi.cN vJ λ Z Z Z Z Z H v Q E q h=>?_
 obtain ⟨x,p,sc,rfl,b,ok,u,k⟩:=h
 refine ⟨_,(ap (aH (ay (ia T) q.m (aa (ax aO (ax bF (ax bF (pv 0) (ar ao (pv 1) ac)) (ar ao (pv 1) ac)) (ax bF (ar ao (pv 1) ac) (ar ao (pv 1) ac))) (aa (ax bF (ar ao (pv 1) ac) (ar ao (pv 1) ac)) af))))),?_⟩
 try dsimp only [eS,bj]
 have i:Bd 30 x:=show x.natAbs<2 ^ 30 by lia
 have B:=i.mul ok.ba
 have j:=B.mul ok.bd
 have l:=ok.bt.mul ok.bb
 have n:=ok.bb.mul ok.bd
 refine ⟨_,rfl,_,rfl,p,_,_,_,rfl,rfl,.inr b,rfl,_,_,rfl,rfl,⟨30,30,i,ok.ba,by decide⟩,λ y e=>?_⟩
 have e:y=x * sc.a:=e
 subst e
 refine ⟨_,rfl,p,_,_,_,rfl,rfl,.inr b,rfl,_,_,rfl,rfl,⟨60,30,B,ok.bd,by decide⟩,λ Y c=>?_⟩
 have c:Y=x * sc.a * sc.d:=c
 subst c
 refine ⟨_,rfl,p,_,_,_,rfl,rfl,.inr b,rfl,_,rfl,p,_,_,_,rfl,rfl,.inr b,rfl,_,_,rfl,rfl,⟨30,30,ok.bt,ok.bb,by decide⟩,λ z o=>⟨_,_,rfl,rfl,λ s f=>?_⟩⟩
 have f:s=eh x 1 sc:=by
   rw [f,o]
   unfold eh
   rw [acW]
 refine ⟨_,rfl,p,_,_,_,rfl,rfl,.inr b,rfl,_,rfl,p,_,_,_,rfl,rfl,.inr b,rfl,_,_,rfl,rfl,⟨30,30,ok.bb,ok.bd,by decide⟩,λ t g=>?_⟩
 have g:t=gQ 1 sc:=by
   rw [g]
   unfold gQ
   rw [acW]
 subst f g
 have r:Bd 60 (gQ 1 sc):=by
   unfold gQ
   rw [acW];exact n
 have W:Bd 91 (eh x 1 sc):=by
   unfold eh
   rw [acW];exact (j.mono (by decide)).add (l.mono (by decide))
 exact ⟨_,_,rfl,fZ ok (by decide),W.mono (by decide),r.mono (by decide),k⟩
def xc (T:Txt K mg Ad):Def P w K mg base "_law_scale" 2 ["_law_cell"] Hr:=by
 refine T.zk.cN kL λ Z Z Z Z Z H vs Q E hr h=>?_
 obtain ⟨c,rfl,k⟩:=h
 refine ⟨_,(ai (cL (i:=1) kL.nd (ay (fN T) hr.m (aa (pv 0) (aa ac af))))
     (ai (cL (i:=2) kL.nd (ar ao (bG (aa (ax Dc ac ac) (aa (ax Dc ac ac) af))) (cH qz (by rfl) T.CK xH (aa (dI cP (ax aI (pv 0) ac) ac (aM _)) af))))
     (ap (aH (aY (aa (ax aO ac (ax aI (ar ao (pv 1) ac) (pv 2))) (aa (ax aO ac (ax aI (ar ao (pv 1) ac) (pv 2))) (aa (ax cQ (ax aI (ar ao (pv 1) ac) (ax aO (ax bF ac (pv 2)) ac)) (pv 2)) (aa (ax aO ac (ax aI (ar ao (pv 1) ac) (pv 2))) af))))))))),?_⟩
 try dsimp only [eS,bj]
 try (refine dQ ?_;intro Z Z Z Z)
 refine ⟨_,rfl,c,4,rfl,by decide,λ e N y s1 Y ln Z=>?_⟩
 refine ⟨_,_,rfl,rfl,⟨by decide,by decide,by decide⟩,λ G v=>⟨_,_,rfl,rfl,⟨by decide,by decide,by decide⟩,λ I U=>⟨vg,λ t W=>⟨_,rfl,_,_,rfl,rfl,by decide,λ r Z Z Z=>⟨rfl,.inr ⟨_,rfl,?_⟩⟩⟩⟩⟩⟩
 have v:G=10000:=by rw [v];rfl
 have U:I=1000000000:=by rw [U];rfl
 subst v U
 generalize decide (V.int r=V.int 3)=B
 have A:∃ M5:Int,oh [V.int 10000,V.int 1000000000] (if B=true then 1 else 0)=some (.int M5)/\1<=M5/\M5<=10 ^ 9:=by
   cases B
   . exact ⟨10000,rfl,by decide,by decide⟩
   . exact ⟨1000000000,rfl,by decide,by decide⟩
 obtain ⟨M5,D,f1,f2⟩:=A
 have u:=ak (o:=.lst [.int 10000,.int 1000000000]) W
 refine ⟨t,_,_,_,rfl,rfl,.inl (aX.of ag),D,?_⟩
 have q:=u _ _ Y
 have S:=s1.trans u
 generalize upd y t (.lst [.int 10000,.int 1000000000])=C at q S |-
 have F:Bd 40 M5:=show M5.natAbs<2 ^ 40 by lia
 obtain ⟨x,X,f,g,rfl⟩:∃ x X f g,N=[x,X,f,g]:=by
   match N,ln with
   | [a,b,c,d],_=>exact ⟨a,b,c,d,rfl⟩
 have s:aX K C e [V.int x,V.int X,V.int f,V.int g]:=aX.of q
 refine ⟨_,rfl,e,_,_,_,rfl,rfl,.inl s,rfl,_,rfl,_,_,rfl,rfl,by lia,λ r1 a0 a1 Z=>⟨_,_,rfl,rfl,λ z M=>?_⟩⟩
 refine ⟨_,rfl,e,_,_,_,rfl,rfl,.inl s,rfl,_,rfl,_,_,rfl,rfl,by lia,λ r2 b0 b1 Z=>⟨_,_,rfl,rfl,λ j Yu=>?_⟩⟩
 refine ⟨_,rfl,e,_,_,_,rfl,rfl,.inl s,rfl,_,rfl,_,_,rfl,rfl,⟨2,40,oN,F,by decide⟩,λ y4 J=>⟨_,_,rfl,rfl,λ y5 L=>⟨_,_,rfl,rfl,by lia,λ r3 c0 c1 Z=>⟨_,rfl,_,_,rfl,rfl,λ l O=>?_⟩⟩⟩⟩
 refine ⟨_,rfl,e,_,_,_,rfl,rfl,.inl s,rfl,_,rfl,_,_,rfl,rfl,by lia,λ r4 d0 d1 Z=>⟨_,_,rfl,rfl,λ n R=>⟨pX,λ p hp=>?_⟩⟩⟩
 exact k p _ ⟨z,j,l,n⟩ ⟨by show 1<=z;lia,by show z<=10 ^ 9;lia,by show 1<=j;lia,by show j<=10 ^ 9;lia,by show -(10 ^ 9)<=l;lia,by show l<=10 ^ 9;lia,by show 1<=n;lia,by show n<=10 ^ 9;lia⟩ (S.trans (ak hp)) ag
def xt (T:Txt K mg Ad):Def P w K mg base "_law_marks" 1 ["_law_xs","_law_bands","_law_ends"] (Eb K):=by
 refine T.yS.cN ky λ Z Z Z Z Z H vs Q E hr h=>?_
 obtain ⟨B,n,ev,rfl,⟨ns,f,ln⟩,n1,n6,he,M,k⟩:=h
 refine ⟨_,(ai (bB (aK ji (pv 2) cy (aM _)) (ai (cL (i:=3) ky.nd (bG (aa (ax cQ (ax aI (ar ao (pv 0) ac) ac) ac) af)))
     (ai (c6 aaH rfl (cg rfl T.dB (aa (pv 1) af)) (ij (i:=4) ky.nd) (ap (bC (im aaF aaM aaL cA (pv 3) (aa (ax aO (ax aO (ar ao (pv 3) (rM uS ac)) ac) (ax aI (ar ao (pv 0) (ax aO ac (pv 4))) ac)) af)))))
     (ap (aH (pv 3))))) aJ)
     (ai (bB (aK cP (pv 1) ac (aM _)) (ap (aH (bG (aa (ar ao (pv 2) ac) (aa (ar ao (pv 2) ac) af))))) aJ)
     (ap (aH (bG (aa (ar ao (pv 2) ac) (aa (ax aO (ax aO (ar ao (pv 2) ac) ac) (ax aI (ar ao (pv 0) ac) (ax cQ (ax cQ (ar ao (pv 2) ac) (ar ao (pv 2) ac)) ac))) (aa (ar ao (pv 2) ac) af)))))))),?_⟩
 try dsimp only [eS,bj]
 try (refine dQ ?_;intro Z Z Z Z)
 refine ⟨_,rfl,rfl,_,rfl,?_⟩
 rcases he with rfl|⟨s,a,b,rfl,J,ea,eb,W⟩
 .
  refine gn ?_
  refine ⟨_,rfl,B,_,_,_,rfl,rfl,.inl f,mM (i:=0) (by lia),_,_,rfl,rfl,by decide,λ m0 R4 ae Z=>⟨_,_,rfl,rfl,λ I ab=>⟨vW,λ u L=>?_⟩⟩⟩
  have ZL : -30<=I/\I<=30:=by lia
  refine ⟨_,rfl,_,rfl,by lia,by lia,?_⟩
  refine fW (lo:=0) (n:=n) (λ j U t=>A3 (aG H t) (∃ (m:List Int),A5 (t u=some (.lst (m.map V.int))) (m.length=j+1) (∀ (a:Nat) (x y:Int),m[a]?=some x->m[a+1]?=some y->x<y) (∀ x∈m,-30<=x/\x<=30+20 * (j:Int)) (∀ x y,m[0]?=some x->m[j]?=some y->x+2 * (j:Int)<=y)) (∃ X,U=[some (.ref B),some (aq n),some .cC,some (.ref u),X]))
    ⟨ak L,⟨[I],ag,rfl,λ a x y h1 M=>?_,λ x f=>?_,λ x y ex d=>?_⟩,none,rfl⟩ ?_ ?_
  . have:=(Br.mp M).1
    have:a+1<1:=this
    lia
  . rw [aac.mp f];exact ⟨ZL.1,by lia⟩
  . rw [ex] at d
    cases d
    exact Int.le_of_eq (Int.add_zero _)
  .
   rintro Z j U t hj ⟨A,⟨m,R,S,C,v,N⟩,X,rfl⟩
   have hl:(m.map V.int).length=j+1:=by rw [No,S]
   have F:m[j]?=some m[j]:=aL (by lia)
   refine ⟨_,rfl,.inl ⟨rfl,_,aX.of R⟩,_,rfl,_,rfl,u,_,_,.int m[j],rfl,rfl,.inl (aX.of R),?_,?_⟩
   . refine BK ?_
     rw [hl,Zj,adm,F];rfl
   refine ⟨_,_,rfl,rfl,λ y1 e1=>⟨_,rfl,_,rfl,_,_,rfl,rfl,λ y2 D=>?_⟩⟩
   obtain rfl:y2=((1+j:Nat):Int):=by rw [D];push_cast;lia
   refine ⟨B,_,_,_,rfl,rfl,.inl (A.seq f),mM (i:=1+j) (by lia),_,_,rfl,rfl,by decide,λ q q0 q1 Z=>⟨_,_,rfl,rfl,λ Y e4=>?_⟩⟩
   have h4:m[j]+2<=Y/\Y<=m[j]+20:=by lia
   clear e4 e1 q0 q1 D
   refine ⟨u,_,_,rfl,rfl,R,bo (by lia),A.put L,⟨m++[Y],by rw [aai];exact ag,by rw [aaf,S];rfl,λ a x y f o=>?_,λ x f=>?_,λ x y ex d=>?_⟩,_,rfl⟩
   .
    by_cases ha:a+1<m.length
    . rw [aan ha] at o
      rw [aan (by lia)] at f
      exact C a x y f o
    .
     have O:=(Br.mp o).1
     rw [aaf,aaD] at O
     have G:a=j:=by lia
     subst G
     rw [aan (by lia),F] at f
     rw [aa0 (by lia),show a+1 - m.length=0 by lia] at o
     cases f
     have o:some Y=some y:=o
     cases o
     lia
   . have ad:=v m[j] (aay _)
     rcases aaz.mp f with h|h
     . have:=v x h;lia
     . rw [aac.mp h];lia
   .
    rw [aan (by lia)] at ex
    rw [aa0 (by lia),show j+1 - m.length=0 by lia] at d
    have d:some Y=some y:=d
    cases d
    have:=N x _ ex F
    lia
  . rintro U t ⟨A,⟨m,R,S,C,v,N⟩,X,rfl⟩
    exact ⟨_,rfl,k u t m A L R ⟨S,C,λ x h=>⟨(v x h).1,by have:=(v x h).2;lia⟩,λ x y ex d=>by have:=N x y ex d;lia⟩⟩
 .
  refine fe ?_
  have n2:n<=2:=by
    rcases M with z|z
    . cases z
    . exact z
  have go:∀ (c:Int) (p:am),a<c->c<b->n=2->H p=none->Q (.ref p) (upd H p (.lst [.int a,.int c,.int b])):=λ c p c1 c2 g l=>k p _ [a,c,b] (ak l) l ag ⟨by rw [g];rfl,λ i x y ex d=>by
      have hi:=(Br.mp d).1
      have hi:i+1<3:=hi
      have:i=0\/i=1:=by lia
      rcases this with rfl|rfl
      . cases ex;cases d;exact c1
      . cases ex;cases d;exact c2,λ x h=>by
      simp only [aab,aae,aaT] at h
      rcases h with rfl|rfl|rfl<;>lia,λ x y ex d=>by
      subst g
      cases ex;cases d;exact W⟩
  refine ⟨_,rfl,rfl,_,rfl,eM (λ e=>?_) (λ e=>?_)⟩
  .
   have g:n=1:=by
     have:=fD.mp e
     lia
   refine ⟨_,rfl,s,_,_,_,rfl,rfl,.inr J,rfl,_,rfl,s,_,_,_,rfl,rfl,.inr J,rfl,vg,λ p l=>?_⟩
   refine k p _ [a,b] (ak l) l ag ⟨by rw [g];rfl,λ i x y ex d=>?_,λ x h=>?_,λ x y ex d=>?_⟩
   . have hi:=(Br.mp d).1
     have hi:i+1<2:=hi
     obtain rfl:i=0:=by lia
     cases ex;cases d;lia
   . simp only [aab,aae,aaT] at h
     rcases h with rfl|rfl<;>lia
   . subst g
     cases ex;cases d;exact W
  .
   have g:n=2:=by
     have:n≠1:=λ z=>e (by rw [z];rfl)
     lia
   refine ⟨_,rfl,s,_,_,_,rfl,rfl,.inr J,rfl,_,rfl,s,_,_,_,rfl,rfl,.inr J,rfl,_,_,rfl,rfl,λ y1 e1=>?_⟩
   refine ⟨_,rfl,B,_,_,_,rfl,rfl,.inl f,mM (i:=1) (by lia),_,rfl,s,_,_,_,rfl,rfl,.inr J,rfl,_,rfl,s,_,_,_,rfl,rfl,.inr J,rfl,_,_,rfl,rfl,λ y2 D=>⟨_,_,rfl,rfl,λ y3 e3=>?_⟩⟩
   refine ⟨_,_,rfl,rfl,by lia,λ r r0 r1 Z=>⟨_,_,rfl,rfl,λ Y e4=>⟨_,rfl,s,_,_,_,rfl,rfl,.inr J,rfl,yF,λ p l=>?_⟩⟩⟩
   exact go Y p (by lia) (by lia) g l
def BD (T:Txt K mg Ad):Def P w K mg base "_law_sky" 1 ["_law_xs","_law_marks_here","_law_fired"] (Jo K):=by
 refine T.Eh.cN gY λ Z Z Z Z Z H vs Q E W h=>?_
 obtain ⟨a,f,m,n,F,rfl,⟨ns,d,X⟩,g,n1,mk,k⟩:=h
 refine ⟨_,(ai (cL (i:=3) gY.nd (ax aO ac (ax aI (ar ao (pv 0) ac) ac)))
     (ai (cL (i:=4) gY.nd (ax cQ (ar ao (pv 1) ac) (ax aI (ar ao (pv 0) ac) ac)))
     (ai (ku (bB (PW.pt (tZ (aK cP (ax aI (ar ao (pv 0) ac) ac) ac (aM _)) (rf (PW.pt (qe (eJ (cT (pv 2))) (mK (aK kS (ax aI (ar ao (pv 0) ac) ac) ac (aM _)))))))) (ap (cL (i:=4) gY.nd (ax aO (ar ao (pv 1) ac) (ax aI (ar ao (pv 0) ac) ac)))) aJ))
     (ai (cL (i:=5) gY.nd (ax aO (pv 4) (ax aI (ar ao (pv 0) ac) ac)))
     (ai (ku (bB (aK vU (ax aI (ar ao (pv 0) ac) ac) ac (aM _)) (ap (cL (i:=5) gY.nd (aV (p7 rfl) (by rfl) T.FB Bq (aa (pv 4) (aa (aV (mP rfl) (by rfl) T.Cm ye (aa (pv 5) (aa (ar ao (pv 1) (rM uS ac)) af))) af))))) aJ))
     (ap (aH (aY (aa (pv 3) (aa (pv 4) (aa (pv 5) af))))))))))),?_⟩
 try dsimp only [eS,bj]
 try (refine jT ?_;intro Z Z Z Z Z Z Z)
 have L:0<m.length:=by rw [mk.len];exact ad8 _
 have C:=mk.bd (m.getD 0 0) (by rw [PY,aL L];exact aay _)
 have A:=mM L
 generalize m.getD 0 0=U at A C
 have O:n<m.length:=by rw [mk.len];exact adx _
 have G:m[n]?=some m[n]:=aL O
 have bl:=mk.bd m[n] (aay _)
 have D:(m.map V.int).length=n+1:=by rw [No,mk.len]
 generalize m[n]=M at G bl
 refine ⟨_,rfl,a,_,_,_,rfl,rfl,.inl d,mM (i:=5) (by lia),_,_,rfl,rfl,by decide,λ r R c Z=>⟨_,_,rfl,rfl,λ s q=>?_⟩⟩
 have z:1<=s/\s<=4:=by lia
 clear q R c
 refine ⟨_,rfl,f,_,_,_,rfl,rfl,.inl g,A,_,rfl,a,_,_,_,rfl,rfl,.inl d,mM (i:=6) (by lia),_,_,rfl,rfl,by decide,λ r R c Z=>⟨_,_,rfl,rfl,λ lo o=>?_⟩⟩
 have S : -60<=lo/\lo<=152:=by lia
 clear o R c
 refine ⟨λ b j=>j=H/\∃ (lo:Int),(-60<=lo/\lo<=152)/\b=[some (.ref a),some (.ref f),some (.bl F),some (.int s),some (.int lo),none],?_,?_⟩
 .
  have Y:∀ {r y:Int},0<=r->r<3->y=U+r->-60<=y/\y<=152:=λ R c e=>by lia
  have N:H=H/\∃ v:Int,(-60<=v/\v<=152)/\[some (V.ref a),some (.ref f),some (.bl F),some (.int s),some (.int lo),none]=[some (.ref a),some (.ref f),some (.bl F),some (.int s),some (.int v),none]:=⟨rfl,lo,S,rfl⟩
  refine ⟨_,rfl,a,_,_,_,rfl,rfl,.inl d,mM (i:=7) (by lia),_,_,rfl,rfl,by decide,λ r Z Z Z=>⟨rfl,_,rfl,eM (λ Z=>gn ?_) (λ Z=>?_)⟩⟩
  . exact ⟨_,rfl,f,_,_,_,rfl,rfl,.inl g,A,_,rfl,a,_,_,_,rfl,rfl,.inl d,mM (i:=6) (by lia),_,_,rfl,rfl,by decide,λ r R c Z=>⟨_,_,rfl,rfl,λ y t=>⟨rfl,y,Y R c t,rfl⟩⟩⟩
  .
   refine ⟨_,rfl,_,rfl,?_⟩
   cases F
   . refine gn ⟨_,rfl,a,_,_,_,rfl,rfl,.inl d,mM (i:=7) (by lia),_,_,rfl,rfl,by decide,λ r Z Z Z=>⟨_,_,rfl,rfl,_,rfl,eM (λ Z=>?_) (λ Z=>N)⟩⟩
     exact ⟨_,rfl,f,_,_,_,rfl,rfl,.inl g,A,_,rfl,a,_,_,_,rfl,rfl,.inl d,mM (i:=6) (by lia),_,_,rfl,rfl,by decide,λ r R c Z=>⟨_,_,rfl,rfl,λ y t=>⟨rfl,y,Y R c t,rfl⟩⟩⟩
   . exact fe (fe N)
 clear S
 rintro b j ⟨rfl,lo,S,rfl⟩
 refine ⟨_,rfl,_,rfl,a,_,_,_,rfl,rfl,.inl d,mM (i:=8) (by lia),_,_,rfl,rfl,by decide,λ r R c Z=>⟨_,_,rfl,rfl,λ hi l=>?_⟩⟩
 have u:lo<=hi/\hi.natAbs<=300:=by lia
 clear l R c
 refine ⟨λ b B=>B=j/\∃ (hi:Int),(lo<=hi/\hi.natAbs<=300)/\b=[some (.ref a),some (.ref f),some (.bl F),some (.int s),some (.int lo),some (.int hi)],?_,?_⟩
 .
  refine ⟨_,rfl,a,_,_,_,rfl,rfl,.inl d,mM (i:=9) (by lia),_,_,rfl,rfl,by decide,λ r Z Z Z=>⟨_,_,rfl,rfl,_,rfl,eM (λ Z=>?_) (λ Z=>⟨rfl,hi,u,rfl⟩)⟩⟩
  refine ⟨_,rfl,_,rfl,_,rfl,_,rfl,f,_,_,_,rfl,rfl,.inl g,BK (by rw [D,Zj,adm,G];rfl),_,_,rfl,_,_,rfl,rfl,_,?_,rfl⟩
  have J:(if M<hi then M else hi)<=300/\-300<=(if M<hi then M else hi):=by split<;>lia
  generalize (if M<hi then M else hi)=y at J |-
  split<;>lia
 rintro b B ⟨rfl,hi,x,rfl⟩
 exact ⟨_,rfl,_,rfl,_,rfl,yF,λ p I=>k p _ (s,lo,hi) (ak I) ag ⟨z,x.1,by show lo.natAbs<=300;lia,x.2⟩⟩
def xJ (T:Txt K mg Ad):Def P w K mg base "_law_shape" 1 ["_law_xs"] (DQ K):=by
 refine T.zg.cN gE λ Z Z Z Z Z H vs Q E hr h=>?_
 obtain ⟨x,rfl,⟨N,A,ln⟩,k⟩:=h
 refine ⟨_,(ai (cL (i:=1) gE.nd (ax aI (ar ao (pv 0) ac) ac))
     (ai (cL (i:=2) gE.nd (ar ao (bG (aa ac (aa ac (aa ac (aa ac (aa ac af)))))) (ax aI (ar ao (pv 0) ac) ac)))
     (ai (bB (PW.pt (qe (aK cP (pv 1) ac (aM _)) (mK (aK cP (ax aI (ar ao (pv 0) ac) ac) ac (aM _))))) (ap (aH (aY (aa (bG (aa ac af)) (aa (bG (aa fP af)) (aa (aY (aa ac (aa ac (aa ac (aa ac af))))) (aa (aY (aa ac (aa ac (aa ac af)))) af))))))) aJ)
     (ai (bB (aK cP (pv 1) ac (aM _)) (ap (aH (aY (aa (bG (aa (ax aO ac (ax aI (ar ao (pv 0) ac) ac)) af)) (aa (bG (aa fP af)) (aa (aY (aa ac (aa ac (aa ac (aa ac af))))) (aa (aY (aa ac (aa (ax aO ac (ax aI (ar ao (pv 0) ac) ac)) (aa (ax eR (pv 2) ac) af)))) af))))))) aJ)
     (ai (bB (aK cP (pv 1) ac (aM _)) (ap (aH (aY (aa (bG (aa (ax aO ac (ax aI (ar ao (pv 0) ac) ac)) af)) (aa (bG (aa fP af)) (aa (aY (aa ac (aa ac (aa ac (aa ac af))))) (aa (aY (aa ac (aa ac (aa ac af)))) af))))))) aJ)
     (ai (bB (aK cP (pv 1) ac (aM _)) (ap (aH (aY (aa (bG (aa (ax aO ac (ax aI (ar ao (pv 0) ac) ac)) af)) (aa (bG (aa fP af)) (aa (aY (aa ac (aa ac (aa ac (aa ac af))))) (aa (aY (aa (ax aO ac (ax aI (ar ao (pv 0) ac) ac)) (aa (ax aI (ar ao (pv 0) ac) ac) (aa (pv 2) af)))) af))))))) aJ)
     (ai (bB (aK kS (pv 1) ac (aM _)) (ap (aH (aY (aa (bG (aa (ax aO ac (ax aI (ar ao (pv 0) ac) ac)) af)) (aa (bG (aa fP af)) (aa (aY (aa ac (aa ac (aa ac (aa ac af))))) (aa (aY (aa (ar ao (bG (aa ac (aa ac (aa ac (aa ac (aa ac af)))))) (ax aI (ar ao (pv 0) ac) ac)) (aa (ax aI (ar ao (pv 0) ac) ac) (aa (pv 2) af)))) af))))))) aJ)
     (ai (cL (i:=3) gE.nd (bG (aa (ax aO ac (ax aI (ar ao (pv 0) ac) ac)) (aa (ax aO ac (ax aI (ax eR (ar ao (pv 0) ac) ac) ac)) af))))
     (ai (bB (aK cP (pv 1) ac (aM _)) (ai (cL (i:=4) gE.nd (dI cP (ax aI (ar ao (pv 0) ac) ac) ac (aM _)))
     (ap (aH (aY (aa (pv 3) (aa (bG (aa (pv 4) (aa (u4 (pv 4)) af))) (aa (aY (aa ac (aa ac (aa ac (aa ac af))))) (aa (aY (aa ac (aa (ax aI (ar ao (pv 0) ac) ac) (aa (pv 2) af)))) af)))))))) aJ)
     (ai (bB (aK cP (pv 1) ac (aM _)) (ap (aH (aY (aa (pv 3) (aa (bG (aa fP (aa fP af))) (aa (aY (aa (ax aI (ar ao (pv 0) ac) ac) (aa ac (aa ac (aa ac af))))) (aa (aY (aa (ar ao (bG (aa ac (aa ac (aa ac af)))) (ax aI (ar ao (pv 0) ac) ac)) (aa (ax aI (ar ao (pv 0) ac) ac) (aa (pv 2) af)))) af))))))) aJ)
     (ai (bB (aK cP (ax aI (ar ao (pv 0) ac) ac) ac (aM _)) (ap (aH (aY (aa (pv 3) (aa (bG (aa fP (aa fP af))) (aa (aY (aa ac (aa ac (aa ac (aa ac af))))) (aa (aY (aa (ax aO ac (ax aI (ar ao (pv 0) ac) ac)) (aa ac (aa ac af)))) af))))))) aJ)
     (ai (bB (aK cP (ax aI (ar ao (pv 0) ac) ac) ac (aM _)) (ap (aH (aY (aa (ax xL (bG (aa ac (aa ac af))) (pv 3)) (aa (bG (aa fP (aa fP (aa fP (aa fP af))))) (aa (aY (aa ac (aa ac (aa ac (aa ac af))))) (aa (aY (aa (ax aO ac (ax aI (ar ao (pv 0) ac) ac)) (aa (ax aI (ar ao (pv 0) ac) ac) (aa (pv 2) af)))) af))))))) aJ)
     (ap (aH (aY (aa (ax xL (pv 3) (bG (aa (ax aO ac (ax aI (ax eR (ar ao (pv 0) ac) ac) ac)) af))) (aa (fJ ["_law_k"] ["_law_xs"] [0] (.cons ⟨rfl,rfl,.inl rfl⟩ .nil) rfl (cg rfl T.dB (aa ac af)) (λ Z Z Z Z Z=>(k9 (i:=0))) (λ Z Z Z Z Z=>cr) (λ Z Z Z Z Z=>(dI cP (ax aI (ar (dZ (K:=K) rfl) (pv 1) ac) ac) (pv 0) (aM _)))) (aa (aY (aa ac (aa ac (aa ac (aa ac af))))) (aa (aY (aa ac (aa ac (aa ac af)))) af))))))))))))))))))),?_⟩
 try dsimp only [eS,bj]
 try (refine DJ ?_;intro Z Z Z Z Z Z Z Z Z Z Z Z Z Z)
 have a0:=mM (ns:=N) (i:=0) (by lia)
 have a1:=mM (ns:=N) (i:=1) (by lia)
 have X:=mM (ns:=N) (i:=2) (by lia)
 have a3:=mM (ns:=N) (i:=3) (by lia)
 have a4:=mM (ns:=N) (i:=4) (by lia)
 have a5:=mM (ns:=N) (i:=5) (by lia)
 refine ⟨_,rfl,x,_,_,_,rfl,rfl,.inl A,a0,_,_,rfl,rfl,by decide,λ kd an aD Z=>?_⟩
 refine ⟨(by show 5<=sizeLine;decide),λ pl gc=>⟨_,rfl,x,_,_,_,rfl,rfl,.inl ((ak gc).seq A),a4,_,_,rfl,rfl,by decide,λ r r0 r1 Z=>?_⟩⟩
 have al:∃ ld:Int,oh [V.int 0,V.int 1,V.int 2,V.int 1,V.int 0] r=some (.int ld)/\0<=ld/\ld<=2:=by
   have:r=0\/r=1\/r=2\/r=3\/r=4:=by lia
   rcases this with rfl|rfl|rfl|rfl|rfl
   . exact ⟨0,rfl,by decide,by decide⟩
   . exact ⟨1,rfl,by decide,by decide⟩
   . exact ⟨2,rfl,by decide,by decide⟩
   . exact ⟨1,rfl,by decide,by decide⟩
   . exact ⟨0,rfl,by decide,by decide⟩
 obtain ⟨ld,ad,Qr,OR⟩:=al
 have S:=ak (o:=.lst [V.int 0,V.int 1,V.int 2,V.int 1,V.int 0]) gc
 refine ⟨pl,_,_,_,rfl,rfl,.inl (aX.of ag),ad,?_⟩
 generalize upd H pl (.lst [V.int 0,V.int 1,V.int 2,V.int 1,V.int 0])=G at S |-
 have k:=λ q pb pf pz po bs L z b kd H' (s:aG G H')=>k q pb pf pz po bs L z b kd H' (S.trans s)
 have A:=S.seq A
 clear S gc r0 r1
 have R:∀ {n:Nat} {z:Int×Int×Int×Int} {b:Int×Int×Int} {kd:aS×aS×Nat×Nat},ve [n] [true] z b kd->∀ {u B J M q:am} (I:G u=none) (p:upd G u (.lst [aq n]) B=none) (f:upd (upd G u (.lst [aq n])) B (.lst [.bl true]) J=none) (F:upd (upd (upd G u (.lst [aq n])) B (.lst [.bl true])) J (.tup [.int z.1,.int z.2.1,.int z.2.2.1,.int z.2.2.2]) M=none) (C:upd (upd (upd (upd G u (.lst [aq n])) B (.lst [.bl true])) J (.tup [.int z.1,.int z.2.1,.int z.2.2.1,.int z.2.2.2])) M (.tup [.int b.1,.int b.2.1,.int b.2.2]) q=none),
     Q (.ref q) (upd (upd (upd (upd (upd G u (.lst [aq n])) B (.lst [.bl true])) J (.tup [.int z.1,.int z.2.1,.int z.2.2.1,.int z.2.2.2])) M (.tup [.int b.1,.int b.2.1,.int b.2.2])) q (.tup [.ref u,.ref B,.ref J,.ref M])) :=
   λ {n z b kd} sh {u B J M q} I p f F C=>jd (H1:=upd G u (.lst [aq n])) sh k (ak I) ag (ak p) ag (ak f) ag F C
 have HB:∀ {u B J:am} {o1 o2 o3:HO} (I:G u=none) (p:upd G u o1 B=none) (f:upd (upd G u o1) B o2 J=none),aX K (upd (upd (upd G u o1) B o2) J o3) x (N.map V.int):=λ I p f=>(((ak I).trans (ak p)).trans (ak f)).seq A
 refine ⟨_,rfl,rfl,_,rfl,eM (λ e4=>?_) (λ e4=>fe ?_)⟩
 .
  refine ⟨_,rfl,x,_,_,_,rfl,rfl,.inl A,X,_,_,rfl,rfl,by decide,λ r r0 r1 Z=>⟨rfl,_,rfl,eM (λ Z=>?_) (λ Z=>?_)⟩⟩
  . exact ⟨vW,λ u I=>⟨vW,λ B p=>⟨pX,λ J f=>⟨yF,λ M F=>⟨pX,λ q C=>R (n:=1) (z:=(0,0,1,0)) (b:=(4,30,0)) (kd:=([2],[0],0,30)) (ve.one (by decide) (by decide) (by decide) (by decide) (by decide) (by decide) (by decide) (by decide)) I p f F C⟩⟩⟩⟩⟩
  refine ⟨_,rfl,rfl,_,rfl,eM (λ Z=>?_) (λ e=>absurd e4 e)⟩
  refine ⟨_,rfl,x,_,_,_,rfl,rfl,.inl A,a1,_,_,rfl,rfl,by decide,λ r r0 r1 Z=>⟨_,_,rfl,rfl,λ y ey=>?_⟩⟩
  obtain ⟨n,rfl⟩:∃ n:Nat,y=(n:Int):=⟨y.toNat,by lia⟩
  refine ⟨vW,λ u I=>⟨vW,λ B p=>⟨pX,λ J f=>?_⟩⟩⟩
  refine ⟨_,rfl,x,_,_,_,rfl,rfl,.inl (HB I p f),X,_,_,rfl,rfl,by decide,λ c c0 c1 Z=>⟨_,_,rfl,rfl,λ Y e2=>⟨_,rfl,_,_,rfl,rfl,⟨by decide,oN⟩,λ y3 e3=>⟨yF,λ M F=>⟨pX,λ q C=>?_⟩⟩⟩⟩⟩
  rw [acb _ (by decide)] at e3
  have KC:4<=Y/\Y<=12:=by lia
  have ae:0<=y3/\y3<=2:=by lia
  exact R (n:=n) (z:=(0,0,1,0)) (b:=(4,Y,y3)) (kd:=([2],[0],0,30)) (ve.one (by decide) (by lia) (by lia) (by decide) (by decide) ⟨(by decide:(0:Int)<=4),(by decide:(4:Int)<=4)⟩ ⟨by show 0<=Y;lia,by show Y<=30;lia,.inr rfl⟩ ae) I p f F C
 refine ⟨_,rfl,rfl,_,rfl,eM (λ e=>absurd e e4) (λ Z=>?_)⟩
 refine ⟨_,rfl,rfl,_,rfl,eM (λ Z=>?_) (λ e2=>?_)⟩
 . refine ⟨_,rfl,x,_,_,_,rfl,rfl,.inl A,a1,_,_,rfl,rfl,by decide,λ r r0 r1 Z=>⟨_,_,rfl,rfl,λ y ey=>?_⟩⟩
   obtain ⟨n,rfl⟩:∃ n:Nat,y=(n:Int):=⟨y.toNat,by lia⟩
   exact ⟨vW,λ u I=>⟨vW,λ B p=>⟨pX,λ J f=>⟨yF,λ M F=>⟨pX,λ q C=>R (n:=n) (z:=(0,1,0,0)) (b:=(4,0,0)) (kd:=([6],[1],0,2)) (ve.one (by decide) (by lia) (by lia) (by decide) (by decide) (by decide) (by decide) (by decide)) I p f F C⟩⟩⟩⟩⟩
 refine ⟨_,rfl,rfl,_,rfl,eM (λ Z=>?_) (λ e3=>?_)⟩
 .
  refine ⟨_,rfl,x,_,_,_,rfl,rfl,.inl A,a1,_,_,rfl,rfl,by decide,λ r r0 r1 Z=>⟨_,_,rfl,rfl,λ y ey=>?_⟩⟩
  obtain ⟨n,rfl⟩:∃ n:Nat,y=(n:Int):=⟨y.toNat,by lia⟩
  refine ⟨vW,λ u I=>⟨vW,λ B p=>⟨pX,λ J f=>?_⟩⟩⟩
  have Kt:=HB (o1:=.lst [aq n]) (o2:=.lst [V.bl true]) (o3:=.tup [V.int 2,V.int 2,V.int 2,V.int 0]) I p f
  refine ⟨_,rfl,x,_,_,_,rfl,rfl,.inl Kt,a3,_,_,rfl,rfl,by decide,λ c c0 c1 Z=>⟨_,_,rfl,rfl,λ Y Qu=>⟨_,rfl,x,_,_,_,rfl,rfl,.inl Kt,X,_,_,rfl,rfl,by decide,λ d W d1 Z=>⟨_,rfl,yF,λ M F=>⟨pX,λ q C=>?_⟩⟩⟩⟩⟩
  have KC:0<=Y/\Y<=4:=by lia
  have hd:0<=d/\d<=30/\(d+2<=((5:Nat):Int)\/5=30):=⟨W,by lia,.inl (by lia)⟩
  exact R (n:=n) (z:=(2,2,2,0)) (b:=(Y,d,ld)) (kd:=([4],[2],2,5)) (ve.one (by decide) (by lia) (by lia) (by decide) (by decide) KC hd ⟨Qr,OR⟩) I p f F C
 refine ⟨_,rfl,_,_,rfl,rfl,_,rfl,eM (λ Z=>?_) (λ lt=>?_)⟩
 .
  refine ⟨_,rfl,x,_,_,_,rfl,rfl,.inl A,a1,_,_,rfl,rfl,by decide,λ r r0 r1 Z=>⟨_,_,rfl,rfl,λ y ey=>?_⟩⟩
  obtain ⟨n,rfl⟩:∃ n:Nat,y=(n:Int):=⟨y.toNat,by lia⟩
  refine ⟨vW,λ u I=>⟨vW,λ B p=>⟨pX,λ J f=>⟨(by show 5<=sizeLine;decide),λ p6 h6=>?_⟩⟩⟩⟩
  have s6:=ak (o:=.lst [V.int 4,V.int 1,V.int 2,V.int 4,V.int 0]) h6
  have Kt:=s6.seq (HB (o1:=.lst [aq n]) (o2:=.lst [V.bl true]) (o3:=.tup [V.int 1,V.int 1,V.int 1,V.int 0]) I p f)
  refine ⟨_,rfl,x,_,_,_,rfl,rfl,.inl Kt,a3,_,_,rfl,rfl,by decide,λ c c0 c1 Z=>?_⟩
  have al:∃ O:Int,oh [V.int 4,V.int 1,V.int 2,V.int 4,V.int 0] c=some (.int O)/\0<=O/\O<=4:=by
    have:c=0\/c=1\/c=2\/c=3\/c=4:=by lia
    rcases this with rfl|rfl|rfl|rfl|rfl
    . exact ⟨4,rfl,by decide,by decide⟩
    . exact ⟨1,rfl,by decide,by decide⟩
    . exact ⟨2,rfl,by decide,by decide⟩
    . exact ⟨4,rfl,by decide,by decide⟩
    . exact ⟨0,rfl,by decide,by decide⟩
  obtain ⟨O,NN,R4,VH⟩:=al
  refine ⟨p6,_,_,_,rfl,rfl,.inl (aX.of ag),NN,?_⟩
  refine ⟨_,rfl,x,_,_,_,rfl,rfl,.inl Kt,X,_,_,rfl,rfl,by decide,λ d W d1 Z=>⟨_,rfl,yF,λ M F=>⟨pX,λ q C=>?_⟩⟩⟩
  have hd:0<=d/\d<=30/\(d+2<=((5:Nat):Int)\/5=30):=⟨W,by lia,.inl (by lia)⟩
  exact jd (bs:=[n]) (fs:=[true]) (z:=(1,1,1,0)) (b:=(O,d,ld)) (kd:=([4],[2],2,5)) (ve.one (by decide) (by lia) (by lia) (by decide) (by decide) ⟨R4,VH⟩ hd ⟨Qr,OR⟩) k (H1:=upd G u (.lst [aq n])) (ak I) ag (ak p) ag ((ak f).trans s6) (s6 _ _ ag) F C
 refine ⟨_,rfl,x,_,_,_,rfl,rfl,.inl A,a1,_,_,rfl,rfl,by decide,λ r r0 r1 Z=>⟨_,_,rfl,rfl,λ y ey=>⟨_,rfl,x,_,_,_,rfl,rfl,.inl A,a1,_,_,rfl,rfl,⟨by decide,oN⟩,λ w Z=>⟨_,_,rfl,rfl,by decide,λ t t0 t1 Z=>⟨_,_,rfl,rfl,λ Y Qu=>⟨vg,λ u I=>?_⟩⟩⟩⟩⟩⟩
 obtain ⟨n,rfl⟩:∃ n:Nat,y=(n:Int):=⟨y.toNat,by lia⟩
 obtain ⟨m,rfl⟩:∃ m:Nat,Y=(m:Int):=⟨Y.toNat,by lia⟩
 have hn:1<=n/\n<=2:=by lia
 have hm:1<=m/\m<=2:=by lia
 clear ey Qu r0 r1 t0 t1
 have S:=ak (o:=.lst [aq n,aq m]) I
 have e1:upd G u (.lst [aq n,aq m]) u=some (.lst [aq n,aq m]):=ag
 have A:=S.seq A
 change aG G (upd G u (.lst [V.int (n:Int),V.int (m:Int)])) at S
 change upd G u (.lst [V.int (n:Int),V.int (m:Int)]) u=_ at e1
 change aX K (upd G u (.lst [V.int (n:Int),V.int (m:Int)])) x _ at A
 generalize upd G u (.lst [V.int (n:Int),V.int (m:Int)])=H2 at S e1 A |-
 clear R HB
 refine ⟨_,rfl,rfl,_,rfl,eM (λ Z=>?_) (λ e5=>?_)⟩
 .
  refine ⟨_,rfl,x,_,_,_,rfl,rfl,.inl A,a3,_,_,rfl,rfl,by decide,λ c c0 c1 Z=>⟨rfl,_,rfl,_,rfl,_,rfl,_,rfl,vg,λ B p=>⟨pX,λ J f=>?_⟩⟩⟩
  generalize decide (V.int c=V.int 0)=fi at *
  have s3:=(ak (o:=.lst [V.bl fi,V.bl (!fi)]) p).trans (ak (o:=.tup [V.int 1,V.int 1,V.int 1,V.int 0]) f)
  refine ⟨_,rfl,x,_,_,_,rfl,rfl,.inl (s3.seq A),X,_,_,rfl,rfl,by decide,λ d W d1 Z=>⟨_,rfl,yF,λ M F=>⟨pX,λ q C=>?_⟩⟩⟩
  exact jd (bs:=[n,m]) (fs:=[fi,!fi]) (z:=(1,1,1,0)) (b:=(4,d,ld)) (kd:=([2,2],[1,1],1,4)) (ve.two hn hm (by decide) ⟨(by decide:(0:Int)<=4),(by decide:(4:Int)<=4)⟩ ⟨W,by show d<=2;lia⟩ ⟨Qr,OR⟩) k S e1 (ak p) ag (ak f) ag F C
 refine ⟨_,rfl,rfl,_,rfl,eM (λ Z=>?_) (λ e6=>?_)⟩
 .
  refine ⟨_,rfl,vg,λ B p=>?_⟩
  have HF:=(ak (o:=.lst [V.bl true,V.bl true]) p).seq A
  refine ⟨_,rfl,x,_,_,_,rfl,rfl,.inl HF,a5,_,_,rfl,rfl,by decide,λ c c0 c1 Z=>⟨pX,λ J f=>⟨yF,λ p6 h6=>?_⟩⟩⟩
  have s6:=ak (o:=.lst [V.int 4,V.int 2,V.int 1]) h6
  have RQ:=((ak (o:=.tup [V.int c,V.int 1,V.int 1,V.int 1]) f).trans s6).seq HF
  refine ⟨_,rfl,x,_,_,_,rfl,rfl,.inl RQ,a3,_,_,rfl,rfl,by decide,λ c2 ah aj Z=>?_⟩
  have al:∃ O:Int,oh [V.int 4,V.int 2,V.int 1] c2=some (.int O)/\0<=O/\O<=4:=by
    have:c2=0\/c2=1\/c2=2:=by lia
    rcases this with rfl|rfl|rfl
    . exact ⟨4,rfl,by decide,by decide⟩
    . exact ⟨2,rfl,by decide,by decide⟩
    . exact ⟨1,rfl,by decide,by decide⟩
  obtain ⟨O,NN,R4,VH⟩:=al
  refine ⟨p6,_,_,_,rfl,rfl,.inl (aX.of ag),NN,?_⟩
  refine ⟨_,rfl,x,_,_,_,rfl,rfl,.inl RQ,X,_,_,rfl,rfl,by decide,λ d W d1 Z=>⟨_,rfl,yF,λ M F=>⟨pX,λ q C=>?_⟩⟩⟩
  exact jd (bs:=[n,m]) (fs:=[true,true]) (z:=(c,1,1,1)) (b:=(O,d,ld)) (kd:=([2,2],[1,1],1,4)) (ve.two hn hm ⟨⟨c0,by show c<=1;lia⟩,(by decide:(1:Int)<=1),⟨(by decide:(0:Int)<=1),(by decide:(1:Int)<=2)⟩,⟨(by decide:(0:Int)<=1),(by decide:(1:Int)<=1)⟩⟩ ⟨R4,VH⟩ ⟨W,by show d<=2;lia⟩ ⟨Qr,OR⟩) k S e1 (ak p) ag ((ak f).trans s6) (s6 _ _ ag) F C
 refine ⟨_,rfl,x,_,_,_,rfl,rfl,.inl A,a3,_,_,rfl,rfl,by decide,λ c c0 c1 Z=>⟨rfl,_,rfl,eM (λ Z=>?_) (λ Z=>?_)⟩⟩
 .
  refine ⟨_,rfl,vg,λ B p=>⟨pX,λ J f=>?_⟩⟩
  have s3:=(ak (o:=.lst [V.bl true,V.bl true]) p).trans (ak (o:=.tup [V.int 0,V.int 0,V.int 0,V.int 0]) f)
  refine ⟨_,rfl,x,_,_,_,rfl,rfl,.inl (s3.seq A),X,_,_,rfl,rfl,by decide,λ d W d1 Z=>⟨_,_,rfl,rfl,λ y ey=>⟨yF,λ M F=>⟨pX,λ q C=>?_⟩⟩⟩⟩
  exact jd (bs:=[n,m]) (fs:=[true,true]) (z:=(0,0,0,0)) (b:=(y,0,0)) (kd:=([2,2],[1,1],1,4)) (ve.two hn hm (by decide) ⟨by show 0<=y;lia,by show y<=4;lia⟩ ⟨(by decide:(0:Int)<=0),(by decide:(0:Int)<=2)⟩ ⟨(by decide:(0:Int)<=0),(by decide:(0:Int)<=2)⟩) k S e1 (ak p) ag (ak f) ag F C
 refine ⟨_,rfl,x,_,_,_,rfl,rfl,.inl A,a3,_,_,rfl,rfl,by decide,λ c c0 c1 Z=>⟨rfl,_,rfl,eM (λ Z=>?_) (λ Z=>?_)⟩⟩
 .
  refine ⟨vg,λ p0 h0=>⟨_,rfl,?_⟩⟩
  have s0:=ak (o:=.lst [V.int 1,V.int 1]) h0
  refine ⟨p0,u,_,_,rfl,rfl,ag,s0 _ _ e1,(by show 4<=sizeLine;decide),λ B p=>⟨pX,λ J f=>⟨pX,λ p5 C=>?_⟩⟩⟩
  have s2:=s0.trans (ak (o:=.lst [V.int 1,V.int 1,aq n,aq m]) p)
  have s5:=s2.trans ((ak (o:=.lst [V.bl false,V.bl false,V.bl true,V.bl true]) f).trans (ak (o:=.tup [V.int 0,V.int 1,V.int 1,V.int 0]) C))
  refine ⟨_,rfl,x,_,_,_,rfl,rfl,.inl (s5.seq A),a5,_,_,rfl,rfl,by decide,λ g g0 g1 Z=>⟨_,_,rfl,rfl,λ y ey=>⟨_,rfl,x,_,_,_,rfl,rfl,.inl (s5.seq A),X,_,_,rfl,rfl,by decide,λ d W d1 Z=>⟨_,rfl,yF,λ M F=>⟨pX,λ q h6=>?_⟩⟩⟩⟩⟩
  exact jd (bs:=[1,1,n,m]) (fs:=[false,false,true,true]) (z:=(0,1,1,0)) (b:=(y,d,ld)) (kd:=([1,1,2,2],[0,0,1,1],0,3)) (ve.four hn hm ⟨by show 0<=y;lia,by show y<=4;lia⟩ ⟨W,by show d<=1;lia⟩ ⟨Qr,OR⟩) k (S.trans s2) ag (ak f) ag (ak C) ag F h6
 refine ⟨_,rfl,?_⟩
 refine ⟨_,rfl,x,_,_,_,rfl,rfl,.inl A,a1,_,_,rfl,rfl,⟨by decide,oN⟩,λ w Z=>⟨_,_,rfl,rfl,by decide,λ t t0 t1 Z=>⟨_,_,rfl,rfl,λ Y Qu=>⟨vW,λ p0 h0=>?_⟩⟩⟩⟩
 obtain ⟨l,rfl⟩:∃ l:Nat,Y=(l:Int):=⟨Y.toNat,by lia⟩
 have hl:1<=l/\l<=2:=by lia
 have s0:=ak (o:=.lst [aq l]) h0
 refine ⟨u,p0,_,_,rfl,rfl,s0 _ _ e1,ag,(by show 3<=sizeLine;decide),λ B p=>?_⟩
 have s2:=s0.trans (ak (o:=.lst [aq n,aq m,aq l]) p)
 have e2:upd (upd H2 p0 (.lst [V.int (l:Int)])) B (.lst ([aq n,aq m]++[V.int (l:Int)])) B=some (.lst [aq n,aq m,aq l]):=ag
 have s2:aG H2 (upd (upd H2 p0 (.lst [V.int (l:Int)])) B (.lst ([aq n,aq m]++[V.int (l:Int)]))):=s2
 generalize upd (upd H2 p0 (.lst [V.int (l:Int)])) B (.lst ([aq n,aq m]++[V.int (l:Int)]))=H3 at s2 e2 |-
 refine ⟨_,rfl,by decide,by decide,λ D hD=>?_⟩
 refine dR (lo:=0) (n:=3) (λ j ab U H'=>A4 (aG H3 H') (H' D=some (.lst ab)) (∃ (L:List Bool),ab=L.map V.bl/\L.length=j) (∃ v,U=[v,some (.ref x)])) ⟨ak hD,ag,⟨[],rfl,rfl⟩,none,rfl⟩ ?_ ?_
 . rintro j ab U H' hj ⟨s4,yL,⟨L,rfl,lf⟩,v,rfl⟩
   refine ⟨_,rfl,x,_,_,_,rfl,rfl,.inl ((s2.trans s4).seq A),X,_,_,rfl,rfl,by decide,λ c c0 c1 Z=>⟨_,rfl,rfl,yL,bo (by rw [No];lia),s4.put hD,ag,⟨L++[_],by rw [aai];rfl,by rw [aaf,lf];rfl⟩,_,rfl⟩⟩
 .
  rintro ab U H4 ⟨s4,yL,⟨L,rfl,lf⟩,v,rfl⟩
  obtain ⟨f1,f2,f3,rfl⟩:∃ a b c,L=[a,b,c]:=by
    match L,lf with
    | [a,b,c],_=>exact ⟨a,b,c,rfl⟩
  refine ⟨pX,λ J f=>⟨yF,λ M F=>⟨pX,λ q C=>?_⟩⟩⟩
  exact jd (bs:=[n,m,l]) (fs:=[f1,f2,f3]) (z:=(0,0,0,0)) (b:=(4,0,0)) (kd:=([2,2,2],[0,0,0],0,2)) (ve.three hn hm hl) k (S.trans s2) e2 s4 yL (ak f) ag F C
theorem uL {H:Hp}:∀ l:List Int,bL K H (l.map PyData.int) (l.map V.int)
 | []=>dS
 | x::l=>br rfl (uL l)
def zI (T:Txt K mg Ad):Def P w K mg base "_law_room" 4 ["_law_xs","_law_marks_here","_law_sky_here","_law_stove","_law_scale_here","_law_flows"] (GK K):=by
 refine T.A1.cN fh λ Z Z Z Z Z H vs Q E hr h=>?_
 obtain ⟨px,pm,M,n,C,S,sv,yE,s,pf,fl,zo,rfl,⟨ns,hx,ln⟩,hm,n6,mk,W,Gw,jG,N,ok,hf,k⟩:=h
 refine ⟨_,(ai (cL (i:=6) fh.nd cy)
     (ai (ku (bB (aK oZ (pv 3) cy (aM _)) (ai (cL (i:=7) fh.nd (aV (p7 rfl) (by rfl) T.FB Bq (aa ac (aa (ax cQ (ax aO (ax eR (ax aO (ax bF (ar ao (pv 2) ac) (ax cQ (ar ao (pv 1) ac) (ar ao (pv 2) ac))) ac) ac) (ax aI (ar ao (pv 0) ac) ac)) ac) af))))
     (ai (cL (i:=8) fh.nd (ax aI (ar ao (pv 0) ac) (ax aO (ar ao (pv 3) ac) ac)))
     (ai (cL (i:=9) fh.nd (ax aO (ar ao (pv 3) ac) (ax aI (ar ao (pv 0) ac) (ax cQ (ax aO (ar ao (pv 3) ac) ac) (ar ao (pv 3) ac)))))
     (ap (cL (i:=6) fh.nd (aY (aa (ay (ia T) hr.m (aa (ax bF (pv 7) (ar ao (pv 4) ac)) (aa (ar ao (pv 4) ac) af))) (aa (pv 8) (aa (ax aI (ar ao (pv 0) ac) (ax aO (ar ao (pv 3) ac) ac)) (aa (pv 9) af)))))))))) aJ))
     (ai (cL (i:=10) fh.nd (aY (aa (ar ao (pv 2) ac) (aa (ay (jA T) hr.m (aa (ar ao (pv 2) ac) (aa (pv 4) af))) (aa (ay (jA T) hr.m (aa (ar ao (pv 2) ac) (aa (pv 4) af))) af)))))
     (ap (aH (aY (aa (fJ ["_law_one"] ["_law_scale_here"] [4] (.cons ⟨rfl,rfl,.inl rfl⟩ .nil) rfl (cf (pv 1)) (λ Z Z Z Z Z=>(k9 (i:=0))) (λ Z Z Z Z Z=>cr) (λ Z Z Z Z Z=>(ay (jA T) hr.m (aa (pv 0) (aa (pv 1) af))))) (aa (pv 10) (aa (pv 6) (aa (pv 5) af)))))))))),?_⟩
 try dsimp only [eS,bj]
 try (refine eP ?_;intro Z Z Z Z Z)
 have l0:0<M.length:=by rw [mk.len];exact ad8 _
 have a0:=mM l0
 have b0:=mk.bd (M.getD 0 0) (by rw [PY,aL l0];exact aay _)
 generalize M.getD 0 0=mf at a0 b0
 have k1:=Gw.sh
 have k2:=Gw.lo
 have k3:=Gw.hi
 refine ⟨λ ab H'=>aG H H'/\E5 λ (tv:V) (u:Option (cq×Int×Int×Int)) (x7 x8 x9:eL)=>A4 (Dn K H' (fz u) tv) (zo=none->u=none) (∀ z,zo=some z->∃ t,u=some t/\dY 100 t.1/\0<=t.1.1/\(0<=t.2.1/\t.2.1<=z.2.2.1)/\(0<=t.2.2.1/\t.2.2.1<=z.1)/\(0<=t.2.2.2/\t.2.2.2<=z.2.1)) (ab=[some (.ref px),some (.ref pm),some (.ref C),some sv,some (.ref yE),some (.ref pf),some tv,x7,x8,x9,none]),?_,?_⟩
 .
  refine ⟨_,rfl,rfl,_,rfl,?_⟩
  rcases jG with ⟨rfl,rfl⟩|⟨pz,z,rfl,rfl,B,hz⟩
  . exact fQ rfl ⟨aG.refl _,.cC,none,none,none,none,K9,λ Z=>rfl,nofun,rfl⟩
  refine En (λ Z=>?_) (λ q=>nomatch q)
  obtain ⟨z1,z2,z3,z4⟩:=hz
  refine ⟨_,rfl,C,_,_,_,rfl,rfl,.inr W,rfl,_,rfl,pm,_,_,_,rfl,rfl,.inl hm,a0,_,rfl,C,_,_,_,rfl,rfl,.inr W,rfl,_,_,rfl,rfl,λ y1 e1=>?_⟩
  have e1:y1=mf - S.2.1:=e1
  refine ⟨_,_,rfl,rfl,⟨10,10,(show Int.natAbs _<2 ^ 10 by lia),(show Int.natAbs _<2 ^ 10 by lia),by decide⟩,λ y2 e2=>⟨_,_,rfl,rfl,λ y3 e3=>⟨_,_,rfl,rfl,⟨by decide,oN⟩,λ y4 e4=>?_⟩⟩⟩
  rw [acb _ (by decide)] at e4
  have KC:y2.natAbs<=2000:=by
    have:=PR (x:=4) (y:=500) (a:=S.1) (b:=y1) (by lia) (by lia)
    rw [e2];exact this
  have al:y4.natAbs<=300:=by lia
  clear e4 e3 e2 KC
  refine ⟨_,rfl,px,_,_,_,rfl,rfl,.inl hx,mM (i:=10) (by lia),_,_,rfl,rfl,by decide,λ c c0 c1 Z=>⟨_,_,rfl,rfl,λ y5 e5=>⟨_,_,rfl,rfl,λ Y e6=>⟨_,_,rfl,?_⟩⟩⟩⟩
  have an:Y.natAbs<=400:=by lia
  have hh:0<=(if Y > 0 then Y else 0)/\(if Y > 0 then Y else 0)<=400:=by split<;>lia
  generalize (if Y > 0 then Y else 0)=he at hh |-
  clear e5 e6 an al c0 c1
  refine ⟨_,rfl,px,_,_,_,rfl,rfl,.inl hx,mM (i:=11) (by lia),_,rfl,pz,_,_,_,rfl,rfl,.inr B,rfl,_,_,rfl,rfl,λ y7 e7=>⟨_,_,rfl,rfl,by lia,λ wo w0 w1 Z=>?_⟩⟩
  refine ⟨_,rfl,pz,_,_,_,rfl,rfl,.inr B,rfl,_,rfl,px,_,_,_,rfl,rfl,.inl hx,mM (i:=13) (by lia),_,rfl,pz,_,_,_,rfl,rfl,.inr B,rfl,_,_,rfl,rfl,λ y8 e8=>⟨_,rfl,pz,_,_,_,rfl,rfl,.inr B,rfl,_,_,rfl,rfl,λ y9 e9=>⟨_,_,rfl,rfl,by lia,λ c c0 c1 Z=>⟨_,_,rfl,rfl,λ fa ae=>?_⟩⟩⟩⟩
  have aj:0<=wo/\wo<=z.2.2.1:=by lia
  have ah:0<=fa/\fa<=z.2.1:=by lia
  clear e7 e8 e9 ae c0 c1 w0 w1
  have oa:=ok.a0
  have ob:=ok.b0
  have bh:Bd 10 he:=show he.natAbs<2 ^ 10 by lia
  refine ⟨_,rfl,_,rfl,yE,_,_,_,rfl,rfl,.inr N,rfl,_,_,rfl,rfl,⟨10,30,bh,ok.ba,by decide⟩,λ y O=>⟨_,rfl,yE,_,_,_,rfl,rfl,.inr N,rfl,_,_,rfl,by show 0<s.b;lia,?_,ok.bb.mono (by decide),λ pr H1 f h1=>?_⟩⟩
  . rw [O];exact (bh.mul ok.ba).mono (by decide)
  have O:y=he * s.a:=O
  have y0:0<=y:=by rw [O];exact abY hh.1 (by lia)
  have EZ:Bd 100 y:=by rw [O];exact (bh.mul ok.ba).mono (by decide)
  have B:=f.tup B
  refine ⟨_,rfl,_,rfl,px,_,_,_,rfl,rfl,.inl (f.seq hx),mM (i:=12) (by lia),_,rfl,pz,_,_,_,rfl,rfl,.inr B,rfl,_,_,rfl,rfl,λ y7 e7=>⟨_,_,rfl,rfl,by lia,λ st aF aN Z=>⟨_,rfl,pX,λ p hp=>?_⟩⟩⟩
  have G:=ak (o:=.tup [V.ref pr,V.int wo,V.int st,V.int fa]) hp
  refine ⟨f.trans G,.ref p,some (nf y s.b,wo,st,fa),_,_,_,fX (bY.of ag) (br (jl (bY.of (G _ _ h1))) (br nX (br nX (br nX dS)))),nofun,λ z' R=>?_,rfl⟩
  cases R
  exact ⟨_,rfl,G5 (by lia) EZ (ok.bb.mono (by decide)),Ov.nonneg (by lia) (Ov.nf (by lia)) y0,aj,by lia,ah⟩
 rintro ab H1 ⟨f,tv,u,x7,x8,x9,dt,no,st,rfl⟩
 refine ⟨_,rfl,C,_,_,_,rfl,rfl,.inr (f.tup W),rfl,_,rfl,C,_,_,_,rfl,rfl,.inr (f.tup W),rfl,_,rfl,_,_,s,rfl,f.tup N,ok,by lia,λ q1 H2 G h2=>?_⟩
 have S2:=f.trans G
 refine ⟨_,rfl,C,_,_,_,rfl,rfl,.inr (S2.tup W),rfl,_,rfl,_,_,s,rfl,S2.tup N,ok,by lia,λ q2 d l h3=>⟨yF,λ F ZC=>?_⟩⟩
 have s4:=ak (o:=.tup [V.int S.1,V.ref q1,V.ref q2]) ZC
 have dw:Dn K (upd d F (.tup [V.int S.1,V.ref q1,V.ref q2])) (.tuple [.int S.1,dW (aR S.2.1 1 s),dW (aR S.2.2 1 s)]) (.ref F):=fX (bY.of ag) (br nX (br (jl (bY.of ((l.trans s4) _ _ h2))) (br (jl (bY.of (s4 _ _ h3))) dS)))
 have g:=(S2.trans l).trans s4
 have ZY:=(G.trans l).trans s4
 generalize upd d F (.tup [V.int S.1,V.ref q1,V.ref q2])=H4 at dw g ZY |-
 clear s4 h3 h2 G l S2 ZC
 refine ⟨_,rfl,pm,rfl,⟨_,g.seq hm⟩,λ D hD=>?_⟩
 refine cR (K:=K) (a:=pm) (xs:=M.map V.int) (λ j A U d=>A4 (aG H4 d) (d D=some (.lst A)) (bL K d ((M.take j).map λ x=>dW (aR x 1 s)) A) (∃ v,U=[v,some (.ref yE)]))
   ⟨ak hD,ag,dS,none,rfl⟩ (λ j A U d Z e=>(g.trans e.1).seq hm) ?_ ?_
 .
  rintro j y A U d X ⟨l,kR,d3,v,rfl⟩
  obtain ⟨z,R,rfl⟩:∃ z,M[j]?=some z/\V.int z=y:=by
    rw [Zj] at X
    cases e:M[j]? with
    | none=>rw [e] at X;cases X
    | some r=>rw [e] at X;cases X;exact ⟨r,rfl,rfl⟩
  have hz:=mk.bd z (aah R)
  have aD:=(Br.mp R).1
  have lm:=mk.len
  have la:A.length=j:=by rw [d3.length,No,aaK];lia
  refine ⟨_,rfl,_,rfl,z,yE,s,rfl,(g.trans l).tup N,ok,by lia,λ q J I h5=>?_⟩
  have SD:aT K J (upd J D (.lst (A++[.ref q]))):=bV (I _ _ kR) rfl
  refine ⟨I _ _ kR,bo (by lia),(l.trans I).put hD,ag,?_,_,rfl⟩
  rw [acr,R,aai]
  exact (bL.ts ((aG.ts I).trans SD) _ (mJ _ _) d3).snoc (Dn.ts SD _ (iP _) (jl (bY.of h5)))
 .
  rintro A U J ⟨I,Lu,d5,v,rfl⟩
  rw [No,aaB] at d5
  refine ⟨_,rfl,_,rfl,_,rfl,pX,λ q hq=>?_⟩
  have s6:=ak (o:=.tup [V.ref D,V.ref F,tv,V.ref pf]) hq
  have HI:=I.trans s6
  refine k q _ ⟨M.map λ x=>aR x 1 s,S.1,aR S.2.1 1 s,aR S.2.2 1 s,u,fl⟩ (g.trans HI) (λ L us hL nL=>?_) ⟨rfl,rfl,rfl,rfl,rfl,no,st⟩
  have S6:=g.trans HI
  have nt:aT K _ _:=Gs (K:=K) (H:=upd J q (.tup [V.ref D,V.ref F,tv,V.ref pf])) (L:=[L]) ?_
  .
   have nD:D∉[L]:=λ z=>by
     rw [aac.mp z,g _ _ hL] at hD
     cases hD
   have nf:pf∉[L]:=λ z=>nL (aac.mp z).symm
   have ad:Dn K (cU (upd J q (.tup [V.ref D,V.ref F,tv,V.ref pf])) [L]) (fz u) tv:=Dn.ts nt _ (by cases u<;>simp [fz,eQ,dW]) (Dn.same (ZY.trans HI) _ dt)
   refine fX (nt _ _ (bY.of ag)) (br (rj (aX.of (iz (s6 _ _ Lu) nD)) ?_) (br (Dn.ts nt _ (by simp [eQ,dW]) (Dn.same HI _ dw)) (br ad (br (rj (aX.of (iz (S6 _ _ hf) nf)) (uL fl)) dS))))
   rw [acj]
   exact bL.ts nt _ (mJ _ _) (bL.same s6 _ d5)
  . intro b hb
    rw [aac.mp hb]
    exact ⟨_,S6 _ _ hL,rfl⟩
def yD (T:Txt K mg Ad):Def P w K mg base "_law_plain" 5 ["_law_script","_law_at","_law_scale_here"] (ES K):=by
 refine T.zC.cN bK λ Z Z Z Z Z H l Q E D h=>?_
 obtain ⟨ps,ns,J,yE,sc,rfl,hs,K6,ok,k⟩:=h
 refine ⟨_,(ai (cL (i:=3) bK.nd (ay (fN T) D.m (aa (ay (fm T) D.m (aa (pv 0) (aa (pv 1) af))) (aa ac af))))
     (ai (iW (ay (xJ T) D.m (aa (pv 3) af)) (cW (K:=K) (n:=4) rfl rfl (aP (ij (i:=4) bK.nd) (aP (ij (i:=5) bK.nd) (aP (ij (i:=6) bK.nd) (aP (ij (i:=7) bK.nd) cZ))))))
     (ai (cL (i:=8) bK.nd (bG af))
     (ai (cL (i:=9) bK.nd cy)
     (ai (c6 aaH rfl (cg rfl T.dB (aa (aV bH (by rfl) T.eF cK (aa (pv 4) af)) af)) (ij (i:=10) bK.nd) (ai (cL (i:=11) bK.nd (ay (fN T) D.m (aa (ax aO (ay (fm T) D.m (aa (pv 0) (aa (ax aO (pv 1) ac) af))) (ax bF ac (pv 10))) (aa ac af))))
     (ai (cL (i:=12) bK.nd (ay (xt T) D.m (aa (pv 11) (aa (ar ao (pv 4) (pv 10)) (aa (pv 9) af)))))
     (ai (cL (i:=13) bK.nd (ay (BD T) D.m (aa (pv 11) (aa (pv 12) (aa (ar ao (pv 5) (pv 10)) af)))))
     (ai (cL (i:=14) bK.nd cy)
     (ai (ku (bB (cT (ar ao (pv 5) (pv 10))) (ap (cL (i:=14) bK.nd (pv 6))) aJ))
     (ai (cL (i:=15) bK.nd (ax cQ ac (cH qz (by rfl) T.CK xH (aa (dI cP (aV bH (by rfl) T.eF cK (aa (pv 4) af)) ac (aM _)) af))))
     (ai (rN (yi:=16) ["_law_of"] ["_law_share","_law_ys","_law_k"] [15,11,10] (.cons ⟨rfl,rfl,.inl rfl⟩ (.cons ⟨rfl,rfl,.inl rfl⟩ (.cons ⟨rfl,rfl,.inl rfl⟩ .nil))) rfl (cg rfl T.dB (aa (aV bH (by rfl) T.eF cK (aa (pv 4) af)) af)) (λ Z Z Z Z Z=>(k9 (i:=0))) (λ Z Z Z Z Z=>cr) (λ Z Z Z Z Z=>(ax bF (ax aI (ar (dZ (K:=K) rfl) (pv 2) (ax aO ac (ax aI (pv 0) ac))) (pv 1)) (cH qz (by rfl) T.CK xH (aa (dI rR (pv 0) (pv 3) (aM _)) af)))) bK.nd (lc rfl))
     (ai (bC (im aaF aaM aaL cA (pv 8) (aa (ay (zI T) D.m (aa (pv 11) (aa (pv 12) (aa (pv 13) (aa (pv 14) (aa (pv 2) (aa (pv 16) af))))))) af)))
     (ap (bB (PW.pt (qe (aK vU (ax aI (ar ao (pv 3) ac) ac) ac (aM _)) (mK (aK cP (pv 10) ac (aM _))))) (ap (cL (i:=9) bK.nd (aY (aa (ar ao (pv 12) ac) (aa (ar ao (pv 12) (rM uS ac)) af))))) aJ)))))))))))
     (ap (aH (aY (aa (pv 8) (aa (pv 7) af)))))))))),?_⟩
 try dsimp only [eS,bj]
 try (refine jT ?_;intro Z Z Z Z Z Z Z)
 refine ⟨_,rfl,_,rfl,ps,ns,(J:Int),rfl,hs,by lia,λ c Z=>⟨c,8,rfl,by decide,λ px xs H1 s1 h1 lx Z=>?_⟩⟩
 refine ⟨_,rfl,px,rfl,⟨xs,aX.of h1,lx⟩,λ q pb pf pz po N Y z b kd H2 s2 hq hb hf hz ho S=>?_⟩
 refine ⟨q,_,rfl,bY.of hq,rfl,_,_,rfl,_,_,rfl,_,_,rfl,_,_,rfl,rfl,?_⟩
 have S2:=s1.trans s2
 obtain ⟨a2,a3,aF,aD⟩:=zH S.kk
 have lb:=S.lb
 have lf:=S.lf
 have HF:=s2 _ _ h1
 refine ⟨E6,λ g jY=>⟨_,rfl,pb,_,rfl,.inl (aX.of (ak jY _ _ hb)),λ n en=>?_⟩⟩
 rw [No] at en
 subst en
 refine ⟨_,rfl,by lia,by lia,?_⟩
 refine fW (lo:=0) (n:=N.length) (λ i U C=>A3 (aG H2 C) (E2 λ (l:aB) (R:List R8)=>A4 (C g=some (.lst l)) (bL K (cU C [g]) (R.map Hs) l) (R.length=i) (∀ j,j<i->IY kd sc j (cV R j))) (E8 λ ev LI T0 Xo TZ Vz SR RF=>A3 (Ci K C 0 ev) (i=0->ev = .cC) (U=[some (.ref ps),some (aq J),some (.ref yE),some (.ref px),some (.ref pb),some (.ref pf),some (.ref pz),some (.ref po),some (.ref g),some ev,LI,T0,Xo,TZ,Vz,SR,RF])))
   ⟨ak jY,⟨[],[],ag,dS,rfl,λ Z h=>absurd h (abk _)⟩,.cC,none,none,none,none,none,none,none,.inl rfl,λ Z=>rfl,rfl⟩ ?_ ?_
 .
  rintro Z i U H3 hi ⟨s3,⟨l,R,NC,dr,lr,EO⟩,ev,LI,T0,Xo,TZ,Vz,SR,RF,Xy,RC,rfl⟩
  have S3:=S2.trans s3
  refine ⟨_,rfl,_,rfl,_,_,rfl,rfl,λ y1 e1=>⟨ps,ns,y1,rfl,S3.seq hs,by lia,λ c2 Z=>?_⟩⟩
  refine ⟨_,rfl,_,_,rfl,rfl,⟨13,7,oN,(show Int.natAbs _<2 ^ 7 by lia),by decide⟩,λ y2 Z=>⟨_,_,rfl,rfl,λ y3 Z=>⟨y3,17,rfl,by decide,λ py ys H4 x h4 ly Z=>?_⟩⟩⟩
  have S4:=s3.trans x
  have gb:oh (N.map aq) (0+(i:Int))=some (aq (N.getD i 0)):=by
    rw [aaX]
    refine cm ?_
    rw [Zj,PY,aL hi];rfl
  have gf:oh (Y.map V.bl) (0+(i:Int))=some (.bl (Y.getD i false)):=by
    rw [aaX]
    refine cm ?_
    rw [Zj,PY,aL (by lia)];rfl
  have Zp:Y.getD i false=true->Y[i]?=some true:=λ h=>by
    rw [PY] at h
    rw [aL (show i<Y.length by lia)] at h |-
    exact abE some h
  obtain ⟨b1,b2⟩:=S.bb i hi
  have b6:=aF i
  have ZV:ev = .cC\/N.getD i 0<=2:=by
    by_cases i0:i=0
    . exact .inl (RC i0)
    . have:=aD (by lia) i
      exact .inr (by lia)
  have U5:Ci K H4 0 ev:=Xy.imp id λ ⟨pe,a,b,e,h,z⟩=>⟨pe,a,b,e,x.tup h,z⟩
  generalize N.getD i 0=L at gb b1 b2 ZV
  generalize Y.getD i false=fi at gf Zp
  refine ⟨_,rfl,_,rfl,_,rfl,pb,_,_,_,rfl,rfl,.inl (aX.of (S4 _ _ hb)),gb,_,rfl,py,L,ev,rfl,⟨ys,aX.of h4,ly⟩,b1,by lia,U5,ZV,λ pm H5 M s5 ab h5 mk=>?_⟩
  have S5:=S4.trans s5
  refine ⟨_,rfl,_,rfl,_,rfl,_,rfl,pf,_,_,_,rfl,rfl,.inl (aX.of (S5 _ _ hf)),gf,py,pm,M,L,fi,rfl,⟨ys,aX.of (s5 _ _ h4),ly⟩,aX.of h5,b1,mk,λ pk H6 sk W h6 Gw=>?_⟩
  have S6:=S5.trans W
  refine ⟨λ ae C=>C=H6/\E2 λ (sv:V) (zo:Option (Int×Int×Int×Int))=>A3 (Fg K H6 sv zo) (∀ z',zo=some z'->z'=z/\fi=true) (ae=[some (.ref ps),some (aq J),some (.ref yE),some (.ref px),some (.ref pb),some (.ref pf),some (.ref pz),some (.ref po),some (.ref g),some ev,some (.int (0+(i:Int))),some (.ref py),some (.ref pm),some (.ref pk),some sv,SR,RF]),?_,?_⟩
  .
   refine ⟨_,rfl,_,rfl,pf,_,_,_,rfl,rfl,.inl (aX.of (S6 _ _ hf)),gf,_,rfl,?_⟩
   obtain ⟨z1,z2,z3,z4,z5⟩:=S.zz
   have:kd.2.2.1<=2:=IB S.kk
   cases fi
   . exact fe ⟨rfl,.cC,none,.inl ⟨rfl,rfl⟩,nofun,rfl⟩
   . exact gn ⟨_,rfl,rfl,.ref pz,some z,.inr ⟨pz,z,rfl,rfl,bY.of (S6 _ _ hz),⟨by lia,by lia,by lia,by lia⟩⟩,λ z' e=>by cases e;exact ⟨rfl,rfl⟩,rfl⟩
  rintro ae C ⟨rfl,sv,zo,jG,an,rfl⟩
  refine ⟨_,rfl,pb,_,rfl,.inl (aX.of (S6 _ _ hb)),λ n en=>⟨rfl,.inr ⟨_,rfl,_,_,rfl,rfl,λ s HZ=>?_⟩⟩⟩
  rw [No] at en
  have W1:(s=4\/s=3)/\(N.length=4->s=3):=by
    by_cases e4:n=4
    . rw [e4] at HZ
      have:s=3:=HZ
      lia
    . have:s=4:=by rw [HZ,aap (λ z=>e4 (fD.mp z))];rfl
      lia
  clear HZ
  refine ⟨_,rfl,pb,_,rfl,.inl (aX.of (S6 _ _ hb)),λ n' Zi=>?_⟩
  rw [No] at Zi
  subst Zi
  clear en
  refine ⟨_,rfl,by lia,by lia,λ Df hD=>?_⟩
  refine dR (lo:=0) (n:=N.length) (λ j B U H7=>A4 (aG C H7) (H7 Df=some (.lst B)) (∃ (F:List Int),A4 (B=F.map V.int) (F.length=j) (∀ t,0<=F.getD t 0/\F.getD t 0<=s - 1) (F.getD i 0=0)) (∃ v,U=[v,some (.int s),some (.ref py),some (.int (0+(i:Int)))]))
    ⟨ak hD,ag,⟨[],rfl,rfl,λ t=>by show (0:Int)<=0/\(0:Int)<=s - 1;lia,rfl⟩,none,rfl⟩ ?_ ?_
  .
   rintro j B U H7 hj ⟨A,O9,⟨F,rfl,UB,Su,R5⟩,v,rfl⟩
   refine ⟨_,rfl,_,rfl,_,_,rfl,rfl,by decide,λ t t0 t1 Z=>⟨_,_,rfl,rfl,λ y X=>?_⟩⟩
   obtain ⟨m,rfl⟩:∃ m:Nat,y=(m:Int):=⟨y.toNat,by lia⟩
   refine ⟨py,_,_,_,rfl,rfl,.inl (aX.of ((s5.trans (W.trans A)) _ _ h4)),mM (i:=m) (by lia),_,rfl,_,_,rfl,rfl,by lia,λ u u0 u1 Z=>⟨_,rfl,_,rfl,rfl,.inr ⟨_,rfl,?_⟩⟩⟩
   have he:((if (!decide (V.int (0+(j:Int))=V.int (0+(i:Int))))=true then (1:Int) else 0)=1\/(if (!decide (V.int (0+(j:Int))=V.int (0+(i:Int))))=true then (1:Int) else 0)=0)/\(j=i->(if (!decide (V.int (0+(j:Int))=V.int (0+(i:Int))))=true then (1:Int) else 0)=0):=by
     refine ⟨?_,λ e=>?_⟩
     . split
       . exact .inl rfl
       . exact .inr rfl
     . rw [e,aaG rfl];rfl
   generalize (if (!decide (V.int (0+(j:Int))=V.int (0+(i:Int))))=true then (1:Int) else 0)=e at he |-
   refine ⟨_,_,rfl,rfl,⟨3,3,(show Int.natAbs _<2 ^ 3 by lia),(show Int.natAbs _<2 ^ 3 by lia),by decide⟩,λ y X=>?_⟩
   have hy:(0<=y/\y<=s - 1)/\(j=i->y=0):=by
     have X:y=u * e:=X
     rcases he with ⟨rfl|rfl,he⟩
     . rw [Int.mul_one] at X
       exact ⟨by lia,λ z=>absurd (he z) (by decide)⟩
     . rw [Int.mul_zero] at X
       exact ⟨by lia,λ Z=>X⟩
   refine ⟨O9,bo (by rw [No];lia),A.put hD,ag,⟨F++[y],by rw [aai];rfl,by rw [aaf,UB];rfl,λ t=>?_,?_⟩,_,rfl⟩
   . rcases getD_snoc (fl:=F) (y:=y) t with ⟨q,Z⟩|⟨Z,q⟩
     . rw [q];exact Su t
     . rw [q];exact hy.1
   . rcases getD_snoc (fl:=F) (y:=y) i with ⟨q,Z⟩|⟨z,q⟩
     . rw [q];exact R5
     . rw [q];exact hy.2 (by lia)
  rintro B U H7 ⟨A,O9,⟨F,rfl,UB,Su,R5⟩,v,rfl⟩
  have S7:=S6.trans A
  have VZ:=((x.trans s5).trans W).trans A
  have JF:Fg K H7 sv zo:=jG.imp id λ ⟨p,z,a,b,c,d⟩=>⟨p,z,a,b,A.tup c,d⟩
  have QN:=VZ _ _ NC
  refine ⟨_,rfl,.inl ⟨rfl,_,aX.of QN⟩,_,rfl,_,rfl,_,rfl,_,rfl,_,rfl,_,rfl,py,pm,M,L,pk,sk,sv,yE,sc,Df,F,zo,rfl,⟨ys,aX.of ((s5.trans (W.trans A)) _ _ h4),ly⟩,aX.of ((W.trans A) _ _ h5),by lia,mk,bY.of (A _ _ h6),Gw,JF,(S2.trans S7).tup K6,ok,O9,λ G I r s8 M8 rm=>?_⟩
  have Vg:g≠Df:=λ z=>by
    rw [<- z,((x.trans s5).trans W) _ _ NC] at hD
    cases hD
  have a4:l.length=i:=by rw [dr.length,No,lr]
  have S8:=S7.trans s8
  have aN:∀ z',zo=some z'->VT z':=λ z' e=>by
    rcases jG with ⟨Z,rfl⟩|⟨Z,z2,Z,rfl,Z,h⟩
    . cases e
    . cases e;exact h
  have QT:sk.1+m7 (λ j=>F.getD j 0) kd.1.length<=12:=by
    have h0:=(CD (c:=s - 1) (k:=i) (f:=λ j=>F.getD j 0) Su R5 kd.1.length).2.2 (by lia)
    have a1:=Gw.sh
    obtain ⟨e1,e2⟩:=W1
    have:kd.1.length=1\/kd.1.length=2\/kd.1.length=3\/kd.1.length=4:=by lia
    rcases e1 with rfl|rfl
    . rcases this with e|e|e|e<;>rw [e] at h0 |- <;> lia
    . rcases this with e|e|e|e<;>rw [e] at h0 |- <;> lia
  have a0:r.Ok kd.1.length i:=rm.ok ok mk b1 (by lia) Gw aN (by rw [UB];exact lb) (λ j=>by have:=Su j;lia) R5 QT
  have aj:IY kd sc i r:=⟨a0,by rw [rm.marks,No,mk.len];lia,λ t et=>by
    cases ez:zo with
    | none=>rw [rm.no ez] at et;cases et
    | some z' =>
      obtain ⟨t',ah,Z,Z,Z,c,d⟩:=rm.st z' ez
      rw [ah] at et
      cases et
      obtain ⟨rfl,al⟩:=an z' ez
      have:=S.ff i (Zp al)
      have:=S.zz.2.1
      lia,⟨sk.2.1,sk.2.2,rm.lo,rm.hi,Gw.lo,Gw.hi⟩⟩
  have Y1:=s8 _ _ QN
  refine ⟨g,l,_,rfl,rfl,Y1,bo (by lia),?_⟩
  have ad:aG H2 (upd I g (.lst (l++[.ref G])))/\∃ (tD:aB) (O:List R8),upd I g (.lst (l++[.ref G])) g=some (.lst tD)/\bL K (cU (upd I g (.lst (l++[.ref G]))) [g]) (O.map Hs) tD/\O.length=i+1/\∀ j,j<i+1->IY kd sc j (cV O j):=by
    refine ⟨S8.put jY,l++[.ref G],R++[r],ag,?_,by rw [aaf,lr];rfl,λ j hj=>?_⟩
    . rw [j5 (by simp),aai]
      exact (bL.same (md (VZ.trans s8)) _ dr).snoc (M8 g l QN Vg)
    . by_cases e:j<i
      . rw [pj.1 j (by lia)];exact EO j e
      . obtain rfl:j=R.length:=by lia
        rw [pj.2,lr];exact aj
  have Vn:upd I g (.lst (l++[.ref G])) pm=some (.lst (M.map V.int)):=by
    rw [aw λ z=>by rw [z,x _ _ NC] at ab;cases ab]
    exact ((W.trans A).trans s8) _ _ h5
  have Yh:upd I g (.lst (l++[.ref G])) px=some (.lst (xs.map V.int)):=(S8.put jY) _ _ HF
  have Uj:Ci K (upd I g (.lst (l++[.ref G]))) 0 ev:=Xy.imp id λ ⟨pe,a,b,e,h,z⟩=>⟨pe,a,b,e,bV Y1 rfl _ _ ((VZ.trans s8).tup h),z⟩
  generalize upd I g (.lst (l++[.ref G]))=H9 at ad Vn Yh Uj |-
  obtain ⟨S9,tD,O,i1,i2,i3,i4⟩:=ad
  refine ⟨_,rfl,px,_,_,_,rfl,rfl,.inl (aX.of Yh),mM (i:=6) (by lia),_,_,rfl,rfl,by decide,λ r Z Z Z=>⟨_,_,rfl,rfl,_,rfl,eM (λ Z=>?_) (λ Z=>fe ⟨S9,⟨tD,O,i1,i2,i3,i4⟩,ev,_,_,_,_,_,_,_,Uj,λ z=>absurd z (acX _),rfl⟩)⟩⟩
  refine ⟨_,rfl,rfl,_,rfl,eM (λ Z=>?_) (λ Z=>⟨S9,⟨tD,O,i1,i2,i3,i4⟩,ev,_,_,_,_,_,_,_,Uj,λ z=>absurd z (acX _),rfl⟩)⟩
  have lm:=mk.len
  have g0:M[0]?=some M[0]:=aL (by lia)
  have gl:M[L]?=some M[L]:=aL (by lia)
  have hw:=mk.wide _ _ g0 gl
  have w0:=mk.bd M[0] (aay _)
  have wl:=mk.bd M[L] (aay _)
  generalize M[0]=mf at g0 hw w0
  generalize M[L]=ml at gl hw wl
  refine ⟨_,rfl,pm,_,_,.int mf,rfl,rfl,.inl (aX.of Vn),cm (j:=0) (by rw [Zj,g0];rfl),_,rfl,_,rfl,pm,_,_,.int ml,rfl,rfl,.inl (aX.of Vn),BK (by rw [No,lm,Zj,adm,gl];rfl),vg,λ pe Ju=>?_⟩
  have s9:=ak (o:=.tup [V.int mf,V.int ml]) Ju
  exact ⟨S9.trans s9,⟨tD,O,s9 _ _ i1,bL.same (md s9) _ i2,i3,i4⟩,.ref pe,_,_,_,_,_,_,_,.inr ⟨pe,mf,ml,rfl,bY.of ag,w0.1,wl.2,hw⟩,λ z=>absurd z (acX _),rfl⟩
 .
  rintro U H3 ⟨s3,⟨l,R,NC,dr,lr,EO⟩,ev,LI,T0,Xo,TZ,Vz,SR,RF,Xy,RC,rfl⟩
  refine ⟨_,rfl,_,rfl,vg,λ q2 tw=>?_⟩
  have x:=ak (o:=.tup [V.ref g,V.ref po]) tw
  exact k q2 R b kd _ ((S2.trans s3).trans x) ⟨g,po,l,bY.of ag,aX.of (x _ _ NC),bL.same x _ (bL.same gk _ dr),bY.of ((s3.trans x) _ _ ho)⟩ ⟨S.kk,by lia,λ i hi=>EO i (by lia),S.b0,S.b1,S.b2⟩
def tP {H:Hp} {r:R8} {v:V} (h:Dn K H (Hs r) v):∃ p b c s a xs d e,v = .ref p/\bY K H p [.ref b,.ref c,s,.ref a]/\aX K H b xs/\bL K H (r.marks.map dW) xs/\bY K H c [.int r.share,d,e]/\Dn K H (dW r.lo) d/\Dn K H (dW r.hi) e/\Dn K H (fz r.bX) s/\aX K H a (r.cb.map V.int):=by
 obtain ⟨p,W,rfl,o,T,z,rfl,⟨b,U,rfl,n,i⟩,C,A,rfl,⟨c,w,rfl,q,u,x,rfl,g,d,y,rfl,j,e,Q,rfl,k,G⟩,s,B,rfl,l,E,R,rfl,⟨a,t,rfl,m,D⟩,f⟩:=h
 have G:Q=[]:=G
 have f:R=[]:=f
 have g:u = .int r.share:=g
 subst g G f
 obtain rfl:=rT D
 exact ⟨p,b,c,s,a,U,d,e,rfl,o,n,i,q,j,k,l,m⟩
def rL (T:Txt K mg Ad):Def P w K mg base "_law_hold" 7 ["_law_plain_here"] (FR K Ad.bw):=by
 refine T.Bx.cN f6 λ Z Z Z Z Z H vs Q E A h=>?_
 obtain ⟨q,r,b,rfl,⟨pr,po,xs,y,M,dr,yG⟩,R,Pz,Fs,Pt,k⟩:=h
 refine ⟨_,(ai (cL (i:=1) f6.nd (zt T.Cv (iK T) A.m T.Fe (aa (ar ao (ar ao (pv 0) ac) ac) (aa (ar ao (ar ao (pv 0) ac) ac) (aa (ar ao (ar ao (pv 0) ac) ac) af)))))
     (ai (c6 aaH rfl (cf (ar ao (pv 0) ac)) (ij (i:=2) f6.nd) (ap (bC (aW (pv 1) T.aF (pP T) .nil A.m (aa (cH gv (by rfl) T.tF o5 (aa (ar ao (pv 2) ac) af)) af)))))
     (ai (c6 aaH rfl (cg rfl T.dB (aa (aV bH (by rfl) T.eF cK (aa (ar ao (pv 0) ac) af)) af)) (ij (i:=3) f6.nd) (ai (cL (i:=2) f6.nd (ar ao (ar ao (pv 0) ac) (pv 3)))
     (ai (bC (aW (pv 1) T.aF (qj T) .nil A.m (aa (pv 3) (aa (ay (ia T) A.m (aa (ar ao (ar ao (pv 2) ac) ac) (aa ac af))) (aa (ar ao (ar ao (pv 2) ac) ac) (aa (ar ao (ar ao (pv 2) ac) ac) af))))))
     (ai (c6 aaH rfl (cg rfl T.dB (aa (aV bH (by rfl) T.eF cK (aa (ar ao (pv 0) ac) af)) af)) (ij (i:=4) f6.nd) (ap (bB (aK vU (ar ao (ar ao (pv 2) ac) (pv 4)) ac (aM _)) (ap (bC (aW (pv 1) T.aF (oS T) .nil A.m (aa (pv 3) (aa (pv 4) (aa (ay (ia T) A.m (aa (ar ao (ar ao (pv 2) ac) (pv 4)) (aa ac af))) af)))))) aJ)))
     (ap (bB (aK oZ (ar ao (pv 2) ac) cy (aM _)) (ap (bC (GS (pv 1) T.aF (lJ T) A.m (aa (pv 3) (aa (ar ao (ar ao (pv 2) ac) ac) (aa (ar ao (ar ao (pv 2) ac) ac) (aa (ar ao (ar ao (pv 2) ac) ac) (aa (ar ao (ar ao (pv 2) ac) ac) af)))))))) aJ))))))
     (ap (aH (pv 1)))))),?_⟩
 try dsimp only [eS,bj]
 try (refine eP ?_;intro Z Z Z Z Z)
 have lx:xs.length=r.length:=by rw [dr.length,No]
 have n1:=R.n1
 have n4:=R.n4
 refine ⟨_,rfl,q,_,_,_,rfl,rfl,.inr y,rfl,po,_,_,_,rfl,rfl,.inr yG,rfl,_,rfl,q,_,_,_,rfl,rfl,.inr y,rfl,po,_,_,_,rfl,rfl,.inr yG,rfl,_,rfl,q,_,_,_,rfl,rfl,.inr y,rfl,po,_,_,_,rfl,rfl,.inr yG,rfl,λ a DS fa Nm RH=>?_⟩
 have s0:aG H (upd (upd H DS (.own a)) a (.ins Ad.bw DS [])):=λ c o B=>by
   rw [aw (az B fa),aw (az B Nm)]
   exact B
 refine ⟨a,DS,b.1,b.2.1,b.2.2,rfl,ag,by rw [aw RH];exact ag,Pz,Fs,Pt,λ H1 T7 D1=>⟨rfl,?_⟩⟩
 obtain ⟨S1,F1⟩:=D1.keep s0 (λ c B=>by
   simp only [aab,aae,aaT] at B
   rcases B with rfl|rfl
   . exact fa
   . exact Nm)
 refine ⟨_,rfl,q,_,_,_,rfl,rfl,.inr (S1.tup y),rfl,pr,rfl,⟨_,S1.seq M⟩,?_⟩
 refine hJ (xs:=xs) (λ i U f=>A3 (aG H f) (E2 λ F m=>A4 (aZ K Ad.bw f a F m) (∀ c∈F,H c=none) (m.rows.length=i) (Ab r b i m)) (∃ X,U=[some (.ref q),some (.ref a),X,none,none]))
   ⟨S1,⟨T7,_,D1.at_,F1,rfl,⟨rfl,rfl,rfl,rfl,rfl,rfl,rfl⟩⟩,none,rfl⟩ (λ i U f Z e=>e.1.seq M) ?_ ?_
 .
  rintro Z i x U H2 hx ⟨g,⟨Xc,m2,h2,F2,l2,C⟩,x5,rfl⟩
  have hi:i<r.length:=by rw [<- lx];exact (Br.mp hx).1
  obtain ⟨v,ev,dv⟩:=dr.get (i:=i) (d:=Hs (cV r i)) (by rw [Zj,fV hi];rfl)
  obtain rfl:x=v:=aaq (hx.symm.trans ev)
  obtain ⟨p,pm,pw,sv,pf,us,v1,v2,rfl,N,hm,dm,Z⟩:=tP dv
  have l:=R.ok i hi
  obtain ⟨⟨Uc,Z,Z,Z,Z,Z,Z,Z,Z,Z,Wk,Z⟩,Z,Z,Z,w2⟩:=id h2
  refine ⟨_,rfl,a,Uc,_,rfl,Wk,rfl,_,rfl,p,_,_,_,rfl,rfl,.inr (g.tup N),rfl,?_⟩
  refine ⟨pm,_,rfl,.inl (g.seq hm),λ Dl hD=>?_⟩
  have sD:=ak (o:=.lst us) hD
  refine ⟨a,Xc,m2,Dl,us,(cV r i).marks,rfl,h2.same sD,by lia,aX.of ag,bL.same (g.trans sD) _ dm,l.ok,l.len.1,l.len.2,l.ri,C.cJ R hi,λ H4 ah D4=>?_⟩
  obtain ⟨s,F4⟩:=D4.keep (g.trans sD) F2
  exact ⟨s,⟨ah,_,D4.at_,F4,by show (m2.rows++[_]).length=_;rw [aaf,l2];rfl,C.add hi⟩,_,rfl⟩
 rintro U H2 ⟨g,⟨Xc,m2,h2,F2,l2,C⟩,x5,rfl⟩
 refine ⟨_,rfl,q,_,_,_,rfl,rfl,.inr (g.tup y),rfl,pr,_,rfl,.inl (g.seq M),λ n J=>?_⟩
 rw [lx] at J C
 subst J
 refine ⟨_,rfl,by lia,by lia,?_⟩
 refine fW (lo:=0) (n:=r.length) (λ i U f=>A3 (aG H f) (E2 λ F m=>A3 (aZ K Ad.bw f a F m) (∀ c∈F,H c=none) (mL r b i i 0 i m)) (E3 λ X x3 W=>U=[some (.ref q),some (.ref a),X,x3,W]))
   ⟨g,⟨Xc,m2,h2,F2,C.lk⟩,_,none,none,rfl⟩ ?_ ?_
 .
  rintro Z i U H3 hi ⟨u,⟨Uy,m3,h3,F3,O⟩,X,x3,W,rfl⟩
  obtain ⟨v,ev,dv⟩:=dr.get (i:=i) (d:=Hs (cV r i)) (by rw [Zj,fV hi];rfl)
  obtain ⟨p,pm,pw,sv,pf,us,v1,v2,rfl,N,hm,dm,hw,d1,d2,D,hf⟩:=tP dv
  have l:=R.ok i hi
  have a2:=l.sh
  have L9:oh xs (0+(i:Int))=some (.ref p):=by rw [aaX];exact fK ev
  obtain ⟨⟨Uc,Z,Z,Z,Z,Z,Z,Z,Z,Z,Wk,Z⟩,k1,k2,k3,w3⟩:=id h3
  refine ⟨_,rfl,q,_,_,_,rfl,rfl,.inr (u.tup y),rfl,_,rfl,pr,_,_,_,rfl,rfl,.inl (u.seq M),L9,?_⟩
  refine ⟨_,rfl,a,Uc,_,rfl,Wk,rfl,_,rfl,_,rfl,p,_,_,_,rfl,rfl,.inr (u.tup N),rfl,pw,_,_,_,rfl,rfl,.inr (u.tup hw),rfl,_,_,rfl,by decide,(show Int.natAbs _<2 ^ 400 from aaw (show Int.natAbs _<2 ^ 3 by lia) (by decide)),oN,λ pu H4 s4 h4=>?_⟩
  have s:=u.trans s4
  refine ⟨_,rfl,p,_,_,_,rfl,rfl,.inr (s.tup N),rfl,pw,_,_,_,rfl,rfl,.inr (s.tup hw),rfl,_,rfl,p,_,_,_,rfl,rfl,.inr (s.tup N),rfl,pw,_,_,_,rfl,rfl,.inr (s.tup hw),rfl,?_⟩
  have aN:dY 100 (nf (cV r i).share 12):=G5 (by decide) (show Int.natAbs _<2 ^ 100 by lia) oN
  refine ⟨a,Uy,m3,i,.ref pu,v1,v2,nf (cV r i).share 12,(cV r i).lo,(cV r i).hi,by rw [aaX];rfl,h3.same s4,by rw [O.len];exact hi,jl (bY.of h4),Dn.same s _ d1,Dn.same s _ d2,aN,l.RY,l.SH,l.le,Ov.nonneg (by decide) (Ov.nf (by decide)) (by lia),O.yo R hi,λ H7 aj D7=>?_⟩
  obtain ⟨S7,F7⟩:=D7.keep s F3
  have VR:=O.rE hi
  refine ⟨_,rfl,q,_,_,_,rfl,rfl,.inr (S7.tup y),rfl,pr,_,rfl,.inl (S7.seq M),λ n J=>?_⟩
  rw [lx] at J
  subst J
  refine ⟨_,rfl,by lia,by lia,?_⟩
  refine fW (lo:=0) (n:=r.length) (λ j U f=>A3 (aG H f) (E2 λ F m=>A3 (aZ K Ad.bw f a F m) (∀ c∈F,H c=none) (mL r b (i+1) i j i m)) (∃ W,U=[some (.ref q),some (.ref a),some (.ref p),some (.int (0+(i:Int))),W]))
    ⟨S7,⟨aj,_,D7.at_,F7,VR⟩,_,rfl⟩ ?_ ?_
  .
   rintro Z j U H9 hj ⟨t,⟨Sv,m9,h9,Y,G⟩,a4,rfl⟩
   have aD:j<(cV r i).cb.length:=by rw [l.fn];exact hj
   have ZI:oh ((cV r i).cb.map V.int) (0+(j:Int))=some (.int ((cV r i).fl j)):=by rw [aaX];exact mM aD
   have a1:=l.fb j
   refine ⟨_,rfl,p,_,_,_,rfl,rfl,.inr (t.tup N),rfl,_,rfl,pf,_,_,_,rfl,rfl,.inl (t.seq hf),ZI,_,_,rfl,rfl,_,rfl,eM (λ gt=>?_) (λ ng=>⟨t,⟨Sv,m9,h9,Y,G.L8 (by lia)⟩,_,rfl⟩)⟩
   have Kl:i≠j:=λ z=>by
     have:=l.own
     rw [z] at this gt
     lia
   obtain ⟨⟨Wd,Z,Z,Z,Z,Z,Z,Z,Z,Z,an,Z⟩,o1,o2,o3,w9⟩:=id h9
   refine ⟨_,rfl,a,Wd,_,rfl,an,rfl,_,rfl,_,rfl,_,rfl,p,_,_,_,rfl,rfl,.inr (t.tup N),rfl,_,rfl,pf,_,_,_,rfl,rfl,.inl (t.seq hf),ZI,_,_,rfl,by decide,(show Int.natAbs _<2 ^ 400 from aaw (show Int.natAbs _<2 ^ 3 by lia) (by decide)),oN,λ pu Ii FH XG=>?_⟩
   have U3:dY 100 (nf ((cV r i).fl j) 12):=G5 (by decide) (show Int.natAbs _<2 ^ 100 by lia) oN
   refine ⟨a,Sv,m9,i,j,.ref pu,nf ((cV r i).fl j) 12,by rw [aaX,aaX];rfl,h9.same FH,by rw [G.len];exact hi,by rw [G.len];exact hj,Kl,jl (bY.of XG),U3,Ov.nonneg (by decide) (Ov.nf (by decide)) (by lia),G.ut R hi hj,λ a0 WS Yv=>?_⟩
   obtain ⟨ad,ab⟩:=Yv.keep (t.trans FH) Y
   exact ⟨ad,⟨WS,_,Yv.at_,ab,G.j4 gt⟩,_,rfl⟩
  rintro U H8 ⟨S,⟨Zr,m8,h8,F8,I⟩,a3,rfl⟩
  have I:=I.Gv (by rw [l.fn];exact aak _)
  refine ⟨_,rfl,p,_,_,_,rfl,rfl,.inr (S.tup N),rfl,rfl,_,rfl,?_⟩
  cases L:(cV r i).bX with
  | none =>
    rw [L] at D
    have D:sv = .cC:=D
    subst D
    exact fQ rfl ⟨S,⟨Zr,_,h8,F8,I.IC L⟩,_,_,_,rfl⟩
  | some z =>
    rw [L] at D
    obtain ⟨pz,v3,rfl,vd,dz⟩:=Dn.bX D
    obtain ⟨z0,z1,z2,z3,z4⟩:=l.st z L
    refine En (λ Z=>?_) (λ q=>nomatch q)
    obtain ⟨⟨ae,Z,Z,Z,Z,Z,Z,Z,Z,Z,al,Z⟩,Z⟩:=id h8
    refine ⟨_,rfl,a,ae,_,rfl,al,rfl,_,rfl,_,rfl,p,_,_,_,rfl,rfl,.inr (S.tup N),rfl,pz,_,_,_,rfl,rfl,.inr (S.tup vd),rfl,_,rfl,p,_,_,_,rfl,rfl,.inr (S.tup N),rfl,pz,_,_,_,rfl,rfl,.inr (S.tup vd),rfl,_,rfl,p,_,_,_,rfl,rfl,.inr (S.tup N),rfl,pz,_,_,_,rfl,rfl,.inr (S.tup vd),rfl,_,rfl,p,_,_,_,rfl,rfl,.inr (S.tup N),rfl,pz,_,_,_,rfl,rfl,.inr (S.tup vd),rfl,a,Zr,_,i,v3,z.1,z.2.1,z.2.2.1,z.2.2.2,by rw [aaX];rfl,h8,by rw [I.len];exact hi,Dn.same S _ dz,z0,z1,z2,z3,z4,λ H9 Sv D9=>?_⟩
    obtain ⟨t,Y⟩:=D9.keep S F8
    exact ⟨t,⟨Sv,_,D9.at_,Y,I.jW hi L⟩,_,_,_,rfl⟩
 . rintro U H3 ⟨u,⟨Uy,m3,h3,F3,O⟩,X,x3,W,rfl⟩
   exact ⟨_,rfl,k a Uy m3 H3 u h3 F3 O⟩
def Lr (i:Nat) (h:i<4):oh [V.int 1,V.int 2,V.int 4,V.int 8] (i:Int)=some (.int ((2 ^ i:Nat):Int)):=by
 have:i=0\/i=1\/i=2\/i=3:=by lia
 rcases this with rfl|rfl|rfl|rfl<;>exact cm rfl
def qY (T:Txt K mg Ad):Def P w K mg base "_law_any_state" 2 ["_law_cell","_law_plain_here"] (DX K):=by
 refine T.sP.cN bq λ Z Z Z Z Z H vs Q E hr h=>?_
 obtain ⟨c,q,g,b,rfl,⟨pr,po,xs,O,jY,dr,yG⟩,R,Pz,Fs,k⟩:=h
 refine ⟨_,(ai (cL (i:=2) bq.nd (ay (fN T) hr.m (aa (pv 0) (aa ac af))))
     (ai (cL (i:=3) bq.nd ac)
     (ai (cL (i:=4) bq.nd ac)
     (ai (cL (i:=5) bq.nd (bG af))
     (ai (cL (i:=6) bq.nd (bG af))
     (ai (c6 aaH rfl (cg rfl T.dB (aa (aV bH (by rfl) T.eF cK (aa (ar ao (pv 1) ac) af)) af)) (ij (i:=7) bq.nd) (ai (cL (i:=8) bq.nd (ar ao (ar ao (ar ao (pv 1) ac) (pv 7)) ac))
     (ai (cL (i:=9) bq.nd ac)
     (ai (cL (i:=10) bq.nd ac)
     (ai (ku (bB (aK oZ (pv 8) cy (aM _)) (ai (cL (i:=9) bq.nd (ax aI (ax eR (ar ao (pv 2) (pv 7)) ac) (ax aO (ar ao (pv 8) ac) ac)))
     (ap (bB (PW.pt (qe (aK cP (ax aI (ax eR (ar ao (pv 2) (pv 7)) ac) ac) ac (aM _)) (mK (aK kS (pv 4) (ar ao (ar ao (pv 1) ac) ac) (aM _))))) (ai (cL (i:=3) bq.nd (ax aO (pv 3) (ar ao (bG (aa ac (aa ac (aa ac (aa ac af))))) (pv 7))))
     (ap (cL (i:=4) bq.nd (ax aO (pv 4) ac)))) (ap (bB (aK cP (pv 9) ac (aM _)) (ap (cL (i:=10) bq.nd (ax aI (ax eR (ar ao (pv 2) (pv 7)) ac) (ax aO (ar ao (pv 8) ac) ac)))) aJ))))) aJ))
     (ai (bC (im aaF aaM aaL cA (pv 5) (aa (pv 9) af)))
     (ap (bC (im aaF aaM aaL cA (pv 6) (aa (pv 10) af))))))))))
     (ai (cL (i:=11) bq.nd (cH eV (by rfl) T.mN jR (aa (fJ ["_law_k"] ["_law_xs","_law_plain_here"] [2,1] (.cons ⟨rfl,rfl,.inl rfl⟩ (.cons ⟨rfl,rfl,.inl rfl⟩ .nil)) rfl (cg rfl T.dB (aa (aV bH (by rfl) T.eF cK (aa (ar ao (pv 1) ac) af)) af)) (λ Z Z Z Z Z=>(k9 (i:=0))) (λ Z Z Z Z Z=>cr) (λ Z Z Z Z Z=>(ax aI (ar (dZ (K:=K) rfl) (pv 1) (pv 0)) (ax cQ (aV (wF (K:=K) rfl) (by rfl) T.eF cK (aa (ar (dZ (K:=K) rfl) (ar (dZ (K:=K) rfl) (ar (dZ (K:=K) rfl) (pv 2) ac) (pv 0)) ac) af)) ac)))) af)))
     (ap (aH (aY (aa (pv 11) (aa (pv 3) (aa (cH eV (by rfl) T.mN jR (aa (pv 5) af)) (aa (cH eV (by rfl) T.mN jR (aa (pv 6) af)) (aa (ax aI (ar ao (pv 2) ac) (ax aO (ar ao (ar ao (pv 1) ac) ac) ac)) af))))))))))))))),?_⟩
 try dsimp only [eS,bj]
 try (refine Al ?_;intro Z Z Z Z Z Z Z Z Z)
 have lx:xs.length=g.length:=by rw [dr.length,No]
 have n1:=R.n1
 have n4:=R.n4
 refine ⟨_,rfl,c,6,rfl,by decide,λ B ys H0 s0 h0 ly Z=>?_⟩
 refine ⟨E6,λ G hw=>⟨E6,λ A hf=>?_⟩⟩
 have sw:=ak (o:=.lst []) hw
 have sf:=ak (o:=.lst []) hf
 have YS:=sf _ _ (ag (H:=H0) (a:=G) (o:=.lst []))
 have YC:G≠A:=λ z=>by rw [<- z,ag] at hf;cases hf
 have Zl:(upd (upd H0 G (.lst [])) A (.lst [])) A=some (.lst []):=ag
 have S0:=sw.trans sf
 have aD:H0 A=none:=sw.free hf
 generalize upd (upd H0 G (.lst [])) A (.lst [])=H1 at YS Zl S0 |-
 have O:=s0.tup O
 have jY:=s0.seq jY
 have dr:=bL.same s0 _ dr
 have yG:=s0.tup yG
 refine ⟨_,rfl,q,_,_,_,rfl,rfl,.inr (S0.tup O),rfl,pr,_,rfl,.inl (S0.seq jY),λ n en=>?_⟩
 rw [lx] at en
 subst en
 refine ⟨_,rfl,by lia,by lia,?_⟩
 refine wG (lo:=0) (n:=g.length) (λ i U N=>aG H0 N/\E4 λ (bs u p:aS) (bu:Nat)=>A4 (N G=some (.lst (u.map aq))) (N A=some (.lst (p.map aq))) (lH (g.map Ez) b.1 i bs u p bu) (E4 λ (x7 x8 x9 LI:eL)=>U=[some (.int c),some (.ref q),some (.ref B),some (aq bu),some (aq (Bit.rooms bu).length),some (.ref G),some (.ref A),x7,x8,x9,LI,none]))
   ⟨S0,[],[],[],0,YS,Zl,lH.zero Pz,none,none,none,none,rfl⟩ ?_ ?_
 .
  rintro i U H1 hi ⟨S,bs,u,p,bu,Wu,WZ,J,x7,x8,x9,LI,rfl⟩
  obtain ⟨v,ev,dv⟩:=dr.get (i:=i) (d:=Hs (cV g i)) (by rw [Zj,fV hi];rfl)
  obtain ⟨pq,pm,Qi,sv,vx,us,v1,v2,rfl,nO,hm,dm,Z,Z,Z,l,Z⟩:=tP dv
  have lu:=R.ok i hi
  have e7:(g.map Ez)[i]?=some (Ez (cV g i)):=by rw [Zj,fV hi];rfl
  have l7:0+1<(Ez (cV g i)).marks.length:=by
    unfold Ez
    rw [No]
    exact lu.len.1
  have lw:=J.lw
  have lf:=J.lf
  have ae:i<61:=by lia
  have L9:oh xs (0+(i:Int))=some (.ref pq):=by rw [aaX];exact fK ev
  have Kx:oh (ys.map V.int) (0+(i:Int))=some (.int (ys.getD i 0)):=by rw [aaX];exact mM (by lia)
  have X:aX K H1 B (ys.map V.int):=aX.of (S _ _ h0)
  refine ⟨_,rfl,q,_,_,_,rfl,rfl,.inr (S.tup O),rfl,_,rfl,pr,_,_,_,rfl,rfl,.inl (S.seq jY),L9,pq,_,_,_,rfl,rfl,.inr (S.tup nO),rfl,?_⟩
  refine ⟨λ ad N=>aG H1 N/\E3 λ (L:Bool) (W F:Nat)=>A3 (Ff (Ez (cV g i)).bX L W F) (L=true->((Bit.rooms bu).length:Int)<b.1) (ad=[some (.int c),some (.ref q),some (.ref B),some (aq (if L then bu+2 ^ i else bu)),some (aq ((Bit.rooms bu).length+(if L then 1 else 0))),some (.ref G),some (.ref A),some (.int (0+(i:Int))),some sv,some (aq W),some (aq F),none]),?_,?_⟩
  .
   refine ⟨_,rfl,rfl,_,rfl,?_⟩
   unfold Ez
   cases jG:(cV g i).bX with
   | none =>
     rw [jG] at l
     have l:sv = .cC:=l
     subst l
     exact fQ rfl ⟨aG.refl _,false,0,0,⟨rfl,rfl,rfl⟩,nofun,rfl⟩
   | some z =>
     rw [jG] at l
     obtain ⟨pz,v3,rfl,vd,dz⟩:=Dn.bX l
     obtain ⟨z0,z1,z2,z3,z4⟩:=lu.st z jG
     have K5:=S.tup vd
     refine En (λ Z=>?_) (λ q=>nomatch q)
     refine ⟨_,rfl,_,rfl,B,_,_,_,rfl,rfl,.inl X,Kx,_,_,rfl,rfl,⟨by decide,oN⟩,λ y1 Z=>⟨_,rfl,pz,_,_,_,rfl,rfl,.inr K5,rfl,_,_,rfl,rfl,λ y2 e2=>⟨_,_,rfl,rfl,by lia,λ W a2 a3 Z=>?_⟩⟩⟩
     obtain ⟨W,rfl⟩:∃ x:Nat,W=(x:Int):=⟨W.toNat,by lia⟩
     have Qx:(W:Int)<=z.2.2.1:=by lia
     refine ⟨_,rfl,_,rfl,B,_,_,_,rfl,rfl,.inl X,Kx,_,_,rfl,rfl,⟨by decide,oN⟩,λ y3 Z=>⟨_,_,rfl,rfl,by decide,λ r Z Z Z=>⟨rfl,_,rfl,eM (λ Z=>?_) (λ Z=>fe ?_)⟩⟩⟩
     .
      refine ⟨_,rfl,_,rfl,q,_,_,_,rfl,rfl,.inr (S.tup O),rfl,po,_,_,_,rfl,rfl,.inr (S.tup yG),rfl,_,_,rfl,rfl,_,rfl,eM (λ nE=>?_) (λ Z=>?_)⟩
      .
       refine ⟨_,rfl,pX,λ p6 QD=>⟨_,rfl,?_⟩⟩
       have s6:=ak (o:=.lst [.int 1,.int 2,.int 4,.int 8]) QD
       have Xb:oh [V.int 1,V.int 2,V.int 4,V.int 8] (0+(i:Int))=some (.int ((2 ^ i:Nat):Int)):=by
         rw [aaX]
         exact Lr i (by lia)
       refine ⟨p6,_,_,_,rfl,rfl,.inl (aX.of ag),Xb,_,_,rfl,rfl,λ y8 e8=>⟨_,rfl,_,_,rfl,rfl,λ y9 e9=>?_⟩⟩
       obtain rfl:y8=((bu+2 ^ i:Nat):Int):=by rw [e8];push_cast;rfl
       obtain rfl:y9=(((Bit.rooms bu).length+1:Nat):Int):=by rw [e9];push_cast;rfl
       exact ⟨s6,true,W,0,⟨Qx,z4.1,.inl rfl⟩,λ Z=>nE,rfl⟩
      . refine ⟨_,rfl,rfl,_,rfl,eM (λ w0=>?_) (λ Z=>⟨aG.refl _,false,W,0,⟨Qx,z4.1,.inl rfl⟩,nofun,rfl⟩)⟩
        refine ⟨_,rfl,_,rfl,B,_,_,_,rfl,rfl,.inl X,Kx,_,_,rfl,rfl,⟨by decide,oN⟩,λ y4 Z=>⟨_,rfl,pz,_,_,_,rfl,rfl,.inr K5,rfl,_,_,rfl,rfl,λ y5 e5=>⟨_,_,rfl,rfl,by lia,λ F aj al Z=>?_⟩⟩⟩
        obtain ⟨F,rfl⟩:∃ x:Nat,F=(x:Int):=⟨F.toNat,by lia⟩
        have w0:W=0:=by have:=fD.mp w0;lia
        exact ⟨aG.refl _,false,W,F,⟨Qx,by show (F:Int)<=z.2.2.2;lia,.inr ⟨rfl,w0⟩⟩,nofun,rfl⟩
     . refine ⟨_,rfl,rfl,_,rfl,eM (λ w0=>?_) (λ Z=>⟨aG.refl _,false,W,0,⟨Qx,z4.1,.inl rfl⟩,nofun,rfl⟩)⟩
       refine ⟨_,rfl,_,rfl,B,_,_,_,rfl,rfl,.inl X,Kx,_,_,rfl,rfl,⟨by decide,oN⟩,λ y4 Z=>⟨_,rfl,pz,_,_,_,rfl,rfl,.inr K5,rfl,_,_,rfl,rfl,λ y5 e5=>⟨_,_,rfl,rfl,by lia,λ F aj al Z=>?_⟩⟩⟩
       obtain ⟨F,rfl⟩:∃ x:Nat,F=(x:Int):=⟨F.toNat,by lia⟩
       have w0:W=0:=by have:=fD.mp w0;lia
       exact ⟨aG.refl _,false,W,F,⟨Qx,by show (F:Int)<=z.2.2.2;lia,.inr ⟨rfl,w0⟩⟩,nofun,rfl⟩
  rintro ad H2 ⟨M,L,W,F,ah,lm,rfl⟩
  obtain ⟨a0,a1⟩:=J.next (x:=0) (w:=W) (f:=F) (lit:=L) ae e7 l7 ah lm
  rw [<- a1]
  have S2:=S.trans M
  have ab:=M _ _ Wu
  have an:=M _ _ WZ
  refine ⟨_,rfl,.inl ⟨rfl,_,aX.of ab⟩,_,rfl,G,_,_,rfl,rfl,ab,bo (by rw [No];lia),?_⟩
  have ZK:upd H2 G (.lst (u.map aq++[aq W])) A=some (.lst (p.map aq)):=by rw [aw YC.symm];exact an
  refine ⟨_,rfl,.inl ⟨rfl,_,aX.of ZK⟩,_,rfl,A,_,_,rfl,rfl,ZK,bo (by rw [No];lia),(S2.put hw).put aD,_,_,_,_,by rw [aw YC,ag,aai];rfl,by rw [ag,aai];rfl,a0,_,_,_,_,rfl⟩
 .
  rintro U H1 ⟨S,bs,u,p,bu,Wu,WZ,J,x7,x8,x9,LI,rfl⟩
  have X:aX K H1 B (ys.map V.int):=aX.of (S _ _ h0)
  refine ⟨_,rfl,q,_,_,_,rfl,rfl,.inr (S.tup O),rfl,pr,_,rfl,.inl (S.seq jY),λ n en=>?_⟩
  rw [lx] at en
  subst en
  refine ⟨_,rfl,by lia,by lia,λ D hD=>?_⟩
  refine dR (lo:=0) (n:=g.length) (λ j I U N=>A4 (aG H1 N) (N D=some (.lst I)) (∃ (C:aS),A3 (I=C.map aq) (C.length=j) (∀ t,t<j->gN C t+1<(cV g t).marks.length)) (∃ v,U=[v,some (.ref B),some (.ref q)]))
    ⟨ak hD,ag,⟨[],rfl,rfl,λ Z h=>absurd h (abk _)⟩,none,rfl⟩ ?_ ?_
  .
   rintro j I U H2 hj ⟨M,io,⟨C,rfl,lc,bc⟩,v,rfl⟩
   have S2:=S.trans M
   obtain ⟨v,ev,dv⟩:=dr.get (i:=j) (d:=Hs (cV g j)) (by rw [Zj,fV hj];rfl)
   obtain ⟨pq,pm,Qi,sv,vx,us,v1,v2,rfl,nO,hm,dm,Z,Z,Z,l,Z⟩:=tP dv
   have lm:us.length=(cV g j).marks.length:=by rw [dm.length,No]
   have HN:=(R.ok j hj).len
   have L9:oh xs (0+(j:Int))=some (.ref pq):=by rw [aaX];exact fK ev
   have Kx:oh (ys.map V.int) (0+(j:Int))=some (.int (ys.getD j 0)):=by rw [aaX];exact mM (by lia)
   refine ⟨_,rfl,_,rfl,B,_,_,_,rfl,rfl,.inl (M.seq X),Kx,_,rfl,q,_,_,_,rfl,rfl,.inr (S2.tup O),rfl,_,rfl,pr,_,_,_,rfl,rfl,.inl (S2.seq jY),L9,pq,_,_,_,rfl,rfl,.inr (S2.tup nO),rfl,pm,_,rfl,.inl (S2.seq hm),λ y2 e2=>⟨_,_,rfl,rfl,λ y3 e3=>⟨_,_,rfl,rfl,by lia,λ x x0 x1 Z=>?_⟩⟩⟩
   obtain ⟨x,rfl⟩:∃ y:Nat,x=(y:Int):=⟨x.toNat,by lia⟩
   refine ⟨io,bo (by rw [No];lia),M.put hD,ag,⟨C++[x],by rw [aai];rfl,by rw [aaf,lc];rfl,λ t ht=>?_⟩,_,rfl⟩
   by_cases e:t<j
   . rw [xC (by lia)];exact bc t e
   . obtain rfl:t=C.length:=by lia
     rw [Gn,lc];lia
  rintro I U H2 ⟨M,io,⟨C,rfl,lc,bc⟩,v,rfl⟩
  refine ⟨D,_,rfl,.inl ⟨aX.of io,λ t1 Ur=>?_⟩⟩
  have s3:=ak (o:=.tup (C.map aq)) Ur
  have e3:(upd H2 t1 (.tup (C.map aq))) t1=some (.tup (C.map aq)):=ag
  generalize upd H2 t1 (.tup (C.map aq))=H3 at s3 e3 |-
  have S3:=M.trans s3
  refine ⟨_,rfl,_,rfl,_,rfl,G,_,rfl,.inl ⟨aX.of (S3 _ _ Wu),λ t2 Ou=>?_⟩⟩
  have s4:=ak (o:=.tup (u.map aq)) Ou
  have e4:(upd H3 t2 (.tup (u.map aq))) t2=some (.tup (u.map aq)):=ag
  generalize upd H3 t2 (.tup (u.map aq))=H4 at s4 e4 |-
  refine ⟨_,rfl,A,_,rfl,.inl ⟨aX.of ((S3.trans s4) _ _ WZ),λ t3 aN=>?_⟩⟩
  have s5:=ak (o:=.tup (p.map aq)) aN
  have e5:(upd H4 t3 (.tup (p.map aq))) t3=some (.tup (p.map aq)):=ag
  generalize upd H4 t3 (.tup (p.map aq))=H5 at s5 e5 |-
  have S5:=(S3.trans s4).trans s5
  have Ud:=S.trans S5
  refine ⟨_,rfl,B,_,_,_,rfl,rfl,.inl (S5.seq X),mM (i:=5) (by lia),_,rfl,q,_,_,_,rfl,rfl,.inr (Ud.tup O),rfl,po,_,_,_,rfl,rfl,.inr (Ud.tup yG),rfl,_,_,rfl,rfl,λ y e=>⟨_,_,rfl,rfl,by lia,λ Y Na BE Z=>⟨(by show 5<=sizeLine;decide),λ qt aF=>?_⟩⟩⟩
  obtain ⟨Y,rfl⟩:∃ x:Nat,Y=(x:Int):=⟨Y.toNat,by lia⟩
  have s6:=ak (o:=.tup [.ref t1,aq bu,.ref t2,.ref t3,aq Y]) aF
  have Sx:(Y:Int)<=b.2.1:=by lia
  refine k qt ⟨C,bu,u,p,Y⟩ _ ((s0.trans Ud).trans s6) ⟨t1,t2,t3,bY.of ag,bY.of (((s4.trans s5).trans s6) _ _ e3),bY.of ((s5.trans s6) _ _ e4),bY.of (s6 _ _ e5)⟩ (λ m hk=>?_) Sx
  have l7:(g.map Ez).length=g.length:=No ..
  have qS:lH (g.map Ez) b.1 g.length C u p bu:=⟨lc,J.lw,J.lf,J.cB,J.most,λ j q' hj e=>by
    rw [Zj,fV hj] at e
    cases e
    show _<((cV g j).marks.map _).length
    rw [No]
    exact bc j hj,J.bX⟩
  have lk:=hk.VR
  rw [<- l7] at qS lk
  exact lH.ok (s:=⟨C,bu,u,p,Y⟩) qS lk (by rw [l7];exact hk.len) Sx
def lE (T:Txt K mg Ad):Def P w K mg base "_law_no_less" 1 ["_law_rank","_law_former"] MA:=by
 refine T.vP.cN ur λ Z Z Z Z Z H V Q E a h=>?_
 obtain ⟨u,v,rfl,N,k⟩:=h
 refine ⟨_,(ai (bB (aK ji (pv 1) cy (aM _)) (ap (aH (dI ji (pv 0) cy (aM _)))) aJ)
     (ap (aH (Ko (dI ji (pv 0) cy (aM _)) (qW (dI FQ (pv 0) (pv 1) (aM _))))))),?_⟩
 try dsimp only [eS,bj]
 rcases N with rfl|⟨x,y,rfl,rfl,l⟩
 . cases u with
   | none=>exact ⟨_,rfl,rfl,_,rfl,gn ⟨_,rfl,rfl,k⟩⟩
   | some x=>exact ⟨_,rfl,rfl,_,rfl,fe ⟨_,rfl,rfl,_,rfl,gn k⟩⟩
 . refine ⟨_,rfl,rfl,_,rfl,fe ⟨_,rfl,rfl,_,rfl,fe ⟨_,rfl,_,rfl,_,_,rfl,rfl,?_⟩⟩⟩
   rw [aaG (show (x:Int)<=(y:Int) by lia)]
   exact k
def lG (T:Txt K mg Ad):Def P w K mg base "_law_between" 3 ["_law_one","_law_other","_law_part"] (HP K):=by
 refine T.vQ.cN mr λ Z Z Z Z Z H vs Q E G h=>?_
 obtain ⟨v1,v2,p,x,y,S,rfl,D,C,ok,W,V,X,k⟩:=h
 refine ⟨_,(ai (cL (i:=3) mr.nd (ax aO (ax bF (ax bF (ar ao (pv 0) ac) (ar ao (pv 1) ac)) (ax cQ ac (pv 2))) (ax bF (ax bF (ar ao (pv 1) ac) (ar ao (pv 0) ac)) (pv 2))))
     (ap (aH (ay (ia T) G.m (aa (pv 3) (aa (ax bF (ax bF ac (ar ao (pv 0) ac)) (ar ao (pv 1) ac)) af)))))),?_⟩
 try dsimp only [eS,bj]
 obtain ⟨s,rfl,q⟩:=D.fr
 obtain ⟨u,rfl,r⟩:=C.fr
 have o:=lS (x:=x) ok (by lia)
 have O:=lS (x:=y) ok (by lia)
 rw [<- TH ok] at k
 generalize aR x 1 S=f at *
 generalize aR y 1 S=g at *
 have B:Bd 4 (8 - p):=show Int.natAbs _<2 ^ 4 by lia
 have v:Bd 4 p:=show Int.natAbs _<2 ^ 4 by lia
 have M:=o.t.mul O.b
 have z:=O.t.mul o.b
 have A:=(show Bd 4 8 from oN).mul o.b
 refine ⟨_,rfl,s,_,_,_,rfl,rfl,.inr q,rfl,_,rfl,u,_,_,_,rfl,rfl,.inr r,rfl,_,_,rfl,rfl,⟨100,100,o.t,O.b,by decide⟩,λ Y e=>⟨_,rfl,_,_,rfl,rfl,λ I a=>?_⟩⟩
 have e:Y=f.1 * g.2:=e
 have a:I=8 - p:=a
 subst e a
 refine ⟨_,_,rfl,rfl,⟨200,4,M,B,by decide⟩,λ J c=>?_⟩
 have c:J=f.1 * g.2 * (8 - p):=c
 subst c
 refine ⟨_,rfl,u,_,_,_,rfl,rfl,.inr r,rfl,_,rfl,s,_,_,_,rfl,rfl,.inr q,rfl,_,_,rfl,rfl,⟨100,100,O.t,o.b,by decide⟩,λ L d=>?_⟩
 have d:L=g.1 * f.2:=d
 subst d
 refine ⟨_,rfl,_,_,rfl,rfl,⟨200,4,z,v,by decide⟩,λ y5 F=>⟨_,_,rfl,rfl,λ N j=>?_⟩⟩
 have j:N=f.1 * g.2 * (8 - p)+g.1 * f.2 * p:=by rw [j,F]
 subst j
 refine ⟨_,rfl,_,rfl,s,_,_,_,rfl,rfl,.inr q,rfl,_,_,rfl,rfl,⟨4,100,oN,o.b,by decide⟩,λ R l=>?_⟩
 have l:R=8 * f.2:=l
 subst l
 refine ⟨_,rfl,u,_,_,_,rfl,rfl,.inr r,rfl,_,_,rfl,rfl,⟨104,100,A,O.b,by decide⟩,λ U n=>?_⟩
 have n:U=8 * f.2 * g.2:=n
 subst n
 exact ⟨_,_,rfl,aaN (aaN (by decide) o.p) O.p,(((M.mul B).mono (by decide:204<=204)).add (z.mul v)).mono (by decide),(A.mul O.b).mono (by decide),k⟩
def sC (T:Txt K mg Ad):Def P w K mg base "_law_narrower" 4 ["_law_plain_here","_law_xs"] (JB K):=by
 refine T.uE.cN dE λ Z Z Z Z Z H u Q E hr h=>?_
 obtain ⟨q,px,r,b,l,rfl,⟨pr,po,xs,hq,jY,dr,yG⟩,ok,R,W,⟨ns,hx,ln⟩,k⟩:=h
 refine ⟨_,(ai (cL (i:=2) dE.nd (bG af))
     (ai (c6 aaH rfl (cg rfl T.dB (aa (aV bH (by rfl) T.eF cK (aa (ar ao (pv 0) ac) af)) af)) (ij (i:=3) dE.nd) (ai (cL (i:=4) dE.nd (ar ao (ar ao (pv 0) ac) (pv 3)))
     (ai (cL (i:=5) dE.nd (ay (lG T) hr.m (aa (ar ao (ar ao (pv 4) ac) ac) (aa (ar ao (ar ao (pv 4) ac) ac) (aa (ax aI (ar ao (pv 1) (ax bF ac (pv 3))) ac) af)))))
     (ai (cL (i:=6) dE.nd (ay (lG T) hr.m (aa (ar ao (ar ao (pv 4) ac) ac) (aa (ar ao (ar ao (pv 4) ac) ac) (aa (ax cQ ac (ax aI (ar ao (pv 1) (ax aO (ax bF ac (pv 3)) ac)) ac)) af)))))
     (ap (bC (im aaF aaM aaL cA (pv 2) (aa (aY (aa (ar ao (pv 4) ac) (aa (aY (aa (ar ao (ar ao (pv 4) ac) ac) (aa (pv 5) (aa (pv 6) af)))) (aa (ar ao (pv 4) ac) (aa (ar ao (pv 4) ac) af))))) af))))))))
     (ap (aH (aY (aa (pv 2) (aa (ar ao (pv 0) ac) af))))))),?_⟩
 try dsimp only [eS,bj]
 try (refine dQ ?_;intro Z Z Z Z)
 have lx:xs.length=r.length:=by rw [dr.length,No]
 have n1:=R.n1
 have n4:=R.n4
 refine ⟨E6,λ pn Wi=>?_⟩
 have S0:=ak (o:=.lst []) Wi
 refine ⟨_,rfl,q,_,_,_,rfl,rfl,.inr (S0.tup hq),rfl,pr,_,rfl,.inl (S0.seq jY),λ n en=>?_⟩
 rw [lx] at en
 subst en
 refine ⟨_,rfl,by lia,by lia,?_⟩
 refine fW (lo:=0) (n:=r.length) (λ i U H'=>A3 (aG H H') (E2 λ (u:aB) (f:List R8)=>A4 (H' pn=some (.lst u)) (bL K (cU H' [pn]) (f.map Hs) u) (f.length=i) (∀ j,j<i->∃ x y p q:Int,(cV r j).lo=aR x 1 l/\(cV r j).hi=aR y 1 l/\x.natAbs<=300/\y.natAbs<=300/\(0<=p/\p<=4)/\(0<=q/\q<=4)/\cV f j={ cV r j with lo:=aR (x * (8 - p)+y * p) 8 l,hi:=aR (x * q+y * (8 - q)) 8 l })) (E4 λ x3 x4 x5 x6=>U=[some (.ref q),some (.ref px),some (.ref pn),x3,x4,x5,x6]))
   ⟨S0,⟨[],[],ag,dS,rfl,λ Z h=>absurd h (abk _)⟩,none,none,none,none,rfl⟩ ?_ ?_
 .
  rintro Z i U H1 hi ⟨S,⟨u,f,G,O,L,EO⟩,x3,x4,x5,x6,rfl⟩
  obtain ⟨v,ev,dv⟩:=dr.get (i:=i) (d:=Hs (cV r i)) (by rw [Zj,fV hi];rfl)
  have ae:=dv
  obtain ⟨a,pm,D,sv,Y,us,v1,v2,rfl,N,hm,dm,C,d1,d2,ab,hf⟩:=tP dv
  have L9:oh xs (0+(i:Int))=some (.ref a):=by rw [aaX];exact fK ev
  obtain ⟨x,y,ex,ey,bx,EZ⟩:=W i hi
  rw [ex] at d1
  rw [ey] at d2
  refine ⟨_,rfl,q,_,_,_,rfl,rfl,.inr (S.tup hq),rfl,_,rfl,pr,_,_,_,rfl,rfl,.inl (S.seq jY),L9,?_⟩
  refine ⟨_,rfl,a,_,_,_,rfl,rfl,.inr (S.tup N),rfl,D,_,_,_,rfl,rfl,.inr (S.tup C),rfl,_,rfl,a,_,_,_,rfl,rfl,.inr (S.tup N),rfl,D,_,_,_,rfl,rfl,.inr (S.tup C),rfl,?_⟩
  refine ⟨_,rfl,_,rfl,_,_,rfl,rfl,⟨3,5,oN,(show Int.natAbs _<2 ^ 5 by lia),by decide⟩,λ y1 e1=>?_⟩
  obtain rfl:y1=((2 * i:Nat):Int):=by rw [e1];push_cast;lia
  refine ⟨px,_,_,_,rfl,rfl,.inl (S.seq hx),mM (i:=2 * i) (by lia),_,_,rfl,rfl,by decide,λ p p0 p1 Z=>⟨v1,v2,p,x,y,l,rfl,Dn.same S _ d1,Dn.same S _ d2,ok,bx,EZ,by lia,λ ql H2 g h2=>?_⟩⟩
  have s:=S.trans g
  refine ⟨_,rfl,a,_,_,_,rfl,rfl,.inr (s.tup N),rfl,D,_,_,_,rfl,rfl,.inr (s.tup C),rfl,_,rfl,a,_,_,_,rfl,rfl,.inr (s.tup N),rfl,D,_,_,_,rfl,rfl,.inr (s.tup C),rfl,?_⟩
  refine ⟨_,rfl,_,rfl,_,_,rfl,rfl,⟨3,5,oN,(show Int.natAbs _<2 ^ 5 by lia),by decide⟩,λ y2 e2=>⟨_,_,rfl,rfl,λ y3 e3=>?_⟩⟩
  obtain rfl:y3=((2 * i+1:Nat):Int):=by rw [e3,e2];push_cast;lia
  refine ⟨px,_,_,_,rfl,rfl,.inl (s.seq hx),mM (i:=2 * i+1) (by lia),_,_,rfl,rfl,by decide,λ t t0 t1 Z=>⟨_,_,rfl,rfl,λ y4 A=>⟨v1,v2,y4,x,y,l,rfl,Dn.same s _ d1,Dn.same s _ d2,ok,bx,EZ,by lia,λ qh H3 s3 h3=>?_⟩⟩⟩
  have A:y4=8 - t:=A
  subst A
  have I:=s.trans s3
  have ad:=(g.trans s3) _ _ G
  refine ⟨_,rfl,.inl ⟨rfl,_,aX.of ad⟩,_,rfl,a,_,_,_,rfl,rfl,.inr (I.tup N),rfl,_,rfl,a,_,_,_,rfl,rfl,.inr (I.tup N),rfl,D,_,_,_,rfl,rfl,.inr (I.tup C),rfl,_,rfl,_,rfl,yF,λ M Qj=>?_⟩
  have F:=ak (o:=.tup [V.int (cV r i).share,V.ref ql,V.ref qh]) Qj
  have A:upd H3 M (.tup [V.int (cV r i).share,V.ref ql,V.ref qh]) M=some (.tup [V.int (cV r i).share,V.ref ql,V.ref qh]):=ag
  generalize upd H3 M (.tup [V.int (cV r i).share,V.ref ql,V.ref qh])=H4 at F A |-
  have S4:=I.trans F
  refine ⟨_,rfl,a,_,_,_,rfl,rfl,.inr (S4.tup N),rfl,_,rfl,a,_,_,_,rfl,rfl,.inr (S4.tup N),rfl,pX,λ q5 GW=>?_⟩
  have B:=ak (o:=.tup [V.ref pm,V.ref M,sv,V.ref Y]) GW
  have e5:upd H4 q5 (.tup [V.ref pm,V.ref M,sv,V.ref Y]) q5=some (.tup [V.ref pm,V.ref M,sv,V.ref Y]):=ag
  generalize upd H4 q5 (.tup [V.ref pm,V.ref M,sv,V.ref Y])=H5 at B e5 |-
  have S5:=S4.trans B
  have YZ:=((g.trans s3).trans F).trans B
  have Z1:=YZ _ _ G
  have ah:u.length=i:=by rw [O.length,No,L]
  have X:aT K H5 (cU H5 [pn]):=Gs λ b hb=>by
    rw [aac.mp hb]
    exact ⟨_,Z1,rfl⟩
  have J:aG H (cU H5 [pn]):=λ c o hc=>iz (S5 _ _ hc) λ z=>by
    rw [aac.mp z,Wi] at hc
    cases hc
  refine ⟨pn,u,_,rfl,rfl,Z1,bo (by lia),S5.put Wi,⟨_,f++[{ cV r i with lo:=aR (x * (8 - p)+y * p) 8 l,hi:=aR (x * t+y * (8 - t)) 8 l }],ag,?_,by rw [aaf,L];rfl,λ j hj=>?_⟩,_,_,_,_,rfl⟩
  .
   rw [j5 (by simp),aai]
   refine (bL.same (md YZ) _ O).snoc ?_
   have e8:(8:Int) - (8 - t)=t:=by lia
   rw [e8] at h3
   refine fX (X _ _ (bY.of e5)) (br (rj (J.seq hm) (bL.same J _ dm)) (br (fX (X _ _ (bY.of (B _ _ A))) (br nX (br (jl (X _ _ (bY.of (((s3.trans F).trans B) _ _ h2)))) (br (jl (X _ _ (bY.of ((F.trans B) _ _ h3)))) dS)))) (br (Dn.same J _ ab) (br (rj (J.seq hf) (uL _)) dS))))
  .
   by_cases e:j<i
   . rw [pj.1 j (by lia)];exact EO j e
   . obtain rfl:j=f.length:=by lia
     rw [pj.2,L]
     exact ⟨x,y,p,t,ex,ey,bx,EZ,by lia,by lia,rfl⟩
 .
  rintro U H1 ⟨S,⟨u,f,G,O,L,EO⟩,x3,x4,x5,x6,rfl⟩
  refine ⟨_,rfl,_,rfl,q,_,_,_,rfl,rfl,.inr (S.tup hq),rfl,vg,λ q2 tw=>?_⟩
  have g:=ak (o:=.tup [V.ref pn,V.ref po]) tw
  exact k q2 f _ (S.trans g) ⟨pn,po,u,bY.of ag,aX.of (g _ _ G),bL.same g _ (bL.same gk _ O),(S.trans g).tup yG⟩ ⟨L,λ i hi=>EO i hi⟩
def um (T:Txt K mg Ad):Ee P w K mg base "hold_like" 4 ["hold","most","cap","load"] [.cC] (tz K Ad.bw) :=
 (kO T).Js T.l8 λ i H=>by
   obtain ⟨e,f,U,rfl,R,d,r⟩:=vals3 H
   exact ⟨[U],.cons r .nil,λ Z Z Z Z Z Z u h=>by obtain ⟨a,b,c,rfl⟩:∃ a b c,u=[a,b,c]:=FT (by simpa using h:u.length=3) λ a b c=>⟨a,b,c,rfl⟩;exact ⟨_,rfl,rfl⟩⟩
def vR (T:Txt K mg Ad):Def P w K mg base "_law_better" 8 ["_law_plain_here","_law_hold_here","_law_xs"] (Bw K Ad.bw):=by
 refine T.xX.cN hZ λ Z Z Z Z Z H vs Q E v h=>?_
 obtain ⟨q,a,g,rs,b,kd,F,m,sc,rfl,O,ok,p,B,l,⟨x,f,ln⟩,k⟩:=h
 refine ⟨_,(ai (iW (ar ao (pv 0) ac) (cW (K:=K) (n:=3) rfl rfl (aP (ij (i:=3) hZ.nd) (aP (ij (i:=4) hZ.nd) (aP (ij (i:=5) hZ.nd) cZ)))))
     (ai (bB (aK cP (ax aI (ar ao (pv 2) ac) ac) ac (aM _)) (ap (aH (jS (um T) v.m (aa (pv 1) (aa cy (aa (aV (mP rfl) (by rfl) T.Cm ye (aa ac (aa (ax aO (ax aO (pv 4) ac) (ax aI (ar ao (pv 2) ac) ac)) af))) af)))))) aJ)
     (ai (bB (aK cP (ax aI (ar ao (pv 2) ac) ac) ac (aM _)) (ap (aH (jS (uG T) v.m (aa (pv 1) (aa cy (aa cy (aa (ax aO (ax aO (pv 5) ac) (ax aI (ar ao (pv 2) ac) ac)) af))))))) aJ)
     (ai (bB (aK cP (ax aI (ar ao (pv 2) ac) ac) ac (aM _)) (ap (aH (jS (uT T) v.m (aa (pv 1) (aa (aV (mP rfl) (by rfl) T.Cm ye (aa ac (aa (ax aO (pv 3) ac) af))) af))))) aJ)
     (ap (aH (ay (rL T) v.m (aa (ay (sC T) v.m (aa (pv 0) (aa (pv 2) af))) af)))))))),?_⟩
 try dsimp only [eS,bj]
 try (refine u8 ?_;intro Z Z Z Z Z Z)
 obtain ⟨pr,po,xs,hq,jY,dr,yG⟩:=id O
 have z:=mM (ns:=x) (i:=6) (by lia)
 have G:=mM (ns:=x) (i:=7) (by lia)
 obtain ⟨C,o,s⟩:=Rp l p
 have lm:=l.most
 have lc:=l.d6
 have ll:=l.load
 have J:=LO l p
 refine ⟨_,rfl,q,_,_,_,rfl,rfl,.inr hq,rfl,po,_,rfl,yG,rfl,_,_,rfl,_,_,rfl,_,_,rfl,rfl,?_⟩
 refine ⟨_,rfl,g,_,_,_,rfl,rfl,.inl f,z,_,_,rfl,rfl,by decide,λ r Z Z Z=>⟨rfl,_,rfl,eM (λ Z=>?_) (λ Z=>?_)⟩⟩
 .
  refine ⟨_,rfl,_,rfl,_,_,rfl,rfl,λ Y L=>⟨_,rfl,g,_,_,_,rfl,rfl,.inl f,G,_,_,rfl,rfl,by decide,λ t t0 t1 Z=>⟨_,_,rfl,rfl,λ y e2=>⟨_,_,rfl,?_⟩⟩⟩⟩
  have d:m.d6<=(if y<30 then y else 30)/\(if y<30 then y else 30)<=30/\(if y<30 then y else 30)<=(kd.2.2.2:Int):=by
    have:=p.b1
    split<;>lia
  generalize (if y<30 then y else 30)=c at d |-
  exact ⟨a,F,m,none,some c,none,rfl,B,⟨C,⟨by show 0<=c;lia,d.2.1⟩,s⟩,λ A j M S u Z=>k A M _ j S u (.inl ⟨m.most,c,m.load,rfl,aa5 _,C.2,d.1,d.2.1,d.2.2,aa5 _,s.2⟩)⟩
 refine ⟨_,rfl,g,_,_,_,rfl,rfl,.inl f,z,_,_,rfl,rfl,by decide,λ r Z Z Z=>⟨rfl,_,rfl,eM (λ Z=>?_) (λ Z=>?_)⟩⟩
 .
  refine ⟨_,rfl,_,rfl,_,_,rfl,rfl,λ Y L=>⟨_,rfl,g,_,_,_,rfl,rfl,.inl f,G,_,_,rfl,rfl,by decide,λ t t0 t1 Z=>⟨_,_,rfl,rfl,λ y e2=>?_⟩⟩⟩
  have d:m.load<=y/\y<=30:=by
    have:=p.b2
    lia
  exact ⟨a,F,m,none,none,some y,rfl,B,⟨C,o,⟨by show 0<=y;lia,d.2⟩⟩,λ A j M S u Z=>k A M _ j S u (.inl ⟨m.most,m.d6,y,rfl,aa5 _,C.2,aa5 _,o.2,J,d.1,d.2⟩)⟩
 refine ⟨_,rfl,g,_,_,_,rfl,rfl,.inl f,z,_,_,rfl,rfl,by decide,λ r Z Z Z=>⟨rfl,_,rfl,eM (λ Z=>?_) (λ Z=>?_)⟩⟩
 .
  refine ⟨_,rfl,_,rfl,_,_,rfl,rfl,λ Y L=>⟨_,_,rfl,?_⟩⟩
  have d:m.most<=(if Y<4 then Y else 4)/\(if Y<4 then Y else 4)<=4:=by split<;>lia
  generalize (if Y<4 then Y else 4)=c at d |-
  exact ⟨a,F,m,some c,none,none,rfl,B,⟨⟨by show 0<=c;lia,d.2⟩,o,s⟩,λ A j M S u Z=>k A M _ j S u (.inl ⟨c,m.d6,m.load,rfl,d.1,d.2,aa5 _,o.2,J,aa5 _,s.2⟩)⟩
 have R:=p.rooms
 refine ⟨_,rfl,_,rfl,q,g,rs,b,sc,rfl,O,ok,R,λ i hi=>(p.r i hi).w,⟨x,f,ln⟩,λ q' kZ H1 s1 V N=>?_⟩
 have D:=N.rooms ok R
 have I:=p.b1
 have X:=p.b2
 refine ⟨q',kZ,b,rfl,V,D,p.b0,⟨I.1,I.2.1⟩,⟨X.1,by lia⟩,λ A M U W s2 h2 Z e=>?_⟩
 refine k A M U W (s1.trans s2) h2 (.inr ⟨U.aN,N.with l e,N.nar ok R l e,e.OI D ?_⟩)
 unfold av.Nd
 rw [e.most,e.d6,e.load,<- lm,<- lc,<- ll]
 exact ⟨C,o,s⟩
def LH {f:am} {fd:FuncData} (F:Jm K "law" "law" C7 f fd) (T:Txt K mg Ad):lZ P w K mg base yJ 14 f fd ["_law_script"] (FE K):=by
 refine F.ok oE (λ vs H Q E h=>?_) (λ bQ A outer s H vs Q E c h=>?_)
 . obtain ⟨a,N,rfl,Z⟩:=h
   rfl
 .
  obtain ⟨ps,N,rfl,Y,a1,CZ,k⟩:=h
  refine ⟨_,(ai (cL (i:=1) oE.nd (ay (yD T) c.m (aa (pv 0) (aa ac (aa (ay (xc T) c.m (aa (ay (fm T) c.m (aa (pv 0) (aa ac af))) af)) af)))))
    (ai (cL (i:=2) oE.nd (ay (rL T) c.m (aa (pv 1) af)))
    (ai (cL (i:=3) oE.nd (ay (qY T) c.m (aa (ay (fm T) c.m (aa (pv 0) (aa ac af))) (aa (pv 1) af))))
    (ai (cL (i:=4) oE.nd (ay (fN T) c.m (aa (ay (fm T) c.m (aa (pv 0) (aa ac af))) (aa ac af))))
    (ai (cL (i:=5) oE.nd (o9 (P:=P) (w:=w) (K:=K) rfl rfl rfl c.Iw (jS (jF (P:=P) (w:=w) T) c.m (aa (pv 2) (aa (bG (aa (pv 3) af)) af))) (pv 3) (λ Z Z=>rfl)))
    (ai (bB (eJ (cT (ay (lE T) c.m (aa (o9 (P:=P) (w:=w) (K:=K) rfl rfl rfl c.Iw (jS (jF (P:=P) (w:=w) T) c.m (aa (ay (vR T) c.m (aa (pv 1) (aa (pv 2) (aa (pv 4) af)))) (aa (bG (aa (pv 3) af)) af))) (pv 3) (λ Z Z=>rfl)) (aa (pv 5) af))))) (ap (aH fP)) aJ)
    (ai (bB (aK cP (ar ao (pv 3) ac) (ar ao (ar ao (pv 1) ac) ac) (aM _)) (ap (aH fP)) aJ)
    (ai (cL (i:=6) oE.nd (ax CT (lW Jl (pv 3) pS (pI ac)) (aY (aa (ax aO (ax aO (ar ao (pv 3) ac) ac) (ax aI (ar ao (pv 4) ac) (ax cQ (ar ao (ar ao (pv 1) ac) ac) (ar ao (pv 3) ac)))) af))))
    (ap (aH (ay (lE T) c.m (aa (o9 (P:=P) (w:=w) (K:=K) rfl rfl rfl c.Iw (jS (jF (P:=P) (w:=w) T) c.m (aa (pv 2) (aa (bG (aa (pv 6) af)) af))) (pv 6) (λ Z Z=>rfl)) (aa (pv 5) af))))))))))))),?_⟩
  try dsimp only [eS,bj]
  try (refine zK ?_;intro Z Z Z Z Z Z Z Z Z Z)
  refine ⟨_,rfl,_,rfl,ps,N,2,rfl,Y,by decide,λ c1 Z=>⟨c1,rfl,λ yE H1 sc ok s1 h1=>?_⟩⟩
  refine ⟨ps,N,0,yE,sc,rfl,s1.seq Y,bY.of h1,ok,λ q rs b kd H2 s2 hp g=>?_⟩
  have S2:=s1.trans s2
  have b0:=g.b0
  have b1:=g.b1
  have b2:=g.b2
  have R:=g.rooms
  refine ⟨_,rfl,q,rs,b,rfl,hp,R,b0,⟨b1.1,b1.2.1⟩,⟨b2.1,by lia⟩,λ a fp m H3 s3 n Z L=>?_⟩
  have S3:=S2.trans s3
  refine ⟨_,rfl,ps,N,4,rfl,S3.seq Y,by decide,λ c2 Z=>⟨_,rfl,c2,q,rs,b,rfl,hp.same s3,R,b0.1,b1.1,λ d S H4 s4 jG C a4=>?_⟩⟩
  have S4:=S3.trans s4
  have j:=C m L
  refine ⟨_,rfl,ps,N,5,rfl,S4.seq Y,by decide,λ c3 Z=>⟨c3,9,rfl,by decide,λ px ys H5 s5 h5 ly Z=>?_⟩⟩
  have pw:=L.OI R (Rp L g)
  have gm:=NX n.wf n.mx n.sk pw
  have tM:J8 m _ _ _ _:=L.tM g (LO L g) (a:=m.most) (l:=m.load)
  have W5:=(n.same s4).same s5
  have DY:=jG.same s5
  have YD:=((hp.same s3).same s4).same s5
  clear s1 h1 S2 S3 S4 s2 s3 s4 s5 hp jG C
  refine ⟨_,rfl,_,rfl,vW,λ D G=>?_⟩
  refine ⟨a,D,2000,fp,m,[.ref d],[S],rfl,W5.same (ak G),gm,tM.fin,by decide,tM.Lo n.mx,ag,.cons ⟨d,rfl,DY.same (ak G)⟩ .nil,λ s B=>by rw [aac.mp B];exact j,λ p aD H6 s6 Z5 SJ=>?_⟩
  obtain ⟨v0,ZJ,E9⟩:=SJ S (aac.mpr rfl)
  have v:=(ak (o:=.lst [.ref d]) G).trans s6
  clear s6 G
  have W:=DY.same v
  refine ⟨_,rfl,p,d,aD,ma S,_,rfl,rfl,Z5,g8 W,ZJ,?_⟩
  have VQ:=W5.same v
  have QD:=YD.same v
  have h6:=v _ _ h5
  clear v Z5 SJ ZJ
  refine ⟨_,rfl,_,rfl,_,rfl,q,a,px,rs,b,kd,fp,m,sc,rfl,QD,ok,g,VQ,L,⟨ys,aX.of h6,ly⟩,λ a' mI m' H7 s7 u x=>?_⟩
  have JF:=W.same s7
  have g':=NX u.wf u.mx u.sk (x.put pw)
  refine ⟨_,rfl,vW,λ D G=>?_⟩
  have sl:=ak (o:=.lst [.ref d]) G
  refine ⟨a',D,2000,mI,m',[.ref d],[S],rfl,u.same sl,g',(x.tM L g).fin,by decide,(x.tM L g).Lo u.mx,ag,.cons ⟨d,rfl,JF.same sl⟩ .nil,λ s B=>by rw [aac.mp B];exact x.state j,λ p8 U1 H8 s8 ZW YM=>?_⟩
  obtain ⟨v1,ZO,al⟩:=YM S (aac.mpr rfl)
  have O:=(s7.trans sl).trans s8
  have N8:=W.same O
  refine ⟨_,rfl,p8,d,U1,ma S,_,rfl,rfl,ZW,g8 N8,ZO,?_⟩
  refine ⟨_,rfl,v0,v1,rfl,x.le n.wf u.wf gm g' j E9 al,_,rfl,fe ?_⟩
  have ah:=QD.same O
  have h8:=O _ _ h6
  have ae:=VQ.same O
  clear O W JF DY YD QD W5 VQ h5 h6 s7 sl s8 ZW YM ZO G
  obtain ⟨pr,po,xs,hq,jY,dr,yG⟩:=ah
  obtain ⟨J,U,M,wr,Aq,tw,aj⟩:=id N8
  refine ⟨_,rfl,d,_,_,_,rfl,rfl,.inr wr,rfl,_,rfl,q,_,_,_,rfl,rfl,.inr hq,rfl,po,_,_,_,rfl,rfl,.inr yG,rfl,rfl,_,rfl,eM (λ Z=>k _) (λ ne=>?_)⟩
  have nh:(S.heap:Int)<b.2.1:=by
    have:(S.heap:Int)≠b.2.1:=λ z=>ne (abE V.int z)
    lia
  refine ⟨_,rfl,_,rfl,d,_,4,rfl,wr,rfl,rfl,(by show 4<5;decide),λ t1 Ur=>?_⟩
  have r:=ak (o:=.tup (List.take 4 [V.ref J,aq S.cB,V.ref U,V.ref M,aq S.heap])) Ur
  have e9:(upd H8 t1 (.tup (List.take 4 [V.ref J,aq S.cB,V.ref U,V.ref M,aq S.heap]))) t1=some (.tup [.ref J,aq S.cB,.ref U,.ref M]):=ag
  generalize upd H8 t1 (.tup (List.take 4 [V.ref J,aq S.cB,V.ref U,V.ref M,aq S.heap]))=H9 at r e9 |-
  refine ⟨_,rfl,d,_,_,_,rfl,rfl,.inr (r.tup wr),rfl,_,_,rfl,rfl,λ y1 e1=>⟨_,rfl,px,_,_,_,rfl,rfl,.inl (aX.of (r _ _ h8)),mM (i:=8) (by lia),_,rfl,q,_,_,_,rfl,rfl,.inr (r.tup hq),rfl,po,_,_,_,rfl,rfl,.inr (r.tup yG),rfl,_,rfl,d,_,_,_,rfl,rfl,.inr (r.tup wr),rfl,_,_,rfl,rfl,λ y2 e2=>⟨_,_,rfl,rfl,by lia,λ t t0 a5 Z=>⟨_,_,rfl,rfl,λ y3 e3=>⟨vW,λ t2 Ou=>?_⟩⟩⟩⟩⟩
  obtain ⟨e,rfl⟩:∃ e:Nat,y3=(e:Int):=⟨y3.toNat,by lia⟩
  have IW:S.heap<=e/\(e:Int)<=b.2.1:=by lia
  have VN:=ak (o:=.tup [.int (e:Int)]) Ou
  have y:(upd H9 t2 (.tup [.int (e:Int)])) t2=some (.tup [.int (e:Int)]):=ag
  generalize upd H9 t2 (.tup [.int (e:Int)])=a2 at VN y |-
  refine ⟨t1,t2,_,_,rfl,rfl,bY.of (VN _ _ e9),bY.of y,(by show 5<=sizeLine;decide),λ I ab aF Ta=>?_⟩
  have X:=(r.trans VN).trans aF
  have Kr:iR K ab I { S with heap:=e }:=⟨J,U,M,Ta,X.tup Aq,X.tup tw,X.tup aj⟩
  have Xf:=ae.same X
  have a0:eX m { S with heap:=e }:=⟨j.lb,j.lw,j.lf,j.cB,j.most,by rw [L.d6];exact IW.2,j.band,j.bX⟩
  refine ⟨_,rfl,_,rfl,vW,λ D G=>?_⟩
  have sl:=ak (o:=.lst [.ref I]) G
  refine ⟨a,D,2000,fp,m,[.ref I],[{ S with heap:=e }],rfl,Xf.same sl,gm,tM.fin,by decide,tM.Lo n.mx,ag,.cons ⟨I,rfl,Kr.same sl⟩ .nil,λ s B=>by rw [aac.mp B];exact a0,λ p2 Fx a3 aN TL X2=>?_⟩
  obtain ⟨v2,ad,an⟩:=X2 _ (aac.mpr rfl)
  refine ⟨_,rfl,p2,I,Fx,_,_,rfl,rfl,TL,g8 (Kr.same (sl.trans aN)),ad,?_⟩
  exact ⟨_,rfl,v0,v2,rfl,Pg IW.1 E9 an,k _⟩
end
def walk {l:W.OpenLaw} {q:bD} {L:de} {X:(dX)->bE->Prop} {Y:bz->bE->Prop} {d:DefRec} {K:Params->aE} (n:l.most=some 63) (Q:d.params.defaults=[]) (H:d.name = "law")
   (i:∀ (w:bz) (h:bE),Y w h->(K w.params).In h)
   (F:∀ (w:bz) (m:dX) (h:bE),(K w.params).In h->h.Ns mainGlobals m->∃ A,Txt (K w.params) m A) :
   W.WalkO q L X Y l.row.toRowW d [] (λ f vs=>PySem.call f vs) :=
 L2.FL (k:=14) (x:="_law_script") n Q ⟨rfl,by decide,by decide⟩ i
   (λ w m o h c G N=>by
     obtain ⟨Z,T⟩:=F w m h c G
     obtain ⟨f,g,j,a⟩:=id T.PV
     rw [H] at N
     have e:=N.symm.trans j
     cases e
     exact ⟨g,a.Lf (λ Z Z Z Z Z Z Z=>rfl),λ b Z Z=>LH a T⟩)
end K53
namespace PySem.W.Fast
abbrev q:=True
def tw1969175853306201625:=q
def tw18016160712440782428:=q
def tw901239177427520179:=q
def tw3307496462971195440:=q
def tw780694759279919247:=q
def tw8766139793295192675:=q
def tw6077696455160172449:=q
def tw18407956465909561924:=q
def tw17708415535238407632:=q
def tw1668558015747407825:=q
def tw12324374104474813088:=q
def tw11896121948304409074:=q
def tw15743674544118824826:=q
def tw18290686340769760446:=q
def tw18076525862567476841:=q
def tw11948738691418032824:=q
def tw16976754155464163092:=q
def tw10717361976049922240:=q
def tw3101888112500238376:=q
def tw10660476906853347111:=q
def tw4860473368983965998:=q
def tw13064117789100520984:=q
def tw9143124658127247648:=q
def tw6882239176002671971:=q
def tw9218587499693964871:=q
def tw9962834450582832639:=q
def tw8953324359527239772:=q
def tw10940107755494551308:=q
def tw4962436188765778950:=q
def tw470479139354893999:=q
def tw3745760245640188670:=q
def tw6504484819291042980:=q
def tw7850745875152754129:=q
def tw7686758256663269714:=q
def tw6187192099974559260:=q
def tw11602750570811668749:=q
def tw3343449691706797009:=q
def tw13921186152064454050:=q
def tw1955912376925416252:=q
def tw92812121116798570:=q
def tw16654058848984455643:=q
def tw12667689223790299518:=q
def tw12988620268321830032:=q
def tw16103419169085375662:=q
def tw1458097089440007349:=q
def tw12805568840339102139:=q
def tw9682275888693657481:=q
def tw6110095485757040725:=q
def tw6277241768888147441:=q
def tw8449127865778578022:=q
def tw18068017154162053233:=q
def tw8518725820748818836:=q
def tw4442509456865680148:=q
def tw15780043851068267884:=q
def tw2620817848992197753:=q
def tw4649401253851398077:=q
def tw9067506380289476601:=q
def tw5995409920913830543:=q
def tw2804874837407706885:=q
def tw17343479974768787438:=q
def tw8805897828124905286:=q
def tw5992819941878866431:=q
def tw14840206210964150916:=q
def tw4190510017214266356:=q
def tw15659987730155127042:=q
def tw17783820449620914967:=q
def tw11634415768196426984:=q
def tw18098252905550579581:=q
def tw11712888110507242268:=q
def tw10481537834881320669:=q
def tw11132854990804419061:=q
def tw312406682851018239:=q
def tw15053218150267983692:=q
def tw10907439175678288901:=q
def tw12043686811567284342:=q
def tw16322551504441601634:=q
def tw2182358481724931610:=q
def tw11190416863420275703:=q
def tw8352831907491147722:=q
def tw16681104189375570483:=q
def tw14313119212274705390:=q
def tw14122922830647388479:=q
def tw4593884360386471420:=q
def tw8349214520819241012:=q
def tw9537455061749580602:=q
def tw11900979337992511287:=q
def tw4880091653745385261:=q
def tw2194254353391557608:=q
def tw5033461985318241527:=q
def tw3196473434492997927:=q
def tw3326901381829690287:=q
def tw16773066771121397138:=q
def tw1473649508277452423:=q
def tw14346424284343308881:=q
def tw11211402678079051670:=q
def tw13695851531045516193:=q
def tw4973741362391687278:=q
def tw3420027649392594319:=q
def tw15512248024337788128:=q
def tw18029717476317960439:=q
def tw3538830101928647195:=q
def tw10432153116625860899:=q
def tw8530407443125664029:=q
def tw16463879307052275258:=q
def tw18300032778243355451:=q
def tw9714952115903271520:=q
def tw3469831221011062031:=q
def tw3888197603791882085:=q
def tw5057942044742210371:=q
def tw13059832117434918651:=q
def tw7206564599929983400:=q
def tw632872065850848891:=q
def tw7383380129933159585:=q
def tw8768774629511321451:=q
def tw18340384884893998204:=q
def tw9943899273026359299:=q
def tw12220365189128253598:=q
def tw6722481010428376062:=q
def tw12185253101087283009:=q
def tw1013361281742206920:=q
def tw3502153364534395960:=q
def tw4384554484000612821:=q
def tw2019011907569105728:=q
def tw1200630429635460713:=q
def tw4105059757033819390:=q
def tw2721093653632774908:=q
def tw10765040096893243018:=q
def tw8998871697726359700:=q
def tw15266190674830507973:=q
def tw3460423055078292851:=q
def tw17200203975861541407:=q
def tw15833485673535770009:=q
def tw15401348645516306389:=q
def tw7287639056475675741:=q
def tw5742461116004154520:=q
def tw14175545596595888516:=q
def tw1704910977226659573:=q
def tw3668916709212056151:=q
def tw14378250377396262681:=q
def tw3902490008619005605:=q
def tw12113991032308205763:=q
def tw7912653158968197747:=q
def tw558642939823247499:=q
def tw7807529273812585053:=q
def tw12597006144034085361:=q
def tw2057708649557001345:=q
def tw3311053511528651103:=q
def tw8890085697413616829:=q
def tw15216935735184876374:=q
def tw12133787372508970588:=q
def tw15178442275061077959:=q
def tw5936596241195793176:=q
def tw14477987988434942534:=q
def tw1962982983524691913:=q
def tw5908748569659880495:=q
def tw3879036807422573833:=q
def tw17514240815634634589:=q
def tw11306395187286590411:=q
def tw9116642430472776119:=q
def tw12690057741651519770:=q
def tw8527705707256524619:=q
def tw9984422329945985236:=q
def tw8289924621470857943:=q
def tw8212146932306510601:=q
def tw5396745144649174863:=q
def tw4789536384422800969:=q
def tw4202033926974709784:=q
def tw7223904026557932120:=q
def tw3990374795192951154:=q
def tw10111590983554318679:=q
def tw3326642963846865477:=q
def tw1993742833841318847:=q
def tw7818167680409369304:=q
def tw17867897081911382148:=q
def tw15929327587995578198:=q
def tw273104339000864041:=q
def tw13402984805951658628:=q
def tw8151884860950277592:=q
def tw18110879202875108240:=q
def tw14339268032990822219:=q
def tw2255480180574888215:=q
def tw8411251568124002294:=q
def tw11508527139101271919:=q
def tw17530852420153157871:=q
def tw5614938140879576418:=q
def tw2734384014658164307:=q
def tw12030627763037800800:=q
def tw7706405054388355342:=q
def tw16777422181627689612:=q
def tw15053020530283433709:=q
def tw16110642982845758294:=q
def tw16185676543032976637:=q
def tw5098474565312490297:=q
def tw5029395066763732989:=q
def tw13521546653224588280:=q
def tw13513302714817078104:=q
def tw14231602775326687005:=q
def tw11130359859977824871:=q
def tw9282420827941180127:=q
def tw5053169424127076986:=q
def tw18363801777986678755:=q
def tw8577188255543518915:=q
def tw3360511094116644566:=q
def tw7123551913257628278:=q
def tw17566393061607848677:=q
def tw16114330244081800616:=q
def tw3293447115229578902:=q
def tw1722966969379453573:=q
def tw8500139547106937617:=q
def tw14266535917489833625:=q
def tw15099825102164757831:=q
def tw17223304159156450093:=q
def tw16367965936563106202:=q
def tw15985863065516141441:=q
def tw2259863851402152328:=q
def tw12884445023391835806:=q
def tw6881915506089782107:=q
def tw862641182326015159:=q
def tw6742924324075451873:=q
def tw11031786456394593809:=q
def tw4002011100073191234:=q
def tw14870379717799708896:=q
def tw17196524346632526068:=q
def tw13138794732028417393:=q
def tw13165339614979892944:=q
def tw11300496407501888792:=q
def tw17160959770682914545:=q
def tw6449908472671116775:=q
def tw2165522280417929148:=q
def tw10943363689326505449:=q
def tw2742450090250402727:=q
def tw13053693893547868733:=q
def tw15517294476775466820:=q
def tw14277091974371575722:=q
def tw1980482288508194704:=q
def tw17953257782005608487:=q
def tw363390625713317184:=q
def tw18385710007290902600:=q
def tw11923566041982285376:=q
def tw4671368554259633289:=q
def tw14401642826517490040:=q
def tw11549092994885551752:=q
def tw13133382976055465507:=q
def tw2325999991033910130:=q
def tw17871468805050085009:=q
def tw6886130067039723833:=q
def tw9355192261684364203:=q
def tw2028182366496520104:=q
def tw16971366817071957309:=q
def tw4691296833342091747:=q
def tw1762916460411475188:=q
def tw17377035148274035896:=q
def tw17010298151555791258:=q
def tw8592737898635023052:=q
def tw15491224232004284903:=q
def tw6614992289873385472:=q
def tw10888339120661334491:=q
def tw16531353323220392639:=q
def tw1153194798357471011:=q
def tw4712499526742052038:=q
def tw3228312078175174215:=q
def tw7170542654313287639:=q
def tw7059361573107591630:=q
def tw6447165081363086487:=q
def tw1980742961052845984:=q
def tw15181071940726494944:=q
def tw11878917776770146316:=q
def tw6374277050960144889:=q
def tw425565064228726216:=q
def tw18403334815351531062:=q
def tw12567424298064770577:=q
def tw17172964579606335900:=q
def tw1460927360486983019:=q
def tw17139280084637568215:=q
def tw10049588432143243651:=q
def tw2260676213240909842:=q
def tw4475674619817067887:=q
def tw9889720196900470389:=q
def tw4804798155889763288:=q
def tw14461767462188523013:=q
def tw3084300199937569089:=q
def tw15655140031332281325:=q
def tw2744279588213606502:=q
def tw11707749620161429329:=q
def tw8577484157377641546:=q
def tw3259289107698882273:=q
def tw7846887039626842247:=q
def tw14765766403008396561:=q
def tw6871123425453002144:=q
def tw3498389601061483425:=q
def tw8870830877923414587:=q
def tw2690879821425239084:=q
def tw5429620308255956582:=q
def tw10443912628192367757:=q
def tw6566618151146178229:=q
def tw4243092508977715933:=q
def tw3306694303695381582:=q
def tw12031322269016066065:=q
def tw1652873255919566640:=q
def tw13518809914427665089:=q
def tw5820770703924808280:=q
def tw9682084444478510238:=q
def tw11334021804961712572:=q
def tw16080100215135227574:=q
def tw10505058128229368216:=q
def tw9998014405260739738:=q
def tw12579606023692505058:=q
def tw17748749782078534028:=q
def tw4652576399916097693:=q
def tw16887522554379291373:=q
def tw4038441244786131573:=q
def tw16749286109300146900:=q
def tw15686188781602085180:=q
def tw1390243066416083289:=q
def tw17166730788851891582:=q
def tw9166113987810309164:=q
def tw9205662937680057051:=q
def tw4692972699858937548:=q
def tw3961293603311446222:=q
def tw3138360520527285537:=q
def tw2616844297155506196:=q
def tw14835473938188731782:=q
def tw5976650108943732036:=q
def tw878688235506132884:=q
def tw6197157448159059931:=q
def tw163142339957943260:=q
def tw11801430417502394931:=q
def tw11402507629223728567:=q
def tw10478497757835287312:=q
def tw9028500454755715388:=q
def tw370797057430056082:=q
def tw16769020558587077050:=q
def tw13907558934938773816:=q
def tw13381938611449043988:=q
def tw11207589251196451622:=q
def tw9127127503936441945:=q
def tw14996833243173262423:=q
def tw4419890747981355646:=q
def tw10836381155560769406:=q
def tw6275051715380065418:=q
def tw8700205294896050069:=q
def tw4961266327251295063:=q
def tw16565132959710775239:=q
def tw13022591101584116568:=q
def tw13320999255706699512:=q
def tw11624345621080103505:=q
def tw3850551685687730098:=q
def tw10453535632212811872:=q
def tw3922565868293843728:=q
def tw5997206902279611497:=q
def tw18253136575054331994:=q
def tw17505479995030116134:=q
def tw14524438780951768595:=q
def tw15172866459253582562:=q
def tw8730534251873232623:=q
def tw18388646788566733999:=q
def tw14194103561737056311:=q
def tw13842876867534119451:=q
def tw10335393443700957923:=q
def tw8374150147827429006:=q
def tw7923824114123723323:=q
def tw602578768389140578:=q
def tw16968577757150754033:=q
def tw3199201980707043225:=q
def tw12772271234345402816:=q
def tw9759549817979211061:=q
def tw8461892322708658248:=q
def tw3316646512846293622:=q
def tw16219391120850621355:=q
def tw12727677855001890254:=q
def tw8096260773617392177:=q
def tw8145942065138917648:=q
def tw2836578296119384718:=q
def tw15426584057679926222:=q
def tw11601659664012389450:=q
def tw10317015601635277788:=q
def tw9809571010252789430:=q
def tw4827755544608796019:=q
def tw17520995677483142715:=q
def tw17046381777273582701:=q
def tw13577878009617208744:=q
def tw10580619648063231656:=q
def tw6435352995683993187:=q
def tw7620697704399225818:=q
def tw4439855756095073916:=q
def tw12231339649959938095:=q
def tw17066480572400845329:=q
def tw17946349656574407858:=q
def tw9390774508560218219:=q
def tw6946408150391619832:=q
def tw6795444982422950081:=q
def tw2133355969025670220:=q
def tw15141525512610473828:=q
def tw4845353663227345433:=q
def tw17985270764449099738:=q
def tw11449583820595932886:=q
def tw4355242574177872188:=q
def tw3157996125139082339:=q
def tw7712488561008014333:=q
def tw5517332384816370924:=q
def tw6189467675297831890:=q
def tw4740780447083121040:=q
def tw3858918795815185059:=q
def tw10649507271602642364:=q
def tw904235945565097277:=q
def tw15140286906275122583:=q
def tw3296062377724079914:=q
def tw10653751795857998567:=q
def tw3917021098919386334:=q
def tw16869909607889998621:=q
def tw13672930307076144803:=q
def tw11848305082295038483:=q
def tw885219873380277957:=q
def tw4269197966103836611:=q
def tw12322839806196312871:=q
def tw2713028237123075823:=q
def tw459008693565885580:=q
def tw15742849421209748652:=q
def tw11782045119972619385:=q
def tw13178035224801725404:=q
def tw3667743149420947826:=q
def tw2227469009593731044:=q
def tw1937052453436538894:=q
def tw854751301369378925:=q
def tw1147853455995500293:=q
def tw2265065687016205659:=q
def tw6029409775993384512:=q
def tw734515807394052409:=q
def tw1804427253994809342:=q
def tw5946051507424698737:=q
def tw7621629296965949081:=q
def tw17529083087613054778:=q
def tw11214963190422285535:=q
def tw11414196505418195408:=q
def tw2739905623786049977:=q
def tw7318883432695755402:=q
def tw5597225158405647023:=q
def tw12649804291843672107:=q
def tw11872289551743932625:=q
def tw11679819986978703206:=q
def tw5120196708104476365:=q
def tw1722133589134114950:=q
def tw13950595501916062833:=q
def tw792620752778762073:=q
def tw14192911045496309855:=q
def tw13086420988211086276:=q
def tw6366983392031470668:=q
def tw13653575709549430422:=q
def tw15448913508780262039:=q
def tw13434649956624144663:=q
def tw9909556908616009527:=q
def tw14957906124484427653:=q
def tw17549341815131716527:=q
def tw12181810544533797895:=q
def tw5763251364498043655:=q
def tw15078163016995575299:=q
def tw11490898988387720736:=q
def tw10949982571119252186:=q
def tw6227602066805723798:=q
def tw2803737030028638456:=q
def tw16927981831582539772:=q
def tw8253309648661124508:=q
def tw7748870508243764360:=q
def tw16954383525305912710:=q
def tw14075715720759928449:=q
def tw12905497998665718158:=q
def tw9409061964680064338:=q
def tw8320237033203789851:=q
def tw4443719035419700705:=q
def tw4100028840252560012:=q
def tw2313211365274715323:=q
def tw18111957851999828957:=q
def tw17284827160674680876:=q
def tw17184789129586639085:=q
def tw16383684297800839207:=q
def tw15751757225336003397:=q
def tw14625360476436978483:=q
def tw12675605806774309617:=q
def tw10321590236314044617:=q
def tw435855964553396368:=q
def tw15944804300219643514:=q
def tw15701427649277464624:=q
def tw3700205697966622586:=q
def tw17261576903651557288:=q
def tw12339858215936111149:=q
def tw12045426571011338910:=q
def tw1051572655810488364:=q
def tw5229364005716811876:=q
def tw8983180449718418287:=q
def tw6373598306455646658:=q
def tw5881940432943957937:=q
def tw18374669941342959498:=q
def tw17563427961134505177:=q
def tw1754094262282367348:=q
def tw17397992294534967470:=q
def tw12052077462209892016:=q
def tw1090770819957569759:=q
def tw10313572222868255390:=q
def tw18277008647802135119:=q
def tw4666590571527601244:=q
def tw17401105147613293350:=q
def tw6660751990049080040:=q
def tw550517249475292619:=q
def tw4728370208894242393:=q
def tw173909524926419158:=q
def tw15184379453818402969:=q
def tw976941254321045738:=q
def tw9718889430855194473:=q
def tw9589011708073471746:=q
def tw9385773483303278272:=q
def tw582641171655718408:=q
def tw551208421127124673:=q
def tw4046026699044759330:=q
def tw3269681052060435454:=q
def tw3238172768099512616:=q
def tw1826970276176337419:=q
def tw16499017677924654961:=q
def tw16473816753550367954:=q
def tw16196733937648342389:=q
def tw16190873936414078376:=q
def tw14564802373484696943:=q
def tw13254601127652448266:=q
def tw10303385753766074256:=q
def tw9808442878749930053:=q
def tw886273516527900135:=q
def tw8134033778830869641:=q
def tw5011835294430664510:=q
def tw3552197031337226792:=q
def tw34560802431231565:=q
def tw16203041115865366806:=q
def tw1584480238673372242:=q
def tw1532804811935800203:=q
def tw15194249082358093009:=q
def tw14565315336999620060:=q
def tw14532830182454666473:=q
def tw1411624581030817294:=q
def tw13726243423646149410:=q
def tw13217693407257686443:=q
def tw13318637153751913364:=q
def tw10481757758572804837:=q
def tw8917941429244762388:=q
def tw7474919739674469499:=q
def tw12940967643228949681:=q
def tw17956236104330229469:=q
def tw8678062156173096067:=q
def tw10966800622403121078:=q
def tw9971018200198216029:=q
def tw9774809068818937845:=q
def tw9397974289665803529:=q
def tw8781632117150544040:=q
def tw4453843205050066612:=q
def tw15238676727044681511:=q
def tw14852778506898718936:=q
def tw13643911815794264409:=q
def tw13469352579843677578:=q
def tw10550579075594016095:=q
def tw9485642232597329004:=q
def tw8582035646534532199:=q
def tw6900873470346902596:=q
def tw5908022881705815790:=q
def tw5596476382515938653:=q
def tw17793444565589367304:=q
def tw16668137767055327632:=q
def tw16265349530897016514:=q
def tw16000269443486522834:=q
def tw15943693923299020030:=q
def tw15611483324901850146:=q
def tw14204764119361050591:=q
def tw14098213213790807667:=q
def tw13102837102996316473:=q
def tw13088992256371962110:=q
def tw10776487836916099570:=q
def tw9917695738776893716:=q
def tw9877427483402164004:=q
def tw9748853390167385786:=q
def tw9448524046299371313:=q
def tw9386267683805486117:=q
def tw9340570168423515758:=q
def tw9311918882309241481:=q
def tw889968248940070636:=q
def tw8865999636490992276:=q
def tw8834511815489780828:=q
def tw8639888744726241760:=q
def tw8583757240481283991:=q
def tw8447657127609053215:=q
def tw8188029537546354755:=q
def tw7990091604241791384:=q
def tw7859496358233648240:=q
def tw7858693824085671329:=q
def tw7762068214867912072:=q
def tw7691310652617000150:=q
def tw7677426567948176986:=q
def tw7544355242289000255:=q
def tw7266570585932152465:=q
def tw7172076653930183710:=q
def tw7169356539049652423:=q
def tw7052252633461182087:=q
def tw6992591463283907324:=q
def tw6961019440126658188:=q
def tw6915103011146610575:=q
def tw681797817889363701:=q
def tw6696346826553948391:=q
def tw6475070893235843001:=q
def tw645526847723524812:=q
def tw6388190077462398149:=q
def tw6178011536281643107:=q
def tw6053796937020027675:=q
def tw5973551838646152677:=q
def tw5864877707444316474:=q
def tw5860819768300491128:=q
def tw5858719055647436898:=q
def tw5554885799953510270:=q
def tw5464746690731803003:=q
def tw5350251203769293425:=q
def tw5295484685646481732:=q
def tw5233605030195551867:=q
def tw5216921895348493880:=q
def tw5198086028922020457:=q
def tw5193528567219094523:=q
def tw5191659322568087953:=q
def tw5156896308781455242:=q
def tw5146612442126800524:=q
def tw506316478935319786:=q
def tw5046904013482296415:=q
def tw4967773853768929642:=q
def tw4961075000797861423:=q
def tw4849112902009316183:=q
def tw4518300040645865379:=q
def tw4516957632217623676:=q
def tw4396259096886358255:=q
def tw4340453081688196318:=q
def tw4336846674699034047:=q
def tw4330308865058124931:=q
def tw4189093466204996957:=q
def tw412834541346384884:=q
def tw4123230225654283235:=q
def tw410996420272906468:=q
def tw4078104193081916482:=q
def tw3957742931581662570:=q
def tw3851414858659126781:=q
def tw3728577413705495105:=q
def tw3722831430018485651:=q
def tw3655716423109173041:=q
def tw3487804536120342053:=q
def tw3466812122719991011:=q
def tw3352128966922699300:=q
def tw3276408597685480106:=q
def tw3260236789264955855:=q
def tw3248806261860285316:=q
def tw3139683625493575970:=q
def tw2986492543144057122:=q
def tw2777034351269328837:=q
def tw275985652434585786:=q
def tw2735196964082211548:=q
def tw2707618956232341282:=q
def tw2701671399433093455:=q
def tw2487719716946049811:=q
def tw2342004591964822780:=q
def tw2106706901391962887:=q
def tw1966286201143629593:=q
def tw1904954039552734001:=q
def tw18409399175522765698:=q
def tw18334476794921785071:=q
def tw18129655140651174129:=q
def tw18091813836838605378:=q
def tw18018828793702099638:=q
def tw17970318037428952449:=q
def tw1794096664497471051:=q
def tw17854601539388886338:=q
def tw17766421255224533589:=q
def tw17688856289569404627:=q
def tw17610824079068374461:=q
def tw17527168259823834658:=q
def tw17491731360735085038:=q
def tw17490462166769307557:=q
def tw17435158388356189813:=q
def tw17390363470307383194:=q
def tw17306448988134679524:=q
def tw17052627230483653011:=q
def tw16984204061189156407:=q
def tw16866335552469625430:=q
def tw16733321907072376306:=q
def tw1670610654566479584:=q
def tw16689157256745912805:=q
def tw1655518922995978301:=q
def tw16227374415729000616:=q
def tw16155713126629095542:=q
def tw16089950566389178199:=q
def tw16063480829731051740:=q
def tw16001122958433339207:=q
def tw15956891881954713917:=q
def tw15915798962217258333:=q
def tw15895801221164316466:=q
def tw1580422405831398727:=q
def tw1577719553830235665:=q
def tw15698039283198499182:=q
def tw15657199659887948803:=q
def tw15423534301258804226:=q
def tw15407635049190391378:=q
def tw15351245973381030057:=q
def tw15315829716960654528:=q
def tw152587152553777773:=q
def tw15211480137733637424:=q
def tw15091176821112578354:=q
def tw15087038215693727981:=q
def tw15038192384637927325:=q
def tw14997504211199786702:=q
def tw14780435754019393518:=q
def tw1475255973747872465:=q
def tw14633531401675434953:=q
def tw14606858329282184508:=q
def tw14544159382051007475:=q
def tw14535644336215500988:=q
def tw14507489532506609068:=q
def tw14391457389574178571:=q
def tw14323514203322998734:=q
def tw14281267299588689119:=q
def tw14280992463890527536:=q
def tw14276915610991843286:=q
def tw1417913015924502527:=q
def tw14074791375900799608:=q
def tw13983694626068707765:=q
def tw13787757056548590355:=q
def tw13748022639728061974:=q
def tw13694787202790610289:=q
def tw13483590750080286714:=q
def tw13233989463559664450:=q
def tw13118646851355585705:=q
def tw13031200447109182085:=q
def tw12769871754527290750:=q
def tw12710978707142825601:=q
def tw12673312369203308800:=q
def tw12654539993813439698:=q
def tw12601488933444003753:=q
def tw12587844134119657375:=q
def tw12567891256193300036:=q
def tw12557255086829282917:=q
def tw12475475039364264015:=q
def tw12443063511350100364:=q
def tw11948511529855976961:=q
def tw11883366635883564530:=q
def tw11696085647609711006:=q
def tw11591471792461611641:=q
def tw11531279630020498838:=q
def tw11496288081004530622:=q
def tw11427190059331094559:=q
def tw11340954040133305141:=q
def tw1130286727835819718:=q
def tw11179413602418645910:=q
def tw10908035454449355139:=q
def tw10785169887250439179:=q
def tw10715508326987186545:=q
def tw10661935764764825757:=q
def tw10616624296211138743:=q
def tw10564147875037985095:=q
def tw10533597690610614214:=q
def tw10460882087664474485:=q
def tw10078848021690485902:=q
def tw10022433995046441751:=q
end PySem.W.Fast
open PySem PySem.W PyProof.Rows
set_option maxRecDepth 100000 in
set_option maxHeartbeats 0 in
theorem PySem.Challenge.cw_stoke_k53_never_hurts_holds : PySem.Challenge.rw_stoke_k53_never_hurts.Holds := by
 w_on; o_law; k_head; (case hw => w_witness2)
 k_fill
 refine K53.walk (l:=PySem.Challenge.rw_stoke_k53_never_hurts) rfl rfl rfl (fun w h Y => PySem.W.kIn_of Y) ?F
 case F =>
   intro w mg h KX G
   refine' ⟨_,K53.txt_mk KX G ..⟩
   iterate 2 (all_goals try first | exact ⟨_,_,_,_,_,_,_,_,_,_,by k_is,by k_is,by k_is,by k_is,by k_is⟩ | exact ⟨_,_,_,_,_,_,_,_,_,_,by k_is,by k_is,by k_is,by k_is⟩ | ((try delta K53.kq_); (try delta K53.kc_); (try delta K53.kf_); (try delta K53.kn_); (try delta K53.kg_); first | k_is | k_exc | kernel_rfl))
