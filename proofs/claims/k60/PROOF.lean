import PyProof.Rows.All
import Wide.All
import OpenK.AllK
import Wide.FinOn
import Lean
import PyProof.EqAt
import PyProof.EqKinds
import PyProof.TupleCall
import PySem.Challenge.RW_stoke_k60_lasts_by_heap
set_option compiler.extract_closed false
set_option maxHeartbeats 0
set_option Elab.async false
set_option linter.all false
set_option maxRecDepth 100000
noncomputable section
abbrev cH:=PySem.Str->Option PySem.Value
abbrev jA:=Option PySem.Value
abbrev bq:=List PySem.Value
abbrev bA:=List PySem.Addr
abbrev cm:=List PySem.Str
abbrev bi:=List Nat
abbrev au:=PySem.Value
abbrev ak:=PySem.Addr
abbrev aA:=PySem.W.Frag
abbrev aM:=PySem.Heap
abbrev aZ:=PySem.Program
abbrev aU:=PySem.World
def CT:=@List.length_map
def QQ:=@List.getElem?_eq_some_iff
def Vo:=@List.getElem?_eq_getElem
def WE:=@PySem.wpAny_bind
def aab:=@List.getD_eq_getElem?_getD
def aac:=@List.mem_singleton
def aae:=@List.length_append
def aag:=@List.getElem?_map
def aah:=@List.mem_cons
def aak:=@List.not_mem_nil
def aal:=@List.mem_of_getElem?
def aap:=@List.map_append
def aar:=@List.mem_cons_of_mem
def aax:=@List.length_range
def aaD:=@Nat.le_refl
def aaG:=@List.getElem?_append_left
def aaJ:=@PySem.Heap.get?_push_of_some
def aaL:=@decide_eq_false
def aaM:=@decide_eq_true
def aaO:=@Option.some.inj
def aaU:=@PySem.wpAny_pure
def aaW:=@List.mem_cons_self
def aaY:=@List.mem_append
def aa3:=@List.length_singleton
def aa4:=@List.mem_range
def aba:=@Nat.lt_of_lt_of_le
def abd:=@List.size_toArray
def abh:=@PySem.Heap.lt_size
def abj:=@Nat.lt_of_le_of_lt
def abk:=@Nat.le_trans
def abm:=@List.mem_map
def abq:=@List.getElem_mem
def abu:=@Bool.false_ne_true
def abw:=@List.length_take
def abx:=@PySem.F.plainAttrs_list
def abz:=@List.take_length
def abC:=@if_neg
def abE:=@if_pos
def abF:=@Bool.and_eq_true
def abG:=@PySem.F.type_list_append
def abK:=@PySem.F.slot_list_append
def abM:=@PySem.PassesOwn.never
def abS:=@List.mem_append_right
def abW:=@List.getElem?_append_right
def abX:=@PySem.Heap.get?_push_size
def abY:=@Nat.ne_of_lt
def abZ:=@List.nodup_cons
def ab0:=@List.map_cons
def ab1:=@List.getElem?_concat_length
def ab3:=@PySem.wpAny_mono
def ab9:=@List.length_cons
def aca:=@Int.zero_add
def acb:=@List.range_succ
def ach:=@Nat.zero_le
def aci:=@Nat.pow_le_pow_right
def ack:=@or_false
def acn:=@List.eq_nil_of_length_eq_zero
def acq:=@List.mem_filter
def acs:=@List.length_filter_le
def act:=@List.mem_append_left
def acu:=@decide_eq_true_eq
def acz:=@Int.toNat_natCast
def acA:=@List.find?_cons
def acB:=@List.append_nil
def acD:=@Int.natCast_nonneg
def acF:=@List.mem_iff_getElem
def acL:=@PyProof.Rows.callWith_type1
def acT:=@PySem.wpAny_holding
def ac0:=@Bool.and_eq_true_iff
def ac1:=@Option.map_eq_some_iff
def ac2:=@List.take_of_length_le
def ac3:=@Int.le_trans
def ac7:=@List.all_eq_true
def ada:=@Int.eq_ofNat_of_zero_le
def adc:=@PySem.W.mg_of
def adg:=@Nat.not_lt_zero
def adh:=@List.length_set
def adi:=@PySem.W.mg_none_of
def adj:=@List.filter_append
def adk:=@beq_eq_false_iff_ne
def adl:=@Nat.lt_irrefl
def adm:=@Nat.testBit_and
def adn:=@Nat.le_of_lt
def ado:=@PySem.wpAny_truthy_bool
def adp:=@PySem.wpAny_field
def adq:=@Option.isSome_iff_exists
def adr:=@Bool.false_eq_true
def ads:=@List.mem_flatMap
def adt:=@List.lookup_cons
def adu:=@Int.mul_pos
def adv:=@Bool.and_false
def adx:=@of_decide_eq_true
def ady:=@List.take_add_one
def adz:=@List.foldl_append
def adA:=@PySem.mem_of_lookup
def adB:=@congrArg
def adD:=@Int.le_of_lt
def adE:=@not_or
def adF:=@Nat.mul_le_mul_right
def adG:=@PySem.wpAny_Call_Name_kw
def adH:=@Bool.eq_iff_iff
def adI:=@List.Nodup.length_le_of_subset
def adJ:=@Nat.le_succ
def adK:=@List.pairwise_singleton
def adL:=@List.length_eq_zero_iff
def adM:=@List.countP_eq_zero
def adN:=@List.cons.inj
def adO:=@Int.le_refl
def adP:=@PySem.wpAny_newObj_type
def adQ:=@Nat.succ_le_succ
def adR:=@Nat.le_add_right
def adS:=@beq_iff_eq
def adT:=@Int.mul_nonneg
def adU:=@Bool.false_and
def adV:=@PySem.wpAny_callSpecial?_slot
def adW:=@List.mem_iff_getElem?
def adX:=@List.map_map
def adY:=@List.append_assoc
def adZ:=@List.getElem?_set_ne
def ad0:=@PySem.wpAny_passesOwn
def ad1:=@PySem.wpAny_execs_nil
def ad2:=@List.mem_or_eq_of_mem_set
def ad3:=@PySem.wpAny_pyIter_enum
def ad4:=@PySem.Paired.length
def ad6:=@List.replicate_succ
def ad7:=@Int.toNat_of_nonneg
def ad8:=@Nat.ne_of_gt
def ad9:=@List.eq_of_mem_replicate
def aea:=@Int.mul_fdiv_cancel_left
def aeb:=@PySem.F.slot_tuple_iterator_next
def aec:=@PySem.W.kia_one
def aed:=@PySem.PyData.tuple.inj
def aee:=@List.getElem?_set_self
def aef:=@Ne.symm
def aeg:=@if_false
def aeh:=@List.nodup_nil
def aei:=@Nat.add_comm
def aej:=@List.length_replicate
def aek:=@Nat.zero_testBit
def ael:=@PySem.intBits_le_iff
def aem:=@Nat.eq_of_testBit_eq
def aen:=@Int.le_of_lt_add_one
def aeo:=@PySem.Heap.get?_update_other
def aep:=@PySem.wpAny_seqItems
def aeq:=@PySem.codeAny_mono
def aer:=@Option.map_some
def aes:=@List.nil_append
def aet:=@List.filterMap_cons
def aeu:=@PySem.Heap.get?_update_self
def aev:=@Array.length_toList
def aew:=@PySem.wpAny_call_entry
def aex:=@PySem.Around.in1_units
def aey:=@Option.toList_some
def aez:=@Nat.pow_succ
def aeA:=@Int.emod_lt_of_pos
def aeB:=@PySem.Heap.get?_none_of_le
def aeC:=@Array.forIn_toList
def aeD:=@Nat.lt_pow_two_of_testBit
def aeE:=@List.take_succ
def aeF:=@List.getElem?_zip_eq_some
def aeG:=@Int.natAbs_mul
def aeH:=@PySem.F.args_tuple_add_2
def aeI:=@PySem.Paired.snoc
def aeK:=@Nat.lt_succ_of_lt
def aeL:=@List.nodup_append
def aeM:=@List.flatten_cons
def aeN:=@Bool.not_eq_true'
def aeO:=@PySem.F.entry_tuple_add
def aeP:=@List.filter_cons_of_pos
def aeQ:=@List.filter_cons_of_neg
def aeR:=@List.any_cons
def aeS:=@decide_eq_decide
def aeT:=@PySem.W.of_hideAll
def aeU:=@PySem.Obj.data_mapFields
def aeV:=@Nat.succ_ne_self
def aeW:=@Nat.lt_succ_self
def aeX:=@Nat.and_le_right
def aeY:=@PySem.Calls.spliced_cons
def aeZ:=@PySem.F.slot_tuple_add
def ae0:=@PySem.PyData.int.inj
def ae1:=@PySem.Heap.size_push
def ae2:=@if_true
def ae3:=@PySem.F.slot_dict_get
def ae4:=@Nat.lt_trans
def ae5:=@List.length_nil
def ae6:=@List.getElem?_eq_none
def ae7:=@List.forIn_cons
def ae8:=@List.foldl_cons
def ae9:=@Int.ne_of_gt
def afa:=@PySem.AutoSeq1.wpAny_loadPart'
def afb:=@PySem.wpAny_of_eq
def afc:=@PySem.wpAny_attempt
def afd:=@Rat.mul_lt_mul_right
def afe:=@List.pairwise_append
def aff:=@List.mem_of_mem_take
def afg:=@Int.mul_le_mul
def afh:=@Nat.testBit_two_pow
def afi:=@List.getElem?_range
def afj:=@PySem.Calls.callWith_builtin
def afk:=@List.mem_filterMap
def afl:=@Int.ofNat.inj
def afm:=@Int.mul_right_comm
def afn:=@PySem.F.slot_zip_next
def afo:=@PySem.W.Looks.ld
def afp:=@Option.isSome_map
def afq:=@List.flatMap_cons
def afr:=@PySem.Calls.evalArgs_plain
def afs:=@PySem.W.looks_findIn
def aft:=@Rat.mul_le_mul_of_nonneg_right
def afu:=@List.map_set
def afv:=@List.length_tail
def afw:=@List.length_drop
def afx:=@List.getElem_inj
def afy:=@List.filter_cons
def afz:=@List.cons_append
def afA:=@PySem.wpAny_standAt
def afB:=@Nat.two_pow_add_eq_or_of_lt
def afC:=@List.of_mem_zip
def afD:=@List.cons.injEq
def afE:=@Int.emod_nonneg
def afF:=@PySem.F.excBase_ValueError
def afG:=@Int.fdiv_eq_ediv_of_nonneg
def afH:=@Int.eq_of_mul_eq_mul_right
def afI:=@PySem.wpAny_call
def afJ:=@PySem.call_meets
def afK:=@PySem.PassesOwn.leaving
def afL:=@Nat.testBit_or
def afM:=@List.take_zero
def afN:=@PySem.Calls.spliced_nil
def afO:=@PySem.W.callWith_K
def afP:=@PySem.F.type_list_extend
def afQ:=@PySem.F.slot_list_extend
def afR:=@List.getElem?_take_of_lt
def afS:=@List.Pairwise.imp_of_mem
def afT:=@PySem.wpAny_pyIter_zip
def afU:=@PySem.wpAny_execs_cons
def afV:=@PySem.noFill_tuple_add
def afW:=@PySem.F.args_dict_get_3
def afX:=@Nat.add_sub_cancel_left
def afY:=@List.getElem?_replicate
def afZ:=@Bool.not_true
def af0:=@PySem.F.entry_dict_get
def af1:=@List.pairwise_lt_range
def af2:=@List.flatMap_singleton
def af3:=@List.filter_eq_nil_iff
def af5:=@PySem.F.args_tuple_iterator_next_1
def af6:=@PySem.codeAny_builtin
def af7:=@Rat.le_of_lt
def af8:=@Nat.succ.inj
def af9:=@Nat.add_zero
def agb:=@List.getElem?_toArray
def agc:=@Int.natAbs_dvd_natAbs
def agd:=@PySem.F.entry_tuple_iterator_next
def age:=@PySem.wpAny_letOwnedTupleGo_enum
def agf:=@PySem.Calls.Name_function_global
def agg:=@PySem.wpAny_setField
def agh:=@Nat.mul_one
def agi:=@List.length_zipWith
def agj:=@List.flatMap_append
def agk:=@Int.mul_neg
def agl:=@true_and
def agm:=@of_decide_eq_false
def agn:=@Nat.add_sub_cancel
def ago:=@List.pairwise_cons
def agp:=@List.map_singleton
def agq:=@List.getElem?_tail
def agr:=@Int.lt_of_le_of_lt
def ags:=@Array.append_assoc
def agt:=@List.getElem?_eq_some_iff
theorem za_ (h:True:=by rfl):True:=⟨⟩
theorem zb_ (h:True:=by decide):True:=⟨⟩
theorem zc_ (h:True:=by decide +kernel):True:=⟨⟩
theorem zd_ (h:True:=by first|exact .inl rfl|exact .inr rfl|assumption):True:=⟨⟩
theorem ze_ (h:True:=by with_unfolding_all rfl):True:=⟨⟩
namespace L2
open PySem PySem.Spec PyProof.Rows
variable {H:Hp} {Q:VK} {es:List Expr} {g:TG} {o u:HO} {pos':Pos} {qual:Str} {s':Shared} {t':Nat} {tb:TS} {te ti to:TE} {tg:Expr} {v:V} {σ:St}
abbrev Key:=Sum Int Str
noncomputable def xM:Key->au->Bool
 | .inl k,v=>Value.isInt k v
 | .inr x,v=>Value.isStrOf x v
noncomputable def ZF (w:aU):Key->Int
 | .inl k=>hashInt k
 | .inr x=>hashStr w x
def dY:∀ {k:Key} {v:au},xM k v=true->(∃ i t,k=Sum.inl i/\v=Value.int i t)\/(∃ x t,k=Sum.inr x/\v=Value.str x t)
 | .inl i,v,h=>by
   obtain ⟨t,e⟩:=Value.isInt_shape (k:=i) (v:=v) h;exact .inl ⟨i,t,rfl,e⟩
 | .inr x,v,h=>by
   obtain ⟨t,e⟩:=Value.isStrOf_shape (x:=x) (v:=v) h;exact .inr ⟨x,t,rfl,e⟩
def GY (i:Int) (t:Tok):xM (.inl i) (.int i t)=true:=by simp [xM,Value.isInt]
def GD (x:Str) (t:Tok):xM (.inr x) (.str x t)=true:=by simp [xM,Value.isStrOf]
def Oe (a b:Int):decide ((Sum.inl a:Key)=Sum.inl b)=(a == b):=by
 by_cases e:a=b
 . subst e;simp
 . have h:¬ (Sum.inl a:Key)=Sum.inl b:=λ q=>e (Sum.inl.inj q);rw [aaL h];exact (adk.mpr e).symm
def Qt (a b:Str):decide ((Sum.inr a:Key)=Sum.inr b)=decide (a=b):=by
 by_cases e:a=b
 . subst e;simp
 . have h:¬ (Sum.inr a:Key)=Sum.inr b:=λ q=>e (Sum.inr.inj q);rw [aaL h,aaL e]
def OQ (a:Int) (b:Str):decide ((Sum.inl a:Key)=Sum.inr b)=false:=aaL (λ q=>nomatch q)
def P3 (a:Str) (b:Int):decide ((Sum.inr a:Key)=Sum.inl b)=false:=aaL (λ q=>nomatch q)
def eQ (prog:aZ) (w:aU):PySem.KeyKind prog w Key where
 is:=xM
 hash:=ZF w
 inj:=λ v a b d c=>by
   rcases dY d with ⟨i,t,rfl,rfl⟩|⟨x,t,rfl,rfl⟩
   . rcases dY c with ⟨j,u,rfl,e⟩|⟨y,u,rfl,e⟩
     . injection e with e1 _;rw [e1]
     . exact nomatch e
   . rcases dY c with ⟨j,u,rfl,e⟩|⟨y,u,rfl,e⟩
     . exact nomatch e
     . injection e with e1 _;rw [e1]
 byValue:=λ k v h=>by
   rcases dY h with ⟨i,t,rfl,rfl⟩|⟨x,t,rfl,rfl⟩<;>rfl
 pyHash:=λ H h=>by
   rcases dY H with ⟨i,t,rfl,rfl⟩|⟨x,t,rfl,rfl⟩
   . exact wpAny_pyHash_int h
   . exact wpAny_pyHash_str h
 eqBool:=λ f H h=>by
   rcases dY f with ⟨i,t,rfl,rfl⟩|⟨x,t,rfl,rfl⟩
   . rcases dY H with ⟨j,u,rfl,rfl⟩|⟨y,u,rfl,rfl⟩
     . rw [Oe] at h;exact wpAny_eqBool_int h
     . rw [OQ] at h;exact SeqAt.EqAt.int_str i t y u _ _ _ _ h
   . rcases dY H with ⟨j,u,rfl,rfl⟩|⟨y,u,rfl,rfl⟩
     . rw [P3] at h;exact SeqAt.EqAt.str_int x t j u _ _ _ _ h
     . rw [Qt] at h;exact wpAny_eqBool_str h
 «strs»:=λ k x t v h=>by
   rcases dY h with ⟨i,u,rfl,e⟩|⟨y,u,rfl,e⟩
   . exact nomatch e
   . injection e with e1 _;subst e1;cases v<;>rfl
def AB (prog:aZ) (w:aU) (i:Int) (t:Tok):(eQ prog w).is (.inl i) (.int i t)=true:=GY i t
def Bo (prog:aZ) (w:aU) (x:Str) (t:Tok):(eQ prog w).is (.inr x) (.str x t)=true:=GD x t
inductive V where
 | cT|bl (b:Bool)|int (i:Int)|str (x:Str)|GH (b:Array UInt8)|N5 (b:UInt64)|ref (a:ak)|ty (n:String)
 deriving DecidableEq
abbrev az:=List V
abbrev eO:=Option V
def RelV:V->au->Prop
 | .cT,u=>u=Value.none
 | .bl b,u=>u=Value.bool b
 | .int i,u=>∃ t,u=Value.int i t
 | .str x,u=>∃ t,u=Value.str x t
 | .GH b,u=>∃ t,u=Value.bytes b t
 | .N5 b,u=>∃ t,u=Value.float b t
 | .ref a,u=>u=Value.ref a
 | .ty n,u=>u=Value.type n
abbrev Vals:az->bq->Prop:=Paired RelV
theorem Vals.length (r:Vals xs us):xs.length=us.length:=ad4 r
theorem Vals.get:∀ {xs:az} {us:bq} {i:Nat} {x:V},Vals xs us->xs[i]?=some x->∃ u,us[i]?=some u/\RelV x u
 | _,_,_,_,.nil,e=>by simp at e
 | _,_,0,_,.cons r _,e=>by simp at e;subst e;exact ⟨_,rfl,r⟩
 | _,_,i+1,x,.cons _ t,e=>by
   obtain ⟨u,h,H⟩:=Vals.get (i:=i) (x:=x) t (by simpa using e);exact ⟨u,by simpa using h,H⟩
theorem Vals.set {u:au} (r:RelV x u):∀ {xs:az} {us:bq} (i:Nat),Vals xs us->Vals (xs.set i x) (us.set i u)
 | _,_,_,.nil => .nil
 | _,_,0,.cons _ t => .cons r t
 | _,_,i+1,.cons q t => .cons q (Vals.set r i t)
theorem Vals.append:∀ {xs ys:az} {us w:bq},Vals xs us->Vals ys w->Vals (xs++ys) (us++w)
 | _,_,_,_,.nil,s=>s
 | _,_,_,_,.cons r t,s => .cons r (Vals.append t s)
theorem Vals.take:∀ {xs:az} {us:bq} (n:Nat),Vals xs us->Vals (xs.take n) (us.take n)
 | _,_,0,_ => .nil
 | _,_,_+1,.nil => .nil
 | _,_,n+1,.cons r t => .cons r (Vals.take n t)
theorem Vals.drop:∀ {xs:az} {us:bq} (n:Nat),Vals xs us->Vals (xs.drop n) (us.drop n)
 | _,_,0,r=>r
 | _,_,_+1,.nil => .nil
 | _,_,n+1,.cons _ t=>Vals.drop n t
def lM:eO->jA->Prop
 | some v,some u=>RelV v u
 | none,none=>True
 | _,_=>False
def KV {a:Type}:List (a×V)->List (a×au)->Prop:=Paired λ (p:a×V) (q:a×au)=>p.1=q.1/\RelV p.2 q.2
noncomputable def kV:Key->V
 | .inl i => .int i
 | .inr x => .str x
inductive HO where
 | lst (xs:az)
 | tup (xs:az)
 | dK (aD:List (Key×V))|dT (aD:List (List Key×V))
 | set (S:Int->Bool) (n:Nat)
 | ins (C dx:ak) (fs:List (Str×V))
 | own (x:ak)
 | xd (fs:List (Str×V))
 | met (f x:ak)
 | Wl (lo hi:Int)
 | AF (o:Obj) (u:HO)
 | Nn (ps:Array au)
 | ext (φ:aM->Prop)
abbrev Hp:=ak->Option HO
noncomputable def upd (H:Hp) (a:ak) (o:HO):Hp:=λ b=>if b=a then some o else H b
def ag:upd H a o a=some o:=by unfold upd;rw [abE rfl]
def av {a b:ak} (h:b≠a):upd H a o b=H b:=by unfold upd;rw [abC h]
def nl:upd (upd H a o) a u=upd H a u:=by
 funext b;unfold upd;split<;>rfl
def Uq (h:H a=some o) (h':H b=some u) (d:o≠u):a≠b:=by
 intro e;subst e;rw [h] at h';exact d (aaO h')
def ay (h:H a=some o) (h':H b=none):a≠b:=by
 intro e;subst e;rw [h] at h';cases h'
section
variable (P:aZ) (w:aU)
def di (H:Hp) (h:aM) (a:ak):HO->Prop
 | .lst xs=>xs.length<=sizeLine/\∃ (b:bq) (n:Nat),Vals xs b/\h.get? a=some { cls:=.type "list",data:=.seq b.toArray n }
 | .tup xs=>xs.length<=sizeLine/\∃ b:bq,Vals xs b/\IsTup h a b.toArray
 | .dK A=>A.length<=sizeLine/\(a == sysModules)=false/\∃ vs,KV A vs/\h.DictOf (eQ P w) a vs
 | .dT A=>A.length<=sizeLine/\(a == sysModules)=false/\∃ xs:List (List Key×ak×au),
     Paired (λ (p:List Key×V) (q:List Key×ak×au)=>p.1=q.1/\H q.2.1=some (.tup (p.1.map kV))/\RelV p.2 q.2.2) A xs /\
     ∃ o es E,h.get? a=some o/\o.ExactDict/\o.data = .dict es E/\es.toList=xs.map (entryOfKey (tupleKind (eQ P w)))/\(xs.map (·.1)).Nodup
 | .set S n=>h.SetOf (intKind P w) a S n
 | .ins C dx F=>H dx=some (.own a)/\F.length<=1000/\dx≠a/\h.get? a=some (W.instObj C dx) /\
     ∃ m,h.Ns1 dx m/\(∀ f,lM (F.lookup f) (m f))/\PySem.Within m (F.map (·.1))
 | .own _=>∃ o,h.get? a=some o
 | .xd F=>∃ m,h.Ns1 a m/\∀ f,lM (F.lookup f) (m f)
 | .Wl lo g=>∃ t u v,h.get? a=some { cls:=.type "range",data:=.fields #[.int lo t,.int g u,.int 1 v]}
 | .AF o u=>h.get? a=some o/\di H h a u
 | .Nn i=>h.get? a=some { cls:=.none,data:=.fields i }
 | .met f x=>h.get? a=some (W.methodObj (.ref f) (.ref x))
 | .ext c=>c h/\(∃ o,h.get? a=some o)/\∀ d e:aM,c d->(∀ o,d.get? a=some o->e.get? a=some o)->c e
def kB (H:Hp) (h:aM):Prop:=∀ a o,H a=some o->di P w H h a o
end
section
variable {P:aZ} {w:aU} {H H':Hp} {h h':aM} {a:ak} {o:HO}
theorem di.lt (x:di P w H h a o):a<h.objs.size:=by
 cases o with
 | lst X=>obtain ⟨Z,Z,Z,Z,e⟩:=x;exact abh e
 | tup X=>obtain ⟨Z,Z,Z,p⟩:=x;exact p.lt
 | dK A=>obtain ⟨Z,Z,Z,Z,o,Z,Z,e,Z⟩:=x;exact abh e
 | dT A=>obtain ⟨Z,Z,Z,Z,o,Z,Z,e,Z⟩:=x;exact abh e
 | set S n=>obtain ⟨o,Z,Z,Z,e,Z⟩:=x;exact abh e
 | ins C d F=>obtain ⟨Z,Z,Z,e,Z⟩:=x;exact abh e
 | own y=>obtain ⟨Z,e⟩:=x;exact abh e
 | xd F=>obtain ⟨Z,⟨Z,Z,Z,e,Z⟩,Z⟩:=x;exact abh e
 | Wl l b=>obtain ⟨Z,Z,Z,e⟩:=x;exact abh e
 | AF O u=>obtain ⟨e,Z⟩:=x;exact abh e
 | Nn c=>exact abh (show h.get? a=some _ from x)
 | met f y=>exact abh (show h.get? a=some _ from x)
 | ext g=>obtain ⟨Z,⟨Z,e⟩,Z⟩:=x;exact abh e
theorem Paired.ym {c d:Type} {F G:c->d->Prop}:∀ {l₁:List c} {l₂:List d},Paired F l₁ l₂->(∀ a b,F a b->G a b)->Paired G l₁ l₂
 | _,_,.nil,_ => .nil
 | _,_,.cons r t,f => .cons (f _ _ r) (Paired.ym t f)
def di.dQ (x:di P w H h a o) (k:∀ b u,(b=a\/H b=some (.own a))->h.get? b=some u->h'.get? b=some u) (l:∀ b,H b=some (.own a)->H' b=some (.own a)) (D:∀ b xs,H b=some (.tup xs)->H' b=some (.tup xs)):di P w H' h' a o:=by
 induction o with
 | lst xs=>obtain ⟨z,B,n,r,e⟩:=x;exact ⟨z,B,n,r,k _ _ (.inl rfl) e⟩
 | tup xs=>obtain ⟨z,B,r,O,e,c⟩:=x;exact ⟨z,B,r,O,k _ _ (.inl rfl) e,c⟩
 | dK A=>obtain ⟨z,y,V,r,O,es,E,e,c⟩:=x;exact ⟨z,y,V,r,O,es,E,k _ _ (.inl rfl) e,c⟩
 | dT A =>
   obtain ⟨z,y,xs,r,O,es,E,e,c⟩:=x;exact ⟨z,y,xs,Paired.ym r λ p q z=>⟨z.1,D _ _ z.2.1,z.2.2⟩,O,es,E,k _ _ (.inl rfl) e,c⟩
 | set S n=>obtain ⟨O,es,E,t,e,c⟩:=x;exact ⟨O,es,E,t,k _ _ (.inl rfl) e,c⟩
 | ins C G F =>
   obtain ⟨d,z,N,e,m,⟨g,es,E,j,c⟩,r⟩:=x;exact ⟨l _ d,z,N,k _ _ (.inl rfl) e,m,⟨g,es,E,k _ _ (.inr d) j,c⟩,r⟩
 | own y=>obtain ⟨O,e⟩:=x;exact ⟨O,k _ _ (.inl rfl) e⟩
 | xd F=>obtain ⟨m,⟨g,es,E,e,c⟩,r⟩:=x;exact ⟨m,⟨g,es,E,k _ _ (.inl rfl) e,c⟩,r⟩
 | Wl L J=>obtain ⟨t,u,v,e⟩:=x;exact ⟨t,u,v,k _ _ (.inl rfl) e⟩
 | AF O u I=>obtain ⟨e,q⟩:=x;exact ⟨k _ _ (.inl rfl) e,I q⟩
 | Nn i =>
   have e:h.get? a=some { cls:=.none,data:=.fields i }:=x;show h'.get? a=some { cls:=.none,data:=.fields i };exact k a _ (.inl rfl) e
 | met f y =>
   have e:h.get? a=some (W.methodObj (.ref f) (.ref y)):=x;show h'.get? a=some (W.methodObj (.ref f) (.ref y));exact k a _ (.inl rfl) e
 | ext K=>obtain ⟨p,⟨o,e⟩,s⟩:=x;exact ⟨s _ _ p λ o q=>k _ _ (.inl rfl) q,⟨o,k _ _ (.inl rfl) e⟩,s⟩
theorem kB.lt (x:kB P w H h) (e:H a=some o):a<h.objs.size:=(x a o e).lt
def kB.fresh (x:kB P w H h) (e:h.objs.size<=a):H a=none:=by
 cases q:H a with
 | none=>rfl
 | some u=>exact absurd (aba (x.lt q) e) (adl _)
def kB.kept (x:kB P w H h) (k:∀ b u,h.get? b=some u->h'.get? b=some u):kB P w H h':=λ a o e =>
 (x a o e).dQ (λ b u Z q=>k b u q) (λ Z q=>q) λ Z Z q=>q
def kB.laid (x:kB P w H h) (k:∀ b u,h.get? b=some u->h'.get? b=some u) (hp:h.objs.size<=a) (n:di P w (upd H a o) h' a o):kB P w (upd H a o) h':=λ b u e=>by
 have f:=x.fresh hp;by_cases d:b=a
 . subst d;rw [ag] at e;cases e;exact n
 . rw [av d] at e;exact (x b u e).dQ (λ c v Z q=>k c v q) (λ c q=>by rw [av (ay q f)];exact q) λ c X q=>by rw [av (ay q f)];exact q
end
def Rd (H:Hp) (a:ak) (u:HO):Prop:=H a=some u\/∃ o,H a=some (.AF o u)
def Rd.ok (r:Rd H a u) (x:kB P w H h):di P w H h a u:=by
 rcases r with r|⟨o,r⟩
 . exact x a u r
 . obtain ⟨Z,q⟩:=x a _ r;exact q
def UI:Option HO->Prop
 | some (.lst _)=>True
 | some (.dK _)=>True
 | some (.dT _)=>True
 | some (.set _ _)=>True
 | some (.ins _ _ _)=>True
 | some (.ext _)=>True
 | _=>False
section
variable {P:aZ} {w:aU} {H:Hp} {h h':aM} {x e:ak} {o':HO}
def kB.write (ok:kB P w H h) (m:UI (H x)) (g:e=x\/H e=some (.own x)) (k:∀ b u,b≠e->h.get? b=some u->h'.get? b=some u) (R:∃ u,h'.get? e=some u) (n:di P w (upd H x o') h' x o'):kB P w (upd H x o') h':=λ b u q=>by
 have T:∀ c y,H c=some (.own y)->c≠x:=λ c y r z=>by subst z;rw [r] at m;exact m
 have A:∀ c X,H c=some (.tup X)->c≠x:=λ c X r z=>by subst z;rw [r] at m;exact m
 by_cases d:b=x
 . subst d;rw [ag] at q;cases q;exact n
 .
  rw [av d] at q;by_cases a:b=e
  .
   have Q:H b=some (.own x):=by
     rcases g with z|z
     . exact absurd (a.trans z) d
     . rw [a];exact z
   rw [q] at Q;cases Q;obtain ⟨v,i⟩:=R;exact ⟨v,by rw [a];exact i⟩
  .
   refine (ok b u q).dQ (λ c v f r=>k c v ?_ r) (λ c r=>by rw [av (T c b r)];exact r) λ c X r=>by rw [av (A c X r)];exact r
   rcases f with rfl|f
   . exact a
   . rintro rfl;rcases g with z|z
     . exact T c b f z
     . rw [f] at z;cases z;exact d rfl
end
structure Un (fs ex:bA) (H H':Hp) (h h':aM):Prop where
 keep:∀ b o,h.get? b=some o->H b=none->b∉fs->b∉ex->h'.get? b=some o
 slot:∀ b o,h.get? b=some o->H b=none->b∈fs->b∉ex->∃ sl,h'.get? b=some { o with slots:=sl }
 free:∀ b o,h.get? b=some o->H b=none->b∉ex->H' b=none
 there:∀ b o,h.get? b=some o->b∉ex->∃ o',h'.get? b=some o'
 nN:∀ b xs,H b=some (.tup xs)->H' b=some (.tup xs)
 ma:∀ b o u,H b=some (.AF o u)->H' b=some (.AF o u)
 nU:∀ b ps,H b=some (.Nn ps)->∃ more,H' b=some (.Nn (ps++more))
section
variable {fs ex:bA} {H H1:Hp} {h h1 h':aM} {a x e:ak} {o:HO}
def Un.any (u:Un fs ex H H1 h h1) {b:ak} {o:Obj} (q:h.get? b=some o) (n:H b=none) (c:b∉ex):∃ sl,h1.get? b=some { o with slots:=sl }:=by
 by_cases a:b∈fs
 . exact u.slot b o q n a c
 . exact ⟨o.slots,u.keep b o q n a c⟩
def Un.kept (k:∀ b u,h.get? b=some u->h'.get? b=some u):Un fs ex H H h h' :=
 ⟨λ b o q Z Z Z=>k b o q,λ b o q Z Z Z=>⟨o.slots,k b o q⟩,λ Z Z Z n Z=>n,λ b o q Z=>⟨o,k b o q⟩,λ Z Z q=>q,λ Z Z Z q=>q,λ Z p q=>⟨#[],by rw [q];simp⟩⟩
def Un.refl:Un fs ex H H h h:=Un.kept λ Z Z q=>q
def Un.laid (k:∀ b u,h.get? b=some u->h'.get? b=some u) (hp:h.objs.size<=a) (c:H a=none):Un fs ex H (upd H a o) h h' where
 keep:=λ b u q Z Z Z=>k b u q
 slot:=λ b u q Z Z Z=>⟨u.slots,k b u q⟩
 free:=λ b u q n Z=>by rw [av (abY (aba (abh q) hp))];exact n
 there:=λ b u q Z=>⟨u,k b u q⟩
 nN:=λ b x q=>by rw [av (ay q c)];exact q
 ma:=λ b u x q=>by rw [av (ay q c)];exact q
 nU:=λ b p q=>⟨#[],by rw [av (ay q c),q];simp⟩
def Un.write (m:UI (H x)) (g:e=x\/H e=some (.own x)) (k:∀ b u,b≠e->h.get? b=some u->h'.get? b=some u) (R:∃ u,h'.get? e=some u):Un fs ex H (upd H x o) h h':=by
 have f:∀ b,H b=none->b≠x:=λ b n z=>by subst z;rw [n] at m;exact m
 have d:∀ b,H b=none->b≠e:=λ b n z=>by
   subst z;rcases g with r|r
   . exact f b n r
   . rw [n] at r;cases r
 have a:∀ b u,H b=some u->¬ UI (some u)->b≠x:=λ b u q N z=>by subst z;rw [q] at m;exact N m
 refine ⟨λ b u q n Z Z=>k b u (d b n) q,λ b u q n Z Z=>⟨u.slots,k b u (d b n) q⟩,λ b u q n Z=>by rw [av (f b n)];exact n,λ b u q Z=>?_,
   λ b X q=>by rw [av (a b _ q λ z=>z)];exact q,λ b u X q=>by rw [av (a b _ q λ z=>z)];exact q,λ b p q=>⟨#[],by rw [av (a b _ q λ z=>z),q];simp⟩⟩
 by_cases c:b=e
 . subst c;exact R
 . exact ⟨u,k b u c q⟩
end
noncomputable def Xg (h:aM) (H:Hp):bA:=(List.range h.objs.size).filter λ a=>(H a).isSome
def yf (h:aM) (H:Hp):aM:=W.hideAll h (Xg h H)
def FA (h:aM) (H:Hp):(yf h H).objs.size=h.objs.size:=W.hideAll_size _ _
def HJ {h:aM} {b:ak} {o:Obj} (e:h.get? b=some o) (n:H b=none):(yf h H).get? b=some o :=
 W.hideAll_get _ e λ a=>by
   have q:(H b).isSome=true:=(acq.mp a).2;rw [n] at q;simp at q
def LD {b:ak} {o:Obj} (e:(yf h H).get? b=some o):h.get? b=some o/\H b=none:=by
 have E:h.get? b=some o:=aeT (Xg h H) e;refine ⟨E,?_⟩;cases q:H b with
 | none=>rfl
 | some x =>
   have a:b∈Xg h H:=acq.mpr ⟨aa4.mpr (abh E),by simp [q]⟩;have z:(yf h H).get? b=none:=W.hideAll_none (Xg h H) a;rw [z] at e;cases e
noncomputable def Lp (g h:aM) (L:ak):List (ak×Obj):=(List.range h.objs.size).filterMap λ a=>if a=L\/(g.get? a).isSome=true then none else (h.get? a).map λ o=>(a,o)
def rest (g h:aM) (L d:ak):List (ak×Obj):=(Lp g h L).filter λ p=>decide (p.1≠d)
structure Mod (K:aA) (mg:cH) (base:aM):Prop where
 OR:K.In base
 glob:base.Ns mainGlobals mg
 blt:∃ mb,base.Ns builtinsNs mb/\∀ x:Str,x ≠ "__name__"->mb x=bootBuiltins x
 nolimit:base.NoLimit
structure Cx where
 prog:aZ
 w:aU
 K:aA
 mg:cH
 base:aM
 A:Around
 N:cm
 s₀:Shared
 H₀:Hp
 env:Env
 outer:List Env
 stack:List Env
 ex:bA
 fn:Str->Bool
 calm:Bool
 pn:List (ak×Obj)
 xe:au->Shared->Prop
abbrev zC (X:Cx) (e:Expr) (es:List Expr):Prop:=starEach (e::es) X.env=(false,eval e X.env)::starEach es X.env
abbrev BP (X:Cx) (es:List Expr) (pos:Pos):Prop:=(backTo pos (starEach es X.env)).any (·.1)=false
abbrev Tp (X:Cx) (x:Str):Prop:=X.fn x=true\/X.env.scope.names.lookup x=some .local
abbrev xB (x:Str):Prop:=(x == ("__debug__" : Str))=false
noncomputable def gp (l:List Env):bA:=l.filterMap (·.frame)
abbrev Cx.fs (X:Cx):bA:=gp X.outer
def U6 (s:Scope) (x:Str):Prop:=s.names.lookup x=some .local\/s.names.lookup x=some .cell\/s.names.lookup x=some .free
def Loc (s:Scope) (x:Str):Prop:=s.names.lookup x=some .local\/s.names.lookup x=some .cell
def Look (env:Env) (h:aM) (m:cH) (x:Str) (u:au):Prop :=
 (env.kindOf x=some .local/\m x=some u)\/((env.kindOf x=some .cell\/env.kindOf x=some .free)/\∃ c,env.cells.lookup x=some c/\h.IsCell c (some u))
structure Cx.Ok (X:Cx):Prop where
 mod:Mod X.K X.mg X.base
 kind:X.env.scope.kind = .function
 glob:X.env.globals=mainGlobals
 blt:X.env.builtins=builtinsNs
 above:X.s₀.heap.objs.size<=X.env.locals
 inj:∀ x y c,X.env.cells.lookup x=some c->X.env.cells.lookup y=some c->x=y
 has:∀ x,(X.env.kindOf x=some .cell\/X.env.kindOf x=some .free)->∃ c,X.env.cells.lookup x=some c
 OB:∀ x c,X.fn x=true->X.env.cells.lookup x=some c->X.s₀.heap.objs.size<=c
 hd:X.calm=true->X.A.handled=none
 frames:X.A.frames=some X.stack
 Ra:X.stack=X.outer\/(X.stack=X.env::X.outer/\X.env.frame=some X.env.locals)
 Wq:∀ b∈X.ex,b≠X.env.locals/\∀ x c,X.env.cells.lookup x=some c->c≠b
 bs:∀ b o,X.base.get? b=some o->X.s₀.heap.get? b=some o/\X.H₀ b=none
 K7:X.base.objs.size<=X.s₀.heap.objs.size
 C3:∀ b o,X.base.get? b=some o->b∉X.ex
 FX:∀ b∈X.ex,b∉X.fs
 nS:X.s₀.heap.FunFrames X.base X.outer
 K4:∀ b∈X.fs,X.H₀ b=none
structure Inv (X:Cx) (pins:List (ak×Obj)) (σ:List (eO)) (H:Hp) (s:Shared):Prop where
 ok:X.Ok
 os:s.os=X.s₀.os
 bare:AllBare s.gens
 base:Un X.fs X.ex X.H₀ H X.s₀.heap s.heap
 loc:∃ m,s.heap.Ns X.env.locals m/\∀ (i:Nat) (x:Str) (v:V),X.N[i]?=some x->σ[i]?=some (some v)->U6 X.env.scope x->∃ u,RelV v u/\Look X.env s.heap m x u
 cell:∀ x c,X.env.cells.lookup x=some c->∃ v,s.heap.IsCell c v
 free:H X.env.locals=none
 jF:∀ x c,X.env.cells.lookup x=some c->H c=none
 pin:∀ p∈X.pn++pins,s.heap.get? p.1=some p.2/\H p.1=none/\p.1≠X.env.locals/\p.1∉X.fs/\∀ v,p.2.data ≠ .cell v
 cJ:kB X.prog X.w H s.heap
 len:σ.length=X.N.length
section
variable {X:Cx} {pins:List (ak×Obj)} {σ:List (eO)} {H H':Hp} {s:Shared} {h':aM}
def Cx.Ok.wD (ok:X.Ok) {b:ak} {o:Obj} (e:X.base.get? b=some o):b∉X.fs:=λ h=>by
 have:=(ok.nS.mem h).1;rw [e] at this;cases this
theorem Inv.bs (I:Inv X pins σ H s):∀ b o,X.base.get? b=some o->s.heap.get? b=some o/\H b=none:=λ b o e =>
 ⟨I.base.keep b o (I.ok.bs b o e).1 (I.ok.bs b o e).2 (I.ok.wD e) (I.ok.C3 b o e),I.base.free b o (I.ok.bs b o e).1 (I.ok.bs b o e).2 (I.ok.C3 b o e)⟩
def Inv.bk (I:Inv X pins σ H s):∀ b o,X.base.get? b=some o->s.heap.get? b=some o:=λ b o e=>(I.bs b o e).1
theorem Inv.mod (I:Inv X pins σ H s):Mod X.K X.mg X.base:=I.ok.mod
def Inv.pi (I:Inv X pins σ H s):X.K.In s.heap:=I.ok.mod.OR.keeps I.bk
theorem Inv.lt (I:Inv X pins σ H s):X.env.locals<s.heap.objs.size:=let ⟨_,h,_⟩:=I.loc;h.lt
def Inv.sz (I:Inv X pins σ H s):X.s₀.heap.objs.size<=s.heap.objs.size:=abk I.ok.above (adn I.lt)
def Inv.XA (I:Inv X pins σ H s) {a:ak} (h:s.heap.objs.size<=a):a∉X.fs:=λ b=>by
 obtain ⟨Z,o,c,Z⟩:=I.ok.nS.mem b;exact absurd (aba (abh c) (abk I.sz h)) (adl _)
def Inv.J9 (I:Inv X pins σ H s):∀ x c,X.env.cells.lookup x=some c->c≠X.env.locals:=λ x c e z=>by
 obtain ⟨v,o,a,h⟩:=I.cell x c e;obtain ⟨m,⟨O,es,b,E,Q,Z⟩,Z⟩:=I.loc;rw [z,E] at a;cases a;rw [Q] at h;cases h
theorem Inv.nS (I:Inv X pins σ H s):s.heap.FunFrames X.base X.outer:=by
 have all:∀ (l:List Env),(∀ b∈gp l,b∈X.fs)->X.s₀.heap.FunFrames X.base l->s.heap.FunFrames X.base l:=by
   intro l;induction l with
   | nil=>intro Z Z;trivial
   | cons env r n =>
     intro d i;obtain ⟨g,⟨L,o,c,j,k,f⟩,m⟩:=i;have h:L∈X.fs:=d L (by unfold gp;rw [aet,c];exact aaW);obtain ⟨sl,e⟩:=I.base.slot L o k (I.ok.K4 L h) h λ z=>I.ok.FX L z h;exact ⟨g,⟨L,_,c,j,e,f⟩,n (λ b a=>d b (by unfold gp;rw [aet,c];exact aar _ a)) m⟩
 exact all X.outer (λ Z a=>a) I.ok.nS
theorem Inv.stack (I:Inv X pins σ H s):s.heap.FunFrames X.base X.stack:=by
 rcases I.ok.Ra with e|⟨e,h⟩
 . rw [e];exact I.nS
 .
  rw [e];obtain ⟨m,a,Z⟩:=I.loc;refine .cons (by rw [I.ok.kind];decide) h a ?_ I.nS;exact aeB (abk I.ok.K7 I.ok.above)
def Inv.uL (I:Inv X pins σ H s):∀ b∈gp X.stack,b∈X.env.locals::X.fs:=λ b h=>by
 rcases I.ok.Ra with e|⟨e,a⟩
 . rw [e] at h;exact aar _ h
 .
  rw [e] at h;unfold gp at h;rw [aet,a] at h;exact h
def Inv.yd (I:Inv X pins σ H s):∀ b∈gp X.stack,H b=none:=λ b h=>by
 rcases aah.mp (I.uL b h) with e|h
 . rw [e];exact I.free
 . obtain ⟨Z,o,a,Z⟩:=I.ok.nS.mem h;exact I.base.free b o a (I.ok.K4 b h) λ z=>I.ok.FX b z h
def Inv.step {t':Nat} {d':Drawn} {ch:bA} (I:Inv X pins σ H s) (y:∀ b∈ch,(b∈X.ex\/X.s₀.heap.objs.size<=b)/\b≠X.env.locals/\(∀ x c,X.env.cells.lookup x=some c->c≠b)/\∀ p∈X.pn++pins,p.1≠b) (K:∀ b o,b≠X.env.locals->b∉X.fs->b∉ch->s.heap.get? b=some o->H b=none->h'.get? b=some o) (S:∀ b o,b≠X.env.locals->b∈X.fs->b∉ch->s.heap.get? b=some o->H b=none->∃ sl,h'.get? b=some { o with slots:=sl }) (f:∀ b o,b∉ch->s.heap.get? b=some o->H b=none->H' b=none) (t:∀ b o,b∉ch->s.heap.get? b=some o->∃ o',h'.get? b=some o') (nN:∀ b xs,H b=some (.tup xs)->H' b=some (.tup xs)) (ma:∀ b o u,H b=some (.AF o u)->H' b=some (.AF o u)) (nU:∀ b B,H b=some (.Nn B)->∃ M,H' b=some (.Nn (B++M))) (ns:∀ m,s.heap.Ns X.env.locals m->h'.Ns X.env.locals m) (O:kB X.prog X.w H' h') (T:AllBare g') :
   Inv X pins σ H' { s with heap:=h',gens:=g',drawn:=d',toks:=t' }:=by
 have N:∀ b o,X.s₀.heap.get? b=some o->b≠X.env.locals:=λ b o e=>abY (aba (abh e) I.ok.above);have A:∀ b o,X.s₀.heap.get? b=some o->b∉X.ex->b∉ch:=λ b o e h a=>by
   rcases (y b a).1 with z|z
   . exact h z
   . exact absurd (aba (abh e) z) (adl _)
 have C:∀ x c,X.env.cells.lookup x=some c->∀ v,s.heap.IsCell c v->h'.IsCell c v:=λ x c e v ⟨o,g,D⟩=>by
   have R:c∉ch:=λ z=>(y c z).2.2.1 x c e rfl;by_cases G:c∈X.fs
   . obtain ⟨sl,q⟩:=S c o (I.J9 x c e) G R g (I.jF x c e);exact ⟨_,q,D⟩
   . exact ⟨o,K c o (I.J9 x c e) G R g (I.jF x c e),D⟩
 refine ⟨I.ok,I.os,T,⟨λ b o e n a h=>?_,λ b o e n a h=>?_,λ b o e n h=>?_,λ b o e h=>?_,λ b xs e=>nN b xs (I.base.nN b xs e),λ b o xs e=>ma b o xs (I.base.ma b o xs e),λ b B e=>?_⟩,?_,λ x c e=>?_,?_,λ x c e=>?_,λ p J=>?_,O,I.len⟩
 . exact K b o (N b o e) a (A b o e h) (I.base.keep b o e n a h) (I.base.free b o e n h)
 . obtain ⟨sl,E⟩:=I.base.slot b o e n a h;obtain ⟨F,j⟩:=S b _ (N b o e) a (A b o e h) E (I.base.free b o e n h);exact ⟨F,j⟩
 . obtain ⟨o',E⟩:=I.base.there b o e h;exact f b o' (A b o e h) E (I.base.free b o e n h)
 . obtain ⟨o',E⟩:=I.base.there b o e h;exact t b o' (A b o e h) E
 . obtain ⟨W,E⟩:=I.base.nU b B e;obtain ⟨Y,j⟩:=nU b _ E;exact ⟨W++Y,by rw [j,ags]⟩
 .
  obtain ⟨m,V,U⟩:=I.loc;refine ⟨m,ns m V,λ i x v E j Q=>?_⟩;obtain ⟨u,r,l⟩:=U i x v E j Q;refine ⟨u,r,?_⟩;rcases l with l|⟨k,c,e,z⟩
  . exact .inl l
  . exact .inr ⟨k,c,e,C x c e _ z⟩
 . obtain ⟨v,z⟩:=I.cell x c e;exact ⟨v,C x c e v z⟩
 . obtain ⟨m,⟨o,Z,Z,g,Z⟩,Z⟩:=I.loc;exact f _ o (λ z=>(y _ z).2.1 rfl) g I.free
 . obtain ⟨v,o,g,D⟩:=I.cell x c e;exact f c o (λ z=>(y c z).2.2.1 x c e rfl) g (I.jF x c e)
 . obtain ⟨e,n,L,nf,d⟩:=I.pin p J;have R:p.1∉ch:=λ z=>(y p.1 z).2.2.2 p J rfl;exact ⟨K p.1 p.2 L nf R e n,f p.1 p.2 R e n,L,nf,d⟩
def Inv.un {t':Nat} (I:Inv X pins σ H s) (u:Un X.fs [] H H' s.heap h') (C:kB X.prog X.w H' h'):Inv X pins σ H' { s with heap:=h',toks:=t' }:=by
 obtain ⟨m,⟨o,es,i,d,r⟩,Z⟩:=id I.loc;obtain ⟨sl,f⟩:=u.any d I.free (by simp);exact I.step (g':=s.gens) (d':=s.drawn) (ch:=[]) (λ Z z=>nomatch z) (λ b o Z h Z e n=>u.keep b o e n h (by simp)) (λ b o Z h Z e n=>u.slot b o e n h (by simp)) (λ b o Z e n=>u.free b o e n (by simp)) (λ b o Z e=>u.there b o e (by simp)) u.nN u.ma u.nU (λ M g=>by
   obtain ⟨O,a,E,c,R⟩:=g;rw [d] at c;cases c;exact ⟨_,a,E,f,R⟩) C I.bare
def Inv.call {t':Nat} {d':Drawn} (I:Inv X pins σ H s) (u:Un (gp X.stack) ch H H' s.heap h') (C:kB X.prog X.w H' h') (k:AllBare g') (i:∀ b∈ch,(b∈X.ex\/X.s₀.heap.objs.size<=b)/\b≠X.env.locals/\(∀ x c,X.env.cells.lookup x=some c->c≠b)/\∀ p∈X.pn++pins,p.1≠b) :
   Inv X pins σ H' { s with heap:=h',gens:=g',drawn:=d',toks:=t' }:=by
 obtain ⟨m,⟨o,es,q,g,r⟩,Z⟩:=id I.loc;obtain ⟨sl,d⟩:=u.any g I.free λ z=>(i _ z).2.1 rfl;exact I.step (ch:=ch) i (λ b o d j h e n=>u.keep b o e n (λ z=>(aah.mp (I.uL b z)).elim d j) h) (λ b o Z Z h e n=>u.any e n h) (λ b o h e n=>u.free b o e n h) (λ b o h e=>u.there b o e h) u.nN u.ma u.nU (λ M l=>by
   obtain ⟨O,a,E,f,R⟩:=l;rw [g] at f;cases f;exact ⟨_,a,E,d,R⟩) C k
def Inv.turned {t':Nat} {i:ak} (I:Inv X pins σ H s) (k:∀ b o,b≠i->s.heap.get? b=some o->h'.get? b=some o) (t:H i=none) (a:i≠X.env.locals) (d:i∈X.ex\/X.s₀.heap.objs.size<=i) (f:∀ x c,X.env.cells.lookup x=some c->c≠i) (g:∀ p∈X.pn++pins,p.1≠i):Inv X pins σ H { s with heap:=h',toks:=t' }:=by
 have N:∀ b u,H b=some u->b≠i:=λ b u e z=>by rw [z,t] at e;cases e
 refine I.step (g':=s.gens) (d':=s.drawn) (ch:=[i]) (λ b j=>?_) (λ b o Z Z h e Z=>k b o (λ z=>h (by simp [z])) e) (λ b o Z Z h e Z=>⟨o.slots,k b o (λ z=>h (by simp [z])) e⟩) (λ Z Z Z Z n=>n)
   (λ b o h e=>⟨o,k b o (λ z=>h (by simp [z])) e⟩) (λ Z Z e=>e) (λ Z Z Z e=>e) (λ b y e=>⟨#[],by rw [e];simp⟩) (λ m l=>?_) (λ b u e=>?_) I.bare
 . have e:b=i:=by simpa using j
   subst e;exact ⟨d,a,f,g⟩
 . obtain ⟨o,es,E,w,r⟩:=l;exact ⟨o,es,E,k _ o (aef a) w,r⟩
 .
  refine (I.cJ b u e).dQ (λ c v h q=>k c v ?_ q) (λ Z q=>q) λ Z Z q=>q;rcases h with z|z
  . rw [z];exact N b u e
  . exact N c _ z
def Inv.tok (I:Inv X pins σ H s) (t:Nat):Inv X pins σ H { s with toks:=t }:=I.un (h':=s.heap) (t':=t) Un.refl I.cJ
theorem Inv.kept {t':Nat} (I:Inv X pins σ H s) (k:∀ b u,s.heap.get? b=some u->h'.get? b=some u):Inv X pins σ H { s with heap:=h',toks:=t' }:=I.un (Un.kept k) (I.cJ.kept k)
theorem Inv.laid {a:ak} {t':Nat} (I:Inv X pins σ H s) (k:∀ b u,s.heap.get? b=some u->h'.get? b=some u) (hp:s.heap.objs.size<=a) (n:di X.prog X.w (upd H a o) h' a o) :
   Inv X pins σ (upd H a o) { s with heap:=h',toks:=t' }:=I.un (Un.laid k hp (I.cJ.fresh hp)) (I.cJ.laid k hp n)
theorem Inv.write {e:ak} {t':Nat} (I:Inv X pins σ H s) (m:UI (H x)) (h:e=x\/H e=some (.own x)) (k:∀ b u,b≠e->s.heap.get? b=some u->h'.get? b=some u) (R:∃ u,h'.get? e=some u) (n:di X.prog X.w (upd H x o) h' x o):Inv X pins σ (upd H x o) { s with heap:=h',toks:=t' }:=I.un (Un.write m h k R) (I.cJ.write m h k R n)
def Inv.EN {N:List (ak×Obj)} (I:Inv X pins σ H s) (h:∀ p∈N,s.heap.get? p.1=some p.2/\H p.1=none/\p.1≠X.env.locals/\p.1∉X.fs/\∀ v,p.2.data ≠ .cell v):Inv X N σ H s :=
 ⟨I.ok,I.os,I.bare,I.base,I.loc,I.cell,I.free,I.jF,λ p a=>(aaY.mp a).elim (λ z=>I.pin p (act _ z)) (h p),I.cJ,I.len⟩
def uu {N:cm} (h:N.Nodup) {i j:Nat} (a:N[i]?=some x) (b:N[j]?=some x):i=j:=by
 obtain ⟨H,e⟩:=QQ.mp a;obtain ⟨c,E⟩:=QQ.mp b;exact (afx h).mp (e.trans E.symm)
def wV {E:au->Shared->Prop} {i:Nat} {u:au} {Q:Unit->Shared->Prop} (I:Inv X pins σ H s) (hN:X.N.Nodup) (L:X.N[i]?=some x) (B:Loc X.env.scope x) (r:RelV v u) (h:∀ s',Inv X pins (σ.set i (some v)) H s'->(∃ a,Heap.SameBut a s.heap s'.heap/\(a=X.env.locals\/X.env.cells.lookup x=some a))->Q () s') (hf:autoParam (Tp X x) zd_._auto_1):wpAny M A (storeName X.env x u) Q E s:=by
 obtain ⟨m,hn,hl⟩:=id I.loc;have FP:(X.env.scope.kind == .class || (X.env.scope.kind == .module && X.env.locals != X.env.globals))=false:=by rw [I.ok.kind];rfl
 have D:i<σ.length:=by rw [I.len];exact (QQ.mp L).1
 have T:=I.J9;have t:∀ {a:ak} {h':aM},(∃ o,s.heap.get? a=some o/\H a=none)->Heap.SameBut a s.heap h'->kB X.prog X.w H h':=λ {a h'} ha f b ob e=>by
   obtain ⟨Z,Z,jw⟩:=ha;refine (I.cJ b ob e).dQ (λ c W l q=>(f.2 c ?_).trans q) (λ Z q=>q) λ Z Z q=>q;rintro rfl;rcases l with rfl|l
   . rw [jw] at e;cases e
   . rw [jw] at l;cases l
 rcases B with F|F
 .
  refine wpAny_storeName_local F hn (λ h' Xr f=>?_) FP;obtain ⟨oL,Z,Z,ab,Z⟩:=id hn;refine h _ ⟨I.ok,I.os,I.bare,⟨λ b o e n G B=>?_,λ b o e n G B=>?_,I.base.free,λ b o e B=>?_,I.base.nN,I.base.ma,I.base.nU⟩,⟨_,Xr,λ j y v' g C Y=>?_⟩,λ y c e=>?_,I.free,I.jF,λ p hp=>?_,t ⟨oL,ab,I.free⟩ f,by simpa using I.len⟩ ⟨_,f,.inl rfl⟩
  . exact (f.2 b (abY (aba (abh e) I.ok.above))).trans (I.base.keep b o e n G B)
  . obtain ⟨sl,g⟩:=I.base.slot b o e n G B;exact ⟨sl,(f.2 b (abY (aba (abh e) I.ok.above))).trans g⟩
  . obtain ⟨o',g⟩:=I.base.there b o e B;exact ⟨o',(f.2 b (abY (aba (abh e) I.ok.above))).trans g⟩
  .
   by_cases J:j=i
   . subst J;rw [L] at g;cases g;rw [aee D] at C;cases C;exact ⟨u,r,.inl ⟨F,by simp⟩⟩
   .
    rw [adZ (aef J)] at C;obtain ⟨u',r',q⟩:=hl j y v' g C Y;refine ⟨u',r',?_⟩;rcases q with ⟨k,e⟩|⟨k,c,e,z⟩
    . refine .inl ⟨k,?_⟩;have:y≠x:=λ e=>J (uu hN g (e ▸ L));simp [this,e]
    . exact .inr ⟨k,c,e,z.sameBut f (T y c e)⟩
  . obtain ⟨W,z⟩:=I.cell y c e;exact ⟨W,z.sameBut f (T y c e)⟩
  . obtain ⟨e,n,S,nf,d⟩:=I.pin p hp;exact ⟨(f.2 p.1 S).trans e,n,S,nf,d⟩
 .
  have U:X.fn x=true:=by
    rcases hf with z|z
    . exact z
    . rw [z] at F;cases F
  obtain ⟨c,l⟩:=I.ok.has x (.inl F);obtain ⟨W,z⟩:=I.cell x c l;refine wpAny_storeName_cell I.ok.kind F l z (λ h' vA f=>?_);obtain ⟨oc,O,V⟩:=id z;refine h { s with heap:=h' } ⟨I.ok,I.os,I.bare,⟨λ b o e n G B=>?_,λ b o e n G B=>?_,I.base.free,λ b o e B=>?_,I.base.nN,I.base.ma,I.base.nU⟩,⟨m,hn.sameBut f (aef (T x c l)),λ j y v' g C Y=>?_⟩,λ y R e=>?_,I.free,I.jF,λ p hp=>?_,t ⟨oc,O,I.jF x c l⟩ f,by simpa using I.len⟩ ⟨c,f,.inr l⟩
  . exact (f.2 b (abY (aba (abh e) (I.ok.OB x c U l)))).trans (I.base.keep b o e n G B)
  . obtain ⟨sl,g⟩:=I.base.slot b o e n G B;exact ⟨sl,(f.2 b (abY (aba (abh e) (I.ok.OB x c U l)))).trans g⟩
  . obtain ⟨o',g⟩:=I.base.there b o e B;exact ⟨o',(f.2 b (abY (aba (abh e) (I.ok.OB x c U l)))).trans g⟩
  .
   by_cases J:j=i
   . subst J;rw [L] at g;cases g;rw [aee D] at C;cases C;exact ⟨u,r,.inr ⟨.inl F,c,l,vA⟩⟩
   .
    rw [adZ (aef J)] at C;obtain ⟨u',r',q⟩:=hl j y v' g C Y;refine ⟨u',r',?_⟩;rcases q with q|⟨k,R,e,z'⟩
    . exact .inl q
    . refine .inr ⟨k,R,e,z'.sameBut f ?_⟩;rintro rfl;exact J (uu hN g (I.ok.inj _ _ _ e l ▸ L))
  . by_cases K:R=c
    . subst K;exact ⟨_,vA⟩
    . obtain ⟨w2,z2⟩:=I.cell y R e;exact ⟨w2,z2.sameBut f K⟩
  .
   obtain ⟨e,n,S,nf,d⟩:=I.pin p hp;refine ⟨(f.2 p.1 ?_).trans e,n,S,nf,d⟩;intro q;rw [q,O] at e;have q':oc=p.2:=aaO e;exact d W (by rw [<- q'];exact V)
def qo {E:au->Shared->Prop} {i:Nat} {u:au} {Q:Unit->Shared->Prop} (I:Inv X pins σ H s) (b:X.N.Nodup) (d:X.N[i]?=some x) (e:Loc X.env.scope x) (r:RelV v u) (h:∀ s',Inv X pins (σ.set i (some v)) H s'->Q () s') (c:autoParam (Tp X x) zd_._auto_1):wpAny M A (storeName X.env x u) Q E s :=
 wV I b d e r (λ s' a Z=>h s' a) c
def Inv.Fa (I:Inv X pins σ H s) (a:s'.os=s.os) (u:Un (gp X.stack) ch H H' s.heap s'.heap) (C:kB X.prog X.w H' s'.heap) (h:AllBare s'.gens) (f:∀ b∈ch,(b∈X.ex\/X.s₀.heap.objs.size<=b)/\b≠X.env.locals/\(∀ x c,X.env.cells.lookup x=some c->c≠b)/\∀ p∈X.pn++pins,p.1≠b):Inv X pins σ H' s':=by
 obtain ⟨h',g,d,t',o⟩:=s';have e:o=s.os:=a;subst e;exact I.call (g':=g) (t':=t') (d':=d) u C h f
end
abbrev XK:=au->Option ak->Hp->Prop
abbrev St:=List (eO)
abbrev VK:=V->Hp->Prop
abbrev TE:=St->Hp->VK->Prop
abbrev TT:=St->Hp->(Bool->Hp->Prop)->Prop
abbrev TA:=St->Hp->(az->Hp->Prop)->Prop
structure Ends where
 nx:St->Hp->Prop
 rt:VK
 bk:St->Hp->Prop:=λ _ _=>False
 ct:St->Hp->Prop:=λ _ _=>False
abbrev TS:=Ends->St->Hp->Prop
inductive EP (X:Cx) (pins:List (ak×Obj)) (σ:St) (Q:VK) (u:au) (s':Shared):Prop|mk (v:V) (H':Hp) (_:Inv X pins σ H' s') (_:RelV v u) (_:Q v H')
def TP (X:Cx) (p:List (ak×Obj)) (σ:St) (Q:Bool->Hp->Prop) (b:Bool) (s':Shared):Prop:=∃ H,Inv X p σ H s'/\Q b H
inductive AP (X:Cx) (pins:List (ak×Obj)) (σ:St) (Q:az->Hp->Prop) (us:bq) (s':Shared):Prop|mk (vs:az) (H':Hp) (_:Inv X pins σ H' s') (_:Vals vs us) (_:Q vs H')
def SP (X:Cx) (p:List (ak×Obj)) (D:Ends) (f:Flow) (s':Shared):Prop :=
 match f with
 | .next=>∃ a H,Inv X p a H s'/\D.nx a H
 | .brk=>∃ a H,Inv X p a H s'/\D.bk a H
 | .cont=>∃ a H,Inv X p a H s'/\D.ct a H
 | .ret u=>∃ v a H,Inv X p a H s'/\RelV v u/\D.rt v H
def PE (X:Cx) (e:Expr) (t:TE):Prop :=
 ∀ (p:List (ak×Obj)) (s:Shared) (σ:St) (H:Hp) (Q:VK),Inv X p σ H s->t σ H Q->wpAny (model X.prog X.w) X.A (eval e X.env) (EP X p σ Q) X.xe s
def PT (X:Cx) (e:Expr) (t:TT):Prop :=
 ∀ (p:List (ak×Obj)) (s:Shared) (σ:St) (H:Hp) (Q:Bool->Hp->Prop),Inv X p σ H s->t σ H Q->wpAny (model X.prog X.w) X.A (isTrue e X.env (eval e X.env)) (TP X p σ Q) X.xe s
def PW (X:Cx) (e:Expr) (t:TT):Prop :=
 ∀ (W:Sem au) (p:List (ak×Obj)) (s:Shared) (σ:St) (H:Hp) (Q:Bool->Hp->Prop),Inv X p σ H s->t σ H Q->wpAny (model X.prog X.w) X.A (isTrue e X.env W) (TP X p σ Q) X.xe s
def PW.pt (h:PW X e t):PT X e t:=h _
def PA (X:Cx) (es:List Expr) (t:TA):Prop :=
 ∀ (a:Pos) (p:List (ak×Obj)) (s:Shared) (σ:St) (H:Hp) (Q:az->Hp->Prop),Inv X p σ H s->t σ H Q->wpAny (model X.prog X.w) X.A (spliced (backTo a (starEach es X.env))) (AP X p σ Q) X.xe s
def PS (X:Cx) (st:Stmt) (t:TS):Prop :=
 ∀ (p:List (ak×Obj)) (s:Shared) (σ:St) (H:Hp) (D:Ends),Inv X p σ H s->t D σ H->wpAny (model X.prog X.w) X.A (exec st X.env) (SP X p D) X.xe s
def qy (X:Cx) (st:List Stmt) (t:TS):Prop :=
 ∀ (p:List (ak×Obj)) (s:Shared) (σ:St) (H:Hp) (D:Ends),Inv X p σ H s->t D σ H->wpAny (model X.prog X.w) X.A (execs st X.env) (SP X p D) X.xe s
def c9 {b:Type} {t:Sem b} {Q q:b->Shared->Prop} {M:Model} {A:Around} {E:au->Shared->Prop} {s:Shared} (h:wpAny M A t Q E s) (H:∀ a s,Q a s->q a s):wpAny M A t q E s:=ab3 h H λ Z Z x=>x
section
variable {X:Cx}
inductive GS (i:Nat) (σ:St) (H:Hp) (Q:VK):Prop|mk (v:_) (_:σ[i]?=some (some v)) (_:Q v H)
def tC (v:V):TE:=λ Z H Q=>Q v H
def O4 {i:Nat} (k:X.N[i]?=some x) (t:U6 X.env.scope x) (b:autoParam (xB x) zb_._auto_1) (w:autoParam ((x == ("__classdict__" : Str))=false) zb_._auto_1):PE X (.Name x d) (GS i):=by
 intro p s σ H Q I h;obtain ⟨v,e,h⟩:=h;obtain ⟨m,q,n⟩:=I.loc;obtain ⟨u,r,l⟩:=n i x v k e t;have f:EP X p σ Q u s:=⟨v,H,I,r,h⟩
 rcases l with ⟨a,o⟩|⟨a,c,j,g⟩
 . exact wpAny_Name (wpAny_loadName_local I.ok.kind a q o f) b
 . rcases a with a|a
   . exact wpAny_Name (wpAny_loadName_cell I.ok.kind a j g f) b
   . exact wpAny_Name (wpAny_loadName_free I.ok.kind a j g f w) b
def ac {i j p}:PE X (.Constant (.int i) j p) (tC (.int i)):=λ Z Z Z H Z I h=>wpAny_Constant_int ⟨.int i,H,I.tok _,⟨_,rfl⟩,h⟩
def gK {b j p}:PE X (.Constant (.bool b) j p) (tC (.bl b)):=λ Z Z Z H Z I h=>Constant_bool ⟨.bl b,H,I,rfl,h⟩
def cY {j p}:PE X (.Constant .none j p) (tC .cT):=λ Z Z Z H Z I h=>Constant_none ⟨.cT,H,I,rfl,h⟩
def Ke {x j p}:PE X (.Constant (.str x) j p) (tC (.str x)):=λ Z Z Z H Z I h=>Calls.Constant_str ⟨.str x,H,I.tok _,⟨_,rfl⟩,h⟩
def Gl (X:Cx) (x:Str):Prop:=X.env.kindOf x=some .globalImplicit
def kA {E:au->Shared->Prop} {u:au} {Q:au->Shared->Prop} (I:Inv X p σ H s) (c:Gl X x) (d:X.mg x=some u) (h:Q u s) (b:autoParam (xB x) zb_._auto_1):wpAny (model X.prog X.w) X.A (eval (.Name x a) X.env) Q E s :=
 agf I.ok.kind c (Calls.loadGlobal_global (by rw [I.ok.glob];exact I.mod.glob.keeps I.bk) d h) b
def jV {E:au->Shared->Prop} {u:au} {Q:au->Shared->Prop} (I:Inv X p σ H s) (e:Gl X x) (f:X.mg x=none) (i:bootBuiltins x=some u) (h:Q u s) (g:autoParam (x ≠ "__name__") zb_._auto_1) (d:autoParam (xB x) zb_._auto_1):wpAny (model X.prog X.w) X.A (eval (.Name x a) X.env) Q E s:=by
 obtain ⟨m,b,c⟩:=I.mod.blt;exact agf I.ok.kind e (Calls.loadGlobal_builtin (by rw [I.ok.glob];exact I.mod.glob.keeps I.bk) f (by rw [I.ok.blt];exact b.keeps I.bk) ((c x g).trans i) h) d
def bY {u:au} (b:Gl X x) (c:X.mg x=some u) (r:RelV v u) (a:autoParam (xB x) zb_._auto_1):PE X (.Name x p) (tC v) :=
 λ Z Z Z H Z I h=>kA I b c ⟨v,H,I,r,h⟩ a
def nL {u:au} (b:Gl X x) (c:X.mg x=none) (e:bootBuiltins x=some u) (r:RelV v u) (d:autoParam (x ≠ "__name__") zb_._auto_1) (a:autoParam (xB x) zb_._auto_1):PE X (.Name x p) (tC v) :=
 λ Z Z Z H Z I h=>jV I b c e ⟨v,H,I,r,h⟩ d a
variable {a b:Expr} {ta tb:TE} {pos:Pos}
def tB (t:TE):TT:=λ σ H Q=>t σ H λ x h=>∃ c,x = .bl c/\Q c h
def cB (h:PE X e t) (b:∀ w,isTrue e X.env w=(do let v <- w;standAt e.pos;holding [v] (truthy v)):=by intro Z;rfl):PT X e (tB t):=by
 intro p s σ H Q I c;refine isTrue_plain (c9 (h p s σ H _ I c) λ v S ⟨x,a,i,r,f⟩=>?_) (b _);obtain ⟨d,rfl,q⟩:=f;cases r;exact ado ⟨a,i,q⟩
variable {tA WF:TT} {rest:List Expr}
def aad (t u:TT):TT:=λ σ H Q=>t σ H λ c h=>if c=true then u σ h Q else Q false h
def tOr (t u:TT):TT:=λ σ H Q=>t σ H λ c h=>if c=true then Q true h else u σ h Q
def ac9 (t:TT):TT:=λ σ H Q=>t σ H λ c h=>Q (!c) h
def kN (b:PT X a tA):PW X (.BoolOp .And [a] pos) tA:=by
 intro w p s σ H Q I h;refine isTrue_and (c9 (b p s σ H Q I h) λ c S e=>?_);cases c with
 | true=>exact isTrue_and_nil e
 | false=>exact e
def sj (b:PT X a tA):PW X (.BoolOp .Or [a] pos) tA:=by
 intro w p s σ H Q I h;refine isTrue_or (c9 (b p s σ H Q I h) λ c S e=>?_);cases c with
 | false=>exact isTrue_or_nil e
 | true=>exact e
def my (e:PT X a tA) (f:PW X (.BoolOp .And (b::rest) pos) WF):PW X (.BoolOp .And (a::b::rest) pos) (aad tA WF):=by
 intro w p s σ H Q I h;refine isTrue_and (c9 (e p s σ H _ I h) λ c S ⟨d,i,q⟩=>?_);cases c with
 | true=>exact f w p S σ d Q i q
 | false=>exact ⟨d,i,q⟩
def sV (e:PT X a tA) (f:PW X (.BoolOp .Or (b::rest) pos) WF):PW X (.BoolOp .Or (a::b::rest) pos) (tOr tA WF):=by
 intro w p s σ H Q I h;refine isTrue_or (c9 (e p s σ H _ I h) λ c S ⟨d,i,q⟩=>?_);cases c with
 | true=>exact ⟨d,i,q⟩
 | false=>exact f w p S σ d Q i q
def dM (d:PT X a tA):PT X (.UnaryOp .Not a pos) (ac9 tA):=by
 intro p s σ H Q I h;exact isTrue_not (d p s σ H (λ c b=>Q (!c) b) I h)
def Ko (t tb:TE):TE:=λ σ H Q=>t σ H λ x h=>∃ c,x = .bl c/\if c=true then tb σ h Q else Q (.bl false) h
def YR (t tb:TE):TE:=λ σ H Q=>t σ H λ x h=>∃ c,x = .bl c/\if c=true then Q (.bl true) h else tb σ h Q
def RV (t:TE):TE:=λ σ H Q=>t σ H λ x h=>∃ c,x = .bl c/\Q (.bl (!c)) h
def kP {o} (h:PE X a t):PE X (.BoolOp o [a] pos) t:=λ p s σ H Q I b=>BoolOp_one (h p s σ H Q I b)
def kU (e:PE X a ta) (f:PE X (.BoolOp .And (b::rest) pos) tb):PE X (.BoolOp .And (a::b::rest) pos) (Ko ta tb):=by
 intro p s σ H Q I h;refine BoolOp_and (c9 (e p s σ H _ I h) λ v S ⟨x,d,i,r,q⟩=>?_);obtain ⟨c,rfl,q⟩:=q;cases r;refine ado ?_;cases c with
 | true=>exact f p S σ d Q i q
 | false=>exact ⟨.bl false,d,i,rfl,q⟩
def Nq (e:PE X a ta) (f:PE X (.BoolOp .Or (b::rest) pos) tb):PE X (.BoolOp .Or (a::b::rest) pos) (YR ta tb):=by
 intro p s σ H Q I h;refine BoolOp_or (c9 (e p s σ H _ I h) λ v S ⟨x,d,i,r,q⟩=>?_);obtain ⟨c,rfl,q⟩:=q;cases r;refine ado ?_;cases c with
 | false=>exact f p S σ d Q i q
 | true=>exact ⟨.bl true,d,i,rfl,q⟩
def uK (d:PE X a ta):PE X (.UnaryOp .Not a pos) (RV ta):=by
 intro p s σ H Q I h;refine UnaryOp_ (c9 (d p s σ H _ I h) λ v S ⟨x,b,i,r,q⟩=>?_);obtain ⟨c,rfl,q⟩:=q;cases r;exact not_of (ado ⟨.bl (!c),b,i,rfl,q⟩)
def tIf (t:TT) (T tb:TE):TE:=λ σ H Q=>t σ H λ c h=>if c=true then T σ h Q else tb σ h Q
def uS (j:PT X c tA) (f:PE X a ta) (g:PE X b tb):PE X (.IfExp c a b pos) (tIf tA ta tb):=by
 intro p s σ H Q I h;refine wpAny_IfExp (c9 (j p s σ H _ I h) λ d S ⟨e,i,q⟩=>?_);cases d with
 | true=>exact f p S σ e Q i q
 | false=>exact g p S σ e Q i q
end
def aY (K:aA) (H:Hp) (a:ak) (xs:az):Prop :=
 Rd H a (.lst xs) \/
   ∃ (o:Obj) (b:Array au) (n:Nat),K.lookup a=some o/\o.cls = .type "list"/\o.dict=none/\o.data = .seq b n/\b.size<=sizeLine/\Vals xs b.toList
def bP (K:aA) (H:Hp) (a:ak) (xs:az):Prop :=
 Rd H a (.tup xs) \/
   ∃ (o:Obj) (b:Array au) (n:Nat),K.lookup a=some o/\o.cls = .type "tuple"/\o.data = .seq b n/\b.size<=sizeLine/\Vals xs b.toList
noncomputable def aaI:au->eO
 | .none=>some .cT
 | .bool b=>some (.bl b)
 | .int i _=>some (.int i)
 | .str x _=>some (.str x)
 | .bytes b _=>some (.GH b)
 | .float b _=>some (.N5 b)
 | .ref a=>some (.ref a)
 | .type n=>some (.ty n)
 | _=>none
def RelV.abs {u:au} (r:RelV x u):aaI u=some x:=by
 cases x with
 | cT=>cases r;rfl
 | bl _=>cases r;rfl
 | int _=>obtain ⟨t,rfl⟩:=r;rfl
 | str _=>obtain ⟨t,rfl⟩:=r;rfl
 | GH _=>obtain ⟨t,rfl⟩:=r;rfl
 | N5 _=>obtain ⟨t,rfl⟩:=r;rfl
 | ref _=>cases r;rfl
 | ty _=>cases r;rfl
def RelV.inj {u:au} (r:RelV x u) (q:RelV y u):x=y:=aaO (r.abs.symm.trans q.abs)
theorem Vals.inj:∀ {xs ys:az} {us:bq},Vals xs us->Vals ys us->xs=ys
 | _,_,_,.nil,.nil=>rfl
 | _,_,_,.cons r t,.cons R t'=>by rw [r.inj R,Vals.inj t t']
section
variable {X:Cx} {pins:List (ak×Obj)} {σ:St} {H:Hp} {s:Shared} {a:ak} {xs ys:az}
def aY.of {K:aA} (h:H a=some (.lst xs)):aY K H a xs:=.inl (.inl h)
def bP.of {K:aA} (h:H a=some (.tup xs)):bP K H a xs:=.inl (.inl h)
def Inv.list (I:Inv X pins σ H s) (h:aY X.K H a xs):∃ b:bq,Vals xs b/\PlainL s.heap a b.toArray/\xs.length<=sizeLine:=by
 rcases h with h|⟨o,b,n,f,c,d,g,i,r⟩
 . obtain ⟨z,b,n,r,e⟩:=h.ok I.cJ;exact ⟨b,r,⟨_,n,e,rfl,rfl,rfl⟩,z⟩
 .
  refine ⟨b.toList,r,⟨o,n,I.pi a o f,c,d,by simpa using g⟩,?_⟩;have e:=r.length;simp only [aev] at e;lia
def Inv.tuple (I:Inv X pins σ H s) (h:bP X.K H a xs):∃ b:bq,Vals xs b/\IsTup s.heap a b.toArray/\xs.length<=sizeLine:=by
 rcases h with h|⟨o,b,n,d,c,f,g,r⟩
 . obtain ⟨z,b,r,p⟩:=h.ok I.cJ;exact ⟨b,r,p,z⟩
 .
  refine ⟨b.toList,r,⟨o,I.pi a o d,c,n,by simpa using f⟩,?_⟩;have e:=r.length;simp only [aev] at e;lia
def Inv.qk (I:Inv X pins σ H s) (h:aY X.K H a xs) (h':aY X.K H a ys):xs=ys:=by
 obtain ⟨b,r,⟨o,n,e,Z,Z,d⟩,Z⟩:=I.list h;obtain ⟨i,R,⟨O,N,E,Z,Z,D⟩,Z⟩:=I.list h';rw [e] at E;cases E;rw [d] at D;injection D with d1 _;have:b=i:=by simpa using adB Array.toList d1
 subst this;exact r.inj R
def Inv.G2 (I:Inv X pins σ H s) (h:bP X.K H a xs) (h':bP X.K H a ys):xs=ys:=by
 obtain ⟨b,r,⟨o,e,Z,n,d⟩,Z⟩:=I.tuple h;obtain ⟨i,R,⟨O,E,Z,N,D⟩,Z⟩:=I.tuple h';rw [e] at E;cases E;rw [d] at D;injection D with d1 _;have:b=i:=by simpa using adB Array.toList d1
 subst this;exact r.inj R
end
abbrev Cx.nR (X:Cx) (E:au->Shared->Prop):Cx:={ X with xe:=E }
abbrev Cx.Hw (X:Cx):Cx:=X.nR λ _ _=>False
theorem Cx.Ok.nR {X:Cx} (ok:X.Ok) (E:au->Shared->Prop):(X.nR E).Ok :=
 ⟨ok.mod,ok.kind,ok.glob,ok.blt,ok.above,ok.inj,ok.has,ok.OB,ok.hd,ok.frames,ok.Ra,ok.Wq,ok.bs,ok.K7,ok.C3,ok.FX,ok.nS,ok.K4⟩
def Cx.Ok.lC {X:Cx} {E:au->Shared->Prop} (ok:(X.nR E).Ok):X.Ok :=
 ⟨ok.mod,ok.kind,ok.glob,ok.blt,ok.above,ok.inj,ok.has,ok.OB,ok.hd,ok.frames,ok.Ra,ok.Wq,ok.bs,ok.K7,ok.C3,ok.FX,ok.nS,ok.K4⟩
section
variable {X:Cx} {pins:List (ak×Obj)} {σ:St} {H:Hp} {s:Shared} {E:au->Shared->Prop}
theorem Inv.nR (I:Inv X pins σ H s) (E:au->Shared->Prop):Inv (X.nR E) pins σ H s:=⟨I.ok.nR E,I.os,I.bare,I.base,I.loc,I.cell,I.free,I.jF,I.pin,I.cJ,I.len⟩
theorem Inv.lC (I:Inv (X.nR E) pins σ H s):Inv X pins σ H s:=⟨I.ok.lC,I.os,I.bare,I.base,I.loc,I.cell,I.free,I.jF,I.pin,I.cJ,I.len⟩
theorem SP.lC (h:SP (X.nR E) pins D f s'):SP X pins D f s':=by
 cases f with
 | next=>obtain ⟨a,H,I,q⟩:=h;exact ⟨a,H,I.lC,q⟩
 | brk=>obtain ⟨a,H,I,q⟩:=h;exact ⟨a,H,I.lC,q⟩
 | cont=>obtain ⟨a,H,I,q⟩:=h;exact ⟨a,H,I.lC,q⟩
 | ret u=>obtain ⟨v,a,H,I,r,q⟩:=h;exact ⟨v,a,H,I.lC,r,q⟩
theorem qy.Hw {st:List Stmt} (h:qy X.Hw st t):qy X st t:=λ pins s σ H D I a =>
 ab3 (h pins s σ H D (I.nR _) a) (λ Z Z q=>q.lC) λ Z Z z=>False.elim z
end
section
variable {X:Cx} {st:Stmt} {rest:List Stmt} {t u:TS} {e:Expr} {te:TE} {pos:Pos}
def Uc:TS:=λ D σ H=>D.nx σ H
def bh (t u:TS):TS:=λ D σ H=>t { D with nx:=u D } σ H
def aH:qy X [] Uc:=λ Z Z σ H Z I h=>ad1 ⟨σ,H,I,h⟩
def ai (c:PS X st t) (d:qy X rest u):qy X (st::rest) (bh t u):=by
 intro p s σ H D I h;refine afU (c9 (c p s σ H { D with nx:=u D } I h) λ f S q=>?_);cases f with
 | next =>
   obtain ⟨a,b,i,q⟩:=q;exact d p S a b D i q
 | ret v=>exact q
 | brk=>exact q
 | cont=>exact q
def am (a:PS X st t):qy X [st] t:=by
 intro p s σ H D I h;refine afU (c9 (a p s σ H D I h) λ f S q=>?_);cases f with
 | next=>exact ad1 q
 | ret v=>exact q
 | brk=>exact q
 | cont=>exact q
def Inv.quiet (I:Inv X p σ H s):interactive X.env=false:=by simp [interactive,I.ok.kind]
def US (t:TE):TS:=λ D σ H=>t σ H λ Z h=>D.nx σ h
def bo (b:PE X e te) (c:autoParam (swapsWith e none pos.line X.env=pure false) za_._auto_1):PS X (.Expr e pos) (US te):=by
 intro p s σ H D I h;exact wpAny_Expr_any (c9 (b p s σ H _ I h) λ v S ⟨x,a,i,r,q⟩=>⟨σ,a,i,q⟩) I.quiet c
def acd (t:TE):TS:=λ D σ H=>t σ H D.rt
def aI (b:PE X e te):PS X (.Return (some e) pos) (acd te):=by
 intro p s σ H D I h;exact wpAny_Return_some (c9 (b p s σ H _ I h) λ v S ⟨x,a,i,r,q⟩=>⟨x,σ,a,i,r,q⟩)
def ZI (c:TT) (t u:TS):TS:=λ D σ H=>c σ H λ b h=>if b=true then t D σ h else u D σ h
def br (j:PT X c T) (f:qy X a t) (g:qy X b u):PS X (.If c a b pos) (ZI T t u):=by
 intro p s σ H D I h;refine wpAny_If (c9 (j p s σ H _ I h) λ d S ⟨e,i,q⟩=>?_);cases d with
 | true=>exact f p S σ e D i q
 | false=>exact g p S σ e D i q
def QK:TS:=λ Z Z Z=>False
def cO:PS X st QK:=λ Z Z Z Z Z Z h=>h.elim
end
abbrev TG:=V->St->Hp->(St->Hp->Prop)->Prop
abbrev Ox:=az->St->Hp->(St->Hp->Prop)->Prop
def PG (X:Cx) (T:Expr) (t:TG):Prop :=
 ∀ (p:List (ak×Obj)) (s:Shared) (σ:St) (H:Hp) (v:V) (u:au) (Q:St->Hp->Prop),Inv X p σ H s->RelV v u->t v σ H Q ->
   wpAny (model X.prog X.w) X.A (assign T X.env u) (λ Z s'=>∃ a h,Inv X p a h s'/\Q a h) X.xe s
def Rl (X:Cx) (ts:List Expr) (t:Ox):Prop :=
 ∀ (p:List (ak×Obj)) (s:Shared) (σ:St) (H:Hp) (v:az) (u:bq) (Q:St->Hp->Prop),Inv X p σ H s->Vals v u->t v σ H Q ->
   wpAny (model X.prog X.w) X.A (assignInOrder ((assignEach ts X.env).map (·.2)) u) (λ Z s'=>∃ a h,Inv X p a h s'/\Q a h) X.xe s
abbrev Js:=V->V->V->Hp->(Hp->Prop)->Prop
def OP (X:Cx) (t:Js):Prop :=
 ∀ (p:List (ak×Obj)) (s:Shared) (σ:St) (H:Hp) (o i v:V) (O I u:au) (Q:Hp->Prop),Inv X p σ H s->RelV o O->RelV i I->RelV v u->t o i v H Q ->
   wpAny (model X.prog X.w) X.A (setItem O I u) (λ Z s'=>∃ h,Inv X p σ h s'/\Q h) X.xe s
abbrev QR:=V->V->Hp->VK->Prop
def Wp (X:Cx) (o:Operator) (t:QR):Prop :=
 ∀ (p:List (ak×Obj)) (s:Shared) (σ:St) (H:Hp) (x y:V) (v u:au) (Q:VK),Inv X p σ H s->RelV x v->RelV y u->t x y H Q ->
   wpAny (model X.prog X.w) X.A (inplaceOp o v u) (EP X p σ Q) X.xe s
section
variable {X:Cx} {pos:Pos}
def uF (i:Nat):TG:=λ v σ H Q=>Q (σ.set i (some v)) H
def Ff {i:Nat} (b:X.N.Nodup) (d:X.N[i]?=some x) (e:Loc X.env.scope x) (c:autoParam (Tp X x) zd_._auto_1):PG X (.Name x pos) (uF i):=by
 intro p s σ H v u Q I r h;exact wpAny_assign_Name (qo I b d e r (λ s' a=>⟨_,H,a,h⟩) c)
def Yq:Ox:=λ v σ H Q=>v=[]/\Q σ H
inductive So (t:TG) (u:Ox) (vs:az) (σ:St) (H:Hp) (Q:(St->Hp->Prop)):Prop|mk (v r:_) (_:vs=v::r) (_:t v σ H λ σ' H'=>u r σ' H' Q)
def dL:Rl X [] Yq:=by
 intro p s σ H v u Q I r h;obtain ⟨e,h⟩:=h;subst e;cases r;exact assignInOrder_nil ⟨σ,H,I,h⟩
def aQ {u:Ox} (c:PG X e t) (d:Rl X es u) (f:autoParam ((assignEach (e::es) X.env).map (·.2)=assign e X.env::(assignEach es X.env).map (·.2)) za_._auto_1):Rl X (e::es) (So t u):=by
 intro p s σ H g U Q I r h;obtain ⟨v,V,E,h⟩:=h;subst E;cases r with
 | cons r R =>
   rw [f];refine assignInOrder_cons (c9 (c p s σ H _ _ _ I r h) λ Z S ⟨a,b,i,q⟩=>?_);exact d p S a b _ _ Q i R q
inductive RF (K:aA) (n:Nat) (t:Ox) (v:V) (σ:St) (H:Hp) (Q:(St->Hp->Prop)):Prop|mk (a xs:_) (_:v = .ref a) (_:bP K H a xs) (_:xs.length=n) (_:t xs σ H Q)
def QM {n:Nat} (g:X.calm=true) (h:Rl X es t) (l:autoParam ((assignEach es X.env).length=n) za_._auto_1) (f:autoParam ((assignEach es X.env).findIdx? (·.1)=none) za_._auto_1):PG X (.Tuple es k pos) (RF X.K n t):=by
 intro p s σ H v u Q I r c;obtain ⟨a,x,E,m,j,c⟩:=c;subst E;cases r;obtain ⟨B,R,q,y⟩:=I.tuple m;refine assign_Tuple_tuple (I.ok.hd g) q (by simp [l,<- j,R.length]) f λ d w=>?_;have i:Inv X p σ H { s with heap:=d }:=I.kept (t':=s.toks) λ b o e=>w b o (abY (abh e)) e;exact h p _ σ H x _ Q i (by simpa using R) c
def abl (c T:TE) (t:Js):TG:=λ v σ H Q=>c σ H λ o h=>T σ h λ i a=>t o i v a λ b=>Q σ b
def oK {o:Expr} (l:PE X o to) (k:PE X i ti) (m:OP X t) (j:∀ v,assign (.Subscript o i pos) X.env v=(do
     let O <- holding [v] (eval o X.env)
     let a <- holding [v,O] (eval i X.env)
     standAt pos
     holding [v,O,a] (setItem O a v)
     release [v,O,a] []):=by intro Z;rfl):PG X (.Subscript o i pos) (abl to ti t):=by
 intro p s σ H v u Q I r h;rw [j];refine WE (acT (c9 (l p s σ H _ I h) λ O S ⟨x,b,e,R,q⟩=>?_));refine WE (acT (c9 (k p S σ b _ e q) λ a A ⟨y,c,f,z,n⟩=>?_));refine WE (afA (WE (acT (c9 (m p A σ c x y v O a u _ f R z r n) λ Z B ⟨d,g,w⟩=>?_))));exact wpAny_release ⟨σ,d,g,w⟩
def KJ (t:TE) (g:TG):TS:=λ D σ H=>t σ H λ x h=>g x σ h D.nx
def ip (c:PE X e te) (d:PG X tg g) (f:autoParam (swapsWithSole [tg] e pos.line X.env=pure false) za_._auto_1) (hw:autoParam (swappedStores [tg] e X.env=pure none) za_._auto_1) (b:autoParam ((assignEach [tg] X.env).map (·.2)=[assign tg X.env]) za_._auto_1):PS X (.Assign [tg] e pos) (KJ te g):=by
 intro p s σ H D I h;refine wpAny_Assign_stores (c9 (c p s σ H _ I h) λ v S ⟨x,a,i,r,Q⟩=>?_) f hw;rw [b];exact c9 (d p S σ a x v _ i r Q) λ Z j q=>q
def Oo {i:Nat} (d:X.N.Nodup) (j:X.N[i]?=some x) (l:Loc X.env.scope x) (f:PE X e te) (k:autoParam (swapsWith e (some (.Name x pos')) pos.line X.env=pure false) za_._auto_1) (g:autoParam (Tp X x) zd_._auto_1) :
   PS X (.Assign [.Name x pos'] e pos) (KJ te (uF i)):=by
 intro p s σ H D I h;refine wpAny_Assign_Name (c9 (f p s σ H _ I h) λ v S ⟨y,a,b,r,q⟩=>?_) k;exact qo b d j l r (λ m c=>⟨_,a,c,q⟩) g
def Z3 (i:Nat) (t:TE) (T:QR):TS:=λ D σ H=>∃ x,σ[i]?=some (some x)/\t σ H λ y h=>T x y h λ z a=>D.nx (σ.set i (some z)) a
def Pw {i:Nat} {o:Operator} (F:X.N.Nodup) (f:X.N[i]?=some x) (d:Loc X.env.scope x) (K:PE X e te) (R:Wp X o t) (L:autoParam (Tp X x) zd_._auto_1) :
   PS X (.AugAssign (.Name x pos') o e pos) (Z3 i te t):=by
 intro p s σ H D I h;obtain ⟨v,E,h⟩:=h;obtain ⟨m,Q,M⟩:=I.loc;have V:U6 X.env.scope x:=by rcases d with k|k;exact .inl k;exact .inr (.inl k)
 obtain ⟨u,r,l⟩:=M i x v f E V;refine wpAny_AugAssign_Name ?_;have g:wpAny (model X.prog X.w) X.A (eval e X.env) (λ w S=>wpAny (model X.prog X.w) X.A (inplaceOp o u w) (λ r b=>wpAny (model X.prog X.w) X.A (storeName X.env x r) (λ Z=>SP X p D .next) X.xe b) X.xe S) X.xe s:=by
   refine c9 (K p s σ H _ I h) λ w s1 ⟨y,j,q,W,T⟩=>?_;refine c9 (R p s1 σ j v y u w _ q r W T) λ z s2 ⟨zv,n,B,Y,U⟩=>?_;exact qo B F f d Y (λ s3 C=>⟨_,n,C,U⟩) L
 rcases l with ⟨a,O⟩|⟨a,c,J,G⟩
 . exact wpAny_loadName_local I.ok.kind a Q O g
 .
  rcases a with a|a
  . exact wpAny_loadName_cell I.ok.kind a J G g
  .
   rcases d with k|k
   . have:X.env.scope.names.lookup x=some .free:=a;rw [k] at this;cases this
   . have:X.env.scope.names.lookup x=some .free:=a;rw [k] at this;cases this
def U9 (f T t:TE) (M:V->V->Hp->VK->Prop) (W:QR) (L:Js):TS:=λ D σ H=>f σ H λ o h=>T σ h λ i a=>M o i a λ x b=>t σ b λ y c=>W x y c λ z d=>L o i z d λ e=>D.nx σ e
def Uv (X:Cx) (t:V->V->Hp->VK->Prop):Prop :=
 ∀ (p:List (ak×Obj)) (s:Shared) (σ:St) (H:Hp) (o i:V) (O I:au) (Q:VK),Inv X p σ H s->RelV o O->RelV i I->t o i H Q ->
   wpAny (model X.prog X.w) X.A (getItem O I) (EP X p σ Q) X.xe s
def LM {o:Expr} {M:V->V->Hp->VK->Prop} (F:PE X o to) (E:PE X i ti) (C:Uv X M) (B:PE X e te) (hp:Wp X c W) (G:OP X L) (A:∀ O a n,augStore i O a n=(do holding [n,O,a] (setItem O a n);release [n,O,a] [];pure .next):=by intros;rfl):PS X (.AugAssign (.Subscript o i U) c e pos) (U9 to ti te M W L):=by
 intro p s σ H D I h;refine wpAny_AugAssign_SubscriptAny (c9 (F p s σ H _ I h) λ O s1 ⟨x,f,q,r,Q⟩=>?_) A;refine c9 (E p s1 σ f _ q Q) λ a s2 ⟨d,g,t,R,J⟩=>?_;refine c9 (C p s2 σ g x d O a _ t r R J) λ b s3 ⟨x3,j,u,Y,K⟩=>?_;refine c9 (B p s3 σ j _ u K) λ v s4 ⟨x4,k,w,r4,N⟩=>?_;refine c9 (hp p s4 σ k x3 x4 b v _ w Y r4 N) λ n s5 ⟨x5,l,y,r5,S⟩=>?_;exact c9 (G p s5 σ l x d x5 O a n _ y r R r5 S) λ Z s6 ⟨m,z,T⟩=>⟨σ,m,z,T⟩
def ipI (f:Int->Int->Int):QR:=λ x y H Q=>∃ i j,x = .int i/\y = .int j/\Q (.int (f i j)) H
def OI:Wp X .Add (ipI λ i j=>i+j):=by
 intro p s σ H x y v u Q I r R h;obtain ⟨i,j,e,E,q⟩:=h;subst e;subst E;obtain ⟨t,rfl⟩:=r;obtain ⟨t',rfl⟩:=R;exact iadd_int ⟨.int _,H,I.tok _,⟨_,rfl⟩,q⟩
def OJ:Wp X .Sub (ipI λ i j=>i - j):=by
 intro p s σ H x y v u Q I r R h;obtain ⟨i,j,e,E,q⟩:=h;subst e;subst E;obtain ⟨t,rfl⟩:=r;obtain ⟨t',rfl⟩:=R;exact isub_int ⟨.int _,H,I.tok _,⟨_,rfl⟩,q⟩
end
section
variable {X:Cx} {pos:Pos}
def Of (c:TT) (tb:TS):TS:=λ D σ H=>∃ W:Nat->St->Hp->Prop,(∃ m,W m σ H)/\∀ m σ H,W m σ H ->
 c σ H λ b d=>if b=true then ∃ N:St->Hp->Prop,(∀ a h,N a h->∃ M,M<m/\W M a h)/\tb { D with nx:=N,ct:=N,bk:=D.nx } σ d else D.nx σ d
def qi (hp:PassesOwn (model X.prog X.w) X.A X.env X.xe) (E:PT X c T) (C:qy X B tb):PS X (.While c B [] pos) (Of T tb):=by
 intro p s σ H D I h;obtain ⟨W,⟨M,G⟩,t⟩:=h;refine wpAny_While (codeAny_whileLoop (λ n s'=>∃ g o,Inv X p g o s'/\W n g o) ?_ M ⟨σ,H,I,G⟩);rintro n S ⟨d,r,z,J⟩;refine ad0 hp (c9 (E p S d r _ z (t n d r J)) λ b F ⟨u,x,q⟩=>?_);cases b with
 | true =>
   obtain ⟨N,y,q⟩:=q;rw [abE rfl];refine ad0 hp (c9 (C p F d u _ x q) λ f K Q=>?_);cases f with
   | next =>
     obtain ⟨a,e,i,k⟩:=Q;obtain ⟨m,j,l⟩:=y a e k;exact ⟨m,j,a,e,i,l⟩
   | cont =>
     obtain ⟨a,e,i,k⟩:=Q;obtain ⟨m,j,l⟩:=y a e k;exact ⟨m,j,a,e,i,l⟩
   | brk=>exact Q
   | ret v=>exact Q
 | false =>
   rw [abC abu];exact ad1 ⟨d,u,x,q⟩
end
structure It where
 go:Nat->Hp->Prop
 K9:Nat->Hp->V->Hp->Prop
 stop:Nat->Hp->Prop
def tQ (X:Cx) (a:List (ak×Obj)) (H:Hp) (b:ak):Prop :=
 H b=none/\b≠X.env.locals/\b∉X.fs/\(b∈X.ex\/X.s₀.heap.objs.size<=b)/\(∀ x c,X.env.cells.lookup x=some c->c≠b)/\∀ p∈X.pn++a,p.1≠b
def Inv.wk {d:Hp} {b:ak} (I:Inv X a σ H s) (h:s.heap.objs.size<=b) (f:d b=none):tQ X a d b:=by
 refine ⟨f,ad8 (aba I.lt h),I.XA h,.inr (abk I.sz h),λ x c e z=>?_,λ p g z=>?_⟩
 . obtain ⟨v,q⟩:=I.cell x c e;exact absurd (aba q.lt (by rw [z];exact h)) (adl _)
 . exact absurd (aba (abh (I.pin p g).1) (by rw [z];exact h)) (adl _)
structure Turn (P:aZ) (w:aU) (K:aA) (tg:Expr) (J:It) (fp:bA) (it:ak) (tn:Nat->aM->Prop):Prop where
 mem:it∈fp
 obj:∀ i h,tn i h->∀ b∈fp,∃ o,h.get? b=some o/\∀ v,o.data ≠ .cell v
 keep:∀ i h h',tn i h->(∀ b∈fp,∀ o,h.get? b=some o->h'.get? b=some o)->tn i h'
 item:∀ (X:Cx),X.prog=P->X.w=w->X.K=K->X.calm=true->∀ (i:Nat) (pins:List (ak×Obj)) (s:Shared) (σ:St) (H:Hp) (E:au->Shared->Prop),Inv X pins σ H s->(∀ b∈fp,tQ X pins H b)->tn i s.heap->J.go i H ->
   wpAny (model P w) X.A (pyNext (.ref it)) (λ r s1=>∃ u,r=some u /\
     wpAny (model P w) X.A (letOwnedTupleGo tg (.ref it) u) (λ _ s2=>∃ x H',Inv X pins σ H' s2/\RelV x u/\J.K9 i H x H'/\tn (i+1) s2.heap/\∀ b∈fp,H' b=none) E s1) E s
 done:∀ (X:Cx),X.prog=P->X.w=w->X.K=K->X.calm=true->∀ (i:Nat) (pins:List (ak×Obj)) (s:Shared) (σ:St) (H:Hp) (E:au->Shared->Prop),Inv X pins σ H s->(∀ b∈fp,tQ X pins H b)->tn i s.heap->J.stop i H ->
   wpAny (model P w) X.A (pyNext (.ref it)) (λ r s1=>r=none/\Inv X pins σ H s1) E s
 self:∀ (A:Around) (i:Nat) (s:Shared) (Q:au->Shared->Prop) (E:au->Shared->Prop),tn i s.heap->Q (.ref it) s->wpAny (model P w) A (pyIter (.ref it)) Q E s
abbrev TI:=St->Hp->(It->Hp->Prop)->Prop
def PIE (X:Cx) (p:List (ak×Obj)) (σ:St) (T:Expr) (R:It->Hp->Prop) (i:au) (s:Shared):Prop :=
 ∃ (I:ak) (f:bA) (t:Nat->aM->Prop) (J:It) (H:Hp),i = .ref I/\Inv X p σ H s/\Turn X.prog X.w X.K T J f I t/\t 0 s.heap/\(∀ b∈f,tQ X p H b)/\R J H
def PI (X:Cx) (t i:Expr) (W:TI):Prop :=
 ∀ (p:List (ak×Obj)) (s:Shared) (σ:St) (H:Hp) (R:It->Hp->Prop),Inv X p σ H s->W σ H R ->
   wpAny (model X.prog X.w) X.A (eval i X.env) (λ v S=>wpAny (model X.prog X.w) X.A (pyIter v) (PIE X p σ t R) X.xe S) X.xe s
def NL {E:au->Shared->Prop} {s:Shared} {i:ak} {u:au} {o:Obj} {Q:Unit->Shared->Prop} (d:s.heap.get? i=some o) (a:o.cls = .type n) (b:o.data = .fields vs) (c:["enumerate","zip","dict_itemiterator","dict_reverseitemiterator","odict_iterator","itertools.zip_longest","itertools.pairwise"].contains n=false) (H:Q () s):wpAny M A (letOwnedTupleGo tg (.ref i) u) Q E s:=by
 unfold letOwnedTupleGo;cases tg<;>first
   | exact aaU H
   | (cases u<;>first
       | exact aaU H
       | (refine WE (wpAny_load d ?_)
          rw [a,b];show wpAny M A (if (["enumerate","zip","dict_itemiterator","dict_reverseitemiterator","odict_iterator","itertools.zip_longest","itertools.pairwise"].contains n && vs[0]? == some (rawInt _))=true then _ else _) Q E s;rw [abC (by intro h;rw [c,adU] at h;cases h)];exact aaU H))
def Nb (K:aA) (a:ak):It :=
 ⟨λ i H=>∃ X x,aY K H a X/\X[i]?=some x,λ i H x h=>h=H/\∀ X,aY K H a X->X[i]?=some x,λ i H=>∃ X,aY K H a X/\X.length<=i⟩
noncomputable def MN (lo:Int) (n:Nat):It:=⟨λ i Z=>i<n,λ i H x h=>h=H/\x = .int (lo+i),λ i Z=>n<=i⟩
def Gr {K:aA} (a j:ak):Turn P w K tg (Nb K a) [j] j (λ i h=>h.IsListIter j a i) where
 mem:=by simp
 obj:=λ i h S b g=>by
   have e:b=j:=by simpa using g
   subst e;obtain ⟨o,e,c,d⟩:=S;exact ⟨o,e,λ v z=>by rw [d] at z;cases z⟩
 keep:=λ i h l S k=>S.at λ o e=>k j (by simp) o e
 item:=by
   intro X B D A J i f s σ H E I m S C;subst B D A;obtain ⟨xs,x,n,G⟩:=C;obtain ⟨N,R,p,V⟩:=I.list n;obtain ⟨u,T,W⟩:=R.get G;obtain ⟨F,q,Q,r,t,y⟩:=m j (by simp);refine wpAny_pyNext_list_item S p.isList (x:=u) (by simpa using T) λ l L Y=>?_;have M:Inv X f σ H { s with heap:=l }:=I.turned (t':=s.toks) (λ b o g e=>(Y.2 b g).trans e) F q r t y;obtain ⟨o,e,c,d⟩:=id L;exact ⟨u,rfl,NL (s:={ s with heap:=l }) e c d (by decide) ⟨x,H,M,W,⟨rfl,λ ys U=>by rw [I.qk U n];exact G⟩,L,λ b g=>(m b g).1⟩⟩
 done:=by
   intro X B D A J i f s σ H E I m S C;subst B D A;obtain ⟨xs,n,G⟩:=C;obtain ⟨N,R,p,V⟩:=I.list n;obtain ⟨F,q,Q,r,t,y⟩:=m j (by simp);have hl:=R.length;exact wpAny_pyNext_list_end (I.ok.hd J) S p.isList (by simp;lia) λ l O=>⟨rfl,I.turned (t':=s.toks) (λ b o g e=>O b o g e) F q r t y⟩
 self:=λ Z Z Z Z Z S h=>wpAny_pyIter_listiter S h
def CO {K:aA} (a:ak) (lo:Int) (n:Nat):Turn P w K tg (MN lo n) [a] a (λ i h=>IsRangeIter h a (lo+(i:Nat) * 1) ((n:Int) - (i:Nat)) 1) where
 mem:=by simp
 obj:=λ i h S b c=>by
   have e:b=a:=by simpa using c
   subst e;exact ⟨_,S,λ v z=>by
     have J:Data.fields _=Data.cell v:=z;cases J⟩
 keep:=λ i h d S k=>k a (by simp) _ S
 item:=by
   intro X r y q u i p s σ H E I f S x;subst r y q;obtain ⟨F,g,C,j,l,m⟩:=f a (by simp);have W:=Walks.range (prog:=X.prog) (w:=X.w) (I.ok.hd u) a lo 1 n;refine W.item i s _ _ x S λ v d T D L G=>?_;obtain ⟨t,rfl⟩:=D;have A:Inv X p σ H { s with heap:=d,toks:=T }:=I.turned (λ b o c e=>G b o (by simpa using c) e) F g j l m;refine ⟨_,rfl,NL (s:={ s with heap:=d,toks:=T }) (n:="range_iterator") L rfl rfl (by decide) ⟨.int (lo+i),H,A,⟨t,?_⟩,⟨rfl,rfl⟩,L,λ b c=>(f b c).1⟩⟩;rw [Int.mul_one]
 done:=by
   intro X r y q u i p s σ H E I f S x;subst r y q;obtain ⟨F,g,C,j,l,m⟩:=f a (by simp);exact wpAny_pyNext_range_end (I.ok.hd u) S (by have:n<=i:=x;lia) λ d B=>⟨rfl,I.turned (t':=s.toks) (λ b o c e=>B b o c e) F g j l m⟩
 self:=λ Z Z Z Z Z S h=>wpAny_pyIter_rangeiter S h
section
variable {X:Cx} {tg:Expr}
inductive acQ (K:aA) (R:It->Hp->Prop) (x:V) (H1:Hp):Prop|mk (a:ak) (h1:x = .ref a) (h2:∃ xs,aY K H1 a xs) (q:R (Nb K a) H1)
def Nf (K:aA) (t:TE):TI:=λ σ H R=>t σ H (acQ K R)
def bS (g:PE X l t):PI X tg l (Nf X.K t):=by
 intro c s σ H R I h;refine c9 (g c s σ H _ I h) λ v S ⟨x,d,i,r,Q⟩=>?_;obtain ⟨a,e,⟨n,j⟩,q⟩:=Q;subst e;cases r;obtain ⟨B,m,p,k⟩:=i.list j;refine wpAny_pyIter_list p.isList ?_;refine ⟨S.heap.objs.size,[S.heap.objs.size],_,_,d,rfl,i.kept (t':=S.toks) λ b o e=>aaJ _ e,Gr a _,⟨_,abX _ rfl,rfl,rfl⟩,λ b f=>?_,q⟩;have e:b=S.heap.objs.size:=by simpa using f
 subst e;exact i.wk (aaD _) (i.cJ.fresh (aaD _))
def Kg {R:It->Hp->Prop} {E:au->Shared->Prop} {lo h:Int} {t u v:Tok} {T:Nat} (I:Inv X p σ H s) (d : -(2 ^ 62)<=lo) (f:lo<2 ^ 62) (g : -(2 ^ 62)<=h) (j:h<2 ^ 62) (q:R (MN lo (h - lo).toNat) H):wpAny (model X.prog X.w) X.A (pyIter (.ref s.heap.objs.size)) (PIE X p σ tg R) E { s with heap:=s.heap.push { cls:=.type "range",data:=.fields #[.int lo t,.int h u,.int 1 v]},toks:=T }:=by
 refine wpAny_pyIter_range (IsRange.new ..) (small_one d f g j) ?_;have i:Inv X p σ H { s with heap:=s.heap.push { cls:=.type "range",data:=.fields #[.int lo t,.int h u,.int 1 v]},toks:=T }:=I.kept λ b o e=>aaJ _ e;refine ⟨(s.heap.push { cls:=.type "range",data:=.fields #[.int lo t,.int h u,.int 1 v]}).objs.size,[(s.heap.push { cls:=.type "range",data:=.fields #[.int lo t,.int h u,.int 1 v]}).objs.size],_,_,H,rfl,
   i.kept (t':=T) λ b o e=>aaJ _ e,CO _ lo (h - lo).toNat,?_,λ b k=>?_,q⟩
 .
  have a:lo+((0:Nat):Int) * 1=lo:=by simp
  have c:(((h - lo).toNat:Nat):Int) - ((0:Nat):Int)=Builtin.Range.rangeSize lo h 1:=by rw [rangeSize_one];split<;>lia
  show IsRangeIter _ _ (lo+((0:Nat):Int) * 1) ((((h - lo).toNat:Nat):Int) - ((0:Nat):Int)) 1;rw [a,c];exact abX _ rfl
 . have e:b=(s.heap.push { cls:=.type "range",data:=.fields #[.int lo t,.int h u,.int 1 v]}).objs.size:=by simpa using k
   subst e;exact i.wk (aaD _) (i.cJ.fresh (aaD _))
inductive Yd (R:It->Hp->Prop) (vs:az) (H1:Hp):Prop|mk (j:Int) (h1:vs=[.int j]) (h2 : -(2 ^ 62)<=j) (h3:j<2 ^ 62) (q:R (MN 0 j.toNat) H1)
def SR (t:TA):TI:=λ σ H R=>t σ H (Yd R)
def cr {a:Expr} {p:Pos} (f:Gl X "range") (g:X.mg "range" = none) (d:PA X [a] T) (k:autoParam (starEach [a] X.env=[(false,eval a X.env)]) za_._auto_1):PI X tg (.Call (.Name "range" p) [a] [] c) (SR T):=by
 intro b s σ H R I h;refine Call_ (jV I f g boot_range (acL (c9 (d c b s σ H _ I h) λ u S ⟨v,o,i,m,Q⟩=>?_) k rfl));obtain ⟨j,e,Q,l,q⟩:=Q;subst e;cases m with
 | cons r n =>
   cases n;obtain ⟨t,rfl⟩:=r;exact call_range_1 (Kg i (by lia) (by lia) Q l (by simpa using q))
def acO (w:TI) (g:TG) (tb:TS):TS:=λ D σ H=>w σ H λ J c=>∃ W:Nat->Nat->St->Hp->Prop,(∃ m,W 0 m σ c)/\∀ i m σ H,W i m σ H ->
 (J.stop i H/\D.nx σ H)\/(J.go i H/\∃ N:St->Hp->Prop,(∀ a h,N a h->∃ M,M<m/\W (i+1) M a h)/\∀ x h,J.K9 i H x h->g x σ h λ b d=>tb { D with nx:=N,ct:=N,bk:=D.nx } b d)
noncomputable def vG (f:bA) (h:aM):List (ak×Obj):=f.filterMap λ b=>(h.get? b).map λ o=>(b,o)
def kX {f:bA} {h:aM} {b:ak} {o:Obj} (H:b∈f) (e:h.get? b=some o):(b,o)∈vG f h:=afk.mpr ⟨b,H,by rw [e];rfl⟩
def G4 {p:ak×Obj} (hp:p∈vG f h):p.1∈f/\h.get? p.1=some p.2:=by
 obtain ⟨b,H,e⟩:=afk.mp hp;cases q:h.get? b with
 | none=>rw [q] at e;cases e
 | some o =>
   rw [q] at e;have E:(b,o)=p:=aaO e;subst E;exact ⟨H,q⟩
def Inv.pinned {f:bA} (I:Inv X a σ H s) (i:∀ b∈f,tQ X a H b) (j:∀ b∈f,∃ o,s.heap.get? b=some o/\∀ v,o.data ≠ .cell v):Inv X (a++vG f s.heap) σ H s :=
 I.EN λ p k=>(aaY.mp k).elim (λ z=>I.pin p (abS _ z)) λ z=>by
   obtain ⟨h,e⟩:=G4 z;obtain ⟨F,c,g,Z⟩:=i p.1 h;obtain ⟨o,E,d⟩:=j p.1 h;rw [e] at E;cases E;exact ⟨e,F,c,g,d⟩
def Inv.qF {a pl:List (ak×Obj)} (I:Inv X (a++pl) σ H s):Inv X a σ H s:=I.EN λ p h=>I.pin p (abS _ (act _ h))
def cP {V:Pos} (hp:PassesOwn (model X.prog X.w) X.A X.env X.xe) (hc:X.calm=true) (hi:PI X tg q wi) (hg:PG X tg g) (l:qy X B tb) (hs:∀ x,foldedSetIterable q X.env x=pure x:=by intro _;rfl):PS X (.For tg q B [] V) (acO wi g tb):=by
 intro p s σ H D I h;refine wpAny_For (c9 (hi p s σ H _ I h) λ v s1 h1=>c9 h1 λ ad s2 h2=>?_) hs;obtain ⟨it,F,tn,J,H2,e,I2,T,WH,f2,W,⟨m0,w0⟩,K⟩:=h2;subst e;have O:∀ {H':Hp},(∀ b∈F,H' b=none)->∀ b∈F,tQ X p H' b:=λ hn b l=>⟨hn b l,(f2 b l).2⟩
 refine codeAny_forLoop_any (λ n s'=>∃ i t H',Inv X p t H' s'/\tn i s'.heap/\(∀ b∈F,H' b=none)/\W i n t H') ?_ m0 ⟨0,σ,H2,I2,WH,λ b l=>(f2 b l).1,w0⟩;rintro n s3 ⟨i,y,L,I3,S,z,w3⟩;rcases K i n y L w3 with ⟨G,qn⟩|⟨go,N,hN,E⟩
 . refine ad0 hp (c9 (T.done X rfl rfl rfl hc i p s3 y L X.xe I3 (O z) S G) λ r s4 ⟨U,I4⟩=>?_);subst U;exact ad1 ⟨y,L,I4,qn⟩
 .
  refine ad0 hp (c9 (T.item X rfl rfl rfl hc i p s3 y L X.xe I3 (O z) S go) λ r s4 ⟨u,U,h4⟩=>?_);subst U;refine ad0 hp (c9 h4 λ _ s5 ⟨x,H5,I5,r5,y5,R,WU⟩=>?_);have M:=I5.pinned (O WU) (T.obj _ _ R);refine ad0 hp (c9 (hg _ s5 y H5 x u _ M r5 (E x H5 y5)) λ _ s6 ⟨ab,H6,I6,q6⟩=>?_);refine ad0 hp (c9 (l _ s6 ab H6 _ I6 q6) λ f Y Q=>?_);have k:∀ {a:St} {c:Hp},Inv X (p++vG F s5.heap) a c Y->N a c->∃ m,m<n/\∃ i t H',Inv X p t H' Y/\tn i Y.heap/\(∀ b∈F,H' b=none)/\W i m t H':=λ {a c} j C=>by
    obtain ⟨m',hm,w7⟩:=hN a c C;refine ⟨m',hm,i+1,a,c,j.qF,T.keep _ _ _ R λ b l o e=>(j.pin (b,o) (abS _ (abS _ (kX l e)))).1,λ b l=>?_,w7⟩;obtain ⟨o,e,d⟩:=T.obj _ _ R b l;exact (j.pin (b,o) (abS _ (abS _ (kX l e)))).2.1
  cases f with
  | next=>obtain ⟨a,c,j,C⟩:=Q;exact k j C
  | cont=>obtain ⟨a,c,j,C⟩:=Q;exact k j C
  | brk=>obtain ⟨a,c,j,Q⟩:=Q;exact ⟨a,c,j.qF,Q⟩
  | ret v=>obtain ⟨x7,a,c,j,r7,Q⟩:=Q;exact ⟨x7,a,c,j.qF,r7,Q⟩
end
def kr {K:aA} {xs:az} {D:Ends} (b:Nat->St->Hp->Prop) (h0:b 0 σ H) (l:∀ i σ H,i<=xs.length->b i σ H->aY K H a xs) (n:∀ i x σ H,xs[i]?=some x->b i σ H->g x σ H λ d f=>tb { D with nx:=b (i+1),ct:=b (i+1),bk:=D.nx } d f) (j:∀ σ H,b xs.length σ H->D.nx σ H) :
   ∃ W:Nat->Nat->St->Hp->Prop,(∃ m,W 0 m σ H)/\∀ i m σ H,W i m σ H ->
     ((Nb K a).stop i H/\D.nx σ H)\/((Nb K a).go i H/\∃ N:St->Hp->Prop,(∀ c h,N c h->∃ M,M<m/\W (i+1) M c h)/\∀ x h,(Nb K a).K9 i H x h->g x σ h λ d f=>tb { D with nx:=N,ct:=N,bk:=D.nx } d f):=by
 refine ⟨λ i m σ H=>m=xs.length - i/\i<=xs.length/\b i σ H,⟨xs.length,by simp,ach _,h0⟩,?_⟩;rintro i m σ H ⟨rfl,k,p⟩;have q:=l i σ H k p;by_cases o:i<xs.length
 .
  refine .inr ⟨⟨xs,xs[i],q,by simp [o]⟩,b (i+1),λ c h r=>⟨xs.length - (i+1),by lia,rfl,o,r⟩,λ x h y=>?_⟩;obtain ⟨e,y⟩:=y;subst e;exact n i x σ _ (y xs q) p
 . have e:i=xs.length:=by lia
   subst e;exact .inl ⟨⟨xs,q,aaD _⟩,j σ H p⟩
def xA {lo:Int} {n:Nat} {D:Ends} (a:Nat->St->Hp->Prop) (h0:a 0 σ H) (j:∀ i σ H,i<n->a i σ H->g (.int (lo+i)) σ H λ c d=>tb { D with nx:=a (i+1),ct:=a (i+1),bk:=D.nx } c d) (f:∀ σ H,a n σ H->D.nx σ H) :
   ∃ W:Nat->Nat->St->Hp->Prop,(∃ m,W 0 m σ H)/\∀ i m σ H,W i m σ H ->
     ((MN lo n).stop i H/\D.nx σ H)\/((MN lo n).go i H/\∃ N:St->Hp->Prop,(∀ b h,N b h->∃ M,M<m/\W (i+1) M b h)/\∀ x h,(MN lo n).K9 i H x h->g x σ h λ c d=>tb { D with nx:=N,ct:=N,bk:=D.nx } c d):=by
 refine ⟨λ i m σ H=>m=n - i/\i<=n/\a i σ H,⟨n,by simp,ach _,h0⟩,?_⟩;rintro i m σ H ⟨rfl,l,p⟩;by_cases o:i<n
 .
  refine .inr ⟨o,a (i+1),λ b h k=>⟨n - (i+1),by lia,rfl,o,k⟩,λ x h y=>?_⟩;obtain ⟨e,y⟩:=y;subst e y;exact j i σ _ o p
 . have e:i=n:=by lia
   subst e;exact .inl ⟨aaD _,f σ H p⟩
abbrev R2:=V->V->Hp->VK->Prop
def jo (X:Cx) (f:au->au->Sem au) (r:R2):Prop :=
 ∀ (p:List (ak×Obj)) (s:Shared) (σ:St) (H:Hp) (x y:V) (v u:au) (Q:VK),Inv X p σ H s->RelV x v->RelV y u->r x y H Q ->
   wpAny (model X.prog X.w) X.A (f v u) (EP X p σ Q) X.xe s
def Wv (X:Cx) (f:au->Sem au) (r:V->Hp->VK->Prop):Prop :=
 ∀ (p:List (ak×Obj)) (s:Shared) (σ:St) (H:Hp) (x:V) (v:au) (Q:VK),Inv X p σ H s->RelV x v->r x H Q ->
   wpAny (model X.prog X.w) X.A (f v) (EP X p σ Q) X.xe s
def jg (X:Cx) (f:au) (r:az->Hp->VK->Prop):Prop :=
 ∀ (p:List (ak×Obj)) (s:Shared) (σ:St) (H:Hp) (x:az) (u:bq) (Q:VK),Inv X p σ H s->Vals x u->r x H Q ->
   wpAny (model X.prog X.w) X.A (call f u) (EP X p σ Q) X.xe s
def Qx (r:R2) (t tb:TE):TE:=λ σ H Q=>t σ H λ x h=>tb σ h λ y a=>r x y a Q
def tUn (r:V->Hp->VK->Prop) (t:TE):TE:=λ σ H Q=>t σ H λ x h=>r x h Q
inductive rI (C:Int->Int->Prop) (g:Int->Int->V) (x:V) (y:V) (H:Hp) (Q:VK):Prop|mk (i j:_) (_:x = .int i) (_:y = .int j) (_:C i j) (_:Q (g i j) H)
inductive K2 (g:Int->Int->V) (x:V) (y:V) (H:Hp) (Q:VK):Prop|mk (i j:_) (_:x = .int i) (_:y = .int j) (_:Q (g i j) H)
inductive rU (g:Int->V) (x:V) (H:Hp) (Q:VK):Prop|mk (i:_) (_:x = .int i) (_:Q (g i) H)
section
variable {X:Cx} {a b c:Expr} {ta tb:TE} {pos:Pos}
def OC (k:PE X a ta) (l:PE X b tb) {R:V->V->Hp->Prop} (I:Inv X p σ H s) (h:ta σ H λ x g=>tb σ g λ y c=>R x y c) {Q:au->Shared->Prop} {f:au->au->Sem au} (m:∀ v u e x y c,Inv X p σ c e->RelV x v->RelV y u->R x y c->wpAny (model X.prog X.w) X.A (f v u) Q X.xe e) :
   wpAny (model X.prog X.w) X.A (eval a X.env) (λ v S=>wpAny (model X.prog X.w) X.A (eval b X.env) (λ u d=>wpAny (model X.prog X.w) X.A (f v u) Q X.xe d) X.xe S) X.xe s:=by
 refine c9 (k p s σ H _ I h) λ v t ⟨x,g,i,r,q⟩=>?_;refine c9 (l p t σ g _ i q) λ u e ⟨y,c,j,o,n⟩=>?_;exact m v u e x y c j r o n
def ax {o:Operator} (f:jo X (binaryOp o) r) (d:PE X a ta) (e:PE X b tb):PE X (.BinOp a o b pos) (Qx r ta tb):=by
 intro p s σ H Q I h;exact wpAny_BinOp (OC d e I h λ v u S x y c i R g q=>f p S σ c x y v u Q i R g q)
def oA {o:UnaryOp} {r:V->Hp->VK->Prop} (d:Wv X (unaryOp o) r) (c:PE X a ta):PE X (.UnaryOp o a pos) (tUn r ta):=by
 intro p s σ H Q I h;exact UnaryOp_ (c9 (c p s σ H _ I h) λ v S ⟨x,b,i,R,q⟩=>d p S σ b x v Q i R q)
def Re {f:au->au->Sem au} {C:Int->Int->Prop} {g:Int->Int->Int} (r:∀ (i j:Int) (t u:Tok) (s:Shared) (Q:au->Shared->Prop) (E:au->Shared->Prop),C i j->Q (.int (g i j) s.toks) { s with toks:=s.toks+1 }->wpAny (model X.prog X.w) X.A (f (.int i t) (.int j u)) Q E s) :
   jo X f (rI C λ i j => .int (g i j)):=by
 intro p s σ H x y v u Q I R b h;obtain ⟨i,j,rfl,rfl,a,q⟩:=h;obtain ⟨t,rfl⟩:=R;obtain ⟨t',rfl⟩:=b;exact r i j t t' s _ _ a ⟨.int (g i j),H,I.tok _,⟨_,rfl⟩,q⟩
def Mu {f:au->au->Sem au} {g:Int->Int->Int} (r:∀ (i j:Int) (t u:Tok) (s:Shared) (Q:au->Shared->Prop) (E:au->Shared->Prop),Q (.int (g i j) s.toks) { s with toks:=s.toks+1 }->wpAny (model X.prog X.w) X.A (f (.int i t) (.int j u)) Q E s) :
   jo X f (K2 λ i j => .int (g i j)):=by
 intro p s σ H x y v u Q I R a h;obtain ⟨i,j,rfl,rfl,q⟩:=h;obtain ⟨t,rfl⟩:=R;obtain ⟨t',rfl⟩:=a;exact r i j t t' s _ _ ⟨.int (g i j),H,I.tok _,⟨_,rfl⟩,q⟩
def Ly {f:au->au->Sem au} {g:Int->Int->Bool} (r:∀ (i j:Int) (t u:Tok) (s:Shared) (Q:au->Shared->Prop) (E:au->Shared->Prop),Q (.bool (g i j)) s->wpAny (model X.prog X.w) X.A (f (.int i t) (.int j u)) Q E s) :
   jo X f (K2 λ i j => .bl (g i j)):=by
 intro p s σ H x y v u Q I R a h;obtain ⟨i,j,rfl,rfl,q⟩:=h;obtain ⟨t,rfl⟩:=R;obtain ⟨t',rfl⟩:=a;exact r i j t t' s _ _ ⟨.bl (g i j),H,I,rfl,q⟩
def Ik (i j:Int):Prop:=0<=j/\j<=1000000/\i.natAbs<2 ^ 64
def Cs (k:Nat):(0:Int)<=2 ^ k:=by
 rw [two_pow_cast];exact acD _
def Qa:jo X (binaryOp .Add) (K2 λ i j => .int (i+j)):=Mu λ Z Z Z Z Z Z Z q=>add_int q
def Pe:jo X (binaryOp .Sub) (K2 λ i j => .int (i - j)):=Mu λ Z Z Z Z Z Z Z q=>sub_int q
def Qu:jo X (binaryOp .Mod) (rI (λ Z j=>0<j) λ i j => .int (i % j)):=Re λ i j Z Z Z Z Z h q=>by
 have H:(0:Int)<j:=h;exact mod_int' (by lia) (by rw [Int.fmod_eq_emod_of_nonneg i (by lia)];exact q)
def O0:jo X (binaryOp .Pow) (rI Ik λ i j => .int (i ^ j.toNat)):=Re λ Z Z Z Z Z Z Z h q=>pow_int_small h.1 h.2.1 h.2.2 q
def Oi:jo X (binaryOp .LShift) (rI Ik λ i j => .int (i * 2 ^ j.toNat)):=Re λ Z Z Z Z Z Z Z h q=>lshift_int_small h.1 h.2.1 h.2.2 q
def Pg:jo X (binaryOp .RShift) (rI (λ Z j=>0<=j) λ i j => .int (i / 2 ^ j.toNat)):=Re λ i j Z Z Z Z Z h q =>
 rshift_int h (by rw [afG i (Cs _)];exact q)
def OM:jo X (binaryOp .BitAnd) (K2 λ i j => .int (Builtin.bitAnd i j)):=Mu λ Z Z Z Z Z Z Z q=>and_int q
def RK:jo X (binaryOp .BitOr) (K2 λ i j => .int (Builtin.bitOr i j)):=Mu λ Z Z Z Z Z Z Z q=>or_int q
def unI {f:au->Sem au} {g:Int->Int} (r:∀ (i:Int) (t:Tok) (s:Shared) (Q:au->Shared->Prop) (E:au->Shared->Prop),Q (.int (g i) s.toks) { s with toks:=s.toks+1 }->wpAny (model X.prog X.w) X.A (f (.int i t)) Q E s) :
   Wv X f (rU λ i => .int (g i)):=by
 intro p s σ H x v Q I R h;obtain ⟨i,rfl,q⟩:=h;obtain ⟨t,rfl⟩:=R;exact r i t s _ _ ⟨.int (g i),H,I.tok _,⟨_,rfl⟩,q⟩
def o7:Wv X (unaryOp .USub) (rU λ i => .int (-i)):=unI λ Z Z Z Z Z q=>neg_int q
def De:Wv X (unaryOp .Invert) (rU λ i => .int (Builtin.bitNot i)):=unI λ Z Z Z Z Z q=>invert_int q
end
noncomputable def SE:V->V->Bool
 | .cT,.cT=>true | .cT,.int _=>true | .int _,.cT=>true | .cT,.bl _=>true | .bl _,.cT=>true | .cT,.str _=>true | .str _,.cT=>true
 | .int _,.int _=>true | .bl _,.bl _=>true | .str _,.str _=>true | .GH _,.GH _=>true
 | .int _,.str _=>true | .str _,.int _=>true | .bl _,.str _=>true | .str _,.bl _=>true
 | _,_=>false
def rEq:R2:=λ x y H Q=>SE x y=true/\Q (.bl (decide (x=y))) H
def rNe:R2:=λ x y H Q=>SE x y=true/\Q (.bl (!decide (x=y))) H
def p9 {i j:Int}:decide (V.int i=V.int j)=(i == j):=by
 rw [adH];simp
def Jt:decide (V.bl i=V.bl j)=(i == j):=by
 rw [adH];simp
def Eb:decide (V.str i=V.str j)=(i == j):=by
 rw [adH];simp
def Fk:decide (V.GH i=V.GH j)=(i.toList == j.toList):=by
 rw [adH];cases i;cases j;simp
section
variable {X:Cx} {a b c:Expr} {ta tb tc:TE} {pos:Pos}
def cu {K:Bool} (I:Inv X p σ H s) (q:Q (.bl k) H) (e:k=K):EP X p σ Q (.bool K) s:=by
 subst e;exact ⟨.bl k,H,I,rfl,q⟩
def db:jo X (compareOp .Eq) rEq:=by
 intro p s σ H x y v u Q I R r h;obtain ⟨a,q⟩:=h;cases x with
 | cT =>
   cases R;cases y with
   | cT=>cases r;exact PySem.EqNone.eq_none_none (cu I q (by simp))
   | bl j=>cases r;exact PySem.EqNone.eq_none_bool (cu I q (by simp))
   | int j=>obtain ⟨t',rfl⟩:=r;exact PySem.EqNone.eq_none_int (cu I q (by simp))
   | str j=>obtain ⟨t',rfl⟩:=r;exact PySem.EqNone.eq_none_str (cu I q (by simp))
   | _=>exact absurd (show false=true from a) abu
 | bl i =>
   cases R;cases y with
   | cT=>cases r;exact PySem.EqNone.eq_bool_none (cu I q (by simp))
   | bl j=>cases r;exact eq_bool (cu I q Jt)
   | str j=>obtain ⟨t',rfl⟩:=r;exact PySem.EqMixed.eq_bool_str (cu I q (by simp))
   | _=>exact absurd (show false=true from a) abu
 | int i =>
   obtain ⟨t,rfl⟩:=R;cases y with
   | cT=>cases r;exact PySem.EqNone.eq_int_none (cu I q (by simp))
   | int j=>obtain ⟨t',rfl⟩:=r;exact eq_int (cu I q p9)
   | str j=>obtain ⟨t',rfl⟩:=r;exact PySem.EqMixed.eq_int_str (cu I q (by simp))
   | _=>exact absurd (show false=true from a) abu
 | str i =>
   obtain ⟨t,rfl⟩:=R;cases y with
   | cT=>cases r;exact PySem.EqNone.eq_str_none (cu I q (by simp))
   | bl j=>cases r;exact PySem.EqMixed.eq_str_bool (cu I q (by simp))
   | int j=>obtain ⟨t',rfl⟩:=r;exact PySem.EqMixed.eq_str_int (cu I q (by simp))
   | str j=>obtain ⟨t',rfl⟩:=r;exact eq_str (cu I q Eb)
   | _=>exact absurd (show false=true from a) abu
 | GH i =>
   obtain ⟨t,rfl⟩:=R;cases y with
   | GH j=>obtain ⟨t',rfl⟩:=r;exact W.eq_bytes (cu I q Fk)
   | _=>exact absurd (show false=true from a) abu
 | _=>cases y<;>exact absurd (show false=true from a) abu
def vF:jo X (compareOp .NotEq) rNe:=by
 intro p s σ H x y v u Q I R r h;obtain ⟨a,q⟩:=h;cases x with
 | cT =>
   cases R;cases y with
   | cT=>cases r;exact PySem.EqNone.ne_none_none (cu I q (by simp))
   | bl j=>cases r;exact PySem.EqNone.ne_none_bool (cu I q (by simp))
   | int j=>obtain ⟨t',rfl⟩:=r;exact PySem.EqNone.ne_none_int (cu I q (by simp))
   | str j=>obtain ⟨t',rfl⟩:=r;exact PySem.EqNone.ne_none_str (cu I q (by simp))
   | _=>exact absurd (show false=true from a) abu
 | bl i =>
   cases R;cases y with
   | cT=>cases r;exact PySem.EqNone.ne_bool_none (cu I q (by simp))
   | bl j=>cases r;exact ne_bool (cu I q (adB not Jt))
   | str j=>obtain ⟨t',rfl⟩:=r;exact PySem.EqMixed.ne_bool_str (cu I q (by simp))
   | _=>exact absurd (show false=true from a) abu
 | int i =>
   obtain ⟨t,rfl⟩:=R;cases y with
   | cT=>cases r;exact PySem.EqNone.ne_int_none (cu I q (by simp))
   | int j=>obtain ⟨t',rfl⟩:=r;exact ne_int (cu I q (adB not p9))
   | str j=>obtain ⟨t',rfl⟩:=r;exact PySem.EqMixed.ne_int_str (cu I q (by simp))
   | _=>exact absurd (show false=true from a) abu
 | str i =>
   obtain ⟨t,rfl⟩:=R;cases y with
   | cT=>cases r;exact PySem.EqNone.ne_str_none (cu I q (by simp))
   | bl j=>cases r;exact PySem.EqMixed.ne_str_bool (cu I q (by simp))
   | int j=>obtain ⟨t',rfl⟩:=r;exact PySem.EqMixed.ne_str_int (cu I q (by simp))
   | str j=>obtain ⟨t',rfl⟩:=r;exact ne_str (cu I q (adB not Eb))
   | _=>exact absurd (show false=true from a) abu
 | GH i =>
   obtain ⟨t,rfl⟩:=R;cases y with
   | GH j=>obtain ⟨t',rfl⟩:=r;exact W.ne_bytes (cu I q (adB not Fk))
   | _=>exact absurd (show false=true from a) abu
 | _=>cases y<;>exact absurd (show false=true from a) abu
def lH:jo X (compareOp .Lt) (K2 λ i j => .bl (decide (i<j))):=Ly λ Z Z Z Z Z Z Z q=>lt_int q
def jO:jo X (compareOp .LtE) (K2 λ i j => .bl (decide (i<=j))):=Ly λ Z Z Z Z Z Z Z q=>le_int q
def BA:jo X (compareOp .Gt) (K2 λ i j => .bl (decide (j<i))):=Ly λ Z Z Z Z Z Z Z q=>gt_int q
def Kx:jo X (compareOp .GtE) (K2 λ i j => .bl (decide (j<=i))):=Ly λ Z Z Z Z Z Z Z q=>ge_int q
def pj:jo X (compareOp .Is) (λ x y H Q=>y = .cT/\Q (.bl (decide (x = .cT))) H):=by
 intro p s σ H x y v u Q I r R h;obtain ⟨rfl,q⟩:=h;cases R;refine is_none_gen (cu I q ?_);cases x<;>first
   | (cases r;rfl)
   | (obtain ⟨t,rfl⟩:=r;rfl)
def jJ:jo X (compareOp .IsNot) (λ x y H Q=>y = .cT/\Q (.bl (!decide (x = .cT))) H):=by
 intro p s σ H x y v u Q I r R h;obtain ⟨rfl,q⟩:=h;cases R;refine isnot_none_gen (cu I q ?_);cases x<;>first
   | (cases r;rfl)
   | (obtain ⟨t,rfl⟩:=r;rfl)
def aK (b:Expr) {o:CmpOp} (h:autoParam (o ≠ .In) zb_._auto_1) (H:autoParam (o ≠ .NotIn) zb_._auto_1):behindInMarks o b=false:=by
 have e:(o == CmpOp.In)=false:=by cases o<;>first|rfl|exact absurd rfl h
 have E:(o == CmpOp.NotIn)=false:=by cases o<;>first|rfl|exact absurd rfl H
 cases b<;>simp [behindInMarks,e,E]
def dW {o:CmpOp} (g:jo X (compareOp o) r) (d:PE X a ta) (e:PE X b tb) (f:behindInMarks o b=false):PE X (.Compare a [o] [b] pos) (Qx r ta tb):=by
 intro p s σ H Q I h;exact wpAny_Compare1 (OC d e I h λ v u S x y c i R j q=>g p S σ c x y v u Q i R j q) f
inductive acR (Q:Bool->Hp->Prop) (x:V) (H:Hp):Prop|mk (k:Bool) (h:x = .bl k) (q:Q k H)
def N1 (t:TE):TT:=λ σ H Q=>t σ H (acR Q)
def aJ {o:CmpOp} (t:jo X (compareOp o) r) (m:PE X a ta) (n:PE X b tb) (q:behindInMarks o b=false):PT X (.Compare a [o] [b] pos) (N1 (Qx r ta tb)):=by
 intro p s σ H Q I h;refine wpAny_isTrue_Compare1 (c9 (m p s σ H _ I h) λ v S ⟨x,d,i,R,w⟩=>c9 (n p S σ d _ i w) λ u E ⟨y,f,j,C,A⟩ =>
   c9 (t p E σ f x y v u _ j R C A) λ c F ⟨z,g,l,D,k,e,B⟩=>?_) q
 subst e;cases D;exact ado ⟨g,l,B⟩
def Iq (r R:R2) (t tb T:TE):TE:=λ σ H Q=>t σ H λ x a=>tb σ a λ y b=>r x y b λ z h=>∃ k,z = .bl k /\
 (if k=true then T σ h λ w c=>R y w c Q else Q (.bl false) h)
def JY {o:CmpOp} (G:jo X (compareOp o) r) (E:jo X (compareOp f) R) (B:PE X a ta) (C:PE X b tb) (D:PE X c tc) (F:autoParam (lastMarks [o,f] [b,c]=false) ze_._auto_1):PE X (.Compare a [o,f] [b,c] pos) (Iq r R ta tb tc):=by
 intro p s σ H Q I h;refine Compare_chain (c9 (B p s σ H _ I h) λ v S ⟨x,l,t,M,J⟩=>chain_link (c9 (C p S σ l _ t J) λ u T ⟨y,m,w,j,K⟩ =>
   c9 (G p T σ m x y v u _ w M j K) λ d U ⟨z,g,i,N,k,e,q⟩=>?_)) F
 subst e;cases N;refine ado ?_;cases k with
 | false=>exact ite_ff ⟨.bl false,g,i,rfl,q⟩
 | true=>exact ite_tt (chain_last (c9 (D p U σ g _ i q) λ W V ⟨Y,n,A,O,L⟩=>E p V σ n y Y u W Q A j O L))
def ko {o:CmpOp} (M:jo X (compareOp o) r) (E:jo X (compareOp f) R) (G:PE X a ta) (J:PE X b tb) (K:PE X c tc) (L:autoParam (lastMarks [o,f] [b,c]=false) ze_._auto_1):PT X (.Compare a [o,f] [b,c] pos) (N1 (Iq r R ta tb tc)):=by
 intro p s σ H Q I h;refine isTrue_chain (c9 (G p s σ H _ I h) λ v s1 ⟨x,l,w,V,O⟩=>test_link (c9 (J p s1 σ l _ w O) λ u s2 ⟨y,m,A,j,S⟩ =>
   c9 (M p s2 σ m x y v u _ A V j S) λ d s3 ⟨z,g,i,W,k,e,q⟩=>?_)) L
 subst e;cases W;refine ado ?_;cases k with
 | false =>
   obtain ⟨k',D,N⟩:=q;cases D;exact ite_ff ⟨g,i,N⟩
 | true =>
   refine ite_tt (test_last (c9 (K p s3 σ g _ i q) λ w' s4 ⟨z',n,B,Y,T⟩=>c9 (E p s4 σ n y z' u w' _ B j Y T) λ d' s5 ⟨z2,t,C,r5,k2,F,U⟩=>?_));subst F;cases r5;exact ado ⟨t,C,U⟩
def vP:(sizeLine:Nat)<2 ^ 63:=by rw [sizeLine_eq];decide
def vals1 {x:V} (r:Vals [x] us):∃ u,us=[u]/\RelV x u:=by
 cases r with
 | cons R a=>cases a;exact ⟨_,rfl,R⟩
def vals2 {x y:V} (r:Vals [x,y] us):∃ u w',us=[u,w']/\RelV x u/\RelV y w':=by
 cases r with
 | cons R a =>
   cases a with
   | cons b c=>cases c;exact ⟨_,_,rfl,R,b⟩
def HQ:jg X (.builtin "abs") (λ xs H Q=>∃ i,xs=[.int i]/\Q (.int (if i<0 then -i else i)) H):=by
 intro p s σ H xs U Q I r h;obtain ⟨i,rfl,q⟩:=h;obtain ⟨u,rfl,t,rfl⟩:=vals1 r;exact call_abs_int λ u T=>⟨.int (if i<0 then -i else i),H,I.tok _,⟨_,rfl⟩,q⟩
def rD (b:X.calm=true):jg X (.builtin "max") (λ xs H Q=>∃ i j,xs=[.int i,.int j]/\Q (.int (if j > i then j else i)) H):=by
 intro p s σ H xs U Q I r h;obtain ⟨i,j,rfl,q⟩:=h;obtain ⟨u,w,rfl,⟨t,rfl⟩,⟨t',rfl⟩⟩:=vals2 r;refine max_two_ints (I.ok.hd b) λ c T k=>⟨_,H,I.kept k,?_,q⟩
 by_cases a:j > i
 . rw [abE a,abE a];exact ⟨_,rfl⟩
 . rw [abC a,abC a];exact ⟨_,rfl⟩
def FV (b:X.calm=true):jg X (.builtin "min") (λ xs H Q=>∃ i j,xs=[.int i,.int j]/\Q (.int (if j<i then j else i)) H):=by
 intro p s σ H xs U Q I r h;obtain ⟨i,j,rfl,q⟩:=h;obtain ⟨u,w,rfl,⟨t,rfl⟩,⟨t',rfl⟩⟩:=vals2 r;refine min_two_ints (I.ok.hd b) λ c T k=>⟨_,H,I.kept k,?_,q⟩
 by_cases a:j<i
 . rw [abE a,abE a];exact ⟨_,rfl⟩
 . rw [abC a,abC a];exact ⟨_,rfl⟩
def mZ:jg X (.type "int") (λ xs H Q=>(∃ i,xs=[.int i]/\Q (.int i) H)\/∃ k,xs=[.bl k]/\Q (.int (if k then 1 else 0)) H):=by
 intro p s σ H xs U Q I r h;rcases h with ⟨i,rfl,q⟩|⟨k,rfl,q⟩
 . obtain ⟨u,rfl,t,rfl⟩:=vals1 r;exact call_int_int ⟨.int i,H,I,⟨_,rfl⟩,q⟩
 . obtain ⟨u,rfl,R⟩:=vals1 r;cases R;exact call_int_bool ⟨.int (if k then 1 else 0),H,I.tok _,⟨_,rfl⟩,q⟩
end
structure CI (h:aM) (x dx C:ak) (mA:cH):Prop where
 obj:h.get? x=some (W.instObj C dx)
 ns:h.Ns1 dx mA
 ne:dx≠x
def Gu {h:aM} (n:h.Ns1 dx m):∃ O,h.get? dx=some O/\∀ name,W.lookIn name O=some (m name):=by
 obtain ⟨o,es,E,d,H,b,_,c⟩:=n;refine ⟨o,d,λ name=>?_⟩;have e:=c name;unfold nsFind findBy at e;rw [<- Array.find?_toList] at e;unfold W.lookIn;rw [H];dsimp only;split
 . rename_i y q
   rw [q] at e;exact adB some e
 .
  rename_i q
  rw [q] at e;have a:es.toList.any (·.refKey)=false:=by
    rw [List.any_eq_false];intro y f;obtain ⟨z,t,C⟩:=b y (Array.mem_toList_iff.mp f);simp [DictEntry.refKey,C]
  have A:¬ es.toList.any (·.refKey)=true:=by rw [a];exact abu
  rw [abC A];exact adB some e
def CI.look (I:CI h x dx C m):∃ o,W.InstAt h x (W.instObj C dx) C (some o)/\∀ name,W.lookIn name o=some (m name) :=
 let ⟨o,a,H⟩:=Gu I.ns
 ⟨o,⟨I.obj,rfl,rfl,a⟩,H⟩
section
variable {prog:aZ} {w:aU} {A:Around} {E:au->Shared->Prop} {s:Shared} {K:aA} {x dx C f:ak} {mA:cH} {name:Str} {v:au}
def get_map {Q:au->Shared->Prop} (X:K.In s.heap) (I:CI s.heap x dx C mA) (b:W.plainGet K C name=true) (c:W.hasDictIn K C=true) (a:W.findIn K (.ref C) name=some none) (f:mA name=some v) (H:W.handedIn v=true) (h:Q v { s with toks:=s.toks+1 }) :
   wpAny (model prog w) A (getAttr (.ref x) name e) Q E s:=by
 obtain ⟨o,J,d⟩:=I.look;exact W.get_value X J (W.plainGet_of b).1 (W.findObj_own c a rfl (by rw [d,f])) H h
def Kf {Q:au×bq->Shared->Prop} (X:K.In s.heap) (I:CI s.heap x dx C mA) (H:W.plainGet K C name=true) (a:W.findIn K (.ref C) name=some (some (.ref f))) (c:W.isFn K (.ref f)=true) (d:mA name=none) (h:Q (.ref f,[.ref x]) s) :
   wpAny (model prog w) A (getMethod (.ref x) name pl) Q E s:=by
 obtain ⟨o,J,b⟩:=I.look;exact W.method_fn X J (W.plainGet_of H).1 (W.plainGet_of H).2 a (adS.mp c) (by show (W.lookIn name o).map (·.isSome)=some false;rw [b,d];rfl) h
def Mh {Q:Unit->Shared->Prop} (X:K.In s.heap) (I:CI s.heap x dx C mA) (l:W.findIn K (.ref C) "__setattr__" = some (some (.builtin "object.__setattr__"))) (hp:W.plainOver K C=true) (m:W.takerIn K C name=some none) (j:W.hasDictIn K C=true) (hw:PySem.Within mA n) (hsz:n.length<=sizeLine) (h:∀ h',CI h' x dx C (λ y=>if y=name then some v else mA y)->Heap.SameBut dx s.heap h'->Q () { s with heap:=h',toks:=s.toks+2 }) :
   wpAny (model prog w) A (setAttr (.ref x) name v) Q E s:=by
 obtain ⟨u,J,t⟩:=I.look;refine W.set_plain X J l (W.osa_open (s:={ s with toks:=s.toks+1 }) (r:=none) X J hp m λ b=>?_);obtain ⟨p,i,q⟩:=W.any_some j;have o:s.heap.get? x=some ⟨.ref C,some dx,.plain,#[]⟩:=I.obj;refine WE (aaU (WE (WE (wpAny_loadPart o (WE (W.Looks.here (s:={ s with toks:=s.toks+1 }) (W.looks_clsIn X i) ?_))))));rw [q];refine aaU (a:=some dx) (WE (aaU (WE ?_)));refine wpAny_nsSet1 (s:={ s with toks:=s.toks+1 }) I.ns λ h' e k=>?_;obtain ⟨O,g,f,d,c,H⟩:=e.count (PySem.Within.cons name v hw);refine WE (wpAny_lookBehind d (by rw [c];exact pastItsLine_dict (abk H (by rw [ab9];lia))) ?_);exact aaU (h _ ⟨(k.2 _ (aef I.ne)).trans I.obj,e,I.ne⟩ k)
def HU {R:Result->Shared->Prop} {vs:bq} {k:List (Str×au)} (X:K.In s.heap) (b:W.makesIn K C=true) (a:W.findIn K (.ref C) "__init__" = some (some (.ref f))) (H:W.typeIn K (.ref f)=some (.type "function")) (h:codeAny (model prog w) (A.under (.builtin "type.__call__" ⟨.ref C::vs,k⟩)) (.call (.ref f) ⟨.ref (s.heap.objs.size+1)::vs,k⟩) (W.InitBack (s.heap.objs.size+1) R)
     { s with heap:=(s.heap.push W.emptyDict).push (W.instObj C s.heap.objs.size)}) :
   codeAny (model prog w) A (.call (.ref C) ⟨vs,k⟩) R s:=by
 obtain ⟨c,g,d,t,o⟩:=s;exact W.make_core (W.makes_of X b) (afs X a) (λ S=>W.bind_fn X S H) (.inl rfl) h
end
noncomputable def aN (f:Str) (v:V):List (Str×V)->List (Str×V)
 | []=>[(f,v)]
 | (g,x)::r=>if g=f then (g,v)::r else (g,x)::aN f v r
theorem sN (f g:Str) (v:V):∀ F:List (Str×V),(aN f v F).lookup g=if g=f then some v else F.lookup g
 | []=>by
   show List.lookup g [(f,v)]=_;by_cases h:g=f
   . have H:(g == f)=true:=adS.mpr h;simp only [List.lookup,H,abE h]
   . have H:(g == f)=false:=adk.mpr h;simp only [List.lookup,H,abC h]
 | (k,x)::r=>by
   have i:=sN f g v r;rw [show aN f v ((k,x)::r)=(if k=f then (k,v)::r else (k,x)::aN f v r) from rfl];by_cases a:k=f
   .
    rw [abE a];by_cases h:g=k
    . have H:(g == k)=true:=adS.mpr h;simp only [List.lookup,H,abE (h.trans a)]
    . have H:(g == k)=false:=adk.mpr h;simp only [List.lookup,H,abC (λ e:g=f=>h (e.trans a.symm))]
   .
    rw [abC a];by_cases h:g=k
    . have H:(g == k)=true:=adS.mpr h;simp only [List.lookup,H,abC (λ e:g=f=>a (h.symm.trans e))]
    . have H:(g == k)=false:=adk.mpr h;simp only [List.lookup,H];exact i
theorem su (f:Str) (v:V):∀ F:List (Str×V),f∈(aN f v F).map (·.1)/\∀ g,g∈F.map (·.1)->g∈(aN f v F).map (·.1)
 | []=>⟨by simp [aN],λ g h=>by simp at h⟩
 | (k,x)::r=>by
   obtain ⟨i,I⟩:=su f v r;rw [show aN f v ((k,x)::r)=(if k=f then (k,v)::r else (k,x)::aN f v r) from rfl];by_cases H:k=f
   . rw [abE H];subst H;exact ⟨by simp,λ g h=>by simpa using h⟩
   .
    rw [abC H];refine ⟨?_,λ g h=>?_⟩
    . rw [ab0];exact aar _ i
    . rw [ab0] at h |-;rcases aah.mp h with e|e
      . exact aah.mpr (.inl e)
      . exact aar _ (I g e)
theorem sJ (f:Str) (v:V):∀ F:List (Str×V),(aN f v F).length<=F.length+1
 | []=>by simp [aN]
 | (k,x)::r=>by
   have i:=sJ f v r;rw [show aN f v ((k,x)::r)=(if k=f then (k,v)::r else (k,x)::aN f v r) from rfl];by_cases h:k=f
   . rw [abE h,ab9,ab9];lia
   . rw [abC h,ab9,ab9];lia
def lM.some_of {o:jA} (r:lM (some v) o):∃ u,o=some u/\RelV v u:=by
 cases o with
 | none=>exact (show False from r).elim
 | some u=>exact ⟨u,rfl,r⟩
def lM.none_of {o:jA} (r:lM none o):o=none:=by
 cases o with
 | none=>rfl
 | some u=>exact (show False from r).elim
def FR {u:au} (r:RelV v u):W.handedIn u=true:=by
 cases v with
 | cT=>cases (show u=Value.none from r);rfl
 | bl b=>cases (show u=Value.bool b from r);rfl
 | int i=>obtain ⟨t,e⟩:=(show ∃ t,u=Value.int i t from r);cases e;rfl
 | str x=>obtain ⟨t,e⟩:=(show ∃ t,u=Value.str x t from r);cases e;rfl
 | GH b=>obtain ⟨t,e⟩:=(show ∃ t,u=Value.bytes b t from r);cases e;rfl
 | N5 b=>obtain ⟨t,e⟩:=(show ∃ t,u=Value.float b t from r);cases e;rfl
 | ref a=>cases (show u=Value.ref a from r);rfl
 | ty n=>cases (show u=Value.type n from r);rfl
section
variable {P:aZ} {w:aU} {H:Hp} {h:aM} {a C dx:ak} {fs:List (Str×V)}
def tV (c:kB P w H h) (e:H a=some (.ins C dx fs)):∃ m,CI h a dx C m/\(∀ f,lM (fs.lookup f) (m f))/\PySem.Within m (fs.map (·.1))/\fs.length<=1000/\H dx=some (.own a):=by
 obtain ⟨d,z,N,o,m,n,r,q⟩:=(show di P w H h a (.ins C dx fs) from c a _ e)
 exact ⟨m,⟨o,n,N⟩,r,q,z,d⟩
end
structure zH (K:aA) (C:ak):Prop where
 pg:W.plainGet K C Str.empty=true
 hd:W.hasDictIn K C=true
 po:W.plainOver K C=true
 sa:W.findIn K (.ref C) "__setattr__" = some (some (.builtin "object.__setattr__"))
def zH.get {K:aA} (c:zH K C) (f:Str):W.plainGet K C f=true:=c.pg
def cX (K:aA) (C:ak) (f:Str):Prop:=W.findIn K (.ref C) f=some none
def cX.RZ {K:aA} (n:cX K C f):W.takerIn K C f=some none:=by
 unfold W.takerIn;rw [show W.findIn K (.ref C) f=some none from n];rfl
structure Meth (K:aA) (C:ak) (m:Str) (f:ak):Prop where
 at_:W.findIn K (.ref C) m=some (some (.ref f))
 fn:W.isFn K (.ref f)=true
 kp:W.keepIn K (.ref f)=true
section
variable {X:Cx} {pins:List (ak×Obj)} {σ:St} {H:Hp} {s:Shared} {a C dx:ak} {fs:List (Str×V)} {f:Str} {v:V} {A:Around} {E:au->Shared->Prop}
def Dw {Q:au->Shared->Prop} (I:Inv X pins σ H s) (e:H a=some (.ins C dx fs)) (c:zH X.K C) (n:cX X.K C f) (l:fs.lookup f=some v) (h:∀ u s',Inv X pins σ H s'->RelV v u->Q u s'):wpAny (model X.prog X.w) A (getAttr (.ref a) f b) Q E s:=by
 obtain ⟨m,O,r,Z,Z,Z⟩:=tV I.cJ e;obtain ⟨u,d,R⟩:=lM.some_of (v:=v) (o:=m f) (by rw [<- l];exact r f);exact get_map I.pi O (c.get f) c.hd n d (FR R) (h u _ (I.tok _) R)
def uB {g:ak} {Q:au×bq->Shared->Prop} (I:Inv X pins σ H s) (e:H a=some (.ins C dx fs)) (c:zH X.K C) (k:Meth X.K C m g) (l:fs.lookup m=none) (h:Q (.ref g,[.ref a]) s):wpAny (model X.prog X.w) A (getMethod (.ref a) m pl) Q E s:=by
 obtain ⟨M,O,r,Z,Z,Z⟩:=tV I.cJ e;have b:M m=none:=lM.none_of (by rw [<- l];exact r m);exact Kf I.pi O (c.get m) k.at_ k.fn b h
def Dt {u:au} {Q:Unit->Shared->Prop} (I:Inv X pins σ H s) (e:H a=some (.ins C dx fs)) (c:zH X.K C) (n:cX X.K C f) (B:fs.length<1000) (R:RelV y u) (h:∀ s',Inv X pins σ (upd H a (.ins C dx (aN f y fs))) s'->Q () s'):wpAny (model X.prog X.w) A (setAttr (.ref a) f u) Q E s:=by
 obtain ⟨m,O,r,W,Z,i⟩:=tV I.cJ e;have v:(fs.map (·.1)).length<=sizeLine:=by rw [CT,sizeLine_eq];lia
 refine Mh I.pi O c.sa c.po n.RZ c.hd W v λ k d S=>h _ ?_;have p:∃ o,k.get? dx=some o:=let ⟨o,_,_,j,_⟩:=d.ns;⟨o,j⟩;refine I.write (x:=a) (e:=dx) (by rw [e];exact True.intro) (.inr i) (λ b q l z=>(S.2 b l).trans z) p ?_;refine ⟨by rw [av O.ne];exact i,?_,O.ne,d.obj,_,d.ns,λ g=>?_,λ g t=>?_⟩
 . have:=sJ f y fs;lia
 .
  show lM ((aN f y fs).lookup g) (if g=f then some u else m g);rw [sN];by_cases q:g=f
  . rw [abE q,abE q];exact R
  . rw [abC q,abC q];exact r g
 .
  by_cases q:g=f
  . rw [q];exact (su f y fs).1
  . refine (su f y fs).2 g (W g λ z=>t ?_);show (if g=f then some u else m g)=none;rw [abC q];exact z
def Inv.made (I:Inv X pins σ H s):Inv X pins σ (upd (upd H s.heap.objs.size (.own (s.heap.objs.size+1))) (s.heap.objs.size+1) (.ins C s.heap.objs.size []))
   { s with heap:=(s.heap.push W.emptyDict).push (W.instObj C s.heap.objs.size)}:=by
 have E:(s.heap.push W.emptyDict).get? s.heap.objs.size=some W.emptyDict:=abX s.heap rfl;have c:((s.heap.push W.emptyDict).push (W.instObj C s.heap.objs.size)).get? (s.heap.objs.size+1)=some (W.instObj C s.heap.objs.size):=by
   have:=abX (s.heap.push W.emptyDict) (o:=W.instObj C s.heap.objs.size) rfl;rwa [ae1] at this
 have d:(s.heap.push W.emptyDict).Ns s.heap.objs.size (λ Z=>none):=⟨W.emptyDict,#[],_,E,rfl,(λ e h=>absurd h (by simp)),λ Z=>rfl⟩
 have i:=I.laid (a:=s.heap.objs.size) (o:=.own (s.heap.objs.size+1)) (h':=s.heap.push W.emptyDict) (t':=s.toks) (λ b u q=>aaJ _ q) (aaD _) ⟨_,E⟩;refine i.laid (a:=s.heap.objs.size+1) (o:=.ins C s.heap.objs.size []) (t':=s.toks) (λ b u q=>aaJ _ q) (Nat.le_of_eq (ae1 _ _)) ?_;have n:s.heap.objs.size≠s.heap.objs.size+1:=abY (aeW _);refine ⟨by rw [av n,ag],ach _,n,c,λ Z=>none,(Heap.Ns1.of_empty d).at λ o q=>aaJ _ q,λ Z=>True.intro,λ y f=>absurd rfl f⟩
def LB {f:Str} {s:Shared} {Q:au->Shared->Prop} (H:attributeBase e f env (eval e env)=eval e env) (h:wpAny (model prog w) A (eval e env) (λ o S=>wpAny (model prog w) A (getAttr o f true) Q E S) E s):wpAny (model prog w) A (eval (.Attribute e f p) env) Q E s :=
 Attribute_any_ h (by rw [arm_eval_Attribute,H])
end
inductive VS (K:aA) (f:Str) (Q:VK) (x:V) (H1:Hp):Prop|mk (a C dx:ak) (fs:List (Str×V)) (v:V) (h1:x = .ref a) (h2:H1 a=some (.ins C dx fs)) (h3:zH K C) (h4:cX K C f) (h5:fs.lookup f=some v) (q:Q v H1)
def acr (K:aA) (t:TE) (f:Str):TE:=λ σ H Q=>t σ H (VS K f Q)
def aco (K:aA) (t T:TE) (f:Str):TS:=λ D σ H=>T σ H λ y b=>t σ b λ x h=>∃ a C d F,x = .ref a/\h a=some (.ins C d F)/\zH K C/\cX K C f/\F.length<1000 /\
 D.nx σ (upd h a (.ins C d (aN f y F)))
section
variable {X:Cx} {o e value:Expr} {f:Str} {pos pos':Pos} {ta tv:TE}
def aW (j:PE X e ta) (g:attributeBase e f X.env (eval e X.env)=eval e X.env):PE X (.Attribute e f pos) (acr X.K ta f):=by
 intro p s σ H Q I h;refine LB g (c9 (j p s σ H _ I h) λ u S ⟨x,b,i,R,a,C,D,F,v,ex,E,c,n,l,q⟩=>?_);subst ex;obtain rfl:u=Value.ref a:=R;exact Dw i E c n l λ U k d r=>⟨v,b,d,r,q⟩
def eV (g:PE X o ta) (k:PE X value tv) (j:swapsWith value (some (.Attribute o f pos')) pos.line X.env=pure false):PS X (.Assign [.Attribute o f pos'] value pos) (aco X.K ta tv f):=by
 intro p s σ H D I h;refine plainObj_wpAny_Assign_Attribute (c9 (k p s σ H _ I h) λ u S ⟨y,b,i,R,q⟩=>c9 (g p S σ b _ i q) λ O v ⟨x,m,d,r,a,C,t,F,ex,E,c,n,l,Q⟩=>?_) j;subst ex;obtain rfl:O=Value.ref a:=r;exact Dt d E c n l R λ w e=>⟨σ,_,e,Q⟩
end
section
variable {X:Cx} {pins:List (ak×Obj)} {σ:St} {H:Hp} {s:Shared} {A:Around} {E:au->Shared->Prop} {Q:au->Shared->Prop} {c:au} {b:Bool}
inductive ss (K:aA) (H:Hp):V->au->Prop where
 | cT:ss K H .cT (.type "NoneType")
 | bl (x:Bool):ss K H (.bl x) (.type "bool")
 | int (i:Int):ss K H (.int i) (.type "int")
 | str (x:Str):ss K H (.str x) (.type "str")
 | N5 (x:UInt64):ss K H (.N5 x) (.type "float")
 | lst {a:ak} {xs:az} (e:H a=some (.lst xs)):ss K H (.ref a) (.type "list")
 | AF {a:ak} {o:Obj} {xs:az} (e:H a=some (.AF o (.lst xs))):ss K H (.ref a) (.type "list")
 | tup {a:ak} {xs:az} (e:H a=some (.tup xs)):ss K H (.ref a) (.type "tuple")
 | dK {a:ak} {aD:List (Key×V)} (e:H a=some (.dK aD)):ss K H (.ref a) (.type "dict")
 | dT {a:ak} {aD:List (List Key×V)} (e:H a=some (.dT aD)):ss K H (.ref a) (.type "dict")
 | ins {a C dx:ak} {fs:List (Str×V)} (e:H a=some (.ins C dx fs)) (cl:zH K C) (ha:W.findIn K (.ref C) "__class__" = some (some (.builtin "object.__class__")))
     (hn:W.specialIn K (.builtin "object.__class__") "__get__" = some (some (.builtin "getset_descriptor.__get__"))) (Wg:W.takesIn K (.builtin "object.__class__")=some true)
     (hm:W.mroIn K C (.type "object")=some true):ss K H (.ref a) (.ref C)
def FS {u:au} (I:Inv X pins σ H s) (r:RelV x u) (ty:ss X.K H x t) (e:W.kitOne X.K t c=some b) (h:∀ T,Q (.bool b) { s with toks:=T }) :
   wpAny (model X.prog X.w) A (call (.builtin "isinstance") [u,c]) Q E s:=by
 cases ty with
 | cT=>cases (show u=Value.none from r);exact aec W.kitx_none I.pi True.intro e (λ z=>nomatch z) h
 | bl y=>cases (show u=Value.bool y from r);exact aec W.kitx_bool I.pi True.intro e (λ z=>nomatch z) h
 | int i=>obtain ⟨t,q⟩:=(show ∃ t,u=Value.int i t from r);cases q;exact aec W.kitx_int I.pi True.intro e (λ z=>nomatch z) h
 | str y=>obtain ⟨t,q⟩:=(show ∃ t,u=Value.str y t from r);cases q;exact aec W.kitx_str I.pi True.intro e (λ z=>nomatch z) h
 | N5 y=>obtain ⟨t,q⟩:=(show ∃ t,u=Value.float y t from r);cases q;exact aec W.kitx_float I.pi True.intro e (λ z=>nomatch z) h
 | @lst a g d =>
   cases (show u=Value.ref a from r);obtain ⟨Z,Z,n,Z,f⟩:=(show di X.prog X.w H s.heap a (.lst g) from I.cJ a _ d)
   exact aec W.kitx_list I.pi ⟨_,f,rfl⟩ e (λ z=>nomatch z) h
 | @AF a G g d =>
   cases (show u=Value.ref a from r);obtain ⟨Z,Z,Z,n,Z,f⟩:=(show di X.prog X.w H s.heap a (.AF G (.lst g)) from I.cJ a _ d)
   exact aec W.kitx_list I.pi ⟨_,f,rfl⟩ e (λ z=>nomatch z) h
 | @tup a g d =>
   cases (show u=Value.ref a from r);obtain ⟨Z,Z,Z,p⟩:=(show di X.prog X.w H s.heap a (.tup g) from I.cJ a _ d)
   obtain ⟨o,f,j,Z⟩:=p;exact aec W.kitx_tuple I.pi ⟨o,f,j⟩ e (λ z=>nomatch z) h
 | @dK a k d =>
   cases (show u=Value.ref a from r);obtain ⟨Z,Z,S,Z,p⟩:=(show di X.prog X.w H s.heap a (.dK k) from I.cJ a _ d)
   obtain ⟨o,es,v,f,j,Z⟩:=p;exact aec W.kitx_dict I.pi ⟨o,f,j.1⟩ e (λ z=>nomatch z) h
 | @dT a k d =>
   cases (show u=Value.ref a from r);obtain ⟨Z,Z,g,Z,o,es,v,f,j,Z⟩:=(show di X.prog X.w H s.heap a (.dT k) from I.cJ a _ d)
   exact aec W.kitx_dict I.pi ⟨o,f,j.1⟩ e (λ z=>nomatch z) h
 | @ins a C L M d l B F m D =>
   cases (show u=Value.ref a from r);obtain ⟨N,O,Z⟩:=tV I.cJ d;obtain ⟨R,J,Z⟩:=O.look;exact aec (W.kitx_own (l.get _) l.hd B F m D) I.pi J e (λ z=>nomatch z) h
end
structure cK (k:Nat) (A:Around):Prop where
 hd:A.handled=none
 dp:A.depth+3 * k+5<recursionLimit
 un:A.units+16 * k+200<cLine
def cK.mono {j:Nat} (r:cK k A) (h:j<=k):cK j A:=⟨r.hd,by have:=r.dp;lia,by have:=r.un;lia⟩
theorem cK.deeper {k:Nat} (r:cK (k+1) A) (env:Env):cK k (A.deeper env) :=
 ⟨r.hd,by have:=r.dp;show A.depth+1+3 * k+5<_;lia,by have:=r.un;show A.units+3+16 * k+200<_;lia⟩
def C8 {A:Around} {us:bq} {k:List (Str×au)}:(A.under (.builtin "type.__call__" ⟨.ref C::us,k⟩)).depth=A.depth+1:=by
 first|rfl|simp [Around.under,Code.weight,Code.isCreation,Code.isGuard,Code.isCaller,Code.frames,Code.isFrame,guardIds]
def Du {A:Around} {us:bq} {k:List (Str×au)}:(A.under (.builtin "type.__call__" ⟨.ref C::us,k⟩)).units=A.units+1:=by
 first|rfl|simp [Around.under,Code.cUnits,Code.frames,Code.isFrame]
def cK.make {k:Nat} (r:cK (k+1) A) (C:ak) (us:bq) (K:List (Str×au)):cK k (A.under (.builtin "type.__call__" ⟨.ref C::us,K⟩)) :=
 ⟨r.hd,by have:=r.dp;rw [C8];lia,by have:=r.un;rw [Du];lia⟩
theorem cK.depth (r:cK k A):A.depth<recursionLimit:=by have:=r.dp;lia
theorem cK.units (r:cK k A):A.units+64<cLine:=by have:=r.un;lia
def Ln:TA:=λ Z H Q=>Q [] H
def NU (t:TE) (T:TA):TA:=λ σ H Q=>t σ H λ x h=>T σ h λ X a=>Q (x::X) a
section
variable {X:Cx} {e:Expr} {es:List Expr} {te:TE} {t:TA} {pos:Pos}
def af:PA X [] Ln:=λ Z Z Z Z H Q I h=>afN ⟨[],H,I,.nil,h⟩
def aa (d:PE X e te) (f:PA X es t) (g:autoParam (zC X e es) za_._auto_1):PA X (e::es) (NU te t):=by
 intro pos p s σ H Q I h;rw [g];show wpAny _ _ (spliced ((false,eval e X.env)::backTo pos (starEach es X.env))) _ _ s;refine aeY (c9 (d p s σ H _ I h) λ u S ⟨x,a,i,r,q⟩=>?_);exact c9 (f pos p S σ a _ i q) λ U l ⟨k,b,c,R,j⟩=>⟨x::k,b,c,.cons r R,j⟩
def SO (t:TA):TE:=λ σ H Q=>t σ H λ x h=>x.length<=sizeLine/\∀ p,h p=none->Q (.ref p) (upd h p (.tup x))
def YQ (t:TA):TE:=λ σ H Q=>t σ H λ x h=>x.length<=sizeLine/\∀ p,h p=none->Q (.ref p) (upd h p (.lst x))
def bJ {x} (h:PA X es t):PE X (.Tuple es x pos) (SO t):=by
 intro p s σ H Q I d;refine wpAny_Tuple_spliced (c9 (h pos p s σ H _ I d) λ U S ⟨f,a,i,r,z,q⟩=>⟨by rw [<- r.length];exact z,?_⟩);have c:a S.heap.objs.size=none:=i.cJ.fresh (aaD _);refine ⟨.ref S.heap.objs.size,upd a S.heap.objs.size (.tup f),i.laid (t':=S.toks) (λ b u e=>aaJ _ e) (aaD _) ?_,rfl,q _ c⟩;exact ⟨z,U,r,⟨_,abX _ rfl,rfl,_,rfl⟩⟩
def cQ (h:PA X es t):PE X (.List es pos) (YQ t):=by
 intro p s σ H Q I d;refine wpAny_List_spliced (c9 (h pos p s σ H _ I d) λ U S ⟨x,a,i,r,z,q⟩=>⟨by rw [<- r.length];exact z,?_⟩);have c:a S.heap.objs.size=none:=i.cJ.fresh (aaD _);refine ⟨.ref S.heap.objs.size,upd a S.heap.objs.size (.lst x),i.laid (t':=S.toks) (λ b u e=>aaJ _ e) (aaD _) ?_,rfl,q _ c⟩;exact ⟨z,U,0,r,abX _ rfl⟩
end
abbrev Sp:=az->Hp->VK->XK->Prop
abbrev GJ:=List Env->Hp->Shared->XK->au->Shared->Prop
structure CD (P:aZ) (w:aU) (K:aA) (mg:cH) (base:aM) (A:Around) (outer:List Env) (s:Shared) (H:Hp):Prop where
 frames:A.frames=some outer
 mod:Mod K mg base
 bs:∀ b o,base.get? b=some o->s.heap.get? b=some o/\H b=none
 K7:base.objs.size<=s.heap.objs.size
 nS:s.heap.FunFrames base outer
 K4:∀ b∈gp outer,H b=none
 cJ:kB P w H s.heap
 bare:AllBare s.gens
def CE (outer:List Env) (P:aZ) (w:aU) (H:Hp) (s:Shared) (Q:VK) (u:au) (s':Shared):Prop :=
 ∃ v h,s'.os=s.os/\AllBare s'.gens/\Un (gp outer) [] H h s.heap s'.heap/\kB P w h s'.heap/\RelV v u/\Q v h
def CR (C:GJ) (outer:List Env) (P:aZ) (w:aU) (H:Hp) (s:Shared) (Q:VK) (E:XK) (r:Result) (s':Shared):Prop :=
 match r with
 | .ok (.ret u)=>CE outer P w H s Q u s'
 | .ok _=>False
 | .error e=>C outer H s E e s'
structure gX (P:aZ) (w:aU) (K:aA) (mg:cH) (base:aM) (CX:GJ) (k:Nat) (f:ak) (fd:FuncData) (ps:cm) (sp:Sp):Prop where
 len:∀ vs H Q E,sp vs H Q E->vs.length=ps.length
 run:∀ (A:Around) (outer:List Env) (s:Shared) (H:Hp) (args:Args) (us:bq) (vs:az) (Q:VK) (E:XK),cK k A->CD P w K mg base A outer s H->BindsTo s fd args (ps.zip us)->Vals vs us->sp vs H Q E ->
   codeAny (model P w) A (.call (.ref f) args) (CR CX outer P w H s Q E) s
def gX.imp {K:aA} {sp':Sp} (F:gX P w K m base C k f a p S) (h:∀ vs H Q E,sp' vs H Q E->S vs H Q E):gX P w K m base C k f a p sp' :=
 ⟨λ vs H Q E q=>F.len vs H Q E (h _ _ _ _ q),λ A outer s H args u vs Q E d c b g e=>F.run A outer s H args u vs Q E d c b g (h _ _ _ _ e)⟩
def CD.make {K:aA} (e:CD P w K m base A outer s H) (C:ak) (us:bq) (k:List (Str×au)) :
   CD P w K m base (A.under (.builtin "type.__call__" ⟨.ref C::us,k⟩)) outer s H:=⟨by first|exact e.frames|(simpa [Around.under,Code.envs,Code.isFrame,pushEnvs] using e.frames),e.mod,e.bs,e.K7,e.nS,e.K4,e.cJ,e.bare⟩
section
variable {X:Cx} {pins:List (ak×Obj)} {σ:St} {H:Hp} {s s':Shared}
def Inv.QN (I:Inv X pins σ H s):CD X.prog X.w X.K X.mg X.base X.A X.stack s H :=
 ⟨I.ok.frames,I.ok.mod,I.bs,abk I.ok.K7 I.sz,I.stack,I.yd,I.cJ,I.bare⟩
def Inv.after {u:au} (I:Inv X pins σ H s) (h:CE X.stack X.prog X.w H s Q u s'):EP X pins σ Q u s':=by
 obtain ⟨v,a,O,B,U,c,r,q⟩:=h;obtain ⟨e,g,d,t,o⟩:=s';obtain rfl:o=s.os:=O;exact ⟨v,a,I.call (h':=e) (g':=g) (d':=d) (t':=t) (ch:=[]) U c B (λ b z=>absurd z (by simp)),r,q⟩
end
def xI (s:Sp) (f:az) (E:XK) (t:TA):TE:=λ σ H Q=>t σ H λ v h=>s (v++f) h Q E
inductive Ph (C:ak) (m:Str) (sp:Sp) (f7:az) (E:XK) (t:TA) (σ:St) (Q:VK) (x:V) (H1:Hp):Prop|mk (a dx:ak) (fs:List (Str×V)) (h1:x = .ref a) (h2:H1 a=some (.ins C dx fs)) (h3:fs.lookup m=none) (q:t σ H1 λ vs H2=>sp (x::(vs++f7)) H2 Q E)
def xi (C:ak) (m:Str) (s:Sp) (f:az) (E:XK) (T:TE) (t:TA):TE:=λ σ H Q=>T σ H (Ph C m s f E t σ Q)
def EO (C:ak) (s:Sp) (f:az) (E:XK) (t:TA):TE:=λ σ H Q=>t σ H λ V h=>∀ x d,h x=none->h d=none->d≠x ->
 s (.ref x::(V++f)) (upd (upd h d (.own x)) x (.ins C d [])) (λ v a=>v = .cT/\Q (.ref x) a) E
def Binds (K:aA) (f:FuncData) (p:cm) (d:bq):Prop :=
 ∀ (s:Shared) (u:bq),K.In s.heap->(u++d).length=p.length->BindsTo s f ⟨u,[]⟩ (p.zip (u++d))
def Binds.all {K:aA} {p:cm} (h:∀ us:bq,us.length=p.length->bindArgs f ⟨us,[]⟩=pure (p.zip us)):Binds K f p []:=λ s us Z H=>by
 rw [acB] at H |-;exact .of_eq (h us H)
def Passes (C:GJ) (X:Cx) (E:XK):Prop:=∀ (p:List (ak×Obj)) (σ:St) (H:Hp) (s:Shared) (e:au) (s':Shared),Inv X p σ H s->C X.stack H s E e s'->X.xe e s'
section
variable {X:Cx} {CX:GJ} {k:Nat} {f C:ak} {fd:FuncData} {ps:cm} {sp:Sp} {f7:az} {ds:bq} {E:XK} {x m:Str} {p pos apos:Pos} {e o:Expr} {es:List Expr} {ta:TE} {t:TA}
def Dq {p:List (ak×Obj)} (F:gX X.prog X.w X.K X.mg X.base CX k f fd ps sp) (i:cK k X.A) (c:Binds X.K fd ps ds) (d:Vals f7 ds) (j:Passes CX X E) (I:Inv X p σ H s) (r:Vals vs us) (h:sp (vs++f7) H Q E):wpAny (model X.prog X.w) X.A (call (.ref f) us) (EP X p σ Q) X.xe s:=by
 have R:Vals (vs++f7) (us++ds):=r.append d;have g:(us++ds).length=ps.length:=by rw [<- R.length];exact F.len _ _ _ _ h
 refine afI (aeq (F.run X.A X.stack s H ⟨us,[]⟩ (us++ds) (vs++f7) Q E i I.QN (c s us I.pi g) R h) λ r s' a=>?_);cases r with
 | error e=>exact j p σ H s e s' I a
 | ok b =>
   cases b with
   | ret u=>exact I.after a
   | next=>exact False.elim a
   | brk=>exact False.elim a
   | cont=>exact False.elim a
def ug (F:gX X.prog X.w X.K X.mg X.base CX k f fd ps sp) (o:cK k X.A) (l:Gl X x) (n:X.mg x=some (.ref f)) (m:W.keepIn X.K (.ref f)=true) (c:Binds X.K fd ps ds) (d:Vals f7 ds) (u:Passes CX X E) (b:PA X (e::es) t) (N:autoParam (xB x) zb_._auto_1) (j:autoParam (zC X e es) za_._auto_1) (g:autoParam (BP X es pos) za_._auto_1) :
   PE X (.Call (.Name x p) (e::es) [] pos) (xI sp f7 E t):=by
 intro a s σ H Q I h;refine adG (kA I l n ?_ N);refine afO (h₀:=X.base) I.ok.mod.OR m (c9 (b pos a s σ H _ I h) λ U S ⟨V,v,i,r,q⟩=>⟨i.pi,?_⟩) j g;exact Dq F o c d u i r q
def EK (D:PE X o ta) (c:zH X.K C) (d:Meth X.K C m f) (F:gX X.prog X.w X.K X.mg X.base CX k f fd ps sp) (J:cK k X.A) (z:Binds X.K fd ps ds) (B:Vals f7 ds) (M:Passes CX X E) (y:PA X (e::es) t) (n:autoParam (zC X e es) za_._auto_1) (G:autoParam (BP X es pos) za_._auto_1) (L:autoParam (eval (.Call (.Attribute o m apos) (e::es) [] pos) X.env=(do
     let O <- eval o X.env
     standAt apos.atName
     let (f,first) <- holding [O] (getMethod O m pl)
     callWith pos f first (backTo pos (starEach (e::es) X.env)) (backToKw pos (keywordEach [] X.env)))) za_._auto_1) :
   PE X (.Call (.Attribute o m apos) (e::es) [] pos) (xi C m sp f7 E ta t):=by
 intro p s σ H Q I h;refine W.methodCall_KW (pl:=pl) (c9 (D p s σ H _ I h) λ u S ⟨x,g,i,R,a,V,Y,ex,j,l,q⟩=>?_) L;subst ex;obtain rfl:u=Value.ref a:=R;refine uB i j c d l ?_;refine afO (first:=[.ref a]) (h₀:=X.base) I.ok.mod.OR d.kp (c9 (y pos p S σ g _ i q) λ U s2 ⟨v,T,b,r,N⟩=>⟨b.pi,?_⟩) n G;exact Dq (us:=.ref a::U) (vs:=.ref a::v) F J z B M b (.cons rfl r) N
def Jh (j:PE X o ta) (c:zH X.K C) (b:Meth X.K C m f) (F:gX X.prog X.w X.K X.mg X.base CX k f fd ps sp) (n:cK k X.A) (d:Binds X.K fd ps ds) (g:Vals f7 ds) (t:Passes CX X E) (r:autoParam (eval (.Call (.Attribute o m apos) [] [] pos) X.env=(do
     let O <- eval o X.env
     standAt apos.atName
     let (f,first) <- holding [O] (getMethod O m pl)
     callWith pos f first (backTo pos (starEach [] X.env)) (backToKw pos (keywordEach [] X.env)))) za_._auto_1) :
   PE X (.Call (.Attribute o m apos) [] [] pos) (xi C m sp f7 E ta Ln):=by
 intro p s σ H Q I h;refine W.methodCall_KW (pl:=pl) (c9 (j p s σ H _ I h) λ u S ⟨x,v,i,R,a,D,y,ex,e,l,q⟩=>?_) r;subst ex;obtain rfl:u=Value.ref a:=R;refine uB i e c b l ?_;exact W.callWith_K0 (first:=[.ref a]) i.pi b.kp (Dq (us:=[.ref a]) (vs:=[.ref a]) F n d g t i (.cons rfl .nil) q)
structure Mk (K:aA) (C f:ak):Prop where
 makes:W.makesIn K C=true
 init:W.findIn K (.ref C) "__init__" = some (some (.ref f))
 fn:W.isFn K (.ref f)=true
 kp:W.keepIn K (.ref C)=true
def HE {p:List (ak×Obj)} (M:Mk X.K C f) (F:gX X.prog X.w X.K X.mg X.base CX k f fd ps sp) (q:cK (k+1) X.A) (m:Binds X.K fd ps ds) (n:Vals f7 ds) (t:Passes CX X E) (I:Inv X p σ H s) (r:Vals vs us) (h:∀ x dx,H x=none->H dx=none->dx≠x->sp (.ref x::(vs++f7)) (upd (upd H dx (.own x)) x (.ins C dx [])) (λ v d=>v = .cT/\Q (.ref x) d) E) :
   wpAny (model X.prog X.w) X.A (call (.ref C) us) (EP X p σ Q) X.xe s:=by
 have a:=h (s.heap.objs.size+1) s.heap.objs.size (I.cJ.fresh (adJ _)) (I.cJ.fresh (aaD _)) (abY (aeW _));have i:=Inv.made (C:=C) I;have b:Vals (V.ref (s.heap.objs.size+1)::(vs++f7)) (Value.ref (s.heap.objs.size+1)::(us++ds)):=.cons rfl (r.append n);have o:(Value.ref (s.heap.objs.size+1)::us++ds).length=ps.length:=by
   have e:=b.length;rw [F.len _ _ _ _ a] at e;exact e.symm
 refine afI (HU (f:=f) I.pi M.makes M.init (adS.mp M.fn) (aeq (F.run _ X.stack _ _ ⟨Value.ref (s.heap.objs.size+1)::us,[]⟩ (Value.ref (s.heap.objs.size+1)::(us++ds)) _ _ E (q.make C us [])
   (i.QN.make C us []) (m _ (Value.ref (s.heap.objs.size+1)::us) i.pi o) b a) λ r s' R=>?_))
 cases r with
 | error e=>exact t p σ _ _ e s' i R
 | ok l =>
   cases l with
   | ret u =>
     obtain ⟨v,c,g,z,j,y⟩:=i.after R;subst j;exact ⟨z,⟨V.ref (s.heap.objs.size+1),c,g,rfl,y⟩⟩
   | next=>exact False.elim R
   | brk=>exact False.elim R
   | cont=>exact False.elim R
def Ew (M:Mk X.K C f) (F:gX X.prog X.w X.K X.mg X.base CX k f fd ps sp) (n:cK (k+1) X.A) (l:Gl X x) (m:X.mg x=some (.ref C)) (c:Binds X.K fd ps ds) (d:Vals f7 ds) (o:Passes CX X E) (b:PA X (e::es) t) (N:autoParam (xB x) zb_._auto_1) (j:autoParam (zC X e es) za_._auto_1) (g:autoParam (BP X es pos) za_._auto_1) :
   PE X (.Call (.Name x p) (e::es) [] pos) (EO C sp f7 E t):=by
 intro a s σ H Q I h;refine adG (kA I l m ?_ N);refine afO (h₀:=X.base) I.ok.mod.OR M.kp (c9 (b pos a s σ H _ I h) λ U S ⟨v,u,i,r,q⟩=>⟨i.pi,?_⟩) j g;exact HE M F n c d o i r q
end
structure aC (N P:cm) (sc:Scope):Prop where
 kind:sc.kind = .function
 co:sc.isCoroutine=false
 gen:sc.isGenerator=false
 nd:N.Nodup
 pre:N.take P.length=P
 par:∀ x∈P,sc.names.lookup x=some .local\/sc.names.lookup x=some .cell
 Qy:∀ y∈sc.names,y.2 ≠ .free
theorem xa {k:Str->Option NameKind} {x:Str}:∀ {b:List (Str×au)} {m:cH},(∀ v,(x,v)∉b)->bindL k b m x=m x
 | [],_,_=>rfl
 | (n,v)::r,m,h=>by
   unfold bindL;rw [xa λ w hw=>h w (aar _ hw)];split
   . have:x≠n:=by rintro rfl;exact h v aaW
     simp [this]
   . rfl
theorem xj {k:Str->Option NameKind} {x:Str}:∀ {b:List (Str×au)} {m:cH},(∀ v,(x,v)∉b)->bindC k b m x=m x
 | [],_,_=>rfl
 | (n,v)::r,m,h=>by
   unfold bindC;rw [xj λ w hw=>h w (aar _ hw)];split
   . rfl
   . have:x≠n:=by rintro rfl;exact h v aaW
     simp [this]
theorem xp {k:Str->Option NameKind} {v:au}:∀ {P:cm} {vs:bq} {i:Nat} {m:cH},P.Nodup->P[i]?=some x->vs[i]?=some v->k x=some .local ->
   bindL k (P.zip vs) m x=some v
 | [],_,_,_,_,h,_,_=>by simp at h
 | _::_,[],_,_,_,_,h,_=>by simp at h
 | p::P,w::vs,0,m,n,H,a,b=>by
   simp at H a;subst H;subst a;show bindL k ((p,w)::P.zip vs) m p=_;unfold bindL;rw [xa λ v c=>(abZ.mp n).1 (afC c).1,abE b];simp
 | p::P,w::vs,i+1,m,n,H,a,b=>by
   show bindL k ((p,w)::P.zip vs) m x=_;unfold bindL;exact xp (i:=i) (abZ.mp n).2 (by simpa using H) (by simpa using a) b
theorem xG {k:Str->Option NameKind} {v:au}:∀ {P:cm} {vs:bq} {i:Nat} {m:cH},P.Nodup->P[i]?=some x->vs[i]?=some v->k x≠some .local ->
   bindC k (P.zip vs) m x=some v
 | [],_,_,_,_,h,_,_=>by simp at h
 | _::_,[],_,_,_,_,h,_=>by simp at h
 | p::P,w::vs,0,m,n,H,a,b=>by
   simp at H a;subst H;subst a;show bindC k ((p,w)::P.zip vs) m p=_;unfold bindC;rw [xj λ v c=>(abZ.mp n).1 (afC c).1,abC b];simp
 | p::P,w::vs,i+1,m,n,H,a,b=>by
   show bindC k ((p,w)::P.zip vs) m x=_;unfold bindC;exact xG (i:=i) (abZ.mp n).2 (by simpa using H) (by simpa using a) b
def start (N:cm) (vs:az):St:=vs.map some++List.replicate (N.length - vs.length) none
noncomputable def fq (C:GJ) (P:aZ) (w:aU) (K:aA) (mg:cH) (base:aM) (N:cm) (q:Str) (scope:Scope) (f:ak) (c:au) (A:Around) (outer:List Env) (s:Shared) (H:Hp) (E:XK):Cx where
 prog:=P
 w:=w
 K:=K
 mg:=mg
 base:=base
 A:=A.deeper (envOfC q scope s.heap.objs.size f c)
 N:=N
 s₀:=s
 H₀:=H
 env:=envOfC q scope s.heap.objs.size f c
 outer:=outer
 stack:=envOfC q scope s.heap.objs.size f c::outer
 ex:=[]
 calm:=true
 fn:=λ Z=>true
 pn:=[]
 xe:=λ e s'=>wpAny (model P w) (A.deeper (envOfC q scope s.heap.objs.size f c)) (leaving (envOfC q scope s.heap.objs.size f c) e) (λ Z S=>C outer H s E e S) (λ a S=>C outer H s E a S) s'
def A9 {s:Scope} (h:s.names.lookup x=some .cell):∃ c,(cellsFrom n s.names []).lookup x=some c:=by
 have q:=W.cellsFrom_some s.names n [] (.inl h);exact adq.mp q
def GL {K:aA} {A:Around} {vs:az} (S:aC N l scope) (J:A.handled=none) (g:CD P w K M base A outer s H) (Q:vs.length=l.length) (r:Vals vs us) (x:InCallC s s.heap.objs.size (bindL (envOfC qual scope s.heap.objs.size f C).kindOf (l.zip us) λ Z=>none) (cellsFrom (s.heap.objs.size+1) scope.names []) (bindC (envOfC qual scope s.heap.objs.size f C).kindOf (l.zip us) λ Z=>none) s1) :
   Inv (fq D P w K M base N qual scope f C A outer s H E) [] (start N vs) H s1:=by
 have L:l.length<=N.length:=by have:=adB List.length S.pre;rw [abw] at this;lia
 obtain ⟨t,T,rfl,F⟩:=x.done;have U:∀ b:ak,b∉(fq D P w K M base N qual scope f C A outer s H E).ex:=λ b z=>absurd (show b∈([]:bA) from z) (by simp);refine ⟨⟨g.mod,S.kind,rfl,rfl,aaD _,λ y z c t d=>?_,λ y j=>?_,λ y c Z h=>?_,λ Z=>J,Around.frames_deeper g.frames,.inr ⟨rfl,rfl⟩,λ b z=>absurd z (U b),g.bs,g.K7,λ b Z Z=>U b,λ b z=>absurd z (U b),g.nS,g.K4⟩,
   rfl,g.bare,Un.kept F,⟨_,x.toInCall.ns,λ i y v t d O=>?_⟩,λ y c h=>⟨_,x.cell y c h⟩,g.cJ.fresh (aaD _),λ y c h=>?_,λ p m=>absurd (show p∈([]:List (ak×Obj)) from m) (by simp),g.cJ.kept F,?_⟩
 . exact name_of_addr x.apart (adA t) (adA d)
 .
  have j:scope.names.lookup y=some .cell\/scope.names.lookup y=some .free:=j;rcases j with j|j
  . exact A9 j
  . exact absurd rfl (S.Qy _ (adA j))
 . exact adn (x.above y c (adA h))
 .
  have B:i<vs.length:=by
    unfold start at d;by_cases B:i<vs.length
    . exact B
    . rw [abW (by simpa using B)] at d;rw [afY] at d;split at d<;>cases d
  have I:vs[i]?=some v:=by
    unfold start at d;rw [aaG (by simpa using B),aag] at d;cases e:vs[i]? with
    | none=>rw [e] at d;cases d
    | some a=>rw [e] at d;cases d;rfl
  obtain ⟨u,G,R⟩:=r.get I;have m:l[i]?=some y:=by
    rw [<- S.pre,afR (by lia)];exact t
  have o:l.Nodup:=by rw [<- S.pre];exact S.nd.sublist (List.take_sublist _ _)
  refine ⟨u,R,?_⟩;rcases S.par y (aal m) with k|k
  . exact .inl ⟨k,xp o m G k⟩
  .
   obtain ⟨c,e⟩:=A9 (n:=s.heap.objs.size+1) k;refine .inr ⟨.inl k,c,e,?_⟩;have q:=x.cell y c e;rw [xG o m G (by show scope.names.lookup y≠_;rw [k];decide)] at q;exact q
 . exact g.cJ.fresh (adn (x.above y c (adA h)))
 .
  unfold start;show _=N.length;rw [aae,CT,aej];lia
def Fl {K:aA} {kV oc:au} {od:Option ak} {xV:Array (jA)} {sp:Sp} (lk:K.lookup f=some ⟨oc,od,.func (W.fnOf name qual p B scope M kV D O L c ct),xV⟩) (qM:W.codeIn K c qual=true) (S:aC N i scope) (len:∀ vs H Q E,sp vs H Q E->vs.length=i.length) (U:∀ (A:Around) (outer:List Env) (s:Shared) (H:Hp) (vs:az) (Q:VK) (E:XK),cK k (A.deeper (envOfC qual scope s.heap.objs.size f c))->sp vs H Q E ->
     ∃ t,qy (fq C P w K m base N qual scope f c A outer s H E) B t/\t { nx:=λ _ h=>Q .cT h,rt:=Q } (start N vs) H) :
   gX P w K m base C (k+1) f (W.fnOf name qual p B scope M kV D O L c ct) i sp:=by
 refine ⟨len,λ A outer s H args us vs Q E j g Y r z=>?_⟩;have hl:=len _ _ _ _ z;have G:K.In s.heap:=g.mod.OR.keeps λ b o e=>(g.bs b o e).1;have l:s.heap.NoLimit:=g.mod.nolimit.keeps λ b o e=>(g.bs b o e).1;have T:∀ y∈i.zip us,scope.names.lookup y.1=some .local\/(scope.names.lookup y.1=some .cell/\((cellsFrom (s.heap.objs.size+1) scope.names []).lookup y.1).isSome=true):=λ ⟨n,v⟩ hy=>by
   rcases S.par n (afC hy).1 with q|q
   . exact .inl q
   . exact .inr ⟨q,W.cellsFrom_some _ _ _ (.inl q)⟩
 refine codeAny_call_function j.depth (G _ _ lk) rfl S.co S.gen rfl (W.codeRec_of G qM) (Y _ _ _ _ ?_);refine wpAny_newFunctionEnv_cells S.kind T λ env he s1 x=>?_;subst he;refine ⟨l.keeps x.toInCall.keep,codeAny_func ?_⟩;obtain ⟨t,ht,hq⟩:=U A outer s H vs Q E (j.deeper _) z;have I:Inv (fq C P w K m base N qual scope f c A outer s H E) [] (start N vs) H s1:=GL S j.hd g hl r x;refine ab3 (ht [] s1 (start N vs) H _ I hq) (λ X s' d=>?_) λ e s' d=>d;have F:∀ {a:St} {h:Hp} {v:V} {u:au},Inv (fq C P w K m base N qual scope f c A outer s H E) [] a h s'->RelV v u->Q v h->CE outer P w H s Q u s' :=
   λ {a h v u} J R q=>⟨v,h,J.os,J.bare,J.base,J.cJ,R,q⟩
 cases X with
 | ret u =>
   obtain ⟨v,a,h,J,R,q⟩:=d;exact F J R q
 | next =>
   obtain ⟨a,h,J,q⟩:=d;exact F (v:=V.cT) (u:=Value.none) J rfl q
 | brk =>
   obtain ⟨_,_,_,q⟩:=d;exact False.elim q
 | cont =>
   obtain ⟨_,_,_,q⟩:=d;exact False.elim q
section
variable {X:Cx} {x:Str} {p pos:Pos} {e:Expr} {es:List Expr} {t:TA} {id T:String} {r:az->Hp->VK->Prop}
def tCB (r:az->Hp->VK->Prop) (t:TA):TE:=λ σ H Q=>t σ H λ v h=>r v h Q
def aP (d:jg X (.builtin id) r) (j:Gl X x) (k:X.mg x=none) (m:bootBuiltins x=some (.builtin id)) (c:PA X (e::es) t) (l:autoParam (x ≠ "__name__") zb_._auto_1) (n:autoParam (xB x) zb_._auto_1) (f:autoParam (zC X e es) za_._auto_1) (g:autoParam (BP X es pos) za_._auto_1):PE X (.Call (.Name x p) (e::es) [] pos) (tCB r t):=by
 intro a s σ H Q I h;refine adG (jV I j k m ?_ l n);exact PyProof.Rows.callWith_builtin1 (c9 (c pos a s σ H _ I h) λ u S ⟨v,b,i,R,q⟩=>d a S σ b v u Q i R q) f g
def eJ (d:jg X (.type T) r) (j:Gl X x) (k:X.mg x=none) (m:bootBuiltins x=some (.type T)) (c:PA X (e::es) t) (l:autoParam (x ≠ "__name__") zb_._auto_1) (n:autoParam (xB x) zb_._auto_1) (f:autoParam (zC X e es) za_._auto_1) (g:autoParam (BP X es pos) za_._auto_1):PE X (.Call (.Name x p) (e::es) [] pos) (tCB r t):=by
 intro a s σ H Q I h;refine adG (jV I j k m ?_ l n);exact acL (c9 (c pos a s σ H _ I h) λ u S ⟨v,b,i,R,q⟩=>d a S σ b v u Q i R q) f g
end
end L2
namespace HT
open PySem PyProof.Rows
noncomputable def lexLt:List Int->List Int->Bool
 | [],[]=>false
 | [],_::_=>true
 | _::_,[]=>false
 | x::xs,y::ys=>if x=y then lexLt xs ys else decide (x<y)
section
variable {prog:aZ} {w:aU} {A:Around} {E:au->Shared->Prop} {s:Shared}
def MZ {vs W:bq} {Q:au->Shared->Prop} (l:IsTup s.heap t vs.toArray) (k:IsTup s.heap b W.toArray) (g:vs≠[])
   (i:W=[]->Q (.ref t) s) (j:W≠[]->Q (.ref s.heap.objs.size) { s with heap:=s.heap.push { cls:=.type "tuple",data:=.seq (vs++W).toArray }})
   (hsz:vs.length+W.length<=sizeLine):wpAny (model prog w) A (binaryOp .Add (.ref t) (.ref b)) Q E s:=by
 obtain ⟨⟨cls,D,data,sl⟩,H,c,n,f⟩:=id l;obtain ⟨⟨Y,o,d,y⟩,p,O,N,h⟩:=id k;simp only at c f O h;subst c f O h;have e:vs.toArray++W.toArray=(vs++W).toArray:=by simp
 by_cases a:W=[]
 . exact concat_meets ⟨_,H,rfl⟩ ⟨_,p,rfl⟩ afV seq_tuple_add aeZ aeO (aeH _ _)
     (tuple_addW1 t b vs.toArray W.toArray n N D o sl y (by simpa using g) (by simp [a])) ⟨H,p,i a⟩
 .
  refine concat_meets ⟨_,H,rfl⟩ ⟨_,p,rfl⟩ afV seq_tuple_add aeZ aeO (aeH _ _)
    (tuple_addW2 t b vs.toArray W.toArray n N D o sl y (by simpa using g) (by simpa using a) (by rw [abd,abd];exact hsz)) ⟨H,p,?_⟩
  rw [e];exact j a
noncomputable def zO (n d:Nat):Option Int->Nat
 | none=>d
 | some v=>if v<0 then (v+(n:Int)).toNat else min v.toNat n
def IY (n d:Nat):zO n d none=d:=rfl
def Lx (n d k:Nat):zO n d (some (k:Int))=min k n:=by
 show (if (k:Int)<0 then ((k:Int)+(n:Int)).toNat else min (k:Int).toNat n)=min k n;rw [abC (by lia),acz]
end
end HT
namespace L2
open PySem PySem.Spec PyProof.Rows
variable {H H':Hp} {t':Nat} {σ:St}
abbrev TO:=St->Hp->(Option Int->Hp->Prop)->Prop
def PO (X:Cx) (e:Option Expr) (t:TO):Prop :=
 ∀ (p:List (ak×Obj)) (s:Shared) (σ:St) (H:Hp) (Q:Option Int->Hp->Prop),Inv X p σ H s->t σ H Q ->
   wpAny (model X.prog X.w) X.A (evalPart e X.env) (λ u S=>∃ o H',Inv X p σ H' S/\IsPart u o/\Q o H') X.xe s
def zy:TO:=λ Z H Q=>Q none H
def KQ (t:TE):TO:=λ σ H Q=>t σ H λ x h=>∃ i,x = .int i/\Q (some i) h
section
variable {X:Cx} {e:Expr} {te:TE} {lo hi:Option Expr} {tl th:TO} {pos p2:Pos}
def fV:PO X none zy:=by
 intro p s σ H Q I h;rw [evalPart_none];exact aaU ⟨none,H,I,.none,h⟩
def eX (h:PE X e te):PO X (some e) (KQ te):=by
 intro p s σ H Q I c;rw [evalPart_some];refine c9 (h p s σ H _ I c) λ u S ⟨x,a,b,r,d⟩=>?_;obtain ⟨i,rfl,q⟩:=d;obtain ⟨t,rfl⟩:=r;exact ⟨some i,a,b,.int i t,q⟩
def Um (X:Cx) (r:V->Option Int->Option Int->Hp->VK->Prop):Prop :=
 ∀ (p:List (ak×Obj)) (s:Shared) (σ:St) (H:Hp) (x:V) (v a b:au) (lo hi:Option Int) (sl:ak) (Q:VK),Inv X p σ H s->RelV x v->s.heap.IsSliceOf sl a b .none->IsPart a lo->IsPart b hi->r x lo hi H Q ->
   ∃ T id,typeLookup (.type T) "__getitem__" = pure (some (.builtin id))/\s.TypeIs v T/\wpAny (model X.prog X.w) X.A (getItem v (.ref sl)) (EP X p σ Q) X.xe s
def tSl (r:V->Option Int->Option Int->Hp->VK->Prop) (t:TE) (c T:TO):TE:=λ σ H Q=>t σ H λ x h=>c σ h λ l a=>T σ a λ u b=>r x l u b Q
def d5 {r:V->Option Int->Option Int->Hp->VK->Prop} (z:Um X r) (o:PE X e te) (y:PO X lo tl) (C:PO X hi th):PE X (.Subscript e (.Slice lo hi none p2) pos) (tSl r te tl th):=by
 intro p s σ H Q I h;refine Subscript_ (c9 (o p s σ H _ I h) λ v K ⟨x,f,i,R,F⟩=>?_);refine wpAny_Slice (c9 (y p K σ f _ i F) λ a L ⟨l,g,j,D,G⟩=>c9 (C p L σ g _ j G) λ c S ⟨u,d,k,E,J⟩=>?_);rw [evalPart_none];refine aaU ?_;have m:Inv X p σ d { S with heap:=S.heap.push { cls:=.type "slice",data:=.fields #[a,c,.none]}}:=k.kept (t':=S.toks) λ b O q=>aaJ _ q;obtain ⟨T,id,n,B,t⟩:=z p { S with heap:=S.heap.push { cls:=.type "slice",data:=.fields #[a,c,.none]}} σ d x v a c l u S.heap.objs.size Q m R (Heap.IsSliceOf.new ..) D E J;show wpAny (model X.prog X.w) X.A (subscriptTail e (.Slice lo hi none p2) v (.ref S.heap.objs.size)) (EP X p σ Q) X.xe { S with heap:=S.heap.push { cls:=.type "slice",data:=.fields #[a,c,.none]}};exact tail_any (ops:=[.ref S.heap.objs.size,v]) B n t (by with_unfolding_all rfl)
def zu (xs:az) (lo h:Option Int):az:=(xs.drop (HT.zO xs.length 0 lo)).take (HT.zO xs.length xs.length h - HT.zO xs.length 0 lo)
def sH (xs:az) (lo h:Option Int):(zu xs lo h).length<=xs.length:=by
 unfold zu;rw [abw,afw];lia
inductive RX (K:aA) (x:V) (y:V) (H:Hp) (Q:VK):Prop|mk (a b xs ys:_) (_:x = .ref a) (_:y = .ref b) (_:bP K H a xs) (_:bP K H b ys) (_:xs≠[]) (_:xs.length+ys.length<=sizeLine) (_:(ys=[]->Q (.ref a) H)) (_:(ys≠[]->∀ p,H p=none->Q (.ref p) (upd H p (.tup (xs++ys)))))
def Vals.ub (r:Vals xs us):us=[]↔xs=[]:=by
 cases r with
 | nil=>simp
 | cons _ _=>simp
def MY:jo X (binaryOp .Add) (RX X.K):=by
 intro p s σ H x y v u Q I k l h;obtain ⟨a,b,m,Y,rfl,rfl,d,e,f,c,i,j⟩:=h;cases k;cases l;obtain ⟨B,R,g,Z⟩:=I.tuple d;obtain ⟨O,r,p2,Z⟩:=I.tuple e;refine HT.MZ g p2 (λ z=>f (R.ub.mp z)) (λ z=>⟨.ref a,H,I,rfl,i (r.ub.mp z)⟩) (λ z=>?_) (by rw [<- R.length,<- r.length];exact c);refine ⟨.ref s.heap.objs.size,_,I.laid (t':=s.toks) (o:=.tup (m++Y)) (λ b n q=>aaJ _ q) (aaD _) ?_,rfl,j (λ w=>z (r.ub.mpr w)) _ (I.cJ.fresh (aaD _))⟩;exact ⟨by rw [aae];exact c,_,R.append r,IsTup.new _ _⟩
end
noncomputable def Hx (n:Nat) (i:Int):Option Nat:=if 0<=i then (if i<n then some i.toNat else none) else if -(n:Int)<=i then some (i+n).toNat else none
def tf {α:Type} (xs:List α) (i:Int):Option α:=(Hx xs.length i).bind λ j=>xs[j]?
def D0 {i:Int} (h:Hx n i=some j):seqIndex? i n=some j/\j<n/\-(n:Int)<=i/\i<n:=by
 unfold Hx at h;by_cases a:0<=i
 .
  rw [abE a] at h;by_cases H:i<n
  . rw [abE H] at h;have e:i.toNat=j:=aaO h;exact ⟨by rw [seqIndex_of a H,e],by lia,by lia,H⟩
  . rw [abC H] at h;cases h
 .
  rw [abC a] at h;by_cases H : -(n:Int)<=i
  . rw [abE H] at h;have e:(i+n).toNat=j:=aaO h;exact ⟨by rw [seqIndex_neg (by lia) H,e],by lia,H,by lia⟩
  . rw [abC H] at h;cases h
def E8 {a:Type} {xs:List a} {i:Int} {v:a} (h:tf xs i=some v):∃ j,seqIndex? i xs.length=some j/\xs[j]?=some v/\j<xs.length/\-(xs.length:Int)<=i/\i<xs.length:=by
 unfold tf at h;cases e:Hx xs.length i with
 | none=>rw [e] at h;cases h
 | some j =>
   rw [e] at h;obtain ⟨H,b,c,d⟩:=D0 e;exact ⟨j,H,h,b,c,d⟩
def cq {a:Type} {xs:List a} {j:Nat} {v:a} (h:xs[j]?=some v):tf xs (j:Int)=some v:=by
 have H:j<xs.length:=(QQ.mp h).1;have e:Hx xs.length (j:Int)=some j:=by
   unfold Hx;rw [abE (by lia),abE (by lia)];simp
 unfold tf;rw [e];exact h
def Lk (b:Expr):Prop:=∀ o i,subscripted b false o i=operate [o,i] (getItem o i)
def UZ (X:Cx) (r:R2):Prop :=
 ∀ (a S:Expr) (p:List (ak×Obj)) (s:Shared) (σ:St) (H:Hp) (x y:V) (v u:au) (Q:VK),Inv X p σ H s->RelV x v->RelV y u->r x y H Q ->
   subscripted S false v u=operate [v,u] (getItem v u)->wpAny (model X.prog X.w) X.A (subscriptTail a S v u) (EP X p σ Q) X.xe s
def MtR (X:Cx) (id:String) (r:V->az->Hp->VK->Prop):Prop :=
 ∀ (p:List (ak×Obj)) (s:Shared) (σ:St) (H:Hp) (x:V) (a:az) (v:au) (u:bq) (Q:VK),Inv X p σ H s->RelV x v->Vals a u->r x a H Q ->
   wpAny (model X.prog X.w) X.A (call (.builtin id) (v::u)) (EP X p σ Q) X.xe s
section
variable {X:Cx} {a b:Expr} {ta tb:TE} {pos:Pos}
def aF (f:UZ X r) (d:PE X a ta) (e:PE X b tb) (g:Lk b:=by exact λ Z Z=>rfl):PE X (.Subscript a b pos) (Qx r ta tb):=by
 intro p s σ H Q I h;exact Subscript_ (OC d e I h λ v u S x y c i R j q=>f a b p S σ c x y v u Q i R j q (g _ _))
inductive Yg (K:aA) (x:V) (y:V) (H:Hp) (Q:VK):Prop|mk (p xs i v:_) (_:x = .ref p) (_:y = .int i) (_:aY K H p xs) (_:tf xs i=some v) (_:Q v H)
inductive acU (K:aA) (x:V) (y:V) (H:Hp) (Q:VK):Prop|mk (p xs i v:_) (_:x = .ref p) (_:y = .int i) (_:bP K H p xs) (_:tf xs i=some v) (_:Q v H)
def MT:UZ X (Yg X.K):=by
 intro V S a s σ H x y v u Q I R D h k;obtain ⟨p,L,i,z,rfl,rfl,C,o,q⟩:=h;cases R;obtain ⟨t,rfl⟩:=D;obtain ⟨B,r,d,J⟩:=I.list C;obtain ⟨j,b,l,F,m,n⟩:=E8 o;obtain ⟨w,e,M⟩:=r.get l;have A:=r.length;have G:=vP;have f:EP X a σ Q w s:=⟨z,H,I,M,q⟩
 by_cases g:0<=i
 .
  have c:i.toNat=j:=by
    rw [seqIndex_of g n] at b;exact aaO b
  exact item_listR d.isList g (by lia) (by rw [c];simpa using e) f k
 .
  have c:(i+(B.toArray.size:Int)).toNat=j:=by
    rw [seqIndex_neg (by lia) m] at b;rw [abd,<- A];exact aaO b
  exact subscriptTail_builtinR (x:=w) d.isList.typeIs slot_list_getitem.lookup
    (wpAny_getItem_list_neg (Q:=λ r E=>r=w/\EP X a σ Q r E) d.isList (by lia) (by rw [abd]<;>lia) (by lia) (by rw [c];simpa using e) ⟨rfl,f⟩) k
def P0:UZ X (acU X.K):=by
 intro V S a s σ H x y v u Q I R n h m;obtain ⟨p,G,i,z,rfl,rfl,l,g,q⟩:=h;cases R;obtain ⟨t,rfl⟩:=n;obtain ⟨B,r,b,F⟩:=I.tuple l;obtain ⟨j,c,d,A,C,D⟩:=E8 g;obtain ⟨w,e,M⟩:=r.get d;have k:=r.length;have E:=vP;have f:EP X a σ Q w s:=⟨z,H,I,M,q⟩
 exact subscriptTail_builtinR (x:=w) b.typeIs slot_tuple_getitem.lookup
   (getItem_tuple (j:=j) (Q:=λ r o=>r=w/\EP X a σ Q r o) b (by lia) (by lia) (by rw [abd,<- k];exact c) (by simpa using e) ⟨rfl,f⟩) m
def C9 (b:bq) (n j:Nat) (u:au):Obj.mapSeq (·.setIfInBounds j u) { cls:=.type "list",data:=.seq b.toArray n }={ cls:=.type "list",data:=.seq (b.set j u).toArray n }:=by
 simp [Obj.mapSeq]
theorem Inv.lst {a:List (ak×Obj)} (I:Inv X a σ H s) (h:H p=some (.lst xs)) :
   ∃ (b:bq) (n:Nat),Vals xs b/\s.heap.get? p=some { cls:=.type "list",data:=.seq b.toArray n }/\xs.length<=sizeLine:=by
 obtain ⟨z,b,n,r,e⟩:=I.cJ p _ h;exact ⟨b,n,r,e,z⟩
def Inv.P4 {a:List (ak×Obj)} {B its':bq} {f:Obj->Obj} (I:Inv X a σ H s) (h:H p=some (.lst xs)) (g:s.heap.get? p=some { cls:=.type "list",data:=.seq B.toArray n }) (c:f { cls:=.type "list",data:=.seq B.toArray n }={ cls:=.type "list",data:=.seq its'.toArray N }) (r:Vals ys its') (i:ys.length<=sizeLine) (t:Nat) :
   Inv X a σ (upd H p (.lst ys)) { s with heap:=s.heap.update p f,toks:=t }:=by
 have e:(s.heap.update p f).get? p=some { cls:=.type "list",data:=.seq its'.toArray N }:=by
   rw [aeu f g (by rw [c]<;>rfl),c]
 refine I.write (x:=p) (e:=p) (by rw [h];trivial) (.inl rfl) (λ b u d q=>(aeo _ _ (aef d)).trans q) ⟨_,e⟩ ?_;exact ⟨i,its',N,r,e⟩
def Ve:V->V->V->Hp->(Hp->Prop)->Prop:=λ o i v H Q=>∃ p x k j,o = .ref p/\i = .int k/\H p=some (.lst x)/\Hx x.length k=some j/\Q (upd H p (.lst (x.set j v)))
def set_list:OP X Ve:=by
 intro a s σ H o i v O F u Q I z R A h;obtain ⟨p,C,k,j,rfl,rfl,w,x,q⟩:=h;cases z;obtain ⟨t,rfl⟩:=R;obtain ⟨B,n,r,e,y⟩:=I.lst w;obtain ⟨b,D,l,m⟩:=D0 x;have d:=r.length;have E:=vP;have f:Inv X a σ (upd H p (.lst (C.set j v))) { s with heap:=s.heap.update p (Obj.mapSeq (·.setIfInBounds j u))} :=
   I.P4 w e (C9 B n j u) (r.set A j) (by rw [adh];exact y) s.toks
 by_cases g:0<=k
 .
  have c:k.toNat=j:=by
    rw [seqIndex_of g m] at b;exact aaO b
  exact W.ki_setAt e g (by lia) (by rw [abd,<- d];exact m) (by rw [c];exact ⟨_,f,q⟩)
 .
  have c:(k+(B.toArray.size:Int)).toNat=j:=by
    rw [seqIndex_neg (by lia) l] at b;rw [abd,<- d];exact aaO b
  exact W.ki_setBack e (by lia) (by rw [abd,<- d];exact l) (by lia) (by rw [c];exact ⟨_,f,q⟩)
def zt (lo H:Option Int) (n:Nat):(sliceBounds lo H none n).1=((HT.zO n 0 lo:Nat):Int)/\(sliceBounds lo H none n).2.1=((HT.zO n n H:Nat):Int)/\(sliceBounds lo H none n).2.2=1:=by
 refine ⟨?_,?_,rfl⟩
 .
  cases lo with
  | none=>simp [sliceBounds,HT.zO]
  | some i =>
    simp only [sliceBounds,HT.zO,Option.getD_none,show (1:Int) > 0 by decide,ae2];by_cases h:i<0
    . simp only [h,ae2]<;>lia
    . simp only [h,aeg]<;>lia
 .
  cases H with
  | none=>simp [sliceBounds,HT.zO]
  | some i =>
    simp only [sliceBounds,HT.zO,Option.getD_none,show (1:Int) > 0 by decide,ae2];by_cases h:i<0
    . simp only [h,ae2]<;>lia
    . simp only [h,aeg]<;>lia
def wF (b:bq) (lo h:Option Int):slicePick b.toArray lo h none=((b.drop (HT.zO b.length 0 lo)).take (HT.zO b.length b.length h - HT.zO b.length 0 lo)).toArray:=by
 obtain ⟨H,a,c⟩:=zt lo h b.toArray.size;unfold slicePick;rw [H,a,c];simp only [sliceRange_one,pick_run,abd]<;>rfl
inductive X4 (K:aA) (x:V) (lo:Option Int) (hi:Option Int) (H:Hp) (Q:VK):Prop|mk (a xs:_) (_:x = .ref a) (_:aY K H a xs) (_:∀ p,H p=none->Q (.ref p) (upd H p (.lst (zu xs lo hi))))
def Eh:Um X (X4 X.K):=by
 intro p s σ H x v V n l e sl Q I R g k m h;obtain ⟨a,c,rfl,i,q⟩:=h;cases R;obtain ⟨B,r,f,j⟩:=I.list i;have d:=r.length;refine ⟨"list",_,slot_list_getitem.lookup,f.isList.typeIs,?_⟩;refine wpAny_getItem_list_slice f.isList g k m .none (by simp) ?_ (by rw [abd]<;>lia);rw [wF,<- d];refine ⟨.ref s.heap.objs.size,_,I.laid (t':=s.toks) (o:=.lst (zu c l e)) (λ b O q=>aaJ _ q) (aaD _) ?_,rfl,q _ (I.cJ.fresh (aaD _))⟩;exact ⟨abk (sH c l e) j,_,0,(r.drop (HT.zO c.length 0 l)).take (HT.zO c.length c.length e - HT.zO c.length 0 l),abX _ rfl⟩
def yN:jg X (.builtin "len") (λ xs H Q=>∃ p ys,xs=[.ref p]/\(aY X.K H p ys\/bP X.K H p ys)/\Q (.int ys.length) H):=by
 intro d s σ H xs U Q I r h;obtain ⟨p,ys,rfl,b,q⟩:=h;obtain ⟨u,rfl,f⟩:=vals1 r;cases f;have g:=vP;rcases b with b|b
 . obtain ⟨B,R,c,e⟩:=I.list b;have a:=R.length;exact Calls.call_len_list c.isList (by simp only [abd]<;>lia) ⟨.int ys.length,H,I.tok _,⟨s.toks+1,by rw [abd,a]⟩,q⟩
 . obtain ⟨B,R,c,e⟩:=I.tuple b;have a:=R.length;exact len_tuple c (by simp only [abd]<;>lia) ⟨.int ys.length,H,I.tok _,⟨s.toks+1,by rw [abd,a]⟩,q⟩
def yM:jg X (.type "list") (λ xs H Q=>∃ p ys,xs=[.ref p]/\(aY X.K H p ys\/bP X.K H p ys)/\∀ l,H l=none->Q (.ref l) (upd H l (.lst ys))):=by
 intro j s σ H xs U Q I r h;obtain ⟨p,ys,rfl,g,q⟩:=h;obtain ⟨u,rfl,y⟩:=vals1 r;cases y;have f:∀ (B:bq),Vals ys B->ys.length<=sizeLine->∀ (a:aM) (c:Nat),(∀ b O,s.heap.get? b=some O->a.get? b=some O) ->
     a.get? s.heap.objs.size=some { cls:=.type "list",dict:=none,data:=.seq B.toArray c,slots:=#[]}->EP X j σ Q (.ref s.heap.objs.size) { s with heap:=a }:=λ B R i a c k e =>
   ⟨.ref s.heap.objs.size,_,I.laid (t':=s.toks) k (aaD _) (show di X.prog X.w _ a _ (.lst ys) from ⟨i,B,c,R,e⟩),rfl,q _ (I.cJ.fresh (aaD _))⟩
 rcases g with g|g
 .
  obtain ⟨B,R,x,i⟩:=I.list g;have d:=R.length;obtain ⟨o,v,m,n,t⟩:=x.isList;exact call_list_seq p (.inl rfl) v m t (λ a c k e=>f B R i a c k e) (by simp only [abd]<;>lia)
 .
  obtain ⟨B,R,x,i⟩:=I.tuple g;have d:=R.length;obtain ⟨o,v,m,n,t⟩:=x;exact call_list_seq p (.inr rfl) v m t (λ a c k e=>f B R i a c k e) (by simp only [abd]<;>lia)
def fj:jg X (.type "tuple") (λ xs H Q=>∃ p ys,xs=[.ref p]/\((aY X.K H p ys/\∀ l,H l=none->Q (.ref l) (upd H l (.tup ys)))\/(bP X.K H p ys/\Q (.ref p) H))):=by
 intro a s σ H xs U Q I r h;obtain ⟨p,ys,rfl,h⟩:=h;obtain ⟨u,rfl,n⟩:=vals1 r;cases n;rcases h with ⟨d,q⟩|⟨d,q⟩
 .
  obtain ⟨B,R,f,j⟩:=I.list d;have g:=R.length;refine call_tuple_list f.isList (λ c m=>?_) (by simp only [abd]<;>lia);have i:Inv X a σ H { s with heap:=c }:=I.kept (t':=s.toks) m;have k:Inv X a σ (upd H c.objs.size (.tup ys)) { s with heap:=c.push { cls:=.type "tuple",data:=.seq B.toArray }} :=
    i.laid (t':=s.toks) (λ b o e=>aaJ _ e) (aaD _) (show di X.prog X.w _ _ _ (.tup ys) from ⟨j,B,R,IsTup.new _ _⟩)
  exact ⟨.ref c.objs.size,_,k,rfl,q _ (i.cJ.fresh (aaD _))⟩
 . obtain ⟨B,R,f,j⟩:=I.tuple d;exact call_tuple_same f ⟨.ref p,H,I,rfl,q⟩
def YW (K:aA) (T:String) (x:V) (H:Hp):Prop:=match x with
 | .str _=>T = "str"
 | .int _=>T = "int"
 | .ref p=>(T = "list"/\∃ X,aY K H p X)\/(T = "tuple"/\∃ o,K.lookup p=some o/\o.cls = .type "tuple"/\o.dict=none) \/
     (T = "dict"/\((∃ a,H p=some (.dK a))\/∃ a,H p=some (.dT a)))\/(T = "set"/\∃ S n,H p=some (.set S n))
 | _=>False
def J2 {b:List (ak×Obj)} (I:Inv X b σ H s) (r:RelV x v) (ty:YW X.K T x H) :
   s.TypeIs v T/\∀ a,v = .ref a->∃ O,s.heap.get? a=some O/\O.dict=none:=by
 cases x with
 | str z =>
   obtain ⟨t,rfl⟩:=r;cases (show T = "str" from ty);exact ⟨typeIs_str s z t,λ Z e=>nomatch e⟩
 | int i =>
   obtain ⟨t,rfl⟩:=r;cases (show T = "int" from ty);exact ⟨typeIs_int s i t,λ Z e=>nomatch e⟩
 | ref p =>
   cases r;rcases ty with ⟨rfl,k,j⟩|⟨rfl,o,h,g,d⟩|⟨rfl,h⟩|⟨rfl,S,n,h⟩
   . obtain ⟨B,Z,f,Z⟩:=I.list j;refine ⟨f.isList.typeIs,λ a e=>?_⟩;cases e;obtain ⟨o,n,e,c,d,Z⟩:=f;exact ⟨o,e,d⟩
   . refine ⟨⟨o,I.pi p o h,g⟩,λ a e=>?_⟩;cases e;exact ⟨o,I.pi _ o h,d⟩
   .
    have z:∃ o,s.heap.get? p=some o/\o.ExactDict:=by
      rcases h with ⟨A,h⟩|⟨A,h⟩
      . obtain ⟨Z,Z,Z,Z,o,Z,Z,e,ex,Z⟩:=I.cJ p _ h;exact ⟨o,e,ex⟩
      . obtain ⟨Z,Z,Z,Z,o,Z,Z,e,ex,Z⟩:=I.cJ p _ h;exact ⟨o,e,ex⟩
    obtain ⟨o,e,ex⟩:=z;refine ⟨⟨o,e,ex.1⟩,λ a E=>?_⟩;cases E;exact ⟨o,e,ex.2.1⟩
   . obtain ⟨o,Z,Z,Z,e,ex,Z⟩:=I.cJ p _ h;refine ⟨⟨o,e,ex.1⟩,λ a E=>?_⟩;cases E;exact ⟨o,e,ex.2.1⟩
 | _=>exact False.elim ty
def abe (K:aA) (T:String) (r:V->az->Hp->VK->Prop) (t:TE):TE:=λ σ H Q=>t σ H λ x h=>YW K T x h/\r x [] h Q
def tBM (K:aA) (T:String) (r:V->az->Hp->VK->Prop) (b:TE) (t:TA):TE:=λ σ H Q=>b σ H λ x h=>YW K T x h/\t σ h λ X a=>r x X a Q
variable {o e:Expr} {es:List Expr} {to:TE} {t:TA} {name:Str} {apos gY:Pos} {T id:String} {r:V->az->Hp->VK->Prop}
def P7 (j:PlainAttrs T) (S:Slot T name id) (a:typeOf (.builtin id)=pure (.type "method_descriptor")) (f:MtR X id r) (g:PE X o to) (c:autoParam (attributeBase o name X.env (eval o X.env)=eval o X.env) za_._auto_1) (J:autoParam ((apos.endLine == gY.line)=true) za_._auto_1):PE X (.Call (.Attribute o name apos) [] [] gY) (abe X.K T r to):=by
 intro p s σ H Q I h;refine wpAny_Call_method0_late c J (c9 (g p s σ H _ I h) λ v k ⟨x,b,i,R,ty,q⟩=>?_);obtain ⟨d,e⟩:=J2 i R ty;exact ⟨T,id,j,S,a,d,e,afj rfl (PySem.evalArgs_none (f p k σ b x [] v [] Q i R .nil q))⟩
def g8 (u:PlainAttrs T) (S:Slot T name id) (a:typeOf (.builtin id)=pure (.type "method_descriptor")) (m:MtR X id r) (n:PE X o to) (l:PA X (e::es) t) (g:autoParam (attributeBase o name X.env (eval o X.env)=eval o X.env) za_._auto_1) (Y:autoParam (((backTo gY (starEach (e::es) X.env)).all (λ x => !x.1) && (backToKw gY (keywordEach [] X.env)).all (λ x=>x.1.isSome)
     && decide ((e::es).length+([]:List Keyword).length+(if ([]:List Keyword).isEmpty then 0 else 1)<30))=true) za_._auto_1) (J:autoParam ((apos.endLine == gY.line)=true) za_._auto_1) (q:autoParam (zC X e es) za_._auto_1) (C:autoParam ((backTo gY (starEach es X.env)).any (·.1)=false) za_._auto_1) :
   PE X (.Call (.Attribute o name apos) (e::es) [] gY) (tBM X.K T r to t):=by
 intro p s σ H Q I h;refine wpAny_Call_method_late g Y J rfl (c9 (n p s σ H _ I h) λ v A ⟨x,c,i,R,ty,w⟩=>?_);obtain ⟨j,k⟩:=J2 i R ty;refine ⟨T,id,u,S,a,j,k,?_⟩;have b:=l gY p A σ c _ i w;rw [q] at b |-;refine afj (by show (false || (backTo gY (starEach es X.env)).any (·.1))=false;rw [C]<;>rfl) (afr ?_);exact c9 b λ U B ⟨V,d,f,z,y⟩=>m p B σ d x V v U Q f R z y
end
def MtM (X:Cx) (id:String) (r:V->az->Hp->VK->Prop):Prop :=
 ∀ (p:List (ak×Obj)) (s:Shared) (σ:St) (H:Hp) (x:V) (a:az) (v:au) (u:bq) (Q:VK),Inv X p σ H s->RelV x v->Vals a u->r x a H Q ->
   wpAny (model X.prog X.w) X.A (call (.builtin id) (v::u)) (EP X p σ Q) X.xe s
def Vals.one:∀ {x:V} {us:bq},Vals [x] us->∃ u,us=[u]/\RelV x u
 | _,_,.cons r .nil=>⟨_,rfl,r⟩
def Vals.zero:∀ {us:bq},Vals [] us->us=[]
 | _,.nil=>rfl
theorem Vals.rep (h:Vals xs us):∀ k:Nat,Vals (List.replicate k xs).flatten (List.replicate k us).flatten
 | 0 => .nil
 | k+1=>by
   rw [ad6,ad6,aeM,aeM];exact Vals.append h (Vals.rep h k)
theorem foldl_rep (b:bq):∀ (k:Nat) (acc:bq),
   List.foldl (λ x X=>x++X) acc.toArray (List.replicate k b.toArray)=(acc++(List.replicate k b).flatten).toArray
 | 0,acc=>by simp
 | k+1,acc=>by
   have e:acc.toArray++b.toArray=(acc++b).toArray:=by simp
   have E:(acc++b)++(List.replicate k b).flatten=acc++(List.replicate (k+1) b).flatten:=by
     rw [ad6,aeM,adY]
   rw [<- E,<- foldl_rep b k (acc++b),<- e,ad6,ae8]
section
variable {X:Cx} {pins:List (ak×Obj)} {σ:St} {H:Hp} {s:Shared} {l b:ak} {xs ys:az}
def Inv.VT {b its':bq} {f:Array au->Array au} {t':Nat} (I:Inv X pins σ H s) (h:H l=some (.lst xs)) (e:s.heap.get? l=some { cls:=.type "list",data:=.seq b.toArray n }) (c:f b.toArray=its'.toArray) (g:Vals ys its') (i:ys.length<=sizeLine) :
   Inv X pins σ (upd H l (.lst ys)) { s with heap:=s.heap.update l (Obj.mapSeq f),toks:=t' }:=by
 have q:=PySem.IsL.update e f;rw [c] at q;refine I.write (x:=l) (e:=l) (by rw [h];exact trivial) (.inl rfl) (λ B u a d=>(aeo s.heap (Obj.mapSeq f) (aef a)).trans d) ⟨_,q⟩ ?_;exact ⟨i,its',_,g,q⟩
def Inv.U3 {b:bq} {t':Nat} (I:Inv X pins σ H s) (h:Vals ys b) (a:ys.length<=sizeLine) :
   Inv X pins σ (upd H s.heap.objs.size (.lst ys)) { s with heap:=s.heap.push { cls:=.type "list",data:=.seq b.toArray },toks:=t' } :=
 I.laid (λ Z Z q=>aaJ _ q) (aaD _) ⟨a,b,0,h,abX _ rfl⟩
theorem Inv.fresh (I:Inv X pins σ H s):H s.heap.objs.size=none:=I.cJ.fresh (aaD _)
def Inv.G3 (I:Inv X pins σ H s) (h:H l=some (.lst xs)):xs.length<=sizeLine/\∃ (b:bq) (n:Nat),Vals xs b/\xs.length=b.length/\s.heap.get? l=some { cls:=.type "list",data:=.seq b.toArray n }:=by
 obtain ⟨z,b,n,r,e⟩:=I.cJ l _ h;exact ⟨z,b,n,r,r.length,e⟩
def An {n:Nat} (h:n<=sizeLine):Builtin.List.listTooLong n=false:=by
 unfold Builtin.List.listTooLong;exact aaL (by lia)
end
section
variable {X:Cx}
inductive M6 (x:V) (vs:az) (H:Hp) (Q:VK):Prop|mk (l xs y:_) (_:x = .ref l) (_:vs=[y]) (_:H l=some (.lst xs)) (_:xs.length<sizeLine) (_:Q .cT (upd H l (.lst (xs++[y]))))
def cz:MtM X "list.append" M6:=by
 intro p s σ H x V v U Q I d c h;obtain ⟨l,i,y,rfl,rfl,a,g,q⟩:=h;cases d;obtain ⟨u,rfl,R⟩:=c.one;obtain ⟨z,b,n,r,f,e⟩:=I.G3 a;refine afJ F.slot_list_append ⟨_,e,rfl⟩ F.entry_list_append (F.args_list_append_2 _ _) (PySem.list_append l b.toArray n u (by rw [abd];lia)) ⟨e,?_⟩;refine ⟨.cT,_,I.VT (its':=b++[u]) a e (by simp) (r.append (.cons R .nil)) ?_,rfl,q⟩;rw [aae,aa3];lia
inductive M5 (x:V) (vs:az) (H:Hp) (Q:VK):Prop|mk (l b xs zs:_) (_:x = .ref l) (_:vs=[.ref b]) (_:H l=some (.lst xs)) (_:H b=some (.lst zs)) (_:xs.length+zs.length<=sizeLine) (_:Q .cT (upd H l (.lst (xs++zs))))
def wO:MtM X "list.extend" M5:=by
 intro p s σ H x V v U Q I i g h;obtain ⟨l,b,m,y,rfl,rfl,c,d,k,q⟩:=h;cases i;obtain ⟨u,rfl,f⟩:=g.one;cases f;obtain ⟨z,B,n,r,j,e⟩:=I.G3 c;obtain ⟨t,o,N,R,w,E⟩:=I.G3 d;have a:B.toArray.size+o.toArray.size<=sizeLine:=by rw [abd,abd];lia
 have J:¬ (!B.toArray.isEmpty && Builtin.List.listTooLong (B.toArray.size+o.toArray.size))=true:=by
   rw [An a,adv];exact abu
 refine afJ F.slot_list_extend ⟨_,e,rfl⟩ F.entry_list_extend (F.args_list_extend_2 _ _)
   (AutoSeq1.list_extend_list_list_0 l B.toArray n b o.toArray N J (by rw [abd];lia) (by lia)) ⟨e,E,?_⟩
 refine ⟨.cT,_,I.VT (its':=B++o) c e (by simp) (r.append R) ?_,rfl,q⟩;rw [aae];lia
inductive Zu (x:V) (y:V) (H:Hp) (Q:VK):Prop|mk (l b xs zs:_) (_:x = .ref l) (_:y = .ref b) (_:H l=some (.lst xs)) (_:H b=some (.lst zs)) (_:xs.length+zs.length<=sizeLine) (_:∀ p,H p=none->Q (.ref p) (upd H p (.lst (xs++zs))))
def Kd:jo X (binaryOp .Add) Zu:=by
 intro p s σ H x y v u Q I f g h;obtain ⟨l,b,k,w,rfl,rfl,d,c,j,q⟩:=h;cases f;cases g;obtain ⟨z,B,n,r,i,e⟩:=I.G3 d;obtain ⟨m,o,N,R,t,E⟩:=I.G3 c;refine PySem.P.add_list e E ?_ (by rw [abd,abd];lia);have a:B.toArray++o.toArray=(B++o).toArray:=by simp
 rw [a];exact ⟨.ref _,_,I.U3 (t':=s.toks) (r.append R) (by rw [aae];lia),rfl,q _ I.fresh⟩
inductive abr (x:V) (y:V) (H:Hp) (Q:VK):Prop|mk (l k xs:_) (_:x = .ref l) (_:y = .int k) (_:H l=some (.lst xs)) (_ : -(2 ^ 63)<=k) (_:k<2 ^ 63) (_:xs.length * k.toNat<=sizeLine) (_:∀ p,H p=none->Q (.ref p) (upd H p (.lst (List.replicate k.toNat xs).flatten)))
def len_rep {a:Type} (xs:List a) (k:Nat):(List.replicate k xs).flatten.length=k * xs.length:=by
 induction k with
 | zero=>simp
 | succ k i=>rw [ad6,aeM,aae,i,Nat.succ_mul,aei]
def Qk:jo X (binaryOp .Mult) abr:=by
 intro p s σ H x y v u Q I R D h;obtain ⟨l,k,G,rfl,rfl,w,j,o,g,q⟩:=h;cases R;obtain ⟨t,rfl⟩:=D;obtain ⟨z,b,n,r,B,e⟩:=I.G3 w;have c:b.toArray.size * k.toNat<=sizeLine:=by rw [abd,<- B];exact g
 have Y:¬ b.toArray.size * k.toNat > (2 ^ 63 - 1) / 8:=by
   have:(sizeLine:Nat)<=(2 ^ 63 - 1) / 8:=by decide
   lia
 have A:¬ (!Builtin.List.listFitsIndex k)=true:=by
   rw [fitsIndex_both j o];exact abu
 have J:¬ Builtin.List.listTooLong (b.toArray.size * k.toNat)=true:=by
   rw [An c];exact abu
 have C:List.foldl (λ d f=>d++f) #[] (List.replicate (if b.toArray.isEmpty=true then 0 else k.toNat) b.toArray)=(List.replicate k.toNat b).flatten.toArray:=by
   have i:∀ m:Nat,List.foldl (λ d f=>d++f) #[] (List.replicate m b.toArray)=(List.replicate m b).flatten.toArray:=λ m=>by
     have:=foldl_rep b m [];rw [aes] at this;exact this
   rw [i];cases b with
   | nil=>simp
   | cons a E=>rw [abC (by simp)]
 refine wpAny_binaryOp_repeat_ref (T:="list") (U:="int") (by decide) ⟨_,e,rfl⟩ (λ S=>typeIs_int S k t) noFill_list_mul F.fills_int_mul F.slot_int_rmul repeat_list F.slot_int_index.lookup
   (afJ F.slot_int_rmul (typeIs_int s k t) F.entry_int_rmul (F.args_int_rmul_2 _ _) (int___rmul___int_list k t l b.toArray n)
     ⟨e,rfl,⟨_,e,rfl⟩,afJ F.slot_list_mul ⟨_,e,rfl⟩ F.entry_list_mul (F.args_list_mul_2 _ _) (AutoListH.list___mul___list_int_3 l b.toArray n k t A Y J) ⟨e,?_⟩⟩)
 rw [C];exact ⟨.ref _,_,I.U3 (t':=s.toks) (r.rep k.toNat) (by rw [len_rep,Nat.mul_comm];exact g),rfl,q _ I.fresh⟩
end
section
variable {κ:Type} [DecidableEq κ]
noncomputable def gW (a:List (κ×V)) (k:κ):eO:=(a.find? λ K=>decide (K.1=k)).map (·.2)
noncomputable def putK (a:List (κ×V)) (k:κ) (v:V):List (κ×V) :=
 if (a.any λ K=>decide (K.1=k))=true then a.map (λ K=>if K.1=k then (K.1,v) else K) else a++[(k,v)]
def fS {p:κ×V} {r:List (κ×V)} {k:κ} (e:p.1=k):gW (p::r) k=some p.2:=by simp [gW,acA,e]
def fQ {p:κ×V} {r:List (κ×V)} {k:κ} (e:¬ p.1=k):gW (p::r) k=gW r k:=by simp [gW,acA,e]
theorem kq (k:κ):∀ a:List (κ×V),(a.any λ K=>decide (K.1=k))=(gW a k).isSome
 | []=>rfl
 | p::r=>by
   rw [aeR];by_cases e:p.1=k
   . simp only [fS e,aaM e,Bool.true_or,Option.isSome_some]
   . rw [fQ e,aaL e,Bool.false_or];exact kq k r
theorem Ao (k j:κ) (y:V):∀ a:List (κ×V),gW (a.map λ K=>if K.1=k then (K.1,y) else K) j=(gW a j).map λ x=>if j=k then y else x
 | []=>rfl
 | p::r=>by
   have i:=Ao k j y r;rw [ab0];by_cases h:p.1=k
   . rw [abE h];by_cases e:p.1=j
     . rw [fS (p:=(p.1,y)) e,fS e,aer,abE (e.symm.trans h)]
     . rw [fQ (p:=(p.1,y)) e,fQ e,i]
   . rw [abC h];by_cases e:p.1=j
     . rw [fS (p:=p) e,fS e,aer,abC (λ z=>h (e.trans z))]
     . rw [fQ (p:=p) e,fQ e,i]
theorem xz (k j:κ) (y:V):∀ a:List (κ×V),gW a k=none->gW (a++[(k,y)]) j=if j=k then some y else gW a j
 | [],_=>by
   by_cases e:k=j
   . rw [abE e.symm];exact fS (p:=(k,y)) e
   . rw [abC (λ z=>e z.symm)];exact fQ (p:=(k,y)) e
 | p::r,h=>by
   rw [afz];have H:¬ p.1=k:=λ z=>by rw [fS z] at h;cases h
   rw [fQ H] at h;have i:=xz k j y r h;by_cases e:p.1=j
   . rw [fS e,fS e,abC (λ z=>H (e.trans z))]
   . rw [fQ e,fQ e,i]
def IB (A:List (κ×V)) (k j:κ) (y:V):gW (putK A k y) j=if j=k then some y else gW A j:=by
 unfold putK;by_cases a:(A.any λ K=>decide (K.1=k))=true
 .
  rw [abE a,Ao];rw [kq] at a;by_cases e:j=k
  . obtain ⟨x,h⟩:=adq.mp a;rw [abE e,e,h,aer,abE rfl]
  . rw [abC e];cases gW A j with
    | none=>rfl
    | some x=>rw [aer,abC e]
 .
  rw [abC a];refine xz k j y A ?_;rw [kq] at a;cases q:gW A k with
  | none=>rfl
  | some x=>rw [q] at a;exact (a rfl).elim
def sR (a:List (κ×V)) (k:κ) (v:V):(putK a k v).length<=a.length+1:=by
 unfold putK;split
 . rw [CT];lia
 . rw [aae,ab9,ae5];lia
def IQ {a:List (κ×V)} {k:κ} (v:V) (h:gW a k=none):putK a k v=a++[(k,v)]:=by
 unfold putK;rw [kq,h];exact abC (by decide)
def lM.rf (r:lM o u):o.isSome=u.isSome:=by
 cases o with
 | none=>cases u with
   | none=>rfl
   | some _=>exact (show False from r).elim
 | some _=>cases u with
   | none=>exact (show False from r).elim
   | some _=>rfl
theorem lM.getD (r:lM o u) (R:RelV d d'):RelV (o.getD d) (u.getD d'):=by
 cases o with
 | none=>cases u with
   | none=>exact R
   | some _=>exact (show False from r).elim
 | some _=>cases u with
   | none=>exact (show False from r).elim
   | some _=>exact r
def KV.val (r:KV a vs) (k:κ):lM (gW a k) (valueAt vs k):=by
 unfold KV at r;induction r with
 | nil=>exact True.intro
 | @cons p q d Q h t i =>
   obtain ⟨H,c⟩:=h;by_cases e:p.1=k
   . have E:q.1=k:=H.symm.trans e;have b:valueAt (q::Q) k=some q.2:=by simp [valueAt,acA,E]
     rw [fS e,b];exact c
   . have E:¬ q.1=k:=λ z=>e (H.trans z);have b:valueAt (q::Q) k=valueAt Q k:=by simp [valueAt,acA,E]
     rw [fQ e,b];exact i
theorem KV.any (r:KV a vs) (k:κ):(a.any λ K=>decide (K.1=k))=vs.any λ K=>decide (K.1=k):=by
 unfold KV at r;induction r with
 | nil=>rfl
 | cons h t i=>rw [aeR,aeR,i,h.1]
def KV.OK (r:KV a vs) (k:κ) (R:RelV y u) :
   KV (a.map λ K=>if K.1=k then (K.1,y) else K) (vs.map λ K=>if K.1=k then (K.1,u) else K):=by
 unfold KV at r |-;induction r with
 | nil=>exact .nil
 | @cons p q c Q h t i =>
   rw [ab0,ab0];refine .cons ?_ i;obtain ⟨H,b⟩:=h;by_cases e:p.1=k
   . rw [abE e,abE (H.symm.trans e)];exact ⟨H,R⟩
   . rw [abC e,abC (λ z=>e (H.trans z))];exact ⟨H,b⟩
def KV.put (r:KV a vs) (k:κ) (R:RelV y u):KV (putK a k y) (stored vs k u):=by
 unfold putK stored;rw [r.any k];by_cases e:(vs.any λ K=>decide (K.1=k))=true
 . rw [abE e,abE e];exact r.OK k R
 . rw [abC e,abC e];exact aeI r ⟨rfl,R⟩
theorem KV.length (r:KV a vs):a.length=vs.length:=ad4 r
end
def IP (r:RelV (kV k) u):(eQ P w).is k u=true:=by
 cases k with
 | inl i=>obtain ⟨t,e⟩:=(show ∃ t,u=Value.int i t from r);subst e;exact AB P w i t
 | inr x=>obtain ⟨t,e⟩:=(show ∃ t,u=Value.str x t from r);subst e;exact Bo P w x t
theorem xC:∀ {K:List Key} {us:bq},Vals (K.map kV) us->ItemsAre (eQ P w) K us
 | [],_,r=>by rw [List.map_nil] at r;cases r;exact .nil
 | k::K,_,r=>by
   rw [ab0] at r;cases r with
   | cons h t=>exact .cons (IP h) (xC t)
abbrev KT (H:Hp):List (List Key×V)->List (List Key×ak×au)->Prop:=Paired λ p q=>p.1=q.1/\H q.2.1=some (.tup (p.1.map kV))/\RelV p.2 q.2.2
def KT.val (r:KT H a xs) (k:List Key):lM (gW a k) ((atKey xs k).map (·.2)):=by
 induction r with
 | nil=>exact True.intro
 | @cons p q f Q h t i =>
   obtain ⟨c,Z,d⟩:=h;by_cases e:p.1=k
   . have E:q.1=k:=c.symm.trans e;have b:atKey (q::Q) k=some q.2:=by simp [atKey,acA,E]
     rw [fS e,b];exact d
   . have E:¬ q.1=k:=λ z=>e (c.trans z);have b:atKey (q::Q) k=atKey Q k:=by simp [atKey,acA,E]
     rw [fQ e,b];exact i
def KT.OK (r:KT H A xs) (k:List Key) (R:RelV y u) :
   KT H (A.map λ K=>if K.1=k then (K.1,y) else K) (xs.map (putAt k u)):=by
 induction r with
 | nil=>exact .nil
 | @cons p q d Q h t i =>
   rw [ab0,ab0];refine .cons ?_ i;obtain ⟨a,b,c⟩:=h;unfold putAt;by_cases e:p.1=k
   . rw [abE e,abE (a.symm.trans e)];exact ⟨a,b,R⟩
   . rw [abC e,abC (λ z=>e (a.trans z))];exact ⟨a,b,c⟩
def KT.put (r:KT H a xs) (k:List Key) (h:H b=some (.tup (k.map kV))) (R:RelV y u) :
   KT H (putK a k y) (storedH xs k b u):=by
 have e:(a.any λ K=>decide (K.1=k))=(atKey xs k).isSome:=by
   rw [kq,(r.val k).rf,afp]
 unfold putK storedH;rw [e];by_cases q:(atKey xs k).isSome=true
 . rw [abE q,abE q];exact r.OK k R
 . rw [abC q,abC q];exact aeI r ⟨rfl,h,R⟩
def KT.keeps (r:KT H a xs) (h:∀ b ys,H b=some (.tup ys)->H' b=some (.tup ys)):KT H' a xs :=
 Paired.ym r λ Z Z z=>⟨z.1,h _ _ z.2.1,z.2.2⟩
section
variable {P:aZ} {w:aU} {H:Hp} {h:aM} {a:ak}
def Nc (ok:kB P w H h) (e:Rd H a u):di P w H h a u:=e.ok ok
def JD (ok:kB P w H h) (e:Rd H a (.dK A)):A.length<=sizeLine/\(a == sysModules)=false/\∃ vs,KV A vs/\h.DictOf (eQ P w) a vs :=
 show di P w H h a (.dK A) from Nc ok e
def TQ (ok:kB P w H h) (e:H a=some (.dK A)):A.length<=sizeLine/\(a == sysModules)=false/\∃ vs,KV A vs/\h.DictOf (eQ P w) a vs:=JD ok (.inl e)
def Cq {k:List Key} (ok:kB P w H h) (e:H a=some (.tup (k.map kV))):(tupleKind (eQ P w)).is h k a:=by
 obtain ⟨Z,b,r,o,c,d,n,f⟩:=(show di P w H h a (.tup (k.map kV)) from ok a _ e)
 exact ⟨o,b.toArray,n,c,d,f,by simpa using xC r⟩
def HF (ok:kB P w H h) (e:Rd H a (.dT A)):A.length<=sizeLine/\(a == sysModules)=false /\
   ∃ xs,KT H A xs/\h.DictOfH (tupleKind (eQ P w)) a xs:=by
 obtain ⟨z,y,xs,r,o,d,E,f,g,i,j,k⟩:=(show di P w H h a (.dT A) from Nc ok e)
 refine ⟨z,y,xs,r,o,d,E,f,g,i,j,λ x b=>?_,k⟩;have all:∀ {l:List (List Key×V)} {m:List (List Key×ak×au)},KT H l m->∀ x∈m,(tupleKind (eQ P w)).is h x.1 x.2.1:=by
   intro l m q;induction q with
   | nil=>intro x b;exact nomatch b
   | @cons p q n Q c t I =>
     intro x b;rcases aah.mp b with e|b
     . subst e;exact Cq ok (by rw [<- c.1];exact c.2.1)
     . exact I x b
 exact all r x b
def Sw (ok:kB P w H h) (e:H a=some (.dT A)):A.length<=sizeLine/\(a == sysModules)=false /\
   ∃ xs,KT H A xs/\h.DictOfH (tupleKind (eQ P w)) a xs:=HF ok (.inl e)
end
def Fu (H:Hp) (a:ak) (y:V) (r:eO):Prop :=
 (∃ A k,Rd H a (.dK A)/\y=kV k/\r=gW A k)\/∃ A k b,Rd H a (.dT A)/\y = .ref b/\H b=some (.tup (k.map kV))/\r=gW A k
def Kk (H:Hp) (a:ak) (y v:V) (h:Hp):Prop :=
 (∃ A k,H a=some (.dK A)/\y=kV k/\A.length<sizeLine/\h=upd H a (.dK (putK A k v))) \/
 ∃ A k b,H a=some (.dT A)/\y = .ref b/\H b=some (.tup (k.map kV))/\A.length<sizeLine/\h=upd H a (.dT (putK A k v))
def Fu.t {k:List Key} (e:H a=some (.dT A)) (E:H b=some (.tup (k.map kV))):Fu H a (.ref b) (gW A k):=.inr ⟨A,k,b,.inl e,rfl,E,rfl⟩
def Kk.t {k:List Key} (e:H a=some (.dT A)) (E:H b=some (.tup (k.map kV))) (h:A.length<sizeLine) :
   Kk H a (.ref b) v (upd H a (.dT (putK A k v))):=.inr ⟨A,k,b,e,rfl,E,h,rfl⟩
section
variable {X:Cx} {pins:List (ak×Obj)} {σ:St} {H:Hp} {s:Shared} {a:ak} {y v:V} {u r:au} {o:eO} {A:Around} {E:au->Shared->Prop}
def Inv.big (I:Inv X pins σ H s):sysModules<s.heap.objs.size:=by
 have h:mainGlobals<s.heap.objs.size:=(I.mod.glob.keeps I.bk).lt;exact ae4 (by decide) h
def yJ {t':Nat} {o:HO} (I:Inv X pins σ H s) (m:UI (H a)) (d:Heap.SameBut a s.heap h') (c:∃ q,h'.get? a=some q) (n:di X.prog X.w (upd H a o) h' a o) :
   Inv X pins σ (upd H a o) { s with heap:=h',toks:=t' } :=
 I.write (x:=a) (e:=a) m (.inl rfl) (λ b q h z=>(d.2 b h).trans z) c n
def PD {h':aM} {A:List (Key×V)} (z:A.length<=sizeLine) (h:(a == sysModules)=false) (r:KV A vs) (dd:h'.DictOf (eQ P w) a vs) :
   di P w H' h' a (.dK A):=⟨z,h,vs,r,dd⟩
def G9 {Q:Unit->Shared->Prop} (T:A.units+1<cLine) (I:Inv X pins σ H s) (g:Kk H a y v H') (F:RelV y u) (C:RelV v r) (h:∀ s',Inv X pins σ H' s'->Q () s') :
   wpAny (model X.prog X.w) A (setItem (.ref a) u r) Q E s:=by
 rcases g with ⟨d,k,e,j,l,i⟩|⟨d,k,b,e,j,t,l,i⟩
 .
  subst j i;obtain ⟨z,m,V,R,D⟩:=TQ I.cJ e;have p:V.length<=sizeLine:=by rw [<- R.length];exact z
  have n:(putK d k v).length<=sizeLine:=by have:=sR d k v;lia
  refine wpAny_setItem_pairs (hsz:=p) (IP F) D λ B N o=>h _ ?_;have S:∃ q,B.get? a=some q:=let ⟨q,_,_,f,_⟩:=N;⟨q,f⟩;exact yJ I (by rw [e];exact True.intro) o S (PD n m (R.put k C) N)
 .
  subst j i;cases (show u=Value.ref b from F);obtain ⟨z,m,U,R,D⟩:=Sw I.cJ e;have p:U.length<=sizeLine:=by rw [<- ad4 R];exact z
  have n:(putK d k v).length<=sizeLine:=by have:=sR d k v;lia
  refine wpAny_setItem_heap (hsz:=p) (tupleKind_room_in1 T) (Cq I.cJ t) D λ B N o=>h _ ?_;obtain ⟨q,J,G,f,K,L,M,Z,O⟩:=N;refine yJ I (by rw [e];exact True.intro) o ⟨q,f⟩ ⟨n,m,_,(R.put k t C).keeps λ c Y x=>?_,q,J,G,f,K,L,M,O⟩;rw [av (Uq x e (λ z=>nomatch z))];exact x
end
def VJ (i:Expr):Prop:=∀ o I,subscripted i false o I=operate [o,I] (getItem o I)
def L4 {E:au->Shared->Prop} {id:String} {Q:au->Shared->Prop} (g:typeLookup (.type T) "__getitem__" = pure (some (.builtin id))) (j:VJ S) (h:wpAny (model prog w) A (eval v env) (λ o a=>wpAny (model prog w) A (eval S env) (λ i s₂=>s₂.TypeIs o T/\wpAny (model prog w) A (getItem o i) Q E s₂) E a) E s) :
   wpAny (model prog w) A (eval (.Subscript v S p) env) Q E s:=by
 refine Subscript_ (ab3 h (λ o a c=>ab3 c (λ i s₂ H=>?_) λ Z Z x=>x) λ Z Z x=>x);obtain ⟨e,H⟩:=H;unfold subscriptTail;refine WE ?_;rw [getitemInPython_of_ne e.not_modules];refine WE (wpAny_specialOf e g ?_);have f:wpAny (model prog w) A (subscripted S false o i) (λ r b=>wpAny (model prog w) A (letTemporaryGo v o r >>= λ Z=>pure r) Q E b) E s₂:=by
   rw [j o i];exact wpAny_operating (ab3 H (λ r b d=>WE (wpAny_letTemporaryGo (aaU d))) λ Z Z x=>x)
 first
   | exact aaU (WE f)
   | exact WE (aaU (WE f))
   | exact WE f
def TL (t ty T:TE):TS:=λ D σ H=>T σ H λ v b=>t σ b λ x c=>ty σ c λ y d=>∃ a h,x = .ref a/\Kk d a y v h/\D.nx σ h
section
variable {X:Cx} {o i e value:Expr} {pos pos':Pos} {td ty tv:TE}
def Lm (q:X.A.units+1<cLine) (m:PE X o td) (l:PE X i ty) (t:PE X value tv) (n:swapsWith value (some (.Subscript o i pos')) pos.line X.env=pure false) :
   PS X (.Assign [.Subscript o i pos'] value pos) (TL td ty tv):=by
 intro p s σ H D I h;refine wpAny_Assign_Subscript (c9 (t p s σ H _ I h) λ r S ⟨v,b,e,R,Q⟩=>c9 (m p S σ b _ e Q) λ u E ⟨x,c,f,B,w⟩=>c9 (l p E σ c _ f w) λ G J ⟨y,F,j,C,a,d,ex,g,z⟩=>?_) n;subst ex;obtain rfl:u=Value.ref a:=B;exact G9 q j g C R λ K k=>⟨σ,d,k,z⟩
end
def Kw (h:aM) (a:sysModules<h.objs.size):di P w H (h.push { cls:=.type "dict",data:=.dict #[]}) h.objs.size (.dT []) :=
 ⟨ach _,adk.mpr (aef (abY a)),[],.nil,_,#[],0,abX _ rfl,⟨rfl,rfl,rfl⟩,rfl,rfl,aeh⟩
def O3:TE:=λ Z H Q=>∀ p,H p=none->Q (.ref p) (upd H p (.dT []))
section
variable {X:Cx} {pos:Pos}
def Ig:PE X (.Dict [] [] pos) O3:=λ p s σ H Q I h =>
 wpAny_Dict_empty ⟨.ref s.heap.objs.size,_,I.laid (a:=s.heap.objs.size) (o:=.dT []) (t':=s.toks) (λ Z Z q=>aaJ _ q) (aaD _) (Kw s.heap I.big),rfl,h _ (I.cJ.fresh (aaD _))⟩
end
def HL:List (TE×TE)->St->Hp->(List (V×V)->Hp->Prop)->Prop
 | [],_,H,Q=>Q [] H
 | (t,T)::r,σ,H,Q=>t σ H λ x h=>T σ h λ y a=>HL r σ a λ p b=>Q ((x,y)::p) b
abbrev VV:List (V×V)->List (au×au)->Prop:=Paired λ p q=>RelV p.1 q.1/\RelV p.2 q.2
def PPs (X:Cx) (a:Pos) (k:List (Option Expr)) (v:List Expr) (t:List (TE×TE)):Prop :=
 ∀ (p:List (ak×Obj)) (s:Shared) (σ:St) (H:Hp) (Q:List (V×V)->Hp->Prop),Inv X p σ H s->HL t σ H Q ->
   wpAny (model X.prog X.w) X.A (evalPairs (pairTrees k v X.env a)) (λ c S=>∃ b H',Inv X p σ H' S/\VV b c/\Q b H') X.xe s
structure M1 (X:Cx) (o:Expr) (m:Str) (apos:Pos) (e:Expr) (gY:Pos):Prop where
 base:attributeBase o m X.env (eval o X.env)=eval o X.env
 few:((backTo gY (starEach [e] X.env)).all (λ x => !x.1) && (backToKw gY (keywordEach [] X.env)).all (λ x=>x.1.isSome)
   && decide (([e]:List Expr).length+([]:List Keyword).length+(if ([]:List Keyword).isEmpty then 0 else 1)<30))=true
 line:(apos.endLine == gY.line)=true
 trees:backTo gY (starEach [e] X.env)=[(false,eval e X.env)]
structure M2 (X:Cx) (o:Expr) (m:Str) (apos:Pos) (e f:Expr) (gY:Pos):Prop where
 base:attributeBase o m X.env (eval o X.env)=eval o X.env
 few:((backTo gY (starEach [e,f] X.env)).all (λ x => !x.1) && (backToKw gY (keywordEach [] X.env)).all (λ x=>x.1.isSome)
   && decide (([e,f]:List Expr).length+([]:List Keyword).length+(if ([]:List Keyword).isEmpty then 0 else 1)<30))=true
 line:(apos.endLine == gY.line)=true
 trees:backTo gY (starEach [e,f] X.env)=[(false,eval e X.env),(false,eval f X.env)]
def IsD (H:Hp) (a:ak):Prop:=(∃ A,Rd H a (.dK A))\/∃ A,Rd H a (.dT A)
def QL (I:Inv X p σ H s) (d:IsD H a) :
   s.TypeIs (.ref a) "dict"/\(∀ b,Value.ref a = .ref b->∃ o,s.heap.get? b=some o/\o.dict=none)/\(a == sysModules)=false:=by
 rcases d with ⟨A,e⟩|⟨A,e⟩
 .
  obtain ⟨Z,f,v,Z,D⟩:=JD I.cJ e;refine ⟨D.typeIs,λ b q=>?_,f⟩;cases q;obtain ⟨o,Z,Z,h,c,Z⟩:=D;exact ⟨o,h,c.2.1⟩
 .
  obtain ⟨Z,f,x,Z,D⟩:=HF I.cJ e;refine ⟨D.typeIs,λ b q=>?_,f⟩;cases q;obtain ⟨o,Z,Z,h,c,Z⟩:=D;exact ⟨o,h,c.2.1⟩
section
variable {X:Cx} {pins:List (ak×Obj)} {σ:St} {H:Hp} {s:Shared} {a:ak} {y d:V} {u r:au} {o:eO} {A:Around} {E:au->Shared->Prop}
def QD {Q:au->Shared->Prop} (p:A.units+1<cLine) (I:Inv X pins σ H s) (g:Fu H a y o) (j:RelV y u) (i:RelV d r) (h:∀ W s',Inv X pins σ H s'->RelV (o.getD d) W->Q W s') :
   wpAny (model X.prog X.w) A (call (.builtin "dict.get") [.ref a,u,r]) Q E s:=by
 rcases g with ⟨m,k,e,c,l⟩|⟨m,k,b,e,c,n,l⟩
 .
  subst c;obtain ⟨z,f,v,R,D⟩:=JD I.cJ e;refine call_meetsIn ae3 D.typeIs af0 (afW _ _ _) (meets_dict_get_default (eQ X.prog X.w) a (IP j) f r) ⟨_,D.mapOf,h _ _ (I.tok _) ?_⟩;rw [l];exact (R.val k).getD i
 .
  subst c;cases (show u=Value.ref b from j);obtain ⟨z,f,x,R,D⟩:=HF I.cJ e;refine call_meetsIn ae3 D.typeIs af0 (afW _ _ _) (meetsH_dict_get_default (tupleKind (eQ X.prog X.w)) a b f r) ⟨tupleKind_room_in1 p,k,x,Cq I.cJ n,D,h _ _ (I.tok _) ?_⟩;rw [l];exact (R.val k).getD i
end
def Oq (t ty T:TE):TE:=λ σ H Q=>t σ H λ x h=>∃ a,x = .ref a/\IsD h a/\ty σ h λ y c=>T σ c λ z b=>∃ o,Fu b a y o/\Q (o.getD z) b
section
variable {X:Cx} {o e f:Expr} {apos gY:Pos} {td ty tx:TE}
def Bk (v:X.A.units+1<cLine) (t:PE X o td) (q:PE X e ty) (r:PE X f tx) (m:M2 X o "get" apos e f gY):PE X (.Call (.Attribute o "get" apos) [e,f] [] gY) (Oq td ty tx):=by
 intro p s σ H Q I h;refine wpAny_Call_method m.base m.few m.line PySem.F.plainAttrs_dict ae3 PySem.F.type_dict_get (c9 (t p s σ H _ I h) λ u S ⟨x,b,i,R,a,ex,d,w⟩=>?_);subst ex;obtain rfl:u=Value.ref a:=R;obtain ⟨T,J,Z⟩:=QL i d;refine ⟨T,J,?_⟩;rw [m.trees];refine afj rfl (afr (aeY (c9 (q p S σ b _ i w) λ L G ⟨y,c,k,D,B⟩ =>
   aeY (c9 (r p G σ c _ k B) λ K N ⟨z,j,l,E,O,g,C⟩=>afN ?_))))
 exact QD v l g D E λ W U n M=>⟨_,j,n,M,C⟩
end
end L2
namespace Att
open PySem PySem.W PySem.Calls PyProof.Rows
def tu:∀ (ns:List Int) (vs:bq),WellAll P h vs (ns.map WData.int)->IntsAre vs ns:=by
 intro ns;induction ns with
 | nil =>
   intro vs w;rw [List.map_nil] at w;cases w;exact .nil
 | cons n ns i =>
   intro vs w;rw [ab0] at w;cases w with
   | cons a b =>
     cases a;exact .cons _ _ (i _ b)
def Hf {l:OpenLaw} (j:l.most=some n)
   (M:l.row.toRowW.claim.pre args=true) (T:WellAll P h v args) :
   ∃ a vs N,v=[Value.ref a]/\args=[WData.list (N.map WData.int)]/\h.get? a=some { cls:=.type "list",data:=.seq vs.toArray }/\IntsAre vs N/\N.length<=n:=by
 have U:WShape.hasAll [] args [.list .int]=true:=(pre_splitW M).1;have e:l.pre.holds [] { args:=args }=true:=(pre_splitW M).2;obtain ⟨d,r,rfl,f,g⟩:=hasAllW_cons U;obtain rfl:=hasAllW_nil g;obtain ⟨x,rfl,i⟩:=hasW_list f;obtain ⟨N,rfl⟩:=items_int i;have H:N.length<=n:=by
   unfold OpenLaw.pre at e;have b:(WTm.not (.lt (.lit (.int (n:Int))) (.len (.arg 0)))).holds [] { args:=[.list (N.map .int)]}=true:=by
     have b:=(holds_andW e).1;rw [j] at b;exact b
   have c:=condW_of b (w_not (w_lt w_lit (w_len_list (w_arg rfl))));rw [CT] at c;refine Nat.le_of_not_lt λ q=>?_;have m:(n:Int)<((N.length:Nat):Int):=by lia
   first
     | (rw [aaM m] at c;exact absurd c (by decide))
     | (simp at c;lia)
 cases T with
 | cons w W =>
   cases W;cases w with
   | list k Q=>exact ⟨_,_,N,rfl,rfl,k,tu N _ Q,H⟩
def Fz (l:OpenLaw) (args:List WData):l.row.toRowW.claim.post args (.bool true) args=true :=
 postW_of (r:=l.row.toRowW) (X:=(true == true))
   (show WShape.has [] (.bool true) .bool=true by first|rfl|decide|simp [WShape.has,WShape.arms,WShape.armsAll])
   (show (WTm.eq .res (.lit (.bool true))).value [] { args:=args,res:=some (.bool true),after:=args }=some (.bool (true == true)) from w_eq_bool (w_res rfl) w_lit) rfl
section
def YT (h:aM):aM:={ h with objs:=#[]}
noncomputable def ledger (h:aM) (L d:ak):List (ak×Obj):=(List.range h.objs.size).filterMap λ a=>if a=L\/a=d then none else (h.get? a).map λ o=>(a,o)
end
end Att
namespace L2
open PySem PySem.Spec PyProof.Rows
variable {H H':Hp} {qual:Str}
theorem xb:∀ {vs:bq} {N:List Int},IntsAre vs N->Vals (N.map V.int) vs
 | _,_,.nil => .nil
 | _,_,.cons n t h => .cons ⟨t,rfl⟩ (xb h)
def Tr (H:Hp):Prop:=∀ b,H b=none\/∃ o x,H b=some (.AF o (.lst x))
def Ij {K:aA} {a:ak} {x:Str} {s₁:Shared} {vs:bq} (L:K.In s₁.heap) (O:s₁.heap.Ns mainGlobals M) (c:s₁.heap.Ns builtinsNs G) (y:∀ x:Str,x ≠ "__name__"->G x=bootBuiltins x) (j:s₁.heap.NoLimit) (hg:s₁.gens=#[]) (i:s₁.heap.get? a=some { cls:=.type "list",data:=.seq vs.toArray }) (X:IntsAre vs N) (Y:N.length<=sizeLine) (hr:cK k callerA) (F:∀ base:aM,K.In base->base.Ns mainGlobals M->gX P w K M base I k p S [x] sp) (RH:∀ (s:Shared) (u:au),BindsTo s S ⟨[u],[]⟩ [(x,u)]) (Hj:∀ H:Hp,Tr H->aY K H a (N.map V.int)->sp [.ref a] H (λ v _=>v = .bl true) λ _ _ _=>False) (t:∀ H e s',I [] H s₁ (λ _ _ _=>False) e s'->False) :
   codeAny (model P w) callerA (.call (.ref p) ⟨[.ref a],[]⟩) (λ r s'=>r = .ok (.ret (.bool true))/\OldK s₁.heap s'.heap/\s'.os=s₁.os/\AllBare s'.gens) s₁:=by
 have rv:=xb X;have YD:=X.length;have C:∀ H:Hp,Tr H->aY K H a (N.map V.int)->kB P w H s₁.heap->(∀ b,H b≠none->b=a)->(H a≠none->K.lookup a=none) ->
     codeAny (model P w) callerA (.call (.ref p) ⟨[.ref a],[]⟩) (λ r s'=>r = .ok (.ret (.bool true))/\OldK s₁.heap s'.heap/\s'.os=s₁.os/\AllBare s'.gens) s₁:=by
   intro H U hS Q T hK;have J:∀ {b:ak} {o:Obj},s₁.heap.get? b=some o->H b=none->(yf s₁.heap H).get? b=some o:=λ e n=>HJ e n;have Uf:∀ {b:ak} {o:Obj} {E:Array DictEntry} {ep:Nat},s₁.heap.get? b=some o->o.data = .dict E ep->H b=none:=λ {b o E ep} e d=>by
     cases q:H b with
     | none=>rfl
     | some u =>
       have l:b=a:=T b (by rw [q];simp);subst l;rw [i] at e;cases e;have d':Data.seq vs.toArray _=Data.dict E ep:=d;cases d'
   have W:∀ {b:ak} {m:cH},s₁.heap.Ns b m->(yf s₁.heap H).Ns b m:=λ {b m} ⟨o,E,ep,e,d,r⟩=>⟨o,E,ep,J e (Uf e d),d,r⟩
   have f:K.In (yf s₁.heap H):=λ b o e=>J (L b o e) (by
     cases q:H b with
     | none=>rfl
     | some u =>
       have l:b=a:=T b (by rw [q];simp);subst l;rw [hK (by rw [q];simp)] at e;cases e)
   have hM:Mod K M (yf s₁.heap H):=⟨f,W O,⟨G,W c,y⟩,let ⟨mc,h1,h2⟩:=j;⟨mc,W h1,h2⟩⟩
   have e0:CD P w K M (yf s₁.heap H) callerA [] s₁ H:=⟨rfl,hM,λ b o e=>LD e,Nat.le_of_eq (FA _ _),trivial,λ b c=>absurd (show b∈([]:bA) from c) (by simp),Q,.of_eq hg⟩
   refine aeq ((F _ f (W O)).run callerA [] s₁ H ⟨[.ref a],[]⟩ [.ref a] [.ref a] _ _ hr e0 (RH s₁ (.ref a)) (.cons rfl .nil) (Hj H U hS)) λ r s' h=>?_;cases r with
   | error e=>exact (t H e s' h).elim
   | ok fl =>
     cases fl with
     | next=>exact False.elim h
     | brk=>exact False.elim h
     | cont=>exact False.elim h
     | ret u =>
       obtain ⟨v,H',os,B,un,A,r',q⟩:=h;have q':v = .bl true:=q;subst q';obtain rfl:u=Value.bool true:=r';refine ⟨rfl,OldK.of_keep λ b o e=>?_,os,B⟩;cases q:H b with
       | none=>exact un.keep b o e q (by intro z;exact absurd (show b∈([]:bA) from z) (by simp)) (by simp)
       | some u =>
         rcases U b with z|⟨ob,xs,z⟩
         . rw [q] at z;cases z
         . have z2:=un.ma b ob _ z;obtain ⟨R,_⟩:=Q b _ z;obtain ⟨e2,_⟩:=A b _ z2;rw [e] at R;cases R;exact e2
 cases D:K.lookup a with
 | some o =>
   have e:=L a o D;rw [i] at e;cases e;refine C (λ _=>none) (λ _ => .inl rfl) (.inr ⟨_,vs.toArray,_,D,rfl,rfl,rfl,by rw [abd,YD];exact Y,by simpa using rv⟩) (λ b u z=>by have g:(none:Option HO)=some u:=z;cases g) (λ b z=>absurd rfl z) λ z=>absurd rfl z
 | none =>
   refine C (λ b=>if b=a then some (.AF { cls:=.type "list",data:=.seq vs.toArray } (.lst (N.map V.int))) else none) (λ b=>?_) (.inl (.inr ⟨{ cls:=.type "list",data:=.seq vs.toArray },abE rfl⟩)) (λ b u z=>?_) (λ b z=>?_) λ _=>D
   . by_cases c:b=a
     . exact .inr ⟨_,_,abE c⟩
     . exact .inl (abC c)
   .
    by_cases c:b=a
    . have g:=(abE c).symm.trans z;cases g;subst c;exact ⟨i,by rw [CT];exact Y,vs,_,rv,i⟩
    . have g:=(abC c).symm.trans z;cases g
   . by_cases c:b=a
     . exact c
     . exact absurd (abC c) z
def inClass (s:Stmt) (j:Nat):Stmt:=match s with
 | .ClassDef _ _ _ b _ _ _ _ _ _ _=>b.getD j (.Pass ⟨0,0,0,0⟩)
 | _ => .Pass ⟨0,0,0,0⟩
def cU (s:Stmt):Arguments:=match s with
 | .FunctionDef _ a _ _ _ _ _ _ _ _=>a
 | _=>{ posonlyargs:=[],args:=[],vararg:=none,kwonlyargs:=[],kw_defaults:=[],kwarg:=none,defaults:=[]}
def bH (s:Stmt):List Stmt:=match s with
 | .FunctionDef _ _ b _ _ _ _ _ _ _=>b
 | _=>[]
def ap (s:Stmt):Scope:=match s with
 | .FunctionDef _ _ _ _ _ _ S _ _ _=>S
 | _=>{ kind:=.function,names:=[],isGenerator:=false,isCoroutine:=false }
abbrev Bg:GJ:=λ _ _ _ _ _ _=>False
abbrev E0:XK:=λ _ _ _=>False
def Ak:Passes Bg X E0:=λ Z Z Z Z Z Z Z h=>h.elim
structure Ic (K:aA) (x qual:Str) (st:Stmt) (f:ak) (fd:FuncData):Prop where
 ex:∃ (oc:au) (od:Option ak) (kV doc pm:au) (an:Option ak) (bC ct:au) (xV:Array (jA)),
   fd=W.fnOf x qual (cU st) (bH st) (ap st) .none kV doc pm an bC ct/\K.lookup f=some ⟨oc,od,.func fd,xV⟩/\W.codeIn K bC qual=true
 kp:W.keepIn K (.ref f)=true
section
variable {P:aZ} {w:aU} {K:aA} {mg:cH} {base:aM}
def Ic.ok {st:Stmt} {sp:Sp} (F:Ic K x qual st f a) (S:aC N p (ap st)) (len:∀ vs H Q E,sp vs H Q E->vs.length=p.length) (e:∀ (b:au) (A:Around) (outer:List Env) (s:Shared) (H:Hp) (vs:az) (Q:VK) (E:XK),cK k (A.deeper (envOfC qual (ap st) s.heap.objs.size f b))->sp vs H Q E ->
     ∃ t,qy (fq Bg P w K mg base N qual (ap st) f b A outer s H E).Hw (bH st) t/\t { nx:=λ Z H'=>Q .cT H',rt:=Q } (start N vs) H):gX P w K mg base Bg (k+1) f a p sp:=by
 obtain ⟨o,O,kV,d,m,j,b,ct,X,rfl,l,i⟩:=F.ex;refine Fl l i S len λ A outer s H vs Q E g c=>?_;obtain ⟨t,h,q⟩:=e b A outer s H vs Q E g c;exact ⟨t,h.Hw,q⟩
def Ic.binds {st:Stmt} {c:cm} (F:Ic K x qual st f e) (h:∀ (kV d p:au) (a:Option ak) (b ct:au) (us:bq),us.length=c.length->bindArgs (W.fnOf x qual (cU st) (bH st) (ap st) .none kV d p a b ct) ⟨us,[]⟩=pure (c.zip us)):Binds K e c []:=by
 obtain ⟨o,O,kV,d,p,a,b,ct,X,rfl,l,q⟩:=F.ex;exact .all (h kV d p a b ct)
def PY {st:Stmt} {o:au} {O:Option ak} {X:Array (jA)} {kV:au} (l:K.lookup f=some ⟨o,O,.func (W.fnOf x qual (cU st) (bH st) (ap st) .none kV d p a b ct),X⟩) (c:W.codeIn K b qual=true) (k:W.keepIn K (.ref f)=true):Ic K x qual st f (W.fnOf x qual (cU st) (bH st) (ap st) .none kV d p a b ct):=⟨⟨o,O,kV,d,p,a,b,ct,X,rfl,l,c⟩,k⟩
end
def Fj (h:cK k A):A.units+1<cLine:=abj (Nat.add_le_add_left (by decide:1<=64) _) h.units
def aO {n:Nat} (h:n<=1000):n<sizeLine:=abj h (by decide)
section
variable {X:Cx}
def pv (i:Nat) (h:autoParam (X.N[i]?=some x) za_._auto_1) (a:U6 X.env.scope x:=by first|exact Or.inl rfl|exact Or.inr (Or.inl rfl)|exact Or.inr (Or.inr rfl)) (H:autoParam (xB x) zb_._auto_1) (q:autoParam ((x == ("__classdict__" : Str))=false) zb_._auto_1):PE X (.Name x p) (GS i):=O4 h a H q
end
def dE {A B:Prop} (h:B):if false=true then A else B:=by
 rw [abC abu];exact h
def fE {A B:Prop} (h:A):if true=true then A else B:=by
 rw [abE rfl];exact h
def iH {c A B:Prop} [Decidable c] (H:c) (h:B):if (!decide c)=true then A else B:=by
 rw [aaM H];exact dE h
def aE (H h:Hp):Prop:=∀ b o,H b=some o->h b=some o
def aE.refl (H:Hp):aE H H:=λ Z Z h=>h
def aE.trans (a:aE H d) (b:aE d H2):aE H H2:=λ c o h=>b c o (a c o h)
def aE.free (e:aE H H') (h:H' l=Option.none):H l=Option.none:=by
 cases q:H l with
 | none=>rfl
 | some o =>
   rw [e l o q] at h;cases h
def aE.seq {K:aA} (e:aE H H') (h:aY K H a xs):aY K H' a xs:=by
 rcases h with (h|⟨o,h⟩)|h
 . exact .inl (.inl (e _ _ h))
 . exact .inl (.inr ⟨o,e _ _ h⟩)
 . exact .inr h
section
variable {κ:Type} [DecidableEq κ]
def Kl {a:List (κ×V)} {k:κ} (h:gW a k=none):¬ k∈a.map (·.1):=by
 intro m;obtain ⟨p,H,e⟩:=abm.mp m;have q:(a.any λ K=>decide (K.1=k))=true:=List.any_eq_true.mpr ⟨p,H,aaM e⟩;rw [kq,h] at q;exact absurd q (by simp)
theorem Eu:∀ {l:List κ} {k:κ},l.Nodup->¬ k∈l->(l++[k]).Nodup
 | [],k,_,_=>by simp
 | a::r,k,h,H=>by
   obtain ⟨b,c⟩:=abZ.mp h;show (a::(r++[k])).Nodup;refine abZ.mpr ⟨λ m=>?_,Eu c λ m=>H (aah.mpr (Or.inr m))⟩;rcases aaY.mp m with q|q
   . exact b q
   . exact H (aah.mpr (Or.inl (aac.mp q).symm))
def Lg {a:List (κ×V)} (v:V) (H:(a.map (·.1)).Nodup) (h:gW a k=none):((putK a k v).map (·.1)).Nodup:=by
 rw [IQ v h,aap];exact Eu H (Kl h)
end
end L2
namespace Mth
def NK {g l:Int} (h:0<=g) (H:0<l):Int.gcd l (g % l)=Int.gcd g l:=by
 obtain ⟨a,rfl⟩:=ada h;obtain ⟨b,rfl⟩:=ada (adD H);show Nat.gcd b (((a:Int) % (b:Int))).natAbs=Nat.gcd a b;have:(((a:Int) % (b:Int))).natAbs=a % b:=by rw [<- Int.natCast_emod];rfl
 rw [this,Nat.gcd_comm a b,Nat.gcd_comm b,<- Nat.gcd_rec]
def UT {g:Int} (h:0<=g):((Int.gcd g 0:Nat):Int)=g:=by
 rw [Int.gcd_zero_right];lia
def xF {a b:Int} (H:0<a) (h:0<a * b):0<b:=by
 rcases (by lia:0<b\/b<=0) with q|q
 . exact q
 . have:=adT (adD H) (by lia:0 <= -b);rw [agk] at this;lia
structure Fr (t b q r:Int):Prop where
 pos:0<r
 ED:q * b=t * r
 cop:Int.gcd q r=1
 Tk:q.natAbs<=t.natAbs
 Ts:r.natAbs<=b.natAbs
def um {c q:Int} (h:0<c):q.natAbs<=(c * q).natAbs:=by
 rw [aeG];exact Nat.le_mul_of_pos_left _ (by lia)
def Ib {t b c:Int} (e:b≠0) (f:c=((Int.gcd t b:Nat):Int)):0<c/\c<=b.natAbs/\(0<b->Fr t b (t.fdiv c) (b.fdiv c))/\(b<0->Fr t b (t.fdiv (-c)) (b.fdiv (-c))):=by
 have o:0<Int.gcd t b:=Int.gcd_pos_iff.mpr (.inr e);have C:0<c:=by lia
 have D:c ∣ t:=f ▸ Int.gcd_dvd_left t b;have i:c ∣ b:=f ▸ Int.gcd_dvd_right t b;obtain ⟨q,H⟩:=D;obtain ⟨r,h⟩:=i;have p:r≠0:=by rintro rfl;rw [Int.mul_zero] at h;exact e h
 have d:c<=b.natAbs:=by
   rw [h,aeG];have:c.natAbs * 1<=c.natAbs * r.natAbs:=Nat.mul_le_mul_left _ (by lia);lia
 have E:t.fdiv c=q:=by rw [H,aea _ (by lia)]
 have j:b.fdiv c=r:=by rw [h,aea _ (by lia)]
 have k:t.fdiv (-c) = -q:=by rw [show t = -c * -q by rw [H,Int.neg_mul_neg],aea _ (by lia)]
 have l:b.fdiv (-c) = -r:=by rw [show b = -c * -r by rw [h,Int.neg_mul_neg],aea _ (by lia)]
 have g:Int.gcd q r=1:=by
   have a:Int.gcd (c * q) (c * r)=c.natAbs * Int.gcd q r:=Int.gcd_mul_left c q r;rw [<- H,<- h] at a;have n:c.natAbs=Int.gcd t b:=by lia
   rw [n] at a;have m:Int.gcd t b * Int.gcd q r=Int.gcd t b * 1:=by rw [<- a,agh]
   exact Nat.eq_of_mul_eq_mul_left o m
 have L:q.natAbs<=t.natAbs:=H ▸ um C;have s:r.natAbs<=b.natAbs:=h ▸ um C;refine ⟨C,d,λ B=>?_,λ B=>?_⟩
 . rw [E,j];exact ⟨xF C (h ▸ B),by rw [H,h,Int.mul_assoc,Int.mul_left_comm],g,L,s⟩
 . rw [k,l];refine ⟨xF C (by rw [agk,<- h];lia),?_,by rw [Int.gcd_neg,Int.neg_gcd];exact g,by lia,by lia⟩;rw [H,h,Int.neg_mul,agk,Int.mul_assoc,Int.mul_left_comm]
def Bd (n:Nat) (x:Int):Prop:=x.natAbs<2 ^ n
def Bd.mono {n:Nat} {x:Int} (h:Bd m x) (l:m<=n):Bd n x:=aba h (aci (by decide) l)
def Bd.mul {x y:Int} (h:Bd m x) (k:Bd n y):Bd (m+n) (x * y):=by
 unfold Bd at *;rw [aeG,Nat.pow_add];exact Nat.mul_lt_mul'' h k
def Bd.add {x y:Int} (h:Bd m x) (k:Bd m y):Bd (m+1) (x+y):=by
 unfold Bd at *;rw [aez];have:=Int.natAbs_add_le x y;lia
def Bd.neg {x:Int} (h:Bd m x):Bd m (-x):=by unfold Bd at *;rw [Int.natAbs_neg];exact h
def Bd.sub {x y:Int} (h:Bd m x) (k:Bd m y):Bd (m+1) (x - y):=by rw [Int.sub_eq_add_neg];exact h.add k.neg
def Bd.le {x y:Int} (h:Bd m y) (k:x.natAbs<=y.natAbs):Bd m x:=abj k h
def Bd.log {x:Int} (h:Bd n x) (a:0<n):x.natAbs.log2<n:=by
 by_cases H:x.natAbs=0
 . rw [H];simpa using a
 . exact (Nat.log2_lt H).mpr h
def Fr.Ud {t b q r:Int} (h:Fr t b q r) (k:Bd n t):Bd n q:=k.le h.Tk
def Fr.U2 {t b q r:Int} (h:Fr t b q r) (k:Bd n b):Bd n r:=k.le h.Ts
end Mth
namespace Bit
noncomputable def rooms (n:Nat):bi:=(List.range 61).filter n.testBit
def gB {k:Nat}:k∈rooms n↔k<61/\n.testBit k=true:=by
 unfold rooms;rw [acq,aa4]
def qC (n:Nat):(rooms n).Pairwise (· < ·):=(af1).filter _
def jl {n m k:Nat} (h:n<2 ^ m) (H:m<=k):n.testBit k=false:=Nat.testBit_lt_two_pow (aba h (aci (by decide) H))
def DC {n m:Nat} (h:n<2 ^ m) (f:m<=61):(List.range m).filter n.testBit=rooms n:=by
 unfold rooms;obtain ⟨d,c⟩:∃ d,61=m+d:=⟨61 - m,by lia⟩
 have e:List.range 61=List.range (m+d):=by rw [c]
 rw [e,List.range_add,adj];have:(List.map (m + ·) (List.range d)).filter n.testBit=[]:=by
   rw [af3];intro a H;obtain ⟨b,Z,rfl⟩:=abm.mp H;rw [jl h (by lia)];exact abu
 rw [this,acB]
noncomputable def sumOf (l:bi):Nat:=l.foldl (λ n r=>n ||| 2 ^ r) 0
theorem BO:∀ (l:bi) (a k:Nat),(l.foldl (λ n r=>n ||| 2 ^ r) a).testBit k=(a.testBit k || decide (k∈l))
 | [],a,k=>by simp
 | r::l,a,k=>by
   rw [ae8,BO l,afL,afh,Bool.or_assoc];congr 1;by_cases h:r=k
   . subst h;simp
   . have:decide (k∈r::l)=decide (k∈l):=by simp [aef h]
     rw [this];simp [h]
def nG (l:bi) (k:Nat):(sumOf l).testBit k=decide (k∈l):=by
 unfold sumOf;rw [BO];simp
def IT {l:bi} {m:Nat} (h:∀ r∈l,r<m):sumOf l<2 ^ m:=by
 refine aeD _ λ i H=>?_;rw [nG];exact aaL λ q=>absurd (h i q) (by lia)
def Bs {l:bi} (h:∀ r∈l,r<61) (i:l.Pairwise (· < ·)):rooms (sumOf l)=l:=by
 have G:∀ k,k∈rooms (sumOf l)↔k∈l:=λ k=>by
   rw [gB,nG];constructor
   . rintro ⟨Z,q⟩;exact adx q
   . intro q;exact ⟨h k q,aaM q⟩
 have u:∀ (a b:bi),a.Pairwise (· < ·)->b.Pairwise (· < ·)->(∀ k,k∈a↔k∈b)->a=b:=by
   intro a;induction a with
   | nil =>
     intro b Z Z H;cases b with
     | nil=>rfl
     | cons y b=>exact absurd ((H y).mpr aaW) (by simp)
   | cons x a I =>
     intro b f g H;cases b with
     | nil=>exact absurd ((H x).mp aaW) (by simp)
     | cons y b =>
       obtain ⟨c,d⟩:=ago.mp f;obtain ⟨e,L⟩:=ago.mp g;have X:x=y:=by
         rcases aah.mp ((H x).mp aaW) with q|q
         . exact q
         . rcases aah.mp ((H y).mpr aaW) with Q|Q
           . exact Q.symm
           . have:=e x q;have:=c y Q;lia
       subst X;rw [I b d L λ k=>?_];constructor
       . intro q;rcases aah.mp ((H k).mp (aar _ q)) with z|z
         . subst z;exact absurd (c k q) (adl _)
         . exact z
       . intro q;rcases aah.mp ((H k).mpr (aar _ q)) with z|z
         . subst z;exact absurd (e k q) (adl _)
         . exact z
 exact u _ _ (qC _) i G
noncomputable def parts (l:bi):bi:=l.foldl (λ p r=>p++p.map (· ||| 2 ^ r)) [0]
def Cg {p r:Nat} (h:p<2 ^ r):p ||| 2 ^ r=p+2 ^ r:=by
 have:=afB h 1;rw [agh] at this;rw [Nat.or_comm,<- this,aei]
structure Ok (ps l:bi):Prop where
 len:ps.length=2 ^ l.length
 first:ps[0]?=some 0
 last:ps[ps.length - 1]?=some (sumOf l)
 rise:ps.Pairwise (· < ·)
 sub:∀ p∈ps,∀ k,p.testBit k=true->k∈l
def QA:Ok [0] []:=⟨rfl,rfl,rfl,by simp,λ p H k h=>by
 have:p=0:=by simpa using H
 subst this;simp at h⟩
def LG {r:Nat} (h:Ok d l) (o:∀ x∈l,x<r):Ok (d++d.map (· ||| 2 ^ r)) (l++[r]):=by
 have s:∀ p∈d,p<2 ^ r:=λ p m=>aeD _ λ i t=>by
   cases e:p.testBit i with
   | false=>rfl
   | true=>have:=o i (h.sub p m i e);lia
 have n:0<d.length:=by rw [h.len];exact Nat.two_pow_pos _
 refine ⟨?_,?_,?_,?_,?_⟩
 . rw [aae,CT,h.len,aae,aa3,aez];lia
 . rw [aaG n];exact h.first
 .
  rw [aae,CT,abW (by lia),aag];have e:d.length+d.length - 1 - d.length=d.length - 1:=by lia
  rw [e,h.last];show some (sumOf l ||| 2 ^ r)=some (sumOf (l++[r]));unfold sumOf;rw [adz];rfl
 .
  rw [afe];refine ⟨h.rise,?_,λ a H b f=>?_⟩
  . rw [List.pairwise_map];refine afS ?_ h.rise;intro a b H f W;rw [Cg (s a H),Cg (s b f)];lia
  . obtain ⟨c,g,rfl⟩:=abm.mp f;have:=s a H;rw [Cg (s c g)];lia
 .
  intro p m k j;rcases aaY.mp m with q|q
  . exact act _ (h.sub p q k j)
  .
   obtain ⟨c,g,rfl⟩:=abm.mp q;rw [afL,Bool.or_eq_true] at j;rcases j with z|z
   . exact act _ (h.sub c g k z)
   . rw [afh] at z;have:=adx z;subst this;exact abS _ (by simp)
theorem EU:∀ (b a p:bi),Ok p a->(a++b).Pairwise (· < ·)->Ok (b.foldl (λ p r=>p++p.map (· ||| 2 ^ r)) p) (a++b)
 | [],a,p,h,_=>by simpa using h
 | r::b,a,p,h,H=>by
   rw [ae8];have e:a++r::b=(a++[r])++b:=by simp
   have c:∀ x∈a,x<r:=λ x d=>(afe.mp H).2.2 x d r aaW;rw [e] at H |-;exact EU b (a++[r]) _ (LG h c) H
def HP {n r:Nat} (f:r<61) (h:n.testBit r=false):(rooms (n ||| 2 ^ r)).length=(rooms n).length+1:=by
 have c:∀ (l:bi),l.Nodup->(l.filter (n ||| 2 ^ r).testBit).length=(l.filter n.testBit).length+(if r∈l then 1 else 0):=by
   intro l;induction l with
   | nil=>intro Z;rfl
   | cons x l i =>
     intro b;obtain ⟨H,a⟩:=abZ.mp b;have e:=i a;have g:(n ||| 2 ^ r).testBit x=(n.testBit x || decide (r=x)):=by rw [afL,afh]
     rw [afy,afy,g];by_cases q:r=x
     . subst q;rw [h];simp only [decide_true,Bool.or_true,ae2,ab9,e,abC H,aah,true_or];simp
     . have Q:(r∈x::l)↔r∈l:=by simp [q]
       have d:decide (r=x)=false:=aaL q;rw [d,Bool.or_false];cases n.testBit x with
       | true=>simp only [ae2,ab9,e];by_cases z:r∈l<;>simp [z,q]<;>lia
       | false=>simp only [adr,aeg,e];by_cases z:r∈l<;>simp [z,q]
 have:=c (List.range 61) List.nodup_range;rw [abE (aa4.mpr f)] at this;exact this
end Bit
namespace L2
open PySem PySem.Spec PyProof.Rows Mth
def DK:bootBuiltins "abs" = some (.builtin "abs"):=by decide +kernel
def cR:bootBuiltins "len" = some (.builtin "len"):=by decide +kernel
def cM:bootBuiltins "isinstance" = some (.builtin "isinstance"):=by decide +kernel
def JN:bootBuiltins "all" = some (.builtin "all"):=by decide +kernel
def kh:bootBuiltins "tuple" = some (.type "tuple"):=by decide +kernel
def Ej:bootBuiltins "list" = some (.type "list"):=by decide +kernel
def rW:bootBuiltins "int" = some (.type "int"):=by decide +kernel
def DQ:bootBuiltins "bool" = some (.type "bool"):=by decide +kernel
def DZ {x:Int} (h:Bd n x):Builtin.Int.intBits x<=n:=ael.mpr h
def MQ {n:Nat} {x:Int} (h:Builtin.Int.intBits x<=n):Bd n x:=ael.mp h
section
variable {X:Cx}
def NF (i j:Int):Prop:=∃ m n,Bd m i/\Bd n j/\m+n<=100000000
def Il (_ j:Int):Prop:=j≠0/\Bd 8999 j
def LO:jo X (binaryOp .Mult) (rI NF λ i j => .int (i * j)):=Re λ Z Z Z Z Z Z Z a q=>by
 obtain ⟨m,n,h,H,b⟩:=a;exact mul_int q (IntMulOk.of_le (DZ h) (DZ H) (by lia))
def KI:jo X (binaryOp .FloorDiv) (rI Il λ i j => .int (i.fdiv j)):=Re λ Z Z Z Z Z Z Z h q=>by
 have H:Bd 8999 _:=h.2;exact floordiv_int h.1 q (.inl (PyProof.noPylong_of_log2 (aba (H.log (by decide)) (by decide))))
inductive Tu (K:aA) (x:V) (y:V) (H:Hp) (Q:VK):Prop|mk (p xs i v:_) (_:x = .ref p) (_:y = .int i) (_:(aY K H p xs\/bP K H p xs)) (_:tf xs i=some v) (_:Q v H)
def aB:UZ X (Tu X.K):=by
 intro V S a s g H x y v u Q I r R h d;obtain ⟨p,f,i,w,e,E,b,c,q⟩:=h;rcases b with b|b
 . exact MT V S a s g H x y v u Q I r R ⟨p,f,i,w,e,E,b,c,q⟩ d
 . exact P0 V S a s g H x y v u Q I r R ⟨p,f,i,w,e,E,b,c,q⟩ d
def iJ:jg X (.builtin "isinstance") (λ xs H Q=>∃ x c t C b,xs=[x,c]/\ss X.K H x t/\RelV c C/\W.kitOne X.K t C=some b/\Q (.bl b) H):=by
 intro p s g H xs U Q I r h;obtain ⟨x,c,t,C,b,rfl,ty,R,e,q⟩:=h;obtain ⟨u,w,rfl,f,d⟩:=vals2 r;have:w=C:=by
   cases c with
   | cT=>cases d;cases R;rfl
   | bl b=>cases d;cases R;rfl
   | ref a=>cases d;cases R;rfl
   | ty n=>cases d;cases R;rfl
   | int i=>exact absurd e (by obtain ⟨k,rfl⟩:=R;intro z;unfold W.kitOne W.kitCls at z;cases ty<;>simp at z)
   | str i=>exact absurd e (by obtain ⟨k,rfl⟩:=R;intro z;unfold W.kitOne W.kitCls at z;cases ty<;>simp at z)
   | GH i=>exact absurd e (by obtain ⟨k,rfl⟩:=R;intro z;unfold W.kitOne W.kitCls at z;cases ty<;>simp at z)
   | N5 i=>exact absurd e (by obtain ⟨k,rfl⟩:=R;intro z;unfold W.kitOne W.kitCls at z;cases ty<;>simp at z)
 subst this;exact FS I f ty e λ T=>⟨.bl b,H,I.tok _,rfl,q⟩
end
def hJ (K:aA) (m:cH) (x:Str) (st:Stmt):Prop:=∃ f F,m x=some (.ref f)/\Ic K x x st f F
def Def (P:aZ) (w:aU) (K:aA) (m:cH) (base:aM) (x:Str) (k:Nat) (p:cm) (s:Sp):Prop :=
 ∃ f F,m x=some (.ref f)/\W.keepIn K (.ref f)=true/\Binds K F p []/\gX P w K m base Bg k f F p s
section
variable {P:aZ} {w:aU} {K:aA} {mg:cH} {base:aM}
def hJ.def {st:Stmt} {sp:Sp} (h:hJ K mg x st) (S:aC N p (ap st)) (len:∀ vs H Q E,sp vs H Q E->vs.length=p.length)
   (i:∀ (kV d n:au) (c:Option ak) (b ct:au) (us:bq),us.length=p.length->bindArgs (W.fnOf x x (cU st) (bH st) (ap st) .none kV d n c b ct) ⟨us,[]⟩=pure (p.zip us))
   (e:∀ (f:ak) (b:au) (A:Around) (outer:List Env) (s:Shared) (H:Hp) (vs:az) (Q:VK) (E:XK),cK k (A.deeper (envOfC x (ap st) s.heap.objs.size f b))->sp vs H Q E ->
     ∃ t,qy (fq Bg P w K mg base N x (ap st) f b A outer s H E).Hw (bH st) t/\t { nx:=λ Z a=>Q .cT a,rt:=Q } (start N vs) H):Def P w K mg base x (k+1) p sp:=by
 obtain ⟨f,g,j,F⟩:=h;exact ⟨f,g,j,F.kp,F.binds i,F.ok S len λ b A outer s H vs Q E l m=>e f b A outer s H vs Q E l m⟩
def Ic.N6 {st:Stmt} {p:Str} (F:Ic K x q st f e)
   (h:∀ (kV d c:au) (a:Option ak) (b ct:au) (u:au),bindArgs (W.fnOf x q (cU st) (bH st) (ap st) .none kV d c a b ct) ⟨[u],[]⟩=pure [(p,u)]) (s:Shared) (u:au):BindsTo s e ⟨[u],[]⟩ [(p,u)]:=by
 obtain ⟨o,O,kV,d,c,a,b,ct,X,rfl,l,Q⟩:=F.ex;exact .of_eq (h kV d c a b ct u)
end
section
variable {X:Cx} {x:Str} {p pos:Pos} {e:Expr} {es:List Expr} {t:TA} {k:Nat} {ps:cm} {sp:Sp}
def aw (D:Def X.prog X.w X.K X.mg X.base x k ps sp) (i:cK k X.A) (h:PA X (e::es) t) (b:autoParam (Gl X x) za_._auto_1) (n:autoParam (xB x) zb_._auto_1)
   (a:autoParam (zC X e es) za_._auto_1) (g:autoParam (BP X es pos) za_._auto_1):PE X (.Call (.Name x p) (e::es) [] pos) (xI sp [] E0 t):=by
 obtain ⟨f,j,d,c,H,F⟩:=D;exact ug F i b d c H .nil Ak h n a g
end
def Cm {n:Int} {m:Nat} (h:(W.WData.int n).weight<=m):Bd m n:=by
 refine MQ ?_;simpa only [W.WData.weight,Builtin.Int.intBits] using h
end L2
namespace Att
open PySem PySem.W PySem.Calls PyProof.Rows Mth
def yB {l:OpenLaw} {X:(cH)->aM->Prop} {y:aU->aM->Prop} {d:DefRec}
   (K:l.most=some n) (T:d.params.defaults=[])
   (c:∀ (w:aU) (s₀ s:Shared) (m M:cH) (F:ak) (o:Obj) (p C D:au) (a:ak) (vs:bq) (N:List Int),
     Ground q L [] X w s₀ m M s.heap->y w s.heap ->
     s.heap.get? F=some o->o.data = .func (docDef d.name d.params d.body d.scope p C D)->s.heap.CodeRec C d.name->m d.name=some (.ref F) ->
     s.heap.get? a=some { cls:=.type "list",data:=.seq vs.toArray }->IntsAre vs N->N.length<=n->(∀ z∈N,Bd 1048576 z)->s.gens=#[] ->
     codeAny (model l.prog w) callerA (.call (.ref F) ⟨[.ref a],[]⟩) (λ r s'=>r = .ok (.ret (.bool true))/\OldK s.heap s'.heap/\s'.os=s.os/\AllBare s'.gens) s) :
   WalkO q L X y l.row.toRowW d [] (λ f vs=>PySem.call f vs):=by
 intro w s₀ s m M G Y F o p C D i kV Q x W e R B args v as g A U t I;obtain rfl:i = .none:=Dflts.none e T;obtain rfl:kV = .none:=Dflts.noKw e;obtain ⟨a,vs,N,rfl,rfl,O,h,H⟩:=Hf K g t;have E:∀ z∈N,Bd 1048576 z:=λ z V=>by
   have j:=layableW_arg A _ (aac.mpr rfl);have b:=layableW_item j (.int z) (abm.mpr ⟨z,V,rfl⟩);exact L2.Cm (abk (layableW_iff.mp b).2.2 (by decide))
 refine enter_call (aeq (c w s₀ s m M F o p C D a vs N G Y Q (fd_plain x) W R O h H E B) λ r s' S=>?_);obtain ⟨rfl,b,k,u⟩:=S;exact ⟨.inl ⟨.bool true,.bool true,[],rfl,λ Z=>rfl,.bool true,Fz l _,λ Z=>⟨List.Pairwise.nil,λ Z J=>(nomatch J)⟩⟩,b,k,u⟩
end Att
namespace L2
open PySem PySem.Spec PyProof.Rows Mth
variable {H H':Hp} {elts:List Expr} {g:TG} {C0 np qa:Pos} {o:HO} {oe:Obj} {qual:Str} {t' x1:Nat} {te:TE} {σ:St}
inductive KN (K:aA) (vs:az) (H:Hp) (Q:VK) (_E:XK):Prop|mk (a:ak) (ns:List Int) (_:vs=[.ref a]) (_:aY K H a (ns.map V.int)) (_:ns.length<=63) (_:(∀ z∈ns,Bd 1048576 z)) (_:∀ H',Q (.bl true) H')
def Kr {l:W.OpenLaw} {X:(cH)->aM->Prop} {y:aU->aM->Prop} {d:DefRec} {K:Params->aA} {x:Str} (I:l.most=some 63) (t:d.params.defaults=[]) (J:cK k callerA) (A:∀ (w:aU) (h:aM),y w h->(K w.params).In h) (F:∀ (w:aU) (m:cH) (j:ak) (h:aM),(K w.params).In h->h.Ns mainGlobals m->m d.name=some (.ref j) ->
     ∃ n:FuncData,(∀ (s:Shared) (u:au),BindsTo s n ⟨[u],[]⟩ [(x,u)]) /\
       ∀ base:aM,(K w.params).In base->base.Ns mainGlobals m->gX l.prog w (K w.params) m base Bg k j n [x] (KN (K w.params))) :
   W.WalkO q L X y l.row.toRowW d [] (λ f vs=>PySem.call f vs):=by
 refine Att.yB I t λ w s₀ S m mb j o pm M D a vs N G Y V U qM R O i c E C=>?_;have p:=A w _ Y;obtain ⟨n,B,r⟩:=F w m j _ p G.T.g R;exact Ij p G.T.g G.T.b G.T.builtins G.T.nolimit C O i (abk c (by decide)) J r B (λ H Q v=>⟨a,N,rfl,v,c,E,λ Z=>rfl⟩) λ H e s' z=>z
section
variable {X:Cx}
inductive Ng (x:V) (y:V) (H:Hp) (Q:VK):Prop|mk (i j:_) (_:x = .int i) (_:y = .int j) (_:∀ r:Int,r=i+j->Q (.int r) H)
inductive Tw (x:V) (y:V) (H:Hp) (Q:VK):Prop|mk (i j:_) (_:x = .int i) (_:y = .int j) (_:∀ r:Int,r=i - j->Q (.int r) H)
inductive SU (x:V) (y:V) (H:Hp) (Q:VK):Prop|mk (i j:_) (_:x = .int i) (_:y = .int j) (_:NF i j) (_:∀ r:Int,r=i * j->Q (.int r) H)
inductive TB (x:V) (y:V) (H:Hp) (Q:VK):Prop|mk (i j:_) (_:x = .int i) (_:y = .int j) (_:Il i j) (_:∀ r:Int,r=i.fdiv j->Q (.int r) H)
inductive RI (x:V) (y:V) (H:Hp) (Q:VK):Prop|mk (i j:_) (_:x = .int i) (_:y = .int j) (_:Ik i j) (_:∀ r:Int,r=i ^ j.toNat->Q (.int r) H)
inductive SC (x:V) (y:V) (H:Hp) (Q:VK):Prop|mk (i j:_) (_:x = .int i) (_:y = .int j) (_:Ik i j) (_:∀ r:Int,r=i * 2 ^ j.toNat->Q (.int r) H)
inductive VM (x:V) (y:V) (H:Hp) (Q:VK):Prop|mk (i j:_) (_:x = .int i) (_:y = .int j) (_:0<=j) (_:∀ r:Int,r=i / 2 ^ j.toNat->Q (.int r) H)
inductive aaB (x:V) (y:V) (H:Hp) (Q:VK):Prop|mk (i j:_) (_:x = .int i) (_:y = .int j) (_:∀ r:Int,r=Builtin.bitOr i j->Q (.int r) H)
inductive UA (x:V) (y:V) (H:Hp) (Q:VK):Prop|mk (i j:_) (_:x = .int i) (_:y = .int j) (_:∀ r:Int,r=Builtin.bitAnd i j->Q (.int r) H)
inductive rLM (x:V) (y:V) (H:Hp) (Q:VK):Prop|mk (i j:_) (_:x = .int i) (_:y = .int j) (_:0<j) (_:∀ r:Int,0<=r->r<j->r=i % j->Q (.int r) H)
def aT:jo X (binaryOp .Add) Ng:=λ p s σ H x y v u Q I r R ⟨i,j,e,E,q⟩=>Qa p s σ H x y v u Q I r R ⟨i,j,e,E,q _ rfl⟩
def dI:jo X (binaryOp .Sub) Tw:=λ p s σ H x y v u Q I r R ⟨i,j,e,E,q⟩=>Pe p s σ H x y v u Q I r R ⟨i,j,e,E,q _ rfl⟩
def bN:jo X (binaryOp .Mult) SU:=λ p s σ H x y v u Q I r R ⟨i,j,e,E,c,q⟩=>LO p s σ H x y v u Q I r R ⟨i,j,e,E,c,q _ rfl⟩
def bB:jo X (binaryOp .FloorDiv) TB:=λ p s σ H x y v u Q I r R ⟨i,j,e,E,c,q⟩=>KI p s σ H x y v u Q I r R ⟨i,j,e,E,c,q _ rfl⟩
def zA:jo X (binaryOp .Pow) RI:=λ p s σ H x y v u Q I r R ⟨i,j,e,E,c,q⟩=>O0 p s σ H x y v u Q I r R ⟨i,j,e,E,c,q _ rfl⟩
def Ll:jo X (binaryOp .LShift) SC:=λ p s σ H x y v u Q I r R ⟨i,j,e,E,c,q⟩=>Oi p s σ H x y v u Q I r R ⟨i,j,e,E,c,q _ rfl⟩
def DT:jo X (binaryOp .RShift) VM:=λ p s σ H x y v u Q I r R ⟨i,j,e,E,c,q⟩=>Pg p s σ H x y v u Q I r R ⟨i,j,e,E,c,q _ rfl⟩
def Pj:jo X (binaryOp .BitOr) aaB:=λ p s σ H x y v u Q I r R ⟨i,j,e,E,q⟩=>RK p s σ H x y v u Q I r R ⟨i,j,e,E,q _ rfl⟩
def nK:jo X (binaryOp .BitAnd) UA:=λ p s σ H x y v u Q I r R ⟨i,j,e,E,q⟩=>OM p s σ H x y v u Q I r R ⟨i,j,e,E,q _ rfl⟩
def aX:jo X (binaryOp .Mod) rLM:=λ p s σ H x y v u Q I r R ⟨i,j,e,E,c,q⟩ =>
 Qu p s σ H x y v u Q I r R ⟨i,j,e,E,c,q _ (afE _ (by lia)) (aeA _ c) rfl⟩
def rR:jg X (.builtin "abs") (λ xs H Q=>∃ i,xs=[.int i]/\∀ r:Int,r=i.natAbs->Q (.int r) H) :=
 λ p s σ H xs u Q I r ⟨i,e,q⟩=>HQ p s σ H xs u Q I r ⟨i,e,q _ (by split<;>lia)⟩
def bz:jg X (.builtin "len") (λ xs H Q=>∃ p ys,xs=[.ref p]/\(aY X.K H p ys\/bP X.K H p ys)/\∀ r:Int,r=ys.length->Q (.int r) H) :=
 λ a s σ H xs u Q I r ⟨p,ys,e,h,q⟩=>yN a s σ H xs u Q I r ⟨p,ys,e,h,q _ rfl⟩
def aaK (t:TS):TS:=λ D σ H=>∃ P:St->Hp->Prop,t { D with nx:=P } σ H/\∀ a H',P a H'->D.nx a H'
def eW {st:Stmt} (h:PS X st t):PS X st (aaK t):=by
 intro p s σ H D I d;obtain ⟨P,b,c⟩:=d;refine c9 (h p s σ H { D with nx:=P } I b) λ f S q=>?_;cases f with
 | next =>
   obtain ⟨a,H',i,q⟩:=q;exact ⟨a,H',i,c a H' q⟩
 | ret v=>exact q
 | brk=>exact q
 | cont=>exact q
end
def tP {c A B:Prop} [Decidable c] (H:c) (h:A):if decide c=true then A else B:=by
 rw [aaM H];exact fE h
def kz {c A B:Prop} [Decidable c] (H:¬ c) (h:B):if decide c=true then A else B:=by
 rw [aaL H];exact dE h
def gi {c A B:Prop} [Decidable c] (H:c->A) (a:¬ c->B):if decide c=true then A else B:=by
 by_cases h:c
 . exact tP h (H h)
 . exact kz h (a h)
def pW {c A B:Prop} [Decidable c] (H:¬ c->A) (a:c->B):if (!decide c)=true then A else B:=by
 by_cases h:c
 . exact iH h (a h)
 . rw [aaL h];exact fE (H h)
def R1 {c A B:Prop} [Decidable c] (H:¬ c) (h:A):if (!decide c)=true then A else B:=by
 rw [aaL H];exact fE h
def cx {a b:Int}:V.int a=V.int b↔a=b:=⟨λ e=>by cases e;rfl,λ e=>by rw [e]⟩
def al (h:H p=none):aE H (upd H p o):=λ b u e=>by rw [av (ay e h)];exact e
def aE.tup {K:aA} (e:aE H H') (h:bP K H a xs):bP K H' a xs:=by
 rcases h with (h|⟨o,h⟩)|h
 . exact .inl (.inl (e _ _ h))
 . exact .inl (.inr ⟨o,e _ _ h⟩)
 . exact .inr h
def nJ {n:Nat} {x:Int} (h:autoParam (x.natAbs<2 ^ n) zb_._auto_1):Bd n x:=h
def P1 {x:Int} (n:Nat) (lo : -(2 ^ 100)<x) (H:x<2 ^ 100) (h:autoParam (100<=n) zb_._auto_1):Bd n x:=by
 have:Bd 100 x:=by unfold Bd;lia
 exact this.mono h
def qL (K:aA):W.kitOne K (.type "int") (.type "bool")=some false:=by
 show (if W.kitMeta "bool" = true then ((PySem.fastBuiltinMro "int").map (·.contains (Value.type "bool"))) else none)=some false;decide +kernel
def Hl {x y:V}:[x,y].length<=sizeLine:=by show 2<=sizeLine;decide
def Nh {x y z:V}:[x,y,z].length<=sizeLine:=by show 3<=sizeLine;decide
inductive QI (vs:az) (H:Hp) (Q:VK) (_E:XK):Prop|mk (a b:Int) (_:vs=[.int a,.int b]) (_:∀ r:Int,r=((Int.gcd a b:Nat):Int)->Q (.int r) H)
inductive BL (vs:az) (H:Hp) (Q:VK) (_E:XK):Prop|mk (t b:Int) (_:vs=[.int t,.int b]) (_:b≠0) (_:Bd 4000 b) (_:∀ q r p H',Fr t b q r->aE H H'->H' p=some (.tup [.int q,.int r])->Q (.ref p) H')
inductive AV (f:Int->Int->Int->Int->Int) (K:aA) (vs:az) (H:Hp) (Q:VK) (_E:XK):Prop|mk (p1 p2 a b c d:_) (_:vs=[.ref p1,.ref p2]) (_:bP K H p1 [.int a,.int b]) (_:bP K H p2 [.int c,.int d]) (_:0<b) (_:0<d) (_:Bd 1000 a) (_:Bd 1000 b) (_:Bd 1000 c) (_:Bd 1000 d) (_:∀ q r p H',Fr (f a b c d) (b * d) q r->aE H H'->H' p=some (.tup [.int q,.int r])->Q (.ref p) H')
inductive Iw (K:aA) (vs:az) (H:Hp) (Q:VK) (_E:XK):Prop|mk (p1 p2 a b c d:_) (_:vs=[.ref p1,.ref p2]) (_:bP K H p1 [.int a,.int b]) (_:bP K H p2 [.int c,.int d]) (_:Bd 1000 a) (_:Bd 1000 b) (_:Bd 1000 c) (_:Bd 1000 d) (_:Q (.bl (decide (a * d<c * b))) H)
inductive Dg (K:aA) (vs:az) (H:Hp) (Q:VK) (_E:XK):Prop|mk (a:ak) (ns:List Int) (k:Int) (_:vs=[.ref a,.int k]) (_:aY K H a (ns.map V.int)) (_:0<=k) (_:∀ z,(z∈ns\/z=0)->Q (.int z) H)
inductive Ia (vs:az) (H:Hp) (Q:VK) (_E:XK):Prop|mk (t b:Int) (_:vs=[.int t,.int b]) (_:0<b) (_:Bd 4000 b) (_:∀ q r p H',Fr t b q r->aE H H'->H' p=some (.tup [.int q,.int r])->Q (.ref p) H')
def vZ (X:Cx) (N':cm) (scope:Scope) (c:List (Str×ak)) (C:ak) (s:Shared) (H:Hp) (ex:bA):Cx :=
 { X with N:=N',env:=compEnvC scope c C X.env,s₀:=s,H₀:=H,outer:=X.stack,ex:=ex,fn:=λ Z=>false,pn:=[],xe:=λ Z Z=>False }
def Un.vc (u:Un f ex H H' h h') (s:Heap.SameBut C h' Wc) (d:h.get? C=none):Un f ex H H' h Wc:=by
 have N:∀ b o,h.get? b=some o->b≠C:=λ b o e z=>by rw [z,d] at e;cases e
 exact ⟨λ b o e n c a=>s.extBut b o (N b o e) (u.keep b o e n c a),λ b o e n c a=>by
     obtain ⟨sl,q⟩:=u.slot b o e n c a;exact ⟨sl,s.extBut b _ (N b o e) q⟩,u.free,λ b o e a=>by
     obtain ⟨O,q⟩:=u.there b o e a;exact ⟨O,s.extBut b O (N b o e) q⟩,u.nN,u.ma,u.nU⟩
def kB.vc (x:kB P w H h) (s:Heap.SameBut C h h') (c:H C=none):kB P w H h':=λ a o e =>
 (x a o e).dQ (λ b u d q=>s.extBut b u (λ z=>by
   subst z;rcases d with z|z
   . rw [z,e] at c;cases c
   . rw [z] at c;cases c) q) (λ Z q=>q) λ Z Z q=>q
def NN (X:Cx) (i:List Expr) (t:TT):Prop :=
 ∀ (p:List (ak×Obj)) (s:Shared) (σ:St) (H:Hp) (Q:Bool->Hp->Prop),Inv X p σ H s->t σ H Q ->
   wpAny (model X.prog X.w) X.A (forIn i true λ c r=>if r=true then do let ok <- isTrue c X.env (eval c X.env);pure (ForInStep.yield ok) else pure (ForInStep.yield r)) (TP X p σ Q) X.xe s
def abN:TT:=λ Z H Q=>Q true H
def cC:NN X [] abN:=λ Z Z Z H Z I h=>wpAny_tests_nil ⟨H,I,h⟩
def jP (a:PT X c tt):NN X [c] tt:=λ p s σ H Q I h=>wpAny_tests_one (a p s σ H Q I h)
noncomputable def fA (env:Env):List (Str×NameKind)->List (Str×ak)->List (Str×ak)
 | [],acc=>acc
 | y::r,acc=>fA env r (if (y.2 == NameKind.free)=true then (y.1,(env.cells.lookup y.1).getD 0)::acc else acc)
theorem zj (env:Env):∀ (names:List (Str×NameKind)) (acc:List (Str×ak)),(∀ y∈names,y.2 = .free->∃ c,env.cells.lookup y.1=some c) ->
   (forIn names acc λ x __s=>if (x.snd == NameKind.free)=true then do
       let __do_lift <- cellOf env x.fst
       pure (ForInStep.yield ((x.fst,__do_lift)::__s))
     else pure (ForInStep.yield __s))=(pure (fA env names acc):Sem _)
 | [],acc,_=>rfl
 | y::r,acc,h=>by
   rw [ae7];by_cases H:(y.2 == NameKind.free)=true
   .
    obtain ⟨c,e⟩:=h y aaW (adS.mp H);rw [abE H];have E:cellOf env y.1=pure c:=by unfold cellOf;rw [e]
    rw [E];simp only [pure_bind];rw [zj env r _ λ z a=>h z (aar _ a)];simp only [fA,H,ae2,e,Option.getD_some]
   . rw [abC H];simp only [pure_bind];rw [zj env r _ λ z a=>h z (aar _ a)];simp only [fA,H,aeg];rfl
def Fb {scope:Scope} {env:Env} (h:∀ y∈scope.names,y.2 = .free->∃ c,env.cells.lookup y.1=some c):closureFor scope env=pure (fA env scope.names []):=by
 simp only [closureFor];rw [zj env scope.names [] h];simp only [pure_bind]
theorem xn {env:Env}:∀ {names:List (Str×NameKind)} {acc:List (Str×ak)},(∀ y∈names,y.2 = .free->∃ c,env.cells.lookup y.1=some c)->(∀ x c,acc.lookup x=some c->env.cells.lookup x=some c) ->
   ∀ x c,(fA env names acc).lookup x=some c->env.cells.lookup x=some c
 | [],_,_,H,x,c,e=>H x c e
 | y::r,acc,h,H,x,c,e=>by
   refine xn (names:=r) (λ z b=>h z (aar _ b)) ?_ x c e;intro x c e;by_cases a:(y.2 == NameKind.free)=true
   .
    rw [abE a] at e;obtain ⟨C,E⟩:=h y aaW (adS.mp a);rw [E,Option.getD_some,adt] at e;cases q:x == y.1 with
    | true=>rw [q] at e;cases e;rw [adS.mp q];exact E
    | false=>rw [q] at e;exact H x c e
   . rw [abC a] at e;exact H x c e
theorem wX:∀ {names:List (Str×NameKind)} {acc:List (Str×ak)} {x:Str},(∃ c,acc.lookup x=some c)->∃ c,(fA env names acc).lookup x=some c
 | [],_,_,h=>h
 | y::r,acc,x,⟨c,h⟩=>by
   refine wX (names:=r) ?_;by_cases H:(y.2 == NameKind.free)=true
   . rw [abE H,adt];cases q:x == y.1 with
     | true=>exact ⟨_,rfl⟩
     | false=>exact ⟨c,h⟩
   . rw [abC H];exact ⟨c,h⟩
theorem rg:∀ {names:List (Str×NameKind)} {acc:List (Str×ak)} {y:Str×NameKind},y∈names->y.2 = .free->∃ c,(fA env names acc).lookup y.1=some c
 | z::r,acc,y,h,H=>by
   rcases aah.mp h with rfl|h
   . refine wX (names:=r) ?_;rw [abE (adS.mpr H),adt];simp
   . exact rg (names:=r) h H
def ul (h:(relabel scope env).names.lookup x=some k) (c:k = .cell\/k = .free) (g:∀ y∈scope.names,y.2 ≠ .cell):(x,NameKind.free)∈scope.names:=by
 have d:=adA h;obtain ⟨⟨n,K⟩,H,a⟩:=abm.mp d;dsimp only at a;split at a
 .
  rename_i b
  cases a;have:(K == NameKind.free)=true:=by
    simp only [abF] at b;exact b.1.1
  rw [adS.mp this] at H;exact H
 .
  cases a;rcases c with rfl|rfl
  . exact absurd rfl (g _ H)
  . exact H
theorem jf {env:Env}:∀ {names:List (Str×NameKind)} {x:Str},names.lookup x=some .free ->
   (names.map λ (n,k)=>if (k == NameKind.free && env.scope.kind == .function && env.kindOf n == some .cell) then (n,NameKind.cell) else (n,k)).lookup x=some .cell \/
   (names.map λ (n,k)=>if (k == NameKind.free && env.scope.kind == .function && env.kindOf n == some .cell) then (n,NameKind.cell) else (n,k)).lookup x=some .free
 | [],_,h=>by simp at h
 | (n,k)::r,x,h=>by
   have i:=@jf env r x;show List.lookup x ((if (k == NameKind.free && env.scope.kind == .function && env.kindOf n == some .cell)=true then (n,NameKind.cell) else (n,k))::_)=_\/List.lookup x ((if (k == NameKind.free && env.scope.kind == .function && env.kindOf n == some .cell)=true then (n,NameKind.cell) else (n,k))::_)=_;cases H:x == n with
   | true =>
     simp only [adt,H] at h;cases h;by_cases a:(NameKind.free == NameKind.free && env.scope.kind == .function && env.kindOf n == some .cell)=true
     . rw [abE a];simp [adt,H]
     . rw [abC a];simp [adt,H]
   | false =>
     simp only [adt,H] at h;by_cases a:(k == NameKind.free && env.scope.kind == .function && env.kindOf n == some .cell)=true
     . rw [abE a];simp only [adt,H];exact i h
     . rw [abC a];simp only [adt,H];exact i h
section
variable {prog:aZ} {w:aU} {A:Around} {E:au->Shared->Prop} {R:Result->Shared->Prop} {s:Shared}
def AU {E i:Expr} {acc:au} (I:Nat->Shared->Prop) (T:∀ n s,I n s->wpAny (model prog w) A (pyNext y) (λ r S=>match r with
     | none=>R (.ok .next) S
     | some v=>wpAny (model prog w) A (letOwnedTupleGo t y v) (λ Z S=>wpAny (model prog w) A (assign t env v) (λ Z f =>
         wpAny (model prog w) A (forIn l true λ c r=>if r=true then do let ok <- isTrue c env (eval c env);pure (ForInStep.yield ok) else pure (ForInStep.yield r)) (λ ok a =>
           if ok=true then wpAny (model prog w) A (eval E env) (λ x g =>
             wpAny (model prog w) A (call (.builtin "list.append") [acc,x]) (λ Z j=>∃ m,m<n/\I m j) (notedBy (model prog w) A env λ e s'=>R (.error e) s') g) (notedBy (model prog w) A env λ e s'=>R (.error e) s') a
           else ∃ m,m<n/\I m a) (notedBy (model prog w) A env λ e s'=>R (.error e) s') f) (notedBy (model prog w) A env λ e s'=>R (.error e) s') S) (notedBy (model prog w) A env λ e s'=>R (.error e) s') S) (notedBy (model prog w) A env λ e s'=>R (.error e) s') s) (n:Nat) (h:I n s) :
   codeAny (model prog w) A (.compLoop (.ListComp E [⟨t,i,l,0⟩] scope u) 0 y acc env) R s:=by
 refine codeAny_loop rfl I (λ n s B=>?_) n h;show wpAny _ A ((compTurn (.ListComp E [⟨t,i,l,0⟩] scope u) 0 y acc env).onRaise (λ x=>do noteFrame x env;theTreesLotGoes x)) _ _ s;refine wpAny_noted ?_;rw [compTurn_list];refine WE (afA (WE (ab3 (T n s B) (λ r S b=>?_) λ Z Z H=>H)));cases r with
 | none=>exact aaU b
 | some v =>
   refine WE (ab3 b (λ Z z k=>?_) λ Z Z H=>H);refine WE (ab3 k (λ Z f o=>WE (ab3 o (λ ok a d=>?_) λ Z Z H=>H)) λ Z Z H=>H);cases ok with
   | false=>exact aaU ⟨rfl,d⟩
   | true =>
     exact WE (WE (ab3 d (λ x g p=>WE (ab3 p (λ Z j q=>aaU (aaU ⟨rfl,q⟩)) λ Z Z H=>H)) λ Z Z H=>H))
end
section
def BM (w:TI) (g:TG) (T:TT) (t:TE) (n:Nat) (sl:bi):TE:=λ σ H Q=>w σ H λ J d=>∀ D,d D=none ->
 ∃ W:Nat->Nat->az->St->Hp->Prop,(∃ m,W 0 m [] (List.replicate n none++sl.map λ j=>(σ[j]?).join) (upd d D (.lst []))) /\
   ∀ i m A c H',W i m A c H' ->
     (J.stop i H'/\Q (.ref D) H') \/
     (J.go i H'/\∃ N:az->St->Hp->Prop,(∀ G a h,N G a h->∃ M,M<m/\W (i+1) M G a h)/\∀ x e,J.K9 i H' x e->g x c e λ a k=>T a k λ b h =>
       if b=true then t a h λ y f=>f D=some (.lst A)/\A.length<sizeLine/\N (A++[y]) a (upd f D (.lst (A++[y])))
       else N A a h)
end
def eS {lo:Int} {n:Nat} {t:TT} {Q:Hp->Prop} (c:Nat->az->St->Hp->Prop) (h0:c 0 [] σ H) (q:∀ i acc σ H,i<n->c i acc σ H->g (.int (lo+i)) σ H λ a j=>t a j λ b h =>
     if b=true then te a h λ y f=>f D=some (.lst acc)/\acc.length<sizeLine/\c (i+1) (acc++[y]) a (upd f D (.lst (acc++[y]))) else c (i+1) acc a h) (l:∀ acc σ H,c n acc σ H->Q H) :
   ∃ W:Nat->Nat->az->St->Hp->Prop,(∃ m,W 0 m [] σ H)/\∀ i m acc d H',W i m acc d H'->((MN lo n).stop i H'/\Q H') \/
     ((MN lo n).go i H'/\∃ N:az->St->Hp->Prop,(∀ G a h,N G a h->∃ M,M<m/\W (i+1) M G a h)/\∀ x k,(MN lo n).K9 i H' x k->g x d k λ a j=>t a j λ b h =>
       if b=true then te a h λ y f=>f D=some (.lst acc)/\acc.length<sizeLine/\N (acc++[y]) a (upd f D (.lst (acc++[y]))) else N acc a h):=by
 refine ⟨λ i m acc σ H=>m=n - i/\i<=n/\c i acc σ H,⟨n,by simp,ach _,h0⟩,?_⟩;rintro i m acc σ H ⟨rfl,s,p⟩;by_cases o:i<n
 .
  refine .inr ⟨o,c (i+1),λ G d H' r=>⟨n - (i+1),by lia,rfl,o,r⟩,λ x H' y=>?_⟩;obtain ⟨e,y⟩:=y;subst e y;exact q i acc σ _ o p
 . have e:i=n:=by lia
   subst e;exact .inl ⟨aaD _,l acc σ H p⟩
def cG {K:aA} {xs:az} {t:TT} {Q:Hp->Prop} (d:Nat->az->St->Hp->Prop) (h0:d 0 [] σ H) (s:∀ i acc σ H,i<=xs.length->d i acc σ H->aY K H a xs) (u:∀ i x acc σ H,xs[i]?=some x->d i acc σ H->g x σ H λ c k=>t c k λ b h =>
     if b=true then te c h λ y j=>j D=some (.lst acc)/\acc.length<sizeLine/\d (i+1) (acc++[y]) c (upd j D (.lst (acc++[y]))) else d (i+1) acc c h) (n:∀ acc σ H,d xs.length acc σ H->Q H) :
   ∃ W:Nat->Nat->az->St->Hp->Prop,(∃ m,W 0 m [] σ H)/\∀ i m acc f H',W i m acc f H'->((Nb K a).stop i H'/\Q H') \/
     ((Nb K a).go i H'/\∃ N:az->St->Hp->Prop,(∀ G c h,N G c h->∃ M,M<m/\W (i+1) M G c h)/\∀ x l,(Nb K a).K9 i H' x l->g x f l λ c k=>t c k λ b h =>
       if b=true then te c h λ y j=>j D=some (.lst acc)/\acc.length<sizeLine/\N (acc++[y]) c (upd j D (.lst (acc++[y]))) else N acc c h):=by
 refine ⟨λ i m acc σ H=>m=xs.length - i/\i<=xs.length/\d i acc σ H,⟨xs.length,by simp,ach _,h0⟩,?_⟩;rintro i m acc σ H ⟨rfl,r,p⟩;have q:=s i acc σ H r p;by_cases o:i<xs.length
 .
  refine .inr ⟨⟨xs,xs[i],q,by simp [o]⟩,d (i+1),λ G f H' v=>⟨xs.length - (i+1),by lia,rfl,o,v⟩,λ x H' y=>?_⟩;obtain ⟨e,y⟩:=y;subst e;exact u i x acc σ _ (y xs q) p
 . have e:i=xs.length:=by lia
   subst e;exact .inl ⟨⟨xs,q,aaD _⟩,n acc σ H p⟩
section
variable {X:Cx}
inductive Mj (x:V) (vs:az) (H:Hp) (Q:VK):Prop|mk (i:Int) (_:x = .int i) (_:vs=[]) (_:∀ b:Int,b=((Builtin.Int.intBits i:Nat):Int)->Q (.int b) H)
def FT:MtR X "int.bit_length" Mj:=by
 intro p s σ H x V v u Q I R r h;obtain ⟨i,rfl,rfl,q⟩:=h;obtain ⟨t,rfl⟩:=R;obtain rfl:=Vals.zero r;exact call_int_bit_length ⟨.int _,H,I.tok _,⟨_,rfl⟩,q _ rfl⟩
def G7 (a b:Nat):Builtin.bitOr (a:Int) (b:Int)=((a ||| b:Nat):Int):=by
 have d:decide (0<=Builtin.bitNot (a:Int))=false:=aaL (by unfold Builtin.bitNot;lia);have D:decide (0<=Builtin.bitNot (b:Int))=false:=aaL (by unfold Builtin.bitNot;lia);have n:(Builtin.bitNot (Builtin.bitNot (a:Int))).toNat=a:=by unfold Builtin.bitNot;lia
 have N:(Builtin.bitNot (Builtin.bitNot (b:Int))).toNat=b:=by unfold Builtin.bitNot;lia
 unfold Builtin.bitOr Builtin.bitAnd;rw [d,D];dsimp only;rw [n,N];unfold Builtin.bitNot;lia
def o9 (a b:Nat):Builtin.bitAnd (a:Int) (b:Int)=((a &&& b:Nat):Int):=by simp [Builtin.bitAnd]
end
noncomputable def ao (k:Nat):V:=.int (k:Int)
inductive BW (vs:az) (H:Hp) (Q:VK) (_E:XK):Prop|mk (n r:Nat) (_:vs=[ao n,ao r]) (_:Q (.bl (n.testBit r)) H)
inductive zd (vs:az) (H:Hp) (Q:VK) (_E:XK):Prop|mk (n r:Nat) (_:vs=[ao n,ao r]) (_:r<=1000) (_:Q (ao (n ||| 2 ^ r)) H)
inductive Dr (vs:az) (H:Hp) (Q:VK) (_E:XK):Prop|mk (n:Nat) (_:vs=[ao n]) (_:n<2 ^ 61) (_:∀ p H',H p=none->aE H H'->H' p=some (.lst ((Bit.rooms n).map ao))->Q (.ref p) H')
inductive Cj (vs:az) (H:Hp) (Q:VK) (_E:XK):Prop|mk (n:Nat) (_:vs=[ao n]) (_:n<2 ^ 61) (_:(Bit.rooms n).length<=8) (_:∀ p H',H p=none->aE H H'->H' p=some (.lst ((Bit.parts (Bit.rooms n)).map ao))->Q (.ref p) H')
def xH (n:Nat):(Bit.rooms n).length<=61:=by
 have:=acs n.testBit (List.range 61);rw [aax] at this;exact this
def MK (n r:Nat) {s m:Int} (es:s=(n:Int) / 2 ^ ((r:Int)).toNat) (b:m=s % 2):decide (V.int m=V.int 1)=n.testBit r:=by
 rw [Nat.testBit_eq_decide_div_mod_eq];have e:s=((n / 2 ^ r:Nat):Int):=by
   rw [es,acz];have:((2:Int) ^ r)=((2 ^ r:Nat):Int):=by rw [Int.natCast_pow];rfl
   rw [this,<- Int.natCast_ediv]
 have E:m=((n / 2 ^ r % 2:Nat):Int):=by rw [b,e];exact (Int.natCast_emod _ _).symm
 have a:(V.int m=V.int 1)↔(n / 2 ^ r % 2=1):=by rw [cx,E];lia
 exact aeS.mpr a
def DG (l:bi) (r:Nat):Bit.parts (l++[r])=Bit.parts l++(Bit.parts l).map (· ||| 2 ^ r):=by
 unfold Bit.parts;rw [adz];rfl
def L5 (n i:Nat):Bit.Ok (Bit.parts ((Bit.rooms n).take i)) ((Bit.rooms n).take i):=by
 have:=Bit.EU ((Bit.rooms n).take i) [] [0] Bit.QA (by rw [aes];exact (Bit.qC n).sublist (List.take_sublist _ _));rw [aes] at this;exact this
def bQ {a:Type} {l:List a} {i:Nat} {x:a} (h:l[i]?=some x):l.take (i+1)=l.take i++[x]:=by
 rw [ady,h];rfl
def Jy {a:Type} {xs:List a} {v:a} (h:xs[xs.length - 1]?=some v):tf xs (-1)=some v:=by
 have H:xs.length - 1<xs.length:=(QQ.mp h).1;have e:Hx xs.length (-1)=some (xs.length - 1):=by
   unfold Hx;rw [abC (by decide),abE (by lia)];congr 1;lia
 unfold tf;rw [e];exact h
def dC {l:bi} {i:Nat} (h:(l.map ao)[i]?=some x):∃ k,l[i]?=some k/\x=ao k:=by
 rw [aag] at h;cases e:l[i]? with
 | none=>rw [e] at h;cases h
 | some k=>rw [e] at h;exact ⟨k,rfl,(aaO h).symm⟩
def zT (o:Obj):Prop:=∃ v,o.data = .fields v/\v[2]?=some Value.none
def D8 (f:Obj->Obj):Prop:=∀ o,(f o).dict=o.dict/\(o.isFreed=false->(f o).isFreed=false)/\(zT o->zT (f o))
def eB {b:Type}:Sem b->Prop
 | .pure _=>True
 | .raise _=>True
 | .unsupported _=>True
 | .finish _=>True
 | .rule _ k=>eB (k ())
 | .at _ k=>eB (k ())
 | .load _ _ k=>∀ o,eB (k o)
 | .update _ _ f k=>D8 f/\eB (k ())
 | .alloc _ k=>∀ a,eB (k a)
 | .loadIfAlive _ k=>∀ o,eB (k o)
 | .point _ k=>eB (k ())
 | .register _ _=>True
 | .fresh k=>∀ t,eB (k t)
 | .ask k=>∀ t,eB (k t)
 | .choose _ _ k=>∀ n,eB (k n)
 | .os _ _ k=>∀ r,eB (k r)
 | .call ..=>False
 | .handled _ k=>∀ o,eB (k o)
 | .newGen _ k=>∀ n,eB (k n)
 | .genState _ k=>∀ x,eB (k x)
 | .resume ..=>False
 | .yield ..=>True
 | .stack k=>∀ x,eB (k x)
 | .fork ..=>True
 | .thread k=>∀ n,eB (k n)
 | .await ..=>True
def cA (h h':aM):Prop:=∀ b o,h.get? b=some o->∃ O,h'.get? b=some O/\O.dict=o.dict/\(zT o->zT O)
def cA.refl (h:aM):cA h h:=λ Z o e=>⟨o,e,rfl,id⟩
theorem cA.trans {H:aM} (x:cA h H) (y:cA H h3):cA h h3:=λ b o e =>
 let ⟨O,E,d,c⟩:=x b o e;let ⟨f,a,D,C⟩:=y b O E;⟨f,a,D.trans d,λ z=>C (c z)⟩
theorem cA.update {f:Obj->Obj} (m:D8 f):cA h (h.update a f):=λ b o e=>by
 by_cases z:a=b
 . subst z;have nf:o.isFreed=false:=(Heap.get?_some_iff.mp e).2;exact ⟨f o,aeu f e ((m o).2.1 nf),(m o).1,(m o).2.2⟩
 . exact ⟨o,(aeo h f z).trans e,rfl,id⟩
theorem cA.push {o:Obj}:cA h (h.push o):=λ b O e=>⟨O,aaJ _ e,rfl,id⟩
def Lj {j:Type} (M:Model) (d:PySem.Ctx):∀ (t:Sem j) (Q:j->Pos->Shared->Prop) (E:au->Pos->Shared->Prop) (p:Pos) (s:Shared),eB t->Sem.wp M d t Q E p s ->
   Sem.wp M d t (λ a p s'=>Q a p s'/\cA s.heap s'.heap) (λ e p s'=>E e p s'/\cA s.heap s'.heap) p s:=by
 intro t;have u:∀ (t:Sem j) (Q:j->Pos->Shared->Prop) (E:au->Pos->Shared->Prop) (p:Pos) (s s1:Shared),cA s.heap s1.heap ->
     Sem.wp M d t (λ a p s'=>Q a p s'/\cA s1.heap s'.heap) (λ e p s'=>E e p s'/\cA s1.heap s'.heap) p s1 ->
     Sem.wp M d t (λ a p s'=>Q a p s'/\cA s.heap s'.heap) (λ e p s'=>E e p s'/\cA s.heap s'.heap) p s1:=λ t Q E p s s1 k h =>
   Sem.wp_mono M d t (λ Z Z Z z=>⟨z.1,k.trans z.2⟩) (λ Z Z Z z=>⟨z.1,k.trans z.2⟩) p s1 h
 induction t with
 | pure a=>intro Q E p s Z h;rw [Sem.wp_pure] at h |-;exact ⟨h,.refl _⟩
 | raise e=>intro Q E p s Z h;rw [Sem.wp_raise] at h |-;exact ⟨h,.refl _⟩
 | unsupported w=>intro Q E p s Z h;rw [Sem.wp_unsupported] at h;exact h.elim
 | finish e=>intro Q E p s Z h;rw [Sem.wp_finish] at h;exact h.elim
 | rule t k i=>intro Q E p s m h;rw [Sem.wp_rule] at h |-;exact i () Q E p s m h
 | «at» q k i=>intro Q E p s m h;rw [Sem.wp_at] at h |-;exact i () Q E q s m h
 | load a b k i=>intro Q E p s m h;rw [Sem.wp_load] at h |-;obtain ⟨o,e,h⟩:=h;exact ⟨o,e,i o Q E p s (m o) h⟩
 | update a b f k i=>intro Q E p s m h;rw [Sem.wp_update] at h |-;exact ⟨h.1,u _ Q E p s _ (.update m.1) (i () Q E p _ m.2 h.2)⟩
 | alloc o k i=>intro Q E p s m h;rw [Sem.wp_alloc] at h |-;exact u _ Q E p s _ .push (i _ Q E p _ (m _) h)
 | loadIfAlive a k i=>intro Q E p s m h;rw [Sem.wp_loadIfAlive] at h |-;exact i _ Q E p s (m _) h
 | point l k i=>intro Q E p s m h;rw [Sem.wp_point] at h |-;exact i () Q E p s m h
 | register a k i=>intro Q E p s m h;rw [Sem.wp_register] at h;exact h.elim
 | fresh k i=>intro Q E p s m h;rw [Sem.wp_fresh] at h |-;exact i _ Q E p _ (m _) h
 | ask k i=>intro Q E p s m h;rw [Sem.wp_ask] at h |-;exact i _ Q E p s (m _) h
 | choose S n k i=>intro Q E p s m h;rw [Sem.wp_choose] at h |-;exact ⟨h.1,i _ Q E p _ (m _) h.2⟩
 | os q l k i=>intro Q E p s m h;rw [Sem.wp_os] at h |-;exact i _ Q E p _ (m _) h
 | call c h g l k i=>intro Q E p s m h;exact m.elim
 | handled own k i=>intro Q E p s m h;rw [Sem.wp_handled] at h |-;exact i _ Q E p s (m _) h
 | newGen c k i=>intro Q E p s m h;rw [Sem.wp_newGen] at h |-;exact i _ Q E p _ (m _) h
 | genState g k i=>intro Q E p s m h;rw [Sem.wp_genState] at h |-;obtain ⟨x,e,h⟩:=h;exact ⟨x,e,i _ Q E p s (m _) h⟩
 | resume g r l k i=>intro Q E p s m h;exact m.elim
 | yield v g l k i=>intro Q E p s m h;rw [Sem.wp_yield] at h;exact h.elim
 | stack k i=>intro Q E p s m h;rw [Sem.wp_stack] at h |-;exact i _ Q E p s (m _) h
 | fork c k i=>intro Q E p s m h;rw [Sem.wp_fork] at h;exact h.elim
 | thread k i=>intro Q E p s m h;rw [Sem.wp_thread] at h |-;exact i _ Q E p s (m _) h
 | await a y T l k i=>intro Q E p s m h;unfold Sem.wp at h;exact h.elim
def gy {c:Type} {M:Model} {A:Around} {t:Sem c} {Q:c->Shared->Prop} {E:au->Shared->Prop} {s:Shared} (m:eB t) (h:wpAny M A t Q E s) :
   wpAny M A t (λ a s'=>Q a s'/\cA s.heap s'.heap) (λ e s'=>E e s'/\cA s.heap s'.heap) s:=λ b p H=>Lj M b t _ _ p s m (h b p H)
theorem eB.bind {b d:Type} {f:b->Sem d} (H:∀ a,eB (f a)):∀ {t:Sem b},eB t->eB (t.bind f):=by
 intro t;induction t with
 | pure a=>intro Z;exact H a
 | raise e=>intro Z;trivial
 | unsupported w=>intro Z;trivial
 | finish e=>intro Z;trivial
 | rule t k i=>intro m;exact i () m
 | «at» q k i=>intro m;exact i () m
 | load a p k i=>intro m;exact λ o=>i o (m o)
 | update a p g k i=>intro m;exact ⟨m.1,i () m.2⟩
 | alloc o k i=>intro m;exact λ a=>i a (m a)
 | loadIfAlive a k i=>intro m;exact λ a=>i a (m a)
 | point l k i=>intro m;exact i () m
 | register a k i=>intro m;trivial
 | fresh k i=>intro m;exact λ a=>i a (m a)
 | ask k i=>intro m;exact λ a=>i a (m a)
 | choose s n k i=>intro m;exact λ a=>i a (m a)
 | os q l k i=>intro m;exact λ a=>i a (m a)
 | call c h g l k i=>intro m;exact m.elim
 | handled own k i=>intro m;exact λ a=>i a (m a)
 | newGen c k i=>intro m;exact λ a=>i a (m a)
 | genState g k i=>intro m;exact λ a=>i a (m a)
 | resume g r l k i=>intro m;exact m.elim
 | yield v g l k i=>intro m;trivial
 | stack k i=>intro m;exact λ a=>i a (m a)
 | fork c k i=>intro m;trivial
 | thread k i=>intro m;exact λ a=>i a (m a)
 | await a j T l k i=>intro m;trivial
def eB.bd {b c:Type} {t:Sem b} {f:b->Sem c} (h:eB t) (H:∀ a,eB (f a)):eB (t >>= f):=eB.bind H h
def zx {i:Nat} (n:i≠2):D8 (Obj.mapFields (·.setIfInBounds i x)):=λ o=>by
 obtain ⟨c,d,D,sl⟩:=o;cases D<;>first|exact ⟨rfl,λ h=>h,λ ⟨v,e,q⟩=>by cases e;exact ⟨_,rfl,by rw [Array.getElem?_setIfInBounds_ne n];exact q⟩⟩|exact ⟨rfl,λ h=>h,λ ⟨v,e,q⟩=>nomatch e⟩
def AM (g:Obj->Array (jA)):D8 (λ o=>{ o with slots:=g o }):=λ o=>by
 obtain ⟨c,d,D,sl⟩:=o;refine ⟨rfl,λ h=>?_,λ ⟨v,e,q⟩=>⟨v,e,q⟩⟩;cases D<;>first|rfl|exact h
def rh (a:ak):eB (load a):=λ Z=>trivial
def wH (v:au):eB (fieldsOf v):=by
 unfold fieldsOf;split
 . refine .bd (rh _) λ o=>?_;split<;>trivial
 . trivial
def kE (v:au) (i:Nat):eB (field v i):=by
 unfold field;refine .bd (wH v) λ V=>?_;split<;>trivial
def jW (v:au) (i:Nat) (x:au) (n:autoParam (i≠2) zb_._auto_1):eB (setField v i x):=by
 unfold setField;split
 .
  unfold updateField;refine .bd (rh _) λ o=>?_;split
  . split
    . exact ⟨zx n,trivial⟩
    . trivial
  . trivial
 . trivial
def gM (e:au) (f:Option ak):eB (setFlight e f):=by
 unfold setFlight;refine .bd (kE _ _) λ t=>?_;split
 . exact jW _ _ _
 . trivial
def oE:eB stack:=λ Z=>trivial
theorem vd:∀ l:List Env,eB (readyFrames l)
 | []=>trivial
 | env::outer=>by
   unfold readyFrames;split
   .
    refine .bd (rh _) λ o=>?_;split
    . trivial
    .
     refine .bd ?_ λ i => .bd ?_ λ bk=>⟨AM _,vd outer⟩
     . unfold behindIsImport;split
       . trivial
       . split
         . trivial
         . exact .bd (kE _ _) λ Z=>trivial
     . unfold keptBack;split
       . split
         . trivial
         . unfold underTheClaimsCaller;exact .bd (.bd oE λ Z=>trivial) λ Z=>trivial
       . trivial
   . trivial
def zp (env:Env):eB (PySem.frameOf env):=by
 unfold PySem.frameOf frameEnvs;refine .bd (.bd oE λ Z=>trivial) λ l => .bd ?_ λ r=>?_
 .
  unfold frameObject;split
  . trivial
  . exact .bd (vd _) λ Z=>trivial
 . split<;>trivial
def CA (f:ak) (b:Bool):eB (entryPlaceOf f b):=by
 unfold entryPlaceOf;refine .bd oE λ l=>?_;split<;>trivial
def wy (a b c d e:au) (pl:bq):eB (EntryCells.newEntry a b c d e pl):=by
 unfold EntryCells.newEntry newFields newObj;dsimp only;have o:∀ d,eB (newObjAsIs (.type "traceback") d):=λ d=>by
   unfold newObjAsIs;exact .bd (λ Z=>trivial) λ Z=>trivial
 split
 . split
   . exact .bd trivial λ Z=>o _
   . exact o _
 . split
   . exact .bd trivial λ Z=>o _
   . exact o _
def wZ (e:au) (env:Env):eB (noteFrame e env):=by
 unfold noteFrame;split
 .
  refine .bd (kE _ _) λ h=>?_;have rest:eB (do setField e 1 (<- EntryCells.newEntry h (<- PySem.frameOf env) .none (rawInt ‹ak›) .none (<- entryPlaceOf ‹ak› (h != .none)))) :=
    .bd (zp env) λ f => .bd (CA _ _) λ p => .bd (wy _ _ _ _ _ _) λ v=>jW _ _ _
  split
  . refine .bd (kE _ _) λ x=>?_;split
    . trivial
    . exact .bd (jW _ _ _) λ Z=>rest
  . exact rest
 . trivial
def lB (env:Env) (e:au):eB (leaving env e):=by
 unfold leaving;exact .bd (wZ _ _) λ Z=>gM _ _
def mJ {h:aM} {as:bA} {b:ak} {o:Obj} (e:h.get? b=some o) (n:b∉as):(W.hideAll h as).get? b=some o:=W.hideAll_get _ e n
structure Y7 (P:aZ) (w:aU) (outer:List Env) (H:Hp) (s:Shared) (cls:au) (x:ak) (H':Hp) (s':Shared):Prop where
 os:s'.os=s.os
 bare:AllBare s'.gens
 un:Un (gp outer) [] H H' s.heap s'.heap
 cJ:kB P w H' s'.heap
 YB:∃ a0 B,Heap.FlyingW B outer x cls a0 s'.heap/\(∀ b o,s.heap.get? b=some o->b∉gp outer->∀ o',s'.heap.get? b=some o'->B.get? b=some o')/\∀ b u,H' b=some u->∃ o,B.get? b=some o
def XD (c:Bool) (h:aM) (x:ak) (d:Option ak):Prop:=∃ o,h.get? x=some o/\o.dict=d/\(c=true->zT o)
def XD.kept (k:cA h h') (q:XD c h x d):XD c h' x d:=let ⟨o,e,z,y⟩:=q;let ⟨O,E,Z,Y⟩:=k x o e;⟨O,E,Z.trans z,λ q=>Y (y q)⟩
def Ny (c:Bool) (P:aZ) (w:aU):GJ:=λ outer H s E e S=>∃ x cls H',e = .ref x/\Y7 P w outer H s cls x H' S/\∃ d,XD c S.heap x d/\E cls d H'
abbrev si (P:aZ) (w:aU):GJ:=Ny true P w
def qR {h' B:aM} (x:kB P w H h) (f:∀ b o,B.get? b=some o->h'.get? b=some o) (g:∀ b o,B.get? b=some o->h.get? b=some o) (t:∀ b u,H b=some u->∃ o,B.get? b=some o):kB P w H h':=λ a o e =>
 (x a o e).dQ (λ b u c q=>by
   have:∃ u',H b=some u':=by
     rcases c with z|z
     . exact ⟨o,by rw [z];exact e⟩
     . exact ⟨_,z⟩
   obtain ⟨u',d⟩:=this;obtain ⟨O,V⟩:=t b u' d;have:=g b O V;rw [q] at this;cases this;exact f b u V) (λ Z q=>q) λ Z Z q=>q
def Thr (X:Cx) (E:XK):Prop:=∀ (p:List (ak×Obj)) (σ:St) (H:Hp) (s:Shared) (h:aM) (x:ak) (cls:au) (args:bq),Inv X p σ H s->Heap.MadeExcOf s.heap h x cls args->E cls none H->X.xe (.ref x) { s with heap:=h }
section
variable {P:aZ} {w:aU} {K:aA} {mg:cH} {base:aM} {N:cm} {qual:Str} {scope:Scope} {f:ak} {cd:au} {A:Around} {outer:List Env} {s₀:Shared} {H₀:Hp} {E E':XK}
def Vu {l:Bool} {pn p:List (ak×Obj)} {h':aM} {x:ak} (hE:∀ cls d H,E' cls d H->E cls d H) (I:Inv { fq (Ny c P w) P w K mg base N qual scope f cd A outer s₀ H₀ E with calm:=l,pn:=pn } p σ H s) (m:∀ b o,s.heap.get? b=some o->h'.get? b=some o) (hn:s.heap.get? x=none) (V:h'.get? x=some oe) (j:oe.data = .fields vs) (h1:vs[1]?=some .none) (h0:vs[0]?=some a0) (B:c=true->zT oe) (G:E' oe.cls oe.dict H) :
   ({ fq (Ny c P w) P w K mg base N qual scope f cd A outer s₀ H₀ E with calm:=l,pn:=pn }:Cx).xe (.ref x) { s with heap:=h' }:=by
 have X:(envOfC qual scope s₀.heap.objs.size f cd).frame=some s₀.heap.objs.size:=rfl;have fr:=I.ok.frames;have st:=I.stack;have ux:∀ env∈(envOfC qual scope s₀.heap.objs.size f cd::outer),∀ b,env.frame=some b->b∈gp (envOfC qual scope s₀.heap.objs.size f cd::outer):=λ env G b h=>afk.mpr ⟨env,G,h⟩;have k:(W.hideAll s.heap (gp (envOfC qual scope s₀.heap.objs.size f cd::outer))).get? x=none:=by
   cases q:(W.hideAll s.heap (gp (envOfC qual scope s₀.heap.objs.size f cd::outer))).get? x with
   | none=>rfl
   | some o=>have:=aeT _ q;rw [hn] at this;cases this
 show wpAny _ _ (leaving _ _) _ _ _;refine ab3 (gy (lB _ _) (wpAny_leaving_firstW (E:=λ Z Z=>False) (s:={ s with heap:=h' }) (Q:=λ Z R=>∃ i,R={ s with heap:=i }/\Heap.FlyingW (W.hideAll s.heap (gp (envOfC qual scope s₀.heap.objs.size f cd::outer))) outer x oe.cls a0 i/\h'.UpToSlots i)
   (base:=W.hideAll s.heap (gp (envOfC qual scope s₀.heap.objs.size f cd::outer))) (a0:=a0) fr ((W.funFrames_hide st ux).of_keeps λ b o h Z=>⟨o,m b o h,rfl⟩) X V (λ b o q=>m b o (aeT _ q)) k j h1 h0 λ i hL=>?_)) (λ Z R z=>?_) λ Z Z z=>z.1.elim
 . obtain ⟨k1,⟨Z,Z,k2⟩,k3,k4⟩:=hL;exact ⟨i,rfl,⟨k1,k,k2,k3⟩,k4⟩
 obtain ⟨⟨i,rfl,v,U⟩,dk⟩:=z;have r:∀ b o,s₀.heap.get? b=some o->b∉gp outer->b∉gp (envOfC qual scope s₀.heap.objs.size f cd::outer):=λ b o e n hm=>by
   rcases aah.mp (show b∈s₀.heap.objs.size::gp outer from hm) with z|z
   . exact absurd (abh e) (by rw [z];exact adl _)
   . exact n z
 have D:∀ b o,s.heap.get? b=some o->b∉gp (envOfC qual scope s₀.heap.objs.size f cd::outer)->i.get? b=some o:=λ b o e n=>v.1 b o (mJ e n);have F:∀ b∈gp outer,∃ o,s.heap.get? b=some o/\∀ vs,o.data ≠ .fields vs:=λ b h=>(I.ok.nS.mem h).2 |> λ ⟨o,e,j⟩=>by
   obtain ⟨sl,a⟩:=I.base.slot b o e (I.ok.K4 b h) h (by intro z;exact absurd (show b∈([]:bA) from z) (by simp));exact ⟨_,a,j⟩
 have T:∀ b u,H b=some u->∃ o,(W.hideAll s.heap (gp (envOfC qual scope s₀.heap.objs.size f cd::outer))).get? b=some o:=λ b u e=>by
   have nf:b∉gp (envOfC qual scope s₀.heap.objs.size f cd::outer):=λ z=>by rw [I.yd b z] at e;cases e
   have lt:=I.cJ.lt e;cases q:s.heap.get? b with
   | none =>
     obtain ⟨o,M⟩:∃ o,s.heap.get? b=some o:=by
       have ok:=I.cJ b u e;cases u with
       | lst xs=>obtain ⟨Z,Z,Z,Z,e⟩:=ok;exact ⟨_,e⟩
       | tup xs=>obtain ⟨Z,Z,Z,o,e,Z⟩:=ok;exact ⟨_,e⟩
       | dK aD=>obtain ⟨Z,Z,Z,Z,o,Z,Z,e,Z⟩:=ok;exact ⟨_,e⟩
       | dT aD=>obtain ⟨Z,Z,Z,Z,o,Z,Z,e,Z⟩:=ok;exact ⟨_,e⟩
       | set S n=>obtain ⟨o,Z,Z,Z,e,Z⟩:=ok;exact ⟨_,e⟩
       | ins C dx fs=>obtain ⟨Z,Z,Z,e,Z⟩:=ok;exact ⟨_,e⟩
       | own y=>obtain ⟨Z,e⟩:=ok;exact ⟨_,e⟩
       | xd fs=>obtain ⟨Z,⟨Z,Z,Z,e,Z⟩,Z⟩:=ok;exact ⟨_,e⟩
       | Wl lo hi=>obtain ⟨Z,Z,Z,e⟩:=ok;exact ⟨_,e⟩
       | AF ob u=>obtain ⟨e,Z⟩:=ok;exact ⟨_,e⟩
       | Nn ps=>exact ⟨_,ok⟩
       | met f y=>exact ⟨_,ok⟩
       | ext φ=>obtain ⟨Z,⟨Z,e⟩,Z⟩:=ok;exact ⟨_,e⟩
     rw [q] at M;cases M
   | some o=>exact ⟨o,mJ q nf⟩
 refine ⟨x,oe.cls,H,rfl,⟨I.os,I.bare,?_,qR I.cJ v.1 (λ b o q=>aeT _ q) T,_,_,v,?_,T⟩,oe.dict,XD.kept dk ⟨_,V,rfl,B⟩,hE _ _ _ G⟩
 .
  refine ⟨λ b o e n h Z=>D b o (I.base.keep b o e n h (by simp [fq])) (r b o e h),λ b o e n h Z=>?_,λ b o e n Z=>I.base.free b o e n (by simp [fq]),λ b o e Z=>?_,I.base.nN,I.base.ma,I.base.nU⟩
  .
   obtain ⟨sl,g⟩:=I.base.slot b o e n h (by simp [fq]);obtain ⟨J,a,j⟩:=F b h;rw [g] at a;cases a;obtain ⟨Y,t⟩:=U b _ (m b _ g) j;exact ⟨Y,t⟩
  .
   obtain ⟨O,g⟩:=I.base.there b o e (by simp [fq]);by_cases h:b∈gp outer
   . obtain ⟨J,a,j⟩:=F b h;obtain ⟨Y,t⟩:=U b _ (m b _ a) j;exact ⟨_,t⟩
   . exact ⟨O,D b O g (r b o e h)⟩
 .
  intro b o e h O L;obtain ⟨J,g⟩:=I.base.there b o e (by simp [fq]);have a:=D b J g (r b o e h);rw [a] at L;cases L;exact mJ g (r b o e h)
def Ih (a:∀ cls d H,E' cls d H->E cls d H):Thr (fq (si P w) P w K mg base N qual scope f cd A outer s₀ H₀ E) E':=λ p σ H s c x cls args I h b =>
 let ⟨_,e,_,_⟩:=h.there;Vu a I h.keeps h.new e rfl rfl rfl (λ Z=>⟨_,rfl,rfl⟩) b
def Ot {l:Bool} {pn:List (ak×Obj)} (hE:∀ cls d H,E' cls d H->E cls d H):Passes (Ny c P w) { fq (Ny c P w) P w K mg base N qual scope f cd A outer s₀ H₀ E with calm:=l,pn:=pn } E':=by
 intro M σ H s e S I hc;obtain ⟨x,cls,H',rfl,F,dd,LH,he⟩:=hc;obtain ⟨G,B,v,J,T⟩:=F.YB;have V:(envOfC qual scope s₀.heap.objs.size f cd).frame=some s₀.heap.objs.size:=rfl;have fr:=I.ok.frames;show wpAny _ _ (leaving _ _) _ _ _;refine ab3 (gy (lB _ _) (wpAny_leaves_onW (E:=λ Z Z=>False) (Q:=λ Z R=>∃ j,R={ S with heap:=j }/\Heap.FlyingW B outer x cls G j/\S.heap.UpToSlots j) (outer:=outer) fr V v λ j k U=>⟨j,rfl,k,U⟩)) (λ Z R z=>?_) λ Z Z z=>z.1.elim;obtain ⟨⟨j,rfl,k,U⟩,dk⟩:=z;have W:∀ b o,s₀.heap.get? b=some o->b∉gp outer->b∉gp (envOfC qual scope s₀.heap.objs.size f cd::outer):=λ b o e n hm=>by
   rcases aah.mp (show b∈s₀.heap.objs.size::gp outer from hm) with z|z
   . exact absurd (abh e) (by rw [z];exact adl _)
   . exact n z
 have C:∀ b:ak,b∉(fq (Ny c P w) P w K mg base N qual scope f cd A outer s₀ H₀ E).ex:=λ b=>by simp [fq]
 have m:∀ b o,s₀.heap.get? b=some o->b∉gp outer->∃ o',S.heap.get? b=some o'/\B.get? b=some o'/\j.get? b=some o':=λ b o e n=>by
   obtain ⟨O,a⟩:=I.base.there b o e (C b);obtain ⟨D,g⟩:=F.un.there b O a (by simp);have i:=J b O a (W b o e n) D g;exact ⟨D,g,i,k.1 b D i⟩
 have p:∀ b∈gp outer,∃ o,S.heap.get? b=some o/\∀ vs,o.data ≠ .fields vs:=λ b h=>(v.2.2.1.mem (aar (s₀.heap.objs.size) h:b∈gp (envOfC qual scope s₀.heap.objs.size f cd::outer))).2;refine ⟨x,cls,H',rfl,⟨F.os.trans I.os,F.bare,?_,qR F.cJ k.1 v.1 T,G,B,k,?_,T⟩,dd,LH.kept dk,hE _ _ _ he⟩
 .
  refine ⟨λ b o e n h Z=>?_,λ b o e n h Z=>?_,λ b o e n Z=>?_,λ b o e Z=>?_,λ b X q=>F.un.nN b X (I.base.nN b X q),λ b L u q=>F.un.ma b L u (I.base.ma b L u q),λ b ps q=>?_⟩
  . have a:=I.base.keep b o e n h (C b);have g:=F.un.keep b o a (I.base.free b o e n (C b)) (W b o e h) (by simp);exact k.1 b o (J b o a (W b o e h) o g)
  .
   obtain ⟨sl,a⟩:=I.base.slot b o e n h (C b);obtain ⟨ab,g⟩:=F.un.slot b _ a (I.base.free b o e n (C b)) (aar (s₀.heap.objs.size) h:b∈gp (envOfC qual scope s₀.heap.objs.size f cd::outer)) (by simp);obtain ⟨O,i,y⟩:=p b h;rw [g] at i;cases i;obtain ⟨Y,t⟩:=U b _ g y;exact ⟨Y,t⟩
  . obtain ⟨O,a⟩:=I.base.there b o e (C b);exact F.un.free b O a (I.base.free b o e n (C b)) (by simp)
  .
   by_cases h:b∈gp outer
   . obtain ⟨O,i,y⟩:=p b h;obtain ⟨Y,t⟩:=U b _ i y;exact ⟨_,t⟩
   . obtain ⟨o',Z,Z,r⟩:=m b o e h;exact ⟨o',r⟩
  . obtain ⟨m1,a⟩:=I.base.nU b ps q;obtain ⟨m2,g⟩:=F.un.nU b _ a;exact ⟨m1++m2,by rw [g,ags]⟩
 .
  intro b o e h o' r;obtain ⟨O,Z,a,g⟩:=m b o e h;rw [g] at r;cases r;exact a
def pX (h:∀ cls d H,E' cls d H->E cls d H):Passes (si P w) (fq (si P w) P w K mg base N qual scope f cd A outer s₀ H₀ E) E':=Ot h
end
def Mr {K:aA} {H:bq} (X:K.In h) (q:W.excIn K C H a=true) :
   ∃ bm N nm q bs hdct sn sub ab col dd k0 k1 k2 k3 k5 mN,h.get? C=some (excClassObj nm q C N bs bm hdct sn sub ab col dd k0 k1 k2 k3 k5 a)/\h.Ns N mN/\mN "__init__" = none/\OwnTail h H bm:=by
 unfold W.excIn at q;split at q
 .
  rename_i dd e sl g
  split at q
  .
   rename_i k bm k0 k1 k2 k3 n k5 b d
   simp only [abF,adS,aeN] at q;obtain ⟨⟨⟨⟨⟨rfl,rfl⟩,U⟩,i⟩,c⟩,w⟩:=q;obtain ⟨nm,bs,m,j,Q,f,sn,sub,ab,col,D⟩:=e;dsimp only at b U c w;subst b U;have p:sl=#[k0,k1,k2,k3,some (.builtin n),k5]:=by
     obtain ⟨l⟩:=sl;simp only at d;rw [d]
   subst p;exact ⟨bm,j,nm,Q,bs,f,sn,sub,ab,col,dd,k0,k1,k2,k3,k5,_,X _ _ g,.of_isNs (W.isNs_of_in X c),W.nsMap_none_of_in X c w,W.tail_of_in X i⟩
  . cases q
 . cases q
section
variable {X:Cx}
def OU (C:ak) (E:XK) (t:TA):TS:=λ Z σ H=>t σ H λ v h=>v.length<=sizeLine/\E (.ref C) none h
def AQ {e:Expr} {rest:List Expr} {g:Pos} (Y:X.calm=true) (F:ExcBaseFacts B n yI f) (hm:X.mg c=some (.ref C)) (q:W.excIn X.K C f n=true) (th:Thr X E) (V:PA X (e::rest) t) (hg:autoParam (Gl X c) za_._auto_1) (hd:autoParam ((c == ("__debug__" : Str))=false) zb_._auto_1) (m:autoParam (starEach (e::rest) X.env=(false,eval e X.env)::starEach rest X.env) za_._auto_1) (J:autoParam ((backTo g (starEach rest X.env)).any (·.1)=false) za_._auto_1) :
   PS X (.Raise (some (.Call (.Name c np) (e::rest) [] g)) none d) (OU C E t):=by
 intro p s σ H D I h;obtain ⟨tl,N,z,qn,j,a,G,S,A,b,k,o,r,u,v,w,M,R,U,O,T⟩:=Mr I.ok.mod.OR q;refine wpAny_Raise_call_subT (C:=C) (nm:=z) (q:=qn) (N:=N) (bs:=j) (bm:=tl) (hdct:=a) (sn:=G) (sub:=S) (ab:=A) (col:=b) (dd:=k) (k0:=o) (k1:=r) (k2:=u) (k3:=v) (k5:=w)
   F (mN:=M) (T.hasType F.hasBase) (I.ok.hd Y) (by rw [m];show (false || (backTo g (starEach rest X.env)).any (·.1))=false;rw [J];rfl) O (kA I hg hm ⟨rfl,?_⟩ hd)
 have l:=V g p s σ H _ I h;rw [m] at l |-;refine afr (ab3 l (λ us s2 ⟨vs,L,i,r2,hz,q2⟩=>⟨rfl,by rw [<- r2.length];exact hz,i.bk _ _ R,U.keeps i.bk,T.keeps i.bk,λ Q x hx=>?_⟩) λ Z Z y=>y);exact th p σ L s2 Q x _ _ i hx q2
end
section
variable {P:aZ} {w:aU} {K:aA} {mg:cH} {base:aM}
def Ic.V2 {st:Stmt} {sp:Sp} (F:Ic K x qual st f a) (S:aC N p (ap st)) (len:∀ vs H Q E,sp vs H Q E->vs.length=p.length) (e:∀ (b:au) (A:Around) (outer:List Env) (s:Shared) (H:Hp) (vs:az) (Q:VK) (E:XK),cK k (A.deeper (envOfC qual (ap st) s.heap.objs.size f b))->sp vs H Q E ->
     ∃ t,qy (fq (si P w) P w K mg base N qual (ap st) f b A outer s H E) (bH st) t/\t { nx:=λ Z H'=>Q .cT H',rt:=Q } (start N vs) H):gX P w K mg base (si P w) (k+1) f a p sp:=by
 obtain ⟨o,O,kV,d,i,g,b,ct,X,rfl,l,q⟩:=F.ex;exact Fl l q S len λ A outer s H vs Q E c h=>e b A outer s H vs Q E c h
def Co (P:aZ) (w:aU) (K:aA) (m:cH) (base:aM) (x:Str) (k:Nat) (p:cm) (s:Sp):Prop :=
 ∃ f F,m x=some (.ref f)/\W.keepIn K (.ref f)=true/\Binds K F p []/\gX P w K m base (si P w) k f F p s
def hJ.UV {st:Stmt} {sp:Sp} (h:hJ K mg x st) (S:aC N p (ap st)) (len:∀ vs H Q E,sp vs H Q E->vs.length=p.length) (g:∀ (kV d m:au) (a:Option ak) (b ct:au) (us:bq),us.length=p.length->bindArgs (W.fnOf x x (cU st) (bH st) (ap st) .none kV d m a b ct) ⟨us,[]⟩=pure (p.zip us)) (e:∀ (f:ak) (b:au) (A:Around) (outer:List Env) (s:Shared) (H:Hp) (vs:az) (Q:VK) (E:XK),cK k (A.deeper (envOfC x (ap st) s.heap.objs.size f b))->sp vs H Q E ->
     ∃ t,qy (fq (si P w) P w K mg base N x (ap st) f b A outer s H E) (bH st) t/\t { nx:=λ Z H'=>Q .cT H',rt:=Q } (start N vs) H):Co P w K mg base x (k+1) p sp:=by
 obtain ⟨f,c,i,F⟩:=h;exact ⟨f,c,i,F.kp,F.binds g,F.V2 S len λ b A outer s H vs Q E j l=>e f b A outer s H vs Q E j l⟩
def gX.Q2 (F:gX P w K mg base (si P w) k f a p S):gX P w K mg base Bg k f a p (λ vs H Q Z=>S vs H Q E0) :=
 ⟨λ vs H Q Z h=>F.len vs H Q E0 h,λ A outer s H args u vs Q E g b d r i=>aeq (F.run A outer s H args u vs Q E0 g b d r i) λ r j h=>by
   cases r with
   | error e=>obtain ⟨Z,Z,Z,Z,Z,Z,Z,z⟩:=h;exact False.elim z
   | ok c=>cases c<;>exact h⟩
theorem Co.Q2 (D:Co P w K mg base x k p s):Def P w K mg base x k p (λ vs H Q Z=>s vs H Q E0) :=
 let ⟨f,F,a,b,c,d⟩:=D;⟨f,F,a,b,c,d.Q2⟩
end
def PX (X:Cx) (e:Expr) (t:St->Hp->VK->XK->Prop) (c:Bool:=true):Prop :=
 ∀ (p:List (ak×Obj)) (s:Shared) (σ:St) (H:Hp) (Q:VK) (E:XK),Inv X p σ H s->t σ H Q E ->
   wpAny (model X.prog X.w) X.A (eval e X.env) (EP X p σ Q) (λ ex a=>∃ h S,Inv X p σ h S/\Ny c X.prog X.w X.stack h S E ex a) s
section
variable {X:Cx} {x:Str} {p pos:Pos} {e:Expr} {es:List Expr} {t:TA} {k:Nat} {ps:cm} {sp:Sp}
def zZ (D:Co X.prog X.w X.K X.mg X.base x k ps sp) (B:cK k X.A) (j:PA X.Hw (e::es) t) (n:autoParam (Gl X x) za_._auto_1) (N:autoParam (xB x) zb_._auto_1) (m:autoParam (zC X e es) za_._auto_1) (g:autoParam (BP X es pos) za_._auto_1) :
   PX X (.Call (.Name x p) (e::es) [] pos) (λ σ H Q E=>t σ H λ vs b=>sp (vs++[]) b Q E):=by
 obtain ⟨f,C,y,o,l,F⟩:=D;intro a s σ H Q E I h;refine adG (kA I n y ?_ N);refine afO (h₀:=X.base) I.ok.mod.OR o (ab3 (j pos a s σ H _ (I.nR _) h) (λ U s1 ⟨vs,b,i,r,q⟩=>⟨i.pi,?_⟩) λ _ _ z=>False.elim z) m g;have W:Inv X a σ b s1:=i.lC;have q:sp (vs++[]) b Q E:=q;rw [acB] at q;have v:U.length=ps.length:=by rw [<- r.length];exact F.len _ _ _ _ q
 refine afI (aeq (F.run X.A X.stack s1 b ⟨U,[]⟩ U vs Q E B W.QN (by have:=l s1 U W.pi (by rw [acB];exact v);rw [acB] at this;exact this) r q) λ r S c=>?_);cases r with
 | error e=>exact ⟨b,s1,W,c⟩
 | ok d =>
   cases d with
   | ret u=>exact W.after c
   | next=>exact False.elim c
   | brk=>exact False.elim c
   | cont=>exact False.elim c
end
structure ur (P:aZ) (w:aU) (outer:List Env) (H:Hp) (s:Shared) (cls:au) (x:ak) (H':Hp) (a0:au) (B:aM) (s':Shared):Prop where
 os:s'.os=s.os
 bare:AllBare s'.gens
 un:Un (gp outer) [] H H' s.heap s'.heap
 cJ:kB P w H' s'.heap
 fl:Heap.FlyingW B outer x cls a0 s'.heap
 st:∀ b o,s.heap.get? b=some o->b∉gp outer->∀ o',s'.heap.get? b=some o'->B.get? b=some o'
 tk:∀ b u,H' b=some u->∃ o,B.get? b=some o
def Y7.b (F:Y7 P w outer H s cls x H' s'):∃ a0 B,ur P w outer H s cls x H' a0 B s' :=
 let ⟨a0,B,f,h,t⟩:=F.YB;⟨a0,B,F.os,F.bare,F.un,F.cJ,f,h,t⟩
section
variable {P:aZ} {w:aU} {outer:List Env} {H H':Hp} {s s':Shared} {cls a0:au} {x:ak} {B:aM}
def ur.fin (F:ur P w outer H s cls x H' a0 B s'):∀ b∈gp outer,∃ o,s'.heap.get? b=some o/\∀ vs,o.data ≠ .fields vs:=λ b h=>(F.fl.2.2.1.mem h).2
def ur.moved {t2:Nat} (F:ur P w outer H s cls x H' a0 B s') (z:Heap.FlyingW B outer x cls a0 a) (u:s'.heap.UpToSlots a):ur P w outer H s cls x H' a0 B { s' with heap:=a,toks:=t2 }:=by
 have t:∀ b o,s.heap.get? b=some o->b∉gp outer->∃ o',B.get? b=some o'/\a.get? b=some o':=λ b o e h=>by
   obtain ⟨O,c⟩:=F.un.there b o e (by simp);have q:=F.st b o e h O c;exact ⟨O,q,z.1 b O q⟩
 refine ⟨F.os,F.bare,⟨λ b o e n h f=>?_,λ b o e n h f=>?_,F.un.free,λ b o e f=>?_,F.un.nN,F.un.ma,F.un.nU⟩,qR F.cJ z.1 F.fl.1 F.tk,z,λ b o e h o' i=>?_,F.tk⟩
 . exact z.1 b o (F.st b o e h o (F.un.keep b o e n h f))
 .
  obtain ⟨sl,c⟩:=F.un.slot b o e n h f;obtain ⟨O,d,g⟩:=F.fin b h;rw [c] at d;cases d;obtain ⟨y,E⟩:=u b _ c g;exact ⟨y,E⟩
 .
  by_cases h:b∈gp outer
  . obtain ⟨O,d,g⟩:=F.fin b h;obtain ⟨y,E⟩:=u b _ d g;exact ⟨_,E⟩
  . obtain ⟨o',Z,E⟩:=t b o e h;exact ⟨o',E⟩
 .
  obtain ⟨O,q,E⟩:=t b o e h;have Q:a.get? b=some o':=i;rw [E] at Q;cases Q;exact q
theorem ur.none (F:ur P w outer H s cls x H' a0 B s'):H' x=none:=by
 cases q:H' x with
 | none=>rfl
 | some u =>
   obtain ⟨o,e⟩:=F.tk x u q;rw [F.fl.2.1] at e;cases e
def ur.obj (F:ur P w outer H s cls x H' a0 B s'):∃ oe vs,s'.heap.get? x=some oe/\oe.cls=cls/\oe.data = .fields vs :=
 let ⟨oe,vs,e,c,d,_⟩:=F.fl.first;⟨oe,vs,e,c,d⟩
end
def Cx.held (X:Cx) (e:ak) (o:Obj):Cx:={ X with A:=X.A.mark (some (.ref e)),calm:=false,pn:=X.pn++[(e,o)],xe:=λ Z Z=>False }
theorem Cx.Ok.held {X:Cx} (ok:X.Ok) (e:ak) (o:Obj):(X.held e o).Ok :=
 ⟨ok.mod,ok.kind,ok.glob,ok.blt,ok.above,ok.inj,ok.has,ok.OB,(λ z=>nomatch z),ok.frames,ok.Ra,ok.Wq,ok.bs,ok.K7,ok.C3,ok.FX,ok.nS,ok.K4⟩
section
variable {X:Cx} {pins:List (ak×Obj)} {σ:St} {H H':Hp} {s s':Shared} {cls a0:au} {e:ak} {oe:Obj} {B:aM}
def Inv.yS (I:Inv X pins σ H s) (F:ur X.prog X.w X.stack H s cls e H' a0 B s'):Inv X pins σ H' s' :=
 I.Fa (ch:=[]) F.os F.un F.cJ F.bare (λ b z=>absurd z (by simp))
theorem Inv.held (I:Inv X pins σ H s) (b:s.heap.get? e=some oe) (a:oe.data = .fields vs) (j:H e=none):Inv (X.held e oe) pins σ H s:=by
 refine ⟨I.ok.held e oe,I.os,I.bare,I.base,I.loc,I.cell,I.free,I.jF,λ p h=>?_,I.cJ,I.len⟩;rcases aaY.mp h with h|h
 .
  rcases aaY.mp h with h|h
  . exact I.pin p (act _ h)
  .
   have g:p=(e,oe):=by simpa using h
   subst g;refine ⟨b,j,λ z=>?_,λ z=>?_,λ v z=>?_⟩
   .
    obtain ⟨m,⟨o,k,g,d,f,Z⟩,Z⟩:=I.loc;have c:e=X.env.locals:=z;rw [c,d] at b;cases b;rw [f] at a;cases a
   . obtain ⟨Z,o,d,i⟩:=I.nS.mem z;have E:s.heap.get? e=some o:=d;rw [b] at E;cases E;exact i vs a
   . have c:oe.data = .cell v:=z;rw [a] at c;cases c
 . exact I.pin p (abS _ h)
def Inv.mH (ok:X.Ok) (I:Inv (X.held e oe) pins σ H s):Inv X pins σ H s :=
 ⟨ok,I.os,I.bare,I.base,I.loc,I.cell,I.free,I.jF,λ p h=>I.pin p ((aaY.mp h).elim (λ z=>act _ (act _ z)) λ z=>abS _ z),I.cJ,I.len⟩
def nE {E:au->Shared->Prop} {i:Nat} {Q:Unit->Shared->Prop} (I:Inv X pins σ H s) (r:X.N.Nodup) (t:X.N[i]?=some n) (B:X.env.scope.names.lookup n=some .local) (h:∀ s',Inv X pins (σ.set i none) H s'->Q () s'):wpAny (model X.prog X.w) A (do bindName X.env n .none;unbindBehindTheSuite X.env n f) Q E s:=by
 obtain ⟨m,D,C⟩:=id I.loc;refine wpAny_nameGoes_keeps B D (by rw [I.ok.kind];rfl) λ K v x a=>h _ ?_;have J:=I.J9;refine ⟨I.ok,I.os,I.bare,I.base.vc a (aeB I.ok.above),⟨_,x,λ j y V g e o=>?_⟩,λ y c q=>?_,I.free,I.jF,λ p F=>?_,I.cJ.vc a I.free,by rw [adh];exact I.len⟩
 .
  by_cases b:j=i
  . subst b;rw [List.getElem?_set] at e;simp only [ae2] at e;split at e<;>cases e
  .
   rw [adZ (aef b)] at e;obtain ⟨u,R,q⟩:=C j y V g e o;refine ⟨u,R,?_⟩;rcases q with ⟨k,q⟩|⟨k,c,q,z⟩
   . refine .inl ⟨k,?_⟩;have:y≠n:=λ z=>b (uu r g (z ▸ t));show (if y=n then v else m y)=some u;rw [abC this];exact q
   . exact .inr ⟨k,c,q,z.sameBut a (J y c q)⟩
 . obtain ⟨W,z⟩:=I.cell y c q;exact ⟨W,z.sameBut a (J y c q)⟩
 . obtain ⟨q,G,l,nf,d⟩:=I.pin p F;exact ⟨(a.2 p.1 l).trans q,G,l,nf,d⟩
end
def Ui (X:Cx) (st:List Stmt) (t:(St->XK)->TS) (c:Bool:=true):Prop :=
 ∀ (p:List (ak×Obj)) (s:Shared) (σ:St) (H:Hp) (D:Ends) (E:St->XK),Inv X p σ H s->t E D σ H ->
   wpAny (model X.prog X.w) X.A (execs st X.env) (SP X p D) (λ ex b=>∃ a h S,Inv X p a h S/\Ny c X.prog X.w X.stack h S (E a) ex b) s
section
variable {X:Cx} {pos:Pos} {cc:Bool}
def BD {t:St->Hp->VK->XK->Prop} (b:PX X e t cc) (d:autoParam (swapsWith e none pos.line X.env=pure false) za_._auto_1):Ui X [.Expr e pos] (λ E D σ H=>t σ H (λ Z a=>D.nx σ a) (E σ)) cc:=by
 intro p s σ H D E I h;refine afU (wpAny_Expr_any (ab3 (b p s σ H _ _ I h) (λ v S q=>?_) λ ex S q=>?_) I.quiet d)
 . obtain ⟨x,a,i,r,Q⟩:=q;exact ad1 ⟨σ,a,i,Q⟩
 . obtain ⟨a,S,i,c⟩:=q;exact ⟨σ,a,S,i,c⟩
noncomputable def Ends.unset (D:Ends) (i:Nat):Ends:=⟨λ σ H=>D.nx (σ.set i none) H,D.rt,λ σ H=>D.bk (σ.set i none) H,λ σ H=>D.ct (σ.set i none) H⟩
def Yp (K:aA) (c:au) (i:Nat) (t:(St->XK)->TS) (ts:au->ak->TS):TS:=λ D σ H =>
 t (λ a cls Z h=>W.exmOne K cls c=some true/\∀ e,h e=none->ts cls e (D.unset i) (a.set i (some (.ref e))) h) D σ H
def Ni (K:aA) (c:au) (i:Nat) (t:(St->XK)->TS) (ts:au->Option ak->ak->TS):TS:=λ D σ H =>
 t (λ a cls d h=>W.exmOne K cls c=some true/\∀ e,h e=none->ts cls d e (D.unset i) (a.set i (some (.ref e))) h) D σ H
def xh {A:Around} {E:au->Shared->Prop} {s:Shared} {env:Env} {outer:List Env} {Q:Unit->Shared->Prop} (m:A.frames=some (env::outer)) (c:env.frame=some L) (q:Heap.FlyingW base (env::outer) e cls a0 s.heap) (H:∀ h',Heap.HeldW base (env::outer) e cls a0 L h'->s.heap.UpToSlots h'->cA s.heap h'->Q () { s with heap:=h' }):wpAny M A (noteFrame (.ref e) env) Q E s:=by
 refine ab3 (gy (wZ _ _) (wpAny_looks_onW (E:=λ Z Z=>False) (Q:=λ Z S=>∃ h,S={ s with heap:=h }/\Heap.HeldW base (env::outer) e cls a0 L h/\s.heap.UpToSlots h) m c q λ h a b=>⟨h,rfl,a,b⟩)) (λ Z S z=>?_) λ Z Z z=>z.1.elim;obtain ⟨⟨h,rfl,a,b⟩,d⟩:=z;exact H h a b d
def GN {E:au->Shared->Prop} {s:Shared} {Q:Unit->Shared->Prop} (c:Heap.HeldW base l e cls a0 L s.heap) (H:∀ h',Heap.FlyingW base l e cls a0 h'->s.heap.UpToSlots h'->cA s.heap h'->Q () { s with heap:=h' }):wpAny M A (setFlight (.ref e) none) Q E s:=by
 refine ab3 (gy (gM _ _) (wpAny_landsW (E:=λ Z Z=>False) (Q:=λ Z S=>∃ h,S={ s with heap:=h }/\Heap.FlyingW base l e cls a0 h/\s.heap.UpToSlots h) c λ h a b=>⟨h,rfl,a,b⟩)) (λ Z S z=>?_) λ Z Z z=>z.1.elim;obtain ⟨⟨h,rfl,a,b⟩,d⟩:=z;exact H h a b d
def yj {E:au->Shared->Prop} {s:Shared} {Q:Unit->Shared->Prop} (c:Heap.FlyingW base l e cls a0 s.heap) (H:∀ h',Heap.FlyingW base l e cls a0 h'->s.heap.UpToSlots h'->cA s.heap h'->Q () { s with heap:=h' }):wpAny M A (setFlight (.ref e) none) Q E s:=by
 refine ab3 (gy (gM _ _) (lands_againW (E:=λ Z Z=>False) (Q:=λ Z S=>∃ h,S={ s with heap:=h }/\Heap.FlyingW base l e cls a0 h/\s.heap.UpToSlots h) c λ h a b=>⟨h,rfl,a,b⟩)) (λ Z S z=>?_) λ Z Z z=>z.1.elim;obtain ⟨⟨h,rfl,a,b⟩,d⟩:=z;exact H h a b d
def Lc {g:Stmt} {mK:List Stmt} {t:(St->XK)->TS} {ts:au->Option ak->ak->TS} {i:Nat} (L:X.stack=X.env::X.outer) (MG:X.env.frame=some X.env.locals) (o:X.N.Nodup) (u:X.N[i]?=some n) (m:X.env.scope.names.lookup n=some .local) (hm:X.mg c=some (.ref C)) (hb:Ui X a t cc) (hs:∀ cls d e oe,oe.cls=cls->oe.dict=d->W.notCls oe=true->(cc=true->zT oe)->qy (X.held e oe) (g::mK) (ts cls d e)) (hg:autoParam (Gl X c) za_._auto_1) (nQ:autoParam ((c == ("__debug__" : Str))=false) zb_._auto_1) :
   PS X (.Try a [.ExceptHandler (some (.Name c np)) (some n) (g::mK) C0] [] [] pos) (Ni X.K (.ref C) i t ts):=by
 intro p s σ H D I h;refine wpAny_Try_except (ab3 (hb p s σ H D _ I h) (λ f S q=>?_) λ ex S hx=>?_)
 .
  cases f with
  | next=>exact ad1 q
  | ret v=>exact q
  | brk=>exact q
  | cont=>exact q
 .
  obtain ⟨ae,H1,s0,I0,x,cls,H',rfl,F,dd,LH,XC,hk⟩:=hx;obtain ⟨a0,B,FB⟩:=F.b;have fr:X.A.frames=some (X.env::X.outer):=L ▸ I.ok.frames;have Sx:Heap.FlyingW B (X.env::X.outer) x cls a0 S.heap:=L ▸ FB.fl;refine xh fr MG Sx λ h4 r XM O=>?_;refine GN r λ h5 Vb ab R=>?_;have y:=FB.moved (t2:=S.toks) (L ▸ Vb) (Heap.UpToSlots.trans XM ab);have I5:=I0.yS y;obtain ⟨Y,ad,Sq,Zv,V⟩:=y.obj;have J5:=I5.held Sq V y.none;refine wpAny_handleBy_cons (codeAny_handlers_test (kA (X:=X.held x Y) J5 hg hm ?_ nQ)) (by intro q;cases q);have LT:W.Looks (model X.prog X.w) h5 (typeOf (.ref x)) cls:=Zv ▸ (afo Sq).andThen .now;refine (W.exm_one J5.pi LT XC) _ _ _ _ (λ _ _ q=>q) ?_;refine codeAny_handlers_suite_as ?_;refine yj Vb λ h6 U Zg T=>?_;have E:=y.moved (t2:=S.toks) (L ▸ U) Zg;have I6:=I0.yS E;obtain ⟨oe,vs,M,hc,hd⟩:=E.obj;have J6:=I6.held M hd E.none;have TW:oe.dict=dd/\(cc=true->zT oe):=by
    obtain ⟨o6,G,z6⟩:=((LH.kept O).kept R).kept T;have G:h6.get? x=some o6:=G;have M:h6.get? x=some oe:=M;rw [M] at G;cases G;exact z6
  refine qo (X:=X.held x oe) (v:=.ref x) J6 o u (.inl m) rfl (λ s7 J7=>?_) (.inr m);refine ab3 (hs cls dd x oe hc TW.1 (by unfold W.notCls;rw [hd]) TW.2 p s7 _ H' (D.unset i) J7 (hk x E.none)) (λ f s8 q=>?_) λ _ _ z=>False.elim z;have ok:=I.ok;cases f with
  | next =>
    obtain ⟨l,j,J,Q⟩:=q;exact nE (J.mH ok) o u m λ s9 k=>⟨_,j,k,Q⟩
  | brk =>
    obtain ⟨l,j,J,Q⟩:=q;exact nE (J.mH ok) o u m λ s9 k=>⟨_,j,k,Q⟩
  | cont =>
    obtain ⟨l,j,J,Q⟩:=q;exact nE (J.mH ok) o u m λ s9 k=>⟨_,j,k,Q⟩
  | ret v =>
    obtain ⟨v8,l,j,J,r8,Q⟩:=q;exact nE (J.mH ok) o u m λ s9 k=>⟨v8,_,j,k,r8,Q⟩
def ML {B:Stmt} {m:List Stmt} {t:(St->XK)->TS} {ts:au->Option ak->ak->TS} {i:Nat} (f:X.stack=X.env::X.outer) (M:X.env.frame=some X.env.locals) (g:X.N.Nodup) (l:X.N[i]?=some n) (o:X.env.scope.names.lookup n=some .local) (p:X.mg c=some (.ref C)) (j:Ui X b t) (q:∀ cls d e oe,oe.cls=cls->oe.dict=d->W.notCls oe=true->qy (X.held e oe) (B::m) (ts cls d e)) (k:autoParam (Gl X c) za_._auto_1) (r:autoParam ((c == ("__debug__" : Str))=false) zb_._auto_1) :
   PS X (.Try b [.ExceptHandler (some (.Name c np)) (some n) (B::m) C0] [] [] pos) (Ni X.K (.ref C) i t ts) :=
 Lc f M g l o p j (λ cls d e oe h H a Z=>q cls d e oe h H a) k r
def Ql {B:Stmt} {m:List Stmt} {t:(St->XK)->TS} {ts:au->ak->TS} {i:Nat} (f:X.stack=X.env::X.outer) (M:X.env.frame=some X.env.locals) (H:X.N.Nodup) (g:X.N[i]?=some n) (j:X.env.scope.names.lookup n=some .local) (k:X.mg c=some (.ref C)) (a:Ui X b t) (l:∀ cls e oe,oe.cls=cls->qy (X.held e oe) (B::m) (ts cls e)) (d:autoParam (Gl X c) za_._auto_1) (o:autoParam ((c == ("__debug__" : Str))=false) zb_._auto_1) :
   PS X (.Try b [.ExceptHandler (some (.Name c np)) (some n) (B::m) C0] [] [] pos) (Yp X.K (.ref C) i t ts) :=
 ML (ts:=λ cls Z e=>ts cls e) f M H g j k a (λ cls Z e oe h Z Z=>l cls e oe h) d o
end
structure AT (K:aA) (C:ak):Prop where
 ga:W.findIn K (.ref C) "__getattribute__" = some (some (.builtin "BaseException.__getattribute__"))
 gt:W.findIn K (.ref C) "__getattr__" = some none
 cl:W.findIn K (.ref C) "__class__" = some (some (.builtin "object.__class__"))
 gs:W.specialIn K (.builtin "object.__class__") "__get__" = some (some (.builtin "getset_descriptor.__get__"))
 tk:W.takesIn K (.builtin "object.__class__")=some true
 mo:W.mroIn K C (.type "object")=some true
 mb:W.mroIn K C (.type "BaseException")=some true
 is:(W.clsIn K C).isSome=true
section
open PySem.Builtin PySem.Builtin.ObjectAttr PySem.Builtin.Getset_descriptor
variable {K:aA} {C e:ak}
def Gk {g:au} (X:K.In h) (H:W.findIn K (.ref C) name=some (some a)) (b:W.specialIn K a "__get__" = some (some g)) (c:W.takesIn K a=some true) :
   W.Looks M h (find (.ref e) (.ref C) name) (.bind g a):=by
 have M1:=afs (M:=M) X H;have M2:W.Looks M h (getOf (some a)) (some g):=W.looks_specialIn X b;have m:W.Looks M h (dataDescriptor? (some a) (some g)) (some (g,a)):=(W.looks_takesIn (M:=M) X c).andThen .now;exact M1.andThen (M2.andThen (m.andThen (W.Looks.tag .now)))
variable {prog:aZ} {w:aU} {A:Around} {s:Shared} {oe:Obj}
def Fx {R:Result->Shared->Prop} {t:au} (X:K.In s.heap) (b:s.heap.get? e=some oe) (a:oe.cls = .ref C) (H:AT K C) (h:R (.ok (.ret (.ref C))) s) :
   codeAny (model prog w) A (.call (.builtin "getset_descriptor.__get__") ⟨[.builtin "object.__class__",.ref e,t],[]⟩) R s:=by
 obtain ⟨D,g,d,T,V⟩:=s;have m:W.Looks (model prog w) D (typeOf (.ref e)) (.ref C):=a ▸ (afo b).andThen .now;have M1:=W.looks_mroIn (M:=model prog w) X H.mo;refine codeAny_call_builtin W.KF.slot_gs.plain W.KF.entry_gs (W.KF.slot_gs.check _ _ _ _ _ _ _ _ W.KF.type_class (W.KF.args_gs _ _ _) ?_);unfold PySem.Builtin.«getset_descriptor.__get__» descrGet;rw [W.dga_obj];refine WE (aaU ?_);unfold descrGetter descrCheckInstance descrNameAndClass PySem.isInstance;simp only [W.KF.owner_class]
 repeat lk
 refine ⟨Code.quiet_builtin _ (by decide +kernel),af6 W.KF.entry_class ?_⟩;unfold PySem.Builtin.«object.__class__» PySem.shownTypeOf
 repeat lk
 exact h
def OA {R:Result->Shared->Prop} {t:Tok} (X:K.In s.heap) (d:s.heap.get? e=some oe) (c:oe.cls = .ref C) (H:AT K C) (h:R (.ok (.ret (.ref C))) s) :
   codeAny (model prog w) A (.call (.builtin "BaseException.__getattribute__") ⟨[.ref e,.str "__class__" t],[]⟩) R s:=by
 obtain ⟨D,G,i,T,V⟩:=s;have m:W.Looks (model prog w) D (typeOf (.ref e)) (.ref C):=c ▸ (afo d).andThen .now;have f:=W.looks_mroIn (M:=model prog w) X H.mb;have g:=Gk (M:=model prog w) (e:=e) X H.cl H.gs H.tk;have b:=PySem.F.args_bexc_ga (.ref e) (.str "__class__" t);refine codeAny_call_builtin PySem.F.excAttr_ValueError.ga.plain PySem.F.entry_bexc_ga ?_;have j:builtinKind "BaseException.__getattribute__" = some .slot:=by decide +kernel
 have O:splitId "BaseException.__getattribute__" = some ("BaseException","__getattribute__"):=by decide +kernel
 simp only [checkBuiltinCall,j,O];refine WE ((m.andThen f).at ?_);simp only [afZ,adr,aeg];unfold argsOk at b;refine afb (a:=()) b ?_;unfold PySem.Builtin.«object.__getattribute__»;refine WE (afb (a:=(Value.ref e,[Value.str "__class__" t])) rfl ?_);dsimp only;refine WE (afb (a:=("__class__" : Str)) rfl ?_);refine WE (m.at (WE (g.at ?_)));show wpAny _ _ (holding [_] (call _ [_,_,_]) >>= ret) _ _ _;refine WE (acT (afI (Fx (s:=⟨D,G,i,T,V⟩) X d c H ?_)));exact aaU h
def A2 (H:AT K C):W.KitX K (.ref e) (.ref C) (λ h=>∃ oe,h.get? e=some oe/\oe.cls = .ref C) where
 ty:=λ _ _ _ ⟨_,d,c⟩=>c ▸ (afo d).andThen .now
 it:=λ _ _ X _=>by
   obtain ⟨j,a⟩:=adq.mp H.is;unfold W.clsIn at a;split at a
   . rename_i p r t u f
     intro x I B S b q;unfold isType loadHead;exact WE (wpAny_loadPart (b _ _ (X _ _ f)) (aaU q))
   . cases a
 ne:=λ h T L J n sl X g=>by
   obtain ⟨j,a⟩:=adq.mp H.is;refine Bool.eq_false_iff.mpr λ q=>?_;have z:C=T:=Value.ref.inj (adS.mp q);subst z;unfold W.clsIn at a;split at a
   . rename_i p r t u f
     have y:=(X _ _ f).symm.trans g;cases y
   . cases a
 ca:=λ {prog w A E Q s} X o k=>by
   obtain ⟨oe,d,c⟩:=o;obtain ⟨D,G,l,v,V⟩:=s;have i:W.Looks (model prog w) D (typeOf (.ref e)) (.ref C):=c ▸ (afo d).andThen .now;have M1:=afs (M:=model prog w) X H.ga;have M2:=afs (M:=model prog w) X H.gt;unfold getAttr? getAttrBy? getAttrBy;refine WE (wpAny_mkText (WE (afc (acT (WE (i.at (WE (M1.at ?_))))))));show wpAny _ _ (getAttrByItsOwn _ _ _ _ _ _) _ _ _;unfold getAttrByItsOwn;refine WE (m:=hookBefore _) (M2.at ?_);refine WE (afc (acT ?_));show wpAny _ _ (boundAndCalled _ _ _) _ _ _;unfold boundAndCalled;refine WE (afb (PySem.F.excAttr_ValueError.ga.bind (.ref e)) ?_);refine afI (OA (s:=⟨D,G,l,v+1,V⟩) X d c H ?_);exact W.handed_on rfl (aaU k)
end
noncomputable def Lb:V->Bool
 | .ref _=>true
 | .ty _=>true
 | _=>false
noncomputable def WM:V->au
 | .ref a => .ref a
 | .ty n => .type n
 | _ => .none
def As (h:Lb c=true) (r:RelV c u):u=WM c:=by
 cases c<;>first|exact r|cases h
theorem Bi:∀ {c:az} {us:bq},Vals c us->(∀ x∈c,Lb x=true)->us=c.map WM
 | _,_,.nil,_=>rfl
 | _,_,.cons r t,h=>by rw [ab0,As (h _ aaW) r,Bi t λ x H=>h x (aar _ H)]
inductive PH (K:aA) (C:ak) (H:Hp):V->Bool->Prop where
 | one {c:V} {b:Bool} (hc:Lb c=true) (h:W.kitOne K (.ref C) (WM c)=some b):PH K C H c b
 | many {p:ak} {cs:az} {b:Bool} (hp:H p=some (.tup cs)) (hc:∀ x∈cs,Lb x=true) (h:W.kitAny K (.ref C) (cs.map WM)=some b):PH K C H (.ref p) b
section
variable {X:Cx}
def qB {e:ak} {cls:au} (K:aA) (A:X.K=K) (hp:(e,oe)∈X.pn) (j:oe.cls=cls) :
   jg X (.builtin "isinstance") (λ xs H Q=>∃ c b C,xs=[.ref e,c]/\cls = .ref C/\AT K C/\PH K C H c b/\Q (.bl b) H):=by
 subst A;intro a s σ H xs U Q I r h;obtain ⟨c,b,C,rfl,g,i,is,q⟩:=h;obtain ⟨u,G,rfl,D,R⟩:=vals2 r;obtain rfl:u=Value.ref e:=D;have l:s.heap.get? e=some oe:=(I.pin (e,oe) (act _ hp)).1;have f:∀ t,EP X a σ Q (.bool b) { s with toks:=t }:=λ t=>⟨.bl b,H,I.tok _,rfl,q⟩
 cases is with
 | one v d =>
   rw [As v R];exact aec (A2 i) I.pi ⟨oe,l,j.trans g⟩ d (λ z=>nomatch z) f
 | @many p x _ m v d =>
   obtain rfl:G=Value.ref p:=R;obtain ⟨Z,J,F,o,B,E,n,k⟩:=(show di X.prog X.w H s.heap p (.tup x) from I.cJ p _ m)
   have y:=Bi F v;subst y;obtain ⟨O,L,M,N⟩:=o;dsimp only at E k;subst E k;exact W.kia_tup (A2 i) I.pi ⟨oe,l,j.trans g⟩ B d (λ z=>nomatch z) f
end
def wm:bootBuiltins "ValueError" = some (.type "ValueError"):=by decide +kernel
open PySem.Builtin PySem.Builtin.ObjectAttr
section
variable {K:aA} {C:ak}
noncomputable def EY:bq->Bool
 | []=>false
 | .ref _::r=>EY r
 | c::r=>decide (c::r=[.type "ValueError",.type "Exception",.type "BaseException",.type "object"])
def WO (K:aA) (C:ak):Bool:=(W.clsIn K C).any λ c=>EY c.mro
end
open PySem.Builtin PySem.Builtin.ObjectAttr
structure X1 (K:aA) (C fI:ak) (Hk:bq) (newId:String):Prop where
 ex:∀ h:aM,K.In h->∃ bm N nm q bs hdct sn sub ab col dd k0 k1 k2 k3 k5 mN,h.get? C=some (excClassObj nm q C N bs bm hdct sn sub ab col dd k0 k1 k2 k3 k5 newId)/\h.Ns N mN/\mN "__init__" = some (.ref fI)/\OwnTail h Hk bm
 fn:∀ h:aM,K.In h->∃ oI,h.get? fI=some oI/\oI.cls = .type "function"
def W4 (K:aA) (C f:ak) (H:bq) (n:String):Bool:=(K.lookup C).any λ o=>decide (o.cls = .type "type") &&
 match o.data with
 | .cls c=>decide (c.mro = .ref C::c.mro.tail) && decide (o.slots.size=6) && decide (o.slots[4]?=some (some (.builtin n))) && !c.hasDel && W.tailIn K H c.mro.tail && W.nsOkIn K c.ns && decide (W.nsIn K c.ns "__init__" = some (some (.ref f)))
 | _=>false
@[elab_as_elim] theorem d6 {α:Type} {motive:List α->Prop} {n:Nat} {us:List α} (h:us.length=n+1) (k:∀ a t,t.length=n->motive (a::t)):motive us:=by
 cases us with
 | nil=>cases h
 | cons a t=>exact k a t (af8 h)
def adC {b:Type} {n:Nat} {l:List b} (h:l.length=n+1):∃ a t,l=a::t/\t.length=n:=d6 h λ a t h=>⟨a,t,rfl,h⟩
section
variable {X:Cx} {x:Str} {pos:Pos}
def gc {i:Int} (a:Gl X x) (h:∃ t,X.mg x=some (.int i t)) (H:autoParam (xB x) zb_._auto_1):PE X (.Name x pos) (tC (.int i)):=by
 obtain ⟨t,h⟩:=h;exact bY a h ⟨t,rfl⟩ H
end
def Do (K:aA) (a:ak) (xs:az):Prop :=
 ∃ (o:Obj) (b:Array au) (n:Nat),K.lookup a=some o/\o.cls = .type "tuple"/\o.data = .seq b n/\b.size<=sizeLine/\Vals xs b.toList
def Do.at {K:aA} (h:Do K a xs) (H:Hp):bP K H a xs:=.inr h
def No {K:aA} {dd:Option ak} {sl:Array (jA)} {i j:Int} (h:K.lookup a=some ⟨.type "tuple",dd,.seq #[.int i t,.int j u] n,sl⟩):Do K a [.int i,.int j] :=
 ⟨_,_,_,h,rfl,rfl,by show 2<=sizeLine;decide,.cons ⟨t,rfl⟩ (.cons ⟨u,rfl⟩ .nil)⟩
def Ir (K:aA) (T:ak) (f:az):Prop:=∃ o n i,K.lookup T=some o/\o.data = .seq i n/\Vals f i.toList
structure qj (K:aA) (x qual:Str) (st:Stmt) (dV:au) (f:ak) (fd:FuncData):Prop where
 ex:∃ (oc:au) (od:Option ak) (kV doc pm:au) (an:Option ak) (bC ct:au) (xV:Array (jA)),
   fd=W.fnOf x qual (cU st) (bH st) (ap st) dV kV doc pm an bC ct/\K.lookup f=some ⟨oc,od,.func fd,xV⟩/\W.codeIn K bC qual=true
 kp:W.keepIn K (.ref f)=true
def DW {K:aA} {st:Stmt} {o:au} {O:Option ak} {X:Array (jA)} {kV:au} (l:K.lookup f=some ⟨o,O,.func (W.fnOf x qual (cU st) (bH st) (ap st) D kV d p a b ct),X⟩) (c:W.codeIn K b qual=true) (k:W.keepIn K (.ref f)=true):qj K x qual st D f (W.fnOf x qual (cU st) (bH st) (ap st) D kV d p a b ct):=⟨⟨o,O,kV,d,p,a,b,ct,X,rfl,l,c⟩,k⟩
section
variable {P:aZ} {w:aU} {K:aA} {mg:cH} {base:aM} {x qual m:Str} {st:Stmt} {dV:au} {f C:ak} {fd:FuncData} {N ps:cm} {k:Nat} {sp:Sp} {ds:bq}
def qj.ok (F:qj K x qual st dV f fd) (S:aC N ps (ap st)) (len:∀ vs H Q E,sp vs H Q E->vs.length=ps.length) (e:∀ (b:au) (A:Around) (outer:List Env) (s:Shared) (H:Hp) (vs:az) (Q:VK) (E:XK),cK k (A.deeper (envOfC qual (ap st) s.heap.objs.size f b))->sp vs H Q E ->
     ∃ t,qy (fq Bg P w K mg base N qual (ap st) f b A outer s H E).Hw (bH st) t/\t { nx:=λ Z H'=>Q .cT H',rt:=Q } (start N vs) H):gX P w K mg base Bg (k+1) f fd ps sp:=by
 obtain ⟨o,O,kV,d,p,i,b,ct,X,rfl,l,g⟩:=F.ex;refine Fl l g S len λ A outer s H vs Q E c a=>?_;obtain ⟨t,h,q⟩:=e b A outer s H vs Q E c a;exact ⟨t,h.Hw,q⟩
def qj.binds {o:Obj} (F:qj K x qual st (.ref T) f fd) (e:K.lookup T=some o) (j:o.data = .seq i n) (h:∀ (kV d p:au) (a:Option ak) (b ct:au) (us:bq),(us++ds).length=ps.length->∃ k,bindArgs (W.fnOf x qual (cU st) (bH st) (ap st) (.ref T) kV d p a b ct) ⟨us,[]⟩=seqItems? (.ref T) >>= k/\k (some i)=pure (ps.zip (us++ds))):Binds K fd ps ds:=by
 obtain ⟨O,m,kV,d,p,a,b,ct,r,rfl,l,q⟩:=F.ex;intro s us X g;obtain ⟨k,H,c⟩:=h kV d p a b ct us g;exact W.binds_K X rfl e j H c
def qj.JO (F:qj K x qual st .none f fd) (h:∀ (kV d p:au) (a:Option ak) (b ct:au) (us:bq),us.length=ps.length->bindArgs (W.fnOf x qual (cU st) (bH st) (ap st) .none kV d p a b ct) ⟨us,[]⟩=pure (ps.zip us)):Binds K fd ps []:=by
 obtain ⟨o,O,kV,d,p,a,b,ct,X,rfl,l,q⟩:=F.ex;exact .all (h kV d p a b ct)
def gk (K:aA) (C:ak) (m q:Str) (st:Stmt) (d:au):Prop:=∃ f fd,Meth K C m f/\qj K m q st d f fd
def jx (P:aZ) (w:aU) (K:aA) (M:cH) (base:aM) (C:ak) (m:Str) (k:Nat) (p:cm) (d:bq) (s:Sp):Prop :=
 ∃ f fd,Meth K C m f/\Binds K fd p d/\gX P w K M base Bg k f fd p s
def gk.LF (h:gk K C m qual st .none) (S:aC N ps (ap st)) (len:∀ vs H Q E,sp vs H Q E->vs.length=ps.length) (c:∀ (kV d p:au) (a:Option ak) (b ct:au) (us:bq),us.length=ps.length->bindArgs (W.fnOf m qual (cU st) (bH st) (ap st) .none kV d p a b ct) ⟨us,[]⟩=pure (ps.zip us)) (e:∀ (f:ak) (b:au) (A:Around) (outer:List Env) (s:Shared) (H:Hp) (vs:az) (Q:VK) (E:XK),cK k (A.deeper (envOfC qual (ap st) s.heap.objs.size f b))->sp vs H Q E ->
     ∃ t,qy (fq Bg P w K mg base N qual (ap st) f b A outer s H E).Hw (bH st) t/\t { nx:=λ Z H'=>Q .cT H',rt:=Q } (start N vs) H):jx P w K mg base C m (k+1) ps [] sp:=by
 obtain ⟨f,fd,M,F⟩:=h;exact ⟨f,fd,M,F.JO c,F.ok S len λ b A outer s H vs Q E g i=>e f b A outer s H vs Q E g i⟩
structure CN (K:aA) (C:ak):Prop where
 makes:W.makesIn K C=true
 kp:W.keepIn K (.ref C)=true
def Mp (K:aA) (m:cH) (x:Str) (st:Stmt) (d:au):Prop:=∃ f fd,m x=some (.ref f)/\qj K x x st d f fd
def UF (P:aZ) (w:aU) (K:aA) (m:cH) (base:aM) (x:Str) (k:Nat) (p:cm) (d:bq) (s:Sp):Prop :=
 ∃ f fd,m x=some (.ref f)/\W.keepIn K (.ref f)=true/\Binds K fd p d/\gX P w K m base Bg k f fd p s
end
section
variable {X:Cx} {C:ak} {m x:Str} {p pos apos:Pos} {e o:Expr} {es:List Expr} {ta:TE} {t:TA} {k:Nat} {ps:cm} {sp:Sp} {ds:bq} {f7:az}
def bg (d:PE X o ta) (c:zH X.K C) (D:jx X.prog X.w X.K X.mg X.base C m k ps ds sp) (b:Vals f7 ds) (j:cK k X.A) (h:PA X (e::es) t) (a:autoParam (zC X e es) za_._auto_1) (g:autoParam (BP X es pos) za_._auto_1) (l:autoParam (eval (.Call (.Attribute o m apos) (e::es) [] pos) X.env=(do
     let O <- eval o X.env
     standAt apos.atName
     let (f,first) <- holding [O] (getMethod O m pl)
     callWith pos f first (backTo pos (starEach (e::es) X.env)) (backToKw pos (keywordEach [] X.env)))) za_._auto_1) :
   PE X (.Call (.Attribute o m apos) (e::es) [] pos) (xi C m sp f7 E0 ta t):=by
 obtain ⟨f,n,i,H,F⟩:=D;exact EK (pl:=pl) d c i F j H b Ak h a g l
def fZ (a:PE X o ta) (c:zH X.K C) (D:jx X.prog X.w X.K X.mg X.base C m k ps ds sp) (H:Vals f7 ds) (d:cK k X.A) (e:autoParam (eval (.Call (.Attribute o m apos) [] [] pos) X.env=(do
     let O <- eval o X.env
     standAt apos.atName
     let (f,first) <- holding [O] (getMethod O m pl)
     callWith pos f first (backTo pos (starEach [] X.env)) (backToKw pos (keywordEach [] X.env)))) za_._auto_1) :
   PE X (.Call (.Attribute o m apos) [] [] pos) (xi C m sp f7 E0 ta Ln):=by
 obtain ⟨f,g,b,h,F⟩:=D;exact Jh (pl:=pl) a c b F d h H Ak e
def uq (M:CN X.K C) (D:jx X.prog X.w X.K X.mg X.base C "__init__" k ps ds sp) (a:Vals f7 ds) (i:cK (k+1) X.A) (d:X.mg x=some (.ref C)) (h:PA X (e::es) t) (c:autoParam (Gl X x) za_._auto_1) (n:autoParam (xB x) zb_._auto_1) (b:autoParam (zC X e es) za_._auto_1) (g:autoParam (BP X es pos) za_._auto_1):PE X (.Call (.Name x p) (e::es) [] pos) (EO C sp f7 E0 t):=by
 obtain ⟨f,j,m,H,F⟩:=D;exact Ew ⟨M.makes,m.at_,m.fn,M.kp⟩ F i c d H a Ak h n b g
def GQ (D:UF X.prog X.w X.K X.mg X.base x k ps ds sp) (a:Vals f7 ds) (j:cK k X.A) (h:PA X (e::es) t) (c:autoParam (Gl X x) za_._auto_1) (n:autoParam (xB x) zb_._auto_1) (b:autoParam (zC X e es) za_._auto_1) (g:autoParam (BP X es pos) za_._auto_1):PE X (.Call (.Name x p) (e::es) [] pos) (xI sp f7 E0 t):=by
 obtain ⟨f,l,i,d,H,F⟩:=D;exact ug F j c i d H a Ak h n b g
end
section
variable {X:Cx} {pins:List (ak×Obj)} {σ:St} {H:Hp} {s:Shared} {h':aM} {ch:bA}
def Inv.ze {a:ak} {t':Nat} (I:Inv X pins σ H s) (k:∀ b u,b∉ch->s.heap.get? b=some u->h'.get? b=some u) (e:∀ b∈ch,tQ X pins H b) (hp:s.heap.objs.size<=a) (N:di X.prog X.w (upd H a o) h' a o):Inv X pins σ (upd H a o) { s with heap:=h',toks:=t' }:=by
 have f:H a=none:=I.cJ.fresh hp;refine I.step (g':=s.gens) (d':=s.drawn) (ch:=ch) (λ b d=>⟨(e b d).2.2.2.1,(e b d).2.1,(e b d).2.2.2.2.1,(e b d).2.2.2.2.2⟩) (λ b u Z Z h q Z=>k b u h q) (λ b u Z Z h q Z=>⟨u.slots,k b u h q⟩)
   (λ b u Z q n=>by rw [av (abY (aba (abh q) hp))];exact n) (λ b u h q=>⟨u,k b u h q⟩) (λ b x q=>by rw [av (ay q f)];exact q) (λ b u x q=>by rw [av (ay q f)];exact q)
   (λ b p q=>⟨#[],by rw [av (ay q f),q];simp⟩) (λ m i=>?_) (λ b u q=>?_) I.bare
 . obtain ⟨O,g,E,j,r⟩:=i;exact ⟨O,g,E,k _ O (λ z=>(e _ z).2.1 rfl) j,r⟩
 .
  by_cases d:b=a
  . subst d;rw [ag] at q;cases q;exact N
  .
   rw [av d] at q;refine (I.cJ b u q).dQ (λ c v h z=>k c v (λ y=>?_) z) (λ c z=>by rw [av (ay z f)];exact z) λ c x z=>by rw [av (ay z f)];exact z
   have n:=(e c y).1;rcases h with rfl|h
   . rw [n] at q;cases q
   . rw [n] at h;cases h
def Inv.yV {t':Nat} (I:Inv X pins σ H s) (k:∀ b u,b∉ch->s.heap.get? b=some u->h'.get? b=some u) (a:∀ b∈ch,tQ X pins H b):Inv X pins σ H { s with heap:=h',toks:=t' }:=by
 refine I.step (g':=s.gens) (d':=s.drawn) (ch:=ch) (λ b d=>⟨(a b d).2.2.2.1,(a b d).2.1,(a b d).2.2.2.2.1,(a b d).2.2.2.2.2⟩) (λ b u Z Z h q Z=>k b u h q) (λ b u Z Z h q Z=>⟨u.slots,k b u h q⟩)
   (λ Z Z Z Z n=>n) (λ b u h q=>⟨u,k b u h q⟩) (λ Z Z q=>q) (λ Z Z Z q=>q) (λ b p q=>⟨#[],by rw [q];simp⟩) (λ m f=>?_) (λ b u q=>?_) I.bare
 . obtain ⟨o,E,e,g,r⟩:=f;exact ⟨o,E,e,k _ o (λ z=>(a _ z).2.1 rfl) g,r⟩
 .
  refine (I.cJ b u q).dQ (λ c v h z=>k c v (λ y=>?_) z) (λ Z z=>z) λ Z Z z=>z;have n:=(a c y).1;rcases h with rfl|h
  . rw [n] at q;cases q
  . rw [n] at h;cases h
end
def U8 (K:aA) (a b:ak):It :=
 ⟨λ i H=>∃ X Y x y,aY K H a X/\aY K H b Y/\X[i]?=some x/\Y[i]?=some y,
  λ i H v H'=>∃ p x y,H p=none/\v = .ref p/\H'=upd H p (.tup [x,y])/\(∀ X,aY K H a X->X[i]?=some x)/\∀ Y,aY K H b Y->Y[i]?=some y,
  λ i H=>∃ X Y,aY K H a X/\aY K H b Y/\(X.length<=i\/Y.length<=i)⟩
def l7 (z TI TO I c a b:ak) (i:Nat) (h:aM):Prop:=IsZip h z TI TO .none/\IsPair h TI (.ref I) (.ref c)/\(∃ u v,IsPair h TO u v)/\h.IsListIter I a i/\h.IsListIter c b i
def l7.obj {TI TO:ak} (st:l7 z TI TO I d a b i h):∀ c∈[z,TI,TO,I,d],∃ o,h.get? c=some o/\∀ v,o.data ≠ .cell v:=λ c H=>by
 obtain ⟨j,U,⟨u,v,e⟩,⟨O,E,Z,D⟩,⟨k,g,Z,f⟩⟩:=st;simp only [aah,aak,ack] at H;rcases H with rfl|rfl|rfl|rfl|rfl
 . exact ⟨_,j,λ v q=>by cases q⟩
 . exact ⟨_,U,λ v q=>by cases q⟩
 . exact ⟨_,e,λ v q=>by cases q⟩
 . exact ⟨O,E,λ v q=>by rw [D] at q;cases q⟩
 . exact ⟨k,g,λ v q=>by rw [f] at q;cases q⟩
def Kq {K:aA} {TI TO g:ak} (D:ZipApart z TI TO f g a b) :
   Turn P w K (.Tuple elts x1 qa) (U8 K a b) [z,TI,TO,f,g] z (l7 z TI TO f g a b) where
 mem:=by simp
 obj:=λ i h S=>S.obj
 keep:=λ i h B S k=>by
   obtain ⟨p,U,⟨u,v,l⟩,m,n⟩:=S;exact ⟨k z (by simp) _ p,k TI (by simp) _ U,⟨u,v,k TO (by simp) _ l⟩,m.at λ o e=>k f (by simp) o e,n.at λ o e=>k g (by simp) o e⟩
 item:=by
   intro X F M C hc i q s σ H E I r S G;subst F M C;obtain ⟨xs,ys,x,y,Y,W,hx,hy⟩:=G;obtain ⟨LI,A,N,Pa⟩:=I.list Y;obtain ⟨oJ,Q,O,X7⟩:=I.list W;obtain ⟨u1,J,R⟩:=A.get hx;obtain ⟨u2,L,T⟩:=Q.get hy;have lt:∀ c∈[z,TI,TO,f,g],c<s.heap.objs.size:=λ c V=>by
     obtain ⟨o,e,Z⟩:=S.obj c V;exact abh e
   obtain ⟨p,U,⟨u,v,l⟩,m,n⟩:=S;refine wpAny_pyNext_zip_item D p U l m n N.isList O.isList (x:=u1) (y:=u2) (by simpa using J) (by simpa using L) λ B z1 z2 z3 z4 z5 z6 t=>?_;refine ⟨.ref s.heap.objs.size,rfl,wpAny_letOwnedTupleGo_zip (s:={ s with heap:=B }) z1 λ VW zz j=>?_⟩;have ID:∀ c o,c∉[z,TI,TO,f,g]->s.heap.get? c=some o->VW.get? c=some o:=λ c o d e=>by
     simp only [aah,aak,ack,adE] at d;exact j.extBut _ _ d.1 (t c o d.1 d.2.2.1 d.2.2.2.1 d.2.2.2.2 e)
   have nz:s.heap.objs.size≠z:=ad8 (lt z (by simp));have n5:IsPair VW s.heap.objs.size u1 u2:=j.extBut _ _ nz z5;refine ⟨.ref s.heap.objs.size,upd H s.heap.objs.size (.tup [x,y]),I.ze (t':=s.toks) ID r (aaD _) ⟨by show 2<=sizeLine;decide,[u1,u2],.cons R (.cons T .nil),⟨_,n5,rfl,_,rfl⟩⟩,rfl,
     ⟨_,x,y,I.cJ.fresh (aaD _),rfl,rfl,λ ab h=>by rw [I.qk h Y];exact hx,λ ad h=>by rw [I.qk h W];exact hy⟩,?_,λ c V=>?_⟩
   . exact ⟨zz,j.extBut _ _ D.TIz (t _ _ D.TIz D.TITO D.TIi1 D.TIi2 U),⟨_,_,j.extBut _ _ D.TOz z2⟩,z3.extBut j.extBut D.i1z,z4.extBut j.extBut D.i2z⟩
   . rw [av (abY (lt c V))];exact (r c V).1
 done:=by
   intro X F M C hc i q s σ H E I r S G;subst F M C;obtain ⟨xs,ys,Y,W,hl⟩:=G;obtain ⟨LI,A,N,Pa⟩:=I.list Y;obtain ⟨oJ,Q,O,X7⟩:=I.list W;have l1:=A.length;have l2:=Q.length;obtain ⟨p,U,⟨u,v,l⟩,m,n⟩:=S;have Dh:LI.toArray[i]?=none\/oJ.toArray[i]?=none:=by
     rcases hl with h|h
     . exact .inl (by simp;lia)
     . exact .inr (by simp;lia)
   refine wpAny_pyNext_zip_end (I.ok.hd hc) D p U l m n N.isList O.isList Dh λ B t=>⟨rfl,I.yV (ch:=[z,TI,TO,f,g]) (t':=s.toks) (λ c o d e=>?_) r⟩
   simp only [aah,aak,ack,adE] at d;exact t c o d.1 d.2.2.1 d.2.2.2.1 d.2.2.2.2 e
 self:=λ Z Z Z Z Z S h=>afT S.1 h
def JJ:bootBuiltins "zip" = some (.type "zip"):=by decide +kernel
section
variable {X:Cx}
def ZP (K:aA) (t:TA):TI:=λ σ H R=>t σ H λ v h=>∃ a b,v=[.ref a,.ref b]/\(∃ x,aY K h a x)/\(∃ y,aY K h b y)/\R (U8 K a b) h
def OD {a b:Expr} {p g:Pos} (w:Gl X "zip") (x:X.mg "zip" = none) (o:PA X [a,b] t) (y:autoParam (starEach [a,b] X.env=[(false,eval a X.env),(false,eval b X.env)]) za_._auto_1) (k:autoParam (starEach [b] X.env=[(false,eval b X.env)]) za_._auto_1):PI X (.Tuple elts x1 qa) (.Call (.Name "zip" p) [a,b] [] g) (ZP X.K t):=by
 intro f s σ H R I h;refine Call_ (jV I w x JJ (acL (c9 (o g f s σ H _ I h) λ us S ⟨vs,n,i,D,Q⟩=>?_) (by rw [y,k]) (by rw [k];rfl)));obtain ⟨a,b,e,⟨xs,Y⟩,⟨ys,W⟩,q⟩:=Q;subst e;obtain ⟨u,v,rfl,r,C⟩:=vals2 D;obtain rfl:u=Value.ref a:=r;obtain rfl:v=Value.ref b:=C;obtain ⟨M,T,l,N⟩:=i.list Y;obtain ⟨oJ,O,m,U⟩:=i.list W;refine call_zip_2 l.isList m.isList λ V z E F G J z6 A=>?_;have L:a<S.heap.objs.size:=by obtain ⟨Z,e,Z⟩:=l.isList;exact abh e
 have B:b<S.heap.objs.size:=by obtain ⟨Z,e,Z⟩:=m.isList;exact abh e
 refine afT z ?_;refine ⟨S.heap.objs.size+4,[S.heap.objs.size+4,S.heap.objs.size+2,S.heap.objs.size+3,S.heap.objs.size,S.heap.objs.size+1],_,_,n,rfl,i.kept (t':=S.toks) A,Kq (zipApart_new L B),⟨z,E,⟨_,_,F⟩,G,J⟩,λ c j=>?_,q⟩;have d:S.heap.objs.size<=c:=by
   simp only [aah,aak,ack] at j;rcases j with rfl|rfl|rfl|rfl|rfl
   . exact adR _ _
   . exact adR _ _
   . exact adR _ _
   . exact aaD _
   . exact adR _ _
 exact i.wk d (i.cJ.fresh d)
end
def Jv {K:aA} {xs ys:az} {t:TT} {Q:Hp->Prop} (d:Nat->az->St->Hp->Prop) (h0:d 0 [] σ H) (A:∀ i acc σ H,i<=min xs.length ys.length->d i acc σ H->aY K H a xs/\aY K H b ys) (C:∀ i x y p acc σ H,xs[i]?=some x->ys[i]?=some y->H p=none->d i acc σ H->g (.ref p) σ (upd H p (.tup [x,y])) λ c l=>t c l λ k h =>
     if k=true then te c h λ v j=>j D=some (.lst acc)/\acc.length<sizeLine/\d (i+1) (acc++[v]) c (upd j D (.lst (acc++[v]))) else d (i+1) acc c h) (w:∀ acc σ H,d (min xs.length ys.length) acc σ H->Q H) :
   ∃ W:Nat->Nat->az->St->Hp->Prop,(∃ m,W 0 m [] σ H)/\∀ i m acc f H',W i m acc f H'->((U8 K a b).stop i H'/\Q H') \/
     ((U8 K a b).go i H'/\∃ N:az->St->Hp->Prop,(∀ G c h,N G c h->∃ M,M<m/\W (i+1) M G c h)/\∀ x o,(U8 K a b).K9 i H' x o->g x f o λ c l=>t c l λ k h =>
       if k=true then te c h λ y j=>j D=some (.lst acc)/\acc.length<sizeLine/\N (acc++[y]) c (upd j D (.lst (acc++[y]))) else N acc c h):=by
 refine ⟨λ i m acc σ H=>m=min xs.length ys.length - i/\i<=min xs.length ys.length/\d i acc σ H,⟨_,rfl,ach _,h0⟩,?_⟩;rintro i m acc σ H ⟨rfl,z,p⟩;obtain ⟨q,n⟩:=A i acc σ H z p;by_cases O:i<min xs.length ys.length
 .
  have s:i<xs.length:=by lia
  have u:i<ys.length:=by lia
  refine .inr ⟨⟨xs,ys,xs[i],ys[i],q,n,by simp [s],by simp [u]⟩,d (i+1),λ G f H' F=>⟨min xs.length ys.length - (i+1),by lia,rfl,O,F⟩,λ v H' y=>?_⟩;obtain ⟨I,x,y,B,rfl,rfl,E,r⟩:=y;exact C i x y I acc σ H (E xs q) (r ys n) B p
 . have e:i=min xs.length ys.length:=by lia
   subst e;exact .inl ⟨⟨xs,ys,q,n,by lia⟩,w acc σ H p⟩
mutual
def Dn (K:aA) (H:Hp):PyData->V->Prop
 | .none,v=>v = .cT
 | .bool b,v=>v = .bl b
 | .int i,v=>v = .int i
 | .str x,v=>v = .str x
 | .list d,v=>∃ a xs,v = .ref a/\aY K H a xs/\bE K H d xs
 | .tuple d,v=>∃ a xs,v = .ref a/\bP K H a xs/\bE K H d xs
 | .dict _,_=>False
def bE (K:aA) (H:Hp):List PyData->az->Prop
 | [],xs=>xs=[]
 | d::D,xs=>∃ x r,xs=x::r/\Dn K H d x/\bE K H D r
end
mutual
def fK:PyData->Bool
 | .list _=>false
 | .dict _=>false
 | .tuple d=>rT d
 | _=>true
def rT:List PyData->Bool
 | []=>true
 | d::D=>fK d && rT D
end
@[simp] theorem Oa:rT []=true:=rfl
@[simp] theorem Aa {d:PyData} {ds:List PyData}:rT (d::ds)=(fK d && rT ds):=rfl
theorem vx:∀ {D:List PyData},rT D=true↔∀ d∈D,fK d=true
 | []=>⟨λ Z d h=>absurd h aak,λ Z=>rfl⟩
 | d::D=>by
   rw [Aa,abF,vx];constructor
   . rintro ⟨a,b⟩ e H;rcases aah.mp H with rfl|H
     . exact a
     . exact b e H
   . exact λ h=>⟨h d aaW,λ e H=>h e (aar _ H)⟩
def mY:fK (.tuple D)=true↔∀ d∈D,fK d=true:=vx
def aS (K:aA) (H h:Hp):Prop:=∀ a x,bP K H a x->bP K h a x
def aS.refl {K:aA} (H:Hp):aS K H H:=λ Z Z h=>h
def aS.trans {K:aA} (a:aS K H d) (b:aS K d H2):aS K H H2:=λ c x h=>b c x (a c x h)
def aE.ts {K:aA} (s:aE H H'):aS K H H':=λ Z Z h=>s.tup h
def DS:HO->Bool
 | .tup _=>false
 | .AF _ _=>false
 | _=>true
def bW {K:aA} (h:H a=some o) (n:DS o=true):aS K H (upd H a o'):=λ b x q=>by
 have N:∀ u,H b=some u->DS u=false->b≠a:=λ u e z y=>by
   subst y;rw [h] at e;cases e;rw [n] at z;cases z
 rcases q with (q|⟨O,q⟩)|q
 . exact .inl (.inl (by rw [av (N _ q rfl)];exact q))
 . exact .inl (.inr ⟨O,by rw [av (N _ q rfl)];exact q⟩)
 . exact .inr q
section
variable {K:aA} {H H':Hp}
mutual
theorem Dn.same (s:aE H H'):∀ (d:PyData) {v:V},Dn K H d v->Dn K H' d v
 | .none,_,h=>by rw [Dn] at h |-;exact h
 | .bool _,_,h=>by rw [Dn] at h |-;exact h
 | .int _,_,h=>by rw [Dn] at h |-;exact h
 | .str _,_,h=>by rw [Dn] at h |-;exact h
 | .list D,_,h=>by
   rw [Dn] at h |-;obtain ⟨a,xs,e,q,r⟩:=h;exact ⟨a,xs,e,s.seq q,bE.same s D r⟩
 | .tuple D,_,h=>by
   rw [Dn] at h |-;obtain ⟨a,xs,e,q,r⟩:=h;exact ⟨a,xs,e,s.tup q,bE.same s D r⟩
 | .dict _,_,h=>by rw [Dn] at h;exact h.elim
theorem bE.same (s:aE H H'):∀ (D:List PyData) {xs:az},bE K H D xs->bE K H' D xs
 | [],_,h=>by rw [bE] at h |-;exact h
 | d::D,_,h=>by
   rw [bE] at h |-;obtain ⟨x,r,e,q,t⟩:=h;exact ⟨x,r,e,Dn.same s d q,bE.same s D t⟩
end
mutual
theorem Dn.ts (s:aS K H H'):∀ (d:PyData) {v:V},fK d=true->Dn K H d v->Dn K H' d v
 | .none,_,_,h=>by rw [Dn] at h |-;exact h
 | .bool _,_,_,h=>by rw [Dn] at h |-;exact h
 | .int _,_,_,h=>by rw [Dn] at h |-;exact h
 | .str _,_,_,h=>by rw [Dn] at h |-;exact h
 | .list D,_,f,_=>by rw [fK] at f;cases f
 | .tuple D,_,f,h=>by
   rw [Dn] at h |-;obtain ⟨a,xs,e,q,r⟩:=h;exact ⟨a,xs,e,s _ _ q,bE.ts s D (mY.mp f) r⟩
 | .dict _,_,_,h=>by rw [Dn] at h;exact h.elim
theorem bE.ts (s:aS K H H'):∀ (D:List PyData) {xs:az},(∀ d∈D,fK d=true)->bE K H D xs->bE K H' D xs
 | [],_,_,h=>by rw [bE] at h |-;exact h
 | d::D,_,f,h=>by
   rw [bE] at h |-;obtain ⟨x,r,e,q,t⟩:=h;exact ⟨x,r,e,Dn.ts s d (f d aaW) q,bE.ts s D (λ d a=>f d (aar _ a)) t⟩
end
theorem bE.length:∀ {D:List PyData} {xs:az},bE K H D xs->xs.length=D.length
 | [],_,h=>by rw [bE] at h;rw [h];rfl
 | d::D,_,h=>by
   rw [bE] at h;obtain ⟨x,r,rfl,Z,t⟩:=h;rw [ab9,ab9,bE.length t]
theorem bE.get:∀ {D:List PyData} {xs:az} {i:Nat} {d:PyData},bE K H D xs->D[i]?=some d->∃ x,xs[i]?=some x/\Dn K H d x
 | [],_,_,_,_,e=>by simp at e
 | _::_,_,0,_,h,e=>by
   rw [bE] at h;obtain ⟨x,r,rfl,q,t⟩:=h;simp at e;subst e;exact ⟨x,rfl,q⟩
 | _::D,_,i+1,d,h,e=>by
   rw [bE] at h;obtain ⟨x,r,rfl,q,t⟩:=h;obtain ⟨y,E,a⟩:=bE.get (i:=i) t (by simpa using e);exact ⟨y,by simpa using E,a⟩
theorem bE.snoc:∀ {D:List PyData} {xs:az} {d:PyData} {x:V},bE K H D xs->Dn K H d x->bE K H (D++[d]) (xs++[x])
 | [],_,d,x,h,q=>by
   rw [bE] at h;subst h;exact ⟨x,[],rfl,q,rfl⟩
 | _::D,_,d,x,h,q=>by
   rw [bE] at h;obtain ⟨y,r,rfl,Q,t⟩:=h;exact ⟨y,r++[x],rfl,Q,bE.snoc t q⟩
theorem bE.set:∀ {D:List PyData} {xs:az} {i:Nat} {d:PyData} {x:V},bE K H D xs->Dn K H d x->bE K H (D.set i d) (xs.set i x)
 | [],_,_,_,_,h,_=>by
   rw [bE] at h;subst h;exact rfl
 | _::_,_,0,d,x,h,q=>by
   rw [bE] at h;obtain ⟨y,r,rfl,Q,t⟩:=h;exact ⟨x,r,rfl,q,t⟩
 | _::D,_,i+1,d,x,h,q=>by
   rw [bE] at h;obtain ⟨y,r,rfl,Q,t⟩:=h;exact ⟨y,r.set i x,rfl,Q,bE.set t q⟩
def ed:bE K H [] []:=rfl
def bD (a:Dn K H d x) (b:bE K H D xs):bE K H (d::D) (x::xs):=⟨x,xs,rfl,a,b⟩
def Ja {i:Int}:Dn K H (.int i) (.int i):=rfl
def iU (h:bP K H a xs) (r:bE K H d xs):Dn K H (.tuple d) (.ref a):=⟨a,xs,rfl,h,r⟩
def vX (h:aY K H a xs) (r:bE K H d xs):Dn K H (.list d) (.ref a):=⟨a,xs,rfl,h,r⟩
abbrev ff (f:Int×Int):PyData:=.tuple [.int f.1,.int f.2]
def mI {f:Int×Int} (h:bP K H p [.int f.1,.int f.2]):Dn K H (ff f) (.ref p):=iU h (bD Ja (bD Ja ed))
def Dn.fr (h:Dn K H (ff f) v):∃ p,v = .ref p/\bP K H p [.int f.1,.int f.2]:=by
 obtain ⟨p,X,e,q,x,r,c,E,y,R,d,a,b⟩:=h;have E:x=V.int f.1:=E;have a:y=V.int f.2:=a;have b:R=[]:=b;subst c E d a b;exact ⟨p,e,q⟩
def ir (f:Int×Int):fK (ff f)=true:=by simp [ff,fK]
end
section
variable {X:Cx} {pins:List (ak×Obj)} {σ:St} {H:Hp} {s:Shared}
mutual
theorem Inv.reads (I:Inv X pins σ H s):∀ (d:PyData) {v:V} {u:au},Dn X.K H d v->RelV v u->∃ as,Reads s.heap u d as
 | .none,_,_,h,r=>by
   have h:_=V.cT:=h;subst h;obtain rfl:=(show _=Value.none from r)
   exact ⟨_,.none⟩
 | .bool b,_,_,h,r=>by
   have h:_=V.bl b:=h;subst h;obtain rfl:=(show _=Value.bool b from r)
   exact ⟨_,.bool b⟩
 | .int i,_,_,h,r=>by
   have h:_=V.int i:=h;subst h;obtain ⟨t,rfl⟩:=r;exact ⟨_,.int i t⟩
 | .str x,_,_,h,r=>by
   have h:_=V.str x:=h;subst h;obtain ⟨t,rfl⟩:=r;exact ⟨_,.str x t⟩
 | .list D,_,_,h,r=>by
   obtain ⟨a,j,rfl,q,t⟩:=h;obtain rfl:=(show _=Value.ref a from r)
   obtain ⟨B,g,p,Z⟩:=I.list q;obtain ⟨o,f,c,n,e⟩:=p.isList;obtain ⟨as,R⟩:=Inv.readsAll I D t g;exact ⟨_,.list f c e (by simpa using R)⟩
 | .tuple D,_,_,h,r=>by
   obtain ⟨a,j,rfl,q,t⟩:=h;obtain rfl:=(show _=Value.ref a from r)
   obtain ⟨B,g,p,Z⟩:=I.tuple q;obtain ⟨o,f,c,n,e⟩:=p;obtain ⟨as,R⟩:=Inv.readsAll I D t g;exact ⟨_,.tuple f c e (by simpa using R)⟩
 | .dict _,_,_,h,_=>(show False from h).elim
theorem Inv.readsAll (I:Inv X pins σ H s):∀ (D:List PyData) {xs:az} {us:bq},bE X.K H D xs->Vals xs us->∃ as,ReadsAll s.heap us D as
 | [],_,_,h,r=>by
   have h:_=[]:=h;subst h;obtain rfl:=Vals.zero r;exact ⟨_,.nil⟩
 | d::D,_,_,h,r=>by
   obtain ⟨x,t,rfl,q,Q⟩:=h;cases r with
   | cons R a =>
     obtain ⟨as,b⟩:=Inv.reads I d q R;obtain ⟨B,c⟩:=Inv.readsAll I D Q a;exact ⟨_,.cons b c⟩
end
inductive TD (K:aA) (x:V) (y:V) (H:Hp) (Q:VK):Prop|mk (d e:_) (_:Dn K H d x) (_:Dn K H e y) (_:SeqAt.shaped d=true) (_:SeqAt.shaped e=true) (_:Q (.bl (PyData.eqv d e)) H)
inductive VD (K:aA) (x:V) (y:V) (H:Hp) (Q:VK):Prop|mk (d e:_) (_:Dn K H d x) (_:Dn K H e y) (_:SeqAt.shaped d=true) (_:SeqAt.shaped e=true) (_:Q (.bl (!PyData.eqv d e)) H)
def OO (c:X.A.units+64<cLine):jo X (compareOp .Eq) (TD X.K):=by
 intro pins s σ H x y v u Q I f g h;obtain ⟨d,e,a,b,S,i,q⟩:=h;obtain ⟨as,r⟩:=I.reads d a f;obtain ⟨B,R⟩:=I.reads e b g;exact eq_dataH r R S i c ⟨.bl _,H,I,rfl,q⟩
def C1 (c:X.A.units+64<cLine):jo X (compareOp .NotEq) (VD X.K):=by
 intro pins s σ H x y v u Q I f g h;obtain ⟨d,e,a,b,S,i,q⟩:=h;obtain ⟨as,r⟩:=I.reads d a f;obtain ⟨B,R⟩:=I.reads e b g;exact ne_dataH r R S i c ⟨.bl _,H,I,rfl,q⟩
def xD (n:X.calm=true):jg X (.builtin "all") (λ xs H Q=>∃ (p:ak) (bs:List Bool),xs=[.ref p]/\aY X.K H p (bs.map V.bl)/\Q (.bl (bs.all id)) H):=by
 intro pins s σ H xs U Q I r h;obtain ⟨p,bs,rfl,A,q⟩:=h;obtain ⟨u,rfl,C⟩:∃ u,U=[u]/\RelV (.ref p) u:=by
   cases r with
   | cons a b=>cases b;exact ⟨_,rfl,a⟩
 obtain rfl:u=Value.ref p:=C;obtain ⟨B,R,g,Z⟩:=I.list A;have w:p<s.heap.objs.size:=by obtain ⟨Z,e,Z⟩:=g.isList;exact abh e
 have d:B.length=bs.length:=by rw [<- R.length,CT]
 have k:∀ i v,B.toArray[i]?=some v->v=Value.bool (bs.getD i false):=λ i v e=>by
   have E:B[i]?=some v:=by simpa using e
   have c:i<bs.length:=by rw [<- d];exact (QQ.mp E).1
   obtain ⟨u,j,D⟩:=R.get (i:=i) (x:=V.bl (bs[i])) (by simp [c]);rw [E] at j;cases j;have F:v=Value.bool bs[i]:=D;rw [F];simp [c]
 refine call_all_walk (wpAny_pyIter_list g.isList ⟨s.heap.objs.size,_,_,_,_,_,λ i=>bs.getD i false,rfl,Walks.list (by simpa using I.ok.hd n) _ p (abY w) B.toArray,⟨⟨_,abX _ rfl,rfl,rfl⟩,g.isList.push _⟩,λ i v S J G l f=>?_,λ L T t=>?_⟩)
 . rw [k i v l];exact aaU f
 .
  have e:(List.range B.toArray.size).all (λ i=>bs.getD i false)=bs.all id:=by
    have:B.toArray.size=bs.length:=by simpa using d
    rw [this,adH,ac7,ac7];constructor
    . intro h b m;obtain ⟨i,c,rfl⟩:=List.getElem_of_mem m;have:=h i (aa4.mpr c);simpa [c] using this
    . intro h i c;have c:=aa4.mp c;have:=h _ (abq c);simpa [c] using this
  rw [e];exact ⟨.bl _,H,I.kept (t':=T) λ b o z=>t b o (λ y=>by
    have y:b=s.heap.objs.size:=by simpa using y
    exact absurd (abh z) (by rw [y];exact adl _)) (aaJ _ z),rfl,q⟩
end
section
variable {P:aZ} {w:aU} {K:aA} {mg:cH} {base:aM} {x qual m:Str} {st:Stmt} {dV:au} {f C:ak} {fd:FuncData} {N ps:cm} {k:Nat} {sp:Sp} {ds:bq} {f7:az}
def Uu (P:aZ) (w:aU) (K:aA) (M:cH) (base:aM) (C:ak) (m q:Str) (st:Stmt) (d:au) (k:Nat) (p:cm) (s:Sp):Prop :=
 ∃ f fd,Meth K C m f/\qj K m q st d f fd/\gX P w K M base Bg k f fd p s
def Al (P:aZ) (w:aU) (K:aA) (M:cH) (base:aM) (C:ak) (m:Str) (k:Nat) (p:cm) (f:az) (s:Sp):Prop :=
 ∃ ds,Vals f ds/\jx P w K M base C m k p ds s
def gk.mok (h:gk K C m qual st dV) (S:aC N ps (ap st)) (len:∀ vs H Q E,sp vs H Q E->vs.length=ps.length) (e:∀ (f:ak) (b:au) (A:Around) (outer:List Env) (s:Shared) (H:Hp) (vs:az) (Q:VK) (E:XK),cK k (A.deeper (envOfC qual (ap st) s.heap.objs.size f b))->sp vs H Q E ->
     ∃ t,qy (fq Bg P w K mg base N qual (ap st) f b A outer s H E).Hw (bH st) t/\t { nx:=λ Z H'=>Q .cT H',rt:=Q } (start N vs) H):Uu P w K mg base C m qual st dV (k+1) ps sp:=by
 obtain ⟨f,fd,M,F⟩:=h;exact ⟨f,fd,M,F,F.ok S len λ b A outer s H vs Q E a c=>e f b A outer s H vs Q E a c⟩
def Uu.LF (h:Uu P w K mg base C m qual st (.ref T) k ps sp) (H:Ir K T b) (a:∀ i:Array au,Vals b i.toList->∃ ds,Vals f7 ds/\∀ (kV d p:au) (A:Option ak) (B ct:au) (us:bq),(us++ds).length=ps.length->∃ k,bindArgs (W.fnOf m qual (cU st) (bH st) (ap st) (.ref T) kV d p A B ct) ⟨us,[]⟩=seqItems? (.ref T) >>= k/\k (some i)=pure (ps.zip (us++ds))) :
   Al P w K mg base C m k ps f7 sp:=by
 obtain ⟨f,fd,M,F,O⟩:=h;obtain ⟨o,n,i,H,e,g⟩:=H;obtain ⟨ds,c,a⟩:=a i g;exact ⟨ds,c,f,fd,M,F.binds H e a,O⟩
def Oc (P:aZ) (w:aU) (K:aA) (m:cH) (base:aM) (x:Str) (k:Nat) (p:cm) (f:az) (s:Sp):Prop :=
 ∃ ds,Vals f ds/\UF P w K m base x k p ds s
def vals3 {a b c:V} {i:Array au} (h:Vals [a,b,c] i.toList):∃ u v z,i=#[u,v,z]/\RelV a u/\RelV b v/\RelV c z:=by
 obtain ⟨l⟩:=i;cases h with
 | cons H h=>cases h with
   | cons d h=>cases h with
     | cons e h=>cases h with
       | nil=>exact ⟨_,_,_,rfl,H,d,e⟩
end
section
variable {X:Cx} {C:ak} {m x:Str} {p pos apos:Pos} {e o:Expr} {es:List Expr} {ta:TE} {t:TA} {k:Nat} {ps:cm} {sp:Sp} {f7:az}
def Ie (a:PE X o ta) (c:zH X.K C) (D:Al X.prog X.w X.K X.mg X.base C m k ps f7 sp) (b:cK k X.A) (h:PA X (e::es) t) (F:autoParam (zC X e es) za_._auto_1) (g:autoParam (BP X es pos) za_._auto_1) (d:autoParam (eval (.Call (.Attribute o m apos) (e::es) [] pos) X.env=(do
     let O <- eval o X.env
     standAt apos.atName
     let (f,first) <- holding [O] (getMethod O m pl)
     callWith pos f first (backTo pos (starEach (e::es) X.env)) (backToKw pos (keywordEach [] X.env)))) za_._auto_1) :
   PE X (.Call (.Attribute o m apos) (e::es) [] pos) (xi C m sp f7 E0 ta t):=by
 obtain ⟨i,H,D⟩:=D;exact bg (pl:=pl) a c D H b h F g d
def AZ (M:CN X.K C) (D:Al X.prog X.w X.K X.mg X.base C "__init__" k ps f7 sp) (d:cK (k+1) X.A) (c:X.mg x=some (.ref C)) (h:PA X (e::es) t) (b:autoParam (Gl X x) za_._auto_1) (n:autoParam (xB x) zb_._auto_1) (a:autoParam (zC X e es) za_._auto_1) (g:autoParam (BP X es pos) za_._auto_1):PE X (.Call (.Name x p) (e::es) [] pos) (EO C sp f7 E0 t):=by
 obtain ⟨f,H,D⟩:=D;exact uq M D H d c h b n a g
def IF (D:Oc X.prog X.w X.K X.mg X.base x k ps f7 sp) (c:cK k X.A) (h:PA X (e::es) t) (b:autoParam (Gl X x) za_._auto_1) (n:autoParam (xB x) zb_._auto_1) (a:autoParam (zC X e es) za_._auto_1) (g:autoParam (BP X es pos) za_._auto_1):PE X (.Call (.Name x p) (e::es) [] pos) (xI sp f7 E0 t):=by
 obtain ⟨d,H,D⟩:=D;exact GQ D H c h b n a g
end
def dH {X:Cx} {K:aA} {n:Nat} (H:X.K=K) (a:X.calm=true) (h:Rl X es t) (b:autoParam ((assignEach es X.env).length=n) za_._auto_1) (f:autoParam ((assignEach es X.env).findIdx? (·.1)=none) za_._auto_1):PG X (.Tuple es k p) (RF K n t):=by
 subst H;exact QM a h b f
end L2
namespace PySem
open Sem (wp)
end PySem
namespace L2
open PySem PySem.Spec PyProof.Rows Mth
def Md:bootBuiltins "dict" = some (.type "dict"):=by decide +kernel
abbrev cy:=Int×Int
structure aq where
 most:Int
 eF:Int
 load:Int
 rows:List (List cy)
 fc:Int->Int->Option cy
 bK:List (cy×cy×cy)
 bw:List (Option (cy×Int×Int×Int))
noncomputable abbrev pV (s:cy×cy×cy):PyData:=.tuple [ff s.1,ff s.2.1,ff s.2.2]
noncomputable abbrev iR:Option (cy×Int×Int×Int)->PyData
 | none => .none
 | some s => .tuple [ff s.1,.int s.2.1,.int s.2.2.1,.int s.2.2.2]
noncomputable abbrev wn (r:List cy):PyData:=.tuple (r.map ff)
noncomputable def uc (m:aq) (a p b c:ak):List (Str×V) :=
 [("most",.int m.most),("cap",.int m.eF),("load",.int m.load),("mark_rows",.ref a),("flows",.ref p),("skies",.ref b),("stoves",.ref c)]
section
variable (m:aq) (pm pf ps pt:ak)
def Aw:(uc m pm pf ps pt).lookup ("most" : Str)=some (.int m.most):=by rfl
def yg:(uc m pm pf ps pt).lookup ("cap" : Str)=some (.int m.eF):=by rfl
def Ip:(uc m pm pf ps pt).lookup ("load" : Str)=some (.int m.load):=by rfl
def uV:(uc m pm pf ps pt).lookup ("mark_rows" : Str)=some (.ref pm):=by rfl
def rP:(uc m pm pf ps pt).lookup ("flows" : Str)=some (.ref pf):=by rfl
def kg:(uc m pm pf ps pt).lookup ("skies" : Str)=some (.ref ps):=by rfl
def pD:(uc m pm pf ps pt).lookup ("stoves" : Str)=some (.ref pt):=by rfl
end
def oM (K:aA) (H:Hp):Option cy->eO->Prop
 | none,none=>True
 | some f,some v=>Dn K H (ff f) v
 | _,_=>False
noncomputable abbrev jB (i j:Int):List Key:=[.inl i,.inl j]
def xK (a:List (List Key×V)):Prop:=(a.map (·.1)).Nodup/\∀ p∈a,∃ i j:Nat,i<4/\j<4/\p.1=jB i j
end L2
namespace Mth
noncomputable def nf (t b:Int):Int×Int:=(t.fdiv (Int.gcd t b:Nat),b.fdiv (Int.gcd t b:Nat))
def Fh {r q s:Int} (h:r ∣ q * s) (c:Int.gcd q r=1):r ∣ s:=by
 have H:r.natAbs ∣ q.natAbs * s.natAbs:=by rw [<- aeG];exact agc.mpr h
 have a:Nat.Coprime r.natAbs q.natAbs:=by rw [Nat.coprime_comm];exact c
 exact agc.mp (Nat.Coprime.dvd_of_dvd_mul_left a H)
def Fr.uniq {t b q r Q r':Int} (H:b≠0) (h:Fr t b q r) (k:Fr t b Q r'):q=Q/\r=r':=by
 have e:q * r'=Q * r:=by
   have E:(q * r') * b=(Q * r) * b:=by
     have a:=h.ED;have A:=k.ED
     calc (q * r') * b=(q * b) * r':=by rw [afm]
       _=(t * r) * r':=by rw [a]
       _=(t * r') * r:=by rw [afm]
       _=(Q * b) * r:=by rw [A]
       _=(Q * r) * b:=by rw [afm]
   exact afH H E
 have d:r ∣ r':=by
   have:r ∣ q * r':=⟨Q,by rw [e,Int.mul_comm]⟩
   exact Fh this h.cop
 have D:r' ∣ r:=by
   have:r' ∣ Q * r:=⟨q,by rw [<- e,Int.mul_comm]⟩
   exact Fh this k.cop
 have c:r=r':=Int.dvd_antisymm (adD h.pos) (adD k.pos) d D;subst c;exact ⟨afH (ae9 h.pos) e,rfl⟩
def mL {t b:Int} (h:0<b):Fr t b (nf t b).1 (nf t b).2:=(Ib (ae9 h) rfl).2.2.1 h
theorem Fr.nf {t b q r:Int} (H:0<b) (h:Fr t b q r):(q,r)=nf t b:=by
 obtain ⟨e,E⟩:=h.uniq (ae9 H) (mL H);rw [e,E]
def n9 (x y:Int×Int):Int×Int:=nf (x.1 * y.2+y.1 * x.2) (x.2 * y.2)
def lA (x y:Int×Int):Int×Int:=nf (x.1 * y.2 - y.1 * x.2) (x.2 * y.2)
noncomputable def ce (x y:Int×Int):Bool:=decide (x.1 * y.2<y.1 * x.2)
structure fW (n:Nat) (f:Int×Int):Prop where
 t:Bd n f.1
 b:Bd n f.2
 p:0<f.2
theorem fW.mono {n:Nat} (h:fW m f) (l:m<=n):fW n f:=⟨h.t.mono l,h.b.mono l,h.p⟩
def fW.minus (h:fW m x) (k:fW n y):fW (m+n+1) (lA x y):=by
 have F:=mL (t:=x.1 * y.2 - y.1 * x.2) (b:=x.2 * y.2) (adu h.p k.p);have B:Bd (m+n) (x.1 * y.2):=h.t.mul k.b;have a:Bd (m+n) (y.1 * x.2):=by rw [aei];exact k.t.mul h.b
 exact ⟨F.Ud (B.sub a),F.U2 ((h.b.mul k.b).mono (adJ _)),F.pos⟩
def fW.plus (h:fW m x) (k:fW n y):fW (m+n+1) (n9 x y):=by
 have F:=mL (t:=x.1 * y.2+y.1 * x.2) (b:=x.2 * y.2) (adu h.p k.p);have B:Bd (m+n) (x.1 * y.2):=h.t.mul k.b;have a:Bd (m+n) (y.1 * x.2):=by rw [aei];exact k.t.mul h.b
 exact ⟨F.Ud (B.add a),F.U2 ((h.b.mul k.b).mono (adJ _)),F.pos⟩
def Ap:fW 100 (0,1):=⟨(by decide:(_:Int).natAbs<_),(by decide:(_:Int).natAbs<_),by decide⟩
def Cr:fW 100 (1,1):=⟨(by decide:(_:Int).natAbs<_),(by decide:(_:Int).natAbs<_),by decide⟩
end Mth
namespace L2
open PySem PySem.Spec PyProof.Rows Mth
variable {H H':Hp} {o u:HO} {v:V}
structure aq.Wf (m:aq):Prop where
 rows:∀ r∈m.rows,∀ f∈r,fW 100 f
 len:∀ r∈m.rows,2<=r.length/\r.length<=7
 fc:∀ i j f,m.fc i j=some f->fW 100 f
 bK:∀ s∈m.bK,fW 100 s.1/\fW 100 s.2.1/\fW 100 s.2.2
 bw:∀ x,some x∈m.bw->fW 100 x.1
structure aV (K:aA) (C:ak) (H:Hp) (a:ak) (fp:bA) (m:aq):Prop where
 ex:∃ dx pm pf ps pt vm vs vt aD,fp=[a,dx,pm,pf,ps,pt]/\H a=some (.ins C dx (uc m pm pf ps pt))/\H dx=some (.own a)/\H pm=some (.lst vm)/\H pf=some (.dT aD)/\H ps=some (.lst vs)/\H pt=some (.lst vt) /\
   pm≠ps/\pm≠pt/\ps≠pt/\bE K H (m.rows.map wn) vm/\bE K H (m.bK.map pV) vs/\bE K H (m.bw.map iR) vt/\(∀ i j,oM K H (m.fc i j) (gW aD (jB i j)))/\xK aD
 sk:m.bK.length=m.rows.length
 st:m.bw.length=m.rows.length
 mx:m.rows.length<=4
 wf:m.Wf
def gU (f:bA) (H h:Hp):Prop:=∀ b o,H b=some o->b∉f->h b=some o
noncomputable def aq.fC (m:aq) (i j:Nat):cy:=(m.fc i j).getD (0,1)
noncomputable def aq.ft (m:aq) (i:Nat):cy:=((m.bK[i]?).map (·.1)).getD (0,1)
def aq.gR (m:aq) (i n:Nat):cy:=(List.range n).foldl (λ a j=>lA a (m.fC i j)) (lA (1,1) (m.ft i))
def aq.own (m:aq) (i:Nat):cy:=m.gR i m.rows.length
def aq.share (m:aq) (i j:Nat):cy:=if i=j then m.own i else m.fC i j
theorem aq.Wf.fC {m:aq} (w:m.Wf) (i j:Nat):fW 100 (m.fC i j):=by
 unfold aq.fC;cases e:m.fc i j with
 | none=>exact Ap
 | some f=>exact w.fc i j f e
theorem aq.Wf.ft {m:aq} (w:m.Wf) (i:Nat):fW 100 (m.ft i):=by
 unfold aq.ft;cases e:m.bK[i]? with
 | none=>exact Ap
 | some f=>exact (w.bK f (aal e)).1
def aq.oZ (m:aq) (i n:Nat):m.gR i (n+1)=lA (m.gR i n) (m.fC i n):=by
 unfold aq.gR;rw [acb,adz];rfl
theorem aq.Wf.gR {m:aq} (w:m.Wf) (i:Nat):∀ n,fW (201+101 * n) (m.gR i n)
 | 0=>(Cr.minus (w.ft i)).mono (by decide)
 | n+1=>by
   rw [aq.oZ];exact ((w.gR i n).minus (w.fC i n)).mono (by lia)
section
variable {K:aA} {H:Hp} {v:V}
def Dn.uG (h:Dn K H (pV s) v):∃ p V a v3,v = .ref p/\bP K H p [V,a,v3]/\Dn K H (ff s.1) V/\Dn K H (ff s.2.1) a/\Dn K H (ff s.2.2) v3:=by
 obtain ⟨p,k,e,q,x,R,c,d,X,j,f,D,i,r,g,b,E⟩:=h;have E:r=[]:=E;subst c f g E;exact ⟨p,x,X,i,e,q,d,D,b⟩
def KA {s:cy×cy×cy} {v a b:V} (q:bP K H p [v,a,b]) (d:Dn K H (ff s.1) v) (D:Dn K H (ff s.2.1) a) (c:Dn K H (ff s.2.2) b):Dn K H (pV s) (.ref p) :=
 iU q (bD d (bD D (bD c ed)))
def vn (s:cy×cy×cy):fK (pV s)=true:=by simp [pV,ff,fK]
def uE (s:Option (cy×Int×Int×Int)):fK (iR s)=true:=by cases s<;>simp [iR,ff,fK]
def BJ (r:List cy):fK (wn r)=true:=mY.mpr λ d h=>by
 obtain ⟨f,Z,rfl⟩:=abm.mp h;exact ir f
def Do.fr {f:cy} (h:Do K a [.int f.1,.int f.2]):Dn K H (ff f) (.ref a):=mI (h.at H)
end
def aL {a:Type} {l:List a} {i:Nat} (h:i<l.length):l[i]?=some l[i]:=Vo h
def eE {a:Type} {xs:List a} {i:Nat} {v:a} (h:xs[i]?=some v):tf xs (i:Int)=some v:=cq h
def DV {K:aA} {o:Option cy} (h:oM K H o r) (a:Dn K H (ff (0,1)) z):Dn K H (ff (o.getD (0,1))) (r.getD z):=by
 cases o with
 | none=>cases r with
   | none=>exact a
   | some v=>exact (show False from h).elim
 | some f=>cases r with
   | none=>exact (show False from h).elim
   | some v=>exact h
inductive MW (vs:az) (H:Hp) (Q:VK) (_E:XK):Prop|mk (n g:Int) (_:vs=[.int n,.int g]) (_:Q (.bl (decide (0<=n/\n<=g))) H)
section
variable (K:aA) (C:ak)
inductive LC (vs:az) (H:Hp) (Q:VK) (_E:XK):Prop|mk (a fp m:_) (_:vs=[.ref a]) (_:aV K C H a fp m) (_:Q (ao m.rows.length) H)
inductive zS (vs:az) (H:Hp) (Q:VK) (_E:XK):Prop|mk (a fp m:_) (i:Nat) (_:vs=[.ref a,ao i]) (_:aV K C H a fp m) (_:i<m.rows.length) (_:Q .cT H)
inductive N7 (vs:az) (H:Hp) (Q:VK) (_E:XK):Prop|mk (a fp m:_) (i:Nat) (s:_) (_:vs=[.ref a,ao i]) (_:aV K C H a fp m) (_:m.bK[i]?=some s) (_:∀ v,Dn K H (pV s) v->Q v H)
inductive II (vs:az) (H:Hp) (Q:VK) (_E:XK):Prop|mk (a fp m:_) (i:Nat) (s:_) (_:vs=[.ref a,ao i]) (_:aV K C H a fp m) (_:m.bw[i]?=some s) (_:∀ v,Dn K H (iR s) v->Q v H)
inductive Jn (vs:az) (H:Hp) (Q:VK) (_E:XK):Prop|mk (a fp m:_) (i:Nat) (r:_) (_:vs=[.ref a,ao i]) (_:aV K C H a fp m) (_:m.rows[i]?=some r) (_:∀ p xs,H p=none->bE K H (r.map ff) xs->Q (.ref p) (upd H p (.lst xs)))
inductive On (vs:az) (H:Hp) (Q:VK) (_E:XK):Prop|mk (a fp m:_) (i:Nat) (_:vs=[.ref a,ao i]) (_:aV K C H a fp m) (_:i<m.rows.length) (_:∀ v H',aE H H'->Dn K H' (ff (m.own i)) v->Q v H')
inductive JC (vs:az) (H:Hp) (Q:VK) (_E:XK):Prop|mk (a fp m:_) (i j:Nat) (_:vs=[.ref a,ao i,ao j]) (_:aV K C H a fp m) (_:i<m.rows.length) (_:j<m.rows.length) (_:∀ v H',aE H H'->Dn K H' (ff (m.share i j)) v->Q v H')
end
theorem aV.same {K:aA} (s:aE H H') (h:aV K C H a f m):aV K C H' a f m:=by
 obtain ⟨⟨g,u,t,v,w,V,E,G,A,e,k,o,I,B,n,l,N,p,r,D,b,c,d,F⟩,Q,x,y,z⟩:=h;refine ⟨⟨g,u,t,v,w,V,E,G,A,e,s _ _ k,s _ _ o,s _ _ I,s _ _ B,s _ _ n,s _ _ l,N,p,r,bE.same s _ D,bE.same s _ b,bE.same s _ c,λ i j=>?_,F⟩,Q,x,y,z⟩;have:=d i j
 revert this
 cases m.fc i j<;>cases gW A (jB i j)<;>intro q
 . exact q
 . exact q
 . exact q
 . exact Dn.same s _ q
def jM {n i:Nat} (h:i<n):Hx n (i:Int)=some i:=by
 unfold Hx;rw [abE (by lia),abE (by lia),acz]
def Nz {x y z t:V}:[x,y,z,t].length<=sizeLine:=by show 4<=sizeLine;decide
def GW {x:V}:[x].length<=sizeLine:=by show 1<=sizeLine;decide
theorem xN {b:Type} [DecidableEq b]:∀ (l L:List b),l.Nodup->(∀ x∈l,x∈L)->l.length<=L.length
 | [],_,_,_=>ach _
 | x::l,L,f,h=>by
   obtain ⟨c,d⟩:=abZ.mp f;have H:=h x aaW;have:=xN l (L.erase x) d λ y a=>(List.mem_erase_of_ne (λ e=>c (by rw [<- e];exact a))).mpr (h y (aar _ a));rw [List.length_erase_of_mem H] at this;have g:=List.length_pos_of_mem H;rw [ab9];lia
def MJ:List (List Key):=(List.range 4).flatMap λ (i:Nat)=>(List.range 4).map λ (j:Nat)=>jB (i:Int) (j:Int)
def xK.len (h:xK a):a.length<=16:=by
 have:=xN (a.map (·.1)) MJ h.1 λ x d=>by
   obtain ⟨p,c,rfl⟩:=abm.mp d;obtain ⟨i,j,H,b,e⟩:=h.2 p c;rw [e];exact ads.mpr ⟨i,aa4.mpr H,abm.mpr ⟨j,aa4.mpr b,rfl⟩⟩
 rw [CT] at this;exact abk this (by decide)
def xK.put (h:xK A) {i j:Nat} (g:i<4) (l:j<4) (v:V):xK (putK A (jB i j) v):=by
 refine ⟨?_,λ p H=>?_⟩
 .
  cases e:gW A (jB i j) with
  | none=>exact Lg v h.1 e
  | some y =>
    have f:(A.any λ k=>decide (k.1=jB i j))=true:=by
      unfold gW at e;cases q:A.find? λ k=>decide (k.1=jB i j) with
      | none=>rw [q] at e;cases e
      | some z=>have Q:=List.find?_some q;exact List.any_eq_true.mpr ⟨z,List.mem_of_find?_eq_some q,Q⟩
    unfold putK;rw [abE f,adX];have:((λ x:List Key×V=>x.1) ∘ λ k:List Key×V=>if k.1=jB i j then (k.1,v) else k)=λ x=>x.1:=by
      funext x;show (if x.1=jB i j then (x.1,v) else x).1=x.1;split<;>rfl
    rw [this];exact h.1
 .
  unfold putK at H;split at H
  . obtain ⟨z,m,rfl⟩:=abm.mp H;obtain ⟨a,b,c,d,e⟩:=h.2 z m;refine ⟨a,b,c,d,?_⟩;split<;>exact e
  .
   rcases aaY.mp H with H|H
   . exact h.2 p H
   . have:p=(jB i j,v):=by simpa using H
     subst this;exact ⟨i,j,g,l,rfl⟩
def HR {i j I J:Int} (h:jB i j=jB I J):i=I/\j=J:=by
 simp only [jB,afD,Sum.inl.injEq,and_true] at h;exact h
def aq.eR (m:aq) (i j:Nat) (f:cy):aq:={ m with fc:=λ a b=>if a=(i:Int)/\b=(j:Int) then some f else m.fc a b }
def aq.gw (m:aq) (i:Nat) (s:cy×cy×cy):aq:={ m with bK:=m.bK.set i s }
def aq.eI (m:aq) (i:Nat) (s:cy×Int×Int×Int):aq:={ m with bw:=m.bw.set i (some s)}
def aq.eY (m:aq) (r:List cy):aq:={ m with rows:=m.rows++[r],bK:=m.bK++[((0,1),(0,1),(0,1))],bw:=m.bw++[none]}
noncomputable def aq.new (most eF load:Int):aq:=⟨most,eF,load,[],λ Z Z=>none,[],[]⟩
structure tG (K:aA) (C:ak) (H:Hp) (a:ak) (fp:bA) (m':aq) (H':Hp) (xt:bA):Prop where
 at_:aV K C H' a xt m'
 but:gU fp H H'
 ts:aS K H H'
 own:∀ b∈xt,b∈fp\/H b=none
theorem oM.ts {K:aA} (s:aS K H H'):∀ {o:Option cy} {v:eO},oM K H o v->oM K H' o v
 | none,none,_=>trivial
 | some f,some v,h=>Dn.ts s _ (ir f) h
 | none,some _,h=>h
 | some _,none,h=>h
def nc {K:aA} {R:List (List cy)} (s:aS K H H') (h:bE K H (R.map wn) xs):bE K H' (R.map wn) xs:=bE.ts s _ (λ d a=>by obtain ⟨r,Z,rfl⟩:=abm.mp a;exact BJ r) h
def kj {K:aA} {R:List (cy×cy×cy)} (s:aS K H H') (h:bE K H (R.map pV) xs):bE K H' (R.map pV) xs:=bE.ts s _ (λ d a=>by obtain ⟨r,Z,rfl⟩:=abm.mp a;exact vn r) h
def jm {K:aA} {R:List (Option (cy×Int×Int×Int))} (s:aS K H H') (h:bE K H (R.map iR) xs):bE K H' (R.map iR) xs:=bE.ts s _ (λ d a=>by obtain ⟨r,Z,rfl⟩:=abm.mp a;exact uE r) h
def jS (r:List cy):Bool:=(List.zipWith ce r r.tail).all id
noncomputable def iP (R:List (List cy)):Int:=R.foldl (λ p r=>p * ((r.length:Int) - 1)) 1
section
variable (K:aA) (C:ak)
inductive Lr (vs:az) (H:Hp) (Q:VK) (_E:XK):Prop|mk (a fp m:_) (i:Nat) (v1 v2 f g:_) (_:vs=[.ref a,ao i,v1,v2]) (_:aV K C H a fp m) (_:i<m.rows.length) (_:Dn K H (ff f) v1) (_:Dn K H (ff g) v2) (_:fW 100 f) (_:fW 100 g) (_:0<=f.1) (_:ce (n9 (m.own i) g) f=false) (_:∀ H',aE H H'->Q .cT H')
inductive Ba (vs:az) (H:Hp) (Q:VK) (_E:XK):Prop|mk (a fp m:_) (i j:Nat) (v f:_) (_:vs=[.ref a,ao i,ao j,v]) (_:aV K C H a fp m) (_:i<m.rows.length) (_:j<m.rows.length) (_:i≠j) (_:Dn K H (ff f) v) (_:fW 100 f) (_:0<=f.1) (_:ce (n9 (m.own i) (m.fC i j)) f=false) (_:∀ H' xt,tG K C H a fp (m.eR i j f) H' xt->Q .cT H')
inductive C5 (vs:az) (H:Hp) (Q:VK) (_E:XK):Prop|mk (a fp m:_) (i:Nat) (v1 v2 v3 f lo hi:_) (_:vs=[.ref a,ao i,v1,v2,v3]) (_:aV K C H a fp m) (_:i<m.rows.length) (_:Dn K H (ff f) v1) (_:Dn K H (ff lo) v2) (_:Dn K H (ff hi) v3) (_:fW 100 f) (_:fW 100 lo) (_:fW 100 hi) (_:ce hi lo=false) (_:0<=f.1) (_:ce (n9 (m.own i) (m.ft i)) f=false) (_:∀ H' xt,tG K C H a fp (m.gw i (f,lo,hi)) H' xt->Q .cT H')
inductive qK (vs:az) (H:Hp) (Q:VK) (_E:XK):Prop|mk (a fp m:_) (i:Nat) (v f:_) (w st fl:Int) (_:vs=[.ref a,ao i,v,.int w,.int st,.int fl]) (_:aV K C H a fp m) (_:i<m.rows.length) (_:Dn K H (ff f) v) (_:fW 100 f) (_:0<=f.1) (_:(0<=w/\w<=9)) (_:(0<=st/\st<=3)) (_:(0<=fl/\fl<=3)) (_:∀ H' xt,tG K C H a fp (m.eI i (f,w,st,fl)) H' xt->Q .cT H')
inductive Fn (vs:az) (H:Hp) (Q:VK) (_E:XK):Prop|mk (p xs r:_) (_:vs=[.ref p]) (_:aY K H p xs) (_:bE K H (r.map ff) xs) (_:(∀ f∈r,fW 100 f)) (_:r.length<=7) (_:∀ H',aE H H'->Q (.bl (jS r)) H')
inductive Kv (vs:az) (H:Hp) (Q:VK) (_E:XK):Prop|mk (p xs rs:_) (_:vs=[.ref p]) (_:aY K H p xs) (_:bE K H (rs.map wn) xs) (_:rs.length<=5) (_:(∀ r∈rs,1<=r.length/\r.length<=7)) (_:Q (.int (iP rs)) H)
inductive Bp (vs:az) (H:Hp) (Q:VK) (_E:XK):Prop|mk (a fp m p xs r:_) (_:vs=[.ref a,.ref p]) (_:aV K C H a fp m) (_:m.rows.length<4) (_:aY K H p xs) (_:bE K H (r.map ff) xs) (_:(∀ f∈r,fW 100 f)) (_:2<=r.length) (_:r.length<=7) (_:jS r=true) (_:iP (m.rows++[r])<=400) (_:∀ H' xt,tG K C H a fp (m.eY r) H' xt->Q (ao m.rows.length) H')
inductive D5 (vs:az) (H:Hp) (Q:VK) (_E:XK):Prop|mk (x dx:_) (most eF load:Int) (_:vs=[.ref x,.int most,.int eF,.int load]) (_:H x=some (.ins C dx [])) (_:H dx=some (.own x)) (_:(0<=most/\most<=4)) (_:(0<=eF/\eF<=30)) (_:(0<=load/\load<=30)) (_:∀ H' xt,tG K C H x [x,dx] (aq.new most eF load) H' xt->Q .cT H')
end
def fo (h:H a=some o) (k:H b=some u) (n:o≠u):a≠b:=λ e=>by
 subst e;rw [h] at k;exact n (aaO k)
def tW {H v:ak} (h:some (HO.ins C dx (uc m a p b d))=some (HO.ins C c (uc m H z t v))):dx=c/\a=H/\p=z/\b=t/\d=v:=by
 simp only [uc,Option.some.injEq,HO.ins.injEq,afD,Prod.mk.injEq,agl,and_true,V.ref.injEq] at h;exact h
def gU.same (s:aE H H'):gU f H H':=λ b o h Z=>s b o h
theorem gU.upd {p:ak} (b:gU f H H') (hp:p∈f):gU f H (upd H' p o):=λ c u h n=>by
 rw [av (λ e=>n (by rw [e];exact hp))];exact b c u h n
section
variable {K:aA} {C:ak} {H H1:Hp} {a:ak} {fp:bA} {m:aq}
def FH {i j:Nat} (M:aV K C H a fp m) (s:aE H H1) (G:H a=some (.ins C dx (uc m pm k ps pt))) (qz:H k=some (.dT A)) (O:i<4) (Q:j<4) (d:Dn K H1 (ff f) v) (o:fW 100 f):tG K C H a fp (m.eR i j f) (upd H1 k (.dT (putK A (jB i j) v))) fp:=by
 obtain ⟨⟨u,x,l,tY,vE,vm,vs,vt,N,S,r,X,R,p,W,U,Y,n2,n3,y,B,E,D,F⟩,q1,q2,q3,q⟩:=M;obtain ⟨rfl,rfl,rfl,rfl,rfl⟩:=tW (r.symm.trans G);obtain rfl:N=A:=by
   have:=p.symm.trans qz;injection this with e;injection e
 have T:aS K H1 (upd H1 l (.dT (putK N (jB i j) v))):=bW (s _ _ p) rfl;have t:=(aE.ts (K:=K) s).trans T;have w:∀ {b o},H b=some o->o ≠ .dT N->(upd H1 l (.dT (putK N (jB i j) v))) b=some o:=λ h n=>by
   rw [av (fo h p n)];exact s _ _ h
 refine ⟨⟨⟨u,x,l,tY,vE,vm,vs,vt,putK N (jB i j) v,S,w r nofun,w X nofun,w R nofun,ag,w W nofun,w U nofun,Y,n2,n3,nc t y,kj t B,jm t E,λ I J=>?_,F.put O Q v⟩,q1,q2,q3,⟨q.rows,q.len,λ I J g c=>?_,q.bK,q.bw⟩⟩,(gU.same s).upd (by rw [S];simp),t,λ b L => .inl L⟩
 .
  rw [IB];by_cases e:I=(i:Int)/\J=(j:Int)
  . show oM K _ (if I=(i:Int)/\J=(j:Int) then some f else m.fc I J) _;rw [abE e,abE (by rw [e.1,e.2])];exact Dn.ts T _ (ir f) d
  . show oM K _ (if I=(i:Int)/\J=(j:Int) then some f else m.fc I J) _;rw [abC e,abC (λ z=>e (HR z))];exact (D I J).ts t
 .
  have c:(if I=(i:Int)/\J=(j:Int) then some f else m.fc I J)=some g:=c;split at c
  . cases c;exact o
  . exact q.fc I J g c
def IG (L:aV K C H a fp m) (s:aE H H1) (G:H a=some (.ins C dx (uc m Y X p pt))) (I:H p=some (.lst vs)) (d:Dn K H1 (pV z) v) (o:fW 100 z.1/\fW 100 z.2.1/\fW 100 z.2.2):tG K C H a fp (m.gw i z) (upd H1 p (.lst (vs.set i v))) fp:=by
 obtain ⟨⟨l,r,zF,T,vE,vm,E,vt,W,S,c,k,Q,g,F,R,N,V,f,u,x,A,D,B⟩,q1,q2,q3,q⟩:=L;obtain ⟨rfl,rfl,rfl,rfl,rfl⟩:=tW (c.symm.trans G);obtain rfl:E=vs:=by
   have:=F.symm.trans I;injection this with e;injection e
 have j:aS K H1 (upd H1 T (.lst (E.set i v))):=bW (s _ _ F) rfl;have t:=(aE.ts (K:=K) s).trans j;have w:∀ {b o},H b=some o->b≠T->(upd H1 T (.lst (E.set i v))) b=some o:=λ h n=>by
   rw [av n];exact s _ _ h
 refine ⟨⟨⟨l,r,zF,T,vE,vm,E.set i v,vt,W,S,w c (fo c I nofun),w k (fo k I nofun),w Q N,w g (fo g I nofun),ag,w R f.symm,N,V,f,nc t u,?_,jm t A,λ O U=>(D O U).ts t,B⟩,?_,q2,q3,⟨q.rows,q.len,q.fc,λ y M=>?_,q.bw⟩⟩,(gU.same s).upd (by rw [S];simp),t,λ b J => .inl J⟩
 . show bE K _ ((m.bK.set i z).map pV) _;rw [afu];exact bE.set (i:=i) (kj t x) (Dn.ts j _ (vn z) d)
 . show (m.bK.set i z).length=_;rw [adh];exact q1
 . rcases ad2 M with h|h
   . exact q.bK y h
   . rw [h];exact o
def Dc (O:aV K C H a fp m) (s:aE H H1) (J:H a=some (.ins C dx (uc m pm pf ps p))) (I:H p=some (.lst c)) (d:Dn K H1 (iR (some z)) v) (o:fW 100 z.1):tG K C H a fp (m.eI i z) (upd H1 p (.lst (c.set i v))) fp:=by
 obtain ⟨⟨r,u,zF,tY,V,vm,E,k,Y,S,f,g,U,l,F,M,X,N,j,x,A,B,D,G⟩,q1,q2,q3,q⟩:=O;obtain ⟨rfl,rfl,rfl,rfl,rfl⟩:=tW (f.symm.trans J);obtain rfl:k=c:=by
   have:=M.symm.trans I;injection this with e;injection e
 have T:aS K H1 (upd H1 V (.lst (k.set i v))):=bW (s _ _ M) rfl;have t:=(aE.ts (K:=K) s).trans T;have w:∀ {b o},H b=some o->b≠V->(upd H1 V (.lst (k.set i v))) b=some o:=λ h n=>by
   rw [av n];exact s _ _ h
 refine ⟨⟨⟨r,u,zF,tY,V,vm,E,k.set i v,Y,S,w f (fo f I nofun),w g (fo g I nofun),w U N,w l (fo l I nofun),w F j,ag,X,N,j,nc t x,kj t A,?_,λ R W=>(D R W).ts t,G⟩,q1,?_,q3,⟨q.rows,q.len,q.fc,q.bK,λ y Q=>?_⟩⟩,(gU.same s).upd (by rw [S];simp),t,λ b L => .inl L⟩
 . show bE K _ ((m.bw.set i (some z)).map iR) _;rw [afu];exact bE.set (i:=i) (jm t B) (Dn.ts T _ (uE (some z)) d)
 . show (m.bw.set i (some z)).length=_;rw [adh];exact q2
 . rcases ad2 Q with h|h
   . exact q.bw y h
   . cases h;exact o
end
def HY (xs:az):zu xs (some 1) none=xs.tail:=by
 have e:HT.zO xs.length 0 (some 1)=min 1 xs.length:=HT.Lx _ _ 1;unfold zu;rw [e,HT.IY];cases xs with
 | nil=>rfl
 | cons x l =>
   have:min 1 (x::l).length=1:=by simp
   rw [this];simp
def aE.put (s:aE H H') (h:H D=none):aE H (upd H' D o):=λ b u e=>by
 rw [av (ay e h)];exact s b u e
def uT {r:List cy} {i:Nat} (h:r[i]?=some x) (H:r[i+1]?=some y):(List.zipWith ce r r.tail)[i]?=some (ce x y):=by
 rw [List.getElem?_zipWith,h];have:r.tail[i]?=some y:=by rw [agq];exact H
 rw [this]
section
variable {K:aA} {C:ak} {H H1:Hp} {a:ak} {fp:bA} {m:aq}
def Gn (hh:aV K C H a fp m) (s:aE H H1) (ha:H a=some (.ins C dx (uc m L pf w A))) (iK:H L=some (.lst vm)) (g:H w=some (.lst vs)) (I:H A=some (.lst vt)) (F:H p=none) (Aj:H1 p=some (.lst (vm++[.ref U]))) (dr:Dn K H1 (wn r) (.ref U)) (om:m.rows.length<4) (hr:∀ f∈r,fW 100 f) (hl:2<=r.length/\r.length<=7) (R:∀ H',Dn K H' (ff (0,1)) (.ref N)) (yU:upd H1 a (.ins C dx (aN "mark_rows" (.ref p) (uc m L pf w A))) q=none) :
   ∃ xt,tG K C H a fp (m.eY r) (upd (upd (upd (upd H1 a (.ins C dx (aN "mark_rows" (.ref p) (uc m L pf w A)))) q (.tup [.ref N,.ref N,.ref N])) w (.lst (vs++[.ref q]))) A (.lst (vt++[.cT]))) xt:=by
 obtain ⟨⟨D,Hr,O,t,v,V,E,k,nV,sW,d,G,ZQ,J,FE,Ms,n1,n2,X,dm,ds,dt,df,fk⟩,q1,q2,q3,Q⟩:=hh;obtain ⟨rfl,rfl,rfl,rfl,rfl⟩:=tW (d.symm.trans ha);obtain rfl:V=vm:=by
   have:=ZQ.symm.trans iK;injection this with e;injection e
 obtain rfl:E=vs:=by
   have:=FE.symm.trans g;injection this with e;injection e
 obtain rfl:k=vt:=by
   have:=Ms.symm.trans I;injection this with e;injection e
 let H2:=upd H1 a (.ins C D (aN "mark_rows" (.ref p) (uc m Hr O t v)))
 let H3:=upd H2 q (.tup [.ref N,.ref N,.ref N])
 let H4:=upd H3 t (.lst (E++[.ref q]))
 let H5:=upd H4 v (.lst (k++[.cT]))
 have W:∀ {b o},H1 b=some o->b≠a->H2 b=some o:=λ h n=>by show upd _ _ _ _=_;rw [av n];exact h
 have M:aE H2 H3:=al yU;have na:H2 a=some (.ins C D (aN "mark_rows" (.ref p) (uc m Hr O t v))):=ag;have SV:=fo d g nofun;have We:=fo d I nofun;have Ul:H2 t=some (.lst E):=W (s _ _ g) SV.symm;have YZ:H2 v=some (.lst k):=W (s _ _ I) We.symm;have X0:=M _ _ Ul;have XS:=M _ _ YZ;have Zn:H4 v=some (.lst k):=by show upd _ _ _ _=_;rw [av X.symm];exact XS
 have RU:aS K H1 H2:=bW (s _ _ d) rfl;have ab:aS K H3 H4:=bW X0 rfl;have QE:aS K H4 H5:=bW Zn rfl;have B:=ab.trans QE;have T:=RU.trans ((aE.ts M).trans B);have S:=(aE.ts (K:=K) s).trans T;have w5:∀ {b o},H2 b=some o->b≠t->b≠v->H5 b=some o:=λ h x y=>by
   show upd _ _ _ _=_;rw [av y];show upd _ _ _ _=_;rw [av x];exact M _ _ h
 have wo:∀ {b o},H b=some o->b≠a->b≠t->b≠v->H5 b=some o:=λ h x y z=>w5 (W (s _ _ h) x) y z;have Y:p≠a:=(ay d F).symm;have l:p≠t:=(ay g F).symm;have u:p≠v:=(ay I F).symm;have ad:q≠t:=(ay Ul yU).symm;have XF:H5 t=some (.lst (E++[.ref q])):=by
   show upd _ _ _ _=_;rw [av X];exact ag
 refine ⟨[a,D,p,O,t,v],⟨⟨D,p,O,t,v,V++[.ref U],E++[.ref q],k++[.cT],nV,rfl,?_,wo G (fo G d nofun) (fo G g nofun) (fo G I nofun),w5 (W Aj Y) l u,wo J (fo J d nofun) (fo J g nofun) (fo J I nofun),XF,ag,l,u,X,?_,?_,?_,λ i j=>(df i j).ts S,fk⟩,?_,?_,?_,?_⟩,?_,S,?_⟩
 . exact w5 na SV We
 . show bE K H5 ((m.rows++[r]).map wn) _;rw [aap];exact (nc S dm).snoc (Dn.ts T _ (BJ r) dr)
 . show bE K H5 ((m.bK++[((0,1),(0,1),(0,1))]).map pV) _;rw [aap];exact (kj S ds).snoc (Dn.ts B _ (vn _) (KA (s:=((0,1),(0,1),(0,1))) (bP.of ag) (R _) (R _) (R _)))
 . show bE K H5 ((m.bw++[none]).map iR) _;rw [aap];exact (jm S dt).snoc rfl
 . show (m.bK++[_]).length=(m.rows++[r]).length;rw [aae,aae,q1];rfl
 . show (m.bw++[_]).length=(m.rows++[r]).length;rw [aae,aae,q2];rfl
 . show (m.rows++[r]).length<=4;rw [aae];exact om
 .
  refine ⟨λ x c=>?_,λ x c=>?_,Q.fc,λ x c=>?_,λ x c=>?_⟩
  . rcases aaY.mp c with h|h
    . exact Q.rows x h
    . rw [aac.mp h];exact hr
  . rcases aaY.mp c with h|h
    . exact Q.len x h
    . rw [aac.mp h];exact hl
  . rcases aaY.mp c with h|h
    . exact Q.bK x h
    . rw [aac.mp h];exact ⟨Ap,Ap,Ap⟩
  . rcases aaY.mp c with h|h
    . exact Q.bw x h
    . cases aac.mp h
 .
  intro b o h n;rw [sW] at n;simp only [aah,aak,ack,adE] at n;exact wo h n.1 n.2.2.2.2.1 n.2.2.2.2.2
 .
  intro b hb;rw [sW];simp only [aah,aak,ack] at hb |-;rcases hb with rfl|rfl|rfl|rfl|rfl|rfl
  . exact .inl (.inl rfl)
  . exact .inl (.inr (.inl rfl))
  . exact .inr F
  . exact .inl (.inr (.inr (.inr (.inl rfl))))
  . exact .inl (.inr (.inr (.inr (.inr (.inl rfl)))))
  . exact .inl (.inr (.inr (.inr (.inr (.inr rfl)))))
end
structure kH (K:aA) (C x dx:ak) (H H':Hp) (fs:List (Str×V)):Prop where
 st:∀ b o,H b=some o->b≠x->H' b=some o
 ts:aS K H H'
 at_:H' x=some (.ins C dx fs)
section
variable {K:aA} {C x dx:ak} {H H':Hp} {fs fs':List (Str×V)}
def kH.start (h:H x=some (.ins C dx fs)):kH K C x dx H H fs:=⟨λ Z Z h Z=>h,aS.refl _,h⟩
def kH.put (B:kH K C x dx H H' fs):kH K C x dx H (upd H' x (.ins C dx fs')) fs':=⟨λ b o h n=>by rw [av n];exact B.st b o h n,B.ts.trans (bW B.at_ rfl),ag⟩
def kH.new (B:kH K C x dx H H' fs) (hp:H' p=none):kH K C x dx H (upd H' p o) fs:=⟨λ b u h n=>by rw [av (ay (B.st b u h n) hp)];exact B.st b u h n,B.ts.trans (aE.ts (al hp)),by rw [av (ay B.at_ hp)];exact B.at_⟩
def kH.keep (B:kH K C x dx H H' fs) (h:H' b=some o) (n:b≠x):(upd H' x u) b=some o:=by rw [av n];exact h
theorem kH.none (B:kH K C x dx H H' fs) (hp:H' p=none):H p=Option.none:=by
 cases e:H p with
 | none=>rfl
 | some o =>
   by_cases q:p=x
   . rw [q,B.at_] at hp;cases hp
   . rw [B.st p o e q] at hp;cases hp
def kH.ne (B:kH K C x dx H H' fs) (hp:H' p=Option.none):p≠x:=λ q=>by rw [q,B.at_] at hp;cases hp
def DY {a:Type} {p:a->Prop} (x:a) (h:x∈([]:List a)):p x:=absurd h aak
def IK {most eF load:Int} (B:kH K C x dx H H' (uc (aq.new most eF load) p d a c)) (q:H x=some (.ins C dx fs')) (k:H dx=some (.own x)) (i:H' p=some (.lst [])) (j:H' d=some (.dT [])) (l:H' a=some (.lst [])) (m:H' c=some (.lst [])) (N:H p=none) (r:H d=none) (s:H a=none) (t:H c=none) (E:p≠a) (f:p≠c) (g:a≠c) :
   tG K C H x [x,dx] (aq.new most eF load) H' [x,dx,p,d,a,c]:=by
 refine ⟨⟨⟨dx,p,d,a,c,[],[],[],[],rfl,B.at_,B.st _ _ k (fo k q nofun),i,j,l,m,E,f,g,rfl,rfl,rfl,λ Z Z=>trivial,aeh,DY⟩,rfl,rfl,ach _,⟨DY,DY,λ Z Z Z h=>(by cases h),DY,λ Z h=>absurd h aak⟩⟩,?_,B.ts,?_⟩
 . intro b o h n;simp only [aah,aak,ack,adE] at n;exact B.st b o h n.1
 .
  intro b e;simp only [aah,aak,ack] at e |-;rcases e with rfl|rfl|rfl|rfl|rfl|rfl
  . exact .inl (.inl rfl)
  . exact .inl (.inr rfl)
  . exact .inr N
  . exact .inr r
  . exact .inr s
  . exact .inr t
end
def lt1000 {n:Nat} (h:Nat.ble (n+1) 1000=true):n<1000:=Nat.le_of_ble_eq_true h
noncomputable def aq.with (m:aq) (x y z:Option Int):aq:={ m with most:=x.getD m.most,eF:=y.getD m.eF,load:=z.getD m.load }
def aq.Bds (m:aq):Prop:=(0<=m.most/\m.most<=4)/\(0<=m.eF/\m.eF<=30)/\(0<=m.load/\m.load<=30)
structure Np where
 a:Int
 b:Int
 t:Int
 d:Int
structure Np.Ok (s:Np):Prop where
 a0:1<=s.a
 a1:s.a<=10 ^ 9
 b0:1<=s.b
 b1:s.b<=10 ^ 9
 t0 : -(10 ^ 9)<=s.t
 t1:s.t<=10 ^ 9
 d0:1<=s.d
 d1:s.d<=10 ^ 9
noncomputable abbrev Np.vs (s:Np):az:=[.int s.a,.int s.b,.int s.t,.int s.d]
def Vc (n parts:Int) (s:Np):Int:=n * s.a * s.d+parts * s.t * s.b
def UB (parts:Int) (s:Np):Int:=parts * s.b * s.d
def Je (n parts:Int) (s:Np):cy:=nf (Vc n parts s) (UB parts s)
structure StI (z:Int×Int×Int×Int):Prop where
 h:0<=z.1/\z.1<=25
 w:0<=z.2.1/\z.2.1<=9
 s:0<=z.2.2.1/\z.2.2.1<=3
 f:0<=z.2.2.2/\z.2.2.2<=3
noncomputable def dP (H:Hp) (L:bA):Hp:=λ b=>if b∈L then none else H b
section
variable {H H':Hp} {L:bA} {a:ak} {o:HO}
def iB:aE (dP H L) H:=λ b u h=>by
 unfold dP at h;split at h
 . cases h
 . exact h
def mv (h:H a=some o) (n:a∉L):dP H L a=some o:=by unfold dP;rw [abC n];exact h
def nA (h:a∈L):dP (upd H a o) L=dP H L:=by
 funext b;unfold dP;split
 . rfl
 . rename_i n
   rw [av (λ e=>n (by rw [e];exact h))]
def uy (s:aE H H'):aE (dP H L) (dP H' L):=λ b u h=>by
 unfold dP at h |-;split at h
 . cases h
 . rename_i n
   rw [abC n];exact s b u h
def HD (H:Hp) (L:bA):Prop:=∀ b∈L,∃ o,H b=some o/\DS o=true
end
structure bO where
 marks:List (List Int)
 uG:List (Int×Int×Int)
 bw:List (Option (Int×Int×Int×Int))
 fc:Nat->Nat->Option Int
 scale:Np
 bounds:Int×Int×Int
noncomputable abbrev stI:Option (Int×Int×Int×Int)->PyData
 | none => .none
 | some z => .tuple [.int z.1,.int z.2.1,.int z.2.2.1,.int z.2.2.2]
section
variable {m:bO}
def bO.eR (m:bO) (i j:Nat) (k:Int):bO:={ m with fc:=λ a b=>if a=i/\b=j then some k else m.fc a b }
end
def Mx (l:List Int):Prop:=∀ i x y,l[i]?=some x->l[i+1]?=some y->x<y
structure SY (n:Nat) (l:List Int):Prop where
 two:2<=l.length
 most:l.length<=if n<=2 then 7 else 5
 ris:Mx l
 bd:∀ x∈l,-200<=x/\x<=200
structure bO.Ok (n i:Nat) (m:bO):Prop where
 lm:m.marks.length=i
 ls:m.uG.length=i
 lt:m.bw.length=i
 rows:∀ l∈m.marks,SY n l
 uG:∀ z∈m.uG,(0<=z.1/\z.1<=3)/\(-30<=z.2.1/\z.2.2<=60)/\z.2.1<=z.2.2/\z.2.2<=z.2.1+30
 bw:∀ z,some z∈m.bw->StI z
 fc:∀ a b,a<i->b<n->a≠b->∃ k,m.fc a b=some k/\0<=k/\k<=3
 scale:m.scale.Ok
 bounds:(0<=m.bounds.1/\m.bounds.1<=4)/\(0<=m.bounds.2.1/\m.bounds.2.1<=30)/\(0<=m.bounds.2.2/\m.bounds.2.2<=30)
end L2
namespace Mth
def Ov (W k:Int) (f:Int×Int):Prop:=f.1 * W=k * f.2/\0<f.2
theorem Ov.nf {W k:Int} (h:0<W):Ov W k (nf k W):=by
 have F:=mL (t:=k) h;exact ⟨F.ED,F.pos⟩
end Mth
namespace L2
open PySem PySem.Spec PyProof.Rows Mth
variable {H:Hp} {Q:VK} {elts:List Expr} {ta:TA} {qa:Pos} {x1:Nat}
def pM {m:aq}:(m.eR i j f).fC a b=if a=i/\b=j then f else m.fC a b:=by
 unfold aq.fC aq.eR;by_cases e:a=i/\b=j
 . rw [abE e];show ((if (a:Int)=(i:Int)/\(b:Int)=(j:Int) then some f else m.fc a b)).getD (0,1)=f;rw [abE (by lia)];rfl
 . rw [abC e];show ((if (a:Int)=(i:Int)/\(b:Int)=(j:Int) then some f else m.fc a b)).getD (0,1)=_;rw [abC (by lia)]
def BS {m:aq} {i:Nat} (h:i<m.bK.length):(m.gw i z).ft a=if a=i then z.1 else m.ft a:=by
 unfold aq.ft aq.gw;by_cases e:a=i
 .
  subst e;rw [abE rfl];show (((m.bK.set a z)[a]?).map (·.1)).getD (0,1)=_;rw [aee h];rfl
 . rw [abC e];show (((m.bK.set i z)[a]?).map (·.1)).getD (0,1)=_;rw [adZ (λ x=>e x.symm)]
def bO.row (t:bO) (l:List Int):List cy:=l.map λ x=>Je x 1 t.scale
def bO.m1 (t:bO) (k:Nat):aq:=((t.marks.take k).map t.row).foldl aq.eY (aq.new t.bounds.1 t.bounds.2.1 t.bounds.2.2)
def bO.NC (t:bO) (z:Int×Int×Int):cy×cy×cy:=(nf z.1 12,Je z.2.1 1 t.scale,Je z.2.2 1 t.scale)
def bO.DR (t:bO) (z:Int×Int×Int×Int):cy×Int×Int×Int:=(nf (z.1 * t.scale.a) t.scale.b,z.2.1,z.2.2.1,z.2.2.2)
def bO.MI (t:bO) (m:aq) (i:Nat):aq:=match t.uG[i]? with|some z=>m.gw i (t.NC z)|none=>m
def bO.GP (t:bO) (m:aq) (i:Nat):aq:=match t.bw[i]? with|some (some z)=>m.eI i (t.DR z)|_=>m
def bO.HK (t:bO) (i:Nat) (m:aq) (j:Nat):aq:=if j=i then m else match t.fc i j with|some k=>m.eR i j (nf k 12)|none=>m
def bO.Li (t:bO) (i:Nat) (m:aq) (j:Nat):aq:=(List.range j).foldl (t.HK i) m
def bO.JL (t:bO) (n:Nat) (m:aq) (i:Nat):aq:=t.Li i (t.GP (t.MI m i) i) n
def bO.m2 (t:bO) (n k:Nat):aq:=(List.range k).foldl (t.JL n) (t.m1 n)
def tG.keep {K:aA} {f:bA} (S:aE c H) (n:∀ b∈f,c b=none) (D:tG K C H a f m d x):aE c d/\∀ b∈x,c b=none:=by
 refine ⟨λ b o h=>D.but b o (S b o h) λ q=>?_,λ b e=>?_⟩
 . rw [n b q] at h;cases h
 . rcases D.own b e with q|q
   . exact n b q
   . exact S.free q
theorem sG {K:aA}:∀ {l:List Int} {w:az},bE K H (l.map PyData.int) w->w=l.map V.int
 | [],_,h=>h
 | x::l,_,h=>by
   obtain ⟨y,r,rfl,e,t⟩:=h;have e:y = .int x:=e;rw [e,sG t];rfl
def nM {a:Type} (l:List a) (g:a->cy):∀ d∈l.map (λ x=>ff (g x)),fK d=true:=λ d h=>by
 obtain ⟨x,Z,rfl⟩:=abm.mp h;exact ir _
def Ov.nonneg {W k:Int} (H:0<W) (h:Ov W k f) (a:0<=k):0<=f.1:=by
 have e:=h.1;have:0<=f.1 * W:=by rw [e];exact adT a (adD h.2)
 exact Int.nonneg_of_mul_nonneg_left this H
def IS {t b q r:Int} {K:aA} (c:0<b) (F:Fr t b q r) (h:H u=some (.tup [.int q,.int r])):Dn K H (ff (nf t b)) (.ref u):=by
 have e:=F.nf c;have E:q=(nf t b).1:=adB Prod.fst e;have a:r=(nf t b).2:=adB Prod.snd e;rw [E,a] at h;exact mI (bP.of h)
def Ht:Nat->PyData->Prop
 | _,.none=>True
 | _,.bool _=>True
 | _,.int _=>True
 | n+1,.list D=>∀ d∈D,Ht n d
 | n+1,.tuple D=>∀ d∈D,Ht n d
 | _,_=>False
theorem yr (h:∀ d,Ht n d->PyData.eqv d d=true/\d.canLay0=true/\d.depth<=n):∀ D:List PyData,(∀ d∈D,Ht n d)->PyData.eqvAll D D=true/\PyData.canLayAll0 D=true/\PyData.depthAll D<=n
 | [],_=>by simp [PyData.eqvAll,PyData.canLayAll0,PyData.depthAll]
 | d::D,k=>by
   obtain ⟨a,b,c⟩:=h d (k d aaW);obtain ⟨A,B,C⟩:=yr h D (λ e H=>k e (aar _ H));simp only [PyData.eqvAll,PyData.canLayAll0,PyData.depthAll,a,b,A,B,Bool.and_self,agl];lia
theorem qI:∀ (n:Nat) (d:PyData),Ht n d->PyData.eqv d d=true/\d.canLay0=true/\d.depth<=n
 | n,.none,_=>by simp [PyData.eqv,PyData.canLay0,PyData.depth]
 | n,.bool b,_=>by simp [PyData.eqv,PyData.canLay0,PyData.depth]
 | n,.int i,_=>by simp [PyData.eqv,PyData.canLay0,PyData.depth]
 | n+1,.list D,h=>by
   obtain ⟨a,b,c⟩:=yr (qI n) D h;simp only [PyData.eqv,PyData.canLay0,PyData.depth,a,b,agl];lia
 | n+1,.tuple D,h=>by
   obtain ⟨a,b,c⟩:=yr (qI n) D h;simp only [PyData.eqv,PyData.canLay0,PyData.depth,a,b,agl];lia
 | 0,.list _,h=>h.elim
 | 0,.tuple _,h=>h.elim
 | 0,.str _,h=>h.elim
 | _+1,.str _,h=>h.elim
 | 0,.dict _,h=>h.elim
 | _+1,.dict _,h=>h.elim
def ii (h:Ht n d) (H:n<=64):SeqAt.shaped d=true:=by
 obtain ⟨Z,b,c⟩:=qI n d h;unfold SeqAt.shaped;rw [b,aaM (abk c H)];rfl
def AC (h:Ht n d):PyData.eqv d d=true:=(qI n d h).1
def uk {K:aA} (a:Dn K H d x) (b:Dn K H d y) (p:Ht n d) (h:n<=64) (q:Q (.bl false) H):VD K x y H Q :=
 ⟨d,d,a,b,ii p h,ii p h,by rw [AC p];exact q⟩
def IJ {K:aA} (a:Dn K H d x) (b:Dn K H d y) (p:Ht n d) (h:n<=64) (q:Q (.bl true) H):TD K x y H Q :=
 ⟨d,d,a,b,ii p h,ii p h,by rw [AC p];exact q⟩
def ix {X:Cx} {K:aA} (h:X.K=K):UZ X (Tu K):=by
 subst h;exact aB
theorem vS:∀ {N:List Int} {B:bq},Vals (N.map V.int) B->∃ ys:List (Int×Tok),B=ys.map (λ p=>Value.int p.1 p.2)/\ys.map (·.1)=N
 | [],B,r=>by cases r;exact ⟨[],rfl,rfl⟩
 | n::N,B,r=>by
   cases r with
   | cons a b =>
     obtain ⟨t,rfl⟩:=a;obtain ⟨ys,rfl,e⟩:=vS b;exact ⟨(n,t)::ys,rfl,by rw [ab0,e]⟩
section
variable {X:Cx}
def GF (b:X.calm=true):jg X (.builtin "sum") (λ xs H Q=>∃ (p:ak) (n:List Int),xs=[.ref p]/\aY X.K H p (n.map V.int)/\∀ r:Int,r=n.sum->Q (.int r) H):=by
 intro a s k H xs U Q I r h;obtain ⟨p,n,rfl,f,q⟩:=h;obtain ⟨u,rfl,R⟩:=vals1 r;obtain rfl:u=Value.ref p:=R;obtain ⟨B,i,g,Z⟩:=I.list f;obtain ⟨y,rfl,e⟩:=vS i;have d:s.heap.IsList p (intItems y.toArray):=by have:=g.isList;simpa [intItems] using this
 refine sum_intListG (I.ok.hd b) d λ j T t c=>?_;refine ⟨.int _,H,I.kept c,⟨t,rfl⟩,q _ ?_⟩;rw [preSum_eq,ac2 (by simp),<- e]
end
def G0 {X:Cx} {K:aA} (h:X.K=K):jg X (.builtin "len") (λ xs H Q=>∃ p ys,xs=[.ref p]/\(aY K H p ys\/bP K H p ys)/\∀ r:Int,r=ys.length->Q (.int r) H):=by
 subst h;exact bz
def Ps:bootBuiltins "min" = some (.builtin "min"):=by decide +kernel
def Cn:bootBuiltins "max" = some (.builtin "max"):=by decide +kernel
def Pz:bootBuiltins "sum" = some (.builtin "sum"):=by decide +kernel
def kZ:bootBuiltins "enumerate" = some (.type "enumerate"):=by decide +kernel
def rB (r:List cy) (f g:cy) (b:Nat):Bool:=(!ce g (r.getD b (0,1))) && !ce (r.getD (b+1) (0,1)) f
def k8 (r:List cy) (f g:cy) (n:Nat):bi:=(List.range n).filter (rB r f g)
def rY (r:List cy) (f g:cy):bi:=k8 r f g (r.length - 1)
def nu (r:List cy) (f g:cy):Bool:=(!ce f (r.getD 0 (0,1))) && !ce (r.getD (r.length - 1) (0,1)) g
def kM (r:List cy) (f g:cy) (n:Nat):k8 r f g (n+1)=k8 r f g n++if rB r f g n then [n] else []:=by
 unfold k8;rw [acb,adj];cases h:rB r f g n<;>simp [List.filter,h]
def mV (r:List cy) (f g:cy) (n:Nat):(k8 r f g n).length<=n:=by
 have:=acs (rB r f g) (List.range n);rw [aax] at this;exact this
def Lv {a:Type} {xs:List a} {x:a} (h0:0<xs.length) (h:xs[xs.length - 1]?=some x):tf xs (-1)=some x:=by
 unfold tf Hx;rw [abC (by lia),abE (by lia)];have e:((-1:Int)+(xs.length:Int)).toNat=xs.length - 1:=by lia
 simp only [Option.bind_some]
 first
   | (rw [e];exact h)
   | (have E:((xs.length:Int) + -1).toNat=xs.length - 1:=by lia
      rw [E];exact h)
noncomputable def jE (n:Nat):PyData:=.int (n:Int)
theorem uw {K:aA}:∀ l:bi,bE K H (l.map jE) (l.map ao)
 | []=>ed
 | n::l=>bD rfl (uw l)
def Fg {K:aA} {l:bi} (h:aY K H p (l.map ao)):Dn K H (.list (l.map jE)) (.ref p):=vX h (uw l)
def Fo:([]:az).length<=sizeLine:=ach _
section
variable {P:aZ} {w:aU} {A:Around} {E:au->Shared->Prop} {s:Shared}
def C2 {Q:au->Shared->Prop} (h:s.heap.IsTupleIter j a i) (H:s.heap.IsTuple a b) (g:b[i]?=some x) (k:∀ h',h'.IsTupleIter j a (i+1)->Heap.SameBut j s.heap h'->Q x { s with heap:=h' }):wpAny (model P w) A (Builtin.SmallTypes.nextOf (.ref j)) Q E s:=by
 obtain ⟨O,e,c,d⟩:=id h;obtain ⟨o,f,Z,N,D⟩:=H;unfold Builtin.SmallTypes.nextOf;refine WE (adV (name:=Str.ofString "__next__") h.typeIs aeb (aew aeb h.typeIs agd ?_ (af5 _)));refine WE (m:=field (.ref j) 0) (adp e d (x:=.ref a) rfl ?_);have n:¬ ((Value.ref a == Value.none)=true):=abu;show wpAny _ _ (if (Value.ref a == Value.none)=true then _ else _) _ _ s;rw [abC n];refine WE (m:=field (.ref j) 1) (adp e d (x:=.int i 0) rfl ?_);refine WE (m:=seqItems? (.ref a)) (aep f D ?_);simp only [acz,g];refine WE (agg e d (by simp) (aaU ⟨x,rfl,aaU (k _ ⟨_,aeu _ e (Obj.isFreed_of_fields (aeU d _)),(Obj.cls_mapFields ..).trans c,?_⟩ (Heap.SameBut.update ..))⟩));rw [aeU d];simp [rawInt]
def Gw {Q:au->Shared->Prop} (H:A.handled=none) (h:s.heap.IsTupleIter j a i) (g:s.heap.IsTuple a B) (l:B[i]?=none) (k:∀ h' e,Heap.ExtBut j s.heap h'->(∃ o,h'.get? e=some o/\o.cls = .type "StopIteration")->E (.ref e) { s with heap:=h' }):wpAny (model P w) A (Builtin.SmallTypes.nextOf (.ref j)) Q E s:=by
 obtain ⟨p,b,C,d⟩:=id h;obtain ⟨O,c,Z,N,D⟩:=g;unfold Builtin.SmallTypes.nextOf;refine WE (adV (name:=Str.ofString "__next__") h.typeIs aeb (aew aeb h.typeIs agd ?_ (af5 _)));refine WE (m:=field (.ref j) 0) (adp b d (x:=.ref a) rfl ?_);have n:¬ ((Value.ref a == Value.none)=true):=abu;show wpAny _ _ (if (Value.ref a == Value.none)=true then _ else _) _ _ s;rw [abC n];refine WE (m:=field (.ref j) 1) (adp b d (x:=.int i 0) rfl ?_);refine WE (m:=seqItems? (.ref a)) (aep c D ?_);simp only [acz,l];refine WE (wpAny_rule (WE (agg b d (by simp) (WE (m:=newExc (.type "StopIteration") []) ?_))));simp only [newExc,newTuple];refine WE (adP (WE (m:=firstArgMember _ _) (afb (a:=Value.none) (by first|rfl|(simp only [firstArgMember];rfl)) (adP ?_ (by size_fits)))) (by size_fits));simp only [raiseNew];refine WE (wpAny_handled ?_);have f:A.in1.handled=none:=H
 first|rw [f]|rw [H]
 exact WE (aaU (wpAny_throw (k _ _ (((Heap.SameBut.update ..).extBut.push _).push _) ⟨_,abX _ rfl,rfl⟩)))
end
def J3 {A:Around} (l:A.handled=none) (j a:ak) (n:a≠j) (b:Array au):Draws P w A j [j,a] b.size (λ i v=>b[i]?=some v) (λ i h=>h.IsTupleIter j a i/\h.IsTuple a b) where
 live:=λ Z Z S=>by
   obtain ⟨⟨o,e,Z⟩,Z⟩:=S;exact ⟨o,e⟩
 frame:=λ Z Z Z S k=>by
   obtain ⟨H,O,f,r⟩:=S;exact ⟨H.at λ o e=>k j (by simp) o e,O,k a (by simp) O f,r⟩
 item:=λ i s Q E c S q=>C2 S.1 S.2 (x:=b[i]) (by simp [c]) λ g H d=>q _ g s.toks (by simp [c]) ⟨H,S.2.extBut d.extBut n⟩ d
 done:=λ s Q E S q=>Gw l S.1 S.2 (by simp) q
set_option maxHeartbeats 1000000 in
def Gc (a:ak) (o:Obj) (bv:Array au) (n:Nat) (b:o.cls = .type "tuple") (e:o.data = .seq bv n) :
   Meets (Builtin.«enumerate.__new__» ⟨[.type "enumerate",.ref a],[]⟩) (λ _ R s=>s.heap.get? a=some o/\R (.ok (.ret (.ref (s.heap.push { cls:=.type "tuple_iterator",data:=.fields #[.ref a,.int 0 0]}).objs.size)))
     { s with heap:=(s.heap.push { cls:=.type "tuple_iterator",data:=.fields #[.ref a,.int 0 0]}).push { cls:=.type "enumerate",data:=.fields #[.none,.bool false,.ref s.heap.objs.size,rawInt 0,.none,.none]}}):=by
 obtain ⟨C,i,D,sl⟩:=o;obtain rfl:C = .type "tuple":=b;obtain rfl:D = .seq bv n:=e;refine .of_wp λ P w A R s q=>?_;obtain ⟨f,g,d,t,O⟩:=s;obtain ⟨h,q⟩:=q;have G:=sub_enumerate;have H:Heap.IsTuple (Shared.heap ⟨f,g,d,t,O⟩) a bv:=⟨_,h,rfl,n,rfl⟩
 wp_walk using afa h
 refine wpAny_stack_any λ S=>aaU ?_;split
 . rename_i c _ _ _ _ _
   cases (c == Value.type "enumerate")<;>(wp_walk using afa h,wpAny_pyIter_tuple H;exact ⟨_,rfl,q⟩)
 . wp_walk using afa h,wpAny_pyIter_tuple H
   exact ⟨_,rfl,q⟩
section
variable {P:aZ} {w:aU} {A:Around} {E:au->Shared->Prop} {s:Shared}
def ut {Q:au->Shared->Prop} (c:s.heap.IsTuple a B) (k:∀ h',IsEnum h' (s.heap.objs.size+1) s.heap.objs.size 0 .none->h'.IsTupleIter s.heap.objs.size a 0->(∀ b o,s.heap.get? b=some o->h'.get? b=some o)->Q (.ref (s.heap.objs.size+1)) { s with heap:=h' }) :
   wpAny (model P w) A (call (.type "enumerate") [.ref a]) Q E s:=by
 obtain ⟨g,e,d,n,f⟩:=c;refine callType_new F.called_enumerate (by decide) (F.typeCall_enumerate_1 _) (F.newCall_enumerate_1 _) (λ O=>F.args_object_init_2 O _) F.entry_enumerate_new (Gc a g B n d f) ⟨e,?_⟩;have H:(s.heap.push { cls:=.type "tuple_iterator",data:=.fields #[.ref a,.int 0 0]}).objs.size=s.heap.objs.size+1:=ae1 ..;have h:=abX (s.heap.push { cls:=.type "tuple_iterator",data:=.fields #[.ref a,.int 0 0]}) (o:={ cls:=.type "enumerate",data:=.fields #[.none,.bool false,.ref s.heap.objs.size,rawInt 0,.none,.none]}) rfl;rw [H] at h;show _/\_;rw [H];exact ⟨⟨_,h,rfl⟩,k _ h ⟨_,aaJ _ (abX _ rfl),rfl,rfl⟩ λ b o x=>aaJ _ (aaJ _ x)⟩
end
def Hv (sq:Hp->ak->az->Prop) (a:ak):It :=
 ⟨λ i H=>∃ X x,sq H a X/\X[i]?=some x,
  λ i H v h=>∃ p x,H p=none/\v = .ref p/\h=upd H p (.tup [ao i,x])/\∀ X,sq H a X->X[i]?=some x,
  λ i H=>∃ X,sq H a X/\X.length=i⟩
def EnL (e j a:ak) (i:Nat) (h:aM):Prop:=(∃ o,IsEnum h e j i o)/\h.IsListIter j a i
def EnT (e j a:ak) (i:Nat) (h:aM):Prop:=(∃ o,IsEnum h e j i o)/\h.IsTupleIter j a i
def BH {K:aA} {e j a:ak} (y:e≠j) (Y:a≠e) (L:a≠j):Turn P w K (.Tuple elts x1 qa) (Hv (aY K) a) [e,j] e (EnL e j a) where
 mem:=by simp
 obj:=λ i h S c l=>by
   obtain ⟨⟨O,b⟩,oj,e2,Z,d2⟩:=S;simp only [aah,aak,ack] at l;rcases l with rfl|rfl
   . exact ⟨_,b,λ v q=>by cases q⟩
   . exact ⟨oj,e2,λ v q=>by rw [d2] at q;cases q⟩
 keep:=λ i h z S k=>by
   obtain ⟨⟨O,b⟩,f⟩:=S;exact ⟨⟨O,k e (by simp) _ b⟩,f.at λ o q=>k j (by simp) o q⟩
 item:=by
   intro X D G C l i m s σ H E I n S F;subst D G C;obtain ⟨xs,x,r,N⟩:=F;obtain ⟨B,R,p,hz⟩:=I.list r;obtain ⟨u,M,ru⟩:=R.get N;obtain ⟨⟨O,b⟩,f⟩:=S;have Q:e<s.heap.objs.size:=abh b;have lj:j<s.heap.objs.size:=by obtain ⟨o,q,Z⟩:=f;exact abh q
   have hi:i<B.toArray.size:=by
     have:=(QQ.mp M).1;simpa using this
   refine wpAny_pyNext_enum_itemD (Draws.list (A:=X.A.in1) (I.ok.hd l) j a L B.toArray) b ⟨f,p.isList⟩ hi y (by simp [y,Y.symm]) λ v z T t eo W ht ab kk=>?_;obtain rfl:v=u:=by
     have t:B.toArray[i]?=some v:=t;rw [agb,M] at t;exact (aaO t).symm
   refine ⟨.ref s.heap.objs.size,rfl,age (s:={ s with heap:=z,toks:=T+1 }) eo λ g he J=>?_⟩;have U:∀ c o,c∉[e,j]->s.heap.get? c=some o->g.get? c=some o:=λ c o d q=>by
     simp only [aah,aak,ack,adE] at d;exact J.extBut _ _ d.1 (kk c o d.1 d.2 q)
   have n5:=J.extBut _ _ (ad8 Q) ht;refine ⟨.ref s.heap.objs.size,upd H s.heap.objs.size (.tup [ao i,x]),I.ze (t':=T+1) U n (aaD _) ⟨by show 2<=sizeLine;decide,[.int i T,v],.cons ⟨T,rfl⟩ (.cons ru .nil),⟨_,n5,rfl,_,rfl⟩⟩,rfl,
     ⟨_,x,I.cJ.fresh (aaD _),rfl,rfl,λ ad h=>by rw [I.qk h r];exact N⟩,⟨⟨_,by simpa using he⟩,W.1.extBut J.extBut y.symm⟩,λ c V=>?_⟩
   have lc:c<s.heap.objs.size:=by
     simp only [aah,aak,ack] at V;rcases V with rfl|rfl
     . exact Q
     . exact lj
   rw [av (abY lc)];exact (n c V).1
 done:=by
   intro X D G C l i m s σ H E I n S F;subst D G C;obtain ⟨xs,r,hl⟩:=F;obtain ⟨B,R,p,hz⟩:=I.list r;obtain ⟨⟨O,b⟩,f⟩:=S;have d:i=B.toArray.size:=by rw [abd,<- R.length];exact hl.symm
   subst d;refine wpAny_pyNext_enum_endD (Draws.list (A:=X.A.in1) (I.ok.hd l) j a L B.toArray) b ⟨f,p.isList⟩ λ z eb=>⟨rfl,I.yV (ch:=[e,j]) (t':=s.toks) (λ c o d q=>?_) n⟩
   simp only [aah,aak,ack,adE] at d;exact eb c o d.2 q
 self:=λ Z Z Z Z Z S h=>by
   obtain ⟨⟨O,b⟩,Z⟩:=S;exact ad3 b h
def Ah {K:aA} {e j a:ak} (y:e≠j) (Y:a≠e) (L:a≠j):Turn P w K (.Tuple elts x1 qa) (Hv (bP K) a) [e,j] e (EnT e j a) where
 mem:=by simp
 obj:=λ i h S c l=>by
   obtain ⟨⟨O,b⟩,oj,e2,Z,d2⟩:=S;simp only [aah,aak,ack] at l;rcases l with rfl|rfl
   . exact ⟨_,b,λ v q=>by cases q⟩
   . exact ⟨oj,e2,λ v q=>by rw [d2] at q;cases q⟩
 keep:=λ i h z S k=>by
   obtain ⟨⟨O,b⟩,f⟩:=S;exact ⟨⟨O,k e (by simp) _ b⟩,f.at λ o q=>k j (by simp) o q⟩
 item:=by
   intro X D G C l i m s σ H E I n S F;subst D G C;obtain ⟨xs,x,r,N⟩:=F;obtain ⟨B,R,p,hz⟩:=I.tuple r;obtain ⟨u,M,ru⟩:=R.get N;obtain ⟨⟨O,b⟩,f⟩:=S;have Q:e<s.heap.objs.size:=abh b;have lj:j<s.heap.objs.size:=by obtain ⟨o,q,Z⟩:=f;exact abh q
   have hi:i<B.toArray.size:=by
     have:=(QQ.mp M).1;simpa using this
   refine wpAny_pyNext_enum_itemD (J3 (A:=X.A.in1) (I.ok.hd l) j a L B.toArray) b ⟨f,p⟩ hi y (by simp [y,Y.symm]) λ v z T t eo W ht ab kk=>?_;obtain rfl:v=u:=by
     have t:B.toArray[i]?=some v:=t;rw [agb,M] at t;exact (aaO t).symm
   refine ⟨.ref s.heap.objs.size,rfl,age (s:={ s with heap:=z,toks:=T+1 }) eo λ g he J=>?_⟩;have U:∀ c o,c∉[e,j]->s.heap.get? c=some o->g.get? c=some o:=λ c o d q=>by
     simp only [aah,aak,ack,adE] at d;exact J.extBut _ _ d.1 (kk c o d.1 d.2 q)
   have n5:=J.extBut _ _ (ad8 Q) ht;refine ⟨.ref s.heap.objs.size,upd H s.heap.objs.size (.tup [ao i,x]),I.ze (t':=T+1) U n (aaD _) ⟨by show 2<=sizeLine;decide,[.int i T,v],.cons ⟨T,rfl⟩ (.cons ru .nil),⟨_,n5,rfl,_,rfl⟩⟩,rfl,
     ⟨_,x,I.cJ.fresh (aaD _),rfl,rfl,λ ad h=>by rw [I.G2 h r];exact N⟩,⟨⟨_,by simpa using he⟩,W.1.extBut J.extBut y.symm⟩,λ c V=>?_⟩
   have lc:c<s.heap.objs.size:=by
     simp only [aah,aak,ack] at V;rcases V with rfl|rfl
     . exact Q
     . exact lj
   rw [av (abY lc)];exact (n c V).1
 done:=by
   intro X D G C l i m s σ H E I n S F;subst D G C;obtain ⟨xs,r,hl⟩:=F;obtain ⟨B,R,p,hz⟩:=I.tuple r;obtain ⟨⟨O,b⟩,f⟩:=S;have d:i=B.toArray.size:=by rw [abd,<- R.length];exact hl.symm
   subst d;refine wpAny_pyNext_enum_endD (J3 (A:=X.A.in1) (I.ok.hd l) j a L B.toArray) b ⟨f,p⟩ λ z eb=>⟨rfl,I.yV (ch:=[e,j]) (t':=s.toks) (λ c o d q=>?_) n⟩
   simp only [aah,aak,ack,adE] at d;exact eb c o d.2 q
 self:=λ Z Z Z Z Z S h=>by
   obtain ⟨⟨O,b⟩,Z⟩:=S;exact ad3 b h
section
variable {X:Cx}
def abH (K:aA) (t:TA):TI:=λ b H R=>t b H λ v h=>∃ a,v=[.ref a]/\(∃ x,aY K h a x)/\R (Hv (aY K) a) h
def aai (K:aA) (t:TA):TI:=λ b H R=>t b H λ v h=>∃ a,v=[.ref a]/\(∃ x,bP K h a x)/\R (Hv (bP K) a) h
def Pf:("enumerate" : Str) ≠ "__name__":=by decide +kernel
def P2:(("enumerate" : Str) == ("__debug__" : Str))=false:=by decide +kernel
def sy {a:Expr} {p:Pos} (n:Gl X "enumerate") (o:X.mg "enumerate" = none) (m:PA X [a] ta) (u:autoParam (starEach [a] X.env=[(false,eval a X.env)]) za_._auto_1) :
   PI X (.Tuple elts x1 qa) (.Call (.Name "enumerate" p) [a] [] f) (abH X.K ta):=by
 intro d s A H R I h;refine Call_ ?_;refine jV I n o kZ ?_ Pf P2;refine acL ?_ u rfl;refine c9 (m f d s A H _ I h) λ U S ⟨V,k,i,w,Q⟩=>?_;obtain ⟨a,e,⟨F,t⟩,q⟩:=Q;subst e;cases w with
 | cons r x =>
   cases x;obtain rfl:_=Value.ref a:=r;obtain ⟨C,E,j,B⟩:=i.list t;have l:a<S.heap.objs.size:=by obtain ⟨Z,e,Z⟩:=j.isList;exact abh e
   refine call_enumerate_list j.isList λ D z y G v=>ad3 z ?_;refine ⟨S.heap.objs.size+1,[S.heap.objs.size+1,S.heap.objs.size],_,_,k,rfl,i.kept (t':=S.toks) v,BH (aeV _) (abY (aeK l)) (abY l),⟨⟨_,z⟩,y⟩,λ c g=>?_,q⟩;have b:S.heap.objs.size<=c:=by
     simp only [aah,aak,ack] at g;rcases g with rfl|rfl
     . exact adJ _
     . exact aaD _
   exact i.wk b (i.cJ.fresh b)
def Ou {a:Expr} {p:Pos} (n:Gl X "enumerate") (o:X.mg "enumerate" = none) (m:PA X [a] ta) (u:autoParam (starEach [a] X.env=[(false,eval a X.env)]) za_._auto_1) :
   PI X (.Tuple elts x1 qa) (.Call (.Name "enumerate" p) [a] [] f) (aai X.K ta):=by
 intro d s A H R I h;refine Call_ ?_;refine jV I n o kZ ?_ Pf P2;refine acL ?_ u rfl;refine c9 (m f d s A H _ I h) λ U S ⟨V,k,i,w,Q⟩=>?_;obtain ⟨a,e,⟨F,t⟩,q⟩:=Q;subst e;cases w with
 | cons r x =>
   cases x;obtain rfl:_=Value.ref a:=r;obtain ⟨C,E,j,B⟩:=i.tuple t;have l:a<S.heap.objs.size:=j.lt;refine ut j λ D z y v=>ad3 z ?_;refine ⟨S.heap.objs.size+1,[S.heap.objs.size+1,S.heap.objs.size],_,_,k,rfl,i.kept (t':=S.toks) v,Ah (aeV _) (abY (aeK l)) (abY l),⟨⟨_,z⟩,y⟩,λ c g=>?_,q⟩;have b:S.heap.objs.size<=c:=by
     simp only [aah,aak,ack] at g;rcases g with rfl|rfl
     . exact adJ _
     . exact aaD _
   exact i.wk b (i.cJ.fresh b)
end
def kO {sq:Hp->ak->az->Prop} {a:ak} {xs:az} {g:TG} {T:TT} {t:TE} {D:ak} {Q:Hp->Prop} {σ:St} (c:Nat->az->St->Hp->Prop) (h0:c 0 [] σ H) (u:∀ i acc σ H,i<=xs.length->c i acc σ H->sq H a xs) (z:∀ i x p acc σ H,xs[i]?=some x->H p=none->c i acc σ H->g (.ref p) σ (upd H p (.tup [ao i,x])) λ b l=>T b l λ k h =>
     if k=true then t b h λ v j=>j D=some (.lst acc)/\acc.length<sizeLine/\c (i+1) (acc++[v]) b (upd j D (.lst (acc++[v]))) else c (i+1) acc b h) (r:∀ acc σ H,c xs.length acc σ H->Q H) :
   ∃ W:Nat->Nat->az->St->Hp->Prop,(∃ m,W 0 m [] σ H)/\∀ i m acc f d,W i m acc f d->((Hv sq a).stop i d/\Q d) \/
     ((Hv sq a).go i d/\∃ N:az->St->Hp->Prop,(∀ G b h,N G b h->∃ M,M<m/\W (i+1) M G b h)/\∀ x n,(Hv sq a).K9 i d x n->g x f n λ b l=>T b l λ k h =>
       if k=true then t b h λ y j=>j D=some (.lst acc)/\acc.length<sizeLine/\N (acc++[y]) b (upd j D (.lst (acc++[y]))) else N acc b h):=by
 refine ⟨λ i m acc σ H=>m=xs.length - i/\i<=xs.length/\c i acc σ H,⟨_,rfl,ach _,h0⟩,?_⟩;rintro i m acc σ H ⟨rfl,s,p⟩;have q:=u i acc σ H s p;by_cases o:i<xs.length
 . refine .inr ⟨⟨xs,xs[i],q,by simp [o]⟩,c (i+1),λ G f d A=>⟨xs.length - (i+1),by lia,rfl,o,A⟩,λ v d y=>?_⟩;obtain ⟨B,x,w,rfl,rfl,E⟩:=y;exact z i x B acc σ H (E xs q) w p
 . have e:i=xs.length:=by lia
   subst e;exact .inl ⟨⟨xs,q,rfl⟩,r acc σ H p⟩
end L2
namespace Tx
open PySem PySem.Builtin PySem.Builtin.Str
def len (a:Str):a.cps.toList.length=a.length:=aev
noncomputable def sl:Str:=⟨#[47]⟩
def cases (x:Str):47∉x.cps.toList\/∃ a b:Str,47∉a.cps.toList/\x.cps.toList=a.cps.toList++47::b.cps.toList:=by
 by_cases h:47∈x.cps.toList
 . obtain ⟨as,B,e,n⟩:=List.eq_append_cons_of_mem h;exact .inr ⟨⟨as.toArray⟩,⟨B.toArray⟩,by simpa using n,by simpa using e⟩
 . exact .inl h
noncomputable def strN (n:Nat):Str:=Str.ofString (toString ((n:Nat):Int))
def Good (z:Str):Prop:=1<=z.length/\z.length<=30/\NumText.AllDigits z.cps.toList/\¬ (z.cps.toList.head?=some 48/\1<z.length)
noncomputable def valOf (z:Str):Int:=((NumText.digitsVal z.cps.toList:Nat):Int)
noncomputable def mi:Str:=⟨#[45]⟩
noncomputable def HA (z:Str):Bool:=decide (z.cps.toList.head?=some 45)
def bodyOf (z:Str):Str:=if HA z=true then Txt.slice z (some 1) none else z
def aam (z:Str):Int:=if HA z=true then -1 else 1
def Rd (z:Str) (f:Int×Int):Prop :=
 Good (Txt.partition (bodyOf z) sl).1/\(HA z=true->valOf (Txt.partition (bodyOf z) sl).1≠0)/\f.1=aam z * valOf (Txt.partition (bodyOf z) sl).1 /\
 (((Txt.partition (bodyOf z) sl).2.1=sl/\Good (Txt.partition (bodyOf z) sl).2.2/\2<=valOf (Txt.partition (bodyOf z) sl).2.2 /\
     Int.gcd (valOf (Txt.partition (bodyOf z) sl).1) (valOf (Txt.partition (bodyOf z) sl).2.2)=1/\f.2=valOf (Txt.partition (bodyOf z) sl).2.2) \/
   ((Txt.partition (bodyOf z) sl).2.1≠sl/\f.2=1))
def VY (t:Int):Str:=if t<0 then mi++strN t.natAbs else strN t.natAbs
def aga (t b:Int):Str:=if b=1 then VY t else VY t++sl++strN b.natAbs
end Tx
namespace L2
open PySem PySem.Spec PyProof.Rows Mth
def cdiv {j:Int} (h:0<j) (H:j<2 ^ 100) {i:Int}:Il i j:=⟨by lia,P1 8999 (by lia) H⟩
section
variable {X:Cx} {x:Str} {p pos:Pos} {e:Expr} {es:List Expr} {t:TA} {k:Nat} {ps:cm} {sp:Sp} {E:XK}
def IA (D:Co X.prog X.w X.K X.mg X.base x k ps sp) (i:cK k X.A) (j:Passes (si X.prog X.w) X E) (h:PA X (e::es) t) (b:autoParam (Gl X x) za_._auto_1) (n:autoParam (xB x) zb_._auto_1)
   (a:autoParam (zC X e es) za_._auto_1) (g:autoParam (BP X es pos) za_._auto_1):PE X (.Call (.Name x p) (e::es) [] pos) (xI sp [] E t):=by
 obtain ⟨f,l,d,c,H,F⟩:=D;exact ug F i b d c H .nil j h n a g
end
section
variable {P:aZ} {w:aU} {K:aA} {mg:cH} {base:aM} {x qual m:Str} {st:Stmt} {dV:au} {f C:ak} {fd:FuncData} {N ps:cm} {k:Nat} {sp:Sp} {ds:bq} {f7:az}
def qj.V2 (F:qj K x qual st dV f fd) (S:aC N ps (ap st)) (len:∀ vs H Q E,sp vs H Q E->vs.length=ps.length)
   (e:∀ (b:au) (A:Around) (outer:List Env) (s:Shared) (H:Hp) (vs:az) (Q:VK) (E:XK),cK k (A.deeper (envOfC qual (ap st) s.heap.objs.size f b))->sp vs H Q E ->
     ∃ t,qy (fq (si P w) P w K mg base N qual (ap st) f b A outer s H E) (bH st) t/\t { nx:=λ Z h=>Q .cT h,rt:=Q } (start N vs) H):gX P w K mg base (si P w) (k+1) f fd ps sp:=by
 obtain ⟨o,O,kV,d,p,g,b,ct,X,rfl,l,q⟩:=F.ex;exact Fl l q S len λ A outer s H vs Q E c a=>e b A outer s H vs Q E c a
def qe (P:aZ) (w:aU) (K:aA) (M:cH) (base:aM) (C:ak) (m:Str) (k:Nat) (p:cm) (d:bq) (s:Sp):Prop :=
 ∃ f fd,Meth K C m f/\Binds K fd p d/\gX P w K M base (si P w) k f fd p s
def gk.EL (h:gk K C m qual st .none) (S:aC N ps (ap st)) (len:∀ vs H Q E,sp vs H Q E->vs.length=ps.length)
   (g:∀ (kV d p:au) (c:Option ak) (b ct:au) (us:bq),us.length=ps.length->bindArgs (W.fnOf m qual (cU st) (bH st) (ap st) .none kV d p c b ct) ⟨us,[]⟩=pure (ps.zip us))
   (e:∀ (f:ak) (b:au) (A:Around) (outer:List Env) (s:Shared) (H:Hp) (vs:az) (Q:VK) (E:XK),cK k (A.deeper (envOfC qual (ap st) s.heap.objs.size f b))->sp vs H Q E ->
     ∃ t,qy (fq (si P w) P w K mg base N qual (ap st) f b A outer s H E) (bH st) t/\t { nx:=λ Z a=>Q .cT a,rt:=Q } (start N vs) H):qe P w K mg base C m (k+1) ps [] sp:=by
 obtain ⟨f,fd,M,F⟩:=h;exact ⟨f,fd,M,F.JO g,F.V2 S len λ b A outer s H vs Q E i j=>e f b A outer s H vs Q E i j⟩
def Lf (P:aZ) (w:aU) (K:aA) (m:cH) (base:aM) (x:Str) (st:Stmt) (d:au) (k:Nat) (p:cm) (s:Sp):Prop :=
 ∃ f fd,m x=some (.ref f)/\qj K x x st d f fd/\gX P w K m base (si P w) k f fd p s
def By (P:aZ) (w:aU) (K:aA) (m:cH) (base:aM) (x:Str) (k:Nat) (p:cm) (F:az) (s:Sp):Prop :=
 ∃ ds,Vals F ds/\∃ f fd,m x=some (.ref f)/\W.keepIn K (.ref f)=true/\Binds K fd p ds/\gX P w K m base (si P w) k f fd p s
def Mp.abi (h:Mp K mg x st dV) (S:aC N ps (ap st)) (len:∀ vs H Q E,sp vs H Q E->vs.length=ps.length)
   (e:∀ (f:ak) (b:au) (A:Around) (outer:List Env) (s:Shared) (H:Hp) (vs:az) (Q:VK) (E:XK),cK k (A.deeper (envOfC x (ap st) s.heap.objs.size f b))->sp vs H Q E ->
     ∃ t,qy (fq (si P w) P w K mg base N x (ap st) f b A outer s H E) (bH st) t/\t { nx:=λ Z a=>Q .cT a,rt:=Q } (start N vs) H):Lf P w K mg base x st dV (k+1) ps sp:=by
 obtain ⟨f,fd,M,F⟩:=h;exact ⟨f,fd,M,F,F.V2 S len λ b A outer s H vs Q E c d=>e f b A outer s H vs Q E c d⟩
def Lf.Vl (h:Lf P w K mg base x st (.ref T) k ps sp) (H:Ir K T b)
   (a:∀ i:Array au,Vals b i.toList->∃ ds,Vals f7 ds/\∀ (kV d p:au) (A:Option ak) (B ct:au) (us:bq),(us++ds).length=ps.length->∃ k,bindArgs (W.fnOf x x (cU st) (bH st) (ap st) (.ref T) kV d p A B ct) ⟨us,[]⟩=seqItems? (.ref T) >>= k/\k (some i)=pure (ps.zip (us++ds))) :
   By P w K mg base x k ps f7 sp:=by
 obtain ⟨f,fd,M,F,O⟩:=h;obtain ⟨o,n,i,H,e,g⟩:=H;obtain ⟨ds,c,a⟩:=a i g;exact ⟨ds,c,f,fd,M,F.kp,F.binds H e a,O⟩
end
section
variable {X:Cx} {C:ak} {x:Str} {p pos:Pos} {e:Expr} {es:List Expr} {t:TA} {k:Nat} {ps:cm} {sp:Sp} {ds:bq} {f7:az} {E:XK}
def Kt (M:CN X.K C) (D:qe X.prog X.w X.K X.mg X.base C "__init__" k ps ds sp) (a:Vals f7 ds) (i:cK (k+1) X.A) (j:Passes (si X.prog X.w) X E) (d:X.mg x=some (.ref C)) (h:PA X (e::es) t) (c:autoParam (Gl X x) za_._auto_1) (n:autoParam (xB x) zb_._auto_1)
   (b:autoParam (zC X e es) za_._auto_1) (g:autoParam (BP X es pos) za_._auto_1):PE X (.Call (.Name x p) (e::es) [] pos) (EO C sp f7 E t):=by
 obtain ⟨f,l,m,H,F⟩:=D;exact Ew ⟨M.makes,m.at_,m.fn,M.kp⟩ F i c d H a j h n b g
end
section
variable {P:aZ} {w:aU} {K:aA} {mg:cH} {base:aM} {m:Str} {st:Stmt} {f C:ak} {fd:FuncData} {ps:cm} {k:Nat} {sp:Sp} {ds:bq}
def Na (P:aZ) (w:aU) (K:aA) (M:cH) (base:aM) (C:ak) (m:Str) (k:Nat) (p:cm) (f:az) (s:Sp):Prop :=
 ∃ ds,Vals f ds/\qe P w K M base C m k p ds s
def qe.y (D:qe P w K mg base C m k ps [] sp):Na P w K mg base C m k ps [] sp:=⟨[],.nil,D⟩
noncomputable abbrev acC:bq:=[.type "ValueError",.type "Exception",.type "BaseException",.type "object"]
def aiD (K:aA) (C:ak) (q:Str) (st:Stmt):Prop:=∃ f fd,X1 K C f acC "ValueError.__new__"/\qj K "__init__" q st .none f fd
end
section
variable {X:Cx} {C:ak} {m c:Str} {p pos apos:Pos} {e o:Expr} {es:List Expr} {ta:TE} {t:TA} {k:Nat} {ps:cm} {sp:Sp} {ds:bq} {f7:az} {E:XK}
def pK (d:PE X o ta) (c:zH X.K C) (D:Na X.prog X.w X.K X.mg X.base C m k ps f7 sp) (j:cK k X.A) (n:Passes (si X.prog X.w) X E) (h:PA X (e::es) t)
   (a:autoParam (zC X e es) za_._auto_1) (g:autoParam (BP X es pos) za_._auto_1)
   (l:autoParam (eval (.Call (.Attribute o m apos) (e::es) [] pos) X.env=(do
     let O <- eval o X.env
     standAt apos.atName
     let (f,first) <- holding [O] (getMethod O m pl)
     callWith pos f first (backTo pos (starEach (e::es) X.env)) (backToKw pos (keywordEach [] X.env)))) za_._auto_1) :
   PE X (.Call (.Attribute o m apos) (e::es) [] pos) (xi C m sp f7 E ta t):=by
 obtain ⟨ds,b,f,p,i,H,F⟩:=D;exact EK (pl:=pl) d c i F j H b n h a g l
end
open PySem.Builtin PySem.Builtin.ObjectAttr
end L2
namespace Ord
open Bit
def Fc:∀ W,W<16->parts (rooms W)=(List.range 16).filter (λ o=>decide (o &&& W=o)):=by decide +kernel
structure NY (n:Nat) (has:Nat->Bool) (wd:Nat->Int) (wt:Nat->Bool) (b:Nat) (most heap:Int) (o:Nat):Prop where
 has:∀ r∈rooms o,r<n/\has r=true
 dQ:∀ r,r<n->wt r=true->o.testBit r=b.testBit r
 most:((rooms o).length:Int)<=most
 kQ:((rooms o).map wd).sum<=heap
def setOf (n:Nat) (p:Nat->Bool):Nat:=sumOf ((List.range n).filter p)
def jk (n:Nat) (p:Nat->Bool) (k:Nat):(setOf n p).testBit k=(decide (k<n) && p k):=by
 unfold setOf;rw [nG];by_cases h:k<n<;>cases e:p k<;>simp [h,e]
def Di (n:Nat) (p:Nat->Bool):setOf n p<2 ^ n:=IT λ r h=>aa4.mp (acq.mp h).1
def G8 {n:Nat} (p:Nat->Bool) (H:n<=61):rooms (setOf n p)=(List.range n).filter p :=
 Bs (λ r h=>by have:=aa4.mp (acq.mp h).1;lia) ((af1).filter _)
def Ml {o k:Nat} (h:o<16) (H:4<=k):o.testBit k=false:=jl (m:=4) h H
structure Qs (n:Nat) (has:Nat->Bool) (wd:Nat->Int) (wt:Nat->Bool) (b:Nat) (most heap:Int) (o:Nat):Prop where
 dQ:o &&& setOf n wt=b &&& setOf n wt
 most:((rooms o).length:Int)<=most
 kQ:((rooms (o &&& setOf n has)).map wd).sum<=heap
section
variable {n:Nat} {has:Nat->Bool} {wd:Nat->Int} {wt:Nat->Bool} {b:Nat} {most heap:Int} {o:Nat}
def En (c:o<2 ^ 61):o &&& setOf n has=o↔∀ r∈rooms o,r<n/\has r=true:=by
 constructor
 .
  intro e r d;have H:=(gB.mp d).2;rw [<- e,adm,jk] at H;simp only [abF,acu] at H;exact H.2
 .
  intro h;refine aem λ k=>?_;rw [adm,jk];by_cases b:k<61
  .
   cases e:o.testBit k with
   | false=>rfl
   | true =>
     obtain ⟨a,H⟩:=h k (gB.mpr ⟨b,e⟩);rw [aaM a,H];rfl
  . rw [jl c (by lia)];rfl
def BQ:o &&& setOf n wt=b &&& setOf n wt↔∀ r,r<n->wt r=true->o.testBit r=b.testBit r:=by
 constructor
 .
  intro e r a c;have h:=adB (λ x=>Nat.testBit x r) e;simp only [adm,jk,aaM a,c,Bool.and_true] at h;exact h
 .
  intro h;refine aem λ k=>?_;rw [adm,adm,jk];by_cases H:k<n
  . cases e:wt k with
    | false=>simp
    | true=>rw [h k H e]
  . rw [aaL H];simp
def Jp (c:o<2 ^ 61):NY n has wd wt b most heap o↔(o &&& setOf n has=o/\Qs n has wd wt b most heap o):=by
 constructor
 . rintro ⟨d,H,a,h⟩;have e:=(En c).mpr d;exact ⟨e,⟨BQ.mpr H,a,by rw [e];exact h⟩⟩
 . rintro ⟨e,H,a,h⟩;rw [e] at h;exact ⟨(En c).mp e,BQ.mp H,a,h⟩
end
end Ord
namespace L2
open PySem PySem.Spec PyProof.Rows Mth
variable {H:Hp}
section
variable {prog:aZ} {w:aU} {A:Around} {E:au->Shared->Prop} {s:Shared}
def Jz {b n:Nat} (h:b<=n):Builtin.Slice.sliceAdjust none (some (b:Int)) 1 (n:Int)=(0,(b:Int)):=by
 unfold Builtin.Slice.sliceAdjust;simp only [show ¬ ((1:Int)<0) by lia,show ¬ ((b:Int)<0) by lia,aeg];congr 1;lia
def JA (b:Nat):Builtin.Slice.slicePlaces 0 (b:Int) 1=b:=by
 unfold Builtin.Slice.slicePlaces;simp only [show (1:Int) > 0 by lia,ae2,Int.ediv_one];split<;>lia
def Iv {sl:ak} {b n:Nat} {u:Tok} {Q:Int×Int×Nat->Shared->Prop} (c:s.heap.IsSliceOf sl .none (.int b u) .none) (H:b<=n) (h:Q (0,1,b) s) :
   wpAny (model prog w) A (Builtin.Slice.sliceApplied (.ref sl) (pure (n:Int))) Q E s:=by
 obtain ⟨o,U,a,V⟩:=id c;unfold Builtin.Slice.sliceApplied;unfold Builtin.Slice.sliceFields;refine WE (WE (adp U V (x:=.none) rfl (WE (adp U V (x:=.int b u) rfl (WE (adp U V (x:=.none) rfl (aaU (WE (slicePart_none ?_)))))))));show wpAny _ _ (if ((1:Int) == 0)=true then _ else _) _ _ s;rw [abC (show ¬ (((1:Int) == 0)=true) by decide)];refine WE (slicePart_none (WE (slicePart_int (WE (aaU ?_)))));show wpAny _ _ (match Builtin.Slice.sliceAdjust none (some (b:Int)) 1 (n:Int) with|(lo,hi)=>pure (lo,(1:Int),Builtin.Slice.slicePlaces lo hi 1)) _ _ s;rw [Jz H];show wpAny _ _ (pure ((0:Int),(1:Int),Builtin.Slice.slicePlaces 0 (b:Int) 1)) _ _ s;rw [JA];exact aaU h
def GC (xs:Array au) (b:Nat) (h:b<=xs.size):((List.range b).filterMap λ (k:Nat)=>xs[((0:Int)+(k:Int) * 1).toNat]?).toArray=(xs.toList.take b).toArray:=by
 have e:(λ (k:Nat)=>xs[((0:Int)+(k:Int) * 1).toNat]?)=λ k=>xs[0+k]?:=by
   funext k;rw [show ((0:Int)+(k:Int) * 1).toNat=0+k by lia]
 have q:=pick_run xs 0 b;rw [List.filterMap_map] at q;rw [e];refine adB List.toArray (Eq.trans ?_ (q.trans (by rw [List.drop_zero])));rfl
def GR {t sl:ak} {i:Array au} {b:Nat} {u:Tok} {Q:au->Shared->Prop} (H:IsTup s.heap t i) (e:s.heap.IsSliceOf sl .none (.int b u) .none) (d:b<i.size) (h:Q (.ref s.heap.objs.size) { s with heap:=s.heap.push { cls:=.type "tuple",data:=.seq (i.toList.take b).toArray }}) (hsz:i.size<=sizeLine):wpAny (model prog w) A (getItem (.ref t) (.ref sl)) Q E s:=by
 have f:sizeOk (.seq (i.toList.take b).toArray):=by
   show (i.toList.take b).toArray.size<=sizeLine;rw [abd,abw,aev];lia
 obtain ⟨o,U,a,V⟩:=id e;have T:s.TypeIs (.ref sl) "slice":=⟨o,U,a⟩
 unfold getItem;try with_reducible refine acT ?_
 first|refine WE (aaU ?_)|skip
 refine WE (wpAny_sequenceKey H.typeIs (by decide) (WE (adV (name:=Str.ofString "__getitem__") H.typeIs slot_tuple_getitem (aew slot_tuple_getitem H.typeIs entry_tuple_getitem ?_ (args_tuple_getitem _ _)))));show wpAny _ _ (Builtin.Tuple.tupleItemsOf (.ref t) >>= _) _ _ s;refine WE (tupleItemsOf_ H (WE (wpAny_typeOf T ?_)));rw [abE (by decide)];refine WE (Iv e (adn d) ?_);have c:¬ (((0:Int) == 0 && (1:Int) == 1 && b == i.size)=true):=by
   rw [show (b == i.size)=false by rw [adk];lia];simp
 show wpAny _ _ (if ((0:Int) == 0 && (1:Int) == 1 && b == i.size)=true then _ else _) _ _ s;rw [abC c,GC i b (adn d)]
 first
   | exact WE (m:=Builtin.Tuple.tupleExact _) (adP (aaU ⟨_,rfl,aaU h⟩) f)
   | exact WE (m:=Builtin.Tuple.tupleExact _) (adP (WE (aaU (aaU ⟨_,rfl,aaU h⟩))) f)
   | exact WE (WE (m:=Builtin.Tuple.tupleExact _) (adP (aaU (aaU ⟨_,rfl,aaU h⟩)) f))
   | exact WE (WE (m:=Builtin.Tuple.tupleExact _) (adP (aaU ⟨_,rfl,aaU h⟩) f))
end
section
variable {X:Cx}
inductive VN (K:aA) (x:V) (lo:Option Int) (hi:Option Int) (H:Hp) (Q:VK):Prop|mk (a xs:_) (i:Nat) (_:x = .ref a) (_:bP K H a xs) (_:lo=some (i:Int)) (_:hi=none) (_:1<=i) (_:i<=xs.length) (_:∀ p,H p=none->Q (.ref p) (upd H p (.tup (xs.drop i))))
def nI:Um X (VN X.K):=by
 intro p s w H x v V u L m sl Q I R e j k h;obtain ⟨a,l,i,rfl,f,rfl,rfl,g,t,q⟩:=h;cases R;cases k;cases j;obtain ⟨B,r,d,n⟩:=I.tuple f;have c:=r.length;refine ⟨"tuple",_,slot_tuple_getitem.lookup,d.typeIs,getItem_tuple_from d e g (by rw [abd];lia) ?_ (by rw [abd];lia)⟩;refine ⟨.ref s.heap.objs.size,_,I.laid (t':=s.toks) (o:=.tup (l.drop i)) (λ b O q=>aaJ _ q) (aaD _) ?_,rfl,q _ (I.cJ.fresh (aaD _))⟩;refine ⟨by rw [afw];lia,B.drop i,r.drop i,⟨_,abX _ rfl,rfl,_,rfl⟩⟩
inductive Pk (K:aA) (x:V) (lo:Option Int) (hi:Option Int) (H:Hp) (Q:VK):Prop|mk (a xs:_) (j:Nat) (_:x = .ref a) (_:bP K H a xs) (_:lo=none) (_:hi=some (j:Int)) (_:j<xs.length) (_:∀ p,H p=none->Q (.ref p) (upd H p (.tup (xs.take j))))
def m7:Um X (Pk X.K):=by
 intro p s t H x v V n L l sl Q I R e g i h;obtain ⟨a,k,j,rfl,f,rfl,rfl,J,q⟩:=h;cases R;cases i;cases g;obtain ⟨B,r,d,m⟩:=I.tuple f;have c:=r.length;refine ⟨"tuple",_,slot_tuple_getitem.lookup,d.typeIs,GR d e (by rw [abd];lia) ?_ (by rw [abd];lia)⟩;refine ⟨.ref s.heap.objs.size,_,I.laid (t':=s.toks) (o:=.tup (k.take j)) (λ b O q=>aaJ _ q) (aaD _) ?_,rfl,q _ (I.cJ.fresh (aaD _))⟩;refine ⟨by rw [abw];lia,B.take j,r.take j,⟨_,abX _ rfl,rfl,_,rfl⟩⟩
end
structure cg where
 bL:bi
 bx:Nat
 cI:bi
 failed:bi
 heap:Nat
def gS (K:aA) (H:Hp) (p:ak) (s:cg):Prop :=
 ∃ a c b,bP K H p [.ref a,ao s.bx,.ref c,.ref b,ao s.heap]/\bP K H a (s.bL.map ao)/\bP K H c (s.cI.map ao)/\bP K H b (s.failed.map ao)
def gS.same {K:aA} (h:gS K H p s) (q:aE H e):gS K e p s:=by
 obtain ⟨f,i,g,a,b,c,d⟩:=h;exact ⟨f,i,g,q.tup a,q.tup b,q.tup c,q.tup d⟩
abbrev WZ:=cy×Int×Int×Int
noncomputable def aq.lN (m:aq) (i:Nat):Option WZ:=(m.bw[i]?).getD none
def aq.has (m:aq) (i:Nat):Bool:=(m.lN i).isSome
def aq.wd (m:aq) (i:Nat):Int:=((m.lN i).map λ z=>z.2.1).getD 0
def aq.dQ (m:aq) (i:Nat):Int:=((m.lN i).map λ z=>z.2.2.1).getD 0
def aq.fails (m:aq) (i:Nat):Int:=((m.lN i).map λ z=>z.2.2.2).getD 0
def nF {m:aq} {i:Nat} (h:i<m.bw.length):m.bw[i]?=some (m.lN i):=by
 unfold aq.lN;rw [aL h];rfl
def HN:Option WZ->Bool->Nat->Nat->Prop
 | none,f,w,b=>f=false/\w=0/\b=0
 | some z,f,w,b=>(w:Int)<=z.2.2.1/\(b:Int)<=z.2.2.2/\(b=0\/(f=false/\w=0))
noncomputable def gN (l:bi) (i:Nat):Nat:=(l[i]?).getD 0
def N9 {l:bi} {i:Nat} (h:i<l.length):l[i]?=some (gN l i):=by
 unfold gN;rw [aL h];rfl
def Ev {l:bi} {i:Nat} (h:i<l.length):tf (l.map ao) (i:Int)=some (ao (gN l i)):=cq (by rw [aag,N9 h];rfl)
structure eM (m:aq) (s:cg):Prop where
 lb:s.bL.length=m.rows.length
 lw:s.cI.length=m.rows.length
 lf:s.failed.length=m.rows.length
 bx:s.bx<2 ^ m.rows.length
 most:((Bit.rooms s.bx).length:Int)<=m.most
 heap:(s.heap:Int)<=m.eF
 band:∀ i,i<m.rows.length->gN s.bL i+1<(m.rows.getD i []).length
 bM:∀ i,i<m.rows.length->HN (m.lN i) (s.bx.testBit i) (gN s.cI i) (gN s.failed i)
def aq.ws (m:aq):Nat:=Ord.setOf m.rows.length m.has
def cg.wt (s:cg) (i:Nat):Bool:=decide (0<gN s.cI i)
def cg.held (s:cg):Nat:=Ord.setOf s.cI.length s.wt
def aq.kQ (m:aq) (b:Nat):Int:=((Bit.rooms (b &&& m.ws)).map m.wd).sum
def aq.Ka (m:aq) (o:Nat) (heap:Int):Bool:=decide (((Bit.rooms o).length:Int)<=m.most) && decide (m.kQ o<=heap)
def cg.EX (m:aq) (s:cg) (o:Nat):Bool:=decide (o &&& s.held=s.bx &&& s.held) && m.Ka o s.heap
def cg.orders (m:aq) (s:cg):bi:=(Bit.parts (Bit.rooms m.ws)).filter (s.EX m)
def vk {m:aq} (h:m.rows.length<=4):m.ws<16:=aba (Ord.Di _ _) (aci (by decide) h:2 ^ m.rows.length<=2 ^ 4)
section
variable (K:aA) (C:ak)
inductive AR (vs:az) (H:Hp) (Q:VK) (_E:XK):Prop|mk (n:Nat) (_:vs=[ao n]) (_:n<2 ^ 61) (_:∀ H',aE H H'->Q (ao (Bit.rooms n).length) H')
inductive FK (vs:az) (H:Hp) (Q:VK) (_E:XK):Prop|mk (p l:_) (_:vs=[.ref p]) (_:aY K H p (l.map ao)) (_:(∀ r∈l,r<=1000)) (_:Q (ao (Bit.sumOf l)) H)
inductive Ay (vs:az) (H:Hp) (Q:VK) (_E:XK):Prop|mk (a fp m p s:_) (_:vs=[.ref a,.ref p]) (_:aV K C H a fp m) (_:gS K H p s) (_:eM m s) (_:∀ H',aE H H'->Q (.bl true) H')
inductive wx (vs:az) (H:Hp) (Q:VK) (_E:XK):Prop|mk (a fp m p s:_) (_:vs=[.ref a,.ref p]) (_:aV K C H a fp m) (_:gS K H p s) (_:eM m s) (_:∀ H',aE H H'->Q .cT H')
inductive wC (vs:az) (H:Hp) (Q:VK) (_E:XK):Prop|mk (a fp m:_) (_:vs=[.ref a]) (_:aV K C H a fp m) (_:∀ H',aE H H'->Q (ao m.ws) H')
inductive Ct (vs:az) (H:Hp) (Q:VK) (_E:XK):Prop|mk (a fp m:_) (b:Nat) (_:vs=[.ref a,ao b]) (_:aV K C H a fp m) (_:∀ H',aE H H'->Q (.int (m.kQ b)) H')
inductive yl (vs:az) (H:Hp) (Q:VK) (_E:XK):Prop|mk (p s:_) (_:vs=[.ref p]) (_:gS K H p s) (_:s.cI.length<=4) (_:∀ H',aE H H'->Q (ao s.held) H')
inductive BF (vs:az) (H:Hp) (Q:VK) (_E:XK):Prop|mk (a fp m:_) (o:Nat) (hp:Int) (_:vs=[.ref a,ao o,.int hp]) (_:aV K C H a fp m) (_:o<2 ^ 61) (_:∀ H',aE H H'->Q (.bl (m.Ka o hp)) H')
inductive yG (vs:az) (H:Hp) (Q:VK) (_E:XK):Prop|mk (a fp m p s:_) (_:vs=[.ref a,.ref p]) (_:aV K C H a fp m) (_:gS K H p s) (_:eM m s) (_:∀ q H',H q=none->aE H H'->H' q=some (.lst ((s.orders m).map ao))->Q (.ref q) H')
end
def Dn.bM {K:aA} (h:Dn K H (iR (some z)) v):∃ p v1,v = .ref p/\bP K H p [v1,.int z.2.1,.int z.2.2.1,.int z.2.2.2]/\Dn K H (ff z.1) v1:=by
 obtain ⟨p,x,rfl,d,t,R,rfl,c,T,i,rfl,e,f,j,rfl,E,g,r,rfl,a,b⟩:=h;have b:r=[]:=b;have e:T = .int z.2.1:=e;have E:f = .int z.2.2.1:=E;have a:g = .int z.2.2.2:=a;subst e E a b;exact ⟨p,t,rfl,d,c⟩
def CV {l:bi} {x j:Nat} (h:j<l.length):gN (l++[x]) j=gN l j:=by
 unfold gN;rw [aaG h]
def Qc {l:bi} {x:Nat}:gN (l++[x]) l.length=x:=by
 unfold gN;rw [abW (aaD _),Nat.sub_self];rfl
end L2
namespace Ord
open Bit
def UC:∀ x,x<16->∀ y,y<16->x - (x &&& y)=x ^^^ (x &&& y):=by decide +kernel
noncomputable def off (x y:Nat):Nat:=x - (x &&& y)
def xS {x y:Nat} (h:x<16) (H:y<16) (k:Nat):(off x y).testBit k=(x.testBit k && !y.testBit k):=by
 unfold off;rw [UC x h y H,Nat.testBit_xor,adm];cases x.testBit k<;>cases y.testBit k<;>rfl
def PK {x n:Nat} (h:x<2 ^ n):off x y<2 ^ n:=abj (Nat.sub_le _ _) h
def N3 {n x:Nat} (H:n<=4) (h:x<2 ^ n):x<16:=aba h (aci (by decide) H:2 ^ n<=2 ^ 4)
theorem less {w:Nat->Int} (h0:∀ r,0<=w r) {p q:Nat->Bool} (h:∀ x,p x=true->q x=true):∀ l:bi,(l.filter p).length<=(l.filter q).length/\((l.filter p).map w).sum<=((l.filter q).map w).sum
 | []=>⟨aaD _,adO _⟩
 | x::l=>by
   obtain ⟨a,b⟩:=less h0 h l;have:=h0 x;by_cases H:p x=true
   . rw [aeP H,aeP (h x H)];simp only [ab9,ab0,List.sum_cons];lia
   .
    by_cases c:q x=true
    . rw [aeQ H,aeP c];simp only [ab9,ab0,List.sum_cons];lia
    . rw [aeQ H,aeQ c];exact ⟨a,b⟩
def CJ {w:Nat->Int} (h0:∀ r,0<=w r) {a b:Nat} (h:∀ x,a.testBit x=true->b.testBit x=true):(rooms a).length<=(rooms b).length/\((rooms a).map w).sum<=((rooms b).map w).sum:=less h0 h _
structure Hd where
 n:Nat
 has:Nat->Bool
 wd:Nat->Int
 wt:Nat->Bool
 b:Nat
 most:Int
 heap:Int
def Hd.ws (h:Hd):Nat:=setOf h.n h.has
def Hd.held (h:Hd):Nat:=setOf h.n h.wt
def Hd.kQ (h:Hd) (o:Nat):Int:=((rooms (o &&& h.ws)).map h.wd).sum
def Hd.Ka (h:Hd) (o:Nat):Bool:=decide (((rooms o).length:Int)<=h.most) && decide (h.kQ o<=h.heap)
def Hd.step (h:Hd) (o r:Nat):Nat:=if h.Ka (o ||| 2 ^ r) then o ||| 2 ^ r else o
def Hd.first (h:Hd):Nat:=h.b &&& h.held
def Hd.go (h:Hd) (n:Nat):Nat:=(rooms (off (n &&& h.ws) h.held)).foldl h.step h.first
def Hd.may (h:Hd) (n r:Nat):Bool:=n.testBit r && h.has r && !h.wt r
structure Hd.Ok (h:Hd):Prop where
 n4:h.n<=4
 bx:h.b<2 ^ h.n
 sub:∀ r,h.b.testBit r=true->h.has r=true
 most:((rooms h.b).length:Int)<=h.most
 wd0:∀ r,0<=h.wd r
section
variable {h:Hd} {i r o:Nat}
structure Hd.In (h:Hd) (i o:Nat):Prop where
 sub:∀ r,o.testBit r=true->r<h.n/\h.has r=true
 held:∀ r,r<h.n->h.wt r=true->o.testBit r=h.b.testBit r
 af4:∀ r,i<=r->h.wt r=false->o.testBit r=false
def Hd.Law (h:Hd) (o:Nat):Prop:=NY h.n h.has h.wd h.wt h.b h.most h.heap o
end
end Ord
namespace L2
open PySem PySem.Spec PyProof.Rows Mth
variable {D:L2.Ends} {H:Hp} {KY a2 a3 a4 a5 a6 a7 a8 a9:TS}
def oW (x y:Nat):Builtin.bitAnd (x:Int) (Builtin.bitNot (y:Int))=((Ord.off x y:Nat):Int):=by
 have e:Builtin.bitNot (Builtin.bitNot (y:Int))=(y:Int):=by unfold Builtin.bitNot;lia
 have n:¬ (0:Int)<=Builtin.bitNot (y:Int):=by unfold Builtin.bitNot;lia
 have p:(0:Int)<=(x:Int):=acD _;unfold Builtin.bitAnd;rw [aaM p,aaL n];show (x:Int) - _=_;rw [e,acz,acz];have:=Nat.and_le_left (n:=x) (m:=y);unfold Ord.off;lia
def SX (m:aq) (s:cg):Ord.Hd:=⟨m.rows.length,m.has,m.wd,s.wt,s.bx,m.most,s.heap⟩
def cg.may (m:aq) (s:cg) (o:Nat):Nat:=Ord.setOf m.rows.length λ r=>o.testBit r && !s.bx.testBit r && decide ((gN s.failed r:Int)<m.fails r)
def cg.je (m:aq) (s:cg) (b i:Nat):Nat:=if s.bx.testBit i=b.testBit i then gN s.cI i - 1 else (m.dQ i).toNat
def cg.jG (s:cg) (b o i:Nat):Nat:=if o.testBit i then gN s.failed i+1 else if b.testBit i then 0 else gN s.failed i
def cg.jH (m:aq) (s:cg) (b:Nat):Int:=min m.eF ((s.heap:Int) - m.kQ b+m.load)
def cg.behind (m:aq) (s:cg) (bL:bi) (o O:Nat):cg :=
 ⟨bL,Ord.off o O,(List.range m.rows.length).map (s.je m (Ord.off o O)),(List.range m.rows.length).map (s.jG (Ord.off o O) O),(s.jH m (Ord.off o O)).toNat⟩
section
variable (K:aA) (C:ak)
inductive Df (vs:az) (H:Hp) (Q:VK) (_E:XK):Prop|mk (a fp m p s:_) (o:Nat) (_:vs=[.ref a,.ref p,ao o]) (_:aV K C H a fp m) (_:gS K H p s) (_:eM m s) (_:o &&& m.ws=o) (_:∀ H',aE H H'->Q (ao (s.may m o)) H')
inductive uv (vs:az) (H:Hp) (Q:VK) (_E:XK):Prop|mk (a fp m p s:_) (b i:Nat) (_:vs=[.ref a,.ref p,ao b,ao i]) (_:aV K C H a fp m) (_:gS K H p s) (_:eM m s) (_:i<m.rows.length) (_:(s.bx.testBit i≠b.testBit i->m.has i=true)) (_:0<=m.dQ i) (_:Q (ao (s.je m b i)) H)
inductive qP (vs:az) (H:Hp) (Q:VK) (_E:XK):Prop|mk (p s:_) (b out i:Nat) (_:vs=[.ref p,ao b,ao out,ao i]) (_:gS K H p s) (_:i<s.failed.length) (_:Q (ao (s.jG b out i)) H)
inductive Gm (vs:az) (H:Hp) (Q:VK) (_E:XK):Prop|mk (a fp m p s:_) (o out:Nat) (_:vs=[.ref a,.ref p,ao o,ao out]) (_:aV K C H a fp m) (_:gS K H p s) (_:eM m s) (_:(∀ i,s.bx.testBit i≠(Ord.off o out).testBit i->m.has i=true)) (_:(∀ i,0<=m.dQ i)) (_:0<=s.jH m (Ord.off o out)) (_:∀ q pw pf H',aE H H'->H' q=some (.tup [ao (Ord.off o out),.ref pw,.ref pf,ao (s.jH m (Ord.off o out)).toNat])->H' pw=some (.tup (((List.range m.rows.length).map (s.je m (Ord.off o out))).map ao))->H' pf=some (.tup (((List.range m.rows.length).map (s.jG (Ord.off o out) out)).map ao))->Q (.ref q) H')
end
def Qn {m:aq} {o:Nat} (b:m.rows.length<=4) (ok:eM m s) (c:o &&& m.ws=o) :
   Bit.sumOf ((Bit.rooms (Ord.off o s.bx)).filter λ r=>decide ((gN s.failed r:Int)<m.fails r))=s.may m o:=by
 have d:o<16:=by rw [<- c];exact abj aeX (vk b)
 have z:s.bx<16:=Ord.N3 b ok.bx;have O:o<2 ^ m.rows.length:=by rw [<- c];exact abj aeX (Ord.Di _ _)
 refine aem λ k=>?_;rw [Bit.nG,cg.may,Ord.jk];rw [adH,acu,acq,Bit.gB,Ord.xS d z];simp only [abF,acu];constructor
 .
  rintro ⟨⟨Z,h,H⟩,a⟩;refine ⟨?_,⟨h,H⟩,a⟩;by_cases q:k<m.rows.length
  . exact q
  . rw [Bit.jl O (by lia)] at h;cases h
 . rintro ⟨e,⟨h,H⟩,a⟩;exact ⟨⟨by lia,h,H⟩,a⟩
def Gy {m:aq} {o:Nat} (H:o &&& m.ws=o) (h:o.testBit r=true):r<m.rows.length/\m.has r=true:=by
 rw [<- H,adm,aq.ws,Ord.jk] at h;simp only [abF,acu] at h;exact h.2
def uA {m:aq} (h:m.has r=true):∃ z,m.lN r=some z:=adq.mp h
def BR {f:Nat->Nat} {n i:Nat} (h:i<n):gN ((List.range n).map f) i=f i:=by
 unfold gN;rw [aag,afi h];rfl
structure cD (m:aq) (s:cg) (o out:Nat):Prop where
 h4:m.rows.length<=4
 ok:eM m s
 Xa:(SX m s).Law o
 Hg:o<16
 VE:out<16
 sub:∀ r,out.testBit r=true->o.testBit r=true/\s.bx.testBit r=false/\(gN s.failed r:Int)<m.fails r
 wd0:∀ r,0<=m.wd r
 NP:∀ r,0<=m.dQ r
 acE:0<=m.eF
 RT:0<=m.load
section
variable {m:aq} {s:cg} {o out r:Nat}
def cD.bit (t:cD m s o out) (r:Nat):(Ord.off o out).testBit r=(o.testBit r && !out.testBit r):=Ord.xS t.Hg t.VE r
def cD.OG (t:cD m s o out) (h:o.testBit r=true):r<m.rows.length/\m.has r=true:=by
 have H:r<61:=by
   by_cases q:r<61
   . exact q
   . rw [Ord.Ml t.Hg (by lia)] at h;cases h
 exact t.Xa.has r (Bit.gB.mpr ⟨H,h⟩)
def cD.QT (t:cD m s o out) (h:(Ord.off o out).testBit r=true):o.testBit r=true/\out.testBit r=false:=by
 rw [t.bit] at h;simp only [abF,aeN] at h;exact h
theorem cD.has (t:cD m s o out) (h:s.bx.testBit r≠(Ord.off o out).testBit r):m.has r=true:=by
 cases a:(Ord.off o out).testBit r with
 | true=>exact (t.OG (t.QT a).1).2
 | false =>
   rw [a] at h;have H:s.bx.testBit r=true:=by cases q:s.bx.testBit r with|true=>rfl|false=>exact absurd q h
   have b:r<m.rows.length:=by
     by_cases q:r<m.rows.length
     . exact q
     . rw [Bit.jl t.ok.bx (by lia)] at H;cases H
   have:=t.ok.bM r b;unfold aq.has;cases e:m.lN r with
   | some z=>rfl
   | none=>rw [e] at this;rw [this.1] at H;cases H
def cD.lit (t:cD m s o out) (h:out.testBit r=true):gN s.cI r=0/\(Ord.off o out).testBit r=false:=by
 obtain ⟨H,a,d⟩:=t.sub r h;have b:=(t.OG H).1;constructor
 .
  by_cases w:gN s.cI r=0
  . exact w
  . have c:s.wt r=true:=aaM (by lia);have e:o.testBit r=s.bx.testBit r:=t.Xa.dQ r b c;rw [H,a] at e;cases e
 . rw [t.bit,h];simp
def cD.fits (t:cD m s o out) (i:r<m.rows.length):HN (m.lN r) ((Ord.off o out).testBit r) (s.je m (Ord.off o out) r) (s.jG (Ord.off o out) out r):=by
 have O:=t.ok.bM r i;have d:=t.NP r;cases e:m.lN r with
 | none =>
   rw [e] at O;obtain ⟨b,c,a⟩:=O;have n:m.has r=false:=by unfold aq.has;rw [e];rfl
   have H:(Ord.off o out).testBit r=false:=by
     cases q:(Ord.off o out).testBit r with
     | false=>rfl
     | true=>rw [(t.OG (t.QT q).1).2] at n;cases n
   have h:out.testBit r=false:=by
     cases q:out.testBit r with
     | false=>rfl
     | true=>rw [(t.OG (t.sub r q).1).2] at n;cases n
   refine ⟨H,?_,?_⟩
   . unfold cg.je;rw [b,H,abE rfl,c]
   . unfold cg.jG;rw [h,H,a];rfl
 | some z =>
   rw [e] at O;obtain ⟨b,c,a⟩:=O;have g:m.dQ r=z.2.2.1:=by unfold aq.dQ;rw [e];rfl
   have f:m.fails r=z.2.2.2:=by unfold aq.fails;rw [e];rfl
   refine ⟨?_,?_,?_⟩
   . unfold cg.je;split
     . lia
     . rw [ad7 d,g];exact adO _
   .
    unfold cg.jG;split
    . rename_i h
      have:=(t.sub r h).2.2;rw [f] at this;lia
    . split<;>lia
   .
    cases h:out.testBit r with
    | true =>
      obtain ⟨L,l⟩:=t.lit h;refine .inr ⟨l,?_⟩;unfold cg.je;rw [l,(t.sub r h).2.1,abE rfl,L]
    | false =>
      cases H:(Ord.off o out).testBit r with
      | true=>exact .inl (by unfold cg.jG;rw [h,H];rfl)
      | false =>
        have E:s.jG (Ord.off o out) out r=gN s.failed r:=by unfold cg.jG;rw [h,H];rfl
        rw [E];rcases a with q|⟨Q,j⟩
        . exact .inl q
        . refine .inr ⟨rfl,?_⟩;unfold cg.je;rw [Q,H,abE rfl,j]
def cD.less (t:cD m s o out):(Bit.rooms (Ord.off o out)).length<=(Bit.rooms o).length/\((Bit.rooms (Ord.off o out)).map m.wd).sum<=((Bit.rooms o).map m.wd).sum :=
 Ord.CJ t.wd0 λ Z h=>(t.QT h).1
def cD.and (t:cD m s o out):Ord.off o out &&& m.ws=Ord.off o out:=by
 refine aem λ k=>?_;rw [adm,aq.ws,Ord.jk];cases e:(Ord.off o out).testBit k with
 | false=>rfl
 | true =>
   obtain ⟨a,b⟩:=t.OG (t.QT e).1;rw [aaM a,b];rfl
theorem cD.kQ (t:cD m s o out):m.kQ (Ord.off o out)=((Bit.rooms (Ord.off o out)).map m.wd).sum:=by
 unfold aq.kQ;rw [t.and]
def cD.Me (t:cD m s o out):((Bit.rooms (Ord.off o out)).map m.wd).sum<=(s.heap:Int):=by
 have:=t.less.2;have q:((Bit.rooms o).map m.wd).sum<=(s.heap:Int):=t.Xa.kQ;lia
def cD.NA (t:cD m s o out):0<=s.jH m (Ord.off o out):=by
 have:=t.Me;have:=t.acE;have:=t.RT;unfold cg.jH;rw [t.kQ];lia
def cD.lt (t:cD m s o out):Ord.off o out<2 ^ m.rows.length:=aeD _ λ k h=>by
 cases e:(Ord.off o out).testBit k with
 | false=>rfl
 | true=>have:=(t.OG (t.QT e).1).1;lia
def cD.next (t:cD m s o out) {bL:bi} (l:bL.length=m.rows.length) (c:∀ i,i<m.rows.length->gN bL i+1<(m.rows.getD i []).length):eM m (s.behind m bL o out):=by
 have H:=t.NA;refine ⟨l,by simp [cg.behind],by simp [cg.behind],t.lt,?_,?_,c,λ i h=>?_⟩
 .
  have a:=t.less.1;have b:((Bit.rooms o).length:Int)<=m.most:=t.Xa.most;show ((Bit.rooms (Ord.off o out)).length:Int)<=m.most;lia
 .
  show (((s.jH m (Ord.off o out)).toNat:Nat):Int)<=m.eF;rw [ad7 H];unfold cg.jH;lia
 . show HN (m.lN i) ((Ord.off o out).testBit i) (gN ((List.range m.rows.length).map (s.je m (Ord.off o out))) i) (gN ((List.range m.rows.length).map (s.jG (Ord.off o out) out)) i);rw [BR h,BR h];exact t.fits h
end
abbrev Pr:=cy×cy
noncomputable def gu (D:List Pr):Int×Int:=D.foldl (λ s d=>(s.1 * (d.1.2 * d.2.2)+d.1.1 * d.2.1 * s.2,s.2 * (d.1.2 * d.2.2))) (0,1)
def vz (D:List Pr) (d:Pr):gu (D++[d])=((gu D).1 * (d.1.2 * d.2.2)+d.1.1 * d.2.1 * (gu D).2,(gu D).2 * (d.1.2 * d.2.2)):=by
 unfold gu;rw [adz];rfl
structure Aq (n k:Nat) (d:Pr):Prop where
 a:fW n d.1
 b:fW k d.2
theorem yZ (D:List Pr) (h:∀ d∈D,Aq 900 900 d):∀ j,j<=D.length->Bd (1802 * j+2) (gu (D.take j)).1/\Bd (1800 * j+1) (gu (D.take j)).2/\0<(gu (D.take j)).2
 | 0,_=>⟨by show Int.natAbs 0<_;decide,by show Int.natAbs 1<_;decide,by show (0:Int)<1;decide⟩
 | j+1,f=>by
   obtain ⟨a,b,c⟩:=yZ D h j (by lia);have H:=h D[j] (abq (by lia));have E:D.take (j+1)=D.take j++[D[j]]:=by rw [aeE,aL (by lia)];rfl
   rw [E,vz];generalize D[j]=d at H;generalize gu (D.take j)=s at a b c;have B:Bd 1800 (d.1.2 * d.2.2):=(H.a.b.mul H.b.b).mono (by decide);have e:Bd 1800 (d.1.1 * d.2.1):=(H.a.t.mul H.b.t).mono (by decide);refine ⟨?_,(b.mul B).mono (by lia),adu c (adu H.a.p H.b.p)⟩;have x:Bd (1802 * j+2+1800) (s.1 * (d.1.2 * d.2.2)):=a.mul B;have X:Bd (1802 * j+2+1800) (d.1.1 * d.2.1 * s.2):=(e.mul b).mono (by lia);exact (x.add X).mono (by lia)
def Lq {D:List Pr} (h:∀ d∈D,Aq 900 900 d):0<(gu D).2:=by
 have:=(yZ D h D.length (aaD _)).2.2;rw [abz] at this;exact this
theorem uf:∀ (es D:List Pr) {k:Nat},(∀ d∈es,Bd n (d.1.2 * d.2.2))->Bd k (gu D).2->Bd (k+n * es.length) (gu (D++es)).2
 | [],D,k,_,h=>by rw [acB];exact h.mono (by lia)
 | e::es,D,k,H,h=>by
   have E:D++e::es=(D++[e])++es:=by rw [adY];rfl
   rw [E];have a:Bd (k+n) (gu (D++[e])).2:=by
     rw [vz];exact h.mul (H e aaW)
   have:=uf es (D++[e]) (λ d b=>H d (aar _ b)) a;refine this.mono ?_;rw [ab9,Nat.mul_succ];lia
noncomputable abbrev IH (d:Pr):PyData:=.tuple [ff d.1,ff d.2]
def tZ (d:Pr):fK (IH d)=true:=by simp [IH,ff,fK]
def uR (D:List Pr):∀ e∈D.map IH,fK e=true:=λ e h=>by
 obtain ⟨d,Z,rfl⟩:=abm.mp h;exact tZ d
inductive PZ (K:aA) (vs:az) (H:Hp) (Q:VK) (_E:XK):Prop|mk (p xs ds:_) (_:vs=[.ref p]) (_:aY K H p xs) (_:bE K H (ds.map IH) xs) (_:(∀ d∈ds,Aq 900 900 d)) (_:ds.length<=10) (_:Bd 4000 (gu ds).2) (_:∀ q H',aE H H'->H' q=some (.tup [.int (nf (gu ds).1 (gu ds).2).1,.int (nf (gu ds).1 (gu ds).2).2])->Q (.ref q) H')
def fY (m:aq) (i:Nat) (e:List cy):List Pr:=(List.range e.length).map λ j=>(m.share i j,e.getD j (0,1))
def ji (m:aq) (i:Nat) (e:List cy) (w:cy) (fired:Bool):List Pr:=fY m i e++[(m.ft i,w)]++(if fired then [((1,1),((m.bw[i]?).getD none).map (·.1) |>.getD (0,1))] else [])
def pQ (m:aq) (i:Nat) (e:List cy) (w:cy) (fired:Bool):cy:=nf (gu (ji m i e w fired)).1 (gu (ji m i e w fired)).2
inductive Fs (K:aA) (C:ak) (vs:az) (H:Hp) (Q:VK) (_E:XK):Prop|mk (a fp m:_) (i:Nat) (pa R3 eT wv w fired:_) (_:vs=[.ref a,ao i,.ref pa,wv,.bl fired]) (_:aV K C H a fp m) (_:i<m.rows.length) (_:aY K H pa R3) (_:bE K H (eT.map ff) R3) (_:eT.length=m.rows.length) (_:(∀ f∈eT,fW 120 f)) (_:Dn K H (ff w) wv) (_:fW 120 w) (_:(fired=true->∃ z,m.bw[i]?=some (some z))) (_:∀ q H',aE H H'->H' q=some (.tup [.int (pQ m i eT w fired).1,.int (pQ m i eT w fired).2])->Q (.ref q) H')
def Kp {m:aq} (w:m.Wf) (h:m.rows.length<=4) (i j:Nat):fW 605 (m.share i j):=by
 unfold aq.share;split
 . exact (w.gR i _).mono (by lia)
 . exact (w.fC i j).mono (by decide)
def sF {m:aq} {i:Nat} {e:List cy} {fired:Bool} (W:m.Wf) (o:m.rows.length<=4) (L:e.length=m.rows.length) (p:∀ f∈e,fW 120 f) (hw:fW 120 w) (q:fired=true->∃ z,m.bw[i]?=some (some z)) :
   (∀ d∈ji m i e w fired,Aq 900 900 d)/\(ji m i e w fired).length<=10/\Bd 4000 (gu (ji m i e w fired)).2:=by
 have r:∀ d∈fY m i e,Aq 605 120 d:=λ d H=>by
   obtain ⟨j,c,rfl⟩:=abm.mp H;have c:=aa4.mp c;refine ⟨Kp W o i j,?_⟩;show fW 120 (e.getD j (0,1));rw [aab,aL c];exact p _ (abq c)
 have t:(fY m i e).length<=4:=by unfold fY;rw [CT,aax];lia
 have s:Aq 100 120 (m.ft i,w):=⟨W.ft i,hw⟩
 have l:Bd 1 (gu []).2:=by show Int.natAbs 1<2 ^ 1;decide
 have g:Bd (1+725 * (fY m i e).length) (gu (fY m i e)).2:=uf (n:=725) (fY m i e) [] (λ d H=>(r d H).a.b.mul (r d H).b.b) l;have B:Bd (2901+220 * 1) (gu (fY m i e++[(m.ft i,w)])).2:=uf (n:=220) [(m.ft i,w)] (fY m i e) (λ d H=>by rw [aac.mp H];exact s.a.b.mul s.b.b) (g.mono (by lia));unfold ji;cases fired with
 | false =>
   rw [abC abu,acB];refine ⟨λ d H=>?_,by rw [aae];simp only [ab9,ae5];lia,B.mono (by decide)⟩;rcases aaY.mp H with h|h
   . exact ⟨(r d h).a.mono (by decide),(r d h).b.mono (by decide)⟩
   . rw [aac.mp h];exact ⟨s.a.mono (by decide),s.b.mono (by decide)⟩
 | true =>
   obtain ⟨z,E⟩:=q rfl;rw [abE rfl,E];have O:fW 100 z.1:=W.bw z (aal E);have S:Aq 2 100 (((1,1),z.1):Pr):=⟨⟨by show Int.natAbs 1<2 ^ 2;decide,by show Int.natAbs 1<2 ^ 2;decide,by show (0:Int)<1;decide⟩,O⟩
   have k:Bd (3121+102 * 1) (gu ((fY m i e++[(m.ft i,w)])++[((1,1),z.1)])).2:=uf (n:=102) [((1,1),z.1)] _ (λ d H=>by rw [aac.mp H];exact S.a.b.mul S.b.b) B;refine ⟨λ d H=>?_,by rw [aae,aae];simp only [ab9,ae5];lia,k.mono (by decide)⟩;rcases aaY.mp H with h|h
   . rcases aaY.mp h with h|h
     . exact ⟨(r d h).a.mono (by decide),(r d h).b.mono (by decide)⟩
     . rw [aac.mp h];exact ⟨s.a.mono (by decide),s.b.mono (by decide)⟩
   . rw [aac.mp h];exact ⟨S.a.mono (by decide),S.b.mono (by decide)⟩
noncomputable def Oz (f:Nat->Int):Nat->Int
 | 0=>0
 | t+1=>Oz f t+f t
noncomputable def bO.skT (t:bO) (i:Nat):Int:=((t.uG[i]?).map (·.1)).getD 0
noncomputable def bO.flT (t:bO) (i j:Nat):Int:=if i=j then 0 else (t.fc i j).getD 0
section
variable {X:Cx}
def Zb (K:aA) (t:TA):TI:=λ b H R=>t b H λ v h=>∃ a,v=[.ref a]/\(((∃ x,aY K h a x)/\R (Hv (aY K) a) h)\/((∃ x,bP K h a x)/\R (Hv (bP K) a) h))
def Jj {a:Expr} {p:Pos} (w:Gl X "enumerate") (x:X.mg "enumerate" = none) (v:PA X [a] t) (y:autoParam (starEach [a] X.env=[(false,eval a X.env)]) za_._auto_1) :
   PI X (.Tuple E J A) (.Call (.Name "enumerate" p) [a] [] g) (Zb X.K t):=by
 intro f s M H R I h;refine Call_ ?_;refine jV I w x kZ ?_ Pf P2;refine acL ?_ y rfl;refine c9 (v g f s M H _ I h) λ U S ⟨V,n,i,C,Q⟩=>?_;obtain ⟨a,e,q⟩:=Q;subst e;cases C with
 | cons r D =>
   cases D;obtain rfl:_=Value.ref a:=r;have F:∀ c∈[S.heap.objs.size+1,S.heap.objs.size],S.heap.objs.size<=c:=λ c b=>by
     simp only [aah,aak,ack] at b;rcases b with rfl|rfl
     . exact adJ _
     . exact aaD _
   rcases q with ⟨⟨L,j⟩,q⟩|⟨⟨L,j⟩,q⟩
   . obtain ⟨B,G,d,o⟩:=i.list j;have l:a<S.heap.objs.size:=by obtain ⟨Z,e,Z⟩:=d.isList;exact abh e
     refine call_enumerate_list d.isList λ u z m N k=>ad3 z ?_;exact ⟨S.heap.objs.size+1,[S.heap.objs.size+1,S.heap.objs.size],_,_,n,rfl,i.kept (t':=S.toks) k,BH (aeV _) (abY (aeK l)) (abY l),⟨⟨_,z⟩,m⟩,λ c b=>i.wk (F c b) (i.cJ.fresh (F c b)),q⟩
   . obtain ⟨B,G,d,o⟩:=i.tuple j;have l:a<S.heap.objs.size:=d.lt;refine ut d λ u z m k=>ad3 z ?_;exact ⟨S.heap.objs.size+1,[S.heap.objs.size+1,S.heap.objs.size],_,_,n,rfl,i.kept (t':=S.toks) k,Ah (aeV _) (abY (aeK l)) (abY l),⟨⟨_,z⟩,m⟩,λ c b=>i.wk (F c b) (i.cJ.fresh (F c b)),q⟩
end
noncomputable def hU (m:aq) (bs:bi) (d:Nat):List cy:=(List.range bs.length).map λ j=>(m.rows.getD j []).getD (bs.getD j 0+d) (0,1)
noncomputable def nZ (m:aq) (i:Nat):cy×cy×cy:=(m.bK[i]?).getD ((0,1),(0,1),(0,1))
def mQ (m:aq) (i:Nat) (bs:bi) (fired:Bool):cy:=pQ m i (hU m bs 0) (nZ m i).2.1 fired
def mF (m:aq) (i:Nat) (bs:bi) (fired:Bool):cy:=pQ m i (hU m bs 1) (nZ m i).2.2 fired
inductive Lz (K:aA) (C:ak) (vs:az) (H:Hp) (Q:VK) (_E:XK):Prop|mk (a fp m:_) (i:Nat) (pb bs fired:_) (_:vs=[.ref a,ao i,.ref pb,.bl fired]) (_:aV K C H a fp m) (_:i<m.rows.length) (_:(aY K H pb (bs.map ao)\/bP K H pb (bs.map ao))) (_:bs.length=m.rows.length) (_:(∀ j,j<m.rows.length->bs.getD j 0+1<(m.rows.getD j []).length)) (_:(fired=true->∃ z,m.bw[i]?=some (some z))) (_:∀ q q1 q2 H',aE H H'->H' q=some (.tup [.ref q1,.ref q2])->H' q1=some (.tup [.int (mQ m i bs fired).1,.int (mQ m i bs fired).2])->H' q2=some (.tup [.int (mF m i bs fired).1,.int (mF m i bs fired).2])->Q (.ref q) H')
def qg {m:aq} {bs:bi} (w:m.Wf) (L:bs.length=m.rows.length) (a:∀ j,j<m.rows.length->bs.getD j 0+1<(m.rows.getD j []).length) {d:Nat} (c:d<=1):∀ f∈hU m bs d,fW 120 f:=λ f b=>by
 obtain ⟨j,h,rfl⟩:=abm.mp b;have h:=aa4.mp h;have q:=a j (by lia);have H:j<m.rows.length:=by lia
 rw [aab (l:=m.rows),aL H] at q |-;have q:bs.getD j 0+1<m.rows[j].length:=q;show fW 120 (m.rows[j].getD (bs.getD j 0+d) (0,1));rw [aab,aL (by lia)];exact (w.rows m.rows[j] (abq H) _ (abq _)).mono (by decide)
def bO.kT (t:bO) (n i j:Nat):Int:=if j=i then 12 - t.skT i - Oz (t.flT i) n else t.flT i j
def bO.X (t:bO) (n i:Nat) (x:Nat->Int) (a:Int):Int:=Oz (λ j=>t.kT n i j * x j) n+t.skT i * a
noncomputable def bO.mrk (t:bO) (j b:Nat):Int:=(t.marks.getD j []).getD b 0
def bO.xl (t:bO) (bs:bi) (d j:Nat):Int:=t.mrk j (bs.getD j 0+d)
noncomputable def bO.SN (t:bO) (i:Nat):Int×Int×Int:=(t.uG[i]?).getD (0,0,0)
noncomputable def bO.aay (t:bO) (i:Nat):Int:=(((t.bw[i]?).getD none).map (·.1)).getD 0
def bO.sX (t:bO) (n i:Nat) (bs:bi) (d:Nat) (x:Int) (fired:Bool):Int:=t.X n i (t.xl bs d) x+(if fired then 12 * t.aay i else 0)
def dR {σ:L2.St} (h:let d:L2.Ends:=D;let z:L2.St:=σ;let R:TS:=a3;let r:TS:=bh a2 R;bh a r d z H):(bh a (bh a2 (a3))) D σ H:=h
def fL {σ:L2.St} (h:let d:L2.Ends:=D;let z:L2.St:=σ;let b:TS:=a4;let R:TS:=bh a3 b;let r:TS:=bh a2 R;bh a r d z H):(bh a (bh a2 (bh a3 (a4)))) D σ H:=h
def A0 {σ:L2.St} (h:let d:L2.Ends:=D;let z:L2.St:=σ;let c:TS:=a5;let b:TS:=bh a4 c;let R:TS:=bh a3 b;let r:TS:=bh a2 R;bh a r d z H):(bh a (bh a2 (bh a3 (bh a4 (a5))))) D σ H:=h
def vV {σ:L2.St} (h:let d:L2.Ends:=D;let z:L2.St:=σ;let e:TS:=a6;let c:TS:=bh a5 e;let b:TS:=bh a4 c;let R:TS:=bh a3 b;let r:TS:=bh a2 R;bh a r d z H):(bh a (bh a2 (bh a3 (bh a4 (bh a5 (a6)))))) D σ H:=h
def Kz {σ:L2.St} (h:let d:L2.Ends:=D;let z:L2.St:=σ;let f:TS:=a7;let e:TS:=bh a6 f;let c:TS:=bh a5 e;let b:TS:=bh a4 c;let R:TS:=bh a3 b;let r:TS:=bh a2 R;bh a r d z H):(bh a (bh a2 (bh a3 (bh a4 (bh a5 (bh a6 (a7))))))) D σ H:=h
def ui {σ:L2.St} (h:let d:L2.Ends:=D;let z:L2.St:=σ;let g:TS:=a8;let f:TS:=bh a7 g;let e:TS:=bh a6 f;let c:TS:=bh a5 e;let b:TS:=bh a4 c;let R:TS:=bh a3 b;let r:TS:=bh a2 R;bh a r d z H):(bh a (bh a2 (bh a3 (bh a4 (bh a5 (bh a6 (bh a7 (a8)))))))) D σ H:=h
def IL {σ:L2.St} (h:let d:L2.Ends:=D;let z:L2.St:=σ;let i:TS:=a9;let g:TS:=bh a8 i;let f:TS:=bh a7 g;let e:TS:=bh a6 f;let c:TS:=bh a5 e;let b:TS:=bh a4 c;let R:TS:=bh a3 b;let r:TS:=bh a2 R;bh a r d z H):(bh a (bh a2 (bh a3 (bh a4 (bh a5 (bh a6 (bh a7 (bh a8 (a9))))))))) D σ H:=h
def G5 {σ:L2.St} (h:let d:L2.Ends:=D;let z:L2.St:=σ;let j:TS:=KY;let i:TS:=bh a9 j;let g:TS:=bh a8 i;let f:TS:=bh a7 g;let e:TS:=bh a6 f;let c:TS:=bh a5 e;let b:TS:=bh a4 c;let R:TS:=bh a3 b;let r:TS:=bh a2 R;bh a r d z H):(bh a (bh a2 (bh a3 (bh a4 (bh a5 (bh a6 (bh a7 (bh a8 (bh a9 (KY)))))))))) D σ H:=h
def FF {c:TS} {σ:L2.St} (h:let d:L2.Ends:=D;let z:L2.St:=σ;let e:TS:=c;let R:TS:=bh b e;let r:TS:=bh A R;let X:TS:=bh a r;let p:TS:=bh KY X;let o:TS:=bh a9 p;let n:TS:=bh a8 o;let m:TS:=bh a7 n;let l:TS:=bh a6 m;let k:TS:=bh a5 l;let j:TS:=bh a4 k;let i:TS:=bh a3 j;let g:TS:=bh a2 i;bh f g d z H):(bh f (bh a2 (bh a3 (bh a4 (bh a5 (bh a6 (bh a7 (bh a8 (bh a9 (bh KY (bh a (bh A (bh b (c)))))))))))))) D σ H:=h
@[elab_as_elim] theorem M8 {α:Type} {motive:List α->Prop} {us:List α} (h:us.length=1) (k:∀ a,motive [a]):motive us :=
 d6 h λ a _ h=>acn h ▸ k a
@[elab_as_elim] theorem sI {α:Type} {motive:List α->Prop} {us:List α} (h:us.length=2) (k:∀ a b,motive [a,b]):motive us :=
 d6 h λ a _ h=>d6 h λ b _ h=>acn h ▸ k a b
@[elab_as_elim] theorem NJ {α:Type} {motive:List α->Prop} {us:List α} (h:us.length=3) (k:∀ a b c,motive [a,b,c]):motive us :=
 d6 h λ a _ h=>d6 h λ b _ h=>d6 h λ c _ h=>acn h ▸ k a b c
@[elab_as_elim] theorem DU {α:Type} {motive:List α->Prop} {us:List α} (h:us.length=4) (k:∀ a b c d,motive [a,b,c,d]):motive us :=
 d6 h λ a _ h=>d6 h λ b _ h=>d6 h λ c _ h=>d6 h λ d _ h=>acn h ▸ k a b c d
@[elab_as_elim] theorem NZ {α:Type} {motive:List α->Prop} {us:List α} (h:us.length=5) (k:∀ a b c d e,motive [a,b,c,d,e]):motive us :=
 d6 h λ a _ h=>d6 h λ b _ h=>d6 h λ c _ h=>d6 h λ d _ h=>d6 h λ e _ h=>acn h ▸ k a b c d e
@[elab_as_elim] theorem IW {α:Type} {motive:List α->Prop} {us:List α} (h:us.length=6) (k:∀ a b c d e f,motive [a,b,c,d,e,f]):motive us :=
 d6 h λ a _ h=>d6 h λ b _ h=>d6 h λ c _ h=>d6 h λ d _ h=>d6 h λ e _ h=>d6 h λ f _ h=>acn h ▸ k a b c d e f
@[elab_as_elim] theorem Nj {α:Type} {motive:List α->Prop} {us:List α} (h:us.length=7) (k:∀ a b c d e f g,motive [a,b,c,d,e,f,g]):motive us :=
 d6 h λ a _ h=>d6 h λ b _ h=>d6 h λ c _ h=>d6 h λ d _ h=>d6 h λ e _ h=>d6 h λ f _ h=>d6 h λ g _ h=>acn h ▸ k a b c d e f g
def lc {s:Scope} (h:(match s.names.lookup x with|some .local=>true|some .cell=>true|_=>false)=true):Loc s x:=by
 unfold Loc;split at h
 . rename_i e;exact .inl e
 . rename_i e;exact .inr e
 . cases h
def cK.m {j:Nat} (r:cK k A) (h:j<=k:=by first|decide|lia):cK j A:=r.mono h
section
variable {P:aZ} {w:aU} {K:aA} {mg:cH} {base:aM} {x qual:Str} {st:Stmt} {N ps:cm} {k:Nat} {sp:Sp} {C:ak}
def hJ.dg (h:hJ K mg x st) (S:aC N ps (ap st)) (g:∀ (f:ak) (b:au) (A:Around) (outer:List Env) (s:Shared) (H:Hp) (vs:az) (Q:VK) (E:XK),cK k (A.deeper (envOfC x (ap st) s.heap.objs.size f b))->sp vs H Q E ->
     ∃ t,qy (fq Bg P w K mg base N x (ap st) f b A outer s H E).Hw (bH st) t/\t { nx:=λ Z c=>Q .cT c,rt:=Q } (start N vs) H) (len:∀ vs H Q E,sp vs H Q E->vs.length=ps.length:=by intro Z Z Z Z h;first|(cases h;subst_vars;rfl)|(obtain ⟨Z,rfl,Z⟩:=h;rfl)|(obtain ⟨Z,Z,rfl,Z⟩:=h;rfl)|(obtain ⟨Z,Z,Z,rfl,Z⟩:=h;rfl)|(obtain ⟨Z,Z,Z,Z,rfl,Z⟩:=h;rfl)|(obtain ⟨Z,Z,Z,Z,Z,rfl,Z⟩:=h;rfl)) (i:∀ (kV d p:au) (e:Option ak) (b ct:au) (us:bq),us.length=ps.length->bindArgs (W.fnOf x x (cU st) (bH st) (ap st) .none kV d p e b ct) ⟨us,[]⟩=pure (ps.zip us):=by intro Z Z Z Z Z Z us a;first|exact M8 a λ Z=>rfl|exact sI a λ Z Z=>rfl|exact NJ a λ Z Z Z=>rfl|exact DU a λ Z Z Z Z=>rfl|exact NZ a λ Z Z Z Z Z=>rfl|exact IW a λ Z Z Z Z Z Z=>rfl|exact Nj a λ Z Z Z Z Z Z Z=>rfl):Def P w K mg base x (k+1) ps sp:=h.def S len i g
def gk.iA (h:gk K C m qual st .none) (S:aC N ps (ap st)) (g:∀ (f:ak) (b:au) (A:Around) (outer:List Env) (s:Shared) (H:Hp) (vs:az) (Q:VK) (E:XK),cK k (A.deeper (envOfC qual (ap st) s.heap.objs.size f b))->sp vs H Q E ->
     ∃ t,qy (fq Bg P w K mg base N qual (ap st) f b A outer s H E).Hw (bH st) t/\t { nx:=λ Z c=>Q .cT c,rt:=Q } (start N vs) H) (len:∀ vs H Q E,sp vs H Q E->vs.length=ps.length:=by intro Z Z Z Z h;first|(cases h;subst_vars;rfl)|(obtain ⟨Z,rfl,Z⟩:=h;rfl)|(obtain ⟨Z,Z,rfl,Z⟩:=h;rfl)|(obtain ⟨Z,Z,Z,rfl,Z⟩:=h;rfl)|(obtain ⟨Z,Z,Z,Z,rfl,Z⟩:=h;rfl)|(obtain ⟨Z,Z,Z,Z,Z,rfl,Z⟩:=h;rfl)) (i:∀ (kV d p:au) (e:Option ak) (b ct:au) (us:bq),us.length=ps.length->bindArgs (W.fnOf m qual (cU st) (bH st) (ap st) .none kV d p e b ct) ⟨us,[]⟩=pure (ps.zip us):=by intro Z Z Z Z Z Z us a;first|exact M8 a λ Z=>rfl|exact sI a λ Z Z=>rfl|exact NJ a λ Z Z Z=>rfl|exact DU a λ Z Z Z Z=>rfl|exact NZ a λ Z Z Z Z Z=>rfl|exact IW a λ Z Z Z Z Z Z=>rfl|exact Nj a λ Z Z Z Z Z Z Z=>rfl):jx P w K mg base C m (k+1) ps [] sp:=h.LF S len i g
end
inductive A3 (a b c:Prop):Prop|mk (_:a) (_:b) (_:c)
inductive A4 (a b c d:Prop):Prop|mk (_:a) (_:b) (_:c) (_:d)
inductive A5 (a b c d e:Prop):Prop|mk (_:a) (_:b) (_:c) (_:d) (_:e)
inductive A6 (a b c d e f:Prop):Prop|mk (_:a) (_:b) (_:c) (_:d) (_:e) (_:f)
inductive E2 {a b:Type} (p:a->b->Prop):Prop|mk (x:a) (y:b) (_:p x y)
inductive E3 {a b c:Type} (p:a->b->c->Prop):Prop|mk (x:a) (y:b) (z:c) (_:p x y z)
inductive E4 {a b c d:Type} (p:a->b->c->d->Prop):Prop|mk (x:a) (y:b) (z:c) (u:d) (_:p x y z u)
inductive E5 {a b c d e:Type} (p:a->b->c->d->e->Prop):Prop|mk (x:a) (y:b) (z:c) (u:d) (v:e) (_:p x y z u v)
inductive E6 {a b c d e f:Type} (p:a->b->c->d->e->f->Prop):Prop|mk (x:a) (y:b) (z:c) (u:d) (v:e) (w:f) (_:p x y z u v w)
section
variable {K:aA} {H H':Hp} {s:cg} {g:Int}
def gS.ts (h:gS K H p s) (t:aS K H H'):gS K H' p s:=by
 obtain ⟨e,g,f,a,b,c,d⟩:=h;exact ⟨e,g,f,t _ _ a,t _ _ b,t _ _ c,t _ _ d⟩
end
def zq {m:aq} {s:cg} (h:m.rows.length<=4):s.may m o<16:=aba (Ord.Di _ _) (aci (by decide) h:2 ^ m.rows.length<=2 ^ 4)
def aV.Ma {K:aA} {d:Hp} {x:ak} (h:aV K C H a f m) (st:∀ b o,H b=some o->b≠x->d b=some o) (ts:aS K H d) (nx:x∉f):aV K C d a f m:=by
 obtain ⟨⟨Q,k,p,l,n,V,R,S,A,rfl,t,y,I,O,w,v,N,B,E,q,r,s,D,F⟩,G,J,L,M⟩:=h;have g:∀ {c o},H c=some o->c∈[a,Q,k,p,l,n]->d c=some o:=λ {c o} e u=>st c o e (λ z=>nx (z ▸ u));exact ⟨⟨Q,k,p,l,n,V,R,S,A,rfl,g t (by simp),g y (by simp),g I (by simp),g O (by simp),g w (by simp),g v (by simp),N,B,E,nc ts q,kj ts r,jm ts s,λ i j=>(D i j).ts ts,F⟩,G,J,L,M⟩
def bO.tch (t:bO) (i:Nat) (z lo h:Int):Prop:=0<=z/\z<((t.marks.getD i []).length:Int) - 1/\12 * t.mrk i z.toNat<=h/\lo<=12 * t.mrk i (z.toNat+1)
instance {t:bO} {i:Nat} {z lo h:Int}:Decidable (t.tch i z lo h):=by unfold bO.tch;infer_instance
def bO.s0 (t:bO) (n i:Nat) (bs:bi) (f:Bool):Int:=t.sX n i bs 0 (t.SN i).2.1 f
def bO.s1 (t:bO) (n i:Nat) (bs:bi) (f:Bool):Int:=t.sX n i bs 1 (t.SN i).2.2 f
theorem aV.some {K:aA} (h:aV K C H a f m):∀ c∈f,∃ o,H c=some o:=by
 obtain ⟨⟨Q,g,p,j,l,v,V,n,A,rfl,d,k,i,q,e,I,Z⟩,Z⟩:=h;intro c b;simp only [aah,aak,ack] at b;rcases b with rfl|rfl|rfl|rfl|rfl|rfl
 . exact ⟨_,d⟩
 . exact ⟨_,k⟩
 . exact ⟨_,i⟩
 . exact ⟨_,q⟩
 . exact ⟨_,e⟩
 . exact ⟨_,I⟩
def m6 (s:cg):PyData:=.tuple [.tuple (s.bL.map jE),jE s.bx,.tuple (s.cI.map jE),.tuple (s.failed.map jE),jE s.heap]
end L2
namespace PySem
open Sem (wp)
mutual
def kd:PyData->Bool
 | .bool _=>true
 | .int _=>true
 | .tuple d=>zJ d
 | _=>false
def zJ:List PyData->Bool
 | []=>true
 | d::D=>kd d && zJ D
end
mutual
def ud:PyData->PyData
 | .bool b => .int (if b then 1 else 0)
 | .tuple D => .tuple (nP D)
 | d=>d
def nP:List PyData->List PyData
 | []=>[]
 | d::D=>ud d::nP D
end
mutual
def wK:PyData->Nat
 | .tuple d=>wj d+1
 | _=>0
def wj:List PyData->Nat
 | []=>0
 | d::D=>max (wK d) (wj D)
end
mutual
def sO:PyData->Int
 | .int i=>hashInt i
 | .bool b=>hashInt (if b then 1 else 0)
 | .tuple d=>reduceHash (Builtin.Tuple.tupleHashOf (lX d))
 | _=>0
def lX:List PyData->List Int
 | []=>[]
 | d::D=>sO d::lX D
end
mutual
def sK:PyData->Nat
 | .tuple d=>oP d+1
 | _=>1
def oP:List PyData->Nat
 | []=>0
 | d::D=>sK d+oP D
end
mutual
theorem wS:∀ d,kd d=true->sO (ud d)=sO d
 | .bool b,_=>by simp only [ud,sO]
 | .int i,_=>by simp only [ud,sO]
 | .tuple D,h=>by simp only [ud,sO];rw [uJ D h]
 | .none,_ | .str _,_ | .list _,_ | .dict _,_=>by simp only [ud]
theorem uJ:∀ D,zJ D=true->lX (nP D)=lX D
 | [],_=>rfl
 | d::D,h=>by
   rw [zJ,abF] at h;simp only [nP,lX];rw [wS d h.1,uJ D h.2]
end
mutual
theorem xQ:∀ d,sK (ud d)=sK d
 | .bool b=>by simp only [ud,sK]
 | .tuple D=>by simp only [ud,sK];rw [vD D]
 | .int _ | .none | .str _ | .list _ | .dict _=>by simp only [ud]
theorem vD:∀ D,oP (nP D)=oP D
 | []=>rfl
 | d::D=>by
   simp only [nP,oP];rw [xQ d,vD D]
end
mutual
theorem xW:∀ (d e:PyData),kd d=true->kd e=true->(PyData.eqv d e=true↔ud d=ud e)
 | .bool a,.bool b,_,_=>by cases a<;>cases b<;>simp [PyData.eqv,ud]
 | .bool a,.int j,_,_=>by simp [PyData.eqv,ud]
 | .int i,.bool b,_,_=>by simp [PyData.eqv,ud]
 | .int i,.int j,_,_=>by simp [PyData.eqv,ud]
 | .tuple xs,.tuple ys,h,k=>by
   simp only [PyData.eqv,ud,PyData.tuple.injEq];exact zY xs ys h k
 | .bool _,.tuple _,_,_ | .int _,.tuple _,_,_ | .tuple _,.bool _,_,_ | .tuple _,.int _,_,_=>by simp [PyData.eqv,ud]
theorem zY:∀ (D es:List PyData),zJ D=true->zJ es=true->(PyData.eqvAll D es=true↔nP D=nP es)
 | [],[],_,_=>by simp [PyData.eqvAll,nP]
 | [],_::_,_,_=>by simp [PyData.eqvAll,nP]
 | _::_,[],_,_=>by simp [PyData.eqvAll,nP]
 | d::D,e::es,h,k=>by
   rw [zJ,abF] at h k;simp only [PyData.eqvAll,nP,abF,afD];rw [xW d e h.1 k.1,zY D es h.2 k.2]
end
section
variable {prog:aZ} {w:aU} {E:au->Shared->Prop}
mutual
theorem vT:∀ (d:PyData) (v:au) (as:bA) (A:Around) (s:Shared) (Q:Int->Shared->Prop),kd d=true->Reads s.heap v d as->A.units+wK d<cLine ->
   Q (sO d) { s with toks:=s.toks+sK d }->wpAny (model prog w) A (pyHash v) Q E s
 | .int i,_,_,A,s,Q,_,x,_,h=>by cases x;exact wpAny_pyHash_int h
 | .bool b,_,_,A,s,Q,_,x,e,h=>by
   cases x;refine W.pyHash_slot (T:="bool") rfl F.slot_bool_hash entry_int_hash (args_int_hash _) (beq_builtin_none _) (.inl rfl) ?_;cases b
   . exact (show wpAny _ _ (do ret (<- mkInt 0)) _ _ s from WE (wpAny_mkInt (aaU ⟨_,_,rfl,h⟩)))
   . exact (show wpAny _ _ (do ret (<- mkInt 1)) _ _ s from WE (wpAny_mkInt (aaU ⟨_,_,rfl,h⟩)))
 | .tuple D,_,_,A,s,Q,H,x,e,h=>by
   cases x with
   | @tuple a o vs n _ _ c g j k =>
     rw [wK] at e;refine W.pyHash_slot (T:="tuple") ⟨_,c,g⟩ F.slot_tuple_hash F.entry_tuple_hash (F.args_tuple_hash_1 _) (beq_builtin_none _) (.inr (by lia)) ?_;show wpAny _ _ (Builtin.Tuple.tupleItemsOf (.ref a) >>= _) _ _ s;refine WE (wpAny_tupleItemsOf c j ?_);refine WE ?_;rw [<- aeC];refine sU D vs.toList _ A.in1 s #[] _ H k (by rw [aex];lia) λ b f=>?_;show wpAny _ _ (retInt (Builtin.Tuple.tupleHashOf b.toList)) _ _ _;rw [f];exact WE (wpAny_mkInt (aaU ⟨_,_,rfl,h⟩))
 | .none,_,_,_,_,_,H,_,_,_ | .str _,_,_,_,_,_,H,_,_,_ | .list _,_,_,_,_,_,H,_,_,_ | .dict _,_,_,_,_,_,H,_,_,_=>by rw [kd] at H<;>first|cases H|nofun
theorem sU:∀ (D:List PyData) (vs:bq) (as:bA) (A:Around) (s:Shared) (b:Array Int) (Q:Array Int->Shared->Prop),zJ D=true->ReadsAll s.heap vs D as->A.units+wj D<cLine ->
   (∀ B,B.toList=b.toList++lX D->Q B { s with toks:=s.toks+oP D }) ->
   wpAny (model prog w) A (forIn vs b λ x r=>do let h <- pyHash x;pure PUnit.unit;pure (ForInStep.yield (r.push h))) Q E s
 | [],_,_,A,s,b,Q,_,x,_,h=>by cases x;exact aaU (h b (by simp [lX]))
 | d::D,_,_,A,s,b,Q,H,x,c,h=>by
   cases x with
   | cons X e =>
     rw [zJ,abF] at H;rw [wj] at c;rw [ae7];refine WE (WE (vT d _ _ A s _ H.1 X (by lia) ?_));refine WE (aaU (aaU ?_));exact sU D _ _ A { s with toks:=s.toks+sK d } _ Q H.2 e (by lia) λ B a=>by
       have:=h B (by simp [a,lX]);rw [oP,<- Nat.add_assoc] at this;exact this
end
theorem sE:∀ (n:Nat) (d:PyData) (v:au) (as:bA) (A:Around) (s:Shared) (Q:Bool->Shared->Prop),kd d=true->wK d<=n->Reads s.heap v d as->Q true s->wpAny (model prog w) A (eqIsQuiet n v) Q E s
 | n,.int i,_,_,A,s,Q,_,_,x,h=>by cases x;rw [eqIsQuiet_byValue n rfl];exact aaU h
 | n,.bool i,_,_,A,s,Q,_,_,x,h=>by cases x;rw [eqIsQuiet_byValue n rfl];exact aaU h
 | 0,.tuple D,_,_,A,s,Q,_,g,_,_=>by rw [wK] at g;lia
 | n+1,.tuple D,_,_,A,s,Q,H,g,x,h=>by
   cases x with
   | @tuple a o vs m _ _ f k t l =>
     rw [wK] at g;unfold eqIsQuiet;refine WE (wpAny_specialOf ⟨_,f,k⟩ F.slot_tuple_eq.lookup ?_);show wpAny _ _ (isInstance (.ref a) (.type "tuple") >>= _) _ _ s;refine WE (wpAny_isInstance ⟨_,f,k⟩ isSubtype_tuple_tuple ?_);simp only [afZ,adr,aeg];refine WE (aep f t ?_);refine WE ?_;show wpAny _ _ (forIn vs _ _) _ _ s;rw [<- aeC];refine wpAny_forIn_list _ (λ rest r s'=>r.1=none/\s'=s/\∃ es b,zJ es=true/\wj es<=n/\ReadsAll s.heap rest es b) _ ?_ ?_ _ _ ⟨rfl,rfl,D,_,H,by lia,l⟩
     .
      rintro v rest r s' ⟨l,rfl,es,b,c,p,q⟩;cases q with
      | @cons _ _ e es _ _ X u =>
        rw [zJ,abF] at c;rw [wj] at p;refine WE (sE n e v _ _ _ _ c.1 (by lia) X ?_);simp only [afZ,adr,aeg];exact aaU ⟨rfl,rfl,es,_,c.2,by lia,u⟩
     . rintro ⟨R,y⟩ s' ⟨j,rfl,Z⟩;have j:R=none:=j;subst j;exact aaU h
 | _,.none,_,_,_,_,_,H,_,_,_|_,.str _,_,_,_,_,_,H,_,_,_|_,.list _,_,_,_,_,_,H,_,_,_|_,.dict _,_,_,_,_,_,H,_,_,_=>by rw [kd] at H<;>first|cases H|nofun
def Ji {A:Around} {s:Shared} {Q:Bool->Shared->Prop} (r:Reads s.heap (.ref a) d as) (R:Reads s.heap (.ref b) e bs) (H:SeqAt.shaped d=true) (c:SeqAt.shaped e=true) (k:kd d=true) (K:kd e=true) (f:A.units+64<cLine)
   (h:Q (PyData.eqv d e) s):wpAny (model prog w) A (eqBool (.ref a) (.ref b)) Q E s:=by
 unfold eqBool;try with_reducible refine acT ?_
 show wpAny _ _ (if (Value.ref a == Value.ref b)=true then _ else _) Q E s;by_cases W:(Value.ref a == Value.ref b)=true
 .
  rw [abE W];have z:a=b:=by have:=eq_of_beq W;injection this
  subst z;obtain rfl:=(Reads.unique r _ _ R).1;rw [(xW d d k k).mpr rfl] at h;exact WE (wpAny_rule (aaU h))
 . rw [abC W];exact WE (show wpAny _ _ (compareOp .Eq (.ref a) (.ref b)) _ _ _ from SeqAt.compareEq_shaped r R H c f (ado h))
end
mutual
theorem oS {h h':aM} (f:∀ b o,h.get? b=some o->∀ n vs,o.data = .seq vs n->h'.get? b=some o):∀ (d:PyData) {v:au} {as:bA},kd d=true->Reads h v d as->Reads h' v d as
 | _,_,_,_,.none => .none
 | _,_,_,_,.bool b => .bool b
 | _,_,_,_,.int i t => .int i t
 | _,_,_,_,.str x t => .str x t
 | _,_,_,k,.tuple a c H e => .tuple (f _ _ a _ _ H) c H (sL f _ k e)
 | _,_,_,k,.list a c H e=>by rw [kd] at k<;>first|cases k|nofun
 | _,_,_,k,.dict a c H e g=>by rw [kd] at k<;>first|cases k|nofun
theorem sL {h h':aM} (H:∀ b o,h.get? b=some o->∀ n vs,o.data = .seq vs n->h'.get? b=some o):∀ (d:List PyData) {vs:bq} {as:bA},zJ d=true->ReadsAll h vs d as->ReadsAll h' vs d as
 | _,_,_,_,.nil => .nil
 | _,_,_,k,.cons a c => .cons (oS H _ (ac0.mp k).1 a) (sL H _ (ac0.mp k).2 c)
end
noncomputable instance:DecidableEq PyData:=λ a b=>Classical.propDecidable (a=b)
def uH (h:aM) (k:PyData) (a:ak):Prop:=∃ d as,Reads h (.ref a) d as/\kd d=true/\SeqAt.shaped d=true/\wK d<=8/\ud d=k
noncomputable def iI (prog:aZ) (w:aU):HeapKind prog w PyData where
 is:=uH
 hash:=sO
 draws:=sK
 room:=λ A=>A.units+64<cLine
 inj:=λ ⟨d,_,r,_,_,_,e⟩ ⟨D,_,R,_,_,_,i⟩=>by
   obtain rfl:=(Reads.unique r _ _ R).1;exact e.symm.trans i
 keeps:=λ {h F k a d o C B} x t p u=>by
   obtain ⟨x,as,r,K,f,g,e⟩:=x;refine ⟨x,as,oS (λ b O q m V l=>?_) x K r,K,f,g,e⟩;rw [u.2 b λ z=>?_]
   . exact q
   . subst z;rw [t] at q;cases q;rw [p] at l;cases l
 pyHash:=λ {A E s k a Q} H ⟨d,as,r,K,f,g,e⟩ h=>by
   subst e;rw [wS d K,xQ d] at h;exact vT d _ as A s Q K r (by lia) h
 eqBool:=λ {A E s x y a b Q} H ⟨d,as,r,K,f,g,e⟩ ⟨D,n,R,c,j,v,i⟩ h=>by
   subst e i;refine Ji r R f j K c H ?_;have q:PyData.eqv d D=decide (ud d=ud D):=by
     rw [adH,decide_eq_true_iff];exact xW d D K c
   rw [q];exact h
 quiet:=λ {A E s k a Q} ⟨d,as,r,K,f,g,e⟩ h=>sE 8 d _ as A s Q K g r h
end PySem
namespace L2
open PySem PySem.Spec PyProof.Rows Mth
variable {H H':Hp} {c' cur:Nat} {o:HO} {v:V}
mutual
theorem Ef:∀ d:PyData,kd d=true->fK d=true
 | .bool _,_=>by simp [fK]
 | .int _,_=>by simp [fK]
 | .tuple D,h=>mY.mpr (AD D h)
 | .none,h | .str _,h | .list _,h | .dict _,h=>by rw [kd] at h<;>first|cases h|nofun
theorem AD:∀ D:List PyData,zJ D=true->∀ d∈D,fK d=true
 | [],_,d,h=>absurd h aak
 | e::D,h,d,m=>by
   rw [zJ,abF] at h;rcases aah.mp m with z|z
   . rw [z];exact Ef e h.1
   . exact AD D h.2 d z
end
def hG (K:aA) (H:Hp) (k:PyData) (b:ak):Prop:=∃ d,Dn K H d (.ref b)/\kd d=true/\SeqAt.shaped d=true/\wK d<=8/\ud d=k
theorem hG.ts {K:aA} (s:aS K H H') (h:hG K H k b):hG K H' k b:=by
 obtain ⟨d,c,a,e,f,g⟩:=h;exact ⟨d,Dn.ts s d (Ef d a) c,a,e,f,g⟩
section
variable {X:Cx} {pins:List (ak×Obj)} {σ:St} {H:Hp} {s:Shared}
def hG.is (I:Inv X pins σ H s) (h:hG X.K H k b):uH s.heap k b:=by
 obtain ⟨d,a,c,e,f,g⟩:=h;obtain ⟨as,r⟩:=I.reads d a rfl;exact ⟨d,as,r,c,e,f,g⟩
end
abbrev pG:=List (PyData×ak×V)
abbrev XR:pG->List (PyData×ak×au)->Prop:=Paired λ p q=>p.1=q.1/\p.2.1=q.2.1/\RelV p.2.2 q.2.2
def DxP (P:aZ) (w:aU) (a:ak) (A:pG) (h:aM):Prop:=A.length<=sizeLine/\(a == sysModules)=false/\∃ x,XR A x /\
 ∃ o e E,h.get? a=some o/\o.ExactDict/\o.data = .dict e E/\e.toList=x.map (entryOfKey (iI P w))/\(x.map (·.1)).Nodup
def lJ (P:aZ) (w:aU) (a:ak) (A:pG):HO:=.ext (DxP P w a A)
def JE (x:DxP P w a A h):di P w H h a (lJ P w a A):=by
 refine ⟨x,?_,λ c d ⟨z,y,X,r,o,b,E,e,q⟩ k=>⟨z,y,X,r,o,b,E,k o e,q⟩⟩;obtain ⟨Z,Z,Z,Z,o,Z,Z,e,Z⟩:=x;exact ⟨o,e⟩
noncomputable def i5 (a:pG) (k:PyData):eO:=(a.find? λ x=>decide (x.1=k)).map (·.2.2)
noncomputable def gf (a:pG) (k:PyData) (b:ak) (v:V):pG:=if (i5 a k).isSome then a.map λ x=>if x.1=k then (x.1,x.2.1,v) else x else a++[(k,b,v)]
def vM (r:XR a xs) (k:PyData):lM (i5 a k) ((atKey xs k).map (·.2)):=by
 induction r with
 | nil=>exact True.intro
 | @cons p q d Q h t i =>
   obtain ⟨H,c,b⟩:=h;unfold i5 atKey at i |-;rw [acA,acA,H];by_cases e:q.1=k
   . rw [aaM e];exact b
   . rw [aaL e];exact i
def Jg (r:XR a xs) (k:PyData) (R:RelV v u):XR (gf a k b v) (storedH xs k b u):=by
 unfold gf storedH;have e:(i5 a k).isSome=(atKey xs k).isSome:=by rw [(vM r k).rf,afp]
 rw [e];by_cases q:(atKey xs k).isSome=true
 .
  rw [abE q,abE q];clear e q;induction r with
  | nil=>exact .nil
  | @cons p q f Q h t i =>
    refine .cons ?_ i;obtain ⟨H,c,d⟩:=h;unfold putAt;dsimp only;by_cases e:q.1=k
    . rw [abE e,abE (H.trans e)];exact ⟨H,c,R⟩
    . rw [abC e,abC (λ z=>e (H.symm.trans z))];exact ⟨H,c,d⟩
 . rw [abC q,abC q];exact aeI r ⟨rfl,rfl,R⟩
def vH (a:pG) (k:PyData) (b:ak) (v:V):(gf a k b v).length<=a.length+1:=by
 unfold gf;split<;>simp
def HV {e:PyData×ak×V} (h:e∈gf a k b v):(∃ E∈a,E.1=e.1/\E.2.1=e.2.1)\/e=(k,b,v):=by
 unfold gf at h;split at h
 . obtain ⟨x,H,rfl⟩:=abm.mp h;refine .inl ⟨x,H,?_⟩;split<;>exact ⟨rfl,rfl⟩
 . rcases aaY.mp h with z|z
   . exact .inl ⟨e,z,rfl,rfl⟩
   . exact .inr (aac.mp z)
def mq (a:pG) (k k':PyData) (b:ak) (v:V):i5 (gf a k b v) k'=if k'=k then some v else i5 a k':=by
 unfold gf;by_cases q:(i5 a k).isSome=true
 .
  rw [abE q];by_cases e:k'=k
  .
   rw [abE e];subst e;induction a with
   | nil=>simp [i5] at q
   | cons x a i =>
     unfold i5 at i q |-;rw [ab0,acA];by_cases z:x.1=k'
     . rw [abE z,aaM z];rfl
     . rw [abC z,aaL z];rw [acA,aaL z] at q;exact i q
  .
   rw [abC e];clear q;induction a with
   | nil=>rfl
   | cons x a i =>
     unfold i5 at i |-;rw [ab0,acA,acA];by_cases z:x.1=k
     . rw [abE z,aaL (λ y:x.1=k'=>e (y.symm.trans z))];exact i
     . rw [abC z];by_cases c:x.1=k'
       . rw [aaM c]
       . rw [aaL c];exact i
 .
  rw [abC q];have q:i5 a k=none:=by simpa using q
  unfold i5 at q |-;rw [List.find?_append];by_cases e:k'=k
  . rw [abE e,e];have z:(a.find? λ x=>decide (x.1=k))=none:=by simpa using q
    rw [z,acA,aaM rfl];rfl
  . rw [abC e,acA,aaL (λ y=>e y.symm),List.find?_nil,Option.or_none]
structure iQ (P:aZ) (w:aU) (K:aA) (H:Hp) (a:ak) (aD:pG):Prop where
 ob:H a=some (lJ P w a aD)
 keys:∀ e∈aD,hG K H e.1 e.2.1
def iQ.nil {K:aA} (h:H a=some (lJ P w a [])):iQ P w K H a []:=⟨h,λ Z h=>absurd h aak⟩
def iQ.dQ {K:aA} (x:iQ P w K H a aD) (ts:aS K H H') (e:H' a=H a):iQ P w K H' a aD:=⟨e.trans x.ob,λ y h=>(x.keys y h).ts ts⟩
def iQ.same {K:aA} (x:iQ P w K H a aD) (s:aE H H'):iQ P w K H' a aD:=⟨s _ _ x.ob,λ y h=>(x.keys y h).ts s.ts⟩
def iQ.put {K:aA} (x:iQ P w K H a A) (f:hG K H k b):iQ P w K (upd H a (lJ P w a (gf A k b v))) a (gf A k b v):=by
 have t:aS K H (upd H a (lJ P w a (gf A k b v))):=bW x.ob rfl;refine ⟨ag,λ e h=>?_⟩;rcases HV h with ⟨E,m,c,d⟩|rfl
 . rw [<- c,<- d];exact (x.keys E m).ts t
 . exact f.ts t
section
variable {X:Cx} {pins:List (ak×Obj)} {σ:St} {H:Hp} {s:Shared} {a b:ak} {aD:pG} {k:PyData} {v:V}
def iQ.dict (I:Inv X pins σ H s) (x:iQ X.prog X.w X.K H a aD):aD.length<=sizeLine/\(a == sysModules)=false/\∃ xs,XR aD xs/\s.heap.DictOfH (iI X.prog X.w) a xs:=by
 obtain ⟨z,y,xs,r,o,f,E,g,i,j,k,n⟩:=(show di X.prog X.w H s.heap a (lJ X.prog X.w a aD) from I.cJ a _ x.ob).1;refine ⟨z,y,xs,r,o,f,E,g,i,j,k,λ e b=>?_,n⟩;have all:∀ {l:pG} {m:List (PyData×ak×au)},XR l m->(∀ e∈l,hG X.K H e.1 e.2.1)->∀ x∈m,uH s.heap x.1 x.2.1:=by
   intro l m q;induction q with
   | nil=>intro Z x h;exact absurd h aak
   | @cons p q v Q d t u =>
     intro c x h;rcases aah.mp h with e|h
     . subst e;rw [<- d.1,<- d.2.1];exact (c p aaW).is I
     . exact u (λ e b=>c e (aar _ b)) x h
 exact all r x.keys e b
def yk {A:Around} (h:A.units+65<cLine):(iI P w).room A.in1:=by
 show A.in1.units+64<cLine;rw [aex];lia
end
def SK (P:aZ) (w:aU) (K:aA) (t ty:TE):TE:=λ c H Q=>t c H λ x d=>ty c d λ y h=>∃ a b A k v,x = .ref a/\y = .ref b/\iQ P w K h a A/\hG K h k b/\i5 A k=some v/\Q v h
inductive LL (P:aZ) (w:aU) (K:aA) (y:V) (x:V) (H:Hp) (Q:VK):Prop|mk (a b aD k:_) (_:x = .ref a) (_:y = .ref b) (_:iQ P w K H a aD) (_:hG K H k b) (_:Q (.bl (!(i5 aD k).isSome)) H)
def Uj (P:aZ) (w:aU) (K:aA) (t ty T:TE):TS:=λ D c H=>T c H λ v d=>t c d λ x e=>ty c e λ y h=>∃ a b A k,x = .ref a/\y = .ref b/\iQ P w K h a A/\hG K h k b/\A.length<sizeLine /\
 D.nx c (upd h a (lJ P w a (gf A k b v)))
def Sb (P:aZ) (w:aU):TE:=λ Z H Q=>∀ p,H p=none->Q (.ref p) (upd H p (lJ P w p []))
def cK.Nm (r:cK k A):A.units+65<cLine:=by have:=r.un;lia
section
variable {X:Cx} {o i e value:Expr} {pos pos':Pos} {td ty tv:TE} {P:aZ} {w:aU} {K:aA}
def DX (b:X.prog=P) (hw:X.w=w):PE X (.Dict [] [] pos) (Sb P w):=by
 subst b hw;exact λ p s c H Q I h=>wpAny_Dict_empty ⟨.ref s.heap.objs.size,_,I.laid (a:=s.heap.objs.size) (o:=lJ X.prog X.w s.heap.objs.size []) (t':=s.toks) (λ Z Z q=>aaJ _ q) (aaD _)
   (JE ⟨ach _,adk.mpr (aef (abY I.big)),[],.nil,_,#[],0,abX _ rfl,⟨rfl,rfl,rfl⟩,rfl,rfl,aeh⟩),rfl,h _ (I.cJ.fresh (aaD _))⟩
def tX (n:X.prog=P) (hw:X.w=w) (m:X.K=K) (J:X.A.units+65<cLine) (B:PE X o td) (q:PE X i ty) (G:VJ i):PE X (.Subscript o i pos) (SK P w K td ty):=by
 subst n hw m;intro c s e H Q I h;refine L4 PySem.F.slot_dict_getitem.lookup G (c9 (B c s e H _ I h) λ u U ⟨x,f,l,S,O⟩=>c9 (q c U e f _ l O) λ N s2 ⟨y,j,d,T,a,b,Y,k,v,ex,E,g,t,L,R⟩=>?_);subst ex E;obtain rfl:u=Value.ref a:=S;obtain rfl:N=Value.ref b:=T;obtain ⟨z,hd,V,r,D⟩:=g.dict d;refine ⟨D.typeIs,?_⟩;obtain ⟨w',hw,M⟩:=lM.some_of (v:=v) (o:=(atKey V k).map (·.2)) (by rw [<- L];exact vM r k);obtain ⟨p,C,W⟩:=ac1.mp hw;refine wpAny_getItem_heap (yk J) (t.is d) D C ?_;rw [W];exact ⟨v,j,d.tok _,M,R⟩
def wP (e:X.prog=P) (hw:X.w=w) (c:X.K=K) (j:X.A.units+65<cLine):jo X (compareOp .NotIn) (LL P w K):=by
 subst e hw c;intro p s t H x y v u Q I R m h;obtain ⟨a,b,n,k,rfl,rfl,g,i,l⟩:=h;obtain rfl:u=Value.ref a:=m;obtain rfl:v=Value.ref b:=R;obtain ⟨z,f,o,r,d⟩:=g.dict I;refine wpAny_notIn_heap (yk j) (i.is I) f d ⟨.bl _,H,I.tok _,?_,l⟩;have q:=(vM r k).rf;rw [afp] at q;rw [q];rfl
def Ee (Q:X.prog=P) (hw:X.w=w) (O:X.K=K) (Y:X.A.units+65<cLine) (W:PE X o td) (T:PE X i ty) (hv:PE X value tv) (e:swapsWith value (some (.Subscript o i pos')) pos.line X.env=pure false) :
   PS X (.Assign [.Subscript o i pos'] value pos) (Uj P w K td ty tv):=by
 subst Q hw O;intro p s c H D I h;refine wpAny_Assign_Subscript (c9 (hv p s c H _ I h) λ r s1 ⟨v,l,n,rv,q1⟩=>c9 (W p s1 c l _ n q1) λ u s2 ⟨x,m,t,rx,q2⟩=>c9 (T p s2 c m _ t q2) λ iv s3 ⟨y,H3,d,ry,a,b,f,k,ex,F,g,U,V,q3⟩=>?_) e;subst ex F;obtain rfl:u=Value.ref a:=rx;obtain rfl:iv=Value.ref b:=ry;obtain ⟨z,S,xs,R,B⟩:=g.dict d;have hz:xs.length<=sizeLine:=by rw [<- ad4 R];exact z
 have zI:(gf f k b v).length<=sizeLine:=abk (vH f k b v) V;refine wpAny_setItem_heap (hsz:=hz) (yk Y) (U.is d) B λ h' N e=>⟨c,_,?_,q3⟩
 obtain ⟨q,C,E,j,G,J,L,Z,M⟩:=N;exact yJ d (by rw [g.ob];exact True.intro) e ⟨q,j⟩ (JE ⟨zI,S,_,Jg R k rv,q,C,E,j,G,J,L,M⟩)
end
section
variable {X:Cx}
inductive acV (K:aA) (x:V) (y:V) (H:Hp) (Q:VK):Prop|mk (p xs:_) (_:x = .cT) (_:y = .ref p) (_:aY K H p xs) (_:(∀ v∈xs,v = .cT\/∃ a ys,v = .ref a/\aY K H a ys)) (_:Q (.bl (decide (V.cT∈xs))) H)
theorem HC (I:Inv X p σ H s) (c:X.A.units+1<cLine):∀ {xs:az} {B:bq},Vals xs B->(∀ v∈xs,v = .cT\/∃ a ys,v = .ref a/\aY X.K H a ys) ->
   (∀ u∈B,SeqAt.EqAt X.A.in1 s u .none (u == Value.none))/\(B.any λ u=>u == Value.none)=decide (V.cT∈xs)
 | _,_,.nil,_=>⟨λ Z h=>absurd h aak,rfl⟩
 | x::xs,u::B,.cons r t,h=>by
   obtain ⟨i,g⟩:=HC I c t λ v f=>h v (aar _ f);rcases h x aaW with rfl|⟨a,ys,rfl,d⟩
   .
    obtain rfl:u=Value.none:=r;refine ⟨λ w b=>?_,?_⟩
    . rcases aah.mp b with e|b
      . rw [e];exact SeqAt.EqAt.same _
      . exact i w b
    . rw [aeR,aaM (show V.cT∈V.cT::xs from aaW)];rfl
   .
    obtain rfl:u=Value.ref a:=r;obtain ⟨j,Z,k,Z⟩:=I.list d;refine ⟨λ w b=>?_,?_⟩
    . rcases aah.mp b with e|b
      . rw [e];exact SeqAt.EqAt.list_none k.isList (by rw [aex];exact c)
      . exact i w b
    . rw [aeR,g];have e:(V.cT∈V.ref a::xs)↔V.cT∈xs:=by simp
      rw [show (Value.ref a == Value.none)=false from rfl,Bool.false_or];exact (aeS.mpr e).symm
def Qz (f:X.A.units+1<cLine):jo X (compareOp .In) (acV X.K):=by
 intro a s n H x y v u Q I R k h;obtain ⟨p,m,rfl,rfl,e,i,q⟩:=h;obtain rfl:u=Value.ref p:=k;obtain rfl:v=Value.none:=R;obtain ⟨b,r,j,l⟩:=I.list e;obtain ⟨c,d⟩:=HC I f r i;refine SeqAt.in_listAt (λ u=>u == Value.none) j.isList (λ w g=>c w (by simpa using g)) ⟨.bl _,H,I,rfl,?_⟩;rw [show (b.toArray.any λ u=>u == Value.none)=(b.any λ u=>u == Value.none) by simp,d];exact q
inductive Fm (K:aA) (x:V) (y:V) (H:Hp) (Q:VK):Prop|mk (a b xs ys:_) (_:x = .ref a) (_:y = .ref b) (_:bP K H a xs) (_:bP K H b ys) (_:xs.length+ys.length<=sizeLine) (_:∀ q H',aE H H'->bP K H' q (xs++ys)->Q (.ref q) H')
def gQ:jo X (binaryOp .Add) (Fm X.K):=by
 intro d s M H x y v u Q I r R h;obtain ⟨a,b,o,Y,rfl,rfl,f,g,A,q⟩:=h;by_cases i:o=[]
 .
  cases r;cases R;obtain ⟨B,J,F,Z⟩:=I.tuple f;obtain ⟨C,T,G,Z⟩:=I.tuple g;obtain ⟨⟨cls,w,data,sl⟩,m,k,n,l⟩:=id F;obtain ⟨⟨S,t,D,L⟩,j,O,N,c⟩:=id G;simp only at k l O c;subst k l O c;have E:B=[]:=J.ub.mpr i;refine concat_meets ⟨_,m,rfl⟩ ⟨_,j,rfl⟩ afV seq_tuple_add aeZ aeO (aeH _ _)
    (tuple_addW0 a b B.toArray C.toArray n N w t sl L (by rw [E];rfl)) ⟨m,j,⟨.ref b,H,I,rfl,q b H (aE.refl _) (by rw [i];exact g)⟩⟩
 . exact MY d s M H _ _ v u Q I r R ⟨a,b,o,Y,rfl,rfl,f,g,i,A,λ e=>q a H (aE.refl _) (by rw [e,acB];exact f),λ Z p z=>q p _ (al z) (bP.of ag)⟩
def vy {K:aA} (h:X.K=K):jo X (binaryOp .Add) (Fm K):=by subst h;exact gQ
end
abbrev rfs (h d:ak):List (Str×V):=[("hold",.ref h),("spreads",.ref d)]
def dZ (m:aq) (i:Nat) (bs:bi) (fired:Bool):Option (bi) :=
 if nu (m.rows.getD i []) (mQ m i bs fired) (mF m i bs fired)=true then some (rY (m.rows.getD i []) (mQ m i bs fired) (mF m i bs fired)) else none
def fG (L:bA) (H:Hp) (v:V):Option (bi)->Prop
 | none=>v = .cT
 | some l=>∃ q,v = .ref q/\q∉L/\H q=some (.lst (l.map ao))
def lL (i:Nat) (bs:bi) (f:Bool):PyData:=.tuple [.int i,.tuple (bs.map jE),.int (if f then 1 else 0)]
theorem vw:∀ l:bi,zJ (l.map jE)=true
 | []=>rfl
 | _::l=>by rw [ab0,zJ,vw l];rfl
theorem sd:∀ l:bi,nP (l.map jE)=l.map jE
 | []=>rfl
 | _::l=>by rw [ab0,nP,sd l];rfl
theorem rN:∀ l:bi,wj (l.map jE)=0
 | []=>rfl
 | _::l=>by rw [ab0,wj,rN l];rfl
theorem lT:∀ {l r:bi},l.map jE=r.map jE->l=r
 | [],[],_=>rfl
 | [],_::_,h=>by cases h
 | _::_,[],h=>by cases h
 | a::l,b::r,h=>by
   obtain ⟨H,c⟩:=adN h;have H:(a:Int)=(b:Int):=ae0 H;rw [lT c,afl H]
def HW (h:lL i bs f=lL I R F):i=I/\bs=R/\f=F:=by
 have h:=aed h;obtain ⟨H,h⟩:=adN h;obtain ⟨a,h⟩:=adN h;obtain ⟨b,Z⟩:=adN h;refine ⟨afl (ae0 H),lT (aed a),?_⟩;cases f<;>cases F<;>first|rfl|(exact absurd (ae0 b) (by decide))
def pN {n:Nat} {l:bi}:Ht (n+1) (.tuple (l.map jE)):=by
 intro d h;obtain ⟨i,Z,rfl⟩:=abm.mp h;cases n<;>exact trivial
section
variable {K:aA} {H H':Hp}
def qh {l:bi} (h:bP K H p (l.map ao)):Dn K H (.tuple (l.map jE)) (.ref p):=iU h (uw l)
def DJ {bs:bi} (h:bP K H p [ao i,.ref b,.bl f]) (c:bP K H b (bs.map ao)):hG K H (lL i bs f) p:=by
 refine ⟨.tuple [.int i,.tuple (bs.map jE),.bool f],iU h (bD rfl (bD (qh c) (bD rfl ed))),?_,ii (n:=2) ?_ (by decide),?_,?_⟩
 . simp only [kd,zJ,vw];rfl
 .
  intro d a;simp only [aah,aak,ack] at a;rcases a with rfl|rfl|rfl
  . exact trivial
  . exact pN
  . exact trivial
 . simp only [wK,wj,rN];decide
 . simp only [ud,nP,sd];rfl
def fG.but {L L':bA} (g:H d=some o) (N:∀ xs,o ≠ .lst xs) (b:∀ c u,H c=some u->c≠d->c∉L->H' c=some u) (f:∀ c∈L',c∈L) (h:fG L H v r):fG L' H' v r:=by
 cases r with
 | none=>exact h
 | some l =>
   obtain ⟨q,e,n,a⟩:=h;exact ⟨q,e,λ z=>n (f q z),b q _ a (λ z=>by rw [z,g] at a;exact N _ (aaO a)) n⟩
def fG.same (s:aE H H') (h:fG L H v r):fG L H' v r:=by
 cases r with
 | none=>exact h
 | some l =>
   obtain ⟨q,e,n,a⟩:=h;exact ⟨q,e,n,s _ _ a⟩
def fG.new (b:H D=none) (h:fG L H v r):fG (D::L) H v r:=by
 cases r with
 | none=>exact h
 | some l =>
   obtain ⟨q,e,n,a⟩:=h;exact ⟨q,e,λ z=>(aah.mp z).elim (λ z=>by rw [z,b] at a;cases a) n,a⟩
end
def oX (xs:az):lJ P w a A ≠ .lst xs:=λ h=>by cases h
structure eU (P:aZ) (w:aU) (K:aA) (C CR:ak) (L:bA) (H:Hp) (x d a:ak) (fp:bA) (m:aq) (c:Nat):Prop where
 ins:∃ dx,H x=some (.ins CR dx (rfs a d))
 hold:aV K C H a fp m
 nd:d∉fp
 O9:∃ aD,iQ P w K H d aD/\aD.length<=c/\∀ i bs f v,i5 aD (lL i bs f)=some v->fG L H v (dZ m i bs f)
section
variable {P:aZ} {w:aU} {K:aA} {C CR:ak} {L L':bA} {H H':Hp} {x d a:ak} {fp:bA} {m:aq} {c:Nat}
theorem eU.same (r:eU P w K C CR L H x d a fp m c) (s:aE H H'):eU P w K C CR L H' x d a fp m c:=by
 obtain ⟨⟨D,l⟩,h,n,A,g,j,k⟩:=r;exact ⟨⟨D,s _ _ l⟩,h.same s,n,A,g.same s,j,λ i b f v e=>(k i b f v e).same s⟩
def eU.more (r:eU P w K C CR L H x d a fp m c) (h:c<=c'):eU P w K C CR L H x d a fp m c':=by
 obtain ⟨i,b,n,A,e,f,g⟩:=r;exact ⟨i,b,n,A,e,abk f h,g⟩
def eU.less (r:eU P w K C CR L H x d a fp m c) (h:∀ b∈L',b∈L):eU P w K C CR L' H x d a fp m c:=by
 obtain ⟨i,j,n,A,g,k,l⟩:=r;exact ⟨i,j,n,A,g,k,λ i B f v e=>(l i B f v e).but g.ob oX (λ Z Z e Z Z=>e) h⟩
theorem eU.new (r:eU P w K C CR L H x d a fp m c) (h:H D=none):eU P w K C CR (D::L) H x d a fp m c:=by
 obtain ⟨i,g,n,A,j,k,l⟩:=r;exact ⟨i,g,n,A,j,k,λ i b f v e=>(l i b f v e).new h⟩
def eU.write (r:eU P w K C CR L H x d a fp m c) (h:H D=some (.lst xs)) (p:D∈L) (nf:D∉fp):eU P w K C CR L (upd H D (.lst ys)) x d a fp m c:=by
 obtain ⟨⟨l,j⟩,q,y,A,g,s,u⟩:=r;have t:aS K H (upd H D (.lst ys)):=bW h rfl;have B:∀ b o,H b=some o->b≠D->(upd H D (.lst ys)) b=some o:=λ b o e n=>by rw [av n];exact e
 have nx:x≠D:=λ z=>by rw [z,h] at j;cases j
 have N:d≠D:=λ z=>by have:=g.ob;rw [z,h] at this;cases this
 exact ⟨⟨l,B _ _ j nx⟩,q.Ma B t nf,y,A,g.dQ t (av N),s,λ i k f v e=>(u i k f v e).but g.ob oX (λ b o e Z n=>B b o e λ z=>n (z ▸ p)) λ Z h=>h⟩
theorem eU.put (r:eU P w K C CR L H x d a fp m c) {i:Nat} (g:iQ P w K H d A) (u:A.length<=c) (y:∀ i bs f v,i5 A (lL i bs f)=some v->fG L H v (dZ m i bs f)) (p:hG K H (lL i bs f) b) (l:fG L H v (dZ m i bs f)) :
   eU P w K C CR L (upd H d (lJ P w d (gf A (lL i bs f) b v))) x d a fp m (c+1)/\gU [d] H (upd H d (lJ P w d (gf A (lL i bs f) b v)))/\aS K H (upd H d (lJ P w d (gf A (lL i bs f) b v)))/\fG L (upd H d (lJ P w d (gf A (lL i bs f) b v))) v (dZ m i bs f):=by
 obtain ⟨⟨D,k⟩,s,N,Z⟩:=r;have B:∀ j o,H j=some o->j≠d->(upd H d (lJ P w d (gf A (lL i bs f) b v))) j=some o:=λ c o e n=>by rw [av n];exact e
 have t:aS K H (upd H d (lJ P w d (gf A (lL i bs f) b v))):=bW g.ob rfl;have nx:x≠d:=λ z=>by rw [z,g.ob] at k;cases k
 refine ⟨⟨⟨D,by rw [av nx];exact k⟩,s.Ma B t N,N,_,g.put p,abk (vH ..) (adQ u),λ I R F V e=>?_⟩,λ c o e n=>B c o e λ z=>n (aac.mpr z),t,l.but g.ob oX (λ c o e n Z=>B c o e n) λ Z h=>h⟩;rw [mq] at e;by_cases q:lL I R F=lL i bs f
 .
  rw [abE q] at e;obtain ⟨rfl,rfl,rfl⟩:=HW q;cases e;exact l.but g.ob oX (λ c o e n Z=>B c o e n) λ Z h=>h
 . rw [abC q] at e;exact (y I R F V e).but g.ob oX (λ c o e n Z=>B c o e n) λ Z h=>h
end
def bF (rows:List (bi)):List (bi):=rows.foldl (λ C r=>C.flatMap λ c=>r.map λ b=>c++[b]) [[]]
def jj (rows:List (bi)) (r:bi):bF (rows++[r])=(bF rows).flatMap λ c=>r.map λ b=>c++[b]:=by
 unfold bF;rw [adz];rfl
theorem fR {b c:Type} {k:Nat} {f:b->List c}:∀ {l:List b},(∀ a,(f a).length<=k)->(l.flatMap f).length<=l.length * k
 | [],_=>by simp
 | a::l,h=>by
   rw [afq,aae,ab9,Nat.succ_mul];have:=fR (l:=l) h;have:=h a;lia
theorem jQ {rows:List (bi)} (h:∀ r∈rows,r.length<=6):∀ i,(bF (rows.take i)).length<=6 ^ i
 | 0=>by rw [afM];decide
 | i+1=>by
   by_cases H:i<rows.length
   . rw [List.take_succ_eq_append_getElem H,jj];refine abk (fR (k:=6) λ a=>by rw [CT];exact h _ (abq H)) ?_;rw [aez];exact adF 6 (jQ h i)
   . have e:rows.take (i+1)=rows.take i:=by rw [ac2 (by lia),ac2 (by lia)]
     rw [e,aez];have:=jQ h i;lia
def snoc_ind {b:Type} {p:List b->Prop} (h0:p []) (h:∀ l a,p l->p (l++[a])) (l:List b):p l:=by
 rw [<- List.reverse_reverse l];induction l.reverse with
 | nil=>exact h0
 | cons a r i=>rw [List.reverse_cons];exact h _ _ i
def iC:∀ {c:bi},c∈bF rows↔c.length=rows.length/\∀ i,i<rows.length->c.getD i 0∈rows.getD i []:=by
 refine snoc_ind (p:=λ rows=>∀ {c:bi},c∈bF rows↔c.length=rows.length/\∀ i,i<rows.length->c.getD i 0∈rows.getD i []) ?_ ?_ rows
 .
  intro c;constructor
  . intro h;have:c=[]:=by simpa [bF] using h
    rw [this];exact ⟨rfl,λ i h=>absurd h (adg _)⟩
  . rintro ⟨h,Z⟩;rw [adL.mp h];simp [bF]
 .
  intro rows r I c;rw [jj,ads];constructor
  .
   rintro ⟨a,d,h⟩;obtain ⟨b,f,rfl⟩:=abm.mp h;obtain ⟨l,H⟩:=I.mp d;refine ⟨by rw [aae,aae,l];rfl,λ i h=>?_⟩;rw [aae,aa3] at h;by_cases e:i<rows.length
   . rw [aab,aab,aaG (l₁:=a) (by lia),aaG e];have:=H i e;rw [aab,aab] at this;exact this
   . have e:i=rows.length:=by lia
     subst e;rw [aab,aab,<- l,ab1,l,ab1];exact f
  .
   rintro ⟨l,H⟩;rw [aae,aa3] at l H;have n:c≠[]:=λ z=>by rw [z] at l;simp at l
   refine ⟨c.dropLast,I.mpr ⟨by rw [List.length_dropLast,l];rfl,λ i h=>?_⟩,abm.mpr ⟨c.getLast n,?_,List.dropLast_concat_getLast n⟩⟩
   . have:=H i (by lia);rw [aab,aab,aaG h] at this;rw [aab,aab,List.getElem?_dropLast,abE (by lia)];exact this
   .
    have:=H rows.length (by lia);rw [aab,aab,ab1] at this;rw [List.getLast_eq_getElem];rw [Vo (by lia)] at this;have e:c.length - 1=rows.length:=by lia
    simp only [e];exact this
inductive A7 (a b c d e f g:Prop):Prop|mk (_:a) (_:b) (_:c) (_:d) (_:e) (_:f) (_:g)
inductive A8 (a b c d e f g h:Prop):Prop|mk (_:a) (_:b) (_:c) (_:d) (_:e) (_:f) (_:g) (_:h)
def sx (m:aq) (s:cg) (b i:Nat):Option (bi):=dZ m i s.bL (b.testBit i)
def jK (m:aq) (s:cg) (b:Nat):Bool:=(List.range m.rows.length).all λ i=>(sx m s b i).isSome
def fy (m:aq) (s:cg) (b:Nat):List (bi):=(List.range m.rows.length).map λ i=>(sx m s b i).getD []
def gF (m:aq) (s:cg) (o O:Nat):List cg:=(bF (fy m s (Ord.off o O))).map λ c=>s.behind m c o O
def dO (m:aq) (s:cg) (o:Nat):bi:=Bit.parts (Bit.rooms (s.may m o))
def mm (m:aq) (s:cg) (o:Nat):List cg:=(dO m s o).flatMap (gF m s o)
def Refs {b:Type} (R:ak->b->Prop) (xs:az) (l:List b):Prop:=Paired (λ v a=>∃ p,v = .ref p/\R p a) xs l
def Refs.imp {b:Type} {R S:ak->b->Prop} {xs:az} {l:List b} (h:Refs R xs l) (f:∀ p a,R p a->S p a):Refs S xs l:=Paired.ym h λ Z Z ⟨p,e,r⟩=>⟨p,e,f p _ r⟩
theorem Refs.nil {a:Type} {R:ak->a->Prop}:Refs R [] ([]:List a):=Paired.nil
def Refs.snoc {b:Type} {R:ak->b->Prop} {xs:az} {l:List b} {p:ak} {a:b} (h:Refs R xs l) (r:R p a):Refs R (xs++[.ref p]) (l++[a]):=aeI h ⟨p,rfl,r⟩
theorem Refs.append {b:Type} {R:ak->b->Prop}:∀ {xs ys:az} {l r:List b},Refs R xs l->Refs R ys r->Refs R (xs++ys) (l++r)
 | _,_,_,_,Paired.nil,h=>h
 | _,_,_,_,Paired.cons a t,h=>Paired.cons a (Refs.append t h)
theorem Refs.length {a:Type} {R:ak->a->Prop} {xs:az} {l:List a} (h:Refs R xs l):xs.length=l.length:=ad4 h
theorem Refs.get {b:Type} {R:ak->b->Prop}:∀ {xs:az} {l:List b} {i:Nat} {v:V},Refs R xs l->xs[i]?=some v->∃ p a,v = .ref p/\l[i]?=some a/\R p a
 | _,_,_,_,Paired.nil,h=>by simp at h
 | _,_,0,_,Paired.cons ⟨p,e,r⟩ _,h=>by simp at h;exact ⟨p,_,by rw [<- h,e],rfl,r⟩
 | _,_,i+1,_,Paired.cons _ t,h=>by
   obtain ⟨p,a,H,c,d⟩:=Refs.get (i:=i) t (by simpa using h);exact ⟨p,a,H,by simpa using c,d⟩
abbrev MO (K:aA) (H:Hp):az->List (bi)->Prop:=Refs λ t c=>bP K H t (c.map ao)
abbrev lG (K:aA) (H:Hp):az->List cg->Prop:=Refs (gS K H)
def Pd (m:aq) (s:cg):Prop:=∀ i b,i<m.rows.length->(b=true->m.has i=true)->fW 20000 (mQ m i s.bL b)/\fW 20000 (mF m i s.bL b)
section
variable (P:aZ) (w:aU) (K:aA) (C CR:ak)
inductive GA (vs:az) (H:Hp) (Q:VK) (_E:XK):Prop|mk (p1 p2 a b c d:_) (_:vs=[.ref p1,.ref p2]) (_:bP K H p1 [.int a,.int b]) (_:bP K H p2 [.int c,.int d]) (_:Bd 20000 a) (_:Bd 20000 b) (_:Bd 20000 c) (_:Bd 20000 d) (_:Q (.bl (decide (a * d<c * b))) H)
inductive CB (vs:az) (H:Hp) (Q:VK) (_E:XK):Prop|mk (a fp m:_) (i:Nat) (r v1 v2 f g:_) (_:vs=[.ref a,ao i,v1,v2]) (_:aV K C H a fp m) (_:m.rows[i]?=some r) (_:Dn K H (ff f) v1) (_:Dn K H (ff g) v2) (_:fW 20000 f) (_:fW 20000 g) (_:∀ H',aE H H'->Q (.bl (nu r f g)) H')
inductive He (vs:az) (H:Hp) (Q:VK) (_E:XK):Prop|mk (a fp m:_) (i:Nat) (r v1 v2 f g:_) (_:vs=[.ref a,ao i,v1,v2]) (_:aV K C H a fp m) (_:m.rows[i]?=some r) (_:Dn K H (ff f) v1) (_:Dn K H (ff g) v2) (_:fW 20000 f) (_:fW 20000 g) (_:∀ p H',H p=none->aE H H'->H' p=some (.lst ((rY r f g).map ao))->Q (.ref p) H')
inductive Dk (vs:az) (H:Hp) (Q:VK) (_E:XK):Prop|mk (p xs rows:_) (_:vs=[.ref p]) (_:aY K H p xs) (_:Refs (λ q (r:bi)=>aY K H q (r.map ao)) xs rows) (_:rows.length<=4) (_:(∀ r∈rows,r.length<=6)) (_:∀ q ys H',aE H H'->H' q=some (.lst ys)->MO K H' ys (bF rows)->Q (.ref q) H')
inductive Fq (vs:az) (H:Hp) (Q:VK) (_E:XK):Prop|mk (x dx a fp m:_) (_:vs=[.ref x,.ref a]) (_:H x=some (.ins CR dx [])) (_:aV K C H a fp m) (_:x∉fp) (_:∀ d H',gU [x] H H'->aS K H H'->H d=none->eU P w K C CR [] H' x d a fp m 0->Q .cT H')
inductive GX (vs:az) (H:Hp) (Q:VK) (_E:XK):Prop|mk (x d a fp m c:_) (i:Nat) (pb bs f L:_) (_:vs=[.ref x,ao i,.ref pb,.bl f]) (_:eU P w K C CR L H x d a fp m c) (_:(∀ b∈L,H b≠none)) (_:c<=16000000) (_:i<m.rows.length) (_:bP K H pb (bs.map ao)) (_:bs.length=m.rows.length) (_:(∀ j,j<m.rows.length->bs.getD j 0+1<(m.rows.getD j []).length)) (_:(f=true->∃ z,m.bw[i]?=some (some z))) (_:fW 20000 (mQ m i bs f)) (_:fW 20000 (mF m i bs f)) (_:∀ v H',gU [d] H H'->aS K H H'->eU P w K C CR L H' x d a fp m (c+1)->fG L H' v (dZ m i bs f)->Q v H')
inductive Ge (vs:az) (H:Hp) (Q:VK) (_E:XK):Prop|mk (x d a fp m c p s:_) (o:Nat) (L:_) (_:vs=[.ref x,.ref p,ao o]) (_:eU P w K C CR L H x d a fp m c) (_:(∀ b∈L,H b≠none)) (_:c<=15000000) (_:gS K H p s) (_:eM m s) (_:o &&& m.ws=o) (_:(∀ out∈dO m s o,cD m s o out)) (_:Pd m s) (_:((∃ out∈dO m s o,jK m s (Ord.off o out)=false)->∀ H',gU [d] H H'->aS K H H'->eU P w K C CR L H' x d a fp m (c+64)->Q .cT H')) (_:((∀ out∈dO m s o,jK m s (Ord.off o out)=true)->∀ q xs H',H q=none->gU [d] H H'->aS K H H'->eU P w K C CR L H' x d a fp m (c+64)->H' q=some (.lst xs)->lG K H' xs (mm m s o)->Q (.ref q) H'))
end
theorem EQ:∀ {acc:az} {R:List (Option (bi))},Paired (fG L H) acc R->∀ v∈acc,v = .cT\/∃ a ys,v = .ref a/\H a=some (.lst ys)
 | _,_,Paired.nil,v,h=>absurd h aak
 | _,r::_,Paired.cons a t,v,h=>by
   rcases aah.mp h with e|h
   . subst e;cases r with
     | none=>exact .inl a
     | some l=>obtain ⟨q,e,Z,b⟩:=a;exact .inr ⟨q,_,e,b⟩
   . exact EQ t v h
theorem uQ:∀ {acc:az} {R:List (Option (bi))},Paired (fG L H) acc R->(V.cT∈acc↔none∈R)
 | _,_,Paired.nil=>by simp
 | _,r::_,Paired.cons a t=>by
   rw [aah,aah,uQ t];cases r with
   | none=>have a:_=V.cT:=a;rw [a];simp
   | some l=>obtain ⟨q,e,Z⟩:=a;rw [e];simp
theorem Au:∀ {acc:az} {R:List (Option (bi))},Paired (fG L H) acc R->none∉R->Refs (λ q (r:bi)=>H q=some (.lst (r.map ao))) acc (R.map λ r=>r.getD [])
 | _,_,Paired.nil,_=>Paired.nil
 | _,r::_,Paired.cons a t,h=>by
   rw [aah,adE] at h;cases r with
   | none=>exact absurd rfl h.1
   | some l=>obtain ⟨q,e,Z,b⟩:=a;exact Paired.cons ⟨q,e,b⟩ (Au t h.2)
def xc {m:aq}:none∈(List.range m.rows.length).map (sx m s b)↔jK m s b=false:=by
 unfold jK;rw [List.all_eq_false,abm];constructor
 . rintro ⟨i,h,e⟩;exact ⟨i,h,by rw [e];decide⟩
 . rintro ⟨i,h,e⟩;exact ⟨i,h,by simpa using e⟩
def Mv (m:aq) (s:cg) (b:Nat):((List.range m.rows.length).map (sx m s b)).map (λ r=>r.getD [])=fy m s b:=by
 unfold fy;rw [adX];rfl
def BX {m:aq} (w:m.Wf):∀ r∈fy m s b,r.length<=6:=λ r H=>by
 obtain ⟨i,h,rfl⟩:=abm.mp H;have h:=aa4.mp h;have a:=w.len _ (abq h);unfold sx dZ;rw [aab,aL h];split
 .
  have:=mV m.rows[i] (mQ m i s.bL (b.testBit i)) (mF m i s.bL (b.testBit i)) (m.rows[i].length - 1);show (rY m.rows[i] _ _).length<=6;unfold rY;lia
 . exact ach _
def kK {m:aq} (w:m.Wf) (h:m.rows.length<=4) {s:cg} {o:Nat} (O:Nat):(gF m s o O).length<=1296:=by
 unfold gF;rw [CT];have l:(fy m s (Ord.off o O)).length=m.rows.length:=by unfold fy;rw [CT,aax]
 have:=jQ (BX w (s:=s) (b:=Ord.off o O)) 4;rw [ac2 (by lia)] at this;exact this
def pT {n:Nat} (h:n<16):(Bit.rooms n).length<=8/\(Bit.parts (Bit.rooms n)).length<=16:=by
 have:∀ b:Fin 16,(Bit.rooms b.val).length<=8/\(Bit.parts (Bit.rooms b.val)).length<=16:=by decide +kernel
 exact this ⟨n,h⟩
def jn {K:aA} (h:gS K H p s):hG K H (m6 s) p:=by
 obtain ⟨g,j,i,b,c,e,f⟩:=h;refine ⟨m6 s,iU b (bD (qh c) (bD rfl (bD (qh e) (bD (qh f) (bD rfl ed))))),?_,ii (n:=2) ?_ (by decide),?_,?_⟩
 . simp only [m6,kd,zJ,vw];rfl
 .
  intro d a;simp only [aah,aak,ack] at a;rcases a with rfl|rfl|rfl|rfl|rfl
  . exact pN
  . exact trivial
  . exact pN
  . exact pN
  . exact trivial
 . simp only [m6,wK,wj,rN,jE];decide
 . simp only [m6,ud,nP,sd];rfl
def rq {n:Nat} (h:n<16):Bit.parts (Bit.rooms n)≠[]/\∀ o∈Bit.parts (Bit.rooms n),o<16/\o &&& n=o:=by
 have:∀ b:Fin 16,Bit.parts (Bit.rooms b.val)≠[]/\∀ o∈Bit.parts (Bit.rooms b.val),o<16/\o &&& b.val=o:=by decide +kernel
 exact this ⟨n,h⟩
def ME {m:aq} (w:m.Wf) (h:m.rows.length<=4) (s:cg) (o:Nat):(mm m s o).length<=16 * 1296:=by
 unfold mm;have:=fR (l:=dO m s o) (k:=1296) (kK w h (s:=s) (o:=o));have H:(dO m s o).length<=16:=(pT (zq (s:=s) (o:=o) h)).2;lia
def jY (m:aq) (s:cg) (o:Nat):Option (List cg):=if (dO m s o).all (λ O=>jK m s (Ord.off o O))=true then some (mm m s o) else none
abbrev bX:=List (Option (bi))
def qJ (met:List cg):Option (List cg)->Option (bi)->Prop
 | none,none=>True
 | some l,some J=>Paired (λ j s=>met[j]?=some s) J l
 | _,_=>False
theorem qJ.more {m:List cg}:∀ {a:Option (List cg)} {b:Option (bi)},qJ met a b->qJ (met++m) a b
 | none,none,_=>trivial
 | some _,some _,h=>Paired.ym h λ j s e=>by rw [aaG (QQ.mp e).1];exact e
 | none,some _,h=>h.elim
 | some _,none,h=>h.elim
structure qN where
 met:List cg
 f8:List (bi)
 rows:List bX
structure gv (m:aq) (g:qN):Prop where
 nd:g.met.Nodup
 lo:g.f8.length<=g.met.length
 lr:g.rows.length<=g.met.length
 st:∀ s∈g.met,eM m s
 f8:∀ (i:Nat) (s:cg) (o:bi),g.met[i]?=some s->g.f8[i]?=some o->o=s.orders m
 rows:∀ (i:Nat) (s:cg) (r:bX),g.met[i]?=some s->g.rows[i]?=some r->Paired (λ o b=>qJ g.met (jY m s o) b) (s.orders m) r
def qN.add (g:qN) (s:cg):qN:={ g with met:=g.met++[s]}
theorem gv.add (h:gv m g) (S:eM m s) (n:s∉g.met):gv m (g.add s):=by
 have O:∀ {i x},i<g.met.length->(g.met++[s])[i]?=some x->g.met[i]?=some x:=λ {i x} f e=>by
   rw [aaG f] at e;exact e
 refine ⟨aeL.mpr ⟨h.nd,adK _ _,λ a H b d e=>n (by rw [<- aac.mp d,<- e];exact H)⟩,?_,?_,λ x j=>?_,λ i x o c E=>?_,λ i x r c E=>?_⟩
 .
  show g.f8.length<=(g.met++[s]).length;rw [aae];have:=h.lo;lia
 .
  show g.rows.length<=(g.met++[s]).length;rw [aae];have:=h.lr;lia
 . rcases aaY.mp j with z|z
   . exact h.st x z
   . rw [aac.mp z];exact S
 . have E:g.f8[i]?=some o:=E;exact h.f8 i x o (O (by have:=(QQ.mp E).1;have:=h.lo;lia) c) E
 . exact Paired.ym (h.rows i x r (O (by have:=(QQ.mp E).1;have:g.rows.length<=g.met.length:=h.lr;have E:g.rows[i]?=some r:=E;have:=(QQ.mp E).1;lia) c) E) λ Z Z q=>q.more
def uX:Option (bi)->PyData
 | none => .none
 | some l => .list (l.map jE)
def sC (r:bX):PyData:=.list (r.map uX)
abbrev UR (pm po pr pd:ak) (lim:Int):List (Str×V):=[("met",.ref pm),("orders",.ref po),("rows",.ref pr),("places",.ref pd),("limit",.int lim)]
def AK (a:pG) (met:List cg):Prop:=(∀ i s,met[i]?=some s->i5 a (m6 s)=some (ao i))/\∀ s,s∉met->i5 a (m6 s)=none
structure eD (P:aZ) (w:aU) (K:aA) (CG:ak) (L:bA) (H:Hp) (x pm po pr pd:ak) (lim:Int) (g:qN):Prop where
 ins:∃ dx,H x=some (.ins CG dx (UR pm po pr pd lim))
 met:∃ vm,H pm=some (.lst vm)/\lG K H vm g.met
 f8:∃ vo,H po=some (.lst vo)/\bE K (dP H (L++[pm,po,pr])) (g.f8.map λ l => .list (l.map jE)) vo
 rows:∃ vr,H pr=some (.lst vr)/\bE K (dP H (L++[pm,po,pr])) (g.rows.map sC) vr
 pls:∃ aD,iQ P w K H pd aD/\aD.length<=g.met.length/\AK aD g.met
 n1:pm≠po
 n2:pm≠pr
 n3:po≠pr
def yR (h:m6 s=m6 t):s=t:=by
 have h:=aed h;obtain ⟨H,h⟩:=adN h;obtain ⟨d,h⟩:=adN h;obtain ⟨f,h⟩:=adN h;obtain ⟨g,h⟩:=adN h;obtain ⟨i,Z⟩:=adN h;cases s;cases t;have e:=lT (aed H);have E:=afl (ae0 d);have a:=lT (aed f);have b:=lT (aed g);have c:=afl (ae0 i);simp only at e E a b c;rw [e,E,a,b,c]
def AK.nil:AK [] []:=⟨λ i s h=>by simp at h,λ Z Z=>rfl⟩
def AK.add {s:cg} (h:AK A met) (n:s∉met):AK (gf A (m6 s) b (ao met.length)) (met++[s]):=by
 refine ⟨λ i t e=>?_,λ t a=>?_⟩
 .
  rw [mq];by_cases q:m6 t=m6 s
  .
   rw [abE q];obtain rfl:=yR q;by_cases H:i<met.length
   . rw [aaG H] at e;exact absurd (aal e) n
   . have:=(QQ.mp e).1;rw [aae,aa3] at this;rw [show i=met.length by lia]
  .
   rw [abC q];by_cases H:i<met.length
   . rw [aaG H] at e;exact h.1 i t e
   . rw [abW (by lia)] at e;have:=aac.mp (aal e);exact absurd (by rw [this]) q
 . rw [aaY,aac,adE] at a;rw [mq,abC (λ q=>a.2 (yR q))];exact h.2 t a.1
section
variable {P:aZ} {w:aU} {K:aA} {CG:ak} {L:bA} {H H':Hp} {x pm po pr pd:ak} {lim:Int} {g:qN}
theorem eD.same (h:eD P w K CG L H x pm po pr pd lim g) (s:aE H H'):eD P w K CG L H' x pm po pr pd lim g:=by
 obtain ⟨⟨f,i⟩,⟨v,a,A⟩,⟨V,B,c⟩,⟨k,C,d⟩,⟨b,D,e⟩,n,N,j⟩:=h;exact ⟨⟨f,s _ _ i⟩,⟨v,s _ _ a,A.imp λ p x h=>h.same s⟩,⟨V,s _ _ B,bE.same (uy s) _ c⟩,⟨k,s _ _ C,bE.same (uy s) _ d⟩,⟨b,D.same s,e⟩,n,N,j⟩
end
def lS:HO->Bool
 | .lst _=>false
 | .tup _=>false
 | .AF _ _=>false
 | _=>true
section
variable {K:aA} {H:Hp} {d:ak}
def yL (b:∀ o,H d=some o->lS o=true) (e:H a=some u) (h:lS u=false):a∉[d]:=λ z=>by
 rw [aac.mp z] at e;have:=b u e;rw [h] at this;cases this
def aY.wA (b:∀ o,H d=some o->lS o=true) (h:aY K H a xs):aY K (dP H [d]) a xs:=by
 rcases h with (h|⟨o,h⟩)|h
 . exact .inl (.inl (mv h (yL b h rfl)))
 . exact .inl (.inr ⟨o,mv h (yL b h rfl)⟩)
 . exact .inr h
def bP.wA (b:∀ o,H d=some o->lS o=true) (h:bP K H a xs):bP K (dP H [d]) a xs:=by
 rcases h with (h|⟨o,h⟩)|h
 . exact .inl (.inl (mv h (yL b h rfl)))
 . exact .inl (.inr ⟨o,mv h (yL b h rfl)⟩)
 . exact .inr h
mutual
theorem Dn.wA (b:∀ o,H d=some o->lS o=true):∀ (e:PyData) {v:V},Dn K H e v->Dn K (dP H [d]) e v
 | .none,_,h=>by rw [Dn] at h |-;exact h
 | .bool _,_,h=>by rw [Dn] at h |-;exact h
 | .int _,_,h=>by rw [Dn] at h |-;exact h
 | .str _,_,h=>by rw [Dn] at h |-;exact h
 | .list D,_,h=>by
   rw [Dn] at h |-;obtain ⟨a,xs,e,q,r⟩:=h;exact ⟨a,xs,e,q.wA b,bE.wA b D r⟩
 | .tuple D,_,h=>by
   rw [Dn] at h |-;obtain ⟨a,xs,e,q,r⟩:=h;exact ⟨a,xs,e,q.wA b,bE.wA b D r⟩
 | .dict _,_,h=>by rw [Dn] at h;exact h.elim
theorem bE.wA (a:∀ o,H d=some o->lS o=true):∀ (D:List PyData) {xs:az},bE K H D xs->bE K (dP H [d]) D xs
 | [],_,h=>by rw [bE] at h |-;exact h
 | e::D,_,h=>by
   rw [bE] at h |-;obtain ⟨x,r,E,q,t⟩:=h;exact ⟨x,r,E,Dn.wA a e q,bE.wA a D t⟩
end
def bE.yT {L:bA} (f:H d=some o) (g:lS o=true) (b:∀ c u,H c=some u->c≠d->c∉L->H' c=some u) (h:bE K (dP H L) D xs):bE K (dP H' L) D xs:=by
 have a:=bE.wA (d:=d) (λ u e=>by
   unfold dP at e;split at e
   . cases e
   . rw [f] at e;cases e;exact g) D h
 refine bE.same (λ c u e=>?_) D a;unfold dP at e |-;split at e
 . cases e
 .
  rename_i n
  split at e
  . cases e
  . rename_i N
    rw [abC N];exact b c u e (λ z=>n (aac.mpr z)) N
def GM {d:ak} {L:bA} (b:gU [d] H H'):∀ c u,H c=some u->c≠d->c∉L->H' c=some u:=λ c u e n Z=>b c u e λ z=>n (aac.mp z)
end
section
variable {P:aZ} {w:aU} {K:aA} {CG:ak} {L:bA} {H H':Hp} {x pm po pr pd:ak} {lim:Int} {g:qN}
def eD.but {kd:pG} (h:eD P w K CG L H x pm po pr pd lim g) (a:H d=some (lJ P w d kd)) (t:d≠pd) (b:gU [d] H H') (ts:aS K H H'):eD P w K CG L H' x pm po pr pd lim g:=by
 obtain ⟨⟨o,f⟩,⟨v,A,i⟩,⟨V,B,k⟩,⟨y,C,l⟩,⟨j,D,m⟩,q,r,s⟩:=h;have N:∀ {c u},H c=some u->(∀ E,u ≠ .ext E)->c∉[d]:=λ e n z=>by
   rw [aac.mp z,a] at e;exact n _ (aaO e).symm
 refine ⟨⟨o,b _ _ f (N f nofun)⟩,⟨v,b _ _ A (N A nofun),i.imp λ p x h=>h.ts ts⟩,⟨V,b _ _ B (N B nofun),bE.yT a rfl (GM b) k⟩,⟨y,b _ _ C (N C nofun),bE.yT a rfl (GM b) l⟩,⟨j,D.dQ ts ?_,m⟩,q,r,s⟩;rw [D.ob];exact b _ _ D.ob (by simp only [aac];exact aef t)
end
def Qo (m:aq) (L:Int):Prop:=∀ l:List cg,l.Nodup->(∀ s∈l,eM m s)->(l.length:Int)<=L
structure wb (g g':qN):Prop where
 met:∃ more,g'.met=g.met++more
 f8:g'.f8=g.f8
 rows:g'.rows=g.rows
def wb.refl (g:qN):wb g g:=⟨⟨[],(acB _).symm⟩,rfl,rfl⟩
theorem wb.trans (h:wb a b) (k:wb b c):wb a c:=by
 obtain ⟨⟨m,e⟩,o,r⟩:=h;obtain ⟨⟨M,E⟩,O,R⟩:=k;exact ⟨⟨m++M,by rw [E,e,adY]⟩,O.trans o,R.trans r⟩
theorem wb.add (g:qN) (s:cg):wb g (g.add s):=⟨⟨[s],rfl⟩,rfl,rfl⟩
def wb.at (h:wb g g') {j:Nat} (e:g.met[j]?=some s):g'.met[j]?=some s:=by
 obtain ⟨⟨m,E⟩,Z⟩:=h;rw [E,aaG (QQ.mp e).1];exact e
section
variable {P:aZ} {w:aU} {K:aA} {CG:ak} {L:bA} {H:Hp} {x pm po pr pd p:ak} {lim:Int} {g:qN} {s:cg} {vm:az} {aD:pG}
theorem eD.add (h:eD P w K CG L H x pm po pr pd lim g) (f:H pm=some (.lst vm)) (G:lG K H vm g.met) (a:iQ P w K H pd aD) (U:aD.length<=g.met.length) (hp:AK aD g.met) (o:gS K H p s) (n:s∉g.met) :
   eD P w K CG L (upd (upd H pd (lJ P w pd (gf aD (m6 s) p (ao g.met.length)))) pm (.lst (vm++[.ref p]))) x pm po pr pd lim (g.add s)/\gU [pm,pd] H (upd (upd H pd (lJ P w pd (gf aD (m6 s) p (ao g.met.length)))) pm (.lst (vm++[.ref p]))) /\
   aS K H (upd (upd H pd (lJ P w pd (gf aD (m6 s) p (ao g.met.length)))) pm (.lst (vm++[.ref p]))):=by
 obtain ⟨⟨D,b⟩,Z,⟨V,i,I⟩,⟨F,C,J⟩,Z,r,y,M⟩:=h;have m:=jn o;have A:pm≠pd:=λ z=>by rw [z,a.ob] at f;cases f
 have nx:x≠pd:=λ z=>by rw [z,a.ob] at b;cases b
 have N:x≠pm:=λ z=>by rw [z,f] at b;cases b
 have O:po≠pd:=λ z=>by rw [z,a.ob] at i;cases i
 have R:pr≠pd:=λ z=>by rw [z,a.ob] at C;cases C
 have T:aS K H (upd H pd (lJ P w pd (gf aD (m6 s) p (ao g.met.length)))):=bW a.ob rfl;have B:gU [pd] H (upd H pd (lJ P w pd (gf aD (m6 s) p (ao g.met.length)))):=λ c u e z=>by rw [av (λ q=>z (aac.mpr q))];exact e
 have S:=a.put (v:=ao g.met.length) m;have Q:(upd H pd (lJ P w pd (gf aD (m6 s) p (ao g.met.length)))) pm=some (.lst vm):=by rw [av A];exact f
 have Y:=bE.yT a.ob rfl (GM B) I;have k:=bE.yT a.ob rfl (GM B) J;have X:(upd H pd (lJ P w pd (gf aD (m6 s) p (ao g.met.length)))) x=some (.ins CG D (UR pm po pr pd lim)):=by rw [av nx];exact b
 have j:(upd H pd (lJ P w pd (gf aD (m6 s) p (ao g.met.length)))) po=some (.lst V):=by rw [av O];exact i
 have l:(upd H pd (lJ P w pd (gf aD (m6 s) p (ao g.met.length)))) pr=some (.lst F):=by rw [av R];exact C
 generalize upd H pd (lJ P w pd (gf aD (m6 s) p (ao g.met.length)))=d at *;have t:aS K d (upd d pm (.lst (vm++[.ref p]))):=bW Q rfl;have E:dP (upd d pm (.lst (vm++[.ref p]))) (L++[pm,po,pr])=dP d (L++[pm,po,pr]):=nA (by simp);refine ⟨⟨⟨D,by rw [av N];exact X⟩,⟨_,ag,?_⟩,⟨V,by rw [av r.symm];exact j,by rw [E];exact Y⟩,⟨F,by rw [av y.symm];exact l,by rw [E];exact k⟩,⟨_,S.dQ t (av A.symm),?_,hp.add n⟩,r,y,M⟩,λ c u e z=>?_,T.trans t⟩
 . exact Refs.snoc (G.imp λ p s h=>h.ts (T.trans t)) (o.ts (T.trans t))
 .
  refine abk (vH ..) ?_;show _<=(g.met++[s]).length;rw [aae,aa3];lia
 . simp only [aah,aak,ack,adE] at z;rw [av z.1];exact B c u e (by simp [z.2])
def eD.new (h:eD P w K CG L H x pm po pr pd lim g) (f:H D=none):eD P w K CG (D::L) H x pm po pr pd lim g:=by
 obtain ⟨i,m,⟨v,B,a⟩,⟨V,c,C⟩,d,n,N,j⟩:=h;have S:aE (dP H (L++[pm,po,pr])) (dP H (D::L++[pm,po,pr])):=λ b o e=>by
   unfold dP at e |-;split at e
   . cases e
   .
    rename_i q
    rw [abC]
    . exact e
    . intro z;rcases aah.mp z with z|z
      . rw [z,f] at e;cases e
      . exact q z
 exact ⟨i,m,⟨v,B,bE.same S _ a⟩,⟨V,c,bE.same S _ C⟩,d,n,N,j⟩
def eD.less (h:eD P w K CG L H x pm po pr pd lim g) {L':bA} (f:∀ b∈L',b∈L):eD P w K CG L' H x pm po pr pd lim g:=by
 obtain ⟨i,m,⟨v,B,a⟩,⟨V,c,C⟩,d,n,N,j⟩:=h;have S:aE (dP H (L++[pm,po,pr])) (dP H (L'++[pm,po,pr])):=λ b o e=>by
   unfold dP at e |-;split at e
   . cases e
   .
    rename_i q
    rw [abC]
    . exact e
    . intro z;refine q (aaY.mpr ?_);rcases aaY.mp z with z|z
      . exact .inl (f _ z)
      . exact .inr z
 exact ⟨i,m,⟨v,B,bE.same S _ a⟩,⟨V,c,bE.same S _ C⟩,d,n,N,j⟩
def eD.write (h:eD P w K CG L H x pm po pr pd lim g) (a:H D=some (.lst xs)) (l:D∈L) (nm:D≠pm) (q:D≠po) (r:D≠pr):eD P w K CG L (upd H D (.lst ys)) x pm po pr pd lim g:=by
 obtain ⟨⟨k,b⟩,⟨vm,A,c⟩,⟨v,B,f⟩,⟨V,C,i⟩,⟨aD,d,j⟩,n,N,m⟩:=h;have t:aS K H (upd H D (.lst ys)):=bW a rfl;have e:dP (upd H D (.lst ys)) (L++[pm,po,pr])=dP H (L++[pm,po,pr]):=nA (aaY.mpr (.inl l));have nx:x≠D:=λ z=>by rw [z,a] at b;cases b
 have o:pd≠D:=λ z=>by have:=d.ob;rw [z,a] at this;cases this
 exact ⟨⟨k,by rw [av nx];exact b⟩,⟨vm,by rw [av nm.symm];exact A,c.imp λ p x h=>h.ts t⟩,⟨v,by rw [av q.symm];exact B,by rw [e];exact f⟩,⟨V,by rw [av r.symm];exact C,by rw [e];exact i⟩,⟨aD,d.dQ t (av o),j⟩,n,N,m⟩
end
structure JZ (m:aq):Prop where
 h4:m.rows.length<=4
 sp:∀ s,eM m s->Pd m s
 tn:∀ s o,eM m s->o∈s.orders m->∀ out∈dO m s o,cD m s o out
 nx:∀ s o x,eM m s->o∈s.orders m->x∈mm m s o->eM m x
def JZ.ow (h:JZ m) {s:cg} {o:Nat} (H:o∈s.orders m):o &&& m.ws=o:=((rq (vk h.h4)).2 o (acq.mp H).1).2
def vR {m:aq} (h:m.rows.length<=4) (s:cg):(s.orders m).length<=16:=by
 have:=acs (s.EX m) (Bit.parts (Bit.rooms m.ws));have:=(pT (vk h)).2;unfold cg.orders;lia
def HX {m:aq} {s:cg} {o:Nat} (h:∀ O∈dO m s o,jK m s (Ord.off o O)=true):jY m s o=some (mm m s o):=by
 unfold jY;rw [abE (ac7.mpr h)]
def KB {m:aq} {s:cg} {o:Nat} (h:∃ O∈dO m s o,jK m s (Ord.off o O)=false):jY m s o=none:=by
 unfold jY;rw [abC];intro z;obtain ⟨O,H,a⟩:=h;have:=ac7.mp z O H;rw [a] at this;cases this
def qN.ord (g:qN) (l:bi):qN:={ g with f8:=g.f8++[l]}
def qN.row (g:qN) (r:bX):qN:={ g with rows:=g.rows++[r]}
theorem gv.ord (h:gv m g) (e:g.met[g.f8.length]?=some s):gv m (g.ord (s.orders m)):=by
 have b:=(QQ.mp e).1;refine ⟨h.nd,?_,h.lr,h.st,λ i x o a E=>?_,h.rows⟩
 . show (g.f8++[s.orders m]).length<=g.met.length;rw [aae,aa3];lia
 .
  have E:(g.f8++[s.orders m])[i]?=some o:=E;by_cases H:i<g.f8.length
  . rw [aaG H] at E;exact h.f8 i x o a E
  .
   have:=(QQ.mp E).1;rw [aae,aa3] at this;obtain rfl:i=g.f8.length:=by lia
   rw [ab1] at E;have a:g.met[g.f8.length]?=some x:=a;rw [e] at a;cases a;cases E;rfl
theorem gv.row (h:gv m g) (e:g.met[g.rows.length]?=some s) (c:Paired (λ o b=>qJ g.met (jY m s o) b) (s.orders m) r):gv m (g.row r):=by
 have d:=(QQ.mp e).1;refine ⟨h.nd,h.lo,?_,h.st,h.f8,λ i x r' a E=>?_⟩
 . show (g.rows++[r]).length<=g.met.length;rw [aae,aa3];lia
 .
  have E:(g.rows++[r])[i]?=some r':=E;by_cases H:i<g.rows.length
  . rw [aaG H] at E;exact h.rows i x r' a E
  .
   have:=(QQ.mp E).1;rw [aae,aa3] at this;obtain rfl:i=g.rows.length:=by lia
   rw [ab1] at E;have a:g.met[g.rows.length]?=some x:=a;rw [e] at a;cases a;cases E;exact c
section
variable {P:aZ} {w:aU} {K:aA} {CG:ak} {L:bA} {H:Hp} {x pm po pr pd q:ak} {lim:Int} {g:qN}
theorem eD.ord (h:eD P w K CG L H x pm po pr pd lim g) {v:az} {l:bi} (a:H po=some (.lst v)) (m:H q=some (.lst (l.map ao))) (s:q∉L++[pm,po,pr]):eD P w K CG L (upd H po (.lst (v++[.ref q]))) x pm po pr pd lim (g.ord l):=by
 obtain ⟨⟨k,b⟩,⟨V,A,c⟩,⟨u,B,i⟩,⟨y,C,j⟩,⟨f,d,D⟩,n,o,N⟩:=h;rw [a] at B;cases B;have t:aS K H (upd H po (.lst (v++[.ref q]))):=bW a rfl;have e:dP (upd H po (.lst (v++[.ref q]))) (L++[pm,po,pr])=dP H (L++[pm,po,pr]):=nA (by simp);have nx:x≠po:=λ z=>by rw [z,a] at b;cases b
 have r:pd≠po:=λ z=>by have:=d.ob;rw [z,a] at this;cases this
 refine ⟨⟨k,by rw [av nx];exact b⟩,⟨V,by rw [av n];exact A,c.imp λ p x h=>h.ts t⟩,⟨_,ag,?_⟩,⟨y,by rw [av N.symm];exact C,by rw [e];exact j⟩,⟨f,d.dQ t (av r),D⟩,n,o,N⟩;rw [e];show bE K _ ((g.f8++[l]).map _) _;rw [aap];exact bE.snoc i (Fg (aY.of (mv m s)))
theorem eD.row (h:eD P w K CG L H x pm po pr pd lim g) {v acc:az} {r:bX} (a:H pr=some (.lst v)) (l:H q=some (.lst acc)) (u:q∉L++[pm,po,pr]) (o:bE K (dP H (L++[pm,po,pr])) (r.map uX) acc):eD P w K CG L (upd H pr (.lst (v++[.ref q]))) x pm po pr pd lim (g.row r):=by
 obtain ⟨⟨k,b⟩,⟨V,A,f⟩,⟨y,B,j⟩,⟨E,c,C⟩,⟨i,d,D⟩,m,n,N⟩:=h;rw [a] at c;cases c;have t:aS K H (upd H pr (.lst (v++[.ref q]))):=bW a rfl;have e:dP (upd H pr (.lst (v++[.ref q]))) (L++[pm,po,pr])=dP H (L++[pm,po,pr]):=nA (by simp);have nx:x≠pr:=λ z=>by rw [z,a] at b;cases b
 have s:pd≠pr:=λ z=>by have:=d.ob;rw [z,a] at this;cases this
 refine ⟨⟨k,by rw [av nx];exact b⟩,⟨V,by rw [av n];exact A,f.imp λ p x h=>h.ts t⟩,⟨y,by rw [av N];exact B,by rw [e];exact j⟩,⟨_,ag,?_⟩,⟨i,d.dQ t (av s),D⟩,m,n,N⟩;rw [e];show bE K _ ((g.rows++[r]).map _) _;rw [aap];exact bE.snoc C (vX (aY.of (mv l u)) o)
end
section
variable {P:aZ} {w:aU} {K:aA} {C CR:ak} {L L':bA} {H H':Hp} {x d a:ak} {fp:bA} {m:aq} {c:Nat}
def Fw (h:aV K C H a fp m) (st:∀ b o,H b=some o->b∈fp->H' b=some o) (ts:aS K H H'):aV K C H' a fp m:=by
 obtain ⟨⟨Q,d,p,f,k,V,J,L,A,rfl,r,v,I,G,u,t,N,w,x,l,n,q,D,F⟩,y,z,B,E⟩:=h;have g:∀ {c o},H c=some o->c∈[a,Q,d,p,f,k]->H' c=some o:=λ {c o} e s=>st c o e s;exact ⟨⟨Q,d,p,f,k,V,J,L,A,rfl,g r (by simp),g v (by simp),g I (by simp),g G (by simp),g u (by simp),g t (by simp),N,w,x,nc ts l,kj ts n,jm ts q,λ i j=>(D i j).ts ts,F⟩,y,z,B,E⟩
def eU.frame (r:eU P w K C CR L H x d a fp m c) (b:gU M H H') (ts:aS K H H') (nx:x∉M) (F:d∉M) (nf:∀ c∈fp,c∉M) (k:∀ c∈M,c∈L\/∀ xs,H c≠some (.lst xs)):eU P w K C CR L H' x d a fp m c:=by
 obtain ⟨⟨D,E⟩,p,n,A,g,s,t⟩:=r;refine ⟨⟨D,b _ _ E nx⟩,Fw p (λ c u e o=>b c u e (nf c o)) ts,n,A,g.dQ ts ?_,s,λ i B f v e=>?_⟩
 . rw [g.ob];exact b _ _ g.ob F
 .
  have:=t i B f v e;cases z:dZ m i B f with
  | none=>rw [z] at this;exact this
  | some l =>
    rw [z] at this;obtain ⟨q,e,N,j⟩:=this;exact ⟨q,e,N,b _ _ j λ y=>(k q y).elim N λ h=>h _ j⟩
def eU.zero (r:eU P w K C CR L H x d a fp m 0):eU P w K C CR L' H x d a fp m 0:=by
 obtain ⟨i,b,n,A,c,h,g⟩:=r;obtain rfl:A=[]:=acn (Nat.le_zero.mp h);exact ⟨i,b,n,[],c,h,λ i B f v e=>by cases e⟩
end
structure kc where
 bG:List (List (Option Nat))
 dF:bi
 bI:List (Option Nat)
 queue:bi
def n8 (rows:List bX):Nat->Nat->Prop
 | 0,p=>rows[p]?=some []
 | k+1,p=>∃ r,rows[p]?=some r/\∀ (c:Nat) (v:Option (bi)),r[c]?=some v->v=none\/∃ J,v=some J/\∃ j∈J,n8 rows k j
theorem n8.succ:∀ {k p:Nat},n8 rows k p->n8 rows (k+1) p
 | 0,p,h=>⟨[],h,λ c v e=>by simp at e⟩
 | k+1,p,⟨r,e,h⟩=>⟨r,e,λ c v E=>(h c v E).imp id λ ⟨J,a,j,H,q⟩=>⟨J,a,j,H,q.succ⟩⟩
def n8.mono {n:Nat} (h:n8 rows k p) (l:k<=n):n8 rows n p:=by
 obtain ⟨d,rfl⟩:=Nat.exists_eq_add_of_le l;induction d with
 | zero=>exact h
 | succ d i=>exact (i (adR _ _)).succ
def vi (rows:List bX) (b:List (Option Nat)) (p c t:Nat):Prop:=∃ r:bX,rows[p]?=some r/\(r[c]?=some none/\t=0\/∃ J,r[c]?=some (some J)/\∃ j∈J,b[j]?=some (some t))
structure iE (rows:List bX) (S:kc) (cur:Nat):Prop where
 ll:S.bG.length=rows.length
 lg:S.dF.length=rows.length
 lk:S.bI.length=rows.length
 sh:∀ (p:Nat) l r,S.bG[p]?=some l->rows[p]?=some r->l.length=r.length
 go:∀ (p:Nat) l n,S.bG[p]?=some l->S.dF[p]?=some n->n=l.countP Option.isNone
 rk:∀ (p:Nat) n,S.dF[p]?=some n->(n=0↔∃ k,S.bI[p]?=some (some k))
 qu:∀ p,p∈S.queue↔∃ k,S.bI[p]?=some (some k)
 nd:S.queue.Nodup
 z:∀ p:Nat,rows[p]?=some []↔S.bI[p]?=some (some 0)
 lo:∀ (p:Nat) l (c:Nat) t,S.bG[p]?=some l->l[c]?=some (some t)->t<=cur
 ls:∀ (p:Nat) l (c:Nat) t,S.bG[p]?=some l->l[c]?=some (some t)->vi rows S.bI p c t
 top:∀ (p:Nat) t l,S.bI[p]?=some (some (t+1))->S.bG[p]?=some l->(∀ (c:Nat) t',l[c]?=some (some t')->t'<=t)/\∃ c:Nat,l[c]?=some (some t)
 le:∀ (p:Nat) k,S.bI[p]?=some (some k)->k<=cur+1
 YV:S.queue.Pairwise λ a b=>∀ x y,S.bI[a]?=some (some x)->S.bI[b]?=some (some y)->x<=y
def kc.fin (S:kc) (p c t:Nat) (l:List (Option Nat)) (n:Nat):kc:=⟨S.bG.set p (l.set c (some t)),S.dF.set p (n - 1),if n=1 then S.bI.set p (some (t+1)) else S.bI,if n=1 then S.queue++[p] else S.queue⟩
def cZ {b:Type} {l:List b} {i j:Nat} {a x:b}:(l.set i a)[j]?=some x↔(i=j/\i<l.length/\x=a)\/(i≠j/\l[j]?=some x):=by
 rw [List.getElem?_set];by_cases h:i=j
 .
  rw [abE h];by_cases H:i<l.length
  . rw [abE H];exact ⟨λ e => .inl ⟨h,H,(aaO e).symm⟩,λ e=>e.elim (λ e=>by rw [e.2.2]) λ e=>absurd h e.1⟩
  . rw [abC H];exact ⟨λ e=>by simp at e,λ e=>e.elim (λ e=>absurd e.2.1 H) λ e=>absurd h e.1⟩
 . rw [abC h];exact ⟨λ e => .inr ⟨h,e⟩,λ e=>e.elim (λ e=>absurd e.1 h) λ e=>e.2⟩
theorem iE.fin {rows:List bX} {S:kc} {p c n:Nat} {l:List (Option Nat)} (h:iE rows S cur) (o:S.bG[p]?=some l) (K:S.dF[p]?=some n) (J:l[c]?=some none) (W:vi rows S.bI p c cur):iE rows (S.fin p c cur l n) cur:=by
 have M:c<l.length:=(QQ.mp J).1;have T:l[c]=none:=(QQ.mp J).2;have Y:p<S.bG.length:=(QQ.mp o).1;have JM:p<S.dF.length:=(QQ.mp K).1;have V:p<S.bI.length:=by rw [h.lk,<- h.ll];exact Y
 have G:=h.go p l n o K;have n0:n≠0:=λ z=>by
   rw [z] at G;exact adM.mp G.symm _ (aal J) rfl
 have N:∀ k,S.bI[p]?≠some (some k):=λ k e=>n0 ((h.rk p n K).mpr ⟨k,e⟩);have C:p∉S.queue:=λ z=>by obtain ⟨k,e⟩:=(h.qu p).mp z;exact N k e
 have f:∀ j k,(S.fin p c cur l n).bI[j]?=some (some k)↔(n=1/\j=p/\k=cur+1)\/S.bI[j]?=some (some k):=λ j k=>by
   by_cases H:n=1
   .
    simp only [kc.fin,abE H,cZ];constructor
    . rintro (⟨rfl,Z,e⟩|⟨Z,e⟩)
      . exact .inl ⟨H,rfl,aaO e⟩
      . exact .inr e
    . rintro (⟨Z,rfl,rfl⟩|e)
      . exact .inl ⟨rfl,V,rfl⟩
      . exact .inr ⟨λ z=>N k (z ▸ e),e⟩
   . simp only [kc.fin,abC H];exact ⟨.inr,λ e=>e.elim (λ e=>absurd e.1 H) id⟩
 have U:∀ {j k},S.bI[j]?=some (some k)->(S.fin p c cur l n).bI[j]?=some (some k):=λ e=>(f _ _).mpr (.inr e);have i:∀ {Q c' t'},vi rows S.bI Q c' t'->vi rows (S.fin p c cur l n).bI Q c' t':=λ ⟨r,B,q⟩=>⟨r,B,q.imp id λ ⟨js,X,j,hj,e⟩=>⟨js,X,j,hj,U e⟩⟩
 have F:∀ {j L},(S.fin p c cur l n).bG[j]?=some L->(j=p/\L=l.set c (some cur))\/(j≠p/\S.bG[j]?=some L):=λ e=>by
   rcases cZ.mp e with ⟨rfl,Z,e⟩|⟨q,e⟩
   . exact .inl ⟨rfl,e⟩
   . exact .inr ⟨λ z=>q z.symm,e⟩
 have I:∀ {j m},(S.fin p c cur l n).dF[j]?=some m->(j=p/\m=n - 1)\/(j≠p/\S.dF[j]?=some m):=λ e=>by
   rcases cZ.mp e with ⟨rfl,Z,e⟩|⟨q,e⟩
   . exact .inl ⟨rfl,e⟩
   . exact .inr ⟨λ z=>q z.symm,e⟩
 have qm:∀ j,j∈(S.fin p c cur l n).queue↔(n=1/\j=p)\/j∈S.queue:=λ j=>by
   by_cases H:n=1
   . simp only [kc.fin,abE H,aaY,aac];exact ⟨λ e=>e.elim .inr λ e => .inl ⟨H,e⟩,λ e=>e.elim (λ e => .inr e.2) .inl⟩
   . simp only [kc.fin,abC H];exact ⟨.inr,λ e=>e.elim (λ e=>absurd e.1 H) id⟩
 have D:(l.set c (some cur)).countP Option.isNone=n - 1:=by
   rw [List.countP_set M,T,G];rfl
 refine ⟨?_,?_,?_,?_,?_,?_,?_,?_,?_,?_,?_,?_,?_,?_⟩
 . show (S.bG.set p _).length=_;rw [adh];exact h.ll
 . show (S.dF.set p _).length=_;rw [adh];exact h.lg
 .
  show (if n=1 then S.bI.set p (some (cur+1)) else S.bI).length=_;split
  . rw [adh];exact h.lk
  . exact h.lk
 .
  intro j L r e B;rcases F e with ⟨rfl,rfl⟩|⟨Z,e⟩
  . rw [adh];exact h.sh _ _ _ o B
  . exact h.sh _ _ _ e B
 .
  intro j L m e d;rcases F e with ⟨rfl,rfl⟩|⟨q,e⟩
  . rcases I d with ⟨Z,rfl⟩|⟨q,Z⟩
    . exact D.symm
    . exact absurd rfl q
  . rcases I d with ⟨z,Z⟩|⟨Z,d⟩
    . exact absurd z q
    . exact h.go _ _ _ e d
 .
  intro j m d;rcases I d with ⟨rfl,rfl⟩|⟨q,d⟩
  . refine ⟨λ z=>⟨cur+1,(f _ _).mpr (.inl ⟨by lia,rfl,rfl⟩)⟩,λ ⟨k,e⟩=>?_⟩;rcases (f _ _).mp e with ⟨e,Z⟩|e
    . lia
    . exact absurd e (N k)
  . refine (h.rk j m d).trans ⟨λ ⟨k,e⟩=>⟨k,U e⟩,λ ⟨k,e⟩=>?_⟩;rcases (f _ _).mp e with ⟨Z,e,Z⟩|e
    . exact absurd e q
    . exact ⟨k,e⟩
 .
  intro j;rw [qm j];constructor
  . rintro (⟨A,rfl⟩|e)
    . exact ⟨cur+1,(f _ _).mpr (.inl ⟨A,rfl,rfl⟩)⟩
    . obtain ⟨k,e⟩:=(h.qu j).mp e;exact ⟨k,U e⟩
  . rintro ⟨k,e⟩;rcases (f _ _).mp e with ⟨A,E,Z⟩|e
    . exact .inl ⟨A,E⟩
    . exact .inr ((h.qu j).mpr ⟨k,e⟩)
 .
  show (if n=1 then S.queue++[p] else S.queue).Nodup;split
  . exact aeL.mpr ⟨h.nd,adK _ _,λ a v b w e=>C (by rw [<- aac.mp w,<- e];exact v)⟩
  . exact h.nd
 .
  intro j;refine (h.z j).trans ⟨U,λ e=>?_⟩;rcases (f _ _).mp e with ⟨Z,Z,e⟩|e
  . lia
  . exact e
 .
  intro j L c' t e E;rcases F e with ⟨rfl,rfl⟩|⟨Z,e⟩
  . rcases cZ.mp E with ⟨Z,Z,E⟩|⟨Z,E⟩
    . rw [aaO E];exact aaD _
    . exact h.lo _ _ _ _ o E
  . exact h.lo _ _ _ _ e E
 .
  intro j L c' t e E;rcases F e with ⟨rfl,rfl⟩|⟨Z,e⟩
  . rcases cZ.mp E with ⟨rfl,Z,E⟩|⟨Z,E⟩
    . rw [aaO E];exact i W
    . exact i (h.ls _ _ _ _ o E)
  . exact i (h.ls _ _ _ _ e E)
 .
  intro j t L s e;rcases (f _ _).mp s with ⟨Z,rfl,A⟩|u
  .
   obtain rfl:t=cur:=by lia
   rcases F e with ⟨Z,rfl⟩|⟨q,Z⟩
   . refine ⟨λ c' t' R=>?_,c,cZ.mpr (.inl ⟨rfl,M,rfl⟩)⟩;rcases cZ.mp R with ⟨Z,Z,E⟩|⟨Z,E⟩
     . rw [aaO E];exact aaD _
     . exact h.lo _ _ _ _ o E
   . exact absurd rfl q
  . rcases F e with ⟨rfl,Z⟩|⟨Z,e⟩
    . exact absurd u (N _)
    . exact h.top _ _ _ u e
 .
  intro j k s;rcases (f _ _).mp s with ⟨Z,Z,rfl⟩|s
  . exact aaD _
  . exact h.le _ _ s
 .
  have O:S.queue.Pairwise λ a b=>∀ x y,(S.fin p c cur l n).bI[a]?=some (some x)->(S.fin p c cur l n).bI[b]?=some (some y)->x<=y:=by
    refine h.YV.imp_of_mem λ {a b} v w q x y ex g=>?_;rcases (f _ _).mp ex with ⟨Z,rfl,Z⟩|ex
    . exact absurd v C
    rcases (f _ _).mp g with ⟨Z,rfl,Z⟩|g
    . exact absurd w C
    exact q x y ex g
  show (if n=1 then S.queue++[p] else S.queue).Pairwise _;by_cases H:n=1
  .
   rw [abE H];refine afe.mpr ⟨O,adK _ _,λ a v b w x y ex g=>?_⟩;rw [aac.mp w] at g;rcases (f _ _).mp ex with ⟨Z,rfl,Z⟩|ex
   . exact absurd v C
   rcases (f _ _).mp g with ⟨Z,Z,rfl⟩|g
   . exact h.le _ _ ex
   . exact absurd g (N _)
  . rw [abC H];exact O
def gb (rows:List bX) (S:kc):Prop:=∀ (p:Nat) (r:bX) (c:Nat),rows[p]?=some r->r[c]?=some none->∃ l,S.bG[p]?=some l/\l[c]?=some (some 0)
def yb (rows:List bX) (S:kc) (j:Nat):Prop:=∀ (p:Nat) (r:bX) (c:Nat) J,rows[p]?=some r->r[c]?=some (some J)->j∈J->∃ l t k,S.bG[p]?=some l/\l[c]?=some (some t)/\S.bI[j]?=some (some k)/\t<=k
def xE {S:kc} {p c:Nat} (b:S.bG[p]?=some l) (H:l[c]?=some none) {a:Nat} (e:S.bG[a]?=some L) (E:L[c']?=some (some t')):∃ d,(S.fin p c t l n).bG[a]?=some d/\d[c']?=some (some t'):=by
 by_cases h:p=a
 .
  subst h;rw [b] at e;cases e;refine ⟨_,cZ.mpr (.inl ⟨rfl,(QQ.mp b).1,rfl⟩),cZ.mpr (.inr ⟨λ z=>?_,E⟩)⟩;rw [z,E] at H;cases H
 . exact ⟨L,cZ.mpr (.inr ⟨h,e⟩),E⟩
def iE.Gs {p c:Nat} (h:iE rows S cur) (b:S.bG[p]?=some l) (H:S.dF[p]?=some n) (a:l[c]?=some none) {j:Nat} (e:S.bI[j]?=some (some k)):(S.fin p c t l n).bI[j]?=some (some k):=by
 have N:n≠0:=λ z=>by
   have E:=h.go p l n b H;rw [z] at E;exact adM.mp E.symm _ (aal a) rfl
 have q:p≠j:=λ z=>N ((h.rk p n H).mpr ⟨k,z ▸ e⟩);show (if n=1 then S.bI.set p (some (t+1)) else S.bI)[j]?=_;split
 . exact cZ.mpr (.inr ⟨q,e⟩)
 . exact e
def iE.sound (h:iE rows S cur):∀ (k p:Nat),S.bI[p]?=some (some k)->n8 rows k p:=by
 intro k;induction k using Nat.strongRecOn with
 | _ k I =>
   intro p e;cases k with
   | zero=>exact (h.z p).mpr e
   | succ t =>
     have H:p<rows.length:=by rw [<- h.lk];exact (QQ.mp e).1
     have m:p<S.bG.length:=by rw [h.ll];exact H
     have A:p<S.dF.length:=by rw [h.lg];exact H
     have E:=Vo m;have b:=Vo H;have f:=Vo A;have G:=(h.rk p _ f).mpr ⟨_,e⟩;have C:=(h.go p _ _ E f).symm.trans G;refine ⟨_,b,λ c v d=>?_⟩;have g:c<S.bG[p].length:=by rw [h.sh p _ _ E b];exact (QQ.mp d).1
     have a:=Vo g;have n:=adM.mp C _ (abq g);cases q:S.bG[p][c] with
     | none=>rw [q] at n;exact absurd rfl n
     | some T =>
       rw [q] at a;have L:=(h.top p t _ e E).1 c T a;obtain ⟨r,O,w⟩:=h.ls p _ c T E a;rw [b] at O;cases O;rcases w with ⟨w,Z⟩|⟨J,w,j,l,i⟩
       . rw [d] at w;exact .inl (aaO w)
       . rw [d] at w;exact .inr ⟨J,aaO w,j,l,(I T (by lia) j i).mono L⟩
theorem iE.whole (h:iE rows S cur) (N:gb rows S) (G:∀ j∈S.queue,yb rows S j):∀ (k p:Nat),n8 rows k p->∃ K,S.bI[p]?=some (some K)/\K<=k
 | 0,p,e=>⟨0,(h.z p).mp e,aaD _⟩
 | k+1,p,⟨r,g,w⟩=>by
   have hp:p<rows.length:=(QQ.mp g).1;have y:p<S.bG.length:=by rw [h.ll];exact hp
   have A:p<S.dF.length:=by rw [h.lg];exact hp
   have d:=Vo y;have o:=Vo A;have all:∀ c:Nat,c<S.bG[p].length->∃ t,S.bG[p][c]?=some (some t)/\t<=k:=by
     intro c H;have O:c<r.length:=by rw [<- h.sh p _ _ d g];exact H
     have f:=Vo O;rcases w c _ f with q|⟨J,q,j,u,i⟩
     . rw [q] at f;obtain ⟨l,a,E⟩:=N p r c g f;rw [d] at a;cases a;exact ⟨0,E,ach _⟩
     .
      rw [q] at f;obtain ⟨K,b,L⟩:=h.whole N G k j i;obtain ⟨l,t,D,a,E,m,B⟩:=G j ((h.qu j).mpr ⟨K,b⟩) p r c J g f u;rw [d] at a;cases a;rw [b] at m;cases m;exact ⟨t,E,by lia⟩
   have C:S.bG[p].countP Option.isNone=0:=adM.mpr λ v x z=>by
     obtain ⟨c,H,rfl⟩:=acF.mp x;obtain ⟨t,s,Z⟩:=all c H;rw [Vo H] at s;rw [aaO s] at z;cases z
   obtain ⟨K,b⟩:=(h.rk p _ o).mp ((h.go p _ _ d o).trans C);refine ⟨K,b,?_⟩;cases K with
   | zero=>exact ach _
   | succ t =>
     obtain ⟨c,n⟩:=(h.top p t _ b d).2;obtain ⟨T,E,L⟩:=all c (QQ.mp n).1;rw [n] at E;cases E;lia
def iE.up {b:Nat} (h:iE rows S a) (L:a<=b):iE rows S b :=
 ⟨h.ll,h.lg,h.lk,h.sh,h.go,h.rk,h.qu,h.nd,h.z,λ p l c t e f=>abk (h.lo p l c t e f) L,h.ls,h.top,λ p k e=>abk (h.le p k e) (adQ L),h.YV⟩
def Jf (rows:List bX):kc:=⟨rows.map λ r=>r.map λ Z=>none,rows.map List.length,rows.map λ r=>if r.length=0 then some 0 else none,(List.range rows.length).filter λ p=>rows[p]? == some []⟩
def gE {p:Nat}:(Jf rows).bI[p]?=some (some k)↔rows[p]?=some []/\k=0:=by
 show (rows.map _)[p]?=_↔_;rw [aag];cases e:rows[p]? with
 | none=>simp
 | some r =>
   simp only [aer,Option.some.injEq];cases r with
   | nil=>simp [eq_comm]
   | cons a r=>simp
def uW {p:Nat} (e:(Jf rows).bG[p]?=some l):∃ r,rows[p]?=some r/\l=r.map λ Z=>none:=by
 have e:(rows.map λ r=>r.map λ Z=>(none:Option Nat))[p]?=some l:=e;rw [aag] at e;obtain ⟨r,E,rfl⟩:=ac1.mp e;exact ⟨r,E,rfl⟩
def Da {p c:Nat} (e:(Jf rows).bG[p]?=some l):l[c]?≠some (some t):=by
 obtain ⟨r,Z,rfl⟩:=uW e;intro q;rw [aag] at q;obtain ⟨Z,Z,z⟩:=ac1.mp q;cases z
def PU (rows:List bX):iE rows (Jf rows) 0:=by
 have C:∀ r:bX,(r.map λ Z=>(none:Option Nat)).countP Option.isNone=r.length:=λ r=>by
   rw [List.countP_map];exact List.countP_eq_length.mpr λ a Z=>rfl
 refine ⟨CT ..,CT ..,CT ..,λ p l r e b=>?_,λ p l n e E=>?_,λ p n E=>?_,λ p=>?_,List.nodup_range.filter _,λ p=>?_,λ p l c t e q=>absurd q (Da e),λ p l c t e q=>absurd q (Da e),λ p t l e Z=>?_,λ p k e=>?_,?_⟩
 .
  obtain ⟨f,T,rfl⟩:=uW e;rw [b] at T;cases T;exact CT ..
 .
  obtain ⟨r,b,rfl⟩:=uW e;have E:(rows.map List.length)[p]?=some n:=E;rw [aag,b] at E;rw [C];exact (aaO E).symm
 .
  have E:(rows.map List.length)[p]?=some n:=E;rw [aag] at E;obtain ⟨r,b,rfl⟩:=ac1.mp E;refine ⟨λ z=>⟨0,gE.mpr ⟨by rw [b,adL.mp z],rfl⟩⟩,λ ⟨k,e⟩=>?_⟩;have:=(gE.mp e).1;rw [b] at this;rw [aaO this];rfl
 .
  show p∈(List.range rows.length).filter _↔_;rw [acq,aa4];refine ⟨λ ⟨_,e⟩=>⟨0,gE.mpr ⟨by simpa using e,rfl⟩⟩,λ ⟨k,e⟩=>?_⟩;have:=(gE.mp e).1;exact ⟨(QQ.mp this).1,by rw [this];rfl⟩
 . exact ⟨λ e=>gE.mpr ⟨e,rfl⟩,λ e=>(gE.mp e).1⟩
 . have:=(gE.mp e).2;lia
 . rw [(gE.mp e).2];exact ach _
 . refine afS (R:=λ Z Z=>True) (λ Z Z Z x y ex d=>?_) (List.pairwise_of_forall λ Z Z=>trivial);rw [(gE.mp ex).2];exact ach _
def vQ (m:aq):Nat->cg->Prop
 | 0,s=>s.orders m=[]
 | k+1,s=>∀ o∈s.orders m,jY m s o=none\/∃ l,jY m s o=some l/\∃ t∈l,vQ m k t
theorem vJ {c d:Type} {F:c->d->Prop}:∀ {l₁:List c} {l₂:List d},Paired F l₁ l₂->∀ a∈l₁,∃ b∈l₂,F a b
 | _,_,.nil,_,h=>absurd h aak
 | _,_,.cons f q,a,h=>by
   rcases aah.mp h with rfl|h
   . exact ⟨_,aaW,f⟩
   . obtain ⟨b,H,e⟩:=vJ q a h;exact ⟨b,aar _ H,e⟩
theorem uz {c d:Type} {F:c->d->Prop}:∀ {l₁:List c} {l₂:List d},Paired F l₁ l₂->∀ b∈l₂,∃ a∈l₁,F a b
 | _,_,.nil,_,h=>absurd h aak
 | _,_,.cons f q,a,h=>by
   rcases aah.mp h with rfl|h
   . exact ⟨_,aaW,f⟩
   . obtain ⟨b,H,e⟩:=uz q a h;exact ⟨b,aar _ H,e⟩
theorem gv.ill (h:gv m g) (D:g.rows.length=g.met.length):∀ (k p:Nat) (s:cg),g.met[p]?=some s->(n8 g.rows k p↔vQ m k s):=by
 have a:∀ {p s},g.met[p]?=some s->∃ r,g.rows[p]?=some r/\Paired (λ o b=>qJ g.met (jY m s o) b) (s.orders m) r:=λ {p s} e=>by
   have w:p<g.rows.length:=by rw [D];exact (QQ.mp e).1
   exact ⟨_,Vo w,h.rows p s _ e (Vo w)⟩
 intro k;induction k with
 | zero =>
   intro p s e;obtain ⟨r,E,H⟩:=a e;have L:=H.length;show g.rows[p]?=some []↔s.orders m=[]
   rw [E];refine ⟨λ z=>?_,λ z=>?_⟩
   . rw [aaO z] at L;exact adL.mp L
   . rw [z] at L;rw [adL.mp L.symm]
 | succ k I =>
   intro p s e;obtain ⟨r,E,H⟩:=a e;refine ⟨λ ⟨F,T,q⟩ o n=>?_,λ q=>⟨r,E,λ c v A=>?_⟩⟩
   .
    rw [E] at T;cases T;obtain ⟨b,B,R⟩:=vJ H o n;obtain ⟨c,C,x⟩:=acF.mp B;have:=q c b (by rw [Vo C,x]);cases y:jY m s o with
    | none=>exact .inl rfl
    | some l =>
      rw [y] at R;cases b with
      | none=>exact R.elim
      | some J =>
        rcases this with z|⟨M,z,j,f,i⟩
        . cases z
        . cases z;obtain ⟨t,u,d⟩:=vJ (show Paired _ J l from R) j f;exact .inr ⟨l,rfl,t,u,(I j t d).mp i⟩
   .
    obtain ⟨o,n,R⟩:=uz H v (aal A);cases v with
    | none=>exact .inl rfl
    | some J =>
      rcases q o n with z|⟨l,z,t,u,i⟩
      . rw [z] at R;exact R.elim
      . rw [z] at R;obtain ⟨j,f,d⟩:=uz (show Paired _ J l from R) t u;exact .inr ⟨J,rfl,j,f,(I j t d).mpr i⟩
def ig (m:aq) (s:cg):Option Nat->Prop
 | none=>∀ k,¬vQ m k s
 | some k=>vQ m k s/\∀ i,i<k->¬vQ m i s
def iE.rank {m:aq} {g:qN} {S:kc} (h:iE g.rows S cur) (n:gb g.rows S) (G:∀ j∈S.queue,yb g.rows S j) (ok:gv m g) (l:g.rows.length=g.met.length) {p:Nat} {s:cg} {v:Option Nat} (e:g.met[p]?=some s) (a:S.bI[p]?=some v):ig m s v:=by
 cases v with
 | none =>
   intro k q;obtain ⟨K,E,Z⟩:=h.whole n G k p ((ok.ill l k p s e).mpr q);rw [a] at E;cases E
 | some k =>
   refine ⟨(ok.ill l k p s e).mp (h.sound k p a),λ i H q=>?_⟩;obtain ⟨K,E,L⟩:=h.whole n G i p ((ok.ill l i p s e).mpr q);rw [a] at E;cases E;lia
def ig.le (h:ig m s a) (h':ig M s' b) (S:∀ k,vQ M k s'->vQ m k s):b=none\/∃ x y,a=some x/\b=some y/\x<=y:=by
 cases b with
 | none=>exact .inl rfl
 | some y =>
   have i:=S y h'.1;cases a with
   | none=>exact absurd i (h y)
   | some x=>exact .inr ⟨x,y,rfl,rfl,Nat.le_of_not_lt λ z=>h.2 y z i⟩
section
variable {m:aq} {a b c:Int}
def sS {s:cg} {h:Nat} (l:m.most<=a) (L:s.heap<=h) {o:Nat} (g:o∈s.orders m):o∈cg.orders { m with most:=a,eF:=b,load:=c } { s with heap:=h }:=by
 obtain ⟨f,d⟩:=acq.mp g;refine acq.mpr ⟨f,?_⟩;obtain ⟨d,H⟩:=ac0.mp d;refine ac0.mpr ⟨d,?_⟩;obtain ⟨H,e⟩:=ac0.mp H;have H:=adx H;have e:m.kQ o<=(s.heap:Int):=adx e;refine ac0.mpr ⟨aaM (ac3 H l),aaM ?_⟩;show m.kQ o<=(h:Int)
 lia
def J4 {s:cg} {h:Nat} {o:Nat}:(jY m s o=none/\jY { m with most:=a,eF:=b,load:=c } { s with heap:=h } o=none)\/(jY m s o=some (mm m s o)/\jY { m with most:=a,eF:=b,load:=c } { s with heap:=h } o=some (mm { m with most:=a,eF:=b,load:=c } { s with heap:=h } o)):=by
 by_cases q:(dO m s o).all (λ O=>jK m s (Ord.off o O))=true
 . exact .inr ⟨abE q,abE (show (dO { m with most:=a,eF:=b,load:=c } { s with heap:=h } o).all (λ O=>jK { m with most:=a,eF:=b,load:=c } { s with heap:=h } (Ord.off o O))=true from q)⟩
 . exact .inl ⟨abC q,abC (show ¬(dO { m with most:=a,eF:=b,load:=c } { s with heap:=h } o).all (λ O=>jK { m with most:=a,eF:=b,load:=c } { s with heap:=h } (Ord.off o O))=true from q)⟩
theorem BE (L:m.most<=a) (j:m.eF<=b) (lc:m.load<=c):∀ (k:Nat) (s:cg) (h:Nat),s.heap<=h->vQ { m with most:=a,eF:=b,load:=c } k { s with heap:=h }->vQ m k s
 | 0,s,h,f,q=>List.eq_nil_iff_forall_not_mem.mpr λ o H=>by
   have:=sS (b:=b) (c:=c) L f H;rw [show cg.orders { m with most:=a,eF:=b,load:=c } { s with heap:=h }=[] from q] at this;exact absurd this aak
 | k+1,s,h,f,q=>λ o H=>by
   rcases J4 (m:=m) (a:=a) (b:=b) (c:=c) (s:=s) (h:=h) (o:=o) with ⟨e,Z⟩|⟨e,E⟩
   . exact .inl e
   .
    rcases q o (sS L f H) with z|⟨l,z,t,d,i⟩
    . rw [E] at z;cases z
    .
     rw [E] at z;cases z;obtain ⟨O,n,d⟩:=ads.mp d;obtain ⟨B,g,rfl⟩:=abm.mp d;refine .inr ⟨_,e,s.behind m B o O,ads.mpr ⟨O,n,abm.mpr ⟨B,g,rfl⟩⟩,?_⟩;refine BE L j lc k (s.behind m B o O) _ ?_ (show vQ _ k { s.behind m B o O with heap:=(cg.jH { m with most:=a,eF:=b,load:=c } { s with heap:=h } (Ord.off o O)).toNat } from i);show (s.jH m (Ord.off o O)).toNat<=_;refine Int.toNat_le_toNat ?_;show min m.eF ((s.heap:Int) - m.kQ (Ord.off o O)+m.load)<=min b ((h:Int) - m.kQ (Ord.off o O)+c);lia
end
section
variable {X:Cx}
inductive U7 (K:aA) (x:V) (y:V) (H:Hp) (Q:VK):Prop|mk (p xs:_) (i:Nat) (v:_) (_:x = .ref p) (_:y=ao i) (_:aY K H p xs) (_:xs[i]?=some v) (_:Q v H)
def Ju:Uv X (U7 X.K):=by
 intro b s n H x y v u Q I R f h;obtain ⟨p,m,i,z,rfl,rfl,c,a,q⟩:=h;cases R;obtain ⟨t,rfl⟩:=f;obtain ⟨B,r,d,l⟩:=I.list c;obtain ⟨w,e,M⟩:=r.get a;have j:=r.length;have k:=vP;have g:=(QQ.mp a).1;exact wpAny_getItem_list d.isList (acD i) (by lia) (by rw [acz];simpa using e) ⟨z,H,I,M,q⟩
end
def hX:Option Nat->V
 | none => .cT
 | some n=>ao n
abbrev Sy (pl pg pk pq:ak):List (Str×V):=[("lasts",.ref pl),("going",.ref pg),("ranks",.ref pk),("queue",.ref pq)]
structure iD (CR:ak) (H:Hp) (x pl pg pk pq:ak) (qs:bA) (S:kc):Prop where
 ins:∃ dx,H x=some (.ins CR dx (Sy pl pg pk pq))
 las:H pl=some (.lst (qs.map .ref))
 len:qs.length=S.bG.length
 DO:∀ (i:Nat) q l,qs[i]?=some q->S.bG[i]?=some l->H q=some (.lst (l.map hX))
 Tz:H pg=some (.lst (S.dF.map ao))
 VF:H pk=some (.lst (S.bI.map hX))
 Ww:H pq=some (.lst (S.queue.map ao))
 nd:(pl::pg::pk::pq::qs).Nodup
def map_set {b c:Type} (f:b->c) (l:List b) (i:Nat) (a:b):(l.map f).set i (f a)=(l.set i a).map f:=List.map_set.symm
def iD.fin {CR:ak} {x pl g u v q:ak} {Q:bA} {S:kc} {p c t n:Nat} {l:List (Option Nat)} (h:iD CR H x pl g u v Q S) (d:Q[p]?=some q) (O:S.bG[p]?=some l) :
   iD CR (upd (upd H q (.lst ((l.map hX).set c (ao t)))) g (.lst ((S.dF.map ao).set p (ao (n - 1))))) x pl g u v Q ⟨S.bG.set p (l.set c (some t)),S.dF.set p (n - 1),S.bI,S.queue⟩:=by
 obtain ⟨⟨G,b⟩,I,J,o,K,L,M,r⟩:=h;have W:=aal d;simp only [abZ,aah,adE] at r;obtain ⟨⟨A,w,y,j⟩,⟨B,k,m⟩,⟨F,C⟩,D,s⟩:=r;have N:∀ {a},a∉Q->a≠q:=λ n z=>n (z ▸ W);have Y:=o p q l d O;refine ⟨⟨G,?_⟩,?_,?_,λ i V U e E=>?_,?_,?_,?_,?_⟩
 . rw [av (λ z=>by rw [z,K] at b;cases b),av (λ z=>by rw [z,Y] at b;cases b)];exact b
 . rw [av A,av (N j)];exact I
 . rw [adh];exact J
 .
  rw [av (λ z=>m (by rw [<- z];exact aal e))];by_cases f:p=i
  .
   subst f;rw [d] at e;cases e;rw [ag];rcases cZ.mp E with ⟨Z,Z,E⟩|⟨z,Z⟩
   . rw [E];exact adB some (adB HO.lst (map_set hX l c (some t)))
   . exact absurd rfl z
  .
   rcases cZ.mp E with ⟨z,Z⟩|⟨Z,E⟩
   . exact absurd z f
   rw [av (λ z=>?_)]
   . exact o i V U e E
   . rw [z] at e;obtain ⟨X,R⟩:=QQ.mp d;obtain ⟨i2,T⟩:=QQ.mp e;exact f ((afx s).mp (R.trans T.symm))
 . rw [ag,map_set]
 . rw [av (λ z=>B z.symm),av (N C)];exact L
 . rw [av (λ z=>k z.symm),av (N D)];exact M
 . simp only [abZ,aah,adE];exact ⟨⟨A,w,y,j⟩,⟨B,k,m⟩,⟨F,C⟩,D,s⟩
def iD.Y5 {CR:ak} {t:Nat} (h:iD CR H x pl f c d q S) :
   iD CR (upd (upd H c (.lst ((S.bI.map hX).set p (ao (t+1))))) d (.lst (S.queue.map ao++[ao p]))) x pl f c d q ⟨S.bG,S.dF,S.bI.set p (some (t+1)),S.queue++[p]⟩:=by
 obtain ⟨⟨l,a⟩,m,n,o,r,s,u,b⟩:=h;have N:=b;simp only [abZ,aah,adE] at b;obtain ⟨⟨v,A,g,w⟩,⟨B,j,y⟩,⟨C,k⟩,D,Z⟩:=b;refine ⟨⟨l,?_⟩,?_,n,λ i Q L e E=>?_,?_,?_,?_,N⟩
 . rw [av (λ z=>by rw [z,u] at a;cases a),av (λ z=>by rw [z,s] at a;cases a)];exact a
 . rw [av g,av A];exact m
 . have:=aal e;rw [av (λ z=>D (by rw [<- z];exact this)),av (λ z=>k (by rw [<- z];exact this))];exact o i Q L e E
 . rw [av j,av B];exact r
 . rw [av C,ag];exact adB some (adB HO.lst (map_set hX S.bI p (some (t+1))))
 . rw [ag,aap];rfl
inductive Pl (CR:ak) (vs:az) (H:Hp) (Q:VK) (_E:XK):Prop|mk (x pl pg pk pq qs S:_) (p c t n:Nat) (l:_) (_:vs=[.ref x,ao p,ao c,ao t]) (_:iD CR H x pl pg pk pq qs S) (_:S.bG[p]?=some l) (_:c<l.length) (_:S.dF[p]?=some n) (_:n≠0) (_:p<S.bI.length) (_:S.queue.length<=10000) (_:∀ H',gU (pl::pg::pk::pq::qs) H H'->iD CR H' x pl pg pk pq qs (S.fin p c t l n)->Q .cT H')
abbrev IN (pl pg pk pq:ak) (qs:bA):bA:=pl::pg::pk::pq::qs
structure BZ (S S1:kc):Prop where
 qu:∃ more,S1.queue=S.queue++more
 rk:∀ (j k:Nat),S.bI[j]?=some (some k)->S1.bI[j]?=some (some k)
 la:∀ (p:Nat) l (c:Nat) t,S.bG[p]?=some l->l[c]?=some (some t)->∃ l',S1.bG[p]?=some l'/\l'[c]?=some (some t)
def BZ.refl (S:kc):BZ S S:=⟨⟨[],(acB _).symm⟩,λ Z Z h=>h,λ Z l Z Z h H=>⟨l,h,H⟩⟩
def BZ.trans (a:BZ S s) (b:BZ s S2):BZ S S2:=by
 refine ⟨?_,λ j k h=>b.rk j k (a.rk j k h),λ p l c t h H=>?_⟩
 . obtain ⟨m,e⟩:=a.qu;obtain ⟨M,E⟩:=b.qu;exact ⟨m++M,by rw [E,e,adY]⟩
 . obtain ⟨L,d,f⟩:=a.la p l c t h H;exact b.la p L c t d f
def iE.Tt {p c:Nat} (h:iE rows S cur) (b:S.bG[p]?=some l) (d:S.dF[p]?=some n) (a:l[c]?=some none):BZ S (S.fin p c t l n):=by
 refine ⟨?_,λ j k e=>h.Gs b d a e,λ f L c' T e E=>xE b a e E⟩;by_cases H:n=1
 . exact ⟨[p],abE H⟩
 . exact ⟨[],(abC H).trans (acB _).symm⟩
def yb.more (g:yb rows S j) (x:BZ S s):yb rows s j:=λ p r c J f d H=>by
 obtain ⟨l,t,k,e,E,a,b⟩:=g p r c J f d H;obtain ⟨L,F,h⟩:=x.la p l c t e E;exact ⟨L,t,k,F,h,x.rk j k a,b⟩
def gb.more (g:gb rows S) (x:BZ S S1):gb rows S1:=λ p r c b a=>by
 obtain ⟨l,e,E⟩:=g p r c b a;exact x.la p l c 0 e E
def BZ.at {i:Nat} (x:BZ S s) (e:S.queue[i]?=some j):s.queue[i]?=some j:=by
 obtain ⟨m,E⟩:=x.qu;rw [E,aaG (QQ.mp e).1];exact e
def iE.ql (h:iE rows S cur):S.queue.length<=rows.length:=by
 have:=adI h.nd (l₂:=List.range rows.length) λ p H=>by
   obtain ⟨k,e⟩:=(h.qu p).mp H;exact aa4.mpr (by rw [<- h.lk];exact (QQ.mp e).1)
 rw [aax] at this;exact this
def JR (K:aA) (H:Hp) (F:bA) (p:ak) (A:List (List (Nat×Nat))):Prop:=∃ v,H p=some (.lst v)/\p∉F/\Refs (λ q l=>q∉F/\∃ V,H q=some (.lst V)/\Refs (λ b (a:Nat×Nat)=>bP K H b [ao a.1,ao a.2]) V l) v A
def JR.but {K:aA} (h:JR K H F c ah) (b:gU F H H') (t:aS K H H'):JR K H' F c ah:=by
 obtain ⟨v,d,a,f⟩:=h;exact ⟨v,b _ _ d a,a,f.imp λ q l ⟨n,V,e,r⟩=>⟨n,V,b _ _ e n,r.imp λ p g z=>t _ _ z⟩⟩
def O2 (rows:List bX) (a:List (List (Nat×Nat))):Prop:=a.length=rows.length/\∀ (j:Nat) l p c,a[j]?=some l->((p,c)∈l↔∃ r:bX,∃ J,rows[p]?=some r/\r[c]?=some (some J)/\j∈J)
def iD.uO {CR:ak} (h:iD CR H x pl p d e q S):HD H (IN pl p d e q):=λ b a=>by
 simp only [aah] at a;rcases a with rfl|rfl|rfl|rfl|a
 . exact ⟨_,h.las,rfl⟩
 . exact ⟨_,h.Tz,rfl⟩
 . exact ⟨_,h.VF,rfl⟩
 . exact ⟨_,h.Ww,rfl⟩
 . obtain ⟨i,c,rfl⟩:=acF.mp a;have D:i<S.bG.length:=by rw [<- h.len];exact c
   exact ⟨_,h.DO i _ _ (Vo c) (Vo D),rfl⟩
def Er {K:aA} (h:HD H L) (b:gU L H H'):aS K H H':=λ c x q=>by
 have n:∀ u,H c=some u->DS u=false->c∉L:=λ u e z y=>by
   obtain ⟨o,E,n⟩:=h c y;rw [e] at E;cases E;rw [n] at z;cases z
 rcases q with (q|⟨O,q⟩)|q
 . exact .inl (.inl (b _ _ q (n _ q rfl)))
 . exact .inl (.inr ⟨O,b _ _ q (n _ q rfl)⟩)
 . exact .inr q
def Bj (a:gU L H d) (b:gU L d H2):gU L H H2:=λ c o h n=>b c o (a c o h n) n
inductive Gz (K:aA) (CR:ak) (vs:az) (H:Hp) (Q:VK) (_E:XK):Prop|mk (x pl pg pk pq qs S pa ah rows:_) (_:vs=[.ref x,.ref pa]) (_:iD CR H x pl pg pk pq qs S) (_:iE rows S 0) (_:gb rows S) (_:JR K H (IN pl pg pk pq qs) pa ah) (_:O2 rows ah) (_:rows.length<=2000) (_:∀ H' S' cur,gU (IN pl pg pk pq qs) H H'->iD CR H' x pl pg pk pq qs S'->iE rows S' cur->gb rows S'->(∀ j∈S'.queue,yb rows S' j)->Q .cT H')
def KL (K:aA) (t:String):W.kitOne K (.type t) (.type t)=some true:=by
 unfold W.kitOne;rw [abE (beq_self_eq_true _)]
def InH (m:aq) (i:Int):Prop:=0<=i/\i<(m.rows.length:Int)
instance (m:aq) (i:Int):Decidable (InH m i):=inferInstanceAs (Decidable (_/\_))
end L2
namespace PySem
open Sem (wp)
end PySem
namespace L2
open PySem PySem.Spec PyProof.Rows Mth
def yE {sq:Hp->ak->az->Prop} {xs:az} {g:TG} {tb:TS} {D:Ends} (b:Nat->St->Hp->Prop) (h0:b 0 σ H) (l:∀ i σ H,i<=xs.length->b i σ H->sq H a xs)
   (r:∀ i x p σ H,xs[i]?=some x->H p=none->b i σ H->g (.ref p) σ (upd H p (.tup [ao i,x])) λ d f=>tb ⟨b (i+1),D.rt,D.nx,b (i+1)⟩ d f) (j:∀ σ H,b xs.length σ H->D.nx σ H) :
   ∃ W:Nat->Nat->St->Hp->Prop,(∃ m,W 0 m σ H)/\∀ i m σ H,W i m σ H ->
     ((Hv sq a).stop i H/\D.nx σ H)\/((Hv sq a).go i H/\∃ N:St->Hp->Prop,(∀ c h,N c h->∃ M,M<m/\W (i+1) M c h)/\∀ x h,(Hv sq a).K9 i H x h->g x σ h λ d f=>tb { D with nx:=N,ct:=N,bk:=D.nx } d f):=by
 refine ⟨λ i m σ H=>m=xs.length - i/\i<=xs.length/\b i σ H,⟨_,rfl,ach _,h0⟩,?_⟩;rintro i m σ H ⟨rfl,k,p⟩;have q:=l i σ H k p;by_cases o:i<xs.length
 . refine .inr ⟨⟨xs,xs[i],q,by simp [o]⟩,b (i+1),λ c h s=>⟨xs.length - (i+1),by lia,rfl,o,s⟩,λ v h y=>?_⟩;obtain ⟨t,x,n,rfl,rfl,E⟩:=y;exact r i x t σ H (E xs q) n p
 . have e:i=xs.length:=by lia
   subst e;exact .inl ⟨⟨xs,q,rfl⟩,j σ H p⟩
end L2
namespace Mth
noncomputable def qv (f:Int×Int):Rat:=(f.1:Rat) / (f.2:Rat)
def ia {b:Int} (h:0<b):(b:Rat)≠0:=λ z=>by
 have:b=0:=by exact_mod_cast z
 lia
def qx {b:Int} (h:0<b):(0:Rat)<(b:Rat):=by exact_mod_cast h
def Ue {f:Int×Int} {t b:Int} (h:0<b) (H:0<f.2) (c:f.1 * b=t * f.2):qv f=(t:Rat) / (b:Rat):=by
 have a:=ia H;have d:=ia h;have C:(f.1:Rat) * (b:Rat)=(t:Rat) * (f.2:Rat):=by exact_mod_cast c
 unfold qv
 grind
def EI {t b:Int} (h:0<b):qv (nf t b)=(t:Rat) / (b:Rat):=Ue h (mL h).pos (mL h).ED
def AI {x y:Int×Int} (h:0<x.2) (H:0<y.2):qv (lA x y)=qv x - qv y:=by
 unfold lA;rw [EI (adu h H)];have a:=ia h;have b:=ia H;have e:((x.1 * y.2 - y.1 * x.2:Int):Rat)=(x.1:Rat) * (y.2:Rat) - (y.1:Rat) * (x.2:Rat):=by push_cast;rfl
 have E:((x.2 * y.2:Int):Rat)=(x.2:Rat) * (y.2:Rat):=by push_cast;rfl
 unfold qv;rw [e,E]
 grind
def Es {x y:Int×Int} (h:0<x.2) (H:0<y.2):qv (n9 x y)=qv x+qv y:=by
 unfold n9;rw [EI (adu h H)];have a:=ia h;have b:=ia H;have e:((x.1 * y.2+y.1 * x.2:Int):Rat)=(x.1:Rat) * (y.2:Rat)+(y.1:Rat) * (x.2:Rat):=by push_cast;rfl
 have E:((x.2 * y.2:Int):Rat)=(x.2:Rat) * (y.2:Rat):=by push_cast;rfl
 unfold qv;rw [e,E]
 grind
def zV {x y:Int×Int} (H:0<x.2) (c:0<y.2):ce x y=true↔qv x<qv y:=by
 unfold ce;rw [acu];have d:=qx H;have f:=qx c;have ex:qv x * (x.2:Rat)=(x.1:Rat):=by unfold qv;have:=ia H;grind
 have E:qv y * (y.2:Rat)=(y.1:Rat):=by unfold qv;have:=ia c;grind
 have e:(x.1 * y.2<y.1 * x.2)↔(qv x * (x.2:Rat) * (y.2:Rat)<qv y * (y.2:Rat) * (x.2:Rat)):=by
   rw [ex,E];constructor
   . intro h;exact_mod_cast h
   . intro h;exact_mod_cast h
 rw [e];generalize qv x=a;generalize qv y=b;have p:(0:Rat)<(x.2:Rat) * (y.2:Rat):=Rat.mul_pos d f;have r:a * (x.2:Rat) * (y.2:Rat)=a * ((x.2:Rat) * (y.2:Rat)):=by grind
 have R:b * (y.2:Rat) * (x.2:Rat)=b * ((x.2:Rat) * (y.2:Rat)):=by grind
 rw [r,R];exact afd p
def AJ {x y:Int×Int} (H:0<x.2) (a:0<y.2) (h:qv y<=qv x):ce x y=false:=by
 refine Bool.eq_false_iff.mpr λ z=>?_;have:=(zV H a).mp z
 grind
def NR {x:Int×Int} (H:0<x.2):0<=qv x↔0<=x.1:=by
 have c:=qx H;have ex:qv x * (x.2:Rat)=(x.1:Rat):=by unfold qv;have:=ia H;grind
 constructor
 . intro h;have:(0:Rat)<=(x.1:Rat):=by rw [<- ex];exact Rat.mul_nonneg h (af7 c)
   exact_mod_cast this
 .
  intro h;have d:(0:Rat)<=(x.1:Rat):=by exact_mod_cast h
  rcases Rat.le_total (a:=0) (b:=qv x) with z|z
  . exact z
  .
   have:qv x * (x.2:Rat)<=0:=by
     have:=aft z (af7 c)
     grind
   rw [ex] at this;have e:(x.1:Rat)=0:=by grind
   have:qv x=0:=by
     have n:=ia H;rw [e] at ex
     grind
   grind
end Mth
namespace L2
open PySem PySem.Spec PyProof.Rows Mth
variable {H H0:Hp}
def GG (m:aq) (i:Nat):Nat->Rat
 | 0=>0
 | n+1=>GG m i n+qv (m.fC i n)
theorem zU {m:aq} (w:m.Wf) (i:Nat):∀ n,qv (m.gR i n)=1 - qv (m.ft i) - GG m i n
 | 0=>by
   have e:m.gR i 0=lA (1,1) (m.ft i):=rfl;rw [e,AI (by decide) (w.ft i).p];have:qv (1,1)=1:=by unfold qv;grind
   rw [this];show _=1 - qv (m.ft i) - 0
   grind
 | n+1=>by
   rw [aq.oZ,AI (w.gR i n).p (w.fC i n).p,zU w i n];show _=1 - qv (m.ft i) - (GG m i n+qv (m.fC i n))
   grind
def Ks {m:aq} (w:m.Wf) (i:Nat):qv (m.own i)=1 - qv (m.ft i) - GG m i m.rows.length:=zU w i _
def Qr (f:cy):Prop:=0<=qv f/\4 * qv f<=1
def qr0:Qr (0,1):=by
 have:qv (0,1)=0:=by unfold qv;grind
 unfold Qr;rw [this];constructor<;>grind
structure QH (m:aq):Prop where
 uG:∀ i,Qr (m.ft i)
 fC:∀ i j,Qr (m.fC i j)
 self:∀ i,m.fC i i=(0,1)
noncomputable def uj (i j:Nat):Nat->Nat
 | 0=>0
 | k+1=>uj i j k+(if k=i\/k=j then 0 else 1)
def ac6:∀ n:Fin 5,∀ i j:Fin 4,i.val<n.val->j.val<n.val->i≠j->uj i.val j.val n.val<=2:=by decide
def ZT:∀ n:Fin 5,∀ i:Fin 4,i.val<n.val->uj i.val i.val n.val<=3:=by decide
theorem zg (h:QH m) (i j:Nat):∀ n,GG m i n<=(if j<n then qv (m.fC i j) else 0)+(uj i j n:Rat) / 4
 | 0=>by
   rw [abC (adg j)];show (0:Rat)<=0+((0:Nat):Rat) / 4;have:((0:Nat):Rat)=0:=rfl
   grind
 | n+1=>by
   have I:=zg h i j n;have Q:=(h.fC i n).2;have q:=(h.fC i n).1;show GG m i n+qv (m.fC i n)<=_+(((uj i j n+(if n=i\/n=j then 0 else 1):Nat)):Rat) / 4;by_cases a:n=j
   .
    subst a;rw [abC (adl _)] at I;have c:(if n=i\/n=n then 0 else 1)=0:=abE (Or.inr rfl);rw [abE (aeW _),c];have e:((uj i n n+0:Nat):Rat)=(uj i n n:Rat):=rfl;rw [e]
    grind
   .
    have E:(if j<n+1 then qv (m.fC i j) else 0)=(if j<n then qv (m.fC i j) else 0):=by
      by_cases z:j<n
      . rw [abE z,abE (by lia)]
      . rw [abC z,abC (by lia)]
    rw [E];by_cases H:n=i
    .
     subst H;have c:(if n=n\/n=j then 0 else 1)=0:=abE (Or.inl rfl);rw [c];have e:((uj n j n+0:Nat):Rat)=(uj n j n:Rat):=rfl;have z:qv (m.fC n n)=0:=by rw [h.self];unfold qv;grind
     rw [e,z]
     grind
    . have c:(if n=i\/n=j then 0 else 1)=1:=abC (λ z=>z.elim H a);rw [c];have e:((uj i j n+1:Nat):Rat)=(uj i j n:Rat)+1:=by push_cast;rfl
      rw [e]
      grind
section
variable {m:aq} {n i j:Nat} {f:cy}
theorem EE {k c:Nat} (h:k<=c):(k:Rat)<=(c:Rat):=by exact_mod_cast h
theorem QH.JX (h:QH m) (w:m.Wf) (l:m.rows.length<=4) (g:i<m.rows.length) (H:j<m.rows.length) (D:i≠j) (d:0<f.2) (n:4 * qv f<=1):ce (n9 (m.own i) (m.fC i j)) f=false:=by
 have a:=(w.gR i m.rows.length).p;have b:=(w.fC i j).p;have e:=Es (x:=m.own i) (y:=m.fC i j) a b;refine AJ (mL (adu a b)).pos d ?_;rw [e,Ks w];have s:=zg h i j m.rows.length;rw [abE H] at s;have c:=ac6 ⟨m.rows.length,by lia⟩ ⟨i,by lia⟩ ⟨j,by lia⟩ g H (λ z=>D (adB Fin.val z));have C:=EE c;have E:((2:Nat):Rat)=2:=rfl;have k:=(h.uG i).2
 grind
theorem QH.MV (h:QH m) (w:m.Wf) (g:m.rows.length<=4) (H:i<m.rows.length) (d:0<f.2) (j:4 * qv f<=1):ce (n9 (m.own i) (m.ft i)) f=false:=by
 have a:=(w.gR i m.rows.length).p;have b:=(w.ft i).p;have e:=Es (x:=m.own i) (y:=m.ft i) a b;refine AJ (mL (adu a b)).pos d ?_;rw [e,Ks w];have s:=zg h i i m.rows.length;rw [abE H] at s;have c:=ZT ⟨m.rows.length,by lia⟩ ⟨i,by lia⟩ H;have C:=EE c;have E:((3:Nat):Rat)=3:=rfl;have z:qv (m.fC i i)=0:=by rw [h.self];unfold qv;grind
 have k:=(h.uG i).2
 grind
theorem QH.eR (h:QH m) (D:i≠j) (H:Qr f):QH (m.eR i j f):=by
 refine ⟨h.uG,λ a b=>?_,λ a=>?_⟩
 .
  rw [pM];by_cases e:a=i/\b=j
  . rw [abE e];exact H
  . rw [abC e];exact h.fC a b
 . rw [pM,abC (λ z=>D (z.1.symm.trans z.2))];exact h.self a
theorem QH.gw {z:cy×cy×cy} (h:QH m) (b:i<m.bK.length) (H:Qr z.1):QH (m.gw i z):=by
 refine ⟨λ a=>?_,h.fC,h.self⟩;rw [BS b];by_cases e:a=i
 . rw [abE e];exact H
 . rw [abC e];exact h.uG a
theorem QH.eI (h:QH m):QH (m.eI i z):=⟨h.uG,h.fC,h.self⟩
theorem Hy (a:Nat):(m.eY r).ft a=m.ft a:=by
 unfold aq.ft aq.eY;show (((m.bK++[((0,1),(0,1),(0,1))])[a]?).map (·.1)).getD (0,1)=_;by_cases e:a<m.bK.length
 . rw [aaG e]
 .
  rw [abW (by lia),ae6 (l:=m.bK) (by lia)];by_cases z:a - m.bK.length=0
  . rw [z];rfl
  . rw [ae6 (by show 1<=_;lia)]
theorem QH.eY (h:QH m):QH (m.eY r):=⟨λ a=>by rw [Hy];exact h.uG a,h.fC,h.self⟩
theorem QH.new {most eF load:Int}:QH (aq.new most eF load):=⟨λ Z=>qr0,λ Z Z=>qr0,λ Z=>rfl⟩
end
structure gI (m:aq):Prop where
 rise:∀ r∈m.rows,jS r=true/\r.length<=5
 uG:∀ s∈m.bK,ce s.2.2 s.2.1=false
 bM:∀ x,some x∈m.bw->0<=x.1.1/\(0<=x.2.1/\x.2.1<=9)/\(0<=x.2.2.1/\x.2.2.1<=3)/\(0<=x.2.2.2/\x.2.2.2<=3)
 O7:m.Bds
def Oj {R:List (List cy)} (h:∀ r∈R,2<=r.length/\r.length<=5):0<=iP R/\iP R<=4 ^ R.length:=by
 have k:∀ (R:List (List cy)) (a:Int),0<=a->(∀ r∈R,2<=r.length/\r.length<=5)->0<=R.foldl (λ p r=>p * ((r.length:Int) - 1)) a/\R.foldl (λ p r=>p * ((r.length:Int) - 1)) a<=a * 4 ^ R.length:=by
   intro R;induction R with
   | nil=>intro a H Z;exact ⟨H,by show a<=a * 1;lia⟩
   | cons r R i =>
     intro a H b;have f:=b r (by simp);rw [ae8];have B:0<=a * ((r.length:Int) - 1):=adT H (by lia);obtain ⟨x,y⟩:=i (a * ((r.length:Int) - 1)) B λ q c=>b q (by simp [c]);refine ⟨x,ac3 y ?_⟩;have l:a * ((r.length:Int) - 1)<=a * 4:=Int.mul_le_mul_of_nonneg_left (by lia) H;have d:(0:Int)<=4 ^ R.length:=Int.pow_nonneg (by decide);have:=Int.mul_le_mul_of_nonneg_right l d;rw [ab9,Int.pow_succ];have e:a * (4 ^ R.length * 4)=a * 4 * 4 ^ R.length:=by grind
     rw [e];exact this
 have:=k R 1 (by decide) h;rw [Int.one_mul] at this;exact this
def KE {R:List (List cy)} (h:∀ r∈R,2<=r.length/\r.length<=5) (H:R.length<=4):iP R<=400:=by
 have a:=(Oj h).2;have:(4:Int) ^ R.length<=256:=by
   have:R.length=0\/R.length=1\/R.length=2\/R.length=3\/R.length=4:=by lia
   rcases this with e|e|e|e|e<;>rw [e]<;>decide
 lia
def KO {X:Cx} {K:aA} (h:X.K=K) (H:PE X l t):PI X T l (Nf K t):=by subst h;exact bS H
noncomputable def NC (m:aq) (r:Nat):cy×cy×cy:=(m.bK[r]?).getD ((0,1),(0,1),(0,1))
noncomputable def DR (m:aq) (r:Nat):Option (cy×Int×Int×Int):=(m.bw[r]?).getD none
structure Cb where
 a:Int
 b:Int
 t:Int
 d:Int
noncomputable abbrev Cb.vs (s:Cb):az:=[.int s.a,.int s.b,.int s.t,.int s.d]
structure Cb.Ok (s:Cb):Prop where
 a:1<=s.a/\s.a<=10 ^ 9
 b:1<=s.b/\s.b<=10 ^ 9
 t:s.t.natAbs<=10 ^ 9
 d:1<=s.d/\s.d<=10 ^ 9
def eh (x:Int) (s:Cb):cy:=nf (x * s.a * s.d+s.t * s.b) (s.b * s.d)
def AG {a b:Int} {x y:Nat} (h:a.natAbs<=x) (H:b.natAbs<=y):(a * b).natAbs<=x * y:=by
 rw [aeG];exact Nat.mul_le_mul h H
def Cb.Ok.den {s:Cb} (h:s.Ok):0<s.b * s.d/\(s.b * s.d).natAbs<=10 ^ 18:=by
 have H:=h.b;have a:=h.d;exact ⟨adu (by lia) (by lia),abk (AG (x:=10 ^ 9) (y:=10 ^ 9) (by lia) (by lia)) (by decide)⟩
def Cb.Ok.num {s:Cb} (h:s.Ok) {x:Int} (H:x.natAbs<=1000):(x * s.a).natAbs<=10 ^ 12/\(x * s.a * s.d).natAbs<=10 ^ 21/\(s.t * s.b).natAbs<=10 ^ 18:=by
 have f:=h.a;have g:=h.b;have i:=h.d;have e:=AG (x:=1000) (y:=10 ^ 9) H (show s.a.natAbs<=10 ^ 9 by lia);have E:=AG (x:=10 ^ 12) (y:=10 ^ 9) (a:=x * s.a) (by lia) (show s.d.natAbs<=10 ^ 9 by lia);have c:=AG (x:=10 ^ 9) (y:=10 ^ 9) h.t (show s.b.natAbs<=10 ^ 9 by lia);exact ⟨by lia,by lia,by lia⟩
def mU {s:Cb} (h:s.Ok) {x:Int} (H:x.natAbs<=1000):fW 100 (eh x s):=by
 obtain ⟨D,c⟩:=h.den;obtain ⟨n,N,e⟩:=h.num H;have F:=mL (t:=x * s.a * s.d+s.t * s.b) D;refine ⟨F.Ud (show Int.natAbs _<2 ^ 100 by lia),F.U2 (show Int.natAbs _<2 ^ 100 by lia),F.pos⟩
def EC {s:Cb} (h:s.Ok) (x:Int):qv (eh x s)=(x:Rat) * ((s.a:Rat) / (s.b:Rat))+(s.t:Rat) / (s.d:Rat):=by
 unfold eh;rw [EI h.den.1];have H:=ia (show 0<s.b by have:=h.b;lia);have c:=ia (show 0<s.d by have:=h.d;lia);have e:((x * s.a * s.d+s.t * s.b:Int):Rat)=(x:Rat) * (s.a:Rat) * (s.d:Rat)+(s.t:Rat) * (s.b:Rat):=by push_cast;rfl
 have E:((s.b * s.d:Int):Rat)=(s.b:Rat) * (s.d:Rat):=by push_cast;rfl
 rw [e,E]
 grind
def BY {s:Cb} (h:s.Ok) {x y:Int} (H:x.natAbs<=1000) (f:y.natAbs<=1000):ce (eh x s) (eh y s)=decide (x<y):=by
 have A:(0:Rat)<(s.a:Rat) / (s.b:Rat):=by
   have j:=qx (show 0<s.a by have:=h.a;lia);have i:=qx (show 0<s.b by have:=h.b;lia);have e:(s.a:Rat) / (s.b:Rat) * (s.b:Rat)=(s.a:Rat):=by have:=ia (show 0<s.b by have:=h.b;lia);grind
   rcases Rat.le_total (a:=(s.a:Rat) / (s.b:Rat)) (b:=0) with z|z
   . have:=aft z (af7 i)
     grind
   . have n:(s.a:Rat) / (s.b:Rat)≠0:=λ q=>by rw [q] at e;grind
     grind
 have k:ce (eh x s) (eh y s)=true↔x<y:=by
   rw [zV (mU h H).p (mU h f).p,EC h,EC h];generalize (s.a:Rat) / (s.b:Rat)=c at A;generalize (s.t:Rat) / (s.d:Rat)=e;constructor
   . intro l;have g:(x:Rat) * c<(y:Rat) * c:=by grind
     have:=(afd A).mp g
     exact_mod_cast this
   . intro l;have L:(x:Rat)<(y:Rat):=by exact_mod_cast l
     have:=(afd A).mpr L
     grind
 rw [adH,k,acu]
structure R7 where
 marks:List Int
 share:Int
 low:Int
 high:Int
 bM:Option (Int×Int×Int×Int)
abbrev K6 (r:R7):PyData:=.tuple [.list (r.marks.map PyData.int),.int r.share,.int r.low,.int r.high,stI r.bM]
structure R7.Ok (r:R7):Prop where
 len:2<=r.marks.length/\r.marks.length<=5
 rise:∀ (i:Nat) (x y:Int),r.marks[i]?=some x->r.marks[i+1]?=some y->x<y
 bd:∀ x∈r.marks,x.natAbs<=200
 sh:1<=r.share/\r.share<=3
 lo:r.low<=r.high
 lb:r.low.natAbs<=300
 hb:r.high.natAbs<=300
 st:∀ z,r.bM=some z->(0<=z.1/\z.1<=100)/\(0<=z.2.1/\z.2.1<=9)/\(0<=z.2.2.1/\z.2.2.1<=3)/\(0<=z.2.2.2/\z.2.2.2<=3)
section
variable (K:aA) (C:ak)
inductive FY (vs:az) (H:Hp) (Q:VK) (_E:XK):Prop|mk (c:Int) (_:vs=[.int c]) (_:∀ p (s:Cb) H',s.Ok->aE H H'->H' p=some (.tup s.vs)->Q (.ref p) H')
inductive Iz (vs:az) (H:Hp) (Q:VK) (_E:XK):Prop|mk (x:Int) (p:ak) (s:Cb) (_:vs=[.int x,.ref p]) (_:bP K H p s.vs) (_:s.Ok) (_:x.natAbs<=1000) (_:∀ q H',aE H H'->H' q=some (.tup [.int (eh x s).1,.int (eh x s).2])->Q (.ref q) H')
end
theorem gI.eY (h:gI m) (a:jS r=true) (b:r.length<=5):gI (m.eY r):=by
 refine ⟨λ x H=>?_,λ x H=>?_,λ x H=>?_,h.O7⟩
 . rcases aaY.mp H with H|H
   . exact h.rise x H
   . rw [aac.mp H];exact ⟨a,b⟩
 . rcases aaY.mp H with H|H
   . exact h.uG x H
   . rw [aac.mp H];decide
 . rcases aaY.mp H with H|H
   . exact h.bM x H
   . cases aac.mp H
theorem gI.gw {z:cy×cy×cy} (h:gI m) (H:ce z.2.2 z.2.1=false):gI (m.gw i z) :=
 ⟨h.rise,λ x a=>(ad2 a).elim (h.uG x) (λ e=>by rw [e];exact H),h.bM,h.O7⟩
theorem gI.eI {z:cy×Int×Int×Int} (h:gI m) (H:0<=z.1.1/\(0<=z.2.1/\z.2.1<=9)/\(0<=z.2.2.1/\z.2.2.1<=3)/\(0<=z.2.2.2/\z.2.2.2<=3)):gI (m.eI i z) :=
 ⟨h.rise,h.uG,λ x a=>(ad2 a).elim (h.bM x) (λ e=>by cases e;exact H),h.O7⟩
theorem gI.eR (h:gI m):gI (m.eR i j z):=⟨h.rise,h.uG,h.bM,h.O7⟩
structure Ae (K:aA) (H0 H:Hp) (pa:ak) (as:bA) (ah:List (List (Nat×Nat))):Prop where
 sm:aE H0 H
 fr:∀ b∈pa::as,H0 b=none
 nd:(pa::as).Nodup
 le:as.length=ah.length
 hp:H pa=some (.lst (as.map .ref))
 DO:∀ (j:Nat) b l,as[j]?=some b->ah[j]?=some l->∃ vs,H b=some (.lst vs)/\Refs (λ b (pc:Nat×Nat)=>bP K H b [ao pc.1,ao pc.2]) vs l
def Ae.same {K:aA} (h:Ae K H0 H c as ah) (s:aE H a):Ae K H0 a c as ah :=
 ⟨h.sm.trans s,h.fr,h.nd,h.le,s _ _ h.hp,λ j b l e E=>by
   obtain ⟨v,d,f⟩:=h.DO j b l e E;exact ⟨v,s _ _ d,f.imp λ p g z=>s.ts _ _ z⟩⟩
def Ae.put {K:aA} {j:Nat} (h:Ae K H0 H k as A) (d:as[j]?=some b) (y:A[j]?=some l) (r:H b=some (.lst vs)) (v:Refs (λ b (a:Nat×Nat)=>bP K H b [ao a.1,ao a.2]) vs l) (s:bP K H t [ao p,ao c]):Ae K H0 (upd H b (.lst (vs++[.ref t]))) k as (A.set j (l++[(p,c)])):=by
 have T:aS K H (upd H b (.lst (vs++[.ref t]))):=bW r rfl;have g:=aal d;have n:=abZ.mp h.nd;refine ⟨λ x u e=>?_,h.fr,h.nd,?_,?_,λ i B L e E=>?_⟩
 .
  rw [av (λ z=>?_)]
  . exact h.sm x u e
  . rw [z,h.fr b (aar _ g)] at e;cases e
 . rw [adh];exact h.le
 . rw [av (λ z=>n.1 (by rw [z];exact g))];exact h.hp
 .
  by_cases f:j=i
  .
   subst f;rw [d] at e;cases e;rcases cZ.mp E with ⟨Z,Z,E⟩|⟨z,Z⟩
   . rw [E];exact ⟨_,ag,Refs.snoc (v.imp λ p a z=>T _ _ z) (T _ _ s)⟩
   . exact absurd rfl z
  .
   rcases cZ.mp E with ⟨z,Z⟩|⟨Z,E⟩
   . exact absurd z f
   obtain ⟨m,o,q⟩:=h.DO i B L e E;refine ⟨m,?_,q.imp λ p a z=>T _ _ z⟩;rw [av (λ z=>?_)]
   . exact o
   . rw [z] at e;obtain ⟨I,J⟩:=QQ.mp d;obtain ⟨C,w⟩:=QQ.mp e;exact f ((afx n.2).mp (J.trans w.symm))
def mw (rows:List bX) (i n k:Nat) (a:List (List (Nat×Nat))):Prop:=a.length=rows.length/\(∀ (j:Nat) l,a[j]?=some l->∀ p c,((p,c)∈l↔∃ r:bX,∃ J,rows[p]?=some r/\r[c]?=some (some J)/\((p<i/\j∈J)\/(p=i/\c<n/\j∈J)\/(p=i/\c=n/\j∈J.take k))))
def mw.zero (rows:List bX):mw rows 0 0 0 (rows.map λ Z=>[]):=by
 refine ⟨CT ..,λ j l e p c=>?_⟩;rw [aag] at e;obtain ⟨r,Z,rfl⟩:=ac1.mp e;refine ⟨λ h=>absurd h aak,λ ⟨r,J,_,_,h⟩=>?_⟩;rcases h with ⟨h,Z⟩|⟨Z,h,Z⟩|⟨Z,Z,h⟩
 . exact absurd h (adg _)
 . exact absurd h (adg _)
 . simp at h
def mw.done (h:mw rows rows.length 0 0 ah):O2 rows ah:=by
 refine ⟨h.1,λ j l p c e=>(h.2 j l e p c).trans ⟨λ ⟨r,J,E,a,q⟩=>⟨r,J,E,a,?_⟩,λ ⟨r,J,E,a,q⟩=>⟨r,J,E,a,.inl ⟨(QQ.mp E).1,q⟩⟩⟩⟩;rcases q with ⟨Z,q⟩|⟨Z,q,Z⟩|⟨Z,Z,q⟩
 . exact q
 . exact absurd q (adg _)
 . simp at q
def mw.UE {rows:List bX} {i:Nat} (b:rows[i]?=some r) (h:mw rows i r.length 0 ah):mw rows (i+1) 0 0 ah:=by
 refine ⟨h.1,λ j l e p c=>(h.2 j l e p c).trans ⟨λ ⟨R,J,E,a,q⟩=>⟨R,J,E,a,?_⟩,λ ⟨R,J,E,a,q⟩=>⟨R,J,E,a,?_⟩⟩⟩
 .
  rcases q with ⟨q,w⟩|⟨q,Z,w⟩|⟨Z,Z,q⟩
  . exact .inl ⟨by lia,w⟩
  . exact .inl ⟨by lia,w⟩
  . simp at q
 .
  rcases q with ⟨q,w⟩|⟨Z,q,Z⟩|⟨Z,Z,q⟩
  .
   by_cases H:p=i
   . subst H;rw [b] at E;cases E;exact .inr (.inl ⟨rfl,(QQ.mp a).1,w⟩)
   . exact .inl ⟨by lia,w⟩
  . exact absurd q (adg _)
  . simp at q
def mw.M9 {rows:List bX} {i n k:Nat} (b:rows[i]?=some r) (d:r[n]?=some v) (f:∀ J,v=some J->k=J.length) (h:mw rows i n k ah):mw rows i (n+1) 0 ah:=by
 refine ⟨h.1,λ j l e p c=>(h.2 j l e p c).trans ⟨λ ⟨R,J,E,a,q⟩=>⟨R,J,E,a,?_⟩,λ ⟨R,J,E,a,q⟩=>⟨R,J,E,a,?_⟩⟩⟩
 .
  rcases q with q|⟨q,Q,w⟩|⟨q,Q,w⟩
  . exact .inl q
  . exact .inr (.inl ⟨q,by lia,w⟩)
  . exact .inr (.inl ⟨q,by lia,aff w⟩)
 .
  rcases q with q|⟨q,Q,w⟩|⟨Z,Z,q⟩
  . exact .inl q
  .
   by_cases H:c=n
   .
    subst q;subst H;rw [b] at E;cases E;rw [d] at a;cases a;rw [f J rfl,abz];exact .inr (.inr ⟨rfl,rfl,w⟩)
   . exact .inr (.inl ⟨q,by lia,w⟩)
  . simp at q
def mw.put {rows:List bX} {i n k:Nat} {A:List (List (Nat×Nat))} (f:rows[i]?=some r) (g:r[n]?=some (some J)) (m:J[k]?=some j) (o:A[j]?=some l) (h:mw rows i n k A):mw rows i n (k+1) (A.set j (l++[(i,n)])):=by
 refine ⟨by rw [adh];exact h.1,λ s L e p c=>?_⟩;have t:J.take (k+1)=J.take k++[j]:=by
   rw [ady,m];rfl
 rcases cZ.mp e with ⟨rfl,Z,rfl⟩|⟨N,e⟩
 .
  rw [aaY,aac,h.2 j l o p c];constructor
  .
   rintro (⟨R,M,E,a,q⟩|q)
   .
    refine ⟨R,M,E,a,?_⟩;rcases q with q|q|⟨Q,b,d⟩
    . exact .inl q
    . exact .inr (.inl q)
    . refine .inr (.inr ⟨Q,b,?_⟩);rw [ady];exact act _ d
   . cases q;exact ⟨r,J,f,g,.inr (.inr ⟨rfl,rfl,by rw [t];exact abS _ (aac.mpr rfl)⟩)⟩
  .
   rintro ⟨R,M,E,a,q⟩;rcases q with q|q|⟨Q,b,d⟩
   . exact .inl ⟨R,M,E,a,.inl q⟩
   . exact .inl ⟨R,M,E,a,.inr (.inl q)⟩
   . exact .inr (by rw [Q,b])
 .
  rw [h.2 s L e p c];constructor
  .
   rintro ⟨R,M,E,a,q⟩;refine ⟨R,M,E,a,?_⟩;rcases q with q|q|⟨Q,b,d⟩
   . exact .inl q
   . exact .inr (.inl q)
   . refine .inr (.inr ⟨Q,b,?_⟩);rw [ady];exact act _ d
  .
   rintro ⟨R,M,E,a,q⟩;refine ⟨R,M,E,a,?_⟩;rcases q with q|q|⟨Q,b,d⟩
   . exact .inl q
   . exact .inr (.inl q)
   .
    refine .inr (.inr ⟨Q,b,?_⟩);subst Q;subst b;rw [f] at E;cases E;rw [g] at a;cases a;rw [t] at d;rcases aaY.mp d with z|z
    . exact z
    . exact absurd (aac.mp z).symm N
def Ae.row {K:aA} (h:Ae K H0 H c as A) (g:H q=none):Ae K H0 (upd (upd H q (.lst [])) c (.lst (as.map .ref++[.ref q]))) c (as++[q]) (A++[[]]):=by
 have n:=abZ.mp h.nd;have Q:q≠c:=(ay h.hp g).symm;have s:=al (o:=.lst []) g;have N:q∉as:=λ z=>by
   obtain ⟨i,f,e⟩:=acF.mp z;have D:i<A.length:=by rw [<- h.le];exact f
   obtain ⟨v,j,Z⟩:=h.DO i q _ (by rw [Vo f,e]) (Vo D);rw [g] at j;cases j
 have k:(upd H q (.lst [])) c=some (.lst (as.map .ref)):=s _ _ h.hp;have T:aS K H (upd (upd H q (.lst [])) c (.lst (as.map .ref++[.ref q]))):=s.ts.trans (bW k rfl);refine ⟨λ x u e=>?_,λ b d=>?_,?_,?_,?_,λ i b l e E=>?_⟩
 .
  rw [av (λ z=>?_)]
  . exact s _ _ (h.sm x u e)
  . rw [z,h.fr c aaW] at e;cases e
 .
  rcases aah.mp d with rfl|d
  . exact h.fr _ aaW
  . rcases aaY.mp d with z|z
    . exact h.fr _ (aar _ z)
    . rw [aac.mp z];exact h.sm.free g
 .
  refine abZ.mpr ⟨λ z=>?_,aeL.mpr ⟨n.2,adK _ _,λ a t b d e=>N (by rw [<- aac.mp d,<- e];exact t)⟩⟩;rcases aaY.mp z with z|z
  . exact n.1 z
  . exact Q (aac.mp z).symm
 . rw [aae,aae,h.le];rfl
 . rw [ag,aap];rfl
 .
  by_cases f:i<as.length
  .
   rw [aaG f] at e;rw [aaG (by rw [<- h.le];exact f)] at E;obtain ⟨v,m,r⟩:=h.DO i b l e E;refine ⟨v,?_,r.imp λ p w z=>T _ _ z⟩;rw [av (λ z=>n.1 (by rw [<- z];exact aal e))];exact s _ _ m
  .
   have L:=(QQ.mp e).1;rw [aae,aa3] at L;obtain rfl:i=as.length:=by lia
   rw [ab1] at e;rw [h.le,ab1] at E;cases e;cases E;exact ⟨[],by rw [av Q,ag],Refs.nil⟩
def zB (b:Nat) (a:List (List (Nat×Nat))):Prop:=∀ (j:Nat) l,a[j]?=some l->l.length<=b
def zB.mono {b:Nat} (h:zB a ah) (L:a<=b):zB b ah:=λ j l e=>abk (h j l e) L
def zB.put {j:Nat} {x:Nat×Nat} (h:zB b a) (e:a[j]?=some l):zB (b+1) (a.set j (l++[x])):=λ i L E=>by
 rcases cZ.mp E with ⟨Z,Z,rfl⟩|⟨Z,E⟩
 . rw [aae];exact adQ (h j l e)
 . exact Nat.le_succ_of_le (h i L E)
inductive HB (K:aA) (vs:az) (H:Hp) (Q:VK) (_E:XK):Prop|mk (pr vr:_) (rows:List bX) (_:vs=[.ref pr]) (_:H pr=some (.lst vr)) (_:bE K H (rows.map sC) vr) (_:rows.length<=2000) (_:(∀ r∈rows,r.length<=16/\∀ js,some js∈r->js.length<=400/\∀ j∈js,j<rows.length)) (_:∀ pa as ah H',Ae K H H' pa as ah->O2 rows ah->Q (.ref pa) H')
theorem wQ {K:aA}:∀ {l:bi} {w:az},bE K H (l.map jE) w->w=l.map ao
 | [],_,h=>h
 | _::_,_,⟨_,_,e,d,r⟩=>by
   rw [e,wQ r,show _=_ from d];rfl
end L2
namespace PySem
open PySem.Spec PyProof.Rows
def tR:typeLookup (.type "zip") "__getattr__" = pure none:=by rw [typeLookup_type,builtinLookup_eq_fast];kernel_rfl
def yD:typeLookup (.type "zip") "keys" = pure none:=by rw [typeLookup_type,builtinLookup_eq_fast];kernel_rfl
def BB:entryFor table "zip.__getattribute__" = some Builtin.«object.__getattribute__» :=
 entryFor_alias (id':="object.__getattribute__") (by kernel_rfl) (by decide +kernel) (by decide +kernel) (by kernel_rfl)
def oy:entryFor table "dict.update.loop" = some Builtin.«dict.update.loop»:=entryFor_of_tree (by kernel_rfl)
def iu:plainId "dict.update.loop" = true:=by decide +kernel
def wI (a:ak) (xs:Array au) (sl:Array (jA)) (name:Str) (u:Tok) (b:typeLookup (.type "zip") name=pure none) (K:(["__module__","__name__","__qualname__","__doc__","__annotations__"]:cm).contains name=false) (hsz:name.length+100<=sizeLine:=by size_fits) :
   Meets (Builtin.«object.__getattribute__» ⟨[.ref a,.str name u],[]⟩) (λ A R s=>s.heap.get? a=some { cls:=.type "zip",dict:=none,data:=.fields xs,slots:=sl }/\raisesAttr (.ref a) name A R s) :=
 Meets.of_wp λ p w A R s h=>by
   obtain ⟨H,g,d,t,o⟩:=s;obtain ⟨c,h⟩:=h;have e:(⟨H,g,d,t,o⟩:Shared).TypeIs (.ref a) "zip":=⟨_,c,rfl⟩
   unfold Builtin.«object.__getattribute__»
   repeat (any_goals (first|assumption|wp_step))
   simp only [K,adr,aeg]
   repeat (any_goals (first|assumption|wp_step))
   exact wpAny_raiseAttrError h.1 h.2 (attrMsg_fits (by decide +kernel) hsz)
def L3 {A:Around} {E:au->Shared->Prop} {s:Shared} {a:ak} {Q:jA->Shared->Prop}
   (f:s.heap.get? a=some { cls:=.type "zip",dict:=none,data:=.fields xs,slots:=#[]}) (i:A.handled=none)
   (h:∀ h' T,(∀ b o,s.heap.get? b=some o->h'.get? b=some o)->Q none { s with heap:=h',toks:=T }) :
   wpAny (model prog w) A (getAttr? (.ref a) "keys") Q E s:=by
 obtain ⟨j,g,d,T,O⟩:=s;have c:∀ t,(⟨j,g,d,t,O⟩:Shared).TypeIs (.ref a) "zip":=λ Z=>⟨_,f,rfl⟩
 have k:=sub_AttributeError;have l:=F.slot_zip_getattribute.lookup;have m:=F.slot_zip_getattribute.bind (.ref a);have n:=tR;unfold getAttr? getAttrBy? getAttrBy
 repeat (any_goals (first|assumption|exact c _|((with_reducible show wpAny _ _ (call (Value.builtin "zip.__getattribute__") _ _) _ _ _);refine afJ F.slot_zip_getattribute (c _) BB (F.args_zip_getattribute_2 _ _) (wI a xs #[] "keys" _ yD (by decide +kernel)) ⟨f,i,λ h' t e H=>?_⟩)|wp_step))
 obtain ⟨q,u,p⟩:=H.there;show wpAny _ _ (getattributeRaised _ _ _ _ _ _ _) _ _ _;unfold getattributeRaised
 repeat (any_goals (first|assumption|wp_step))
 exact h _ _ H.keeps
end PySem
namespace PySem
open PySem.Spec PyProof.Rows
abbrev pB (h:aM) (z TI TO T:ak) (b:Bool):Prop :=
 h.get? z=some { cls:=.type "zip",dict:=none,data:=.fields #[rawInt T,.bool b,.bool false,.ref TI,.ref TO],slots:=#[]}
section
variable {prog:aZ} {w:aU} {A:Around} {E:au->Shared->Prop} {s:Shared}
def pR {a:ak} {Q:Option Obj->Shared->Prop} (h:Q (s.heap.get? a) s):wpAny M A (loadIfAlive a) Q E s:=λ b p H=>by
 unfold loadIfAlive;rw [Sem.wp_loadIfAlive];exact h
def Eo {TI TO:ak} {Q:Bool->Shared->Prop} (a:pB s.heap z TI TO T b) (d:s.heap.get? T=some o) (n:T≠z)
   (h:∀ h',pB h' z TI TO T true->Heap.SameBut z s.heap h'->Q false { s with heap:=h' }) :
   wpAny (model prog w) A (Builtin.SmallTypes.ownedTupleIsFree (.ref z)) Q E s:=by
 unfold Builtin.SmallTypes.ownedTupleIsFree;refine WE (adp a rfl (x:=rawInt T) rfl ?_);show wpAny _ _ (loadIfAlive _ >>= _) _ _ _;refine WE (pR ?_);rw [show ((T:Int)).toNat=T from acz T,d];simp only [Option.isNone_some,adr,aeg];refine WE (adp a rfl (x:=.bool b) rfl ?_);cases b with
 | false =>
   rw [abE (by decide)];refine WE (wpAny_setField_rec a (by simp) λ H W c=>?_);exact aaU (h H W c)
 | true =>
   rw [abC (by decide)];exact WE (aaU (aaU (h _ a (Heap.SameBut.refl ..))))
def xR {TI TO:ak} {Q:au->Shared->Prop} (D:ZipApart z TI TO i I l L)
   (j:pB s.heap z TI TO T b) (G:s.heap.get? T=some O) (N:T≠z/\T≠i/\T≠I) (U:IsPair s.heap TI (.ref i) (.ref I))
   (t:s.heap.IsListIter i l k1) (u:s.heap.IsListIter I L k2) (C:s.heap.IsList l xs) (M:s.heap.IsList L ys) (J:xs[k1]?=some x) (K:ys[k2]?=some y)
   (B:∀ h',pB h' z TI TO T true->h'.IsListIter i l (k1+1)->h'.IsListIter I L (k2+1)->IsPair h' s.heap.objs.size x y->h'.objs.size=s.heap.objs.size+1 ->
     (∀ c o,c≠z->c≠i->c≠I->s.heap.get? c=some o->h'.get? c=some o)->Q (.ref s.heap.objs.size) { s with heap:=h' }) :
   wpAny (model prog w) A (Builtin.«zip.__next__» ⟨[.ref z],[]⟩) (λ F s'=>∃ v,F = .done (.ret v)/\Q v s') E s:=by
 show wpAny _ _ (field (.ref z) 2 >>= _) _ _ _;refine WE (adp j rfl (x:=.bool false) rfl ?_);show wpAny _ _ (field (.ref z) 3 >>= _) _ _ _;refine WE (adp j rfl (x:=.ref TI) rfl ?_);refine WE (aep U rfl ?_);show wpAny _ _ (Builtin.SmallTypes.ownedTupleIsFree (.ref z) >>= _) _ _ _;refine WE (Eo j G N.1 λ k W g=>?_);simp only [adr,aeg];refine WE ?_;rw [<- aeC];simp only [ae7,List.forIn_nil];refine WE (WE (acT ?_));show wpAny _ _ (Builtin.SmallTypes.nextOf (.ref i) >>= _) _ _ _;refine WE (wpAny_nextOf_list_item (t.extBut g.extBut D.i1z) (C.extBut g.extBut D.l1z) J λ m a q=>aaU ?_);refine aaU ?_;refine WE (WE (acT ?_));show wpAny _ _ (Builtin.SmallTypes.nextOf (.ref I) >>= _) _ _ _;refine WE (wpAny_nextOf_list_item ((u.extBut g.extBut D.i2z).extBut q.extBut D.i12.symm)
   ((M.extBut g.extBut D.l2z).extBut q.extBut D.l2i1) K λ h d V=>aaU ?_)
 refine aaU (aaU ?_);refine WE (wpAny_newTuple (hsz:=(show 2<=sizeLine by decide)) ?_);have H:h.objs.size=s.heap.objs.size:=by rw [V.1,q.1,g.1]
 have f:pB h z TI TO T true:=V.extBut _ _ D.i2z.symm (q.extBut _ _ D.i1z.symm W);refine aaU ⟨_,rfl,?_⟩;show Q (.ref h.objs.size) _;rw [H];refine B _ (aaJ _ f) ((a.extBut V.extBut D.i12).at λ o e=>aaJ _ e) (d.at λ o e=>aaJ _ e) (by rw [<- H];exact abX _ rfl) (by rw [ae1,H]) λ c o n p r e=>aaJ _ (V.extBut _ _ r (q.extBut _ _ p (g.extBut _ _ n e)))
def At {TI TO:ak} {Q:Fin->Shared->Prop} (r:A.handled=none) (D:ZipApart z TI TO i I l L)
   (a:pB s.heap z TI TO T b) (n:s.heap.get? T=some O) (N:T≠z/\T≠i/\T≠I) (u:IsPair s.heap TI (.ref i) (.ref I))
   (k:s.heap.IsListIter i l k1) (C:s.heap.IsList l xs) (t:xs[k1]?=none)
   (m:∀ h' e,(∀ c o,c≠z->c≠i->s.heap.get? c=some o->h'.get? c=some o)->(∃ o,h'.get? e=some o/\o.cls = .type "StopIteration")->E (.ref e) { s with heap:=h' }) :
   wpAny (model prog w) A (Builtin.«zip.__next__» ⟨[.ref z],[]⟩) Q E s:=by
 show wpAny _ _ (field (.ref z) 2 >>= _) _ _ _;refine WE (adp a rfl (x:=.bool false) rfl ?_);show wpAny _ _ (field (.ref z) 3 >>= _) _ _ _;refine WE (adp a rfl (x:=.ref TI) rfl ?_);refine WE (aep u rfl ?_);show wpAny _ _ (Builtin.SmallTypes.ownedTupleIsFree (.ref z) >>= _) _ _ _;refine WE (Eo a n N.1 λ d W H=>?_);simp only [adr,aeg];refine WE ?_;rw [<- aeC];simp only [ae7,List.forIn_nil];refine WE (WE (acT ?_));show wpAny _ _ (Builtin.SmallTypes.nextOf (.ref i) >>= _) _ _ _;refine WE (wpAny_nextOf_list_end r (k.extBut H.extBut D.i1z) (C.extBut H.extBut D.l1z) t λ h e f p=>?_);exact m h e (λ c o g j q=>f _ _ j (H.extBut _ _ g q)) p
end
end PySem
namespace PySem
open PySem.Spec PyProof.Rows
noncomputable def wN (l:List (PyData×ak×au)):List (PyData×ak×au):=l.foldl (λ a e=>storedH a e.1 e.2.1 e.2.2) []
def ni (l:List (PyData×ak×au)) (e:PyData×ak×au):wN (l++[e])=storedH (wN l) e.1 e.2.1 e.2.2:=by
 unfold wN;rw [adz];rfl
def zR {x:PyData×ak×au} (h:x∈storedH xs k a v):(∃ e∈xs,e.1=x.1/\e.2.1=x.2.1)\/x=(k,a,v):=by
 unfold storedH at h;split at h
 .
  obtain ⟨y,H,rfl⟩:=abm.mp h;refine .inl ⟨y,H,?_⟩;unfold putAt;split<;>exact ⟨rfl,rfl⟩
 . rcases aaY.mp h with z|z
   . exact .inl ⟨x,z,rfl,rfl⟩
   . exact .inr (aac.mp z)
def Az (xs:List (PyData×ak×au)) (k:PyData) (a:ak) (v:au):(storedH xs k a v).length<=xs.length+1:=by
 unfold storedH;split<;>simp
theorem vY {es:List (PyData×ak×au)} (a:∀ e∈es,uH h e.1 e.2.1):∀ i,∀ x∈wN (es.take i),uH h x.1 x.2.1
 | 0,x,H=>by rw [afM] at H;exact absurd H aak
 | i+1,x,H=>by
   by_cases b:i<es.length
   . rw [ady,Vo b,aey,ni] at H;rcases zR H with ⟨e,d,E,c⟩|rfl
     . rw [<- E,<- c];exact vY a i e d
     . exact a _ (abq b)
   . rw [ac2 (by lia),<- ac2 (i:=i) (l:=es) (by lia)] at H;exact vY a i x H
theorem uC (es:List (PyData×ak×au)):∀ i,(wN (es.take i)).length<=i
 | 0=>by rw [afM];exact aaD _
 | i+1=>by
   by_cases h:i<es.length
   . rw [ady,Vo h,aey,ni];exact abk (Az ..) (adQ (uC es i))
   . rw [ac2 (by lia),<- ac2 (i:=i) (l:=es) (by lia)];exact Nat.le_succ_of_le (uC es i)
def JS (prog:aZ) (w:aU) (h:aM) (d:ak) (xs:List (PyData×ak×au)):Prop:=∃ o e E,h.get? d=some o/\o.ExactDict/\o.data = .dict e E/\e.toList=xs.map (entryOfKey (iI prog w))/\(xs.map (·.1)).Nodup
def uH.up {h':aM} (x:uH h k a) (H:∀ b o,h.get? b=some o->h'.get? b=some o):uH h' k a:=by
 obtain ⟨x,as,r,K,c,d,e⟩:=x;exact ⟨x,as,oS (λ b O q Z Z Z=>H b O q) x K r,K,c,d,e⟩
def l7 (h:aM) (d z TI TO i I:ak):Prop:=(IsZip h z TI TO .none/\∃ a b,IsPair h TO a b)\/∃ T b o,pB h z TI TO T b/\h.get? T=some o/\(T≠z/\T≠i/\T≠I)/\T≠d
def l7.at {h':aM} {TI TO:ak} (x:l7 h d z TI TO i i2) (N:z≠d) (c:TO≠d) (H:∀ b o,b≠d->h.get? b=some o->h'.get? b=some o):l7 h' d z TI TO i i2:=by
 rcases x with ⟨x,a,b,y⟩|⟨T,b,O,x,y,n,m⟩
 . exact .inl ⟨H _ _ N x,a,b,H _ _ c y⟩
 . exact .inr ⟨T,b,O,H _ _ N x,H _ _ m y,n,m⟩
section
variable {prog:aZ} {w:aU} {A:Around} {E:au->Shared->Prop} {s:Shared}
def vN {TI TO:ak} {Q:jA->Shared->Prop} (D:ZipApart z TI TO i I l L)
   (h:l7 s.heap d z TI TO i I) (q:∃ o,s.heap.get? d=some o) (U:IsPair s.heap TI (.ref i) (.ref I))
   (m:s.heap.IsListIter i l k1) (p:s.heap.IsListIter I L k1) (C:s.heap.IsList l xs) (G:s.heap.IsList L ys) (v:xs[k1]?=some x) (B:ys[k1]?=some y)
   (t:∀ h',l7 h' d z TI TO i I->h'.IsListIter i l (k1+1)->h'.IsListIter I L (k1+1)->IsPair h' s.heap.objs.size x y ->
     (∀ c o,c≠z->c≠TO->c≠i->c≠I->s.heap.get? c=some o->h'.get? c=some o)->Q (some (.ref s.heap.objs.size)) { s with heap:=h' }) :
   wpAny (model prog w) A (pyNext (.ref z)) Q E s:=by
 obtain ⟨od,q⟩:=q;have W:s.heap.objs.size≠d:=ad8 (abh q);rcases h with ⟨h,a,b,J⟩|⟨T,b,Y,h,u,n,S⟩
 .
  have R:=abh h;have X:i<s.heap.objs.size:=by obtain ⟨Z,e,Z⟩:=m;exact abh e
  have r:I<s.heap.objs.size:=by obtain ⟨Z,e,Z⟩:=p;exact abh e
  exact wpAny_pyNext_zip_item D h U J m p C G v B λ h' g a2 j k f K H=>t h' (.inr ⟨_,false,_,g,f,⟨ad8 R,ad8 X,ad8 r⟩,W⟩) j k f H
 .
  have V:s.TypeIs (.ref z) "zip":=⟨_,h,rfl⟩
  unfold pyNext;exact WE (afc (adV (name:=Str.ofString "__next__") V afn
    (aew afn V F.entry_zip_next
      (xR D h u n U m p C G v B λ h' g j k f K H=>aaU (t h' (.inr ⟨T,true,Y,g,H _ _ n.1 n.2.1 n.2.2 u,n,S⟩) j k f λ c o M Z N O e=>H c o M N O e)) (F.args_zip_next_1 _))))
def wL {TI TO:ak} {Q:jA->Shared->Prop} (g:A.handled=none) (D:ZipApart z TI TO i I l L)
   (h:l7 s.heap d z TI TO i I) (u:IsPair s.heap TI (.ref i) (.ref I))
   (H:s.heap.IsListIter i l k1) (p:s.heap.IsListIter I L k1) (C:s.heap.IsList l xs) (y:s.heap.IsList L ys) (j:xs[k1]?=none)
   (f:∀ h',(∀ c o,c≠z->c≠TO->c≠i->c≠I->s.heap.get? c=some o->h'.get? c=some o)->Q none { s with heap:=h' }) :
   wpAny (model prog w) A (pyNext (.ref z)) Q E s:=by
 rcases h with ⟨h,a,b,k⟩|⟨T,b,O,h,q,N,M⟩
 . exact wpAny_pyNext_zip_end g D h u k H p C y (.inl j) f
 .
  have V:s.TypeIs (.ref z) "zip":=⟨_,h,rfl⟩
  unfold pyNext;refine WE (afc (adV (name:=Str.ofString "__next__") V afn
    (aew afn V F.entry_zip_next (At g D h q N u H C j λ h' e v t=>?_) (F.args_zip_next_1 _))))
  obtain ⟨o,x,r⟩:=t;refine WE (wpAny_isInstance (T:="StopIteration") (b:=true) ⟨o,x,r⟩ isSubtype_stop ?_);exact aaU (f _ λ c o m Z n Z e=>v c o m n e)
def Lu {R:Result->Shared->Prop} {d TI TO:ak} {h0:aM} {es:List (PyData×ak×au)} (D:ZipApart z TI TO I a T U) (hh:A.handled=none) (hu:(iI prog w).room A.in1)
   (fr:∀ c∈[z,TI,TO,I,a,d],h0.get? c=none) (h:∀ c∈[z,TI,TO,I,a],c≠d) (X:h0.IsList T xs) (zI:h0.IsList U ys) (hn:xs.size=es.length)
   (zE:∀ (i:Nat) e,es[i]?=some e->xs[i]?=some (.ref e.2.1)/\ys[i]?=some e.2.2) (hk:∀ e∈es,uH h0 e.1 e.2.1) (hsz:es.length<=sizeLine) :
   ∀ (k i:Nat) (s:Shared),es.length - i=k->i<=es.length->(∀ b o,h0.get? b=some o->s.heap.get? b=some o)->l7 s.heap d z TI TO I a->IsPair s.heap TI (.ref I) (.ref a) ->
     s.heap.IsListIter I T i->s.heap.IsListIter a U i->JS prog w s.heap d (wN (es.take i)) ->
     (∀ h' V,(∀ b o,h0.get? b=some o->h'.get? b=some o)->JS prog w h' d (wN es)->R (.ok (.ret .none)) { s with heap:=h',toks:=V }) ->
     codeAny (model prog w) A (.builtin "dict.update.loop" ⟨[.ref d,.ref z,rawInt i,.none],[]⟩) R s:=by
 have M:∀ {b o},h0.get? b=some o->b≠z/\b≠TI/\b≠TO/\b≠I/\b≠a/\b≠d:=λ {b o} e=>by
   refine ⟨?_,?_,?_,?_,?_,?_⟩<;>(rintro rfl;rw [fr _ (by simp)] at e;cases e)
 have p:d≠z:=(h z (by simp)).symm;have Y:d≠TO:=(h TO (by simp)).symm;have m:d≠I:=(h I (by simp)).symm;have N:d≠a:=(h a (by simp)).symm;intro k;induction k with
 | zero =>
   intro i s L hi ext S u H F W G;obtain rfl:i=es.length:=by lia
   refine af6 oy ?_;rw [Around.under_plainId iu _];show wpAny _ A.in1 (pyNext (.ref z) >>= _) _ _ s;refine WE (wL (A:=A.in1) hh D S u H F (X.at λ o e=>ext _ _ e) (zI.at λ o e=>ext _ _ e) (Array.getElem?_eq_none (by lia)) λ h' f=>?_);show wpAny _ A.in1 (Builtin.Dict.addKeywords d [] >>= _) _ _ _;refine WE (aaU (aaU ?_));rw [abz] at W;obtain ⟨o,t,v,j,g⟩:=W;exact G h' s.toks (λ b o e=>f b o (M e).1 (M e).2.2.1 (M e).2.2.2.1 (M e).2.2.2.2.1 (ext b o e)) ⟨o,t,v,f _ _ p Y m N j,g⟩
 | succ k ih =>
   intro i s L hi ext S u H F W G;have om:i<es.length:=by lia
   have l:=Vo om;generalize es[i]=e at l;obtain ⟨Q,hy⟩:=zE i e l;obtain ⟨od,t,v,j,g⟩:=W;refine af6 oy ?_;rw [Around.under_plainId iu _];show wpAny _ A.in1 (pyNext (.ref z) >>= _) _ _ s;refine WE (vN D S ⟨_,j⟩ u H F (X.at λ o e=>ext _ _ e) (zI.at λ o e=>ext _ _ e) Q hy λ h' a1 a3 a4 a5 f=>?_);have E:∀ b o,h0.get? b=some o->h'.get? b=some o:=λ b o e=>f b o (M e).1 (M e).2.2.1 (M e).2.2.2.1 (M e).2.2.2.2.1 (ext b o e);have r:IsPair h' TI (.ref I) (.ref a):=f _ _ D.TIz D.TITO D.TIi1 D.TIi2 u;have dd:h'.DictOfH (iI prog w) d (wN (es.take i)):=⟨od,t,v,f _ _ p Y m N j,g.1,g.2.1,g.2.2.1,λ x Q=>(vY hk i x Q).up E,g.2.2.2⟩
   have kk:uH h' e.1 e.2.1:=(hk e (aal l)).up E;have J:Shared.TypeIs { s with heap:=h' } (.ref s.heap.objs.size) "tuple":=⟨_,a5,rfl⟩
   show wpAny _ A.in1 (holding [Value.ref s.heap.objs.size] _ >>= _) _ _ _;refine WE (acT (WE (wpAny_tryCatch ?_)));unfold Builtin.Dict.pairItems;refine WE (wpAny_typeOf J ?_);rw [abE (by decide)];refine WE (aep a5 rfl (aaU ?_));show wpAny _ A.in1 (holding [Value.ref e.2.1,e.2.2] (dictSet d (.ref e.2.1) e.2.2)) _ _ _;refine acT (wpAny_dictSet_heap (hsz:=abk (uC es i) (abk hi hsz)) hu kk dd λ VW NG O=>?_);have K:∀ b o,b≠d->h'.get? b=some o->VW.get? b=some o:=λ b o n q=>O.extBut _ _ n q;obtain ⟨o3,C,B,q1,q2,q3,q4,q5,q6⟩:=NG;refine aaU ⟨plainId_quiet iu _,?_⟩;have:=ih (i+1) { s with heap:=VW,toks:=s.toks+(iI prog w).draws e.1 } (by lia) om (λ b o q=>K b o (M q).2.2.2.2.2 (E b o q)) (a1.at p.symm Y.symm K) (K _ _ (h TI (by simp)) r) (a3.at λ o q=>K _ o m.symm q) (a4.at λ o q=>K _ o N.symm q) (by
     rw [ady,l,aey,ni];exact ⟨o3,C,B,q1,q2,q3,q4,q6⟩) λ Wc V x y=>G Wc V x y
   exact this
def MX {es:List (PyData×ak×au)} {Q:au->Shared->Prop} (m:A.handled=none) (hu:A.units+70<cLine)
   (j:s.heap.IsList l xs) (p:s.heap.IsList L ys) (R:xs.size=es.length)
   (zE:∀ (i:Nat) e,es[i]?=some e->xs[i]?=some (.ref e.2.1)/\ys[i]?=some e.2.2) (N:∀ e∈es,uH s.heap e.1 e.2.1) (hsz:es.length<=sizeLine)
   (h:∀ h' t d,s.heap.objs.size<=d->(∀ b o,s.heap.get? b=some o->h'.get? b=some o)->JS prog w h' d (wN es)->Q (.ref d) { s with heap:=h',toks:=t }) {z:ak}
   (K:z=s.heap.objs.size+4) (f:IsZip H z (s.heap.objs.size+2) (s.heap.objs.size+3) .none) (X:IsPair H (s.heap.objs.size+2) (.ref s.heap.objs.size) (.ref (s.heap.objs.size+1)))
   (Y:IsPair H (s.heap.objs.size+3) .none .none) (z4:H.IsListIter s.heap.objs.size l 0) (z5:H.IsListIter (s.heap.objs.size+1) L 0) (z6:H.objs.size=s.heap.objs.size+5)
   (T:∀ c o,s.heap.get? c=some o->H.get? c=some o) :
   wpAny (model prog w) A (call (.type "dict") [.ref z]) Q E { s with heap:=H }:=by
 subst K;have n:∀ {b o},s.heap.get? b=some o->b<s.heap.objs.size:=λ e=>abh e;have U:l<s.heap.objs.size:=by obtain ⟨Z,e,Z⟩:=j;exact n e
 have V:L<s.heap.objs.size:=by obtain ⟨Z,e,Z⟩:=p;exact n e
 refine callType_codes (Q₁:=λ O S=>O = .ref H.objs.size/\S={ s with heap:=H.push { cls:=.type "dict",data:=.dict #[]}}) F.kt_called_dict (F.kt_typeCall_dict_1 _) F.entry_dict_init (kt_code_dict_new _ ⟨rfl,rfl⟩) ?_;rintro O S ⟨rfl,rfl⟩;have C:(H.push { cls:=.type "dict",data:=.dict #[]}).DictOfH (iI prog w) H.objs.size []:=Heap.DictOfH.new H;refine ⟨C.typeIs,F.args_dict_init_2 _ _,?_⟩;unfold Builtin.«dict.__init__»;refine WE ?_;unfold Builtin.Dict.selfAndRest;refine WE (wpAny_notOrdered_dict C.typeIs ?_);show wpAny _ _ (pure (H.objs.size,[Value.ref (s.heap.objs.size+4)])) _ _ _;refine aaU ?_;show wpAny _ _ (Builtin.Dict.updateFrom "dict.__init__" H.objs.size (.ref (s.heap.objs.size+4)) [] .none) _ _ _;unfold Builtin.Dict.updateFrom;have u:∀ {b o},H.get? b=some o->(H.push { cls:=.type "dict",data:=.dict #[]}).get? b=some o:=λ e=>aaJ _ e;have g:Shared.TypeIs { s with heap:=H.push { cls:=.type "dict",data:=.dict #[]}} (.ref (s.heap.objs.size+4)) "zip":=⟨_,u f,rfl⟩
 refine WE (wpAny_typeOf g ?_);rw [abE (by decide)];refine WE (L3 (A:=A.in1.in1) (u f) m λ h6 W k=>?_);simp only [Option.isNone_none,ae2];refine WE (wpAny_rule ?_);refine WE (afT (k _ _ (u f)) ?_);refine aaU ⟨plainId_quiet iu _,?_⟩;have M:∀ {c},s.heap.objs.size<=c->s.heap.get? c=none:=λ e=>aeB e;refine Lu (A:=A.in1) (h0:=s.heap) (es:=es) (D:=zipApart_new U V) m (by show A.in1.in1.units+64<cLine;rw [aex,aex];lia) (d:=H.objs.size) (λ c a=>?_) (λ c a=>?_) j p R zE N hsz _ 0 _ rfl (ach _) (λ b o e=>k _ _ (u (T _ _ e))) (.inl ⟨k _ _ (u f),_,_,k _ _ (u Y)⟩) (k _ _ (u X)) (z4.at λ o e=>k _ _ (u e)) (z5.at λ o e=>k _ _ (u e)) ?_ (λ h' t x y=>⟨rfl,h h' t _ (by lia) x y⟩)
 . refine M ?_;simp only [aah,aak,ack] at a;rcases a with rfl|rfl|rfl|rfl|rfl|rfl<;>lia
 . simp only [aah,aak,ack] at a;rcases a with rfl|rfl|rfl|rfl|rfl<;>(rw [z6];intro z;exact absurd (show (_:Nat)=_ from z) (by lia))
 . obtain ⟨o,I,J,q,r,v,B,Z,G⟩:=C;exact ⟨o,I,J,k _ _ q,r,v,B,G⟩
end
end PySem
namespace PySem
theorem xf {es:List (PyData×ak×au)} (H:(es.map (·.1)).Nodup):∀ i,i<=es.length->wN (es.take i)=es.take i
 | 0,_=>rfl
 | i+1,h=>by
   rw [ady,Vo h,aey,ni,xf H i (by lia)];refine storedH_new (atKey_none_of_get λ j p e=>?_) _ _;have a:=(QQ.mp e).1;rw [abw] at a;rw [afR (by lia)] at e;have:=idxH_unique H e (show es[i]?=some (es[i].1,es[i].2) from Vo h);lia
end PySem
namespace L2
open PySem PySem.Spec PyProof.Rows Mth
variable {E:XK} {H H' H0:Hp} {b2:Int} {elt iter tg:Expr} {g:TG} {ifs:List Expr} {l:List Int} {nt yi:Nat} {py Le:Pos} {s':Shared} {te:TE} {σ:St}
def KM (P:aZ) (w:aU) (K:aA) (t:TA):TE:=λ σ H Q=>t σ H λ v h=>∃ q b,∃ a:pG,v=[.ref q,.ref b]/\aY K h q (a.map λ e => .ref e.2.1)/\aY K h b (a.map λ e=>e.2.2) /\
 (a.map (·.1)).Nodup/\(∀ e∈a,hG K h e.1 e.2.1)/\a.length<=sizeLine/\∀ p,h p=none->Q (.ref p) (upd h p (lJ P w p a))
def cK.u70 (r:cK k A):A.units+70<cLine:=by have:=r.un;lia
theorem vf:∀ {a:pG} {us vs:bq},Vals (a.map λ e => .ref e.2.1) us->Vals (a.map λ e=>e.2.2) vs->∃ es:List (PyData×ak×au),XR a es/\us=es.map (λ e => .ref e.2.1)/\vs=es.map λ e=>e.2.2
 | [],_,_,.nil,.nil=>⟨[],.nil,rfl,rfl⟩
 | e::a,_,_,.cons r t,.cons R t2=>by
   obtain ⟨es,h,H,b⟩:=vf t t2;exact ⟨(e.1,e.2.1,_)::es,.cons ⟨rfl,rfl,R⟩ h,by rw [H,show _=_ from r];rfl,by rw [b];rfl⟩
def XR.keys (h:XR a es):es.map (·.1)=a.map (·.1):=by
 induction h with
 | nil=>rfl
 | cons r _ i=>rw [ab0,ab0,i,r.1]
def XR.mem (h:XR a es):∀ e∈es,∃ x∈a,x.1=e.1/\x.2.1=e.2.1:=by
 induction h with
 | nil=>exact λ Z h=>absurd h aak
 | cons r _ i =>
   intro e H;rcases aah.mp H with rfl|H
   . exact ⟨_,aaW,r.1,r.2.1⟩
   . obtain ⟨x,b,q⟩:=i e H;exact ⟨x,aar _ b,q⟩
section
variable {X:Cx} {P:aZ} {w:aU} {K:aA}
def CS {a b:Expr} {p1 t:Pos} (hP:X.prog=P) (hw:X.w=w) (hK:X.K=K) (hu:X.A.units+70<cLine) (hc:X.calm=true) (ha:PA X [a,b] T) (M:Gl X "dict") (O:X.mg "dict" = none) (R:Gl X "zip") (m:X.mg "zip" = none) (hs:autoParam (starEach [a,b] X.env=[(false,eval a X.env),(false,eval b X.env)]) za_._auto_1) (z:autoParam (starEach [b] X.env=[(false,eval b X.env)]) za_._auto_1) (y:autoParam (starEach [.Call (.Name "zip" t) [a,b] [] L] X.env=[(false,eval (.Call (.Name "zip" t) [a,b] [] L) X.env)]) za_._auto_1) :
   PE X (.Call (.Name "dict" p1) [.Call (.Name "zip" t) [a,b] [] L] [] U) (KM P w K T):=by
 subst hP hw hK;intro p s σ H Q I h;refine adG (jV I M O Md ?_ (by decide) (by decide));refine acL ?_ y rfl;rw [y];refine aeY ?_;refine adG (jV I R m JJ (acL (c9 (ha L p s σ H _ I h) λ us s1 ⟨vs,H1,c,r1,q1⟩=>?_) (by rw [hs,z]) (by rw [z];rfl)) (by decide) (by decide));obtain ⟨a,b,C,e,yX,wc,nd,hk,J,q⟩:=q1;subst e;obtain ⟨u,v,rfl,r,r'⟩:=vals2 r1;obtain rfl:u=Value.ref a:=r;obtain rfl:v=Value.ref b:=r';obtain ⟨LI,S,f,Pa⟩:=c.list yX;obtain ⟨oJ,N,g,X7⟩:=c.list wc;obtain ⟨E,j,rfl,rfl⟩:=vf S N;have le:E.length=C.length:=j.length.symm;refine call_zip_2 f.isList g.isList λ h' z1 z2 z3 z4 z5 z6 kk=>afN ?_;refine MX (es:=E) (c.ok.hd hc) hu f.isList g.isList (by simp) (λ i e D=>⟨by simp [D],by simp [D]⟩) (λ e he=>?_) (by rw [le];exact J) (λ h2 tk d ld k2 G=>?_) rfl z1 z2 z3 z4 z5 z6 kk
 . obtain ⟨x,hx,k,l⟩:=j.mem e he;rw [<- k,<- l];exact (hk x hx).is c
 .
  have fr:=c.cJ.fresh ld;have n:(E.map (·.1)).Nodup:=by rw [j.keys];exact nd
  have F:=xf n E.length (aaD _);rw [abz] at F;rw [F] at G;obtain ⟨o,ea,ep,k,l,V,W,Y⟩:=G;have B:=c.big;refine ⟨.ref d,_,c.laid (a:=d) (o:=lJ X.prog X.w d C) (t':=tk) k2 ld (JE ⟨J,adk.mpr (aef (abY (aba B ld))),E,j,o,ea,ep,k,l,V,W,Y⟩),rfl,q d fr⟩
end
structure O1 (H0 H:Hp) (D:ak) (qs:bA) (ls:List (List (Option Nat))):Prop where
 sm:aE H0 H
 fr:∀ b∈D::qs,H0 b=none
 nd:(D::qs).Nodup
 le:qs.length=ls.length
 hp:H D=some (.lst (qs.map .ref))
 DO:∀ (i:Nat) q l,qs[i]?=some q->ls[i]?=some l->H q=some (.lst (l.map hX))
def O1.row {l:List (Option Nat)} (h:O1 H0 H D Q L) (f:H q=none):O1 H0 (upd (upd H q (.lst (l.map hX))) D (.lst (Q.map .ref++[.ref q]))) D (Q++[q]) (L++[l]):=by
 have n:=abZ.mp h.nd;have j:q≠D:=(ay h.hp f).symm;have s:=al (o:=.lst (l.map hX)) f;have N:q∉Q:=λ z=>by
   obtain ⟨i,d,e⟩:=acF.mp z;have k:i<L.length:=by rw [<- h.le];exact d
   have g:=h.DO i q _ (by rw [Vo d,e]) (Vo k);rw [f] at g;cases g
 refine ⟨λ x u e=>?_,λ b c=>?_,?_,?_,?_,λ i b p e E=>?_⟩
 .
  rw [av (λ z=>?_)]
  . exact s _ _ (h.sm x u e)
  . rw [z,h.fr D aaW] at e;cases e
 .
  rcases aah.mp c with rfl|c
  . exact h.fr _ aaW
  . rcases aaY.mp c with z|z
    . exact h.fr _ (aar _ z)
    . rw [aac.mp z];exact h.sm.free f
 .
  refine abZ.mpr ⟨λ z=>?_,aeL.mpr ⟨n.2,adK _ _,λ a m b c e=>N (by rw [<- aac.mp c,<- e];exact m)⟩⟩;rcases aaY.mp z with z|z
  . exact n.1 z
  . exact j (aac.mp z).symm
 . rw [aae,aae,h.le];rfl
 . rw [ag,aap];rfl
 .
  by_cases d:i<Q.length
  . rw [aaG d] at e;rw [aaG (by rw [<- h.le];exact d)] at E;rw [av (λ z=>n.1 (by rw [<- z];exact aal e))];exact s _ _ (h.DO i b p e E)
  .
   have r:=(QQ.mp e).1;rw [aae,aa3] at r;obtain rfl:i=Q.length:=by lia
   rw [ab1] at e;rw [h.le,ab1] at E;cases e;cases E;rw [av j,ag]
def Iu (rows:List bX):Prop:=rows.length<=2000/\∀ r∈rows,r.length<=16/\∀ J,some J∈r->J.length<=400/\∀ j∈J,j<rows.length
inductive JP (P:aZ) (w:aU) (K:aA) (CG CR:ak) (vs:az) (H:Hp) (Q:VK) (_E:XK):Prop|mk (x dx y pm po pr pd lim g:_) (_:vs=[.ref x,.ref y]) (_:H x=some (.ins CR dx [])) (_:eD P w K CG [] H y pm po pr pd lim g) (_:Iu g.rows) (_:∀ pl pg pk pq qs S cur H',gU [x] H H'->aS K H H'->iD CR H' x pl pg pk pq qs S->iE g.rows S cur->gb g.rows S->(∀ j∈S.queue,yb g.rows S j)->Q .cT H')
def aY.sm {K:aA} (S:aE H H') (e:aY K H q xs):aY K H' q xs:=by
 rcases e with (e|⟨o,e⟩)|e
 . exact .inl (.inl (S _ _ e))
 . exact .inl (.inr ⟨o,S _ _ e⟩)
 . exact .inr e
structure DI (K:aA) (C x dx:ak) (H H':Hp) (fs:List (Str×V)) (L:List (ak×HO)):Prop where
 b:kH K C x dx H H' fs
 at_:∀ e∈L,H' e.1=some e.2/\e.1≠x/\H e.1=none
 nd:(L.map (·.1)).Nodup
section
variable {K:aA} {C x dx D:ak} {H H' Ho:Hp} {fs fs':List (Str×V)} {L:List (ak×HO)} {o:HO}
theorem DI.put (h:DI K C x dx H H' fs L):DI K C x dx H (upd H' x (.ins C dx fs')) fs' L:=⟨h.b.put,λ e a=>⟨by rw [av (h.at_ e a).2.1];exact (h.at_ e a).1,(h.at_ e a).2⟩,h.nd⟩
def DI.more (h:DI K C x dx H H' fs L) (s:aE H' Ho) (c:H' D=none) (d:Ho D=some o):DI K C x dx H Ho fs ((D,o)::L):=by
 refine ⟨⟨λ b u e n=>s _ _ (h.b.st b u e n),h.b.ts.trans s.ts,s _ _ h.b.at_⟩,λ e a=>?_,abZ.mpr ⟨λ z=>?_,h.nd⟩⟩
 . rcases aah.mp a with rfl|a
   . exact ⟨d,h.b.ne c,h.b.none c⟩
   . exact ⟨s _ _ (h.at_ e a).1,(h.at_ e a).2⟩
 .
  obtain ⟨e,a,z⟩:=abm.mp z;have:=(h.at_ e a).1;rw [z,c] at this;cases this
noncomputable def wY (pl:ak) (q:bA) (L:List (List (Option Nat))):List (ak×HO):=(pl,.lst (q.map .ref))::q.zip (L.map λ l => .lst (l.map hX))
def O1.rkb {L:List (List (Option Nat))} (h:O1 H H' pl q L) (c:H x=some (.ins C dx [])):DI K C x dx H H' [] (wY pl q L):=by
 have nx:∀ b∈pl::q,b≠x:=λ b k z=>by rw [<- z,h.fr b k] at c;cases c
 have n:q.length<=(L.map λ l=>HO.lst (l.map hX)).length:=by rw [CT,h.le];exact aaD _
 refine ⟨⟨λ b o e Z=>h.sm b o e,h.sm.ts,h.sm _ _ c⟩,λ e a=>?_,?_⟩
 .
  rcases aah.mp a with rfl|a
  . exact ⟨h.hp,nx _ aaW,h.fr _ aaW⟩
  .
   obtain ⟨i,m⟩:=adW.mp a;obtain ⟨d,f⟩:=aeF.mp m;rw [aag] at f;obtain ⟨l,j,E⟩:=ac1.mp f;have g:=aar pl (aal d);exact ⟨by rw [<- E];exact h.DO i _ l d j,nx _ g,h.fr _ g⟩
 . show (pl::(q.zip _).map (·.1)).Nodup;rw [List.map_fst_zip n];exact h.nd
def DI.rk {S:kc} (h:DI K C x dx H H' (Sy pl p a c) ((c,.lst (S.queue.map ao))::(a,.lst (S.bI.map hX))::(p,.lst (S.dF.map ao))::wY pl Q S.bG)) (L:Q.length=S.bG.length):iD C H' x pl p a c Q S:=by
 have r:Q.length<=(S.bG.map λ l=>HO.lst (l.map hX)).length:=by rw [CT,L];exact aaD _
 refine ⟨⟨dx,h.b.at_⟩,(h.at_ (pl,.lst (Q.map .ref)) (by simp [wY])).1,L,λ i q l e E=>?_,(h.at_ (p,.lst (S.dF.map ao)) (by simp)).1,(h.at_ (a,.lst (S.bI.map hX)) (by simp)).1,(h.at_ (c,.lst (S.queue.map ao)) (by simp)).1,?_⟩
 . exact (h.at_ (q,.lst (l.map hX)) (aar _ (aar _ (aar _ (aar _ (adW.mpr ⟨i,aeF.mpr ⟨e,by rw [aag,E];rfl⟩⟩)))))).1
 .
  have n:=h.nd;unfold wY at n;rw [ab0,ab0,ab0,ab0,List.map_fst_zip r] at n;simp only [abZ,aah,adE] at n |-;obtain ⟨⟨A,d,f,g⟩,⟨B,b2,j⟩,⟨k,m⟩,D,o⟩:=n;exact ⟨⟨λ z=>k z.symm,λ z=>b2 z.symm,λ z=>f z.symm,D⟩,⟨λ z=>B z.symm,λ z=>d z.symm,m⟩,⟨λ z=>A z.symm,j⟩,g,o⟩
def DI.fr (h:DI K C x dx H H' fs L):gU [x] H H':=λ b u e n=>h.b.st b u e λ z=>n (aac.mpr z)
end
structure nW (rows:List bX) (S:kc) (i n:Nat):Prop where
 ok:iE rows S 0
 dn:∀ (p:Nat) (r:bX) (c:Nat),rows[p]?=some r->r[c]?=some none->(p<i\/(p=i/\c<n))->∃ l,S.bG[p]?=some l/\l[c]?=some (some 0)
 un:∀ (p:Nat) l (c:Nat),S.bG[p]?=some l->c<l.length->(i<p\/(p=i/\n<=c))->l[c]?=some none
def nW.zero (rows:List bX):nW rows (Jf rows) 0 0:=by
 refine ⟨PU rows,λ p r c Z Z h=>?_,λ p l c e H Z=>?_⟩
 . rcases h with h|⟨Z,h⟩<;>exact absurd h (adg _)
 .
  have:=Vo H;cases q:l[c] with
  | none=>rw [this,q]
  | some t=>rw [q] at this;exact absurd this (Da e)
def nW.skip (h:nW rows S i n) (a:rows[i]?=some r) (b:r[n]?=some (some j)):nW rows S i (n+1):=by
 refine ⟨h.ok,λ p R c e E q=>?_,λ p l c e H q=>h.un p l c e H (by lia)⟩;refine h.dn p R c e E ?_;rcases q with q|⟨q,Q⟩
 . exact .inl q
 .
  refine .inr ⟨q,?_⟩;by_cases z:c=n
  .
   subst q;subst z;rw [a] at e;cases e;rw [b] at E;cases E
  . lia
def nW.step {l:List (Option Nat)} (h:nW rows S i n) (a:rows[i]?=some r) (b:r[n]?=some none) (E:S.bG[i]?=some l) (k:S.dF[i]?=some m):nW rows (S.fin i n 0 l m) i (n+1):=by
 have d:n<l.length:=by rw [h.ok.sh i l r E a];exact (QQ.mp b).1
 have o:i<S.bG.length:=(QQ.mp E).1;have H:=h.un i l n E d (.inr ⟨rfl,aaD _⟩);refine ⟨h.ok.fin E k H ⟨r,a,.inl ⟨b,rfl⟩⟩,λ p R c e f q=>?_,λ p L c e v q=>?_⟩
 .
  by_cases z:p=i/\c=n
  . obtain ⟨rfl,rfl⟩:=z;exact ⟨_,cZ.mpr (.inl ⟨rfl,o,rfl⟩),cZ.mpr (.inl ⟨rfl,d,rfl⟩)⟩
  . obtain ⟨L,g,j⟩:=h.dn p R c e f (by lia);exact xE E H g j
 .
  rcases cZ.mp (show (S.bG.set i (l.set n (some 0)))[p]?=some L from e) with ⟨z,Z,rfl⟩|⟨z,e⟩
  . rw [adh] at v;refine cZ.mpr (.inr ⟨by lia,h.un i l c E v (by lia)⟩)
  . exact h.un p L c e v (by lia)
def nW.next {r:bX} (h:nW rows S i r.length) (a:rows[i]?=some r):nW rows S (i+1) 0:=by
 refine ⟨h.ok,λ p R c e E q=>h.dn p R c e E ?_,λ p l c e H q=>h.un p l c e H (by lia)⟩;by_cases z:p=i
 .
  subst z;rw [a] at e;cases e;exact .inr ⟨rfl,(QQ.mp E).1⟩
 . lia
def nW.done (h:nW rows S rows.length 0):gb rows S:=λ p r c e E=>h.dn p r c e E (.inl (QQ.mp e).1)
def iD.same {CR:ak} (h:iD CR H x pl p a b Q S) (s:aE H H'):iD CR H' x pl p a b Q S:=by
 obtain ⟨⟨d,o⟩,c,f,g,j,k,m,n⟩:=h;exact ⟨⟨d,s _ _ o⟩,s _ _ c,f,λ i q l e E=>s _ _ (g i q l e E),s _ _ j,s _ _ k,s _ _ m,n⟩
theorem Eg {c:Type} {R:ak->c->Prop}:∀ {as:bA} {l:List c},as.length=l.length->(∀ (i:Nat) b a,as[i]?=some b->l[i]?=some a->R b a)->Refs R (as.map .ref) l
 | [],[],_,_=>Refs.nil
 | b::as,a::l,h,f => .cons ⟨b,rfl,f 0 b a rfl rfl⟩ (Eg (af8 h) λ i b a e E=>f (i+1) b a e E)
def iD.there {CR:ak} (h:iD CR H x pl p a c q S) {b:ak} (d:b∈IN pl p a c q):H b≠none:=by
 obtain ⟨o,e,Z⟩:=h.uO b d;rw [e];exact nofun
def Ae.at {K:aA} {CR:ak} (h:iD CR H x pl c d f q S) (a:Ae K H H' p as ah):JR K H' (IN pl c d f q) p ah :=
 ⟨_,a.hp,λ z=>h.there z (a.fr _ aaW),Eg a.le λ i b l e E=>⟨λ z=>h.there z (a.fr _ (aar _ (aal e))),a.DO i b l e E⟩⟩
def DI.W8 {K:aA} {p e f:ak} {l:List (List (Option Nat))} {o O d:HO} (h:DI K C x dx H H' F ((f,o)::(e,O)::(p,d)::wY pl q l)) (L:q.length=l.length):∀ b∈IN pl p e f q,H b=none:=by
 intro b a;simp only [aah] at a;rcases a with rfl|rfl|rfl|rfl|a
 . exact (h.at_ (b,.lst (q.map .ref)) (by simp [wY])).2.2
 . exact (h.at_ (b,d) (by simp)).2.2
 . exact (h.at_ (b,O) (by simp)).2.2
 . exact (h.at_ (b,o) (by simp)).2.2
 . obtain ⟨i,c,rfl⟩:=acF.mp a;have D:i<l.length:=by rw [<- L];exact c
   exact (h.at_ (q[i],.lst (l[i].map hX)) (aar _ (aar _ (aar _ (aar _ (adW.mpr ⟨i,aeF.mpr ⟨Vo c,by rw [aag,Vo D];rfl⟩⟩)))))).2.2
def Br (m:aq):Prop:=∀ s o,eM m s->o∈s.orders m->(mm m s o).length<=400
def Og {K:aA} {V:az} (h:lG K H V met):∀ {Q:List (Option Nat)},Q.length=met.length->∃ a:pG,V=a.map (λ e => .ref e.2.1)/\Q.map hX=a.map (λ e=>e.2.2)/\a.map (·.1)=met.map m6/\∀ e∈a,hG K H e.1 e.2.1:=by
 unfold lG Refs at h;induction h with
 | nil =>
   intro Q b;obtain rfl:=acn b;exact ⟨[],rfl,rfl,rfl,λ Z h=>absurd h aak⟩
 | @cons v s V met h t I =>
   intro Q b;obtain ⟨p,e,j⟩:=h;cases Q with
   | nil=>cases b
   | cons r Q =>
     obtain ⟨a,d,f,g,i⟩:=I (af8 b);refine ⟨(m6 s,p,hX r)::a,by rw [e,d];rfl,by rw [ab0,f];rfl,by rw [ab0,g];rfl,λ x c=>?_⟩;rcases aah.mp c with rfl|c
     . exact jn j
     . exact i x c
theorem Ea:∀ {a:pG} {i:Nat} {e:PyData×ak×V},(a.map (·.1)).Nodup->a[i]?=some e->i5 a e.1=some e.2.2
 | [],_,_,_,h=>by simp at h
 | x::a,0,e,_,h=>by
   cases h;unfold i5;rw [acA,aaM rfl];rfl
 | x::a,i+1,e,H,h=>by
   have H:=abZ.mp H;have h:a[i]?=some e:=h;have n:x.1≠e.1:=λ z=>H.1 (abm.mpr ⟨e,aal h,z.symm⟩);have:=Ea H.2 h;unfold i5 at this |-;rw [acA,aaL n];exact this
def gv.P6 {g:qN} (h:gv m g) (G:JZ m) (R:Br m) (l:g.rows.length=g.met.length) (L:g.met.length<=2000):Iu g.rows:=by
 refine ⟨by lia,λ r f=>?_⟩;obtain ⟨i,c,rfl⟩:=acF.mp f;have E:=Vo c;have D:i<g.met.length:=by lia
 have b:=Vo D;have a:=h.rows i _ _ b E;have S:=h.st _ (abq D);refine ⟨by rw [<- a.length];exact vR G.h4 _,λ J H=>?_⟩;obtain ⟨o,d,q⟩:=uz a (some J) H;have Q:=R _ o S d;unfold jY at q;split at q
 .
  have q:Paired (λ j s=>g.met[j]?=some s) J (mm m g.met[i] o):=q;refine ⟨by rw [q.length];exact Q,λ j H=>?_⟩;obtain ⟨t,Z,e⟩:=vJ q j H;rw [l];exact (QQ.mp e).1
 . exact q.elim
section
variable {m:aq} {s:cg} {o out:Nat}
def Qe (a:m.rows.length<=4) (S:eM m s) (d:o∈s.orders m):o<16/\(SX m s).Law o:=by
 obtain ⟨c,h⟩:=acq.mp d;obtain ⟨b,O⟩:=(rq (vk a)).2 o c;obtain ⟨h,H⟩:=ac0.mp h;obtain ⟨H,a⟩:=ac0.mp H;refine ⟨b,(Ord.Jp (aba b (by decide))).mpr ⟨O,⟨?_,adx H,adx a⟩⟩⟩;have:=adx h;unfold cg.held at this;rw [S.lw] at this;exact this
def EV (H:m.rows.length<=4) (W:∀ x,some x∈m.bw->0<=x.1.1/\(0<=x.2.1/\x.2.1<=9)/\(0<=x.2.2.1/\x.2.2.1<=3)/\(0<=x.2.2.2/\x.2.2.2<=3)) (V:m.Bds) (S:eM m s) (c:o∈s.orders m) (d:out∈dO m s o):cD m s o out:=by
 obtain ⟨b,l⟩:=Qe H S c;obtain ⟨u,U⟩:=(rq (zq (s:=s) (o:=o) H)).2 out d;have a:∀ r,0<=m.wd r/\0<=m.dQ r:=λ r=>by
   unfold aq.wd aq.dQ aq.lN;cases e:m.bw[r]? with
   | none=>exact ⟨adO _,adO _⟩
   | some z =>
     cases z with
     | none=>exact ⟨adO _,adO _⟩
     | some z =>
       have:=W z (aal e);exact ⟨this.2.1.1,this.2.2.1.1⟩
 refine ⟨H,S,l,b,u,λ r h=>?_,λ r=>(a r).1,λ r=>(a r).2,V.2.1.1,V.2.2.1⟩;have:(out &&& s.may m o).testBit r=true:=by rw [U];exact h
 rw [adm] at this;have:=(abF _ _ ▸ this:out.testBit r=true/\(s.may m o).testBit r=true).2;unfold cg.may at this;rw [Ord.jk] at this;simp only [abF,aeN,acu] at this;exact ⟨this.2.1.1,this.2.1.2,this.2.2⟩
def Kc {g:cy} {x:Nat} (h:x∈rY r f g):x+1<r.length:=by
 have:=aa4.mp (acq.mp h).1;lia
def yp (l:bi) (i:Nat):gN l i=l.getD i 0:=by
 unfold gN;rw [aab]
def LW {D:List Pr} (h:∀ d∈D,Aq 900 900 d) (H:D.length<=10):fW 20000 (nf (gu D).1 (gu D).2):=by
 obtain ⟨a,b,c⟩:=yZ D h D.length (aaD _);rw [abz] at a b c;have F:=mL (t:=(gu D).1) c;exact ⟨F.Ud (a.mono (by lia)),F.U2 (b.mono (by lia)),F.pos⟩
def Ls (W:m.Wf) (f:m.rows.length<=4) (r:m.bK.length=m.rows.length) (S:eM m s):Pd m s:=by
 intro i b l g;have h:∀ j,j<m.rows.length->s.bL.getD j 0+1<(m.rows.getD j []).length:=λ j n=>by rw [<- yp];exact S.band j n
 have len:∀ d,(hU m s.bL d).length=m.rows.length:=λ d=>by
   unfold hU;rw [CT,aax,S.lb]
 have p:b=true->∃ z,m.bw[i]?=some (some z):=λ e=>by
   have:=g e;unfold aq.has aq.lN at this;cases q:m.bw[i]? with
   | none=>rw [q] at this;cases this
   | some z =>
     cases z with
     | none=>rw [q] at this;cases this
     | some z=>exact ⟨z,rfl⟩
 have H:i<m.bK.length:=by rw [r];exact l
 have E:nZ m i=m.bK[i]:=by unfold nZ;rw [Vo H];rfl
 have a:=W.bK m.bK[i] (abq H);have one:∀ d w,d<=1->fW 120 w->fW 20000 (pQ m i (hU m s.bL d) w b):=λ d w k o=>by
   obtain ⟨A,c,Z⟩:=sF (i:=i) (fired:=b) W f (len d) (qg W S.lb h k) o p;exact LW A c
 refine ⟨one 0 _ (by decide) ?_,one 1 _ (by decide) ?_⟩
 . rw [E];exact a.2.1.mono (by decide)
 . rw [E];exact a.2.2.mono (by decide)
def DL (w:m.Wf) (h:m.rows.length<=4) (f:m.bK.length=m.rows.length) (W:∀ x,some x∈m.bw->0<=x.1.1/\(0<=x.2.1/\x.2.1<=9)/\(0<=x.2.2.1/\x.2.2.1<=3)/\(0<=x.2.2.2/\x.2.2.2<=3)) (V:m.Bds):JZ m:=by
 refine ⟨h,λ s S=>Ls w h f S,λ s o S H out z=>EV h W V S H z,λ s o x S H a=>?_⟩;obtain ⟨out,z,a⟩:=ads.mp a;obtain ⟨c,e,rfl⟩:=abm.mp a;obtain ⟨lc,d⟩:=iC.mp e;have L:(fy m s (Ord.off o out)).length=m.rows.length:=by unfold fy;rw [CT,aax]
 rw [L] at lc d;refine (EV h W V S H z).next lc λ i b=>?_;have:=d i b;rw [yp];unfold fy at this;rw [aab (l:=List.map _ _),aag,afi b] at this;have this:c.getD i 0∈(sx m s (Ord.off o out) i).getD []:=this;unfold sx dZ at this;split at this
 . exact Kc this
 . exact absurd this aak
def OL (w:m.Wf) (h:m.rows.length<=4) (s:m.bK.length=m.rows.length) (p:gI m):JZ m:=DL w h s p.bM p.O7
end
structure Ch (m:aq):Prop where
 n1:1<=m.rows.length
 n2:m.rows.length<=2
 bd:∀ r∈m.rows,r.length+m.rows.length<=5
 dQ:∀ i,m.dQ i+m.rows.length<=3
 fails:∀ i,m.fails i<=1
 eF:m.eF<=4
def gG {k:Nat} (rows:List (bi)):(∀ r∈rows,r.length<=k)->(bF rows).length<=k ^ rows.length:=by
 refine snoc_ind (p:=λ rows=>(∀ r∈rows,r.length<=k)->(bF rows).length<=k ^ rows.length) (λ Z=>aaD _) (λ l r i h=>?_) rows;rw [jj,aae,aa3,aez];refine abk (fR (k:=k) λ a=>by rw [CT];exact h r (by simp)) (adF _ (i λ x H=>h x (by simp [H])))
def Ed (m:aq):List cg :=
 (bF ((List.range m.rows.length).map λ i=>List.range ((m.rows.getD i []).length - 1))).flatMap λ b=>(List.range (2 ^ m.rows.length)).flatMap λ u =>
   (bF ((List.range m.rows.length).map λ i=>List.range ((m.dQ i).toNat+1))).flatMap λ w=>(bF ((List.range m.rows.length).map λ i=>List.range ((m.fails i).toNat+1))).flatMap λ f =>
     (List.range (m.eF.toNat+1)).map λ h=>⟨b,u,w,f,h⟩
def Jb {n i:Nat} {F:Nat->bi} (h:i<n):((List.range n).map F).getD i []=F i:=by
 rw [aab,aag,afi h];rfl
def MD (S:eM m s):s∈Ed m:=by
 have c:∀ {l:bi} {F:Nat->bi},l.length=m.rows.length->(∀ i,i<m.rows.length->gN l i∈F i)->l∈bF ((List.range m.rows.length).map F):=λ {l F} d b=>by
   refine iC.mpr ⟨by rw [CT,aax];exact d,λ i h=>?_⟩;rw [CT,aax] at h;rw [Jb h,<- yp];exact b i h
 have f:∀ i,i<m.rows.length->(gN s.cI i:Int)<=max 0 (m.dQ i)/\(gN s.failed i:Int)<=max 0 (m.fails i):=λ i h=>by
   have:=S.bM i h;unfold aq.dQ aq.fails;cases e:m.lN i with
   | none=>rw [e] at this;obtain ⟨Z,H,a⟩:=this;rw [H,a];exact ⟨Int.le_max_left _ _,Int.le_max_left _ _⟩
   | some z=>rw [e] at this;exact ⟨ac3 this.1 (Int.le_max_right _ _),ac3 this.2.1 (Int.le_max_right _ _)⟩
 refine ads.mpr ⟨s.bL,c S.lb λ i h=>aa4.mpr (by have:=S.band i h;lia),ads.mpr ⟨s.bx,aa4.mpr S.bx,ads.mpr ⟨s.cI,c S.lw λ i h=>aa4.mpr (by have:=(f i h).1;lia),ads.mpr ⟨s.failed,c S.lf λ i h=>aa4.mpr (by have:=(f i h).2;lia),abm.mpr ⟨s.heap,aa4.mpr (by have:=S.heap;lia),rfl⟩⟩⟩⟩⟩
def Lo {m:aq} {a b c d:Nat} (h:(bF ((List.range m.rows.length).map λ i=>List.range ((m.rows.getD i []).length - 1))).length<=a) (H:(bF ((List.range m.rows.length).map λ i=>List.range ((m.dQ i).toNat+1))).length<=b) (e:(bF ((List.range m.rows.length).map λ i=>List.range ((m.fails i).toNat+1))).length<=c) (g:m.eF.toNat+1<=d) :
   (Ed m).length<=a * (2 ^ m.rows.length * (b * (c * d))):=by
 unfold Ed;refine abk (fR (k:=2 ^ m.rows.length * (b * (c * d))) λ x=>?_) (adF _ h);refine abk (fR (k:=b * (c * d)) λ y=>?_) (by rw [aax];exact aaD _);refine abk (fR (k:=c * d) λ w=>?_) (adF _ H);refine abk (fR (k:=d) λ f=>?_) (adF _ e);rw [CT,aax];exact g
def Ch.fin (h:Ch m):Qo m 2000:=λ l N g=>by
 have o:=adI N (l₂:=Ed m) λ s n=>MD (g s n);have L:∀ {F:Nat->bi},((List.range m.rows.length).map F).length=m.rows.length:=by intro F;rw [CT,aax]
 have R:∀ {F:Nat->Nat} {k:Nat},(∀ i,i<m.rows.length->F i<=k)->∀ r∈(List.range m.rows.length).map (λ i=>List.range (F i)),r.length<=k:=λ {F k} f r j=>by
   obtain ⟨i,H,rfl⟩:=abm.mp j;rw [aax];exact f i (aa4.mp H)
 have b:∀ i,i<m.rows.length->(m.rows.getD i []).length+m.rows.length<=5:=λ i H=>by
   rw [aab,Vo H];exact h.bd _ (abq H)
 have c:=gG (k:=4 - m.rows.length) _ (R (F:=λ i=>(m.rows.getD i []).length - 1) λ i H=>by have:=b i H;lia);have C:=gG (k:=4 - m.rows.length) _ (R (F:=λ i=>(m.dQ i).toNat+1) λ i H=>by have:=h.dQ i;have:=h.n2;lia);have a:=gG (k:=2) _ (R (F:=λ i=>(m.fails i).toNat+1) λ i H=>by have:=h.fails i;lia);rw [L] at c C a;have:=Lo (d:=5) c C a (by have:=h.eF;lia);have p:=h.n1;have q:=h.n2;have:m.rows.length=1\/m.rows.length=2:=by lia
 rcases this with e|e
 . rw [e] at this;lia
 . rw [e] at this;lia
def Ch.res (h:Ch m):Br m:=λ s o S d=>by
 have n:=h.n2;have bl:∀ O,(gF m s o O).length<=9:=λ O=>by
   unfold gF;rw [CT];have L:(fy m s (Ord.off o O)).length=m.rows.length:=by unfold fy;rw [CT,aax]
   have:=gG (k:=3) (fy m s (Ord.off o O)) λ r a=>by
     obtain ⟨i,H,rfl⟩:=abm.mp a;have H:=aa4.mp H;unfold sx dZ;split
     . have:=mV (m.rows.getD i []) (mQ m i s.bL ((Ord.off o O).testBit i)) (mF m i s.bL ((Ord.off o O).testBit i)) ((m.rows.getD i []).length - 1);have b:=h.bd m.rows[i] (abq H);have e:m.rows.getD i []=m.rows[i]:=by rw [aab,Vo H];rfl
       rw [e] at this |-;show (k8 _ _ _ _).length<=3;have N:=h.n1;lia
     . exact ach _
   rw [L] at this;exact abk this (abk (aci (by decide) n) (by decide))
 have:=fR (l:=dO m s o) (k:=9) bl;have c:(dO m s o).length<=16:=(pT (zq (s:=s) (o:=o) (by lia))).2;show ((dO m s o).flatMap (gF m s o)).length<=400;lia
inductive E9 {a b c d e f g h i:Type} (p:a->b->c->d->e->f->g->h->i->Prop):Prop|mk (x:a) (y:b) (z:c) (u:d) (v:e) (w:f) (t:g) (s:h) (r:i) (_:p x y z u v w t s r)
structure EA (n:Nat) (z:Int×Int×Int×Int):Prop where
 s2:z.2.2.1<=2
 s1:2<=n->z.2.2.1<=1
 f:z.2.2.2<=1
structure Dp (n b:Nat) (r:R7):Prop where
 len:r.marks.length<=b+1
 st:∀ z,r.bM=some z->EA n z
structure oU (rs:List R7) (b0 b1 b2:Int) (p:Nat) (m:aq):Prop where
 most:m.most=b0
 eF:m.eF=b1
 load:m.load=b2
 rows:∀ (i:Nat) r,m.rows[i]?=some r->∃ q,rs[i]?=some q/\r.length=q.marks.length
 st:∀ (i:Nat) q,i<p->rs[i]?=some q->(m.lN i).map (·.2)=q.bM.map (·.2)
 no:∀ i,p<=i->m.lN i=none
section
variable {rs:List R7} {b0 b1 b2:Int} {p i j:Nat} {m:aq}
theorem oU.new:oU rs b0 b1 b2 0 (aq.new b0 b1 b2):=⟨rfl,rfl,rfl,λ i r e=>(by have e:([]:List (List cy))[i]?=some r:=e;simp at e),λ Z Z h=>absurd h (adg _),λ Z Z=>rfl⟩
theorem oU.eY {r:List cy} (h:oU rs b0 b1 b2 0 m) (a:rs[m.rows.length]?=some q) (b:r.length=q.marks.length):oU rs b0 b1 b2 0 (m.eY r):=by
 refine ⟨h.most,h.eF,h.load,λ i x e=>?_,λ Z Z h=>absurd h (adg _),λ i Z=>?_⟩
 .
  have e:(m.rows++[r])[i]?=some x:=e;by_cases H:i<m.rows.length
  . rw [aaG H] at e;exact h.rows i x e
  .
   have:=(QQ.mp e).1;rw [aae,aa3] at this;obtain rfl:i=m.rows.length:=by lia
   rw [ab1] at e;cases e;exact ⟨q,a,b⟩
 .
  have:=h.no i (ach _);unfold aq.lN at this |-;show ((m.bw++[none])[i]?).getD none=none;by_cases H:i<m.bw.length
  . rw [aaG H];exact this
  . rw [abW (by lia)];by_cases z:i - m.bw.length=0
    . rw [z];rfl
    . rw [ae6 (by show 1<=_;lia)];rfl
theorem oU.gw (h:oU rs b0 b1 b2 p m):oU rs b0 b1 b2 p (m.gw i z):=⟨h.most,h.eF,h.load,h.rows,h.st,h.no⟩
theorem oU.eR (h:oU rs b0 b1 b2 p m):oU rs b0 b1 b2 p (m.eR i j f):=⟨h.most,h.eF,h.load,h.rows,h.st,h.no⟩
def oU.skip (h:oU rs b0 b1 b2 p m) (a:rs[p]?=some q) (b:q.bM=none):oU rs b0 b1 b2 (p+1) m:=by
 refine ⟨h.most,h.eF,h.load,h.rows,λ i x H e=>?_,λ i H=>h.no i (by lia)⟩;by_cases z:i=p
 .
  subst z;rw [a] at e;cases e;rw [h.no i (aaD _),b];rfl
 . exact h.st i x (by lia) e
theorem oU.eI {z:cy×Int×Int×Int} (h:oU rs b0 b1 b2 p m) (hp:p<m.bw.length) (a:rs[p]?=some q) (b:q.bM=some y) (c:z.2=y.2):oU rs b0 b1 b2 (p+1) (m.eI p z):=by
 have E:∀ i,(m.eI p z).lN i=if i=p then some z else m.lN i:=λ i=>by
   unfold aq.lN;show ((m.bw.set p (some z))[i]?).getD none=_;by_cases e:i=p
   . subst e;rw [abE rfl,aee hp];rfl
   . rw [abC e,adZ (λ q=>e q.symm)]
 refine ⟨h.most,h.eF,h.load,h.rows,λ i x H e=>?_,λ i H=>?_⟩
 .
  rw [E];by_cases k:i=p
  .
   subst k;rw [a] at e;cases e;rw [abE rfl,b];exact adB some c
  . rw [abC k];exact h.st i x (by lia) e
 . rw [E,abC (by lia)];exact h.no i (by lia)
end
def N4:Option (Int×Int×Int×Int)->Bool->Nat->Nat->Prop
 | none,f,w,b=>f=false/\w=0/\b=0
 | some z,f,w,b=>(w:Int)<=z.2.2.1/\(b:Int)<=z.2.2.2/\(b=0\/(f=false/\w=0))
structure oh (rs:List R7) (b0:Int) (i:Nat) (bs ws fs:bi) (b:Nat):Prop where
 lb:bs.length=i
 lw:ws.length=i
 lf:fs.length=i
 bx:b<2 ^ i
 most:((Bit.rooms b).length:Int)<=b0
 band:∀ (j:Nat) q,j<i->rs[j]?=some q->gN bs j+1<q.marks.length
 bM:∀ (j:Nat) q,j<i->rs[j]?=some q->N4 q.bM (b.testBit j) (gN ws j) (gN fs j)
def oh.zero {b0:Int} (h:0<=b0):oh r b0 0 [] [] [] 0:=by
 refine ⟨rfl,rfl,rfl,by decide,?_,λ Z Z h=>absurd h (adg _),λ Z Z h=>absurd h (adg _)⟩;have e:(Bit.rooms 0).length=0:=by decide
 rw [e];exact h
def oh.next {b0:Int} {x:Nat} (h:oh R b0 i bs W F b) (m:i<61) (g:R[i]?=some q) (p:x+1<q.marks.length) (k:N4 q.bM lit w f) (o:lit=true->((Bit.rooms b).length:Int)<b0):oh R b0 (i+1) (bs++[x]) (W++[w]) (F++[f]) (if lit then b+2 ^ i else b)/\(Bit.rooms (if lit then b+2 ^ i else b)).length=(Bit.rooms b).length+(if lit then 1 else 0):=by
 have Y:b.testBit i=false:=Bit.jl h.bx (aaD _);have d:b+2 ^ i=b ||| 2 ^ i:=by
   have:=afB h.bx 1;rw [agh] at this;rw [aei,this,Nat.or_comm]
 have O:(if lit then b+2 ^ i else b)<2 ^ (i+1):=by
   have:=h.bx;rw [aez];split<;>lia
 have H:(Bit.rooms (if lit then b+2 ^ i else b)).length=(Bit.rooms b).length+(if lit then 1 else 0):=by
   cases lit with
   | false=>rfl
   | true =>
     show (Bit.rooms (b+2 ^ i)).length=_+1;rw [d,Bit.HP m Y]
 have a:∀ j,j<i->(if lit then b+2 ^ i else b).testBit j=b.testBit j:=λ j c=>by
   cases lit with
   | false=>rfl
   | true =>
     show (b+2 ^ i).testBit j=_;rw [aei];exact Nat.testBit_two_pow_add_gt c b
 have C:(if lit then b+2 ^ i else b).testBit i=lit:=by
   cases lit with
   | false=>exact Y
   | true =>
     show (b+2 ^ i).testBit i=_;rw [aei,Nat.testBit_two_pow_add_eq,Y];rfl
 have n:∀ {l:bi} {y:Nat},l.length=i->gN (l++[y]) i=y:=λ {l y} e=>by rw [<- e];exact Qc
 refine ⟨⟨by rw [aae,h.lb];rfl,by rw [aae,h.lw];rfl,by rw [aae,h.lf];rfl,O,?_,λ j r c E=>?_,λ j r c E=>?_⟩,H⟩
 .
  rw [H];have:=h.most;cases lit with
  | false=>exact this
  | true =>
    have:=o rfl;show (((Bit.rooms b).length+1:Nat):Int)<=_;lia
 .
  by_cases e:j<i
  . rw [CV (by rw [h.lb];exact e)];exact h.band j r e E
  . obtain rfl:j=i:=by lia
    rw [g] at E;cases E;rw [n h.lb];exact p
 .
  by_cases e:j<i
  . rw [CV (by rw [h.lw];exact e),CV (by rw [h.lf];exact e),a j e];exact h.bM j r e E
  . obtain rfl:j=i:=by lia
    rw [g] at E;cases E;rw [n h.lw,n h.lf,C];exact k
def oh.ok {b0 b1:Int} {s:cg} (h:oh r b0 r.length s.bL s.cI s.failed s.bx) (l:oU r b0 b1 b2 r.length m) (L:m.rows.length=r.length) (hp:(s.heap:Int)<=b1):eM m s:=by
 refine ⟨by rw [L];exact h.lb,by rw [L];exact h.lw,by rw [L];exact h.lf,by rw [L];exact h.bx,by rw [l.most];exact h.most,by rw [l.eF];exact hp,λ i H=>?_,λ i H=>?_⟩
 .
  obtain ⟨q,E,e⟩:=l.rows i _ (Vo H);rw [aab,Vo H];show _<m.rows[i].length;rw [e];exact h.band i q (by lia) E
 .
  have D:i<r.length:=by lia
  have E:=Vo D;have:=h.bM i _ D E;have e:=l.st i _ D E;cases q:r[i].bM with
  | none =>
    rw [q] at this e;cases z:m.lN i with
    | none=>exact this
    | some a=>rw [z] at e;cases e
  | some y =>
    rw [q] at this e;cases z:m.lN i with
    | none=>rw [z] at e;cases e
    | some a =>
      rw [z] at e;have e:a.2=y.2:=aaO e;show (_:Int)<=a.2.2.1/\(_:Int)<=a.2.2.2/\_;rw [e];exact this
def oU.Yl {b0 b1:Int} (l:oU R b0 b1 b2 R.length m) (n:m.rows.length=R.length) (N:1<=R.length) (o:R.length<=2) (d:∀ r∈R,Dp R.length (4 - R.length) r) (g:b1<=4):Ch m:=by
 have L:∀ i z,m.lN i=some z->∃ y,y.2=z.2/\EA R.length y:=λ i z e=>by
   by_cases H:i<R.length
   .
    have E:=Vo H;have h:=l.st i _ H E;rw [e] at h;cases q:R[i].bM with
    | none=>rw [q] at h;cases h
    | some y =>
      rw [q] at h;exact ⟨y,(aaO h).symm,(d _ (abq H)).st y q⟩
   . rw [l.no i (by lia)] at e;cases e
 refine ⟨by lia,by lia,λ r j=>?_,λ i=>?_,λ i=>?_,by rw [l.eF];exact g⟩
 .
  obtain ⟨i,H⟩:=adW.mp j;obtain ⟨q,E,e⟩:=l.rows i r H;have:=(d q (aal E)).len;lia
 .
  unfold aq.dQ;cases e:m.lN i with
  | none=>show (0:Int)+_<=3;lia
  | some z =>
    obtain ⟨y,b,F⟩:=L i z e;have a:=F.s2;have c:=F.s1;rw [b] at c a;show z.2.2.1+_<=3;by_cases k:2<=R.length
    . have:=c k;lia
    . lia
 .
  unfold aq.fails;cases e:m.lN i with
  | none=>show (0:Int)<=1;decide
  | some z =>
    obtain ⟨y,b,F⟩:=L i z e;have a:=F.f;rw [b] at a;exact a
section
variable (K:aA) (C:ak)
inductive CF (vs:az) (H:Hp) (Q:VK) (_E:XK):Prop|mk (c:Int) (n b:Nat) (_:vs=[.int c,ao n,ao b]) (_:1<=n) (_:n<=4) (_:1<=b) (_:b<=4) (_:∀ p xs (rs:List R7) H',aE H H'->H' p=some (.lst xs)->bE K H' (rs.map K6) xs->rs.length=n->(∀ r∈rs,r.Ok/\Dp n b r)->Q (.ref p) H')
inductive FZ (vs:az) (H:Hp) (Q:VK) (_E:XK):Prop|mk (pr:ak) (xs:az) (rs:List R7) (Ca:ak) (s:Cb) (pb:ak) (b0 b1 b2:Int) (fl:Int) (_:vs=[.ref pr,.ref Ca,.ref pb,.int fl]) (_:aY K H pr xs) (_:bE K H (rs.map K6) xs) (_:1<=rs.length) (_:rs.length<=4) (_:(∀ r∈rs,r.Ok)) (_:bP K H Ca s.vs) (_:s.Ok) (_:bP K H pb [.int b0,.int b1,.int b2]) (_:(0<=b0/\b0<=4)) (_:(0<=b1/\b1<=30)) (_:(0<=b2/\b2<=30)) (_:∀ a fp m H',aE H H'->aV K C H' a fp m->(∀ c∈fp,H c=none)->m.rows.length=rs.length->QH m->gI m->oU rs b0 b1 b2 rs.length m->Q (.ref a) H')
inductive C4 (vs:az) (H:Hp) (Q:VK) (_E:XK):Prop|mk (pr:ak) (xs:az) (rs:List R7) (pb:ak) (b0 b1 b2 c k:Int) (_:vs=[.ref pr,.ref pb,.int c,.int k]) (_:aY K H pr xs) (_:bE K H (rs.map K6) xs) (_:1<=rs.length) (_:rs.length<=4) (_:(∀ r∈rs,r.Ok)) (_:bP K H pb [.int b0,.int b1,.int b2]) (_:0<=b0) (_:0<=b1) (_:0<=k) (_:k<=100) (_:∀ q st H',aE H H'->gS K H' q st->oh rs b0 rs.length st.bL st.cI st.failed st.bx->(st.heap:Int)<=b1->Q (.ref q) H')
end
structure Ro (m m':aq):Prop where
 ex:∃ a b c,m'={ m with most:=a,eF:=b,load:=c }/\m.most<=a/\a<=4/\m.eF<=b/\b<=4/\m.load<=c/\c<=30
theorem Ro.le (h:Ro m M) {s:cg} {hp:Nat} {v:Option Nat} (l:s.heap<=hp) (r:ig m s u) (R:ig M { s with heap:=hp } v):v=none\/∃ x y,u=some x/\v=some y/\x<=y:=by
 obtain ⟨a,b,c,rfl,H,f,d,g,e,i⟩:=h.ex;exact r.le R λ k q=>BE H d e k s hp l q
def Ro.refl (p:gI m) (f:Ch m):Ro m m:=⟨_,_,_,rfl,adO _,p.O7.1.2,adO _,f.eF,adO _,p.O7.2.2.2⟩
structure mS where
 bL:List Int
 bx:Nat
 cI:List Int
 failed:List Int
 heap:Int
def wu (K:aA) (H:Hp) (p:ak) (g:mS):Prop :=
 ∃ a c b,bP K H p [.ref a,ao g.bx,.ref c,.ref b,.int g.heap]/\bP K H a (g.bL.map V.int)/\bP K H c (g.cI.map V.int)/\bP K H b (g.failed.map V.int)
def wu.same {K:aA} {g:mS} (h:wu K H p g) (q:aE H H'):wu K H' p g:=by
 obtain ⟨e,i,f,a,b,c,d⟩:=h;exact ⟨e,i,f,q.tup a,q.tup b,q.tup c,q.tup d⟩
noncomputable def zP (l:bi):List Int:=l.map Int.ofNat
def mS.of (s:cg):mS:=⟨zP s.bL,s.bx,zP s.cI,zP s.failed,s.heap⟩
def zi (l:bi):(zP l).map V.int=l.map ao:=by unfold zP;rw [adX];rfl
def gS.gs {K:aA} (h:gS K H p s):wu K H p (.of s):=by
 obtain ⟨e,g,f,a,b,c,d⟩:=h;exact ⟨e,g,f,a,by show bP K H e ((zP s.bL).map V.int);rw [zi];exact b,by show bP K H g ((zP s.cI).map V.int);rw [zi];exact c,by show bP K H f ((zP s.failed).map V.int);rw [zi];exact d⟩
def Wj (s:Option (Int×Int)) (f:Bool) (w b:Int):Bool :=
 match s with
 | none => !f && (decide (w=0) && decide (b=0))
 | some z=>(decide (0<=w) && decide (w<=z.1)) && ((decide (0<=b) && decide (b<=z.2)) && (decide (b=0) || (!f && decide (w=0))))
def nY (n:Int) (s:Option (Int×Int)) (B:Int) (f:Bool) (w b:Int):Bool:=(decide (0<=B) && decide (B<n)) && Wj s f w b
def W9 (n:Nat) (most eF:Int) (N:Nat->Int) (s:Nat->Option (Int×Int)) (g:mS):Bool :=
 (decide (g.bL.length=n) && (decide (g.cI.length=n) && decide (g.failed.length=n))) && ((decide (g.bx<2 ^ n) && decide (((Bit.rooms g.bx).length:Int)<=most)) &&
   ((decide (0<=g.heap) && decide (g.heap<=eF)) && (List.range n).all λ i=>nY (N i) (s i) (g.bL.getD i 0) (g.bx.testBit i) (g.cI.getD i 0) (g.failed.getD i 0)))
noncomputable def aq.nb (m:aq) (i:Nat):Int:=((m.rows.getD i []).length:Int) - 1
noncomputable def L6 (o:Option WZ):Option (Int×Int):=o.map λ z=>(z.2.2.1,z.2.2.2)
def aq.sv (m:aq) (i:Nat):Option (Int×Int):=L6 (m.lN i)
def xO (m:aq) (g:mS):Bool:=W9 m.rows.length m.most m.eF m.nb m.sv g
def yC (l:bi) (i:Nat):(zP l).getD i 0=(gN l i:Int):=by
 unfold zP gN;rw [aab,aag];cases l[i]? <;> rfl
def rp (l:bi):(zP l).length=l.length:=by unfold zP;rw [CT]
theorem eM.xO (h:eM m s):xO m (.of s)=true:=by
 unfold L2.xO W9;simp only [abF,acu,ac7];refine ⟨⟨by show (zP s.bL).length=_;rw [rp,h.lb],by show (zP s.cI).length=_;rw [rp,h.lw],by show (zP s.failed).length=_;rw [rp,h.lf]⟩,⟨h.bx,h.most⟩,⟨acD _,h.heap⟩,λ i H=>?_⟩;have H:=aa4.mp H;show nY _ _ ((zP s.bL).getD i 0) _ ((zP s.cI).getD i 0) ((zP s.failed).getD i 0)=true;rw [yC,yC,yC];have g:=h.band i H;have a:=h.bM i H;unfold nY;rw [abF,abF];refine ⟨⟨aaM (acD _),aaM (by unfold aq.nb;lia)⟩,?_⟩;show Wj (L6 (m.lN i)) (s.bx.testBit i) _ _=true;cases e:m.lN i with
 | none =>
   rw [e] at a;obtain ⟨b,c,d⟩:=a;rw [b,c,d];rfl
 | some z =>
   rw [e] at a;obtain ⟨b,c,d⟩:=a;show ((decide _ && decide _) && ((decide _ && decide _) && (decide _ || (!_ && decide _))))=true;simp only [abF,acu,Bool.or_eq_true,aeN];refine ⟨⟨acD _,b⟩,⟨acD _,c⟩,?_⟩;rcases d with h|⟨h,f⟩
   . exact .inl (by lia)
   . exact .inr ⟨h,by lia⟩
section
variable (K:aA) (C:ak)
inductive J0 (vs:az) (H:Hp) (Q:VK) (_E:XK):Prop|mk (v z f:_) (w b:Int) (_:vs=[v,.bl f,.int w,.int b]) (_:Dn K H (iR z) v) (_:∀ H',aE H H'->Q (.bl (Wj (L6 z) f w b)) H')
inductive Io (vs:az) (H:Hp) (Q:VK) (_E:XK):Prop|mk (a fp m p g:_) (i:Nat) (_:vs=[.ref a,.ref p,ao i]) (_:aV K C H a fp m) (_:wu K H p g) (_:g.bL.length=m.rows.length) (_:g.cI.length=m.rows.length) (_:g.failed.length=m.rows.length) (_:i<m.rows.length) (_:∀ H',aE H H'->Q (.bl (nY (m.nb i) (m.sv i) (g.bL.getD i 0) (g.bx.testBit i) (g.cI.getD i 0) (g.failed.getD i 0))) H')
inductive Qp (vs:az) (H:Hp) (Q:VK) (_E:XK):Prop|mk (a fp m p g:_) (_:vs=[.ref a,.ref p]) (_:aV K C H a fp m) (_:wu K H p g) (_:g.bx<2 ^ 61) (_:∀ H',aE H H'->Q (.bl (xO m g)) H')
inductive O5 (X:ak) (vs:az) (H:Hp) (_E:VK) (E:XK):Prop|mk (a fp m p g:_) (_:vs=[.ref a,.ref p]) (_:aV K C H a fp m) (_:wu K H p g) (_:g.bx<2 ^ 61) (_:xO m g=false) (_:∀ H',aE H H'->E (.ref X) none H')
inductive Kh (X:ak) (vs:az) (H:Hp) (Q:VK) (E:XK):Prop|mk (a fp m p g:_) (_:vs=[.ref a,.ref p]) (_:aV K C H a fp m) (_:wu K H p g) (_:g.bx<2 ^ 61) (_:(xO m g=true->∀ H',aE H H'->Q .cT H')) (_:(xO m g=false->∀ H',aE H H'->E (.ref X) none H'))
end
def uU {i:Nat} (h:i<l.length):tf (l.map V.int) (i:Int)=some (.int (l.getD i 0)):=cq (by rw [aag,aab,aL h];rfl)
section
variable {X:Cx} {pos:Pos}
def SF (K:aA) (c:au) (t:(St->XK)->TS) (ts:TS):TS:=λ D σ H=>t (λ a cls Z h=>W.exmOne K cls c=some true/\ts D a h) D σ H
def LN {d:Stmt} {M:List Stmt} {t:(St->XK)->TS} (l:X.stack=X.env::X.outer) (MG:X.env.frame=some X.env.locals) (hm:X.mg c=some (.ref C)) (hb:Ui X a t) (hs:∀ e O,qy (X.held e O) (d::M) ts) (hg:autoParam (Gl X c) za_._auto_1) (nQ:autoParam ((c == ("__debug__" : Str))=false) zb_._auto_1) :
   PS X (.Try a [.ExceptHandler (some (.Name c np)) none (d::M) N] [] [] pos) (SF X.K (.ref C) t ts):=by
 intro p s σ H D I h;refine wpAny_Try_except (ab3 (hb p s σ H D _ I h) (λ f S q=>?_) λ ex S hx=>?_)
 .
  cases f with
  | next=>exact ad1 q
  | ret v=>exact q
  | brk=>exact q
  | cont=>exact q
 .
  obtain ⟨ad,H1,s0,E,x,cls,H',rfl,F,_,_,XC,hk⟩:=hx;obtain ⟨a0,B,y⟩:=F.b;have fr:X.A.frames=some (X.env::X.outer):=l ▸ I.ok.frames;have Sx:Heap.FlyingW B (X.env::X.outer) x cls a0 S.heap:=l ▸ y.fl;refine wpAny_looks_onW fr MG Sx λ h4 j XM=>?_;refine wpAny_landsW j λ h5 V u=>?_;have k:=y.moved (t2:=S.toks) (l ▸ V) (Heap.UpToSlots.trans XM u);have R:=E.yS k;obtain ⟨r,ab,L,Zv,o⟩:=k.obj;have G:=R.held L o k.none;refine wpAny_handleBy_cons (codeAny_handlers_test (kA (X:=X.held x r) G hg hm ?_ nQ)) (by intro q;cases q);have Y:W.Looks (model X.prog X.w) h5 (typeOf (.ref x)) cls:=Zv ▸ (afo L).andThen .now;refine (W.exm_one G.pi Y XC) _ _ _ _ (λ _ _ q=>q) ?_;refine codeAny_handlers_suite ?_;refine lands_againW V λ h6 n Zg=>?_;have m:=k.moved (t2:=S.toks) (l ▸ n) Zg;have T:=E.yS m;obtain ⟨O,vs,he,hc,hd⟩:=m.obj;have U:=T.held he hd m.none;refine ab3 (hs x O p _ _ H' D U hk) (λ f s8 q=>?_) λ _ _ z=>False.elim z;have ok:=I.ok;cases f with
  | next =>
    obtain ⟨i,g,J,Q⟩:=q;exact ⟨_,g,J.mH ok,Q⟩
  | brk =>
    obtain ⟨i,g,J,Q⟩:=q;exact ⟨_,g,J.mH ok,Q⟩
  | cont =>
    obtain ⟨i,g,J,Q⟩:=q;exact ⟨_,g,J.mH ok,Q⟩
  | ret v =>
    obtain ⟨v8,i,g,J,r8,Q⟩:=q;exact ⟨v8,_,g,J.mH ok,r8,Q⟩
end
def Jc {X:Cx} {K:aA} (h:X.K=K):Um X (Pk K):=by subst h;exact m7
def cg.at (s:cg) (h:Nat):cg:={ s with heap:=h }
theorem eM.at (S:eM m s) {h:Nat} (H:(h:Int)<=m.eF):eM m (s.at h):=⟨S.lb,S.lw,S.lf,S.bx,S.most,H,S.band,S.bM⟩
structure sT (m:aq) (s:cg) (vs:List (Option Nat)):Prop where
 ln:(vs.length:Int)=m.eF+1
 at_:∀ i v,vs[i]?=some v->ig m (s.at i) v
def ig.uniq (h:ig m s a) (k:ig m s b):a=b:=by
 rcases h.le k λ Z z=>z with e|⟨x,y,E,d,l⟩<;>rcases k.le h λ Z z=>z with c|⟨f,Y,W,O,X⟩
 . rw [e,c]
 . rw [e] at W;cases W
 . rw [c] at E;cases E
 .
  rw [E] at O;rw [d] at W;cases O;cases W;rw [E,d,Nat.le_antisymm l X]
def iG {g:mS} (h:xO m g=true):g.bL.length=m.rows.length/\g.bx<2 ^ m.rows.length/\0<=g.heap/\g.heap<=m.eF/\∀ i,i<m.rows.length->nY (m.nb i) (m.sv i) (g.bL.getD i 0) (g.bx.testBit i) (g.cI.getD i 0) (g.failed.getD i 0)=true:=by
 unfold xO W9 at h;simp only [abF,acu,ac7] at h;exact ⟨h.1.1,h.2.1.1,h.2.2.1.1,h.2.2.1.2,λ i H=>h.2.2.2 i (aa4.mpr H)⟩
def mG {g:mS} (h:xO m g=true->False):xO m g=false:=by
 cases e:xO m g with
 | false=>rfl
 | true=>exact (h e).elim
def ng {n B w b:Int} (h:nY n s B f w b=true):(0<=B/\B<n)/\(s=none->w=0/\b=0)/\∀ z,s=some z->w<=z.1/\b<=z.2:=by
 unfold nY at h;rw [abF,abF,acu,acu] at h;refine ⟨h.1,λ e=>?_,λ z e=>?_⟩<;>(have H:=h.2;rw [e] at H;simp only [Wj,abF,acu] at H)
 . exact H.2
 . exact ⟨H.1.2,H.2.1.2⟩
noncomputable def yt (l:List Int) (i:Nat) (v:Int):List Int:=l.take i++[v]++l.drop (i+1)
def ue {i:Nat} {v:Int} (h:i<l.length):(yt l i v).getD i 0=v:=by
 unfold yt;rw [adY,aab,abW (by rw [abw];lia),abw,Nat.min_eq_left (by lia),Nat.sub_self];rfl
abbrev Sv7:=Int×Int×Int×Int
noncomputable def KZ (o:Option Sv7):Sv7:=o.getD (0,0,0,0)
structure V6 (K:aA) (m:aq) (st:cg) (H0:Hp) (vs:List (eO)) (i:Nat) (sv:V) (way:Int) (k:Int) (σ:St) (H:Hp):Prop where
 ex:∃ pb pw pf g,aE H0 H/\bP K H pb (g.bL.map V.int)/\bP K H pw (g.cI.map V.int)/\bP K H pf (g.failed.map V.int)/\σ=vs++[some (.ref pb),some (ao g.bx),some (.ref pw),some (.ref pf),some (.int g.heap),some (ao i),some sv,some (.int way)]/\g.bx<2 ^ 61 /\
   ((way<k/\xO m g=false)\/(k<=way/\g = .of st))
def V6.skip {K:aA} {st:cg} {w k:Int} (h:V6 K m st H0 vs i s w k σ H) (n:w≠k):V6 K m st H0 vs i s w (k+1) σ H:=by
 obtain ⟨p,l,j,g,a,b,c,d,e,f,q⟩:=h.ex;refine ⟨p,l,j,g,a,b,c,d,e,f,?_⟩;rcases q with ⟨o,Q⟩|⟨o,Q⟩
 . exact .inl ⟨by lia,Q⟩
 . exact .inr ⟨by lia,Q⟩
section
variable {rs:List R7} {b0 b1 b2:Int} {m:aq} {i:Nat} {q:R7}
theorem oU.nb (L:oU rs b0 b1 b2 rs.length m) (h:i<m.rows.length) (H:rs[i]?=some q):m.nb i=(q.marks.length:Int) - 1:=by
 obtain ⟨Q,e,l⟩:=L.rows i _ (Vo h);rw [H] at e;cases e;unfold aq.nb;rw [aab,Vo h];show ((m.rows[i].length:Nat):Int) - 1=_;rw [l]
theorem oU.sv (l:oU rs b0 b1 b2 rs.length m) (a:i<rs.length) (b:rs[i]?=some q):m.sv i=q.bM.map λ z=>(z.2.2.1,z.2.2.2):=by
 have e:=l.st i q a b;unfold aq.sv L6;cases H:m.lN i with
 | none =>
   rw [H] at e;cases h:q.bM with
   | none=>rfl
   | some z=>rw [h] at e;cases e
 | some y =>
   rw [H] at e;cases h:q.bM with
   | none=>rw [h] at e;cases e
   | some z =>
     rw [h] at e;have e:y.2=z.2:=aaO e;show some (y.2.2.1,y.2.2.2)=some (z.2.2.1,z.2.2.2);rw [e]
end
inductive KU (K:aA) (vs:az) (H:Hp) (Q:VK) (_E:XK):Prop|mk (q st pr xs rs pb b0 b1 b2 x m:_) (_:vs=[.ref q,.ref pr,.ref pb,.int x]) (_:gS K H q st) (_:aY K H pr xs) (_:bE K H (rs.map K6) xs) (_:1<=rs.length) (_:rs.length<=4) (_:bP K H pb [.int b0,.int b1,.int b2]) (_:m.rows.length=rs.length) (_:oU rs b0 b1 b2 rs.length m) (_:eM m st) (_:∀ p g H',aE H H'->wu K H' p g->g.bx<2 ^ 61->xO m g=false->Q (.ref p) H')
def aau (j:Int) (h0:0<=j) (h:j<=1000000):Ik 10 j:=⟨h0,h,by decide⟩
def Qg {v:Int}:(l.map V.int).take i++[V.int v]++(l.map V.int).drop (i+1)=(yt l i v).map V.int:=by
 unfold yt;rw [aap,aap,List.map_take,List.map_drop];rfl
def tT {K:aA} {Q:VK} {a:Nat} {v:Int} (f:σ[a]?=some (some (.ref c))) (e:σ[9]?=some (some (ao i))) (g:bP K H c (l.map V.int)) (w:i<l.length) (L:l.length<=900) (x:∀ h q,aE H h->q (.int v) h->te σ h q) (k:∀ t H',aE H H'->bP K H' t ((yt l i v).map V.int)->Q (.ref t) H') :
   Qx (Fm K) (Qx (Fm K) (tSl (Pk K) (GS a) zy (KQ (GS 9))) (SO (NU te Ln))) (tSl (VN K) (GS a) (KQ (Qx Ng (GS 9) (tC (.int 1)))) zy) σ H Q:=by
 refine ⟨_,f,_,e,_,rfl,c,_,i,rfl,g,rfl,rfl,by rw [CT];exact w,λ T p=>?_⟩;have s:=al (o:=.tup ((l.map V.int).take i)) p;refine x _ _ s ⟨GW,λ A M=>?_⟩;have j:=al (o:=.tup [.int v]) M;refine ⟨T,A,_,_,rfl,rfl,bP.of (j _ _ ag),bP.of ag,adn (aO (by rw [abw,CT];show _+1<=1000;lia)),λ B F y u=>?_⟩;have S:=s.trans (j.trans y);refine ⟨_,f,_,e,_,_,rfl,rfl,λ r E=>⟨_,rfl,c,_,i+1,rfl,S.tup g,by rw [E];rfl,rfl,by lia,by rw [CT];lia,λ C b=>?_⟩⟩;have m:=al (o:=.tup ((l.map V.int).drop (i+1))) b;refine ⟨B,C,_,_,rfl,rfl,m.tup u,bP.of ag,adn (aO (by rw [aae,abw,afw,CT];show _+1+_<=1000;lia)),λ D n z d=>?_⟩;rw [Qg] at d;exact k D n (S.trans (m.trans z)) d
abbrev SpH:=au->ak->az->Hp->VK->Prop
def To (M:Model) (A:Around) (E:au->Shared->Prop) (Q:au->Shared->Prop) (acc:au) (cenv:Env):Result->Shared->Prop
 | .ok _,s'=>∃ m,s'.heap.Ns cenv.locals m/\∀ h',Heap.SameBut cenv.locals s'.heap h'->Q acc { s' with heap:=h' }
 | .error x,s'=>∃ m,s'.heap.Ns cenv.locals m/\∀ h',Heap.SameBut cenv.locals s'.heap h'->∀ s,wpAny M A (passOn "comprehension.variables-let-go" x { cenv with scope:=s }:Sem au) (λ Z Z=>False) E { s' with heap:=h' }
def FO {E:au->Shared->Prop} {g:Comprehension} {G:List Comprehension} {Q:au->Shared->Prop} (w:clausesOf e=g::G) (B:∀ x,foldedSetIterable g.iter env x=pure x) (U:closureFor scope env=pure C) (t:scope.kind = .function) (F:∀ x∈scope.names,x.2 = .local->scope.names.lookup x.1=some .local) (h:wpAny M A first (λ x a=>wpAny M A (pyIter x) (λ I b=>wpAny M A J (λ acc c=>wpAny M A (newFunctionEnv scope env.globals C [] env.qual none .none (some env)) (λ cenv d =>
     codeAny M A (.compStart e 0 I acc { cenv with scope:=relabel scope env }) (To M A E Q acc cenv) d) E c) E b) E a) E s) :
   wpAny M A (comprehension e scope env p J false first none) Q E s:=by
 have S:∀ {P:au->Shared->Prop},∀ v s',P v s'->P v s':=λ Z Z z=>z;unfold comprehension;rw [U,w];refine WE (ab3 h (λ x a i=>?_) S);refine WE (afA ?_);refine WE (afb (B x) ?_);refine WE (acT (ab3 i (λ I b j=>?_) S));refine wpAny_standIf ?_;refine WE (ab3 j (λ acc c k=>?_) S);refine WE (aaU ?_);refine WE (ab3 k (λ cenv d l=>?_) S);dsimp only;have u:∀ x∈(scope.names.filter λ x=>(x.2 == .local || x.2 == .cell) && x.1 != (".0" : Str)).reverse,x.2 = .local->Env.kindOf { cenv with scope:=relabel scope env } x.1=some .local :=
   λ x D y=>lookup_relabel_local (F x (acq.mp (List.mem_reverse.mp D)).1 y)
 refine acT (WE (afc (acT (wpAny_run (aeq l λ r s' H=>?_)))));cases r with
 | ok f =>
   obtain ⟨m,o,H⟩:=H;exact WE (acT (wpAny_comp_letGo (cenv:={ cenv with scope:=relabel scope env }) t _ s' m u o λ n Z Z q=>aaU (H n q)))
 | error x =>
   obtain ⟨m,o,H⟩:=H;exact WE (acT (wpAny_comp_letGo (cenv:={ cenv with scope:=relabel scope env }) t _ s' m u o λ n Z Z q=>ab3 (H n q (relabel scope env)) (λ Z Z z=>z.elim) S))
section
variable {M:Model} {A:Around} {E:au->Shared->Prop} {s:Shared}
def xY {env:Env} {outer:List Env} {Q:Unit->Shared->Prop} (d:env.frame=some L) (h:Heap.HeldW B (env::outer) e cls a0 L s.heap) (H:∀ h',Heap.FlyingW B outer e cls a0 h'->s.heap.UpToSlots h'->Q () { s with heap:=h' }):wpAny M A (leaving env (.ref e)) Q E s:=by
 unfold leaving;refine WE (wpAny_noteFrame_againW d h.2.2.2 ?_);refine wpAny_landsW h λ h' f u=>?_;obtain ⟨F,a,⟨Z,Z,b⟩,c⟩:=f;exact H h' ⟨F,a,b,c⟩ u
def AS {l:List Env} {Q:Unit->Shared->Prop} (u:Heap.HeldW B l e cls a0 k s.heap) (x:∀ h',Heap.HeldW B l e cls a0 L h'->(∀ b o,s.heap.get? b=some o->(∀ vs,o.data ≠ .fields vs)->h'.get? b=some o)->Q () { s with heap:=h' }):wpAny M A (setFlight (.ref e) (some L)) Q E s:=by
 obtain ⟨m,n,r,y,vs,T,z,t,j,F,i,g,W,w,c,a,v⟩:=u;have V:3<t.size:=(Array.getElem?_eq_some_iff.mp v).1;have O:∀ b,b≠T->(s.heap.update T (Obj.mapFields (·.setIfInBounds 3 ((some L:Option ak).elim Value.none λ f=>rawInt f)))).get? b=s.heap.get? b:=λ b h=>aeo _ _ (aef h);have d:∀ b o,s.heap.get? b=some o->(∀ vs,o.data ≠ .fields vs)->b≠T:=λ b o h p q=>by
   rw [q,c] at h;injection h with h;subst h;exact p t a
 unfold setFlight;refine WE (adp j i g ?_);rw [abE (show (Value.ref T != Value.none)=true from by simp)];refine agg c a V (x _ ⟨λ b o H=>(O b λ q=>by rw [q,W] at H;cases H).trans (m b o H),n,r.of_keeps λ b o h p=>⟨o,(O b (d b o h p)).trans h,rfl⟩,?_⟩ λ b o h p=>(O b (d b o h p)).trans h);exact ⟨y,vs,T,_,_,(O e (aef w)).trans j,F,i,g,W,w,aeu _ c (Obj.isFreed_of_fields (aeU a _)),aeU a _,by simp [V]⟩
def FD {cenv:Env} {l:List Env} (k:cenv.frame=some L) (f:Heap.HeldW B l e cls a0 c s.heap) (g:∀ h',Heap.HeldW B l e cls a0 L h'->(∀ b o,s.heap.get? b=some o->(∀ vs,o.data ≠ .fields vs)->h'.get? b=some o)->cA s.heap h'->E (.ref e) { s with heap:=h' }) :
   wpAny M A (passOn d (.ref e) cenv:Sem au) (λ Z Z=>False) E s:=by
 obtain ⟨Z,Z,Z,m,vs,T,O,t,j,F,i,H,Z⟩:=id f;unfold PySem.passOn;refine WE (adp j i H ?_);rw [abC (show ¬ ((Value.ref T == Value.none)=true) from by simp),k];refine WE (ab3 (gy (gM _ _) (AS (E:=λ Z Z=>False) (Q:=λ Z S=>∃ h,S={ s with heap:=h }/\Heap.HeldW B l e cls a0 L h/\∀ b o,s.heap.get? b=some o->(∀ vs,o.data ≠ .fields vs)->h.get? b=some o) f λ h a b=>⟨h,rfl,a,b⟩)) (λ Z S z=>?_) λ Z Z z=>z.1.elim);obtain ⟨⟨h,rfl,a,b⟩,D⟩:=z;exact wpAny_throw (g h a b D)
end
def none_of {B a:aM} (h:∀ b o,a.get? b=some o->B.get? b=some o) {b:ak} (e:B.get? b=none):a.get? b=none:=by
 cases q:a.get? b with
 | none=>rfl
 | some o=>rw [h b o q] at e;cases e
theorem JQ {B a:aM} (s:Heap.SameBut C h h') (H:∀ b o,a.get? b=some o->B.get? b=some o):∀ {l:List Env},C∉gp l->h.FunFrames B l->h'.FunFrames a l
 | [],_,_=>trivial
 | env::rest,n,g=>by
   obtain ⟨f,⟨L,o,c,i,j,d⟩,k⟩:=g;have e:gp (env::rest)=L::gp rest:=by unfold gp;rw [aet,c]
   rw [e] at n;exact ⟨f,⟨L,o,c,none_of H i,(s.2 L λ z=>n (z ▸ aaW)).trans j,d⟩,JQ s H (λ z=>n (aar _ z)) k⟩
def Mb {h:aM} {l:List Env} (v:h.Ns C m) (y:C∉gp l) (s:Heap.SameBut C h h') (r:Heap.HeldW B l x cls a0 L h):Heap.HeldW (W.hideAll B [C]) l x cls a0 L h':=by
 obtain ⟨J,I,G,N,g,Z⟩:=v;obtain ⟨k,n,p,D,V,T,O,E,f,F,c,t,i,j,a,Q,u⟩:=r;have H:∀ b o,(W.hideAll B [C]).get? b=some o->B.get? b=some o:=λ b o q=>aeT _ q;have nf:∀ {b:ak} {o:Obj} {w:Array au},h.get? b=some o->o.data = .fields w->b≠C:=λ {b o w} e d z=>by
   rw [z,N] at e;cases e;rw [g] at d;cases d
 refine ⟨λ b o q=>?_,none_of H n,JQ s H y p,D,V,T,O,E,(s.2 x (nf f c)).trans f,F,c,t,none_of H i,j,(s.2 T (nf a Q)).trans a,Q,u⟩;have A:b≠C:=λ z=>by
   rw [z,W.hideAll_none [C] aaW] at q;cases q
 exact (s.2 b A).trans (k b o (H b o q))
section
variable {P:aZ} {w:aU} {K:aA} {mg:cH} {base:aM} {N:cm} {qual:Str} {scope:Scope} {f:ak} {cd:au} {A:Around} {outer:List Env} {s₀:Shared} {H₀:Hp} {E:XK}
def JH (I:s'.os=s₀.os) (i:AllBare s'.gens) (U:Un (gp outer) [] H₀ H' s₀.heap s'.heap) (C:kB P w H' s'.heap) (p:Heap.HeldW B (envOfC qual scope s₀.heap.objs.size f cd::outer) x cls a0 s₀.heap.objs.size s'.heap) (q:∀ b o,s₀.heap.get? b=some o->b∉gp outer->∀ o',s'.heap.get? b=some o'->B.get? b=some o') (t:∀ b u,H' b=some u->∃ o,B.get? b=some o) (v:XD true s'.heap x d) (G:E cls d H'):(fq (si P w) P w K mg base N qual scope f cd A outer s₀ H₀ E).xe (.ref x) s':=by
 show wpAny _ _ (leaving _ _) _ _ _;refine ab3 (gy (lB _ _) (xY (E:=λ Z Z=>False) (Q:=λ Z s=>∃ H,s={ s' with heap:=H }/\Heap.FlyingW B outer x cls a0 H/\s'.heap.UpToSlots H) (outer:=outer) rfl p λ H c l=>⟨H,rfl,c,l⟩)) (λ Z s z=>?_) λ Z Z z=>z.1.elim;obtain ⟨⟨H,rfl,c,l⟩,D⟩:=z;have F:∀ b∈gp outer,∃ o,s'.heap.get? b=some o/\∀ vs,o.data ≠ .fields vs:=λ b h=>(p.2.2.1.mem (aar (s₀.heap.objs.size) h:b∈gp (envOfC qual scope s₀.heap.objs.size f cd::outer))).2;have g:∀ b o,s₀.heap.get? b=some o->b∉gp outer->∃ o',s'.heap.get? b=some o'/\H.get? b=some o':=λ b o e n=>by
   obtain ⟨O,a⟩:=U.there b o e (by simp);exact ⟨O,a,c.1 b O (q b o e n O a)⟩
 refine ⟨x,cls,H',rfl,⟨I,i,?_,qR C c.1 p.1 t,a0,B,c,?_,t⟩,d,v.kept D,G⟩
 .
  refine ⟨λ b o e n h Z=>?_,λ b o e n h Z=>?_,λ b o e n Z=>U.free b o e n (by simp),λ b o e Z=>?_,U.nN,U.ma,U.nU⟩
  . have a:=U.keep b o e n h (by simp);exact c.1 b o (q b o e h o a)
  .
   obtain ⟨sl,a⟩:=U.slot b o e n h (by simp);obtain ⟨O,k,L⟩:=F b h;rw [a] at k;cases k;obtain ⟨y,m⟩:=l b _ a L;exact ⟨y,m⟩
  .
   by_cases h:b∈gp outer
   . obtain ⟨O,k,L⟩:=F b h;obtain ⟨y,m⟩:=l b _ k L;exact ⟨_,m⟩
   . obtain ⟨o',Z,j⟩:=g b o e h;exact ⟨o',j⟩
 .
  intro b o e h o' j;obtain ⟨O,a,r⟩:=g b o e h;rw [r] at j;cases j;exact q b o e h _ a
def IV {V:String} {cenv:Env} (os:s'.os=s₀.os) (c:AllBare s'.gens) (U:Un (gp outer) [] H₀ H' s₀.heap s'.heap) (cJ:kB P w H' s'.heap) (I:s'.heap.Ns C m) (F:tQ (fq (si P w) P w K mg base N qual scope f cd A outer s₀ H₀ E) p H' C) (l:Heap.HeldW B (envOfC qual scope s₀.heap.objs.size f cd::outer) x cls a0 s₀.heap.objs.size s'.heap) (hB:∀ b o,s₀.heap.get? b=some o->b∉gp outer->∀ o',s'.heap.get? b=some o'->B.get? b=some o') (tk:∀ b u,H' b=some u->∃ o,B.get? b=some o) (hd:XD true s'.heap x d) (he:E cls d H') (S:Heap.SameBut C s'.heap h') (hf:cenv.frame=some s₀.heap.objs.size) :
   wpAny (model P w) L (passOn V (.ref x) cenv:Sem au) (λ Z Z=>False) (fq (si P w) P w K mg base N qual scope f cd A outer s₀ H₀ E).xe { s' with heap:=h' }:=by
 obtain ⟨c1,c2,y,c4,Z⟩:=F;have M:∀ b:ak,b∉(fq (si P w) P w K mg base N qual scope f cd A outer s₀ H₀ E).ex:=λ b=>by simp [fq]
 have v:∀ b o,s₀.heap.get? b=some o->b≠C:=λ b o e z=>by
   rcases c4 with q|q
   . exact M C q
   . exact absurd (abh e) (Nat.not_lt.mpr (z ▸ q))
 have nC:C∉gp (envOfC qual scope s₀.heap.objs.size f cd::outer):=λ z=>by
   rcases aah.mp (show C∈s₀.heap.objs.size::gp outer from z) with z|z
   . exact c2 z
   . exact y z
 have J:∀ {b:ak},b≠C->b∉[C]:=λ {b} n z=>n (aac.mp z);have s:x≠C:=λ z=>by
   obtain ⟨oC,es,ep,X,R,Z⟩:=I;obtain ⟨Z,Z,Z,oe,vs,T,oT,ts,H,Z,Q,Z⟩:=l;rw [z,X] at H;cases H;rw [R] at Q;cases Q
 have Y:=Mb I nC S l;refine FD hf Y λ G i k dk=>?_;have t:∀ b u,H' b=some u->∃ o,(W.hideAll B [C]).get? b=some o:=λ b u e=>by
   obtain ⟨o,q⟩:=tk b u e;exact ⟨o,mJ q (J λ z=>by rw [z,c1] at e;cases e)⟩
 have r:∀ b o,s₀.heap.get? b=some o->b∉gp outer->∀ o',s'.heap.get? b=some o'->(W.hideAll B [C]).get? b=some o':=λ b o e n o' j=>mJ (hB b o e n o' j) (J (v b o e));have g:∀ b∈gp outer,∀ o,s'.heap.get? b=some o->G.get? b=some o:=λ b h o e=>by
   obtain ⟨Z,O,a,n1⟩:=l.2.2.1.mem (aar (s₀.heap.objs.size) h:b∈gp (envOfC qual scope s₀.heap.objs.size f cd::outer));rw [e] at a;cases a;exact k b o ((S.2 b λ z=>y (z ▸ h)).trans e) n1
 refine JH (B:=W.hideAll B [C]) os c ⟨λ b o e n h Z=>?_,λ b o e n h Z=>?_,λ b o e n Z=>U.free b o e n (by simp),λ b o e Z=>?_,U.nN,U.ma,U.nU⟩ (qR cJ i.1 (λ b o q=>l.1 b o (aeT _ q)) t) i (λ b o e h o' j=>?_) t ?_ he
 . exact i.1 b o (r b o e h o (U.keep b o e n h (by simp)))
 . obtain ⟨sl,a⟩:=U.slot b o e n h (by simp);exact ⟨sl,g b h _ a⟩
 .
  obtain ⟨O,a⟩:=U.there b o e (by simp);by_cases h:b∈gp outer
  . exact ⟨O,g b h _ a⟩
  . exact ⟨O,i.1 b O (r b o e h O a)⟩
 .
  obtain ⟨O,a⟩:=U.there b o e (by simp);have D:=r b o e h O a;rw [show G.get? b=some O from i.1 b O D] at j;cases j;exact D
 . obtain ⟨o,e,q⟩:=hd;exact XD.kept dk ⟨o,(S.2 x s).trans e,q⟩
end
structure OF (X:Cx) (E:XK) (Post:au->Env->Result->Shared->Prop):Prop where
 of:∀ {pins:List (ak×Obj)} {σ:St} {H':Hp} {s':Shared} {x C:ak} {cls a0:au} {B:aM} {d:Option ak} {m:cH} {acc:au} {cenv:Env},
 Inv X pins σ H' s'->s'.heap.Ns C m->tQ X pins H' C->Heap.FlyingW B X.stack x cls a0 s'.heap->(∀ b o,X.s₀.heap.get? b=some o->b∉X.fs->b∉X.ex->∀ o',s'.heap.get? b=some o'->B.get? b=some o')->(∀ b u,H' b=some u->∃ o,B.get? b=some o) ->
   XD true s'.heap x d->E cls d H'->cenv.frame=X.env.frame->cenv.locals=C->notedBy (model X.prog X.w) X.A X.env (λ e s'=>Post acc cenv (.error e) s') (.ref x) s'
def LQ (X:Cx) (E:XK):Prop:=∀ Q,OF X E (To (model X.prog X.w) X.A X.xe Q)
def TJ {Post:au->Env->Result->Shared->Prop}:OF X E0 Post:=⟨λ Z Z Z Z Z Z Z h Z Z=>False.elim h⟩
def ge:LQ X E0:=λ Z=>TJ
def Et {K:aA} {E':XK} (hE:∀ cls d H,E' cls d H->E cls d H) :
   LQ (fq (si P w) P w K M base N a scope f p A outer s₀ H₀ E) E':=by
 refine λ Q=>⟨?_⟩
 intro G σ H' s' x C cls a0 B d m S u J hn F s X T hd he hf hC;have i:∀ b:ak,b∉(fq (si P w) P w K M base N a scope f p A outer s₀ H₀ E).ex:=λ b=>by simp [fq]
 refine xh (env:=envOfC a scope s₀.heap.objs.size f p) (outer:=outer) J.ok.frames rfl s λ r t U V=>?_;obtain ⟨oC,D,y,I,L,R⟩:=hn;obtain ⟨ab,l⟩:=U C oC I (λ vs q=>by rw [L] at q;cases q);have k:∀ b∈gp outer,∀ o,s'.heap.get? b=some o->∃ sl,r.get? b=some { o with slots:=sl }:=λ b h o e=>by
   obtain ⟨Z,O,c,n1⟩:=s.2.2.1.mem (aar (s₀.heap.objs.size) h:b∈gp (envOfC a scope s₀.heap.objs.size f p::outer));rw [show s'.heap.get? b=some o from e] at c;cases c;exact U b o e n1
 have z:∀ b o,s₀.heap.get? b=some o->b∉gp outer->∃ o',s'.heap.get? b=some o'/\B.get? b=some o'/\r.get? b=some o':=λ b o e n=>by
   obtain ⟨O,c⟩:=J.base.there b o e (i b);have g:=X b o e n (i b) O c;exact ⟨O,c,g,t.1 b O g⟩
 subst hC;refine ⟨m,⟨_,D,y,l,L,R⟩,λ h' sb sc=>?_⟩;refine IV (s':={ s' with heap:=r }) J.os J.bare ⟨λ b o e n h Z=>?_,λ b o e n h Z=>?_,λ b o e n Z=>J.base.free b o e n (i b),λ b o e Z=>?_,J.base.nN,J.base.ma,J.base.nU⟩ (qR J.cJ t.1 s.1 T) ⟨_,D,y,l,L,R⟩ F t (λ b o e n o' v=>?_) T (hd.kept V) (hE _ _ _ he) sb hf
 .
  obtain ⟨o',c,g,j⟩:=z b o e h;have W:s'.heap.get? b=some o:=J.base.keep b o e n h (i b);rw [W] at c;cases c;exact j
 . obtain ⟨sl,c⟩:=J.base.slot b o e n h (i b);obtain ⟨Y,g⟩:=k b h _ c;exact ⟨Y,g⟩
 .
  by_cases h:b∈gp outer
  . obtain ⟨O,c⟩:=J.base.there b o e (i b);obtain ⟨Y,g⟩:=k b h _ c;exact ⟨_,g⟩
  . obtain ⟨o',Z,Z,j⟩:=z b o e h;exact ⟨o',j⟩
 .
  obtain ⟨O,Z,g,j⟩:=z b o e n;rw [show r.get? b=some O from j] at v;cases v;exact g
def bU (X:Cx) (N':cm) (scope:Scope) (c:List (Str×ak)) (C:ak) (s:Shared) (H:Hp) (ex:bA) (E:XK):Cx :=
 { vZ X N' scope c C s H ex with xe:=λ e s'=>∃ p σ h S,Inv (vZ X N' scope c C s H ex) p σ h S/\si X.prog X.w X.stack h S E e s' }
def wR {X:Cx}:Passes (si X.prog X.w) (bU X N' scope c C s H ex E) E :=
 λ p σ h S Z Z I a=>⟨p,σ,h,S,⟨⟨I.ok.mod,I.ok.kind,I.ok.glob,I.ok.blt,I.ok.above,I.ok.inj,I.ok.has,I.ok.OB,I.ok.hd,I.ok.frames,I.ok.Ra,I.ok.Wq,I.ok.bs,I.ok.K7,I.ok.C3,I.ok.FX,I.ok.nS,I.ok.K4⟩,I.os,I.bare,I.base,I.loc,I.cell,I.free,I.jF,I.pin,I.cJ,I.len⟩,a⟩
section
variable {X:Cx}
def vj {Post:au->Env->Result->Shared->Prop} {sl:bi} (hc:X.calm=true) (Dh:OF X E Post) (hi:PI X tg iter wi) (hg:∀ cl C s H ex,PG (bU X N' scope cl C s H ex E) tg g) (ht:∀ cl C s H ex,NN (bU X N' scope cl C s H ex E) ifs tt) (he:∀ cl C s H ex,PE (bU X N' scope cl C s H ex E) elt te) (RG:N'.length=nt+sl.length) (P9:∀ k j:Nat,sl[k]?=some j->∃ x,N'[nt+k]?=some x/\X.N[j]?=some x/\scope.names.lookup x=some .free) (hk:scope.kind = .function) (g7:∀ y∈scope.names,y.2 ≠ .cell) (i7:∀ y∈scope.names,y.2 = .local->scope.names.lookup y.1=some .local) (jw:∀ y∈scope.names,y.2 = .free->X.env.kindOf y.1=some .cell\/X.env.kindOf y.1=some .free) {Q:V->Hp->Prop} (I:Inv X D σ H s) (h:BM wi g tt te nt sl σ H Q) (bb:∀ (s6:Shared) (Y:Hp) (d c:ak) m (cenv:Env),Inv X D σ Y s6->tQ X D Y c->s6.heap.Ns c m->Q (.ref d) Y->cenv.locals=c->Post (.ref d) cenv (.ok .next) s6) :
   wpAny (model X.prog X.w) X.A (eval iter X.env) (λ x a1=>wpAny (model X.prog X.w) X.A (pyIter x) (λ it a2=>wpAny (model X.prog X.w) X.A (newList []) (λ acc a3=>wpAny (model X.prog X.w) X.A (newFunctionEnv scope X.env.globals (fA X.env scope.names []) [] X.env.qual none .none (some X.env)) (λ cenv a4 =>
     codeAny (model X.prog X.w) X.A (.compStart (.ListComp elt [⟨tg,iter,ifs,0⟩] scope an) 0 it acc { cenv with scope:=relabel scope X.env }) (Post acc cenv) a4) X.xe a3) X.xe a2) X.xe a1) X.xe s:=by
 have Ey:∀ y∈scope.names,y.2 = .free->∃ c,X.env.cells.lookup y.1=some c:=λ y hy hf=>I.ok.has y.1 (jw y hy hf);have U:=xn (env:=X.env) (names:=scope.names) (acc:=[]) Ey (λ x c e=>by simp at e);refine c9 (hi D s σ H _ I h) λ v s1 h1=>c9 h1 λ bC f h2=>?_;obtain ⟨it,F,tn,J,K,rfl,I2,T,WH,f2,q⟩:=h2;have nD:K f.heap.objs.size=none:=I2.cJ.fresh (aaD _);obtain ⟨W,⟨m0,w0⟩,a5⟩:=q f.heap.objs.size nD;refine adP ?_ (by show 0<=sizeLine;exact ach _);have t:Inv X D σ (upd K f.heap.objs.size (.lst [])) { f with heap:=f.heap.push { cls:=.type "list",data:=.seq ([]:bq).toArray }} :=
   I2.laid (t':=f.toks) (λ b u e=>aaJ _ e) (aaD _) ⟨ach _,[],0,.nil,abX _ rfl⟩
 generalize PR:({ f with heap:=f.heap.push { cls:=.type "list",data:=.seq ([]:bq).toArray }}:Shared)=S at t |-;have bk:f.heap.objs.size<=S.heap.objs.size:=by rw [<- PR];show _<=(Heap.push _ _).objs.size;rw [ae1];exact adJ _
 have Mm:∀ b o,f.heap.get? b=some o->S.heap.get? b=some o:=λ b o e=>by rw [<- PR];exact aaJ _ e
 refine wpAny_newFunctionEnv g7 (by intro y hy;simp at hy) (λ h₁ Wz bm=>?_) hk;have Af:∀ b o,S.heap.get? b=some o->h₁.get? b=some o:=λ b o e=>bm.extBut b o (abY (abh e)) (aaJ _ e);have nC:(upd K f.heap.objs.size (.lst [])) S.heap.objs.size=none:=t.cJ.fresh (aaD _);have bx:S.heap.get? S.heap.objs.size=none:=aeB (aaD _);have SG:∀ b∈F,b<f.heap.objs.size:=λ b a=>by
   obtain ⟨o,e,Z⟩:=T.obj _ _ WH b a;exact abh e
 have ae:∀ b∈F,b≠S.heap.objs.size:=λ b a=>abY (aba (SG b a) bk);have bc:∀ b∈F,b≠f.heap.objs.size:=λ b a=>abY (SG b a);have ah:∀ b∈F,b∉gp X.stack:=λ b a hm=>by
   rcases aah.mp (I2.uL b hm) with z|z
   . exact (f2 b a).2.1 z
   . exact (f2 b a).2.2.1 z
 have bw:∀ x c,(fA X.env scope.names []).lookup x=some c->X.env.cells.lookup x=some c:=U;have xL:∀ b∈F,(b∈X.ex\/X.s₀.heap.objs.size<=b)/\b≠X.env.locals/\(∀ x c,X.env.cells.lookup x=some c->c≠b)/\∀ p∈X.pn++D,p.1≠b:=λ b a =>
   ⟨(f2 b a).2.2.2.1,(f2 b a).2.1,(f2 b a).2.2.2.2.1,(f2 b a).2.2.2.2.2⟩
 have NI:(bU X N' scope (fA X.env scope.names []) S.heap.objs.size S (upd K f.heap.objs.size (.lst [])) F E).Ok:=by
   refine ⟨t.ok.mod,hk,t.ok.glob,t.ok.blt,aaD _,λ x y c h1 h2=>t.ok.inj x y c (U x c h1) (U y c h2),λ x hx=>?_,(λ x c hf=>nomatch hf),t.ok.hd,t.ok.frames,.inl rfl,λ b a=>⟨ae b a,λ x c e=>(xL b a).2.2.1 x c (U x c e)⟩,
     t.bs,abk t.ok.K7 t.sz,λ b o e a=>?_,ah,t.stack,t.yd⟩
   . have hm:(x,NameKind.free)∈scope.names:=by
       rcases hx with hx|hx
       . exact ul hx (.inl rfl) g7
       . exact ul hx (.inr rfl) g7
     exact rg hm rfl
   . rcases (xL b a).1 with z|z
     . exact t.ok.C3 b o e z
     . exact absurd (aba (abh (t.ok.bs b o e).1) z) (adl _)
 have I4:Inv (bU X N' scope (fA X.env scope.names []) S.heap.objs.size S (upd K f.heap.objs.size (.lst [])) F E) [] (List.replicate nt none++sl.map λ j=>(σ[j]?).join) (upd K f.heap.objs.size (.lst []))
     { S with heap:=h₁,toks:=S.toks+([]:List (Str×au)).length }:=by
   refine ⟨NI,rfl,t.bare,Un.kept Af,⟨_,Wz,λ i x v e1 e2 e3=>?_⟩,λ x c e=>?_,nC,λ x c e=>t.jF x c (U x c e),λ p hp=>absurd hp (by simp [bU,vZ]),t.cJ.kept Af,?_⟩
   .
    by_cases hi:i<nt
    . rw [aaG (by simpa using hi),afY] at e2;split at e2<;>cases e2
    .
     rw [abW (by simpa using hi),aej,aag] at e2;cases ej:sl[i - nt]? with
     | none=>rw [ej] at e2;cases e2
     | some j =>
       rw [ej] at e2;have Ol:(σ[j]?).join=some v:=aaO e2;have a9:σ[j]?=some (some v):=by
         cases q:σ[j]? with
         | none=>rw [q] at Ol;cases Ol
         | some o=>rw [q] at Ol;cases Ol;rfl
       obtain ⟨y,n1,n2,n3⟩:=P9 _ j ej;have:nt+(i - nt)=i:=by lia
       rw [this] at n1;have XI:y=x:=aaO (n1.symm.trans e1);subst XI;have hm:(y,NameKind.free)∈scope.names:=adA n3;have aj:=jw _ hm rfl;obtain ⟨m,hn,hl⟩:=t.loc;have bu:U6 X.env.scope y:=by
         rcases aj with z|z
         . exact .inr (.inl z)
         . exact .inr (.inr z)
       obtain ⟨u,r,l⟩:=hl j y v n2 a9 bu;refine ⟨u,r,.inr ⟨jf n3,?_⟩⟩;obtain ⟨c,ec⟩:=rg (env:=X.env) (acc:=[]) hm rfl;refine ⟨c,ec,?_⟩;rcases l with ⟨k1,Z⟩|⟨Z,c',e',Pc⟩
       . rcases aj with z|z
         . rw [show X.env.kindOf y=some .local from k1] at z;cases z
         . rw [show X.env.kindOf y=some .local from k1] at z;cases z
       . have Hs:c=c':=aaO ((U y c ec).symm.trans e');subst Hs;obtain ⟨o,ho,hd⟩:=Pc;exact ⟨o,Af c o ho,hd⟩
   . obtain ⟨v,o,ho,hd⟩:=t.cell x c (U x c e);exact ⟨v,o,Af c o ho,hd⟩
   . show _=N'.length;rw [RG,aae,aej,CT]
 have ar:tn 0 h₁:=T.keep _ _ _ WH λ b a o e=>Af b o (Mm b o e);have Pp:∀ {pl:List (ak×Obj)} {H':Hp},pl=[]->(∀ b∈F,H' b=none)->∀ b∈F,tQ (bU X N' scope (fA X.env scope.names []) S.heap.objs.size S (upd K f.heap.objs.size (.lst [])) F E) pl H' b:=λ {pl H'} gT hn b a=>by
   subst gT;exact ⟨hn b a,ae b a,ah b a,.inl a,λ x c e=>(xL b a).2.2.1 x c (U x c e),λ p hp=>absurd hp (by simp [bU,vZ])⟩
 have bd:∀ b∈F,(upd K f.heap.objs.size (.lst [])) b=none:=λ b a=>by rw [av (bc b a)];exact (f2 b a).1
 have O:∀ ex s',(bU X N' scope (fA X.env scope.names []) S.heap.objs.size S (upd K f.heap.objs.size (.lst [])) F E).xe ex s' ->
     notedBy (model X.prog X.w) X.A (compEnvC scope (fA X.env scope.names []) S.heap.objs.size X.env) (λ e s'=>Post (.ref f.heap.objs.size) { compEnvC scope (fA X.env scope.names []) S.heap.objs.size X.env with scope:=scope } (.error e) s') ex s':=λ ex s' z=>by
   obtain ⟨bv,bK,H1,s1,I1,bj⟩:=z;obtain ⟨x,cls,H',rfl,Fy,dd,LH,hE⟩:=bj;obtain ⟨a0,B,fl,hB,tk⟩:=Fy.YB;have J1:Inv X D σ H1 s1:=t.Fa (s':=s1) I1.os I1.base I1.cJ I1.bare xL;have J:Inv X D σ H' s':=J1.Fa (ch:=[]) Fy.os Fy.un Fy.cJ Fy.bare (λ b z=>absurd z (by simp));obtain ⟨m,⟨oC,es,ep,Nr,LU,rC⟩,Z⟩:=id I1.loc;have FC:=t.wk (aaD _) I1.free;have bn:S.heap.objs.size∉gp X.stack:=λ z=>by
     rcases aah.mp (t.uL _ z) with q|q
     . exact FC.2.1 q
     . exact FC.2.2.1 q
   have bf:s'.heap.get? S.heap.objs.size=some oC:=Fy.un.keep _ oC Nr I1.free bn (by simp);have ba:H' S.heap.objs.size=none:=Fy.un.free _ oC Nr I1.free (by simp);refine Dh.of J ⟨oC,es,ep,bf,LU,rC⟩ (t.wk (aaD _) ba) fl (λ b o e nb nx o' e'=>?_) tk LH hE rfl rfl;obtain ⟨o1,e1⟩:=J1.base.there b o e nx;refine hB b o1 e1 (λ z=>?_) o' e';rcases aah.mp (t.uL _ z) with q|q
   . exact absurd (abh e) (Nat.not_lt.mpr (q ▸ t.ok.above))
   . exact nb q
 have ab:codeAny (model X.prog X.w) X.A (.compLoop (.ListComp elt [⟨tg,iter,ifs,0⟩] scope an) 0 (.ref it) (.ref f.heap.objs.size) (compEnvC scope (fA X.env scope.names []) S.heap.objs.size X.env))
     (Post (.ref f.heap.objs.size) { compEnvC scope (fA X.env scope.names []) S.heap.objs.size X.env with scope:=scope }) { S with heap:=h₁,toks:=S.toks+([]:List (Str×au)).length }:=by
   refine AU (λ n s'=>∃ i acc M H',Inv (bU X N' scope (fA X.env scope.names []) S.heap.objs.size S (upd K f.heap.objs.size (.lst [])) F E) [] M H' s'/\tn i s'.heap/\(∀ b∈F,H' b=none)/\W i n acc M H') ?_ m0 ⟨0,[],_,_,I4,ar,bd,w0⟩;rintro n s5 ⟨i,acc,R,Y,I5,QP,WU,w5⟩;rcases a5 i n acc R Y w5 with ⟨aG,qn⟩|⟨go,N,hN,aD⟩
   . refine c9 (T.done (bU X N' scope (fA X.env scope.names []) S.heap.objs.size S (upd K f.heap.objs.size (.lst [])) F E) rfl rfl rfl hc i [] s5 R Y _ I5 (Pp rfl WU) QP aG) λ r s6 ⟨hr,I6⟩=>?_;subst hr;obtain ⟨m,hn,Z⟩:=id I6.loc;exact bb s6 Y _ _ m _ (t.Fa (s':=s6) I6.os I6.base I6.cJ I6.bare xL) (t.wk (aaD _) I6.free) hn qn rfl
   .
    refine c9 (T.item (bU X N' scope (fA X.env scope.names []) S.heap.objs.size S (upd K f.heap.objs.size (.lst [])) F E) rfl rfl rfl hc i [] s5 R Y _ I5 (Pp rfl WU) QP go) λ r s6 ⟨u,hr,h6⟩=>?_;subst hr;refine c9 h6 λ Z s7 ⟨x,H7,I7,r7,y7,ad,be⟩=>?_;have a8:=I7.pinned (Pp rfl be) (T.obj _ _ ad);have L:∀ {s8:Shared} {G:St} {H8:Hp} {gZ:az},Inv (bU X N' scope (fA X.env scope.names []) S.heap.objs.size S (upd K f.heap.objs.size (.lst [])) F E) ([]++vG F s7.heap) G H8 s8->(∃ m',m'<n/\W (i+1) m' gZ G H8) ->
        ∃ m,m<n/\∃ i acc M H',Inv (bU X N' scope (fA X.env scope.names []) S.heap.objs.size S (upd K f.heap.objs.size (.lst [])) F E) [] M H' s8/\tn i s8.heap/\(∀ b∈F,H' b=none)/\W i m acc M H':=λ {s8 G H8 gZ} I8 ⟨m',hm,w8⟩=>by
      refine ⟨m',hm,i+1,gZ,G,H8,I8.qF,T.keep _ _ _ ad λ b a o e=>(I8.pin (b,o) (abS _ (abS _ (kX a e)))).1,λ b a=>?_,w8⟩;obtain ⟨o,e,d⟩:=T.obj _ _ ad b a;exact (I8.pin (b,o) (abS _ (abS _ (kX a e)))).2.1
    refine ab3 (hg _ _ _ _ _ _ s7 R H7 x u _ a8 r7 (aD x H7 y7)) (λ Z s8 ⟨G,H8,I8,q8⟩=>?_) O;refine ab3 (ht _ _ _ _ _ _ s8 G H8 _ I8 q8) (λ ok s9 ⟨H9,I9,q9⟩=>?_) O;cases ok with
    | false =>
      rw [abC abu] at q9 |-;exact L I9 (hN _ _ _ q9)
    | true =>
      rw [abE rfl] at q9 |-;refine ab3 (he _ _ _ _ _ _ s9 G H9 _ I9 q9) (λ y xU ⟨yv,GU,a6,XX,hD,hz,bp⟩=>?_) O;refine ab3 (cz (X:=(bU X N' scope (fA X.env scope.names []) S.heap.objs.size S (upd K f.heap.objs.size (.lst [])) F E)) _ xU G GU (.ref f.heap.objs.size) [yv] (.ref f.heap.objs.size) [y] (λ Z Ce=>N (acc++[yv]) G Ce) a6 rfl (.cons XX .nil) ⟨_,acc,yv,rfl,rfl,hD,hz,bp⟩) (λ Z Gi ⟨bI,Ce,a7,bG,bt⟩=>?_) O;exact L a7 (hN _ _ _ bt)
 exact codeAny_compStart_list ab (T.self _ 0 _ _ _ ar ab)
def Kn {sl:bi} (z:X.calm=true) (D:LQ X E) (L:PI X tg iter w) (K:∀ a C s H ex,PG (bU X N' scope a C s H ex E) tg g) (S:∀ a C s H ex,NN (bU X N' scope a C s H ex E) ifs t) (A:∀ a C s H ex,PE (bU X N' scope a C s H ex E) elt te) (R:N'.length=nt+sl.length) (u:∀ k j:Nat,sl[k]?=some j->∃ x,N'[nt+k]?=some x/\X.N[j]?=some x/\scope.names.lookup x=some .free) (i:scope.kind = .function) (G:∀ y∈scope.names,y.2 ≠ .cell) (l:∀ y∈scope.names,y.2 = .local->scope.names.lookup y.1=some .local) (n:∀ y∈scope.names,y.2 = .free->X.env.kindOf y.1=some .cell\/X.env.kindOf y.1=some .free) (O:∀ x,foldedSetIterable iter X.env x=pure x:=by intro Z;rfl) :
   PE X (.ListComp elt [⟨tg,iter,ifs,0⟩] scope p) (BM w g t te nt sl):=by
 intro o s σ H Q I h;rw [eval_ListComp];exact FO rfl O (Fb λ y T B=>I.ok.has y.1 (n y T B)) i l (vj z (D _) L K S A R u i G l n I h λ U r d c m f J F M q e=>by subst e;exact ⟨m,M,λ W V=>⟨.ref d,r,J.turned (t':=U.toks) (λ b Z v q=>(V.2 b v).trans q) F.1 F.2.1 F.2.2.2.1 F.2.2.2.2.1 F.2.2.2.2.2,rfl,q⟩⟩)
def zf {scope:Scope} {sl:bi} (hp:Paired (λ (j:Nat) (x:Str)=>X.N[j]?=some x/\scope.names.lookup x=some .free/\(X.env.kindOf x=some .cell\/X.env.kindOf x=some .free)) sl f) :
   (∀ k j:Nat,sl[k]?=some j->∃ x,f[k]?=some x/\X.N[j]?=some x/\scope.names.lookup x=some .free)/\∀ x∈f,X.env.kindOf x=some .cell\/X.env.kindOf x=some .free:=by
 induction hp with
 | nil=>exact ⟨λ k j h=>by simp at h,λ x H=>by simp at H⟩
 | cons r t i =>
   refine ⟨λ k j h=>?_,λ x H=>?_⟩
   .
    cases k with
    | zero =>
      have e:_=j:=aaO h;subst e;exact ⟨_,rfl,r.1,r.2.1⟩
    | succ k=>exact i.1 k j (by simpa using h)
   . rcases aah.mp H with z|z
     . rw [z];exact r.2.2
     . exact i.2 x z
def dB {scope:Scope} (t f:cm) (sl:bi) (hp:Paired (λ (j:Nat) (x:Str)=>X.N[j]?=some x/\scope.names.lookup x=some .free/\(X.env.kindOf x=some .cell\/X.env.kindOf x=some .free)) sl f) (b:X.calm=true) (D:LQ X E) (m:PI X tg iter w) (l:∀ c C s H ex,PG (bU X (t++f) scope c C s H ex E) tg g) (q:∀ c C s H ex,NN (bU X (t++f) scope c C s H ex E) ifs T) (d:∀ c C s H ex,PE (bU X (t++f) scope c C s H ex E) elt te) (n:autoParam (scope.kind = .function) za_._auto_1) (G:autoParam (∀ y∈scope.names,y.2 ≠ .cell) zc_._auto_1) (I:autoParam (∀ y∈scope.names,y.2 = .local->scope.names.lookup y.1=some .local) zc_._auto_1) (J:autoParam (∀ y∈scope.names,y.2 = .free->y.1∈f) zc_._auto_1) (o:∀ x,foldedSetIterable iter X.env x=pure x:=by intro Z;rfl) :
   PE X (.ListComp elt [⟨tg,iter,ifs,0⟩] scope p) (BM w g T te t.length sl):=by
 refine Kn (N':=t++f) b D m l q d (by rw [aae,hp.length]) (λ k j h=>?_) n G I (λ y r i=>(zf hp).2 _ (J y r i)) o;obtain ⟨x,e,a⟩:=(zf hp).1 k j h;exact ⟨x,by rw [abW (adR _ _),afX];exact e,a⟩
def HZ {y:Str} {sl:bi} (hc:X.calm=true) (hi:PI X tg iter W) (hg:∀ l C s H ex,PG (bU X N' scope l C s H ex E0) tg g) (ht:∀ l C s H ex,NN (bU X N' scope l C s H ex E0) ifs T) (he:∀ l C s H ex,PE (bU X N' scope l C s H ex E0) elt te) (R:N'.length=nt+sl.length) (M:∀ k j:Nat,sl[k]?=some j->∃ x,N'[nt+k]?=some x/\X.N[j]?=some x/\scope.names.lookup x=some .free) (B:scope.kind = .function) (g7:∀ y∈scope.names,y.2 ≠ .cell) (E:∀ y∈scope.names,y.2 = .local->scope.names.lookup y.1=some .local) (G:∀ y∈scope.names,y.2 = .free->X.env.kindOf y.1=some .cell\/X.env.kindOf y.1=some .free) (hN:X.N.Nodup) (U:X.N[yi]?=some y) (u:Loc X.env.scope y) (t:X.fn y=true\/X.env.scope.names.lookup y=some .local) (O:swapsWith (.ListComp elt [⟨tg,iter,ifs,0⟩] scope i) (some (.Name y py)) Le.line X.env=pure true) (hs:∀ x,foldedSetIterable iter X.env x=pure x:=by intro Z;rfl) :
   PS X (.Assign [.Name y py] (.ListComp elt [⟨tg,iter,ifs,0⟩] scope i) Le) (KJ (BM W g T te nt sl) (uF yi)):=by
 intro p s σ H D I h;rw [exec_Assign_Name_used _ _ _ _ O];refine WE (afA (WE ?_));show wpAny _ X.A (do let _ <- comprehension (.ListComp elt [⟨tg,iter,ifs,0⟩] scope i) scope X.env _ (newList []) false (eval iter X.env) (some (assign (.Name y py) X.env))) _ _ s;refine WE (ab3 (wpAny_comprehension_free (Q:=λ Z s'=>SP X p D .next s') rfl hs (Fb λ y u t=>I.ok.has y.1 (G y u t)) B E (vj (Post:=λ n f=>compPost (model X.prog X.w) X.A X.xe (some (assign (.Name y py) X.env)) (λ Z s'=>SP X p D .next s') n f.locals) hc TJ hi hg ht he R M B g7 E G I h λ s6 K d c m f J F hn q e=>?_))
   (λ Z s' hq=>aaU (aaU hq)) λ Z Z e=>e)
 show compPost _ _ _ _ _ _ f.locals _ _;rw [e];refine wpAny_assign_Name (wV (v:=.ref d) J hN U u rfl (λ s7 L ⟨a,S,ha⟩=>?_) t);have na:c≠a:=λ z=>by
   rcases ha with q|q
   . exact F.2.1 (z.trans q)
   . exact F.2.2.2.2.1 _ a q z.symm
 refine ⟨m,?_,λ h' sb=>?_⟩
 . obtain ⟨o,Y,V,ho,r⟩:=hn;exact ⟨o,Y,V,(S.2 _ na).trans ho,r⟩
 . exact ⟨_,K,L.turned (t':=s7.toks) (λ b Z hb q=>(sb.2 b hb).trans q) F.1 F.2.1 F.2.2.2.1 F.2.2.2.2.1 F.2.2.2.2.2,q⟩
def lP {scope:Scope} (t f:cm) (sl:bi) (hp:Paired (λ (j:Nat) (x:Str)=>X.N[j]?=some x/\scope.names.lookup x=some .free/\(X.env.kindOf x=some .cell\/X.env.kindOf x=some .free)) sl f) (l:X.calm=true) (o:PI X tg iter w) (n:∀ c C s H ex,PG (bU X (t++f) scope c C s H ex E0) tg g) (u:∀ c C s H ex,NN (bU X (t++f) scope c C s H ex E0) ifs T) (m:∀ c C s H ex,PE (bU X (t++f) scope c C s H ex E0) elt te) (i:X.N.Nodup) (b:Loc X.env.scope y) (q:autoParam (scope.kind = .function) za_._auto_1) (G:autoParam (∀ y∈scope.names,y.2 ≠ .cell) zc_._auto_1) (I:autoParam (∀ y∈scope.names,y.2 = .local->scope.names.lookup y.1=some .local) zc_._auto_1) (J:autoParam (∀ y∈scope.names,y.2 = .free->y.1∈f) zc_._auto_1) (z:autoParam (X.N[yi]?=some y) za_._auto_1) (d:autoParam (swapsWith (.ListComp elt [⟨tg,iter,ifs,0⟩] scope p) (some (.Name y py)) Le.line X.env=pure true) za_._auto_1) (a:autoParam (X.fn y=true\/X.env.scope.names.lookup y=some .local) zd_._auto_1) (r:∀ x,foldedSetIterable iter X.env x=pure x:=by intro Z;rfl) :
   PS X (.Assign [.Name y py] (.ListComp elt [⟨tg,iter,ifs,0⟩] scope p) Le) (KJ (BM w g T te t.length sl) (uF yi)):=by
 refine HZ (N':=t++f) l o n u m (by rw [aae,hp.length]) (λ k j h=>?_) q G I (λ y b a=>(zf hp).2 _ (J y b a)) i z b a d r;obtain ⟨x,e,E⟩:=(zf hp).1 k j h;exact ⟨x,by rw [abW (adR _ _),afX];exact e,E⟩
end
inductive A10 (a b c d e f g h i j:Prop):Prop|mk (_:a) (_:b) (_:c) (_:d) (_:e) (_:f) (_:g) (_:h) (_:i) (_:j)
def Hc (m:aq) (l:Int) (T:ak) (E:XK):Prop:=Qo m l\/∀ H',E (.ref T) none H'
section
variable (P:aZ) (w:aU) (K:aA) (C CG TM:ak)
inductive Im (vs:az) (H:Hp) (Q:VK) (E:XK):Prop|mk (x p pm po pr pd lim g m s L:_) (_:vs=[.ref x,.ref p]) (_:eD P w K CG L H x pm po pr pd lim g) (_:gv m g) (_:(g.met.length:Int)<=lim) (_:Hc m lim TM E) (_:lim<=2000) (_:gS K H p s) (_:eM m s) (_:∀ j g' H',gU [pm,pd] H H'->aS K H H'->eD P w K CG L H' x pm po pr pd lim g'->wb g g'->gv m g'->(g'.met.length:Int)<=lim->g'.met[j]?=some s->(g'=g\/g'=g.add s)->Q (ao j) H')
inductive BI (vs:az) (H:Hp) (Q:VK) (E:XK):Prop|mk (x v pm po pr pd lim g m L:_) (_:vs=[.ref x,v]) (_:eD P w K CG L H x pm po pr pd lim g) (_:gv m g) (_:(g.met.length:Int)<=lim) (_:Hc m lim TM E) (_:lim<=2000) (_:((v = .cT/\Q .cT H)\/∃ q xs l,v = .ref q/\H q=some (.lst xs)/\q≠pm/\lG K H xs l/\(∀ s∈l,eM m s)/\l.length<=100000/\∀ D js g' H',H D=none->gU [pm,pd] H H'->aS K H H'->eD P w K CG L H' x pm po pr pd lim g'->wb g g'->gv m g'->(g'.met.length:Int)<=lim->H' D=some (.lst (js.map ao))->Paired (λ j s=>g'.met[j]?=some s) js l->Q (.ref D) H'))
end
inductive KH (P:aZ) (w:aU) (K:aA) (C CG TM:ak) (vs:az) (H:Hp) (Q:VK) (E:XK):Prop|mk (x a pm po pr pd lim g m fp:_) (_:vs=[.ref x,.ref a]) (_:eD P w K CG [] H x pm po pr pd lim g) (_:gv m g) (_:(g.met.length:Int)<=lim) (_:g.f8.length=g.rows.length) (_:Hc m lim TM E) (_:lim<=2000) (_:JZ m) (_:aV K C H a fp m) (_:pm∉fp) (_:po∉fp) (_:pr∉fp) (_:pd∉fp) (_:∀ g' H',gU [pm,po,pr,pd] H H'->aS K H H'->eD P w K CG [] H' x pm po pr pd lim g'->gv m g'->(g'.met.length:Int)<=lim->g'.f8.length=g'.rows.length->g'.rows.length=g'.met.length->(∃ more,g'.met=g.met++more)->Q .cT H')
section
variable {P:aZ} {w:aU} {K:aA} {mg:cH} {base:aM} {x:Str} {k:Nat} {ps:cm} {f7:az} {sp:Sp}
theorem By.Q2 (D:By P w K mg base x k ps f7 sp):Oc P w K mg base x k ps f7 (λ vs H Q Z=>sp vs H Q E0) :=
 let ⟨d,b,f,a,e,c,h,F⟩:=D;⟨d,b,f,a,e,c,h,F.Q2⟩
end
section
variable {X:Cx} {x:Str} {p pos:Pos} {e:Expr} {es:List Expr} {t:TA} {k:Nat} {ps:cm} {f7:az} {sp:Sp} {E:XK}
def Ha (D:By X.prog X.w X.K X.mg X.base x k ps f7 sp) (j:cK k X.A) (l:Passes (si X.prog X.w) X E) (h:PA X (e::es) t) (c:autoParam (Gl X x) za_._auto_1) (n:autoParam (xB x) zb_._auto_1) (b:autoParam (zC X e es) za_._auto_1) (g:autoParam (BP X es pos) za_._auto_1):PE X (.Call (.Name x p) (e::es) [] pos) (xI sp f7 E t):=by
 obtain ⟨m,a,f,o,i,d,H,F⟩:=D;exact ug F j c i d H a l h n b g
end
inductive GZ (P:aZ) (w:aU) (K:aA) (C CG TM:ak) (vs:az) (H:Hp) (Q:VK) (E:XK):Prop|mk (x dx a q lim fp m xs l:_) (_:vs=[.ref x,.ref a,.ref q,.int lim]) (_:H x=some (.ins CG dx [])) (_:aV K C H a fp m) (_:x∉fp) (_:JZ m) (_:Hc m lim TM E) (_:0<=lim) (_:lim<=2000) (_:H q=some (.lst xs)) (_:lG K H xs l) (_:(∀ s∈l,eM m s)) (_:∀ pm po pr pd g H',gU [x] H H'->aS K H H'->(∀ b∈[pm,po,pr,pd],H b=none)->eD P w K CG [] H' x pm po pr pd lim g->gv m g->(g.met.length:Int)<=lim->g.rows.length=g.met.length->(∀ s∈l,s∈g.met)->Q .cT H')
def Xe (m:aq) (l:List cg) (n:Int):Prop:=∃ met:List cg,(met.length:Int)<=n/\(∀ s∈l,s∈met)/\∀ s∈met,∀ o∈s.orders m,∀ t,jY m s o=some t->∀ x∈t,x∈met
def gv.clo {g:qN} {l:List cg} {n:Int} (ok:gv m g) (G:(g.met.length:Int)<=n) (L:g.rows.length=g.met.length) (H:∀ s∈l,s∈g.met):Xe m l n:=by
 refine ⟨g.met,G,H,λ s f o c t a x k=>?_⟩;obtain ⟨i,h,E⟩:=acF.mp f;have d:i<g.rows.length:=by lia
 obtain ⟨b,Z,q⟩:=vJ (ok.rows i s _ (by rw [Vo h,E]) (Vo d)) o c;rw [a] at q;cases b with
 | none=>exact q.elim
 | some J =>
   have q:Paired (λ j s=>g.met[j]?=some s) J t:=q;obtain ⟨j,Z,e⟩:=uz q x k;exact aal e
inductive rG (P:aZ) (w:aU) (K:aA) (C TM:ak) (vs:az) (H:Hp) (Q:VK) (E:XK):Prop|mk (a q lim fp m xs l:_) (_:vs=[.ref a,.ref q,.int lim]) (_:aV K C H a fp m) (_:JZ m) (_:Hc m lim TM E) (_:0<=lim) (_:lim<=2000) (_:Br m) (_:H q=some (.lst xs)) (_:lG K H xs l) (_:(∀ s∈l,eM m s)) (_:∀ p aD H',aE H H'->iQ P w K H' p aD->(∀ s∈l,∃ v,i5 aD (m6 s)=some (hX v)/\ig m s v)->Xe m l lim->Q (.ref p) H')
def E7 (K:aA) (C N T:ak):Sp:=λ v H Q E=>O5 K C N v H Q E\/∃ a f m q s,v=[.ref a,.ref q]/\aV K C H a f m/\JZ m/\Hc m 2000 T E/\Br m/\gS K H q s/\eM m s/\0<=m.eF/\m.eF<=30 /\
 ∀ p v H',H p=none->aE H H'->H' p=some (.lst (v.map hX))->sT m s v->Xe m ((List.range v.length).map s.at) 2000->Q (.ref p) H'
noncomputable def tz (n:Nat):List cy:=(List.range (n+1)).map λ k:Nat=>(3 * (k:Int) - 7,1)
def cp (c:Int) (i:Nat):aq:=⟨4,c,0,([6,6,2].take i).map tz,λ Z Z=>none,List.replicate i ((0,1),(0,1),(0,1)),List.replicate i none⟩
noncomputable def ox (b0 b1 b2 h:Nat):cg:=⟨[b0,b1,b2],0,[0,0,0],[0,0,0],h⟩
noncomputable def vp (i b:Nat):bi:=(List.range ([6,6,2].getD i 0)).filter λ x=>decide (x<=b+1) && decide (b<=x+1)
def Hz:(List.range 6).all (λ b0=>(List.range 6).all λ b1=>(List.range 2).all λ b2=>(List.range 3).all λ i=>decide (dZ (cp 0 3) i [b0,b1,b2] false=some (vp i ([b0,b1,b2].getD i 0))))=true:=by decide +kernel
section
variable {c:Int} {b0 b1 b2 h:Nat}
def uY (h0:b0<6) (H:b1<6) (a:b2<2) {i:Nat} (b:i<3):sx (cp c 3) (ox b0 b1 b2 h) 0 i=some (vp i ([b0,b1,b2].getD i 0)):=by
 have:=ac7.mp (ac7.mp (ac7.mp (ac7.mp Hz b0 (aa4.mpr h0)) b1 (aa4.mpr H)) b2 (aa4.mpr a)) i (aa4.mpr b);have e:sx (cp c 3) (ox b0 b1 b2 h) 0 i=dZ (cp 0 3) i [b0,b1,b2] false:=by
   unfold sx;rw [aek];rfl
 rw [e];exact adx this
def nv (S:eM (cp c 3) s):∃ b0 b1 b2 h,s=ox b0 b1 b2 h/\b0<6/\b1<6/\b2<2/\(h:Int)<=c:=by
 obtain ⟨B,b,k,j,h⟩:=s;have L:∀ {l:bi},l.length=3->∃ x y z,l=[x,y,z]:=λ {l} e=>by
   match l,e with
   | [x,y,z],_=>exact ⟨x,y,z,rfl⟩
 obtain ⟨x,y,z,rfl⟩:=L S.lb;obtain ⟨w,W,g,rfl⟩:=L S.lw;obtain ⟨f,F,a,rfl⟩:=L S.lf;obtain ⟨t,rfl,rfl⟩:b.testBit 0=false/\w=0/\f=0:=S.bM 0 (show 0<3 by decide);obtain ⟨T,rfl,rfl⟩:b.testBit 1=false/\W=0/\F=0:=S.bM 1 (show 1<3 by decide);obtain ⟨d,rfl,rfl⟩:b.testBit 2=false/\g=0/\a=0:=S.bM 2 (show 2<3 by decide);have H:b<8:=S.bx;have i:∀ n:Fin 8,n.val.testBit 0=false->n.val.testBit 1=false->n.val.testBit 2=false->n.val=0:=by decide
 obtain rfl:b=0:=i ⟨b,H⟩ t T d;have b0:x+1<7:=S.band 0 (show 0<3 by decide);have b1:y+1<7:=S.band 1 (show 1<3 by decide);have b2:z+1<3:=S.band 2 (show 2<3 by decide);exact ⟨x,y,z,h,rfl,by lia,by lia,by lia,S.heap⟩
def LR (h0:b0<6) (b:b1<6) (d:b2<2) (a:(h:Int)<=c):eM (cp c 3) (ox b0 b1 b2 h):=by
 refine ⟨rfl,rfl,rfl,show 0<2 ^ 3 by decide,show ((Bit.rooms 0).length:Int)<=4 by decide +kernel,a,λ i H=>?_,λ i H=>?_⟩
 .
  have:i<3:=H
  match i,this with
  | 0,_=>show b0+1<7;lia
  | 1,_=>show b1+1<7;lia
  | 2,_=>show b2+1<3;lia
 .
  have:i<3:=H
  match i,this with
  | 0,_=>exact ⟨aek _,rfl,rfl⟩
  | 1,_=>exact ⟨aek _,rfl,rfl⟩
  | 2,_=>exact ⟨aek _,rfl,rfl⟩
def Kj (n:Nat):Ord.setOf n (λ Z=>false)=0:=by
 unfold Ord.setOf;rw [af3.mpr (λ Z Z=>abu)];rfl
def Mi:(cp c 3).ws=0:=by
 have e:(cp c 3).has=λ Z=>false:=funext λ i=>by
   unfold aq.has aq.lN;cases e:(cp c 3).bw[i]? with
   | none=>rfl
   | some z=>rw [ad9 (aal e)];rfl
 unfold aq.ws;rw [e];exact Kj _
def wW:(cp c 3).kQ 0=0:=by
 unfold aq.kQ;rw [Nat.zero_and,show Bit.rooms 0=[] by decide +kernel];rfl
def pZ:(ox b0 b1 b2 h).orders (cp c 3)=[0]:=by
 have e:Bit.parts (Bit.rooms (cp c 3).ws)=[0]:=by rw [Mi];decide +kernel
 have k:(ox b0 b1 b2 h).EX (cp c 3) 0=true:=by
   unfold cg.EX aq.Ka;refine ac0.mpr ⟨aaM rfl,ac0.mpr ⟨aaM ?_,aaM ?_⟩⟩
   . show ((Bit.rooms 0).length:Int)<=4;decide +kernel
   . rw [wW];exact acD h
 unfold cg.orders;rw [e,afy,k];rfl
def qT:dO (cp c 3) (ox b0 b1 b2 h) 0=[0]:=by
 have e:(ox b0 b1 b2 h).may (cp c 3) 0=0:=by
   unfold cg.may;simp only [aek,adU];exact Kj _
 unfold dO;rw [e];decide +kernel
def vI (h0:b0<6) (H:b1<6) (a:b2<2):jY (cp c 3) (ox b0 b1 b2 h) 0=some (mm (cp c 3) (ox b0 b1 b2 h) 0):=by
 unfold jY;rw [abE];rw [qT];show (jK _ _ 0 && true)=true;rw [Bool.and_true];refine ac7.mpr λ i b=>?_;rw [uY h0 H a (aa4.mp b)];rfl
def IZ {x:cg} (a:(h:Int)<=c):x∈mm (cp c 3) (ox b0 b1 b2 h) 0↔∃ bs∈bF (fy (cp c 3) (ox b0 b1 b2 h) 0),(⟨bs,0,[0,0,0],[0,0,0],h⟩:cg)=x:=by
 have e:∀ bs,(ox b0 b1 b2 h).behind (cp c 3) bs 0 0=⟨bs,0,[0,0,0],[0,0,0],h⟩:=λ bs=>by
   have:((ox b0 b1 b2 h).jH (cp c 3) 0).toNat=h:=by
     unfold cg.jH;rw [wW];show (min c ((h:Int) - 0+0)).toNat=h;lia
   unfold cg.behind;rw [show Ord.off 0 0=0 by decide +kernel,this];refine (cg.mk.injEq ..).mpr ⟨rfl,rfl,?_,?_,rfl⟩
   . simp [cg.je,cp,ox,acb,gN]
   . simp [cg.jG,cp,ox,acb,gN]
 unfold mm;rw [qT,afq,List.flatMap_nil,acB];unfold gF;rw [show Ord.off 0 0=0 by decide +kernel,abm];exact ⟨λ ⟨bs,H,q⟩=>⟨bs,H,by rw [<- e bs];exact q⟩,λ ⟨bs,H,q⟩=>⟨bs,H,by rw [<- q];exact e bs⟩⟩
def Fv (h0:b0<6) (b:b1<6) (e:b2<2) (f:(h:Int)<=c) {d D a:Nat} (k0:d∈vp 0 b0) (k1:D∈vp 1 b1) (k2:a∈vp 2 b2):ox d D a h∈mm (cp c 3) (ox b0 b1 b2 h) 0:=by
 refine (IZ f).mpr ⟨[d,D,a],iC.mpr ⟨rfl,λ i H=>?_⟩,rfl⟩;have H:i<3:=by unfold fy at H;rw [CT,aax] at H;exact H
 unfold fy;rw [Jb (show i<(cp c 3).rows.length from H),uY h0 b e H]
 match i,H with
 | 0,_=>exact k0
 | 1,_=>exact k1
 | 2,_=>exact k2
end
def vq {b x n:Nat} (e:[6,6,2].getD i 0=n) (h:x<n) (l:x<=b+1) (L:b<=x+1):x∈vp i b:=by
 unfold vp;rw [e];exact acq.mpr ⟨aa4.mpr h,by rw [aaM l,aaM L];rfl⟩
def vO {n:Nat} {p:Nat->Prop} (st:∀ b d,b<n->d<n->d<=b+1->b<=d+1->p b->p d) {b:Nat} (a:b<n) (h:p b):∀ d,d<n->p d:=by
 have u:∀ k,b+k<n->p (b+k):=λ k=>by
   induction k with
   | zero=>exact λ Z=>h
   | succ k i=>exact λ H=>st (b+k) _ (by lia) H (by lia) (by lia) (i (by lia))
 have D:∀ k,k<=b->p (b - k):=λ k=>by
   induction k with
   | zero=>exact λ Z=>h
   | succ k i=>exact λ H=>st (b - k) _ (by lia) (by lia) (by lia) (by lia) (i (by lia))
 intro d c;by_cases l:b<=d
 . have:=u (d - b) (by lia);rw [show b+(d - b)=d by lia] at this;exact this
 . have:=D (b - d) (by lia);rw [show b - (b - d)=d by lia] at this;exact this
def LK (n:Nat):cg:=ox (n / 12 % 6) (n / 2 % 6) (n % 2) (n / 72)
def ND (s:cg):Nat:=s.heap * 72+gN s.bL 0 * 12+gN s.bL 1 * 2+gN s.bL 2
def KG (n:Nat):ND (LK n)=n:=by
 show n / 72 * 72+n / 12 % 6 * 12+n / 2 % 6 * 2+n % 2=n;lia
def JI:Qo (cp 26 3) 2000:=λ l n H=>by
 have L:=adI n (l₂:=(List.range 1944).map LK) λ s a=>by
   obtain ⟨b,B,b2,h,rfl,c,d,e,f⟩:=nv (H s a);refine abm.mpr ⟨h * 72+b * 12+B * 2+b2,aa4.mpr (by lia),?_⟩;unfold LK;rw [show (h * 72+b * 12+B * 2+b2) / 12 % 6=b by lia,show (h * 72+b * 12+B * 2+b2) / 2 % 6=B by lia,show (h * 72+b * 12+B * 2+b2) % 2=b2 by lia,show (h * 72+b * 12+B * 2+b2) / 72=h by lia]
 rw [CT,aax] at L;lia
def KD {c:Int} {b0 b1 b2 k:Nat} (C:27<=c) (h0:b0<6) (t:b1<6) (g:b2<2) (O:(k:Int)=c+1) (B:Xe (cp c 3) ((List.range k).map (ox b0 b1 b2 h).at) 2000):False:=by
 obtain ⟨met,R,U,nx⟩:=B;have K:∀ H:Nat,(H:Int)<=c->∀ D,D<6->∀ a,a<6->∀ e,e<2->ox D a e H∈met:=λ H F=>by
   have z:ox b0 b1 b2 H∈met:=U _ (abm.mpr ⟨H,aa4.mpr (by lia),rfl⟩);have s:∀ X m o D a e,X<6->m<6->o<2->D<6->a<6->e<2->(D<=X+1/\X<=D+1)->(a<=m+1/\m<=a+1)->(e<=o+1/\o<=e+1)->ox X m o H∈met->ox D a e H∈met:=λ X m o D a e A u v E f q N w y I =>
     nx _ I 0 (by rw [pZ];exact aac.mpr rfl) _ (vI A u v) _ (Fv A u v F (vq rfl E N.1 N.2) (vq rfl f w.1 w.2) (vq rfl q y.1 y.2))
   have r:∀ x:Nat,x<=x+1/\x<=x+1:=λ x=>⟨adJ x,adJ x⟩
   intro D E;have Q:=vO (n:=6) (p:=λ d=>ox d b1 b2 H∈met) (λ b d i j l L=>s b b1 b2 d b1 b2 i t g j t g ⟨l,L⟩ (r _) (r _)) h0 z D E;intro a f;have M:=vO (n:=6) (p:=λ d=>ox D d b2 H∈met) (λ b d i j l L=>s D b b2 D d b2 E i g E j g (r _) ⟨l,L⟩ (r _)) t Q a f;exact λ e q=>vO (n:=2) (p:=λ d=>ox D a d H∈met) (λ b d i j l L=>s D a b D a d E f i E f j (r _) (r _) ⟨l,L⟩) g M e q
 have J:=adI (List.nodup_range (n:=2016)) (l₂:=met.map ND) λ n G=>by
   have:=aa4.mp G;exact abm.mpr ⟨LK n,K _ (by lia) _ (by lia) _ (by lia) _ (by lia),KG n⟩
 rw [CT,aax] at J;lia
def Mq {c:Int}:(cp c 3).Wf:=by
 refine ⟨λ r H f a=>?_,λ r H=>?_,nofun,λ s d=>?_,λ x e=>?_⟩
 .
  obtain ⟨n,Z,rfl⟩:=abm.mp H;obtain ⟨k,b,rfl⟩:=abm.mp a;have h:n<=6:=by
    have:n∈[6,6,2]:=aff ‹_›;simp at this;lia
  have:=aa4.mp b;exact ⟨aba (show _<2 ^ 5 by lia) (aci (by decide) (by decide)),(by decide:(1:Int).natAbs<2 ^ 100),show (0:Int)<1 by decide⟩
 .
  obtain ⟨n,h,rfl⟩:=abm.mp H;have h:n∈[6,6,2]:=aff h;unfold tz;rw [CT,aax];simp at h;lia
 . rw [ad9 d];exact ⟨Ap,Ap,Ap⟩
 . cases ad9 e
def yO {c:Int} (C:0<=c) (D:c<=30):JZ (cp c 3):=DL Mq (show 3<=4 by decide) rfl (λ x h=>nomatch ad9 h) ⟨⟨show (0:Int)<=4 by decide,show (4:Int)<=4 by decide⟩,⟨C,D⟩,⟨show (0:Int)<=0 by decide,show (0:Int)<=30 by decide⟩⟩
def Ei {c:Int}:Br (cp c 3):=by
 intro s o S a;obtain ⟨b,B,b2,h,rfl,d,e,f,m⟩:=nv S;rw [pZ] at a;cases aac.mp a;have l:(fy (cp c 3) (ox b B b2 h) 0).length=3:=by unfold fy;rw [CT,aax];rfl
 have q:=gG (k:=6) (fy (cp c 3) (ox b B b2 h) 0) λ r g=>by
   obtain ⟨i,H,rfl⟩:=abm.mp g;have H:i<3:=aa4.mp H;rw [uY d e f H];refine abk (acs _ _) ?_;rw [aax];exact (show ∀ j:Fin 3,[6,6,2].getD j.val 0<=6 by decide) ⟨i,H⟩
 rw [l] at q;unfold mm gF;rw [qT,afq,List.flatMap_nil,acB,show Ord.off 0 0=0 by decide +kernel,CT];exact abk q (by decide)
def GV {c:Int} (C:0<=c) (D:c<=30):∀ k s,eM (cp c 3) s->¬vQ (cp c 3) k s:=λ k=>by
 induction k with
 | zero =>
   intro s S q;obtain ⟨b,B,b2,h,rfl,Z⟩:=nv S;have q:_=[]:=q;rw [pZ] at q;cases q
 | succ k I =>
   intro s S q;obtain ⟨b,B,b2,h,rfl,H,a,d,g⟩:=nv S;have e:0∈(ox b B b2 h).orders (cp c 3):=by rw [pZ];exact aac.mpr rfl
   rcases q 0 e with z|⟨l,z,t,f,i⟩
   . rw [vI H a d] at z;cases z
   . rw [vI H a d] at z;cases z;exact I t ((yO C D).nx _ _ _ S e f) i
def Xv:Option Nat->PyData
 | none => .none
 | some n=>jE n
theorem Jw {K:aA}:∀ l:List (Option Nat),bE K H (l.map Xv) (l.map hX)
 | []=>rfl
 | a::l=>⟨_,_,rfl,by cases a<;>rfl,Jw l⟩
def wT {K:aA} {l:List (Option Nat)} (h:aY K H p (l.map hX)):Dn K H (.list (l.map Xv)) (.ref p):=vX h (Jw l)
def Jo {l:List (Option Nat)}:Ht 1 (.list (l.map Xv)):=by
 intro d h;obtain ⟨i,Z,rfl⟩:=abm.mp h;cases i<;>exact trivial
def sT.eq (h:sT m s us) (k:sT m s vs):us=vs:=by
 have l:=h.ln;have L:=k.ln;refine List.ext_getElem (by lia) λ i H a=>(h.at_ i _ (Vo H)).uniq (k.at_ i _ (Vo a))
def Us (vs:List (Option Nat)):Prop:=∀ i u v,vs[i]?=some u->vs[i+1]?=some v->v=none\/∃ x y,u=some x/\v=some y/\x<=y
def sT.rise (h:sT m s vs) (M:Ro m m):Us vs:=λ i u v e E =>
 M.le (s:=s.at i) (hp:=i+1) (adJ i) (h.at_ i u e) (h.at_ (i+1) v E)
inductive IM (K:aA) (C:ak) (vs:az) (H:Hp) (Q:VK) (_E:XK):Prop|mk (a fp m p g:_) (_:vs=[.ref a,.ref p]) (_:aV K C H a fp m) (_:wu K H p g) (_:g.bx<2 ^ 61) (_:xO m g=false) (_:∀ H',aE H H'->Q (.bl true) H')
inductive Gp (K:aA) (vs:az) (H:Hp) (Q:VK) (_E:XK):Prop|mk (p rs:_) (_:vs=[.ref p]) (_:aY K H p (rs.map hX)) (_:rs.length<=31) (_:Us rs) (_:Q (.bl true) H)
inductive GK (vs:az) (H:Hp) (Q:VK) (_E:XK):Prop|mk (a:Option Nat) (_:vs=[hX a]) (_:Q (.bl true) H)
inductive Gv (vs:az) (H:Hp) (Q:VK) (_E:XK):Prop|mk (c:Int) (_:vs=[.int c]) (_:∀ H',Q (.bl true) H')
def vh:∀ i:Fin 3,jS (tz ([6,6,2].getD i.val 0))=true/\iP (([6,6,2].take i.val).map tz++[tz ([6,6,2].getD i.val 0)])<=400:=by decide +kernel
def JV {c:Int} {i:Nat} (h:[6,6,2][i]?=some n):i<3/\(n=6\/n=2)/\(jS (tz n)=true/\iP ((cp c i).rows++[tz n])<=400)/\(cp c i).eY (tz n)=cp c (i+1):=by
 match i,h with
 | 0,h=>cases h;exact ⟨by decide,.inl rfl,vh 0,rfl⟩
 | 1,h=>cases h;exact ⟨by decide,.inl rfl,vh 1,rfl⟩
 | 2,h=>cases h;exact ⟨by decide,.inr rfl,vh 2,rfl⟩
 | i+3,h=>simp at h
def Km {c:Int} (C:0<=c) (D:c<=30) (S:eM (cp c 3) s) (h:sT (cp c 3) s vs):vs=List.replicate vs.length none:=by
 refine List.eq_replicate_iff.mpr ⟨rfl,λ v a=>?_⟩;obtain ⟨i,H,e⟩:=acF.mp a;have l:(vs.length:Int)=c+1:=h.ln;exact (h.at_ i v (by rw [Vo H,e])).uniq λ k=>GV C D k _ (S.at (show (i:Int)<=c by lia))
end L2
namespace L2
open PySem PySem.Spec PyProof.Rows Mth
def fB {N Q:cm} {sc:Scope} (a:autoParam (sc.kind = .function) za_._auto_1) (b:autoParam (sc.isCoroutine=false) za_._auto_1) (c:autoParam (sc.isGenerator=false) za_._auto_1) (d:autoParam (N.Nodup) zc_._auto_1) (e:autoParam (N.take Q.length=Q) za_._auto_1) (f:autoParam (∀ x∈Q,sc.names.lookup x=some .local\/sc.names.lookup x=some .cell) zc_._auto_1) (g:autoParam (∀ y∈sc.names,y.2 ≠ .free) zc_._auto_1):aC N Q sc:=⟨a,b,c,d,e,f,g⟩
section
variable {X:Cx} {i:Nat} {x:Str} {pos pos':Pos} {e:Expr} {te:TE}
def iF (h:X.N.Nodup) (a:autoParam (X.N[i]?=some x) za_._auto_1) (b:Loc X.env.scope x:=by exact lc rfl) (H:autoParam (X.fn x=true\/X.env.scope.names.lookup x=some .local) zd_._auto_1):PG X (.Name x pos) (uF i):=Ff h a b H
def lK (h:X.N.Nodup:=by dsimp only [bU,vZ];decide +kernel) (a:autoParam (X.N[i]?=some x) za_._auto_1) (b:Loc X.env.scope x:=by exact lc rfl) (H:autoParam (X.fn x=true\/X.env.scope.names.lookup x=some .local) zd_._auto_1):PG X (.Name x pos) (uF i):=Ff h a b H
def cS (h:X.N.Nodup) (H:PE X e te) (b:autoParam (X.N[i]?=some x) za_._auto_1) (d:Loc X.env.scope x:=by exact lc rfl) (c:autoParam (swapsWith e (some (.Name x pos')) pos.line X.env=pure false) za_._auto_1) (a:autoParam (X.fn x=true\/X.env.scope.names.lookup x=some .local) zd_._auto_1):PS X (.Assign [.Name x pos'] e pos) (KJ te (uF i)):=Oo h b d H c a
end
end L2
namespace K60
open PySem PySem.Spec PyProof.Rows L2 Mth
seal PE PS qy PPs PA PG Rl PT NN PI
noncomputable def top (i:Nat):Stmt:=PySem.Challenge.pw_stoke_k60_lasts_by_heap.main.body.getD i (.Pass ⟨0,0,0,0⟩)
abbrev oY:Stmt:=top 1
def Ab:aC ["bits","room"] ["bits","room"] (ap oY):=fB
abbrev mE:Stmt:=top 2
def yW:aC ["bits","room"] ["bits","room"] (ap mE):=fB
abbrev oG:Stmt:=top 3
def Bh:aC ["bits"] ["bits"] (ap oG):=fB
abbrev rJ:Stmt:=top 4
def Cw:aC ["bits"] ["bits"] (ap rJ):=fB
abbrev qX:Stmt:=top 5
def kJ:aC ["bits","parts","room"] ["bits"] (ap qX):=fB
abbrev sB:Stmt:=top 6
def kY:aC ["rooms","bits","room"] ["rooms"] (ap sB):=fB
abbrev EB:Stmt:=inClass (top 25) 0
abbrev CL:Stmt:=inClass (top 26) 0
abbrev oB:Stmt:=top 28
def fJ:aC ["hold","state","bands","burning","waits","failed","heap","many"] ["hold","state"] (ap oB):=fB
abbrev mM:Stmt:=top 29
def f6:aC ["hold","state","room","bands","burning","waits","failed","heap"] ["hold","state","room"] (ap mM):=fB
abbrev kF:Stmt:=top 30
def jZ:aC ["stove","fired","wait","failed","stay","fails"] ["stove","fired","wait","failed"] (ap kF):=fB
abbrev iZ:Stmt:=top 31
def kn:aC ["hold","state"] ["hold","state"] (ap iZ):=fB
abbrev kG:Stmt:=top 32
def we:aC ["hold"] ["hold"] (ap kG):=fB
abbrev sg:Stmt:=top 33
def Cz:aC ["hold","bits"] ["hold","bits"] (ap sg):=fB
abbrev lQ:Stmt:=top 34
def zb:aC ["state"] ["state"] (ap lQ):=fB
abbrev ph:Stmt:=top 35
def Bw:aC ["hold","order","heap"] ["hold","order","heap"] (ap ph):=fB
abbrev mX:Stmt:=top 36
def kW:aC ["hold","state","held","going_on"] ["hold","state"] (ap mX):=fB
abbrev qU:Stmt:=top 37
def ve:aC ["hold","state","order","lit"] ["hold","state","order"] (ap qU):=fB
abbrev jd:Stmt:=top 38
def eL:aC ["hold","state","order","out","burning","waits","failed","heap"] ["hold","state","order","out"] (ap jd):=fB
abbrev jT:Stmt:=top 39
def uh:aC ["hold","state","burning","room"] ["hold","state","burning","room"] (ap jT):=fB
abbrev iO:Stmt:=top 40
def qO:aC ["state","burning","out","room"] ["state","burning","out","room"] (ap iO):=fB
abbrev qS:Stmt:=top 44
def ik:aC ["one","other","greater","lesser","rest"] ["one","other"] (ap qS):=fB
abbrev px:Stmt:=top 45
def lY:aC ["top","bottom","common"] ["top","bottom"] (ap px):=fB
abbrev Ck:Stmt:=top 46
def Mc:aC ["one","other"] ["one","other"] (ap Ck):=fB
abbrev yh:Stmt:=top 47
def JW:aC ["one","other"] ["one","other"] (ap yh):=fB
abbrev yo:Stmt:=top 48
def Bz:aC ["one","other"] ["one","other"] (ap yo):=fB
abbrev gJ:Stmt:=top 50
def bZ:aC ["pairs","top","bottom","one","other","below"] ["pairs"] (ap gJ):=fB
abbrev mB:Stmt:=top 51
def pO:aC ["hold","room","airs","weather","fired","pairs"] ["hold","room","airs","weather","fired"] (ap mB):=fB
abbrev rj:Stmt:=top 52
def jq:aC ["hold","room","bands","fired","low","high","lows","highs"] ["hold","room","bands","fired"] (ap rj):=fB
abbrev qZ:Stmt:=top 53
def uP:aC ["hold","room","least","greatest","marks"] ["hold","room","least","greatest"] (ap qZ):=fB
abbrev uZ:Stmt:=top 54
def xu:aC ["hold","room","least","greatest","marks"] ["hold","room","least","greatest"] (ap uZ):=fB
abbrev jU:Stmt:=top 56
def eG:aC ["rows","choices","row","longer","choice"] ["rows"] (ap jU):=fB
abbrev ij:Stmt:=inClass (top 57) 0
def pY:aC ["self","hold"] ["self","hold"] (ap ij):=fB
abbrev fm:Stmt:=inClass (top 57) 1
def ci:aC ["self","state","order","states","out","burning","rows","stoves"] ["self","state","order"] (ap fm):=fB
abbrev jr:Stmt:=inClass (top 57) 2
def fe:aC ["self","room","bands","fired","key","least","greatest","safe"] ["self","room","bands","fired"] (ap jr):=fB
abbrev lE:Stmt:=top 59
def sM:aC ["hold","states","limit","game"] ["hold","states","limit"] (ap lE):=fB
abbrev i8:Stmt:=inClass (top 60) 0
def ie:aC ["self","hold","states","limit","state"] ["self","hold","states","limit"] (ap i8):=fB
abbrev ly:Stmt:=inClass (top 60) 1
def iz:aC ["self","hold","reach","state","orders"] ["self","hold"] (ap ly):=fB
abbrev iV:Stmt:=inClass (top 60) 2
def se:aC ["self","states"] ["self","states"] (ap iV):=fB
abbrev mD:Stmt:=inClass (top 60) 3
def yn:aC ["self","state"] ["self","state"] (ap mD):=fB
abbrev ja:Stmt:=top 61
def cL:aC ["rows","ahead","place","choices","number","row","behind"] ["rows"] (ap ja):=fB
abbrev io:Stmt:=inClass (top 62) 0
def dX:aC ["self","game","place","choices","number","row"] ["self","game"] (ap io):=fB
abbrev iX:Stmt:=inClass (top 62) 1
def de:aC ["self","ahead","done","here","place","number"] ["self","ahead"] (ap iX):=fB
abbrev l5:Stmt:=inClass (top 62) 2
def yF:aC ["self","place","number","lasting"] ["self","place","number","lasting"] (ap l5):=fB
abbrev iS:Stmt:=top 74
def rM:aC ["thing","greatest"] ["thing","greatest"] (ap iS):=fB
abbrev mh:Stmt:=top 75
def zc:aC ["marks"] ["marks"] (ap mh):=fB
abbrev ic:Stmt:=top 76
def fw:aC ["rows","product","marks"] ["rows"] (ap ic):=fB
abbrev gr:Stmt:=inClass (top 77) 0
def rE:aC ["self","most","cap","load"] ["self","most","cap","load"] (ap gr):=fB
abbrev jb:Stmt:=inClass (top 77) 1
def ki:aC ["self","marks","rows"] ["self","marks"] (ap jb):=fB
abbrev iT:Stmt:=inClass (top 77) 2
def rL:aC ["self","into","of","share"] ["self","into","of","share"] (ap iT):=fB
abbrev jy:Stmt:=inClass (top 77) 3
def sY:aC ["self","room","share","low","high"] ["self","room","share","low","high"] (ap jy):=fB
abbrev fX:Stmt:=inClass (top 77) 4
def qD:aC ["self","room","heat","wood","stay","fails"] ["self","room","heat","wood","stay","fails"] (ap fX):=fB
abbrev lO:Stmt:=inClass (top 77) 5
def yx:aC ["self"] ["self"] (ap lO):=fB
abbrev kI:Stmt:=inClass (top 77) 6
def wJ:aC ["self","room"] ["self","room"] (ap kI):=fB
abbrev k7:Stmt:=inClass (top 77) 7
def ww:aC ["self","into","of"] ["self","into","of"] (ap k7):=fB
abbrev oN:Stmt:=inClass (top 77) 8
def BC:aC ["self","room"] ["self","room"] (ap oN):=fB
abbrev kS:Stmt:=inClass (top 77) 9
def wG:aC ["self","room"] ["self","room"] (ap kS):=fB
abbrev il:Stmt:=inClass (top 77) 10
def fu:aC ["self","room","rest","other"] ["self","room"] (ap il):=fB
abbrev jc:Stmt:=inClass (top 77) 11
def rS:aC ["self","room"] ["self","room"] (ap jc):=fB
abbrev fF:Stmt:=inClass (top 77) 12
def hV:aC ["self","room","share","former","free"] ["self","room","share","former"] (ap fF):=fB
abbrev iW:Stmt:=top 79
def hZ:aC ["hold","state","states","ranks"] ["hold","state"] (ap iW):=fB
abbrev j9:Stmt:=top 81
def vU:aC ["_law_script","_law_k"] ["_law_script","_law_k"] (ap j9):=fB
abbrev rO:Stmt:=top 82
def uM:aC ["_law_cell","_law_k","_law_turn","_law_prime"] ["_law_cell","_law_k","_law_turn"] (ap rO):=fB
abbrev oV:Stmt:=top 83
def gz:aC ["_law_top","_law_bottom","_law_one","_law_other","_law_rest"] ["_law_top","_law_bottom"] (ap oV):=fB
abbrev mW:Stmt:=top 84
def kR:aC ["_law_cell","_law_far"] ["_law_cell"] (ap mW):=fB
abbrev oH:Stmt:=top 85
def Ar:aC ["_law_steps","_law_scale_here"] ["_law_steps","_law_scale_here"] (ap oH):=fB
abbrev lZ:Stmt:=top 86
def bT:aC ["_law_cell","_law_many","_law_bands","_law_rooms_here","_law_k","_law_marks","_law_j","_law_below","_law_share","_law_low","_law_high","_law_heat","_law_stove"] ["_law_cell","_law_many","_law_bands"] (ap lZ):=fB
abbrev oF:Stmt:=top 87
def fU:aC ["_law_rooms_here","_law_scale_here","_law_bounds","_law_flows","_law_hold_here","_law_one","_law_k","_law_share","_law_stove","_law_j"] ["_law_rooms_here","_law_scale_here","_law_bounds","_law_flows"] (ap oF):=fB
abbrev lW:Stmt:=top 88
def cF:aC ["_law_rooms_here","_law_bounds","_law_cell","_law_k","_law_bands","_law_waits","_law_failed","_law_burning","_law_lit","_law_j","_law_stove","_law_x"] ["_law_rooms_here","_law_bounds","_law_cell","_law_k"] (ap lW):=fB
abbrev i6:Stmt:=top 89
def aR:aC ["_law_state_here","_law_rooms_here","_law_bounds","_law_x","_law_bands","_law_burning","_law_waits","_law_failed","_law_heap","_law_at","_law_stove","_law_way"] ["_law_state_here","_law_rooms_here","_law_bounds","_law_x"] (ap i6):=fB
abbrev jX:Stmt:=top 90
def eC:aC ["_law_hold_here","_law_state_here","_law_refused_here","e"] ["_law_hold_here","_law_state_here"] (ap jX):=fB
abbrev pE:Stmt:=top 91
def Bn:aC ["_law_found"] ["_law_found"] (ap pE):=fB
abbrev kC:Stmt:=top 92
def oi:aC ["_law_ranks","_law_k"] ["_law_ranks"] (ap kC):=fB
abbrev oQ:Stmt:=top 93
def fP:aC ["_law_cell","_law_cap","_law_hold_here","_law_many","_law_state_here","_law_refused_here"] ["_law_cell"] (ap oQ):=fB
abbrev ET:Stmt:=top 94
def iY:aC ["_law_script","_law_first","_law_many","_law_bounds","_law_rooms_here","_law_hold_here","_law_k","_law_state_here","_law_found","_law_due","_law_heap","_law_one"] ["_law_script"] (ap ET):=fB
structure Ads where
 bp:ak
 Reach:ak
 cV:ak
 dD:ak
 uN:ak
 Bc:ak
 HG:ak
 Full:ak
 Ex:ak
 fx:ak
 NT:ak
 EG:ak
 dJ:ak
 Fe:ak
 Bv:ak
 EF:ak
 Shared:ak
 JT:ak
 JG:ak
 Ii:ak
 Nl:ak
 KR:ak
 EM:ak
 k9:ak
 wU:ak
 i4:ak
 ib:ak
 oO:ak
structure Txt (K:aA) (mg:cH) (A:Ads):Prop where
 Jk:mg "Hold" = some (.ref A.bp)
 Lh:mg "Reach" = some (.ref A.Reach)
 N8:mg "Game" = some (.ref A.cV)
 Mn:mg "Ranks" = some (.ref A.dD)
 xX:mg "StokeError" = some (.ref A.uN)
 CH:mg "NoNumber" = some (.ref A.Bc)
 JU:mg "NoHold" = some (.ref A.HG)
 OT:mg "Full" = some (.ref A.Full)
 Go:mg "NoMarks" = some (.ref A.Ex)
 rA:mg "TooMany" = some (.ref A.fx)
 MH:mg "NoSky" = some (.ref A.NT)
 G6:mg "NoStove" = some (.ref A.EG)
 xy:mg "NoState" = some (.ref A.dJ)
 FQ:mg "NoOrder" = some (.ref A.Fe)
 Db:mg "NoKeeper" = some (.ref A.Bv)
 Gx:mg "NotKept" = some (.ref A.EF)
 Jd:mg "Shared" = some (.ref A.Shared)
 KC:mg "NoText" = some (.ref A.JT)
 Ky:mg "NoLine" = some (.ref A.JG)
 HI:mg "NoName" = some (.ref A.Ii)
 MA:mg "Twice" = some (.ref A.Nl)
 IU:mg "NoRoom" = some (.ref A.KR)
 Gh:mg "NoShare" = some (.ref A.EM)
 jv:mg "NOUGHT" = some (.ref A.k9)
 EZ:mg "WHOLE" = some (.ref A.wU)
 Gd:W.excIn K A.dJ [.type "ValueError",.type "Exception",.type "BaseException",.type "object"] "ValueError.__new__" = true
 Bq:W.findIn K (.ref A.dJ) "__getattribute__" = some (some (.builtin "BaseException.__getattribute__"))
 Av:W.findIn K (.ref A.dJ) "__getattr__" = some none
 Bx:W.findIn K (.ref A.dJ) "__class__" = some (some (.builtin "object.__class__"))
 AN:W.mroIn K A.dJ (.type "object")=some true
 zQ:W.mroIn K A.dJ (.type "BaseException")=some true
 AX:W.isClsIn K A.dJ=true
 Hb:W.excIn K A.fx [.type "ValueError",.type "Exception",.type "BaseException",.type "object"] "ValueError.__new__" = true
 gs:W.specialIn K (.builtin "object.__class__") "__get__" = some (some (.builtin "getset_descriptor.__get__"))
 tk:W.takesIn K (.builtin "object.__class__")=some true
 ex:W.exmOne K (.ref A.dJ) (.ref A.uN)=some true
 tm:W.exmOne K (.ref A.fx) (.ref A.fx)=some true
 k0:W.kitAny K (.ref A.dJ) [.ref A.Bc,.ref A.HG,.ref A.Full,.ref A.Ex,.ref A.fx,.ref A.NT,.ref A.EG,.ref A.KR,.ref A.Bv,.ref A.EF]=some false
 k2:W.kitAny K (.ref A.dJ) [.ref A.Shared,.ref A.JT,.ref A.JG,.ref A.Ii,.ref A.Nl,.ref A.EM,.ref A.Fe]=some false
 k1:W.kitOne K (.ref A.dJ) (.type "ValueError")=some true
 k3:W.kitOne K (.ref A.dJ) (.ref A.dJ)=some true
 wq:∃ t,mg "LEAST_MARKS" = some (.int 2 t)
 yK:∃ t,mg "MOST_BANDS" = some (.int 400 t)
 vK:∃ t,mg "MOST_BURNING" = some (.int 4 t)
 Dj:∃ t,mg "MOST_CAP" = some (.int 30 t)
 yA:∃ t,mg "MOST_FAILS" = some (.int 3 t)
 BU:∃ t,mg "MOST_LOAD" = some (.int 30 t)
 yu:∃ t,mg "MOST_MARKS" = some (.int 7 t)
 zr:∃ t,mg "MOST_ROOMS" = some (.int 4 t)
 BK:∃ t,mg "MOST_STAY" = some (.int 3 t)
 AA:∃ t,mg "MOST_WOOD" = some (.int 9 t)
 lU:Do K A.k9 [.int 0,.int 1]
 Fi:Do K A.wU [.int 1,.int 1]
 aG:zH K A.bp
 EW:CN K A.bp
 kL:cX K A.bp "most"
 jL:cX K A.bp "cap"
 pS:cX K A.bp "load"
 d8:cX K A.bp "mark_rows"
 iy:cX K A.bp "flows"
 fh:cX K A.bp "skies"
 gD:cX K A.bp "stoves"
 tj:gk K A.bp "__init__" "Hold.__init__" gr (.ref A.i4)
 tL:Ir K A.i4 [.int 4,.int 0,.int 0]
 tw:gk K A.bp "put_room" "Hold.put_room" jb .none
 sZ:gk K A.bp "put_flow" "Hold.put_flow" iT .none
 vC:gk K A.bp "put_sky" "Hold.put_sky" jy .none
 rQ:gk K A.bp "put_stove" "Hold.put_stove" fX (.ref A.ib)
 qW:Ir K A.ib [.int 0,.int 0,.int 0]
 Bl:gk K A.bp "many" "Hold.many" lO .none
 yY:gk K A.bp "marks" "Hold.marks" kI .none
 za:gk K A.bp "share" "Hold.share" k7 .none
 DA:gk K A.bp "sky" "Hold.sky" oN .none
 zw:gk K A.bp "stove" "Hold.stove" kS .none
 rK:gk K A.bp "own_share" "Hold.own_share" il .none
 tN:gk K A.bp "look_for" "Hold.look_for" jc .none
 mR:gk K A.bp "look_at_share" "Hold.look_at_share" fF .none
 d7:zH K A.Reach
 HM:CN K A.Reach
 d9:cX K A.Reach "hold"
 eA:cX K A.Reach "spreads"
 rZ:gk K A.Reach "__init__" "Reach.__init__" ij .none
 lI:gk K A.Reach "states_behind" "Reach.states_behind" fm .none
 uo:gk K A.Reach "spread" "Reach.spread" jr .none
 ck:zH K A.cV
 LV:CN K A.cV
 fN:cX K A.cV "met"
 mP:cX K A.cV "orders"
 dU:cX K A.cV "rows"
 gP:cX K A.cV "places"
 n6:cX K A.cV "limit"
 tM:gk K A.cV "__init__" "Game.__init__" i8 .none
 yy:gk K A.cV "go_on" "Game.go_on" ly .none
 tE:gk K A.cV "meet_all" "Game.meet_all" iV .none
 BG:gk K A.cV "meet" "Game.meet" mD .none
 cE:zH K A.dD
 Iy:CN K A.dD
 jt:cX K A.dD "lasts"
 gL:cX K A.dD "going"
 fH:cX K A.dD "ranks"
 gH:cX K A.dD "queue"
 rm:gk K A.dD "__init__" "Ranks.__init__" io .none
 tO:gk K A.dD "go_back" "Ranks.go_back" iX .none
 AH:gk K A.dD "end" "Ranks.end" l5 .none
 DB:hJ K mg "has_room" oY
 Ag:hJ K mg "with_room" mE
 CQ:hJ K mg "how_many" oG
 FI:hJ K mg "members" rJ
 GB:hJ K mg "subsets" qX
 Ga:hJ K mg "bits_of" sB
 Dy:hJ K mg "is_state" oB
 Bt:hJ K mg "fits_room" mM
 zk:hJ K mg "fits_stove" kF
 lF:hJ K mg "look_at_state" iZ
 yq:hJ K mg "with_stove" kG
 G1:hJ K mg "wood_of" sg
 zX:hJ K mg "must_stay" lQ
 Cf:hJ K mg "can_burn" ph
 Ac:hJ K mg "orders_of" mX
 FL:hJ K mg "failing" qU
 tI:hJ K mg "stoves_behind" jd
 wr:hJ K mg "wait_behind" jT
 tH:hJ K mg "failed_behind" iO
 FM:hJ K mg "divisor" qS
 Dm:hJ K mg "fraction" px
 QG:hJ K mg "plus" Ck
 La:hJ K mg "minus" yh
 Ec:hJ K mg "under" yo
 qA:hJ K mg "sum_of_products" gJ
 AE:hJ K mg "warmth_of" mB
 GO:hJ K mg "span_of" rj
 Ft:hJ K mg "touched" qZ
 Jm:hJ K mg "within" uZ
 wB:hJ K mg "each_choice" jU
 Cv:Mp K mg "ranks_of" lE (.ref A.oO)
 Dv:Ir K A.oO [.int 2000]
 tK:hJ K mg "choices_ahead" ja
 tD:hJ K mg "is_whole_upto" iS
 Bm:hJ K mg "is_rising" mh
 qV:hJ K mg "bands_together" ic
 tS:hJ K mg "lasts_by_heap" iW
 wl:hJ K mg "_law_cell_at" j9
 FG:hJ K mg "_law_mix" rO
 Ds:hJ K mg "_law_part" oV
 Bu:hJ K mg "_law_scale" mW
 DE:hJ K mg "_law_warm" oH
 Am:hJ K mg "_law_rooms" lZ
 Dz:hJ K mg "_law_hold" oF
 BN:hJ K mg "_law_state" lW
 tF:hJ K mg "_law_bad_state" i6
 wg:hJ K mg "_law_refused" jX
 CP:hJ K mg "_law_rank" pE
 xT:hJ K mg "_law_rising" kC
 CC:hJ K mg "_law_wide" oQ
 Sv:hJ K mg "law" ET
 zn:mg "ValueError" = none
 HH:mg "abs" = none
 Nd:mg "all" = none
 JB:mg "bool" = none
 QJ:mg "dict" = none
 dS:mg "enumerate" = none
 xJ:mg "int" = none
 cW:mg "isinstance" = none
 eP:mg "len" = none
 IE:mg "list" = none
 IR:mg "max" = none
 Vn:mg "min" = none
 dG:mg "range" = none
 VB:mg "sum" = none
 nH:mg "tuple" = none
 NB:mg "zip" = none
abbrev tU (K:aA) (C:ak) (x y:Str) (s:Stmt) (v:au):Prop:=∃ f b c d e g h i j n,W.findIn K (.ref C) x=some (some (.ref f))/\W.isFn K (.ref f)=true/\K.lookup f=some ⟨b,c,.func (W.fnOf x y (cU s) (bH s) (ap s) v d e g h i j),n⟩/\W.codeIn K i y=true/\W.keepIn K (.ref f)=true
abbrev iL (K:aA) (x:Str) (s:Stmt) (v:au):Prop:=∃ f b c d e g h i j n,W.nsIn K mainGlobals x=some (some (.ref f))/\K.lookup f=some ⟨b,c,.func (W.fnOf x x (cU s) (bH s) (ap s) v d e g h i j),n⟩/\W.codeIn K i x=true/\W.keepIn K (.ref f)=true
def ju {K:aA} (q:tU K C x y s v):gk K C x y s v:=by
 obtain ⟨f,Z,Z,Z,Z,Z,Z,Z,Z,Z,a,b,c,d,e⟩:=q;exact ⟨f,_,⟨a,b,e⟩,DW (st:=s) c d e⟩
def Yf {K:aA} {m:Str->jA} (X:K.In h) (G:h.Ns mainGlobals m) (q:iL K x s v):Mp K m x s v:=by
 obtain ⟨f,Z,Z,Z,Z,Z,Z,Z,Z,Z,a,c,d,e⟩:=q;exact ⟨f,_,adc X G a,DW (st:=s) c d e⟩
def c8 {K:aA} {m:Str->jA} (X:K.In h) (G:h.Ns mainGlobals m) (q:iL K x s .none):hJ K m x s:=by
 obtain ⟨f,Z,Z,Z,Z,Z,Z,Z,Z,Z,a,c,d,e⟩:=q;exact ⟨f,_,adc X G a,PY (st:=s) c d e⟩
abbrev kq_ (K:W.Frag) (a:Addr):Prop:=W.keepIn K (.ref a)=true
abbrev kn_ (K:W.Frag) (x:Str) (a:Addr):Prop:=W.nsIn K mainGlobals x=some (some (.ref a))
def txt_mk {K:aA} (X:K.In h) (G:h.Ns mainGlobals mg)
 {a e b c g i j k l f m n d o p q r s t u v w x y z:ak}
 {V aa:Tok}
 {ac ad ae af ag:Option ak}
 {ai al am:Nat}
 {an ao ap aq ar:Array (jA)}
 {av aw ax:au}
 (ay:kn_ K "Hold" a)
 (az:kn_ K "Reach" e)
 (aB:kn_ K "Game" b)
 (aC:kn_ K "Ranks" c)
 (aD:kn_ K "StokeError" g)
 (aE:kn_ K "NoNumber" i)
 (aF:kn_ K "NoHold" j)
 (aG:kn_ K "Full" k)
 (aH:kn_ K "NoMarks" l)
 (aI:kn_ K "TooMany" f)
 (aJ:kn_ K "NoSky" m)
 (aK:kn_ K "NoStove" n)
 (aL:kn_ K "NoState" d)
 (aN:kn_ K "NoOrder" o)
 (aO:kn_ K "NoKeeper" p)
 (aP:kn_ K "NotKept" q)
 (aQ:kn_ K "Shared" r)
 (aR:kn_ K "NoText" s)
 (aS:kn_ K "NoLine" t)
 (aT:kn_ K "NoName" u)
 (aU:kn_ K "Twice" v)
 (aV:kn_ K "NoRoom" w)
 (aW:kn_ K "NoShare" x)
 (aX:kn_ K "NOUGHT" y)
 (aY:kn_ K "WHOLE" z)
 (aZ:W.excIn K d [.type "ValueError",.type "Exception",.type "BaseException",.type "object"] "ValueError.__new__" = true)
 (a0:W.findIn K (.ref d) "__getattribute__" = some (some (.builtin "BaseException.__getattribute__")))
 (a1:W.findIn K (.ref d) "__getattr__" = some none)
 (a2:W.findIn K (.ref d) "__class__" = some (some (.builtin "object.__class__")))
 (a3:W.mroIn K d (.type "object")=some true)
 (a4:W.mroIn K d (.type "BaseException")=some true)
 (a5:W.isClsIn K d=true)
 (a6:W.excIn K f [.type "ValueError",.type "Exception",.type "BaseException",.type "object"] "ValueError.__new__" = true)
 (a7:W.specialIn K (.builtin "object.__class__") "__get__" = some (some (.builtin "getset_descriptor.__get__")))
 (a8:W.takesIn K (.builtin "object.__class__")=some true)
 (a9:W.exmOne K (.ref d) (.ref g)=some true)
 (ba:W.exmOne K (.ref f) (.ref f)=some true)
 (bb:W.kitAny K (.ref d) [.ref i,.ref j,.ref k,.ref l,.ref f,.ref m,.ref n,.ref w,.ref p,.ref q]=some false)
 (bc:W.kitAny K (.ref d) [.ref r,.ref s,.ref t,.ref u,.ref v,.ref x,.ref o]=some false)
 (bd:W.kitOne K (.ref d) (.type "ValueError")=some true)
 (be:W.kitOne K (.ref d) (.ref d)=some true)
 (bf:W.nsIn K mainGlobals "LEAST_MARKS" = some (some (.int 2 D)))
 (bg:W.nsIn K mainGlobals "MOST_BANDS" = some (some (.int 400 E)))
 (bh:W.nsIn K mainGlobals "MOST_BURNING" = some (some (.int 4 F)))
 (bi:W.nsIn K mainGlobals "MOST_CAP" = some (some (.int 30 H)))
 (bj:W.nsIn K mainGlobals "MOST_FAILS" = some (some (.int 3 I)))
 (bk:W.nsIn K mainGlobals "MOST_LOAD" = some (some (.int 30 J)))
 (bl:W.nsIn K mainGlobals "MOST_MARKS" = some (some (.int 7 L)))
 (bm:W.nsIn K mainGlobals "MOST_ROOMS" = some (some (.int 4 M)))
 (bn:W.nsIn K mainGlobals "MOST_STAY" = some (some (.int 3 N)))
 (bo:W.nsIn K mainGlobals "MOST_WOOD" = some (some (.int 9 O)))
 (bp:K.lookup y=some ⟨.type "tuple",ac,.seq #[.int 0 P,.int 1 Q] ah,an⟩)
 (bq:K.lookup z=some ⟨.type "tuple",ad,.seq #[.int 1 R,.int 1 S] ai,ao⟩)
 (br:W.plainGet K a Str.empty=true)
 (bs:W.hasDictIn K a=true)
 (bt:W.plainOver K a=true)
 (bu:W.findIn K (.ref a) "__setattr__" = some (some (.builtin "object.__setattr__")))
 (bv:W.makesIn K a=true)
 (bw:kq_ K a)
 (bx:W.findIn K (.ref a) "most" = some none)
 (bz:W.findIn K (.ref a) "cap" = some none)
 (bA:W.findIn K (.ref a) "load" = some none)
 (bB:W.findIn K (.ref a) "mark_rows" = some none)
 (bC:W.findIn K (.ref a) "flows" = some none)
 (bD:W.findIn K (.ref a) "skies" = some none)
 (bE:W.findIn K (.ref a) "stoves" = some none)
 (bF:tU K a "__init__" "Hold.__init__" gr (.ref A))
 (bG:K.lookup A=some ⟨av,ae,.seq #[.int 4 T,.int 0 U,.int 0 V] aj,ap⟩)
 (bH:tU K a "put_room" "Hold.put_room" jb .none)
 (bI:tU K a "put_flow" "Hold.put_flow" iT .none)
 (bJ:tU K a "put_sky" "Hold.put_sky" jy .none)
 (bK:tU K a "put_stove" "Hold.put_stove" fX (.ref B))
 (bL:K.lookup B=some ⟨aw,af,.seq #[.int 0 Y,.int 0 Z,.int 0 aa] al,aq⟩)
 (bM:tU K a "many" "Hold.many" lO .none)
 (bN:tU K a "marks" "Hold.marks" kI .none)
 (bO:tU K a "share" "Hold.share" k7 .none)
 (bP:tU K a "sky" "Hold.sky" oN .none)
 (bQ:tU K a "stove" "Hold.stove" kS .none)
 (bR:tU K a "own_share" "Hold.own_share" il .none)
 (bS:tU K a "look_for" "Hold.look_for" jc .none)
 (bT:tU K a "look_at_share" "Hold.look_at_share" fF .none)
 (bU:W.plainGet K e Str.empty=true)
 (bV:W.hasDictIn K e=true)
 (bW:W.plainOver K e=true)
 (bX:W.findIn K (.ref e) "__setattr__" = some (some (.builtin "object.__setattr__")))
 (bY:W.makesIn K e=true)
 (bZ:kq_ K e)
 (b0:W.findIn K (.ref e) "hold" = some none)
 (b1:W.findIn K (.ref e) "spreads" = some none)
 (b2:tU K e "__init__" "Reach.__init__" ij .none)
 (b3:tU K e "states_behind" "Reach.states_behind" fm .none)
 (b4:tU K e "spread" "Reach.spread" jr .none)
 (b5:W.plainGet K b Str.empty=true)
 (b6:W.hasDictIn K b=true)
 (b7:W.plainOver K b=true)
 (b8:W.findIn K (.ref b) "__setattr__" = some (some (.builtin "object.__setattr__")))
 (b9:W.makesIn K b=true)
 (ca:kq_ K b)
 (cb:W.findIn K (.ref b) "met" = some none)
 (cc:W.findIn K (.ref b) "orders" = some none)
 (cd:W.findIn K (.ref b) "rows" = some none)
 (ce:W.findIn K (.ref b) "places" = some none)
 (cf:W.findIn K (.ref b) "limit" = some none)
 (cg:tU K b "__init__" "Game.__init__" i8 .none)
 (ch:tU K b "go_on" "Game.go_on" ly .none)
 (ci:tU K b "meet_all" "Game.meet_all" iV .none)
 (cj:tU K b "meet" "Game.meet" mD .none)
 (ck:W.plainGet K c Str.empty=true)
 (cl:W.hasDictIn K c=true)
 (cm:W.plainOver K c=true)
 (cn:W.findIn K (.ref c) "__setattr__" = some (some (.builtin "object.__setattr__")))
 (co:W.makesIn K c=true)
 (cp:kq_ K c)
 (cq:W.findIn K (.ref c) "lasts" = some none)
 (cr:W.findIn K (.ref c) "going" = some none)
 (cs:W.findIn K (.ref c) "ranks" = some none)
 (ct:W.findIn K (.ref c) "queue" = some none)
 (cu:tU K c "__init__" "Ranks.__init__" io .none)
 (cv:tU K c "go_back" "Ranks.go_back" iX .none)
 (cw:tU K c "end" "Ranks.end" l5 .none)
 (cx:iL K "has_room" oY .none)
 (cy:iL K "with_room" mE .none)
 (cz:iL K "how_many" oG .none)
 (cA:iL K "members" rJ .none)
 (cB:iL K "subsets" qX .none)
 (cC:iL K "bits_of" sB .none)
 (cD:iL K "is_state" oB .none)
 (cE:iL K "fits_room" mM .none)
 (cF:iL K "fits_stove" kF .none)
 (cG:iL K "look_at_state" iZ .none)
 (cI:iL K "with_stove" kG .none)
 (cJ:iL K "wood_of" sg .none)
 (cK:iL K "must_stay" lQ .none)
 (cL:iL K "can_burn" ph .none)
 (cM:iL K "orders_of" mX .none)
 (cN:iL K "failing" qU .none)
 (cO:iL K "stoves_behind" jd .none)
 (cP:iL K "wait_behind" jT .none)
 (cQ:iL K "failed_behind" iO .none)
 (cR:iL K "divisor" qS .none)
 (cS:iL K "fraction" px .none)
 (cT:iL K "plus" Ck .none)
 (cU:iL K "minus" yh .none)
 (cV:iL K "under" yo .none)
 (cW:iL K "sum_of_products" gJ .none)
 (cX:iL K "warmth_of" mB .none)
 (cY:iL K "span_of" rj .none)
 (cZ:iL K "touched" qZ .none)
 (c0:iL K "within" uZ .none)
 (c1:iL K "each_choice" jU .none)
 (c2:iL K "ranks_of" lE (.ref C))
 (c3:K.lookup C=some ⟨ax,ag,.seq #[.int 2000 ab] am,ar⟩)
 (c4:iL K "choices_ahead" ja .none)
 (c5:iL K "is_whole_upto" iS .none)
 (c6:iL K "is_rising" mh .none)
 (c7:iL K "bands_together" ic .none)
 (c9:iL K "lasts_by_heap" iW .none)
 (da:iL K "_law_cell_at" j9 .none)
 (db:iL K "_law_mix" rO .none)
 (dc:iL K "_law_part" oV .none)
 (dd:iL K "_law_scale" mW .none)
 (de:iL K "_law_warm" oH .none)
 (df:iL K "_law_rooms" lZ .none)
 (dg:iL K "_law_hold" oF .none)
 (dh:iL K "_law_state" lW .none)
 (di:iL K "_law_bad_state" i6 .none)
 (dj:iL K "_law_refused" jX .none)
 (dk:iL K "_law_rank" pE .none)
 (dl:iL K "_law_rising" kC .none)
 (dm:iL K "_law_wide" oQ .none)
 (dn:iL K "law" ET .none)
 (dp:W.nsIn K mainGlobals "ValueError" = some none)
 (dq:W.nsIn K mainGlobals "abs" = some none)
 (dr:W.nsIn K mainGlobals "all" = some none)
 (ds:W.nsIn K mainGlobals "bool" = some none)
 (dt:W.nsIn K mainGlobals "dict" = some none)
 (du:W.nsIn K mainGlobals "enumerate" = some none)
 (dv:W.nsIn K mainGlobals "int" = some none)
 (dw:W.nsIn K mainGlobals "isinstance" = some none)
 (dx:W.nsIn K mainGlobals "len" = some none)
 (dy:W.nsIn K mainGlobals "list" = some none)
 (dz:W.nsIn K mainGlobals "max" = some none)
 (dA:W.nsIn K mainGlobals "min" = some none)
 (dB:W.nsIn K mainGlobals "range" = some none)
 (dC:W.nsIn K mainGlobals "sum" = some none)
 (dD:W.nsIn K mainGlobals "tuple" = some none)
 (dE:W.nsIn K mainGlobals "zip" = some none)
 : Txt K mg ⟨a,e,b,c,g,i,j,k,l,f,m,n,d,o,p,q,r,s,t,u,v,w,x,y,z,A,B,C⟩ :=
⟨adc X G ay,
adc X G az,
adc X G aB,
adc X G aC,
adc X G aD,
adc X G aE,
adc X G aF,
adc X G aG,
adc X G aH,
adc X G aI,
adc X G aJ,
adc X G aK,
adc X G aL,
adc X G aN,
adc X G aO,
adc X G aP,
adc X G aQ,
adc X G aR,
adc X G aS,
adc X G aT,
adc X G aU,
adc X G aV,
adc X G aW,
adc X G aX,
adc X G aY,
aZ,
a0,
a1,
a2,
a3,
a4,
a5,
a6,
a7,
a8,
a9,
ba,
bb,
bc,
bd,
be,
⟨_,adc X G bf⟩,
⟨_,adc X G bg⟩,
⟨_,adc X G bh⟩,
⟨_,adc X G bi⟩,
⟨_,adc X G bj⟩,
⟨_,adc X G bk⟩,
⟨_,adc X G bl⟩,
⟨_,adc X G bm⟩,
⟨_,adc X G bn⟩,
⟨_,adc X G bo⟩,
No bp,
No bq,
⟨br,bs,bt,bu⟩,
⟨bv,bw⟩,
bx,
bz,
bA,
bB,
bC,
bD,
bE,
ju bF,
⟨_,_,_,bG,rfl,(.cons ⟨_,rfl⟩ (.cons ⟨_,rfl⟩ (.cons ⟨_,rfl⟩ .nil)))⟩,
ju bH,
ju bI,
ju bJ,
ju bK,
⟨_,_,_,bL,rfl,(.cons ⟨_,rfl⟩ (.cons ⟨_,rfl⟩ (.cons ⟨_,rfl⟩ .nil)))⟩,
ju bM,
ju bN,
ju bO,
ju bP,
ju bQ,
ju bR,
ju bS,
ju bT,
⟨bU,bV,bW,bX⟩,
⟨bY,bZ⟩,
b0,
b1,
ju b2,
ju b3,
ju b4,
⟨b5,b6,b7,b8⟩,
⟨b9,ca⟩,
cb,
cc,
cd,
ce,
cf,
ju cg,
ju ch,
ju ci,
ju cj,
⟨ck,cl,cm,cn⟩,
⟨co,cp⟩,
cq,
cr,
cs,
ct,
ju cu,
ju cv,
ju cw,
c8 X G cx,
c8 X G cy,
c8 X G cz,
c8 X G cA,
c8 X G cB,
c8 X G cC,
c8 X G cD,
c8 X G cE,
c8 X G cF,
c8 X G cG,
c8 X G cI,
c8 X G cJ,
c8 X G cK,
c8 X G cL,
c8 X G cM,
c8 X G cN,
c8 X G cO,
c8 X G cP,
c8 X G cQ,
c8 X G cR,
c8 X G cS,
c8 X G cT,
c8 X G cU,
c8 X G cV,
c8 X G cW,
c8 X G cX,
c8 X G cY,
c8 X G cZ,
c8 X G c0,
c8 X G c1,
Yf X G c2,
⟨_,_,_,c3,rfl,(.cons ⟨_,rfl⟩ .nil)⟩,
c8 X G c4,
c8 X G c5,
c8 X G c6,
c8 X G c7,
c8 X G c9,
c8 X G da,
c8 X G db,
c8 X G dc,
c8 X G dd,
c8 X G de,
c8 X G df,
c8 X G dg,
c8 X G dh,
c8 X G di,
c8 X G dj,
c8 X G dk,
c8 X G dl,
c8 X G dm,
c8 X G dn,
adi X G dp,
adi X G dq,
adi X G dr,
adi X G ds,
adi X G dt,
adi X G du,
adi X G dv,
adi X G dw,
adi X G dx,
adi X G dy,
adi X G dz,
adi X G dA,
adi X G dB,
adi X G dC,
adi X G dD,
adi X G dE⟩
section
variable {P:aZ} {w:aU} {K:aA} {mg:cH} {base:aM} {Ad:Ads}
def fT {lo:Int} {n:Nat} {g:TG} {tb:TS} {D:Ends} (p:Nat->L2.St->Hp->Prop) (h0:p 0 σ H) (c:let G:Nat->L2.St->Hp->Prop:=λ i σ H=>g (.int (lo+i)) σ H λ a h=>tb { D with nx:=p (i+1),ct:=p (i+1),bk:=D.nx } a h
   ∀ (i:Nat) (σ:L2.St) (H:Hp),i<n->p i σ H->G i σ H) (b:∀ σ H,p n σ H->D.nx σ H):=xA (lo:=lo) (n:=n) (g:=g) (tb:=tb) (D:=D) (σ:=σ) (H:=H) p h0 c b
def gA {K:aA} {xs:az} {g:TG} {tb:TS} {D:Ends} (p:Nat->L2.St->Hp->Prop) (h0:p 0 σ H) (d:∀ i σ H,i<=xs.length->p i σ H->aY K H a xs) (e:let G:Nat->V->L2.St->Hp->Prop:=λ i x σ H=>g x σ H λ b h=>tb { D with nx:=p (i+1),ct:=p (i+1),bk:=D.nx } b h
   ∀ (i:Nat) (x:V) (σ:L2.St) (H:Hp),xs[i]?=some x->p i σ H->G i x σ H) (c:∀ σ H,p xs.length σ H->D.nx σ H):=kr (K:=K) (a:=a) (xs:=xs) (g:=g) (tb:=tb) (D:=D) (σ:=σ) (H:=H) p h0 d e c
def CU (T:Txt K mg Ad):Def P w K mg base "divisor" 1 ["one","other"] QI:=by
 refine T.FM.dg ik λ Z Z Z Z Z H V Q E x h=>?_;obtain ⟨a,b,rfl,k⟩:=h;refine ⟨_,(ai (cS (i:=2) ik.nd (aP rR (by rfl) T.HH DK (aa (pv 0) af)))
     (ai (cS (i:=3) ik.nd (aP rR (by rfl) T.HH DK (aa (pv 1) af)))
     (ai (qi abM (aJ vF (pv 3) ac (aK _)) (ai (cS (i:=4) ik.nd (ax aX (pv 2) (pv 3)))
     (ai (cS (i:=2) ik.nd (pv 3))
     (am (cS (i:=3) ik.nd (pv 4))))))
     (am (aI (pv 2)))))),?_⟩
 try dsimp only [fD,bj]
 try (refine fL ?_;intro Z Z Z Z Z)
 refine ⟨_,rfl,_,rfl,λ G q=>⟨_,rfl,_,rfl,λ v s=>?_⟩⟩;refine ⟨λ m n d=>d=H/\E3 λ (g l:Int) (r:eO)=>A5 (n=[some (.int a),some (.int b),some (.int g),some (.int l),r]) (0<=g) (0<=l) (m=l.toNat) (Int.gcd g l=Int.gcd a b),
   ⟨_,rfl,G,v,none,rfl,by lia,by lia,rfl,by rw [q,s];rfl⟩,?_⟩
 rintro m n d ⟨rfl,g,l,r,rfl,j,u,rfl,e⟩;refine ⟨_,rfl,rfl,_,rfl,?_⟩;refine pW (λ h=>?_) (λ h=>?_)
 .
  have L:0<l:=by rw [cx] at h;lia
  refine ⟨λ c f=>f=d/\c=[some (.int a),some (.int b),some (.int l),some (.int (g % l)),some (.int (g % l))],λ c f ⟨o,p⟩=>?_,?_⟩
  . have M:=afE g (by lia:l≠0);have y:=aeA g L;exact ⟨(g % l).toNat,by lia,o,l,g % l,_,p,u,M,rfl,(NK j L).trans e⟩
  . refine ⟨_,rfl,_,rfl,_,_,rfl,rfl,L,λ r Z Z t=>?_⟩;subst t;exact ⟨_,rfl,_,rfl,rfl,rfl⟩
 .
  have L:l=0:=cx.mp h;subst L;refine ⟨_,rfl,k g ?_⟩;rw [<- e,UT j]
def mO (T:Txt K mg Ad):Def P w K mg base "fraction" 2 ["top","bottom"] BL:=by
 refine T.Dm.dg lY λ Z Z Z Z Z H V Q E x h=>?_;obtain ⟨t,b,rfl,j,l,k⟩:=h;refine ⟨_,(ai (br (aJ db (pv 1) ac (aK _)) (am cO) aH)
     (ai (cS (i:=2) lY.nd (aw (CU T) x.m (aa (pv 0) (aa (pv 1) af))))
     (ai (eW (br (aJ lH (pv 1) ac (aK _)) (am (cS (i:=2) lY.nd (oA o7 (pv 2)))) aH))
     (am (aI (bJ (aa (ax bB (pv 0) (pv 2)) (aa (ax bB (pv 1) (pv 2)) af)))))))),?_⟩
 try dsimp only [fD,bj]
 try (refine fL ?_;intro Z Z Z Z Z)
 refine ⟨_,rfl,rfl,_,rfl,?_⟩;refine kz (λ e=>j (cx.mp e)) ?_;refine ⟨_,rfl,_,rfl,t,b,rfl,λ c n=>?_⟩;obtain ⟨y,z,F,fn⟩:=Ib j n;have B:Bd 8999 c:=(l.le (by lia)).mono (by decide);refine ⟨λ a d=>d=H/\∃ C,A4 (C≠0) (Bd 8999 C) (Fr t b (t.fdiv C) (b.fdiv C)) (a=[some (.int t),some (.int b),some (.int C)]),?_,?_⟩
 .
  refine ⟨_,rfl,_,_,rfl,rfl,_,rfl,?_⟩;refine gi (λ h=>?_) (λ h=>?_)
  . exact ⟨_,rfl,_,rfl,rfl,-c,by lia,B.neg,fn h,rfl⟩
  . exact ⟨rfl,c,by lia,B,F (by lia),rfl⟩
 .
  rintro a d ⟨rfl,C,f,g,u,rfl⟩;refine ⟨_,rfl,_,rfl,_,_,rfl,rfl,⟨f,g⟩,λ q o=>⟨_,rfl,_,rfl,_,_,rfl,rfl,⟨f,g⟩,λ r s=>⟨Hl,λ p v=>?_⟩⟩⟩;subst o s;exact k _ _ p _ u (al v) ag
def MP (T:Txt K mg Ad):Def P w K mg base "plus" 3 ["one","other"] (AV (λ a b c d=>a * d+c * b) K):=by
 refine T.QG.dg Mc λ Z Z Z Z Z H V Q E r h=>?_;obtain ⟨s,v,a,b,c,d,rfl,f,g,i,D,j,B,l,e,k⟩:=h;refine ⟨_,(am (aI (aw (mO T) r.m (aa (ax aT (ax bN (aF aB (pv 0) ac) (aF aB (pv 1) ac)) (ax bN (aF aB (pv 1) ac) (aF aB (pv 0) ac))) (aa (ax bN (aF aB (pv 0) ac) (aF aB (pv 1) ac)) af))))),?_⟩;try dsimp only [fD,bj]
 refine ⟨_,rfl,_,_,_,_,rfl,rfl,.inr f,rfl,_,rfl,_,_,_,_,rfl,rfl,.inr g,rfl,_,_,rfl,rfl,⟨_,_,j,e,by decide⟩,λ x n=>?_⟩;refine ⟨_,rfl,_,_,_,_,rfl,rfl,.inr g,rfl,_,rfl,_,_,_,_,rfl,rfl,.inr f,rfl,_,_,rfl,rfl,⟨_,_,l,B,by decide⟩,λ X o=>⟨_,_,rfl,rfl,λ t p=>?_⟩⟩;refine ⟨_,rfl,_,_,_,_,rfl,rfl,.inr f,rfl,_,rfl,_,_,_,_,rfl,rfl,.inr g,rfl,_,_,rfl,rfl,⟨_,_,B,e,by decide⟩,λ u q=>?_⟩;subst n o p q;exact ⟨_,_,rfl,ae9 (adu i D),(B.mul e).mono (by decide),k⟩
def Ax (T:Txt K mg Ad):Def P w K mg base "minus" 3 ["one","other"] (AV (λ a b c d=>a * d - c * b) K):=by
 refine T.La.dg JW λ Z Z Z Z Z H V Q E r h=>?_;obtain ⟨s,v,a,b,c,d,rfl,f,g,i,D,j,B,l,e,k⟩:=h;refine ⟨_,(am (aI (aw (mO T) r.m (aa (ax dI (ax bN (aF aB (pv 0) ac) (aF aB (pv 1) ac)) (ax bN (aF aB (pv 1) ac) (aF aB (pv 0) ac))) (aa (ax bN (aF aB (pv 0) ac) (aF aB (pv 1) ac)) af))))),?_⟩;try dsimp only [fD,bj]
 refine ⟨_,rfl,_,_,_,_,rfl,rfl,.inr f,rfl,_,rfl,_,_,_,_,rfl,rfl,.inr g,rfl,_,_,rfl,rfl,⟨_,_,j,e,by decide⟩,λ x n=>?_⟩;refine ⟨_,rfl,_,_,_,_,rfl,rfl,.inr g,rfl,_,rfl,_,_,_,_,rfl,rfl,.inr f,rfl,_,_,rfl,rfl,⟨_,_,l,B,by decide⟩,λ X o=>⟨_,_,rfl,rfl,λ t p=>?_⟩⟩;refine ⟨_,rfl,_,_,_,_,rfl,rfl,.inr f,rfl,_,rfl,_,_,_,_,rfl,rfl,.inr g,rfl,_,_,rfl,rfl,⟨_,_,B,e,by decide⟩,λ u q=>?_⟩;subst n o p q;exact ⟨_,_,rfl,ae9 (adu i D),(B.mul e).mono (by decide),k⟩
def mj (T:Txt K mg Ad):Def P w K mg base "under" 1 ["one","other"] (Iw K):=by
 refine T.Ec.dg Bz λ Z Z Z Z Z H v Q E n h=>?_;obtain ⟨p,o,a,b,c,d,rfl,e,f,B,g,i,j,k⟩:=h;refine ⟨_,(am (aI (dW lH (ax bN (aF aB (pv 0) ac) (aF aB (pv 1) ac)) (ax bN (aF aB (pv 1) ac) (aF aB (pv 0) ac)) (aK _)))),?_⟩;try dsimp only [fD,bj]
 refine ⟨_,rfl,_,_,_,_,rfl,rfl,.inr e,rfl,_,rfl,_,_,_,_,rfl,rfl,.inr f,rfl,_,_,rfl,rfl,⟨_,_,B,j,by decide⟩,λ x l=>?_⟩;refine ⟨_,rfl,_,_,_,_,rfl,rfl,.inr f,rfl,_,rfl,_,_,_,_,rfl,rfl,.inr e,rfl,_,_,rfl,rfl,⟨_,_,i,g,by decide⟩,λ X m=>⟨_,_,rfl,rfl,?_⟩⟩;subst l m;exact k
def dh (T:Txt K mg Ad):Def P w K mg base "is_whole_upto" 1 ["thing","greatest"] MW:=by
 refine T.tD.dg rM λ Z Z Z Z Z H c Q E b h=>?_;obtain ⟨n,g,rfl,k⟩:=h;refine ⟨_,(ai (br (PW.pt (sV (cB (aP iJ (by rfl) T.cW cM (aa (pv 0) (aa (nL (v:=V.ty "bool") rfl T.JB DQ rfl) af)))) (sj (dM (cB (aP iJ (by rfl) T.cW cM (aa (pv 0) (aa (nL (v:=V.ty "int") rfl T.xJ rW rfl) af)))))))) (am (aI gK)) aH)
     (am (aI (JY jO jO ac (pv 0) (pv 1))))),?_⟩
 try dsimp only [fD,bj]
 refine ⟨_,rfl,_,_,_,_,_,rfl,.int n,rfl,qL K,_,rfl,dE ⟨_,rfl,_,_,_,_,_,rfl,.int n,rfl,rfl,_,rfl,dE ?_⟩⟩;refine ⟨_,rfl,_,_,rfl,rfl,_,rfl,?_⟩;by_cases a:(0:Int)<=n
 .
  refine tP a ⟨_,rfl,_,_,rfl,rfl,?_⟩;have:decide (n<=g)=decide (0<=n/\n<=g):=aeS.mpr ⟨λ h=>⟨a,h⟩,λ h=>h.2⟩;show Q (V.bl (decide (n<=g))) H;rw [this];exact k
 .
  refine kz a ?_;have:decide (0<=n/\n<=g)=false:=aaL λ h=>a h.1;rw [this] at k;exact k
def cN (T:Txt K mg Ad):jx P w K mg base Ad.bp "many" 1 ["self"] [] (LC K Ad.bp):=by
 refine T.Bl.iA yx λ Z Z Z Z Z H v Q E p h=>?_;obtain ⟨a,o,m,rfl,f,k⟩:=h;refine ⟨_,(am (aI (aP bz (by rfl) T.eP cR (aa (aW (pv 0) rfl) af)))),?_⟩;try dsimp only [fD,bj]
 obtain ⟨⟨D,x,u,y,z,V,v,M,A,rfl,c,r,i,L,q,I,N,s,t,d,j,l,g,F⟩,B,C,G,J⟩:=f;refine ⟨_,rfl,a,_,D,_,_,rfl,c,T.aG,T.d8,uV ..,_,_,rfl,.inl (aY.of i),λ n b=>?_⟩;have e:n=(m.rows.length:Int):=by rw [b,d.length,CT]
 rw [e];exact k
def bV (T:Txt K mg Ad):jx P w K mg base Ad.bp "look_for" 3 ["self","room"] [] (zS K Ad.bp):=by
 refine T.tN.iA rS λ Z Z Z Z Z H v Q E e h=>?_;obtain ⟨a,f,m,i,rfl,b,g,k⟩:=h;refine ⟨_,(am (br (dM (ko jO lH ac (pv 1) (fZ (pv 0) T.aG (cN T) .nil e.m))) (am cO) aH)),?_⟩;try dsimp only [fD,bj]
 obtain ⟨⟨d,j,p,l,n,V,v,o,A,s,c,Z⟩,Z⟩:=id b;refine ⟨_,rfl,_,_,rfl,rfl,_,rfl,tP (by lia) ⟨_,rfl,a,d,_,rfl,c,rfl,a,f,m,rfl,b,_,_,rfl,rfl,_,rfl,?_⟩⟩;exact iH (by lia) k
def pL (T:Txt K mg Ad):jx P w K mg base Ad.bp "sky" 4 ["self","room"] [] (N7 K Ad.bp):=by
 refine T.DA.iA BC λ Z Z Z Z Z H V Q E n h=>?_;obtain ⟨a,F,m,i,z,rfl,c,e,k⟩:=h;refine ⟨_,(ai (bo (bg (pv 0) T.aG (bV T) .nil n.m (aa (pv 1) af)))
     (am (aI (aF aB (aW (pv 0) rfl) (pv 1))))),?_⟩
 try dsimp only [fD,bj]
 obtain ⟨⟨D,G,C,J,L,W,V,X,A,U,b,x,t,S,I,u,N,y,B,p,f,r,o,s⟩,q,M,O,R⟩:=id c;have l:i<m.rows.length:=by rw [<- q];exact (QQ.mp e).1
 obtain ⟨v,j,g⟩:=f.get (i:=i) (d:=pV z) (by rw [aag,e];rfl);refine ⟨_,rfl,a,D,_,rfl,b,rfl,_,rfl,a,F,m,i,rfl,c,l,?_⟩;exact ⟨_,rfl,a,_,D,_,_,rfl,b,T.aG,T.fh,kg ..,_,rfl,_,_,_,_,rfl,rfl,.inl (aY.of I),eE j,k v g⟩
def eK (T:Txt K mg Ad):jx P w K mg base Ad.bp "stove" 4 ["self","room"] [] (II K Ad.bp):=by
 refine T.zw.iA wG λ Z Z Z Z Z H V Q E n h=>?_;obtain ⟨a,F,m,i,z,rfl,c,e,k⟩:=h;refine ⟨_,(ai (bo (bg (pv 0) T.aG (bV T) .nil n.m (aa (pv 1) af)))
     (am (aI (aF aB (aW (pv 0) rfl) (pv 1))))),?_⟩
 try dsimp only [fD,bj]
 obtain ⟨⟨D,G,C,J,L,W,V,X,A,U,b,x,t,S,u,I,N,y,B,p,r,f,o,s⟩,M,q,O,R⟩:=id c;have l:i<m.rows.length:=by rw [<- q];exact (QQ.mp e).1
 obtain ⟨v,j,g⟩:=f.get (i:=i) (d:=iR z) (by rw [aag,e];rfl);refine ⟨_,rfl,a,D,_,rfl,b,rfl,_,rfl,a,F,m,i,rfl,c,l,?_⟩;exact ⟨_,rfl,a,_,D,_,_,rfl,b,T.aG,T.gD,pD ..,_,rfl,_,_,_,_,rfl,rfl,.inl (aY.of I),eE j,k v g⟩
def fM (T:Txt K mg Ad):jx P w K mg base Ad.bp "marks" 4 ["self","room"] [] (Jn K Ad.bp):=by
 refine T.yY.iA wJ λ Z Z Z Z Z H V Q E s h=>?_;obtain ⟨a,F,m,i,r,rfl,e,f,k⟩:=h;refine ⟨_,(ai (bo (bg (pv 0) T.aG (bV T) .nil s.m (aa (pv 1) af)))
     (am (aI (eJ yM (by rfl) T.IE Ej (aa (aF aB (aW (pv 0) rfl) (pv 1)) af))))),?_⟩
 try dsimp only [fD,bj]
 obtain ⟨⟨D,O,M,R,S,vm,V,vt,A,sW,c,G,I,qz,C,B,N,J,L,g,u,y,t,z⟩,U,W,X,Y⟩:=id e;have n:i<m.rows.length:=(QQ.mp f).1;obtain ⟨v,l,b,x,rfl,q,j⟩:=g.get (i:=i) (d:=wn r) (by rw [aag,f];rfl);refine ⟨_,rfl,a,D,_,rfl,c,rfl,_,rfl,a,F,m,i,rfl,e,n,?_⟩;exact ⟨_,rfl,a,_,D,_,_,rfl,c,T.aG,T.d8,uV ..,_,rfl,_,_,_,_,rfl,rfl,.inl (aY.of I),eE l,b,x,rfl,.inr q,λ p o=>k p x o j⟩
def jp (T:Txt K mg Ad):jx P w K mg base Ad.bp "own_share" 4 ["self","room"] [] (On K Ad.bp):=by
 refine T.rK.iA fu λ Z Z Z Z Z H vs Q E g h=>?_;obtain ⟨a,fp,m,i,rfl,C,hi,k⟩:=h;refine ⟨_,(ai (cS (i:=2) fu.nd (aw (Ax T) g.m (aa (bY (v:=V.ref _) rfl T.EZ rfl) (aa (aF aB (aF aB (aW (pv 0) rfl) (pv 1)) ac) af))))
     (ai (cP abM rfl (cr rfl T.dG (aa (fZ (pv 0) T.aG (cN T) .nil g.m) af)) (iF (i:=3) fu.nd) (am (cS (i:=2) fu.nd (aw (Ax T) g.m (aa (pv 2) (aa (Bk (Fj g) (aW (pv 0) rfl) (bJ (aa (pv 1) (aa (pv 3) af))) (bY (v:=V.ref _) rfl T.jv rfl) ⟨rfl,rfl,rfl,rfl⟩) af))))))
     (am (aI (pv 2))))),?_⟩
 try dsimp only [fD,bj]
 try (refine dR ?_;intro Z Z Z Z)
 obtain ⟨⟨y,pm,pf,ps,pt,vm,vs,vt,aD,sW,A,ky,iK,qz,iN,iM,n1,n2,n3,dm,ds,dt,df,fk⟩,q1,q2,q3,M⟩:=id C;have G:i<m.bK.length:=by rw [q1];exact hi
 have Y:=aL G;obtain ⟨v,ev,dv⟩:=ds.get (i:=i) (d:=pV m.bK[i]) (by rw [aag,Y];rfl);obtain ⟨p0,v1,v2,v3,rfl,yU,d1,d2,d3⟩:=dv.uG;obtain ⟨p1,rfl,yX⟩:=d1.fr;have X:m.bK[i].1=m.ft i:=by unfold aq.ft;rw [Y];rfl
 have O:fW 100 m.bK[i].1:=X ▸ M.ft i;refine ⟨_,rfl,a,_,y,_,_,rfl,A,T.aG,T.fh,kg ..,_,rfl,_,_,_,_,rfl,rfl,.inl (aY.of iN),eE ev,_,_,_,_,rfl,rfl,.inr yU,rfl,?_⟩;refine ⟨Ad.wU,p1,1,1,_,_,rfl,T.Fi.at H,yX,by decide,O.p,nJ,nJ,O.t.mono (by decide),O.b.mono (by decide),λ q r u H1 F N c=>?_⟩;have e0:(q,r)=m.gR i 0:=by
   have:=F.nf (adu (by decide) O.p);rw [this];unfold aq.gR lA;rw [<- X];rfl
 refine ⟨_,rfl,a,y,_,rfl,N _ _ A,rfl,a,fp,m,rfl,aV.same N C,_,rfl,by lia,by lia,?_⟩;refine fT (lo:=0) (n:=m.rows.length) (λ j R U=>aE H U/\E2 λ (u:ak) (x:eO)=>U u=some (.tup [.int (m.gR i j).1,.int (m.gR i j).2])/\R=[some (.ref a),some (ao i),some (.ref u),x])
   ⟨N,u,none,by rw [<- e0];exact c,rfl⟩ ?_ ?_
 .
  rintro Z j R e hj ⟨s,u,x,c,rfl⟩;have l:=(M.gR i j).mono (show 201+101 * j<=1000 by lia);obtain ⟨of,ot⟩:True/\True:=⟨trivial,trivial⟩
  refine ⟨_,rfl,_,rfl,a,_,y,_,_,rfl,s _ _ A,T.aG,T.iy,rP ..,_,rfl,.inr ⟨_,.inl (s _ _ qz)⟩,_,rfl,_,rfl,Hl,λ J Mo=>?_⟩;have S:=al (o:=.tup [ao i,.int (0+(j:Int))]) Mo;have Cy:(upd e J (.tup [ao i,.int (0+(j:Int))])) J=some (.tup ((jB i j).map kV)):=by rw [ag,aca];rfl
  refine ⟨_,Fu.t (S _ _ (s _ _ qz)) Cy,?_⟩;have D:Dn K (upd e J (.tup [ao i,.int (0+(j:Int))])) (ff (m.fC i j)) ((gW aD (jB i j)).getD (.ref Ad.k9)):=by
    have:=(aV.same (s.trans S) C).ex;have q:=df i j;refine Dn.same (s.trans S) _ (DV q (T.lU.fr (f:=(0,1))))
  obtain ⟨L,z,B⟩:=D.fr;have W:=M.fC i j;rw [z];refine ⟨u,L,_,_,_,_,rfl,bP.of (S _ _ c),B,l.p,W.p,l.t,l.b,W.t.mono (by decide),W.b.mono (by decide),λ q r u' H4 F s4 I=>?_⟩;refine ⟨s.trans (S.trans s4),u',_,?_,rfl⟩;have:=F.nf (adu l.p W.p);rw [I,aq.oZ];unfold lA;rw [<- this]
 . rintro R e ⟨s,u,x,c,rfl⟩;exact ⟨_,rfl,k _ e s (mI (bP.of c))⟩
def lV (T:Txt K mg Ad):jx P w K mg base Ad.bp "share" 5 ["self","into","of"] [] (JC K Ad.bp):=by
 refine T.za.iA ww λ Z Z Z Z Z H y Q E g h=>?_;obtain ⟨a,F,m,i,j,rfl,c,l,x,k⟩:=h;refine ⟨_,(ai (bo (bg (pv 0) T.aG (bV T) .nil g.m (aa (pv 1) af)))
     (ai (bo (bg (pv 0) T.aG (bV T) .nil g.m (aa (pv 2) af)))
     (ai (br (aJ db (pv 1) (pv 2) (aK _)) (am (aI (bg (pv 0) T.aG (jp T) .nil g.m (aa (pv 1) af)))) aH)
     (am (aI (Bk (Fj g) (aW (pv 0) rfl) (bJ (aa (pv 1) (aa (pv 2) af))) (bY (v:=V.ref _) rfl T.jv rfl) ⟨rfl,rfl,rfl,rfl⟩)))))),?_⟩
 try dsimp only [fD,bj]
 try (refine fL ?_;intro Z Z Z Z Z)
 obtain ⟨⟨d,Y,X,ps,pt,vm,y,vt,A,sW,b,O,J,q,N,L,R,U,W,z,B,G,r,I⟩,q1,q2,q3,q4⟩:=id c;refine ⟨_,rfl,a,d,_,rfl,b,rfl,_,rfl,a,F,m,i,rfl,c,l,⟨_,rfl,a,d,_,rfl,b,rfl,_,rfl,a,F,m,j,rfl,c,x,?_⟩⟩;refine ⟨_,rfl,_,rfl,rfl,_,rfl,?_⟩;by_cases D:i=j
 . subst D;refine tP rfl ⟨_,rfl,a,d,_,rfl,b,rfl,_,rfl,a,F,m,i,rfl,c,l,λ v p S u=>k v p S ?_⟩;rw [aq.share,abE rfl];exact u
 .
  refine kz (λ e=>D (by have:=cx.mp e;lia)) ?_;refine ⟨_,rfl,a,_,d,_,_,rfl,b,T.aG,T.iy,rP ..,_,rfl,.inr ⟨_,.inl q⟩,_,rfl,_,rfl,Hl,λ n M=>?_⟩;have s:=al (o:=.tup [ao i,ao j]) M;have C:(upd H n (.tup [ao i,ao j])) n=some (.tup ((jB i j).map kV)):=by rw [ag];rfl
  refine ⟨_,Fu.t (s _ _ q) C,k _ _ s ?_⟩;rw [aq.share,abC D];exact Dn.same s _ (DV (r i j) (T.lU.fr (f:=(0,1))))
def gC (T:Txt K mg Ad):jx P w K mg base Ad.bp "look_at_share" 5 ["self","room","share","former"] [] (Lr K Ad.bp):=by
 refine T.mR.iA hV λ Z Z Z Z Z H U Q E c h=>?_;obtain ⟨a,I,m,i,v1,v2,f,g,rfl,l,L,y,z,d,o,hf,n,k⟩:=h;refine ⟨_,(ai (cS (i:=4) hV.nd (aw (MP T) c.m (aa (bg (pv 0) T.aG (jp T) .nil c.m (aa (pv 1) af)) (aa (pv 3) af))))
     (am (br (PW.pt (sV (cB (aw (mj T) c.m (aa (pv 2) (aa (bY (v:=V.ref _) rfl T.jv rfl) af)))) (sj (cB (aw (mj T) c.m (aa (pv 4) (aa (pv 2) af))))))) (am cO) aH))),?_⟩
 try dsimp only [fD,bj]
 obtain ⟨⟨C,pm,pf,ps,pt,vm,U,vt,aD,sW,J,ky,iK,qz,iN,iM,n1,n2,n3,dm,ds,dt,df,fk⟩,q1,q2,q3,R⟩:=id l;obtain ⟨x,rfl,D⟩:=y.fr;obtain ⟨M,rfl,W⟩:=z.fr;refine ⟨_,rfl,a,C,_,rfl,J,rfl,_,rfl,a,I,m,i,rfl,l,L,λ v X s B=>⟨_,rfl,?_⟩⟩;obtain ⟨N,rfl,A⟩:=B.fr;have O:fW 800 (m.own i):=(R.gR i _).mono (by lia);refine ⟨N,M,_,_,_,_,rfl,A,s.tup W,O.p,o.p,O.t.mono (by decide),O.b.mono (by decide),o.t.mono (by decide),o.b.mono (by decide),λ q r u Y F S e=>?_⟩;have G:(q,r)=n9 (m.own i) g:=F.nf (adu O.p o.p);have j:fW 950 (n9 (m.own i) g):=(O.plus o).mono (by decide);rw [<- G] at j n;refine ⟨_,rfl,x,Ad.k9,_,_,_,_,rfl,S.tup (s.tup D),T.lU.at _,d.t.mono (by decide),d.b.mono (by decide),nJ,nJ,_,rfl,kz (by lia) ?_⟩;refine ⟨_,rfl,_,rfl,u,x,_,_,_,_,rfl,bP.of e,S.tup (s.tup D),j.t.mono (by decide),j.b.mono (by decide),d.t.mono (by decide),d.b.mono (by decide),_,rfl,kz (agm n) (k _ (s.trans S))⟩
def pH (T:Txt K mg Ad):jx P w K mg base Ad.bp "put_flow" 6 ["self","into","of","share"] [] (Ba K Ad.bp):=by
 refine T.sZ.iA rL λ Z Z Z Z Z H V Q E g h=>?_;obtain ⟨a,F,m,i,j,v,f,rfl,c,l,q,D,n,O,B,G,k⟩:=h;refine ⟨_,(ai (bo (bg (pv 0) T.aG (bV T) .nil g.m (aa (pv 1) af)))
     (ai (bo (bg (pv 0) T.aG (bV T) .nil g.m (aa (pv 2) af)))
     (ai (br (aJ db (pv 1) (pv 2) (aK _)) (am cO) aH)
     (ai (bo (bg (pv 0) T.aG (gC T) .nil g.m (aa (pv 1) (aa (pv 3) (aa (bg (pv 0) T.aG (lV T) .nil g.m (aa (pv 1) (aa (pv 2) af))) af)))))
     (am (Lm (Fj g) (aW (pv 0) rfl) (bJ (aa (pv 1) (aa (pv 2) af))) (pv 3) rfl)))))),?_⟩
 try dsimp only [fD,bj]
 try (refine A0 ?_;intro Z Z Z Z Z Z)
 obtain ⟨⟨d,pm,pf,ps,pt,vm,V,vt,R,sW,b,ky,iK,u,iN,iM,n1,n2,n3,W,X,Y,U,A⟩,q1,q2,q3,I⟩:=id c;refine ⟨_,rfl,a,d,_,rfl,b,rfl,_,rfl,a,F,m,i,rfl,c,l,⟨_,rfl,a,d,_,rfl,b,rfl,_,rfl,a,F,m,j,rfl,c,q,?_⟩⟩;refine ⟨_,rfl,_,rfl,rfl,_,rfl,kz (λ e=>D (by have:=cx.mp e;lia)) ?_⟩;refine ⟨_,rfl,a,d,_,rfl,b,rfl,_,rfl,_,rfl,_,rfl,a,d,_,rfl,b,rfl,_,rfl,_,rfl,a,F,m,i,j,rfl,c,l,q,λ z N s p=>?_⟩;rw [aq.share,abC D] at p;refine ⟨a,F,m,i,v,z,f,_,rfl,c.same s,l,Dn.same s _ n,p,O,I.fC i j,B,G,λ y J=>?_⟩;have x:=s.trans J;refine ⟨_,rfl,_,rfl,a,_,d,_,_,rfl,x _ _ b,T.aG,T.iy,rP ..,_,rfl,_,rfl,Hl,λ r M=>?_⟩;have L:=al (o:=.tup [ao i,ao j]) M;have C:(upd y r (.tup [ao i,ao j])) r=some (.tup ((jB i j).map kV)):=by rw [ag];rfl
 have S:=x.trans L;refine ⟨_,_,rfl,Kk.t (S _ _ u) C (abj A.len (by decide)),k _ F (FH c S b u (by lia) (by lia) (Dn.same S _ n) O)⟩
def sr (T:Txt K mg Ad):jx P w K mg base Ad.bp "put_sky" 6 ["self","room","share","low","high"] [] (C5 K Ad.bp):=by
 refine T.vC.iA sY λ Z Z Z Z Z H V Q E l h=>?_;obtain ⟨a,F,m,i,G,v2,v3,f,lo,hi,rfl,e,p,q,r,u,A,O,n,j,S,U,k⟩:=h;refine ⟨_,(ai (bo (bg (pv 0) T.aG (bV T) .nil l.m (aa (pv 1) af)))
     (ai (br (cB (aw (mj T) l.m (aa (pv 4) (aa (pv 3) af)))) (am cO) aH)
     (ai (bo (bg (pv 0) T.aG (gC T) .nil l.m (aa (pv 1) (aa (pv 2) (aa (aF aB (aF aB (aW (pv 0) rfl) (pv 1)) ac) af)))))
     (am (ip (bJ (aa (pv 2) (aa (pv 3) (aa (pv 4) af)))) (oK (aW (pv 0) rfl) (pv 1) set_list)))))),?_⟩
 try dsimp only [fD,bj]
 try (refine fL ?_;intro Z Z Z Z Z)
 obtain ⟨⟨D,pm,pf,W,pt,vm,V,vt,aD,sW,c,ky,iK,qz,I,iM,n1,n2,n3,dm,x,dt,df,fk⟩,X,q2,q3,Y⟩:=id e;obtain ⟨B,rfl,zo⟩:=r.fr;obtain ⟨C,rfl,J⟩:=u.fr;have g:i<m.bK.length:=by rw [X];exact p
 have z:=aL g;obtain ⟨v,R,L⟩:=x.get (i:=i) (d:=pV m.bK[i]) (by rw [aag,z];rfl);obtain ⟨p0,w1,w2,w3,rfl,yU,y,e2,e3⟩:=L.uG;have N:m.bK[i].1=m.ft i:=by unfold aq.ft;rw [z];rfl
 rw [N] at y;refine ⟨_,rfl,a,D,_,rfl,c,rfl,_,rfl,a,F,m,i,rfl,e,p,?_⟩;refine ⟨_,rfl,_,rfl,C,B,_,_,_,_,rfl,J,zo,n.t.mono (by decide),n.b.mono (by decide),O.t.mono (by decide),O.b.mono (by decide),_,rfl,kz (agm j) ?_⟩;refine ⟨_,rfl,a,D,_,rfl,c,rfl,_,rfl,_,rfl,_,rfl,a,_,D,_,_,rfl,c,T.aG,T.fh,kg ..,_,rfl,_,_,_,_,rfl,rfl,.inl (aY.of I),eE R,_,_,_,_,rfl,rfl,.inr yU,rfl,?_⟩;refine ⟨a,F,m,i,G,w1,f,_,rfl,e,p,q,y,A,Y.ft i,S,U,λ H2 s2=>?_⟩;refine ⟨_,rfl,_,rfl,_,rfl,Nh,λ kp M=>?_⟩;have s3:=al (o:=.tup [G,.ref B,.ref C]) M;have s:=s2.trans s3;have hl:V.length=m.bK.length:=by rw [x.length,CT]
 refine ⟨_,rfl,a,_,D,_,_,rfl,s _ _ c,T.aG,T.fh,kg ..,_,rfl,W,V,_,i,rfl,rfl,s _ _ I,jM (by lia),k _ F (IG e s c I (KA (bP.of ag) (Dn.same s _ q) (Dn.same s _ r) (Dn.same s _ u)) ⟨A,O,n⟩)⟩
def qE (T:Txt K mg Ad):Uu P w K mg base Ad.bp "put_stove" "Hold.put_stove" fX (.ref Ad.ib) 4 ["self","room","heat","wood","stay","fails"] (qK K Ad.bp):=by
 refine T.rQ.mok qD (λ n H Q E h=>?_) (λ f Z Z Z s H n Q E c h=>?_)
 . obtain ⟨a,e,m,i,v,f,W,d,F,rfl,Z⟩:=h;rfl
 .
  obtain ⟨a,e,m,i,v,f,W,d,F,rfl,j,y,D,O,U,B,x,r,k⟩:=h;refine ⟨_,(ai (bo (bg (pv 0) T.aG (bV T) .nil c.m (aa (pv 1) af)))
    (ai (br (cB (aw (mj T) c.m (aa (pv 2) (aa (bY (v:=V.ref _) rfl T.jv rfl) af)))) (am cO) aH)
    (ai (br (dM (cB (aw (dh T) c.m (aa (pv 3) (aa (gc rfl T.AA) af))))) (am cO) aH)
    (ai (br (dM (cB (aw (dh T) c.m (aa (pv 4) (aa (gc rfl T.BK) af))))) (am cO) aH)
    (ai (br (dM (cB (aw (dh T) c.m (aa (pv 5) (aa (gc rfl T.yA) af))))) (am cO) aH)
    (am (ip (bJ (aa (pv 2) (aa (pv 3) (aa (pv 4) (aa (pv 5) af))))) (oK (aW (pv 0) rfl) (pv 1) set_list)))))))),?_⟩
  try dsimp only [fD,bj]
  try (refine vV ?_;intro Z Z Z Z Z Z Z)
  obtain ⟨⟨l,pm,pf,ps,C,vm,n,q,G,sW,g,ky,Y,qz,iN,I,n1,n2,n3,L,N,u,J,R⟩,q1,q2,q3,q4⟩:=id j;obtain ⟨p,rfl,A⟩:=D.fr;refine ⟨_,rfl,a,l,_,rfl,g,rfl,_,rfl,a,e,m,i,rfl,j,y,?_⟩;refine ⟨_,rfl,p,Ad.k9,_,_,_,_,rfl,A,T.lU.at _,O.t.mono (by decide),O.b.mono (by decide),nJ,nJ,_,rfl,kz (by lia) ?_⟩;refine ⟨_,rfl,W,9,rfl,_,rfl,iH B ⟨_,rfl,d,3,rfl,_,rfl,iH x ⟨_,rfl,F,3,rfl,_,rfl,iH r ?_⟩⟩⟩;refine ⟨_,rfl,_,rfl,_,rfl,_,rfl,Nz,λ kp M=>?_⟩;have S:=al (o:=.tup [.ref p,.int W,.int d,.int F]) M;have X:q.length=m.bw.length:=by rw [u.length,CT]
  exact ⟨_,rfl,a,_,l,_,_,rfl,S _ _ g,T.aG,T.gD,pD ..,_,rfl,C,q,_,i,rfl,rfl,S _ _ I,jM (by lia),k _ e (Dc (z:=(f,W,d,F)) j S g I (iU (bP.of ag) (bD (Dn.same S _ D) (bD rfl (bD rfl (bD rfl ed))))) O)⟩
def mC (T:Txt K mg Ad):Al P w K mg base Ad.bp "put_stove" 4 ["self","room","heat","wood","stay","fails"] [] (qK K Ad.bp) :=
 (qE T).LF T.qW λ i H=>by
   obtain ⟨U,j,k,rfl,r,R,g⟩:=vals3 H;exact ⟨[],.nil,λ Z Z Z Z Z Z u h=>by obtain ⟨a,b,c,d,e,f,rfl⟩:∃ a b c d e f,u=[a,b,c,d,e,f]:=IW (by simpa using h:u.length=6) λ a b c d e f=>⟨a,b,c,d,e,f,rfl⟩;exact ⟨_,rfl,rfl⟩⟩
def qG (T:Txt K mg Ad):Def P w K mg base "bands_together" 1 ["rows"] (Kv K):=by
 refine T.qV.dg fw λ Z Z Z Z Z H V Q E J h=>?_;obtain ⟨p,X,r,rfl,s,m,I,D,k⟩:=h;refine ⟨_,(ai (cS (i:=1) fw.nd ac)
     (ai (cP abM rfl (bS (pv 0)) (iF (i:=2) fw.nd) (am (cS (i:=1) fw.nd (ax bN (pv 1) (ax dI (aP bz (by rfl) T.eP cR (aa (pv 2) af)) ac)))))
     (am (aI (pv 1))))),?_⟩
 try dsimp only [fD,bj]
 try (refine dR ?_;intro Z Z Z Z)
 have q:X.length=r.length:=by rw [m.length,CT]
 refine ⟨_,rfl,p,rfl,⟨X,s⟩,?_⟩;refine gA (xs:=X) (λ i c a=>a=H/\∃ (x:eO),Bd (1+3 * i) (iP (r.take i))/\c=[some (.ref p),some (.int (iP (r.take i))),x]) ⟨rfl,none,(by show Bd 1 (iP []);exact nJ),rfl⟩ (λ i c a Z e=>by rw [e.1];exact s) ?_ ?_
 .
  rintro Z i x c a t ⟨rfl,y,f,rfl⟩;have g:i<r.length:=by rw [<- q];exact (QQ.mp t).1
  obtain ⟨v,G,b,Y,rfl,W,A⟩:=m.get (i:=i) (d:=wn r[i]) (by rw [aag,aL g];rfl);obtain rfl:x = .ref b:=aaO (t.symm.trans G);have o:=D r[i] (abq g);have B:Y.length=r[i].length:=by rw [A.length,CT]
  refine ⟨_,rfl,_,rfl,_,_,rfl,.inr W,λ n C=>⟨_,_,rfl,rfl,λ u F=>⟨_,_,rfl,rfl,?_,λ z l=>?_⟩⟩⟩
  . exact ⟨_,3,f,(show u.natAbs<2 ^ 3 by lia),(show 1+3 * i+3<=_ by lia)⟩
  .
   have j:z=iP (r.take (i+1)):=by
     rw [l,F,C,B];unfold iP;rw [aeE,aL g,adz];rfl
   refine ⟨rfl,_,?_,by rw [<- j];rfl⟩;rw [<- j,l];exact (f.mul (show u.natAbs<2 ^ 3 by lia)).mono (by lia)
 .
  rintro c a ⟨rfl,y,f,rfl⟩;refine ⟨_,rfl,?_⟩;rw [q,abz];exact k
def ye (T:Txt K mg Ad):Def P w K mg base "is_rising" 2 ["marks"] (Fn K):=by
 refine T.Bm.dg zc λ Z Z Z Z Z H vs Q E hr h=>?_;obtain ⟨p,X,r,rfl,l,g,N,hl,k⟩:=h;refine ⟨_,(am (aI (aP (xD rfl) (by rfl) T.Nd JN (aa (dB ["low","high"] [] [] .nil rfl ge (OD rfl T.NB (aa (pv 0) (aa (d5 Eh (pv 0) (eX ac) fV) af))) (λ Z Z Z Z Z=>(dH (K:=K) (n:=2) rfl rfl (aQ (lK (i:=0)) (aQ (lK (i:=1)) dL)))) (λ Z Z Z Z Z=>cC) (λ Z Z Z Z Z=>(aw (mj T) hr.m (aa (pv 0) (aa (pv 1) af))))) af)))),?_⟩;try dsimp only [fD,bj]
 refine ⟨_,rfl,_,rfl,1,rfl,p,X,rfl,l,λ z zo=>?_⟩;have s:=al (o:=.lst (zu X (some 1) none)) zo;rw [HY] at s |-;have G:X.length=r.length:=by rw [g.length,CT]
 refine ⟨p,z,rfl,⟨X,s.seq l⟩,⟨X.tail,aY.of ag⟩,λ D M=>?_⟩;have Y:min X.length X.tail.length=(List.zipWith ce r r.tail).length:=by rw [agi,afv,afv,G]
 refine Jv (K:=K) (a:=p) (b:=z) (xs:=X) (ys:=X.tail) (λ i A f c=>A4 (aE (upd H z (.lst X.tail)) c) (c D=some (.lst A)) (A=((List.zipWith ce r r.tail).take i).map V.bl) (E2 λ C F=>f=[C,F]))
   ⟨al M,ag,rfl,none,none,rfl⟩ (λ i A f c Z e=>⟨e.1.seq (s.seq l),e.1.seq (aY.of ag)⟩) ?_ ?_
 .
  rintro i x y B A f c hx q vb ⟨S,j,rfl,C,F,rfl⟩;rw [agq] at q;have L:i+1<r.length:=by rw [<- G];exact (QQ.mp q).1
  obtain ⟨u,eu,du⟩:=g.get (i:=i) (d:=ff r[i]) (by rw [aag,aL (by lia)];rfl);obtain rfl:x=u:=aaO (hx.symm.trans eu);obtain ⟨v,ev,dv⟩:=g.get (i:=i+1) (d:=ff r[i+1]) (by rw [aag,aL L];rfl);obtain rfl:y=v:=aaO (q.symm.trans ev);obtain ⟨I,rfl,g1⟩:=du.fr;obtain ⟨J,rfl,g2⟩:=dv.fr;have O:=N r[i] (abq _);have R:=N r[i+1] (abq _);have U:aE c (upd c B (.tup [.ref I,.ref J])):=al vb;have W:=s.trans (S.trans U);have nD:D≠B:=ay j vb;refine ⟨B,_,rfl,bP.of ag,rfl,_,_,rfl,_,_,rfl,rfl,?_⟩;refine ⟨_,rfl,_,rfl,I,J,_,_,_,_,rfl,W.tup g1,W.tup g2,O.t.mono (by decide),O.b.mono (by decide),R.t.mono (by decide),R.b.mono (by decide),?_⟩;have hb:=uT (aL (show i<r.length by lia)) (aL L);refine ⟨by rw [av nD];exact j,?_,aE.put (S.trans U) M,ag,?_,_,_,rfl⟩
  . rw [CT,abw];have:(7:Nat)<sizeLine:=by decide
    rw [<- Y];lia
  . rw [aeE,hb,aap];rfl
 . rintro A f c ⟨S,j,rfl,C,F,rfl⟩;rw [Y,abz] at j;exact ⟨D,_,rfl,aY.of j,k _ (s.trans S)⟩
def jR (T:Txt K mg Ad):jx P w K mg base Ad.bp "put_room" 3 ["self","marks"] [] (Bp K Ad.bp):=by
 refine T.tw.iA ki λ Z Z Z Z Z H l Q E A h=>?_;obtain ⟨a,fp,m,p,X,r,rfl,I,h4,L,G,ho,zI,t,R0,hb,k⟩:=h;refine ⟨_,(ai (br (aJ Kx (fZ (pv 0) T.aG (cN T) .nil A.m) (gc rfl T.zr) (aK _)) (am cO) aH)
     (ai (br (dM (ko jO jO (gc rfl T.wq) (aP bz (by rfl) T.eP cR (aa (pv 1) af)) (gc rfl T.yu))) (am cO) aH)
     (ai (br (dM (cB (aw (ye T) A.m (aa (pv 1) af)))) (am cO) aH)
     (ai (cS (i:=2) ki.nd (ax Kd (aW (pv 0) rfl) (cQ (aa (eJ fj (by rfl) T.nH kh (aa (pv 1) af)) af))))
     (ai (br (aJ BA (aw (qG T) A.m (aa (pv 2) af)) (gc rfl T.yK) (aK _)) (am cO) aH)
     (ai (eV (pv 0) (pv 2) rfl)
     (ai (bo (g8 abx abK abG cz (aW (pv 0) rfl) (aa (bJ (aa (bY (v:=V.ref _) rfl T.jv rfl) (aa (bY (v:=V.ref _) rfl T.jv rfl) (aa (bY (v:=V.ref _) rfl T.jv rfl) af)))) af)))
     (ai (bo (g8 abx abK abG cz (aW (pv 0) rfl) (aa cY af)))
     (am (aI (ax dI (fZ (pv 0) T.aG (cN T) .nil A.m) ac))))))))))),?_⟩
 try dsimp only [fD,bj]
 try (refine IL ?_;intro Z Z Z Z Z Z Z Z Z Z)
 obtain ⟨⟨d,R,pf,S,U,j,l,vt,aD,sW,g,ky,iK,qz,O,M,n1,n2,n3,dm,ds,dt,df,fk⟩,q1,q2,q3,q4⟩:=id I;have Q5:X.length=r.length:=by rw [G.length,CT]
 have lm:j.length=m.rows.length:=by rw [dm.length,CT]
 have ls:l.length=m.bK.length:=by rw [ds.length,CT]
 have lt:vt.length=m.bw.length:=by rw [dt.length,CT]
 have ad:(7:Nat)<sizeLine:=by decide
 refine ⟨_,rfl,a,d,_,rfl,g,rfl,a,fp,m,rfl,I,_,_,rfl,rfl,_,rfl,kz (by lia) ?_⟩;refine ⟨_,rfl,_,_,rfl,.inl L,λ n en=>⟨_,_,rfl,rfl,_,rfl,tP (by lia) ⟨_,_,rfl,rfl,_,rfl,iH (by lia) ?_⟩⟩⟩;refine ⟨_,rfl,p,X,r,rfl,L,G,ho,t,λ y W=>⟨_,rfl,?_⟩⟩;rw [R0];refine dE ?_;refine ⟨_,rfl,a,_,d,_,_,rfl,W _ _ g,T.aG,T.d8,uV ..,_,rfl,p,X,rfl,.inl ⟨W.seq L,λ b J=>⟨GW,λ B q=>?_⟩⟩⟩;have s2:=W.trans (al (o:=.tup X) J);have Y:=s2.trans (al (o:=.lst [.ref b]) q);refine ⟨R,B,j,[.ref b],rfl,rfl,Y _ _ iK,ag,by rw [aa3];lia,λ c C=>?_⟩;have ab:aE (upd y b (.tup X)) _:=(al (o:=.lst [.ref b]) q).trans (al (o:=.lst (j++[.ref b])) C);have s:=Y.trans (al (o:=.lst (j++[.ref b])) C);have dr:Dn K (upd (upd (upd y b (.tup X)) B (.lst [.ref b])) c (.lst (j++[.ref b]))) (wn r) (.ref b):=iU (bP.of (ab _ _ ag)) (bE.same s _ G);refine ⟨_,rfl,c,_,m.rows++[r],rfl,aY.of ag,?_,by rw [aae,aa3];lia,?_,_,_,rfl,rfl,_,rfl,kz (by lia) ?_⟩
 . rw [aap];exact (bE.same s _ dm).snoc dr
 .
  intro x hx;rcases aaY.mp hx with h|h
  . have:=q4.len x h;lia
  . rw [aac.mp h];lia
 refine ⟨_,rfl,_,rfl,a,_,d,_,rfl,s _ _ g,T.aG,T.d8,lt1000 rfl,?_⟩;have u:H c=none:=Y.free C;have ae:c≠a:=(ay g u).symm;refine ⟨_,rfl,a,_,d,_,_,rfl,ag,T.aG,T.fh,kg ..,?_⟩;have SV:=fo O g nofun;have We:=fo M g nofun;have g1:=(av (H:=upd (upd (upd y b (.tup X)) B (.lst [.ref b])) c (.lst (j++[.ref b]))) (o:=.ins Ad.bp d (aN "mark_rows" (.ref c) (uc m R pf S U))) SV).trans (s _ _ O);have g2:=(av (H:=upd (upd (upd y b (.tup X)) B (.lst [.ref b])) c (.lst (j++[.ref b]))) (o:=.ins Ad.bp d (aN "mark_rows" (.ref c) (uc m R pf S U))) We).trans (s _ _ M);refine ⟨.inl ⟨rfl,l,aY.of g1⟩,Nh,λ q0 yU=>?_⟩;have s5:=al (o:=.tup [.ref Ad.k9,.ref Ad.k9,.ref Ad.k9]) yU;refine ⟨S,l,_,rfl,rfl,s5 _ _ g1,by lia,?_⟩;have g3:=(av (o:=.lst (l++[.ref q0])) n3.symm).trans (s5 _ _ g2);have g4:=(av (o:=.lst (l++[.ref q0])) SV.symm).trans (s5 _ _ ag);refine ⟨_,rfl,a,_,d,_,_,rfl,g4,T.aG,T.gD,pD ..,.inl ⟨rfl,vt,aY.of g3⟩,U,vt,_,rfl,rfl,g3,by lia,?_⟩;obtain ⟨xt,D⟩:=Gn (N:=Ad.k9) (r:=r) I s g iK O M u ag dr h4 ho ⟨zI,t⟩ (λ H'=>T.lU.fr (f:=(0,1))) yU;obtain ⟨⟨CK,Hr,zF,tY,vE,Z,Z,Z,Z,Z,F,Z⟩,Z⟩:=id D.at_;refine ⟨_,rfl,a,CK,_,rfl,F,rfl,a,xt,_,rfl,D.at_,_,_,rfl,rfl,λ z ez=>?_⟩;have e:z=(m.rows.length:Int):=by
   rw [ez];show (((m.rows++[r]).length:Nat):Int) - 1=_;rw [aae,aa3];lia
 rw [e];exact k _ xt D
def rX (T:Txt K mg Ad):Uu P w K mg base Ad.bp "__init__" "Hold.__init__" gr (.ref Ad.i4) 2 ["self","most","cap","load"] (D5 K Ad.bp):=by
 refine T.tj.mok rE (λ vs H Q E h=>?_) (λ f Z Z Z s H vs Q E O h=>?_)
 . obtain ⟨x,d,most,eF,load,rfl,Z⟩:=h;rfl
 .
  obtain ⟨x,d,most,eF,load,rfl,X,ky,hm,hc,hl,k⟩:=h;refine ⟨_,(ai (br (dM (cB (aw (dh T) O.m (aa (pv 1) (aa (gc rfl T.vK) af))))) (am cO) aH)
    (ai (br (dM (cB (aw (dh T) O.m (aa (pv 2) (aa (gc rfl T.Dj) af))))) (am cO) aH)
    (ai (br (dM (cB (aw (dh T) O.m (aa (pv 3) (aa (gc rfl T.BU) af))))) (am cO) aH)
    (ai (eV (pv 0) (pv 1) rfl)
    (ai (eV (pv 0) (pv 2) rfl)
    (ai (eV (pv 0) (pv 3) rfl)
    (ai (eV (pv 0) (cQ af) rfl)
    (ai (eV (pv 0) Ig rfl)
    (ai (eV (pv 0) (cQ af) rfl)
    (am (eV (pv 0) (cQ af) rfl))))))))))),?_⟩
  try dsimp only [fD,bj]
  try (refine G5 ?_;intro Z Z Z Z Z Z Z Z Z Z Z)
  refine ⟨_,rfl,most,4,rfl,_,rfl,iH hm ⟨_,rfl,eF,30,rfl,_,rfl,iH hc ⟨_,rfl,load,30,rfl,_,rfl,iH hl ?_⟩⟩⟩;have S:kH K Ad.bp x d H H []:=.start X;refine ⟨_,rfl,_,rfl,x,_,d,_,rfl,S.at_,T.aG,T.kL,lt1000 rfl,?_⟩;have U:=S.put (fs':=aN "most" (.int most) []);refine ⟨_,rfl,_,rfl,x,_,d,_,rfl,U.at_,T.aG,T.jL,lt1000 rfl,?_⟩;have V:=U.put (fs':=aN "cap" (.int eF) (aN "most" (.int most) []));refine ⟨_,rfl,_,rfl,x,_,d,_,rfl,V.at_,T.aG,T.pS,lt1000 rfl,?_⟩;have e:=V.put (fs':=aN "load" (.int load) (aN "cap" (.int eF) (aN "most" (.int most) [])));refine ⟨ach _,λ p g=>?_⟩;have A:=e.new (o:=.lst []) g;refine ⟨_,rfl,x,_,d,_,rfl,A.at_,T.aG,T.d8,lt1000 rfl,λ c i=>?_⟩;have j:=A.put (fs':=aN "mark_rows" (.ref p) (aN "load" (.int load) (aN "cap" (.int eF) (aN "most" (.int most) []))));have r:=j.new (o:=.dT []) i;refine ⟨_,rfl,x,_,d,_,rfl,r.at_,T.aG,T.iy,lt1000 rfl,ach _,λ y a=>?_⟩;have t:=r.put (fs':=aN "flows" (.ref c) (aN "mark_rows" (.ref p) (aN "load" (.int load) (aN "cap" (.int eF) (aN "most" (.int most) [])))));have C:=t.new (o:=.lst []) a;refine ⟨_,rfl,x,_,d,_,rfl,C.at_,T.aG,T.fh,lt1000 rfl,ach _,λ Y F=>?_⟩;have D:=C.put (fs':=aN "skies" (.ref y) (aN "flows" (.ref c) (aN "mark_rows" (.ref p) (aN "load" (.int load) (aN "cap" (.int eF) (aN "most" (.int most) []))))));have B:=D.new (o:=.lst []) F;refine ⟨_,rfl,x,_,d,_,rfl,B.at_,T.aG,T.gD,lt1000 rfl,?_⟩;have z:=B.put (fs':=uc (aq.new most eF load) p c y Y);have h1:=A.keep (u:=.ins Ad.bp d (aN "mark_rows" (.ref p) (aN "load" (.int load) (aN "cap" (.int eF) (aN "most" (.int most) []))))) ag (e.ne g);have l:=r.keep (u:=.ins Ad.bp d (aN "flows" (.ref c) (aN "mark_rows" (.ref p) (aN "load" (.int load) (aN "cap" (.int eF) (aN "most" (.int most) [])))))) (al (o:=.dT []) i _ _ h1) (e.ne g);have I:=r.keep (u:=.ins Ad.bp d (aN "flows" (.ref c) (aN "mark_rows" (.ref p) (aN "load" (.int load) (aN "cap" (.int eF) (aN "most" (.int most) [])))))) ag (j.ne i);have R:=λ b o (h:_=some o) (n:b≠x)=>C.keep (b:=b) (u:=.ins Ad.bp d (aN "skies" (.ref y) (aN "flows" (.ref c) (aN "mark_rows" (.ref p) (aN "load" (.int load) (aN "cap" (.int eF) (aN "most" (.int most) []))))))) h n;have W:=R _ _ (al (o:=.lst []) a _ _ l) (e.ne g);have J:=R _ _ (al (o:=.lst []) a _ _ I) (j.ne i);have q:=R _ _ ag (t.ne a);have v:=λ b o (h:_=some o) (n:b≠x)=>B.keep (b:=b) (u:=.ins Ad.bp d (uc (aq.new most eF load) p c y Y)) h n;have G:=v _ _ (al (o:=.lst []) F _ _ W) (e.ne g);have L:=v _ _ (al (o:=.lst []) F _ _ J) (j.ne i);have M:=v _ _ (al (o:=.lst []) F _ _ q) (t.ne a);have N:=v _ _ ag (D.ne F);exact k _ _ (IK z X ky G L M N (e.none g) (j.none i) (t.none a) (D.none F) (ay l a) (ay W F) (ay q F))
def jh (T:Txt K mg Ad):Al P w K mg base Ad.bp "__init__" 2 ["self","most","cap","load"] [] (D5 K Ad.bp) :=
 (rX T).LF T.tL λ i H=>by
   obtain ⟨U,f,g,rfl,r,R,e⟩:=vals3 H;exact ⟨[],.nil,λ Z Z Z Z Z Z u h=>by obtain ⟨a,b,c,d,rfl⟩:∃ a b c d,u=[a,b,c,d]:=DU (by simpa using h:u.length=4) λ a b c d=>⟨a,b,c,d,rfl⟩;exact ⟨_,rfl,rfl⟩⟩
def fO (T:Txt K mg Ad):Def P w K mg base "has_room" 1 ["bits","room"] BW:=by
 refine T.DB.dg Ab λ Z Z Z Z Z H v Q E b h=>?_;obtain ⟨n,r,rfl,k⟩:=h;refine ⟨_,(am (aI (dW db (ax aX (ax DT (pv 0) (pv 1)) ac) ac (aK _)))),?_⟩;try dsimp only [fD,bj]
 refine ⟨_,rfl,_,rfl,_,_,rfl,rfl,acD _,λ s a=>⟨_,_,rfl,rfl,by decide,λ m Z Z e=>⟨rfl,?_⟩⟩⟩;rw [MK n r a e];exact k
def p8 (T:Txt K mg Ad):Def P w K mg base "with_room" 1 ["bits","room"] zd:=by
 refine T.Ag.dg yW λ Z Z Z Z Z H v Q E c h=>?_;obtain ⟨n,r,rfl,p,k⟩:=h;refine ⟨_,(am (aI (ax Pj (pv 0) (ax Ll ac (pv 1))))),?_⟩;try dsimp only [fD,bj]
 refine ⟨_,rfl,_,rfl,_,_,rfl,rfl,⟨acD _,by lia,by decide⟩,λ s b=>⟨_,_,rfl,rfl,λ m a=>?_⟩⟩;have e:s=((2 ^ r:Nat):Int):=by rw [b,acz,Int.one_mul,Int.natCast_pow];rfl
 rw [a,e,G7];exact k
def lD (T:Txt K mg Ad):Def P w K mg base "members" 2 ["bits"] Dr:=by
 refine T.FI.dg Cw λ Z Z Z Z Z H V Q E o h=>?_;obtain ⟨n,rfl,l,k⟩:=h;refine ⟨_,(am (aI (dB ["room"] ["bits"] [0] (.cons ⟨rfl,rfl,.inl rfl⟩ .nil) rfl ge (cr rfl T.dG (aa (P7 PySem.F.plainAttrs_int PySem.F.slot_int_bit_length PySem.F.type_int_bit_length FT (pv 0)) af)) (λ Z Z Z Z Z=>(lK (i:=0))) (λ Z Z Z Z Z=>(jP (cB (aw (fO T) o.m (aa (pv 1) (aa (pv 0) af)))))) (λ Z Z Z Z Z=>(pv 0))))),?_⟩;try dsimp only [fD,bj]
 refine ⟨_,rfl,rfl,_,rfl,rfl,λ b p=>?_⟩;have j:Builtin.Int.intBits (n:Int)<=61:=ael.mpr (by simpa using l);have L:n<2 ^ Builtin.Int.intBits (n:Int):=by
   have:=ael.mp (aaD (Builtin.Int.intBits (n:Int)));simpa using this
 have g:b.toNat=Builtin.Int.intBits (n:Int):=by lia
 refine ⟨b,rfl,by lia,by lia,λ D f=>?_⟩;refine eS (λ i a d c=>A3 (c=upd H D (.lst a)) (a=((List.range i).filter n.testBit).map ao) (∃ v,d=[v,some (ao n)])) ⟨rfl,rfl,none,rfl⟩ ?_ ?_
 .
  rintro i a d c r ⟨rfl,rfl,v,rfl⟩;refine ⟨_,rfl,_,rfl,n,i,(by show [_,_]=[_,_];rw [aca];rfl),_,rfl,?_⟩;have e:((List.range (i+1)).filter n.testBit).map ao=((List.range i).filter n.testBit).map ao++(if n.testBit i=true then [ao i] else []):=by
    rw [acb,adj,aap];by_cases q:n.testBit i=true<;>simp [q]
  by_cases q:n.testBit i=true
  .
   rw [q];refine fE ⟨_,rfl,ag,?_,?_,?_,_,rfl⟩
   . have:=acs n.testBit (List.range i);rw [aax] at this;rw [CT];exact aO (by lia)
   . rw [nl]
   . rw [e,abE q,aca];rfl
  . rw [Bool.not_eq_true] at q;rw [q];refine dE ⟨rfl,?_,_,rfl⟩;rw [e,q];simp
 . rintro a d c ⟨rfl,rfl,v,rfl⟩;refine k D _ f (al f) ?_;rw [ag,g,Bit.DC L j]
def u9 (T:Txt K mg Ad):Def P w K mg base "subsets" 3 ["bits"] Cj:=by
 refine T.GB.dg kJ λ _ _ _ _ _ H vs Q E F h=>?_;obtain ⟨n,rfl,X,h8,k⟩:=h;refine ⟨_,(ai (cS (i:=1) kJ.nd (cQ (aa ac af)))
     (ai (cP abM rfl (bS (aw (lD T) F.m (aa (pv 0) af))) (iF (i:=2) kJ.nd) (am (cS (i:=1) kJ.nd (ax Kd (pv 1) (dB ["part"] ["room"] [2] (.cons ⟨rfl,rfl,.inl rfl⟩ .nil) rfl ge (bS (pv 1)) (λ _ _ _ _ _=>(lK (i:=0))) (λ _ _ _ _ _=>cC) (λ _ _ _ _ _=>(aw (p8 T) F.m (aa (pv 0) (aa (pv 1) af)))))))))
     (am (aI (pv 1))))),?_⟩
 try dsimp only [fD,bj]
 try (refine dR ?_;intro _ _ _ _)
 refine ⟨(by show 1<=sizeLine;decide),λ p0 z=>⟨_,rfl,n,rfl,X,λ I M iK L G=>⟨I,rfl,⟨_,aY.of G⟩,?_⟩⟩⟩;have S:=(al (o:=.lst [.int 0]) z).trans L;refine kr (K:=K) (a:=I) (xs:=(Bit.rooms n).map ao) (λ i t d=>aE M d/\E2 λ (b:ak) (v:eO)=>A3 (H b=none) (t=[some (ao n),some (.ref b),v]) (d b=some (.lst ((Bit.parts ((Bit.rooms n).take i)).map ao))))
   ⟨aE.refl _,p0,none,z,rfl,L _ _ ag⟩ (λ i t d _ ⟨s,_⟩=>aY.of (s _ _ G)) ?_ ?_
 .
  rintro i x t d Y ⟨s,b,v,V,rfl,f⟩;obtain ⟨r,u,rfl⟩:=dC Y;have W:i<(Bit.rooms n).length:=(QQ.mp u).1;have O:r<61:=(Bit.gB.mp (aal u)).1;have R:(Bit.parts ((Bit.rooms n).take i)).length<=256:=by
    rw [(L5 n i).len,abw];exact abk (aci (by decide) (by lia:min i (Bit.rooms n).length<=8)) (by decide)
  have next:Bit.parts ((Bit.rooms n).take (i+1))=Bit.parts ((Bit.rooms n).take i)++(Bit.parts ((Bit.rooms n).take i)).map (· ||| 2 ^ r):=by
    rw [bQ u,DG]
  generalize Bit.parts ((Bit.rooms n).take i)=g at *;refine ⟨_,rfl,_,rfl,b,rfl,⟨_,aY.of f⟩,λ D B=>?_⟩;have N:b≠D:=ay f B;refine cG (K:=K) (a:=b) (xs:=g.map ao) (λ j A c l=>A3 (l=upd d D (.lst A)) (A=(g.take j).map (λ p=>ao (p ||| 2 ^ r))) (∃ v,c=[v,some (ao r)])) ⟨rfl,rfl,none,rfl⟩
    (λ j A c l _ ⟨e,_,_⟩=>by subst e;exact aY.of (by rw [av N];exact f)) ?_ ?_
  .
   rintro j y A c l hy ⟨rfl,rfl,v2,rfl⟩;obtain ⟨p,U,rfl⟩:=dC hy;refine ⟨_,rfl,_,rfl,p,r,rfl,by lia,ag,?_,?_,?_,_,rfl⟩
   . rw [CT,abw];exact aO (by lia)
   . rw [nl]
   . rw [bQ U,aap];rfl
  .
   rintro A c l ⟨rfl,rfl,v2,rfl⟩;rw [CT,abz];refine ⟨b,D,_,_,rfl,rfl,(by rw [av N];exact f),ag,?_,λ q C=>?_⟩
   . rw [CT,CT];exact adn (aO (by lia))
   . have J:=al (o:=.lst (g.map λ p=>ao (p ||| 2 ^ r))) B;have s3:=al (o:=.lst (g.map ao++g.map λ p=>ao (p ||| 2 ^ r))) C;refine ⟨s.trans (J.trans s3),q,_,S.free (s.free (J.free C)),rfl,?_⟩;rw [ag,next,aap,adX];rfl
 . rintro t d ⟨s,b,v,V,rfl,f⟩;rw [CT,abz] at f;exact ⟨_,rfl,k b d V (S.trans s) f⟩
def sD (T:Txt K mg Ad):Def P w K mg base "how_many" 3 ["bits"] AR:=by
 refine T.CQ.dg Bh λ Z Z Z Z Z H v Q E c h=>?_;obtain ⟨n,rfl,b,k⟩:=h;refine ⟨_,(am (aI (aP bz (by rfl) T.eP cR (aa (aw (lD T) c.m (aa (pv 0) af)) af)))),?_⟩;try dsimp only [fD,bj]
 refine ⟨_,rfl,n,rfl,b,λ p a i s d=>⟨p,_,rfl,.inl (aY.of d),λ y e=>?_⟩⟩;rw [CT] at e;rw [e];exact k a s
def oR (T:Txt K mg Ad):Def P w K mg base "bits_of" 2 ["rooms"] (FK K):=by
 refine T.Ga.dg kY λ Z Z Z Z Z H V Q E n h=>?_;obtain ⟨p,l,rfl,f,j,k⟩:=h;refine ⟨_,(ai (cS (i:=1) kY.nd ac)
     (ai (cP abM rfl (bS (pv 0)) (iF (i:=2) kY.nd) (am (cS (i:=1) kY.nd (aw (p8 T) n.m (aa (pv 1) (aa (pv 2) af))))))
     (am (aI (pv 1))))),?_⟩
 try dsimp only [fD,bj]
 try (refine dR ?_;intro Z Z Z Z)
 refine ⟨_,rfl,p,rfl,⟨_,f⟩,?_⟩;refine kr (K:=K) (a:=p) (xs:=l.map ao) (λ i c b=>b=H/\∃ v,c=[some (.ref p),some (ao (Bit.sumOf (l.take i))),v]) ⟨rfl,none,rfl⟩ (λ i c b Z e=>by rw [e.1];exact f) ?_ ?_
 .
  rintro i x c b o ⟨rfl,v,rfl⟩;obtain ⟨r,d,rfl⟩:=dC o;have g:Bit.sumOf (l.take (i+1))=Bit.sumOf (l.take i) ||| 2 ^ r:=by
    rw [bQ d];unfold Bit.sumOf;rw [adz];rfl
  exact ⟨_,rfl,_,rfl,_,r,rfl,j r (aal d),rfl,_,by rw [g];rfl⟩
 . rintro c b ⟨rfl,v,rfl⟩;rw [CT,abz];exact ⟨_,rfl,k⟩
def p9 {i j:Int}:decide (V.int i=V.int j)=decide (i=j):=aeS.mpr cx
def vW (T:Txt K mg Ad):Def P w K mg base "fits_stove" 1 ["stove","fired","wait","failed"] (J0 K):=by
 refine T.zk.dg jZ λ _ _ _ _ _ H y Q E t h=>?_;obtain ⟨v,z,f,W,b,rfl,d,k⟩:=h;refine ⟨_,(ai (br (aJ pj (pv 0) cY (aK _)) (am (aI (kU (uK (pv 1)) (kU (dW db (pv 2) ac (aK _)) (kP (dW db (pv 3) ac (aK _))))))) aH)
     (ai (ip (d5 nI (pv 0) (eX ac) fV) (dH (K:=K) (n:=2) rfl rfl (aQ (iF (i:=4) jZ.nd) (aQ (iF (i:=5) jZ.nd) dL))))
     (ai (br (PW.pt (sV (dM (ko jO jO ac (pv 2) (pv 4))) (sj (dM (ko jO jO ac (pv 3) (pv 5)))))) (am (aI gK)) aH)
     (am (aI (Nq (dW db (pv 3) ac (aK _)) (kP (kU (uK (pv 1)) (kP (dW db (pv 2) ac (aK _))))))))))),?_⟩
 try dsimp only [fD,bj]
 try (refine fL ?_;intro _ _ _ _ _)
 cases z with
 | none =>
   have d:v = .cT:=d;subst d;have F:∀ x:Bool,x=(!f && (decide (W=0) && decide (b=0)))->Q (.bl x) H:=λ x e=>by rw [e];exact k H (aE.refl _)
   refine ⟨_,rfl,rfl,_,rfl,tP rfl ⟨_,rfl,_,rfl,_,rfl,?_⟩⟩;cases f with
   | true=>exact dE (F _ rfl)
   | false =>
     refine fE ⟨_,rfl,rfl,_,rfl,gi (λ h=>⟨_,rfl,rfl,F _ ?_⟩) (λ h=>F _ ?_)⟩
     . rw [p9,aaM (cx.mp h)];rfl
     . rw [aaL (λ q=>h (cx.mpr q))];rfl
 | some z =>
   obtain ⟨p,u,rfl,m,_⟩:=d.bM;refine ⟨_,rfl,rfl,_,rfl,kz nofun ?_⟩;refine ⟨_,rfl,2,rfl,p,_,2,rfl,m,rfl,rfl,by decide,(by show 2<=4;decide),λ q r=>?_⟩;refine ⟨q,_,rfl,bP.of ag,rfl,_,_,rfl,_,_,rfl,rfl,?_⟩;have s:=al (o:=.tup [V.int z.2.2.1,V.int z.2.2.2]) r;have F:∀ x:Bool,x=((decide (0<=W) && decide (W<=z.2.2.1)) && ((decide (0<=b) && decide (b<=z.2.2.2)) && (decide (b=0) || (!f && decide (W=0)))))->Q (.bl x) (upd H q (.tup [V.int z.2.2.1,V.int z.2.2.2])):=λ x e=>by rw [e];exact k _ s
   refine ⟨_,rfl,_,_,rfl,rfl,_,rfl,?_⟩;by_cases a:0<=W
   case neg=>exact kz a ⟨_,rfl,fE (F _ (by rw [aaL a];rfl))⟩
   refine tP a ⟨_,rfl,_,_,rfl,rfl,_,rfl,pW (λ g=>F _ (by rw [aaL g,adv];rfl)) (λ g=>?_)⟩;refine ⟨_,rfl,_,_,rfl,rfl,_,rfl,?_⟩;by_cases c:0<=b
   case neg=>exact kz c ⟨_,rfl,fE (F _ (by rw [aaL c,adU,adU,adv]))⟩
   refine tP c ⟨_,rfl,_,_,rfl,rfl,_,rfl,pW (λ j=>F _ (by rw [aaL j,adv,adU,adv])) (λ j=>?_)⟩;rw [aaM a,aaM g,aaM c,aaM j] at F;refine ⟨_,rfl,rfl,_,rfl,gi (λ l=>F _ ?_) (λ l=>?_)⟩
   . rw [aaM (cx.mp l)];rfl
   rw [aaL (λ q=>l (cx.mpr q))] at F;refine ⟨_,rfl,_,rfl,_,rfl,?_⟩;cases f with
   | true=>exact dE (F _ rfl)
   | false=>exact fE ⟨_,rfl,rfl,F _ (by rw [p9];rfl)⟩
def wM (T:Txt K mg Ad):Def P w K mg base "fits_room" 5 ["hold","state","room"] (Io K Ad.bp):=by
 refine T.Bt.dg f6 λ _ _ _ _ _ H vs Q E c h=>?_;obtain ⟨a,F,m,p,g,i,rfl,q,M,U,W,V,L,k⟩:=h;refine ⟨_,(ai (ip (pv 1) (dH (K:=K) (n:=5) rfl rfl (aQ (iF (i:=3) f6.nd) (aQ (iF (i:=4) f6.nd) (aQ (iF (i:=5) f6.nd) (aQ (iF (i:=6) f6.nd) (aQ (iF (i:=7) f6.nd) dL)))))))
     (ai (br (dM (ko jO lH ac (aF aB (pv 3) (pv 2)) (ax dI (aP bz (by rfl) T.eP cR (aa (bg (pv 0) T.aG (fM T) .nil c.m (aa (pv 2) af)) af)) ac))) (am (aI gK)) aH)
     (am (aI (aw (vW T) c.m (aa (bg (pv 0) T.aG (eK T) .nil c.m (aa (pv 2) af)) (aa (aw (fO T) c.m (aa (pv 4) (aa (pv 2) af))) (aa (aF aB (pv 5) (pv 2)) (aa (aF aB (pv 6) (pv 2)) af))))))))),?_⟩
 try dsimp only [fD,bj]
 try (refine dR ?_;intro _ _ _ _)
 obtain ⟨pb,pw,pf,B,C,I,G⟩:=id M;obtain ⟨⟨D,_,_,_,_,_,_,_,_,_,r,_⟩,q1,q2,q3,q4⟩:=id q;have Y:=aL L;have t:m.rows.getD i []=m.rows[i]:=by rw [aab,Y];rfl
 have N:=nF (m:=m) (i:=i) (by lia);have d:m.nb i=(m.rows[i].length:Int) - 1:=by unfold aq.nb;rw [t]
 refine ⟨_,rfl,p,_,rfl,B,rfl,_,_,rfl,_,_,rfl,_,_,rfl,_,_,rfl,_,_,rfl,rfl,?_⟩;refine ⟨_,rfl,_,rfl,_,_,_,_,rfl,rfl,.inr C,uU (by lia),_,_,rfl,rfl,_,rfl,?_⟩;have f:∀ x:Bool,x=nY (m.nb i) (m.sv i) (g.bL.getD i 0) (g.bx.testBit i) (g.cI.getD i 0) (g.failed.getD i 0)->∀ H',aE H H'->Q (.bl x) H':=λ x e H' S=>by rw [e];exact k H' S
 unfold nY at f;by_cases b:0<=g.bL.getD i 0
 case neg=>exact kz b ⟨_,rfl,fE (f _ (by rw [aaL b];rfl) _ (aE.refl _))⟩
 refine tP b ?_;refine ⟨_,rfl,a,D,_,rfl,r,rfl,_,rfl,a,F,m,i,_,rfl,q,Y,λ R X O A=>⟨R,X,rfl,.inl (aY.of ag),λ y J=>⟨_,_,rfl,rfl,λ z j=>⟨_,_,rfl,rfl,_,rfl,?_⟩⟩⟩⟩;have j:z=m.nb i:=by rw [j,J,d,A.length,CT]
 subst j;have s:=al (o:=.lst X) O;refine pW (λ l=>f _ (by rw [aaL l,adv];rfl) _ s) (λ l=>?_);refine ⟨_,rfl,a,D,_,rfl,s _ _ r,rfl,_,rfl,a,F,m,i,_,rfl,q.same s,N,λ v u=>?_⟩;refine ⟨_,rfl,_,rfl,g.bx,i,rfl,?_⟩;refine ⟨_,rfl,_,rfl,_,_,_,_,rfl,rfl,.inr (s.tup I),uU (by lia),?_⟩;refine ⟨_,rfl,_,rfl,_,_,_,_,rfl,rfl,.inr (s.tup G),uU (by lia),?_⟩;exact ⟨v,m.lN i,_,_,_,rfl,u,λ H' S=>f _ (by rw [aaM b,aaM l];rfl) H' (s.trans S)⟩
def pJ (T:Txt K mg Ad):Def P w K mg base "is_state" 6 ["hold","state"] (Qp K Ad.bp):=by
 refine T.Dy.dg fJ λ _ _ _ _ _ H vs Q E J h=>?_;obtain ⟨a,N,m,p,g,rfl,I,R,t,k⟩:=h;refine ⟨_,(ai (ip (pv 1) (dH (K:=K) (n:=5) rfl rfl (aQ (iF (i:=2) fJ.nd) (aQ (iF (i:=3) fJ.nd) (aQ (iF (i:=4) fJ.nd) (aQ (iF (i:=5) fJ.nd) (aQ (iF (i:=6) fJ.nd) dL)))))))
     (ai (cS (i:=7) fJ.nd (fZ (pv 0) T.aG (cN T) .nil J.m))
     (ai (br (PW.pt (sV (aJ vF (aP bz (by rfl) T.eP cR (aa (pv 2) af)) (pv 7) (aK _)) (sV (aJ vF (aP bz (by rfl) T.eP cR (aa (pv 4) af)) (pv 7) (aK _)) (sj (aJ vF (aP bz (by rfl) T.eP cR (aa (pv 5) af)) (pv 7) (aK _)))))) (am (aI gK)) aH)
     (ai (br (PW.pt (sV (aJ vF (ax DT (pv 3) (pv 7)) ac (aK _)) (sj (aJ BA (aw (sD T) J.m (aa (pv 3) af)) (aW (pv 0) rfl) (aK _))))) (am (aI gK)) aH)
     (ai (br (dM (ko jO jO ac (pv 6) (aW (pv 0) rfl))) (am (aI gK)) aH)
     (am (aI (aP (xD rfl) (by rfl) T.Nd JN (aa (dB ["room"] ["hold","state"] [0,1] (.cons ⟨rfl,rfl,.inl rfl⟩ (.cons ⟨rfl,rfl,.inl rfl⟩ .nil)) rfl ge (cr rfl T.dG (aa (pv 7) af)) (λ _ _ _ _ _=>(lK (i:=0))) (λ _ _ _ _ _=>cC) (λ _ _ _ _ _=>(aw (wM T) J.m (aa (pv 1) (aa (pv 2) (aa (pv 0) af)))))) af))))))))),?_⟩
 try dsimp only [fD,bj]
 try (refine vV ?_;intro _ _ _ _ _ _ _)
 obtain ⟨pb,pw,pf,Y,eb,ew,ef⟩:=id R;obtain ⟨⟨B,pm,LP,My,Mz,vm,vs,vt,aD,_,G,_⟩,q1,q2,q3,q4⟩:=id I;have f:∀ x:Bool,x=xO m g->∀ H',aE H H'->Q (.bl x) H':=λ x e H' s'=>by rw [e];exact k H' s'
 unfold xO W9 at f;refine ⟨_,rfl,p,_,rfl,Y,rfl,_,_,rfl,_,_,rfl,_,_,rfl,_,_,rfl,_,_,rfl,rfl,?_⟩;refine ⟨_,rfl,a,B,_,rfl,G,rfl,a,N,m,rfl,I,?_⟩;refine ⟨_,rfl,pb,_,rfl,.inr eb,λ y b=>⟨_,rfl,rfl,_,rfl,?_⟩⟩;rw [CT] at b;by_cases c:g.bL.length=m.rows.length
 case neg=>exact pW (λ _=>f _ (by rw [aaL c];rfl) _ (aE.refl _)) (λ q=>absurd (by have:=cx.mp q;lia) c)
 refine iH (by rw [b,c];rfl) ?_;refine ⟨_,rfl,pw,_,rfl,.inr ew,λ y b=>⟨_,rfl,rfl,_,rfl,?_⟩⟩;rw [CT] at b;by_cases C:g.cI.length=m.rows.length
 case neg=>exact pW (λ _=>f _ (by rw [aaL C,adU,adv];rfl) _ (aE.refl _)) (λ q=>absurd (by have:=cx.mp q;lia) C)
 refine iH (by rw [b,C];rfl) ?_;refine ⟨_,rfl,pf,_,rfl,.inr ef,λ y b=>⟨_,rfl,rfl,_,rfl,?_⟩⟩;rw [CT] at b;by_cases d:g.failed.length=m.rows.length
 case neg=>exact pW (λ _=>f _ (by rw [aaL d,adv,adv];rfl) _ (aE.refl _)) (λ q=>absurd (by have:=cx.mp q;lia) d)
 refine iH (by rw [b,d];rfl) ?_;rw [aaM c,aaM C,aaM d] at f;refine ⟨_,rfl,_,rfl,_,_,rfl,rfl,acD _,λ s F=>⟨rfl,_,rfl,?_⟩⟩;rw [acz] at F;by_cases o:g.bx<2 ^ m.rows.length
 case neg =>
   refine pW (λ _=>f _ (by rw [aaL o];rfl) _ (aE.refl _)) (λ q=>absurd (cx.mp q) ?_);rw [F];intro z;refine o ?_;have hp:(0:Int)<2 ^ m.rows.length:=Int.pow_pos (by decide);have e:=Int.emod_def (g.bx:Int) (2 ^ m.rows.length);have l:=aeA (g.bx:Int) hp;rw [e,z,Int.mul_zero,Int.sub_zero] at l
   exact_mod_cast l
 refine iH ?_ ?_
 . rw [F];have:((g.bx:Nat):Int) / 2 ^ m.rows.length=0:=Int.ediv_eq_zero_of_lt (acD _) (by exact_mod_cast o);rw [this]
 rw [aaM o] at f;refine ⟨_,rfl,g.bx,rfl,t,λ W S=>⟨_,rfl,a,_,B,_,_,rfl,S _ _ G,T.aG,T.kL,Aw ..,_,_,rfl,rfl,_,rfl,gi (λ X=>?_) (λ X=>?_)⟩⟩
 . exact f _ (by rw [aaL (by lia:¬ ((Bit.rooms g.bx).length:Int)<=m.most)];rfl) _ S
 rw [aaM (by lia:((Bit.rooms g.bx).length:Int)<=m.most)] at f;refine ⟨_,rfl,_,_,rfl,rfl,_,rfl,?_⟩;by_cases r:0<=g.heap
 case neg=>exact kz r ⟨_,rfl,fE (f _ (by rw [aaL r];rfl) _ S)⟩
 refine tP r ⟨_,rfl,a,_,B,_,_,rfl,S _ _ G,T.aG,T.jL,yg ..,_,_,rfl,rfl,_,rfl,pW (λ u=>f _ (by rw [aaL u,adv];rfl) _ S) (λ u=>?_)⟩;rw [aaM r,aaM u] at f;refine ⟨_,rfl,_,rfl,by lia,by lia,λ D O=>?_⟩;refine eS (lo:=0) (n:=m.rows.length) (λ i A M H'=>A4 (aE W H') (H' D=some (.lst A)) (A=((List.range i).map λ i=>nY (m.nb i) (m.sv i) (g.bL.getD i 0) (g.bx.testBit i) (g.cI.getD i 0) (g.failed.getD i 0)).map V.bl) (∃ v,M=[v,some (.ref a),some (.ref p)])) ⟨al O,ag,rfl,none,rfl⟩ ?_ ?_
 . rintro i A M H' hi ⟨j,L,rfl,v,rfl⟩;refine ⟨_,rfl,_,rfl,_,rfl,a,N,m,p,g,i,(by rw [aca];rfl),I.same (S.trans j),R.same (S.trans j),c,C,d,hi,λ H3 U=>⟨U _ _ L,aO (by rw [CT,CT,aax];lia),(j.trans U).put O,ag,?_,_,rfl⟩⟩;rw [acb,aap,aap];rfl
 .
  rintro A M H' ⟨j,L,rfl,v,rfl⟩;refine ⟨D,_,rfl,aY.of L,f _ ?_ H' (S.trans j)⟩;rw [List.all_map];rfl
def Bb (T:Txt K mg Ad):Def P w K mg base "is_state" 6 ["hold","state"] (Ay K Ad.bp) :=
 let ⟨f,F,a,b,c,d⟩:=pJ (P:=P) (w:=w) (base:=base) T
 ⟨f,F,a,b,c,d.imp λ Z Z Z Z ⟨a,g,m,p,s,e,h,i,ok,k⟩=>⟨a,g,m,p,.of s,e,h,i.gs,aba ok.bx (aci (by decide) (by have:=h.mx;lia)),λ H S=>by rw [ok.xO];exact k H S⟩⟩
def ku (T:Txt K mg Ad):Def P w K mg base "look_at_state" 7 ["hold","state"] (wx K Ad.bp):=by
 refine T.lF.dg kn λ Z Z Z Z Z H v Q E d h=>?_;obtain ⟨a,f,m,p,S,rfl,c,e,ok,k⟩:=h;refine ⟨_,(am (br (dM (cB (aw (Bb T) d.m (aa (pv 0) (aa (pv 1) af))))) (am cO) aH)),?_⟩;try dsimp only [fD,bj]
 exact ⟨_,rfl,_,rfl,a,f,m,p,S,rfl,c,e,ok,λ b s=>⟨_,rfl,dE (k b s)⟩⟩
def ou (T:Txt K mg Ad):Def P w K mg base "with_stove" 5 ["hold"] (wC K Ad.bp):=by
 refine T.yq.dg we λ Z Z Z Z Z H V Q E c h=>?_;obtain ⟨a,F,m,rfl,f,k⟩:=h;refine ⟨_,(am (aI (aw (oR T) c.m (aa (dB ["room"] ["hold"] [0] (.cons ⟨rfl,rfl,.inl rfl⟩ .nil) rfl ge (cr rfl T.dG (aa (fZ (pv 0) T.aG (cN T) .nil c.m) af)) (λ Z Z Z Z Z=>(lK (i:=0))) (λ Z Z Z Z Z=>(jP (aJ jJ (bg (pv 1) T.aG (eK T) .nil c.m (aa (pv 0) af)) cY (aK _)))) (λ Z Z Z Z Z=>(pv 0))) af)))),?_⟩;try dsimp only [fD,bj]
 obtain ⟨⟨l,I,y,M,B,U,V,W,C,Z,u,Z⟩,N,O,R,S⟩:=id f;refine ⟨_,rfl,a,l,_,rfl,u,rfl,a,F,m,rfl,f,_,rfl,by lia,by lia,λ D t=>?_⟩;refine eS (lo:=0) (n:=m.rows.length) (λ i A j b=>A4 (aE H b) (b D=some (.lst A)) (A=((List.range i).filter m.has).map ao) (∃ v,j=[v,some (.ref a)])) ⟨al t,ag,rfl,none,rfl⟩ ?_ ?_
 .
  rintro i A j b G ⟨s,o,rfl,v,rfl⟩;have x:=nF (m:=m) (i:=i) (by lia);have p:((List.range (i+1)).filter m.has).map ao=((List.range i).filter m.has).map ao++(if m.has i=true then [ao i] else []):=by
    rw [acb,adj,aap];by_cases q:m.has i=true<;>simp [q]
  have L:=acs m.has (List.range i);rw [aax] at L;refine ⟨_,rfl,a,l,_,rfl,s _ _ u,rfl,_,rfl,a,F,m,i,_,(by rw [aca];rfl),f.same s,x,λ v d=>⟨rfl,_,rfl,?_⟩⟩;cases e:m.lN i with
  | none =>
    rw [e] at d;have d:v = .cT:=d;have g:m.has i=false:=by unfold aq.has;rw [e];rfl
    refine iH d ⟨s,o,?_,_,rfl⟩;rw [p,g];simp
  | some z =>
    rw [e] at d;obtain ⟨J,Z,rfl,Z⟩:=d.bM;have g:m.has i=true:=by unfold aq.has;rw [e];rfl
    refine R1 nofun ⟨_,rfl,o,aO (by rw [CT];lia),s.put t,ag,?_,_,rfl⟩;rw [p,g,aca];rfl
 . rintro A j b ⟨s,o,rfl,v,rfl⟩;exact ⟨D,(List.range m.rows.length).filter m.has,rfl,aY.of o,λ r c=>by have:=aa4.mp (acq.mp c).1;lia,k b s⟩
def uD (T:Txt K mg Ad):Def P w K mg base "wood_of" 6 ["hold","bits"] (Ct K Ad.bp):=by
 refine T.G1.dg Cz λ Z Z Z Z Z H vs Q E n h=>?_;obtain ⟨a,F,m,b,rfl,l,k⟩:=h;refine ⟨_,(am (aI (aP (GF rfl) (by rfl) T.VB Pz (aa (dB ["room"] ["hold"] [0] (.cons ⟨rfl,rfl,.inl rfl⟩ .nil) rfl ge (bS (aw (lD T) n.m (aa (ax nK (pv 1) (aw (ou T) n.m (aa (pv 0) af))) af))) (λ Z Z Z Z Z=>(lK (i:=0))) (λ Z Z Z Z Z=>cC) (λ Z Z Z Z Z=>(aF (ix (K:=K) rfl) (bg (pv 1) T.aG (eK T) .nil n.m (aa (pv 0) af)) ac))) af)))),?_⟩;try dsimp only [fD,bj]
 obtain ⟨⟨L,pm,LP,My,Mz,vm,vs,vt,aD,Z,N,Z⟩,q1,q2,W,q4⟩:=id l;refine ⟨_,rfl,_,rfl,a,F,m,rfl,l,λ H1 X=>⟨_,_,rfl,rfl,λ y M=>⟨b &&& m.ws,(by rw [M,o9];rfl),?_,λ p J gT Y o=>⟨p,rfl,⟨_,aY.of o⟩,λ D g=>?_⟩⟩⟩⟩
 . exact abj aeX (ae4 (vk W) (by decide))
 have S:=X.trans Y;have lr:=xH (b &&& m.ws);have nD:p≠D:=ay o g;refine cG (K:=K) (a:=p) (xs:=(Bit.rooms (b &&& m.ws)).map ao) (λ j A f c=>A4 (aE J c) (c D=some (.lst A)) (A=(((Bit.rooms (b &&& m.ws)).take j).map m.wd).map V.int) (∃ v,f=[v,some (.ref a)]))
   ⟨al g,ag,rfl,none,rfl⟩ (λ j A f c Z e=>aY.of (e.1 _ _ o)) ?_ ?_
 .
  rintro j x A f c O ⟨s,I,rfl,v,rfl⟩;obtain ⟨r,d,rfl⟩:=dC O;have B:=(Bit.gB.mp (aal d)).2;rw [adm,aq.ws,Ord.jk,abF,abF,acu] at B;obtain ⟨Z,PJ,C⟩:=B;obtain ⟨z,t⟩:=adq.mp C;have R:=nF (m:=m) (i:=r) (by lia);have hj:j<(Bit.rooms (b &&& m.ws)).length:=(QQ.mp d).1;refine ⟨_,rfl,a,L,_,rfl,(S.trans s) _ _ N,rfl,_,rfl,a,F,m,r,_,rfl,l.same (S.trans s),R,λ u q=>?_⟩;rw [t] at q;obtain ⟨U,v1,rfl,G,Z⟩:=q.bM;refine ⟨U,_,_,_,rfl,rfl,.inr G,rfl,I,aO (by rw [CT,CT,abw];lia),s.put g,ag,?_,_,rfl⟩;rw [bQ d,aap,aap];have:m.wd r=z.2.1:=by unfold aq.wd;rw [t];rfl
  show _=_++[V.int (m.wd r)]
  rw [this]
 .
  rintro A f c ⟨s,I,rfl,v,rfl⟩;rw [CT,abz] at I;refine ⟨D,_,rfl,aY.of I,λ r d=>?_⟩;rw [d];exact k c (S.trans s)
def yQ (T:Txt K mg Ad):Def P w K mg base "must_stay" 3 ["state"] (yl K):=by
 refine T.zX.dg zb λ Z Z Z Z Z H X Q E f h=>?_;obtain ⟨p,s,rfl,C,N,k⟩:=h;refine ⟨_,(am (aI (aw (oR T) f.m (aa (dB ["room","wait"] [] [] .nil rfl ge (Ou rfl T.dS (aa (aF aB (pv 0) ac) af)) (λ Z Z Z Z Z=>(dH (K:=K) (n:=2) rfl rfl (aQ (lK (i:=0)) (aQ (lK (i:=1)) dL)))) (λ Z Z Z Z Z=>(jP (aJ BA (pv 1) ac (aK _)))) (λ Z Z Z Z Z=>(pv 0))) af)))),?_⟩;try dsimp only [fD,bj]
 obtain ⟨R,y,U,B,G,t,J⟩:=id C;refine ⟨_,rfl,p,_,_,_,rfl,rfl,.inr B,rfl,y,rfl,⟨_,t⟩,λ D u=>?_⟩;refine kO (sq:=bP K) (a:=y) (xs:=s.cI.map ao) (λ i A d b=>A4 (aE H b) (b D=some (.lst A)) (A=((List.range i).filter s.wt).map ao) (E2 λ v V=>d=[v,V]))
   ⟨al u,ag,rfl,none,none,rfl⟩ (λ i A d b Z e=>e.1.tup t) ?_ ?_
 .
  rintro i x j A d b F z ⟨S,o,rfl,v,V,rfl⟩;obtain ⟨W,c,rfl⟩:=dC F;have M:i<s.cI.length:=(QQ.mp c).1;have q:gN s.cI i=W:=by unfold gN;rw [c];rfl
  have l:aE b (upd b j (.tup [ao i,ao W])):=al z;have O:D≠j:=ay o z;have I:=l _ _ o;have L:=acs s.wt (List.range i);rw [aax] at L;refine ⟨j,_,rfl,bP.of ag,rfl,_,_,rfl,_,_,rfl,rfl,?_⟩;refine ⟨_,rfl,_,_,rfl,rfl,_,rfl,gi (λ h=>?_) (λ h=>?_)⟩
  . have g:s.wt i=true:=by unfold cg.wt;rw [q];exact aaM (by lia)
    refine ⟨_,rfl,I,aO (by rw [CT];lia),(S.trans l).put u,ag,?_,_,_,rfl⟩;rw [acb,adj,aap];simp [g]
  . have g:s.wt i=false:=by unfold cg.wt;rw [q];exact aaL (by lia)
    refine ⟨S.trans l,I,?_,_,_,rfl⟩;rw [acb,adj,aap];simp [g]
 . rintro A d b ⟨S,o,rfl,v,V,rfl⟩;rw [CT] at o;exact ⟨D,(List.range s.cI.length).filter s.wt,rfl,aY.of o,λ r f=>by have:=aa4.mp (acq.mp f).1;lia,k b S⟩
def zW (T:Txt K mg Ad):Def P w K mg base "can_burn" 7 ["hold","order","heap"] (BF K Ad.bp):=by
 refine T.Cf.dg Bw λ Z Z Z Z Z H v Q E d h=>?_;obtain ⟨a,F,m,o,b,rfl,c,j,k⟩:=h;refine ⟨_,(am (aI (kU (dW jO (aw (sD T) d.m (aa (pv 1) af)) (aW (pv 0) rfl) (aK _)) (kP (dW jO (aw (uD T) d.m (aa (pv 0) (aa (pv 1) af))) (pv 2) (aK _)))))),?_⟩;try dsimp only [fD,bj]
 obtain ⟨⟨D,p,L,M,l,V,v,u,A,Z,i,Z⟩,q,n,r,t⟩:=id c;refine ⟨_,rfl,o,rfl,j,λ f s=>⟨_,rfl,a,_,D,_,_,rfl,s _ _ i,T.aG,T.kL,Aw ..,_,_,rfl,rfl,_,rfl,gi (λ h=>?_) (λ h=>?_)⟩⟩
 .
  refine ⟨_,rfl,_,rfl,a,F,m,o,rfl,c.same s,λ g S=>⟨_,rfl,_,_,rfl,rfl,?_⟩⟩;have e:m.Ka o b=decide (m.kQ o<=b):=by unfold aq.Ka;rw [aaM h,Bool.true_and]
  have:=k g (s.trans S);rw [e] at this;exact this
 .
  have e:m.Ka o b=false:=by unfold aq.Ka;rw [aaL h,adU]
  have:=k f s;rw [e] at this;exact this
def zl (T:Txt K mg Ad):Def P w K mg base "orders_of" 8 ["hold","state"] (yG K Ad.bp):=by
 refine T.Ac.dg kW λ Z Z Z Z Z H vs Q E d h=>?_;obtain ⟨a,F,m,p,s,rfl,n,G,ok,k⟩:=h;refine ⟨_,(ai (bo (aw (ku T) d.m (aa (pv 0) (aa (pv 1) af))))
     (ai (cS (i:=2) kW.nd (aw (yQ T) d.m (aa (pv 1) af)))
     (ai (cS (i:=3) kW.nd (ax nK (aF aB (pv 1) ac) (pv 2)))
     (am (aI (dB ["order"] ["going_on","hold","held","state"] [3,0,2,1] (.cons ⟨rfl,rfl,.inl rfl⟩ (.cons ⟨rfl,rfl,.inl rfl⟩ (.cons ⟨rfl,rfl,.inl rfl⟩ (.cons ⟨rfl,rfl,.inl rfl⟩ .nil)))) rfl ge (bS (aw (u9 T) d.m (aa (aw (ou T) d.m (aa (pv 0) af)) af))) (λ Z Z Z Z Z=>(lK (i:=0))) (λ Z Z Z Z Z=>(jP (PW.pt (my (aJ db (ax nK (pv 0) (pv 3)) (pv 1) (aK _)) (kN (cB (aw (zW T) d.m (aa (pv 2) (aa (pv 0) (aa (aF (ix (K:=K) rfl) (pv 4) ac) af)))))))))) (λ Z Z Z Z Z=>(pv 0)))))))),?_⟩
 try dsimp only [fD,bj]
 try (refine fL ?_;intro Z Z Z Z Z)
 obtain ⟨pb,pw,pf,J,eb,ew,ef⟩:=id G;obtain ⟨⟨dx,pm,LP,My,Mz,vm,vs,vt,aD,Z,ha,Z⟩,q1,q2,N,q4⟩:=id n;refine ⟨_,rfl,_,rfl,a,F,m,p,s,rfl,n,G,ok,λ H1 U=>?_⟩;refine ⟨_,rfl,p,s,rfl,G.same U,by rw [ok.lw];exact N,λ H2 s2=>?_⟩;have u:=U.trans s2;refine ⟨_,rfl,p,_,_,_,rfl,rfl,.inr (u.tup J),rfl,_,rfl,_,_,rfl,rfl,λ Y z=>?_⟩;obtain rfl:Y=((s.bx &&& s.held:Nat):Int):=by rw [z,o9]
 have O:=vk N;have W:(Bit.rooms m.ws).length<=8:=by
   rw [aq.ws,Ord.G8 _ (by lia)];have:=acs m.has (List.range m.rows.length);rw [aax] at this;lia
 refine ⟨_,rfl,a,F,m,rfl,n.same u,λ H3 s3=>⟨m.ws,rfl,ae4 O (by decide),W,λ M V gT sm I=>⟨M,rfl,⟨_,aY.of I⟩,λ D C=>?_⟩⟩⟩;have g:=(u.trans s3).trans sm;have lp:(Bit.parts (Bit.rooms m.ws)).length<=16:=by
   rw [Ord.Fc _ O];exact abk (acs _ _) (by rw [aax];decide)
 have R:∀ o∈Bit.parts (Bit.rooms m.ws),o<16:=λ o h=>by
   rw [Ord.Fc _ O] at h;exact aa4.mp (acq.mp h).1
 generalize iN:Bit.parts (Bit.rooms m.ws)=f at lp R I;refine cG (K:=K) (a:=M) (xs:=f.map ao) (λ j A t c=>A4 (aE V c) (c D=some (.lst A)) (A=((f.take j).filter (s.EX m)).map ao) (∃ v,t=[v,some (ao (s.bx &&& s.held)),some (.ref a),some (ao s.held),some (.ref p)]))
   ⟨al C,ag,rfl,none,rfl⟩ (λ j A t c Z e=>aY.of (e.1 _ _ I)) ?_ ?_
 .
  rintro j x A t c hx ⟨S,b,rfl,v,rfl⟩;obtain ⟨o,L,rfl⟩:=dC hx;have ho:=R o (aal L);have la:=acs (s.EX m) (f.take j);rw [abw] at la;refine ⟨_,rfl,_,rfl,_,_,rfl,rfl,λ y X=>⟨_,rfl,rfl,_,rfl,?_⟩⟩;obtain rfl:y=((o &&& s.held:Nat):Int):=by rw [X,o9]
  have B:((f.take (j+1)).filter (s.EX m)).map ao=((f.take j).filter (s.EX m)).map ao++(if s.EX m o=true then [ao o] else []):=by
    rw [bQ L,adj,aap];cases q:s.EX m o<;>simp [q]
  refine gi (λ h=>?_) (λ h=>?_)
  .
   have h:o &&& s.held=s.bx &&& s.held:=by have:=cx.mp h;lia
   have l:s.EX m o=m.Ka o s.heap:=by unfold cg.EX;rw [aaM h,Bool.true_and]
   refine ⟨_,rfl,_,rfl,_,rfl,p,_,_,_,rfl,rfl,.inr ((g.trans S).tup J),rfl,a,F,m,o,_,rfl,n.same (g.trans S),ae4 ho (by decide),λ H5 r=>⟨_,rfl,?_⟩⟩;cases q:m.Ka o s.heap with
   | true =>
     refine fE ⟨_,rfl,r _ _ b,aO (by rw [CT];lia),(S.trans r).put C,ag,?_,_,rfl⟩;rw [B,l,q];rfl
   | false =>
     refine dE ⟨S.trans r,r _ _ b,?_,_,rfl⟩;rw [B,l,q];simp
  . have h:¬ (o &&& s.held=s.bx &&& s.held):=λ e=>h (by rw [e];rfl);have l:s.EX m o=false:=by unfold cg.EX;rw [aaL h,adU]
    refine dE ⟨S,b,?_,_,rfl⟩;rw [B,l];simp
 .
  rintro A t c ⟨S,b,rfl,v,rfl⟩;rw [CT,abz] at b;refine k D c (g.free C) (g.trans S) ?_;rw [b,<- iN];rfl
def qd (T:Txt K mg Ad):Co P w K mg base "look_at_state" 7 ["hold","state"] (Kh K Ad.bp Ad.dJ):=by
 refine T.lF.UV kn (λ v H Q E h=>?_) (λ Z Z Z Z Z Z u i=>sI i λ Z Z=>rfl) (λ f Z Z Z s H v Q E j h=>?_)
 . obtain ⟨a,F,m,p,g,rfl,Z⟩:=h;rfl
 .
  obtain ⟨a,F,m,p,g,rfl,d,k,c,n,l⟩:=h;refine ⟨_,(am (br (dM (cB (aw (pJ T) j.m (aa (pv 0) (aa (pv 1) af))))) (am (AQ rfl afF T.xy T.Gd (Ih λ Z Z Z z=>z) (aa Ke af))) aH)),?_⟩;try dsimp only [fD,bj]
  refine ⟨_,rfl,_,rfl,a,F,m,p,g,rfl,d,k,c,λ b S=>⟨_,rfl,?_⟩⟩;cases e:xO m g with
  | true=>exact dE (n e b S)
  | false=>exact fE ⟨GW,l e b S⟩
def Cp (T:Txt K mg Ad):Def P w K mg base "failing" 5 ["hold","state","order"] (Df K Ad.bp):=by
 refine T.FL.dg ve λ Z Z Z Z Z H vs Q E b h=>?_;obtain ⟨a,fp,m,p,s,o,rfl,U,hs,ok,g,k⟩:=h;refine ⟨_,(ai (cS (i:=3) ve.nd (ax nK (pv 2) (oA De (aF aB (pv 1) ac))))
     (am (aI (aw (oR T) b.m (aa (dB ["room"] ["state","hold"] [1,0] (.cons ⟨rfl,rfl,.inl rfl⟩ (.cons ⟨rfl,rfl,.inl rfl⟩ .nil)) rfl ge (bS (aw (lD T) b.m (aa (pv 3) af))) (λ Z Z Z Z Z=>(lK (i:=0))) (λ Z Z Z Z Z=>(jP (aJ lH (aF (ix (K:=K) rfl) (aF (ix (K:=K) rfl) (pv 1) ac) (pv 0)) (aF (ix (K:=K) rfl) (bg (pv 2) T.aG (eK T) .nil b.m (aa (pv 0) af)) ac) (aK _)))) (λ Z Z Z Z Z=>(pv 0))) af))))),?_⟩
 try dsimp only [fD,bj]
 obtain ⟨pb,pw,pf,F,eb,ew,ef⟩:=id hs;obtain ⟨⟨dx,pm,LP,My,Mz,vm,vs,vt,aD,Z,ha,Z⟩,q1,q2,l,q4⟩:=id U;have t:o<16:=by rw [<- g];exact abj aeX (vk l)
 have Zm:s.bx<16:=Ord.N3 l ok.bx;refine ⟨_,rfl,_,rfl,p,_,_,_,rfl,rfl,.inr F,rfl,_,rfl,_,_,rfl,rfl,λ y ey=>?_⟩;obtain rfl:y=((Ord.off o s.bx:Nat):Int):=by rw [ey];exact oW _ _
 have R:Ord.off o s.bx<2 ^ 4:=Ord.PK (n:=4) t;have J:=Qn l ok g;have G:∀ r∈Bit.rooms (Ord.off o s.bx),r<m.rows.length/\m.has r=true:=λ r b=>by
   have:=(Bit.gB.mp b).2;rw [Ord.xS t Zm,abF] at this;exact Gy g this.1
 generalize Ord.off o s.bx=z at R J G |-;refine ⟨_,rfl,z,rfl,ae4 R (by decide),λ W Hm gT X V=>⟨W,rfl,⟨_,aY.of V⟩,λ D N=>?_⟩⟩;refine cG (K:=K) (a:=W) (xs:=(Bit.rooms z).map ao) (λ j A f c=>A4 (aE Hm c) (c D=some (.lst A)) (A=(((Bit.rooms z).take j).filter λ r=>decide ((gN s.failed r:Int)<m.fails r)).map ao) (∃ v,f=[v,some (.ref p),some (.ref a)]))
   ⟨al N,ag,rfl,none,rfl⟩ (λ j A f c Z e=>aY.of (e.1 _ _ V)) ?_ ?_
 .
  rintro j x A f c hx ⟨S,I,rfl,v,rfl⟩;obtain ⟨r,L,rfl⟩:=dC hx;obtain ⟨PJ,Y⟩:=G r (aal L);obtain ⟨zz,M⟩:=uA Y;have hz:=nF (m:=m) (i:=r) (by lia);have d:=X.trans S;have la:=acs (λ r=>decide ((gN s.failed r:Int)<m.fails r)) ((Bit.rooms z).take j);have lr:=xH z;rw [abw] at la;have B:m.fails r=zz.2.2.2:=by unfold aq.fails;rw [M];rfl
  refine ⟨_,rfl,p,_,_,_,rfl,rfl,.inr (d.tup F),rfl,_,rfl,pf,_,_,_,rfl,rfl,.inr (d.tup ef),Ev (by rw [ok.lf];exact PJ),?_⟩;refine ⟨_,rfl,a,dx,_,rfl,d _ _ ha,rfl,_,rfl,a,fp,m,r,_,rfl,U.same d,hz,λ u C=>?_⟩;rw [M] at C;obtain ⟨pz,v1,rfl,DP,Z⟩:=C.bM;have O:(((Bit.rooms z).take (j+1)).filter λ r=>decide ((gN s.failed r:Int)<m.fails r)).map ao=(((Bit.rooms z).take j).filter λ r=>decide ((gN s.failed r:Int)<m.fails r)).map ao++(if decide ((gN s.failed r:Int)<m.fails r)=true then [ao r] else []):=by
    rw [bQ L,adj,aap];by_cases q:(gN s.failed r:Int)<m.fails r<;>simp [q]
  refine ⟨pz,_,_,_,rfl,rfl,.inr DP,rfl,_,_,rfl,rfl,_,rfl,gi (λ h=>?_) (λ h=>?_)⟩
  . refine ⟨_,rfl,I,aO (by rw [CT];lia),S.put N,ag,?_,_,rfl⟩;rw [O,aaM (by rw [B];exact h)];rfl
  . refine ⟨S,I,?_,_,rfl⟩;rw [O,aaL (by rw [B];exact h)];simp
 .
  rintro A f c ⟨S,I,rfl,v,rfl⟩;rw [CT,abz] at I;have:=k c (X.trans S);rw [<- J] at this;exact ⟨D,_,rfl,aY.of I,λ r b=>by have:=(G r (acq.mp b).1).1;lia,this⟩
def uI (T:Txt K mg Ad):Def P w K mg base "wait_behind" 5 ["hold","state","burning","room"] (uv K Ad.bp):=by
 refine T.wr.dg uh λ Z Z Z Z Z H J Q E f h=>?_;obtain ⟨a,t,m,p,s,b,i,rfl,l,B,ok,A,C,v,k⟩:=h;refine ⟨_,(ai (br (aJ vF (aw (fO T) f.m (aa (aF aB (pv 1) ac) (aa (pv 3) af))) (aw (fO T) f.m (aa (pv 2) (aa (pv 3) af))) (aK _)) (am (aI (aF aB (bg (pv 0) T.aG (eK T) .nil f.m (aa (pv 3) af)) ac))) aH)
     (am (aI (aP (rD rfl) (by rfl) T.IR Cn (aa ac (aa (ax dI (aF aB (aF aB (pv 1) ac) (pv 3)) ac) af)))))),?_⟩
 try dsimp only [fD,bj]
 obtain ⟨X,G,Y,g,R,r,S⟩:=id B;obtain ⟨⟨o,pm,L,M,N,vm,J,vt,O,Z,x,Z⟩,q1,q2,q3,q4⟩:=id l;refine ⟨_,rfl,p,_,_,_,rfl,rfl,.inr g,rfl,_,rfl,s.bx,i,rfl,?_⟩;refine ⟨_,rfl,_,rfl,b,i,rfl,rfl,_,rfl,pW (λ W=>?_) (λ c=>?_)⟩
 .
  have W:¬ s.bx.testBit i=b.testBit i:=λ e=>W (by rw [e]);obtain ⟨z,j⟩:=uA (C W);have F:=nF (m:=m) (i:=i) (by lia);refine ⟨_,rfl,a,o,_,rfl,x,rfl,_,rfl,a,t,m,i,_,rfl,l,F,λ u D=>?_⟩;rw [j] at D;obtain ⟨I,v1,rfl,n,Z⟩:=D.bM;have q:m.dQ i=z.2.2.1:=by unfold aq.dQ;rw [j];rfl
  have d:ao (s.je m b i) = .int z.2.2.1:=by
    unfold cg.je;rw [abC W,<- q];show V.int _=_;rw [ad7 v]
  rw [d] at k;exact ⟨I,_,_,_,rfl,rfl,.inr n,rfl,k⟩
 .
  have c:s.bx.testBit i=b.testBit i:=by injection c
  refine ⟨_,rfl,p,_,_,_,rfl,rfl,.inr g,rfl,_,rfl,G,_,_,_,rfl,rfl,.inr r,Ev (by rw [ok.lw];exact A),_,_,rfl,rfl,λ y U=>?_⟩;refine ⟨0,y,rfl,?_⟩;have d:(if y > 0 then y else 0)=((s.je m b i:Nat):Int):=by
    unfold cg.je;rw [abE c];split<;>lia
  rw [d];exact k
def rH (T:Txt K mg Ad):Def P w K mg base "failed_behind" 2 ["state","burning","out","room"] (qP K):=by
 refine T.tH.dg qO λ Z Z Z Z Z H v Q E g h=>?_;obtain ⟨p,S,b,o,i,rfl,n,f,k⟩:=h;refine ⟨_,(ai (br (cB (aw (fO T) g.m (aa (pv 2) (aa (pv 3) af)))) (am (aI (ax aT (aF aB (aF aB (pv 0) ac) (pv 3)) ac))) aH)
     (ai (br (cB (aw (fO T) g.m (aa (pv 1) (aa (pv 3) af)))) (am (aI ac)) aH)
     (am (aI (aF aB (aF aB (pv 0) ac) (pv 3)))))),?_⟩
 try dsimp only [fD,bj]
 try (refine dR ?_;intro Z Z Z Z)
 obtain ⟨s,t,j,e,q,r,a⟩:=id n;unfold cg.jG at k;refine ⟨_,rfl,_,rfl,o,i,rfl,_,rfl,?_⟩;cases c:o.testBit i with
 | true =>
   rw [c] at k;refine fE ⟨_,rfl,p,_,_,_,rfl,rfl,.inr e,rfl,_,rfl,j,_,_,_,rfl,rfl,.inr a,Ev f,_,_,rfl,rfl,λ y l=>?_⟩;rw [l];exact k
 | false =>
   rw [c] at k;refine dE ⟨_,rfl,_,rfl,b,i,rfl,_,rfl,?_⟩;cases d:b.testBit i with
   | true =>
     rw [d] at k;exact fE k
   | false =>
     rw [d] at k;exact dE ⟨_,rfl,p,_,_,_,rfl,rfl,.inr e,rfl,_,rfl,j,_,_,_,rfl,rfl,.inr a,Ev f,k⟩
def rV (T:Txt K mg Ad):Def P w K mg base "stoves_behind" 7 ["hold","state","order","out"] (Gm K Ad.bp):=by
 refine T.tI.dg eL λ Z Z Z Z Z H vs Q E f h=>?_;obtain ⟨a,F,m,p,S,o,O,rfl,e,B,ok,R,h0,L,k⟩:=h;refine ⟨_,(ai (cS (i:=4) eL.nd (ax nK (pv 2) (oA De (pv 3))))
     (ai (lP (yi:=5) ["room"] ["hold","state","burning"] [0,1,4] (.cons ⟨rfl,rfl,.inl rfl⟩ (.cons ⟨rfl,rfl,.inl rfl⟩ (.cons ⟨rfl,rfl,.inl rfl⟩ .nil))) rfl (cr rfl T.dG (aa (fZ (pv 0) T.aG (cN T) .nil f.m) af)) (λ Z Z Z Z Z=>(lK (i:=0))) (λ Z Z Z Z Z=>cC) (λ Z Z Z Z Z=>(aw (uI T) f.m (aa (pv 1) (aa (pv 2) (aa (pv 3) (aa (pv 0) af)))))) eL.nd (lc rfl))
     (ai (lP (yi:=6) ["room"] ["state","burning","out"] [1,4,3] (.cons ⟨rfl,rfl,.inl rfl⟩ (.cons ⟨rfl,rfl,.inl rfl⟩ (.cons ⟨rfl,rfl,.inl rfl⟩ .nil))) rfl (cr rfl T.dG (aa (fZ (pv 0) T.aG (cN T) .nil f.m) af)) (λ Z Z Z Z Z=>(lK (i:=0))) (λ Z Z Z Z Z=>cC) (λ Z Z Z Z Z=>(aw (rH T) f.m (aa (pv 1) (aa (pv 2) (aa (pv 3) (aa (pv 0) af)))))) eL.nd (lc rfl))
     (ai (cS (i:=7) eL.nd (aP (FV rfl) (by rfl) T.Vn Ps (aa (aW (pv 0) rfl) (aa (ax aT (ax dI (aF aB (pv 1) ac) (aw (uD T) f.m (aa (pv 0) (aa (pv 4) af)))) (aW (pv 0) rfl)) af))))
     (am (aI (bJ (aa (pv 4) (aa (eJ fj (by rfl) T.nH kh (aa (pv 5) af)) (aa (eJ fj (by rfl) T.nH kh (aa (pv 6) af)) (aa (pv 7) af))))))))))),?_⟩
 try dsimp only [fD,bj]
 try (refine A0 ?_;intro Z Z Z Z Z Z)
 obtain ⟨pb,pw,pf,e0,eb,ew,ef⟩:=id B;obtain ⟨⟨r,pm,LP,My,Mz,vm,vs,vt,aD,Z,t,Z⟩,q1,q2,q3,q4⟩:=id e;refine ⟨_,rfl,_,rfl,_,rfl,_,_,rfl,rfl,λ y ey=>?_⟩;obtain rfl:y=((Ord.off o O:Nat):Int):=by rw [ey];exact oW _ _
 generalize Ord.off o O=b at R L k |-;refine ⟨_,rfl,a,r,_,rfl,t,rfl,a,F,m,rfl,e,_,rfl,by lia,by lia,λ D N=>?_⟩;refine eS (lo:=0) (n:=m.rows.length) (λ j A d c=>A4 (aE H c) (c D=some (.lst A)) (A=((List.range j).map (S.je m b)).map ao) (∃ v,d=[v,some (.ref a),some (.ref p),some (ao b)])) ⟨al N,ag,rfl,none,rfl⟩ ?_ ?_
 . rintro j A d c u ⟨s,C,rfl,v,rfl⟩;refine ⟨_,rfl,_,rfl,_,rfl,_,rfl,a,F,m,p,S,b,j,(by rw [aca];rfl),e.same s,B.same s,ok,u,R j,h0 j,C,aO (by rw [CT,CT,aax];lia),s.put N,ag,?_,_,rfl⟩;rw [acb,aap,aap];rfl
 rintro A d H1 ⟨s,C,rfl,v,rfl⟩;refine ⟨_,rfl,a,r,_,rfl,s _ _ t,rfl,a,F,m,rfl,e.same s,_,rfl,by lia,by lia,λ I V=>?_⟩;refine eS (lo:=0) (n:=m.rows.length) (λ j A d c=>A4 (aE H1 c) (c I=some (.lst A)) (A=((List.range j).map (S.jG b O)).map ao) (∃ v,d=[v,some (.ref p),some (ao b),some (ao O)])) ⟨al V,ag,rfl,none,rfl⟩ ?_ ?_
 . rintro j A d c u ⟨g,J,rfl,v,rfl⟩;refine ⟨_,rfl,_,rfl,_,rfl,_,rfl,p,S,b,O,j,(by rw [aca];rfl),B.same (s.trans g),by rw [ok.lf];exact u,J,aO (by rw [CT,CT,aax];lia),g.put V,ag,?_,_,rfl⟩;rw [acb,aap,aap];rfl
 rintro A d H2 ⟨g,J,rfl,v,rfl⟩;have l:=s.trans g;refine ⟨_,rfl,a,_,r,_,_,rfl,l _ _ t,T.aG,T.jL,yg ..,?_⟩;refine ⟨_,rfl,p,_,_,_,rfl,rfl,.inr (l.tup e0),rfl,?_⟩;refine ⟨_,rfl,_,rfl,a,F,m,b,rfl,e.same l,λ H3 G=>?_⟩;have M:=l.trans G;refine ⟨_,_,rfl,rfl,λ x1 g1=>⟨_,rfl,a,_,r,_,_,rfl,M _ _ t,T.aG,T.pS,Ip ..,_,_,rfl,rfl,λ X g2=>⟨_,X,rfl,?_⟩⟩⟩;have e2:(if X<m.eF then X else m.eF)=(((S.jH m b).toNat:Nat):Int):=by
   rw [ad7 L];unfold cg.jH;split<;>lia
 rw [e2];refine ⟨_,rfl,_,rfl,D,_,rfl,.inl ⟨aY.of ((g.trans G) _ _ C),λ Y z=>?_⟩⟩;have u1:aE _ _:=al (o:=.tup (((List.range m.rows.length).map (S.je m b)).map ao)) z;refine ⟨_,rfl,I,_,rfl,.inl ⟨aY.of (u1 _ _ (G _ _ J)),λ W x=>?_⟩⟩;have u2:aE _ _:=al (o:=.tup (((List.range m.rows.length).map (S.jG b O)).map ao)) x;refine ⟨_,rfl,Nz,λ q hq=>?_⟩;have U:aE _ _:=al (o:=.tup [ao b,.ref Y,.ref W,ao (S.jH m b).toNat]) hq;exact k q Y W _ (((M.trans u1).trans u2).trans U) ag (U _ _ (u2 _ _ ag)) (U _ _ ag)
def Gb {t u:L2.TE} {Q:VK} (c:∀ Q:VK,Q (.bl a) H->t σ H Q) (d:∀ Q:VK,Q (.bl b) H->u σ H Q) (h:Q (.bl (a && b)) H):Ko t u σ H Q:=by
 refine c _ ⟨a,rfl,?_⟩;cases a with
 | true=>exact fE (d Q h)
 | false=>exact dE h
def o5 (T:Txt K mg Ad):Def P w K mg base "sum_of_products" 3 ["pairs"] (PZ K):=by
 refine T.qA.dg bZ λ Z Z Z Z Z H vs Q E hr h=>?_;obtain ⟨p,X,D,rfl,R,c,C,hl,hB,k⟩:=h;refine ⟨_,(ai (cS (i:=1) bZ.nd ac)
     (ai (cS (i:=2) bZ.nd ac)
     (ai (cP abM rfl (bS (pv 0)) (dH (K:=K) (n:=2) rfl rfl (aQ (iF (i:=3) bZ.nd) (aQ (iF (i:=4) bZ.nd) dL))) (ai (cS (i:=5) bZ.nd (ax bN (aF aB (pv 3) ac) (aF aB (pv 4) ac)))
     (ai (cS (i:=1) bZ.nd (ax aT (ax bN (pv 1) (pv 5)) (ax bN (ax bN (aF aB (pv 3) ac) (aF aB (pv 4) ac)) (pv 2))))
     (am (cS (i:=2) bZ.nd (ax bN (pv 2) (pv 5)))))))
     (am (aI (aw (mO T) hr.m (aa (pv 1) (aa (pv 2) af)))))))),?_⟩
 try dsimp only [fD,bj]
 try (refine fL ?_;intro Z Z Z Z Z)
 have U:X.length=D.length:=by rw [c.length,CT]
 refine ⟨_,rfl,p,rfl,⟨_,R⟩,?_⟩;refine kr (K:=K) (a:=p) (xs:=X) (λ i l j=>j=H/\E3 λ (V J L:eO)=>l=[some (.ref p),some (.int (gu (D.take i)).1),some (.int (gu (D.take i)).2),V,J,L]) ⟨rfl,none,none,none,rfl⟩ (λ i l j Z e=>by rw [e.1];exact R) ?_ ?_
 .
  rintro i x l j S ⟨rfl,V,J,L,rfl⟩;have A:i<D.length:=by rw [<- U];exact (QQ.mp S).1
  obtain ⟨M,B,b3⟩:=yZ D C i (by lia);have et:D.take (i+1)=D.take i++[D[i]]:=by rw [aeE,aL A];rfl
  obtain ⟨y,ey,pq,ws,rfl,JF,o⟩:=c.get (i:=i) (d:=IH D[i]) (by rw [aag,aL A];rfl);obtain rfl:x = .ref pq:=aaO (S.symm.trans ey);have c:=C D[i] (abq A);obtain ⟨w1,r1,rfl,d1,w2,r2,rfl,d2,g⟩:=o;have g:r2=[]:=g;subst g;obtain ⟨G,rfl,v⟩:=Dn.fr d1;obtain ⟨I,rfl,z⟩:=Dn.fr d2;rw [et,vz];generalize D[i]=d at c v z |-;generalize gu (D.take i)=s at M B b3 |-;refine ⟨pq,_,rfl,JF,rfl,_,_,rfl,_,_,rfl,rfl,?_⟩;refine ⟨_,rfl,G,_,_,_,rfl,rfl,.inr v,rfl,_,rfl,I,_,_,_,rfl,rfl,.inr z,rfl,_,_,rfl,rfl,⟨900,900,c.a.b,c.b.b,by decide⟩,λ be f=>?_⟩;have f:be=d.1.2 * d.2.2:=f;have N:Bd 1800 (d.1.2 * d.2.2):=c.a.b.mul c.b.b;subst f;have sm:1802 * i+2+1800<=100000:=by lia
  refine ⟨_,rfl,_,rfl,_,_,rfl,rfl,⟨1802 * i+2,1800,M,N,by lia⟩,λ x1 e1=>?_⟩;refine ⟨_,rfl,G,_,_,_,rfl,rfl,.inr v,rfl,_,rfl,I,_,_,_,rfl,rfl,.inr z,rfl,_,_,rfl,rfl,⟨900,900,c.a.t,c.b.t,by decide⟩,λ x2 O=>?_⟩;have bt:Bd 1800 x2:=by rw [O];exact c.a.t.mul c.b.t
  refine ⟨_,rfl,_,_,rfl,rfl,⟨1800,1800 * i+1,bt,B,by lia⟩,λ x3 g=>⟨_,_,rfl,rfl,λ x4 e4=>?_⟩⟩;refine ⟨_,rfl,_,rfl,_,_,rfl,rfl,⟨1800 * i+1,1800,B,N,by lia⟩,λ x5 e5=>⟨rfl,some (.ref G),some (.ref I),some (.int (d.1.2 * d.2.2)),?_⟩⟩;have f4:x4=s.1 * (d.1.2 * d.2.2)+d.1.1 * d.2.1 * s.2:=by rw [e4,e1,g,O]
  have f5:x5=s.2 * (d.1.2 * d.2.2):=e5;rw [f4,f5];rfl
 .
  rintro l j ⟨rfl,V,J,L,rfl⟩;rw [U,abz];have W:=Lq C;refine ⟨_,rfl,_,rfl,_,_,rfl,by lia,hB,λ q r u Y F s2 hu=>k u Y s2 ?_⟩;have:=F.nf W;rw [hu,<- this]
def pP (T:Txt K mg Ad):Def P w K mg base "warmth_of" 6 ["hold","room","airs","weather","fired"] (Fs K Ad.bp):=by
 refine T.AE.dg pO λ Z Z Z Z Z H vs Q E R h=>?_;obtain ⟨a,fp,m,i,pa,R3,c,W,wf,F,rfl,N,hi,W1,da,la,oa,dw,ow,hz,k⟩:=h;refine ⟨_,(ai (lP (yi:=5) ["of","air"] ["room","hold"] [1,0] (.cons ⟨rfl,rfl,.inl rfl⟩ (.cons ⟨rfl,rfl,.inl rfl⟩ .nil)) rfl (sy rfl T.dS (aa (pv 2) af)) (λ Z Z Z Z Z=>(dH (K:=K) (n:=2) rfl rfl (aQ (lK (i:=0)) (aQ (lK (i:=1)) dL)))) (λ Z Z Z Z Z=>cC) (λ Z Z Z Z Z=>(bJ (aa (bg (pv 3) T.aG (lV T) .nil R.m (aa (pv 2) (aa (pv 0) af))) (aa (pv 1) af)))) pO.nd (lc rfl))
     (ai (bo (g8 abx abK abG cz (pv 5) (aa (bJ (aa (aF aB (bg (pv 0) T.aG (pL T) .nil R.m (aa (pv 1) af)) ac) (aa (pv 3) af))) af)))
     (ai (eW (br (cB (pv 4)) (am (bo (g8 abx abK abG cz (pv 5) (aa (bJ (aa (bY (v:=V.ref _) rfl T.EZ rfl) (aa (aF aB (bg (pv 0) T.aG (eK T) .nil R.m (aa (pv 1) af)) ac) af))) af)))) aH))
     (am (aI (aw (o5 T) R.m (aa (pv 5) af))))))),?_⟩
 try dsimp only [fD,bj]
 try (refine fL ?_;intro Z Z Z Z Z)
 obtain ⟨⟨dx,pm,LP,My,Mz,vm,vs,vt,aD,sW,ha,Z⟩,q1,q2,q3,q4⟩:=id N;obtain ⟨ah,Ye,ae⟩:=sF (i:=i) (fired:=F) q4 q3 la oa ow hz;have L:R3.length=c.length:=by rw [da.length,CT]
 refine ⟨_,rfl,pa,rfl,⟨_,W1⟩,λ D M=>?_⟩;refine kO (sq:=aY K) (a:=pa) (xs:=R3) (λ j acc σ b=>A4 (aE H b) (b D=some (.lst acc)) (bE K b (((List.range j).map λ j=>((m.share i j,c.getD j (0,1)):Pr)).map IH) acc) (E2 λ v0 v1=>σ=[v0,v1,some (ao i),some (.ref a)]))
   ⟨al M,ag,rfl,none,none,rfl⟩ (λ j acc σ b Z e=>e.1.seq W1) ?_ ?_
 .
  rintro j x pp acc σ b hx vb ⟨B,O,o,v0,v1,rfl⟩;have hj:j<c.length:=by rw [<- L];exact (QQ.mp hx).1
  obtain ⟨y,ey,dy⟩:=da.get (i:=j) (d:=ff c[j]) (by rw [aag,aL hj];rfl);obtain rfl:x=y:=aaO (hx.symm.trans ey);have s:aE b (upd b pp (.tup [ao j,x])):=al vb;have nD:D≠pp:=ay O vb;have S2:=B.trans s;refine ⟨pp,_,rfl,bP.of ag,rfl,_,_,rfl,_,_,rfl,rfl,?_⟩;refine ⟨_,rfl,a,dx,_,rfl,S2 _ _ ha,rfl,_,rfl,_,rfl,a,fp,m,i,j,rfl,N.same S2,hi,by lia,λ v l s3 dv=>?_⟩;have A:=S2.trans s3;refine ⟨_,rfl,Hl,λ p iM=>?_⟩;have S:aE l (upd l p (.tup [v,x])):=al iM;have J:=A.trans S;have r:=S _ _ (s3 _ _ (s _ _ O));have C:aS K (upd l p (.tup [v,x])) (upd (upd l p (.tup [v,x])) D (.lst (acc++[.ref p]))):=bW r rfl;have GI:acc.length=j:=by rw [o.length,CT,CT,aax]
  refine ⟨r,aO (by lia),(J).put M,ag,?_,_,_,rfl⟩;rw [acb,aap,aap];refine (bE.ts ((aE.ts ((s.trans s3).trans S)).trans C) _ (uR _) o).snoc (Dn.ts C _ (tZ _) ?_);have ea:c.getD j (0,1)=c[j]:=by rw [aab,aL hj];rfl
  show Dn K _ (IH (m.share i j,c.getD j (0,1))) _;rw [ea];exact iU (bP.of ag) (bD (Dn.same S _ dv) (bD (Dn.same J _ dy) ed))
 .
  rintro acc σ g ⟨B,O,o,v0,v1,rfl⟩;rw [L] at o;have o:bE K g ((fY m i c).map IH) acc:=o;have GI:acc.length<=4:=by rw [o.length,CT];unfold fY;rw [CT,aax];lia
  have V9:i<m.bK.length:=by lia
  have VI:=aL V9;have QV:m.ft i=m.bK[i].1:=by unfold aq.ft;rw [VI];rfl
  refine ⟨_,rfl,.inl ⟨rfl,_,aY.of O⟩,_,rfl,a,dx,_,rfl,B _ _ ha,rfl,_,rfl,a,fp,m,i,_,rfl,N.same B,VI,λ v dv=>?_⟩;obtain ⟨p0,t,WQ,Wb,rfl,yU,ab,OZ,aj⟩:=dv.uG;refine ⟨p0,_,_,_,rfl,rfl,.inr yU,rfl,_,rfl,Hl,λ p iM=>?_⟩;have s:aE g (upd g p (.tup [t,W])):=al iM;have iw:=s _ _ O;refine ⟨D,_,_,rfl,rfl,iw,aO (by lia),?_⟩;have C:aS K (upd g p (.tup [t,W])) (upd (upd g p (.tup [t,W])) D (.lst (acc++[.ref p]))):=bW iw rfl;have Y:(upd (upd g p (.tup [t,W])) D (.lst (acc++[.ref p]))) D=some (.lst (acc++[.ref p])):=ag;have A:aE H (upd (upd g p (.tup [t,W])) D (.lst (acc++[.ref p]))):=(B.trans s).put M;have d3:bE K (upd (upd g p (.tup [t,W])) D (.lst (acc++[.ref p]))) ((fY m i c++[(m.ft i,wf)]).map IH) (acc++[.ref p]):=by
    rw [aap];refine (bE.ts ((aE.ts s).trans C) _ (uR _) o).snoc (Dn.ts C _ (tZ _) ?_);refine iU (bP.of ag) (bD (Dn.same s _ ?_) (bD (Dn.same (B.trans s) _ dw) ed));rw [QV];exact ab
  generalize (upd (upd g p (.tup [t,W])) D (.lst (acc++[.ref p])))=l at Y A d3 |-;refine ⟨λ I b=>aE H b/\∃ X,A3 (b D=some (.lst X)) (bE K b ((ji m i c wf F).map IH) X) (I=[some (.ref a),some (ao i),some (.ref pa),some W,some (.bl F),some (.ref D)]),?_,?_⟩
  .
   refine ⟨_,rfl,_,rfl,?_⟩;cases F with
   | false =>
     refine dE ⟨A,_,Y,?_,rfl⟩;unfold ji;rw [abC abu,acB];exact d3
   | true =>
     obtain ⟨z,ez⟩:=hz rfl;refine fE ⟨_,rfl,.inl ⟨rfl,_,aY.of Y⟩,?_⟩;refine ⟨_,rfl,a,dx,_,rfl,A _ _ ha,rfl,_,rfl,a,fp,m,i,_,rfl,N.same A,ez,λ u du=>?_⟩;obtain ⟨pz,zs,rfl,DP,t1,r1,rfl,e1,Z⟩:=du;refine ⟨pz,_,_,_,rfl,rfl,.inr DP,cq (j:=0) rfl,Hl,λ U PM=>?_⟩;have S:aE l (upd l U (.tup [.ref Ad.wU,t1])):=al PM;have r:=S _ _ Y;refine ⟨D,_,_,rfl,rfl,r,aO (by rw [aae];simp only [ab9,ae5];lia),(A.trans S).put M,_,ag,?_,rfl⟩;have G:aS K (upd l U (.tup [.ref Ad.wU,t1])) (upd (upd l U (.tup [.ref Ad.wU,t1])) D (.lst ((acc++[.ref p])++[.ref U]))):=bW r rfl;have ad:(((m.bw[i]?).getD none).map (·.1)).getD (0,1)=z.1:=by rw [ez];rfl
     unfold ji;rw [abE rfl,aap];refine (bE.ts ((aE.ts S).trans G) _ (uR _) d3).snoc (Dn.ts G _ (tZ _) ?_);show Dn K _ (IH ((1,1),(((m.bw[i]?).getD none).map (·.1)).getD (0,1))) _;rw [ad];exact iU (bP.of ag) (bD (T.Fi.fr (f:=(1,1))) (bD (Dn.same S _ e1) ed))
  . rintro I H4 ⟨J,X,r,d4,rfl⟩;exact ⟨_,rfl,D,X,_,rfl,aY.of r,d4,ah,Ye,ae,λ q H5 s5 Gj=>k q H5 (J.trans s5) Gj⟩
def CZ (T:Txt K mg Ad):Def P w K mg base "span_of" 7 ["hold","room","bands","fired"] (Lz K Ad.bp):=by
 refine T.GO.dg jq λ Z Z Z Z Z H vs Q E f h=>?_;obtain ⟨a,R,m,i,U,B,F,rfl,M,hi,A,lb,W,hz,k⟩:=h;refine ⟨_,(ai (ip (d5 nI (bg (pv 0) T.aG (pL T) .nil f.m (aa (pv 1) af)) (eX ac) fV) (dH (K:=K) (n:=2) rfl rfl (aQ (iF (i:=4) jq.nd) (aQ (iF (i:=5) jq.nd) dL))))
     (ai (lP (yi:=6) ["of","band"] ["hold"] [0] (.cons ⟨rfl,rfl,.inl rfl⟩ .nil) rfl (Jj rfl T.dS (aa (pv 2) af)) (λ Z Z Z Z Z=>(dH (K:=K) (n:=2) rfl rfl (aQ (lK (i:=0)) (aQ (lK (i:=1)) dL)))) (λ Z Z Z Z Z=>cC) (λ Z Z Z Z Z=>(aF (ix (K:=K) rfl) (bg (pv 2) T.aG (fM T) .nil f.m (aa (pv 0) af)) (pv 1))) jq.nd (lc rfl))
     (ai (lP (yi:=7) ["of","band"] ["hold"] [0] (.cons ⟨rfl,rfl,.inl rfl⟩ .nil) rfl (Jj rfl T.dS (aa (pv 2) af)) (λ Z Z Z Z Z=>(dH (K:=K) (n:=2) rfl rfl (aQ (lK (i:=0)) (aQ (lK (i:=1)) dL)))) (λ Z Z Z Z Z=>cC) (λ Z Z Z Z Z=>(aF (ix (K:=K) rfl) (bg (pv 2) T.aG (fM T) .nil f.m (aa (pv 0) af)) (ax aT (pv 1) ac))) jq.nd (lc rfl))
     (am (aI (bJ (aa (aw (pP T) f.m (aa (pv 0) (aa (pv 1) (aa (pv 6) (aa (pv 4) (aa (pv 3) af)))))) (aa (aw (pP T) f.m (aa (pv 0) (aa (pv 1) (aa (pv 7) (aa (pv 5) (aa (pv 3) af)))))) af)))))))),?_⟩
 try dsimp only [fD,bj]
 try (refine fL ?_;intro Z Z Z Z Z)
 obtain ⟨⟨dx,g,LP,My,Mz,vm,vs,vt,aD,sW,ha,Z⟩,q1,q2,q3,q4⟩:=id M;have V9:i<m.bK.length:=by lia
 have VI:=aL V9;have QV:nZ m i=m.bK[i]:=by unfold nZ;rw [VI];rfl
 have Cc:=q4.bK m.bK[i] (abq V9);have an:fW 120 (nZ m i).2.1:=by rw [QV];exact Cc.2.1.mono (by decide)
 have aj:fW 120 (nZ m i).2.2:=by rw [QV];exact Cc.2.2.mono (by decide)
 have Rs:(hU m B 0).length=m.rows.length:=by unfold hU;rw [CT,aax,lb]
 have ah:(hU m B 1).length=m.rows.length:=by unfold hU;rw [CT,aax,lb]
 refine ⟨_,rfl,a,dx,_,rfl,ha,rfl,_,rfl,a,R,m,i,_,rfl,M,VI,λ v dv=>?_⟩;obtain ⟨p0,K5,WQ,Wb,rfl,yU,a0,OZ,ar⟩:=dv.uG;refine ⟨1,rfl,p0,_,1,rfl,yU,rfl,rfl,by decide,(by show 1<=3;decide),λ q0 hq=>?_⟩;refine ⟨q0,_,rfl,bP.of ag,rfl,_,_,rfl,_,_,rfl,rfl,?_⟩;have N:aE H (upd H q0 (.tup ([K5,WQ,Wb].drop 1))):=al hq;generalize upd H q0 (.tup ([K5,WQ,Wb].drop 1))=H0 at N |-;have ae:Dn K H0 (ff (nZ m i).2.1) WQ:=by rw [QV];exact Dn.same N _ OZ
 have ad:Dn K H0 (ff (nZ m i).2.2) Wb:=by rw [QV];exact Dn.same N _ ar
 rcases A with A|A
 .
  have A:=N.seq A;refine ⟨_,rfl,U,rfl,.inl ⟨⟨_,A⟩,λ D hD=>?_⟩⟩;refine kO (sq:=aY K) (a:=U) (xs:=B.map ao) (λ j acc l c=>A4 (aE H0 c) (c D=some (.lst acc)) (bE K c (((List.range j).map λ j=>(m.rows.getD j []).getD (B.getD j 0+0) (0,1)).map ff) acc) (E2 λ V u=>l=[V,u,some (.ref a)]))
    ⟨al hD,ag,rfl,none,none,rfl⟩ (λ j acc l c Z e=>e.1.seq A) ?_ ?_
  .
   rintro j x p acc l c hx vb ⟨t,og,r,V,u,rfl⟩;obtain ⟨b,C,rfl⟩:=dC hx;have hj:j<B.length:=(QQ.mp C).1;have f:j<m.rows.length:=by lia
   have G:B.getD j 0=b:=by rw [aab,C];rfl
   have s:aE c (upd c p (.tup [ao j,ao b])):=al vb;have o:=N.trans (t.trans s);have I:m.rows.getD j []=m.rows[j]:=by rw [aab,aL f];rfl
   have q:=W j f;rw [I,G] at q;refine ⟨p,_,rfl,bP.of ag,rfl,_,_,rfl,_,_,rfl,rfl,?_⟩;refine ⟨_,rfl,a,dx,_,rfl,o _ _ ha,rfl,_,rfl,a,R,m,j,_,rfl,M.same o,aL f,λ g X iK zM=>?_⟩;have S:aE (upd c p (.tup [ao j,ao b])) (upd (upd c p (.tup [ao j,ao b])) g (.lst X)):=al iK;obtain ⟨y,ey,dy⟩:=zM.get (i:=b) (d:=ff m.rows[j][b]) (by rw [aag,aL (by lia)];rfl);have J:=S _ _ (s _ _ og);have L:aS K (upd (upd c p (.tup [ao j,ao b])) g (.lst X)) (upd (upd (upd c p (.tup [ao j,ao b])) g (.lst X)) D (.lst (acc++[y]))):=bW J rfl;have GI:acc.length=j:=by rw [r.length,CT,CT,aax]
   refine ⟨_,rfl,g,_,_,_,rfl,rfl,.inl (aY.of ag),cq ey,J,aO (by lia),(t.trans (s.trans S)).put hD,ag,?_,_,_,rfl⟩;rw [acb,aap,aap];refine (bE.ts ((aE.ts (s.trans S)).trans L) _ (nM _ id) (by simpa using r)).snoc (Dn.ts L _ (ir _) ?_);show Dn K _ (ff ((m.rows.getD j []).getD (B.getD j 0+0) (0,1))) y;rw [I,G,af9,aab,aL (by lia:b<m.rows[j].length)];exact Dn.same S _ dy
  rintro acc l H1 ⟨t,og,r,V,u,rfl⟩;rw [CT] at r;have r:bE K H1 ((hU m B 0).map ff) acc:=r;have Hi:=t.seq A;have S1:=N.trans t;refine ⟨_,rfl,U,rfl,.inl ⟨⟨_,Hi⟩,λ Y iw=>?_⟩⟩;refine kO (sq:=aY K) (a:=U) (xs:=B.map ao) (λ j acc l c=>A4 (aE H1 c) (c Y=some (.lst acc)) (bE K c (((List.range j).map λ j=>(m.rows.getD j []).getD (B.getD j 0+1) (0,1)).map ff) acc) (E2 λ V u=>l=[V,u,some (.ref a)]))
    ⟨al iw,ag,rfl,none,none,rfl⟩ (λ j acc l c Z e=>e.1.seq Hi) ?_ ?_
  .
   rintro j x p jz l c hx vb ⟨Rq,Oh,Ur,V,u,rfl⟩;obtain ⟨b,C,rfl⟩:=dC hx;have hj:j<B.length:=(QQ.mp C).1;have f:j<m.rows.length:=by lia
   have G:B.getD j 0=b:=by rw [aab,C];rfl
   have s:aE c (upd c p (.tup [ao j,ao b])):=al vb;have o:=S1.trans (Rq.trans s);have I:m.rows.getD j []=m.rows[j]:=by rw [aab,aL f];rfl
   have q:=W j f;rw [I,G] at q;refine ⟨p,_,rfl,bP.of ag,rfl,_,_,rfl,_,_,rfl,rfl,?_⟩;refine ⟨_,rfl,a,dx,_,rfl,o _ _ ha,rfl,_,rfl,a,R,m,j,_,rfl,M.same o,aL f,λ g X iK zM=>?_⟩;have S:aE (upd c p (.tup [ao j,ao b])) (upd (upd c p (.tup [ao j,ao b])) g (.lst X)):=al iK;obtain ⟨y,ey,dy⟩:=zM.get (i:=b+1) (d:=ff m.rows[j][b+1]) (by rw [aag,aL (by lia)];rfl);have J:=S _ _ (s _ _ Oh);have L:aS K (upd (upd c p (.tup [ao j,ao b])) g (.lst X)) (upd (upd (upd c p (.tup [ao j,ao b])) g (.lst X)) Y (.lst (jz++[y]))):=bW J rfl;have GI:jz.length=j:=by rw [Ur.length,CT,CT,aax]
   refine ⟨_,rfl,_,_,rfl,rfl,λ z ez=>?_⟩;obtain rfl:z=((b+1:Nat):Int):=by rw [ez];push_cast;rfl
   refine ⟨g,_,_,_,rfl,rfl,.inl (aY.of ag),cq ey,J,aO (by lia),(Rq.trans (s.trans S)).put iw,ag,?_,_,_,rfl⟩;rw [acb,aap,aap];refine (bE.ts ((aE.ts (s.trans S)).trans L) _ (nM _ id) (by simpa using Ur)).snoc (Dn.ts L _ (ir _) ?_);show Dn K _ (ff ((m.rows.getD j []).getD (B.getD j 0+1) (0,1))) y;rw [I,G,aab,aL (by lia:b+1<m.rows[j].length)];exact Dn.same S _ dy
  rintro jz l H2 ⟨s,J,O,V,u,rfl⟩;rw [CT] at O;have O:bE K H2 ((hU m B 1).map ff) jz:=O;have o:=S1.trans s;refine ⟨_,rfl,_,rfl,_,rfl,_,rfl,_,rfl,a,R,m,i,D,acc,hU m B 0,_,_,F,rfl,M.same o,hi,aY.of (s _ _ og),bE.same s _ r,Rs,qg q4 lb W (by decide),Dn.same ((t.trans s)) _ ae,an,hz,λ w1 H3 S ZO=>?_⟩;have S3:=o.trans S;refine ⟨_,rfl,_,rfl,_,rfl,_,rfl,_,rfl,a,R,m,i,Y,jz,hU m B 1,_,_,F,rfl,M.same S3,hi,aY.of (S _ _ J),bE.same S _ O,ah,qg q4 lb W (by decide),Dn.same ((t.trans s).trans S) _ ad,aj,hz,λ w2 H4 s4 ab=>⟨Hl,λ q hq=>?_⟩⟩;have s5:aE H4 (upd H4 q (.tup [.ref w1,.ref w2])):=al hq;exact k q w1 w2 _ ((S3.trans s4).trans s5) ag (s5 _ _ (s4 _ _ ZO)) (s5 _ _ ab)
 .
  have A:=N.tup A;refine ⟨_,rfl,U,rfl,.inr ⟨⟨_,A⟩,λ D hD=>?_⟩⟩;refine kO (sq:=bP K) (a:=U) (xs:=B.map ao) (λ j acc l c=>A4 (aE H0 c) (c D=some (.lst acc)) (bE K c (((List.range j).map λ j=>(m.rows.getD j []).getD (B.getD j 0+0) (0,1)).map ff) acc) (E2 λ V u=>l=[V,u,some (.ref a)]))
    ⟨al hD,ag,rfl,none,none,rfl⟩ (λ j acc l c Z e=>e.1.tup A) ?_ ?_
  .
   rintro j x p acc l c hx vb ⟨t,og,r,V,u,rfl⟩;obtain ⟨b,C,rfl⟩:=dC hx;have hj:j<B.length:=(QQ.mp C).1;have f:j<m.rows.length:=by lia
   have G:B.getD j 0=b:=by rw [aab,C];rfl
   have s:aE c (upd c p (.tup [ao j,ao b])):=al vb;have o:=N.trans (t.trans s);have I:m.rows.getD j []=m.rows[j]:=by rw [aab,aL f];rfl
   have q:=W j f;rw [I,G] at q;refine ⟨p,_,rfl,bP.of ag,rfl,_,_,rfl,_,_,rfl,rfl,?_⟩;refine ⟨_,rfl,a,dx,_,rfl,o _ _ ha,rfl,_,rfl,a,R,m,j,_,rfl,M.same o,aL f,λ g X iK zM=>?_⟩;have S:aE (upd c p (.tup [ao j,ao b])) (upd (upd c p (.tup [ao j,ao b])) g (.lst X)):=al iK;obtain ⟨y,ey,dy⟩:=zM.get (i:=b) (d:=ff m.rows[j][b]) (by rw [aag,aL (by lia)];rfl);have J:=S _ _ (s _ _ og);have L:aS K (upd (upd c p (.tup [ao j,ao b])) g (.lst X)) (upd (upd (upd c p (.tup [ao j,ao b])) g (.lst X)) D (.lst (acc++[y]))):=bW J rfl;have GI:acc.length=j:=by rw [r.length,CT,CT,aax]
   refine ⟨_,rfl,g,_,_,_,rfl,rfl,.inl (aY.of ag),cq ey,J,aO (by lia),(t.trans (s.trans S)).put hD,ag,?_,_,_,rfl⟩;rw [acb,aap,aap];refine (bE.ts ((aE.ts (s.trans S)).trans L) _ (nM _ id) (by simpa using r)).snoc (Dn.ts L _ (ir _) ?_);show Dn K _ (ff ((m.rows.getD j []).getD (B.getD j 0+0) (0,1))) y;rw [I,G,af9,aab,aL (by lia:b<m.rows[j].length)];exact Dn.same S _ dy
  rintro acc l H1 ⟨t,og,r,V,u,rfl⟩;rw [CT] at r;have r:bE K H1 ((hU m B 0).map ff) acc:=r;have Hi:=t.tup A;have S1:=N.trans t;refine ⟨_,rfl,U,rfl,.inr ⟨⟨_,Hi⟩,λ Y iw=>?_⟩⟩;refine kO (sq:=bP K) (a:=U) (xs:=B.map ao) (λ j acc l c=>A4 (aE H1 c) (c Y=some (.lst acc)) (bE K c (((List.range j).map λ j=>(m.rows.getD j []).getD (B.getD j 0+1) (0,1)).map ff) acc) (E2 λ V u=>l=[V,u,some (.ref a)]))
    ⟨al iw,ag,rfl,none,none,rfl⟩ (λ j acc l c Z e=>e.1.tup Hi) ?_ ?_
  .
   rintro j x p jz l c hx vb ⟨Rq,Oh,Ur,V,u,rfl⟩;obtain ⟨b,C,rfl⟩:=dC hx;have hj:j<B.length:=(QQ.mp C).1;have f:j<m.rows.length:=by lia
   have G:B.getD j 0=b:=by rw [aab,C];rfl
   have s:aE c (upd c p (.tup [ao j,ao b])):=al vb;have o:=S1.trans (Rq.trans s);have I:m.rows.getD j []=m.rows[j]:=by rw [aab,aL f];rfl
   have q:=W j f;rw [I,G] at q;refine ⟨p,_,rfl,bP.of ag,rfl,_,_,rfl,_,_,rfl,rfl,?_⟩;refine ⟨_,rfl,a,dx,_,rfl,o _ _ ha,rfl,_,rfl,a,R,m,j,_,rfl,M.same o,aL f,λ g X iK zM=>?_⟩;have S:aE (upd c p (.tup [ao j,ao b])) (upd (upd c p (.tup [ao j,ao b])) g (.lst X)):=al iK;obtain ⟨y,ey,dy⟩:=zM.get (i:=b+1) (d:=ff m.rows[j][b+1]) (by rw [aag,aL (by lia)];rfl);have J:=S _ _ (s _ _ Oh);have L:aS K (upd (upd c p (.tup [ao j,ao b])) g (.lst X)) (upd (upd (upd c p (.tup [ao j,ao b])) g (.lst X)) Y (.lst (jz++[y]))):=bW J rfl;have GI:jz.length=j:=by rw [Ur.length,CT,CT,aax]
   refine ⟨_,rfl,_,_,rfl,rfl,λ z ez=>?_⟩;obtain rfl:z=((b+1:Nat):Int):=by rw [ez];push_cast;rfl
   refine ⟨g,_,_,_,rfl,rfl,.inl (aY.of ag),cq ey,J,aO (by lia),(Rq.trans (s.trans S)).put iw,ag,?_,_,_,rfl⟩;rw [acb,aap,aap];refine (bE.ts ((aE.ts (s.trans S)).trans L) _ (nM _ id) (by simpa using Ur)).snoc (Dn.ts L _ (ir _) ?_);show Dn K _ (ff ((m.rows.getD j []).getD (B.getD j 0+1) (0,1))) y;rw [I,G,aab,aL (by lia:b+1<m.rows[j].length)];exact Dn.same S _ dy
  rintro jz l H2 ⟨s,J,O,V,u,rfl⟩;rw [CT] at O;have O:bE K H2 ((hU m B 1).map ff) jz:=O;have o:=S1.trans s;refine ⟨_,rfl,_,rfl,_,rfl,_,rfl,_,rfl,a,R,m,i,D,acc,hU m B 0,_,_,F,rfl,M.same o,hi,aY.of (s _ _ og),bE.same s _ r,Rs,qg q4 lb W (by decide),Dn.same ((t.trans s)) _ ae,an,hz,λ w1 H3 S ZO=>?_⟩;have S3:=o.trans S;refine ⟨_,rfl,_,rfl,_,rfl,_,rfl,_,rfl,a,R,m,i,Y,jz,hU m B 1,_,_,F,rfl,M.same S3,hi,aY.of (S _ _ J),bE.same S _ O,ah,qg q4 lb W (by decide),Dn.same ((t.trans s).trans S) _ ad,aj,hz,λ w2 H4 s4 ab=>⟨Hl,λ q hq=>?_⟩⟩;have s5:aE H4 (upd H4 q (.tup [.ref w1,.ref w2])):=al hq;exact k q w1 w2 _ ((S3.trans s4).trans s5) ag (s5 _ _ (s4 _ _ ZO)) (s5 _ _ ab)
def nB (T:Txt K mg Ad):Def P w K mg base "under" 1 ["one","other"] (GA K):=by
 refine T.Ec.dg Bz λ Z Z Z Z Z H v Q E n h=>?_;obtain ⟨p,o,a,b,c,d,rfl,e,f,B,g,i,j,k⟩:=h;refine ⟨_,(am (aI (dW lH (ax bN (aF aB (pv 0) ac) (aF aB (pv 1) ac)) (ax bN (aF aB (pv 1) ac) (aF aB (pv 0) ac)) (aK _)))),?_⟩;try dsimp only [fD,bj]
 refine ⟨_,rfl,_,_,_,_,rfl,rfl,.inr e,rfl,_,rfl,_,_,_,_,rfl,rfl,.inr f,rfl,_,_,rfl,rfl,⟨_,_,B,j,by decide⟩,λ x l=>?_⟩;refine ⟨_,rfl,_,_,_,_,rfl,rfl,.inr f,rfl,_,rfl,_,_,_,_,rfl,rfl,.inr e,rfl,_,_,rfl,rfl,⟨_,_,i,g,by decide⟩,λ X m=>⟨_,_,rfl,rfl,?_⟩⟩;subst l m;exact k
def DH (T:Txt K mg Ad):Def P w K mg base "touched" 5 ["hold","room","least","greatest"] (He K Ad.bp):=by
 refine T.Ft.dg uP λ Z Z Z Z Z H vs Q E B h=>?_;obtain ⟨a,fp,m,i,r,v1,v2,f,F,rfl,hh,V,d1,d2,o1,o2,k⟩:=h;refine ⟨_,(ai (cS (i:=4) uP.nd (bg (pv 0) T.aG (fM T) .nil B.m (aa (pv 1) af)))
     (am (aI (dB ["band"] ["greatest","least","marks"] [3,2,4] (.cons ⟨rfl,rfl,.inl rfl⟩ (.cons ⟨rfl,rfl,.inl rfl⟩ (.cons ⟨rfl,rfl,.inl rfl⟩ .nil))) rfl ge (cr rfl T.dG (aa (ax dI (aP bz (by rfl) T.eP cR (aa (pv 4) af)) ac) af)) (λ Z Z Z Z Z=>(lK (i:=0))) (λ Z Z Z Z Z=>(jP (PW.pt (my (dM (cB (aw (nB T) B.m (aa (pv 1) (aa (aF (ix (K:=K) rfl) (pv 3) (pv 0)) af))))) (kN (dM (cB (aw (nB T) B.m (aa (aF (ix (K:=K) rfl) (pv 3) (ax aT (pv 0) ac)) (aa (pv 2) af)))))))))) (λ Z Z Z Z Z=>(pv 0)))))),?_⟩
 try dsimp only [fD,bj]
 obtain ⟨⟨dx,pm,pf,ps,pt,vm,vs,vt,aD,sW,ha,Z⟩,ab,lst,l4,wf⟩:=id hh;have W:r∈m.rows:=aal V;have hl:=wf.len r W;have zK:=wf.rows r W;refine ⟨_,rfl,a,dx,_,rfl,ha,rfl,_,rfl,a,fp,m,i,r,rfl,hh,V,λ p X hp zM=>?_⟩;have S:aE H (upd H p (.lst X)):=al hp;have G:(upd H p (.lst X)) p=some (.lst X):=ag;have l:=bE.same S _ zM;have e1:=Dn.same S _ d1;have e2:=Dn.same S _ d2;generalize upd H p (.lst X)=H1 at S G l e1 e2 |-;have lx:X.length=r.length:=by rw [zM.length,CT]
 obtain ⟨p1,rfl,q1⟩:=e1.fr;obtain ⟨p2,rfl,q2⟩:=e2.fr;refine ⟨_,rfl,_,_,rfl,.inl (aY.of G),λ y ey=>?_⟩;have hn:2<=r.length/\r.length<=7:=hl;refine ⟨_,_,rfl,rfl,λ z ez=>⟨_,rfl,by lia,by lia,λ D u=>?_⟩⟩;obtain ⟨n,en⟩:∃ n:Nat,z=(n:Int)/\n+1=r.length:=⟨r.length - 1,by lia,by lia⟩
 obtain ⟨rfl,en⟩:=en;refine eS (lo:=0) (n:=n) (λ j A M c=>A4 (aE H1 c) (c D=some (.lst A)) (A=(k8 r f F j).map ao) (∃ v,M=[v,some (.ref p2),some (.ref p1),some (.ref p)]))
   ⟨al u,ag,rfl,none,rfl⟩ ?_ ?_
 .
  rintro j A M c hj ⟨s,I,rfl,v,rfl⟩;have U:j<r.length:=by lia
  have O:j+1<r.length:=by lia
  obtain ⟨x,ex,AW⟩:=(bE.same s _ l).get (i:=j) (d:=ff r[j]) (by rw [aag,aL U];rfl);obtain ⟨x',V4,Qi⟩:=(bE.same s _ l).get (i:=j+1) (d:=ff r[j+1]) (by rw [aag,aL O];rfl);obtain ⟨u1,rfl,w1⟩:=AW.fr;obtain ⟨u2,rfl,w2⟩:=Qi.fr;have N:=(zK r[j] (abq U)).mono (n:=20000) (by decide);have R:=(zK r[j+1] (abq O)).mono (n:=20000) (by decide);have J:=s.tup q1;have L:=s.tup q2;have g:=s _ _ G;have o:rB r f F j=((!ce F r[j]) && !ce r[j+1] f):=by
    unfold rB;rw [aab,aab,aL U,aL O];rfl
  have la:=mV r f F j;refine ⟨_,rfl,_,rfl,_,rfl,_,_,_,_,rfl,rfl,.inl (aY.of g),by rw [aca];exact cq ex,p2,u1,_,_,_,_,rfl,L,w1,o2.t,o2.b,N.t,N.b,_,rfl,?_⟩;show if (!ce F r[j])=true then _ else _;cases C:ce F r[j] with
  | true =>
    refine dE (dE ⟨s,I,?_,_,rfl⟩);rw [kM,o,C];simp
  | false =>
    refine fE ⟨_,rfl,_,rfl,_,_,rfl,rfl,λ y1 q=>⟨_,_,_,_,rfl,rfl,.inl (aY.of g),by rw [q,aca];exact cq (j:=j+1) V4,_,rfl,u2,p1,_,_,_,_,rfl,w2,J,R.t,R.b,o1.t,o1.b,_,rfl,?_⟩⟩;show if (!ce r[j+1] f)=true then _ else _;cases Y:ce r[j+1] f with
    | true =>
      refine dE ⟨s,I,?_,_,rfl⟩;rw [kM,o,C,Y];simp
    | false =>
      refine fE ⟨_,rfl,I,aO (by rw [CT];lia),s.put u,ag,?_,_,rfl⟩;rw [kM,o,C,Y,aap,aca];rfl
 .
  rintro A M c ⟨s,I,rfl,v,rfl⟩;have e:n=r.length - 1:=by lia
  rw [e] at I;exact k D c (S.free u) (S.trans s) I
def FU (T:Txt K mg Ad):Def P w K mg base "within" 5 ["hold","room","least","greatest"] (CB K Ad.bp):=by
 refine T.Jm.dg xu λ Z Z Z Z Z H vs Q E l h=>?_;obtain ⟨a,fp,m,i,r,v1,v2,f,F,rfl,y,s,L,N,O,z,k⟩:=h;refine ⟨_,(ai (cS (i:=4) xu.nd (bg (pv 0) T.aG (fM T) .nil l.m (aa (pv 1) af)))
     (am (aI (kU (uK (aw (nB T) l.m (aa (pv 2) (aa (aF aB (pv 4) ac) af)))) (kP (uK (aw (nB T) l.m (aa (aF aB (pv 4) (oA o7 ac)) (aa (pv 3) af))))))))),?_⟩
 try dsimp only [fD,bj]
 obtain ⟨⟨R,pm,pf,ps,pt,vm,vs,vt,aD,sW,ha,Z⟩,ab,lst,l4,W⟩:=id y;have U:r∈m.rows:=aal s;have hl:=W.len r U;have B:=W.rows r U;refine ⟨_,rfl,a,R,_,rfl,ha,rfl,_,rfl,a,fp,m,i,r,rfl,y,s,λ p X hp G=>?_⟩;have S:aE H (upd H p (.lst X)):=al hp;have o:(upd H p (.lst X)) p=some (.lst X):=ag;have D:=bE.same S _ G;have u:=Dn.same S _ L;have v:=Dn.same S _ N;generalize upd H p (.lst X)=q at S o D u v |-;have lx:X.length=r.length:=by rw [G.length,CT]
 obtain ⟨p1,rfl,q1⟩:=u.fr;obtain ⟨p2,rfl,q2⟩:=v.fr;have e:0<r.length:=by lia
 have g:r.length - 1<r.length:=by lia
 obtain ⟨x,ex,I⟩:=D.get (i:=0) (d:=ff r[0]) (by rw [aag,aL e];rfl);obtain ⟨x',V,J⟩:=D.get (i:=r.length - 1) (d:=ff r[r.length - 1]) (by rw [aag,aL g];rfl);obtain ⟨u1,rfl,w1⟩:=I.fr;obtain ⟨u2,rfl,w2⟩:=J.fr;have A:=(B r[0] (abq e)).mono (n:=20000) (by decide);have M:=(B r[r.length - 1] (abq g)).mono (n:=20000) (by decide);have Y:nu r f F=((!ce f r[0]) && !ce r[r.length - 1] F):=by
   unfold nu;rw [aab,aab,aL e,aL g];rfl
 have c:=k q S;rw [Y] at c;refine ⟨_,rfl,_,rfl,_,_,_,_,rfl,rfl,.inl (aY.of o),cq (j:=0) ex,p1,u1,_,_,_,_,rfl,q1,w1,O.t,O.b,A.t,A.b,_,rfl,_,rfl,?_⟩;show if (!ce f r[0])=true then _ else _;cases C:ce f r[0] with
 | true =>
   rw [C] at c;exact dE c
 | false =>
   rw [C] at c;refine fE ⟨_,rfl,_,rfl,_,_,_,_,rfl,rfl,.inl (aY.of o),Lv (by lia) (by rw [lx];exact V),_,rfl,u2,p2,_,_,_,_,rfl,w2,q2,M.t,M.b,z.t,z.b,_,rfl,?_⟩;show Q (.bl (!ce r[r.length - 1] F)) q;exact c
def vB (T:Txt K mg Ad):Def P w K mg base "each_choice" 1 ["rows"] (Dk K):=by
 refine T.wB.dg eG λ Z Z Z Z Z H vs Q E hr h=>?_;obtain ⟨p,xs,rows,rfl,hp,u,l4,l6,k⟩:=h;refine ⟨_,(ai (cS (i:=1) eG.nd (cQ (aa (bJ af) af)))
     (ai (cP abM rfl (bS (pv 0)) (iF (i:=2) eG.nd) (ai (cS (i:=3) eG.nd (cQ af))
     (ai (cP abM rfl (bS (pv 1)) (iF (i:=4) eG.nd) (am (bo (g8 abx afQ afP wO (pv 3) (aa (dB ["band"] ["choice"] [4] (.cons ⟨rfl,rfl,.inl rfl⟩ .nil) rfl ge (bS (pv 2)) (λ Z Z Z Z Z=>(lK (i:=0))) (λ Z Z Z Z Z=>cC) (λ Z Z Z Z Z=>(ax (vy (K:=K) rfl) (pv 1) (bJ (aa (pv 0) af))))) af)))))
     (am (cS (i:=1) eG.nd (pv 3))))))
     (am (aI (pv 1))))),?_⟩
 try dsimp only [fD,bj]
 try (refine dR ?_;intro Z Z Z Z)
 refine ⟨Fo,λ t0 ae=>⟨GW,λ pc ab=>?_⟩⟩;have s0:=al (o:=.tup []) ae;have s1:=al (o:=.lst [.ref t0]) ab;refine ⟨_,rfl,p,rfl,⟨_,(s0.trans s1).seq hp⟩,?_⟩;have lx:=u.length;refine kr (K:=K) (a:=p) (xs:=xs) (λ i f d=>aE H d/\E2 λ q Y=>A3 (d q=some (.lst Y)) (MO K d Y (bF (rows.take i))) (E3 λ (v2 v3 V:eO)=>f=[some (.ref p),some (.ref q),v2,v3,V]))
   ⟨s0.trans s1,pc,[.ref t0],ag,Refs.snoc .nil (bP.of (s1 _ _ ag)),none,none,none,rfl⟩ (λ i f d Z ⟨W,_⟩=>W.seq hp) ?_ ?_
 .
  rintro i x f H1 hx ⟨J,q,Y,M,m,v2,v3,V,rfl⟩;obtain ⟨U,r,rfl,er,ad⟩:=u.get hx;have hi:i<rows.length:=(QQ.mp er).1;have r6:=l6 r (aal er);have lc:=jQ l6 i;have p6:6 ^ i<=216:=by
    have:=aci (n:=6) (by decide) (show i<=3 by lia);lia
  have YY:bF (rows.take (i+1))=(bF (rows.take i)).flatMap λ c=>r.map λ b=>c++[b]:=by
    rw [bQ er,jj]
  have L:∀ c∈bF (rows.take i),c.length<=4:=λ c h=>by
    have:=(iC.mp h).1;rw [abw] at this;lia
  generalize bF (rows.take i)=cs at m lc YY L;rw [YY];clear YY;refine ⟨Fo,λ C gT=>?_⟩;have W:=al (o:=.lst []) gT;refine ⟨_,rfl,q,rfl,⟨_,aY.of (W _ _ M)⟩,?_⟩;refine kr (K:=K) (a:=q) (xs:=Y) (λ j f d=>aE H1 d/\∃ e,A3 (d C=some (.lst e)) (MO K d e ((cs.take j).flatMap λ c=>r.map λ b=>c++[b])) (∃ (V:eO),f=[some (.ref p),some (.ref q),some (.ref U),some (.ref C),V]))
    ⟨W,[],ag,.nil,V,rfl⟩ (λ j f d Z ⟨s,_⟩=>aY.of (s _ _ M)) ?_ ?_
  .
   rintro j y f I hy ⟨S,e,O,t,V,rfl⟩;obtain ⟨tc,c,rfl,ec,XW⟩:=m.get hy;have hj:j<cs.length:=(QQ.mp ec).1;have DF:aY K I U (r.map ao):=(J.trans S).seq ad;have MM:bP K I tc (c.map ao):=S.tup XW;have lz:e.length<=216 * 6:=by
     rw [t.length];refine abk (fR (k:=6) λ a=>by rw [CT];exact r6) ?_;rw [abw];lia
   rw [bQ ec,agj,af2];refine ⟨_,rfl,.inl ⟨rfl,_,aY.of O⟩,_,rfl,U,rfl,⟨_,DF⟩,λ D hD=>?_⟩;refine cG (K:=K) (a:=U) (xs:=r.map ao) (λ b A g l=>A4 (aE I l) (l D=some (.lst A)) (MO K l A ((r.take b).map λ x=>c++[x])) (∃ v,g=[v,some (.ref tc)]))
     ⟨al hD,ag,.nil,none,rfl⟩ (λ b A g l Z ⟨s,_,_,_⟩=>s.seq DF) ?_ ?_
   .
    rintro b z A g l hb ⟨s,R,N,v,rfl⟩;obtain ⟨bn,eb,rfl⟩:=dC hb;have ah:b<r.length:=(QQ.mp eb).1;have la:A.length<=6:=by rw [N.length,CT,abw];lia
    refine ⟨_,rfl,_,rfl,GW,λ tb XU=>?_⟩;have F:=al (o:=.tup [ao bn]) XU;refine ⟨tc,tb,_,_,rfl,rfl,(s.trans F).tup MM,bP.of ag,?_,λ t5 H5 X h5=>?_⟩
    . have:=L c (aal ec);exact adn (aO (by rw [CT,aa3];lia))
    . refine ⟨X _ _ (F _ _ R),abj la (by decide),((s.trans F).trans X).put hD,ag,?_,_,rfl⟩;rw [bQ eb,aap];have G:aS K H5 (upd H5 D (.lst (A++[.ref t5]))):=bW (X _ _ (F _ _ R)) rfl;refine Refs.snoc (N.imp λ p a h=>G _ _ ((F.trans X).tup h)) (G _ _ ?_);rw [aap];exact h5
   .
    rintro A g l ⟨s,R,N,v,rfl⟩;rw [CT,abz] at N;have la:A.length<=6:=by rw [N.length,CT];exact r6
    have B:=s _ _ O;refine ⟨C,D,e,A,rfl,rfl,B,R,adn (abj (show e.length+A.length<=1302 by lia) (by decide)),?_⟩;have G:aS K l (upd l C (.lst (e++A))):=bW B rfl;exact ⟨(S.trans s).put gT,_,ag,Refs.append (t.imp λ p a h=>G _ _ (s.tup h)) (N.imp λ p a h=>G _ _ h),_,rfl⟩
  . rintro f I ⟨S,e,O,t,V,rfl⟩;rw [m.length,abz] at t;exact ⟨_,rfl,J.trans S,C,e,O,t,_,_,_,rfl⟩
 . rintro f H1 ⟨J,q,Y,M,m,v2,v3,V,rfl⟩;rw [ac2 (by lia)] at m;exact ⟨_,rfl,k q Y H1 J M m⟩
def pC (T:Txt K mg Ad):jx P w K mg base Ad.Reach "__init__" 1 ["self","hold"] [] (Fq P w K Ad.bp Ad.Reach):=by
 refine T.rZ.iA pY λ Z Z Z Z Z H V Q E A h=>?_;obtain ⟨x,D,a,F,m,rfl,t,q,nx,k⟩:=h;refine ⟨_,(ai (eV (pv 0) (pv 1) rfl)
     (am (eV (pv 0) (DX (P:=P) (w:=w) rfl rfl) rfl))),?_⟩
 try dsimp only [fD,bj]
 have l:kH K Ad.Reach x D H H []:=.start t;refine ⟨_,rfl,_,rfl,x,_,D,_,rfl,l.at_,T.d7,T.d9,lt1000 rfl,?_⟩;have g:=l.put (fs':=aN "hold" (.ref a) []);intro d j;have p:=g.new (o:=lJ P w d []) j;refine ⟨_,rfl,x,_,D,_,rfl,p.at_,T.d7,T.eA,lt1000 rfl,?_⟩;have B:=p.put (fs':=aN "spreads" (.ref d) (aN "hold" (.ref a) []));have N:d≠x:=g.ne j;have b:H d=none:=g.none j;refine k d _ (λ c u s n=>B.st c u s λ z=>n (aac.mpr z)) B.ts b ⟨⟨D,B.at_⟩,q.Ma B.st B.ts nx,λ z=>?_,[],iQ.nil (by rw [av N];exact ag),aaD _,λ i y f v e=>by cases e⟩;obtain ⟨o,r⟩:=q.some d z;rw [b] at r;cases r
def rF (T:Txt K mg Ad):jx P w K mg base Ad.Reach "spread" 8 ["self","room","bands","fired"] [] (GX P w K Ad.bp Ad.Reach):=by
 refine T.uo.iA fe λ Z Z Z Z Z H vs Q E l h=>?_;obtain ⟨x,d,a,F,m,c,i,t,B,b,L,rfl,Qb,hL,hc,hi,HS,lb,hb,hf,Xc,WA,k⟩:=h;refine ⟨_,(ai (cS (i:=4) fe.nd (bJ (aa (pv 1) (aa (pv 2) (aa (pv 3) af)))))
     (ai (eW (br (aJ (wP (P:=P) (w:=w) (K:=K) rfl rfl rfl l.Nm) (pv 4) (aW (pv 0) rfl) (by with_unfolding_all rfl)) (ai (ip (aw (CZ T) l.m (aa (aW (pv 0) rfl) (aa (pv 1) (aa (pv 2) (aa (pv 3) af))))) (dH (K:=K) (n:=2) rfl rfl (aQ (iF (i:=5) fe.nd) (aQ (iF (i:=6) fe.nd) dL))))
     (ai (cS (i:=7) fe.nd (aw (FU T) l.m (aa (aW (pv 0) rfl) (aa (pv 1) (aa (pv 5) (aa (pv 6) af))))))
     (am (Ee (P:=P) (w:=w) (K:=K) rfl rfl rfl l.Nm (aW (pv 0) rfl) (pv 4) (uS (cB (pv 7)) (aw (DH T) l.m (aa (aW (pv 0) rfl) (aa (pv 1) (aa (pv 5) (aa (pv 6) af))))) cY) rfl)))) aH))
     (am (aI (tX (P:=P) (w:=w) (K:=K) rfl rfl rfl l.Nm (aW (pv 0) rfl) (pv 4) (λ Z Z=>rfl)))))),?_⟩
 try dsimp only [fD,bj]
 try (refine dR ?_;intro Z Z Z Z)
 refine ⟨_,rfl,_,rfl,_,rfl,Nh,λ tk Wg=>?_⟩;have g:=al (o:=.tup [ao i,.ref t,.bl b]) Wg;have J:=Qb.same g;have V:hG K (upd H tk (.tup [ao i,.ref t,.bl b])) (lL i B b) tk:=DJ (bP.of ag) (g.tup HS);generalize upd H tk (.tup [ao i,.ref t,.bl b])=H1 at g J V |-;obtain ⟨⟨D,p⟩,O,nd,A,N,C,R⟩:=id J;refine ⟨λ u j=>(E2 λ A v=>A7 (gU [d] H1 j) (aS K H1 j) (eU P w K Ad.bp Ad.Reach L j x d a F m (c+1)) (iQ P w K j d A) (hG K j (lL i B b) tk) (i5 A (lL i B b)=some v) (fG L j v (dZ m i B b)))/\E3 λ (v5 v6 v7:eO)=>u=[some (.ref x),some (ao i),some (.ref t),some (.bl b),some (.ref tk),v5,v6,v7],?_,?_⟩
 .
  refine ⟨_,rfl,_,rfl,x,_,D,_,_,rfl,p,T.d7,T.eA,rfl,d,tk,A,_,rfl,rfl,N,V,_,rfl,?_⟩;cases e:i5 A (lL i B b) with
  | some v=>exact dE ⟨⟨A,v,λ Z Z h Z=>h,aS.refl _,J.more (adJ _),N,V,e,R i B b v e⟩,none,none,none,rfl⟩
  | none =>
    refine fE ?_;refine ⟨_,rfl,x,_,D,_,_,rfl,p,T.d7,T.d9,rfl,_,rfl,_,rfl,_,rfl,a,F,m,i,t,B,b,rfl,O,hi,.inr (g.tup HS),lb,hb,hf,λ q q1 q2 H2 Y e0 e1 e2=>?_⟩;refine ⟨q,_,rfl,bP.of e0,rfl,_,_,rfl,_,_,rfl,rfl,?_⟩;have I:=Y _ _ p;have yz:=aL hi;have PN:m.rows.getD i []=m.rows[i]:=by rw [aab,yz];rfl
    refine ⟨_,rfl,x,_,D,_,_,rfl,I,T.d7,T.d9,rfl,_,rfl,_,rfl,_,rfl,a,F,m,i,m.rows[i],.ref q1,.ref q2,_,_,rfl,O.same Y,yz,mI (bP.of e1),mI (bP.of e2),Xc,WA,λ H3 s3=>?_⟩;have S:=Y.trans s3;have SB:=S _ _ p;have y:dZ m i B b=if nu m.rows[i] (mQ m i B b) (mF m i B b)=true then some (rY m.rows[i] (mQ m i B b) (mF m i B b)) else none:=by unfold dZ;rw [PN]
    cases ew:nu m.rows[i] (mQ m i B b) (mF m i B b) with
    | true =>
      rw [ew,abE rfl] at y;refine ⟨_,rfl,_,rfl,fE ⟨_,rfl,x,_,D,_,_,rfl,SB,T.d7,T.d9,rfl,_,rfl,_,rfl,_,rfl,a,F,m,i,m.rows[i],.ref q1,.ref q2,_,_,rfl,O.same S,yz,mI (bP.of (s3 _ _ e1)),mI (bP.of (s3 _ _ e2)),Xc,WA,λ G H4 nt s4 ht=>?_⟩⟩;have s:=S.trans s4;have M:fG L H4 (.ref G) (dZ m i B b):=by rw [y];exact ⟨G,rfl,λ z=>hL G z ((g.trans S).free nt),ht⟩
      obtain ⟨U,W,r,X⟩:=(J.same s).put (N.same s) C (λ i B f v e=>(R i B f v e).same s) (V.ts s.ts) M;exact ⟨_,rfl,x,_,D,_,_,rfl,s _ _ p,T.d7,T.eA,rfl,_,rfl,d,tk,A,_,rfl,rfl,N.same s,V.ts s.ts,abj (abk C hc) (by decide),⟨_,.ref G,λ c o e n=>W c o (s c o e) n,s.ts.trans r,U,(N.same s).put (V.ts s.ts),(V.ts s.ts).ts r,by rw [mq,abE rfl],X⟩,_,_,_,rfl⟩
    | false =>
      rw [ew,abC abu] at y;have M:fG L H3 .cT (dZ m i B b):=by rw [y];rfl
      obtain ⟨U,W,r,X⟩:=(J.same S).put (N.same S) C (λ i B f v e=>(R i B f v e).same S) (V.ts S.ts) M;exact ⟨_,rfl,_,rfl,dE ⟨_,rfl,x,_,D,_,_,rfl,SB,T.d7,T.eA,rfl,_,rfl,d,tk,A,_,rfl,rfl,N.same S,V.ts S.ts,abj (abk C hc) (by decide),⟨_,.cT,λ c o e n=>W c o (S c o e) n,S.ts.trans r,U,(N.same S).put (V.ts S.ts),(V.ts S.ts).ts r,by rw [mq,abE rfl],X⟩,_,_,_,rfl⟩⟩
 .
  rintro u H2 ⟨⟨IX,v,b2,t2,WY,Up,T0,ev,K0⟩,v5,v6,v7,rfl⟩;obtain ⟨Qi,I⟩:=WY.ins;refine ⟨_,rfl,x,_,Qi,_,_,rfl,I,T.d7,T.eA,rfl,_,rfl,d,tk,IX,_,v,rfl,rfl,Up,T0,ev,?_⟩;exact k v H2 (λ c o e n=>b2 c o (g c o e) n) (g.ts.trans t2) WY K0
def ke (T:Txt K mg Ad):jx P w K mg base Ad.Reach "states_behind" 9 ["self","state","order"] [] (Ge P w K Ad.bp Ad.Reach):=by
 refine T.lI.iA ci λ Z Z Z Z Z H vs Q E G h=>?_;obtain ⟨x,d,a,F,m,c,p,st,o,L,rfl,Qb,hL,hc,hs,so,ow,tn,CM,k1,k2⟩:=h;refine ⟨_,(ai (cS (i:=3) ci.nd (cQ af))
     (ai (cP abM rfl (bS (aw (u9 T) G.m (aa (aw (Cp T) G.m (aa (aW (pv 0) rfl) (aa (pv 1) (aa (pv 2) af)))) af))) (iF (i:=4) ci.nd) (ai (cS (i:=5) ci.nd (ax nK (pv 2) (oA De (pv 4))))
     (ai (lP (yi:=6) ["room"] ["self","state","burning"] [0,1,5] (.cons ⟨rfl,rfl,.inl rfl⟩ (.cons ⟨rfl,rfl,.inl rfl⟩ (.cons ⟨rfl,rfl,.inl rfl⟩ .nil))) rfl (cr rfl T.dG (aa (fZ (aW (pv 0) rfl) T.aG (cN T) .nil G.m) af)) (λ Z Z Z Z Z=>(lK (i:=0))) (λ Z Z Z Z Z=>cC) (λ Z Z Z Z Z=>(bg (pv 1) T.d7 (rF (P:=P) (w:=w) T) .nil G.m (aa (pv 0) (aa (aF (ix (K:=K) rfl) (pv 2) ac) (aa (aw (fO T) G.m (aa (pv 3) (aa (pv 0) af))) af))))) ci.nd (lc rfl))
     (ai (br (aJ (Qz (Fj G)) cY (pv 6) (by with_unfolding_all rfl)) (am (aI cY)) aH)
     (ai (cS (i:=7) ci.nd (aw (rV T) G.m (aa (aW (pv 0) rfl) (aa (pv 1) (aa (pv 2) (aa (pv 4) af))))))
     (am (bo (g8 abx afQ afP wO (pv 3) (aa (dB ["bands"] ["stoves"] [7] (.cons ⟨rfl,rfl,.inl rfl⟩ .nil) rfl ge (bS (aw (vB T) G.m (aa (pv 6) af))) (λ Z Z Z Z Z=>(lK (i:=0))) (λ Z Z Z Z Z=>cC) (λ Z Z Z Z Z=>(ax (vy (K:=K) rfl) (bJ (aa (pv 0) af)) (pv 1)))) af)))))))))
     (am (aI (pv 3))))),?_⟩
 try dsimp only [fD,bj]
 try (refine dR ?_;intro Z Z Z Z)
 obtain ⟨Z,Z,Z,q3,q4⟩:=id Qb.hold;refine ⟨Fo,λ f V=>?_⟩;have s1:=al (o:=.lst []) V;have e1:(upd H f (.lst [])) f=some (.lst []):=ag;generalize upd H f (.lst [])=H1 at s1 e1 |-;obtain ⟨dx,hx⟩:=Qb.ins;refine ⟨_,rfl,x,_,dx,_,_,rfl,s1 _ _ hx,T.d7,T.d9,rfl,_,rfl,_,rfl,a,F,m,p,st,o,rfl,Qb.hold.same s1,hs.same s1,so,ow,λ H2 s2=>?_⟩;have S2:=s1.trans s2;have ar:st.may m o<16:=zq q3;have ol:=pT ar;refine ⟨st.may m o,rfl,by lia,ol.1,λ pl H3 gT s3 U=>⟨pl,rfl,⟨_,aY.of U⟩,?_⟩⟩;have S:=S2.trans s3;have e3:H3 f=some (.lst []):=s3 _ _ (s2 _ _ e1);have a0:pl≠f:=(ay (s2 _ _ e1) gT).symm;have Zz:f∉F:=λ z=>by
   obtain ⟨u,hu⟩:=Qb.hold.some f z;rw [V] at hu;cases hu
 have VL:eU P w K Ad.bp Ad.Reach (f::L) H3 x d a F m c:=(Qb.new V).same S;obtain ⟨a4,Ut,Z⟩:=VL.O9;have OS:pl≠d:=λ z=>by rw [z,Ut.ob] at U;cases U
 have ad:f≠d:=λ z=>by rw [z,Ut.ob] at e3;cases e3
 have PR:=hs.same S;have lo:(dO m st o).length<=16:=ol.2;have U:H3 pl=some (.lst ((dO m st o).map ao)):=U;unfold mm at k2;generalize dO m st o=O at U lo tn k1 k2;refine gA (K:=K) (a:=pl) (xs:=O.map ao) (λ i σ H'=>A6 (gU [d,f] H3 H') (aS K H3 H') (eU P w K Ad.bp Ad.Reach (f::L) H' x d a F m (c+4 * i)) (∃ X,H' f=some (.lst X)/\lG K H' X ((O.take i).flatMap (gF m st o))) (∀ out∈O.take i,jK m st (Ord.off o out)=true) (E4 λ (v4 v5 v6 v7:eO)=>σ=[some (.ref x),some (.ref p),some (ao o),some (.ref f),v4,v5,v6,v7]))
   ⟨λ Z Z h Z=>h,aS.refl _,VL,⟨[],e3,Refs.nil⟩,λ Z h=>absurd h (by simp),none,none,none,none,rfl⟩ (λ i σ H' Z ⟨b,_,_,_,_,_⟩=>aY.of (b _ _ U (by simp [OS,a0]))) ?_ ?_
 .
  rintro Z i v σ H4 hv ⟨b4,t4,N,⟨X,LA,zE⟩,EH,v4,v5,v6,v7,rfl⟩;obtain ⟨out,eo,rfl⟩:=dC hv;have hi:i<O.length:=(QQ.mp eo).1;have TC:=tn out (aal eo);have C:∀ i,(Ord.off o out).testBit i=true->m.has i=true:=λ i h=>(TC.OG (TC.QT h).1).2;refine ⟨_,rfl,_,rfl,_,rfl,_,_,rfl,rfl,λ y ey=>?_⟩;obtain rfl:y=((Ord.off o out:Nat):Int):=by rw [ey];exact oW _ _
  obtain ⟨Z7,Yy⟩:=N.ins;obtain ⟨⟨aj,Z,Z,Z,Z,Z,Z,Z,Z,Z,ah,Z⟩,Z⟩:=id N.hold;refine ⟨_,rfl,x,_,Z7,_,_,rfl,Yy,T.d7,T.d9,rfl,a,aj,_,rfl,ah,rfl,a,F,m,rfl,N.hold,_,rfl,by lia,by lia,λ D R=>?_⟩;have Sk:gS K H4 p st:=PR.ts t4;obtain ⟨pb,pw,pf,h0,QW,a3,a2⟩:=id Sk;obtain ⟨a5,Xk,Z⟩:=N.O9;have nD:D≠d:=(ay Xk.ob R).symm;have aD:D∉F:=λ z=>by
    obtain ⟨u,hu⟩:=N.hold.some D z;rw [R] at hu;cases hu
  refine eS (lo:=0) (n:=m.rows.length) (λ j A g H5=>A6 (gU [d] H4 H5) (aS K H4 H5) (eU P w K Ad.bp Ad.Reach (D::f::L) H5 x d a F m (c+4 * i+j)) (H5 D=some (.lst A)) (Paired (fG (D::f::L) H5) A ((List.range j).map (sx m st (Ord.off o out)))) (∃ v,g=[v,some (.ref x),some (.ref p),some (ao (Ord.off o out))]))
    ⟨λ b u h Z=>al R b u h,(al R).ts,(N.new R).same (al R),ag,.nil,none,rfl⟩ ?_ ?_
  .
   rintro j A g H5 hj ⟨M,I,l,Tf,W,v,rfl⟩;obtain ⟨SM,VH⟩:=l.ins;obtain ⟨a6,Va,Z⟩:=l.O9;have la:A.length=j:=by rw [ad4 W,CT,aax]
   have M7:=M _ _ LA (by simp [ad]);obtain ⟨Xc,WA⟩:=CM j ((Ord.off o out).testBit j) hj (C j);refine ⟨_,rfl,x,SM,_,rfl,VH,rfl,_,rfl,_,rfl,p,_,_,_,rfl,rfl,.inr (I _ _ h0),rfl,_,rfl,_,rfl,Ord.off o out,j,by rw [aca];rfl,?_⟩;refine ⟨x,d,a,F,m,c+4 * i+j,j,pb,st.bL,(Ord.off o out).testBit j,D::f::L,by rw [aca];rfl,l,?_,by lia,hj,I _ _ QW,so.lb,λ j hj=>by have:=so.band j hj;unfold gN at this;rw [aab];exact this,λ z=>?_,Xc,WA,λ v6 H6 b6 t6 ae ZB=>?_⟩
   .
    intro b hb;rcases aah.mp hb with rfl|hb
    . rw [Tf];exact nofun
    rcases aah.mp hb with rfl|hb
    . rw [M7];exact nofun
    . by_cases z:b=d
      . rw [z,Va.ob];exact nofun
      . cases e:H b with
        | none=>exact absurd e (hL b hb)
        | some u=>rw [M b u (b4 b u (S b u e) (by simp only [aah,aak,ack,adE];exact ⟨z,ay e V⟩)) (by simp [z])];exact nofun
   . obtain ⟨z',ez⟩:=uA (C j z);exact ⟨z',by rw [nF (by lia),ez]⟩
   .
    have MU:=b6 _ _ Tf (by simp [nD]);obtain ⟨a7,ZE,Z⟩:=ae.O9;have ks:∀ {v r},fG (D::f::L) H6 v r->fG (D::f::L) (upd H6 D (.lst (A++[v6]))) v r:=λ h=>h.but ZE.ob oX (λ c u e Z n=>by rw [av (λ z=>n (by simp [z]))];exact e) λ Z h=>h;refine ⟨MU,aO (by lia),λ b u h n=>by rw [av (ay h R)];exact b6 b u (M b u h n) n,I.trans (t6.trans (bW MU rfl)),ae.write MU (by simp) aD,ag,?_,_,rfl⟩;rw [acb,aap];exact aeI (Paired.ym W λ a r h=>ks (h.but Va.ob oX (λ c u e n Z=>b6 c u e (by simp [n])) λ Z h=>h)) (ks ZB)
  .
   rintro A g H5 ⟨M,I,l,Tf,W,v,rfl⟩;have QC:∀ v∈A,v = .cT\/∃ a ys,v = .ref a/\aY K H5 a ys:=λ v hv=>(EQ W v hv).imp id λ ⟨q,ys,e,h⟩=>⟨q,ys,e,aY.of h⟩
   have M7:=M _ _ LA (by simp [ad]);obtain ⟨SM,VH⟩:=l.ins;have B5:gU [d] H H5:=λ b u h n=>M b u (b4 b u (S b u h) (by
     simp only [aah,aak,ack,adE] at n |-;exact ⟨n,ay h V⟩)) n
   have T5:aS K H H5:=S.ts.trans (t4.trans I);refine ⟨_,rfl,D,A,rfl,rfl,aY.of Tf,QC,_,rfl,gi (λ hn=>?_) (λ hn=>?_)⟩
   . exact k1 ⟨out,aal eo,xc.mp ((uQ W).mp hn)⟩ H5 B5 T5 ((l.less λ b h=>aar _ (aar _ h)).more (by lia))
   have nn:none∉(List.range m.rows.length).map (sx m st (Ord.off o out)):=λ z=>hn ((uQ W).mpr z);have yz:=Au W nn;rw [Mv] at yz;have sf:jK m st (Ord.off o out)=true:=by
     cases e:jK m st (Ord.off o out) with
     | true=>rfl
     | false=>exact absurd (xc.mpr e) nn
   refine ⟨_,rfl,x,_,SM,_,_,rfl,VH,T.d7,T.d9,rfl,_,rfl,_,rfl,_,rfl,a,F,m,p,st,o,out,rfl,l.hold,Sk.ts I,so,λ i h=>TC.has h,TC.NP,TC.NA,λ qt a1 zF H6 s6 g1 g2 g3=>?_⟩;have lr:(fy m st (Ord.off o out)).length=m.rows.length:=by unfold fy;rw [CT,aax]
   refine ⟨_,rfl,.inl ⟨rfl,_,aY.of (s6 _ _ M7)⟩,_,rfl,D,A,fy m st (Ord.off o out),rfl,aY.of (s6 _ _ Tf),yz.imp λ q r h=>aY.of (s6 _ _ h),by lia,BX q4,λ qc ys H7 s7 ab xL=>⟨qc,rfl,⟨_,aY.of ab⟩,λ D2 iw=>?_⟩⟩;have bl:=kK q4 q3 (s:=st) (o:=o) out;unfold gF at bl;rw [CT] at bl;have eb:gF m st o out=(bF (fy m st (Ord.off o out))).map λ c=>st.behind m c o out:=rfl;have l4:∀ c∈bF (fy m st (Ord.off o out)),c.length<=4:=λ c h=>by have:=(iC.mp h).1;lia
   generalize bF (fy m st (Ord.off o out))=cs at xL bl eb l4;refine cG (K:=K) (a:=qc) (xs:=ys) (λ j J g B=>A4 (aE H7 B) (B D2=some (.lst J)) (lG K B J ((cs.take j).map λ c=>st.behind m c o out)) (∃ v,g=[v,some (.ref qt)]))
     ⟨al iw,ag,Refs.nil,none,rfl⟩ (λ j J g B Z ⟨Y,_,_,_⟩=>aY.of (Y _ _ ab)) ?_ ?_
   .
    rintro j z J g B hz ⟨Y,NH,u7,v,rfl⟩;obtain ⟨tc,cc,rfl,ec,XW⟩:=xL.get hz;have hj:j<cs.length:=(QQ.mp ec).1;have la:J.length<=1296:=by rw [u7.length,CT,abw];lia
    have PB:=s7.trans Y;refine ⟨_,rfl,GW,λ tb XU=>?_⟩;have s9:=al (o:=.tup [.ref tc]) XU;refine ⟨_,rfl,tb,qt,_,_,rfl,rfl,bP.of ag,bP.of (s9 _ _ (PB _ _ g1)),(by show 1+4<=sizeLine;decide),λ tq GU xU an=>?_⟩;have VO:=xU _ _ (s9 _ _ NH);have t:aS K GU (upd GU D2 (.lst (J++[.ref tq]))):=bW VO rfl;have KP:=s9.trans xU;refine ⟨VO,abj la (by decide),(Y.trans KP).put iw,ag,?_,_,rfl⟩;rw [bQ ec,aap];refine Refs.snoc (u7.imp λ p a h=>(h.same KP).ts t) ?_;exact ⟨tc,a1,zF,t _ _ an,t _ _ ((Y.trans KP).tup XW),t _ _ ((PB.trans KP).tup (bP.of g2)),t _ _ ((PB.trans KP).tup (bP.of g3))⟩
   .
    rintro J g B ⟨Y,NH,u7,v,rfl⟩;rw [xL.length,abz] at u7;rw [<- eb] at u7;have S8:=(s6.trans s7).trans Y;have OV:=S8 _ _ M7;have lx:X.length<=16 * 1296:=by
      rw [zE.length];refine abk (fR (k:=1296) (kK q4 q3)) ?_;rw [abw];exact adF 1296 (abk (Nat.min_le_right _ _) lo)
    have la:J.length<=1296:=by rw [u7.length];exact kK q4 q3 out
    refine ⟨f,D2,X,J,rfl,rfl,OV,NH,adn (abj (show X.length+J.length<=22032 by lia) (by decide)),?_⟩;have t:aS K B (upd B f (.lst (X++J))):=bW OV rfl;refine ⟨λ b u h n=>?_,t4.trans (I.trans (S8.ts.trans t)),(((l.less λ b h=>aar _ h).same S8).write OV (by simp) Zz).more (by lia),⟨_,ag,?_⟩,λ ZU h'=>?_,_,_,_,_,rfl⟩
    . have n':=n;simp only [aah,aak,ack,adE] at n';rw [av n'.2];exact S8 _ _ (M _ _ (b4 b u h n) (by simp [n'.1]))
    . rw [bQ eo,agj,af2];exact Refs.append (zE.imp λ p a h=>(((h.ts I).same S8).ts t)) (u7.imp λ p a h=>h.ts t)
    . rw [bQ eo] at h';rcases aaY.mp h' with z|z
      . exact EH ZU z
      . rw [aac.mp z];exact sf
 .
  rintro σ H4 ⟨b4,t4,N,⟨X,LA,zE⟩,EH,v4,v5,v6,v7,rfl⟩;rw [CT,abz] at zE EH;refine ⟨_,rfl,k2 EH f X H4 V (λ b u h n=>b4 b u (S b u h) ?_) (S.ts.trans t4) ((N.less λ b h=>aar _ h).more (by rw [CT];lia)) LA zE⟩;simp only [aah,aak,ack,adE] at n |-;exact ⟨n,ay h V⟩
def oq (T:Txt K mg Ad):qe P w K mg base Ad.cV "meet" 1 ["self","state"] [] (Im P w K Ad.cV Ad.fx):=by
 refine T.BG.EL yn (λ vs H Q E h=>?_) (λ Z Z Z Z Z Z us I=>sI I λ Z Z=>rfl) (λ f Z Z Z s H vs Q E J h=>?_)
 . obtain ⟨x,p,b,R,S,a,l,g,m,st,L,rfl,Z⟩:=h;rfl
 .
  obtain ⟨x,p,b,R,S,a,l,g,m,st,L,rfl,D,ok,gl,F,l2,M,so,k⟩:=h;refine ⟨_,(ai (eW (br (aJ (wP (P:=P) (w:=w) (K:=K) rfl rfl rfl J.Nm) (pv 1) (aW (pv 0) rfl) (by with_unfolding_all rfl)) (ai (br (aJ Kx (aP bz (by rfl) T.eP cR (aa (aW (pv 0) rfl) af)) (aW (pv 0) rfl) (aK _)) (am (AQ rfl afF T.rA T.Hb (Ih λ Z Z Z z=>z) (aa Ke af))) aH)
    (ai (Ee (P:=P) (w:=w) (K:=K) rfl rfl rfl J.Nm (aW (pv 0) rfl) (pv 1) (aP bz (by rfl) T.eP cR (aa (aW (pv 0) rfl) af)) rfl)
    (am (bo (g8 abx abK abG cz (aW (pv 0) rfl) (aa (pv 1) af)))))) aH))
    (am (aI (tX (P:=P) (w:=w) (K:=K) rfl rfl rfl J.Nm (aW (pv 0) rfl) (pv 1) (λ Z Z=>rfl))))),?_⟩
  try dsimp only [fD,bj]
  obtain ⟨⟨d,c⟩,⟨v,n,V⟩,Z,Z,⟨A,i,I,t⟩,Z,Z,Z⟩:=id D;have o:=jn M;refine ⟨λ q r=>(E3 λ j G N=>A10 (gU [b,a] H r) (aS K H r) (eD P w K Ad.cV L r x b R S a l G) (wb g G) (gv m G) ((G.met.length:Int)<=l) (G.met[j]?=some st) (iQ P w K r a N) (i5 N (m6 st)=some (ao j)) (G=g\/G=g.add st))/\q=[some (.ref x),some (.ref p)],?_,?_⟩
  .
   refine ⟨_,rfl,_,rfl,x,_,d,_,_,rfl,c,T.ck,T.gP,rfl,a,p,A,m6 st,rfl,rfl,i,o,_,rfl,?_⟩;by_cases u:st∈g.met
   . obtain ⟨j,e⟩:=adW.mp u;rw [t.1 j st e];exact dE ⟨⟨j,g,A,λ Z Z h Z=>h,aS.refl _,D,wb.refl g,ok,gl,e,i,t.1 j st e,.inl rfl⟩,rfl⟩
   .
    rw [t.2 st u];have B:=ok.add so u;have lv:=V.length;refine fE ⟨_,rfl,x,_,d,_,_,rfl,c,T.ck,T.fN,rfl,b,v,rfl,.inl (aY.of n),λ y ey=>⟨_,rfl,x,_,d,_,_,rfl,c,T.ck,T.n6,rfl,_,_,rfl,rfl,_,rfl,gi (λ h=>?_) (λ h=>?_)⟩⟩
    . rcases F with F|F
      . have O:((g.met++[st]).length:Int)<=l:=F _ B.nd B.st;rw [aae,aa3] at O;exfalso;lia
      . exact ⟨GW,F _⟩
    have O:((g.met.length+1:Nat):Int)<=l:=by lia
    refine ⟨_,rfl,x,_,d,_,_,rfl,c,T.ck,T.fN,rfl,b,v,rfl,.inl (aY.of n),λ y2 Zy=>?_⟩;obtain rfl:y2=((g.met.length:Nat):Int):=by rw [Zy,lv]
    refine ⟨_,rfl,x,_,d,_,_,rfl,c,T.ck,T.gP,rfl,_,rfl,a,p,A,m6 st,rfl,rfl,i,o,abj (show A.length<=2000 by lia) (by decide),?_⟩;obtain ⟨Y,b1,t1⟩:=D.add n V i I t M u;have nm:b≠a:=λ z=>by rw [z,i.ob] at n;cases n
    have nx:x≠a:=λ z=>by rw [z,i.ob] at c;cases c
    have W:(upd H a (lJ P w a (gf A (m6 st) p (ao g.met.length)))) b=some (.lst v):=by rw [av nm];exact n
    have xP:(upd H a (lJ P w a (gf A (m6 st) p (ao g.met.length)))) x=some (.ins Ad.cV d (UR b R S a l)):=by rw [av nx];exact c
    obtain ⟨IX,U,Z,zo⟩:=Y.pls;have e:(g.add st).met[g.met.length]?=some st:=ab1;exact ⟨_,rfl,x,_,d,_,_,rfl,xP,T.ck,T.fN,rfl,.inl ⟨rfl,_,aY.of W⟩,_,rfl,b,v,_,rfl,rfl,W,abj (show v.length<=2000 by lia) (by decide),⟨g.met.length,g.add st,IX,b1,t1,Y,wb.add g st,B,by show ((g.met++[st]).length:Int)<=l;rw [aae,aa3];exact O,e,U,zo.1 _ _ e,.inr rfl⟩,rfl⟩
  . rintro q H2 ⟨⟨j,G,N,b2,t2,X,gx,MC,C,e,U,ev,wh⟩,rfl⟩;obtain ⟨Qi,Vh⟩:=X.ins;exact ⟨_,rfl,x,_,Qi,_,_,rfl,Vh,T.ck,T.gP,rfl,_,rfl,a,p,N,m6 st,ao j,rfl,rfl,U,jn (M.ts t2),ev,k j G H2 b2 t2 X gx MC C e wh⟩
def pU (T:Txt K mg Ad):qe P w K mg base Ad.cV "meet_all" 2 ["self","states"] [] (BI P w K Ad.cV Ad.fx):=by
 refine T.tE.EL se (λ vs H Q E h=>?_) (λ Z Z Z Z Z Z us hl=>sI hl λ Z Z=>rfl) (λ f Z Z Z s H vs Q E hr h=>?_)
 . obtain ⟨x,v,I,O,R,t,c,g,m,L,rfl,Z⟩:=h;rfl
 .
  obtain ⟨x,v,I,O,R,t,c,g,m,L,rfl,hg,ok,gl,ab,l2,h⟩:=h;refine ⟨_,(am (aI (uS (aJ pj (pv 1) cY (aK _)) cY (dB ["state"] ["self"] [0] (.cons ⟨rfl,rfl,.inl rfl⟩ .nil) rfl (Et λ Z Z Z z=>z) (bS (pv 1)) (λ Z Z Z Z Z=>(lK (i:=0))) (λ Z Z Z Z Z=>cC) (λ Z Z Z Z Z=>(pK (pv 1) T.ck (oq (P:=P) (w:=w) T).y hr.m wR (aa (pv 0) af))))))),?_⟩;try dsimp only [fD,bj]
  rcases h with ⟨rfl,k⟩|⟨q,xs,l,rfl,N,nq,zE,Rc,ll,k⟩
  . exact ⟨_,rfl,rfl,_,rfl,fE k⟩
  refine ⟨_,rfl,rfl,_,rfl,gi (λ h=>nomatch h) λ Z=>?_⟩;refine ⟨_,rfl,q,rfl,⟨_,aY.of N⟩,λ D r=>?_⟩;obtain ⟨⟨dx,hx⟩,⟨vm,hm,Z⟩,⟨vo,ho,Z⟩,⟨vr,Px,Z⟩,⟨aD,hk,Z⟩,Z,Z,Z⟩:=id hg;have Q7:D≠I:=(ay hm r).symm;have Wd:D≠O:=(ay ho r).symm;have WV:D≠R:=(ay Px r).symm;have WR:D≠t:=(ay hk.ob r).symm;have Y1:q≠t:=λ z=>by rw [z,hk.ob] at N;cases N
  have lx:=zE.length;have s0:=al (o:=.lst []) r;refine cG (K:=K) (a:=q) (xs:=xs) (λ i A d B=>A5 (gU [I,t] H B) (aS K H B) (B D=some (.lst A)) (E2 λ G J=>A6 (eD P w K Ad.cV (D::L) B x I O R t c G) (wb g G) (gv m G) ((G.met.length:Int)<=c) (A=J.map ao) (Paired (λ j s=>G.met[j]?=some s) J (l.take i))) (∃ v,d=[v,some (.ref x)]))
    ⟨λ b u h Z=>s0 b u h,s0.ts,ag,⟨g,[],(hg.new r).same s0,wb.refl g,ok,gl,rfl,.nil⟩,none,rfl⟩ (λ i A d B Z ⟨b,_,_,_,_⟩=>aY.of (b _ _ N (by simp [nq,Y1]))) ?_ ?_
  .
   rintro i y A d H1 hy ⟨X,S,og,⟨g1,J,M,V,U,W,rfl,F⟩,v,rfl⟩;obtain ⟨p,st,rfl,Y,f9⟩:=zE.get hy;have hi:i<l.length:=(QQ.mp Y).1;have lj:J.length<=100000:=by rw [ad4 F,abw];lia
   obtain ⟨AW,xP⟩:=M.ins;refine ⟨_,rfl,x,AW,_,rfl,xP,rfl,_,rfl,x,p,I,O,R,t,c,g1,m,st,D::L,rfl,M,U,W,ab,l2,f9.ts S,Rc st (aal Y),λ j g2 H2 b2 t2 QS C MC ad ej Z=>?_⟩;have iw:=b2 _ _ og (by simp [Q7,WR]);refine ⟨iw,abj (show (J.map ao).length<=100000 by rw [CT];exact lj) (by decide),λ b u h n=>?_,S.trans (t2.trans (bW iw rfl)),ag,⟨g2,J++[j],QS.write iw (by simp) Q7 Wd WV,V.trans C,MC,ad,by rw [aap];rfl,?_⟩,_,rfl⟩
   . rw [av (ay h r)];exact b2 b u (X b u h n) n
   . rw [bQ Y];exact aeI (Paired.ym F λ j s e=>C.at e) ej
  . rintro A d H1 ⟨X,S,og,⟨g1,J,M,V,U,W,rfl,F⟩,v,rfl⟩;rw [lx,abz] at F;exact k D J g1 H1 r X S (M.less λ b h=>aar _ h) V U W og F
def wa (T:Txt K mg Ad):qe P w K mg base Ad.cV "go_on" 10 ["self","hold"] [] (KH P w K Ad.bp Ad.cV Ad.fx):=by
 refine T.yy.EL iz (λ vs H Q E h=>?_) (λ _ _ _ _ _ _ us hl=>sI hl λ _ _=>rfl) (λ f _ _ _ s H vs Q E hr h=>?_)
 . obtain ⟨x,a,A,l,B,I,L,g0,m,R,rfl,_⟩:=h;rfl
 .
  obtain ⟨x,a,A,l,B,I,L,g0,m,R,rfl,ar,cc,bf,bM,an,l2,hm,hh,f1,f2,f3,f4,k⟩:=h;refine ⟨_,(ai (cS (i:=2) iz.nd (uq T.HM (pC (P:=P) (w:=w) T) .nil hr.m T.Lh (aa (pv 1) af)))
    (am (qi afK (aJ lH (aP bz (by rfl) T.eP cR (aa (aW (pv 0) rfl) af)) (aP bz (by rfl) T.eP cR (aa (aW (pv 0) rfl) af)) (aK _)) (ai (cS (i:=3) iz.nd (aF aB (aW (pv 0) rfl) (aP bz (by rfl) T.eP cR (aa (aW (pv 0) rfl) af))))
    (ai (cS (i:=4) iz.nd (aw (zl T) hr.m (aa (pv 1) (aa (pv 3) af))))
    (ai (bo (g8 abx abK abG cz (aW (pv 0) rfl) (aa (pv 4) af)))
    (am (bo (g8 abx abK abG cz (aW (pv 0) rfl) (aa (dB ["order"] ["self","state","reach"] [0,3,2] (.cons ⟨rfl,rfl,.inl rfl⟩ (.cons ⟨rfl,rfl,.inl rfl⟩ (.cons ⟨rfl,rfl,.inl rfl⟩ .nil))) rfl (Et λ _ _ _ z=>z) (bS (pv 4)) (λ _ _ _ _ _=>(lK (i:=0))) (λ _ _ _ _ _=>cC) (λ _ _ _ _ _=>(pK (pv 1) T.ck (pU (P:=P) (w:=w) T).y hr.m wR (aa (bg (pv 3) T.d7 (ke (P:=P) (w:=w) T) .nil hr.m (aa (pv 2) (aa (pv 0) af))) af)))) af)))))))))),?_⟩
  try dsimp only [fD,bj]
  refine ⟨_,rfl,λ X Nt VZ ky n=>?_⟩;have s1:aE H (upd (upd H Nt (.own X)) X (.ins Ad.Reach Nt [])):=(al ky).trans (al (by first|(rw [av n];exact VZ)|(rw [av n.symm];exact VZ)));have xP:(upd (upd H Nt (.own X)) X (.ins Ad.Reach Nt [])) X=some (.ins Ad.Reach Nt []):=ag;generalize upd (upd H Nt (.own X)) X (.ins Ad.Reach Nt [])=H1 at s1 xP |-;have zm:∀ {b},H b=none->b∉R:=λ e z=>by
    obtain ⟨u,hu⟩:=hh.some _ z;rw [e] at hu;cases hu
  refine ⟨X,Nt,a,R,m,rfl,xP,hh.same s1,zm VZ,λ d H2 b2 t2 hd WY=>⟨rfl,?_⟩⟩;have dn:H d=none:=s1.free hd;have S2:aE H H2:=λ b u e=>b2 b u (s1 b u e) (by simp only [aac];exact ay e VZ);obtain ⟨_,⟨c1,bn,_⟩,⟨c5,bu,_⟩,⟨dc,bC,_⟩,⟨ct,WI,_⟩,n1,n2,n3⟩:=id ar;have ex:∀ {b u},H b=some u->b≠d/\b≠X:=λ e=>⟨ay e dn,ay e VZ⟩
  obtain ⟨dm,xm⟩:=ex bn;obtain ⟨co,xo⟩:=ex bu;obtain ⟨dr,dj⟩:=ex bC;obtain ⟨dd,xd⟩:=ex WI.ob;refine ⟨λ mz σ U=>A4 (gU [A,l,B,I] H U) (aS K H U) (∃ g,A7 (eD P w K Ad.cV [] U x A l B I L g) (gv m g) ((g.met.length:Int)<=L) (g.f8.length=g.rows.length) (∃ C,g.met=g0.met++C) (eU P w K Ad.bp Ad.Reach [A,l,B] U X d a R m (1024 * g.rows.length)) (mz=2000 - g.rows.length)) (E2 λ (v3 v4:eO)=>σ=[some (.ref x),some (.ref a),some (.ref X),v3,v4]),
    ⟨_,λ b u h _=>S2 b u h,S2.ts,⟨g0,ar.same S2,cc,bf,bM,⟨[],(acB _).symm⟩,WY.zero.more (ach _),rfl⟩,none,none,rfl⟩,?_⟩
  rintro mz σ H3 ⟨b3,t3,⟨g,hg,ok,UO,lo,a3,re,rfl⟩,v3,v4,rfl⟩;obtain ⟨⟨dx,hx⟩,⟨vm,K3,a4⟩,⟨S,a0,bc⟩,⟨vr,Wt,bd⟩,⟨aD,hk,_⟩,_,_,_⟩:=id hg;have b0:vr.length=g.rows.length:=by rw [bd.length,CT]
  have c0:S.length=g.f8.length:=by rw [bc.length,CT]
  have cW:=a4.length;refine ⟨_,rfl,x,_,dx,_,_,rfl,hx,T.ck,T.dU,rfl,B,vr,rfl,.inl (aY.of Wt),λ y1 e1=>⟨_,rfl,x,_,dx,_,_,rfl,hx,T.ck,T.fN,rfl,A,vm,rfl,.inl (aY.of K3),λ y2 e2=>⟨_,_,rfl,rfl,_,rfl,gi (λ h=>?_) (λ h=>?_)⟩⟩⟩
  .
   have hi:g.rows.length<g.met.length:=by lia
   refine ⟨λ J U=>A4 (gU [A,l,B,I] H U) (aS K H U) (∃ G,A7 (eD P w K Ad.cV [] U x A l B I L G) (gv m G) ((G.met.length:Int)<=L) (G.f8.length=G.rows.length) (∃ C,G.met=g0.met++C) (eU P w K Ad.bp Ad.Reach [A,l,B] U X d a R m (1024 * G.rows.length)) (G.rows.length=g.rows.length+1)) (E2 λ (v3 v4:eO)=>J=[some (.ref x),some (.ref a),some (.ref X),v3,v4]),
     λ J U ⟨b,t,⟨G,h1,h2,h3,h4,h5,h6,h7⟩,w3,w4,e⟩=>⟨2000 - G.rows.length,by lia,b,t,⟨G,h1,h2,h3,h4,h5,h6,rfl⟩,w3,w4,e⟩,?_⟩
   obtain ⟨p,st,ep,es,f9⟩:=a4.get (aL (show g.rows.length<vm.length by lia));have so:=ok.st st (aal es);have a8:tf vm ((g.rows.length:Nat):Int)=some (.ref p):=eE (by rw [aL (show g.rows.length<vm.length by lia),ep]);refine ⟨_,rfl,x,_,dx,_,_,rfl,hx,T.ck,T.fN,rfl,_,rfl,x,_,dx,_,_,rfl,hx,T.ck,T.dU,rfl,B,vr,rfl,.inl (aY.of Wt),λ y3 e3=>⟨A,_,_,_,rfl,rfl,.inl (aY.of K3),(by rw [e3,b0];exact a8:tf vm y3=some (.ref p)),?_⟩⟩;refine ⟨_,rfl,_,rfl,a,R,m,p,st,rfl,re.hold,f9,so,λ q H4 nq s4 hq=>?_⟩;have Ki:=s4 _ _ a0;refine ⟨_,rfl,x,_,dx,_,_,rfl,s4 _ _ hx,T.ck,T.mP,rfl,.inl ⟨rfl,_,aY.of Ki⟩,_,rfl,l,S,_,rfl,rfl,Ki,abj (show S.length<=2000 by lia) (by decide),?_⟩;have a1:q≠A:=(ay K3 nq).symm;have a2:q≠l:=(ay a0 nq).symm;have cb:q≠B:=(ay Wt nq).symm;have ab:=(hg.same s4).ord Ki hq (by simp [a1,a2,cb]);have EJ:=(re.same s4).write (ys:=S++[.ref q]) Ki (by simp) f2;have a5:aS K H4 (upd H4 l (.lst (S++[.ref q]))):=bW Ki rfl;have Gj:(upd H4 l (.lst (S++[.ref q]))) q=some (.lst ((st.orders m).map ao)):=by rw [av a2];exact hq
   have FJ:(upd H4 l (.lst (S++[.ref q]))) B=some (.lst vr):=by rw [av n3.symm];exact s4 _ _ Wt
   have b5:gU [A,l,B,I] H (upd H4 l (.lst (S++[.ref q]))):=λ b u h z=>by
     have:=b3 b u h z;simp only [aah,aak,ack,adE] at z;rw [av z.2.1];exact s4 _ _ this
   have T5:aS K H (upd H4 l (.lst (S++[.ref q]))):=t3.trans (s4.ts.trans a5);have Vi:gS K (upd H4 l (.lst (S++[.ref q]))) p st:=(f9.same s4).ts a5;have cd:=ok.ord (s:=st) (by rw [lo];exact es);have cJ:=vR hm.h4 st;generalize upd H4 l (.lst (S++[.ref q]))=H5 at ab EJ Gj FJ b5 T5 Vi |-;obtain ⟨⟨SM,VH⟩,⟨c2,bs,_⟩,⟨c6,bv,_⟩,_,⟨cv,ae,_⟩,_,_,_⟩:=id ab;refine ⟨_,rfl,x,_,SM,_,_,rfl,VH,T.ck,T.dU,rfl,.inl ⟨rfl,_,aY.of FJ⟩,_,rfl,q,rfl,⟨_,aY.of Gj⟩,λ D W=>?_⟩;have Y1:q≠d:=λ z=>by
     obtain ⟨cI,bm,_⟩:=EJ.O9;rw [z,bm.ob] at Gj;cases Gj
   have ca:q≠I:=λ z=>by rw [z,ae.ob] at Gj;cases Gj
   have Q7:D≠A:=(ay bs W).symm;have Wd:D≠l:=(ay bv W).symm;have WV:D≠B:=(ay FJ W).symm;have b4:D≠I:=(ay ae.ob W).symm;have b1:D∉R:=λ z=>by
     obtain ⟨u,hu⟩:=EJ.hold.some D z;rw [W] at hu;cases hu
   obtain ⟨cl,YM,_⟩:=EJ.O9;have WR:D≠d:=(ay YM.ob W).symm;have s5:=al (o:=.lst []) W;refine cG (K:=K) (a:=q) (xs:=(st.orders m).map ao) (λ j acc J O=>A5 (gU [A,I,d] H5 O) (aS K H5 O) (O D=some (.lst acc)) (E2 λ G r=>A7 (eD P w K Ad.cV [D] O x A l B I L G) (wb (g.ord (st.orders m)) G) (gv m G) ((G.met.length:Int)<=L) (eU P w K Ad.bp Ad.Reach [D,A,l,B] O X d a R m (1024 * g.rows.length+64 * j)) (bE K (dP O ([D]++[A,l,B])) ((r:bX).map uX) acc) (Paired (λ o b=>qJ G.met (jY m st o) b) ((st.orders m).take j) r)) (∃ v,J=[v,some (.ref x),some (.ref p),some (.ref X)]))
     ⟨λ b u h _=>s5 b u h,s5.ts,ag,⟨_,[],(ab.new W).same s5,wb.refl _,cd,UO,(EJ.new W).same s5,ed,.nil⟩,none,rfl⟩ (λ j acc J O _ ⟨b,_,_,_,_⟩=>aY.of (b _ _ Gj (by simp [a1,ca,Y1]))) ?_ ?_
   .
    rintro j y acc J O hy ⟨b6,t6,MU,⟨N,r,Gf,K8,AY,LY,Ri,RY,Uk⟩,v,rfl⟩;obtain ⟨o,eo,rfl⟩:=dC hy;have ho:=aal eo;have hj:j<(st.orders m).length:=(QQ.mp eo).1;have GI:acc.length<=16:=by rw [RY.length,CT,<- ad4 Uk,abw];lia
    obtain ⟨be,bL⟩:=Gf.ins;obtain ⟨a7,YN⟩:=Ri.ins;obtain ⟨_,⟨c3,Rk,_⟩,⟨c7,bw,_⟩,⟨df,bG,_⟩,⟨cw,cs,_⟩,_,_,_⟩:=id Gf;obtain ⟨cn,M4,_⟩:=Ri.O9;have SS:∀ (Y:V) (b':Option (bi)) (g2:qN) (F:Hp),gU [A,I,d] O F->aS K O F->eD P w K Ad.cV [D] F x A l B I L g2->wb N g2->gv m g2->(g2.met.length:Int)<=L->eU P w K Ad.bp Ad.Reach [D,A,l,B] F X d a R m (1024 * g.rows.length+64 * j+64)->bE K (dP F ([D]++[A,l,B])) (r.map uX) acc->Dn K (dP F ([D]++[A,l,B])) (uX b') Y->qJ g2.met (jY m st o) b' ->
        F D=some (.lst acc)/\acc.length<sizeLine/\(gU [A,I,d] H5 (upd F D (.lst (acc++[Y])))/\aS K H5 (upd F D (.lst (acc++[Y])))/\(upd F D (.lst (acc++[Y]))) D=some (.lst (acc++[Y]))/\(∃ G r,eD P w K Ad.cV [D] (upd F D (.lst (acc++[Y]))) x A l B I L G/\wb (g.ord (st.orders m)) G/\gv m G/\(G.met.length:Int)<=L/\eU P w K Ad.bp Ad.Reach [D,A,l,B] (upd F D (.lst (acc++[Y]))) X d a R m (1024 * g.rows.length+64 * (j+1))/\bE K (dP (upd F D (.lst (acc++[Y]))) ([D]++[A,l,B])) ((r:bX).map uX) (acc++[Y])/\Paired (λ o b=>qJ G.met (jY m st o) b) ((st.orders m).take (j+1)) r)):=by
      intro Y b' g2 F b8 t8 ad Wr X6 Y2 aj WX bb ri;have NH:=b8 _ _ MU (by simp [Q7,b4,WR]);refine ⟨NH,aO (by lia),λ b u h n=>?_,t6.trans (t8.trans (bW NH rfl)),ag,g2,r++[b'],ad.write NH (by simp) Q7 Wd WV,K8.trans Wr,X6,Y2,(aj.write NH (by simp) b1).more (by lia),?_,?_⟩
      . rw [av (ay h W)];exact b8 b u (b6 b u h n) n
      . rw [nA (by simp),aap];exact bE.snoc WX bb
      . rw [bQ eo];obtain ⟨⟨C,em⟩,_⟩:=Wr;exact aeI (Paired.ym Uk λ o b q=>by rw [em];exact q.more) ri
    have Z4:∀ b∈[D,A,l,B],O b≠none:=by
      intro b hb;simp only [aah,aak,ack] at hb;rcases hb with rfl|rfl|rfl|rfl
      . rw [MU];exact nofun
      . rw [Rk];exact nofun
      . rw [bw];exact nofun
      . rw [bG];exact nofun
    refine ⟨_,rfl,x,be,_,rfl,bL,rfl,_,rfl,X,a7,_,rfl,YN,rfl,_,rfl,_,rfl,X,d,a,R,m,_,p,st,o,[D,A,l,B],rfl,Ri,Z4,by lia,Vi.ts t6,so,hm.ow ho,hm.tn st o so ho,hm.sp st so,λ hu H7 b7 t7 ah=>?_,λ bK q2 ch H7 b9 b7 t7 ah wc YO=>?_⟩
    . have Pu:=Gf.but M4.ob dd.symm b7 t7;refine ⟨x,.cT,A,l,B,I,L,N,m,[D],rfl,Pu,AY,LY,an,l2,.inl ⟨rfl,?_⟩⟩;obtain ⟨z1,z2,z3,z4,z5,g9,r9,y1,y2,y3,Z9,y4,y5,y6⟩:=SS .cT none N H7 (λ b u h n=>b7 b u h (by simp only [aah,aak,ack,adE] at n;simp [n.2.2])) t7 Pu (wb.refl N) AY LY ah (bE.yT M4.ob rfl (GM b7) RY) rfl (by rw [KB hu];trivial);exact ⟨z1,z2,z3,z4,z5,⟨g9,r9,y1,y2,y3,Z9,y4,y5,y6⟩,_,rfl⟩
    .
     have Pu:=Gf.but M4.ob dd.symm b7 t7;have cj:=ME (id Ri.hold).5 hm.h4 st o;refine ⟨x,.ref q2,A,l,B,I,L,N,m,[D],rfl,Pu,AY,LY,an,l2,.inr ⟨q2,ch,mm m st o,rfl,wc,(ay Rk b9).symm,YO,λ s' h'=>hm.nx st o s' so ho h',by lia,λ D2 js g2 F iw b8 t8 ad Wr X6 Y2 a6 FW=>?_⟩⟩;obtain ⟨_,⟨c4,bt,_⟩,⟨da,bx,_⟩,⟨dg,bI,_⟩,⟨cE,aG,_⟩,_,_,_⟩:=id Pu;have bk:=b7 _ _ MU (by simp [WR]);have aj:=ah.frame (M:=[A,I]) b8 t8 (by simp [xm.symm,xd.symm]) (by simp [dm.symm,dd.symm]) (λ c hc z=>by
       simp only [aah,aak,ack] at z;rcases z with rfl|rfl
       . exact f1 hc
       . exact f4 hc) (λ c hc=>by
       simp only [aah,aak,ack] at hc;rcases hc with rfl|rfl
       . exact .inl (by simp)
       . exact .inr λ xs z=>by rw [aG.ob] at z;cases z)
     have ba:bE K (dP H7 ([D]++[A,l,B])) (r.map uX) acc:=bE.yT M4.ob rfl (GM b7) RY;have WX:bE K (dP F ([D]++[A,l,B])) (r.map uX) acc:=bE.yT aG.ob rfl (λ c u e n1 n2=>b8 c u e (by
       simp only [afz,aes,aah,aak,ack,adE] at n2 |-;exact ⟨n2.2.1,n1⟩)) ba
     obtain ⟨z1,z2,z3,z4,z5,g9,r9,y1,y2,y3,Z9,y4,y5,y6⟩:=SS (.ref D2) (some js) g2 F (λ b u h n=>by
       simp only [aah,aak,ack,adE] at n;exact b8 b u (b7 b u h (by simp [n.2.2])) (by simp [n.1,n.2.1])) (t7.trans t8) ad Wr X6 Y2 aj WX (Fg (aY.of (mv a6 (by
       simp only [afz,aes,aah,aak,ack,adE];exact ⟨(ay bk iw).symm,(ay bt iw).symm,(ay bx iw).symm,(ay bI iw).symm⟩)))) (by rw [HX bK];exact FW)
     exact ⟨z1,z2,z3,z4,z5,⟨g9,r9,y1,y2,y3,Z9,y4,y5,y6⟩,_,rfl⟩
   .
    rintro acc J O ⟨b6,t6,MU,⟨N,r,Gf,K8,AY,LY,Ri,RY,Uk⟩,v,rfl⟩;rw [CT,abz] at Uk;have Lw:=b6 _ _ FJ (by
      simp only [aah,aak,ack,adE];exact ⟨n2.symm,(λ z=>by rw [z,ae.ob] at FJ;cases FJ),dr⟩)
    have er:N.rows=g.rows:=K8.rows;have eo:N.f8=g.f8++[st.orders m]:=K8.f8;have a9:bE K (dP O ([]++[A,l,B])) (r.map uX) acc:=bE.same (λ b u e=>by
      unfold dP at e |-;split at e
      . cases e
      . rename_i z
        rw [abC (show b∉[]++[A,l,B] from λ y=>z (aaY.mpr (.inr y)))];exact e) _ RY
    have Pu:=(Gf.less (L':=[]) λ b h=>absurd h aak).row Lw MU (by simp [Q7,Wd,WV]) a9;have cf:=AY.row (s:=st) (r:=r) (by rw [er];exact K8.at (show (g.ord (st.orders m)).met[g.rows.length]?=some st from es)) Uk;refine ⟨B,vr,_,rfl,rfl,Lw,abj (show vr.length<=2000 by lia) (by decide),λ b u h z=>?_,T5.trans (t6.trans (bW Lw rfl)),⟨N.row r,Pu,cf,LY,?_,?_,?_,?_⟩,_,_,rfl⟩
    . have:=b5 b u h z;simp only [aah,aak,ack,adE] at z;rw [av z.2.2.1];exact b6 _ _ this (by simp only [aah,aak,ack,adE];exact ⟨z.1,z.2.2.2,ay h dn⟩)
    . show N.f8.length=(N.rows++[r]).length;rw [eo,er,aae,aae,lo];rfl
    . obtain ⟨⟨C,em⟩,_⟩:=K8;obtain ⟨UG,YE⟩:=a3;exact ⟨UG++C,by show N.met=_;rw [em];show g.met++C=_;rw [YE,adY]⟩
    . refine ((Ri.less λ b h=>aar _ h).write Lw (by simp) f3).more ?_;show _<=1024 * (N.rows++[r]).length;rw [er,aae,aa3,CT];lia
    . show (N.rows++[r]).length=_;rw [er,aae];rfl
  . exact k g H3 b3 t3 hg ok UO lo (by have:=ok.lr;lia) a3
def pI (T:Txt K mg Ad):qe P w K mg base Ad.cV "__init__" 11 ["self","hold","states","limit"] [] (GZ P w K Ad.bp Ad.cV Ad.fx):=by
 refine T.tM.EL ie (λ vs H Q E h=>?_) (λ Z Z Z Z Z Z us hl=>DU hl λ Z Z Z Z=>rfl) (λ f Z Z Z s H vs Q E hr h=>?_)
 . obtain ⟨x,D,a,q,L,fp,m,Y,l,rfl,Z⟩:=h;rfl
 .
  obtain ⟨x,D,a,q,L,fp,m,Y,l,rfl,hx,hh,nx,hm,G,z0,l2,F,zE,Rc,k⟩:=h;refine ⟨_,(ai (cP afK rfl (bS (pv 2)) (iF (i:=4) ie.nd) (am (bo (aw (ku T) hr.m (aa (pv 1) (aa (pv 4) af))))))
    (ai (eV (pv 0) (cQ af) rfl)
    (ai (eV (pv 0) (cQ af) rfl)
    (ai (eV (pv 0) (cQ af) rfl)
    (ai (eV (pv 0) (DX (P:=P) (w:=w) rfl rfl) rfl)
    (ai (eV (pv 0) (pv 3) rfl)
    (ai (cP afK rfl (bS (pv 2)) (iF (i:=4) ie.nd) (am (bo (pK (pv 0) T.ck (oq (P:=P) (w:=w) T).y hr.m (pX λ Z Z Z z=>z) (aa (pv 4) af)))))
    (am (bo (pK (pv 0) T.ck (wa (P:=P) (w:=w) T).y hr.m (pX λ Z Z Z z=>z) (aa (pv 1) af))))))))))),?_⟩
  try dsimp only [fD,bj]
  try (refine ui ?_;intro Z Z Z Z Z Z Z Z Z)
  have lx:=zE.length;refine ⟨_,rfl,q,rfl,⟨_,aY.of F⟩,?_⟩;refine gA (K:=K) (a:=q) (xs:=Y) (λ i B C=>aE H C/\∃ (v:eO),B=[some (.ref x),some (.ref a),some (.ref q),some (.int L),v]) ⟨aE.refl _,none,rfl⟩ (λ i B C Z ⟨S,_⟩=>aY.of (S _ _ F)) ?_ ?_
  . rintro Z i v B A hv ⟨S,v4,rfl⟩;obtain ⟨p,X,rfl,es,f9⟩:=zE.get hv;exact ⟨_,rfl,_,rfl,a,fp,m,p,X,rfl,hh.same S,f9.same S,Rc X (aal es),λ H2 s2=>⟨S.trans s2,_,rfl⟩⟩
  rintro B A ⟨S,v4,rfl⟩;have B0:kH K Ad.cV x D A A []:=.start (S _ _ hx);refine ⟨Fo,λ c iK=>?_⟩;have B1:=B0.new (o:=.lst []) iK;refine ⟨_,rfl,x,_,D,_,rfl,B1.at_,T.ck,T.fN,lt1000 rfl,?_⟩;have B2:=B1.put (fs':=aN "met" (.ref c) []);have Rh:=B0.ne iK;have Gg:(upd (upd A c (.lst [])) x (.ins Ad.cV D (aN "met" (.ref c) []))) c=some (.lst []):=by rw [av Rh];exact ag
  have mn:A c=none:=iK;generalize upd (upd A c (.lst [])) x (.ins Ad.cV D (aN "met" (.ref c) []))=H2 at B2 Gg |-;refine ⟨Fo,λ d OX=>?_⟩;have B3:=B2.new (o:=.lst []) OX;refine ⟨_,rfl,x,_,D,_,rfl,B3.at_,T.ck,T.mP,lt1000 rfl,?_⟩;have B4:=B3.put (fs':=aN "orders" (.ref d) (aN "met" (.ref c) []));have ZK:=B2.ne OX;have on:A d=none:=B2.none OX;have J:c≠d:=ay Gg OX;have Qw:(upd (upd H2 d (.lst [])) x (.ins Ad.cV D (aN "orders" (.ref d) (aN "met" (.ref c) [])))) d=some (.lst []):=by rw [av ZK];exact ag
  have Op:(upd (upd H2 d (.lst [])) x (.ins Ad.cV D (aN "orders" (.ref d) (aN "met" (.ref c) [])))) c=some (.lst []):=by rw [av Rh,av J];exact Gg
  generalize upd (upd H2 d (.lst [])) x (.ins Ad.cV D (aN "orders" (.ref d) (aN "met" (.ref c) [])))=H4 at B4 Qw Op |-;refine ⟨Fo,λ r W=>?_⟩;have B5:=B4.new (o:=.lst []) W;refine ⟨_,rfl,x,_,D,_,rfl,B5.at_,T.ck,T.dU,lt1000 rfl,?_⟩;have B6:=B5.put (fs':=aN "rows" (.ref r) (aN "orders" (.ref d) (aN "met" (.ref c) [])));have U:=B4.ne W;have rn:A r=none:=B4.none W;have O:c≠r:=ay Op W;have R:d≠r:=ay Qw W;have Uy:(upd (upd H4 r (.lst [])) x (.ins Ad.cV D (aN "rows" (.ref r) (aN "orders" (.ref d) (aN "met" (.ref c) []))))) r=some (.lst []):=by rw [av U];exact ag
  have Uo:(upd (upd H4 r (.lst [])) x (.ins Ad.cV D (aN "rows" (.ref r) (aN "orders" (.ref d) (aN "met" (.ref c) []))))) d=some (.lst []):=by rw [av ZK,av R];exact Qw
  have RP:(upd (upd H4 r (.lst [])) x (.ins Ad.cV D (aN "rows" (.ref r) (aN "orders" (.ref d) (aN "met" (.ref c) []))))) c=some (.lst []):=by rw [av Rh,av O];exact Op
  generalize upd (upd H4 r (.lst [])) x (.ins Ad.cV D (aN "rows" (.ref r) (aN "orders" (.ref d) (aN "met" (.ref c) []))))=H6 at B6 Uy Uo RP |-;refine λ t LS=>?_;have B7:=B6.new (o:=lJ P w t []) LS;refine ⟨_,rfl,x,_,D,_,rfl,B7.at_,T.ck,T.gP,lt1000 rfl,?_⟩;have B8:=B7.put (fs':=aN "places" (.ref t) (aN "rows" (.ref r) (aN "orders" (.ref d) (aN "met" (.ref c) []))));have OS:=B6.ne LS;have dn:A t=none:=B6.none LS;refine ⟨_,rfl,_,rfl,x,_,D,_,rfl,B8.at_,T.ck,T.n6,lt1000 rfl,?_⟩;have B9:=B8.put (fs':=aN "limit" (.int L) (aN "places" (.ref t) (aN "rows" (.ref r) (aN "orders" (.ref d) (aN "met" (.ref c) [])))));have kp:∀ {b o o1 o2 o3},H6 b=some o->b≠x->(upd (upd (upd H6 t o1) x o2) x o3) b=some o:=λ e n=>by rw [av n,av n,av (ay e LS)];exact e
  have ad:(upd (upd (upd H6 t (lJ P w t [])) x (.ins Ad.cV D (aN "places" (.ref t) (aN "rows" (.ref r) (aN "orders" (.ref d) (aN "met" (.ref c) [])))))) x (.ins Ad.cV D (aN "limit" (.int L) (aN "places" (.ref t) (aN "rows" (.ref r) (aN "orders" (.ref d) (aN "met" (.ref c) []))))))) t=some (lJ P w t []):=by rw [av OS,av OS];exact ag
  have g9:eD P w K Ad.cV [] _ x c d r t L ⟨[],[],[]⟩:=⟨⟨D,B9.at_⟩,⟨[],kp RP Rh,Refs.nil⟩,⟨[],kp Uo ZK,ed⟩,⟨[],kp Uy U,ed⟩,⟨[],iQ.nil ad,aaD _,AK.nil⟩,J,O,R⟩
  generalize upd (upd (upd H6 t (lJ P w t [])) x (.ins Ad.cV D (aN "places" (.ref t) (aN "rows" (.ref r) (aN "orders" (.ref d) (aN "met" (.ref c) [])))))) x (.ins Ad.cV D (aN "limit" (.int L) (aN "places" (.ref t) (aN "rows" (.ref r) (aN "orders" (.ref d) (aN "met" (.ref c) []))))))=H9 at B9 g9 |-;have b9:gU [x] H H9:=λ b u e n=>B9.st b u (S b u e) λ z=>n (aac.mpr z);have T9:aS K H H9:=S.ts.trans B9.ts;have V:q∉[x]:=λ z=>by rw [aac.mp z,hx] at F;cases F
  have fr:∀ b∈[c,d,r,t],H b=none:=by
    intro b hb;simp only [aah,aak,ack] at hb;rcases hb with rfl|rfl|rfl|rfl
    . exact S.free mn
    . exact S.free on
    . exact S.free rn
    . exact S.free dn
  have ex:∀ {b u},H b=some u->b∉[x]->b∉[c,d,r,t]:=λ e Z z=>by rw [fr _ z] at e;cases e
  refine ⟨_,rfl,q,rfl,⟨_,aY.of (b9 _ _ F V)⟩,?_⟩;refine gA (K:=K) (a:=q) (xs:=Y) (λ i B C=>A4 (gU [x] H C) (aS K H C) (∃ g,A6 (eD P w K Ad.cV [] C x c d r t L g) (gv m g) ((g.met.length:Int)<=L) (g.f8=[]) (g.rows=[]) (∀ s∈l.take i,s∈g.met)) (∃ (v:eO),B=[some (.ref x),some (.ref a),some (.ref q),some (.int L),v]))
    ⟨b9,T9,⟨_,g9,⟨aeh,aaD _,aaD _,λ Z h=>absurd h aak,λ i s o e=>by simp at e,λ i s o e=>by simp at e⟩,z0,rfl,rfl,λ s h=>absurd h (by simp)⟩,_,rfl⟩ (λ i B C Z ⟨b,_,_,_⟩=>aY.of (b _ _ F V)) ?_ ?_
  .
   rintro Z i v B GU hv ⟨KS,N,⟨g,I,ok,gl,o0,r0,ux⟩,v5,rfl⟩;obtain ⟨p,X,rfl,es,f9⟩:=zE.get hv;obtain ⟨Qj,PF⟩:=I.ins;refine ⟨_,rfl,x,Qj,_,rfl,PF,rfl,_,rfl,x,p,c,d,r,t,L,g,m,X,[],rfl,I,ok,gl,G,l2,f9.ts N,Rc X (aal es),λ j g' Ce Hn P5 Pb gx Cr PV ej Z=>⟨λ b u e n=>Hn b u (KS b u e n) (λ z=>ex e n (by
     simp only [aah,aak,ack] at z |-;rcases z with z|z
     . exact .inl z
     . exact .inr (.inr (.inr z)))),N.trans P5,⟨g',Pb,Cr,PV,gx.f8.trans o0,gx.rows.trans r0,λ s hs=>?_⟩,_,rfl⟩⟩
   rw [bQ es] at hs;rcases aaY.mp hs with z|z
   . obtain ⟨⟨M,em⟩,Z⟩:=gx;rw [em];exact act _ (ux s z)
   . rw [aac.mp z];exact aal ej
  .
   rintro B GU ⟨KS,N,⟨g,I,ok,gl,o0,r0,ux⟩,v5,rfl⟩;rw [lx,abz] at ux;obtain ⟨Qj,PF⟩:=I.ins;have nf:∀ {b},b∈[c,d,r,t]->b∉fp:=λ hb z=>by
     obtain ⟨u,hu⟩:=hh.some _ z;rw [fr _ hb] at hu;cases hu
   refine ⟨_,rfl,x,Qj,_,rfl,PF,rfl,_,rfl,x,a,c,d,r,t,L,g,m,fp,rfl,I,ok,gl,by rw [o0,r0];rfl,G,l2,hm,hh.Ma (λ b u e n=>KS b u e λ z=>n (aac.mp z)) N nx,nf (by simp),nf (by simp),nf (by simp),nf (by simp),λ g' Ce Hn P5 Pb Cr PV Z ab ⟨M,em⟩=>?_⟩;exact k c d r t g' Ce (λ b u e n=>Hn b u (KS b u e n) (ex e n)) (N.trans P5) fr Pb Cr PV ab λ s hs=>by rw [em];exact act _ (ux s hs)
def nX (T:Txt K mg Ad):jx P w K mg base Ad.dD "end" 1 ["self","place","number","lasting"] [] (Pl Ad.dD):=by
 refine T.AH.iA yF λ Z Z Z Z Z H vs Q E hr h=>?_;obtain ⟨x,y,d,i,m,q,S,p,c,t,n,l,rfl,a,v,hc,en,n0,hp,hz,k⟩:=h;refine ⟨_,(ai (ip (pv 3) (oK (aF aB (aW (pv 0) rfl) (pv 1)) (pv 2) set_list))
     (ai (LM (aW (pv 0) rfl) (pv 1) Ju ac OJ set_list)
     (am (br (aJ db (aF aB (aW (pv 0) rfl) (pv 1)) ac (aK _)) (ai (ip (ax aT (pv 3) ac) (oK (aW (pv 0) rfl) (pv 1) set_list))
     (am (bo (g8 abx abK abG cz (aW (pv 0) rfl) (aa (pv 1) af))))) aH)))),?_⟩
 try dsimp only [fD,bj]
 try (refine dR ?_;intro Z Z Z Z)
 obtain ⟨D,g⟩:=a.ins;have gT:p<q.length:=by rw [a.len];exact (QQ.mp v).1
 have j:q[p]?=some q[p]:=Vo gT;have Y:=a.DO p _ l j v;have I:=a.nd;simp only [abZ,aah,adE] at I;obtain ⟨⟨a1,a2,a3,a4⟩,⟨b1,b2,O⟩,⟨c1,c2⟩,d1,Z⟩:=I;have U:=aal j;have F:(S.dF.map ao)[p]?=some (ao n):=by rw [aag,en];rfl
 have J:p<(S.dF.map ao).length:=(QQ.mp F).1;refine ⟨_,rfl,_,rfl,x,_,D,_,_,rfl,g,T.cE,T.jt,rfl,_,rfl,y,_,_,_,rfl,rfl,.inl (aY.of a.las),cq (by rw [aag,j];rfl),_,rfl,q[p],_,_,c,rfl,rfl,Y,?_,?_⟩
 . exact jM (by rw [CT];exact hc)
 have G:d≠q[p]:=λ z=>O (z ▸ U);have xq:x≠q[p]:=λ z=>by rw [z,Y] at g;cases g
 have xg:x≠d:=λ z=>by rw [z,a.Tz] at g;cases g
 refine ⟨_,rfl,x,_,D,_,_,rfl,(av xq).trans g,T.cE,T.gL,rfl,_,rfl,d,_,p,_,rfl,rfl,aY.of ((av G).trans a.Tz),F,_,_,rfl,rfl,d,_,_,p,rfl,rfl,(av G).trans a.Tz,jM J,?_⟩;have f:=a.fin (c:=c) (t:=t) (n:=n) j v;have ez:(V.int ((n:Int) - 1))=ao (n - 1):=by
   show V.int _=V.int _;rw [show ((n:Int) - 1)=((n - 1:Nat):Int) by lia]
 rw [ez];have B:gU (y::d::i::m::q) H (upd (upd H q[p] (.lst ((l.map hX).set c (ao t)))) d (.lst ((S.dF.map ao).set p (ao (n - 1))))):=λ b u e N=>by
   simp only [aah,adE] at N;rw [av N.2.1,av (λ z=>N.2.2.2.2 (by rw [z];exact U))];exact e
 generalize upd (upd H q[p] (.lst ((l.map hX).set c (ao t)))) d (.lst ((S.dF.map ao).set p (ao (n - 1))))=C at f B |-;obtain ⟨A,X⟩:=f.ins;have s:((S.dF.set p (n - 1)).map ao)[p]?=some (ao (n - 1)):=by
   rw [aag,cZ.mpr (.inl ⟨rfl,by rw [CT] at J;exact J,rfl⟩)];rfl
 refine ⟨_,rfl,x,_,A,_,_,rfl,X,T.cE,T.gL,rfl,_,rfl,d,_,_,_,rfl,rfl,.inl (aY.of f.Tz),cq s,?_⟩;refine ⟨rfl,_,rfl,?_⟩;by_cases R:n=1
 .
  rw [show decide (ao (n - 1)=V.int 0)=true from aaM (by rw [R];rfl)];have L:p<(S.bI.map hX).length:=by rw [CT];exact hp
  have xk:x≠i:=λ z=>by rw [z,f.VF] at X;cases X
  have h2:=f.Y5 (p:=p) (t:=t);have M:gU (y::d::i::m::q) H (upd (upd C i (.lst ((S.bI.map hX).set p (ao (t+1))))) m (.lst (S.queue.map ao++[ao p]))):=λ b u e N=>by
    have:=B b u e N;simp only [aah,adE] at N;rw [av N.2.2.2.1,av N.2.2.1];exact this
  refine fE ⟨_,rfl,_,_,rfl,rfl,λ r er=>?_⟩;obtain rfl:r=((t+1:Nat):Int):=er;refine ⟨_,rfl,x,_,A,_,_,rfl,X,T.cE,T.fH,rfl,_,rfl,i,_,_,p,rfl,rfl,f.VF,jM L,?_⟩;have W:=(av (o:=.lst ((S.bI.map hX).set p (ao (t+1)))) (λ z=>c1 z.symm)).trans f.Ww;refine ⟨_,rfl,x,_,A,_,_,rfl,(av xk).trans X,T.cE,T.gH,rfl,.inl ⟨rfl,_,aY.of W⟩,_,rfl,m,_,_,rfl,rfl,W,abj (show (S.queue.map ao).length<=10000 by rw [CT];exact hz) (by decide),k _ M ?_⟩;unfold kc.fin;rw [abE R,abE R];exact h2
 .
  rw [show decide (ao (n - 1)=V.int 0)=false from aaL (λ z=>R (by have:=V.int.inj z;lia))];refine dE (k C B ?_);unfold kc.fin;rw [abC R,abC R];exact f
def qH (T:Txt K mg Ad):jx P w K mg base Ad.dD "go_back" 2 ["self","ahead"] [] (Gz K Ad.dD):=by
 refine T.tO.iA de λ Z Z Z Z Z H vs Q E hr h=>?_;obtain ⟨x,D,I,B,u,A,S0,pa,ah,rows,rfl,WI,a1,a0,an,R4,lr,k⟩:=h;refine ⟨_,(ai (cS (i:=2) de.nd ac)
     (am (qi abM (aJ lH (pv 2) (aP bz (by rfl) T.eP cR (aa (aW (pv 0) rfl) af)) (aK _)) (ai (cS (i:=3) de.nd (aF aB (aW (pv 0) rfl) (pv 2)))
     (ai (cP abM rfl (bS (aF aB (pv 1) (pv 3))) (dH (K:=K) (n:=2) rfl rfl (aQ (iF (i:=4) de.nd) (aQ (iF (i:=5) de.nd) dL))) (am (br (aJ pj (aF aB (aF aB (aW (pv 0) rfl) (pv 4)) (pv 5)) cY (aK _)) (am (bo (bg (pv 0) T.cE (nX (P:=P) (w:=w) T) .nil hr.m (aa (pv 4) (aa (pv 5) (aa (aF aB (aW (pv 0) rfl) (pv 3)) af)))))) aH)))
     (am (Pw (i:=2) de.nd rfl (lc rfl) ac OI))))))),?_⟩
 try dsimp only [fD,bj]
 refine ⟨λ mz N f=>(E3 λ S F d=>A8 (gU (IN D I B u A) H f) (iD Ad.dD f x D I B u A S) (iE rows S F) (gb rows S) (∀ i j,i<d->S.queue[i]?=some j->yb rows S j) (∀ i j k,d<=i->S.queue[i]?=some j->S.bI[j]?=some (some k)->F<=k) (mz=2000 - d) (E3 λ (v3 W Y:eO)=>N=[some (.ref x),some (.ref pa),some (ao d),v3,W,Y])),
   ⟨_,S0,0,0,λ Z Z h Z=>h,WI,a1,a0,λ i j h=>absurd h (adg _),λ Z Z Z Z Z Z=>ach _,rfl,none,none,none,rfl⟩,?_⟩
 rintro mz N H1 ⟨S,F,d,b1,U,ok,nd,gd,lo,rfl,v3,W,Y,rfl⟩;obtain ⟨dx,hx⟩:=U.ins;have ql:=ok.ql;refine ⟨_,rfl,_,rfl,x,_,dx,_,_,rfl,hx,T.cE,T.gH,rfl,u,_,rfl,.inl (aY.of U.Ww),λ y ey=>⟨_,_,rfl,rfl,_,rfl,gi (λ h=>?_) (λ h=>?_)⟩⟩
 .
  rw [CT] at ey;have hi:d<S.queue.length:=by lia
  have R:S.queue[d]?=some S.queue[d]:=Vo hi;generalize S.queue[d]=j at R;obtain ⟨kk,ek⟩:=(ok.qu j).mp (aal R);have AY:=ok.up (lo d j kk (aaD _) R ek);have hj:j<ah.length:=by rw [R4.1,<- ok.lk];exact (QQ.mp ek).1
  have ea:ah[j]?=some ah[j]:=Vo hj;generalize ah[j]=l at ea;refine ⟨λ aj f=>∃ s,A6 (gU (IN D I B u A) H f) (iD Ad.dD f x D I B u A s) (iE rows s kk) (BZ S s) (yb rows s j) (E3 λ (v3 W Y:eO)=>aj=[some (.ref x),some (.ref pa),some (ao (d+1)),v3,W,Y]),
    λ aj f ⟨s,b',Nv,NI,X,gj,w3,w4,w5,e⟩=>⟨2000 - (d+1),by lia,s,kk,d+1,b',Nv,NI,nd.more X,λ i a hi e=>?_,λ i a k hi e M=>?_,rfl,w3,w4,w5,e⟩,?_⟩
  .
   by_cases q:i=d
   . rw [q,X.at R] at e;cases e;exact gj
   . have hq:i<S.queue.length:=by lia
     have G:=X.at (Vo hq);rw [e] at G;cases G;exact (gd i _ (by lia) (Vo hq)).more X
  .
   obtain ⟨i1,O⟩:=QQ.mp (X.at R);obtain ⟨i2,G⟩:=QQ.mp e;have:=List.pairwise_iff_getElem.mp NI.YV d i i1 i2 (by lia);rw [O,G] at this;exact this kk k (X.rk _ _ ek) M
  obtain ⟨va,W1,a3,ad⟩:=an.but b1 (Er WI.uO b1);obtain ⟨q,yU⟩:∃ q,va[j]?=some (.ref q)/\q∉IN D I B u A/\∃ vs,H1 q=some (.lst vs)/\Refs (λ b (pc:Nat×Nat)=>bP K H1 b [ao pc.1,ao pc.2]) vs l:=by
    have hv:j<va.length:=by rw [ad.length];exact hj
    obtain ⟨q,l',eq,o,z⟩:=ad.get (Vo hv);rw [ea] at o;cases o;exact ⟨q,by rw [Vo hv,eq],z⟩
  obtain ⟨eq,nq,vs,hq,QX⟩:=yU;refine ⟨_,rfl,x,_,dx,_,_,rfl,hx,T.cE,T.gH,rfl,_,rfl,u,_,_,_,rfl,rfl,.inl (aY.of U.Ww),cq (by rw [aag,R];rfl),?_⟩;refine ⟨_,rfl,_,rfl,pa,_,_,_,rfl,rfl,.inl (aY.of W1),cq eq,q,rfl,⟨_,aY.of hq⟩,?_⟩;refine gA (K:=K) (a:=q) (xs:=vs) (λ i N f=>∃ s,A7 (gU (IN D I B u A) H f) (gU (IN D I B u A) H1 f) (iD Ad.dD f x D I B u A s) (iE rows s kk) (BZ S s) (∀ p c,(p,c)∈l.take i->∃ t L,s.bG[p]?=some L/\L[c]?=some (some t)) (E2 λ (W Y:eO)=>N=[some (.ref x),some (.ref pa),some (ao d),some (ao j),W,Y])) ⟨S,b1,λ Z Z h Z=>h,U,AY,BZ.refl S,λ p c h=>by simp at h,_,_,rfl⟩ (λ i N f Z ⟨_,_,b,_,_,_,_,_⟩=>aY.of (b _ _ hq nq)) ?_ ?_
  .
   rintro Z i v N H2 hv ⟨g,b2,NO,V,C,X,tk,w4,w5,rfl⟩;obtain ⟨b,⟨p,c⟩,rfl,es,aD⟩:=QX.get hv;obtain ⟨r,js,M,ec,FW⟩:=(R4.2 j l p c ea).mp (aal es);have hp:p<rows.length:=(QQ.mp M).1;have Dx:p<g.bG.length:=by rw [C.ll];exact hp
   have zo:p<g.dF.length:=by rw [C.lg];exact hp
   have Aj:p<A.length:=by rw [V.len];exact Dx
   have o:=Vo Dx;have eg:=Vo zo;have ab:=Vo Aj;have hc:c<g.bG[p].length:=by rw [C.sh p _ _ o M];exact (QQ.mp ec).1
   have J:=Vo hc;have ux:=V.DO p _ _ ab o;obtain ⟨AW,xP⟩:=V.ins;have T2:aS K H1 H2:=Er U.uO NO;refine ⟨b,_,rfl,T2 _ _ aD,rfl,_,_,rfl,_,_,rfl,rfl,?_⟩;refine ⟨_,rfl,x,_,AW,_,_,rfl,xP,T.cE,T.jt,rfl,_,rfl,D,_,_,_,rfl,rfl,.inl (aY.of V.las),cq (by rw [aag,ab];rfl),_,rfl,A[p],_,_,_,rfl,rfl,.inl (aY.of ux),cq (by rw [aag,J];rfl),rfl,_,rfl,?_⟩;have ae:∀ {S2:kc},BZ g S2->(∃ t L,S2.bG[p]?=some L/\L[c]?=some (some t))->∀ p' c',(p',c')∈l.take (i+1)->∃ t L,S2.bG[p']?=some L/\L[c']?=some (some t):=λ x2 hh p' c' hm=>by
     rw [bQ es] at hm;rcases aaY.mp hm with z|z
     . obtain ⟨t,L,O,G⟩:=tk p' c' z;obtain ⟨aG,f1,f2⟩:=x2.la _ _ _ _ O G;exact ⟨t,aG,f1,f2⟩
     . cases aac.mp z;exact hh
   cases q0:g.bG[p][c] with
   | some t =>
     rw [q0] at J;refine dE ⟨g,b2,NO,V,C,X,ae (BZ.refl _) ⟨t,_,o,J⟩,_,_,rfl⟩
   | none =>
     rw [q0] at J;have en:=C.go p _ _ o eg;have n0:g.dF[p]≠0:=λ z=>by
       rw [z] at en;exact adM.mp en.symm _ (aal J) rfl
     have Vy:=X.rk _ _ ek;have a2:vi rows g.bI p c kk:=⟨r,M,.inr ⟨js,ec,j,FW,Vy⟩⟩
     refine fE ⟨_,rfl,x,AW,_,rfl,xP,rfl,_,rfl,_,rfl,_,rfl,x,_,AW,_,_,rfl,xP,T.cE,T.fH,rfl,_,rfl,B,_,_,_,rfl,rfl,.inl (aY.of V.VF),cq (by rw [aag,Vy];rfl),x,D,I,B,u,A,g,p,c,kk,_,_,rfl,V,o,hc,eg,n0,by rw [C.lk];exact hp,abk C.ql (abk lr (by decide)),λ H3 b3 ar=>?_⟩;refine ⟨_,Bj b2 b3,Bj NO b3,ar,C.fin o eg J a2,X.trans (C.Tt o eg J),ae (C.Tt o eg J) ⟨kk,_,cZ.mpr (.inl ⟨rfl,Dx,rfl⟩),cZ.mpr (.inl ⟨rfl,hc,rfl⟩)⟩,_,_,rfl⟩
  .
   rintro N H2 ⟨g,b2,NO,V,C,X,tk,w4,w5,rfl⟩;rw [QX.length,abz] at tk;refine ⟨_,rfl,_,_,rfl,rfl,g,b2,V,C,X,λ p r c js M ec FW=>?_,_,_,_,rfl⟩;obtain ⟨t,L,O,G⟩:=tk p c ((R4.2 j l p c ea).mpr ⟨r,js,M,ec,FW⟩);exact ⟨L,t,kk,O,G,X.rk _ _ ek,C.lo _ _ _ _ O G⟩
 .
  rw [CT] at ey;refine k H1 S F b1 U ok nd λ j hj=>?_;obtain ⟨i,hi,rfl⟩:=acF.mp hj;exact gd i _ (by lia) (Vo hi)
def qQ (T:Txt K mg Ad):Def P w K mg base "choices_ahead" 1 ["rows"] (HB K):=by
 refine T.tK.dg cL λ Z Z Z Z Z H vs Q E hr h=>?_;obtain ⟨J,vr,rows,rfl,pF,dr,lr,hb,k⟩:=h;refine ⟨_,(ai (lP (yi:=1) ["row"] [] [] .nil rfl (bS (pv 0)) (λ Z Z Z Z Z=>(lK (i:=0))) (λ Z Z Z Z Z=>cC) (λ Z Z Z Z Z=>(cQ af)) cL.nd (lc rfl))
     (ai (cP abM rfl (sy rfl T.dS (aa (pv 0) af)) (dH (K:=K) (n:=2) rfl rfl (aQ (iF (i:=2) cL.nd) (aQ (iF (i:=3) cL.nd) dL))) (am (cP abM rfl (sy rfl T.dS (aa (pv 3) af)) (dH (K:=K) (n:=2) rfl rfl (aQ (iF (i:=4) cL.nd) (aQ (iF (i:=5) cL.nd) dL))) (am (br (aJ jJ (pv 5) cY (aK _)) (am (cP abM rfl (bS (pv 5)) (iF (i:=6) cL.nd) (am (bo (g8 abx abK abG cz (aF aB (pv 1) (pv 6)) (aa (bJ (aa (pv 2) (aa (pv 4) af))) af)))))) aH)))))
     (am (aI (pv 1))))),?_⟩
 try dsimp only [fD,bj]
 try (refine dR ?_;intro Z Z Z Z)
 have lv:vr.length=rows.length:=by rw [dr.length,CT]
 refine ⟨_,rfl,J,rfl,⟨_,aY.of pF⟩,λ D hD=>?_⟩;have s0:=al (o:=.lst []) hD;have a0:Ae K H (upd H D (.lst [])) D [] []:=⟨s0,λ b hb=>by rw [aac.mp hb];exact hD,abZ.mpr ⟨aak,aeh⟩,rfl,ag,λ j b l e=>by simp at e⟩
 refine cG (K:=K) (a:=J) (xs:=vr) (λ i g m f=>∃ as,A3 (Ae K H f D as ((rows.take i).map λ Z=>[])) (g=as.map .ref) (∃ v,m=[v])) ⟨[],a0,rfl,none,rfl⟩ (λ i g m f Z ⟨_,h,_,_⟩=>aY.of (h.sm _ _ pF)) ?_ ?_
 .
  rintro i y g m H1 hy ⟨as,s,rfl,v,rfl⟩;have hi:i<rows.length:=by rw [<- lv];exact (QQ.mp hy).1
  have la:=s.le;rw [CT,abw] at la;refine ⟨Fo,λ q O=>⟨al O _ _ s.hp,abj (show (as.map V.ref).length<=100000 by rw [CT];lia) (by decide),as++[q],?_,by rw [aap];rfl,_,rfl⟩⟩;rw [bQ (Vo hi),aap];exact s.row O
 rintro g m H1 ⟨as,s,rfl,v,rfl⟩;rw [lv,abz] at s;have L:∀ {Ho q xs},aE H Ho->aY K H q xs->aY K Ho q xs:=λ S e=>by
   rcases e with (e|⟨o,e⟩)|e
   . exact .inl (.inl (S _ _ e))
   . exact .inl (.inr ⟨o,S _ _ e⟩)
   . exact .inr e
 refine ⟨_,rfl,J,rfl,⟨_,aY.of (s.sm _ _ pF)⟩,?_⟩;refine yE (sq:=aY K) (xs:=vr) (λ i c f=>∃ A,A4 (Ae K H f D as A) (mw rows i 0 0 A) (zB (i * 16 * 400) A) (E5 λ (v2 v3 v4 v5 C:eO)=>c=[some (.ref J),some (.ref D),v2,v3,v4,v5,C])) ⟨_,s,mw.zero rows,λ j l e=>?_,none,none,none,none,none,rfl⟩ (λ i c f Z ⟨_,h,_,_,_⟩=>aY.of (h.sm _ _ pF)) ?_ ?_
 . rw [aag] at e;obtain ⟨r,Z,rfl⟩:=ac1.mp e;exact ach _
 .
  rintro i x pp c H2 hx vb ⟨A,a2,t2,l2,v2,v3,v4,v5,C,rfl⟩;have hi:i<rows.length:=by rw [<- lv];exact (QQ.mp hx).1
  have u:=Vo hi;generalize rows[i]=r at u;obtain ⟨x',ex,dx⟩:=dr.get (d:=sC r) (by rw [aag,u];rfl);rw [hx] at ex;cases ex;obtain ⟨q,xs,rfl,O,dq⟩:=dx;have lq:xs.length=r.length:=by rw [dq.length,CT]
  have bd:=hb r (aal u);refine ⟨pp,_,rfl,bP.of ag,rfl,_,_,rfl,_,_,rfl,rfl,?_⟩;have a3:=a2.same (al (o:=.tup [ao i,.ref q]) vb);generalize upd H2 pp (.tup [ao i,.ref q])=H3 at a3 |-;refine ⟨_,rfl,q,rfl,⟨_,L a3.sm O⟩,?_⟩;refine yE (sq:=aY K) (xs:=xs) (λ n c f=>∃ A,A4 (Ae K H f D as A) (mw rows i n 0 A) (zB ((i * 16+n) * 400) A) (E3 λ (v4 v5 C:eO)=>c=[some (.ref J),some (.ref D),some (ao i),some (.ref q),v4,v5,C])) ⟨_,a3,t2,l2,_,_,_,rfl⟩ (λ i c f Z ⟨_,h,_,_,_⟩=>L h.sm O) ?_ ?_
  .
   rintro n y Vr c H4 hy Po ⟨WN,a4,X,U,w4,w5,w6,rfl⟩;have hn:n<r.length:=by rw [<- lq];exact (QQ.mp hy).1
   have I:=Vo hn;generalize r[n]=vv at I;obtain ⟨y',ey,dy⟩:=dq.get (d:=uX vv) (by rw [aag,I];rfl);rw [hy] at ey;cases ey;refine ⟨Vr,_,rfl,bP.of ag,rfl,_,_,rfl,_,_,rfl,rfl,?_⟩;have a5:=a4.same (al (o:=.tup [ao n,y]) Po);generalize upd H4 Vr (.tup [ao n,y])=H5 at a5 |-;cases vv with
   | none =>
     obtain rfl:y = .cT:=dy;exact ⟨_,rfl,rfl,_,rfl,dE ⟨WN,a5,X.M9 u I (λ Z z=>by cases z),U.mono (by lia),_,_,_,rfl⟩⟩
   | some js =>
     obtain ⟨q2,ys,rfl,wc,ab⟩:=dy;obtain rfl:=wQ ab;obtain ⟨lj,hj⟩:=bd.2 js (aal I);refine ⟨_,rfl,rfl,_,rfl,fE ?_⟩;refine ⟨_,rfl,q2,rfl,⟨_,L a5.sm wc⟩,?_⟩;refine gA (K:=K) (a:=q2) (xs:=js.map ao) (λ kx c f=>∃ A,A4 (Ae K H f D as A) (mw rows i n kx A) (zB ((i * 16+n) * 400+kx) A) (∃ (C:eO),c=[some (.ref J),some (.ref D),some (ao i),some (.ref q),some (ao n),some (.ref q2),C])) ⟨WN,a5,X,by rw [af9];exact U,_,rfl⟩ (λ i c f Z ⟨_,h,_,_,_⟩=>L h.sm wc) ?_ ?_
     .
      rintro Z kx z c H6 hz ⟨Xh,F,Y,W,u6,rfl⟩;rw [aag] at hz;obtain ⟨j,ej,rfl⟩:=ac1.mp hz;have UD:=hj j (aal ej);have N:j<Xh.length:=by rw [Y.1];exact UD
      have FW:j<as.length:=by rw [F.le];exact N
      have G:=Vo N;have eb:=Vo FW;have hk:kx<js.length:=(QQ.mp ej).1;generalize Xh[j]=la at G;generalize as[j]=b at eb;refine ⟨_,rfl,_,rfl,D,_,_,_,rfl,rfl,.inl (aY.of F.hp),cq (by rw [aag,eb];rfl),?_⟩;obtain ⟨vs,M,ad⟩:=F.DO j b la eb G;refine ⟨.inl ⟨rfl,_,aY.of M⟩,_,rfl,_,rfl,Hl,λ t ht=>?_⟩;have st:=al (o:=.tup [ao i,ao n]) ht;have a7:=F.same st;have Yh:=st _ _ M;have B:=ad.imp λ p (pc:Nat×Nat) z=>st.ts (K:=K) _ _ z;have R:bP K (upd H6 t (.tup [ao i,ao n])) t [ao i,ao n]:=bP.of ag;generalize upd H6 t (.tup [ao i,ao n])=H7 at a7 Yh B R |-;have le:=W j la G;refine ⟨b,vs,_,rfl,rfl,Yh,abj (show vs.length<=14000000 by rw [B.length];lia) (by decide),_,a7.put eb G Yh B R,Y.put u I ej G,by rw [<- Nat.add_assoc];exact W.put G,_,rfl⟩
     . rintro c H6 ⟨Xh,F,Y,W,u6,rfl⟩;rw [CT] at Y W;exact ⟨Xh,F,Y.M9 u I (λ Z z=>by cases z;rfl),W.mono (by lia),_,_,_,rfl⟩
  . rintro c H4 ⟨WN,a4,X,U,w4,w5,w6,rfl⟩;rw [lq] at X U;exact ⟨WN,a4,X.UE u,U.mono (by have:=bd.1;lia),_,_,_,_,_,rfl⟩
 . rintro c H2 ⟨A,a2,t2,l2,v2,v3,v4,v5,C,rfl⟩;rw [lv] at t2;exact ⟨_,rfl,k D as A H2 a2 t2.done⟩
def pA (T:Txt K mg Ad):jx P w K mg base Ad.dD "__init__" 3 ["self","game"] [] (JP P w K Ad.cV Ad.dD):=by
 refine T.rm.iA dX λ Z Z Z Z Z H vs Q E hr h=>?_;obtain ⟨x,J,y,pm,po,U,pd,aG,g,rfl,hx,hg,N,k⟩:=h;refine ⟨_,(ai (eV (pv 0) (dB ["choices"] [] [] .nil rfl ge (bS (aW (pv 1) rfl)) (λ Z Z Z Z Z=>(lK (i:=0))) (λ Z Z Z Z Z=>cC) (λ Z Z Z Z Z=>(dB ["row"] [] [] .nil rfl ge (KO (K:=K) rfl (pv 0)) (λ Z Z Z Z Z=>(lK (i:=0))) (λ Z Z Z Z Z=>cC) (λ Z Z Z Z Z=>cY)))) rfl)
     (ai (eV (pv 0) (dB ["choices"] [] [] .nil rfl ge (bS (aW (pv 1) rfl)) (λ Z Z Z Z Z=>(lK (i:=0))) (λ Z Z Z Z Z=>cC) (λ Z Z Z Z Z=>(aP (G0 (K:=K) rfl) (by rfl) T.eP cR (aa (pv 0) af)))) rfl)
     (ai (eV (pv 0) (dB ["many"] [] [] .nil rfl ge (bS (aW (pv 0) rfl)) (λ Z Z Z Z Z=>(lK (i:=0))) (λ Z Z Z Z Z=>cC) (λ Z Z Z Z Z=>(uS (aJ db (pv 0) ac (aK _)) ac cY))) rfl)
     (ai (eV (pv 0) (dB ["place","rank"] [] [] .nil rfl ge (sy rfl T.dS (aa (aW (pv 0) rfl) af)) (λ Z Z Z Z Z=>(dH (K:=K) (n:=2) rfl rfl (aQ (lK (i:=0)) (aQ (lK (i:=1)) dL)))) (λ Z Z Z Z Z=>(jP (aJ db (pv 1) ac (aK _)))) (λ Z Z Z Z Z=>(pv 0))) rfl)
     (ai (cP abM rfl (sy rfl T.dS (aa (aW (pv 1) rfl) af)) (dH (K:=K) (n:=2) rfl rfl (aQ (iF (i:=2) dX.nd) (aQ (iF (i:=3) dX.nd) dL))) (am (cP abM rfl (sy rfl T.dS (aa (pv 3) af)) (dH (K:=K) (n:=2) rfl rfl (aQ (iF (i:=4) dX.nd) (aQ (iF (i:=5) dX.nd) dL))) (am (br (aJ pj (pv 5) cY (aK _)) (am (bo (bg (pv 0) T.cE (nX (P:=P) (w:=w) T) .nil hr.m (aa (pv 2) (aa (pv 4) (aa ac af)))))) aH)))))
     (am (bo (bg (pv 0) T.cE (qH (P:=P) (w:=w) T) .nil hr.m (aa (aw (qQ T) hr.m (aa (aW (pv 1) rfl) af)) af))))))))),?_⟩
 try dsimp only [fD,bj]
 try (refine vV ?_;intro Z Z Z Z Z Z Z)
 obtain ⟨dy,hy⟩:=hg.ins;obtain ⟨vr,pF,dr⟩:=hg.rows;have a6:=bE.same iB _ dr;have lv:vr.length=g.rows.length:=by rw [dr.length,CT]
 refine ⟨_,rfl,y,_,dy,_,_,rfl,hy,T.ck,T.dU,rfl,U,rfl,⟨_,aY.of pF⟩,λ C gT=>?_⟩;have s0:=al (o:=.lst []) gT;have a0:O1 H (upd H C (.lst [])) C [] []:=⟨s0,λ b N=>by rw [aac.mp N];exact gT,abZ.mpr ⟨aak,aeh⟩,rfl,ag,λ j b l e=>by simp at e⟩
 refine cG (K:=K) (a:=U) (xs:=vr) (λ i A f s=>∃ O,A3 (O1 H s C O ((g.rows.take i).map λ r=>r.map λ Z=>none)) (A=O.map .ref) (∃ v,f=[v])) ⟨[],a0,rfl,none,rfl⟩ (λ i A f s Z ⟨_,h,_,_⟩=>aY.of (h.sm _ _ pF)) ?_ ?_
 .
  rintro i v A f H1 F ⟨O,W,rfl,v0,rfl⟩;have M:i<g.rows.length:=by rw [<- lv];exact (QQ.mp F).1
  have t:=Vo M;obtain ⟨v',ev,dv⟩:=a6.get (d:=sC g.rows[i]) (by rw [aag,t];rfl);rw [F] at ev;cases ev;obtain ⟨q,xs,rfl,hq,dq⟩:=dv;have lq:xs.length=g.rows[i].length:=by rw [dq.length,CT]
  have lb:=(N.2 _ (abq M)).1;have la:=W.le;rw [CT,abw] at la;refine ⟨_,rfl,q,rfl,⟨_,hq.sm W.sm⟩,λ D hD=>?_⟩;refine cG (K:=K) (a:=q) (xs:=xs) (λ j gZ ab s=>s=upd H1 D (.lst gZ)/\gZ=List.replicate j .cT/\∃ v,ab=[v]) ⟨rfl,rfl,none,rfl⟩ (λ j gZ ab s Z ⟨e,_,_⟩=>by rw [e];exact (hq.sm W.sm).sm (al hD)) ?_ ?_
  . rintro j u gZ ab H2 hu ⟨rfl,rfl,v2,rfl⟩;have hj:j<xs.length:=(QQ.mp hu).1;exact ⟨ag,abj (show (List.replicate j V.cT).length<=100000 by rw [aej];lia) (by decide),nl,List.replicate_succ'.symm,_,rfl⟩
  .
   rintro gZ ab H2 ⟨rfl,rfl,v2,rfl⟩;have en:List.replicate xs.length V.cT=(g.rows[i].map λ Z=>(none:Option Nat)).map hX:=by
     rw [lq,adX];exact (List.map_const' ..).symm
   refine ⟨al hD _ _ W.hp,abj (show (O.map V.ref).length<=100000 by rw [CT];have:=N.1;lia) (by decide),O++[D],?_,by rw [aap];rfl,_,rfl⟩;rw [bQ t,aap,en];exact W.row hD
 rintro A f H1 ⟨O,W,rfl,v,rfl⟩;rw [lv,abz] at W;have la:=W.le;rw [CT] at la;have B0:=W.rkb (K:=K) hx;generalize ar:(g.rows.map λ r=>r.map λ Z=>(none:Option Nat))=bf at B0;refine ⟨_,rfl,x,_,J,_,rfl,B0.b.at_,T.cE,T.jt,lt1000 rfl,?_⟩;have B1:=B0.put (fs':=aN "lasts" (.ref C) []);have ny:y≠x:=λ z=>by rw [z,hx] at hy;injection hy with h;injection h with _ _ h;cases h
 have nr:U≠x:=λ z=>by rw [z,hx] at pF;cases pF
 have rd:∀ {s fs L},DI K Ad.dD x J H s fs L->s y=some (.ins Ad.cV dy (UR pm po U pd aG))/\s U=some (.lst vr)/\bE K s (g.rows.map sC) vr:=λ B=>⟨B.b.st _ _ hy ny,B.b.st _ _ pF nr,bE.same iB _ (bE.yT hx rfl (λ c u e n Z=>B.b.st c u e n) dr)⟩
 generalize upd H1 x (.ins Ad.dD J (aN "lasts" (.ref C) []))=H2 at B1 |-;obtain ⟨bb,U1,a7⟩:=rd B1;refine ⟨_,rfl,y,_,dy,_,_,rfl,bb,T.ck,T.dU,rfl,U,rfl,⟨_,aY.of U1⟩,λ G JM=>?_⟩;refine cG (K:=K) (a:=U) (xs:=vr) (λ i A f s=>A3 (s=upd H2 G (.lst A)) (A=(g.rows.take i).map (λ r:bX=>ao r.length)) (∃ v,f=[v])) ⟨rfl,rfl,none,rfl⟩ (λ i A f s Z ⟨e,_,_⟩=>by rw [e];exact aY.of (al JM _ _ U1)) ?_ ?_
 .
  rintro i v A f H3 F ⟨rfl,rfl,v0,rfl⟩;have M:i<g.rows.length:=by rw [<- lv];exact (QQ.mp F).1
  have t:=Vo M;obtain ⟨v',ev,dv⟩:=a7.get (d:=sC g.rows[i]) (by rw [aag,t];rfl);rw [F] at ev;cases ev;obtain ⟨q,xs,rfl,hq,dq⟩:=dv;have lq:xs.length=g.rows[i].length:=by rw [dq.length,CT]
  refine ⟨_,rfl,q,xs,rfl,.inl (hq.sm (al JM)),λ r OE=>⟨ag,abj (show _<=100000 by rw [CT,abw];have:=N.1;lia) (by decide),nl,?_,_,rfl⟩⟩;rw [bQ t,aap,OE,lq];rfl
 rintro A f H3 ⟨rfl,rfl,v0,rfl⟩;rw [lv,abz];have B2:=B1.more (al (o:=.lst (g.rows.map λ r:bX=>ao r.length)) JM) JM ag;refine ⟨_,rfl,x,_,J,_,rfl,B2.b.at_,T.cE,T.gL,lt1000 rfl,?_⟩;have B3:=B2.put (fs':=aN "going" (.ref G) (aN "lasts" (.ref C) []));generalize upd (upd H2 G (.lst (g.rows.map λ r:bX=>ao r.length))) x (.ins Ad.dD J (aN "going" (.ref G) (aN "lasts" (.ref C) [])))=H4 at B3 |-;have TZ:=(B3.at_ _ aaW).1;have lg:(g.rows.map λ r:bX=>ao r.length).length=g.rows.length:=CT ..;refine ⟨_,rfl,x,_,J,_,_,rfl,B3.b.at_,T.cE,T.gL,rfl,G,rfl,⟨_,aY.of TZ⟩,λ I Vz=>?_⟩;refine cG (K:=K) (a:=G) (xs:=g.rows.map λ r:bX=>ao r.length) (λ i A f s=>A3 (s=upd H4 I (.lst A)) (A=(g.rows.take i).map (λ r:bX=>hX (if r.length=0 then some 0 else none))) (∃ v,f=[v])) ⟨rfl,rfl,none,rfl⟩ (λ i A f s Z ⟨e,_,_⟩=>by rw [e];exact aY.of (al Vz _ _ TZ)) ?_ ?_
 .
  rintro i v A f H5 F ⟨rfl,rfl,v0,rfl⟩;have M:i<g.rows.length:=by rw [<- lg];exact (QQ.mp F).1
  have t:=Vo M;rw [aag,t] at F;cases F;have nx:(upd H4 I (.lst ((g.rows.take i).map (λ r:bX=>hX (if r.length=0 then some 0 else none))))) I=some (.lst ((g.rows.take i).map (λ r:bX=>hX (if r.length=0 then some 0 else none))))/\((g.rows.take i).map (λ r:bX=>hX (if r.length=0 then some 0 else none))).length<sizeLine:=⟨ag,abj (show _<=100000 by rw [CT,abw];have:=N.1;lia) (by decide)⟩
  refine ⟨_,rfl,rfl,_,rfl,?_⟩;by_cases X:g.rows[i].length=0
  . rw [show decide (ao g.rows[i].length=V.int 0)=true from aaM (by rw [X];rfl)];refine fE ⟨nx.1,nx.2,nl,?_,_,rfl⟩;rw [bQ t,aap,agp,abE X];rfl
  . rw [show decide (ao g.rows[i].length=V.int 0)=false from aaL (λ z=>X (by have:=V.int.inj z;lia))];refine dE ⟨nx.1,nx.2,nl,?_,_,rfl⟩;rw [bQ t,aap,agp,abC X];rfl
 rintro A f H5 ⟨rfl,rfl,v0,rfl⟩;rw [lg,abz];have B4:=B3.more (al (o:=.lst (g.rows.map λ r:bX=>hX (if r.length=0 then some 0 else none))) Vz) Vz ag;refine ⟨_,rfl,x,_,J,_,rfl,B4.b.at_,T.cE,T.fH,lt1000 rfl,?_⟩;have B5:=B4.put (fs':=aN "ranks" (.ref I) (aN "going" (.ref G) (aN "lasts" (.ref C) [])));generalize upd (upd H4 I (.lst (g.rows.map λ r:bX=>hX (if r.length=0 then some 0 else none)))) x (.ins Ad.dD J (aN "ranks" (.ref I) (aN "going" (.ref G) (aN "lasts" (.ref C) []))))=H6 at B5 |-;have UX:=(B5.at_ _ aaW).1;have lk:(g.rows.map λ r:bX=>hX (if r.length=0 then some 0 else none)).length=g.rows.length:=CT ..;refine ⟨_,rfl,x,_,J,_,_,rfl,B5.b.at_,T.cE,T.fH,rfl,I,rfl,⟨_,aY.of UX⟩,λ Y JF=>?_⟩;refine kO (sq:=aY K) (a:=I) (xs:=g.rows.map λ r:bX=>hX (if r.length=0 then some 0 else none)) (λ i A f s=>A4 (aE H6 s) (s Y=some (.lst A)) (A=((List.range i).filter λ p=>g.rows[p]? == some []).map ao) (E2 λ v w=>f=[v,w])) ⟨al JF,ag,rfl,none,none,rfl⟩ (λ i A f s Z ⟨e,_,_,_⟩=>aY.of (e _ _ UX)) ?_ ?_
 .
  rintro i v p A f H7 F hp ⟨s7,V5,rfl,v0,w0,rfl⟩;have M:i<g.rows.length:=by rw [<- lk];exact (QQ.mp F).1
  have t:=Vo M;rw [aag,t] at F;obtain rfl:v=hX (if g.rows[i].length=0 then some 0 else none):=(aaO F).symm;have s8:=al (o:=.tup [ao i,hX (if g.rows[i].length=0 then some 0 else none)]) hp;refine ⟨p,_,rfl,bP.of ag,rfl,_,_,rfl,_,_,rfl,rfl,?_⟩;have ad:=s8 _ _ V5;have PB:=s7.trans s8;generalize upd H7 p (.tup [ao i,hX (if g.rows[i].length=0 then some 0 else none)])=H8 at ad PB |-;have lf:(((List.range i).filter λ p=>g.rows[p]? == some []).map ao).length<=100000:=by
    rw [CT];have:=acs (λ p=>g.rows[p]? == some []) (List.range i);rw [aax] at this;have:=N.1;lia
  have rs:(List.range (i+1)).filter (λ p=>g.rows[p]? == some [])=(List.range i).filter (λ p=>g.rows[p]? == some [])++[i].filter (λ p=>g.rows[p]? == some []):=by
    rw [acb,adj]
  by_cases X:g.rows[i].length=0
  .
   have e1:[i].filter (λ p=>g.rows[p]? == some [])=[i]:=by
     have:=adL.mp X;simp [t,this]
   rw [abE X];refine ⟨_,rfl,rfl,_,rfl,fE ⟨_,rfl,ad,abj lf (by decide),λ b u e=>?_,ag,?_,_,_,rfl⟩⟩
   . rw [av (ay e JF)];exact PB b u e
   . rw [rs,e1,aap];rfl
  .
   have e1:[i].filter (λ p=>g.rows[p]? == some [])=[]:=by
     have:g.rows[i]≠[]:=λ z=>X (by rw [z];rfl);simp [t,this]
   rw [abC X];refine ⟨_,rfl,rfl,_,rfl,dE ⟨PB,ad,?_,_,_,rfl⟩⟩;rw [rs,e1,acB]
 rintro A f H7 ⟨s7,V5,rfl,v0,w0,rfl⟩;rw [lk] at V5;have B6:=B5.more s7 JF V5;refine ⟨_,rfl,x,_,J,_,rfl,B6.b.at_,T.cE,T.gH,lt1000 rfl,?_⟩;have B7:=B6.put (fs':=aN "queue" (.ref Y) (aN "ranks" (.ref I) (aN "going" (.ref G) (aN "lasts" (.ref C) []))));generalize upd H7 x (.ins Ad.dD J (aN "queue" (.ref Y) (aN "ranks" (.ref I) (aN "going" (.ref G) (aN "lasts" (.ref C) [])))))=H8 at B7 |-;have R8:iD Ad.dD H8 x C G I Y O (Jf g.rows):=by
   refine DI.rk (K:=K) (dx:=J) (H:=H) ?_ (by rw [la];exact (CT ..).symm);rw [show (Jf g.rows).bI.map hX=g.rows.map (λ r:bX=>hX (if r.length=0 then some 0 else none)) from adX,show (Jf g.rows).dF.map ao=g.rows.map (λ r:bX=>ao r.length) from adX,show (Jf g.rows).bG=bf from ar];exact B7
 have W8:=B7.W8 (by rw [la,<- ar];exact (CT ..).symm);have b8:=B7.fr;have t8:=B7.b.ts;clear B0 B1 B2 B3 B4 B5 B6 B7;have ae:∀ {s},gU [x] H s->s y=some (.ins Ad.cV dy (UR pm po U pd aG))/\s U=some (.lst vr)/\bE K s (g.rows.map sC) vr:=λ b=>⟨b _ _ hy (by simp [ny]),b _ _ pF (by simp [nr]),bE.same iB _ (bE.yT hx rfl (λ c u e n Z=>b c u e (by simp [n])) dr)⟩
 obtain ⟨bc,XG,WX⟩:=ae b8;refine ⟨_,rfl,y,_,dy,_,_,rfl,bc,T.ck,T.dU,rfl,U,rfl,⟨_,aY.of XG⟩,?_⟩;refine yE (sq:=aY K) (xs:=vr) (λ i σ s=>∃ S,A5 (gU [x] H s) (aS K H s) (iD Ad.dD s x C G I Y O S) (nW g.rows S i 0) (E4 λ (v2 v3 v4 v5:eO)=>σ=[some (.ref x),some (.ref y),v2,v3,v4,v5])) ⟨_,b8,t8,R8,nW.zero _,none,none,none,none,rfl⟩ (λ i σ s Z ⟨_,b,_,_,_,_⟩=>aY.of (ae b).2.1) ?_ ?_
 .
  rintro i v pp σ H9 F vb ⟨S,b9,t9,R9,Vq,v2,v3,v4,v5,rfl⟩;have M:i<g.rows.length:=by rw [<- lv];exact (QQ.mp F).1
  have t:=Vo M;generalize g.rows[i]=r at t;have bd:=N.2 r (aal t);have xU:=al (o:=.tup [ao i,v]) vb;refine ⟨pp,_,rfl,bP.of ag,rfl,_,_,rfl,_,_,rfl,rfl,?_⟩;have KS:gU [x] H _:=λ c u e n=>xU c u (b9 c u e n);have NQ:=t9.trans xU.ts;have aj:=R9.same xU;generalize upd H9 pp (.tup [ao i,v])=GU at KS NQ aj |-;obtain ⟨v',ev,dv⟩:=dr.get (d:=sC r) (by rw [aag,t];rfl);rw [F] at ev;cases ev;obtain ⟨q,xs,rfl,hq,dq⟩:=dv;have lq:xs.length=r.length:=by rw [dq.length,CT]
  have aD:∀ {s},gU [x] H s->aY K s q xs:=λ b=>by
    have nx:∀ {u},H q=some u->lS u=false->q∉[x]:=λ e n z=>by
      rw [aac.mp z,hx] at e;cases e;cases n
    rcases hq with (e|⟨o,e⟩)|e
    . exact .inl (.inl (b _ _ (iB _ _ e) (nx (iB _ _ e) rfl)))
    . exact .inl (.inr ⟨o,b _ _ (iB _ _ e) (nx (iB _ _ e) rfl)⟩)
    . exact .inr e
  refine ⟨_,rfl,q,rfl,⟨_,aD KS⟩,?_⟩;refine yE (sq:=aY K) (xs:=xs) (λ n σ s=>∃ S,A5 (gU [x] H s) (aS K H s) (iD Ad.dD s x C G I Y O S) (nW g.rows S i n) (E2 λ (v4 v5:eO)=>σ=[some (.ref x),some (.ref y),some (ao i),some (.ref q),v4,v5])) ⟨_,KS,NQ,aj,Vq,_,_,rfl⟩ (λ i σ s Z ⟨_,b,_,_,_,_⟩=>aD b) ?_ ?_
  .
   rintro n u Vr σ Ce hu Po ⟨S1,Hn,P5,UM,R,w4,w5,rfl⟩;have hn:n<r.length:=by rw [<- lq];exact (QQ.mp hu).1
   have ec:=Vo hn;generalize r[n]=vv at ec;obtain ⟨u',eu,du⟩:=dq.get (d:=uX vv) (by rw [aag,ec];rfl);rw [hu] at eu;cases eu;have zG:=al (o:=.tup [ao n,u]) Po;refine ⟨Vr,_,rfl,bP.of ag,rfl,_,_,rfl,_,_,rfl,rfl,?_⟩;have NO:gU [x] H _:=λ c z e m=>zG c z (Hn c z e m);have RU:=P5.trans zG.ts;have Tq:=UM.same zG;generalize upd Ce Vr (.tup [ao n,u])=Om at NO RU Tq |-;cases vv with
   | some js =>
     obtain ⟨q2,ys,rfl,Z,Z⟩:=du;exact ⟨_,rfl,rfl,_,rfl,dE ⟨S1,NO,RU,Tq,R.skip t ec,_,_,rfl⟩⟩
   | none =>
     obtain rfl:u = .cT:=du;have Dx:i<S1.bG.length:=by rw [R.ok.ll];exact M
     have zo:i<S1.dF.length:=by rw [R.ok.lg];exact M
     have el:=Vo Dx;have eg:=Vo zo;generalize S1.bG[i]=l at el;generalize S1.dF[i]=m at eg;have hc:n<l.length:=by rw [R.ok.sh i l r el t];exact hn
     have Hs:=R.un i l n el hc (.inr ⟨rfl,aaD _⟩);have en:=R.ok.go i _ _ el eg;have n0:m≠0:=λ z=>by
       rw [z] at en;exact adM.mp en.symm _ (aal Hs) rfl
     obtain ⟨AW,xP⟩:=Tq.ins;refine ⟨_,rfl,rfl,_,rfl,fE ⟨_,rfl,x,AW,_,rfl,xP,rfl,_,rfl,_,rfl,x,C,G,I,Y,O,S1,i,n,0,m,l,rfl,Tq,el,hc,eg,n0,by rw [R.ok.lk];exact M,abk R.ok.ql (abk N.1 (by decide)),λ KW an a2=>?_⟩⟩;refine ⟨_,λ c z e mx=>an c z (NO c z e mx) λ y=>?_,RU.trans (Er Tq.uO an),a2,R.step t ec el eg,_,_,rfl⟩;rw [W8 c y] at e;cases e
  . rintro σ Ce ⟨S1,Hn,P5,UM,R,w4,w5,rfl⟩;rw [lq] at R;exact ⟨S1,Hn,P5,UM,R.next t,_,_,_,_,rfl⟩
 .
  rintro σ H9 ⟨S,b9,t9,R9,Vq,v2,v3,v4,v5,rfl⟩;rw [lv] at Vq;obtain ⟨a9,ba⟩:=R9.ins;obtain ⟨be,a3,a8⟩:=ae b9;refine ⟨_,rfl,x,a9,_,rfl,ba,rfl,_,rfl,y,_,dy,_,_,rfl,be,T.ck,T.dU,rfl,U,vr,g.rows,rfl,a3,a8,N.1,N.2,λ pa as ah GU KY R4=>?_⟩;refine ⟨x,C,G,I,Y,O,S,pa,ah,g.rows,rfl,R9.same KY.sm,Vq.ok,Vq.done,KY.at R9,R4,N.1,λ Ce S' a5 Hn UM Cr XH a4=>?_⟩;exact k C G I Y O S' a5 Ce (λ c z e mx=>Hn c z (KY.sm c z (b9 c z e mx)) λ y=>by rw [W8 c y] at e;cases e) ((t9.trans KY.sm.ts).trans (Er (R9.same KY.sm).uO Hn)) UM Cr XH a4
def ya (T:Txt K mg Ad):Lf P w K mg base "ranks_of" lE (.ref Ad.oO) 13 ["hold","states","limit"] (rG P w K Ad.bp Ad.fx):=by
 refine T.Cv.abi sM (λ vs H Q E h=>?_) (λ f Z Z Z s H vs Q E O h=>?_)
 . obtain ⟨a,q,L,fp,m,xs,l,rfl,Z⟩:=h;rfl
 .
  obtain ⟨a,q,L,fp,m,xs,l,rfl,hh,gh,F,z0,l2,rl,hq,zE,Rc,k⟩:=h;refine ⟨_,(ai (cS (i:=3) sM.nd (Kt T.LV (pI (P:=P) (w:=w) T) .nil O.m (pX λ Z Z Z z=>z) T.N8 (aa (pv 0) (aa (pv 1) (aa (pv 2) af)))))
    (am (aI (CS (P:=P) (w:=w) (K:=K) rfl rfl rfl O.u70 rfl (aa (aW (pv 3) rfl) (aa (aW (uq T.Iy (pA (P:=P) (w:=w) T) .nil O.m T.Mn (aa (pv 3) af)) rfl) af)) rfl T.QJ rfl T.NB)))),?_⟩
  try dsimp only [fD,bj]
  refine ⟨_,rfl,_,rfl,_,rfl,λ y D j C n=>?_⟩;have c:aE H (upd (upd H D (.own y)) y (.ins Ad.cV D [])):=(al C).trans (al (by first|(rw [av n];exact j)|(rw [av n.symm];exact j)));have Y:(upd (upd H D (.own y)) y (.ins Ad.cV D [])) y=some (.ins Ad.cV D []):=ag;generalize upd (upd H D (.own y)) y (.ins Ad.cV D [])=H1 at c Y |-;refine ⟨y,D,a,q,L,fp,m,xs,l,rfl,Y,hh.same c,λ z=>?_,gh,F,z0,l2,c _ _ hq,zE.imp (λ Z Z z=>z.same c),Rc,λ pm po pr pd g H2 b2 t2 fr G ok gl r ux=>⟨rfl,?_⟩⟩
  . obtain ⟨u,hu⟩:=hh.some y z;rw [j] at hu;cases hu
  have s2:aE H H2:=λ b u e=>b2 b u (c b u e) (by simp only [aac];exact ay e j);obtain ⟨t,U⟩:=G.ins;have lm:g.met.length<=2000:=by lia
  have hb:=ok.P6 gh rl r lm;refine ⟨_,rfl,y,_,t,_,_,rfl,U,T.ck,T.fN,rfl,_,rfl,λ x d R ky n2=>?_⟩;have W:aE H2 (upd (upd H2 d (.own x)) x (.ins Ad.dD d [])):=(al ky).trans (al (by first|(rw [av n2];exact R)|(rw [av n2.symm];exact R)));have X:(upd (upd H2 d (.own x)) x (.ins Ad.dD d [])) x=some (.ins Ad.dD d []):=ag;generalize upd (upd H2 d (.own x)) x (.ins Ad.dD d [])=H3 at W X |-;refine ⟨x,d,y,pm,po,pr,pd,L,g,rfl,X,G.same W,hb,λ pl pg pk pq qs S ab H4 b4 t4 hk rk nd gd=>⟨rfl,?_⟩⟩;have s4:aE H2 H4:=λ b u e=>b4 b u (W b u e) (by simp only [aac];exact ay e R);obtain ⟨Z7,Yy⟩:=hk.ins;obtain ⟨vm,iK,K3⟩:=(G.same s4).met;have lk:S.bI.length=g.met.length:=by rw [rk.lk,r]
  obtain ⟨A,e1,e2,v,e4⟩:=Og K3 lk;have N:(A.map (·.1)).Nodup:=by
    rw [v];exact List.Pairwise.map m6 (λ a b h z=>h (yR z)) ok.nd
  have V:A.length=g.met.length:=by rw [<- CT (·.1),v,CT]
  refine ⟨x,_,Z7,_,_,rfl,Yy,T.cE,T.fH,rfl,pm,pk,A,rfl,by rw [<- e1];exact aY.of iK,by rw [<- e2];exact aY.of hk.VF,N,e4,abk (show _<=2000 by lia) (by decide),λ p hp=>?_⟩;have s5:=al (o:=lJ P w p A) hp;refine k p A _ ((s2.trans s4).trans s5) ⟨ag,λ e he=>(e4 e he).ts s5.ts⟩ (λ st f9=>?_) (ok.clo gl r ux);obtain ⟨i,I,ei⟩:=acF.mp (ux st f9);have J:i<A.length:=by rw [V];exact I
  have M:i<S.bI.length:=by rw [lk];exact I
  have B:=Vo J;have er:=Vo M;have em:g.met[i]?=some st:=by rw [Vo I,ei]
  have k1:(A.map (·.1))[i]?=some A[i].1:=by rw [aag,B];rfl
  rw [v,aag,em] at k1;have k2:(A.map (λ e=>e.2.2))[i]?=some A[i].2.2:=by rw [aag,B];rfl
  rw [<- e2,aag,er] at k2;refine ⟨S.bI[i],?_,rk.rank nd gd ok r em er⟩;rw [show m6 st=A[i].1 from aaO k1,Ea N B];exact k2.symm
def md (T:Txt K mg Ad):By P w K mg base "ranks_of" 13 ["hold","states","limit"] [.int 2000] (rG P w K Ad.bp Ad.fx) :=
 (ya T).Vl T.Dv λ i H=>by
   obtain ⟨u,e,r⟩:=vals1 H;obtain rfl:i=#[u]:=by
     obtain ⟨l⟩:=i;exact adB _ e
   exact ⟨[u],.cons r .nil,λ Z Z Z Z Z Z U h=>by obtain ⟨a,b,rfl⟩:∃ a b,U=[a,b]:=sI (by simpa using h:U.length=2) λ a b=>⟨a,b,rfl⟩;exact ⟨_,rfl,rfl⟩⟩
def wE (T:Txt K mg Ad):Oc P w K mg base "ranks_of" 13 ["hold","states","limit"] [.int 2000] (λ vs H Q Z=>rG P w K Ad.bp Ad.fx vs H Q E0):=(md T).Q2
def gO (T:Txt K mg Ad):Co P w K mg base "lasts_by_heap" 14 ["hold","state"] (E7 K Ad.bp Ad.dJ Ad.fx):=by
 refine T.tS.UV hZ (λ b H Q E h=>?_) (λ Z Z Z Z Z Z us hl=>sI hl λ Z Z=>rfl) (λ f Z Z Z s H b Q E hr h=>?_)
 . rcases h with ⟨a,F,m,p,g,rfl,Z⟩|⟨a,F,m,q,S,rfl,Z⟩<;>rfl
 .
  refine ⟨_,(ai (bo (IA (qd T) hr.m (pX λ Z Z Z z=>z) (aa (pv 0) (aa (pv 1) af))))
    (ai (lP (yi:=2) ["heap"] ["state"] [1] (.cons ⟨rfl,rfl,.inl rfl⟩ .nil) rfl (cr rfl T.dG (aa (ax aT (aW (pv 0) rfl) ac) af)) (λ Z Z Z Z Z=>(lK (i:=0))) (λ Z Z Z Z Z=>cC) (λ Z Z Z Z Z=>(ax (vy (K:=K) rfl) (d5 (Jc (K:=K) rfl) (pv 1) fV (eX ac)) (bJ (aa (pv 0) af)))) hZ.nd (lc rfl))
    (ai (cS (i:=3) hZ.nd (Ha (md (P:=P) (w:=w) T) hr.m (pX λ Z Z Z z=>z) (aa (pv 0) (aa (pv 2) af))))
    (am (aI (dB ["each"] ["ranks"] [3] (.cons ⟨rfl,rfl,.inl rfl⟩ .nil) rfl ge (bS (pv 2)) (λ Z Z Z Z Z=>(lK (i:=0))) (λ Z Z Z Z Z=>cC) (λ Z Z Z Z Z=>(tX (P:=P) (w:=w) (K:=K) rfl rfl rfl hr.Nm (pv 1) (pv 0) (λ Z Z=>rfl))))))))),?_⟩
  rcases h with ⟨a,F,m,p,g,rfl,J,C,hb,hf,k⟩|⟨a,F,m,q,S,rfl,J,gm,fs,rl,C,so,c0,Dd,k⟩
  . exact ⟨_,rfl,_,rfl,a,F,m,p,g,rfl,J,C,hb,λ e=>absurd e (by rw [hf];nofun),λ Z d s'=>k d s'⟩
  refine ⟨_,rfl,_,rfl,a,F,m,q,_,rfl,J,C.gs,aba so.bx (aci (by decide) (abk J.mx (by decide))),(λ Z H1 s1=>?_),λ e=>absurd e (by rw [so.xO];nofun)⟩;have L:=J.same s1;have ah:=C.same s1;obtain ⟨⟨dx,Z,Z,Z,Z,Z,Z,Z,Z,Z,ha,Z⟩,Z⟩:=id L;refine ⟨_,rfl,a,_,dx,_,_,rfl,ha,T.aG,T.jL,yg ..,_,_,rfl,rfl,λ c ec=>⟨c,rfl,by lia,by lia,λ D hD=>?_⟩⟩;obtain ⟨n,rfl⟩:=ada (show 0<=c by lia);have aj:n<=31:=by lia
  obtain ⟨R,W,U,yU,yX,wc,ae⟩:=id ah;refine eS (lo:=0) (n:=((n:Int)).toNat) (λ i A t d=>A4 (aE H1 d) (d D=some (.lst A)) (lG K d A ((List.range i).map S.at)) (∃ v,t=[v,some (.ref q)])) ⟨al hD,ag,Refs.nil,none,rfl⟩ ?_ ?_
  .
   rintro i A t H2 hi ⟨l,kD,u,v,rfl⟩;refine ⟨_,rfl,_,rfl,q,_,4,rfl,l.tup yU,rfl,rfl,(by show 4<5;decide),λ t1 PP=>?_⟩;have s3:=al (o:=.tup (List.take 4 [V.ref R,ao S.bx,V.ref W,V.ref U,ao S.heap])) PP;have e3:(upd H2 t1 (.tup (List.take 4 [V.ref R,ao S.bx,V.ref W,V.ref U,ao S.heap]))) t1=some (.tup [.ref R,ao S.bx,.ref W,.ref U]):=ag;generalize upd H2 t1 (.tup (List.take 4 [V.ref R,ao S.bx,V.ref W,V.ref U,ao S.heap]))=G at s3 e3 |-;refine ⟨_,rfl,GW,λ t2 MM=>?_⟩;have s4:=al (o:=.tup [.int (0+(i:Int))]) MM;have e4:(upd G t2 (.tup [.int (0+(i:Int))])) t2=some (.tup [ao i]):=by rw [ag,aca];rfl
   generalize upd G t2 (.tup [.int (0+(i:Int))])=H4 at s4 e4 |-;refine ⟨t1,t2,_,_,rfl,rfl,bP.of (s4 _ _ e3),bP.of e4,(by show 5<=sizeLine;decide),λ q2 H5 s5 Gj=>?_⟩;have y:=(s3.trans s4).trans s5;have N:=y _ _ kD;have ts:=bW (K:=K) (o':=.lst (A++[.ref q2])) N rfl;have f9:gS K H5 q2 (S.at i):=⟨R,W,U,Gj,(l.trans y).tup yX,(l.trans y).tup wc,(l.trans y).tup ae⟩
   have O:=u.length;rw [CT,aax] at O;refine ⟨N,aO (by lia),(l.trans y).put hD,ag,?_,_,rfl⟩;rw [acb,aap];exact Refs.snoc (u.imp λ p s h=>(h.same y).ts ts) (f9.ts ts)
  rintro A t H2 ⟨l,kD,u,v,rfl⟩;rw [acz] at u;refine ⟨_,rfl,_,rfl,a,D,2000,F,m,A,_,rfl,L.same l,gm,fs,by decide,by decide,rl,kD,u,λ s C=>?_,λ p aD G X hd hv cl=>?_⟩
  . obtain ⟨h,ad,rfl⟩:=abm.mp C;have:=aa4.mp ad;exact so.at (by lia)
  have M:=X _ _ kD;have Xl:lG K G A ((List.range n).map S.at):=u.imp λ p s h=>h.same X;refine ⟨_,rfl,D,rfl,⟨_,aY.of M⟩,λ D2 iw=>?_⟩;refine cG (K:=K) (a:=D) (xs:=A) (λ i Y t d=>A3 (aE G d) (d D2=some (.lst Y)) (∃ (b:List (Option Nat)),A4 (Y=b.map hX) (b.length=i) (∀ j v,b[j]?=some v->ig m (S.at j) v) (∃ v,t=[v,some (.ref p)]))) ⟨al iw,ag,[],rfl,rfl,λ j v h=>by simp at h,none,rfl⟩ (λ i Y t d Z e=>by obtain ⟨e,Z⟩:=e;exact aY.of (e _ _ M)) ?_ ?_
  .
   rintro i x Y t H4 hx ⟨I,k4,b,rfl,lv,QX,v,rfl⟩;obtain ⟨q2,s2,rfl,e2,f9⟩:=Refs.get Xl hx;rw [aag] at e2;obtain ⟨j,B,rfl⟩:=ac1.mp e2;obtain ⟨r,B⟩:=QQ.mp B;rw [List.getElem_range] at B;subst B;rw [aax] at r;obtain ⟨v0,ab,Jf⟩:=hv (S.at i) (List.mem_map_of_mem (aa4.mpr r));have O:=(QQ.mp hx).1;refine ⟨_,rfl,_,rfl,p,q2,aD,m6 (S.at i),_,rfl,rfl,hd.same I,jn (f9.same I),ab,k4,aO (by rw [CT,lv];have:=Xl.length;rw [CT,aax] at this;lia),I.put iw,ag,b++[v0],by rw [aap];rfl,by rw [aae,lv];rfl,λ j v r=>?_,_,rfl⟩;by_cases c:j<b.length
   . rw [aaG c] at r;exact QX j v r
   .
    rw [abW (by lia)] at r;have e0:j - b.length=0:=by have:=(QQ.mp r).1;simp only [aa3] at this;lia
    rw [e0] at r;have B:j=i:=by lia
    cases r;rw [B];exact Jf
  . rintro Y t H4 ⟨I,k4,b,rfl,lv,QX,v,rfl⟩;have O:=Xl.length;rw [CT,aax] at O;exact k D2 b H4 ((s1.trans (l.trans X)).free iw) (s1.trans (l.trans (X.trans I))) k4 ⟨by lia,QX⟩ (by rw [lv,O];exact cl)
def iq (T:Txt K mg Ad):Def P w K mg base "lasts_by_heap" 14 ["hold","state"] (λ vs H Q Z=>E7 K Ad.bp Ad.dJ Ad.fx vs H Q E0):=(gO T).Q2
inductive Oy (vs:az) (H:Hp) (Q:VK) (_E:XK):Prop|mk (c k t:Int) (_:vs=[.int c,.int k,.int t]) (_:0<=k) (_:k<=1000) (_:0<=t) (_:t<=7) (_:∀ H' r,aE H H'->0<=r->r<=65537->Q (.int r) H')
def Fp {t:Int} (h0:0<=t) (h:t<=7):∃ p:Int,tf ([.int 65537,.int 65521,.int 65519,.int 65497,.int 65479,.int 65449,.int 65447,.int 65437]:az) t=some (.int p)/\65437<=p/\p<=65537:=by
 have:t=0\/t=1\/t=2\/t=3\/t=4\/t=5\/t=6\/t=7:=by lia
 rcases this with rfl|rfl|rfl|rfl|rfl|rfl|rfl|rfl<;>exact ⟨_,rfl,by decide,by decide⟩
def bR (T:Txt K mg Ad):Def P w K mg base "_law_mix" 1 ["_law_cell","_law_k","_law_turn"] Oy:=by
 refine T.FG.dg uM λ Z Z Z Z Z H L Q E y h=>?_;obtain ⟨c,k,t,rfl,b,d,u,v,q⟩:=h;refine ⟨_,(ai (cS (i:=3) uM.nd (aF aB (cQ (aa ac (aa ac (aa ac (aa ac (aa ac (aa ac (aa ac (aa ac af))))))))) (pv 2)))
     (am (aI (ax aX (ax bN (ax aT (ax aX (pv 0) ac) ac) (ax aT (ax aT (ax bN (pv 1) (pv 1)) ac) (ax bN ac (pv 2)))) (pv 3))))),?_⟩
 try dsimp only [fD,bj]
 obtain ⟨D,e,A,B⟩:=Fp u v;refine ⟨(by show 8<=sizeLine;decide),λ s G=>⟨_,rfl,s,_,_,_,rfl,rfl,.inl (aY.of ag),e,?_⟩⟩;refine ⟨_,rfl,_,_,rfl,rfl,by decide,λ m M z Z=>⟨_,_,rfl,rfl,λ a x=>⟨_,rfl,_,rfl,_,_,rfl,rfl,⟨100,100,P1 100 (by lia) (by lia),P1 100 (by lia) (by lia),by decide⟩,λ f V=>?_⟩⟩⟩;have o:0<=f:=by rw [V];exact adT b b
 have p:f<=1000 * 1000:=by rw [V];exact afg d d b (by decide)
 refine ⟨_,_,rfl,rfl,λ S j=>⟨_,rfl,_,_,rfl,rfl,⟨100,100,P1 100 (by lia) (by lia),P1 100 (by lia) (by lia),by decide⟩,λ J n=>⟨_,_,rfl,rfl,λ I l=>?_⟩⟩⟩;refine ⟨_,_,rfl,rfl,⟨100,100,P1 100 (by lia) (by lia),P1 100 (by lia) (by lia),by decide⟩,λ C g=>⟨_,rfl,_,_,rfl,rfl,by lia,λ r R F Z=>?_⟩⟩;exact q _ r (al G) R (by lia)
def jI (T:Txt K mg Ad):Def P w K mg base "_law_part" 1 ["_law_top","_law_bottom"] Ia:=by
 refine T.Ds.dg gz λ Z Z Z Z Z H V Q E J h=>?_;obtain ⟨t,b,rfl,z,o,k⟩:=h;refine ⟨_,(ai (cS (i:=2) gz.nd (aP rR (by rfl) T.HH DK (aa (pv 0) af)))
     (ai (cS (i:=3) gz.nd (pv 1))
     (ai (qi abM (aJ BA (pv 3) ac (aK _)) (ai (cS (i:=4) gz.nd (ax aX (pv 2) (pv 3)))
     (ai (cS (i:=2) gz.nd (pv 3))
     (am (cS (i:=3) gz.nd (pv 4))))))
     (am (aI (bJ (aa (ax bB (pv 0) (pv 2)) (aa (ax bB (pv 1) (pv 2)) af)))))))),?_⟩
 try dsimp only [fD,bj]
 try (refine fL ?_;intro Z Z Z Z Z)
 refine ⟨_,rfl,_,rfl,λ G x=>⟨_,rfl,?_⟩⟩;refine ⟨λ m n c=>c=H/\E3 λ (g l:Int) (r:eO)=>A5 (n=[some (.int t),some (.int b),some (.int g),some (.int l),r]) (0<=g) (0<=l) (m=l.toNat) (Int.gcd g l=Int.gcd t b),
   ⟨_,rfl,G,b,none,rfl,by lia,by lia,rfl,by rw [x];rfl⟩,?_⟩
 rintro m n c ⟨rfl,g,l,r,rfl,j,A,rfl,e⟩;refine ⟨_,rfl,_,_,rfl,rfl,_,rfl,?_⟩;refine gi (λ h=>?_) (λ h=>?_)
 .
  have L:0<l:=h;refine ⟨λ a f=>f=c/\a=[some (.int t),some (.int b),some (.int l),some (.int (g % l)),some (.int (g % l))],λ a f ⟨s,u⟩=>?_,?_⟩
  . have M:=afE g (by lia:l≠0);have N:=aeA g L;exact ⟨(g % l).toNat,by lia,s,l,g % l,_,u,A,M,rfl,(NK j L).trans e⟩
  . refine ⟨_,rfl,_,rfl,_,_,rfl,rfl,L,λ r Z Z d=>?_⟩;subst d;exact ⟨_,rfl,_,rfl,rfl,rfl⟩
 .
  have L:l=0:=by lia
  subst L;have v:g=((Int.gcd t b:Nat):Int):=by rw [<- e,UT j]
  obtain ⟨D,I,F,fn⟩:=Ib (by lia:b≠0) v;have B:Bd 8999 g:=(o.le (by lia)).mono (by decide);refine ⟨_,rfl,_,rfl,_,_,rfl,rfl,⟨by lia,B⟩,λ q y=>⟨_,rfl,_,rfl,_,_,rfl,rfl,⟨by lia,B⟩,λ r d=>⟨Hl,λ p C=>?_⟩⟩⟩;subst y d;exact k _ _ p _ (F z) (al C) ag
def xZ (T:Txt K mg Ad):Def P w K mg base "_law_scale" 1 ["_law_cell"] FY:=by
 refine T.Bu.dg kR λ Z Z Z Z Z H V Q E L h=>?_;obtain ⟨c,rfl,k⟩:=h;refine ⟨_,(ai (cS (i:=1) kR.nd (ax zA ac ac))
     (ai (eW (br (aJ db (ax aX (pv 0) ac) ac (aK _)) (am (cS (i:=1) kR.nd (ax zA ac ac))) aH))
     (am (aI (bJ (aa (ax aT ac (ax aX (ax bB (pv 0) ac) (pv 1))) (aa (ax aT ac (ax aX (ax bB (pv 0) ac) (pv 1))) (aa (ax dI (ax aX (ax bB (pv 0) ac) (ax aT (ax bN ac (pv 1)) ac)) (pv 1)) (aa (ax aT ac (ax aX (ax bB (pv 0) ac) (pv 1))) af))))))))),?_⟩
 try dsimp only [fD,bj]
 try (refine dR ?_;intro Z Z Z Z)
 refine ⟨_,_,rfl,rfl,⟨by decide,by decide,by decide⟩,λ j q=>?_⟩;have q:j=10000:=by rw [q];rfl
 subst q;refine ⟨λ a f=>f=H/\∃ (Rn:Int),A3 (1<=Rn) (Rn<=10 ^ 9) (a=[some (.int c),some (.int Rn)]),?_,?_⟩
 .
  refine ⟨_,rfl,_,_,rfl,rfl,by decide,λ r Z Z Z=>⟨rfl,_,rfl,gi (λ Z=>⟨_,_,rfl,rfl,⟨by decide,by decide,by decide⟩,λ l z=>?_⟩) (λ Z=>⟨rfl,10000,by decide,by decide,rfl⟩)⟩⟩;have z:l=1000000000:=by rw [z];rfl
  subst z;exact ⟨rfl,_,by decide,by decide,rfl⟩
 rintro a f ⟨rfl,Rn,I,J,rfl⟩;have B:Bd 40 Rn:=show Rn.natAbs<2 ^ 40 by lia
 refine ⟨_,rfl,_,_,rfl,rfl,⟨by decide,nJ⟩,λ Y Z=>⟨_,rfl,_,_,rfl,rfl,by lia,λ R A v Z=>⟨_,_,rfl,rfl,λ b n=>?_⟩⟩⟩;refine ⟨_,rfl,_,_,rfl,rfl,⟨by decide,nJ⟩,λ S Z=>⟨_,rfl,_,_,rfl,rfl,by lia,λ M x y Z=>⟨_,_,rfl,rfl,λ d o=>?_⟩⟩⟩;refine ⟨_,rfl,_,_,rfl,rfl,⟨by decide,nJ⟩,λ U Z=>⟨_,rfl,_,_,rfl,rfl,⟨2,40,nJ,B,by decide⟩,λ W X=>⟨_,_,rfl,rfl,λ y5 m=>⟨_,_,rfl,rfl,by lia,λ N C D Z=>⟨_,rfl,_,_,rfl,rfl,λ g s=>?_⟩⟩⟩⟩⟩;refine ⟨_,rfl,_,_,rfl,rfl,⟨by decide,nJ⟩,λ y6 Z=>⟨_,rfl,_,_,rfl,rfl,by lia,λ O F G Z=>⟨_,_,rfl,rfl,λ e t=>⟨Nz,λ p u=>?_⟩⟩⟩⟩;exact k p ⟨b,d,g,e⟩ _ ⟨by show 1<=b/\b<=10 ^ 9;lia,by show 1<=d/\d<=10 ^ 9;lia,by show g.natAbs<=10 ^ 9;lia,by show 1<=e/\e<=10 ^ 9;lia⟩ (al u) ag
def lR (T:Txt K mg Ad):Def P w K mg base "_law_warm" 2 ["_law_steps","_law_scale_here"] (Iz K):=by
 refine T.DE.dg Ar λ Z Z Z Z Z H V Q E v h=>?_;obtain ⟨x,p,s,rfl,c,ok,A,k⟩:=h;refine ⟨_,(am (aI (aw (jI T) v.m (aa (ax aT (ax bN (ax bN (pv 0) (aF aB (pv 1) ac)) (aF aB (pv 1) ac)) (ax bN (aF aB (pv 1) ac) (aF aB (pv 1) ac))) (aa (ax bN (aF aB (pv 1) ac) (aF aB (pv 1) ac)) af))))),?_⟩;try dsimp only [fD,bj]
 obtain ⟨D,C⟩:=ok.den;obtain ⟨N,G,I⟩:=ok.num A;have O:=ok.a;have J:=ok.b;have M:=ok.t;have L:=ok.d;have B:∀ {y:Int},y.natAbs<=10 ^ 12->Bd 60 y:=λ {y} h=>show y.natAbs<2 ^ 60 by lia
 refine ⟨_,rfl,_,rfl,p,_,_,_,rfl,rfl,.inr c,rfl,_,_,rfl,rfl,⟨60,60,B (by lia),B (by lia),by decide⟩,λ Y f=>?_⟩;refine ⟨_,rfl,p,_,_,_,rfl,rfl,.inr c,rfl,_,_,rfl,rfl,⟨60,60,B (by rw [f];exact N),B (by lia),by decide⟩,λ R j=>?_⟩;refine ⟨_,rfl,p,_,_,_,rfl,rfl,.inr c,rfl,_,rfl,p,_,_,_,rfl,rfl,.inr c,rfl,_,_,rfl,rfl,⟨60,60,B (by lia),B (by lia),by decide⟩,λ U l=>⟨_,_,rfl,rfl,λ W n=>?_⟩⟩;refine ⟨_,rfl,p,_,_,_,rfl,rfl,.inr c,rfl,_,rfl,p,_,_,_,rfl,rfl,.inr c,rfl,_,_,rfl,rfl,⟨60,60,B (by lia),B (by lia),by decide⟩,λ X o=>?_⟩;subst f j l n o;have i:Bd 4000 (s.b * s.d):=by
   have:Bd 100 (s.b * s.d):=show Int.natAbs _<2 ^ 100 by lia
   exact this.mono (by decide)
 refine ⟨_,_,rfl,D,i,λ q r u g F S z=>k u g S ?_⟩;have e:=F.nf D;rw [z];unfold eh;rw [<- e]
def gt1 {n:Nat} (h:2<=n):(n:Int) > 1:=by lia
def L7 {x:Int} (a:0<=x) (b:x<8):x.natAbs<2 ^ 3:=by lia
def Sh {x:Int} (h : -30<=x/\x<=86):x.natAbs<=200:=by lia
theorem BV:∀ l:List Int,bE K H (l.map PyData.int) (l.map V.int)
 | []=>ed
 | x::l=>bD rfl (BV l)
def zh (T:Txt K mg Ad):Def P w K mg base "_law_rooms" 2 ["_law_cell","_law_many","_law_bands"] (CF K):=by
 refine T.Am.dg bT λ Z Z Z Z Z H vs Q E s h=>?_;obtain ⟨c,n,O,rfl,n1,n4,b1,b4,k⟩:=h;refine ⟨_,(ai (cS (i:=3) bT.nd (cQ af))
     (ai (cP abM rfl (cr rfl T.dG (aa (pv 1) af)) (iF (i:=4) bT.nd) (ai (cS (i:=5) bT.nd (cQ (aa (ax dI (ax aX (aw (bR T) s.m (aa (pv 0) (aa ac (aa ac af)))) ac) ac) af)))
     (ai (cP abM rfl (cr rfl T.dG (aa (ax aT ac (ax aX (aw (bR T) s.m (aa (pv 0) (aa (pv 4) (aa ac af)))) (pv 2))) af)) (iF (i:=6) bT.nd) (am (bo (g8 abx abK abG cz (pv 5) (aa (ax aT (ax aT (aF aB (pv 5) (oA o7 ac)) ac) (ax aX (aw (bR T) s.m (aa (pv 0) (aa (ax aT (pv 4) (ax bN ac (pv 6))) (aa ac af)))) ac)) af)))))
     (ai (cS (i:=7) bT.nd (aP (rD rfl) (by rfl) T.IR Cn (aa ac (aa (ax dI (ax aX (aw (bR T) s.m (aa (pv 0) (aa (pv 4) (aa ac af)))) ac) ac) af))))
     (ai (cS (i:=8) bT.nd (ax aT ac (ax aX (ax bB (aw (bR T) s.m (aa (pv 0) (aa (pv 4) (aa ac af)))) ac) ac)))
     (ai (cS (i:=9) bT.nd (ax dI (aF aB (pv 5) ac) (pv 7)))
     (ai (cS (i:=10) bT.nd (aP (rD rfl) (by rfl) T.IR Cn (aa (pv 9) (aa (ax aT (ax dI (aF aB (pv 5) (oA o7 ac)) (ax aX (aw (bR T) s.m (aa (pv 0) (aa (pv 4) (aa ac af)))) ac)) (eJ mZ (by rfl) T.xJ rW (aa (dW db (ax aX (ax bB (aw (bR T) s.m (aa (pv 0) (aa (pv 4) (aa ac af)))) ac) ac) ac (aK _)) af))) af))))
     (ai (cS (i:=11) bT.nd (ax aT (ax bB (ax aT (ax bN (pv 8) (pv 7)) ac) ac) (ax aX (aw (bR T) s.m (aa (pv 0) (aa (pv 4) (aa ac af)))) ac)))
     (ai (eW (br (aJ db (ax aX (ax bB (aw (bR T) s.m (aa (pv 0) (aa (pv 4) (aa ac af)))) ac) ac) ac (aK _)) (am (cS (i:=11) bT.nd (ax aX (ax bB (aw (bR T) s.m (aa (pv 0) (aa (pv 4) (aa ac af)))) ac) ac))) aH))
     (ai (cS (i:=12) bT.nd (bJ (aa (pv 11) (aa (ax aX (aw (bR T) s.m (aa (pv 0) (aa (pv 4) (aa ac af)))) ac) (aa (ax aX (ax bB (aw (bR T) s.m (aa (pv 0) (aa (pv 4) (aa ac af)))) ac) ac) (aa (ax aX (aw (bR T) s.m (aa (pv 0) (aa (pv 4) (aa ac af)))) ac) af))))))
     (ai (eW (br (aJ BA (pv 1) ac (aK _)) (am (cS (i:=12) bT.nd (bJ (aa (pv 11) (aa (ax aX (aF aB (pv 12) ac) ac) (aa (ax bN (ax aX (aF aB (pv 12) ac) ac) (eJ mZ (by rfl) T.xJ rW (aa (dW db (pv 1) ac (aK _)) af))) (aa (ax bN (aF aB (pv 12) ac) (eJ mZ (by rfl) T.xJ rW (aa (kU (dW db (pv 1) ac (aK _)) (kP (dW db (pv 4) ac (aK _)))) af))) af))))))) aH))
     (ai (eW (br (aJ db (ax aX (ax bB (aw (bR T) s.m (aa (pv 0) (aa (pv 4) (aa ac af)))) ac) ac) ac (aK _)) (am (cS (i:=12) bT.nd cY)) aH))
     (am (bo (g8 abx abK abG cz (pv 3) (aa (bJ (aa (pv 5) (aa (pv 8) (aa (pv 9) (aa (pv 10) (aa (pv 12) af)))))) af))))))))))))))))
     (am (aI (pv 3))))),?_⟩
 try dsimp only [fD,bj]
 try (refine dR ?_;intro Z Z Z Z)
 refine ⟨Fo,λ v OX=>⟨_,rfl,_,rfl,by lia,by lia,?_⟩⟩;refine fT (lo:=0) (n:=n) (λ i σ d=>A3 (aE H d) (E2 λ (xs:az) (rs:List R7)=>A4 (d v=some (.lst xs)) (bE K (dP d [v]) (rs.map K6) xs) (rs.length=i) (∀ r∈rs,r.Ok/\Dp n O r)) (E9 λ x4 x5 x6 x7 x8 x9 Nw N2 Td=>σ=[some (.int c),some (ao n),some (ao O),some (.ref v),x4,x5,x6,x7,x8,x9,Nw,N2,Td]))
   ⟨al OX,⟨[],[],ag,ed,rfl,λ Z h=>absurd h aak⟩,none,none,none,none,none,none,none,none,none,rfl⟩ ?_ ?_
 .
  rintro Z i σ U hi ⟨S1,⟨xs,rs,Mg,zM,lr,zK⟩,x4,x5,x6,x7,x8,x9,Nw,N2,Td,rfl⟩;have I:(0:Int)<=0+(i:Int):=by rw [aca];exact acD i
  have B:0+(i:Int)<=1000:=by lia
  refine ⟨_,rfl,c,0,0,rfl,by decide,by decide,by decide,by decide,λ H2 r0 s2 Z Z=>⟨_,_,rfl,rfl,by decide,λ m0 b6 b7 YE=>⟨_,_,rfl,rfl,λ f0 bk=>⟨GW,λ p iK=>?_⟩⟩⟩⟩;clear YE;have bG : -30<=f0/\f0<=30:=by lia
  clear b6 b7 bk;have Od:U p=none:=s2.free iK;have T2:=s2.trans (al (o:=.lst [.int f0]) iK);have Gg:(upd H2 p (.lst [.int f0])) p=some (.lst [.int f0]):=ag;generalize upd H2 p (.lst [.int f0])=co at T2 Gg |-;refine ⟨_,rfl,_,rfl,c,0+(i:Int),1,rfl,I,B,by decide,by decide,λ H3 r1 s3 Z Z=>⟨_,rfl,_,_,rfl,rfl,by lia,λ m1 b8 b9 bp=>⟨_,_,rfl,rfl,λ cn bf=>?_⟩⟩⟩;clear bp;obtain ⟨C,rfl⟩:∃ x:Nat,cn=(x:Int):=⟨cn.toNat,by lia⟩
  have an:1<=C/\C<=4:=by lia
  have bC:C<=O:=by lia
  clear b8 b9 bf;refine ⟨_,rfl,by lia,by lia,?_⟩;refine fT (lo:=0) (n:=C) (λ j σ d=>A3 (aE U d) (∃ (M:List Int),A4 (d p=some (.lst (M.map V.int))) (M.length=j+1) (∀ (a:Nat) (x y:Int),M[a]?=some x->M[a+1]?=some y->x<y) (∀ x∈M,-30<=x/\x<=30+14 * (j:Int))) (∃ x6,σ=[some (.int c),some (ao n),some (ao O),some (.ref v),some (.int (0+(i:Int))),some (.ref p),x6,x7,x8,x9,Nw,N2,Td]))
    ⟨T2.trans s3,⟨[f0],s3 _ _ Gg,rfl,λ a x y h1 R=>?_,λ x A=>?_⟩,_,rfl⟩ ?_ ?_
  . have:=(QQ.mp R).1;have:a+1<1:=this;lia
  . rw [aac.mp A];exact bG
  .
   rintro Z j σ d hj ⟨T3,⟨M,Ti,N,Wu,L⟩,x6,rfl⟩;have hl:(M.map V.int).length=j+1:=by rw [CT,N]
   have NM:M[j]?=some M[j]:=aL (by lia);refine ⟨_,rfl,.inl ⟨rfl,_,aY.of Ti⟩,_,rfl,_,rfl,p,_,_,.int M[j],rfl,rfl,.inl (aY.of Ti),?_,?_⟩
   . refine Jy ?_;rw [hl,aag,agn,NM];rfl
   refine ⟨_,_,rfl,rfl,λ y1 e1=>⟨_,rfl,_,rfl,_,rfl,_,_,rfl,rfl,⟨3,5,nJ,(show Int.natAbs _<2 ^ 5 by lia),by decide⟩,λ y2 e2=>⟨_,_,rfl,rfl,λ Y e3=>?_⟩⟩⟩;have e2:y2=3 * (0+(j:Int)):=e2;have WW:0<=Y/\Y<=1000:=by lia
   refine ⟨c,Y,2,rfl,WW.1,WW.2,by decide,by decide,λ H4 r s4 Z Z=>⟨_,_,rfl,rfl,by decide,λ q D F G=>⟨_,_,rfl,rfl,λ y4 e4=>?_⟩⟩⟩;clear G e3 e2 WW;have h4:M[j]<y4/\y4<=M[j]+14:=by lia
   clear e4 e1 D F;refine ⟨p,_,_,rfl,rfl,s4 _ _ Ti,aO (by lia),(T3.trans s4).put Od,⟨M++[y4],by rw [aap];exact ag,by rw [aae,N];rfl,λ a x y A J=>?_,λ x A=>?_⟩,_,rfl⟩
   .
    by_cases ha:a+1<M.length
    . rw [aaG ha] at J;rw [aaG (by lia)] at A;exact Wu a x y A J
    .
     have b3:=(QQ.mp J).1;rw [aae,aa3] at b3;have ba:a=j:=by lia
     subst ba;rw [aaG (by lia),NM] at A;rw [abW (by lia),show a+1 - M.length=0 by lia] at J;cases A;have J:some y4=some y:=J;cases J;exact h4.1
   . have cs:=L M[j] (abq _);rcases aaY.mp A with h|h
     . have:=L x h;lia
     . rw [aac.mp h];lia
  rintro σ H4 ⟨T4,⟨M,Ti,N,Wu,L⟩,Yv,rfl⟩;have hl:(M.map V.int).length=C+1:=by rw [CT,N]
  have L:∀ x∈M,-30<=x/\x<=86:=λ x A=>⟨(L x A).1,ac3 (L x A).2 (by lia)⟩
  have l0:0<M.length:=by rw [N];exact Nat.succ_pos _
  have lc:C<M.length:=by rw [N];exact aeW _
  have g0:M[0]?=some M[0]:=aL l0;have gl:M[C]?=some M[C]:=aL lc;have b0:=L M[0] (abq _);have bl:=L M[C] (abq _);have Rs:M[0]<=M[C]:=by
    have b5:∀ t (h:t<M.length),M[0]<=M[t]:=λ t=>by
      induction t with
      | zero=>intro h;exact adO _
      | succ t ih =>
        intro h;have h':=Nat.lt_of_succ_lt h;exact ac3 (ih h') (adD (Wu t M[t] M[t+1] (aL h') (aL h)))
    exact b5 C lc
  generalize ct:M[0]=mf at g0 b0 Rs;generalize Yz:M[C]=ml at gl bl Rs;refine ⟨_,rfl,_,rfl,c,0+(i:Int),3,rfl,I,B,by decide,by decide,λ H5 r s5 Z Z=>⟨_,_,rfl,rfl,by decide,λ q D F G=>⟨_,_,rfl,rfl,λ y ey=>⟨_,_,rfl,?_⟩⟩⟩⟩;clear G;have J:y<=12:=by lia
  clear ey D F;have Hh:0<=(if y > 0 then y else 0)/\(if y > 0 then y else 0)<=12:=by split<;>lia
  generalize (if y > 0 then y else 0)=be at Hh |-;clear J;refine ⟨_,rfl,_,rfl,c,0+(i:Int),3,rfl,I,B,by decide,by decide,λ H6 r s6 Z Z=>⟨_,_,rfl,rfl,⟨by decide,nJ⟩,λ y ey=>⟨_,_,rfl,rfl,by decide,λ q D F G=>⟨_,_,rfl,rfl,λ S bs=>?_⟩⟩⟩⟩;clear G ey;have UN:1<=S/\S<=3:=by lia
  clear bs D F;have T6:=(T4.trans s5).trans s6;have Rk:H6 p=some (.lst (M.map V.int)):=(s5.trans s6) _ _ Ti;refine ⟨_,rfl,p,_,_,.int mf,rfl,rfl,.inl (aY.of Rk),cq (by rw [aag,g0];rfl),_,rfl,_,_,rfl,rfl,λ l bn=>?_⟩;have ar:l<=86/\l.natAbs<=300/\l<=mf:=by lia
  clear bn;refine ⟨_,rfl,_,rfl,_,rfl,p,_,_,.int ml,rfl,rfl,.inl (aY.of Rk),Jy (by rw [hl,aag,agn,gl];rfl),?_⟩;refine ⟨_,rfl,_,rfl,c,0+(i:Int),4,rfl,I,B,by decide,by decide,λ H7 r s7 Z Z=>⟨_,_,rfl,rfl,by decide,λ q D F G=>⟨_,_,rfl,rfl,λ y1 bv=>?_⟩⟩⟩;clear G;have Y4:y1<=86:=by lia
  clear bv D F;refine ⟨_,rfl,_,rfl,c,0+(i:Int),4,rfl,I,B,by decide,by decide,λ H8 r s8 Z Z=>⟨_,_,rfl,rfl,⟨by decide,nJ⟩,λ y2 Z=>⟨_,_,rfl,rfl,by decide,λ q2 Z Z Z=>⟨rfl,.inr ⟨_,rfl,⟨_,_,rfl,rfl,λ Y ah=>⟨_,_,rfl,?_⟩⟩⟩⟩⟩⟩⟩;have Zt:l<=(if Y > l then Y else l)/\(if Y > l then Y else l).natAbs<=300:=by
    have WW:Y<=87:=by rw [ah];split<;>lia
    clear ah;split
    . lia
    . exact ⟨adO _,ar.2.1⟩
  generalize (if Y > l then Y else l)=W at Zt |-;have T8:=(T6.trans s7).trans s8;have bI:H8 p=some (.lst (M.map V.int)):=(s7.trans s8) _ _ Rk;refine ⟨_,rfl,_,rfl,_,_,rfl,rfl,⟨3,5,(show Int.natAbs _<2 ^ 3 by lia),(show Int.natAbs _<2 ^ 5 by lia),by decide⟩,λ y4 Xt=>⟨_,_,rfl,rfl,λ y5 bw=>⟨_,_,rfl,rfl,⟨by decide,nJ⟩,λ y6 aj=>?_⟩⟩⟩;have bM:0<=y4/\y4<=36:=by
    rw [Xt];exact ⟨adT (ac3 (by decide) UN.1) Hh.1,afg UN.2 Hh.2 Hh.1 (by decide)⟩
  rw [afG _ (by decide)] at aj;have b2:0<=y6/\y6<=4:=by lia
  clear Xt bw aj bM;refine ⟨_,rfl,_,rfl,c,0+(i:Int),5,rfl,I,B,by decide,by decide,λ H9 r s9 Z Z=>⟨_,_,rfl,rfl,by decide,λ q D F G=>⟨_,_,rfl,rfl,λ f bm=>?_⟩⟩⟩;clear G;have RW:0<=f/\f<=100:=by lia
  clear bm D F b2;have T9:=T8.trans s9;have aD:=s9 _ _ bI;refine ⟨λ g d=>(aE U d/\d p=some (.lst (M.map V.int)))/\∃ (f:Int),(0<=f/\f<=100)/\g=[some (.int c),some (ao n),some (ao O),some (.ref v),some (.int (0+(i:Int))),some (.ref p),Yv,some (.int be),some (.int S),some (.int l),some (.int W),some (.int f),Td],?_,?_⟩
  . refine ⟨_,rfl,_,rfl,c,0+(i:Int),5,rfl,I,B,by decide,by decide,λ GU r xU Z Z=>⟨_,_,rfl,rfl,⟨by decide,nJ⟩,λ y Z=>⟨_,_,rfl,rfl,by decide,λ q Z Z Z=>⟨rfl,_,rfl,gi (λ Z=>?_) (λ Z=>⟨⟨T9.trans xU,xU _ _ aD⟩,f,RW,rfl⟩)⟩⟩⟩⟩;exact ⟨_,rfl,_,rfl,c,0+(i:Int),5,rfl,I,B,by decide,by decide,λ Ce r Gi Z Z=>⟨_,_,rfl,rfl,⟨by decide,nJ⟩,λ y Z=>⟨_,_,rfl,rfl,by decide,λ q D F Z=>⟨⟨(T9.trans xU).trans Gi,(xU.trans Gi) _ _ aD⟩,q,⟨D,ac3 (adD F) (by decide)⟩,rfl⟩⟩⟩⟩
  clear RW;rintro g GU ⟨⟨a7,a9⟩,f,RW,rfl⟩;refine ⟨_,rfl,_,rfl,_,rfl,c,0+(i:Int),6,rfl,I,B,by decide,by decide,λ Ce r Gi Z Z=>⟨_,_,rfl,rfl,by decide,λ w1 cj ck Z=>?_⟩⟩;refine ⟨_,rfl,_,rfl,c,0+(i:Int),6,rfl,I,B,by decide,by decide,λ Om r zG Z Z=>⟨_,_,rfl,rfl,⟨by decide,nJ⟩,λ y Z=>⟨_,_,rfl,rfl,by decide,λ w2 cl a6 Z=>?_⟩⟩⟩;refine ⟨_,rfl,_,rfl,c,0+(i:Int),7,rfl,I,B,by decide,by decide,λ KW r W7 Z Z=>⟨_,_,rfl,rfl,by decide,λ w3 ZC Xd Z=>⟨Nz,λ u iM=>?_⟩⟩⟩;have Ob:=al (o:=.tup [.int f,.int w1,.int w2,.int w3]) iM;have X:=((a7.trans Gi).trans (zG.trans W7)).trans Ob;have Pt:=((Gi.trans (zG.trans W7)).trans Ob) _ _ a9;refine ⟨λ g d=>(aE U d/\d p=some (.lst (M.map V.int)))/\E2 λ (u:ak) (z:Int×Int×Int×Int)=>A4 (d u=some (.tup [.int z.1,.int z.2.1,.int z.2.2.1,.int z.2.2.2])) (A4 (0<=z.1/\z.1<=100) (0<=z.2.1/\z.2.1<=9) (0<=z.2.2.1/\z.2.2.1<=3) (0<=z.2.2.2/\z.2.2.2<=3)) (EA n z) (g=[some (.int c),some (ao n),some (ao O),some (.ref v),some (.int (0+(i:Int))),some (.ref p),Yv,some (.int be),some (.int S),some (.int l),some (.int W),some (.int f),some (.ref u)]),?_,?_⟩
  .
   have D6:(upd KW u (.tup [.int f,.int w1,.int w2,.int w3])) u=some (.tup [.int f,.int w1,.int w2,.int w3]):=ag;refine ⟨_,rfl,_,_,rfl,rfl,_,rfl,gi (λ Z=>?_) (λ bK=>⟨⟨X,Pt⟩,u,(f,w1,w2,w3),ag,⟨RW,⟨cj,ac3 (adD ck) (by decide)⟩,⟨cl,ac3 (adD a6) (by decide)⟩,⟨ZC,ac3 (adD Xd) (by decide)⟩⟩,⟨aen a6,λ Wn=>absurd (gt1 Wn) bK,aen Xd⟩,rfl⟩)⟩;generalize upd KW u (.tup [.int f,.int w1,.int w2,.int w3])=U4 at X Pt D6 |-;refine ⟨_,rfl,_,rfl,u,_,_,.int w1,rfl,rfl,.inr (bP.of D6),rfl,_,_,rfl,rfl,by decide,λ u1 cf ch Z=>?_⟩;refine ⟨_,rfl,u,_,_,.int w2,rfl,rfl,.inr (bP.of D6),rfl,_,_,rfl,rfl,by decide,λ u2 a0 a5 Z=>⟨_,rfl,rfl,.inr ⟨_,rfl,?_⟩⟩⟩;have L9:∀ b:Bool,0<=(if b=true then (1:Int) else 0)/\(if b=true then (1:Int) else 0)<=1:=λ b=>by cases b<;>decide
   have R:=L9 (decide (ao n=V.int 2));generalize (if decide (ao n=V.int 2)=true then (1:Int) else 0)=bb at R |-;refine ⟨_,_,rfl,rfl,⟨3,3,L7 a0 (Int.lt_trans a5 (by decide)),L7 R.1 (agr R.2 (by decide)),by decide⟩,λ u3 bt=>?_⟩;have V0:0<=u3/\u3<=1:=by
     rw [bt];exact ⟨adT a0 R.1,ac3 (afg (aen a5:u2<=1) R.2 R.1 (by decide)) (by decide)⟩
   refine ⟨_,rfl,u,_,_,.int w3,rfl,rfl,.inr (bP.of D6),rfl,?_⟩;refine (show Ko _ _ _ _ _ from Gb (a:=decide (ao n=V.int 2)) (b:=decide (V.int (0+(i:Int))=V.int 0)) (λ Q' q=>⟨_,rfl,rfl,q⟩) (λ Q' q=>⟨_,rfl,rfl,q⟩) ?_);refine .inr ⟨_,rfl,?_⟩;have h3:=L9 (decide (ao n=V.int 2) && decide (V.int (0+(i:Int))=V.int 0));generalize (if (decide (ao n=V.int 2) && decide (V.int (0+(i:Int))=V.int 0))=true then (1:Int) else 0)=bc at h3 |-;refine ⟨_,_,rfl,rfl,⟨3,3,L7 ZC (Int.lt_trans Xd (by decide)),L7 h3.1 (agr h3.2 (by decide)),by decide⟩,λ u4 bu=>⟨Nz,λ p5 ad=>?_⟩⟩;have ZZ:0<=u4/\u4<=1:=by
     rw [bu];exact ⟨adT ZC h3.1,ac3 (afg (aen Xd:w3<=1) h3.2 h3.1 (by decide)) (by decide)⟩
   have aG:=al (o:=.tup [.int f,.int u1,.int u3,.int u4]) ad;exact ⟨⟨X.trans aG,aG _ _ Pt⟩,p5,(f,u1,u3,u4),ag,⟨RW,⟨cf,ac3 (adD ch) (by decide)⟩,⟨V0.1,ac3 V0.2 (by decide)⟩,⟨ZZ.1,ac3 ZZ.2 (by decide)⟩⟩,⟨ac3 V0.2 (by decide),λ Z=>V0.2,ZZ.2⟩,rfl⟩
  rintro g VR ⟨⟨ae,UY⟩,p5,z5,ad,cd,fz,rfl⟩;refine ⟨λ g d=>(aE U d/\d p=some (.lst (M.map V.int)))/\E2 λ (sv:V) (t:Option (Int×Int×Int×Int))=>A4 ((t=none/\sv = .cT)\/∃ (u:ak) (z:Int×Int×Int×Int),t=some z/\sv = .ref u/\d u=some (.tup [.int z.1,.int z.2.1,.int z.2.2.1,.int z.2.2.2])) (∀ z,t=some z->(0<=z.1/\z.1<=100)/\(0<=z.2.1/\z.2.1<=9)/\(0<=z.2.2.1/\z.2.2.1<=3)/\(0<=z.2.2.2/\z.2.2.2<=3)) (∀ z,t=some z->EA n z) (g=[some (.int c),some (ao n),some (ao O),some (.ref v),some (.int (0+(i:Int))),some (.ref p),Yv,some (.int be),some (.int S),some (.int l),some (.int W),some (.int f),some sv]),?_,?_⟩
  . exact ⟨_,rfl,_,rfl,c,0+(i:Int),7,rfl,I,B,by decide,by decide,λ Wa r NW Z Z=>⟨_,_,rfl,rfl,⟨by decide,nJ⟩,λ y Z=>⟨_,_,rfl,rfl,by decide,λ q Z Z Z=>⟨rfl,_,rfl,gi (λ Z=>⟨⟨ae.trans NW,NW _ _ UY⟩,.cT,none,.inl ⟨rfl,rfl⟩,nofun,nofun,rfl⟩) (λ Z=>⟨⟨ae.trans NW,NW _ _ UY⟩,.ref p5,some z5,.inr ⟨p5,z5,rfl,rfl,NW _ _ ad⟩,λ z e=>by cases e;obtain ⟨a1,a2,a3,a4⟩:=cd;exact ⟨a1,a2,a3,a4⟩,λ z e=>by cases e;exact fz,rfl⟩)⟩⟩⟩⟩
  rintro g Wa ⟨⟨Yi,a8⟩,sv,t,bL,cc,bx,rfl⟩;have ER:=Yi _ _ Mg;have Rh:p≠v:=λ z=>by rw [z,Mg] at Od;cases Od
  refine ⟨_,rfl,.inl ⟨rfl,_,aY.of ER⟩,_,rfl,_,rfl,_,rfl,_,rfl,_,rfl,(by show 5<=sizeLine;decide),λ pq JF=>?_⟩;have Tc:=al (o:=.tup [.ref p,.int S,.int l,.int W,sv]) JF;have Tb:=Tc _ _ ER;have lx:xs.length=i:=by rw [zM.length,CT,lr]
  refine ⟨v,xs,_,rfl,rfl,Tb,aO (by lia),(((S1.trans Yi).trans Tc).put OX),⟨_,rs++[⟨M,S,l,W,t⟩],ag,?_,by rw [aae,lr];rfl,λ r s=>?_⟩,_,_,_,_,_,_,_,_,_,rfl⟩
  .
   rw [nA (by simp),aap];have ca:pq≠v:=λ z=>by rw [z,ER] at JF;cases JF
   have ab:∀ {x:ak} {o:HO},(upd Wa pq (.tup [.ref p,.int S,.int l,.int W,sv])) x=some o->x≠v->dP (upd Wa pq (.tup [.ref p,.int S,.int l,.int W,sv])) [v] x=some o:=λ h n=>mv h (by simpa using n);refine (bE.same (uy (Yi.trans Tc)) _ zM).snoc ?_;refine iU (bP.of (ab ag ca)) (bD ⟨p,_,rfl,aY.of (ab (Tc _ _ a8) Rh),?_⟩ (bD rfl (bD rfl (bD rfl (bD ?_ ed)))))
   . exact BV M
   . rcases bL with ⟨rfl,rfl⟩|⟨u,z,rfl,rfl,iM⟩
     . rfl
     . have cb:u≠v:=λ q=>by rw [q,ER] at iM;cases iM
       exact iU (bP.of (ab (Tc _ _ iM) cb)) (bD rfl (bD rfl (bD rfl (bD rfl ed))))
  . rcases aaY.mp s with h|h
    . exact zK r h
    . rw [aac.mp h];exact ⟨⟨by show 2<=M.length/\M.length<=5;rw [N];exact ⟨adQ an.1,adQ an.2⟩,Wu,λ x A=>Sh (L x A),UN,Zt.1,ar.2.1,Zt.2,cc⟩,⟨by show M.length<=O+1;rw [N];exact adQ bC,bx⟩⟩
 . rintro σ U ⟨S1,⟨xs,rs,Mg,zM,lr,zK⟩,x4,x5,x6,x7,x8,x9,Nw,N2,Td,rfl⟩;exact ⟨_,rfl,k v xs rs U S1 Mg (bE.same iB _ zM) lr zK⟩
def OW (j:Nat) (h:j<4):∃ g:Int,tf [V.int 1,V.int 4,V.int 16,V.int 64] (j:Int)=some (.int g)/\1<=g/\g<=64:=by
 have:j=0\/j=1\/j=2\/j=3:=by lia
 rcases this with rfl|rfl|rfl|rfl
 . exact ⟨1,cq rfl,by decide,by decide⟩
 . exact ⟨4,cq rfl,by decide,by decide⟩
 . exact ⟨16,cq rfl,by decide,by decide⟩
 . exact ⟨64,cq rfl,by decide,by decide⟩
def yc (h:Dn K H (K6 r) v):∃ p a sv,v = .ref p/\bP K H p [.ref a,.int r.share,.int r.low,.int r.high,sv]/\aY K H a (r.marks.map V.int)/\Dn K H (stI r.bM) sv:=by
 obtain ⟨p,w,rfl,j,s,m,rfl,e,t,n,rfl,g,T,o,rfl,G,k,q,rfl,b,l,R,rfl,f,c⟩:=h;have c:R=[]:=c;have g:t = .int r.share:=g;have G:T = .int r.low:=G;have b:k = .int r.high:=b;subst g G b c;obtain ⟨a,u,rfl,i,d⟩:=e;obtain rfl:=sG d;exact ⟨p,a,l,rfl,j,i,f⟩
def yP (h:Dn K H (stI (some z)) v):∃ p,v = .ref p/\bP K H p [.int z.1,.int z.2.1,.int z.2.2.1,.int z.2.2.2]:=by
 obtain ⟨p,w,rfl,d,t,R,rfl,g,T,i,rfl,G,e,j,rfl,a,f,r,rfl,b,c⟩:=h;have c:r=[]:=c;have g:t = .int z.1:=g;have G:T = .int z.2.1:=G;have a:e = .int z.2.2.1:=a;have b:f = .int z.2.2.2:=b;subst g G a b c;exact ⟨p,rfl,d⟩
def FN {r:List cy} (h:∀ (i:Nat) (x y:cy),r[i]?=some x->r[i+1]?=some y->ce x y=true):jS r=true:=by
 refine ac7.mpr λ b a=>?_;obtain ⟨i,H⟩:=List.getElem?_of_mem a;have c:=(QQ.mp H).1;rw [agi,afv] at c;have g:=uT (aL (show i<r.length by lia)) (aL (show i+1<r.length by lia));rw [g] at H;cases H;exact h i _ _ (aL (by lia)) (aL (by lia))
def Nu {s:Cb} (ok:s.Ok) {r:R7} (c:r.Ok):jS (r.marks.map λ x=>eh x s)=true:=by
 refine FN λ i x y h H=>?_;rw [aag] at h H;cases e:r.marks[i]? with
 | none=>rw [e] at h;cases h
 | some a =>
   cases E:r.marks[i+1]? with
   | none=>rw [E] at H;cases H
   | some b =>
     rw [e] at h;rw [E] at H;cases h;cases H;have d:=c.bd a (aal e);have f:=c.bd b (aal E);rw [BY ok (by lia) (by lia)];exact aaM (c.rise i a b e E)
def Ub {k:Int} (h0:0<=k) (h:k<=3):Qr (nf k 12):=by
 unfold Qr;rw [EI (by decide)];have a:(0:Rat)<=(k:Rat):=by exact_mod_cast h0
 have b:(k:Rat)<=3:=by exact_mod_cast h
 have e:((12:Int):Rat)=12:=rfl;rw [e];constructor<;>grind
def okS {k b:Int} (h:0<b) (B:b.natAbs<=10 ^ 25) (H:k.natAbs<=10 ^ 25):fW 100 (nf k b):=by
 have F:=mL (t:=k) h;exact ⟨F.Ud (show Int.natAbs _<2 ^ 100 by lia),F.U2 (show Int.natAbs _<2 ^ 100 by lia),F.pos⟩
def NV {k b:Int} (h:0<b) (H:0<=k):0<=(nf k b).1:=Ov.nonneg h (Ov.nf h) H
def AO (T:Txt K mg Ad):Def P w K mg base "_law_hold" 7 ["_law_rooms_here","_law_scale_here","_law_bounds","_law_flows"] (FZ K Ad.bp):=by
 refine T.Dz.dg fU λ Z Z Z Z Z H vs Q E G h=>?_;obtain ⟨I,xs,R,L,s,pb,b0,b1,b2,fl,rfl,O,dr,n1,n4,zK,Ta,C,HS,QW,Hi,L9,k⟩:=h;refine ⟨_,(ai (cS (i:=4) fU.nd (AZ T.EW (jh T) G.m T.Jk (aa (aF aB (pv 2) ac) (aa (aF aB (pv 2) ac) (aa (aF aB (pv 2) ac) af)))))
     (ai (cP abM rfl (bS (pv 0)) (iF (i:=5) fU.nd) (am (bo (bg (pv 4) T.aG (jR T) .nil G.m (aa (dB ["_law_mark"] ["_law_scale_here"] [1] (.cons ⟨rfl,rfl,.inl rfl⟩ .nil) rfl ge (bS (aF aB (pv 5) ac)) (λ Z Z Z Z Z=>(lK (i:=0))) (λ Z Z Z Z Z=>cC) (λ Z Z Z Z Z=>(aw (lR T) G.m (aa (pv 0) (aa (pv 1) af))))) af)))))
     (ai (cP abM rfl (cr rfl T.dG (aa (aP bz (by rfl) T.eP cR (aa (pv 0) af)) af)) (iF (i:=6) fU.nd) (ai (cS (i:=7) fU.nd (aw (jI T) G.m (aa (aF aB (aF aB (pv 0) (pv 6)) ac) (aa ac af))))
     (ai (bo (bg (pv 4) T.aG (sr T) .nil G.m (aa (pv 6) (aa (pv 7) (aa (aw (lR T) G.m (aa (aF aB (aF aB (pv 0) (pv 6)) ac) (aa (pv 1) af))) (aa (aw (lR T) G.m (aa (aF aB (aF aB (pv 0) (pv 6)) ac) (aa (pv 1) af))) af))))))
     (ai (cS (i:=8) fU.nd (aF aB (aF aB (pv 0) (pv 6)) ac))
     (ai (eW (br (aJ jJ (pv 8) cY (aK _)) (am (bo (Ie (pv 4) T.aG (mC T) G.m (aa (pv 6) (aa (aw (jI T) G.m (aa (ax bN (aF aB (pv 8) ac) (aF aB (pv 1) ac)) (aa (aF aB (pv 1) ac) af))) (aa (aF aB (pv 8) ac) (aa (aF aB (pv 8) ac) (aa (aF aB (pv 8) ac) af)))))))) aH))
     (am (cP abM rfl (cr rfl T.dG (aa (aP bz (by rfl) T.eP cR (aa (pv 0) af)) af)) (iF (i:=9) fU.nd) (am (br (aJ vF (pv 9) (pv 6) (aK _)) (am (bo (bg (pv 4) T.aG (pH T) .nil G.m (aa (pv 6) (aa (pv 9) (aa (aw (jI T) G.m (aa (ax aX (ax bB (pv 3) (aF aB (cQ (aa ac (aa ac (aa ac (aa ac af))))) (pv 9))) ac) (aa ac af))) af)))))) aH)))))))))
     (am (aI (pv 4)))))),?_⟩
 try dsimp only [fD,bj]
 try (refine fL ?_;intro Z Z Z Z Z)
 have lx:xs.length=R.length:=by rw [dr.length,CT]
 refine ⟨_,rfl,pb,_,_,_,rfl,rfl,.inr HS,rfl,_,rfl,pb,_,_,_,rfl,rfl,.inr HS,rfl,_,rfl,pb,_,_,_,rfl,rfl,.inr HS,rfl,λ a Qv fa Xb ZV=>?_⟩;have s0:aE H (upd (upd H Qv (.own a)) a (.ins Ad.bp Qv [])):=λ c o hc=>by
   rw [av (ay hc fa),av (ay hc Xb)];exact hc
 refine ⟨a,Qv,b0,b1,b2,rfl,ag,by rw [av ZV];exact ag,QW,Hi,L9,λ H1 W5 D1=>⟨rfl,?_⟩⟩;obtain ⟨S1,F1⟩:=D1.keep s0 (λ c hc=>by
   simp only [aah,aak,ack] at hc;rcases hc with rfl|rfl
   . exact fa
   . exact Xb)
 refine ⟨_,rfl,I,rfl,⟨_,S1.seq O⟩,?_⟩;refine gA (xs:=xs) (λ i l A=>A3 (aE H A) (E2 λ B m=>A6 (aV K Ad.bp A a B m) (∀ c∈B,H c=none) (m.rows.length=i) (QH m) (gI m) (oU R b0 b1 b2 0 m)) (∃ x5,l=[some (.ref I),some (.ref L),some (.ref pb),some (.int fl),some (.ref a),x5,none,none,none,none]))
   ⟨S1,⟨W5,_,D1.at_,F1,rfl,QH.new,⟨λ Z h=>absurd h aak,λ Z h=>absurd h aak,λ Z h=>absurd h aak,⟨QW,Hi,L9⟩⟩,oU.new⟩,none,rfl⟩ (λ i l A Z e=>e.1.seq O) ?_ ?_
 .
  rintro Z i x l H2 hx ⟨S,⟨SW,m2,h2,F2,l2,q2,WC,ZJ⟩,x5,rfl⟩;have hi:i<R.length:=by rw [<- lx];exact (QQ.mp hx).1
  obtain ⟨v,ev,dv⟩:=dr.get (i:=i) (d:=K6 R[i]) (by rw [aag,aL hi];rfl);obtain rfl:x=v:=aaO (hx.symm.trans ev);obtain ⟨pq,pm,sv,rfl,N,hm,Z⟩:=yc dv;have J:=zK R[i] (abq hi);have Hu:=Vo hi;generalize R[i]=r at N hm J dv Hu;obtain ⟨⟨TF,Z,Z,Z,Z,Z,Z,Z,Z,Z,Sn,Z⟩,Z,Z,Z,w2⟩:=id h2;refine ⟨_,rfl,a,TF,_,rfl,Sn,rfl,_,rfl,pq,_,_,_,rfl,rfl,.inr (S.tup N),rfl,pm,rfl,⟨_,S.seq hm⟩,λ Dl hD=>?_⟩;refine cG (K:=K) (a:=pm) (xs:=r.marks.map V.int) (λ j acc l M=>A4 (aE H2 M) (M Dl=some (.lst acc)) (bE K M ((r.marks.take j).map λ x=>ff (eh x s)) acc) (∃ v,l=[v,some (.ref L)]))
    ⟨al hD,ag,ed,none,rfl⟩ (λ j acc l M Z e=>(S.trans e.1).seq hm) ?_ ?_
  .
   rintro j y acc l M t ⟨s3,jC,d3,v,rfl⟩;obtain ⟨z,ez,rfl⟩:∃ z,r.marks[j]?=some z/\V.int z=y:=by
     rw [aag] at t;cases e:r.marks[j]? with
     | none=>rw [e] at t;cases t
     | some r=>rw [e] at t;cases t;exact ⟨r,rfl,rfl⟩
   have hz:=J.bd z (aal ez);have bw:=(QQ.mp ez).1;have la:acc.length=j:=by rw [d3.length,CT,abw];lia
   refine ⟨_,rfl,_,rfl,z,L,s,rfl,(S.trans s3).tup Ta,C,by lia,λ q H4 U h4=>?_⟩;have QE:aS K H4 (upd H4 Dl (.lst (acc++[.ref q]))):=bW (U _ _ jC) rfl;refine ⟨U _ _ jC,aO (by have:=J.len;lia),(s3.trans U).put hD,ag,?_,_,rfl⟩;rw [aeE,ez,aap];exact (bE.ts ((aE.ts U).trans QE) _ (nM _ _) d3).snoc (Dn.ts QE _ (ir _) (mI (bP.of h4)))
  .
   rintro acc l M ⟨s3,jC,d3,v,rfl⟩;rw [CT,abz] at d3;have lr:(r.marks.map λ x=>eh x s).length=r.marks.length:=CT ..;have a5:bE K M ((r.marks.map λ x=>eh x s).map ff) acc:=by rw [adX];exact d3
   have ol:=J.len;refine ⟨a,SW,m2,Dl,acc,r.marks.map λ x=>eh x s,rfl,h2.same s3,by lia,aY.of jC,a5,λ f hf=>?_,by lia,by lia,Nu C J,KE (λ y t=>?_) (by rw [aae,aa3];lia),λ H4 a9 D4=>?_⟩
   . obtain ⟨z,hz,rfl⟩:=abm.mp hf;have:=J.bd z hz;exact mU C (by lia)
   . rcases aaY.mp t with t|t
     . exact ⟨(w2.len y t).1,(WC.rise y t).2⟩
     . rw [aac.mp t,lr];exact ol
   . obtain ⟨S4,F4⟩:=D4.keep (S.trans s3) F2;exact ⟨S4,⟨a9,_,D4.at_,F4,by show (m2.rows++[_]).length=_;rw [aae,l2];rfl,q2.eY,WC.eY (Nu C J) (by lia),ZJ.eY (by rw [l2];exact Hu) lr⟩,_,rfl⟩
 rintro l H2 ⟨S,⟨SW,m2,h2,F2,l2,q2,WC,ZJ⟩,x5,rfl⟩;refine ⟨_,rfl,I,_,rfl,.inl (S.seq O),λ n en=>⟨_,rfl,by lia,by lia,?_⟩⟩;rw [lx] at en l2;subst en;refine fT (lo:=0) (n:=R.length) (λ i l A=>A3 (aE H A) (E2 λ B m=>A6 (aV K Ad.bp A a B m) (∀ c∈B,H c=none) (m.rows.length=R.length) (QH m) (gI m) (oU R b0 b1 b2 i m)) (E4 λ x6 x7 x8 x9=>l=[some (.ref I),some (.ref L),some (.ref pb),some (.int fl),some (.ref a),x5,x6,x7,x8,x9]))
   ⟨S,⟨SW,m2,h2,F2,l2,q2,WC,ZJ⟩,none,none,none,none,rfl⟩ ?_ ?_
 .
  rintro Z i l M hi ⟨S3,⟨Y,m3,h3,F3,l3,q3,ab,Zs⟩,x6,x7,x8,x9,rfl⟩;obtain ⟨v,ev,dv⟩:=dr.get (i:=i) (d:=K6 R[i]) (by rw [aag,aL hi];rfl);obtain ⟨pq,pm,sv,rfl,N,hm,D⟩:=yc dv;have J:=zK R[i] (abq hi);have Hu:=Vo hi;generalize R[i]=r at N hm J dv D Hu;have Qf:tf xs (0+(i:Int))=some (.ref pq):=by rw [aca];exact eE ev
  obtain ⟨⟨TF,Z,Z,Z,Z,Z,Z,Z,Z,Z,Sn,Z⟩,k1,k2,k3,w3⟩:=id h3;have bx:=J.sh;refine ⟨_,rfl,_,rfl,I,_,_,_,rfl,rfl,.inl (S3.seq O),Qf,pq,_,_,_,rfl,rfl,.inr (S3.tup N),rfl,_,_,rfl,by decide,nJ,λ q r' u H4 F U hu=>?_⟩;have e4:=IS (K:=K) (by decide) F hu;have S4:=S3.trans U;refine ⟨_,rfl,a,TF,_,rfl,U _ _ Sn,rfl,_,rfl,_,rfl,_,rfl,_,rfl,I,_,_,_,rfl,rfl,.inl (S4.seq O),Qf,pq,_,_,_,rfl,rfl,.inr (S4.tup N),rfl,_,rfl,r.low,L,s,rfl,S4.tup Ta,C,by have:=J.lb;lia,λ q5 H5 s5 h5=>?_⟩;have S5:=S4.trans s5;refine ⟨_,rfl,_,rfl,I,_,_,_,rfl,rfl,.inl (S5.seq O),Qf,pq,_,_,_,rfl,rfl,.inr (S5.tup N),rfl,_,rfl,r.high,L,s,rfl,S5.tup Ta,C,by have:=J.hb;lia,λ q6 H6 s6 h6=>?_⟩;have S6:=S5.trans s6;have RN:ce (eh r.high s) (eh r.low s)=false:=by
    rw [BY C (by have:=J.hb;lia) (by have:=J.lb;lia)];exact aaL (by have:=J.lo;lia)
  have Xs:fW 100 (nf r.share 12):=okS (by decide) (by decide) (by lia);have ad:=Ub (show 0<=r.share by lia) (by lia);refine ⟨a,Y,m3,i,.ref u,.ref q5,.ref q6,nf r.share 12,eh r.low s,eh r.high s,by rw [aca];rfl,h3.same ((U.trans s5).trans s6),by lia,Dn.same (s5.trans s6) _ e4,Dn.same s6 _ (mI (bP.of h5)),mI (bP.of h6),Xs,mU C (by have:=J.lb;lia),mU C (by have:=J.hb;lia),RN,(NR Xs.p).mp ad.1,q3.MV w3 k3 (by lia) Xs.p ad.2,λ H7 ah D7=>?_⟩;obtain ⟨W,F7⟩:=D7.keep S6 F3;have a0:=q3.gw (i:=i) (z:=(nf r.share 12,eh r.low s,eh r.high s)) (by lia) ad;have aj:=Zs.gw (i:=i) (z:=(nf r.share 12,eh r.low s,eh r.high s));have ar:=ab.gw (i:=i) (z:=(nf r.share 12,eh r.low s,eh r.high s)) RN;refine ⟨_,rfl,_,rfl,I,_,_,_,rfl,rfl,.inl (W.seq O),Qf,pq,_,_,_,rfl,rfl,.inr (W.tup N),rfl,?_⟩;refine ⟨λ a1 A=>A3 (aE H A) (E2 λ B m=>A6 (aV K Ad.bp A a B m) (∀ c∈B,H c=none) (m.rows.length=R.length) (QH m) (gI m) (oU R b0 b1 b2 (i+1) m)) (E2 λ x7 x8=>a1=[some (.ref I),some (.ref L),some (.ref pb),some (.int fl),some (.ref a),x5,some (.int (0+(i:Int))),x7,x8,x9]),?_,?_⟩
  .
   refine ⟨_,rfl,rfl,_,rfl,?_⟩;cases f9:r.bM with
   | none =>
     rw [f9] at D;have D:sv = .cT:=D;subst D;exact iH rfl ⟨W,⟨ah,_,D7.at_,F7,l3,a0,ar,aj.skip Hu f9⟩,_,_,rfl⟩
   | some z =>
     rw [f9] at D;obtain ⟨pz,rfl,DP⟩:=yP D;obtain ⟨z1,z2,z3,z4⟩:=J.st z f9;refine pW (λ Z=>?_) (λ q=>nomatch q);obtain ⟨⟨a6,Z,Z,Z,Z,Z,Z,Z,Z,Z,bb,Z⟩,Z⟩:=id D7.at_;have oa:=C.a;have ob:=C.b;refine ⟨_,rfl,a,a6,_,rfl,bb,rfl,_,rfl,_,rfl,pz,_,_,_,rfl,rfl,.inr (W.tup DP),rfl,_,rfl,L,_,_,_,rfl,rfl,.inr (W.tup Ta),rfl,_,_,rfl,rfl,⟨10,40,(show Int.natAbs _<2 ^ 10 by lia),(show Int.natAbs _<2 ^ 40 by lia),by decide⟩,λ y ey=>?_⟩;refine ⟨_,rfl,L,_,_,_,rfl,rfl,.inr (W.tup Ta),rfl,_,_,rfl,by lia,(show Bd 40 s.b from (show s.b.natAbs<2 ^ 40 by lia)).mono (by decide),λ q r' u8 H8 F8 s8 bk=>?_⟩;have e8:=IS (K:=K) (by lia) F8 bk;have X:=W.trans s8;have t:0<=y/\y.natAbs<=10 ^ 12:=by
       rw [ey];refine ⟨adT z1.1 (by lia),?_⟩;have:=AG (x:=100) (y:=10 ^ 9) (a:=z.1) (b:=s.a) (by lia) (by lia);lia
     have o8:fW 100 (nf y s.b):=okS (by lia) (by lia) (by lia);refine ⟨_,rfl,pz,_,_,_,rfl,rfl,.inr (X.tup DP),rfl,_,rfl,pz,_,_,_,rfl,rfl,.inr (X.tup DP),rfl,_,rfl,pz,_,_,_,rfl,rfl,.inr (X.tup DP),rfl,a,ah,_,i,.ref u8,nf y s.b,z.2.1,z.2.2.1,z.2.2.2,by rw [aca];rfl,D7.at_.same s8,by show i<m3.rows.length;lia,e8,o8,NV (by lia) t.1,z2,z3,z4,λ H9 WT D9=>?_⟩;obtain ⟨S9,F9⟩:=D9.keep X F7;exact ⟨S9,⟨WT,_,D9.at_,F9,l3,a0.eI,ar.eI (z:=(nf y s.b,z.2.1,z.2.2.1,z.2.2.2)) ⟨NV (by lia) t.1,z2,z3,z4⟩,aj.eI (by have:=D7.at_.st;have e7:(m3.gw i (nf r.share 12,eh r.low s,eh r.high s)).rows.length=m3.rows.length:=rfl;lia) Hu f9 rfl⟩,_,_,rfl⟩
  rintro a1 H8 ⟨X,⟨ba,m8,h8,F8,l8,q8,bs,bn⟩,bt,bu,rfl⟩;refine ⟨_,rfl,I,_,rfl,.inl (X.seq O),λ n en=>⟨_,rfl,by lia,by lia,?_⟩⟩;rw [lx] at en;subst en;refine fT (lo:=0) (n:=R.length) (λ j l A=>A3 (aE H A) (E2 λ B m=>A6 (aV K Ad.bp A a B m) (∀ c∈B,H c=none) (m.rows.length=R.length) (QH m) (gI m) (oU R b0 b1 b2 (i+1) m)) (∃ x9,l=[some (.ref I),some (.ref L),some (.ref pb),some (.int fl),some (.ref a),x5,some (.int (0+(i:Int))),bt,bu,x9]))
    ⟨X,⟨ba,m8,h8,F8,l8,q8,bs,bn⟩,_,rfl⟩ ?_ ?_
  .
   rintro Z j l H9 hj ⟨S9,⟨WT,m9,h9,F9,l9,q9,aD,an⟩,bv,rfl⟩;refine ⟨_,rfl,_,rfl,rfl,_,rfl,pW (λ ne=>?_) (λ Z=>⟨S9,⟨WT,m9,h9,F9,l9,q9,aD,an⟩,_,rfl⟩)⟩;have D3:i≠j:=λ z=>ne (by rw [z]);obtain ⟨⟨a7,Z,Z,Z,Z,Z,Z,Z,Z,Z,bc,Z⟩,o1,o2,o3,w9⟩:=id h9;refine ⟨_,rfl,a,a7,_,rfl,bc,rfl,_,rfl,_,rfl,_,rfl,Nz,λ p4 bf=>⟨_,rfl,?_⟩⟩;have xU:=al (o:=.lst [.int 1,.int 4,.int 16,.int 64]) bf;have be:∃ g:Int,tf [V.int 1,V.int 4,V.int 16,V.int 64] (0+(j:Int))=some (.int g)/\1<=g/\g<=64:=by
     rw [aca];exact OW j (by lia)
   obtain ⟨g,hg,g1,g2⟩:=be;refine ⟨p4,_,_,_,rfl,rfl,.inl (aY.of ag),hg,_,_,rfl,rfl,⟨by lia,(show Bd 10 g from (show g.natAbs<2 ^ 10 by lia)).mono (by decide)⟩,λ y ey=>⟨_,_,rfl,rfl,by decide,λ q q0 q1 Z=>?_⟩⟩;refine ⟨_,_,rfl,by decide,nJ,λ qq r' u Ce a2 Gi hu=>?_⟩;have a8:=IS (K:=K) (by decide) a2 hu;have O8:=Ub q0 (by lia);have PL:fW 100 (nf q 12):=okS (by decide) (by decide) (by lia);have zG:=xU.trans Gi;refine ⟨a,WT,m9,i,j,.ref u,nf q 12,by rw [aca,aca];rfl,h9.same zG,by lia,by lia,D3,a8,PL,(NR PL.p).mp O8.1,q9.JX w9 o3 (by lia) (by lia) D3 PL.p O8.2,λ KW ZH ae=>?_⟩;obtain ⟨a4,a3⟩:=ae.keep (S9.trans zG) F9;exact ⟨a4,⟨ZH,_,ae.at_,a3,l9,q9.eR D3 O8,aD.eR,an.eR⟩,_,rfl⟩
  . rintro l H9 ⟨S9,bm,bv,rfl⟩;exact ⟨S9,bm,_,_,_,_,rfl⟩
 . rintro l M ⟨S3,⟨Y,m3,h3,F3,l3,q3,ab,Zs⟩,x6,x7,x8,x9,rfl⟩;exact ⟨_,rfl,k a Y m3 M S3 h3 F3 l3 q3 ab Zs⟩
def Os (i:Nat) (h:i<4):tf [V.int 1,V.int 2,V.int 4,V.int 8] (i:Int)=some (.int ((2 ^ i:Nat):Int)):=by
 have:i=0\/i=1\/i=2\/i=3:=by lia
 rcases this with rfl|rfl|rfl|rfl<;>exact cq rfl
def yH (T:Txt K mg Ad):Def P w K mg base "_law_state" 2 ["_law_rooms_here","_law_bounds","_law_cell","_law_k"] (C4 K):=by
 refine T.BN.dg cF λ Z Z Z Z Z H vs Q E hr h=>?_;obtain ⟨pr,xs,Y,R,b0,b1,b2,c,kk,rfl,pF,dr,n1,n4,zK,HS,QW,Hi,k0,k1,k⟩:=h;refine ⟨_,(ai (cS (i:=4) cF.nd (cQ af))
     (ai (cS (i:=5) cF.nd (cQ af))
     (ai (cS (i:=6) cF.nd (cQ af))
     (ai (cS (i:=7) cF.nd ac)
     (ai (cS (i:=8) cF.nd ac)
     (ai (cP abM rfl (cr rfl T.dG (aa (aP bz (by rfl) T.eP cR (aa (pv 0) af)) af)) (iF (i:=9) cF.nd) (ai (cS (i:=10) cF.nd (aF aB (aF aB (pv 0) (pv 9)) ac))
     (ai (bo (g8 abx abK abG cz (pv 4) (aa (ax aX (aw (bR T) hr.m (aa (pv 2) (aa (ax aT (pv 3) (pv 9)) (aa ac af)))) (ax dI (aP bz (by rfl) T.eP cR (aa (aF aB (aF aB (pv 0) (pv 9)) ac) af)) ac)) af)))
     (ai (bo (g8 abx abK abG cz (pv 5) (aa ac af)))
     (ai (bo (g8 abx abK abG cz (pv 6) (aa ac af)))
     (ai (cS (i:=11) cF.nd (aw (bR T) hr.m (aa (pv 2) (aa (ax aT (pv 3) (ax bN ac (pv 9))) (aa ac af)))))
     (am (br (PW.pt (my (aJ jJ (pv 10) cY (aK _)) (kN (aJ lH (ax aX (pv 11) ac) ac (aK _))))) (ai (ip (ax aX (ax bB (pv 11) ac) (ax aT (aF aB (pv 10) ac) ac)) (oK (pv 5) (pv 9) set_list))
     (am (br (PW.pt (my (aJ db (ax aX (pv 11) ac) ac (aK _)) (kN (aJ lH (pv 8) (aF aB (pv 1) ac) (aK _))))) (ai (cS (i:=7) cF.nd (ax aT (pv 7) (aF aB (cQ (aa ac (aa ac (aa ac (aa ac af))))) (pv 9))))
     (am (cS (i:=8) cF.nd (ax aT (pv 8) ac)))) aH))) (am (br (aJ jJ (pv 10) cY (aK _)) (am (ip (ax aX (ax bB (pv 11) ac) (ax aT (aF aB (pv 10) ac) ac)) (oK (pv 6) (pv 9) set_list))) aH))))))))))
     (am (aI (bJ (aa (eJ fj (by rfl) T.nH kh (aa (pv 4) af)) (aa (pv 7) (aa (eJ fj (by rfl) T.nH kh (aa (pv 5) af)) (aa (eJ fj (by rfl) T.nH kh (aa (pv 6) af)) (aa (ax aX (aw (bR T) hr.m (aa (pv 2) (aa (pv 3) (aa ac af)))) (ax aT (aF aB (pv 1) ac) ac)) af)))))))))))))),?_⟩
 try dsimp only [fD,bj]
 try (refine Kz ?_;intro Z Z Z Z Z Z Z Z)
 have lx:xs.length=Y.length:=by rw [dr.length,CT]
 refine ⟨Fo,λ s hb=>⟨Fo,λ p hw=>⟨Fo,λ j O=>?_⟩⟩⟩;have sb:=al (o:=.lst []) hb;have sw:=al (o:=.lst []) hw;have sf:=al (o:=.lst []) O;have ah:=(sw.trans sf) _ _ (ag (H:=H) (a:=s) (o:=.lst []));have an:=sf _ _ (ag (H:=upd H s (.lst [])) (a:=p) (o:=.lst []));have WJ:s≠p:=λ z=>by rw [<- z,ag] at hw;cases hw
 have W2:s≠j:=λ z=>by rw [<- z] at O;rw [sw _ _ ag] at O;cases O
 have Ru:p≠j:=λ z=>by rw [<- z,ag] at O;cases O
 have aj:(upd (upd (upd H s (.lst [])) p (.lst [])) j (.lst [])) j=some (.lst []):=ag;have S0:=(sb.trans sw).trans sf;have a0:H p=none:=sb.free hw;have aG:H j=none:=(sb.trans sw).free O;generalize upd (upd (upd H s (.lst [])) p (.lst [])) j (.lst [])=H0 at ah an aj S0 |-;refine ⟨_,rfl,pr,_,rfl,.inl (S0.seq pF),λ n en=>⟨_,rfl,by lia,by lia,?_⟩⟩;rw [lx] at en;subst en;refine fT (lo:=0) (n:=Y.length) (λ i σ H'=>aE H H'/\E4 λ (B g F:bi) (t:Nat)=>A5 (H' s=some (.lst (B.map ao))) (H' p=some (.lst (g.map ao))) (H' j=some (.lst (F.map ao))) (oh Y b0 i B g F t) (E3 λ (x9 Nw N2:eO)=>σ=[some (.ref pr),some (.ref R),some (.int c),some (.int kk),some (.ref s),some (.ref p),some (.ref j),some (ao t),some (ao (Bit.rooms t).length),x9,Nw,N2]))
   ⟨S0,[],[],[],0,ah,an,aj,oh.zero QW,none,none,none,rfl⟩ ?_ ?_
 .
  rintro Z i σ H1 hi ⟨S1,B,g,F,t,Pm,XZ,N,u,x9,Nw,N2,rfl⟩;obtain ⟨v,ev,dv⟩:=dr.get (i:=i) (d:=K6 Y[i]) (by rw [aag,aL hi];rfl);obtain ⟨pq,pm,sv,rfl,hq,hm,D⟩:=yc dv;have jD:=zK Y[i] (abq hi);have Hu:=Vo hi;generalize Y[i]=r at hq hm jD dv D Hu;have lb:=u.lb;have lw:=u.lw;have lf:=u.lf;have QF:i<61:=by lia
  have Qf:tf xs (0+(i:Int))=some (.ref pq):=by rw [aca];exact eE ev
  have ol:=jD.len;refine ⟨_,rfl,_,rfl,pr,_,_,_,rfl,rfl,.inl (S1.seq pF),Qf,pq,_,_,_,rfl,rfl,.inr (S1.tup hq),rfl,?_⟩;refine ⟨_,rfl,.inl ⟨rfl,_,aY.of Pm⟩,_,rfl,_,rfl,_,rfl,_,_,rfl,rfl,λ y1 e1=>⟨c,y1,0,rfl,by lia,by lia,by decide,by decide,λ G r2 S Z Z=>?_⟩⟩;have S2:=S1.trans S;refine ⟨_,rfl,_,rfl,pr,_,_,_,rfl,rfl,.inl (S2.seq pF),Qf,pq,_,_,_,rfl,rfl,.inr (S2.tup hq),rfl,pm,_,rfl,.inl (S2.seq hm),λ y2 e2=>⟨_,_,rfl,rfl,λ y3 e3=>⟨_,_,rfl,rfl,by rw [CT] at e2;lia,λ q q0 q1 Z=>?_⟩⟩⟩;obtain ⟨q,rfl⟩:∃ x:Nat,q=(x:Int):=⟨q.toNat,by lia⟩
  have V7:q+1<r.marks.length:=by rw [CT] at e2;lia
  have a1:=S _ _ Pm;have aD:=S _ _ XZ;have ar:=S _ _ N;refine ⟨s,_,_,rfl,rfl,a1,aO (by rw [CT];lia),?_⟩;refine ⟨_,rfl,.inl ⟨rfl,_,aY.of (by rw [av WJ.symm];exact aD)⟩,p,_,_,rfl,rfl,by rw [av WJ.symm];exact aD,aO (by rw [CT];lia),?_⟩;refine ⟨_,rfl,.inl ⟨rfl,_,aY.of (by rw [av Ru.symm,av W2.symm];exact ar)⟩,j,_,_,rfl,rfl,by rw [av Ru.symm,av W2.symm];exact ar,aO (by rw [CT];lia),?_⟩;have S3:aE H (upd (upd (upd G s (.lst (B.map ao++[.int (q:Int)]))) p (.lst (g.map ao++[.int 0]))) j (.lst (F.map ao++[.int 0]))):=((S2.put hb).put a0).put aG;have ab:(upd (upd (upd G s (.lst (B.map ao++[.int (q:Int)]))) p (.lst (g.map ao++[.int 0]))) j (.lst (F.map ao++[.int 0]))) s=some (.lst ((B++[q]).map ao)):=by rw [av W2,av WJ,ag,aap];rfl
  have ae:(upd (upd (upd G s (.lst (B.map ao++[.int (q:Int)]))) p (.lst (g.map ao++[.int 0]))) j (.lst (F.map ao++[.int 0]))) p=some (.lst ((g++[0]).map ao)):=by rw [av Ru,ag,aap];rfl
  have ad:(upd (upd (upd G s (.lst (B.map ao++[.int (q:Int)]))) p (.lst (g.map ao++[.int 0]))) j (.lst (F.map ao++[.int 0]))) j=some (.lst ((F++[0]).map ao)):=by rw [ag,aap];rfl
  generalize upd (upd (upd G s (.lst (B.map ao++[.int (q:Int)]))) p (.lst (g.map ao++[.int 0]))) j (.lst (F.map ao++[.int 0]))=H3 at S3 ab ae ad |-;refine ⟨_,rfl,_,rfl,_,rfl,_,_,rfl,rfl,⟨3,5,nJ,(show Int.natAbs _<2 ^ 5 by lia),by decide⟩,λ y4 e4=>⟨_,_,rfl,rfl,λ y5 e5=>?_⟩⟩;have e4:y4=7 * (0+(i:Int)):=e4;refine ⟨c,y5,1,rfl,by lia,by lia,by decide,by decide,λ I xv A bc Z=>?_⟩;have J:=S3.trans A;have L:=A _ _ ab;have Xy:=A _ _ ae;have Ze:=A _ _ ad;have sl:∀ {l:bi} {a b:Nat},l.length=i->(l++[a]).set i b=l++[b]:=λ {l a b} e=>by subst e;simp
  cases M:r.bM with
  | none =>
    rw [M] at D;have D:sv = .cT:=D;subst D;exact ⟨_,rfl,rfl,_,rfl,iH rfl ⟨_,rfl,rfl,_,rfl,iH rfl ⟨J,_,_,_,t,L,Xy,Ze,(u.next (w:=0) (f:=0) (lit:=false) QF Hu V7 (by rw [M];exact ⟨rfl,rfl,rfl⟩) nofun).1,_,_,_,rfl⟩⟩⟩
  | some z =>
    rw [M] at D;obtain ⟨pz,rfl,DP⟩:=yP D;obtain ⟨z1,z2,z3,z4⟩:=jD.st z M;have Sd:=J.tup DP;refine ⟨_,rfl,rfl,_,rfl,pW (λ Z=>?_) (λ q=>nomatch q)⟩;refine ⟨_,rfl,_,_,rfl,rfl,by decide,λ m4 ba bb a9=>⟨_,_,rfl,rfl,_,rfl,gi (λ Z=>?_) (λ Z=>?_)⟩⟩
    .
     refine ⟨_,rfl,_,_,rfl,rfl,⟨by decide,nJ⟩,λ y6 Z=>⟨_,rfl,pz,_,_,_,rfl,rfl,.inr Sd,rfl,_,_,rfl,rfl,λ y7 e7=>⟨_,_,rfl,rfl,by lia,λ W a7 a8 Z=>?_⟩⟩⟩;obtain ⟨W,rfl⟩:∃ x:Nat,W=(x:Int):=⟨W.toNat,by lia⟩
     have Wm:(W:Int)<=z.2.2.1:=by lia
     refine ⟨_,rfl,_,rfl,p,_,_,i,rfl,rfl,Xy,(by rw [aca];exact jM (by rw [CT,aae];show i<g.length+1;lia)),?_⟩;have S5:aE H (upd I p (.lst (((g++[0]).map ao).set i (.int (W:Int))))):=J.put a0;have WS:(upd I p (.lst (((g++[0]).map ao).set i (.int (W:Int))))) p=some (.lst ((g++[W]).map ao)):=by rw [ag,show V.int (W:Int)=ao W from rfl,<- afu,sl lw]
     have WL:(upd I p (.lst (((g++[0]).map ao).set i (.int (W:Int))))) s=some (.lst ((B++[q]).map ao)):=by rw [av WJ];exact L
     have U:(upd I p (.lst (((g++[0]).map ao).set i (.int (W:Int))))) j=some (.lst ((F++[0]).map ao)):=by rw [av Ru.symm];exact Ze
     generalize upd I p (.lst (((g++[0]).map ao).set i (.int (W:Int))))=H5 at S5 WS WL U |-;have Nk:=(u.next (w:=W) (f:=0) (lit:=false) QF Hu V7 (by rw [M];exact ⟨Wm,z4.1,.inl rfl⟩) nofun).1;refine ⟨_,rfl,_,_,rfl,rfl,by decide,λ m5 Z Z Z=>⟨rfl,_,rfl,gi (λ Z=>?_) (λ Z=>⟨S5,_,_,_,t,WL,WS,U,Nk,_,_,_,rfl⟩)⟩⟩;refine ⟨_,rfl,_,rfl,R,_,_,_,rfl,rfl,.inr (S5.tup HS),rfl,_,_,rfl,rfl,_,rfl,gi (λ om=>?_) (λ Z=>⟨S5,_,_,_,t,WL,WS,U,Nk,_,_,_,rfl⟩)⟩;refine ⟨_,rfl,Nz,λ p6 a3=>⟨_,rfl,?_⟩⟩;have C:=al (o:=.lst [.int 1,.int 2,.int 4,.int 8]) a3;have a2:tf [V.int 1,V.int 2,V.int 4,V.int 8] (0+(i:Int))=some (.int ((2 ^ i:Nat):Int)):=by
       rw [aca];exact Os i (by lia)
     refine ⟨p6,_,_,_,rfl,rfl,.inl (aY.of ag),a2,_,_,rfl,rfl,λ y8 e8=>⟨_,rfl,_,_,rfl,rfl,λ y9 e9=>?_⟩⟩;obtain rfl:y8=((t+2 ^ i:Nat):Int):=by rw [e8];push_cast;rfl
     obtain ⟨a6,Ys⟩:=u.next (w:=W) (f:=0) (lit:=true) QF Hu V7 (by rw [M];exact ⟨Wm,z4.1,.inl rfl⟩) (λ Z=>om);have Ys:(Bit.rooms (t+2 ^ i)).length=(Bit.rooms t).length+1:=Ys;obtain rfl:y9=(((Bit.rooms (t+2 ^ i)).length:Nat):Int):=by rw [e9,Ys];push_cast;rfl
     exact ⟨S5.trans C,_,_,_,t+2 ^ i,C _ _ WL,C _ _ WS,C _ _ U,a6,_,_,_,rfl⟩
    .
     refine ⟨_,rfl,rfl,_,rfl,pW (λ Z=>?_) (λ q=>nomatch q)⟩;refine ⟨_,rfl,_,_,rfl,rfl,⟨by decide,nJ⟩,λ y6 Z=>⟨_,rfl,pz,_,_,_,rfl,rfl,.inr Sd,rfl,_,_,rfl,rfl,λ y7 e7=>⟨_,_,rfl,rfl,by lia,λ W a7 a8 Z=>?_⟩⟩⟩;obtain ⟨W,rfl⟩:∃ x:Nat,W=(x:Int):=⟨W.toNat,by lia⟩
     have Wm:(W:Int)<=z.2.2.2:=by lia
     refine ⟨_,rfl,_,rfl,j,_,_,i,rfl,rfl,Ze,(by rw [aca];exact jM (by rw [CT,aae];show i<F.length+1;lia)),?_⟩;have U:(upd I j (.lst (((F++[0]).map ao).set i (.int (W:Int))))) j=some (.lst ((F++[W]).map ao)):=by rw [ag,show V.int (W:Int)=ao W from rfl,<- afu,sl lf]
     exact ⟨J.put aG,_,_,_,t,by rw [av W2];exact L,by rw [av Ru];exact Xy,U,(u.next (w:=0) (f:=W) (lit:=false) QF Hu V7 (by rw [M];exact ⟨z3.1,Wm,.inr ⟨rfl,rfl⟩⟩) nofun).1,_,_,_,rfl⟩
 .
  rintro σ H1 ⟨S1,B,g,F,t,Pm,XZ,N,u,x9,Nw,N2,rfl⟩;refine ⟨_,rfl,s,_,rfl,.inl ⟨aY.of Pm,λ t1 PP=>?_⟩⟩;have S:=al (o:=.tup (B.map ao)) PP;have e2:(upd H1 t1 (.tup (B.map ao))) t1=some (.tup (B.map ao)):=ag;generalize upd H1 t1 (.tup (B.map ao))=G at S e2 |-;refine ⟨_,rfl,_,rfl,p,_,rfl,.inl ⟨aY.of (S _ _ XZ),λ t2 MM=>?_⟩⟩;have s3:=al (o:=.tup (g.map ao)) MM;have e3:(upd G t2 (.tup (g.map ao))) t2=some (.tup (g.map ao)):=ag;generalize upd G t2 (.tup (g.map ao))=H3 at s3 e3 |-;refine ⟨_,rfl,j,_,rfl,.inl ⟨aY.of ((S.trans s3) _ _ N),λ t3 a5=>?_⟩⟩;have A:=al (o:=.tup (F.map ao)) a5;have e4:(upd H3 t3 (.tup (F.map ao))) t3=some (.tup (F.map ao)):=ag;generalize upd H3 t3 (.tup (F.map ao))=I at A e4 |-;refine ⟨_,rfl,_,rfl,c,kk,2,rfl,k0,by lia,by decide,by decide,λ H5 r5 s5 Z Z=>?_⟩;have J:=((S1.trans S).trans s3).trans A;refine ⟨_,rfl,R,_,_,_,rfl,rfl,.inr ((J.trans s5).tup HS),rfl,_,_,rfl,rfl,λ y e=>⟨_,_,rfl,rfl,by lia,λ X DN Dx Z=>⟨(by show 5<=sizeLine;decide),λ qt a4=>?_⟩⟩⟩;obtain ⟨X,rfl⟩:∃ x:Nat,X=(x:Int):=⟨X.toNat,by lia⟩
  have C:=al (o:=.tup [.ref t1,ao t,.ref t2,.ref t3,ao X]) a4;refine k qt ⟨B,t,g,F,X⟩ _ ((J.trans s5).trans C) ⟨t1,t2,t3,bP.of ag,bP.of (((s3.trans A).trans (s5.trans C)) _ _ e2),bP.of ((A.trans (s5.trans C)) _ _ e3),bP.of ((s5.trans C) _ _ e4)⟩ u (by show (X:Int)<=b1;lia)
def dA (T:Txt K mg Ad):Def P w K mg base "_law_cell_at" 1 ["_law_script","_law_k"] (Dg K):=by
 refine T.wl.dg vU λ Z Z Z Z Z H v Q E i h=>?_;obtain ⟨a,N,z,rfl,d,g,k⟩:=h;refine ⟨_,(ai (br (aJ lH (pv 1) (aP bz (by rfl) T.eP cR (aa (pv 0) af)) (aK _)) (am (aI (aF aB (pv 0) (pv 1)))) aH)
     (am (aI ac))),?_⟩
 try dsimp only [fD,bj]
 refine ⟨_,rfl,_,rfl,_,_,rfl,.inl d,λ n f=>⟨_,_,rfl,rfl,_,rfl,?_⟩⟩;rw [CT] at f;refine gi (λ h=>?_) (λ h=>?_)
 .
  have b:z.toNat<N.length:=by lia
  have e:(N.map V.int)[z.toNat]?=some (.int (N[z.toNat]'b)):=by simp [b]
  have c:=cq e;rw [ad7 g] at c;refine ⟨_,rfl,_,rfl,_,_,_,_,rfl,rfl,.inl d,c,k _ (.inl (abq b))⟩
 . exact k 0 (.inr rfl)
def qY (T:Txt K mg Ad):Def P w K mg base "_law_bad_state" 1 ["_law_state_here","_law_rooms_here","_law_bounds","_law_x"] (KU K):=by
 refine T.tF.dg aR λ Z Z Z Z Z H vs Q E hr h=>?_;obtain ⟨q,S,V,xs,R,pb,b0,b1,b2,x,m,rfl,hs,hp,dx,n1,n4,hb,lr,lk,so,k⟩:=h;refine ⟨_,(ai (ip (pv 0) (dH (K:=K) (n:=5) rfl rfl (aQ (iF (i:=4) aR.nd) (aQ (iF (i:=5) aR.nd) (aQ (iF (i:=6) aR.nd) (aQ (iF (i:=7) aR.nd) (aQ (iF (i:=8) aR.nd) dL)))))))
     (ai (cS (i:=9) aR.nd (ax aX (ax bB (pv 3) ac) (aP bz (by rfl) T.eP cR (aa (pv 1) af))))
     (ai (cS (i:=10) aR.nd (aF aB (aF aB (pv 1) (pv 9)) ac))
     (ai (eW (br (aJ pj (pv 10) cY (aK _)) (am (cS (i:=10) aR.nd (bJ (aa ac (aa ac (aa ac (aa ac af))))))) aH))
     (ai (cS (i:=11) aR.nd (ax aX (pv 3) ac))
     (ai (eW (br (aJ db (pv 11) ac (aK _)) (am (cS (i:=8) aR.nd (ax dI (oA o7 ac) (ax aX (ax bB (pv 3) ac) (ax zA ac ac))))) aH))
     (ai (eW (br (aJ db (pv 11) ac (aK _)) (am (cS (i:=8) aR.nd (ax aT (aF aB (pv 2) ac) ac))) aH))
     (ai (eW (br (aJ db (pv 11) ac (aK _)) (am (cS (i:=4) aR.nd (ax gQ (ax gQ (d5 m7 (pv 4) fV (eX (pv 9))) (bJ (aa (ax dI (aP bz (by rfl) T.eP cR (aa (aF aB (aF aB (pv 1) (pv 9)) ac) af)) ac) af))) (d5 nI (pv 4) (eX (ax aT (pv 9) ac)) fV)))) aH))
     (ai (eW (br (aJ db (pv 11) ac (aK _)) (am (cS (i:=4) aR.nd (ax gQ (ax gQ (d5 m7 (pv 4) fV (eX (pv 9))) (bJ (aa (oA o7 ac) af))) (d5 nI (pv 4) (eX (ax aT (pv 9) ac)) fV)))) aH))
     (ai (eW (br (aJ db (pv 11) ac (aK _)) (am (cS (i:=6) aR.nd (ax gQ (ax gQ (d5 m7 (pv 6) fV (eX (pv 9))) (bJ (aa (ax aT (aF aB (pv 10) ac) ac) af))) (d5 nI (pv 6) (eX (ax aT (pv 9) ac)) fV)))) aH))
     (ai (eW (br (aJ db (pv 11) ac (aK _)) (am (cS (i:=7) aR.nd (ax gQ (ax gQ (d5 m7 (pv 7) fV (eX (pv 9))) (bJ (aa (ax aT (aF aB (pv 10) ac) ac) af))) (d5 nI (pv 7) (eX (ax aT (pv 9) ac)) fV)))) aH))
     (ai (eW (br (aJ db (pv 11) ac (aK _)) (am (cS (i:=5) aR.nd (ax aT (pv 5) (aF aB (cQ (aa ac (aa ac (aa ac (aa ac (aa ac af)))))) (aP bz (by rfl) T.eP cR (aa (pv 1) af)))))) aH))
     (ai (eW (br (aJ db (pv 11) ac (aK _)) (am (cS (i:=4) aR.nd (ax gQ (pv 4) (bJ (aa ac af))))) aH))
     (am (aI (bJ (aa (pv 4) (aa (pv 5) (aa (pv 6) (aa (pv 7) (aa (pv 8) af))))))))))))))))))))),?_⟩
 try dsimp only [fD,bj]
 try (refine FF ?_;intro Z Z Z Z Z Z Z Z Z Z Z Z Z Z Z)
 obtain ⟨qb,qw,qf,g0,g1,g2,g3⟩:=hs.gs;refine ⟨_,rfl,q,_,rfl,g0,rfl,_,_,rfl,_,_,rfl,_,_,rfl,_,_,rfl,_,_,rfl,rfl,?_⟩;have lx:xs.length=R.length:=by rw [dx.length,CT]
 refine ⟨_,rfl,_,_,rfl,rfl,cdiv (by decide) (by decide),λ y Z=>⟨_,rfl,V,_,rfl,.inl hp,λ n en=>⟨_,_,rfl,rfl,by lia,λ a' a0 a1 Z=>?_⟩⟩⟩;obtain ⟨i,rfl⟩:=ada a0;have hi:i<R.length:=by lia
 have hq:=Vo hi;generalize R[i]=r at hq;obtain ⟨v,ev,dv⟩:=dx.get (i:=i) (d:=K6 r) (by rw [aag,hq];rfl);obtain ⟨p5,pm,sv,rfl,h5,hm,ds⟩:=yc dv;refine ⟨_,rfl,_,rfl,V,_,_,_,rfl,rfl,.inl hp,eE ev,p5,_,_,_,rfl,rfl,.inr h5,rfl,?_⟩;refine ⟨λ ae H'=>aE H H'/\∃ L,bP K H' L [.int (KZ r.bM).1,.int (KZ r.bM).2.1,.int (KZ r.bM).2.2.1,.int (KZ r.bM).2.2.2]/\ae=[some (.ref q),some (.ref V),some (.ref pb),some (.int x),some (.ref qb),some (ao (mS.of S).bx),some (.ref qw),some (.ref qf),some (.int (mS.of S).heap),some (ao i),some (.ref L),none],?_,?_⟩
 .
  refine ⟨_,rfl,rfl,_,rfl,?_⟩;cases e:r.bM with
  | none =>
    rw [e] at ds;exact tP ds ⟨Nz,λ L iN=>⟨al iN,L,bP.of ag,rfl⟩⟩
  | some z =>
    rw [e] at ds;obtain ⟨L,rfl,hz⟩:=yP ds;exact kz nofun ⟨aE.refl _,L,hz,rfl⟩
 rintro ae H1 ⟨G,L,hz,rfl⟩;refine ⟨_,rfl,_,_,rfl,rfl,by decide,λ ad w0 w7 Z=>?_⟩;have an:(mS.of S).bL.length=m.rows.length:=(rp _).trans so.lb;have aD:(mS.of S).cI.length=m.rows.length:=(rp _).trans so.lw;have ar:(mS.of S).failed.length=m.rows.length:=(rp _).trans so.lf;have QF:(mS.of S).bx<2 ^ 61:=aba so.bx (aci (by decide) (by lia));have Y:i<m.rows.length:=by lia
 let J:=V6 K m S H1 [some (.ref q),some (.ref V),some (.ref pb),some (.int x)] i (.ref L) ad
 have j0:J 0 ([some (.ref q),some (.ref V),some (.ref pb),some (.int x)]++[some (.ref qb),some (ao (mS.of S).bx),some (.ref qw),some (.ref qf),some (.int (mS.of S).heap),some (ao i),some (.ref L),some (.int ad)]) H1:=⟨qb,qw,qf,.of S,aE.refl _,G.tup g1,G.tup g2,G.tup g3,rfl,QF,.inr ⟨w0,rfl⟩⟩
 refine ⟨J 1,?_,λ a3 H2 j1=>?_⟩
 .
  refine ⟨_,rfl,rfl,_,rfl,gi (λ e=>?_) λ e=>j0.skip λ z=>e (by rw [z])⟩;have O:=cx.mp e;refine ⟨1,rfl,_,rfl,_,_,rfl,rfl,cdiv (by decide) (by decide),λ y2 Z=>⟨_,_,rfl,rfl,aau 30 (by decide) (by decide),λ w1 ab=>?_⟩⟩;have ab:w1=1000000000000000000000000000000:=ab;refine ⟨_,_,rfl,rfl,by lia,λ r2 aG a2 Z=>⟨_,_,rfl,rfl,λ X ah=>?_⟩⟩;refine ⟨qb,qw,qf,{ mS.of S with heap:=X },aE.refl _,G.tup g1,G.tup g2,G.tup g3,rfl,QF,.inl ⟨by lia,mG λ z=>?_⟩⟩;have:0<=X:=(iG z).2.2.1;lia
 refine ⟨J 2,?_,λ a4 H3 j2=>?_⟩
 .
  obtain ⟨A,f,C,g,b,U,j,p,rfl,D,u⟩:=j1.ex;refine ⟨_,rfl,rfl,_,rfl,gi (λ e=>?_) λ e=>j1.skip λ z=>e (by rw [z])⟩;have O:=cx.mp e;rcases u with u|⟨Z,rfl⟩
  . lia
  refine ⟨_,rfl,pb,_,_,_,rfl,rfl,.inr ((G.trans b).tup hb),rfl,_,_,rfl,rfl,λ X ah=>?_⟩;refine ⟨A,f,C,{ mS.of S with heap:=X },b,U,j,p,rfl,D,.inl ⟨by lia,mG λ z=>?_⟩⟩;have:X<=m.eF:=(iG z).2.2.2.1;rw [lk.eF] at this;lia
 refine ⟨J 3,?_,λ a5 M j3=>?_⟩
 .
  obtain ⟨A,f,C,g,b,U,j,p,rfl,D,u⟩:=j2.ex;refine ⟨_,rfl,rfl,_,rfl,gi (λ e=>?_) λ e=>j2.skip λ z=>e (by rw [z])⟩;have O:=cx.mp e;rcases u with u|⟨Z,rfl⟩
  . lia
  refine tT (a:=4) (v:=(r.marks.length:Int) - 1) rfl rfl U (by lia) (by lia) (λ M Q1 s W=>?_) λ t M s B=>?_
  . exact ⟨_,rfl,_,rfl,V,_,_,_,rfl,rfl,.inl ((G.trans (b.trans s)).seq hp),eE ev,p5,_,_,_,rfl,rfl,.inr ((G.trans (b.trans s)).tup h5),rfl,pm,_,rfl,.inl ((G.trans (b.trans s)).seq hm),λ n en=>⟨_,_,rfl,rfl,λ r' N=>by rw [N,en,CT];exact W⟩⟩
  refine ⟨t,f,C,{ mS.of S with bL:=yt (mS.of S).bL i ((r.marks.length:Int) - 1)},b.trans s,B,s.tup j,s.tup p,rfl,D,.inl ⟨by lia,mG λ z=>?_⟩⟩;obtain ⟨⟨Z,z⟩,Z⟩:=ng ((iG z).2.2.2.2 i Y);rw [lk.nb Y hq,ue (by lia)] at z;lia
 refine ⟨J 4,?_,λ a6 H5 j4=>?_⟩
 .
  obtain ⟨A,f,C,g,b,U,j,p,rfl,D,u⟩:=j3.ex;refine ⟨_,rfl,rfl,_,rfl,gi (λ e=>?_) λ e=>j3.skip λ z=>e (by rw [z])⟩;have O:=cx.mp e;rcases u with u|⟨Z,rfl⟩
  . lia
  refine tT (a:=4) (v:=-1) rfl rfl U (by lia) (by lia) (λ M Q1 s W=>⟨1,rfl,W⟩) λ t M s B=>?_;refine ⟨t,f,C,{ mS.of S with bL:=yt (mS.of S).bL i (-1)},b.trans s,B,s.tup j,s.tup p,rfl,D,.inl ⟨by lia,mG λ z=>?_⟩⟩;obtain ⟨⟨z,Z⟩,Z⟩:=ng ((iG z).2.2.2.2 i Y);rw [ue (by lia)] at z;lia
 refine ⟨J 5,?_,λ a7 H6 j5=>?_⟩
 .
  obtain ⟨A,f,C,g,b,U,j,p,rfl,D,u⟩:=j4.ex;refine ⟨_,rfl,rfl,_,rfl,gi (λ e=>?_) λ e=>j4.skip λ z=>e (by rw [z])⟩;have O:=cx.mp e;rcases u with u|⟨Z,rfl⟩
  . lia
  refine tT (a:=6) (v:=(KZ r.bM).2.2.1+1) rfl rfl j (by lia) (by lia) (λ M Q1 s W=>⟨_,rfl,L,_,_,_,rfl,rfl,.inr ((b.trans s).tup hz),rfl,_,_,rfl,rfl,λ r' N=>by rw [N];exact W⟩) λ t M s B=>?_;refine ⟨A,t,C,{ mS.of S with cI:=yt (mS.of S).cI i ((KZ r.bM).2.2.1+1)},b.trans s,s.tup U,B,s.tup p,rfl,D,.inl ⟨by lia,mG λ z=>?_⟩⟩;obtain ⟨Z,z1,z2⟩:=ng ((iG z).2.2.2.2 i Y);rw [lk.sv hi hq] at z1 z2;have F:=ue (i:=i) (l:=(mS.of S).cI) (v:=(KZ r.bM).2.2.1+1) (by lia);cases I:r.bM with
  | none =>
    have:=(z1 (by rw [I];rfl)).1;rw [I] at F;have F:_=(0:Int)+1:=F;rw [I] at this;lia
  | some y =>
    have:=(z2 _ (by rw [I];rfl)).1;rw [I] at F this;have F:_=y.2.2.1+1:=F;lia
 refine ⟨J 6,?_,λ a8 H7 j6=>?_⟩
 .
  obtain ⟨A,f,C,g,b,U,j,p,rfl,D,u⟩:=j5.ex;refine ⟨_,rfl,rfl,_,rfl,gi (λ e=>?_) λ e=>j5.skip λ z=>e (by rw [z])⟩;have O:=cx.mp e;rcases u with u|⟨Z,rfl⟩
  . lia
  refine tT (a:=7) (v:=(KZ r.bM).2.2.2+1) rfl rfl p (by lia) (by lia) (λ M Q1 s W=>⟨_,rfl,L,_,_,_,rfl,rfl,.inr ((b.trans s).tup hz),rfl,_,_,rfl,rfl,λ r' N=>by rw [N];exact W⟩) λ t M s B=>?_;refine ⟨A,f,t,{ mS.of S with failed:=yt (mS.of S).failed i ((KZ r.bM).2.2.2+1)},b.trans s,s.tup U,s.tup j,B,rfl,D,.inl ⟨by lia,mG λ z=>?_⟩⟩;obtain ⟨Z,z1,z2⟩:=ng ((iG z).2.2.2.2 i Y);rw [lk.sv hi hq] at z1 z2;have F:=ue (i:=i) (l:=(mS.of S).failed) (v:=(KZ r.bM).2.2.2+1) (by lia);cases I:r.bM with
  | none =>
    have:=(z1 (by rw [I];rfl)).2;rw [I] at F;have F:_=(0:Int)+1:=F;rw [I] at this;lia
  | some y =>
    have:=(z2 _ (by rw [I];rfl)).2;rw [I] at F this;have F:_=y.2.2.2+1:=F;lia
 refine ⟨J 7,?_,λ a9 H8 j7=>?_⟩
 .
  obtain ⟨A,f,C,g,b,U,j,p,rfl,D,u⟩:=j6.ex;refine ⟨_,rfl,rfl,_,rfl,gi (λ e=>?_) λ e=>j6.skip λ z=>e (by rw [z])⟩;have O:=cx.mp e;rcases u with u|⟨Z,rfl⟩
  . lia
  have e8:([.int 1,.int 2,.int 4,.int 8,.int 16]:az)[R.length]?=some (.int ((2 ^ R.length:Nat):Int)):=by
    have c:R.length=1\/R.length=2\/R.length=3\/R.length=4:=by lia
    rcases c with c|c|c|c<;>rw [c]<;>rfl
  refine ⟨_,rfl,(show 5<=sizeLine by decide),λ t B=>⟨_,rfl,V,_,rfl,.inl ((G.trans (b.trans (al B))).seq hp),λ n en=>⟨t,_,_,.int ((2 ^ R.length:Nat):Int),rfl,rfl,.inl (aY.of ag),?_,?_⟩⟩⟩
  . rw [en,lx];exact eE e8
  have s:=al (o:=.lst [.int 1,.int 2,.int 4,.int 8,.int 16]) B;refine ⟨_,_,rfl,rfl,λ r' N=>?_⟩;obtain rfl:r'=(((mS.of S).bx+2 ^ R.length:Nat):Int):=by rw [N];push_cast;rfl
  have p4:2 ^ R.length<=2 ^ 4:=aci (by decide) n4;have aj:=so.bx;rw [lr] at aj;refine ⟨A,f,C,{ mS.of S with bx:=(mS.of S).bx+2 ^ R.length },b.trans s,s.tup U,s.tup j,s.tup p,rfl,?_,.inl ⟨by lia,mG λ z=>?_⟩⟩
  . show S.bx+2 ^ R.length<2 ^ 61;lia
  . have:S.bx+2 ^ R.length<2 ^ m.rows.length:=(iG z).2.1;rw [lr] at this;lia
 refine ⟨J 8,?_,λ ba H9 j8=>?_⟩
 .
  obtain ⟨A,f,C,g,b,U,j,p,rfl,D,u⟩:=j7.ex;refine ⟨_,rfl,rfl,_,rfl,gi (λ e=>?_) λ e=>j7.skip λ z=>e (by rw [z])⟩;have O:=cx.mp e;rcases u with u|⟨Z,rfl⟩
  . lia
  refine ⟨_,rfl,GW,λ t B=>?_⟩;have s:=al (o:=.tup [.int 0]) B;refine ⟨A,t,_,_,rfl,rfl,s.tup U,bP.of ag,adn (aO (by rw [CT];show _+1<=1000;lia)),λ t2 M s5 h5=>?_⟩;refine ⟨t2,f,C,{ mS.of S with bL:=(mS.of S).bL++[0]},b.trans (s.trans s5),by rw [aap];exact h5,(s.trans s5).tup j,(s.trans s5).tup p,rfl,D,.inl ⟨by lia,mG λ z=>?_⟩⟩;have:((mS.of S).bL++[0]).length=m.rows.length:=(iG z).1;rw [aae] at this;have:(mS.of S).bL.length+1=m.rows.length:=this;lia
 obtain ⟨A,f,C,g,b,U,j,p,rfl,D,u⟩:=j8.ex;refine ⟨_,rfl,_,rfl,_,rfl,_,rfl,_,rfl,(show 5<=sizeLine by decide),λ t B=>?_⟩;have s:=al (o:=.tup [.ref A,ao g.bx,.ref f,.ref C,.int g.heap]) B;refine k t g _ (G.trans (b.trans s)) ⟨A,f,C,bP.of ag,s.tup U,s.tup j,s.tup p⟩ D ?_;rcases u with ⟨Z,u⟩|⟨u,Z⟩
 . exact u
 . lia
def jN (T:Txt K mg Ad):AT K Ad.dJ:=⟨T.Bq,T.Av,T.Bx,T.gs,T.tk,T.AN,T.zQ,T.AX⟩
def vL (T:Txt K mg Ad):Def P w K mg base "_law_refused" 15 ["_law_hold_here","_law_state_here"] (IM K Ad.bp):=by
 refine T.wg.dg eC λ Z Z Z Z Z H A Q E r h=>?_;obtain ⟨a,F,m,p,g,rfl,q,t,n,o,k⟩:=h;refine ⟨_,(ai (cS (i:=2) eC.nd gK)
     (ai (Ql (i:=3) rfl rfl eC.nd rfl rfl T.xX (BD (zZ (gO T) r.m (aa (pv 0) (aa (pv 1) af)))) (λ Z Z Z f=>(ai (cS (i:=2) eC.nd (kU (aP (qB K rfl (abS _ (aac.mpr rfl)) f) (by rfl) T.cW cM (aa (pv 3) (aa (bY (v:=V.ref _) rfl T.xy rfl) af))) (kP (aP (qB K rfl (abS _ (aac.mpr rfl)) f) (by rfl) T.cW cM (aa (pv 3) (aa (nL (v:=V.ty "ValueError") rfl T.zn wm rfl) af))))))
     (ai (eW (br (cB (aP (qB K rfl (abS _ (aac.mpr rfl)) f) (by rfl) T.cW cM (aa (pv 3) (aa (bJ (aa (bY (v:=V.ref _) rfl T.CH rfl) (aa (bY (v:=V.ref _) rfl T.JU rfl) (aa (bY (v:=V.ref _) rfl T.OT rfl) (aa (bY (v:=V.ref _) rfl T.Go rfl) (aa (bY (v:=V.ref _) rfl T.rA rfl) (aa (bY (v:=V.ref _) rfl T.MH rfl) (aa (bY (v:=V.ref _) rfl T.G6 rfl) (aa (bY (v:=V.ref _) rfl T.IU rfl) (aa (bY (v:=V.ref _) rfl T.Db rfl) (aa (bY (v:=V.ref _) rfl T.Gx rfl) af))))))))))) af)))) (am (cS (i:=2) eC.nd gK)) aH))
     (am (br (cB (aP (qB K rfl (abS _ (aac.mpr rfl)) f) (by rfl) T.cW cM (aa (pv 3) (aa (bJ (aa (bY (v:=V.ref _) rfl T.Jd rfl) (aa (bY (v:=V.ref _) rfl T.KC rfl) (aa (bY (v:=V.ref _) rfl T.Ky rfl) (aa (bY (v:=V.ref _) rfl T.HI rfl) (aa (bY (v:=V.ref _) rfl T.MA rfl) (aa (bY (v:=V.ref _) rfl T.Gh rfl) (aa (bY (v:=V.ref _) rfl T.FQ rfl) af)))))))) af)))) (am (cS (i:=2) eC.nd gK)) aH))))))
     (am (aI (pv 2))))),?_⟩
 try dsimp only [fD,bj]
 try (refine dR ?_;intro Z Z Z Z)
 refine ⟨_,rfl,_,rfl,.inl ⟨a,F,m,p,g,rfl,q,t,n,o,λ u S=>⟨T.ex,λ e y=>?_⟩⟩⟩;refine ⟨_,rfl,_,_,_,rfl,rfl,jN T,PH.one (b:=true) rfl T.k3,_,rfl,fE ?_⟩;refine ⟨_,rfl,_,_,_,rfl,rfl,jN T,PH.one (b:=true) rfl T.k1,?_⟩;refine ⟨λ d j=>d=[some (.ref a),some (.ref p),some (.bl true),some (.ref e)]/\aE H j,⟨_,rfl,aO (show 9<=1000 by decide),λ z I=>⟨_,_,_,rfl,rfl,jN T,PH.many ag (λ x c=>?_) T.k0,_,rfl,dE ⟨rfl,S.trans (al I)⟩⟩⟩,?_⟩
 . simp only [aah,aak,ack] at c;rcases c with rfl|rfl|rfl|rfl|rfl|rfl|rfl|rfl|rfl|rfl<;>rfl
 rintro d j ⟨rfl,s⟩;refine ⟨_,rfl,aO (show 6<=1000 by decide),λ U l=>⟨_,_,_,rfl,rfl,jN T,PH.many ag (λ x c=>?_) T.k2,_,rfl,dE ?_⟩⟩
 . simp only [aah,aak,ack] at c;rcases c with rfl|rfl|rfl|rfl|rfl|rfl|rfl<;>rfl
 exact ⟨_,rfl,k _ (s.trans (al l))⟩
def Bf (T:Txt K mg Ad):Def P w K mg base "_law_rank" 1 ["_law_found"] GK:=by
 refine T.CP.dg Bn λ Z Z Z Z Z H c Q E b h=>?_;obtain ⟨a,rfl,k⟩:=h;refine ⟨_,(am (aI (Nq (dW pj (pv 0) cY (aK _)) (kP (kU (aP iJ (by rfl) T.cW cM (aa (pv 0) (aa (nL (v:=V.ty "int") rfl T.xJ rW rfl) af))) (kU (uK (aP iJ (by rfl) T.cW cM (aa (pv 0) (aa (nL (v:=V.ty "bool") rfl T.JB DQ rfl) af)))) (kP (dW Kx (pv 0) ac (aK _))))))))),?_⟩;try dsimp only [fD,bj]
 cases a with
 | none=>exact ⟨_,rfl,rfl,_,rfl,fE k⟩
 | some n =>
   refine ⟨_,rfl,rfl,_,rfl,dE ?_⟩;refine ⟨_,rfl,_,_,_,_,_,rfl,.int _,rfl,KL K "int",_,rfl,fE ?_⟩;refine ⟨_,rfl,_,_,_,_,_,rfl,.int _,rfl,qL K,_,rfl,_,rfl,fE ?_⟩;refine ⟨_,rfl,_,_,rfl,rfl,?_⟩;rw [aaM (show (n:Int)≥0 by lia)];exact k
def wz (T:Txt K mg Ad):Def P w K mg base "_law_rising" 1 ["_law_ranks"] (Gp K):=by
 refine T.xT.dg oi λ Z Z Z Z Z H D Q E t h=>?_;obtain ⟨p,r,rfl,a,L,R,k⟩:=h;refine ⟨_,(ai (cP abM rfl (cr rfl T.dG (aa (ax dI (aP bz (by rfl) T.eP cR (aa (pv 0) af)) ac) af)) (iF (i:=1) oi.nd) (ai (br (PW.pt (my (aJ pj (aF aB (pv 0) (pv 1)) cY (aK _)) (kN (aJ jJ (aF aB (pv 0) (ax aT (pv 1) ac)) cY (aK _))))) (am (aI gK)) aH)
     (am (br (PW.pt (my (aJ jJ (aF aB (pv 0) (pv 1)) cY (aK _)) (my (aJ jJ (aF aB (pv 0) (ax aT (pv 1) ac)) cY (aK _)) (kN (aJ lH (aF aB (pv 0) (ax aT (pv 1) ac)) (aF aB (pv 0) (pv 1)) (aK _)))))) (am (aI gK)) aH))))
     (am (aI gK))),?_⟩
 try dsimp only [fD,bj]
 have C:(r.map hX).length=r.length:=CT ..;refine ⟨_,rfl,p,_,rfl,.inl a,λ n o=>⟨_,_,rfl,rfl,λ N m=>⟨N,rfl,by lia,by lia,?_⟩⟩⟩;refine xA (lo:=0) (n:=N.toNat) (λ i f c=>c=H/\∃ v,f=[some (.ref p),v]) ⟨rfl,none,rfl⟩ ?_ ?_
 .
  rintro i f c s ⟨rfl,v,rfl⟩;have g:i<r.length:=by lia
  have j:i+1<r.length:=by lia
  have A:tf (r.map hX) (0+(i:Int))=some (hX r[i]):=by rw [aca];exact eE (by rw [aag,Vo g];rfl)
  have b:∀ y:Int,y=0+(i:Int)+1->tf (r.map hX) y=some (hX r[i+1]):=λ y e=>by
    rw [show y=((i+1:Nat):Int) by lia];exact eE (by rw [aag,Vo j];rfl)
  have q:=R i _ _ (Vo g) (Vo j);generalize r[i]=u at A q;generalize r[i+1]=V at b q;cases u with
  | none =>
    obtain rfl:V=none:=by
      rcases q with q|⟨x,y,q,Z⟩
      . exact q
      . cases q
    refine ⟨_,rfl,_,rfl,p,_,_,_,rfl,rfl,.inl a,A,rfl,_,rfl,fE ⟨_,rfl,_,rfl,_,_,rfl,rfl,λ y d=>⟨p,_,_,_,rfl,rfl,.inl a,b y d,rfl,_,rfl,dE ?_⟩⟩⟩;exact ⟨_,rfl,_,rfl,p,_,_,_,rfl,rfl,.inl a,A,rfl,_,rfl,dE (dE ⟨rfl,_,rfl⟩)⟩
  | some x =>
    refine ⟨_,rfl,_,rfl,p,_,_,_,rfl,rfl,.inl a,A,rfl,_,rfl,dE (dE ?_)⟩;refine ⟨_,rfl,_,rfl,p,_,_,_,rfl,rfl,.inl a,A,rfl,_,rfl,fE ⟨_,rfl,_,rfl,_,_,rfl,rfl,λ y d=>⟨p,_,_,_,rfl,rfl,.inl a,b y d,rfl,_,rfl,?_⟩⟩⟩;rcases q with rfl|⟨X,z,q,rfl,B⟩
    . exact dE (dE ⟨rfl,_,rfl⟩)
    . cases q;refine fE ⟨_,rfl,_,rfl,_,_,rfl,rfl,λ Y l=>⟨p,_,_,_,rfl,rfl,.inl a,b Y l,_,rfl,_,rfl,p,_,_,_,rfl,rfl,.inl a,A,_,_,rfl,rfl,_,rfl,kz (by lia) ⟨rfl,_,rfl⟩⟩⟩
 . rintro f c ⟨rfl,v,rfl⟩;exact k
def Be (T:Txt K mg Ad):Def P w K mg base "_law_wide" 15 ["_law_cell"] Gv:=by
 refine T.CC.dg fP λ Z Z Z Z Z H V Q E hr h=>?_;obtain ⟨x,rfl,k⟩:=h;refine ⟨_,(ai (cS (i:=1) fP.nd (ax aT ac (ax aX (pv 0) ac)))
     (ai (cS (i:=2) fP.nd (AZ T.EW (jh T) hr.m T.Jk (aa ac (aa (pv 1) (aa ac af)))))
     (ai (cP abM rfl (bS (cQ (aa ac (aa ac (aa ac af))))) (iF (i:=3) fP.nd) (am (bo (bg (pv 2) T.aG (jR T) .nil hr.m (aa (dB ["_law_k"] [] [] .nil rfl ge (cr rfl T.dG (aa (ax aT (pv 3) ac) af)) (λ Z Z Z Z Z=>(lK (i:=0))) (λ Z Z Z Z Z=>cC) (λ Z Z Z Z Z=>(bJ (aa (ax dI (ax bN ac (pv 0)) ac) (aa ac af))))) af)))))
     (ai (cS (i:=4) fP.nd (bJ (aa (bJ (aa (ax aX (ax bB (pv 0) ac) ac) (aa (ax aX (ax bB (pv 0) ac) ac) (aa (ax aX (ax bB (pv 0) ac) ac) af)))) (aa ac (aa (bJ (aa ac (aa ac (aa ac af)))) (aa (bJ (aa ac (aa ac (aa ac af)))) (aa (ax aX (ax bB (pv 0) ac) ac) af)))))))
     (ai (br (aJ db (pv 1) ac (aK _)) (am (aI (dW (OO hr.units) (aw (iq T) hr.m (aa (pv 2) (aa (pv 4) af))) (ax Qk (cQ (aa cY af)) ac) (aK _)))) aH)
     (ai (cS (i:=5) fP.nd gK)
     (ai (LN rfl rfl T.rA (BD (zZ (gO T) hr.m (aa (pv 2) (aa (pv 4) af)))) (λ Z Z=>(am (cS (i:=5) fP.nd gK))))
     (am (aI (pv 5)))))))))),?_⟩
 try dsimp only [fD,bj]
 try (refine ui ?_;intro Z Z Z Z Z Z Z Z Z)
 refine ⟨_,rfl,_,_,rfl,rfl,by decide,λ r r0 r1 Z=>⟨_,_,rfl,rfl,λ c ec=>?_⟩⟩;have aD:26<=c:=by lia
 have O:c<=30:=by lia
 have U:0<=c:=by lia
 refine ⟨_,rfl,λ a Qv fa Xb ZV=>?_⟩;have s0:aE H (upd (upd H Qv (.own a)) a (.ins Ad.bp Qv [])):=λ b o hc=>by
   rw [av (ay hc fa),av (ay hc Xb)];exact hc
 refine ⟨a,Qv,4,c,0,rfl,ag,by rw [av ZV];exact ag,by decide,by lia,by decide,λ H1 W5 D1=>⟨rfl,?_⟩⟩;refine ⟨Nh,λ N gT=>⟨N,rfl,⟨_,aY.of ag⟩,?_⟩⟩;have h1:=D1.at_.same (al (o:=.lst [.int 6,.int 6,.int 2]) gT);have n1:N∉W5:=λ z=>by
   obtain ⟨u,hu⟩:=D1.at_.some N z;rw [gT] at hu;cases hu
 refine gA (K:=K) (a:=N) (xs:=[6,6,2].map ao) (λ i I H'=>A3 (H' N=some (.lst ([6,6,2].map ao))) (∃ M,aV K Ad.bp H' a M (cp c i)/\N∉M) (∃ v,I=[some (.int x),some (.int c),some (.ref a),v,none,none]))
   ⟨ag,⟨W5,h1,n1⟩,none,rfl⟩ (λ i I H' Z e=>aY.of e.1) ?_ ?_
 .
  rintro Z i y I R hy ⟨e2,⟨SW,h2,n2⟩,v,rfl⟩;obtain ⟨n,en,rfl⟩:=dC hy;obtain ⟨i3,a0,⟨ri,bd⟩,ad⟩:=JV (c:=c) en;obtain ⟨⟨TF,Z,Z,Z,Z,Z,Z,Z,Z,Z,Sn,Z⟩,Z⟩:=id h2;refine ⟨_,rfl,a,TF,_,rfl,Sn,rfl,_,rfl,_,_,rfl,rfl,λ z ez=>⟨z,rfl,by lia,by lia,λ D hD=>?_⟩⟩;obtain rfl:z=((n+1:Nat):Int):=ez;refine eS (lo:=0) (n:=(((n+1:Nat):Int)).toNat) (λ j A I d=>A4 (aE R d) (d D=some (.lst A)) (bE K d ((List.range j).map λ k:Nat=>ff (3 * (k:Int) - 7,1)) A) (∃ v,I=[v])) ⟨al hD,ag,ed,none,rfl⟩ ?_ ?_
  .
   rintro j A I d hj ⟨S,jC,W,v,rfl⟩;rw [acz] at hj;have la:A.length=j:=by rw [W.length,CT,aax]
   refine ⟨_,rfl,_,_,rfl,rfl,⟨10,10,(by decide:(3:Int).natAbs<2 ^ 10),show Int.natAbs _<2 ^ 10 by lia,by decide⟩,λ z1 e1=>⟨_,_,rfl,rfl,λ z2 e2=>⟨Hl,λ q hq=>?_⟩⟩⟩;obtain rfl:z2=3 * (j:Int) - 7:=by lia
   have s:=al (o:=.tup [.int (3 * (j:Int) - 7),.int 1]) hq;have h4:(upd d q (.tup [.int (3 * (j:Int) - 7),.int 1])) q=_:=ag;generalize upd d q (.tup [.int (3 * (j:Int) - 7),.int 1])=L at s h4 |-;have QE:aS K L (upd L D (.lst (A++[.ref q]))):=bW (s _ _ jC) rfl;refine ⟨s _ _ jC,aO (by lia),(S.trans s).put hD,ag,?_,_,rfl⟩;rw [acb,aap];exact (bE.ts ((aE.ts s).trans QE) _ (nM _ _) W).snoc (Dn.ts QE _ (ir _) (mI (bP.of h4)))
  .
   rintro A I d ⟨S,jC,W,v,rfl⟩;rw [acz] at W;have lr:(tz n).length=n+1:=by unfold tz;rw [CT,aax]
   refine ⟨a,SW,cp c i,D,A,tz n,rfl,h2.same S,?_,aY.of jC,by unfold tz;rw [adX];exact W,λ f hf=>?_,by lia,by lia,ri,bd,λ L ah D4=>?_⟩
   . show (List.map _ _).length<4;rw [CT,abw];lia
   . obtain ⟨z,hz,rfl⟩:=abm.mp hf;have:=aa4.mp hz;exact ⟨aba (show _<2 ^ 5 by lia) (aci (by decide) (by decide)),(by decide:(1:Int).natAbs<2 ^ 100),show (0:Int)<1 by decide⟩
   .
    rw [ad] at D4;have Y:=S _ _ e2;refine ⟨D4.but _ _ Y n2,⟨ah,D4.at_,λ z=>?_⟩,_,rfl⟩;rcases D4.own _ z with q|q
    . exact n2 q
    . rw [Y] at q;cases q
 .
  rintro I R ⟨Z,⟨M,hh,Z⟩,v,rfl⟩;have hh:aV K Ad.bp R a M (cp c 3):=hh;refine ⟨_,rfl,_,_,rfl,rfl,⟨by decide,nJ⟩,λ y1 Z=>⟨_,_,rfl,rfl,by decide,λ B ab an Z=>?_⟩⟩;refine ⟨_,rfl,_,_,rfl,rfl,⟨by decide,nJ⟩,λ y2 Z=>⟨_,_,rfl,rfl,by decide,λ g KS Hn Z=>?_⟩⟩;refine ⟨_,rfl,_,_,rfl,rfl,⟨by decide,nJ⟩,λ y3 Z=>⟨_,_,rfl,rfl,by decide,λ t ae ar Z=>⟨Nh,λ C Dx=>?_⟩⟩⟩;obtain ⟨B,rfl⟩:=ada ab;obtain ⟨g,rfl⟩:=ada KS;obtain ⟨t,rfl⟩:=ada ae;have S:=al (o:=.tup [.int (B:Int),.int (g:Int),.int (t:Int)]) Dx;have Y:(upd R C (.tup [.int (B:Int),.int (g:Int),.int (t:Int)])) C=_:=ag;generalize upd R C (.tup [.int (B:Int),.int (g:Int),.int (t:Int)])=d at S Y |-;refine ⟨Nh,λ F zo=>?_⟩;have s:=al (o:=.tup [.int 0,.int 0,.int 0]) zo;have e4:(upd d F (.tup [.int 0,.int 0,.int 0])) F=_:=ag;generalize upd d F (.tup [.int 0,.int 0,.int 0])=L at s e4 |-;refine ⟨Nh,λ G Aj=>?_⟩;have s5:=al (o:=.tup [.int 0,.int 0,.int 0]) Aj;have e5:(upd L G (.tup [.int 0,.int 0,.int 0])) G=_:=ag;generalize upd L G (.tup [.int 0,.int 0,.int 0])=H5 at s5 e5 |-;refine ⟨_,rfl,_,_,rfl,rfl,⟨by decide,nJ⟩,λ y4 Z=>⟨_,_,rfl,rfl,by decide,λ h h0 h1 Z=>⟨(by show 5<=sizeLine;decide),λ q hq=>?_⟩⟩⟩;obtain ⟨h,rfl⟩:=ada h0;have s6:=al (o:=.tup [.ref C,.int 0,.ref F,.ref G,.int (h:Int)]) hq;have e6:(upd H5 q (.tup [.ref C,.int 0,.ref F,.ref G,.int (h:Int)])) q=_:=ag;have f9:gS K (upd H5 q (.tup [.ref C,.int 0,.ref F,.ref G,.int (h:Int)])) q (ox B g t h):=⟨C,F,G,bP.of e6,bP.of ((s.trans (s5.trans s6)) _ _ Y),bP.of ((s5.trans s6) _ _ e4),bP.of (s6 _ _ e5)⟩
  have J:=hh.same (S.trans (s.trans (s5.trans s6)));generalize upd H5 q (.tup [.ref C,.int 0,.ref F,.ref G,.int (h:Int)])=H6 at f9 J |-;have so:eM (cp c 3) (ox B g t h):=LR (by lia) (by lia) (by lia) (by lia);refine ⟨_,rfl,rfl,_,rfl,?_⟩;by_cases X:c=26
  .
   subst X;refine tP rfl ⟨_,rfl,_,rfl,.inr ⟨a,M,_,q,_,rfl,J,yO U O,.inl JI,Ei,f9,so,U,O,λ p V H7 Z s7 hp rk Z=>?_⟩⟩;have ev:=Km U O so rk;have ln:(V.length:Int)=26+1:=rk.ln;rw [show V.length=27 by lia] at ev;refine ⟨GW,λ pn aj=>⟨pn,27,_,rfl,rfl,ag,by decide,by decide,adn (aO (show 27<=1000 by decide)),λ pm iK=>?_⟩⟩;refine IJ (n:=1) (wT (l:=V) (aY.of (al iK _ _ (al aj _ _ hp)))) (wT (l:=V) (aY.of ?_)) Jo (by decide) (k _);rw [ag,ev];rfl
  . refine kz (λ e=>X (cx.mp e)) ?_;refine ⟨_,rfl,_,rfl,.inr ⟨a,M,_,q,_,rfl,J,yO U O,.inr λ H7=>⟨T.tm,_,rfl,k _⟩,Ei,f9,so,U,O,λ p V H7 Z s7 hp rk cl=>?_⟩⟩;exact (KD (c:=c) (b0:=B) (b1:=g) (b2:=t) (by lia) (by lia) (by lia) (by lia) rk.ln cl).elim
def Qm (F:Ic K "law" "law" ET f fd) (T:Txt K mg Ad):gX P w K mg base Bg 16 f fd ["_law_script"] (KN K):=by
 refine F.ok iY (λ vs H Q E h=>?_) (λ bC A outer s H vs Q E l h=>?_)
 . obtain ⟨a,N,rfl,Z⟩:=h;rfl
 .
  obtain ⟨G,N,rfl,W,ba,ES,k⟩:=h;refine ⟨_,(ai (br (aJ db (ax aX (aw (dA T) l.m (aa (pv 0) (aa ac af))) ac) ac (aK _)) (am (aI (aw (Be T) l.m (aa (ax bB (aw (dA T) l.m (aa (pv 0) (aa ac af))) ac) af)))) aH)
    (ai (cS (i:=1) iY.nd (aw (dA T) l.m (aa (pv 0) (aa ac af))))
    (ai (cS (i:=2) iY.nd (ax aT ac (eJ mZ (by rfl) T.xJ rW (aa (dW db (ax aX (pv 1) ac) ac (aK _)) af))))
    (ai (cS (i:=3) iY.nd (bJ (aa (ax aX (ax bB (pv 1) ac) ac) (aa (ax aX (ax bB (pv 1) ac) ac) (aa (ax aX (ax bB (pv 1) ac) ac) af)))))
    (ai (cS (i:=4) iY.nd (aw (zh T) l.m (aa (aw (dA T) l.m (aa (pv 0) (aa ac af))) (aa (pv 2) (aa (ax dI ac (pv 2)) af)))))
    (ai (cS (i:=5) iY.nd (aw (AO T) l.m (aa (pv 4) (aa (aw (xZ T) l.m (aa (aw (dA T) l.m (aa (pv 0) (aa ac af))) af)) (aa (pv 3) (aa (ax aX (ax bB (pv 1) ac) ac) af))))))
    (ai (cP abM rfl (cr rfl T.dG (aa (ax aT ac (aP bz (by rfl) T.eP cR (aa (d5 Eh (pv 0) (eX ac) (eX ac)) af))) af)) (iF (i:=6) iY.nd) (ai (cS (i:=7) iY.nd (aw (yH T) l.m (aa (pv 4) (aa (pv 3) (aa (aw (dA T) l.m (aa (pv 0) (aa (ax aT ac (pv 6)) af))) (aa (pv 6) af))))))
    (ai (br (dM (cB (aw (vL T) l.m (aa (pv 5) (aa (aw (qY T) l.m (aa (pv 7) (aa (pv 4) (aa (pv 3) (aa (aw (bR T) l.m (aa (aw (dA T) l.m (aa (pv 0) (aa (ax aT ac (pv 6)) af))) (aa (pv 6) (aa ac af)))) af))))) af))))) (am (aI gK)) aH)
    (ai (cS (i:=8) iY.nd (aw (iq T) l.m (aa (pv 5) (aa (pv 7) af))))
    (ai (cS (i:=9) iY.nd (cQ af))
    (ai (cP abM rfl (cr rfl T.dG (aa (ax aT (aF aB (pv 3) ac) ac) af)) (iF (i:=10) iY.nd) (ai (cS (i:=11) iY.nd (ax gQ (d5 m7 (pv 7) fV (eX ac)) (bJ (aa (pv 10) af))))
    (am (bo (g8 abx abK abG cz (pv 9) (aa (tX (P:=P) (w:=w) (K:=K) rfl rfl rfl l.Nm (IF (wE (P:=P) (w:=w) T) l.m (aa (pv 5) (aa (cQ (aa (pv 11) af)) af))) (pv 11) (λ Z Z=>rfl)) af))))))
    (ai (br (PW.pt (sV (dM (cB (aP iJ (by rfl) T.cW cM (aa (pv 8) (aa (nL (v:=V.ty "list") rfl T.IE Ej rfl) af))))) (sV (aJ (C1 l.units) (pv 8) (pv 9) (aK _)) (sj (dM (cB (aw (wz T) l.m (aa (pv 8) af)))))))) (am (aI gK)) aH)
    (ai (br (aJ (C1 l.units) (dB ["_law_rank_here"] [] [] .nil rfl ge (bS (pv 8)) (λ Z Z Z Z Z=>(lK (i:=0))) (λ Z Z Z Z Z=>(jP (dM (cB (aw (Bf T) l.m (aa (pv 0) af)))))) (λ Z Z Z Z Z=>(pv 0))) (cQ af) (aK _)) (am (aI gK)) aH)
    (ai (bo (g8 abx abK abG cz (pv 8) (aa ac af)))
    (ai (ip (oA o7 ac) (oK (pv 8) ac set_list))
    (am (br (PW.pt (my (aJ db (pv 6) ac (aK _)) (kN (aJ (C1 l.units) (aw (iq T) l.m (aa (pv 5) (aa (pv 7) af))) (pv 9) (aK _))))) (am (aI gK)) aH))))))))))))
    (am (aI gK))))))))),?_⟩
  try dsimp only [fD,bj]
  try (refine ui ?_;intro Z Z Z Z Z Z Z Z Z)
  refine ⟨_,rfl,G,N,3,rfl,W,by decide,λ w3 Z=>⟨_,_,rfl,rfl,by decide,λ bG Z Z Z=>⟨rfl,_,rfl,gi (λ Z=>?_) (λ Z=>?_)⟩⟩⟩
  . exact ⟨_,rfl,G,N,3,rfl,W,by decide,λ w4 Z=>⟨_,_,rfl,rfl,⟨by decide,nJ⟩,λ y0 Z=>⟨y0,rfl,λ B=>k B⟩⟩⟩
  refine ⟨_,rfl,G,N,0,rfl,W,by decide,λ fi Z=>?_⟩;refine ⟨_,rfl,_,_,rfl,rfl,by decide,λ r r0 r1 Z=>⟨rfl,.inr ⟨_,rfl,⟨_,_,rfl,rfl,λ mn ah=>?_⟩⟩⟩⟩;obtain ⟨n,rfl⟩:∃ n:Nat,mn=(n:Int):=⟨mn.toNat,by rw [ah];split<;>rfl⟩
  have hn:1<=n/\n<=2:=by split at ah<;>lia
  refine ⟨_,rfl,_,_,rfl,rfl,⟨by decide,nJ⟩,λ y1 Z=>⟨_,_,rfl,rfl,by decide,λ J bc be Z=>?_⟩⟩;refine ⟨_,rfl,_,_,rfl,rfl,⟨by decide,nJ⟩,λ y2 Z=>⟨_,_,rfl,rfl,by decide,λ L KS Hn Z=>?_⟩⟩;refine ⟨_,rfl,_,_,rfl,rfl,⟨by decide,nJ⟩,λ y3 Z=>⟨_,_,rfl,rfl,by decide,λ M bf bk Z=>⟨Nh,λ D HS=>?_⟩⟩⟩;have s1:=al (o:=.tup [.int J,.int L,.int M]) HS;have e1:(upd H D (.tup [.int J,.int L,.int M])) D=some (.tup [.int J,.int L,.int M]):=ag;generalize upd H D (.tup [.int J,.int L,.int M])=H1 at s1 e1 |-;refine ⟨_,rfl,G,N,1,rfl,s1.seq W,by decide,λ c1 Z=>⟨_,rfl,_,rfl,_,_,rfl,rfl,λ bd bm=>?_⟩⟩;obtain ⟨b,rfl⟩:∃ b:Nat,bd=(b:Int):=⟨bd.toNat,by lia⟩
  have a4:b=4 - n:=by lia
  refine ⟨c1,n,b,rfl,by lia,by lia,by lia,by lia,λ pr xs rs H2 s2 h2 d2 lr zK=>?_⟩;have S2:=s1.trans s2;refine ⟨_,rfl,_,rfl,G,N,2,rfl,S2.seq W,by decide,λ c2 Z=>⟨c2,rfl,λ Ca sc H3 CM I h3=>?_⟩⟩;have S3:=S2.trans I;have ad:=(s2.trans I) _ _ e1;refine ⟨_,rfl,_,rfl,_,_,rfl,rfl,⟨by decide,nJ⟩,λ y4 Z=>⟨_,_,rfl,rfl,by decide,λ fl Z Z Z=>?_⟩⟩;refine ⟨pr,xs,rs,Ca,sc,D,J,L,M,fl,rfl,aY.of (I _ _ h2),bE.same I _ d2,by lia,by lia,λ r l=>(zK r l).1,bP.of h3,CM,bP.of ad,by lia,by lia,by lia,λ a fp m H4 O hh F0 l0 bw aD lk=>?_⟩;have S4:=S3.trans O;have RJ:H4 D=some (.tup [.int J,.int L,.int M]):=O _ _ ad;have X:Ch m:=lk.Yl l0 (by lia) (by lia) (λ r l=>by have:=(zK r l).2;rw [a4,<- lr] at this;exact this) (by lia);refine ⟨_,rfl,3,rfl,4,rfl,G,_,rfl,S4.seq W,λ pq JF=>⟨pq,_,rfl,.inl (aY.of ag),λ n0 bn=>⟨_,_,rfl,rfl,λ n1 bp=>?_⟩⟩⟩;have R:=al (o:=.lst (zu (N.map V.int) (some 3) (some 4))) JF;have lc:=sH (N.map V.int) (some 3) (some 4);rw [CT] at lc;have QZ:=hh.same R;have S5:=S4.trans R;have ZS:aY K _ pr xs:=aY.of ((I.trans (O.trans R)) _ _ h2);have ab:=bE.same (I.trans (O.trans R)) _ d2;have Wx:bP K _ D [.int J,.int L,.int M]:=bP.of (R _ _ RJ);generalize upd H4 pq (.lst (zu (N.map V.int) (some 3) (some 4)))=H5 at R QZ S5 ZS ab Wx |-;clear s1 s2 I O R S2 S3 S4 h2 d2 h3 e1 ad RJ F0;have gm:JZ m:=OL QZ.wf QZ.mx QZ.sk aD;have c0:0<=m.eF:=by rw [lk.eF];lia
  have Dd:m.eF<=30:=by rw [lk.eF];lia
  refine ⟨n1,rfl,by lia,by lia,?_⟩;refine fT (lo:=0) (n:=n1.toNat) (λ i z B=>aE H5 B/\E6 λ v6 v7 v8 v9 p t=>z=[some (.ref G),some (.int fi),some (.int (n:Int)),some (.ref D),some (.ref pr),some (.ref a),v6,v7,v8,v9,p,t]) ⟨aE.refl _,none,none,none,none,none,none,rfl⟩ ?_ ?_
  .
   rintro Z i z H6 hi ⟨S,v6,v7,v8,v9,p,t,rfl⟩;have a0:=S5.trans S;refine ⟨_,rfl,_,rfl,_,rfl,_,rfl,_,_,rfl,rfl,λ r3 bt=>⟨G,N,r3,rfl,a0.seq W,by lia,λ c3 Z=>⟨_,rfl,?_⟩⟩⟩;refine ⟨pr,xs,rs,D,J,L,M,c3,_,rfl,S.seq ZS,bE.same S _ ab,by lia,by lia,λ r l=>(zK r l).1,S.tup Wx,by lia,by lia,by lia,by lia,λ q st H7 s7 f9 ar hp=>?_⟩;have so:eM m st:=ar.ok lk l0 hp;have XO:=S.trans s7;refine ⟨_,rfl,_,rfl,_,rfl,_,rfl,_,rfl,_,rfl,_,_,rfl,rfl,λ r4 bu=>⟨G,N,r4,rfl,(S5.trans XO).seq W,by lia,λ c4 Z=>⟨_,rfl,c4,_,3,rfl,by lia,by lia,by decide,by decide,λ H8 x s8 Z Z=>?_⟩⟩⟩;have Vj:=XO.trans s8;refine ⟨q,st,pr,xs,rs,D,J,L,M,x,m,rfl,f9.same s8,Vj.seq ZS,bE.same Vj _ ab,by lia,by lia,Vj.tup Wx,l0,lk,so,λ pg g H9 s9 hg a3 no=>?_⟩;have Y:=Vj.trans s9;refine ⟨a,fp,m,pg,g,rfl,QZ.same Y,hg,a3,no,λ GU xU=>⟨_,rfl,dE ?_⟩⟩;have WB:=Y.trans xU;have Jx:=f9.same (s8.trans (s9.trans xU));have PQ:=QZ.same WB;have a2:=WB.tup Wx;clear S s7 XO Vj s8 s9 xU Y hg f9;refine ⟨_,rfl,_,rfl,.inr ⟨a,fp,m,q,st,rfl,PQ,gm,.inl X.fin,X.res,Jx,so,c0,Dd,λ y vs Ce an Gi qz rk Z=>?_⟩⟩;refine ⟨Fo,λ pd LS=>?_⟩;refine ⟨_,rfl,D,_,_,_,rfl,rfl,.inr ((Gi.trans (al LS)).tup a2),rfl,_,_,rfl,rfl,λ n2 bs=>⟨n2,rfl,by lia,by lia,?_⟩⟩;have lc:=lk.eF;refine fT (lo:=0) (n:=n2.toNat) (λ j z B=>A3 (aE Ce B) (∃ (U:List (Option Nat)),A3 (B pd=some (.lst (U.map hX))) (U.length=j) (∀ i v,U[i]?=some v->ig m (st.at i) v)) (E2 λ p t=>z=[some (.ref G),some (.int fi),some (.int (n:Int)),some (.ref D),some (.ref pr),some (.ref a),some (.int (0+(i:Int))),some (.ref q),some (.ref y),some (.ref pd),p,t]))
     ⟨al LS,⟨[],ag,rfl,λ i v h=>by simp at h⟩,_,_,rfl⟩ ?_ ?_
   .
    rintro Z j z Om hj ⟨zG,⟨U,Rv,lu,l⟩,p,t,rfl⟩;have aG:=Gi.trans zG;obtain ⟨qb,qw,qf,yU,yX,wc,a7⟩:=Jx.same aG;refine ⟨_,rfl,_,rfl,q,_,4,rfl,yU,rfl,rfl,(by show 4<5;decide),λ t1 PP=>?_⟩;have I:=al (o:=.tup (List.take 4 [V.ref qb,ao st.bx,V.ref qw,V.ref qf,ao st.heap])) PP;have e3:(upd Om t1 (.tup (List.take 4 [V.ref qb,ao st.bx,V.ref qw,V.ref qf,ao st.heap]))) t1=some (.tup [.ref qb,ao st.bx,.ref qw,.ref qf]):=ag;generalize upd Om t1 (.tup (List.take 4 [V.ref qb,ao st.bx,V.ref qw,V.ref qf,ao st.heap]))=KW at I e3 |-;refine ⟨_,rfl,GW,λ t2 MM=>?_⟩;have O:=al (o:=.tup [.int (0+(j:Int))]) MM;have e4:(upd KW t2 (.tup [.int (0+(j:Int))])) t2=some (.tup [ao j]):=by rw [ag,aca];rfl
    generalize upd KW t2 (.tup [.int (0+(j:Int))])=U4 at O e4 |-;refine ⟨t1,t2,_,_,rfl,rfl,bP.of (O _ _ e3),bP.of e4,(by show 5<=sizeLine;decide),λ q2 VR R Gj=>?_⟩;have Rg:=(I.trans O).trans R;have RE:gS K VR q2 (st.at j):=⟨qb,qw,qf,Gj,Rg.tup yX,Rg.tup wc,Rg.tup a7⟩
    have ae:=zG.trans Rg;refine ⟨_,rfl,.inl ⟨rfl,_,aY.of (Rg _ _ Rv)⟩,_,rfl,_,rfl,GW,λ pl gT=>?_⟩;have sl:=al (o:=.lst [.ref q2]) gT;refine ⟨a,pl,2000,fp,m,[.ref q2],[st.at j],rfl,(PQ.same (Gi.trans ae)).same sl,gm,.inl X.fin,by decide,by decide,X.res,ag,.cons ⟨q2,rfl,RE.same sl⟩ .nil,λ s hs=>by rw [aac.mp hs];exact so.at (by lia),λ p2 IX bb s6 a5 a8 Z=>?_⟩;obtain ⟨v,ev,X5⟩:=a8 _ (aac.mpr rfl);have S:=sl.trans s6;refine ⟨_,rfl,p2,q2,IX,_,_,rfl,rfl,a5,jn (RE.same S),ev,pd,_,_,rfl,rfl,(Rg.trans S) _ _ Rv,aO (by rw [CT];lia),(ae.trans S).put LS,⟨U++[v],by rw [ag,aap];rfl,by rw [aae,lu];rfl,λ i' v' h'=>?_⟩,_,_,rfl⟩;by_cases c:i'<U.length
    . rw [aaG c] at h';exact l i' v' h'
    . rw [abW (by lia)] at h';have e0:i' - U.length=0:=by have:=(QQ.mp h').1;simp only [aa3] at this;lia
      rw [e0] at h';cases h';rw [show i'=j by lia];exact X5
   .
    rintro z Om ⟨zG,⟨U,Rv,lu,l⟩,p,t,rfl⟩;obtain rfl:U=vs:=sT.eq ⟨by lia,l⟩ rk;have kf:=zG _ _ qz;have lv:U.length<=31:=by lia
    refine ⟨_,rfl,_,_,_,_,_,rfl,.lst kf,rfl,rfl,_,rfl,dE ?_⟩;refine ⟨_,rfl,_,rfl,uk (n:=1) (wT (aY.of kf)) (wT (aY.of Rv)) Jo (by decide) ⟨_,rfl,dE ?_⟩⟩;refine ⟨_,rfl,y,U,rfl,aY.of kf,lv,rk.rise (Ro.refl aD X),_,rfl,dE ?_⟩;refine ⟨_,rfl,y,rfl,⟨_,aY.of kf⟩,λ D2 iw=>?_⟩;refine cG (K:=K) (a:=y) (xs:=U.map hX) (λ j C z B=>A4 (aE Om B) (B D2=some (.lst C)) (C=[]) (∃ v,z=[v]))
      ⟨al iw,ag,rfl,none,rfl⟩ (λ j C z B Z e=>aY.of (e.1 _ _ kf)) ?_ ?_
    . rintro j x C z B hx ⟨s9,Z1,rfl,v,rfl⟩;obtain ⟨u,Z,rfl⟩:=abm.mp (aal hx);exact ⟨_,rfl,u,rfl,_,rfl,dE ⟨s9,Z1,rfl,_,rfl⟩⟩
    .
     rintro C z KW ⟨W7,Z1,rfl,v9,rfl⟩;refine ⟨Fo,λ pe aj=>uk (n:=1) (d:=.list []) (vX (aY.of (al aj _ _ Z1)) ed) (vX (aY.of ag) ed) (show ∀ d∈([]:List PyData),Ht 0 d from nofun) (by decide) ⟨_,rfl,dE ?_⟩⟩;have Ob:aE Om (upd KW pe (.lst [])):=W7.trans (al aj);generalize upd KW pe (.lst [])=U4 at Ob |-;have RA:=Ob _ _ kf;refine ⟨_,rfl,.inl ⟨rfl,_,aY.of RA⟩,y,_,_,rfl,rfl,RA,aO (by rw [CT];lia),?_⟩;refine ⟨_,rfl,_,rfl,y,_,_,0,rfl,rfl,ag,jM (by rw [aae,aa3];lia),?_⟩;have OS:y≠pd:=(ay qz LS)
     have XB:=Ob _ _ Rv;have sP:∀ o,aE GU (upd (upd U4 y (.lst (U.map hX++[.int 7]))) y o):=λ o=>(((Gi.trans zG).trans Ob).put an).put an;have a6:∀ o,(upd (upd U4 y (.lst (U.map hX++[.int 7]))) y o) pd=some (.lst (U.map hX)):=λ o=>by rw [av OS.symm,av OS.symm];exact XB
     generalize hH:upd (upd U4 y (.lst (U.map hX++[.int 7]))) y _=VR;obtain ⟨sQ,a1⟩:aE GU VR/\VR pd=some (.lst (U.map hX)):=by rw [<- hH];exact ⟨sP _,a6 _⟩
     refine ⟨_,rfl,rfl,_,rfl,gi (λ Z=>?_) (λ Z=>dE ⟨WB.trans sQ,_,_,_,_,_,_,rfl⟩)⟩;refine ⟨_,rfl,_,rfl,.inr ⟨a,fp,m,q,st,rfl,PQ.same sQ,gm,.inl X.fin,X.res,Jx.same sQ,so,c0,Dd,λ bv a9 Wa Z NW JM X5 Z=>?_⟩⟩;obtain rfl:a9=U:=X5.eq rk;exact ⟨_,rfl,uk (n:=1) (wT (aY.of JM)) (wT (aY.of (NW _ _ a1))) Jo (by decide) ⟨_,rfl,dE ⟨WB.trans (sQ.trans NW),_,_,_,_,_,_,rfl⟩⟩⟩
  . rintro z H6 ⟨S,v6,v7,v8,v9,p,t,rfl⟩;exact k _
end
def walk {l:W.OpenLaw} {X:(cH)->aM->Prop} {Y:aU->aM->Prop} {d:DefRec} {K:Params->aA} (n:l.most=some 63) (t:d.params.defaults=[]) (g:d.name = "law")
   (H:∀ (w:aU) (h:aM),Y w h->(K w.params).In h)
   (F:∀ (w:aU) (m:cH) (h:aM),(K w.params).In h->h.Ns mainGlobals m->∃ A,Txt (K w.params) m A) :
   W.WalkO q L X Y l.row.toRowW d [] (λ f vs=>PySem.call f vs) :=
 L2.Kr (k:=16) (x:="_law_script") n t ⟨rfl,by decide,by decide⟩ H
   (λ w m o h c G R=>by
     obtain ⟨Z,T⟩:=F w m h c G;obtain ⟨f,i,j,a⟩:=id T.Sv;rw [g] at R;have e:=R.symm.trans j;cases e;exact ⟨i,a.N6 (λ Z Z Z Z Z Z Z=>rfl),λ b Z Z=>Qm a T⟩)
end K60
namespace PySem.W.Fast
abbrev q:=True
def tw6841212209512834822:=q
def tw5660517590215051237:=q
def tw1601616659887574643:=q
def tw12353861195802439314:=q
def tw1874542034386721272:=q
def tw8207654229532721424:=q
def tw12139558650986246728:=q
def tw5155176346658809597:=q
def tw18301586004891189408:=q
def tw9124886969464630565:=q
def tw11969282646483429169:=q
def tw291164986913603616:=q
def tw15405362407470447150:=q
def tw7859605867756037604:=q
def tw18204801694625105529:=q
def tw6496224372238315273:=q
def tw16859651127016689833:=q
def tw12259292179342061057:=q
def tw16205322245302656534:=q
def tw5734146976833015130:=q
def tw8591684945759082913:=q
def tw12414624844985994055:=q
def tw734475389212936418:=q
def tw2367104247374533106:=q
def tw1168076733986177323:=q
def tw18023396432795015047:=q
def tw2931607810443401430:=q
def tw18386989063619226333:=q
def tw7265951805611808532:=q
def tw12684860779400232170:=q
def tw9361573242007714986:=q
def tw8765364346309148599:=q
def tw13186845122910518795:=q
def tw12845629263316989280:=q
def tw3869050259941805887:=q
def tw2451200599179256116:=q
def tw13580289157036370662:=q
def tw6695368426913021170:=q
def tw17634735157776656907:=q
def tw11885119585053439929:=q
def tw6654785929110963516:=q
def tw286902693715201873:=q
def tw8706713182810410246:=q
def tw197114583245302947:=q
def tw2021224995910713081:=q
def tw12021935053105665424:=q
def tw11726753382539932703:=q
def tw568737188474793465:=q
def tw2999135286182194378:=q
def tw10472498711063313629:=q
def tw710639453255096551:=q
def tw254042213390737508:=q
def tw15774886166287316457:=q
def tw12337714610468258948:=q
def tw3263795976951995955:=q
def tw4773986201411110865:=q
def tw12471487782145378797:=q
def tw4980206338700744629:=q
def tw5183221838803524:=q
def tw15552903533992487615:=q
def tw4241423219134010441:=q
def tw14881931671093859849:=q
def tw9571884896779175697:=q
def tw12190512359214290073:=q
def tw1148065363581759455:=q
def tw2608226079715375151:=q
def tw9279296209343391497:=q
def tw4752167866332407756:=q
def tw16022899512016064623:=q
def tw9085201659632567858:=q
def tw12069860780915627795:=q
def tw5254327281738246592:=q
def tw2904613778571374087:=q
def tw10358631381475718478:=q
def tw13209033913182014054:=q
def tw933419714308717207:=q
def tw7250436532096347044:=q
def tw7953850443222612406:=q
def tw3938320309453540181:=q
def tw15885845900194554567:=q
def tw16468078414698078782:=q
def tw12565373716699350372:=q
def tw873957927581501402:=q
def tw6008432172418049767:=q
def tw7482427430024780494:=q
def tw12413383004289513520:=q
def tw13508643999399629240:=q
def tw8034779158359323330:=q
def tw9502406844847135922:=q
def tw15013619518830718139:=q
def tw11848927449959322550:=q
def tw3680106627842651127:=q
def tw8660186189321600488:=q
def tw9527159984659378086:=q
def tw6994604507907484496:=q
def tw4002417554852898428:=q
def tw3242831830656186708:=q
def tw18249157327117412965:=q
def tw3333704126269165318:=q
def tw12626896411063821980:=q
def tw108054147172539772:=q
def tw11131627090495677016:=q
def tw16231113676114611889:=q
def tw14152075762384791939:=q
def tw6900998152563228363:=q
def tw1767544964870375203:=q
def tw11976192273953866870:=q
def tw13594369549541047733:=q
def tw5937636545673397630:=q
def tw14620241681969701420:=q
def tw14558056521244351342:=q
def tw15605537227261660044:=q
def tw10754682765101180073:=q
def tw2408447064881858916:=q
def tw515781567706190766:=q
def tw10054937398148960935:=q
def tw6753013644432765533:=q
def tw10467704518378630923:=q
def tw11194991804716369063:=q
def tw18217471130107726120:=q
def tw14625068263220075612:=q
def tw2834706696654080054:=q
def tw56918453680223175:=q
def tw15809669365233130389:=q
def tw4703505846043697240:=q
def tw2706551127832112443:=q
def tw17390019152770188279:=q
def tw8158190854571549560:=q
def tw14945184645880562539:=q
def tw1077110408250703527:=q
def tw8020993054237073113:=q
def tw12590310379031965746:=q
def tw10106982820821120951:=q
def tw5560776089112065329:=q
def tw5762800226932222782:=q
def tw17179100179523631105:=q
def tw16116193773956763826:=q
def tw3260723956332375387:=q
def tw15547929846176318805:=q
def tw11349241760720954410:=q
def tw6317479516203882556:=q
def tw18378482486779533970:=q
def tw17934907505393058657:=q
def tw10359774420053335007:=q
def tw3208480209009823337:=q
def tw8105400069317741499:=q
def tw1821046803623738766:=q
def tw15701073498937879559:=q
def tw4189112256990342184:=q
def tw15144447418858848654:=q
def tw17541556193191823768:=q
def tw1737612255788915635:=q
def tw15232634708245595744:=q
def tw10241639224864807850:=q
def tw5027781158448496891:=q
def tw3206132863243597604:=q
def tw2185963311761168151:=q
def tw14805276413827525328:=q
def tw2721738577619448380:=q
def tw12964478005922509557:=q
def tw7882544298960727370:=q
def tw15486019456158542160:=q
def tw10158552209705031207:=q
def tw6272888200169979768:=q
def tw7859229845665916105:=q
def tw8834552356433294039:=q
def tw14425541187313929567:=q
def tw2909057104506259397:=q
def tw9285437545677320364:=q
def tw7840523769965757668:=q
def tw4229791871004805854:=q
def tw5072422773493839294:=q
def tw10520565728025048128:=q
def tw9027549847473662291:=q
def tw9245520775594689197:=q
def tw2180686934175852816:=q
def tw1927159103409146397:=q
def tw7458863072098910147:=q
def tw16768094155583107352:=q
def tw2503813703567138793:=q
def tw4036690451660128509:=q
def tw9624303406751433239:=q
def tw10547155840670819412:=q
def tw6829386231808160382:=q
def tw11997972113308328115:=q
def tw15343310163017390136:=q
def tw9083155965096716571:=q
def tw4099593231781394766:=q
def tw15907436974634987577:=q
def tw18136354623405268104:=q
def tw16020629186596970165:=q
def tw625779184781480893:=q
def tw6597185090912710861:=q
def tw2382810094294413031:=q
def tw10536453003710027160:=q
def tw13508530101751174706:=q
def tw11714117006307569455:=q
def tw18235959420617489399:=q
def tw15027118449820788255:=q
def tw12603213110920686945:=q
def tw142099347019491299:=q
def tw4592673972608811546:=q
def tw10570643026059231390:=q
def tw11000068886482134491:=q
def tw16760109851837490881:=q
def tw11847583817835073467:=q
def tw10910146206723874803:=q
def tw6638980497679868755:=q
def tw10848764674837549403:=q
def tw6005438236620277018:=q
def tw18061642941661079834:=q
def tw8432785587845089973:=q
def tw1756548498444669420:=q
def tw6780590063438349946:=q
def tw1639165928813135380:=q
def tw9804114824436595381:=q
def tw7662077887008310639:=q
def tw13009007833682858784:=q
def tw17610679638766109383:=q
def tw2500954219244065960:=q
def tw14487350159411828890:=q
def tw3036401429615921296:=q
def tw16572531313720887514:=q
def tw15765113277964164368:=q
def tw15529785557599556425:=q
def tw3451656721692256410:=q
def tw7927006093363541488:=q
def tw17084416815176323420:=q
def tw13162422046043600157:=q
def tw14004287936160024597:=q
def tw8149682448494872763:=q
def tw4985850883885851056:=q
def tw3365626800101235641:=q
def tw6293808934728604388:=q
def tw5262225502018198266:=q
def tw12187611742496659802:=q
def tw8658233001399871364:=q
def tw17887892783860006755:=q
def tw2809229308654552057:=q
def tw3617540135590092112:=q
def tw11072003917169881523:=q
def tw18328093836807364636:=q
def tw2608931232480998664:=q
def tw5417679405324802404:=q
def tw7667383674996797808:=q
def tw11161459573074241369:=q
def tw16190182280139954536:=q
def tw11780793407023610911:=q
def tw17592398613540651168:=q
def tw4651007682336061392:=q
def tw2046752274575716670:=q
def tw15124144482068398998:=q
def tw13324565130747998440:=q
def tw5453704981763496082:=q
def tw3479049513929391265:=q
def tw12484537444164740927:=q
def tw14649336726273678404:=q
def tw11168421115349450941:=q
def tw12714391725572710070:=q
def tw17244434098387018660:=q
def tw5216818031273333994:=q
def tw15787017342903316903:=q
def tw15163622406440398313:=q
def tw1494450033429446268:=q
def tw10182587635424576614:=q
def tw9359610375030487217:=q
def tw12392228392783815503:=q
def tw11958063532177506293:=q
def tw11537466062005693192:=q
def tw15160869001893434365:=q
def tw1481805049269113122:=q
def tw9454230636515817381:=q
def tw13758691074196730531:=q
def tw12638798015703931854:=q
def tw4577820985686331774:=q
def tw5443367363508089403:=q
def tw16287411356501518587:=q
def tw150406823332595760:=q
def tw8277837727211330569:=q
def tw11486208873567523113:=q
def tw10940409081375231429:=q
def tw1717930963100220497:=q
def tw12241048678089015597:=q
def tw14672395151357144624:=q
def tw16561380939928306142:=q
def tw18057520723241505433:=q
def tw12616157190013385065:=q
def tw9050929477408687910:=q
def tw8822594711644216632:=q
def tw6510530107833294432:=q
def tw5889191518423323738:=q
def tw5304760816717083521:=q
def tw2566638946585127461:=q
def tw2309897430296567898:=q
def tw18225918521452355223:=q
def tw16818213943709671146:=q
def tw16789645019989426401:=q
def tw16649568667518227792:=q
def tw13810770216837521929:=q
def tw12714414995145299001:=q
def tw11806540050693761839:=q
def tw9083244964281862035:=q
def tw6970820411924382346:=q
def tw6973583200832010117:=q
def tw10294929934468804164:=q
def tw16239295907831068639:=q
def tw366770976798869260:=q
def tw9423266421764574880:=q
def tw16980086950566200829:=q
def tw17611869614744457336:=q
def tw15177819632865012941:=q
def tw13871528722567701656:=q
def tw6115915283207232905:=q
def tw11013666868497852935:=q
def tw9715131077556282189:=q
def tw7957233582396418824:=q
def tw12761995926113702943:=q
def tw5786437243135979243:=q
def tw18435355043366126847:=q
def tw18248139834824568554:=q
def tw13055705236209464866:=q
def tw10210971666085314382:=q
def tw5898408151324450585:=q
def tw5676111140769204048:=q
def tw2512706298465052510:=q
def tw1083471400510413872:=q
def tw16958472957329887998:=q
def tw6853232104680655139:=q
def tw13951384845286090341:=q
def tw12031800315269619950:=q
def tw11709959620839866836:=q
def tw4646201949786603186:=q
def tw16289352585104247762:=q
def tw9143208902313556453:=q
def tw9718077713215793103:=q
def tw4183776015287082202:=q
def tw1138452930936440613:=q
def tw16492155032033705879:=q
def tw8245094823430324411:=q
def tw14163313236160353488:=q
def tw3616637487847548558:=q
def tw17600492390742600209:=q
def tw3794812238979161510:=q
def tw7757154266140320880:=q
def tw6289644132690851583:=q
def tw13881222733479121169:=q
def tw13364238351804546696:=q
def tw5969601705291292763:=q
def tw2710563755896379169:=q
def tw2404604896370035783:=q
def tw7389386311535075062:=q
def tw179090021491518317:=q
def tw11726111338203301011:=q
def tw8022187078889042729:=q
def tw766197216170934970:=q
def tw6411139637556497554:=q
def tw18250652190905550451:=q
def tw17969777484153106431:=q
def tw12024816744552988136:=q
def tw10142038893696922459:=q
def tw9296431031563982969:=q
def tw9178066348360593411:=q
def tw8452840739177650219:=q
def tw14686608269806882467:=q
def tw12800127501546835981:=q
def tw15974683001928814959:=q
def tw1091426035094013180:=q
def tw62240882295411127:=q
def tw2179218255424168615:=q
def tw14243735518875644498:=q
def tw1232671459227451502:=q
def tw11933047568386391652:=q
def tw4685899664529789973:=q
def tw9200056889356143642:=q
def tw2762588604693642089:=q
def tw2085256742507435638:=q
def tw882769434133483735:=q
def tw12130940281089510272:=q
def tw11075990105476427152:=q
def tw11514604833621337102:=q
def tw7795780891588226553:=q
def tw15461589930842694035:=q
def tw4781747535422556352:=q
def tw14342662345577410713:=q
def tw11447047204047152231:=q
def tw8670099631683592105:=q
def tw6528637394714030195:=q
def tw11983227556137057613:=q
def tw9084823946691329807:=q
def tw12513886975935753349:=q
def tw1879406556943383950:=q
def tw4541364602111755071:=q
def tw15543486998477434290:=q
def tw9631344904984306546:=q
def tw7014132331636531071:=q
def tw4103021843365353381:=q
def tw15929169911609690484:=q
def tw10912831817151807922:=q
def tw7553727473057755512:=q
def tw5627422398129621288:=q
def tw5512274020408547089:=q
def tw17890551237300722877:=q
def tw8678199017106076080:=q
def tw8352043625484292135:=q
def tw3304414475676515581:=q
def tw14587687611130640145:=q
def tw776597768979030224:=q
def tw6468872389819653520:=q
def tw8966890115064017971:=q
def tw10800674150050229192:=q
def tw3452608000734807702:=q
def tw898554149785275834:=q
def tw3754319739653812051:=q
def tw12104472792124537497:=q
def tw11028494109331800287:=q
def tw6012983505948549618:=q
def tw4971119556434487745:=q
def tw16739226917782575663:=q
def tw10161763155070796552:=q
def tw10068320649157043916:=q
def tw3196634273374106444:=q
def tw10704023017346717431:=q
def tw12146530912769313581:=q
def tw11836906988942033832:=q
def tw1128216964162684355:=q
def tw16862511496931724895:=q
def tw14514979360019083568:=q
def tw7443868638201451198:=q
def tw4456699847838438278:=q
def tw1035852762974243719:=q
def tw18127259572926053996:=q
def tw12351408533469336291:=q
def tw14700128193050066849:=q
def tw959266526630044283:=q
def tw9507717852048514168:=q
def tw18039478431948933392:=q
def tw1565802716542153942:=q
def tw3192683815689331637:=q
def tw18379372877717602523:=q
def tw17807707408843218865:=q
def tw839929831116943075:=q
def tw7136733219070850718:=q
def tw5945339308614595537:=q
def tw17173976324888182737:=q
def tw12970829459373342371:=q
def tw10218730933862014450:=q
def tw5914976694053472772:=q
def tw18171109352363878426:=q
def tw11271586914026881104:=q
def tw7771356842319325907:=q
def tw5990765701389544678:=q
def tw15657026471103010561:=q
def tw14837158224719697459:=q
def tw8346691750252123268:=q
def tw4983408387425048039:=q
def tw4644327268716634275:=q
def tw14534083473323909981:=q
def tw9061452876236850951:=q
def tw1228922227639842131:=q
def tw15792639188542927961:=q
def tw1494920968450452841:=q
def tw13333659157146125873:=q
def tw4332906442357289983:=q
def tw2813049113523266788:=q
def tw4321413230139857894:=q
def tw2412454375017096823:=q
def tw8011789624889251026:=q
def tw10998622155900772184:=q
def tw7416437777614885416:=q
def tw12791766310682356661:=q
def tw558163961564860398:=q
def tw13694234878504975433:=q
def tw9913572855957110228:=q
def tw8069277830666656906:=q
def tw5547606997012427137:=q
def tw8771834068749457530:=q
def tw6365252582396411645:=q
def tw54894143734970189:=q
def tw764812660731529989:=q
def tw13641011600620903578:=q
def tw10613876253774766017:=q
def tw1949431166629362244:=q
def tw17089661425563363375:=q
def tw1694574936250171271:=q
def tw14264415652808672307:=q
def tw12233612652792465021:=q
def tw3601807992014583984:=q
def tw3185665281462897479:=q
def tw15624776679545922597:=q
def tw8843843270183460170:=q
def tw15311371032621170778:=q
def tw14802204441041843437:=q
def tw10418305614699919491:=q
def tw703071972692334854:=q
def tw12297737506857209601:=q
def tw11559933037358644888:=q
def tw12135233687781341402:=q
def tw8006604130440885018:=q
def tw4190546145394828232:=q
def tw9664759196029275470:=q
def tw5966500626643710787:=q
def tw13948484073529941972:=q
def tw13496809036578378556:=q
def tw16941738538958403170:=q
def tw6003209901375838404:=q
def tw14890089997136485162:=q
def tw2233363748575942764:=q
def tw3778816935530505157:=q
def tw1021279868395665454:=q
def tw6268989252572487964:=q
def tw1859916849454104567:=q
def tw17402825241700399477:=q
def tw16360715599833447703:=q
def tw16064914282719221215:=q
def tw9704763743613976726:=q
def tw8751810676419398099:=q
def tw7762927994568865860:=q
def tw7185529505570724281:=q
def tw4111278840914882079:=q
def tw18181242781290536728:=q
def tw14485593940516382222:=q
def tw14355099555360262704:=q
def tw14354043076576325893:=q
def tw11997561491232635922:=q
def tw11843781429773829410:=q
def tw10251809410171990969:=q
def tw9654578751291258530:=q
def tw9871026085085340469:=q
def tw1968918208574707157:=q
def tw12537555280500617033:=q
def tw5329578317419468381:=q
def tw498282499506505458:=q
def tw4214457319238733179:=q
def tw16254897793853505395:=q
def tw14184318237995642647:=q
def tw990723310864034748:=q
def tw9875187926602300840:=q
def tw9614736394729923440:=q
def tw9545349971276276803:=q
def tw8889296993820099202:=q
def tw7629595603310120894:=q
def tw6893779208612770090:=q
def tw17081808614882103481:=q
def tw15450443826278796350:=q
def tw15171707534191075459:=q
def tw13481603688840343166:=q
def tw13189492796927814104:=q
def tw12760590934943215823:=q
def tw12658814009831527887:=q
def tw12464334547319297282:=q
def tw11632393673331455041:=q
def tw10712464057972495805:=q
def tw8961287741670841934:=q
def tw7196870300309523528:=q
def tw2989350334626483685:=q
def tw6591542950999923887:=q
def tw4263079674745299311:=q
def tw8422846023028280217:=q
def tw16064402508211168432:=q
def tw1192229769242801424:=q
def tw3780417602311705274:=q
def tw18221882862809800443:=q
def tw516125344008238507:=q
def tw956104138467464565:=q
def tw8588755250272226314:=q
def tw8500092198670664420:=q
def tw8421522844103826148:=q
def tw6945000375355460869:=q
def tw6890873421758922862:=q
def tw611220832362167024:=q
def tw5905939655429838377:=q
def tw5896291529050826417:=q
def tw5597640467344901854:=q
def tw5431432621413242901:=q
def tw16686362652415867336:=q
def tw16247740481004298173:=q
def tw14430602114982141792:=q
def tw143595476347642672:=q
def tw13916179455666676577:=q
def tw13607144674630581893:=q
def tw13559378350372625568:=q
def tw1302208121360408142:=q
def tw13010300182892544854:=q
def tw12428635168521385250:=q
def tw12107225959984568003:=q
def tw10975073252932231213:=q
def tw1045251777342781003:=q
def tw8890574094419852593:=q
def tw7942847205683966819:=q
def tw7437250066810013259:=q
def tw6979944403627920049:=q
def tw6916473369030274325:=q
def tw5588191572307655577:=q
def tw5545119843831811403:=q
def tw5178336937075696386:=q
def tw3786799057127901797:=q
def tw3659097907103653283:=q
def tw2091458968686865812:=q
def tw18374332131397484138:=q
def tw18261205768108659526:=q
def tw16922335253754898399:=q
def tw16186796517159438263:=q
def tw15789572429844360608:=q
def tw15444590687820279241:=q
def tw14798950736147345825:=q
def tw14343563350139844658:=q
def tw13607966302099153709:=q
def tw13312592763689535179:=q
def tw12141957003801667547:=q
def tw11314024185803812543:=q
def tw18039988157168466896:=q
def tw16112972467000584460:=q
def tw13727137337472486654:=q
def tw17254051845685919745:=q
def tw11086038239199920698:=q
def tw1540777040997577262:=q
def tw12942910105671942571:=q
def tw4248309213280002679:=q
def tw7654094775577331399:=q
def tw7648399589951942750:=q
def tw762111458539971359:=q
def tw526365243057445616:=q
def tw5105264838890053336:=q
def tw4960843276326634544:=q
def tw4675483706714869440:=q
def tw18059504065957352444:=q
def tw17228535361617431038:=q
def tw16434040073861308065:=q
def tw15843655432625964039:=q
def tw15599689768006459093:=q
def tw15400931986532233185:=q
def tw15201898320098038831:=q
def tw14991116112876358239:=q
def tw14608304124059148362:=q
def tw12998037174515211609:=q
def tw101045329898658869:=q
def tw9777565496677584821:=q
def tw9220985802618857574:=q
def tw9208640054829948416:=q
def tw8305236406252740381:=q
def tw8130757097183235099:=q
def tw8000234609041059722:=q
def tw7998013539353231277:=q
def tw6886843615022964474:=q
def tw5722825310495630416:=q
def tw5175051159769280097:=q
def tw2289417818245000203:=q
def tw2196452109371817988:=q
def tw2193826580604476592:=q
def tw1849035884944235099:=q
def tw16385763259091571267:=q
def tw16372517721123626906:=q
def tw13992865105718648757:=q
def tw1333598798534830458:=q
def tw12034251093183930576:=q
def tw1194270111949633709:=q
def tw112561139922107870:=q
def tw10627975413068361329:=q
def tw10214257337548835090:=q
def tw9904015843315537674:=q
def tw9793545641678813593:=q
def tw9777076184657496174:=q
def tw9428450758892362850:=q
def tw9401970685509721398:=q
def tw9379775160658933699:=q
def tw9340776862199080051:=q
def tw9327216355952657820:=q
def tw9295896079396362435:=q
def tw9278630467259719370:=q
def tw9228880483105998495:=q
def tw9115607186786530234:=q
def tw8954584369115230658:=q
def tw8916638683952004310:=q
def tw889108446601944919:=q
def tw8888398186014626592:=q
def tw8796308342081726437:=q
def tw8770784335252088117:=q
def tw8760256514632015301:=q
def tw8473274188688479308:=q
def tw8457475083567348307:=q
def tw8399180232288221632:=q
def tw8347884818720101308:=q
def tw8236509778550472962:=q
def tw8158214228826358832:=q
def tw8111466007926540820:=q
def tw79602069717611534:=q
def tw7847443857049361824:=q
def tw7832666104747503293:=q
def tw7769741527295861095:=q
def tw770955704144516102:=q
def tw7708739443567864872:=q
def tw7564903436672899618:=q
def tw7494995163676021566:=q
def tw7402945819586097232:=q
def tw7131818317984338260:=q
def tw7086608995852685465:=q
def tw7085553598049408830:=q
def tw6953340484450595893:=q
def tw6950656496274114496:=q
def tw6938787126222158501:=q
def tw6880916013653231836:=q
def tw6643836619224343011:=q
def tw648429018097654934:=q
def tw6408289299036945997:=q
def tw6327899650398819109:=q
def tw6294583019649242918:=q
def tw6206489025796474052:=q
def tw6124216901852305262:=q
def tw6117369680995718038:=q
def tw6078012081576293324:=q
def tw6072267821295052033:=q
def tw5945514847214077067:=q
def tw591955863410133519:=q
def tw5817765491032532559:=q
def tw5786757051719525655:=q
def tw5731425762678659079:=q
def tw5694182999391879421:=q
def tw5565577704535534049:=q
def tw5311637767973518441:=q
def tw5302559632983334343:=q
def tw5302388562718577733:=q
def tw5252433514320628007:=q
def tw5163515820949226614:=q
def tw4995794339002924504:=q
def tw4993483387379004328:=q
def tw4979015919084178585:=q
def tw4959000119887559269:=q
def tw4869923336760690887:=q
def tw4836214629902950012:=q
def tw4725953387942063042:=q
def tw4627942008499616786:=q
def tw4446447847323132916:=q
def tw4430981481751388526:=q
def tw4397888738060654418:=q
def tw4355371176533257008:=q
def tw4253696306547304109:=q
def tw4095937309090301392:=q
def tw3922351429968658776:=q
def tw381208416801265129:=q
def tw3720248205121787234:=q
def tw3663653182149897830:=q
def tw3574052379484495986:=q
def tw3505427691450445998:=q
def tw3404782106635232678:=q
end PySem.W.Fast
open PySem PySem.W PyProof.Rows
set_option maxRecDepth 100000 in
set_option maxHeartbeats 0 in
theorem PySem.Challenge.cw_stoke_k60_lasts_by_heap_holds : PySem.Challenge.rw_stoke_k60_lasts_by_heap.Holds := by
 w_on; o_law; k_head; (case hw => w_witness2)
 k_fill
 refine K60.walk (l:=PySem.Challenge.rw_stoke_k60_lasts_by_heap) rfl rfl rfl (fun w h Y => PySem.W.kIn_of Y) ?F
 case F =>
   intro w mg h KX G
   refine' ⟨_,K60.txt_mk KX G ..⟩
   iterate 2 (all_goals try first | exact ⟨_,_,_,_,_,_,_,_,_,_,by k_is,by k_is,by k_is,by k_is,by k_is⟩ | exact ⟨_,_,_,_,_,_,_,_,_,_,by k_is,by k_is,by k_is,by k_is⟩ | ((try delta K60.kq_); (try delta K60.kc_); (try delta K60.kf_); (try delta K60.kn_); (try delta K60.kg_); first | k_is | k_exc | kernel_rfl | kit_is | kts_exm))
