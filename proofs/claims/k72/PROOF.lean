import PyProof.Rows.All
import Wide.All
import OpenK.AllK
import Wide.FinOn
import Lean
import PyProof.EqAt
import PyProof.EqKinds
import PyProof.TupleCall
import PySem.Challenge.RW_stoke_k72_whole_rank_by_parts
set_option compiler.extract_closed false
set_option Elab.async false
set_option linter.all false
set_option maxRecDepth 100000
noncomputable section
abbrev eV:=PySem.Str->Option PySem.Value
abbrev kY:=Option PySem.Value
abbrev bB:=List PySem.Value
abbrev bp:=List PySem.Addr
abbrev d9:=List PySem.Str
abbrev aH:=List Nat
abbrev ay:=PySem.Value
abbrev ak:=PySem.Addr
abbrev aF:=PySem.W.Frag
abbrev bx:=PySem.Heap
abbrev bq:=PySem.Program
abbrev bi:=PySem.World
def Ea:=@List.length_map
def SV:=@List.getElem?_eq_some_iff
def UY:=@List.getElem?_eq_getElem
def YQ:=@List.getD_eq_getElem?_getD
def aac:=@List.mem_singleton
def aae:=@List.mem_of_getElem?
def aah:=@List.getElem?_map
def aaj:=@List.not_mem_nil
def aam:=@PySem.wpAny_bind
def aas:=@List.length_append
def aau:=@List.map_append
def aay:=@List.mem_cons
def aaA:=@List.length_range
def aaB:=@List.mem_cons_of_mem
def aaE:=@Nat.le_refl
def aaF:=@PySem.Heap.get?_push_of_some
def aaH:=@List.getElem_mem
def aaK:=@List.mem_range
def aaO:=@List.getElem?_append_left
def aaR:=@decide_eq_false
def aaS:=@decide_eq_true
def aaU:=@List.mem_append
def aaW:=@PySem.wpAny_pure
def aaX:=@Nat.le_trans
def aaZ:=@List.mem_cons_self
def aa3:=@Bool.false_ne_true
def aa4:=@List.take_length
def aa6:=@Nat.lt_of_lt_of_le
def aa7:=@PySem.PassesOwn.never
def aba:=@PySem.Heap.lt_size
def abb:=@Option.some.inj
def abe:=@Nat.lt_of_le_of_lt
def abh:=@List.length_singleton
def abp:=@if_pos
def abv:=@List.mem_map
def aby:=@List.length_take
def abC:=@if_neg
def abE:=@PySem.F.plainAttrs_list
def abF:=@PySem.F.type_list_append
def abG:=@PySem.F.slot_list_append
def abK:=@List.size_toArray
def abL:=@Int.zero_add
def abM:=@List.getElem?_append_right
def abN:=@Nat.ne_of_lt
def abS:=@Nat.testBit_and
def abT:=@List.mem_filter
def abW:=@PySem.Heap.get?_push_size
def abX:=@Bool.and_eq_true
def ab0:=@List.length_filter_le
def ab2:=@Nat.zero_le
def ab3:=@List.nodup_cons
def ab6:=@List.range_succ
def ab7:=@Nat.eq_of_testBit_eq
def ab8:=@List.map_cons
def acd:=@or_false
def ace:=@List.getElem?_eq_none
def acf:=@List.eq_nil_of_length_eq_zero
def acj:=@List.all_eq_true
def ack:=@List.getElem?_concat_length
def acl:=@Nat.not_lt_zero
def acp:=@List.mem_append_right
def acs:=@List.find?_cons
def acy:=@Nat.pow_le_pow_right
def acG:=@decide_eq_true_eq
def acH:=@PyProof.Rows.callWith_type1
def acI:=@List.take_succ
def acJ:=@congrArg
def acM:=@Int.toNat_natCast
def acP:=@List.mem_iff_getElem
def acR:=@List.mem_append_left
def acV:=@Int.le_trans
def acY:=@Option.map_eq_some_iff
def ac1:=@List.take_of_length_le
def ac4:=@Int.natCast_nonneg
def ac5:=@List.map_map
def ac7:=@List.append_nil
def ac8:=@List.length_cons
def adc:=@Bool.true_and
def ade:=@PySem.W.mg_none_of
def adf:=@Int.mul_pos
def adg:=@List.filter_append
def adj:=@Classical.byContradiction
def adl:=@List.foldl_append
def adm:=@PySem.wpAny_truthy_bool
def ado:=@List.length_set
def adq:=@List.cons.inj
def adr:=@Int.le_refl
def adt:=@List.getElem?_set_ne
def ady:=@Int.le_of_lt
def adB:=@Nat.lt_irrefl
def adC:=@Bool.eq_iff_iff
def adE:=@PySem.wpAny_mono
def adF:=@List.any_eq_true
def adG:=@List.take_add_one
def adL:=@List.nodup_append
def adO:=@PySem.mem_of_lookup
def adP:=@PySem.wpAny_holding
def adS:=@List.mem_flatMap
def adV:=@List.mem_filterMap
def adY:=@List.mem_or_eq_of_mem_set
def ad2:=@Int.mul_nonneg
def ad4:=@Nat.mul_le_mul_right
def ad5:=@Bool.and_eq_true_iff
def ad6:=@PySem.wpAny_Call_Name_kw
def ad7:=@not_or
def ad8:=@List.Nodup.length_le_of_subset
def ad9:=@List.pairwise_singleton
def aea:=@List.length_eq_zero_iff
def aeb:=@List.countP_eq_zero
def aec:=@Nat.succ_le_succ
def aed:=@Nat.le_add_right
def aee:=@List.lookup_cons
def aef:=@PySem.Paired.length
def aeg:=@Ne.symm
def aeh:=@Nat.ne_of_gt
def aei:=@Nat.le_succ
def aej:=@List.mem_iff_getElem?
def aek:=@List.length_replicate
def ael:=@PySem.wpAny_seqItems
def aem:=@Int.eq_of_mul_eq_mul_right
def aen:=@List.replicate_succ'
def aeo:=@PySem.wpAny_passesOwn
def aeq:=@PySem.wpAny_field
def aer:=@PySem.Heap.get?_update_self
def aes:=@Bool.and_false
def aet:=@Nat.le_of_not_lt
def aeu:=@PySem.wpAny_pyIter_enum
def aev:=@Int.toNat_of_nonneg
def aew:=@Option.isSome_iff_exists
def aex:=@Int.mul_fdiv_cancel_left
def aey:=@PySem.F.slot_tuple_iterator_next
def aez:=@PySem.W.mg_of
def aeA:=@List.pairwise_cons
def aeB:=@List.getElem?_replicate
def aeC:=@List.filter_cons_of_neg
def aeD:=@List.any_cons
def aeE:=@Int.eq_ofNat_of_zero_le
def aeF:=@PySem.PyData.tuple.inj
def aeG:=@PySem.F.plain_min_loop
def aeH:=@of_decide_eq_true
def aeI:=@Nat.lt_succ_of_lt
def aeJ:=@List.nodup_nil
def aeK:=@Bool.false_and
def aeL:=@PySem.wpAny_callSpecial?_slot
def aeM:=@PySem.W.kia_one
def aeN:=@Nat.le_of_lt
def aeO:=@Int.ne_of_gt
def aeP:=@Nat.zero_testBit
def aeQ:=@List.nodup_range
def aeR:=@List.mem_flatten
def aeS:=@List.ext_getElem
def aeT:=@PySem.intBits_le_iff
def aeU:=@Int.le_of_lt_add_one
def aeV:=@PySem.Heap.get?_update_other
def aeW:=@beq_eq_false_iff_ne
def aeX:=@Option.toList_some
def aeY:=@List.getElem_range
def aeZ:=@PySem.plainId_quiet
def ae0:=@Nat.lt_pow_two_of_testBit
def ae1:=@List.getElem?_zip_eq_some
def ae2:=@Int.natAbs_mul
def ae3:=@PySem.F.args_tuple_add_2
def ae4:=@PySem.Paired.snoc
def ae5:=@Nat.lt_succ_of_le
def ae6:=@List.pairwise_map
def ae7:=@List.append_assoc
def ae8:=@PySem.F.entry_tuple_add
def afa:=@Bool.and_true
def afb:=@decide_eq_decide
def afc:=@Nat.succ_ne_self
def afd:=@Nat.lt_succ_self
def afe:=@Nat.and_le_right
def aff:=@List.getElem_map
def afg:=@List.filter_cons
def afh:=@PySem.Calls.spliced_cons
def afi:=@PySem.F.slot_tuple_add
def afj:=@PySem.PyData.int.inj
def afk:=@PySem.Heap.size_push
def afl:=@PySem.wpAny_newObj_type
def afm:=@PySem.wpAny_dictEntries
def afn:=@PySem.F.slot_dict_get
def afo:=@Nat.lt_trans
def afp:=@Nat.add_comm
def afq:=@PySem.AutoSeq1.wpAny_loadPart'
def afr:=@Rat.mul_lt_mul_right
def afs:=@List.pairwise_append
def aft:=@PySem.wpAny_call_entry
def afu:=@Int.mul_le_mul
def afv:=@Bool.not_false
def afw:=@List.getElem_of_mem
def afx:=@List.getElem?_range
def afy:=@List.filterMap_cons
def afz:=@PySem.Calls.callWith_builtin
def afA:=@Array.length_toList
def afB:=@PySem.wpAny_specialOf
def afC:=@PySem.wpAny_execs_nil
def afD:=@PySem.codeAny_builtin
def afE:=@Int.ofNat.inj
def afF:=@Int.mul_right_comm
def afG:=@Int.emod_lt_of_pos
def afH:=@PySem.F.slot_zip_next
def afI:=@Bool.not_true
def afJ:=@Bool.false_eq_true
def afK:=@Array.forIn_toList
def afL:=@PySem.numAt_eq
def afM:=@beq_iff_eq
def afN:=@Option.isSome_map
def afO:=@List.any_eq_false
def afP:=@PySem.Heap.get?_none_of_le
def afQ:=@PySem.Around.under_plainId
def afR:=@PySem.wpAny_tryCatch
def afS:=@Rat.mul_le_mul_of_nonneg_right
def afT:=@Rat.le_of_lt
def afU:=@Nat.sub_self
def afV:=@Nat.pow_succ
def afW:=@List.map_set
def afX:=@Int.mul_comm
def afY:=@Rat.mul_le_mul_of_nonneg_left
def afZ:=@List.length_tail
def af0:=@List.getElem_inj
def af1:=@List.cons_append
def af2:=@PySem.Heap.SameBut.update
def af3:=@Bool.not_eq_true
def af4:=@if_false
def af5:=@PySem.wpAny_standAt
def af6:=@if_true
def af7:=@Option.map_some
def af8:=@Nat.two_pow_add_eq_or_of_lt
def af9:=@List.of_mem_zip
def aga:=@List.length_nil
def agb:=@List.forIn_cons
def agc:=@Int.emod_nonneg
def agd:=@Int.fdiv_eq_ediv_of_nonneg
def age:=@PySem.wpAny_pyIter_list
def agf:=@Nat.testBit_or
def agg:=@List.pairwise_iff_getElem
def agh:=@List.mem_of_find?_eq_some
def agi:=@PySem.Calls.spliced_nil
def agj:=@PySem.codeAny_mono
def agk:=@PySem.F.type_list_extend
def agl:=@PySem.F.slot_list_extend
def agm:=@List.length_filterMap_le
def agn:=@List.getElem?_take_of_lt
def ago:=@List.Pairwise.imp_of_mem
def agp:=@PySem.wpAny_pyIter_zip
def agq:=@PySem.wpAny_isInstance
def agr:=@PySem.noFill_tuple_add
def ags:=@decide_eq_false_iff_not
def agt:=@PySem.F.args_dict_get_3
def agu:=@Nat.add_sub_cancel_left
def agv:=@List.sum_cons
def agw:=@List.filter_cons_of_pos
def agx:=@PySem.F.entry_dict_get
def agy:=@Nat.testBit_lt_two_pow
def agz:=@List.pairwise_lt_range
def agA:=@List.getElem?_set_self
def agB:=@List.flatMap_singleton
def agC:=@List.filter_eq_nil_iff
def agD:=@PySem.F.args_tuple_iterator_next_1
def agE:=@PySem.wpAny_updateSeq
def agF:=@PySem.wpAny_letGo
def agG:=@Rat.le_total
def agH:=@Nat.succ_pos
def agI:=@Nat.succ.inj
def agJ:=@Nat.add_zero
def agK:=@List.filterMap_append
def agL:=@Int.ofNat_lt
def agM:=@Int.ofNat_le
def agN:=@Int.natAbs_dvd_natAbs
def agO:=@PySem.F.entry_tuple_iterator_next
def agP:=@PySem.wpAny_letOwnedTupleGo_enum
def agQ:=@List.mem_of_mem_take
def agR:=@List.length_take_le'
def agT:=@PySem.Calls.Name_function_global
def agU:=@Nat.testBit_two_pow
def agV:=@Nat.mul_one
def agW:=@List.map_congr_left
def agX:=@List.length_zipWith
def agY:=@List.flatMap_append
def agZ:=@PySem.wpAny_rule
def ag0:=@true_and
def ag1:=@of_decide_eq_false
def ag2:=@Nat.add_sub_cancel
def ag3:=@List.map_singleton
def ag4:=@List.getElem?_tail
def ag5:=@Int.lt_of_le_of_lt
def ag6:=@List.getElem?_eq_some_iff
theorem za_ (h:True:=by rfl):True:=⟨⟩
theorem zb_ (h:True:=by decide):True:=⟨⟩
theorem zc_ (h:True:=by decide +kernel):True:=⟨⟩
theorem zd_ (h:True:=by first|exact .inl rfl|exact .inr rfl|assumption):True:=⟨⟩
theorem ze_ (h:True:=by with_unfolding_all rfl):True:=⟨⟩
namespace L2
open PySem PySem.Spec PyProof.Rows
variable {H:Hp} {Q:VK} {es:List Expr} {g:TG} {o u:HO} {pos':Pos} {qual:Str} {s':Shared} {t':Nat} {tb:TS} {te ti to:TE} {tg:Expr} {U:St}
abbrev Key:=Sum Int Str
noncomputable def ye:Key->ay->Bool
 | .inl k,v=>Value.isInt k v
 | .inr x,v=>Value.isStrOf x v
noncomputable def ZG (w:bi):Key->Int
 | .inl k=>hashInt k
 | .inr x=>hashStr w x
theorem eF:∀ {k:Key} {v:ay},ye k v=true->(∃ i t,k=Sum.inl i/\v=Value.int i t)\/(∃ x t,k=Sum.inr x/\v=Value.str x t)
 | .inl i,v,h=>by
   obtain ⟨t,e⟩:=Value.isInt_shape h;exact .inl ⟨i,t,rfl,e⟩
 | .inr x,v,h=>by
   obtain ⟨t,e⟩:=Value.isStrOf_shape h;exact .inr ⟨x,t,rfl,e⟩
theorem Gq (i:Int) (t:Tok):ye (.inl i) (.int i t)=true:=by simp [ye,Value.isInt]
theorem G1 (x:Str) (t:Tok):ye (.inr x) (.str x t)=true:=by simp [ye,Value.isStrOf]
theorem QB (a b:Int):decide ((Sum.inl a:Key)=Sum.inl b)=(a == b):=by
 lia
theorem PL (a b:Str):decide ((Sum.inr a:Key)=Sum.inr b)=decide (a=b):=by
 lia
theorem OY (a:Int) (b:Str):decide ((Sum.inl a:Key)=Sum.inr b)=false:=aaR (λ q=>nomatch q)
theorem QU (a:Str) (b:Int):decide ((Sum.inr a:Key)=Sum.inl b)=false:=aaR (λ q=>nomatch q)
def dA (prog:bq) (w:bi):PySem.KeyKind prog w Key where
 is:=ye
 hash:=ZG w
 inj:=λ v a b d c=>by
   rcases eF d with ⟨i,t,rfl,rfl⟩|⟨x,t,rfl,rfl⟩
   . rcases eF c with ⟨j,u,rfl,e⟩|⟨y,u,rfl,e⟩
     . injection e with e1 _;rw [e1]
     . exact nomatch e
   . rcases eF c with ⟨j,u,rfl,e⟩|⟨y,u,rfl,e⟩
     . exact nomatch e
     . injection e with e1 _;rw [e1]
 byValue:=λ k v h=>by
   rcases eF h with ⟨i,t,rfl,rfl⟩|⟨x,t,rfl,rfl⟩<;>rfl
 pyHash:=λ H h=>by
   rcases eF H with ⟨i,t,rfl,rfl⟩|⟨x,t,rfl,rfl⟩
   . exact wpAny_pyHash_int h
   . exact wpAny_pyHash_str h
 eqBool:=λ f H h=>by
   rcases eF f with ⟨i,t,rfl,rfl⟩|⟨x,t,rfl,rfl⟩
   . rcases eF H with ⟨j,u,rfl,rfl⟩|⟨y,u,rfl,rfl⟩
     . rw [QB] at h;exact wpAny_eqBool_int h
     . rw [OY] at h;exact SeqAt.EqAt.int_str i t y u _ _ _ _ h
   . rcases eF H with ⟨j,u,rfl,rfl⟩|⟨y,u,rfl,rfl⟩
     . rw [QU] at h;exact SeqAt.EqAt.str_int x t j u _ _ _ _ h
     . rw [PL] at h;exact wpAny_eqBool_str h
 «strs»:=λ k x t v h=>by
   rcases eF h with ⟨i,u,rfl,e⟩|⟨y,u,rfl,e⟩
   . exact nomatch e
   . injection e with e1 _;subst e1;cases v<;>rfl
theorem Bc (prog:bq) (w:bi) (i:Int) (t:Tok):(dA prog w).is (.inl i) (.int i t)=true:=Gq i t
theorem Cs (prog:bq) (w:bi) (x:Str) (t:Tok):(dA prog w).is (.inr x) (.str x t)=true:=G1 x t
inductive V where
 | cN|bl (b:Bool)|int (i:Int)|str (x:Str)|Gm (b:Array UInt8)|NU (b:UInt64)|ref (a:ak)|ty (n:String)
 deriving DecidableEq
abbrev aB:=List V
abbrev eU:=Option V
def RelV:V->ay->Prop
 | .cN,u=>u=Value.none
 | .bl b,u=>u=Value.bool b
 | .int i,u=>∃ t,u=Value.int i t
 | .str x,u=>∃ t,u=Value.str x t
 | .Gm b,u=>∃ t,u=Value.bytes b t
 | .NU b,u=>∃ t,u=Value.float b t
 | .ref a,u=>u=Value.ref a
 | .ty n,u=>u=Value.type n
abbrev Vals:aB->bB->Prop:=Paired RelV
theorem Vals.length {xs:aB} {u:bB} (r:Vals xs u):xs.length=u.length:=aef r
theorem Vals.get:∀ {xs:aB} {U:bB} {i:Nat} {x:V},Vals xs U->xs[i]?=some x->∃ u,U[i]?=some u/\RelV x u
 | _,_,_,_,.nil,e=>by simp at e
 | _,_,0,_,.cons r _,e=>by simp at e;subst e;exact ⟨_,rfl,r⟩
 | _,_,i+1,x,.cons _ t,e=>by
   obtain ⟨u,h,H⟩:=Vals.get t (by simpa using e);exact ⟨u,by simpa using h,H⟩
theorem Vals.set {x:V} {u:ay} (r:RelV x u):∀ {xs:aB} {U:bB} (i:Nat),Vals xs U->Vals (xs.set i x) (U.set i u)
 | _,_,_,.nil => .nil
 | _,_,0,.cons _ t => .cons r t
 | _,_,i+1,.cons q t => .cons q (Vals.set r i t)
theorem Vals.append:∀ {xs ys:aB} {u w:bB},Vals xs u->Vals ys w->Vals (xs++ys) (u++w)
 | _,_,_,_,.nil,s=>s
 | _,_,_,_,.cons r t,s => .cons r (Vals.append t s)
theorem Vals.take:∀ {xs:aB} {u:bB} (n:Nat),Vals xs u->Vals (xs.take n) (u.take n)
 | _,_,0,_ => .nil
 | _,_,_+1,.nil => .nil
 | _,_,n+1,.cons r t => .cons r (Vals.take n t)
theorem Vals.drop:∀ {xs:aB} {u:bB} (n:Nat),Vals xs u->Vals (xs.drop n) (u.drop n)
 | _,_,0,r=>r
 | _,_,_+1,.nil => .nil
 | _,_,n+1,.cons _ t=>Vals.drop n t
def ng:eU->kY->Prop
 | some v,some u=>RelV v u
 | none,none=>True
 | _,_=>False
def KV {a:Type}:List (a×V)->List (a×ay)->Prop:=Paired λ (p:a×V) (q:a×ay)=>p.1=q.1/\RelV p.2 q.2
noncomputable def kV:Key->V
 | .inl i => .int i
 | .inr x => .str x
inductive HO where
 | lst (xs:aB)
 | tup (xs:aB)
 | dK (aG:List (Key×V))|dT (aG:List (List Key×V))
 | set (S:Int->Bool) (n:Nat)
 | ins (C dx:ak) (fs:List (Str×V))
 | own (x:ak)
 | xd (fs:List (Str×V))
 | met (f x:ak)
 | ZC (lo hi:Int)
 | CT (o:Obj) (u:HO)
 | Q3 (ps:Array ay)
 | ext (φ:bx->Prop)
abbrev Hp:=ak->Option HO
noncomputable def upd (H:Hp) (a:ak) (o:HO):Hp:=λ b=>if b=a then some o else H b
theorem af {a:ak}:upd H a o a=some o:=by unfold upd;rw [abp rfl]
theorem aw {a b:ak} (h:b≠a):upd H a o b=H b:=by unfold upd;rw [abC h]
theorem oM {a:ak}:upd (upd H a o) a u=upd H a u:=by
 funext b;unfold upd;split<;>rfl
theorem TX {a b:ak} (h:H a=some o) (c:H b=some u) (d:o≠u):a≠b:=by
 lia
theorem ax {a b:ak} (h:H a=some o) (c:H b=none):a≠b:=by
 intro e;subst e;rw [h] at c;cases c
section
variable (P:bq) (w:bi)
def eh (H:Hp) (h:bx) (a:ak):HO->Prop
 | .lst xs=>xs.length<=sizeLine/\∃ (b:bB) (n:Nat),Vals xs b/\h.get? a=some { cls:=.type "list",data:=.seq b.toArray n }
 | .tup xs=>xs.length<=sizeLine/\∃ b:bB,Vals xs b/\IsTup h a b.toArray
 | .dK A=>A.length<=sizeLine/\(a == sysModules)=false/\∃ vs,KV A vs/\h.DictOf (dA P w) a vs
 | .dT A=>A.length<=sizeLine/\(a == sysModules)=false/\∃ xs:List (List Key×ak×ay),
     Paired (λ (p:List Key×V) (q:List Key×ak×ay)=>p.1=q.1/\H q.2.1=some (.tup (p.1.map kV))/\RelV p.2 q.2.2) A xs /\
     ∃ o es E,h.get? a=some o/\o.ExactDict/\o.data = .dict es E/\es.toList=xs.map (entryOfKey (tupleKind (dA P w)))/\(xs.map (·.1)).Nodup
 | .set S n=>h.SetOf (intKind P w) a S n
 | .ins C dx F=>H dx=some (.own a)/\F.length<=1000/\dx≠a/\h.get? a=some (W.instObj C dx) /\
     ∃ m,h.Ns1 dx m/\(∀ f,ng (F.lookup f) (m f))/\PySem.Within m (F.map (·.1))
 | .own _=>∃ o,h.get? a=some o
 | .xd F=>∃ m,h.Ns1 a m/\∀ f,ng (F.lookup f) (m f)
 | .ZC lo g=>∃ t u v,h.get? a=some { cls:=.type "range",data:=.fields #[.int lo t,.int g u,.int 1 v]}
 | .CT o u=>h.get? a=some o/\eh H h a u
 | .Q3 i=>h.get? a=some { cls:=.none,data:=.fields i }
 | .met f x=>h.get? a=some (W.methodObj (.ref f) (.ref x))
 | .ext c=>c h/\(∃ o,h.get? a=some o)/\∀ d e:bx,c d->(∀ o,d.get? a=some o->e.get? a=some o)->c e
def qI (H:Hp) (h:bx):Prop:=∀ a o,H a=some o->eh P w H h a o
end
section
variable {P:bq} {w:bi} {H H':Hp} {h h':bx} {a:ak} {o:HO}
theorem eh.lt (x:eh P w H h a o):a<h.objs.size:=by
 cases o with
 | lst X=>obtain ⟨Z,Z,Z,Z,e⟩:=x;exact aba e
 | tup X=>obtain ⟨Z,Z,Z,p⟩:=x;exact p.lt
 | dK A=>obtain ⟨Z,Z,Z,Z,o,Z,Z,e,Z⟩:=x;exact aba e
 | dT A=>obtain ⟨Z,Z,Z,Z,o,Z,Z,e,Z⟩:=x;exact aba e
 | set S n=>obtain ⟨o,Z,Z,Z,e,Z⟩:=x;exact aba e
 | ins C d F=>obtain ⟨Z,Z,Z,e,Z⟩:=x;exact aba e
 | own y=>obtain ⟨Z,e⟩:=x;exact aba e
 | xd F=>obtain ⟨Z,⟨Z,Z,Z,e,Z⟩,Z⟩:=x;exact aba e
 | ZC l b=>obtain ⟨Z,Z,Z,e⟩:=x;exact aba e
 | CT O u=>obtain ⟨e,Z⟩:=x;exact aba e
 | Q3 c=>exact aba (show h.get? a=some _ from x)
 | met f y=>exact aba (show h.get? a=some _ from x)
 | ext g=>obtain ⟨Z,⟨Z,e⟩,Z⟩:=x;exact aba e
theorem Paired.Ay {c d:Type} {F G:c->d->Prop}:∀ {l:List c} {l₂:List d},Paired F l l₂->(∀ a b,F a b->G a b)->Paired G l l₂
 | _,_,.nil,_ => .nil
 | _,_,.cons r t,f => .cons (f _ _ r) (Paired.Ay t f)
theorem eh.dI (x:eh P w H h a o) (k:∀ b u,(b=a\/H b=some (.own a))->h.get? b=some u->h'.get? b=some u) (j:∀ b,H b=some (.own a)->H' b=some (.own a)) (l:∀ b xs,H b=some (.tup xs)->H' b=some (.tup xs)):eh P w H' h' a o:=by
 induction o with
 | lst xs=>obtain ⟨z,B,n,r,e⟩:=x;exact ⟨z,B,n,r,k _ _ (.inl rfl) e⟩
 | tup xs=>obtain ⟨z,B,r,O,e,c⟩:=x;exact ⟨z,B,r,O,k _ _ (.inl rfl) e,c⟩
 | dK A=>obtain ⟨z,y,V,r,O,es,E,e,c⟩:=x;exact ⟨z,y,V,r,O,es,E,k _ _ (.inl rfl) e,c⟩
 | dT A =>
   obtain ⟨z,y,xs,r,O,es,E,e,c⟩:=x;exact ⟨z,y,xs,Paired.Ay r λ p q z=>⟨z.1,l _ _ z.2.1,z.2.2⟩,O,es,E,k _ _ (.inl rfl) e,c⟩
 | set S n=>obtain ⟨O,es,E,t,e,c⟩:=x;exact ⟨O,es,E,t,k _ _ (.inl rfl) e,c⟩
 | ins C D F =>
   obtain ⟨d,z,N,e,m,⟨g,es,E,i,c⟩,r⟩:=x;exact ⟨j _ d,z,N,k _ _ (.inl rfl) e,m,⟨g,es,E,k _ _ (.inr d) i,c⟩,r⟩
 | own y=>obtain ⟨O,e⟩:=x;exact ⟨O,k _ _ (.inl rfl) e⟩
 | xd F=>obtain ⟨m,⟨g,es,E,e,c⟩,r⟩:=x;exact ⟨m,⟨g,es,E,k _ _ (.inl rfl) e,c⟩,r⟩
 | ZC L G=>obtain ⟨t,u,v,e⟩:=x;exact ⟨t,u,v,k _ _ (.inl rfl) e⟩
 | CT O u I=>obtain ⟨e,q⟩:=x;exact ⟨k _ _ (.inl rfl) e,I q⟩
 | Q3 J =>
   exact k a _ (.inl rfl) x
 | met f y =>
   exact k a _ (.inl rfl) x
 | ext K=>obtain ⟨p,⟨o,e⟩,s⟩:=x;exact ⟨s _ _ p λ o q=>k _ _ (.inl rfl) q,⟨o,k _ _ (.inl rfl) e⟩,s⟩
theorem qI.lt (x:qI P w H h) (e:H a=some o):a<h.objs.size:=(x a o e).lt
theorem qI.fresh (x:qI P w H h) (e:h.objs.size<=a):H a=none:=by
 cases q:H a with
 | none=>rfl
 | some u=>exact absurd (aa6 (x.lt q) e) (adB _)
theorem qI.kept (x:qI P w H h) (k:∀ b u,h.get? b=some u->h'.get? b=some u):qI P w H h':=λ a o e =>
 (x a o e).dI (λ b u Z q=>k b u q) (λ Z q=>q) λ Z Z q=>q
theorem qI.laid (x:qI P w H h) (k:∀ b u,h.get? b=some u->h'.get? b=some u) (g:h.objs.size<=a) (n:eh P w (upd H a o) h' a o):qI P w (upd H a o) h':=λ b u e=>by
 have f:=x.fresh g;by_cases d:b=a
 . subst d;rw [af] at e;cases e;exact n
 . rw [aw d] at e;exact (x b u e).dI (λ c v Z q=>k c v q) (λ c q=>by rw [aw (ax q f)];exact q) λ c X q=>by rw [aw (ax q f)];exact q
end
def Rd (H:Hp) (a:ak) (u:HO):Prop:=H a=some u\/∃ o,H a=some (.CT o u)
theorem Rd.ok {P:bq} {w:bi} {h:bx} {a:ak} (r:Rd H a u) (x:qI P w H h):eh P w H h a u:=by
 rcases r with r|⟨o,r⟩
 . exact x a u r
 . obtain ⟨Z,q⟩:=x a _ r;exact q
def Wb:Option HO->Prop
 | some (.lst _)=>True
 | some (.dK _)=>True
 | some (.dT _)=>True
 | some (.set _ _)=>True
 | some (.ins _ _ _)=>True
 | some (.ext _)=>True
 | _=>False
section
variable {P:bq} {w:bi} {H:Hp} {h h':bx} {x e:ak} {o':HO}
theorem qI.write (ok:qI P w H h) (m:Wb (H x)) (j:e=x\/H e=some (.own x)) (k:∀ b u,b≠e->h.get? b=some u->h'.get? b=some u) (g:∃ u,h'.get? e=some u) (n:eh P w (upd H x o') h' x o'):qI P w (upd H x o') h':=λ b u q=>by
 have a:∀ c y,H c=some (.own y)->c≠x:=λ c y r z=>by subst z;rw [r] at m;exact m
 by_cases d:b=x
 . subst d;rw [af] at q;cases q;exact n
 .
  rw [aw d] at q;by_cases L:b=e
  .
   have Q:H b=some (.own x):=by
     lia
   rw [q] at Q;cases Q;obtain ⟨v,i⟩:=g;exact ⟨v,by rw [L];exact i⟩
  . refine (ok b u q).dI (λ c v f r=>k c v ?_ r) (λ c r=>by rw [aw (a c b r)];exact r) λ c X r=>by rw [aw ((λ c X r z=>by subst z;rw [r] at m;exact m) c X r)];exact r
    rcases f with rfl|f
    . exact L
    . grind
end
structure Un (fs ex:bp) (H H':Hp) (h h':bx):Prop where
 keep:∀ b o,h.get? b=some o->H b=none->b∉fs->b∉ex->h'.get? b=some o
 slot:∀ b o,h.get? b=some o->H b=none->b∈fs->b∉ex->∃ sl,h'.get? b=some { o with slots:=sl }
 free:∀ b o,h.get? b=some o->H b=none->b∉ex->H' b=none
 there:∀ b o,h.get? b=some o->b∉ex->∃ o',h'.get? b=some o'
 AT:∀ b xs,H b=some (.tup xs)->H' b=some (.tup xs)
 zR:∀ b o u,H b=some (.CT o u)->H' b=some (.CT o u)
 Cn:∀ b ps,H b=some (.Q3 ps)->∃ more,H' b=some (.Q3 (ps++more))
section
variable {fs ex:bp} {H H1:Hp} {h h1 h':bx} {a x e:ak} {o:HO}
theorem Un.any (u:Un fs ex H H1 h h1) {b:ak} {o:Obj} (q:h.get? b=some o) (n:H b=none) (c:b∉ex):∃ sl,h1.get? b=some { o with slots:=sl }:=by
 by_cases a:b∈fs
 . exact u.slot b o q n a c
 . exact ⟨o.slots,u.keep b o q n a c⟩
theorem Un.kept (k:∀ b u,h.get? b=some u->h'.get? b=some u):Un fs ex H H h h' :=
 ⟨λ b o q Z Z Z=>k b o q,λ b o q Z Z Z=>⟨o.slots,k b o q⟩,λ Z Z Z n Z=>n,λ b o q Z=>⟨o,k b o q⟩,λ Z Z q=>q,λ Z Z Z q=>q,λ Z p q=>⟨#[],by rw [q];simp⟩⟩
theorem Un.refl:Un fs ex H H h h:=Un.kept λ Z Z q=>q
theorem Un.laid (k:∀ b u,h.get? b=some u->h'.get? b=some u) (d:h.objs.size<=a) (c:H a=none):Un fs ex H (upd H a o) h h' where
 keep:=λ b u q Z Z Z=>k b u q
 slot:=λ b u q Z Z Z=>⟨u.slots,k b u q⟩
 free:=λ b u q n Z=>by rw [aw (abN (aa6 (aba q) d))];exact n
 there:=λ b u q Z=>⟨u,k b u q⟩
 AT:=λ b x q=>by rw [aw (ax q c)];exact q
 zR:=λ b u x q=>by rw [aw (ax q c)];exact q
 Cn:=λ b p q=>⟨#[],by rw [aw (ax q c),q];simp⟩
theorem Un.write (m:Wb (H x)) (g:e=x\/H e=some (.own x)) (k:∀ b u,b≠e->h.get? b=some u->h'.get? b=some u) (d:∃ u,h'.get? e=some u):Un fs ex H (upd H x o) h h':=by
 have f:∀ b,H b=none->b≠x:=λ b n z=>by subst z;rw [n] at m;exact m
 have c:∀ b,H b=none->b≠e:=λ b n z=>by
   lia
 have a:∀ b u,H b=some u->¬ Wb (some u)->b≠x:=λ b u q N z=>by subst z;rw [q] at m;exact N m
 refine ⟨λ b u q n Z Z=>k b u (c b n) q,λ b u q n Z Z=>⟨u.slots,k b u (c b n) q⟩,λ b u q n Z=>by rw [aw (f b n)];exact n,λ b u q Z=>?_,
   λ b X q=>by rw [aw (a b _ q λ z=>z)];exact q,λ b u X q=>by rw [aw (a b _ q λ z=>z)];exact q,λ b p q=>⟨#[],by rw [aw (a b _ q λ z=>z),q];simp⟩⟩
 by_cases L:b=e
 . subst L;exact d
 . exact ⟨u,k b u L q⟩
end
noncomputable def Zl (h:bx) (H:Hp):bp:=(List.range h.objs.size).filter λ a=>(H a).isSome
def Eo (h:bx) (H:Hp):bx:=W.hideAll h (Zl h H)
theorem Hs (h:bx) (H:Hp):(Eo h H).objs.size=h.objs.size:=W.hideAll_size _ _
theorem JU {h:bx} {b:ak} {o:Obj} (e:h.get? b=some o) (n:H b=none):(Eo h H).get? b=some o :=
 W.hideAll_get _ e λ a=>by
   have q:=(abT.mp a).2;rw [n] at q;simp at q
theorem M0 {h:bx} {b:ak} {o:Obj} (e:(Eo h H).get? b=some o):h.get? b=some o/\H b=none:=by
 have E:=W.of_hideAll (Zl h H) e;refine ⟨E,?_⟩;cases q:H b with
 | none=>rfl
 | some x =>
   have z:(Eo h H).get? b=none:=W.hideAll_none (Zl h H) (abT.mpr ⟨aaK.mpr (aba E),by simp [q]⟩);rw [z] at e;cases e
noncomputable def L7 (g h:bx) (L:ak):List (ak×Obj):=(List.range h.objs.size).filterMap λ a=>if a=L\/(g.get? a).isSome=true then none else (h.get? a).map λ o=>(a,o)
def rest (g h:bx) (L d:ak):List (ak×Obj):=(L7 g h L).filter λ p=>decide (p.1≠d)
structure Mod (K:aF) (mg:eV) (base:bx):Prop where
 Wk:K.In base
 glob:base.Ns mainGlobals mg
 blt:∃ mb,base.Ns builtinsNs mb/\∀ x:Str,x ≠ "__name__"->mb x=bootBuiltins x
 nolimit:base.NoLimit
structure Cx where
 prog:bq
 w:bi
 K:aF
 mg:eV
 base:bx
 A:Around
 N:d9
 s₀:Shared
 H₀:Hp
 env:Env
 outer:List Env
 stack:List Env
 ex:bp
 fn:Str->Bool
 calm:Bool
 pn:List (ak×Obj)
 xe:ay->Shared->Prop
abbrev Fe (X:Cx) (e:Expr) (es:List Expr):Prop:=starEach (e::es) X.env=(false,eval e X.env)::starEach es X.env
abbrev Im (X:Cx) (es:List Expr) (pos:Pos):Prop:=(backTo pos (starEach es X.env)).any (·.1)=false
abbrev Wn (X:Cx) (x:Str):Prop:=X.fn x=true\/X.env.scope.names.lookup x=some .local
abbrev AU (x:Str):Prop:=(x == ("__debug__" : Str))=false
noncomputable def Ii (l:List Env):bp:=l.filterMap (·.frame)
abbrev Cx.fs (X:Cx):bp:=Ii X.outer
def RR (s:Scope) (x:Str):Prop:=s.names.lookup x=some .local\/s.names.lookup x=some .cell\/s.names.lookup x=some .free
def Loc (s:Scope) (x:Str):Prop:=s.names.lookup x=some .local\/s.names.lookup x=some .cell
def Look (env:Env) (h:bx) (m:eV) (x:Str) (u:ay):Prop :=
 (env.kindOf x=some .local/\m x=some u)\/((env.kindOf x=some .cell\/env.kindOf x=some .free)/\∃ c,env.cells.lookup x=some c/\h.IsCell c (some u))
structure Cx.Ok (X:Cx):Prop where
 mod:Mod X.K X.mg X.base
 kind:X.env.scope.kind = .function
 glob:X.env.globals=mainGlobals
 blt:X.env.builtins=builtinsNs
 above:X.s₀.heap.objs.size<=X.env.locals
 inj:∀ x y c,X.env.cells.lookup x=some c->X.env.cells.lookup y=some c->x=y
 has:∀ x,(X.env.kindOf x=some .cell\/X.env.kindOf x=some .free)->∃ c,X.env.cells.lookup x=some c
 Va:∀ x c,X.fn x=true->X.env.cells.lookup x=some c->X.s₀.heap.objs.size<=c
 hd:X.calm=true->X.A.handled=none
 frames:X.A.frames=some X.stack
 Y0:X.stack=X.outer\/(X.stack=X.env::X.outer/\X.env.frame=some X.env.locals)
 exf:∀ b∈X.ex,b≠X.env.locals/\∀ x c,X.env.cells.lookup x=some c->c≠b
 bs:∀ b o,X.base.get? b=some o->X.s₀.heap.get? b=some o/\X.H₀ b=none
 NM:X.base.objs.size<=X.s₀.heap.objs.size
 IJ:∀ b o,X.base.get? b=some o->b∉X.ex
 Nr:∀ b∈X.ex,b∉X.fs
 uW:X.s₀.heap.FunFrames X.base X.outer
 P8:∀ b∈X.fs,X.H₀ b=none
structure Inv (X:Cx) (pins:List (ak×Obj)) (U:List (eU)) (H:Hp) (s:Shared):Prop where
 ok:X.Ok
 os:s.os=X.s₀.os
 bare:AllBare s.gens
 base:Un X.fs X.ex X.H₀ H X.s₀.heap s.heap
 loc:∃ m,s.heap.Ns X.env.locals m/\∀ (i:Nat) (x:Str) (v:V),X.N[i]?=some x->U[i]?=some (some v)->RR X.env.scope x->∃ u,RelV v u/\Look X.env s.heap m x u
 cell:∀ x c,X.env.cells.lookup x=some c->∃ v,s.heap.IsCell c v
 free:H X.env.locals=none
 pC:∀ x c,X.env.cells.lookup x=some c->H c=none
 pin:∀ p∈X.pn++pins,s.heap.get? p.1=some p.2/\H p.1=none/\p.1≠X.env.locals/\p.1∉X.fs/\∀ v,p.2.data ≠ .cell v
 eB:qI X.prog X.w H s.heap
 len:U.length=X.N.length
section
variable {X:Cx} {pins:List (ak×Obj)} {U:List (eU)} {H H':Hp} {s:Shared} {h':bx}
theorem Cx.Ok.ac2 (ok:X.Ok) {b:ak} {o:Obj} (e:X.base.get? b=some o):b∉X.fs:=λ h=>by
 have:=(ok.uW.mem h).1;rw [e] at this;cases this
theorem Inv.bs (I:Inv X pins U H s):∀ b o,X.base.get? b=some o->s.heap.get? b=some o/\H b=none:=λ b o e =>
 ⟨I.base.keep b o (I.ok.bs b o e).1 (I.ok.bs b o e).2 (I.ok.ac2 e) (I.ok.IJ b o e),I.base.free b o (I.ok.bs b o e).1 (I.ok.bs b o e).2 (I.ok.IJ b o e)⟩
theorem Inv.bk (I:Inv X pins U H s):∀ b o,X.base.get? b=some o->s.heap.get? b=some o:=λ b o e=>(I.bs b o e).1
theorem Inv.mod (I:Inv X pins U H s):Mod X.K X.mg X.base:=I.ok.mod
theorem Inv.uD (I:Inv X pins U H s):X.K.In s.heap:=I.ok.mod.Wk.keeps I.bk
theorem Inv.lt (I:Inv X pins U H s):X.env.locals<s.heap.objs.size:=let ⟨_,h,_⟩:=I.loc;h.lt
theorem Inv.sz (I:Inv X pins U H s):X.s₀.heap.objs.size<=s.heap.objs.size:=aaX I.ok.above (aeN I.lt)
theorem Inv.adD (I:Inv X pins U H s) {a:ak} (h:s.heap.objs.size<=a):a∉X.fs:=λ b=>by
 obtain ⟨Z,o,c,Z⟩:=I.ok.uW.mem b;exact absurd (aa6 (aba c) (aaX I.sz h)) (adB _)
theorem Inv.Po (I:Inv X pins U H s):∀ x c,X.env.cells.lookup x=some c->c≠X.env.locals:=λ x c e z=>by
 obtain ⟨v,o,a,h⟩:=I.cell x c e;obtain ⟨m,⟨O,es,E,C,T,Z⟩,Z⟩:=I.loc;rw [z,C] at a;cases a;rw [T] at h;cases h
theorem Inv.uW (I:Inv X pins U H s):s.heap.FunFrames X.base X.outer:=by
 have all:∀ (l:List Env),(∀ b∈Ii l,b∈X.fs)->X.s₀.heap.FunFrames X.base l->s.heap.FunFrames X.base l:=by
   intro l;induction l with
   | nil=>intro Z Z;trivial
   | cons env r n =>
     intro d i;obtain ⟨g,⟨L,o,c,j,k,f⟩,m⟩:=i;have h:=d L (by unfold Ii;rw [afy,c];exact aaZ);obtain ⟨sl,e⟩:=I.base.slot L o k (I.ok.P8 L h) h λ z=>I.ok.Nr L z h;exact ⟨g,⟨L,_,c,j,e,f⟩,n (λ b a=>d b (by unfold Ii;rw [afy,c];exact aaB _ a)) m⟩
 exact all X.outer (λ Z a=>a) I.ok.uW
theorem Inv.stack (I:Inv X pins U H s):s.heap.FunFrames X.base X.stack:=by
 rcases I.ok.Y0 with e|⟨e,h⟩
 . rw [e];exact I.uW
 . rw [e];obtain ⟨m,a,Z⟩:=I.loc;exact .cons (by rw [I.ok.kind];decide) h a (afP (aaX I.ok.NM I.ok.above)) I.uW
theorem Inv.Ev (I:Inv X pins U H s):∀ b∈Ii X.stack,b∈X.env.locals::X.fs:=λ b h=>by
 rcases I.ok.Y0 with e|⟨e,a⟩
 . rw [e] at h;exact aaB _ h
 .
  rw [e] at h;unfold Ii at h;rw [afy,a] at h;exact h
theorem Inv.Fg (I:Inv X pins U H s):∀ b∈Ii X.stack,H b=none:=λ b h=>by
 rcases aay.mp (I.Ev b h) with e|h
 . rw [e];exact I.free
 . obtain ⟨Z,o,a,Z⟩:=I.ok.uW.mem h;exact I.base.free b o a (I.ok.P8 b h) λ z=>I.ok.Nr b z h
theorem Inv.step {G:Array GenState} {t':Nat} {W:Drawn} {ch:bp} (I:Inv X pins U H s) (A:∀ b∈ch,(b∈X.ex\/X.s₀.heap.objs.size<=b)/\b≠X.env.locals/\(∀ x c,X.env.cells.lookup x=some c->c≠b)/\∀ p∈X.pn++pins,p.1≠b) (K:∀ b o,b≠X.env.locals->b∉X.fs->b∉ch->s.heap.get? b=some o->H b=none->h'.get? b=some o) (S:∀ b o,b≠X.env.locals->b∈X.fs->b∉ch->s.heap.get? b=some o->H b=none->∃ sl,h'.get? b=some { o with slots:=sl }) (f:∀ b o,b∉ch->s.heap.get? b=some o->H b=none->H' b=none) (t:∀ b o,b∉ch->s.heap.get? b=some o->∃ O,h'.get? b=some O) (R:∀ b xs,H b=some (.tup xs)->H' b=some (.tup xs)) (zR:∀ b o u,H b=some (.CT o u)->H' b=some (.CT o u)) (V:∀ b B,H b=some (.Q3 B)->∃ M,H' b=some (.Q3 (B++M))) (ns:∀ m,s.heap.Ns X.env.locals m->h'.Ns X.env.locals m) (eB:qI X.prog X.w H' h') (hg:AllBare G) :
   Inv X pins U H' { s with heap:=h',gens:=G,drawn:=W,toks:=t' }:=by
 have N:∀ b o,X.s₀.heap.get? b=some o->b≠X.env.locals:=λ b o e=>abN (aa6 (aba e) I.ok.above);have y:∀ b o,X.s₀.heap.get? b=some o->b∉X.ex->b∉ch:=λ b o e h a=>by
   rcases (A b a).1 with z|z
   . exact h z
   . exact absurd (aa6 (aba e) z) (adB _)
 have C:∀ x c,X.env.cells.lookup x=some c->∀ v,s.heap.IsCell c v->h'.IsCell c v:=λ x c e v ⟨o,g,D⟩=>by
   have T:=λ z=>(A c z).2.2.1 x c e rfl;by_cases J:c∈X.fs
   . obtain ⟨sl,q⟩:=S c o (I.Po x c e) J T g (I.pC x c e);exact ⟨_,q,D⟩
   . exact ⟨o,K c o (I.Po x c e) J T g (I.pC x c e),D⟩
 refine ⟨I.ok,I.os,hg,⟨λ b o e n a h=>?_,λ b o e n a h=>?_,λ b o e n h=>?_,λ b o e h=>?_,λ b xs e=>R b xs (I.base.AT b xs e),λ b o xs e=>zR b o xs (I.base.zR b o xs e),λ b B e=>?_⟩,?_,λ x c e=>?_,?_,λ x c e=>?_,λ p L=>?_,eB,I.len⟩
 . exact K b o (N b o e) a (y b o e h) (I.base.keep b o e n a h) (I.base.free b o e n h)
 . obtain ⟨sl,E⟩:=I.base.slot b o e n a h;obtain ⟨F,j⟩:=S b _ (N b o e) a (y b o e h) E (I.base.free b o e n h);exact ⟨F,j⟩
 . obtain ⟨O,E⟩:=I.base.there b o e h;exact f b O (y b o e h) E (I.base.free b o e n h)
 . obtain ⟨O,E⟩:=I.base.there b o e h;exact t b O (y b o e h) E
 . obtain ⟨m1,E⟩:=I.base.Cn b B e;obtain ⟨m2,j⟩:=V b _ E;exact ⟨m1++m2,by rw [j,Array.append_assoc]⟩
 .
  obtain ⟨m,hn,hl⟩:=I.loc;refine ⟨m,ns m hn,λ i x v E j Y=>?_⟩;obtain ⟨u,r,l⟩:=hl i x v E j Y;refine ⟨u,r,?_⟩;rcases l with l|⟨k,c,e,z⟩
  . exact .inl l
  . exact .inr ⟨k,c,e,C x c e _ z⟩
 . obtain ⟨v,z⟩:=I.cell x c e;exact ⟨v,C x c e v z⟩
 . obtain ⟨m,⟨o,Z,Z,g,Z⟩,Z⟩:=I.loc;exact f _ o (λ z=>(A _ z).2.1 rfl) g I.free
 . obtain ⟨v,o,g,D⟩:=I.cell x c e;exact f c o (λ z=>(A c z).2.2.1 x c e rfl) g (I.pC x c e)
 . obtain ⟨e,n,Q,nf,d⟩:=I.pin p L;have T:=λ z=>(A p.1 z).2.2.2 p L rfl;exact ⟨K p.1 p.2 Q nf T e n,f p.1 p.2 T e n,Q,nf,d⟩
theorem Inv.un {t':Nat} (I:Inv X pins U H s) (u:Un X.fs [] H H' s.heap h') (d:qI X.prog X.w H' h'):Inv X pins U H' { s with heap:=h',toks:=t' }:=by
 obtain ⟨m,⟨o,es,i,a,r⟩,Z⟩:=id I.loc;obtain ⟨sl,f⟩:=u.any a I.free (by simp);exact I.step (ch:=[]) (λ Z z=>nomatch z) (λ b o Z h Z e n=>u.keep b o e n h (by simp)) (λ b o Z h Z e n=>u.slot b o e n h (by simp)) (λ b o Z e n=>u.free b o e n (by simp)) (λ b o Z e=>u.there b o e (by simp)) u.AT u.zR u.Cn (λ M g=>by
   obtain ⟨O,c,E,C,R⟩:=g;rw [a] at C;cases C;exact ⟨_,c,E,f,R⟩) d I.bare
theorem Inv.call {g:Array GenState} {t':Nat} {D:Drawn} {ch:bp} (I:Inv X pins U H s) (u:Un (Ii X.stack) ch H H' s.heap h') (i:qI X.prog X.w H' h') (k:AllBare g) (A:∀ b∈ch,(b∈X.ex\/X.s₀.heap.objs.size<=b)/\b≠X.env.locals/\(∀ x c,X.env.cells.lookup x=some c->c≠b)/\∀ p∈X.pn++pins,p.1≠b) :
   Inv X pins U H' { s with heap:=h',gens:=g,drawn:=D,toks:=t' }:=by
 obtain ⟨m,⟨o,es,q,d,r⟩,Z⟩:=id I.loc;obtain ⟨sl,a⟩:=u.any d I.free λ z=>(A _ z).2.1 rfl;exact I.step A (λ b o a j h e n=>u.keep b o e n (λ z=>(aay.mp (I.Ev b z)).elim a j) h) (λ b o Z Z h e n=>u.any e n h) (λ b o h e n=>u.free b o e n h) (λ b o h e=>u.there b o e h) u.AT u.zR u.Cn (λ M l=>by
   obtain ⟨O,f,E,C,R⟩:=l;rw [d] at C;cases C;exact ⟨_,f,E,a,R⟩) i k
theorem Inv.turned {t':Nat} {i:ak} (I:Inv X pins U H s) (k:∀ b o,b≠i->s.heap.get? b=some o->h'.get? b=some o) (t:H i=none) (a:i≠X.env.locals) (d:i∈X.ex\/X.s₀.heap.objs.size<=i) (f:∀ x c,X.env.cells.lookup x=some c->c≠i) (g:∀ p∈X.pn++pins,p.1≠i):Inv X pins U H { s with heap:=h',toks:=t' }:=by
 have N:∀ b u,H b=some u->b≠i:=λ b u e z=>by rw [z,t] at e;cases e
 refine I.step (ch:=[i]) (λ b j=>?_) (λ b o Z Z h e Z=>k b o (λ z=>h (by simp [z])) e) (λ b o Z Z h e Z=>⟨o.slots,k b o (λ z=>h (by simp [z])) e⟩) (λ Z Z Z Z n=>n)
   (λ b o h e=>⟨o,k b o (λ z=>h (by simp [z])) e⟩) (λ Z Z e=>e) (λ Z Z Z e=>e) (λ b y e=>⟨#[],by rw [e];simp⟩) (λ m l=>?_) (λ b u e=>?_) I.bare
 . have e:=by simpa using j
   subst e;exact ⟨d,a,f,g⟩
 . obtain ⟨o,es,E,w,r⟩:=l;exact ⟨o,es,E,k _ o (aeg a) w,r⟩
 .
  refine (I.eB b u e).dI (λ c v h q=>k c v ?_ q) (λ Z q=>q) λ Z Z q=>q;rcases h with z|z
  . rw [z];exact N b u e
  . exact N c _ z
theorem Inv.tok (I:Inv X pins U H s) (t:Nat):Inv X pins U H { s with toks:=t }:=I.un Un.refl I.eB
theorem Inv.kept {t':Nat} (I:Inv X pins U H s) (k:∀ b u,s.heap.get? b=some u->h'.get? b=some u):Inv X pins U H { s with heap:=h',toks:=t' }:=I.un (Un.kept k) (I.eB.kept k)
theorem Inv.laid {a:ak} {t':Nat} (I:Inv X pins U H s) (k:∀ b u,s.heap.get? b=some u->h'.get? b=some u) (h:s.heap.objs.size<=a) (n:eh X.prog X.w (upd H a o) h' a o) :
   Inv X pins U (upd H a o) { s with heap:=h',toks:=t' }:=I.un (Un.laid k h (I.eB.fresh h)) (I.eB.laid k h n)
theorem Inv.write {x e:ak} {t':Nat} (I:Inv X pins U H s) (m:Wb (H x)) (a:e=x\/H e=some (.own x)) (k:∀ b u,b≠e->s.heap.get? b=some u->h'.get? b=some u) (h:∃ u,h'.get? e=some u) (n:eh X.prog X.w (upd H x o) h' x o):Inv X pins U (upd H x o) { s with heap:=h',toks:=t' }:=I.un (Un.write m a k h) (I.eB.write m a k h n)
theorem Inv.FM {O:List (ak×Obj)} (I:Inv X pins U H s) (h:∀ p∈O,s.heap.get? p.1=some p.2/\H p.1=none/\p.1≠X.env.locals/\p.1∉X.fs/\∀ v,p.2.data ≠ .cell v):Inv X O U H s :=
 ⟨I.ok,I.os,I.bare,I.base,I.loc,I.cell,I.free,I.pC,λ p a=>(aaU.mp a).elim (λ z=>I.pin p (acR _ z)) (h p),I.eB,I.len⟩
theorem BK {N:d9} (h:N.Nodup) {i j:Nat} {x:Str} (a:N[i]?=some x) (b:N[j]?=some x):i=j:=by
 obtain ⟨H,e⟩:=SV.mp a;obtain ⟨c,E⟩:=SV.mp b;exact (af0 h).mp (e.trans E.symm)
theorem yq {M:Model} {A:Around} {E:ay->Shared->Prop} {i:Nat} {x:Str} {v:V} {u:ay} {Q:Unit->Shared->Prop} (I:Inv X pins U H s) (hN:X.N.Nodup) (L:X.N[i]?=some x) (B:Loc X.env.scope x) (r:RelV v u) (h:∀ s',Inv X pins (U.set i (some v)) H s'->(∃ a,Heap.SameBut a s.heap s'.heap/\(a=X.env.locals\/X.env.cells.lookup x=some a))->Q () s') (hf:autoParam (Wn X x) zd_._auto_1):wpAny M A (storeName X.env x u) Q E s:=by
 obtain ⟨m,hn,hl⟩:=id I.loc;have ab:(X.env.scope.kind == .class || (X.env.scope.kind == .module && X.env.locals != X.env.globals))=false:=by rw [I.ok.kind];rfl
 have D:i<U.length:=by rw [I.len];exact (SV.mp L).1
 have T:=I.Po;have t:∀ {a:ak} {h':bx},(∃ o,s.heap.get? a=some o/\H a=none)->Heap.SameBut a s.heap h'->qI X.prog X.w H h':=λ {a h'} ha f b ob e=>by
   obtain ⟨Z,Z,lK⟩:=ha;refine (I.eB b ob e).dI (λ c W l q=>(f.2 c ?_).trans q) (λ Z q=>q) λ Z Z q=>q;rintro rfl;rcases l with rfl|l
   . rw [lK] at e;cases e
   . rw [lK] at l;cases l
 rcases B with J|J
 .
  refine wpAny_storeName_local J hn (λ h' ad f=>?_) ab;obtain ⟨oL,Z,Z,ae,Z⟩:=id hn;refine h _ ⟨I.ok,I.os,I.bare,⟨λ b o e n F B=>?_,λ b o e n F B=>?_,I.base.free,λ b o e B=>?_,I.base.AT,I.base.zR,I.base.Cn⟩,⟨_,ad,λ j y v' g C e3=>?_⟩,λ y c e=>?_,I.free,I.pC,λ p hp=>?_,t ⟨oL,ae,I.free⟩ f,by simpa using I.len⟩ ⟨_,f,.inl rfl⟩
  . exact (f.2 b (abN (aa6 (aba e) I.ok.above))).trans (I.base.keep b o e n F B)
  . obtain ⟨sl,g⟩:=I.base.slot b o e n F B;exact ⟨sl,(f.2 b (abN (aa6 (aba e) I.ok.above))).trans g⟩
  . obtain ⟨o',g⟩:=I.base.there b o e B;exact ⟨o',(f.2 b (abN (aa6 (aba e) I.ok.above))).trans g⟩
  .
   by_cases G:j=i
   . subst G;rw [L] at g;cases g;rw [agA D] at C;cases C;exact ⟨u,r,.inl ⟨J,by simp⟩⟩
   .
    rw [adt (aeg G)] at C;obtain ⟨u',r',q⟩:=hl j y v' g C e3;refine ⟨u',r',?_⟩;rcases q with ⟨k,e⟩|⟨k,c,e,z⟩
    . refine .inl ⟨k,?_⟩;have:y≠x:=λ e=>G (BK hN g (e ▸ L));simp [this,e]
    . exact .inr ⟨k,c,e,z.sameBut f (T y c e)⟩
  . obtain ⟨W,z⟩:=I.cell y c e;exact ⟨W,z.sameBut f (T y c e)⟩
  . obtain ⟨e,n,S,nf,d⟩:=I.pin p hp;exact ⟨(f.2 p.1 S).trans e,n,S,nf,d⟩
 .
  have Y:X.fn x=true:=by
    lia
  obtain ⟨c,l⟩:=I.ok.has x (.inl J);obtain ⟨W,z⟩:=I.cell x c l;refine wpAny_storeName_cell I.ok.kind J l z (λ h' yT f=>?_);obtain ⟨oc,O,Z9⟩:=id z;refine h { s with heap:=h' } ⟨I.ok,I.os,I.bare,⟨λ b o e n F B=>?_,λ b o e n F B=>?_,I.base.free,λ b o e B=>?_,I.base.AT,I.base.zR,I.base.Cn⟩,⟨m,hn.sameBut f (aeg (T x c l)),λ j y v' g C e3=>?_⟩,λ y R e=>?_,I.free,I.pC,λ p hp=>?_,t ⟨oc,O,I.pC x c l⟩ f,by simpa using I.len⟩ ⟨c,f,.inr l⟩
  . exact (f.2 b (abN (aa6 (aba e) (I.ok.Va x c Y l)))).trans (I.base.keep b o e n F B)
  . obtain ⟨sl,g⟩:=I.base.slot b o e n F B;exact ⟨sl,(f.2 b (abN (aa6 (aba e) (I.ok.Va x c Y l)))).trans g⟩
  . obtain ⟨o',g⟩:=I.base.there b o e B;exact ⟨o',(f.2 b (abN (aa6 (aba e) (I.ok.Va x c Y l)))).trans g⟩
  .
   by_cases G:j=i
   . subst G;rw [L] at g;cases g;rw [agA D] at C;cases C;exact ⟨u,r,.inr ⟨.inl J,c,l,yT⟩⟩
   .
    rw [adt (aeg G)] at C;obtain ⟨u',r',q⟩:=hl j y v' g C e3;refine ⟨u',r',?_⟩;rcases q with q|⟨k,R,e,z'⟩
    . exact .inl q
    . refine .inr ⟨k,R,e,z'.sameBut f ?_⟩;rintro rfl;exact G (BK hN g (I.ok.inj _ _ _ e l ▸ L))
  . by_cases K:R=c
    . subst K;exact ⟨_,yT⟩
    . obtain ⟨w2,z2⟩:=I.cell y R e;exact ⟨w2,z2.sameBut f K⟩
  .
   obtain ⟨e,n,S,nf,d⟩:=I.pin p hp;refine ⟨(f.2 p.1 ?_).trans e,n,S,nf,d⟩;intro q;rw [q,O] at e;exact d W (by rw [<- (abb e)];exact Z9)
theorem xb {M:Model} {A:Around} {E:ay->Shared->Prop} {i:Nat} {x:Str} {v:V} {u:ay} {Q:Unit->Shared->Prop} (I:Inv X pins U H s) (b:X.N.Nodup) (d:X.N[i]?=some x) (e:Loc X.env.scope x) (r:RelV v u) (h:∀ s',Inv X pins (U.set i (some v)) H s'->Q () s') (c:autoParam (Wn X x) zd_._auto_1):wpAny M A (storeName X.env x u) Q E s :=
 yq I b d e r (λ s' a Z=>h s' a) c
theorem Inv.VN {ch:bp} (I:Inv X pins U H s) (a:s'.os=s.os) (u:Un (Ii X.stack) ch H H' s.heap s'.heap) (e:qI X.prog X.w H' s'.heap) (h:AllBare s'.gens) (A:∀ b∈ch,(b∈X.ex\/X.s₀.heap.objs.size<=b)/\b≠X.env.locals/\(∀ x c,X.env.cells.lookup x=some c->c≠b)/\∀ p∈X.pn++pins,p.1≠b):Inv X pins U H' s':=by
 obtain ⟨h',g,d,t',o⟩:=s';subst a;exact I.call u e h A
end
abbrev XK:=ay->Option ak->Hp->Prop
abbrev St:=List (eU)
abbrev VK:=V->Hp->Prop
abbrev TE:=St->Hp->VK->Prop
abbrev TT:=St->Hp->(Bool->Hp->Prop)->Prop
abbrev TA:=St->Hp->(aB->Hp->Prop)->Prop
structure Ends where
 nx:St->Hp->Prop
 rt:VK
 bk:St->Hp->Prop:=λ _ _=>False
 ct:St->Hp->Prop:=λ _ _=>False
abbrev TS:=Ends->St->Hp->Prop
inductive EP (X:Cx) (pins:List (ak×Obj)) (U:St) (Q:VK) (u:ay) (s':Shared):Prop
 | mk (v:V) (H':Hp) (_:Inv X pins U H' s') (_:RelV v u) (_:Q v H')
def TP (X:Cx) (p:List (ak×Obj)) (U:St) (Q:Bool->Hp->Prop) (b:Bool) (s':Shared):Prop:=∃ H,Inv X p U H s'/\Q b H
inductive AP (X:Cx) (pins:List (ak×Obj)) (U:St) (Q:aB->Hp->Prop) (us:bB) (s':Shared):Prop
 | mk (vs:aB) (H':Hp) (_:Inv X pins U H' s') (_:Vals vs us) (_:Q vs H')
def SP (X:Cx) (p:List (ak×Obj)) (D:Ends) (f:Flow) (s':Shared):Prop :=
 match f with
 | .next=>∃ a H,Inv X p a H s'/\D.nx a H
 | .brk=>∃ a H,Inv X p a H s'/\D.bk a H
 | .cont=>∃ a H,Inv X p a H s'/\D.ct a H
 | .ret u=>∃ v a H,Inv X p a H s'/\RelV v u/\D.rt v H
def PE (X:Cx) (e:Expr) (t:TE):Prop :=
 ∀ (p:List (ak×Obj)) (s:Shared) (U:St) (H:Hp) (Q:VK),Inv X p U H s->t U H Q->wpAny (model X.prog X.w) X.A (eval e X.env) (EP X p U Q) X.xe s
def PT (X:Cx) (e:Expr) (t:TT):Prop :=
 ∀ (p:List (ak×Obj)) (s:Shared) (U:St) (H:Hp) (Q:Bool->Hp->Prop),Inv X p U H s->t U H Q->wpAny (model X.prog X.w) X.A (isTrue e X.env (eval e X.env)) (TP X p U Q) X.xe s
def PW (X:Cx) (e:Expr) (t:TT):Prop :=
 ∀ (W:Sem ay) (p:List (ak×Obj)) (s:Shared) (U:St) (H:Hp) (Q:Bool->Hp->Prop),Inv X p U H s->t U H Q->wpAny (model X.prog X.w) X.A (isTrue e X.env W) (TP X p U Q) X.xe s
theorem PW.pt {X:Cx} {e:Expr} {t:TT} (h:PW X e t):PT X e t:=h _
def PA (X:Cx) (es:List Expr) (t:TA):Prop :=
 ∀ (a:Pos) (p:List (ak×Obj)) (s:Shared) (U:St) (H:Hp) (Q:aB->Hp->Prop),Inv X p U H s->t U H Q->wpAny (model X.prog X.w) X.A (spliced (backTo a (starEach es X.env))) (AP X p U Q) X.xe s
def PS (X:Cx) (st:Stmt) (t:TS):Prop :=
 ∀ (p:List (ak×Obj)) (s:Shared) (U:St) (H:Hp) (D:Ends),Inv X p U H s->t D U H->wpAny (model X.prog X.w) X.A (exec st X.env) (SP X p D) X.xe s
def xA (X:Cx) (st:List Stmt) (t:TS):Prop :=
 ∀ (p:List (ak×Obj)) (s:Shared) (U:St) (H:Hp) (D:Ends),Inv X p U H s->t D U H->wpAny (model X.prog X.w) X.A (execs st X.env) (SP X p D) X.xe s
theorem dC {b:Type} {t:Sem b} {Q q:b->Shared->Prop} {M:Model} {A:Around} {E:ay->Shared->Prop} {s:Shared} (h:wpAny M A t Q E s) (H:∀ a s,Q a s->q a s):wpAny M A t q E s:=adE h H λ Z Z x=>x
section
variable {X:Cx}
def Hb (i:Nat) (U:St) (H:Hp) (Q:VK):Prop:=match U[i]? with
 | some (some v)=>Q v H
 | _=>False
theorem tv {i:Nat} {v:V} (h:Q v H) (e:U[i]?=some (some v)):Hb i U H Q:=by
 unfold Hb;rw [e];exact h
theorem vt {i:Nat} (h:Hb i U H Q):∃ v,U[i]?=some (some v)/\Q v H:=by
 unfold Hb at h;split at h
 . exact ⟨_,by assumption,h⟩
 . cases h
def tC (v:V):TE:=λ Z H Q=>Q v H
theorem IL {i:Nat} {x:Str} {d:Pos} (k:X.N[i]?=some x) (t:RR X.env.scope x) (b:autoParam (AU x) zb_._auto_1) (w:autoParam ((x == ("__classdict__" : Str))=false) zb_._auto_1):PE X (.Name x d) (Hb i):=by
 intro p s U H Q I h;obtain ⟨v,e,h⟩:=vt h;obtain ⟨m,q,n⟩:=I.loc;obtain ⟨u,r,l⟩:=n i x v k e t;have f:EP X p U Q u s:=⟨v,H,I,r,h⟩
 rcases l with ⟨a,o⟩|⟨a,c,g,j⟩
 . exact wpAny_Name (wpAny_loadName_local I.ok.kind a q o f) b
 . rcases a with a|a
   . exact wpAny_Name (wpAny_loadName_cell I.ok.kind a g j f) b
   . exact wpAny_Name (wpAny_loadName_free I.ok.kind a g j f w) b
theorem ai {i j p}:PE X (.Constant (.int i) j p) (tC (.int i)):=λ Z Z Z H Z I h=>wpAny_Constant_int ⟨.int i,H,I.tok _,⟨_,rfl⟩,h⟩
theorem rQ {b j p}:PE X (.Constant (.bool b) j p) (tC (.bl b)):=λ Z Z Z H Z I h=>Constant_bool ⟨.bl b,H,I,rfl,h⟩
theorem cM {j p}:PE X (.Constant .none j p) (tC .cN):=λ Z Z Z H Z I h=>Constant_none ⟨.cN,H,I,rfl,h⟩
def Gl (X:Cx) (x:Str):Prop:=X.env.kindOf x=some .globalImplicit
theorem Ak {E:ay->Shared->Prop} {p:List (ak×Obj)} {s:Shared} {x:Str} {u:ay} {a:Pos} {Q:ay->Shared->Prop} (I:Inv X p U H s) (c:Gl X x) (d:X.mg x=some u) (h:Q u s) (b:autoParam (AU x) zb_._auto_1):wpAny (model X.prog X.w) X.A (eval (.Name x a) X.env) Q E s :=
 agT I.ok.kind c (Calls.loadGlobal_global (by rw [I.ok.glob];exact I.mod.glob.keeps I.bk) d h) b
theorem ke {E:ay->Shared->Prop} {p:List (ak×Obj)} {s:Shared} {x:Str} {u:ay} {a:Pos} {Q:ay->Shared->Prop} (I:Inv X p U H s) (e:Gl X x) (f:X.mg x=none) (i:bootBuiltins x=some u) (h:Q u s) (g:autoParam (x ≠ "__name__") zb_._auto_1) (d:autoParam (AU x) zb_._auto_1):wpAny (model X.prog X.w) X.A (eval (.Name x a) X.env) Q E s:=by
 obtain ⟨m,b,c⟩:=I.mod.blt;exact agT I.ok.kind e (Calls.loadGlobal_builtin (by rw [I.ok.glob];exact I.mod.glob.keeps I.bk) f (by rw [I.ok.blt];exact b.keeps I.bk) ((c x g).trans i) h) d
theorem gH {x:Str} {v:V} {u:ay} {p:Pos} (b:Gl X x) (c:X.mg x=some u) (r:RelV v u) (a:autoParam (AU x) zb_._auto_1):PE X (.Name x p) (tC v) :=
 λ Z Z Z H Z I h=>Ak I b c ⟨v,H,I,r,h⟩ a
theorem vg {x:Str} {v:V} {u:ay} {p:Pos} (b:Gl X x) (c:X.mg x=none) (e:bootBuiltins x=some u) (r:RelV v u) (d:autoParam (x ≠ "__name__") zb_._auto_1) (a:autoParam (AU x) zb_._auto_1):PE X (.Name x p) (tC v) :=
 λ Z Z Z H Z I h=>ke I b c e ⟨v,H,I,r,h⟩ d a
variable {a b:Expr} {ta tb:TE} {pos:Pos}
def tB (t:TE):TT:=λ U H Q=>t U H λ x h=>∃ c,x = .bl c/\Q c h
theorem cP {e:Expr} {t:TE} (h:PE X e t) (b:∀ w,isTrue e X.env w=(do let v <- w;standAt e.pos;holding [v] (truthy v)):=by intro Z;rfl):PT X e (tB t):=by
 intro p s U H Q I c;refine isTrue_plain (dC (h p s U H _ I c) λ v S ⟨x,a,i,r,f⟩=>?_) (b _);obtain ⟨d,rfl,q⟩:=f;cases r;exact adm ⟨a,i,q⟩
variable {tA YL:TT} {rest:List Expr}
def ZF (t u:TT):TT:=λ U H Q=>t U H λ c h=>if c=true then u U h Q else Q false h
def tOr (t u:TT):TT:=λ U H Q=>t U H λ c h=>if c=true then Q true h else u U h Q
def ads (t:TT):TT:=λ U H Q=>t U H λ c h=>Q (!c) h
theorem iX (b:PT X a tA):PW X (.BoolOp .And [a] pos) tA:=by
 intro w p s U H Q I h;refine isTrue_and (dC (b p s U H Q I h) λ c S e=>?_);cases c with
 | true=>exact isTrue_and_nil e
 | false=>exact e
theorem qD (b:PT X a tA):PW X (.BoolOp .Or [a] pos) tA:=by
 intro w p s U H Q I h;refine isTrue_or (dC (b p s U H Q I h) λ c S e=>?_);cases c with
 | false=>exact isTrue_or_nil e
 | true=>exact e
theorem k9 (e:PT X a tA) (f:PW X (.BoolOp .And (b::rest) pos) YL):PW X (.BoolOp .And (a::b::rest) pos) (ZF tA YL):=by
 intro w p s U H Q I h;refine isTrue_and (dC (e p s U H _ I h) λ c S ⟨d,i,q⟩=>?_);cases c with
 | true=>exact f w p S U d Q i q
 | false=>exact ⟨d,i,q⟩
theorem uo (e:PT X a tA) (f:PW X (.BoolOp .Or (b::rest) pos) YL):PW X (.BoolOp .Or (a::b::rest) pos) (tOr tA YL):=by
 intro w p s U H Q I h;refine isTrue_or (dC (e p s U H _ I h) λ c S ⟨d,i,q⟩=>?_);cases c with
 | true=>exact ⟨d,i,q⟩
 | false=>exact f w p S U d Q i q
theorem fB (d:PT X a tA):PT X (.UnaryOp .Not a pos) (ads tA):=by
 intro p s U H Q I h;exact isTrue_not (d p s U H (λ c b=>Q (!c) b) I h)
def Ko (t tb:TE):TE:=λ U H Q=>t U H λ x h=>∃ c,x = .bl c/\if c=true then tb U h Q else Q (.bl false) h
def aca (t tb:TE):TE:=λ U H Q=>t U H λ x h=>∃ c,x = .bl c/\if c=true then Q (.bl true) h else tb U h Q
def VC (t:TE):TE:=λ U H Q=>t U H λ x h=>∃ c,x = .bl c/\Q (.bl (!c)) h
theorem mm {o} {t:TE} (h:PE X a t):PE X (.BoolOp o [a] pos) t:=λ p s U H Q I b=>BoolOp_one (h p s U H Q I b)
theorem pQ (e:PE X a ta) (f:PE X (.BoolOp .And (b::rest) pos) tb):PE X (.BoolOp .And (a::b::rest) pos) (Ko ta tb):=by
 intro p s U H Q I h;refine BoolOp_and (dC (e p s U H _ I h) λ v S ⟨x,d,i,r,q⟩=>?_);obtain ⟨c,rfl,q⟩:=q;cases r;refine adm ?_;cases c with
 | true=>exact f p S U d Q i q
 | false=>exact ⟨.bl false,d,i,rfl,q⟩
theorem Lc (e:PE X a ta) (f:PE X (.BoolOp .Or (b::rest) pos) tb):PE X (.BoolOp .Or (a::b::rest) pos) (aca ta tb):=by
 intro p s U H Q I h;refine BoolOp_or (dC (e p s U H _ I h) λ v S ⟨x,d,i,r,q⟩=>?_);obtain ⟨c,rfl,q⟩:=q;cases r;refine adm ?_;cases c with
 | false=>exact f p S U d Q i q
 | true=>exact ⟨.bl true,d,i,rfl,q⟩
theorem zN (d:PE X a ta):PE X (.UnaryOp .Not a pos) (VC ta):=by
 intro p s U H Q I h;refine UnaryOp_ (dC (d p s U H _ I h) λ v S ⟨x,b,i,r,q⟩=>?_);obtain ⟨c,rfl,q⟩:=q;cases r;exact not_of (adm ⟨.bl (!c),b,i,rfl,q⟩)
def tIf (t:TT) (T tb:TE):TE:=λ U H Q=>t U H λ c h=>if c=true then T U h Q else tb U h Q
theorem lD {c:Expr} (j:PT X c tA) (f:PE X a ta) (g:PE X b tb):PE X (.IfExp c a b pos) (tIf tA ta tb):=by
 intro p s U H Q I h;refine wpAny_IfExp (dC (j p s U H _ I h) λ d S ⟨e,i,q⟩=>?_);cases d with
 | true=>exact f p S U e Q i q
 | false=>exact g p S U e Q i q
end
def aW (K:aF) (H:Hp) (a:ak) (xs:aB):Prop :=
 Rd H a (.lst xs) \/
   ∃ (o:Obj) (b:Array ay) (n:Nat),K.lookup a=some o/\o.cls = .type "list"/\o.dict=none/\o.data = .seq b n/\b.size<=sizeLine/\Vals xs b.toList
def cw (K:aF) (H:Hp) (a:ak) (xs:aB):Prop :=
 Rd H a (.tup xs) \/
   ∃ (o:Obj) (b:Array ay) (n:Nat),K.lookup a=some o/\o.cls = .type "tuple"/\o.data = .seq b n/\b.size<=sizeLine/\Vals xs b.toList
noncomputable def abm:ay->eU
 | .none=>some .cN
 | .bool b=>some (.bl b)
 | .int i _=>some (.int i)
 | .str x _=>some (.str x)
 | .bytes b _=>some (.Gm b)
 | .float b _=>some (.NU b)
 | .ref a=>some (.ref a)
 | .type n=>some (.ty n)
 | _=>none
theorem RelV.abs {x:V} {u:ay} (r:RelV x u):abm u=some x:=by
 cases x with
 | cN=>cases r;rfl
 | bl _=>cases r;rfl
 | int _=>obtain ⟨t,rfl⟩:=r;rfl
 | str _=>obtain ⟨t,rfl⟩:=r;rfl
 | Gm _=>obtain ⟨t,rfl⟩:=r;rfl
 | NU _=>obtain ⟨t,rfl⟩:=r;rfl
 | ref _=>cases r;rfl
 | ty _=>cases r;rfl
theorem RelV.inj {x y:V} {u:ay} (r:RelV x u) (q:RelV y u):x=y:=abb (r.abs.symm.trans q.abs)
theorem Vals.inj:∀ {xs ys:aB} {u:bB},Vals xs u->Vals ys u->xs=ys
 | _,_,_,.nil,.nil=>rfl
 | _,_,_,.cons r t,.cons R t'=>by rw [r.inj R,Vals.inj t t']
section
variable {X:Cx} {pins:List (ak×Obj)} {U:St} {H:Hp} {s:Shared} {a:ak} {xs ys:aB}
theorem aW.of {K:aF} (h:H a=some (.lst xs)):aW K H a xs:=.inl (.inl h)
theorem cw.of {K:aF} (h:H a=some (.tup xs)):cw K H a xs:=.inl (.inl h)
theorem Inv.list (I:Inv X pins U H s) (h:aW X.K H a xs):∃ b:bB,Vals xs b/\PlainL s.heap a b.toArray/\xs.length<=sizeLine:=by
 rcases h with h|⟨o,b,n,f,c,d,g,i,r⟩
 . obtain ⟨z,b,n,r,e⟩:=h.ok I.eB;exact ⟨b,r,⟨_,n,e,rfl,rfl,rfl⟩,z⟩
 .
  refine ⟨b.toList,r,⟨o,n,I.uD a o f,c,d,by simpa using g⟩,?_⟩;have e:=r.length;simp only [afA] at e;lia
theorem Inv.tuple (I:Inv X pins U H s) (h:cw X.K H a xs):∃ b:bB,Vals xs b/\IsTup s.heap a b.toArray/\xs.length<=sizeLine:=by
 rcases h with h|⟨o,b,n,d,c,f,g,r⟩
 . obtain ⟨z,b,r,p⟩:=h.ok I.eB;exact ⟨b,r,p,z⟩
 .
  refine ⟨b.toList,r,⟨o,I.uD a o d,c,n,by simpa using f⟩,?_⟩;have e:=r.length;simp only [afA] at e;lia
theorem Inv.qU (I:Inv X pins U H s) (h:aW X.K H a xs) (b:aW X.K H a ys):xs=ys:=by
 obtain ⟨B,r,⟨o,n,e,Z,Z,d⟩,Z⟩:=I.list h;obtain ⟨x,R,⟨O,N,E,Z,Z,D⟩,Z⟩:=I.list b;rw [e] at E;cases E;rw [d] at D;injection D with d1 _;have:=by simpa using acJ Array.toList d1
 subst this;exact r.inj R
theorem Inv.Ho (I:Inv X pins U H s) (h:cw X.K H a xs) (b:cw X.K H a ys):xs=ys:=by
 obtain ⟨B,r,⟨o,e,Z,n,d⟩,Z⟩:=I.tuple h;obtain ⟨x,R,⟨O,E,Z,N,D⟩,Z⟩:=I.tuple b;rw [e] at E;cases E;rw [d] at D;injection D with d1 _;have:=by simpa using acJ Array.toList d1
 subst this;exact r.inj R
end
abbrev Cx.qz (X:Cx) (E:ay->Shared->Prop):Cx:={ X with xe:=E }
abbrev Cx.Ir (X:Cx):Cx:=X.qz λ _ _=>False
theorem Cx.Ok.qz {X:Cx} (ok:X.Ok) (E:ay->Shared->Prop):(X.qz E).Ok :=
 ⟨ok.mod,ok.kind,ok.glob,ok.blt,ok.above,ok.inj,ok.has,ok.Va,ok.hd,ok.frames,ok.Y0,ok.exf,ok.bs,ok.NM,ok.IJ,ok.Nr,ok.uW,ok.P8⟩
theorem Cx.Ok.nR {X:Cx} {E:ay->Shared->Prop} (ok:(X.qz E).Ok):X.Ok :=
 ⟨ok.mod,ok.kind,ok.glob,ok.blt,ok.above,ok.inj,ok.has,ok.Va,ok.hd,ok.frames,ok.Y0,ok.exf,ok.bs,ok.NM,ok.IJ,ok.Nr,ok.uW,ok.P8⟩
section
variable {X:Cx} {pins:List (ak×Obj)} {U:St} {H:Hp} {s:Shared} {E:ay->Shared->Prop}
theorem Inv.qz (I:Inv X pins U H s) (E:ay->Shared->Prop):Inv (X.qz E) pins U H s:=⟨I.ok.qz E,I.os,I.bare,I.base,I.loc,I.cell,I.free,I.pC,I.pin,I.eB,I.len⟩
theorem Inv.nR (I:Inv (X.qz E) pins U H s):Inv X pins U H s:=⟨I.ok.nR,I.os,I.bare,I.base,I.loc,I.cell,I.free,I.pC,I.pin,I.eB,I.len⟩
theorem SP.nR {D:Ends} {f:Flow} (h:SP (X.qz E) pins D f s'):SP X pins D f s':=by
 cases f with
 | next=>obtain ⟨a,H,I,q⟩:=h;exact ⟨a,H,I.nR,q⟩
 | brk=>obtain ⟨a,H,I,q⟩:=h;exact ⟨a,H,I.nR,q⟩
 | cont=>obtain ⟨a,H,I,q⟩:=h;exact ⟨a,H,I.nR,q⟩
 | ret u=>obtain ⟨v,a,H,I,r,q⟩:=h;exact ⟨v,a,H,I.nR,r,q⟩
theorem xA.Ir {st:List Stmt} {t:TS} (h:xA X.Ir st t):xA X st t:=λ pins s U H D I a =>
 adE (h pins s U H D (I.qz _) a) (λ Z Z q=>q.nR) λ Z Z z=>False.elim z
end
section
variable {X:Cx} {st:Stmt} {rest:List Stmt} {t u:TS} {e:Expr} {te:TE} {pos:Pos}
def Ur:TS:=λ D U H=>D.nx U H
def bg (t u:TS):TS:=λ D U H=>t { D with nx:=u D } U H
theorem aR:xA X [] Ur:=λ Z Z U H Z I h=>afC ⟨U,H,I,h⟩
theorem ag (c:PS X st t) (d:xA X rest u):xA X (st::rest) (bg t u):=by
 intro p s U H D I h;refine wpAny_execs_cons (dC (c p s U H { D with nx:=u D } I h) λ f S q=>?_);cases f with
 | next =>
   obtain ⟨a,b,i,q⟩:=q;exact d p S a b D i q
 | ret v=>exact q
 | brk=>exact q
 | cont=>exact q
theorem ar (a:PS X st t):xA X [st] t:=by
 intro p s U H D I h;refine wpAny_execs_cons (dC (a p s U H D I h) λ f S q=>?_);cases f with
 | next=>exact afC q
 | ret v=>exact q
 | brk=>exact q
 | cont=>exact q
theorem Inv.quiet {p:List (ak×Obj)} {s:Shared} (I:Inv X p U H s):interactive X.env=false:=by simp [interactive,I.ok.kind]
def Wr (t:TE):TS:=λ D U H=>t U H λ Z h=>D.nx U h
theorem aV (b:PE X e te) (c:autoParam (swapsWith e none pos.line X.env=pure false) za_._auto_1):PS X (.Expr e pos) (Wr te):=by
 intro p s U H D I h;exact wpAny_Expr_any (dC (b p s U H _ I h) λ v S ⟨x,a,i,r,q⟩=>⟨U,a,i,q⟩) I.quiet c
def adn (t:TE):TS:=λ D U H=>t U H D.rt
theorem aO (b:PE X e te):PS X (.Return (some e) pos) (adn te):=by
 intro p s U H D I h;exact wpAny_Return_some (dC (b p s U H _ I h) λ v S ⟨x,a,i,r,q⟩=>⟨x,U,a,i,r,q⟩)
def adw (c:TT) (t u:TS):TS:=λ D U H=>c U H λ b h=>if b=true then t D U h else u D U h
theorem bA {c:Expr} {a b:List Stmt} {T:TT} (j:PT X c T) (f:xA X a t) (g:xA X b u):PS X (.If c a b pos) (adw T t u):=by
 intro p s U H D I h;refine wpAny_If (dC (j p s U H _ I h) λ d S ⟨e,i,q⟩=>?_);cases d with
 | true=>exact f p S U e D i q
 | false=>exact g p S U e D i q
def O0:TS:=λ Z Z Z=>False
theorem cH:PS X st O0:=λ Z Z Z Z Z Z h=>h.elim
end
abbrev TG:=V->St->Hp->(St->Hp->Prop)->Prop
abbrev N8:=aB->St->Hp->(St->Hp->Prop)->Prop
def PG (X:Cx) (T:Expr) (t:TG):Prop :=
 ∀ (p:List (ak×Obj)) (s:Shared) (U:St) (H:Hp) (v:V) (u:ay) (Q:St->Hp->Prop),Inv X p U H s->RelV v u->t v U H Q ->
   wpAny (model X.prog X.w) X.A (assign T X.env u) (λ Z s'=>∃ a h,Inv X p a h s'/\Q a h) X.xe s
def RG (X:Cx) (T:List Expr) (t:N8):Prop :=
 ∀ (p:List (ak×Obj)) (s:Shared) (U:St) (H:Hp) (v:aB) (u:bB) (Q:St->Hp->Prop),Inv X p U H s->Vals v u->t v U H Q ->
   wpAny (model X.prog X.w) X.A (assignInOrder ((assignEach T X.env).map (·.2)) u) (λ Z s'=>∃ a h,Inv X p a h s'/\Q a h) X.xe s
abbrev Li:=V->V->V->Hp->(Hp->Prop)->Prop
def OR (X:Cx) (t:Li):Prop :=
 ∀ (p:List (ak×Obj)) (s:Shared) (U:St) (H:Hp) (o i v:V) (O I u:ay) (Q:Hp->Prop),Inv X p U H s->RelV o O->RelV i I->RelV v u->t o i v H Q ->
   wpAny (model X.prog X.w) X.A (setItem O I u) (λ Z s'=>∃ h,Inv X p U h s'/\Q h) X.xe s
abbrev Sa:=V->V->Hp->VK->Prop
def YB (X:Cx) (o:Operator) (t:Sa):Prop :=
 ∀ (p:List (ak×Obj)) (s:Shared) (U:St) (H:Hp) (x y:V) (v u:ay) (Q:VK),Inv X p U H s->RelV x v->RelV y u->t x y H Q ->
   wpAny (model X.prog X.w) X.A (inplaceOp o v u) (EP X p U Q) X.xe s
section
variable {X:Cx} {pos:Pos}
def vG (i:Nat):TG:=λ v U H Q=>Q (U.set i (some v)) H
theorem E1 {i:Nat} {x:Str} (b:X.N.Nodup) (d:X.N[i]?=some x) (e:Loc X.env.scope x) (c:autoParam (Wn X x) zd_._auto_1):PG X (.Name x pos) (vG i):=by
 intro p s U H v u Q I r h;exact wpAny_assign_Name (xb I b d e r (λ s' a=>⟨_,H,a,h⟩) c)
def aaP:N8:=λ v U H Q=>v=[]/\Q U H
def TJ (t:TG) (u:N8) (vs:aB) (U:St) (H:Hp) (Q:(St->Hp->Prop)):Prop:=match vs with
 | v::r=>t v U H λ a h=>u r a h Q
 | []=>False
theorem cJ:RG X [] aaP:=by
 intro p s U H v u Q I r h;obtain ⟨e,h⟩:=h;subst e;exact assignInOrder_nil ⟨U,H,I,h⟩
theorem aL {e:Expr} {t:TG} {u:N8} (c:PG X e t) (d:RG X es u) (f:autoParam ((assignEach (e::es) X.env).map (·.2)=assign e X.env::(assignEach es X.env).map (·.2)) za_._auto_1):RG X (e::es) (TJ t u):=by
 intro p s U H v g Q I r h;cases r with
 | nil=>cases h
 | cons r R =>
   rw [f];exact assignInOrder_cons (dC (c p s U H _ _ _ I r h) λ Z S ⟨a,b,i,q⟩=>d p S a b _ _ Q i R q)
inductive aao (K:aF) (n:Nat) (t:N8) (a:ak) (U:St) (H:Hp) (Q:(St->Hp->Prop)):Prop
 | mk {xs:_} (_:cw K H a xs) (_:xs.length=n) (_:t xs U H Q)
def Sc (x:V) (f:ak->Prop):Prop:=match x with
 | .ref a=>f a
 | _=>False
theorem wT {x:V} {f:ak->Prop} (h:Sc x f):∃ a,x = .ref a/\f a:=by
 unfold Sc at h;split at h
 . exact ⟨_,rfl,h⟩
 . cases h
def VA (K:aF) (n:Nat) (t:N8) (v:V) (U:St) (H:Hp) (Q:(St->Hp->Prop)):Prop:=Sc v λ a=>aao K n t a U H Q
theorem QR {k:Nat} {t:N8} {n:Nat} (d:X.calm=true) (h:RG X es t) (g:autoParam ((assignEach es X.env).length=n) za_._auto_1) (m:autoParam ((assignEach es X.env).findIdx? (·.1)=none) za_._auto_1):PG X (.Tuple es k pos) (VA X.K n t):=by
 intro p s U H v u Q I r c;obtain ⟨a,rfl,i,f,c⟩:=wT c
 rename_i x
 cases r;obtain ⟨B,R,j,w⟩:=I.tuple i;refine assign_Tuple_tuple (I.ok.hd d) j (by simp [g,<- f,R.length]) m λ q l=>?_;exact h p _ U H x _ Q (I.kept (t':=s.toks) λ b o e=>l b o (abN (aba e)) e) (by simpa using R) c
def abO (c T:TE) (t:Li):TG:=λ v U H Q=>c U H λ o h=>T U h λ i a=>t o i v a λ b=>Q U b
theorem sj {o i:Expr} {t:Li} (l:PE X o to) (k:PE X i ti) (m:OR X t) (j:∀ v,assign (.Subscript o i pos) X.env v=(do
     let O <- holding [v] (eval o X.env)
     let a <- holding [v,O] (eval i X.env)
     standAt pos
     holding [v,O,a] (setItem O a v)
     release [v,O,a] []):=by intro Z;rfl):PG X (.Subscript o i pos) (abO to ti t):=by
 intro p s U H v u Q I r h;rw [j];refine aam (adP (dC (l p s U H _ I h) λ O S ⟨x,b,e,R,q⟩=>aam (adP (dC (k p S U b _ e q) λ a A ⟨y,c,f,z,n⟩=>?_))));exact aam (af5 (aam (adP (dC (m p A U c x y v O a u _ f R z r n) λ Z B ⟨d,g,w⟩=>wpAny_release ⟨U,d,g,w⟩))))
def J8 (t:TE) (g:TG):TS:=λ D U H=>t U H λ x h=>g x U h D.nx
theorem gL {e:Expr} (c:PE X e te) (d:PG X tg g) (f:autoParam (swapsWithSole [tg] e pos.line X.env=pure false) za_._auto_1) (hw:autoParam (swappedStores [tg] e X.env=pure none) za_._auto_1) (b:autoParam ((assignEach [tg] X.env).map (·.2)=[assign tg X.env]) za_._auto_1):PS X (.Assign [tg] e pos) (J8 te g):=by
 intro p s U H D I h;refine wpAny_Assign_stores (dC (c p s U H _ I h) λ v S ⟨x,a,i,r,Q⟩=>?_) f hw;rw [b];exact dC (d p S U a x v _ i r Q) λ Z j q=>q
theorem QP {i:Nat} {x:Str} {e:Expr} (d:X.N.Nodup) (j:X.N[i]?=some x) (l:Loc X.env.scope x) (f:PE X e te) (k:autoParam (swapsWith e (some (.Name x pos')) pos.line X.env=pure false) za_._auto_1) (g:autoParam (Wn X x) zd_._auto_1) :
   PS X (.Assign [.Name x pos'] e pos) (J8 te (vG i)):=by
 intro p s U H D I h;exact wpAny_Assign_Name (dC (f p s U H _ I h) λ v S ⟨y,a,b,r,q⟩=>xb b d j l r (λ m c=>⟨_,a,c,q⟩) g) k
def Zf (i:Nat) (t:TE) (T:Sa):TS:=λ D U H=>∃ x,U[i]?=some (some x)/\t U H λ y h=>T x y h λ z a=>D.nx (U.set i (some z)) a
theorem Ka {i:Nat} {x:Str} {e:Expr} {o:Operator} {t:Sa} (F:X.N.Nodup) (f:X.N[i]?=some x) (d:Loc X.env.scope x) (J:PE X e te) (Q:YB X o t) (K:autoParam (Wn X x) zd_._auto_1) :
   PS X (.AugAssign (.Name x pos') o e pos) (Zf i te t):=by
 intro p s U H D I h;obtain ⟨v,E,h⟩:=h;obtain ⟨m,O,L⟩:=I.loc;have V:RR X.env.scope x:=by rcases d with k|k;exact .inl k;exact .inr (.inl k)
 obtain ⟨u,r,l⟩:=L i x v f E V;refine wpAny_AugAssign_Name ?_;have g:wpAny (model X.prog X.w) X.A (eval e X.env) (λ w S=>wpAny (model X.prog X.w) X.A (inplaceOp o u w) (λ r b=>wpAny (model X.prog X.w) X.A (storeName X.env x r) (λ Z=>SP X p D .next) X.xe b) X.xe S) X.xe s:=by
   refine dC (J p s U H _ I h) λ w s1 ⟨y,j,q,Y,T⟩=>?_;exact dC (Q p s1 U j v y u w _ q r Y T) λ z s2 ⟨zv,n,B,r2,W⟩=>xb B F f d r2 (λ s3 C=>⟨_,n,C,W⟩) K
 rcases l with ⟨a,M⟩|⟨a,c,G,R⟩
 . exact wpAny_loadName_local I.ok.kind a O M g
 .
  rcases a with a|a
  . exact wpAny_loadName_cell I.ok.kind a G R g
  .
   rcases d with k|k
   . have:X.env.scope.names.lookup x=some .free:=a;rw [k] at this;cases this
   . have:X.env.scope.names.lookup x=some .free:=a;rw [k] at this;cases this
def Wi (f T t:TE) (m:V->V->Hp->VK->Prop) (Y:Sa) (M:Li):TS:=λ D U H=>f U H λ o h=>T U h λ i a=>m o i a λ x b=>t U b λ y c=>Y x y c λ z d=>M o i z d λ e=>D.nx U e
def Sx (X:Cx) (t:V->V->Hp->VK->Prop):Prop :=
 ∀ (p:List (ak×Obj)) (s:Shared) (U:St) (H:Hp) (o i:V) (O I:ay) (Q:VK),Inv X p U H s->RelV o O->RelV i I->t o i H Q ->
   wpAny (model X.prog X.w) X.A (getItem O I) (EP X p U Q) X.xe s
theorem NE {o i e:Expr} {m:V->V->Hp->VK->Prop} {Y:Sa} {M:Li} {c:Operator} {rF:Pos} (G:PE X o to) (F:PE X i ti) (E:Sx X m) (C:PE X e te) (J:YB X c Y) (K:OR X M) (B:∀ O a n,augStore i O a n=(do holding [n,O,a] (setItem O a n);release [n,O,a] [];pure .next):=by intros;rfl):PS X (.AugAssign (.Subscript o i rF) c e pos) (Wi to ti te m Y M):=by
 intro p s U H D I h;refine wpAny_AugAssign_SubscriptAny (dC (G p s U H _ I h) λ O s1 ⟨x,f,t,r,Q⟩=>dC (F p s1 U f _ t Q) λ a s2 ⟨d,g,u,R,L⟩=>?_) B;refine dC (E p s2 U g x d O a _ u r R L) λ b s3 ⟨x3,j,w,r3,N⟩=>dC (C p s3 U j _ w N) λ v s4 ⟨x4,k,y,r4,S⟩=>?_;exact dC (J p s4 U k x3 x4 b v _ y r3 r4 S) λ n s5 ⟨x5,l,z,r5,T⟩=>dC (K p s5 U l x d x5 O a n _ z r R r5 T) λ Z s6 ⟨q,A,W⟩=>⟨U,q,A,W⟩
def ipI (f:Int->Int->Int):Sa:=λ x y H Q=>∃ i j,x = .int i/\y = .int j/\Q (.int (f i j)) H
theorem K2:YB X .Add (ipI λ i j=>i+j):=by
 intro p s U H x y v u Q I r R h;obtain ⟨i,j,e,E,q⟩:=h;subst e;subst E;obtain ⟨t,rfl⟩:=r;obtain ⟨t',rfl⟩:=R;exact iadd_int ⟨.int _,H,I.tok _,⟨_,rfl⟩,q⟩
theorem Px:YB X .Sub (ipI λ i j=>i - j):=by
 intro p s U H x y v u Q I r R h;obtain ⟨i,j,e,E,q⟩:=h;subst e;subst E;obtain ⟨t,rfl⟩:=r;obtain ⟨t',rfl⟩:=R;exact isub_int ⟨.int _,H,I.tok _,⟨_,rfl⟩,q⟩
end
section
variable {X:Cx} {pos:Pos}
def OW (c:TT) (tb:TS):TS:=λ D U H=>∃ W:Nat->St->Hp->Prop,(∃ m,W m U H)/\∀ m U H,W m U H ->
 c U H λ b d=>if b=true then ∃ N:St->Hp->Prop,(∀ a h,N a h->∃ M,M<m/\W M a h)/\tb { D with nx:=N,ct:=N,bk:=D.nx } U d else D.nx U d
theorem nu {c:Expr} {B:List Stmt} {T:TT} (z:PassesOwn (model X.prog X.w) X.A X.env X.xe) (F:PT X c T) (E:xA X B tb):PS X (.While c B [] pos) (OW T tb):=by
 intro p s U H D I h;obtain ⟨W,⟨M,J⟩,t⟩:=h;refine wpAny_While (codeAny_whileLoop (λ n s'=>∃ g o,Inv X p g o s'/\W n g o) ?_ M ⟨U,H,I,J⟩);rintro n S ⟨d,r,C,K⟩;refine aeo z (dC (F p S d r _ C (t n d r K)) λ b G ⟨u,x,q⟩=>?_);cases b with
 | true =>
   obtain ⟨N,y,q⟩:=q;refine aeo z (dC (E p G d u _ x q) λ f L Q=>?_);cases f with
   | next =>
     obtain ⟨a,e,i,k⟩:=Q;obtain ⟨m,j,l⟩:=y a e k;exact ⟨m,j,a,e,i,l⟩
   | cont =>
     obtain ⟨a,e,i,k⟩:=Q;obtain ⟨m,j,l⟩:=y a e k;exact ⟨m,j,a,e,i,l⟩
   | brk=>exact Q
   | ret v=>exact Q
 | false =>
   exact afC ⟨d,u,x,q⟩
end
structure It where
 go:Nat->Hp->Prop
 Lv:Nat->Hp->V->Hp->Prop
 stop:Nat->Hp->Prop
def xC (X:Cx) (a:List (ak×Obj)) (H:Hp) (b:ak):Prop :=
 H b=none/\b≠X.env.locals/\b∉X.fs/\(b∈X.ex\/X.s₀.heap.objs.size<=b)/\(∀ x c,X.env.cells.lookup x=some c->c≠b)/\∀ p∈X.pn++a,p.1≠b
theorem Inv.Ca {X:Cx} {a:List (ak×Obj)} {d:Hp} {s:Shared} {b:ak} (I:Inv X a U H s) (h:s.heap.objs.size<=b) (f:d b=none):xC X a d b:=by
 refine ⟨f,aeh (aa6 I.lt h),I.adD h,.inr (aaX I.sz h),λ x c e z=>?_,λ p g z=>?_⟩
 . obtain ⟨v,q⟩:=I.cell x c e;exact absurd (aa6 q.lt (by rw [z];exact h)) (adB _)
 . exact absurd (aa6 (aba (I.pin p g).1) (by rw [z];exact h)) (adB _)
structure Turn (P:bq) (w:bi) (K:aF) (tg:Expr) (J:It) (fp:bp) (it:ak) (tn:Nat->bx->Prop):Prop where
 mem:it∈fp
 obj:∀ i h,tn i h->∀ b∈fp,∃ o,h.get? b=some o/\∀ v,o.data ≠ .cell v
 keep:∀ i h h',tn i h->(∀ b∈fp,∀ o,h.get? b=some o->h'.get? b=some o)->tn i h'
 item:∀ (X:Cx),X.prog=P->X.w=w->X.K=K->X.calm=true->∀ (i:Nat) (pins:List (ak×Obj)) (s:Shared) (U:St) (H:Hp) (E:ay->Shared->Prop),Inv X pins U H s->(∀ b∈fp,xC X pins H b)->tn i s.heap->J.go i H ->
   wpAny (model P w) X.A (pyNext (.ref it)) (λ r s1=>∃ u,r=some u /\
     wpAny (model P w) X.A (letOwnedTupleGo tg (.ref it) u) (λ _ s2=>∃ x H',Inv X pins U H' s2/\RelV x u/\J.Lv i H x H'/\tn (i+1) s2.heap/\∀ b∈fp,H' b=none) E s1) E s
 done:∀ (X:Cx),X.prog=P->X.w=w->X.K=K->X.calm=true->∀ (i:Nat) (pins:List (ak×Obj)) (s:Shared) (U:St) (H:Hp) (E:ay->Shared->Prop),Inv X pins U H s->(∀ b∈fp,xC X pins H b)->tn i s.heap->J.stop i H ->
   wpAny (model P w) X.A (pyNext (.ref it)) (λ r s1=>r=none/\Inv X pins U H s1) E s
 self:∀ (A:Around) (i:Nat) (s:Shared) (Q:ay->Shared->Prop) (E:ay->Shared->Prop),tn i s.heap->Q (.ref it) s->wpAny (model P w) A (pyIter (.ref it)) Q E s
abbrev TI:=St->Hp->(It->Hp->Prop)->Prop
def PIE (X:Cx) (p:List (ak×Obj)) (U:St) (T:Expr) (R:It->Hp->Prop) (i:ay) (s:Shared):Prop :=
 ∃ (I:ak) (f:bp) (t:Nat->bx->Prop) (J:It) (H:Hp),i = .ref I/\Inv X p U H s/\Turn X.prog X.w X.K T J f I t/\t 0 s.heap/\(∀ b∈f,xC X p H b)/\R J H
def PI (X:Cx) (t i:Expr) (W:TI):Prop :=
 ∀ (p:List (ak×Obj)) (s:Shared) (U:St) (H:Hp) (R:It->Hp->Prop),Inv X p U H s->W U H R ->
   wpAny (model X.prog X.w) X.A (eval i X.env) (λ v S=>wpAny (model X.prog X.w) X.A (pyIter v) (PIE X p U t R) X.xe S) X.xe s
theorem Ox {M:Model} {A:Around} {E:ay->Shared->Prop} {s:Shared} {i:ak} {u:ay} {o:Obj} {n:String} {vs:Array ay} {Q:Unit->Shared->Prop} (d:s.heap.get? i=some o) (a:o.cls = .type n) (b:o.data = .fields vs) (c:["enumerate","zip","dict_itemiterator","dict_reverseitemiterator","odict_iterator","itertools.zip_longest","itertools.pairwise"].contains n=false) (H:Q () s):wpAny M A (letOwnedTupleGo tg (.ref i) u) Q E s:=by
 cases tg<;>first
   | exact aaW H
   | (cases u<;>first
       | exact aaW H
       | (refine aam (wpAny_load d ?_)
          rw [a,b];show wpAny M A (if (["enumerate","zip","dict_itemiterator","dict_reverseitemiterator","odict_iterator","itertools.zip_longest","itertools.pairwise"].contains n && vs[0]? == some (rawInt _))=true then _ else _) Q E s;rw [abC (by intro h;rw [c] at h;cases h)];exact aaW H))
def OK (K:aF) (a:ak):It :=
 ⟨λ i H=>∃ X x,aW K H a X/\X[i]?=some x,λ i H x h=>h=H/\∀ X,aW K H a X->X[i]?=some x,λ i H=>∃ X,aW K H a X/\X.length<=i⟩
noncomputable def Ms (lo:Int) (n:Nat):It:=⟨λ i Z=>i<n,λ i H x h=>h=H/\x = .int (lo+i),λ i Z=>n<=i⟩
theorem Gp {P:bq} {w:bi} {K:aF} (a g:ak):Turn P w K tg (OK K a) [g] g (λ i h=>h.IsListIter g a i) where
 mem:=by simp
 obj:=λ i h S b f=>by
   have e:=by simpa using f
   subst e;obtain ⟨o,e,c,d⟩:=S;exact ⟨o,e,λ v z=>by rw [d] at z;cases z⟩
 keep:=λ i h G S k=>S.at λ o e=>k g (by simp) o e
 item:=by
   intro X A C y J i j s U H E I l S B;subst A C y;obtain ⟨xs,x,m,D⟩:=B;obtain ⟨L,R,p,V⟩:=I.list m;obtain ⟨u,Q,W⟩:=R.get D;obtain ⟨F,n,O,q,r,t⟩:=l g (by simp);refine wpAny_pyNext_list_item S p.isList (by simpa using Q) λ G N Y=>?_;obtain ⟨o,e,c,d⟩:=id N;exact ⟨u,rfl,Ox e c d (by decide) ⟨x,H,I.turned (t':=s.toks) (λ b o f e=>(Y.2 b f).trans e) F n q r t,W,⟨rfl,λ ys T=>by rw [I.qU T m];exact D⟩,N,λ b f=>(l b f).1⟩⟩
 done:=by
   intro X A C y J i j s U H E I l S B;subst A C y;obtain ⟨xs,m,D⟩:=B;obtain ⟨L,R,p,V⟩:=I.list m;obtain ⟨F,n,O,q,r,t⟩:=l g (by simp);have hl:=R.length;exact wpAny_pyNext_list_end (I.ok.hd J) S p.isList (by simp;lia) λ G M=>⟨rfl,I.turned (λ b o f e=>M b o f e) F n q r t⟩
 self:=λ Z Z Z Z Z S h=>wpAny_pyIter_listiter S h
theorem Ds {P:bq} {w:bi} {K:aF} (a:ak) (lo:Int) (n:Nat):Turn P w K tg (Ms lo n) [a] a (λ i h=>IsRangeIter h a (lo+(i:Nat) * 1) ((n:Int) - (i:Nat)) 1) where
 mem:=by simp
 obj:=λ i h S b c=>by
   simp_all
 keep:=λ i h r S k=>k a (by simp) _ S
 item:=by
   intro X x y u m i p s U H E I d S q;subst x y u;obtain ⟨f,F,A,g,j,l⟩:=d a (by simp);refine (Walks.range (prog:=X.prog) (w:=X.w) (I.ok.hd m) a lo 1 n).item i s _ _ q S λ v r T B N C=>?_;obtain ⟨t,rfl⟩:=B;refine ⟨_,rfl,Ox N rfl rfl (by decide) ⟨.int (lo+i),H,I.turned (λ b o c e=>C b o (by simpa using c) e) f F g j l,⟨t,?_⟩,⟨rfl,rfl⟩,N,λ b c=>(d b c).1⟩⟩;rw [Int.mul_one]
 done:=by
   intro X x y u m i p s U H E I d S q;obtain ⟨f,F,A,g,j,l⟩:=d a (by simp);exact wpAny_pyNext_range_end (I.ok.hd m) S (by have:n<=i:=q;lia) λ r z=>⟨rfl,I.turned (λ b o c e=>z b o c e) f F g j l⟩
 self:=λ Z Z Z Z Z S h=>wpAny_pyIter_rangeiter S h
section
variable {X:Cx} {tg:Expr}
def acm (K:aF) (R:It->Hp->Prop) (x:V) (H:Hp):Prop:=Sc x λ a=>(∃ X,aW K H a X)/\R (OK K a) H
def NZ (K:aF) (t:TE):TI:=λ U H R=>t U H (acm K R)
theorem bw {l:Expr} {t:TE} (g:PE X l t):PI X tg l (NZ X.K t):=by
 intro c s U H R I h;refine dC (g c s U H _ I h) λ v S ⟨x,d,i,r,Q⟩=>?_;obtain ⟨a,e,⟨n,j⟩,q⟩:=wT Q;subst e;cases r;obtain ⟨B,m,p,k⟩:=i.list j;refine age p.isList (⟨S.heap.objs.size,[S.heap.objs.size],_,_,d,rfl,i.kept λ b o e=>aaF _ e,Gp a _,⟨_,abW _ rfl,rfl,rfl⟩,λ b f=>?_,q⟩);have e:=by simpa using f
 subst e;exact i.Ca (aaE _) (i.eB.fresh (aaE _))
theorem KO {p:List (ak×Obj)} {s:Shared} {R:It->Hp->Prop} {E:ay->Shared->Prop} {lo h:Int} {t u v:Tok} {T:Nat} (I:Inv X p U H s) (d : -(2 ^ 62)<=lo) (f:lo<2 ^ 62) (g : -(2 ^ 62)<=h) (j:h<2 ^ 62) (q:R (Ms lo (h - lo).toNat) H):wpAny (model X.prog X.w) X.A (pyIter (.ref s.heap.objs.size)) (PIE X p U tg R) E { s with heap:=s.heap.push { cls:=.type "range",data:=.fields #[.int lo t,.int h u,.int 1 v]},toks:=T }:=by
 refine wpAny_pyIter_range (IsRange.new ..) (small_one d f g j) ?_;have i:Inv X p U H { s with heap:=s.heap.push { cls:=.type "range",data:=.fields #[.int lo t,.int h u,.int 1 v]},toks:=T }:=I.kept λ b o e=>aaF _ e;refine ⟨(s.heap.push { cls:=.type "range",data:=.fields #[.int lo t,.int h u,.int 1 v]}).objs.size,[(s.heap.push { cls:=.type "range",data:=.fields #[.int lo t,.int h u,.int 1 v]}).objs.size],_,_,H,rfl,
   i.kept λ b o e=>aaF _ e,Ds _ lo (h - lo).toNat,?_,λ b k=>?_,q⟩
 .
  have a:lo+((0:Nat)) * 1=lo:=by simp
  have c:(((h - lo).toNat:Nat)) - ((0:Nat))=Builtin.Range.rangeSize lo h 1:=by rw [rangeSize_one];split<;>lia
  rw [a,c];exact abW _ rfl
 . have e:b=(s.heap.push { cls:=.type "range",data:=.fields #[.int lo t,.int h u,.int 1 v]}).objs.size:=by simpa using k
   subst e;exact i.Ca (aaE _) (i.eB.fresh (aaE _))
inductive aaq (R:It->Hp->Prop) (vs:aB) (H1:Hp):Prop
 | mk (j:Int) (h1:vs=[.int j]) (h2 : -(2 ^ 62)<=j) (h3:j<2 ^ 62) (q:R (Ms 0 j.toNat) H1)
def WR (t:TA):TI:=λ U H R=>t U H (aaq R)
theorem bY {a:Expr} {T:TA} {p c:Pos} (f:Gl X "range") (g:X.mg "range" = none) (d:PA X [a] T) (k:autoParam (starEach [a] X.env=[(false,eval a X.env)]) za_._auto_1):PI X tg (.Call (.Name "range" p) [a] [] c) (WR T):=by
 intro b s U H R I h;refine Call_ (ke I f g boot_range (acH (dC (d c b s U H _ I h) λ u S ⟨v,o,i,m,Q⟩=>?_) k rfl));obtain ⟨j,e,Q,l,q⟩:=Q;subst e;cases m with
 | cons r n =>
   cases n;obtain ⟨t,rfl⟩:=r;exact call_range_1 (KO i (by lia) (by lia) Q l (by simpa using q))
def Y5 (w:TI) (g:TG) (tb:TS):TS:=λ D U H=>w U H λ J c=>∃ W:Nat->Nat->St->Hp->Prop,(∃ m,W 0 m U c)/\∀ i m U H,W i m U H ->
 (J.stop i H/\D.nx U H)\/(J.go i H/\∃ N:St->Hp->Prop,(∀ a h,N a h->∃ M,M<m/\W (i+1) M a h)/\∀ x h,J.Lv i H x h->g x U h λ b d=>tb { D with nx:=N,ct:=N,bk:=D.nx } b d)
noncomputable def wu (f:bp) (h:bx):List (ak×Obj):=f.filterMap λ b=>(h.get? b).map λ o=>(b,o)
theorem lR {f:bp} {h:bx} {b:ak} {o:Obj} (H:b∈f) (e:h.get? b=some o):(b,o)∈wu f h:=adV.mpr ⟨b,H,by rw [e];rfl⟩
theorem HH {f:bp} {h:bx} {p:ak×Obj} (a:p∈wu f h):p.1∈f/\h.get? p.1=some p.2:=by
 obtain ⟨b,H,e⟩:=adV.mp a;cases q:h.get? b with
 | none=>rw [q] at e;cases e
 | some o =>
   rw [q] at e;have E:=abb e;subst E;exact ⟨H,q⟩
theorem Inv.pinned {a:List (ak×Obj)} {s:Shared} {f:bp} (I:Inv X a U H s) (i:∀ b∈f,xC X a H b) (j:∀ b∈f,∃ o,s.heap.get? b=some o/\∀ v,o.data ≠ .cell v):Inv X (a++wu f s.heap) U H s :=
 I.FM λ p k=>(aaU.mp k).elim (λ z=>I.pin p (acp _ z)) λ z=>by
   obtain ⟨h,e⟩:=HH z;obtain ⟨F,c,g,Z⟩:=i p.1 h;obtain ⟨o,E,d⟩:=j p.1 h;rw [e] at E;cases E;exact ⟨e,F,c,g,d⟩
theorem Inv.rf {a b:List (ak×Obj)} {s:Shared} (I:Inv X (a++b) U H s):Inv X a U H s:=I.FM λ p h=>I.pin p (acp _ (acR _ h))
theorem cA {q:Expr} {B:List Stmt} {wi:TI} {V:Pos} (C:PassesOwn (model X.prog X.w) X.A X.env X.xe) (hc:X.calm=true) (hi:PI X tg q wi) (hg:PG X tg g) (l:xA X B tb) (hs:∀ x,foldedSetIterable q X.env x=pure x:=by intro _;rfl):PS X (.For tg q B [] V) (Y5 wi g tb):=by
 intro p s U H D I h;refine wpAny_For (dC (hi p s U H _ I h) λ v s1 h1=>dC h1 λ ad s2 h2=>?_) hs;obtain ⟨it,F,tn,J,H2,e,I2,T,Yz,f2,W,⟨m0,w0⟩,K⟩:=h2;subst e;have M:∀ {H':Hp},(∀ b∈F,H' b=none)->∀ b∈F,xC X p H' b:=λ hn b l=>⟨hn b l,(f2 b l).2⟩
 refine codeAny_forLoop_any (λ n s'=>∃ i t H',Inv X p t H' s'/\tn i s'.heap/\(∀ b∈F,H' b=none)/\W i n t H') ?_ m0 ⟨0,U,H2,I2,Yz,λ b l=>(f2 b l).1,w0⟩;rintro n s3 ⟨i,y,L,I3,SU,z,w3⟩;rcases K i n y L w3 with ⟨G,qn⟩|⟨go,N,hN,S⟩
 . refine aeo C (dC (T.done X rfl rfl rfl hc i p s3 y L X.xe I3 (M z) SU G) λ r s4 ⟨R,I4⟩=>?_);subst R;exact afC ⟨y,L,I4,qn⟩
 .
  refine aeo C (dC (T.item X rfl rfl rfl hc i p s3 y L X.xe I3 (M z) SU go) λ r s4 ⟨u,R,h4⟩=>?_);subst R;refine aeo C (dC h4 λ _ s5 ⟨x,H5,I5,r5,y5,O,Yg⟩=>?_);refine aeo C (dC (hg _ s5 y H5 x u _ (I5.pinned (M Yg) (T.obj _ _ O)) r5 (S x H5 y5)) λ _ s6 ⟨ab,H6,I6,q6⟩=>aeo C (dC (l _ s6 ab H6 _ I6 q6) λ f Y Q=>?_));have k:∀ {a:St} {c:Hp},Inv X (p++wu F s5.heap) a c Y->N a c->∃ m,m<n/\∃ i t H',Inv X p t H' Y/\tn i Y.heap/\(∀ b∈F,H' b=none)/\W i m t H':=λ {a c} j E=>by
    obtain ⟨m',hm,w7⟩:=hN a c E;refine ⟨m',hm,i+1,a,c,j.rf,T.keep _ _ _ O λ b l o e=>(j.pin (b,o) (acp _ (acp _ (lR l e)))).1,λ b l=>?_,w7⟩;obtain ⟨o,e,d⟩:=T.obj _ _ O b l;exact (j.pin (b,o) (acp _ (acp _ (lR l e)))).2.1
  cases f with
  | next=>obtain ⟨a,c,j,E⟩:=Q;exact k j E
  | cont=>obtain ⟨a,c,j,E⟩:=Q;exact k j E
  | brk=>obtain ⟨a,c,j,Q⟩:=Q;exact ⟨a,c,j.rf,Q⟩
  | ret v=>obtain ⟨x7,a,c,j,r7,Q⟩:=Q;exact ⟨x7,a,c,j.rf,r7,Q⟩
end
theorem jZ {K:aF} {a:ak} {xs:aB} {D:Ends} (b:Nat->St->Hp->Prop) (j:b 0 U H) (o:∀ i U H,i<=xs.length->b i U H->aW K H a xs) (r:∀ i x U H,xs[i]?=some x->b i U H->g x U H λ d f=>tb { D with nx:=b (i+1),ct:=b (i+1),bk:=D.nx } d f) (k:∀ U H,b xs.length U H->D.nx U H) :
   ∃ W:Nat->Nat->St->Hp->Prop,(∃ m,W 0 m U H)/\∀ i m U H,W i m U H ->
     ((OK K a).stop i H/\D.nx U H)\/((OK K a).go i H/\∃ N:St->Hp->Prop,(∀ c h,N c h->∃ m',m'<m/\W (i+1) m' c h)/\∀ x h,(OK K a).Lv i H x h->g x U h λ d f=>tb { D with nx:=N,ct:=N,bk:=D.nx } d f):=by
 refine ⟨λ i m U H=>m=xs.length - i/\i<=xs.length/\b i U H,⟨xs.length,by simp,ab2 _,j⟩,?_⟩;rintro i m U H ⟨rfl,n,p⟩;have q:=o i U H n p;by_cases l:i<xs.length
 .
  refine .inr ⟨⟨xs,xs[i],q,by simp [l]⟩,b (i+1),λ c h s=>⟨xs.length - (i+1),by lia,rfl,l,s⟩,λ x h y=>?_⟩;obtain ⟨e,y⟩:=y;subst e;exact r i x U _ (y xs q) p
 . have e:i=xs.length:=by lia
   subst e;exact .inl ⟨⟨xs,q,aaE _⟩,k U H p⟩
theorem sJ {lo:Int} {n:Nat} {D:Ends} (a:Nat->St->Hp->Prop) (f:a 0 U H) (k:∀ i U H,i<n->a i U H->g (.int (lo+i)) U H λ c d=>tb { D with nx:=a (i+1),ct:=a (i+1),bk:=D.nx } c d) (j:∀ U H,a n U H->D.nx U H) :
   ∃ W:Nat->Nat->St->Hp->Prop,(∃ m,W 0 m U H)/\∀ i m U H,W i m U H ->
     ((Ms lo n).stop i H/\D.nx U H)\/((Ms lo n).go i H/\∃ N:St->Hp->Prop,(∀ b h,N b h->∃ m',m'<m/\W (i+1) m' b h)/\∀ x h,(Ms lo n).Lv i H x h->g x U h λ c d=>tb { D with nx:=N,ct:=N,bk:=D.nx } c d):=by
 refine ⟨λ i m U H=>m=n - i/\i<=n/\a i U H,⟨n,by simp,ab2 _,f⟩,?_⟩;rintro i m U H ⟨rfl,q,p⟩;by_cases l:i<n
 .
  refine .inr ⟨l,a (i+1),λ b h o=>⟨n - (i+1),by lia,rfl,l,o⟩,λ x h y=>?_⟩;obtain ⟨e,y⟩:=y;subst e y;exact k i U _ l p
 . have e:i=n:=by lia
   subst e;exact .inl ⟨aaE _,j U H p⟩
abbrev R2:=V->V->Hp->VK->Prop
def jI (X:Cx) (f:ay->ay->Sem ay) (r:R2):Prop :=
 ∀ (p:List (ak×Obj)) (s:Shared) (U:St) (H:Hp) (x y:V) (v u:ay) (Q:VK),Inv X p U H s->RelV x v->RelV y u->r x y H Q ->
   wpAny (model X.prog X.w) X.A (f v u) (EP X p U Q) X.xe s
def YY (X:Cx) (f:ay->Sem ay) (r:V->Hp->VK->Prop):Prop :=
 ∀ (p:List (ak×Obj)) (s:Shared) (U:St) (H:Hp) (x:V) (v:ay) (Q:VK),Inv X p U H s->RelV x v->r x H Q ->
   wpAny (model X.prog X.w) X.A (f v) (EP X p U Q) X.xe s
def im (X:Cx) (f:ay) (r:aB->Hp->VK->Prop):Prop :=
 ∀ (p:List (ak×Obj)) (s:Shared) (U:St) (H:Hp) (x:aB) (u:bB) (Q:VK),Inv X p U H s->Vals x u->r x H Q ->
   wpAny (model X.prog X.w) X.A (call f u) (EP X p U Q) X.xe s
def WM (r:R2) (t tb:TE):TE:=λ U H Q=>t U H λ x h=>tb U h λ y a=>r x y a Q
def tUn (r:V->Hp->VK->Prop) (t:TE):TE:=λ U H Q=>t U H λ x h=>r x h Q
def tw (x y:V) (f:Int->Int->Prop):Prop:=match x,y with
 | .int i,.int j=>f i j
 | _,_=>False
theorem FO {x y:V} {f:Int->Int->Prop} (h:tw x y f):∃ i j,x = .int i/\y = .int j/\f i j:=by
 unfold tw at h;split at h
 . exact ⟨_,_,rfl,rfl,h⟩
 . cases h
theorem pD {x y:V} {f g:Int->Int->Prop} (h:tw x y f) (k:∀ i j,f i j->g i j):tw x y g:=by
 obtain ⟨i,j,rfl,rfl,q⟩:=FO h;exact k i j q
def rI (C:Int->Int->Prop) (g:Int->Int->V) (x:V) (y:V) (H:Hp) (Q:VK):Prop:=tw x y λ i j=>C i j/\Q (g i j) H
def Lr (g:Int->Int->V) (x:V) (y:V) (H:Hp) (Q:VK):Prop:=tw x y λ i j=>Q (g i j) H
inductive rU (g:Int->V) (x:V) (H:Hp) (Q:VK):Prop
 | mk (i:_) (_:x = .int i) (_:Q (g i) H)
section
variable {X:Cx} {a b c:Expr} {ta tb:TE} {pos:Pos}
theorem PP (k:PE X a ta) (l:PE X b tb) {p:List (ak×Obj)} {s:Shared} {R:V->V->Hp->Prop} (I:Inv X p U H s) (h:ta U H λ x g=>tb U g λ y c=>R x y c) {Q:ay->Shared->Prop} {f:ay->ay->Sem ay} (m:∀ v u e x y c,Inv X p U c e->RelV x v->RelV y u->R x y c->wpAny (model X.prog X.w) X.A (f v u) Q X.xe e) :
   wpAny (model X.prog X.w) X.A (eval a X.env) (λ v S=>wpAny (model X.prog X.w) X.A (eval b X.env) (λ u d=>wpAny (model X.prog X.w) X.A (f v u) Q X.xe d) X.xe S) X.xe s:=by
 refine dC (k p s U H _ I h) λ v t ⟨x,g,i,r,q⟩=>?_;exact dC (l p t U g _ i q) λ u e ⟨y,c,j,o,n⟩=>m v u e x y c j r o n
theorem aA {o:Operator} {r:R2} (f:jI X (binaryOp o) r) (d:PE X a ta) (e:PE X b tb):PE X (.BinOp a o b pos) (WM r ta tb):=by
 intro p s U H Q I h;exact wpAny_BinOp (PP d e I h λ v u S x y c i R g q=>f p S U c x y v u Q i R g q)
theorem vS {o:UnaryOp} {r:V->Hp->VK->Prop} (d:YY X (unaryOp o) r) (c:PE X a ta):PE X (.UnaryOp o a pos) (tUn r ta):=by
 intro p s U H Q I h;exact UnaryOp_ (dC (c p s U H _ I h) λ v S ⟨x,b,i,R,q⟩=>d p S U b x v Q i R q)
theorem RQ {f:ay->ay->Sem ay} {C:Int->Int->Prop} {g:Int->Int->Int} (r:∀ (i j:Int) (t u:Tok) (s:Shared) (Q:ay->Shared->Prop) (E:ay->Shared->Prop),C i j->Q (.int (g i j) s.toks) { s with toks:=s.toks+1 }->wpAny (model X.prog X.w) X.A (f (.int i t) (.int j u)) Q E s) :
   jI X f (rI C λ i j => .int (g i j)):=by
 intro p s U H x y v u Q I R b h;obtain ⟨i,j,rfl,rfl,a,q⟩:=FO h;obtain ⟨t,rfl⟩:=R;obtain ⟨t',rfl⟩:=b;exact r i j t t' s _ _ a ⟨.int (g i j),H,I.tok _,⟨_,rfl⟩,q⟩
theorem Mg {f:ay->ay->Sem ay} {g:Int->Int->Int} (r:∀ (i j:Int) (t u:Tok) (s:Shared) (Q:ay->Shared->Prop) (E:ay->Shared->Prop),Q (.int (g i j) s.toks) { s with toks:=s.toks+1 }->wpAny (model X.prog X.w) X.A (f (.int i t) (.int j u)) Q E s) :
   jI X f (Lr λ i j => .int (g i j)):=by
 intro p s U H x y v u Q I R a h;obtain ⟨i,j,rfl,rfl,q⟩:=FO h;obtain ⟨t,rfl⟩:=R;obtain ⟨t',rfl⟩:=a;exact r i j t t' s _ _ ⟨.int (g i j),H,I.tok _,⟨_,rfl⟩,q⟩
theorem LR {f:ay->ay->Sem ay} {g:Int->Int->Bool} (r:∀ (i j:Int) (t u:Tok) (s:Shared) (Q:ay->Shared->Prop) (E:ay->Shared->Prop),Q (.bool (g i j)) s->wpAny (model X.prog X.w) X.A (f (.int i t) (.int j u)) Q E s) :
   jI X f (Lr λ i j => .bl (g i j)):=by
 intro p s U H x y v u Q I R a h;obtain ⟨i,j,rfl,rfl,q⟩:=FO h;obtain ⟨t,rfl⟩:=R;obtain ⟨t',rfl⟩:=a;exact r i j t t' s _ _ ⟨.bl (g i j),H,I,rfl,q⟩
def MQ (i j:Int):Prop:=0<=j/\j<=1000000/\i.natAbs<2 ^ 64
theorem Di (k:Nat):(0:Int)<=2 ^ k:=ac4 _
theorem O1:jI X (binaryOp .Add) (Lr λ i j => .int (i+j)):=Mg λ Z Z Z Z Z Z Z q=>add_int q
theorem OV:jI X (binaryOp .Sub) (Lr λ i j => .int (i - j)):=Mg λ Z Z Z Z Z Z Z q=>sub_int q
theorem PC:jI X (binaryOp .Mod) (rI (λ Z j=>0<j) λ i j => .int (i % j)):=RQ λ i j Z Z Z Z Z h q=>by
 have H:=h;exact mod_int' (by lia) (by rw [Int.fmod_eq_emod_of_nonneg i (by lia)];exact q)
theorem Ql:jI X (binaryOp .Pow) (rI MQ λ i j => .int (i ^ j.toNat)):=RQ λ Z Z Z Z Z Z Z h q=>pow_int_small h.1 h.2.1 h.2.2 q
theorem Ru:jI X (binaryOp .LShift) (rI MQ λ i j => .int (i * 2 ^ j.toNat)):=RQ λ Z Z Z Z Z Z Z h q=>lshift_int_small h.1 h.2.1 h.2.2 q
theorem Ro:jI X (binaryOp .RShift) (rI (λ Z j=>0<=j) λ i j => .int (i / 2 ^ j.toNat)):=RQ λ i j Z Z Z Z Z h q =>
 rshift_int h (by rw [agd i (Di _)];exact q)
theorem Q5:jI X (binaryOp .BitAnd) (Lr λ i j => .int (Builtin.bitAnd i j)):=Mg λ Z Z Z Z Z Z Z q=>and_int q
theorem Sy:jI X (binaryOp .BitOr) (Lr λ i j => .int (Builtin.bitOr i j)):=Mg λ Z Z Z Z Z Z Z q=>or_int q
theorem unI {f:ay->Sem ay} {g:Int->Int} (r:∀ (i:Int) (t:Tok) (s:Shared) (Q:ay->Shared->Prop) (E:ay->Shared->Prop),Q (.int (g i) s.toks) { s with toks:=s.toks+1 }->wpAny (model X.prog X.w) X.A (f (.int i t)) Q E s) :
   YY X f (rU λ i => .int (g i)):=by
 intro p s U H x v Q I R h;obtain ⟨i,rfl,q⟩:=h;obtain ⟨t,rfl⟩:=R;exact r i t s _ _ ⟨.int (g i),H,I.tok _,⟨_,rfl⟩,q⟩
theorem zW:YY X (unaryOp .USub) (rU λ i => .int (-i)):=unI λ Z Z Z Z Z q=>neg_int q
theorem DG:YY X (unaryOp .Invert) (rU λ i => .int (Builtin.bitNot i)):=unI λ Z Z Z Z Z q=>invert_int q
end
noncomputable def WY:V->V->Bool
 | .cN,.cN=>true | .cN,.int _=>true | .int _,.cN=>true | .cN,.bl _=>true | .bl _,.cN=>true | .cN,.str _=>true | .str _,.cN=>true
 | .int _,.int _=>true | .bl _,.bl _=>true | .str _,.str _=>true | .Gm _,.Gm _=>true
 | .int _,.str _=>true | .str _,.int _=>true | .bl _,.str _=>true | .str _,.bl _=>true
 | _,_=>false
def rEq:R2:=λ x y H Q=>WY x y=true/\Q (.bl (decide (x=y))) H
def rNe:R2:=λ x y H Q=>WY x y=true/\Q (.bl (!decide (x=y))) H
theorem FE {i j:Int}:decide (V.int i=V.int j)=(i == j):=by
 rw [adC];simp
theorem Ku {i j:Bool}:decide (V.bl i=V.bl j)=(i == j):=by
 rw [adC];simp
theorem FA {i j:Str}:decide (V.str i=V.str j)=(i == j):=by
 rw [adC];simp
theorem FI {i j:Array UInt8}:decide (V.Gm i=V.Gm j)=(i.toList == j.toList):=by
 rw [adC];cases i;cases j;simp
section
variable {X:Cx} {a b c:Expr} {ta tb tc:TE} {pos:Pos}
theorem cF {p:List (ak×Obj)} {s:Shared} {k K:Bool} (I:Inv X p U H s) (q:Q (.bl k) H) (e:k=K):EP X p U Q (.bool K) s:=by
 subst e;exact ⟨.bl k,H,I,rfl,q⟩
theorem fT:jI X (compareOp .Eq) rEq:=by
 intro p s U H x y v u Q I R r h;obtain ⟨a,q⟩:=h;cases x with
 | cN =>
   cases R;cases y with
   | cN=>cases r;exact PySem.EqNone.eq_none_none (cF I q (by simp))
   | bl j=>cases r;exact PySem.EqNone.eq_none_bool (cF I q (by simp))
   | int j=>obtain ⟨t',rfl⟩:=r;exact PySem.EqNone.eq_none_int (cF I q (by simp))
   | str j=>obtain ⟨t',rfl⟩:=r;exact PySem.EqNone.eq_none_str (cF I q (by simp))
   | _=>exact absurd (show false=true from a) aa3
 | bl i =>
   cases R;cases y with
   | cN=>cases r;exact PySem.EqNone.eq_bool_none (cF I q (by simp))
   | bl j=>cases r;exact eq_bool (cF I q Ku)
   | str j=>obtain ⟨t',rfl⟩:=r;exact PySem.EqMixed.eq_bool_str (cF I q (by simp))
   | _=>exact absurd (show false=true from a) aa3
 | int i =>
   obtain ⟨t,rfl⟩:=R;cases y with
   | cN=>cases r;exact PySem.EqNone.eq_int_none (cF I q (by simp))
   | int j=>obtain ⟨t',rfl⟩:=r;exact eq_int (cF I q FE)
   | str j=>obtain ⟨t',rfl⟩:=r;exact PySem.EqMixed.eq_int_str (cF I q (by simp))
   | _=>exact absurd (show false=true from a) aa3
 | str i =>
   obtain ⟨t,rfl⟩:=R;cases y with
   | cN=>cases r;exact PySem.EqNone.eq_str_none (cF I q (by simp))
   | bl j=>cases r;exact PySem.EqMixed.eq_str_bool (cF I q (by simp))
   | int j=>obtain ⟨t',rfl⟩:=r;exact PySem.EqMixed.eq_str_int (cF I q (by simp))
   | str j=>obtain ⟨t',rfl⟩:=r;exact eq_str (cF I q FA)
   | _=>exact absurd (show false=true from a) aa3
 | Gm i =>
   obtain ⟨t,rfl⟩:=R;cases y with
   | Gm j=>obtain ⟨t',rfl⟩:=r;exact W.eq_bytes (cF I q FI)
   | _=>exact absurd (show false=true from a) aa3
 | _=>cases y<;>exact absurd (show false=true from a) aa3
theorem pE:jI X (compareOp .NotEq) rNe:=by
 intro p s U H x y v u Q I R r h;obtain ⟨a,q⟩:=h;cases x with
 | cN =>
   cases R;cases y with
   | cN=>cases r;exact PySem.EqNone.ne_none_none (cF I q (by simp))
   | bl j=>cases r;exact PySem.EqNone.ne_none_bool (cF I q (by simp))
   | int j=>obtain ⟨t',rfl⟩:=r;exact PySem.EqNone.ne_none_int (cF I q (by simp))
   | str j=>obtain ⟨t',rfl⟩:=r;exact PySem.EqNone.ne_none_str (cF I q (by simp))
   | _=>exact absurd (show false=true from a) aa3
 | bl i =>
   cases R;cases y with
   | cN=>cases r;exact PySem.EqNone.ne_bool_none (cF I q (by simp))
   | bl j=>cases r;exact ne_bool (cF I q (acJ not Ku))
   | str j=>obtain ⟨t',rfl⟩:=r;exact PySem.EqMixed.ne_bool_str (cF I q (by simp))
   | _=>exact absurd (show false=true from a) aa3
 | int i =>
   obtain ⟨t,rfl⟩:=R;cases y with
   | cN=>cases r;exact PySem.EqNone.ne_int_none (cF I q (by simp))
   | int j=>obtain ⟨t',rfl⟩:=r;exact ne_int (cF I q (acJ not FE))
   | str j=>obtain ⟨t',rfl⟩:=r;exact PySem.EqMixed.ne_int_str (cF I q (by simp))
   | _=>exact absurd (show false=true from a) aa3
 | str i =>
   obtain ⟨t,rfl⟩:=R;cases y with
   | cN=>cases r;exact PySem.EqNone.ne_str_none (cF I q (by simp))
   | bl j=>cases r;exact PySem.EqMixed.ne_str_bool (cF I q (by simp))
   | int j=>obtain ⟨t',rfl⟩:=r;exact PySem.EqMixed.ne_str_int (cF I q (by simp))
   | str j=>obtain ⟨t',rfl⟩:=r;exact ne_str (cF I q (acJ not FA))
   | _=>exact absurd (show false=true from a) aa3
 | Gm i =>
   obtain ⟨t,rfl⟩:=R;cases y with
   | Gm j=>obtain ⟨t',rfl⟩:=r;exact W.ne_bytes (cF I q (acJ not FI))
   | _=>exact absurd (show false=true from a) aa3
 | _=>cases y<;>exact absurd (show false=true from a) aa3
theorem kI:jI X (compareOp .Lt) (Lr λ i j => .bl (decide (i<j))):=LR λ Z Z Z Z Z Z Z q=>lt_int q
theorem kG:jI X (compareOp .LtE) (Lr λ i j => .bl (decide (i<=j))):=LR λ Z Z Z Z Z Z Z q=>le_int q
theorem ur:jI X (compareOp .Gt) (Lr λ i j => .bl (decide (j<i))):=LR λ Z Z Z Z Z Z Z q=>gt_int q
theorem OM:jI X (compareOp .GtE) (Lr λ i j => .bl (decide (j<=i))):=LR λ Z Z Z Z Z Z Z q=>ge_int q
theorem mZ:jI X (compareOp .Is) (λ x y H Q=>y = .cN/\Q (.bl (decide (x = .cN))) H):=by
 intro p s U H x y v u Q I r R h;obtain ⟨rfl,q⟩:=h;cases R;refine is_none_gen (cF I q ?_);cases x<;>first
   | (rfl)
   | (obtain ⟨t,rfl⟩:=r;rfl)
theorem gw:jI X (compareOp .IsNot) (λ x y H Q=>y = .cN/\Q (.bl (!decide (x = .cN))) H):=by
 intro p s U H x y v u Q I r R h;obtain ⟨rfl,q⟩:=h;cases R;refine isnot_none_gen (cF I q ?_);cases x<;>first
   | (rfl)
   | (obtain ⟨t,rfl⟩:=r;rfl)
theorem aQ (b:Expr) {o:CmpOp} (h:autoParam (o ≠ .In) zb_._auto_1) (H:autoParam (o ≠ .NotIn) zb_._auto_1):behindInMarks o b=false:=by
 have e:(o == CmpOp.In)=false:=by cases o<;>first|rfl|exact absurd rfl h
 have E:(o == CmpOp.NotIn)=false:=by cases o<;>first|rfl|exact absurd rfl H
 cases b<;>simp [behindInMarks,e,E]
theorem dL {o:CmpOp} {r:R2} (g:jI X (compareOp o) r) (d:PE X a ta) (e:PE X b tb) (f:behindInMarks o b=false):PE X (.Compare a [o] [b] pos) (WM r ta tb):=by
 intro p s U H Q I h;exact wpAny_Compare1 (PP d e I h λ v u S x y c i R j q=>g p S U c x y v u Q i R j q) f
inductive aaV (Q:Bool->Hp->Prop) (x:V) (H:Hp):Prop
 | mk (k:Bool) (h:x = .bl k) (q:Q k H)
def K1 (t:TE):TT:=λ U H Q=>t U H (aaV Q)
theorem aP {o:CmpOp} {r:R2} (t:jI X (compareOp o) r) (m:PE X a ta) (n:PE X b tb) (q:behindInMarks o b=false):PT X (.Compare a [o] [b] pos) (K1 (WM r ta tb)):=by
 intro p s U H Q I h;refine wpAny_isTrue_Compare1 (dC (m p s U H _ I h) λ v S ⟨x,d,i,R,w⟩=>dC (n p S U d _ i w) λ u E ⟨y,f,j,C,A⟩ =>
   dC (t p E U f x y v u _ j R C A) λ c F ⟨z,g,l,D,k,e,B⟩=>?_) q
 subst e;cases D;exact adm ⟨g,l,B⟩
def J3 (r R:R2) (t tb T:TE):TE:=λ U H Q=>t U H λ x a=>tb U a λ y b=>r x y b λ z h=>∃ k,z = .bl k /\
 (if k=true then T U h λ w c=>R y w c Q else Q (.bl false) h)
theorem KF {o f:CmpOp} {r R:R2} (G:jI X (compareOp o) r) (C:jI X (compareOp f) R) (B:PE X a ta) (D:PE X b tb) (E:PE X c tc) (F:autoParam (lastMarks [o,f] [b,c]=false) ze_._auto_1):PE X (.Compare a [o,f] [b,c] pos) (J3 r R ta tb tc):=by
 intro p s U H Q I h;refine Compare_chain (dC (B p s U H _ I h) λ v S ⟨x,l,t,M,J⟩=>chain_link (dC (D p S U l _ t J) λ u T ⟨y,m,w,j,K⟩ =>
   dC (G p T U m x y v u _ w M j K) λ d V ⟨z,g,i,N,k,e,q⟩=>?_)) F
 subst e;cases N;refine adm ?_;cases k with
 | false=>exact ite_ff ⟨.bl false,g,i,rfl,q⟩
 | true=>exact ite_tt (chain_last (dC (E p V U g _ i q) λ Y W ⟨z',n,A,O,L⟩=>C p W U n y z' u Y Q A j O L))
theorem lB {o f:CmpOp} {r R:R2} (M:jI X (compareOp o) r) (C:jI X (compareOp f) R) (G:PE X a ta) (J:PE X b tb) (K:PE X c tc) (L:autoParam (lastMarks [o,f] [b,c]=false) ze_._auto_1):PT X (.Compare a [o,f] [b,c] pos) (K1 (J3 r R ta tb tc)):=by
 intro p s U H Q I h;refine isTrue_chain (dC (G p s U H _ I h) λ v s1 ⟨x,l,w,W,O⟩=>test_link (dC (J p s1 U l _ w O) λ u s2 ⟨y,m,A,j,S⟩ =>
   dC (M p s2 U m x y v u _ A W j S) λ d s3 ⟨z,g,i,Y,k,e,q⟩=>?_)) L
 subst e;cases Y;refine adm ?_;cases k with
 | false =>
   obtain ⟨k',E,N⟩:=q;cases E;exact ite_ff ⟨g,i,N⟩
 | true =>
   refine ite_tt (test_last (dC (K p s3 U g _ i q) λ w' s4 ⟨z',n,B,r4,T⟩=>dC (C p s4 U n y z' u w' _ B j r4 T) λ d' s5 ⟨z2,t,D,r5,k2,F,V⟩=>?_));subst F;cases r5;exact adm ⟨t,D,V⟩
theorem wc:(sizeLine:Nat)<2 ^ 63:=by decide
theorem vals1 {x:V} {U:bB} (r:Vals [x] U):∃ u,U=[u]/\RelV x u:=by
 cases r with
 | cons R a=>cases a;exact ⟨_,rfl,R⟩
theorem vals2 {x y:V} {U:bB} (r:Vals [x,y] U):∃ u w',U=[u,w']/\RelV x u/\RelV y w':=by
 cases r with
 | cons R a =>
   cases a with
   | cons b c=>cases c;exact ⟨_,_,rfl,R,b⟩
theorem Ix:im X (.builtin "abs") (λ xs H Q=>∃ i,xs=[.int i]/\Q (.int (if i<0 then -i else i)) H):=by
 intro p s U H xs a Q I r h;obtain ⟨i,rfl,q⟩:=h;obtain ⟨u,rfl,t,rfl⟩:=vals1 r;exact call_abs_int λ u T=>⟨.int (if i<0 then -i else i),H,I.tok _,⟨_,rfl⟩,q⟩
theorem oV (b:X.calm=true):im X (.builtin "max") (λ xs H Q=>∃ i j,xs=[.int i,.int j]/\Q (.int (if j > i then j else i)) H):=by
 intro p s U H xs d Q I r h;obtain ⟨i,j,rfl,q⟩:=h;obtain ⟨u,w,rfl,⟨t,rfl⟩,⟨t',rfl⟩⟩:=vals2 r;refine max_two_ints (I.ok.hd b) λ c T k=>⟨_,H,I.kept k,?_,q⟩
 by_cases a:j > i
 . rw [abp a,abp a];exact ⟨_,rfl⟩
 . rw [abC a,abC a];exact ⟨_,rfl⟩
theorem G2 (b:X.calm=true):im X (.builtin "min") (λ xs H Q=>∃ i j,xs=[.int i,.int j]/\Q (.int (if j<i then j else i)) H):=by
 intro p s U H xs d Q I r h;obtain ⟨i,j,rfl,q⟩:=h;obtain ⟨u,w,rfl,⟨t,rfl⟩,⟨t',rfl⟩⟩:=vals2 r;refine min_two_ints (I.ok.hd b) λ c T k=>⟨_,H,I.kept k,?_,q⟩
 by_cases a:j<i
 . rw [abp a,abp a];exact ⟨_,rfl⟩
 . rw [abC a,abC a];exact ⟨_,rfl⟩
theorem sZ:im X (.type "int") (λ xs H Q=>(∃ i,xs=[.int i]/\Q (.int i) H)\/∃ k,xs=[.bl k]/\Q (.int (if k then 1 else 0)) H):=by
 intro p s U H xs a Q I r h;rcases h with ⟨i,rfl,q⟩|⟨k,rfl,q⟩
 . obtain ⟨u,rfl,t,rfl⟩:=vals1 r;exact call_int_int ⟨.int i,H,I,⟨_,rfl⟩,q⟩
 . obtain ⟨u,rfl,R⟩:=vals1 r;cases R;exact call_int_bool ⟨.int (if k then 1 else 0),H,I.tok _,⟨_,rfl⟩,q⟩
end
structure DY (h:bx) (x dx C:ak) (mA:eV):Prop where
 obj:h.get? x=some (W.instObj C dx)
 ns:h.Ns1 dx mA
 ne:dx≠x
theorem Hz {h:bx} {dx:ak} {m:eV} (n:h.Ns1 dx m):∃ O,h.get? dx=some O/\∀ N,W.lookIn N O=some (m N):=by
 obtain ⟨o,es,E,d,H,b,_,c⟩:=n;refine ⟨o,d,λ N=>?_⟩;have e:=c N;unfold nsFind findBy at e;rw [<- Array.find?_toList] at e;unfold W.lookIn;rw [H];dsimp only;split
 . simp_all
 .
  rename_i q
  rw [q] at e;have a:es.toList.any (·.refKey)=false:=by
    rw [afO];intro y f;obtain ⟨z,t,D⟩:=b y (Array.mem_toList_iff.mp f);simp [DictEntry.refKey,D]
  have A:¬ es.toList.any (·.refKey)=true:=by rw [a];exact aa3
  rw [abC A];exact acJ some e
theorem DY.look {h:bx} {x dx C:ak} {m:eV} (I:DY h x dx C m):∃ o,W.InstAt h x (W.instObj C dx) C (some o)/\∀ n,W.lookIn n o=some (m n) :=
 let ⟨o,a,H⟩:=Hz I.ns
 ⟨o,⟨I.obj,rfl,rfl,a⟩,H⟩
section
variable {prog:bq} {w:bi} {A:Around} {E:ay->Shared->Prop} {s:Shared} {K:aF} {x dx C f:ak} {mA:eV} {name:Str} {v:ay}
theorem get_map {e:Bool} {Q:ay->Shared->Prop} (X:K.In s.heap) (I:DY s.heap x dx C mA) (b:W.plainGet K C name=true) (c:W.hasDictIn K C=true) (a:W.findIn K (.ref C) name=some none) (f:mA name=some v) (H:W.handedIn v=true) (h:Q v { s with toks:=s.toks+1 }) :
   wpAny (model prog w) A (getAttr (.ref x) name e) Q E s:=by
 obtain ⟨o,J,d⟩:=I.look;exact W.get_value X J (W.plainGet_of b).1 (W.findObj_own c a rfl (by rw [d,f])) H h
theorem Jw {p:Sem Bool} {Q:ay×bB->Shared->Prop} (X:K.In s.heap) (I:DY s.heap x dx C mA) (H:W.plainGet K C name=true) (a:W.findIn K (.ref C) name=some (some (.ref f))) (c:W.isFn K (.ref f)=true) (d:mA name=none) (h:Q (.ref f,[.ref x]) s) :
   wpAny (model prog w) A (getMethod (.ref x) name p) Q E s:=by
 obtain ⟨o,J,b⟩:=I.look;exact W.method_fn X J (W.plainGet_of H).1 (W.plainGet_of H).2 a (afM.mp c) (by show (W.lookIn name o).map (·.isSome)=some false;rw [b,d];rfl) h
theorem Nn {n:d9} {Q:Unit->Shared->Prop} (X:K.In s.heap) (I:DY s.heap x dx C mA) (k:W.findIn K (.ref C) "__setattr__" = some (some (.builtin "object.__setattr__"))) (j:W.plainOver K C=true) (l:W.takerIn K C name=some none) (i:W.hasDictIn K C=true) (hw:PySem.Within mA n) (hsz:n.length<=sizeLine) (h:∀ H,DY H x dx C (λ y=>if y=name then some v else mA y)->Heap.SameBut dx s.heap H->Q () { s with heap:=H,toks:=s.toks+2 }) :
   wpAny (model prog w) A (setAttr (.ref x) name v) Q E s:=by
 obtain ⟨p,J,o⟩:=I.look;refine W.set_plain X J k (W.osa_open X J j l λ b=>?_);obtain ⟨m,g,t⟩:=W.any_some i;refine aam (aaW (aam (aam (wpAny_loadPart I.obj (aam (W.Looks.here (W.looks_clsIn X g) ?_))))));rw [t];refine aaW (aam (aaW (aam (wpAny_nsSet1 I.ns λ H T M=>?_))));obtain ⟨O,f,e,d,c,a⟩:=T.count (PySem.Within.cons name v hw);exact aam (wpAny_lookBehind d (by rw [c];exact pastItsLine_dict (aaX a (by rw [ac8];lia))) (aaW (h _ ⟨(M.2 _ (aeg I.ne)).trans I.obj,T,I.ne⟩ M)))
theorem JF {R:Result->Shared->Prop} {vs:bB} {k:List (Str×ay)} (X:K.In s.heap) (b:W.makesIn K C=true) (a:W.findIn K (.ref C) "__init__" = some (some (.ref f))) (H:W.typeIn K (.ref f)=some (.type "function")) (h:codeAny (model prog w) (A.under (.builtin "type.__call__" ⟨.ref C::vs,k⟩)) (.call (.ref f) ⟨.ref (s.heap.objs.size+1)::vs,k⟩) (W.InitBack (s.heap.objs.size+1) R)
     { s with heap:=(s.heap.push W.emptyDict).push (W.instObj C s.heap.objs.size)}) :
   codeAny (model prog w) A (.call (.ref C) ⟨vs,k⟩) R s:=W.make_core (W.makes_of X b) (W.looks_findIn X a) (λ S=>W.bind_fn X S H) (.inl rfl) h
end
noncomputable def aX (f:Str) (v:V):List (Str×V)->List (Str×V)
 | []=>[(f,v)]
 | (g,x)::r=>if g=f then (g,v)::r else (g,x)::aX f v r
theorem ud (f g:Str) (v:V):∀ F:List (Str×V),(aX f v F).lookup g=if g=f then some v else F.lookup g
 | []=>by
   show List.lookup g [(f,v)]=_;by_cases h:g=f
   . grind
   . grind
 | (k,x)::r=>by
   have i:=ud f g v r;rw [show aX f v ((k,x)::r)=(if k=f then (k,v)::r else (k,x)::aX f v r) from rfl];by_cases H:k=f
   . grind
   . grind
theorem rW (f:Str) (v:V):∀ F:List (Str×V),f∈(aX f v F).map (·.1)/\∀ g,g∈F.map (·.1)->g∈(aX f v F).map (·.1)
 | []=>⟨by simp [aX],λ g h=>by simp at h⟩
 | (k,x)::r=>by
   obtain ⟨i,I⟩:=rW f v r;rw [show aX f v ((k,x)::r)=(if k=f then (k,v)::r else (k,x)::aX f v r) from rfl];by_cases H:k=f
   . grind
   . grind
theorem uq (f:Str) (v:V):∀ F:List (Str×V),(aX f v F).length<=F.length+1
 | []=>by simp [aX]
 | (k,x)::r=>by
   have i:=uq f v r;rw [show aX f v ((k,x)::r)=(if k=f then (k,v)::r else (k,x)::aX f v r) from rfl];by_cases h:k=f
   . simp_all
   . simp_all
theorem ng.some_of {v:V} {o:kY} (r:ng (some v) o):∃ u,o=some u/\RelV v u:=by
 cases o with
 | none=>exact (show False from r).elim
 | some u=>exact ⟨u,rfl,r⟩
theorem ng.none_of {o:kY} (r:ng none o):o=none:=by
 cases o with
 | none=>rfl
 | some u=>exact (show False from r).elim
theorem GC {v:V} {u:ay} (r:RelV v u):W.handedIn u=true:=by
 cases v with
 | cN=>cases (show u=Value.none from r);rfl
 | bl b=>cases (show u=Value.bool b from r);rfl
 | int i=>obtain ⟨t,e⟩:=(show ∃ t,u=Value.int i t from r);cases e;rfl
 | str x=>obtain ⟨t,e⟩:=(show ∃ t,u=Value.str x t from r);cases e;rfl
 | Gm b=>obtain ⟨t,e⟩:=(show ∃ t,u=Value.bytes b t from r);cases e;rfl
 | NU b=>obtain ⟨t,e⟩:=(show ∃ t,u=Value.float b t from r);cases e;rfl
 | ref a=>cases (show u=Value.ref a from r);rfl
 | ty n=>cases (show u=Value.type n from r);rfl
section
variable {P:bq} {w:bi} {H:Hp} {h:bx} {a C dx:ak} {fs:List (Str×V)}
theorem vp (E:qI P w H h) (e:H a=some (.ins C dx fs)):∃ m,DY h a dx C m/\(∀ f,ng (fs.lookup f) (m f))/\PySem.Within m (fs.map (·.1))/\fs.length<=1000/\H dx=some (.own a):=by
 obtain ⟨d,z,N,o,m,n,r,q⟩:=(show eh P w H h a (.ins C dx fs) from E a _ e)
 exact ⟨m,⟨o,n,N⟩,r,q,z,d⟩
end
structure Cf (K:aF) (C:ak):Prop where
 pg:W.plainGet K C Str.empty=true
 hd:W.hasDictIn K C=true
 po:W.plainOver K C=true
 sa:W.findIn K (.ref C) "__setattr__" = some (some (.builtin "object.__setattr__"))
theorem Cf.get {K:aF} {C:ak} (c:Cf K C) (f:Str):W.plainGet K C f=true:=c.pg
def dM (K:aF) (C:ak) (f:Str):Prop:=W.findIn K (.ref C) f=some none
theorem dM.Wl {K:aF} {C:ak} {f:Str} (n:dM K C f):W.takerIn K C f=some none:=by
 unfold W.takerIn;rw [show W.findIn K (.ref C) f=some none from n];rfl
structure Meth (K:aF) (C:ak) (m:Str) (f:ak):Prop where
 at_:W.findIn K (.ref C) m=some (some (.ref f))
 fn:W.isFn K (.ref f)=true
 kp:W.keepIn K (.ref f)=true
section
variable {X:Cx} {pins:List (ak×Obj)} {U:St} {H:Hp} {s:Shared} {a C dx:ak} {fs:List (Str×V)} {f:Str} {v:V} {A:Around} {E:ay->Shared->Prop}
theorem Ei {b:Bool} {Q:ay->Shared->Prop} (I:Inv X pins U H s) (e:H a=some (.ins C dx fs)) (c:Cf X.K C) (n:dM X.K C f) (l:fs.lookup f=some v) (h:∀ u s',Inv X pins U H s'->RelV v u->Q u s'):wpAny (model X.prog X.w) A (getAttr (.ref a) f b) Q E s:=by
 obtain ⟨m,O,r,Z,Z,Z⟩:=vp I.eB e;obtain ⟨u,d,R⟩:=ng.some_of (by rw [<- l];exact r f);exact get_map I.uD O (c.get f) c.hd n d (GC R) (h u _ (I.tok _) R)
theorem vW {m:Str} {g:ak} {p:Sem Bool} {Q:ay×bB->Shared->Prop} (I:Inv X pins U H s) (e:H a=some (.ins C dx fs)) (c:Cf X.K C) (k:Meth X.K C m g) (l:fs.lookup m=none) (h:Q (.ref g,[.ref a]) s):wpAny (model X.prog X.w) A (getMethod (.ref a) m p) Q E s:=by
 obtain ⟨M,O,r,Z,Z,Z⟩:=vp I.eB e;exact Jw I.uD O (c.get m) k.at_ k.fn (ng.none_of (by rw [<- l];exact r m)) h
theorem DR {y:V} {u:ay} {Q:Unit->Shared->Prop} (I:Inv X pins U H s) (e:H a=some (.ins C dx fs)) (c:Cf X.K C) (n:dM X.K C f) (t:fs.length<1000) (R:RelV y u) (h:∀ s',Inv X pins U (upd H a (.ins C dx (aX f y fs))) s'->Q () s'):wpAny (model X.prog X.w) A (setAttr (.ref a) f u) Q E s:=by
 obtain ⟨M,O,r,W,Z,i⟩:=vp I.eB e;have m:(fs.map (·.1)).length<=sizeLine:=by rw [Ea,sizeLine_eq];lia
 refine Nn I.uD O c.sa c.po n.Wl c.hd W m λ p d S=>h _ ?_;refine I.write (by rw [e];exact True.intro) (.inr i) (λ b q k z=>(S.2 b k).trans z) (let ⟨o,_,_,j,_⟩:=d.ns;⟨o,j⟩) (⟨by rw [aw O.ne];exact i,?_,O.ne,d.obj,_,d.ns,λ g=>?_,λ g l=>?_⟩)
 . have:=uq f y fs;lia
 .
  rw [ud];by_cases q:g=f
  . rw [abp q,abp q];exact R
  . rw [abC q,abC q];exact r g
 .
  by_cases q:g=f
  . rw [q];exact (rW f y fs).1
  . refine (rW f y fs).2 g (W g λ z=>l ?_);show (if g=f then some u else M g)=none;rw [abC q];exact z
theorem Inv.made (I:Inv X pins U H s):Inv X pins U (upd (upd H s.heap.objs.size (.own (s.heap.objs.size+1))) (s.heap.objs.size+1) (.ins C s.heap.objs.size []))
   { s with heap:=(s.heap.push W.emptyDict).push (W.instObj C s.heap.objs.size)}:=by
 have E:(s.heap.push W.emptyDict).get? s.heap.objs.size=some W.emptyDict:=abW s.heap rfl;have a:=by
   have:=abW (s.heap.push W.emptyDict) (o:=W.instObj C s.heap.objs.size) rfl;rwa [afk] at this
 refine (I.laid (o:=.own (s.heap.objs.size+1)) (t':=s.toks) (λ b u q=>aaF _ q) (aaE _) ⟨_,E⟩).laid (λ b u q=>aaF _ q) (Nat.le_of_eq (afk _ _)) ?_;have n:s.heap.objs.size≠s.heap.objs.size+1:=abN (afd _);refine ⟨by rw [aw n,af],ab2 _,n,a,λ Z=>none,(Heap.Ns1.of_empty (⟨W.emptyDict,#[],_,E,rfl,(λ e h=>absurd h (by simp)),λ Z=>rfl⟩)).at λ o q=>aaF _ q,λ Z=>True.intro,λ y c=>absurd rfl c⟩
theorem LM {prog:bq} {w:bi} {env:Env} {e:Expr} {f:Str} {p:Pos} {s:Shared} {Q:ay->Shared->Prop} (H:attributeBase e f env (eval e env)=eval e env) (h:wpAny (model prog w) A (eval e env) (λ o S=>wpAny (model prog w) A (getAttr o f true) Q E S) E s):wpAny (model prog w) A (eval (.Attribute e f p) env) Q E s :=
 Attribute_any_ h (by rw [arm_eval_Attribute,H])
end
inductive SW (K:aF) (f:Str) (Q:VK) (H1:Hp) (a:ak):Prop
 | mk {C dx:ak} {fs:List (Str×V)} {v:V} (h2:H1 a=some (.ins C dx fs)) (h3:Cf K C) (h4:dM K C f) (h5:fs.lookup f=some v) (q:Q v H1)
def VD (K:aF) (f:Str) (Q:VK) (x:V) (H:Hp):Prop:=Sc x (SW K f Q H)
def acO (K:aF) (t:TE) (f:Str):TE:=λ U H Q=>t U H (VD K f Q)
def abY (K:aF) (t tv:TE) (f:Str):TS:=λ D U H=>tv U H λ y b=>t U b λ x h=>∃ a C d F,x = .ref a/\h a=some (.ins C d F)/\Cf K C/\dM K C f/\F.length<1000 /\
 D.nx U (upd h a (.ins C d (aX f y F)))
section
variable {X:Cx} {o e value:Expr} {f:Str} {pos pos':Pos} {ta tv:TE}
theorem aU (j:PE X e ta) (g:attributeBase e f X.env (eval e X.env)=eval e X.env):PE X (.Attribute e f pos) (acO X.K ta f):=by
 intro p s U H Q I h;refine LM g (dC (j p s U H _ I h) λ u S ⟨x,b,i,R,k⟩=>?_);obtain ⟨a,ex,E,c,n,l,q⟩:=wT k;subst ex;obtain rfl:=R;exact Ei i E c n l λ o m d r=>⟨_,b,d,r,q⟩
theorem d8 (g:PE X o ta) (k:PE X value tv) (j:swapsWith value (some (.Attribute o f pos')) pos.line X.env=pure false):PS X (.Assign [.Attribute o f pos'] value pos) (abY X.K ta tv f):=by
 intro p s U H D I h;refine plainObj_wpAny_Assign_Attribute (dC (k p s U H _ I h) λ u S ⟨y,b,i,R,q⟩=>dC (g p S U b _ i q) λ O v ⟨x,m,d,r,a,C,t,F,ex,E,c,n,l,Q⟩=>?_) j;subst ex;obtain rfl:=r;exact DR d E c n l R λ w e=>⟨U,_,e,Q⟩
end
section
variable {X:Cx} {pins:List (ak×Obj)} {U:St} {H:Hp} {s:Shared} {A:Around} {E:ay->Shared->Prop} {Q:ay->Shared->Prop} {c:ay} {b:Bool}
inductive tL (K:aF) (H:Hp):V->ay->Prop where
 | cN:tL K H .cN (.type "NoneType")
 | bl (x:Bool):tL K H (.bl x) (.type "bool")
 | int (i:Int):tL K H (.int i) (.type "int")
 | str (x:Str):tL K H (.str x) (.type "str")
 | NU (x:UInt64):tL K H (.NU x) (.type "float")
 | lst {a:ak} {xs:aB} (e:H a=some (.lst xs)):tL K H (.ref a) (.type "list")
 | CT {a:ak} {o:Obj} {xs:aB} (e:H a=some (.CT o (.lst xs))):tL K H (.ref a) (.type "list")
 | tup {a:ak} {xs:aB} (e:H a=some (.tup xs)):tL K H (.ref a) (.type "tuple")
 | dK {a:ak} {aG:List (Key×V)} (e:H a=some (.dK aG)):tL K H (.ref a) (.type "dict")
 | dT {a:ak} {aG:List (List Key×V)} (e:H a=some (.dT aG)):tL K H (.ref a) (.type "dict")
 | ins {a C dx:ak} {fs:List (Str×V)} (e:H a=some (.ins C dx fs)) (cl:Cf K C) (ha:W.findIn K (.ref C) "__class__" = some (some (.builtin "object.__class__")))
     (hn:W.specialIn K (.builtin "object.__class__") "__get__" = some (some (.builtin "getset_descriptor.__get__"))) (YM:W.takesIn K (.builtin "object.__class__")=some true)
     (hm:W.mroIn K C (.type "object")=some true):tL K H (.ref a) (.ref C)
theorem GQ {x:V} {u t:ay} (I:Inv X pins U H s) (r:RelV x u) (ty:tL X.K H x t) (e:W.kitOne X.K t c=some b) (h:∀ T,Q (.bool b) { s with toks:=T }) :
   wpAny (model X.prog X.w) A (call (.builtin "isinstance") [u,c]) Q E s:=by
 cases ty with
 | cN=>cases (show u=Value.none from r);exact aeM W.kitx_none I.uD True.intro e (λ z=>nomatch z) h
 | bl y=>cases (show u=Value.bool y from r);exact aeM W.kitx_bool I.uD True.intro e (λ z=>nomatch z) h
 | int i=>obtain ⟨t,q⟩:=(show ∃ t,u=Value.int i t from r);cases q;exact aeM W.kitx_int I.uD True.intro e (λ z=>nomatch z) h
 | str y=>obtain ⟨t,q⟩:=(show ∃ t,u=Value.str y t from r);cases q;exact aeM W.kitx_str I.uD True.intro e (λ z=>nomatch z) h
 | NU y=>obtain ⟨t,q⟩:=(show ∃ t,u=Value.float y t from r);cases q;exact aeM W.kitx_float I.uD True.intro e (λ z=>nomatch z) h
 | @lst a g d =>
   cases (show u=Value.ref a from r);obtain ⟨Z,Z,n,Z,f⟩:=(show eh X.prog X.w H s.heap a (.lst g) from I.eB a _ d)
   exact aeM W.kitx_list I.uD ⟨_,f,rfl⟩ e (λ z=>nomatch z) h
 | @CT a F g d =>
   cases (show u=Value.ref a from r);obtain ⟨Z,Z,Z,n,Z,f⟩:=(show eh X.prog X.w H s.heap a (.CT F (.lst g)) from I.eB a _ d)
   exact aeM W.kitx_list I.uD ⟨_,f,rfl⟩ e (λ z=>nomatch z) h
 | @tup a g d =>
   cases (show u=Value.ref a from r);obtain ⟨Z,Z,Z,p⟩:=(show eh X.prog X.w H s.heap a (.tup g) from I.eB a _ d)
   obtain ⟨o,f,j,Z⟩:=p;exact aeM W.kitx_tuple I.uD ⟨o,f,j⟩ e (λ z=>nomatch z) h
 | @dK a k d =>
   cases (show u=Value.ref a from r);obtain ⟨Z,Z,R,Z,p⟩:=(show eh X.prog X.w H s.heap a (.dK k) from I.eB a _ d)
   obtain ⟨o,es,m,f,j,Z⟩:=p;exact aeM W.kitx_dict I.uD ⟨o,f,j.1⟩ e (λ z=>nomatch z) h
 | @dT a k d =>
   cases (show u=Value.ref a from r);obtain ⟨Z,Z,g,Z,o,es,m,f,j,Z⟩:=(show eh X.prog X.w H s.heap a (.dT k) from I.eB a _ d)
   exact aeM W.kitx_dict I.uD ⟨o,f,j.1⟩ e (λ z=>nomatch z) h
 | @ins a C G L d l v D Y B =>
   cases (show u=Value.ref a from r);obtain ⟨M,O,Z⟩:=vp I.eB d;obtain ⟨N,J,Z⟩:=O.look;exact aeM (W.kitx_own (l.get _) l.hd v D Y B) I.uD J e (λ z=>nomatch z) h
end
structure dW (k:Nat) (A:Around):Prop where
 hd:A.handled=none
 dp:A.depth+3 * k+5<recursionLimit
 un:A.units+16 * k+200<cLine
theorem dW.mono {j k:Nat} {A:Around} (r:dW k A) (h:j<=k):dW j A:=⟨r.hd,by have:=r.dp;lia,by have:=r.un;lia⟩
theorem dW.deeper {k:Nat} {A:Around} (r:dW (k+1) A) (env:Env):dW k (A.deeper env) :=
 ⟨r.hd,by have:=r.dp;show A.depth+1+3 * k+5<_;lia,by have:=r.un;show A.units+3+16 * k+200<_;lia⟩
theorem EA {A:Around} {C:ak} {u:bB} {k:List (Str×ay)}:(A.under (.builtin "type.__call__" ⟨.ref C::u,k⟩)).depth=A.depth+1:=by
 first|rfl|simp [Around.under,Code.weight,Code.isCreation,Code.isGuard,Code.isCaller,Code.frames,Code.isFrame,guardIds]
theorem DM {A:Around} {C:ak} {u:bB} {k:List (Str×ay)}:(A.under (.builtin "type.__call__" ⟨.ref C::u,k⟩)).units=A.units+1:=by
 first|rfl|simp [Around.under,Code.cUnits,Code.frames,Code.isFrame]
theorem dW.make {k:Nat} {A:Around} (r:dW (k+1) A) (C:ak) (u:bB) (K:List (Str×ay)):dW k (A.under (.builtin "type.__call__" ⟨.ref C::u,K⟩)) :=
 ⟨r.hd,by have:=r.dp;rw [EA];lia,by have:=r.un;rw [DM];lia⟩
theorem dW.depth {k:Nat} {A:Around} (r:dW k A):A.depth<recursionLimit:=by have:=r.dp;lia
theorem dW.units {k:Nat} {A:Around} (r:dW k A):A.units+64<cLine:=by have:=r.un;lia
def LG:TA:=λ Z H Q=>Q [] H
def NO (t:TE) (T:TA):TA:=λ U H Q=>t U H λ x h=>T U h λ X a=>Q (x::X) a
section
variable {X:Cx} {e:Expr} {es:List Expr} {te:TE} {t:TA} {pos:Pos}
theorem ac:PA X [] LG:=λ Z Z Z Z H Q I h=>agi ⟨[],H,I,.nil,h⟩
theorem aa (d:PE X e te) (f:PA X es t) (g:autoParam (Fe X e es) za_._auto_1):PA X (e::es) (NO te t):=by
 intro pos p s U H Q I h;rw [g];exact afh (dC (d p s U H _ I h) λ u S ⟨x,a,i,r,q⟩=>dC (f pos p S U a _ i q) λ m l ⟨k,b,c,R,j⟩=>⟨x::k,b,c,.cons r R,j⟩)
def acg (t:TA):TE:=λ U H Q=>t U H λ x h=>x.length<=sizeLine/\∀ p,h p=none->Q (.ref p) (upd h p (.tup x))
def aaf (t:TA):TE:=λ U H Q=>t U H λ x h=>x.length<=sizeLine/\∀ p,h p=none->Q (.ref p) (upd h p (.lst x))
theorem ca {x} (h:PA X es t):PE X (.Tuple es x pos) (acg t):=by
 intro p s U H Q I c;refine wpAny_Tuple_spliced (dC (h pos p s U H _ I c) λ d S ⟨f,a,i,r,z,q⟩=>⟨by rw [<- r.length];exact z,?_⟩);refine ⟨.ref S.heap.objs.size,upd a S.heap.objs.size (.tup f),i.laid (λ b u e=>aaF _ e) (aaE _) ?_,rfl,q _ (i.eB.fresh (aaE _))⟩;exact ⟨z,d,r,⟨_,abW _ rfl,rfl,_,rfl⟩⟩
theorem bK (h:PA X es t):PE X (.List es pos) (aaf t):=by
 intro p s U H Q I c;refine wpAny_List_spliced (dC (h pos p s U H _ I c) λ d S ⟨x,a,i,r,z,q⟩=>⟨by rw [<- r.length];exact z,?_⟩);refine ⟨.ref S.heap.objs.size,upd a S.heap.objs.size (.lst x),i.laid (λ b u e=>aaF _ e) (aaE _) ?_,rfl,q _ (i.eB.fresh (aaE _))⟩;exact ⟨z,d,0,r,abW _ rfl⟩
end
abbrev Sp:=aB->Hp->VK->XK->Prop
abbrev Lx:=List Env->Hp->Shared->XK->ay->Shared->Prop
structure Gw (P:bq) (w:bi) (K:aF) (mg:eV) (base:bx) (A:Around) (outer:List Env) (s:Shared) (H:Hp):Prop where
 frames:A.frames=some outer
 mod:Mod K mg base
 bs:∀ b o,base.get? b=some o->s.heap.get? b=some o/\H b=none
 NM:base.objs.size<=s.heap.objs.size
 uW:s.heap.FunFrames base outer
 P8:∀ b∈Ii outer,H b=none
 eB:qI P w H s.heap
 bare:AllBare s.gens
def CE (outer:List Env) (P:bq) (w:bi) (H:Hp) (s:Shared) (Q:VK) (u:ay) (s':Shared):Prop :=
 ∃ v h,s'.os=s.os/\AllBare s'.gens/\Un (Ii outer) [] H h s.heap s'.heap/\qI P w h s'.heap/\RelV v u/\Q v h
def CR (C:Lx) (outer:List Env) (P:bq) (w:bi) (H:Hp) (s:Shared) (Q:VK) (E:XK) (r:Result) (s':Shared):Prop :=
 match r with
 | .ok (.ret u)=>CE outer P w H s Q u s'
 | .ok _=>False
 | .error e=>C outer H s E e s'
structure nN (P:bq) (w:bi) (K:aF) (mg:eV) (base:bx) (CX:Lx) (k:Nat) (f:ak) (fd:FuncData) (ps:d9) (sp:Sp):Prop where
 len:∀ vs H Q E,sp vs H Q E->vs.length=ps.length
 run:∀ (A:Around) (outer:List Env) (s:Shared) (H:Hp) (args:Args) (us:bB) (vs:aB) (Q:VK) (E:XK),dW k A->Gw P w K mg base A outer s H->BindsTo s fd args (ps.zip us)->Vals vs us->sp vs H Q E ->
   codeAny (model P w) A (.call (.ref f) args) (CR CX outer P w H s Q E) s
theorem Gw.make {P:bq} {w:bi} {K:aF} {m:eV} {b:bx} {A:Around} {outer:List Env} {s:Shared} (e:Gw P w K m b A outer s H) (C:ak) (u:bB) (k:List (Str×ay)) :
   Gw P w K m b (A.under (.builtin "type.__call__" ⟨.ref C::u,k⟩)) outer s H:=⟨by first|exact e.frames|(simpa [pushEnvs] using e.frames),e.mod,e.bs,e.NM,e.uW,e.P8,e.eB,e.bare⟩
section
variable {X:Cx} {pins:List (ak×Obj)} {U:St} {H:Hp} {s s':Shared}
theorem Inv.Tn (I:Inv X pins U H s):Gw X.prog X.w X.K X.mg X.base X.A X.stack s H :=
 ⟨I.ok.frames,I.ok.mod,I.bs,aaX I.ok.NM I.sz,I.stack,I.Fg,I.eB,I.bare⟩
theorem Inv.after {u:ay} (I:Inv X pins U H s) (h:CE X.stack X.prog X.w H s Q u s'):EP X pins U Q u s':=by
 obtain ⟨v,a,o,B,c,e,r,q⟩:=h;obtain ⟨f,g,d,t,O⟩:=s';obtain rfl:=o;exact ⟨v,a,I.call c e B (λ b z=>absurd z (by simp)),r,q⟩
end
def FX (s:Sp) (j:aB) (E:XK) (t:TA):TE:=λ U H Q=>t U H λ v h=>s (v++j) h Q E
inductive WO (C:ak) (m:Str) (sp:Sp) (jB:aB) (E:XK) (t:TA) (U:St) (Q:VK) (H1:Hp) (a:ak):Prop
 | mk {dx:ak} {fs:List (Str×V)} (h2:H1 a=some (.ins C dx fs)) (h3:fs.lookup m=none) (q:t U H1 λ vs H2=>sp (.ref a::(vs++jB)) H2 Q E)
def Pe (C:ak) (m:Str) (s:Sp) (j:aB) (E:XK) (t:TA) (U:St) (Q:VK) (x:V) (H:Hp):Prop:=Sc x (WO C m s j E t U Q H)
def Bg (C:ak) (m:Str) (s:Sp) (j:aB) (E:XK) (T:TE) (t:TA):TE:=λ U H Q=>T U H (Pe C m s j E t U Q)
def IV (C:ak) (s:Sp) (j:aB) (E:XK) (t:TA):TE:=λ U H Q=>t U H λ V h=>∀ x d,h x=none->h d=none->d≠x ->
 s (.ref x::(V++j)) (upd (upd h d (.own x)) x (.ins C d [])) (λ v a=>v = .cN/\Q (.ref x) a) E
def Binds (K:aF) (f:FuncData) (p:d9) (d:bB):Prop :=
 ∀ (s:Shared) (u:bB),K.In s.heap->(u++d).length=p.length->BindsTo s f ⟨u,[]⟩ (p.zip (u++d))
theorem Binds.all {K:aF} {f:FuncData} {p:d9} (h:∀ u:bB,u.length=p.length->bindArgs f ⟨u,[]⟩=pure (p.zip u)):Binds K f p []:=λ s u Z H=>by
 rw [ac7] at H |-;exact .of_eq (h u H)
def Passes (C:Lx) (X:Cx) (E:XK):Prop:=∀ (p:List (ak×Obj)) (U:St) (H:Hp) (s:Shared) (e:ay) (s':Shared),Inv X p U H s->C X.stack H s E e s'->X.xe e s'
section
variable {X:Cx} {CX:Lx} {k:Nat} {f C:ak} {fd:FuncData} {ps:d9} {sp:Sp} {jB:aB} {ds:bB} {E:XK} {x m:Str} {p pos apos:Pos} {e o:Expr} {es:List Expr} {ta:TE} {t:TA}
theorem Du {p:List (ak×Obj)} {s:Shared} {a:bB} {vs:aB} (F:nN X.prog X.w X.K X.mg X.base CX k f fd ps sp) (j:dW k X.A) (d:Binds X.K fd ps ds) (g:Vals jB ds) (l:Passes CX X E) (I:Inv X p U H s) (r:Vals vs a) (h:sp (vs++jB) H Q E):wpAny (model X.prog X.w) X.A (call (.ref f) a) (EP X p U Q) X.xe s:=by
 have R:=r.append g;have i:(a++ds).length=ps.length:=by rw [<- R.length];exact F.len _ _ _ _ h
 refine wpAny_call (agj (F.run X.A X.stack s H ⟨a,[]⟩ (a++ds) (vs++jB) Q E j I.Tn (d s a I.uD i) R h) λ r s' b=>?_);cases r with
 | error e=>exact l p U H s e s' I b
 | ok c =>
   cases c with
   | ret u=>exact I.after b
   | next=>exact False.elim b
   | brk=>exact False.elim b
   | cont=>exact False.elim b
theorem FF (F:nN X.prog X.w X.K X.mg X.base CX k f fd ps sp) (n:dW k X.A) (j:Gl X x) (m:X.mg x=some (.ref f)) (l:W.keepIn X.K (.ref f)=true) (c:Binds X.K fd ps ds) (d:Vals jB ds) (o:Passes CX X E) (b:PA X (e::es) t) (B:autoParam (AU x) zb_._auto_1) (g:autoParam (Fe X e es) za_._auto_1) (u:autoParam (Im X es pos) za_._auto_1) :
   PE X (.Call (.Name x p) (e::es) [] pos) (FX sp jB E t):=by
 intro a s U H Q I h;refine ad6 (Ak I j m ?_ B);exact W.callWith_K I.ok.mod.Wk l (dC (b pos a s U H _ I h) λ y S ⟨V,v,i,r,q⟩=>⟨i.uD,Du F n c d o i r q⟩) g u
theorem M9 {N:Sem Bool} (B:PE X o ta) (c:Cf X.K C) (d:Meth X.K C m f) (F:nN X.prog X.w X.K X.mg X.base CX k f fd ps sp) (D:dW k X.A) (y:Binds X.K fd ps ds) (z:Vals jB ds) (J:Passes CX X E) (n:PA X (e::es) t) (M:autoParam (Fe X e es) za_._auto_1) (L:autoParam (Im X es pos) za_._auto_1) (G:autoParam (eval (.Call (.Attribute o m apos) (e::es) [] pos) X.env=(do
     let O <- eval o X.env
     standAt apos.atName
     let (f,first) <- holding [O] (getMethod O m N)
     callWith pos f first (backTo pos (starEach (e::es) X.env)) (backToKw pos (keywordEach [] X.env)))) za_._auto_1) :
   PE X (.Call (.Attribute o m apos) (e::es) [] pos) (Bg C m sp jB E ta t):=by
 intro p s U H Q I h;refine W.methodCall_KW (dC (B p s U H _ I h) λ u V ⟨x,g,i,T,R⟩=>?_) G;obtain ⟨a,ex,j,l,q⟩:=wT R;subst ex;obtain rfl:=T;refine vW i j c d l ?_;exact W.callWith_K I.ok.mod.Wk d.kp (dC (n pos p V U g _ i q) λ us s2 ⟨v,Y,b,r,S⟩=>⟨b.uD,Du (vs:=.ref a::v) F D y z J b (.cons rfl r) S⟩) M L
theorem Jr {v:Sem Bool} (j:PE X o ta) (c:Cf X.K C) (b:Meth X.K C m f) (F:nN X.prog X.w X.K X.mg X.base CX k f fd ps sp) (n:dW k X.A) (d:Binds X.K fd ps ds) (g:Vals jB ds) (t:Passes CX X E) (r:autoParam (eval (.Call (.Attribute o m apos) [] [] pos) X.env=(do
     let O <- eval o X.env
     standAt apos.atName
     let (f,first) <- holding [O] (getMethod O m v)
     callWith pos f first (backTo pos (starEach [] X.env)) (backToKw pos (keywordEach [] X.env)))) za_._auto_1) :
   PE X (.Call (.Attribute o m apos) [] [] pos) (Bg C m sp jB E ta LG):=by
 intro p s U H Q I h;refine W.methodCall_KW (dC (j p s U H _ I h) λ u S ⟨x,z,i,R,y⟩=>?_) r;obtain ⟨a,ex,e,l,q⟩:=wT y;subst ex;obtain rfl:=R;exact vW i e c b l (W.callWith_K0 i.uD b.kp (Du (vs:=[.ref a]) F n d g t i (.cons rfl .nil) q))
structure Mk (K:aF) (C f:ak):Prop where
 makes:W.makesIn K C=true
 init:W.findIn K (.ref C) "__init__" = some (some (.ref f))
 fn:W.isFn K (.ref f)=true
 kp:W.keepIn K (.ref C)=true
theorem JB {p:List (ak×Obj)} {s:Shared} {a:bB} {vs:aB} (M:Mk X.K C f) (F:nN X.prog X.w X.K X.mg X.base CX k f fd ps sp) (t:dW (k+1) X.A) (n:Binds X.K fd ps ds) (o:Vals jB ds) (y:Passes CX X E) (I:Inv X p U H s) (r:Vals vs a) (h:∀ x dx,H x=none->H dx=none->dx≠x->sp (.ref x::(vs++jB)) (upd (upd H dx (.own x)) x (.ins C dx [])) (λ v g=>v = .cN/\Q (.ref x) g) E) :
   wpAny (model X.prog X.w) X.A (call (.ref C) a) (EP X p U Q) X.xe s:=by
 have c:=h (s.heap.objs.size+1) s.heap.objs.size (I.eB.fresh (aei _)) (I.eB.fresh (aaE _)) (abN (afd _));have i:=Inv.made (C:=C) I;have R:Vals (V.ref (s.heap.objs.size+1)::(vs++jB)) (Value.ref (s.heap.objs.size+1)::(a++ds)):=.cons rfl (r.append o);have q:=by
   have e:=R.length;rw [F.len _ _ _ _ c] at e;exact e.symm
 refine wpAny_call (JF I.uD M.makes M.init (afM.mp M.fn) (agj (F.run _ X.stack _ _ ⟨Value.ref (s.heap.objs.size+1)::a,[]⟩ (Value.ref (s.heap.objs.size+1)::(a++ds)) _ _ E (t.make C a [])
   (i.Tn.make C a []) (n _ (Value.ref (s.heap.objs.size+1)::a) i.uD q) R c) λ r s' b=>?_))
 cases r with
 | error e=>exact y p U _ _ e s' i b
 | ok m =>
   cases m with
   | ret u =>
     obtain ⟨v,d,j,B,l,z⟩:=i.after b;subst l;exact ⟨B,⟨V.ref (s.heap.objs.size+1),d,j,rfl,z⟩⟩
   | next=>exact False.elim b
   | brk=>exact False.elim b
   | cont=>exact False.elim b
theorem M1 (M:Mk X.K C f) (F:nN X.prog X.w X.K X.mg X.base CX k f fd ps sp) (m:dW (k+1) X.A) (j:Gl X x) (l:X.mg x=some (.ref C)) (c:Binds X.K fd ps ds) (d:Vals jB ds) (n:Passes CX X E) (b:PA X (e::es) t) (B:autoParam (AU x) zb_._auto_1) (g:autoParam (Fe X e es) za_._auto_1) (o:autoParam (Im X es pos) za_._auto_1) :
   PE X (.Call (.Name x p) (e::es) [] pos) (IV C sp jB E t):=by
 intro a s U H Q I h;refine ad6 (Ak I j l ?_ B);exact W.callWith_K I.ok.mod.Wk M.kp (dC (b pos a s U H _ I h) λ v S ⟨V,u,i,r,q⟩=>⟨i.uD,JB M F m c d n i r q⟩) g o
end
def PK (X:Cx) (Y:List Keyword) (t:TA):Prop :=
 ∀ (a:Pos) (p:List (ak×Obj)) (s:Shared) (U:St) (H:Hp) (Q:aB->Hp->Prop),Inv X p U H s->t U H Q->wpAny (model X.prog X.w) X.A (evalAll ((backToKw a (keywordEach Y X.env)).map (·.2))) (AP X p U Q) X.xe s
section
variable {X:Cx} {k:Nat} {f:ak} {x:Str} {p pos acX:Pos} {e:Expr} {Yo:List Keyword} {te:TE} {t:TA} {nm:Option Str}
theorem PN:PK X [] LG:=λ Z Z Z Z H Q I h=>wpAny_evalAll_nil ⟨[],H,I,.nil,h⟩
theorem LD (d:PE X e te) (f:PK X Yo t):PK X (⟨nm,e,acX⟩::Yo) (NO te t):=by
 intro pos p s U H Q I h;exact wpAny_evalAll_cons (aam (dC (d p s U H _ I h) λ u S ⟨x,a,i,r,q⟩=>aam (af5 (aaW (dC (f pos p S U a _ i q) λ l k ⟨j,b,c,R,g⟩=>⟨x::j,b,c,.cons r R,g⟩)))))
end
structure aD (N P:d9) (sc:Scope):Prop where
 kind:sc.kind = .function
 co:sc.isCoroutine=false
 gen:sc.isGenerator=false
 nd:N.Nodup
 pre:N.take P.length=P
 par:∀ x∈P,sc.names.lookup x=some .local\/sc.names.lookup x=some .cell
 Qn:∀ y∈sc.names,y.2 ≠ .free
theorem yp {k:Str->Option NameKind} {x:Str}:∀ {b:List (Str×ay)} {m:eV},(∀ v,(x,v)∉b)->bindL k b m x=m x
 | [],_,_=>rfl
 | (n,v)::r,m,h=>by
   unfold bindL;rw [yp λ w hw=>h w (aaB _ hw)];split
   . grind
   . rfl
theorem yk {k:Str->Option NameKind} {x:Str}:∀ {b:List (Str×ay)} {m:eV},(∀ v,(x,v)∉b)->bindC k b m x=m x
 | [],_,_=>rfl
 | (n,v)::r,m,h=>by
   unfold bindC;rw [yk λ w hw=>h w (aaB _ hw)];split
   . rfl
   . grind
theorem yg {k:Str->Option NameKind} {x:Str} {v:ay}:∀ {P:d9} {vs:bB} {i:Nat} {m:eV},P.Nodup->P[i]?=some x->vs[i]?=some v->k x=some .local ->
   bindL k (P.zip vs) m x=some v
 | [],_,_,_,_,h,_,_=>by simp at h
 | _::_,[],_,_,_,_,h,_=>by simp at h
 | p::P,w::vs,0,m,n,H,a,b=>by
   simp at H a;subst H;subst a;show bindL k ((p,w)::P.zip vs) m p=_;unfold bindL;rw [yp λ v c=>(ab3.mp n).1 (af9 c).1,abp b];simp
 | p::P,w::vs,i+1,m,n,H,a,b=>by
   unfold bindL;exact yg (ab3.mp n).2 (by simpa using H) (by simpa using a) b
theorem ya {k:Str->Option NameKind} {x:Str} {v:ay}:∀ {P:d9} {vs:bB} {i:Nat} {m:eV},P.Nodup->P[i]?=some x->vs[i]?=some v->k x≠some .local ->
   bindC k (P.zip vs) m x=some v
 | [],_,_,_,_,h,_,_=>by simp at h
 | _::_,[],_,_,_,_,h,_=>by simp at h
 | p::P,w::vs,0,m,n,H,a,b=>by
   simp at H a;subst H;subst a;show bindC k ((p,w)::P.zip vs) m p=_;unfold bindC;rw [yk λ v c=>(ab3.mp n).1 (af9 c).1,abC b];simp
 | p::P,w::vs,i+1,m,n,H,a,b=>by
   unfold bindC;exact ya (ab3.mp n).2 (by simpa using H) (by simpa using a) b
def start (N:d9) (vs:aB):St:=vs.map some++List.replicate (N.length - vs.length) none
noncomputable def ux (C:Lx) (P:bq) (w:bi) (K:aF) (mg:eV) (base:bx) (N:d9) (q:Str) (S:Scope) (f:ak) (c:ay) (A:Around) (outer:List Env) (s:Shared) (H:Hp) (E:XK):Cx where
 prog:=P
 w:=w
 K:=K
 mg:=mg
 base:=base
 A:=A.deeper (envOfC q S s.heap.objs.size f c)
 N:=N
 s₀:=s
 H₀:=H
 env:=envOfC q S s.heap.objs.size f c
 outer:=outer
 stack:=envOfC q S s.heap.objs.size f c::outer
 ex:=[]
 calm:=true
 fn:=λ Z=>true
 pn:=[]
 xe:=λ e s'=>wpAny (model P w) (A.deeper (envOfC q S s.heap.objs.size f c)) (leaving (envOfC q S s.heap.objs.size f c) e) (λ Z a=>C outer H s E e a) (λ b a=>C outer H s E b a) s'
theorem Bq {s:Scope} {n:Nat} {x:Str} (h:s.names.lookup x=some .cell):∃ c,(cellsFrom n s.names []).lookup x=some c:=by
 exact aew.mp (W.cellsFrom_some s.names n [] (.inl h))
theorem GJ {F:Lx} {P:bq} {w:bi} {K:aF} {M:eV} {B:bx} {N m:d9} {d:Scope} {f:ak} {C:ay} {A:Around} {outer:List Env} {s s1:Shared} {E:XK} {U:bB} {vs:aB} (S:aD N m d) (L:A.handled=none) (j:Gw P w K M B A outer s H) (Q:vs.length=m.length) (r:Vals vs U) (x:InCallC s s.heap.objs.size (bindL (envOfC qual d s.heap.objs.size f C).kindOf (m.zip U) λ Z=>none) (cellsFrom (s.heap.objs.size+1) d.names []) (bindC (envOfC qual d s.heap.objs.size f C).kindOf (m.zip U) λ Z=>none) s1) :
   Inv (ux F P w K M B N qual d f C A outer s H E) [] (start N vs) H s1:=by
 have T:m.length<=N.length:=by have:=acJ List.length S.pre;rw [aby] at this;lia
 obtain ⟨t,W,rfl,G⟩:=x.done;have V:∀ b:ak,b∉(ux F P w K M B N qual d f C A outer s H E).ex:=λ b z=>absurd (show b∈([]) from z) (by simp);refine ⟨⟨j.mod,S.kind,rfl,rfl,aaE _,λ y z c t g=>?_,λ y l=>?_,λ y c Z h=>?_,λ Z=>L,Around.frames_deeper j.frames,.inr ⟨rfl,rfl⟩,λ b z=>absurd z (V b),j.bs,j.NM,λ b Z Z=>V b,λ b z=>absurd z (V b),j.uW,j.P8⟩,
   rfl,j.bare,Un.kept G,⟨_,x.toInCall.ns,λ i y v t g O=>?_⟩,λ y c h=>⟨_,x.cell y c h⟩,j.eB.fresh (aaE _),λ y c h=>?_,λ p n=>absurd (show p∈([]) from n) (by simp),j.eB.kept G,?_⟩
 . exact name_of_addr x.apart (adO t) (adO g)
 .
  have l:=l;rcases l with l|l
  . exact Bq l
  . exact absurd rfl (S.Qn _ (adO l))
 . exact aeN (x.above y c (adO h))
 .
  have D:i<vs.length:=by
    unfold start at g;by_cases D:i<vs.length
    . exact D
    . rw [abM (by simpa using D)] at g;rw [aeB] at g;split at g<;>cases g
  have J:vs[i]?=some v:=by
    unfold start at g;rw [aaO (by simpa using D),aah] at g;cases e:vs[i]? with
    | none=>rw [e] at g;cases g
    | some a=>rw [e] at g;cases g;rfl
  obtain ⟨u,I,R⟩:=r.get J;have n:m[i]?=some y:=by
    rw [<- S.pre,agn (by lia)];exact t
  have o:m.Nodup:=by rw [<- S.pre];exact S.nd.sublist (List.take_sublist _ _)
  refine ⟨u,R,?_⟩;rcases S.par y (aae n) with k|k
  . exact .inl ⟨k,yg o n I k⟩
  .
   obtain ⟨c,e⟩:=Bq k;refine .inr ⟨.inl k,c,e,?_⟩;have q:=x.cell y c e;rw [ya o n I (by show d.names.lookup y≠_;rw [k];decide)] at q;exact q
 . exact j.eB.fresh (aeN (x.above y c (adO h)))
 .
  unfold start;show _=N.length;rw [aas,Ea,aek];lia
theorem Oy {C:Lx} {P:bq} {w:bi} {K:aF} {M:eV} {B:bx} {k:Nat} {f:ak} {g:Str} {p:Arguments} {c:List Stmt} {a:Scope} {L kV D T i ct oc:ay} {I od:Option ak} {U:Array (kY)} {N m:d9} {sp:Sp} (lk:K.lookup f=some ⟨oc,od,.func (W.fnOf g qual p c a L kV D T I i ct),U⟩) (xN:W.codeIn K i qual=true) (S:aD N m a) (len:∀ vs H Q E,sp vs H Q E->vs.length=m.length) (jg:∀ (A:Around) (outer:List Env) (s:Shared) (H:Hp) (vs:aB) (Q:VK) (E:XK),dW k (A.deeper (envOfC qual a s.heap.objs.size f i))->sp vs H Q E ->
     ∃ t,xA (ux C P w K M B N qual a f i A outer s H E) c t/\t { nx:=λ _ h=>Q .cN h,rt:=Q } (start N vs) H) :
   nN P w K M B C (k+1) f (W.fnOf g qual p c a L kV D T I i ct) m sp:=by
 refine ⟨len,λ A outer s H args us vs Q E z l hb r O=>?_⟩;have hl:=len _ _ _ _ O;have G:=l.mod.Wk.keeps λ b o e=>(l.bs b o e).1;have X:∀ y∈m.zip us,a.names.lookup y.1=some .local\/(a.names.lookup y.1=some .cell/\((cellsFrom (s.heap.objs.size+1) a.names []).lookup y.1).isSome=true):=λ ⟨n,v⟩ hy=>by
   rcases S.par n (af9 hy).1 with q|q
   . exact .inl q
   . exact .inr ⟨q,W.cellsFrom_some _ _ _ (.inl q)⟩
 refine codeAny_call_function z.depth (G _ _ lk) rfl S.co S.gen rfl (W.codeRec_of G xN) (hb _ _ _ _ (wpAny_newFunctionEnv_cells S.kind X λ env he s1 x=>?_));subst he;refine ⟨(l.mod.nolimit.keeps λ b o e=>(l.bs b o e).1).keeps x.toInCall.keep,codeAny_func ?_⟩;obtain ⟨t,ht,hq⟩:=jg A outer s H vs Q E (z.deeper _) O;refine adE (ht [] s1 (start N vs) H _ (GJ S z.hd l hl r x) hq) (λ Y s' j=>?_) λ e s' j=>j;have F:∀ {d:St} {h:Hp} {v:V} {u:ay},Inv (ux C P w K M B N qual a f i A outer s H E) [] d h s'->RelV v u->Q v h->CE outer P w H s Q u s' :=
   λ {d h v u} J R q=>⟨v,h,J.os,J.bare,J.base,J.eB,R,q⟩
 cases Y with
 | ret u =>
   obtain ⟨v,d,h,J,R,q⟩:=j;exact F J R q
 | next =>
   obtain ⟨d,h,J,q⟩:=j;exact F (v:=V.cN) J rfl q
 | brk =>
   obtain ⟨_,_,_,q⟩:=j;exact False.elim q
 | cont =>
   obtain ⟨_,_,_,q⟩:=j;exact False.elim q
section
variable {X:Cx} {x:Str} {p pos:Pos} {e:Expr} {es:List Expr} {t:TA} {id T:String} {r:aB->Hp->VK->Prop}
def tCB (r:aB->Hp->VK->Prop) (t:TA):TE:=λ U H Q=>t U H λ v h=>r v h Q
theorem aT (d:im X (.builtin id) r) (g:Gl X x) (j:X.mg x=none) (l:bootBuiltins x=some (.builtin id)) (c:PA X (e::es) t) (k:autoParam (x ≠ "__name__") zb_._auto_1) (B:autoParam (AU x) zb_._auto_1) (f:autoParam (Fe X e es) za_._auto_1) (m:autoParam (Im X es pos) za_._auto_1):PE X (.Call (.Name x p) (e::es) [] pos) (tCB r t):=by
 intro a s U H Q I h;exact ad6 (ke I g j l (PyProof.Rows.callWith_builtin1 (dC (c pos a s U H _ I h) λ u S ⟨v,b,i,R,q⟩=>d a S U b v u Q i R q) f m) k B)
theorem cU (d:im X (.type T) r) (g:Gl X x) (j:X.mg x=none) (l:bootBuiltins x=some (.type T)) (c:PA X (e::es) t) (k:autoParam (x ≠ "__name__") zb_._auto_1) (B:autoParam (AU x) zb_._auto_1) (f:autoParam (Fe X e es) za_._auto_1) (m:autoParam (Im X es pos) za_._auto_1):PE X (.Call (.Name x p) (e::es) [] pos) (tCB r t):=by
 intro a s U H Q I h;exact ad6 (ke I g j l (acH (dC (c pos a s U H _ I h) λ u S ⟨v,b,i,R,q⟩=>d a S U b v u Q i R q) f m) k B)
end
end L2
namespace HT
open PySem PyProof.Rows
noncomputable def lexLt:List Int->List Int->Bool
 | [],[]=>false
 | [],_::_=>true
 | _::_,[]=>false
 | x::xs,y::ys=>if x=y then lexLt xs ys else decide (x<y)
section
variable {prog:bq} {w:bi} {A:Around} {E:ay->Shared->Prop} {s:Shared}
theorem Mc {t b:ak} {vs W:bB} {Q:ay->Shared->Prop} (l:IsTup s.heap t vs.toArray) (k:IsTup s.heap b W.toArray) (g:vs≠[])
   (i:W=[]->Q (.ref t) s) (j:W≠[]->Q (.ref s.heap.objs.size) { s with heap:=s.heap.push { cls:=.type "tuple",data:=.seq (vs++W).toArray }})
   (hsz:vs.length+W.length<=sizeLine):wpAny (model prog w) A (binaryOp .Add (.ref t) (.ref b)) Q E s:=by
 obtain ⟨⟨cls,D,data,sl⟩,H,c,n,f⟩:=id l;obtain ⟨⟨z,p,d,O⟩,I,R,N,h⟩:=id k;simp only at c f R h;subst c f R h;have e:vs.toArray++W.toArray=(vs++W).toArray:=by simp
 by_cases a:W=[]
 . exact concat_meets ⟨_,H,rfl⟩ ⟨_,I,rfl⟩ agr seq_tuple_add afi ae8 (ae3 _ _)
     (tuple_addW1 t b vs.toArray W.toArray n N D p sl O (by simpa using g) (by simp [a])) ⟨H,I,i a⟩
 .
  refine concat_meets ⟨_,H,rfl⟩ ⟨_,I,rfl⟩ agr seq_tuple_add afi ae8 (ae3 _ _)
    (tuple_addW2 t b vs.toArray W.toArray n N D p sl O (by simpa using g) (by simpa using a) (by simp_all)) ⟨H,I,?_⟩
  rw [e];exact j a
noncomputable def AG (n d:Nat):Option Int->Nat
 | none=>d
 | some v=>if v<0 then (v+(n:Int)).toNat else min v.toNat n
theorem IB (n d:Nat):AG n d none=d:=rfl
theorem LV (n d k:Nat):AG n d (some (k:Int))=min k n:=by
 show (if k<0 then ((k:Int)+n).toNat else min (k:Int).toNat n)=min k n;rw [abC (by lia),acM]
end
end HT
namespace L2
open PySem PySem.Spec PyProof.Rows
variable {H H':Hp} {t':Nat} {U:St}
abbrev TO:=St->Hp->(Option Int->Hp->Prop)->Prop
def PO (X:Cx) (e:Option Expr) (t:TO):Prop :=
 ∀ (p:List (ak×Obj)) (s:Shared) (U:St) (H:Hp) (Q:Option Int->Hp->Prop),Inv X p U H s->t U H Q ->
   wpAny (model X.prog X.w) X.A (evalPart e X.env) (λ u S=>∃ o H',Inv X p U H' S/\IsPart u o/\Q o H') X.xe s
def LZ:TO:=λ Z H Q=>Q none H
def Xc (t:TE):TO:=λ U H Q=>t U H λ x h=>∃ i,x = .int i/\Q (some i) h
section
variable {X:Cx} {e:Expr} {te:TE} {lo hi:Option Expr} {tl th:TO} {pos p2:Pos}
theorem Aj:PO X none LZ:=by
 intro p s U H Q I h;exact aaW ⟨none,H,I,.none,h⟩
theorem yV (h:PE X e te):PO X (some e) (Xc te):=by
 intro p s U H Q I c;refine dC (h p s U H _ I c) λ u S ⟨x,a,b,r,d⟩=>?_;obtain ⟨i,rfl,q⟩:=d;obtain ⟨t,rfl⟩:=r;exact ⟨some i,a,b,.int i t,q⟩
def ZS (X:Cx) (r:V->Option Int->Option Int->Hp->VK->Prop):Prop :=
 ∀ (p:List (ak×Obj)) (s:Shared) (U:St) (H:Hp) (x:V) (v a b:ay) (lo hi:Option Int) (sl:ak) (Q:VK),Inv X p U H s->RelV x v->s.heap.IsSliceOf sl a b .none->IsPart a lo->IsPart b hi->r x lo hi H Q ->
   ∃ T id,typeLookup (.type T) "__getitem__" = pure (some (.builtin id))/\s.TypeIs v T/\wpAny (model X.prog X.w) X.A (getItem v (.ref sl)) (EP X p U Q) X.xe s
def tSl (r:V->Option Int->Option Int->Hp->VK->Prop) (t:TE) (c T:TO):TE:=λ U H Q=>t U H λ x h=>c U h λ l a=>T U a λ u b=>r x l u b Q
theorem vQ {r:V->Option Int->Option Int->Hp->VK->Prop} (w:ZS X r) (n:PE X e te) (t:PO X lo tl) (z:PO X hi th):PE X (.Subscript e (.Slice lo hi none p2) pos) (tSl r te tl th):=by
 intro p s U H Q I h;refine Subscript_ (dC (n p s U H _ I h) λ v F ⟨x,d,i,R,C⟩=>wpAny_Slice (dC (t p F U d _ i C) λ a G ⟨l,f,j,A,D⟩=>dC (z p G U f _ j D) λ c S ⟨u,g,k,B,E⟩=>?_));refine aaW ?_;obtain ⟨T,id,m,y,o⟩:=w p { S with heap:=S.heap.push { cls:=.type "slice",data:=.fields #[a,c,.none]}} U g x v a c l u S.heap.objs.size Q (k.kept λ b O q=>aaF _ q) R (Heap.IsSliceOf.new ..) A B E;exact tail_any y m o (by with_unfolding_all rfl)
def Hj (xs:aB) (lo h:Option Int):aB:=(xs.drop (HT.AG xs.length 0 lo)).take (HT.AG xs.length xs.length h - HT.AG xs.length 0 lo)
theorem Br (xs:aB) (lo h:Option Int):(Hj xs lo h).length<=xs.length:=by
 unfold Hj;rw [aby,List.length_drop];lia
inductive Vv (K:aF) (x:V) (y:V) (H:Hp) (Q:VK):Prop
 | mk (a b xs ys:_) (_:x = .ref a) (_:y = .ref b) (_:cw K H a xs) (_:cw K H b ys) (_:xs≠[]) (_:xs.length+ys.length<=sizeLine) (_:(ys=[]->Q (.ref a) H)) (_:(ys≠[]->∀ p,H p=none->Q (.ref p) (upd H p (.tup (xs++ys)))))
theorem Vals.u5 {xs:aB} {u:bB} (r:Vals xs u):u=[]↔xs=[]:=by
 cases r with
 | nil=>simp
 | cons _ _=>simp
theorem Ni:jI X (binaryOp .Add) (Vv X.K):=by
 intro p s U H x y v u Q I k l h;obtain ⟨a,b,n,Y,rfl,rfl,d,e,f,c,i,j⟩:=h;cases k;cases l;obtain ⟨B,R,g,Z⟩:=I.tuple d;obtain ⟨m,r,p2,Z⟩:=I.tuple e;refine HT.Mc g p2 (λ z=>f (R.u5.mp z)) (λ z=>⟨.ref a,H,I,rfl,i (r.u5.mp z)⟩) (λ z=>⟨.ref s.heap.objs.size,_,I.laid (λ b o q=>aaF _ q) (aaE _) ?_,rfl,j (λ w=>z (r.u5.mpr w)) _ (I.eB.fresh (aaE _))⟩) (by rw [<- R.length,<- r.length];exact c);exact ⟨by rw [aas];exact c,_,R.append r,IsTup.new _ _⟩
end
noncomputable def Ik (n:Nat) (i:Int):Option Nat:=if 0<=i then (if i<n then some i.toNat else none) else if -(n:Int)<=i then some (i+n).toNat else none
def uS {α:Type} (xs:List α) (i:Int):Option α:=(Ik xs.length i).bind λ j=>xs[j]?
theorem FZ {n:Nat} {i:Int} {j:Nat} (h:Ik n i=some j):seqIndex? i n=some j/\j<n/\-(n:Int)<=i/\i<n:=by
 unfold Ik at h;by_cases a:0<=i
 .
  rw [abp a] at h;by_cases H:i<n
  . rw [abp H] at h;exact ⟨by rw [seqIndex_of a H,(abb h)],by lia,by lia,H⟩
  . rw [abC H] at h;cases h
 .
  rw [abC a] at h;by_cases H : -n<=i
  . rw [abp H] at h;exact ⟨by rw [seqIndex_neg (by lia) H,(abb h)],by lia,H,by lia⟩
  . rw [abC H] at h;cases h
theorem FS {a:Type} {xs:List a} {i:Int} {v:a} (h:uS xs i=some v):∃ j,seqIndex? i xs.length=some j/\xs[j]?=some v/\j<xs.length/\-(xs.length:Int)<=i/\i<xs.length:=by
 unfold uS at h;cases e:Ik xs.length i with
 | none=>rw [e] at h;cases h
 | some j =>
   rw [e] at h;obtain ⟨H,b,c,d⟩:=FZ e;exact ⟨j,H,h,b,c,d⟩
theorem bC {a:Type} {xs:List a} {j:Nat} {v:a} (h:xs[j]?=some v):uS xs (j:Int)=some v:=by
 have H:=(SV.mp h).1;have e:Ik xs.length j=some j:=by
   unfold Ik;rw [abp (by lia),abp (by lia)];simp
 unfold uS;rw [e];exact h
def MJ (b:Expr):Prop:=∀ o i,subscripted b false o i=operate [o,i] (getItem o i)
def Ut (X:Cx) (r:R2):Prop :=
 ∀ (a S:Expr) (p:List (ak×Obj)) (s:Shared) (U:St) (H:Hp) (x y:V) (v u:ay) (Q:VK),Inv X p U H s->RelV x v->RelV y u->r x y H Q ->
   subscripted S false v u=operate [v,u] (getItem v u)->wpAny (model X.prog X.w) X.A (subscriptTail a S v u) (EP X p U Q) X.xe s
def MtR (X:Cx) (id:String) (r:V->aB->Hp->VK->Prop):Prop :=
 ∀ (p:List (ak×Obj)) (s:Shared) (U:St) (H:Hp) (x:V) (a:aB) (v:ay) (u:bB) (Q:VK),Inv X p U H s->RelV x v->Vals a u->r x a H Q ->
   wpAny (model X.prog X.w) X.A (call (.builtin id) (v::u)) (EP X p U Q) X.xe s
section
variable {X:Cx} {a b:Expr} {ta tb:TE} {pos:Pos}
theorem aJ {r:R2} (f:Ut X r) (d:PE X a ta) (e:PE X b tb) (g:MJ b:=by exact λ Z Z=>rfl):PE X (.Subscript a b pos) (WM r ta tb):=by
 intro p s U H Q I h;exact Subscript_ (PP d e I h λ v u S x y c i R j q=>f a b p S U c x y v u Q i R j q (g _ _))
inductive ac6 (K:aF) (x:V) (y:V) (H:Hp) (Q:VK):Prop
 | mk (p xs i v:_) (_:x = .ref p) (_:y = .int i) (_:aW K H p xs) (_:uS xs i=some v) (_:Q v H)
inductive ZJ (K:aF) (x:V) (y:V) (H:Hp) (Q:VK):Prop
 | mk (p xs i v:_) (_:x = .ref p) (_:y = .int i) (_:cw K H p xs) (_:uS xs i=some v) (_:Q v H)
theorem MZ:Ut X (ac6 X.K):=by
 intro V S a s U H x y v u Q I R D h k;obtain ⟨p,J,i,z,rfl,rfl,C,o,q⟩:=h;cases R;obtain ⟨t,rfl⟩:=D;obtain ⟨B,r,d,G⟩:=I.list C;obtain ⟨j,b,l,E,m,n⟩:=FS o;obtain ⟨w,e,M⟩:=r.get l;have A:=r.length;have F:=wc;have f:EP X a U Q w s:=⟨z,H,I,M,q⟩
 by_cases g:0<=i
 .
  have c:=by
    rw [seqIndex_of g n] at b;exact abb b
  exact item_listR d.isList g (by lia) (by rw [c];simpa using e) f k
 .
  have c:(i+B.toArray.size).toNat=j:=by
    rw [seqIndex_neg (by lia) m] at b;rw [abK,<- A];exact abb b
  exact subscriptTail_builtinR d.isList.typeIs slot_list_getitem.lookup
    (wpAny_getItem_list_neg d.isList (by lia) (by rw [abK]<;>lia) (by lia) (by rw [c];simpa using e) ⟨rfl,f⟩) k
theorem Q7:Ut X (ZJ X.K):=by
 intro V S a s U H x y v u Q I R l h k;obtain ⟨p,D,i,z,rfl,rfl,g,f,q⟩:=h;cases R;obtain ⟨t,rfl⟩:=l;obtain ⟨B,r,b,C⟩:=I.tuple g;obtain ⟨j,c,d,m,n,o⟩:=FS f;obtain ⟨w,e,M⟩:=r.get d;have A:=wc;exact subscriptTail_builtinR b.typeIs slot_tuple_getitem.lookup
   (getItem_tuple b (by lia) (by lia) (by rw [abK,<- r.length];exact c) (by simpa using e) ⟨rfl,⟨z,H,I,M,q⟩⟩) k
theorem DC (b:bB) (n j:Nat) (u:ay):Obj.mapSeq (·.setIfInBounds j u) { cls:=.type "list",data:=.seq b.toArray n }={ cls:=.type "list",data:=.seq (b.set j u).toArray n }:=by
 simp [Obj.mapSeq]
theorem Inv.lst {a:List (ak×Obj)} {s:Shared} {p:ak} {xs:aB} (I:Inv X a U H s) (h:H p=some (.lst xs)) :
   ∃ (b:bB) (n:Nat),Vals xs b/\s.heap.get? p=some { cls:=.type "list",data:=.seq b.toArray n }/\xs.length<=sizeLine:=by
 obtain ⟨z,b,n,r,e⟩:=I.eB p _ h;exact ⟨b,n,r,e,z⟩
theorem Inv.PX {a:List (ak×Obj)} {s:Shared} {p:ak} {xs ys:aB} {B x:bB} {n N:Nat} {f:Obj->Obj} (I:Inv X a U H s) (h:H p=some (.lst xs)) (g:s.heap.get? p=some { cls:=.type "list",data:=.seq B.toArray n }) (c:f { cls:=.type "list",data:=.seq B.toArray n }={ cls:=.type "list",data:=.seq x.toArray N }) (r:Vals ys x) (i:ys.length<=sizeLine) (t:Nat) :
   Inv X a U (upd H p (.lst ys)) { s with heap:=s.heap.update p f,toks:=t }:=by
 have e:(s.heap.update p f).get? p=some { cls:=.type "list",data:=.seq x.toArray N }:=by
   rw [aer f g (by rw [c]<;>rfl),c]
 refine I.write (by rw [h];trivial) (.inl rfl) (λ b u d q=>(aeV _ _ (aeg d)).trans q) ⟨_,e⟩ ?_;exact ⟨i,x,N,r,e⟩
def Vp:V->V->V->Hp->(Hp->Prop)->Prop:=λ o i v H Q=>∃ p x k j,o = .ref p/\i = .int k/\H p=some (.lst x)/\Ik x.length k=some j/\Q (upd H p (.lst (x.set j v)))
theorem set_list:OR X Vp:=by
 intro w s U H o i v O E u Q I z R A h;obtain ⟨p,F,k,j,rfl,rfl,m,x,q⟩:=h;cases z;obtain ⟨t,rfl⟩:=R;obtain ⟨B,n,r,d,y⟩:=I.lst m;obtain ⟨a,C,g,l⟩:=FZ x;have c:=r.length;have D:=wc;have e  :=
   I.PX m d (DC B n j u) (r.set A j) (by rw [ado];exact y) s.toks
 by_cases f:0<=k
 .
  have b:=by
    rw [seqIndex_of f l] at a;exact abb a
  exact W.ki_setAt d f (by lia) (by rw [abK,<- c];exact l) (by rw [b];exact ⟨_,e,q⟩)
 .
  have b:(k+B.toArray.size).toNat=j:=by
    rw [seqIndex_neg (by lia) g] at a;rw [abK,<- c];exact abb a
  exact W.ki_setBack d (by lia) (by rw [abK,<- c];exact g) (by lia) (by rw [b];exact ⟨_,e,q⟩)
theorem Au (lo H:Option Int) (n:Nat):(sliceBounds lo H none n).1=((HT.AG n 0 lo:Nat):Int)/\(sliceBounds lo H none n).2.1=((HT.AG n n H:Nat):Int)/\(sliceBounds lo H none n).2.2=1:=by
 refine ⟨?_,?_,rfl⟩
 .
  cases lo with
  | none=>simp [sliceBounds,HT.AG]
  | some i =>
    simp only [sliceBounds,HT.AG,Option.getD_none,show (1:Int) > 0 by decide,af6];by_cases h:i<0
    . simp only [h,af6]<;>lia
    . simp only [h,af4]<;>lia
 .
  cases H with
  | none=>simp [sliceBounds,HT.AG]
  | some i =>
    simp only [sliceBounds,HT.AG,Option.getD_none,show (1:Int) > 0 by decide,af6];by_cases h:i<0
    . simp only [h,af6]<;>lia
    . simp only [h,af4]<;>lia
theorem xG (b:bB) (lo h:Option Int):slicePick b.toArray lo h none=((b.drop (HT.AG b.length 0 lo)).take (HT.AG b.length b.length h - HT.AG b.length 0 lo)).toArray:=by
 obtain ⟨H,a,c⟩:=Au lo h b.toArray.size;unfold slicePick;rw [H,a,c];simp only [sliceRange_one,pick_run,abK]<;>rfl
inductive Zs (K:aF) (x:V) (lo:Option Int) (hi:Option Int) (H:Hp) (Q:VK):Prop
 | mk (a xs:_) (_:x = .ref a) (_:aW K H a xs) (_:∀ p,H p=none->Q (.ref p) (upd H p (.lst (Hj xs lo hi))))
theorem Me:ZS X (Zs X.K):=by
 intro p s U H x v V n l e sl Q I R g k m h;obtain ⟨a,d,rfl,i,q⟩:=h;cases R;obtain ⟨B,r,f,j⟩:=I.list i;have c:=r.length;refine ⟨"list",_,slot_list_getitem.lookup,f.isList.typeIs,wpAny_getItem_list_slice f.isList g k m .none (by simp) ?_ (by rw [abK]<;>lia)⟩;rw [xG,<- c];refine ⟨.ref s.heap.objs.size,_,I.laid (λ b o q=>aaF _ q) (aaE _) ?_,rfl,q _ (I.eB.fresh (aaE _))⟩;exact ⟨aaX (Br d l e) j,_,0,(r.drop (HT.AG d.length 0 l)).take (HT.AG d.length d.length e - HT.AG d.length 0 l),abW _ rfl⟩
noncomputable def px:V->Bool
 | .cN=>true
 | .bl _=>true
 | .int _=>true
 | .str _=>true
 | _=>false
noncomputable def MB:V->V->Bool
 | .cN,.cN=>true
 | .bl a,.bl b=>a == b
 | .bl a,.int b=>(if a then 1 else 0) == b
 | .int a,.bl b=>a == (if b then 1 else 0)
 | .int a,.int b=>a == b
 | .str a,.str b=>a == b
 | _,_=>false
theorem PU {A:Around} {s:Shared} {y x:V} {u v:ay} (R:RelV y u) (r:RelV x v) (F:px y=true) (f:px x=true):SeqAt.EqAt A s u v (MB y x):=by
 cases y with
 | cN =>
   cases R;cases x with
   | cN=>cases r;exact SeqAt.EqAt.same _
   | bl b=>cases r;exact SeqAt.EqAt.none_bool b
   | int b=>obtain ⟨t,rfl⟩:=r;exact SeqAt.EqAt.none_int b t
   | str b=>obtain ⟨t,rfl⟩:=r;exact SeqAt.EqAt.none_str b t
   | _=>exact absurd (show false=true from f) aa3
 | bl a =>
   cases R;cases x with
   | cN=>cases r;exact SeqAt.EqAt.bool_none a
   | bl b=>cases r;exact SeqAt.EqAt.bool_bool a b
   | int b=>obtain ⟨t,rfl⟩:=r;exact SeqAt.EqAt.bool_int a b t
   | str b=>obtain ⟨t,rfl⟩:=r;exact SeqAt.EqAt.bool_str a b t
   | _=>exact absurd (show false=true from f) aa3
 | int a =>
   obtain ⟨t',rfl⟩:=R;cases x with
   | cN=>cases r;exact SeqAt.EqAt.int_none a t'
   | bl b=>cases r;exact SeqAt.EqAt.int_bool a t' b
   | int b=>obtain ⟨t,rfl⟩:=r;exact SeqAt.EqAt.int_int a t' b t
   | str b=>obtain ⟨t,rfl⟩:=r;exact SeqAt.EqAt.int_str a t' b t
   | _=>exact absurd (show false=true from f) aa3
 | str a =>
   obtain ⟨t',rfl⟩:=R;cases x with
   | cN=>cases r;exact SeqAt.EqAt.str_none a t'
   | bl b=>cases r;exact SeqAt.EqAt.str_bool a t' b
   | int b=>obtain ⟨t,rfl⟩:=r;exact SeqAt.EqAt.str_int a t' b t
   | str b=>obtain ⟨t,rfl⟩:=r;exact SeqAt.EqAt.str_str a t' b t
   | _=>exact absurd (show false=true from f) aa3
 | _=>exact absurd (show false=true from F) aa3
def Dg (x:V) (u:ay):Bool:=match u with
 | .none=>MB .cN x
 | .bool b=>MB (.bl b) x
 | .int i _=>MB (.int i) x
 | .str z _=>MB (.str z) x
 | _=>false
theorem IF {x y:V} {u:ay} (r:RelV y u) (f:px y=true):Dg x u=MB y x:=by
 cases y with
 | cN=>cases r;rfl
 | bl b=>cases r;rfl
 | int i=>obtain ⟨t,rfl⟩:=r;rfl
 | str z=>obtain ⟨t,rfl⟩:=r;rfl
 | _=>exact absurd (show false=true from f) aa3
theorem qN {x:V}:∀ {xs:aB} {U:bB},Vals xs U->xs.all px=true->U.any (Dg x)=xs.any λ y=>MB y x
 | _,_,.nil,_=>rfl
 | y::xs,u::U,.cons r t,f=>by
   rw [List.all_cons,abX] at f;rw [aeD,aeD,IF r f.1,qN t f.2]
theorem oE {A:Around} {s:Shared} {x:V} {v:ay} (R:RelV x v) (F:px x=true):∀ {xs:aB} {U:bB},Vals xs U->xs.all px=true->∀ u∈U,SeqAt.EqAt A s u v (Dg x u)
 | _,_,.nil,_=>λ u h=>by cases h
 | y::xs,u::U,.cons r t,f=>λ a h=>by
   rw [List.all_cons,abX] at f;rcases aay.mp h with rfl|h
   . rw [IF r f.1];exact PU r R f.1 F
   . exact oE R F t f.2 a h
def Lf (x:V) (xs:aB):Bool:=xs.any λ y=>MB y x
inductive X4 (K:aF) (neg:Bool) (x:V) (y:V) (H:Hp) (Q:VK):Prop
 | mk (p xs:_) (_:y = .ref p) (_:(aW K H p xs\/cw K H p xs)) (_:px x=true) (_:xs.all px=true) (_:Q (.bl (if neg then !Lf x xs else Lf x xs)) H)
theorem HU:jI X (compareOp .In) (X4 X.K false):=by
 intro e s U H x y v u Q I R i h;obtain ⟨p,j,rfl,a,F,f,q⟩:=h;cases i;rcases a with a|a
 .
  obtain ⟨b,r,d,g⟩:=I.list a;refine SeqAt.in_listAt (Dg x) d.isList (λ w c=>oE R F r f w (by simpa using c)) ⟨.bl _,H,I,rfl,?_⟩;rw [show b.toArray.any (Dg x)=b.any (Dg x) by simp,qN r f];exact q
 .
  obtain ⟨b,r,d,g⟩:=I.tuple a;refine SeqAt.in_tupleAt (Dg x) d (λ w c=>oE R F r f w (by simpa using c)) ⟨.bl _,H,I,rfl,?_⟩;rw [show b.toArray.any (Dg x)=b.any (Dg x) by simp,qN r f];exact q
theorem rT:jI X (compareOp .NotIn) (X4 X.K true):=by
 intro e s U H x y v u Q I R i h;obtain ⟨p,j,rfl,a,F,f,q⟩:=h;cases i;rcases a with a|a
 .
  obtain ⟨b,r,d,g⟩:=I.list a;refine SeqAt.notIn_listAt (Dg x) d.isList (λ w c=>oE R F r f w (by simpa using c)) ⟨.bl _,H,I,rfl,?_⟩;rw [show b.toArray.any (Dg x)=b.any (Dg x) by simp,qN r f];exact q
 .
  obtain ⟨b,r,d,g⟩:=I.tuple a;refine SeqAt.notIn_tupleAt (Dg x) d (λ w c=>oE R F r f w (by simpa using c)) ⟨.bl _,H,I,rfl,?_⟩;rw [show b.toArray.any (Dg x)=b.any (Dg x) by simp,qN r f];exact q
theorem zY:im X (.builtin "len") (λ xs H Q=>∃ p ys,xs=[.ref p]/\(aW X.K H p ys\/cw X.K H p ys)/\Q (.int ys.length) H):=by
 intro d s U H xs i Q I r h;obtain ⟨p,ys,rfl,b,q⟩:=h;obtain ⟨u,rfl,f⟩:=vals1 r;cases f;have g:=wc;rcases b with b|b
 . obtain ⟨B,R,c,e⟩:=I.list b;have a:=R.length;exact Calls.call_len_list c.isList (by simp only [abK]<;>lia) ⟨.int ys.length,H,I.tok _,⟨s.toks+1,by rw [abK,a]⟩,q⟩
 . obtain ⟨B,R,c,e⟩:=I.tuple b;have a:=R.length;exact len_tuple c (by simp only [abK]<;>lia) ⟨.int ys.length,H,I.tok _,⟨s.toks+1,by rw [abK,a]⟩,q⟩
theorem jO:im X (.type "list") (λ xs H Q=>∃ p ys,xs=[.ref p]/\(aW X.K H p ys\/cw X.K H p ys)/\∀ l,H l=none->Q (.ref l) (upd H l (.lst ys))):=by
 intro j s U H xs z Q I r h;obtain ⟨p,ys,rfl,g,q⟩:=h;obtain ⟨u,rfl,y⟩:=vals1 r;cases y;have f:∀ (B:bB),Vals ys B->ys.length<=sizeLine->∀ (a:bx) (c:Nat),(∀ b O,s.heap.get? b=some O->a.get? b=some O) ->
     a.get? s.heap.objs.size=some { cls:=.type "list",dict:=none,data:=.seq B.toArray c,slots:=#[]}->EP X j U Q (.ref s.heap.objs.size) { s with heap:=a }:=λ B R i a c k e =>
   ⟨.ref s.heap.objs.size,_,I.laid k (aaE _) (show eh X.prog X.w _ a _ (.lst ys) from ⟨i,B,c,R,e⟩),rfl,q _ (I.eB.fresh (aaE _))⟩
 rcases g with g|g
 .
  obtain ⟨B,R,x,i⟩:=I.list g;have d:=R.length;obtain ⟨o,v,m,n,t⟩:=x.isList;exact call_list_seq p (.inl rfl) v m t (λ a c k e=>f B R i a c k e) (by simp only [abK]<;>lia)
 .
  obtain ⟨B,R,x,i⟩:=I.tuple g;have d:=R.length;obtain ⟨o,v,m,n,t⟩:=x;exact call_list_seq p (.inr rfl) v m t (λ a c k e=>f B R i a c k e) (by simp only [abK]<;>lia)
theorem dQ:im X (.type "tuple") (λ xs H Q=>∃ p ys,xs=[.ref p]/\((aW X.K H p ys/\∀ l,H l=none->Q (.ref l) (upd H l (.tup ys)))\/(cw X.K H p ys/\Q (.ref p) H))):=by
 intro g s U H xs n Q I r h;obtain ⟨p,ys,rfl,h⟩:=h;obtain ⟨u,rfl,m⟩:=vals1 r;cases m;rcases h with ⟨a,q⟩|⟨a,q⟩
 .
  obtain ⟨B,R,c,f⟩:=I.list a;have d:=R.length;refine call_tuple_list c.isList (λ j k=>?_) (by simp only [abK]<;>lia);have i:=I.kept (t':=s.toks) k;exact ⟨.ref j.objs.size,_,i.laid (t':=s.toks) (λ b o e=>aaF _ e) (aaE _) (show eh X.prog X.w _ _ _ (.tup ys) from ⟨f,B,R,IsTup.new _ _⟩),rfl,q _ (i.eB.fresh (aaE _))⟩
 . obtain ⟨B,R,c,f⟩:=I.tuple a;exact call_tuple_same c ⟨.ref p,H,I,rfl,q⟩
def tyV (K:aF) (T:String) (x:V) (H:Hp):Prop:=match x with
 | .str _=>T = "str"
 | .int _=>T = "int"
 | .ref p=>(T = "list"/\∃ X,aW K H p X)\/(T = "tuple"/\∃ o,K.lookup p=some o/\o.cls = .type "tuple"/\o.dict=none) \/
     (T = "dict"/\((∃ a,H p=some (.dK a))\/∃ a,H p=some (.dT a)))\/(T = "set"/\∃ S n,H p=some (.set S n))
 | _=>False
theorem KJ {b:List (ak×Obj)} {s:Shared} {T:String} {x:V} {v:ay} (I:Inv X b U H s) (r:RelV x v) (ty:tyV X.K T x H) :
   s.TypeIs v T/\∀ a,v = .ref a->∃ O,s.heap.get? a=some O/\O.dict=none:=by
 cases x with
 | str z =>
   obtain ⟨t,rfl⟩:=r;cases (show T = "str" from ty);exact ⟨typeIs_str s z t,λ Z e=>nomatch e⟩
 | int i =>
   obtain ⟨t,rfl⟩:=r;cases (show T = "int" from ty);exact ⟨typeIs_int s i t,λ Z e=>nomatch e⟩
 | ref p =>
   cases r;rcases ty with ⟨rfl,k,j⟩|⟨rfl,o,h,g,d⟩|⟨rfl,h⟩|⟨rfl,S,n,h⟩
   . obtain ⟨B,Z,f,Z⟩:=I.list j;refine ⟨f.isList.typeIs,λ a e=>?_⟩;cases e;obtain ⟨o,n,e,c,d,Z⟩:=f;exact ⟨o,e,d⟩
   . refine ⟨⟨o,I.uD p o h,g⟩,λ a e=>?_⟩;cases e;exact ⟨o,I.uD _ o h,d⟩
   .
    have z:∃ o,s.heap.get? p=some o/\o.ExactDict:=by
      rcases h with ⟨A,h⟩|⟨A,h⟩
      . obtain ⟨Z,Z,Z,Z,o,Z,Z,e,ex,Z⟩:=I.eB p _ h;exact ⟨o,e,ex⟩
      . obtain ⟨Z,Z,Z,Z,o,Z,Z,e,ex,Z⟩:=I.eB p _ h;exact ⟨o,e,ex⟩
    obtain ⟨o,e,ex⟩:=z;refine ⟨⟨o,e,ex.1⟩,λ a E=>?_⟩;cases E;exact ⟨o,e,ex.2.1⟩
   . obtain ⟨o,Z,Z,Z,e,ex,Z⟩:=I.eB p _ h;refine ⟨⟨o,e,ex.1⟩,λ a E=>?_⟩;cases E;exact ⟨o,e,ex.2.1⟩
 | _=>exact False.elim ty
def Zx (K:aF) (T:String) (r:V->aB->Hp->VK->Prop) (t:TE):TE:=λ U H Q=>t U H λ x h=>tyV K T x h/\r x [] h Q
def tBM (K:aF) (T:String) (r:V->aB->Hp->VK->Prop) (b:TE) (t:TA):TE:=λ U H Q=>b U H λ x h=>tyV K T x h/\t U h λ X a=>r x X a Q
variable {o e:Expr} {es:List Expr} {to:TE} {t:TA} {name:Str} {apos mU:Pos} {T id:String} {r:V->aB->Hp->VK->Prop}
theorem QI (j:PlainAttrs T) (S:Slot T name id) (a:typeOf (.builtin id)=pure (.type "method_descriptor")) (f:MtR X id r) (g:PE X o to) (c:autoParam (attributeBase o name X.env (eval o X.env)=eval o X.env) za_._auto_1) (L:autoParam ((apos.endLine == mU.line)=true) za_._auto_1):PE X (.Call (.Attribute o name apos) [] [] mU) (Zx X.K T r to):=by
 intro p s U H Q I h;refine wpAny_Call_method0_late c L (dC (g p s U H _ I h) λ v k ⟨x,b,i,R,ty,q⟩=>?_);obtain ⟨d,e⟩:=KJ i R ty;exact ⟨T,id,j,S,a,d,e,afz rfl (PySem.evalArgs_none (f p k U b x [] v [] Q i R .nil q))⟩
theorem hX (y:PlainAttrs T) (S:Slot T name id) (b:typeOf (.builtin id)=pure (.type "method_descriptor")) (n:MtR X id r) (u:PE X o to) (m:PA X (e::es) t) (j:autoParam (attributeBase o name X.env (eval o X.env)=eval o X.env) za_._auto_1) (a:autoParam (((backTo mU (starEach (e::es) X.env)).all (λ x => !x.1) && (backToKw mU (keywordEach [] X.env)).all (λ x=>x.1.isSome)
     && decide ((e::es).length+([]:List Keyword).length+(if ([]:List Keyword).isEmpty then 0 else 1)<30))=true) za_._auto_1) (L:autoParam ((apos.endLine == mU.line)=true) za_._auto_1) (w:autoParam (Fe X e es) za_._auto_1) (q:autoParam ((backTo mU (starEach es X.env)).any (·.1)=false) za_._auto_1) :
   PE X (.Call (.Attribute o name apos) (e::es) [] mU) (tBM X.K T r to t):=by
 intro p s U H Q I h;refine wpAny_Call_method_late j a L rfl (dC (u p s U H _ I h) λ v C ⟨x,d,i,R,ty,z⟩=>?_);obtain ⟨k,l⟩:=KJ i R ty;refine ⟨T,id,y,S,b,k,l,?_⟩;have c:=m mU p C U d _ i z;rw [w] at c |-;exact afz (by show (false || (backTo mU (starEach es X.env)).any (·.1))=false;rw [q]<;>rfl) (Calls.evalArgs_plain (dC c λ E D ⟨V,f,g,B,A⟩=>n p D U f x V v E Q g R B A))
end
def MtM (X:Cx) (id:String) (r:V->aB->Hp->VK->Prop):Prop :=
 ∀ (p:List (ak×Obj)) (s:Shared) (U:St) (H:Hp) (x:V) (a:aB) (v:ay) (u:bB) (Q:VK),Inv X p U H s->RelV x v->Vals a u->r x a H Q ->
   wpAny (model X.prog X.w) X.A (call (.builtin id) (v::u)) (EP X p U Q) X.xe s
theorem Vals.one:∀ {x:V} {U:bB},Vals [x] U->∃ u,U=[u]/\RelV x u
 | _,_,.cons r .nil=>⟨_,rfl,r⟩
theorem Vals.zero:∀ {u:bB},Vals [] u->u=[]
 | _,.nil=>rfl
section
variable {X:Cx} {pins:List (ak×Obj)} {U:St} {H:Hp} {s:Shared} {l b:ak} {xs ys:aB}
theorem Inv.TR {b x:bB} {n:Nat} {f:Array ay->Array ay} {t':Nat} (I:Inv X pins U H s) (h:H l=some (.lst xs)) (e:s.heap.get? l=some { cls:=.type "list",data:=.seq b.toArray n }) (c:f b.toArray=x.toArray) (g:Vals ys x) (i:ys.length<=sizeLine) :
   Inv X pins U (upd H l (.lst ys)) { s with heap:=s.heap.update l (Obj.mapSeq f),toks:=t' }:=by
 have q:=PySem.IsL.update e f;rw [c] at q;refine I.write (by rw [h];exact trivial) (.inl rfl) (λ B u a d=>(aeV s.heap (Obj.mapSeq f) (aeg a)).trans d) ⟨_,q⟩ ?_;exact ⟨i,x,_,g,q⟩
theorem Inv.abQ {b:bB} {t':Nat} (I:Inv X pins U H s) (h:Vals ys b) (a:ys.length<=sizeLine) :
   Inv X pins U (upd H s.heap.objs.size (.lst ys)) { s with heap:=s.heap.push { cls:=.type "list",data:=.seq b.toArray },toks:=t' } :=
 I.laid (λ Z Z q=>aaF _ q) (aaE _) ⟨a,b,0,h,abW _ rfl⟩
theorem Inv.fresh (I:Inv X pins U H s):H s.heap.objs.size=none:=I.eB.fresh (aaE _)
theorem Inv.Kj (I:Inv X pins U H s) (h:H l=some (.lst xs)):xs.length<=sizeLine/\∃ (b:bB) (n:Nat),Vals xs b/\xs.length=b.length/\s.heap.get? l=some { cls:=.type "list",data:=.seq b.toArray n }:=by
 obtain ⟨z,b,n,r,e⟩:=I.eB l _ h;exact ⟨z,b,n,r,r.length,e⟩
theorem JJ {n:Nat} (h:n<=sizeLine):Builtin.List.listTooLong n=false:=aaR (by lia)
end
section
variable {X:Cx}
inductive abn (l:ak) (y:V) (H:Hp) (Q:VK):Prop
 | mk {xs:_} (_:H l=some (.lst xs)) (_:xs.length<sizeLine) (_:Q .cN (upd H l (.lst (xs++[y]))))
def EV  (x:V) (vs:aB) (H:Hp) (Q:VK):Prop:=match x,vs with
 | .ref l,[y]=>abn l y H Q
 | _,_=>False
theorem cD:MtM X "list.append" EV:=by
 intro p s U H x V v i Q I d c h;unfold EV at h;split at h
 rotate_left
 . cases h
 rename_i l y
 obtain ⟨a,g,q⟩:=h;cases d;obtain ⟨u,rfl,R⟩:=c.one;obtain ⟨z,b,n,r,f,e⟩:=I.Kj a;refine call_meets F.slot_list_append ⟨_,e,rfl⟩ F.entry_list_append (F.args_list_append_2 _ _) (PySem.list_append l b.toArray n u (by rw [abK];lia)) ⟨e,(⟨.cN,_,I.TR a e (by simp) (r.append (.cons R .nil)) ?_,rfl,q⟩)⟩;rw [aas,abh];lia
inductive MK  (x:V) (vs:aB) (H:Hp) (Q:VK):Prop
 | mk (l b xs zs:_) (_:x = .ref l) (_:vs=[.ref b]) (_:H l=some (.lst xs)) (_:H b=some (.lst zs)) (_:xs.length+zs.length<=sizeLine) (_:Q .cN (upd H l (.lst (xs++zs))))
theorem yQ:MtM X "list.extend" MK:=by
 intro p s U H x V v t Q I k j h;obtain ⟨l,b,w,A,rfl,rfl,d,g,o,q⟩:=h;cases k;obtain ⟨u,rfl,i⟩:=j.one;cases i;obtain ⟨z,B,n,r,m,e⟩:=I.Kj d;obtain ⟨y,c,N,R,C,E⟩:=I.Kj g;have a:B.toArray.size+c.toArray.size<=sizeLine:=by rw [abK,abK];lia
 have f:¬ (!B.toArray.isEmpty && Builtin.List.listTooLong (B.toArray.size+c.toArray.size))=true:=by
   rw [JJ a,aes];exact aa3
 refine call_meets F.slot_list_extend ⟨_,e,rfl⟩ F.entry_list_extend (F.args_list_extend_2 _ _)
   (AutoSeq1.list_extend_list_list_0 l B.toArray n b c.toArray N f (by lia) (by lia)) ⟨e,E,⟨.cN,_,I.TR d e (by simp) (r.append R) ?_,rfl,q⟩⟩
 rw [aas];lia
inductive aaY  (x:V) (y:V) (H:Hp) (Q:VK):Prop
 | mk (l b xs zs:_) (_:x = .ref l) (_:y = .ref b) (_:H l=some (.lst xs)) (_:H b=some (.lst zs)) (_:xs.length+zs.length<=sizeLine) (_:∀ p,H p=none->Q (.ref p) (upd H p (.lst (xs++zs))))
theorem IE:jI X (binaryOp .Add) aaY:=by
 intro p s U H x y v u Q I g i h;obtain ⟨l,b,m,t,rfl,rfl,f,d,k,q⟩:=h;cases g;cases i;obtain ⟨z,B,n,r,j,e⟩:=I.Kj f;obtain ⟨o,a,N,R,C,E⟩:=I.Kj d;refine PySem.P.add_list e E ?_ (by rw [abK,abK];lia);have c:B.toArray++a.toArray=(B++a).toArray:=by simp
 rw [c];exact ⟨.ref _,_,I.abQ (r.append R) (by rw [aas];lia),rfl,q _ I.fresh⟩
end
section
variable {κ:Type} [DecidableEq κ]
noncomputable def iN (a:List (κ×V)) (k:κ):eU:=(a.find? λ K=>decide (K.1=k)).map (·.2)
noncomputable def putK (a:List (κ×V)) (k:κ) (v:V):List (κ×V) :=
 if (a.any λ K=>decide (K.1=k))=true then a.map (λ K=>if K.1=k then (K.1,v) else K) else a++[(k,v)]
theorem fV {p:κ×V} {r:List (κ×V)} {k:κ} (e:p.1=k):iN (p::r) k=some p.2:=by simp [iN,acs,e]
theorem f9 {p:κ×V} {r:List (κ×V)} {k:κ} (e:¬ p.1=k):iN (p::r) k=iN r k:=by simp [iN,acs,e]
theorem lF (k:κ):∀ a:List (κ×V),(a.any λ K=>decide (K.1=k))=(iN a k).isSome
 | []=>rfl
 | p::r=>by
   rw [aeD];by_cases e:p.1=k
   . simp only [fV e,aaS e,Bool.true_or,Option.isSome_some]
   . rw [f9 e,aaR e];exact lF k r
theorem BR (k j:κ) (y:V):∀ a:List (κ×V),iN (a.map λ K=>if K.1=k then (K.1,y) else K) j=(iN a j).map λ x=>if j=k then y else x
 | []=>rfl
 | p::r=>by
   have i:=BR k j y r;rw [ab8];by_cases h:p.1=k
   . rw [abp h];by_cases e:p.1=j
     . rw [fV (p:=(p.1,y)) e,fV e,af7,abp (e.symm.trans h)]
     . rw [f9 (p:=(p.1,y)) e,f9 e,i]
   . rw [abC h];by_cases e:p.1=j
     . rw [fV e,fV e,af7,abC (λ z=>h (e.trans z))]
     . rw [f9 e,f9 e,i]
theorem yI (k j:κ) (y:V):∀ a:List (κ×V),iN a k=none->iN (a++[(k,y)]) j=if j=k then some y else iN a j
 | [],_=>by
   by_cases e:k=j
   . rw [abp e.symm];exact fV e
   . rw [abC (λ z=>e z.symm)];exact f9 e
 | p::r,h=>by
   rw [af1];have H:¬ p.1=k:=λ z=>by rw [fV z] at h;cases h
   rw [f9 H] at h;by_cases e:p.1=j
   . rw [fV e,fV e,abC (λ z=>H (e.trans z))]
   . rw [f9 e,f9 e,(yI k j y r h)]
theorem KM (A:List (κ×V)) (k j:κ) (y:V):iN (putK A k y) j=if j=k then some y else iN A j:=by
 unfold putK;by_cases a:(A.any λ K=>decide (K.1=k))=true
 .
  rw [abp a,BR];rw [lF] at a;by_cases e:j=k
  . obtain ⟨x,h⟩:=aew.mp a;rw [abp e,e,h,af7,abp rfl]
  . simp_all
 .
  rw [abC a];refine yI k j y A ?_;rw [lF] at a;cases q:iN A k with
  | none=>rfl
  | some x=>rw [q] at a;exact (a rfl).elim
theorem ui (a:List (κ×V)) (k:κ) (v:V):(putK a k v).length<=a.length+1:=by
 unfold putK;split
 . rw [Ea];lia
 . simp_all
theorem JP {a:List (κ×V)} {k:κ} (v:V) (h:iN a k=none):putK a k v=a++[(k,v)]:=by
 unfold putK;rw [lF,h];exact abC (by decide)
theorem ng.tj {o:eU} {u:kY} (r:ng o u):o.isSome=u.isSome:=by
 cases o with
 | none=>cases u with
   | none=>rfl
   | some _=>exact (show False from r).elim
 | some _=>cases u with
   | none=>exact (show False from r).elim
   | some _=>rfl
theorem ng.getD {o:eU} {u:kY} {d:V} {D:ay} (r:ng o u) (R:RelV d D):RelV (o.getD d) (u.getD D):=by
 cases o with
 | none=>cases u with
   | none=>exact R
   | some _=>exact (show False from r).elim
 | some _=>cases u with
   | none=>exact (show False from r).elim
   | some _=>exact r
theorem KV.val {a:List (κ×V)} {vs:List (κ×ay)} (r:KV a vs) (k:κ):ng (iN a k) (valueAt vs k):=by
 induction r with
 | nil=>exact True.intro
 | @cons p q d Q h t i =>
   obtain ⟨H,c⟩:=h;by_cases e:p.1=k
   . have E:=H.symm.trans e;have b:valueAt (q::Q) k=some q.2:=by simp [valueAt,acs,E]
     rw [fV e,b];exact c
   . have E:¬ q.1=k:=λ z=>e (H.trans z);have b:valueAt (q::Q) k=valueAt Q k:=by simp [valueAt,acs,E]
     rw [f9 e,b];exact i
theorem KV.any {a:List (κ×V)} {vs:List (κ×ay)} (r:KV a vs) (k:κ):(a.any λ K=>decide (K.1=k))=vs.any λ K=>decide (K.1=k):=by
 induction r with
 | nil=>rfl
 | cons h t i=>rw [aeD,aeD,i,h.1]
theorem KV.Rz {a:List (κ×V)} {vs:List (κ×ay)} (r:KV a vs) (k:κ) {y:V} {u:ay} (R:RelV y u) :
   KV (a.map λ K=>if K.1=k then (K.1,y) else K) (vs.map λ K=>if K.1=k then (K.1,u) else K):=by
 induction r with
 | nil=>exact .nil
 | @cons p q b Q h t i =>
   refine .cons ?_ i;by_cases e:p.1=k
   . simp_all
   . simp_all
theorem KV.put {a:List (κ×V)} {vs:List (κ×ay)} (r:KV a vs) (k:κ) {y:V} {u:ay} (R:RelV y u):KV (putK a k y) (stored vs k u):=by
 unfold putK stored;rw [r.any k];by_cases e:(vs.any λ K=>decide (K.1=k))=true
 . rw [abp e,abp e];exact r.Rz k R
 . rw [abC e,abC e];exact ae4 r ⟨rfl,R⟩
theorem KV.length {a:List (κ×V)} {vs:List (κ×ay)} (r:KV a vs):a.length=vs.length:=aef r
end
theorem Ld {P:bq} {w:bi} {k:Key} {u:ay} (r:RelV (kV k) u):(dA P w).is k u=true:=by
 cases k with
 | inl i=>obtain ⟨t,e⟩:=(show ∃ t,u=Value.int i t from r);subst e;exact Bc P w i t
 | inr x=>obtain ⟨t,e⟩:=(show ∃ t,u=Value.str x t from r);subst e;exact Cs P w x t
theorem xZ {P:bq} {w:bi}:∀ {K:List Key} {u:bB},Vals (K.map kV) u->ItemsAre (dA P w) K u
 | [],_,r=>by cases r;exact .nil
 | k::K,_,r=>by
   cases r with
   | cons h t=>exact .cons (Ld h) (xZ t)
abbrev KT (H:Hp):List (List Key×V)->List (List Key×ak×ay)->Prop:=Paired λ p q=>p.1=q.1/\H q.2.1=some (.tup (p.1.map kV))/\RelV p.2 q.2.2
theorem KT.val {a:List (List Key×V)} {xs:List (List Key×ak×ay)} (r:KT H a xs) (k:List Key):ng (iN a k) ((atKey xs k).map (·.2)):=by
 induction r with
 | nil=>exact True.intro
 | @cons p q f Q h t i =>
   obtain ⟨c,Z,d⟩:=h;by_cases e:p.1=k
   . have E:=c.symm.trans e;have b:atKey (q::Q) k=some q.2:=by simp [atKey,acs,E]
     rw [fV e,b];exact d
   . have E:¬ q.1=k:=λ z=>e (c.trans z);have b:atKey (q::Q) k=atKey Q k:=by simp [atKey,acs,E]
     rw [f9 e,b];exact i
theorem KT.Rz {A:List (List Key×V)} {xs:List (List Key×ak×ay)} (r:KT H A xs) (k:List Key) {y:V} {u:ay} (R:RelV y u) :
   KT H (A.map λ K=>if K.1=k then (K.1,y) else K) (xs.map (putAt k u)):=by
 induction r with
 | nil=>exact .nil
 | @cons p q d Q h t i =>
   rw [ab8];refine .cons ?_ i;obtain ⟨a,b,c⟩:=h;unfold putAt;by_cases e:p.1=k
   . rw [abp e,abp (a.symm.trans e)];exact ⟨a,b,R⟩
   . rw [abC e,abC (λ z=>e (a.trans z))];exact ⟨a,b,c⟩
theorem KT.put {a:List (List Key×V)} {xs:List (List Key×ak×ay)} (r:KT H a xs) (k:List Key) {b:ak} {y:V} {u:ay} (h:H b=some (.tup (k.map kV))) (R:RelV y u) :
   KT H (putK a k y) (storedH xs k b u):=by
 have e:(a.any λ K=>decide (K.1=k))=(atKey xs k).isSome:=by
   rw [lF,(r.val k).tj,afN]
 unfold putK storedH;rw [e];by_cases q:(atKey xs k).isSome=true
 . rw [abp q,abp q];exact r.Rz k R
 . rw [abC q,abC q];exact ae4 r ⟨rfl,h,R⟩
theorem KT.keeps {a:List (List Key×V)} {xs:List (List Key×ak×ay)} (r:KT H a xs) (h:∀ b ys,H b=some (.tup ys)->H' b=some (.tup ys)):KT H' a xs :=
 Paired.Ay r λ Z Z z=>⟨z.1,h _ _ z.2.1,z.2.2⟩
section
variable {P:bq} {w:bi} {H:Hp} {h:bx} {a:ak}
theorem Oj {u:HO} (ok:qI P w H h) (e:Rd H a u):eh P w H h a u:=e.ok ok
theorem JZ {A:List (Key×V)} (ok:qI P w H h) (e:Rd H a (.dK A)):A.length<=sizeLine/\(a == sysModules)=false/\∃ vs,KV A vs/\h.DictOf (dA P w) a vs :=
 show eh P w H h a (.dK A) from Oj ok e
theorem Uy {A:List (Key×V)} (ok:qI P w H h) (e:H a=some (.dK A)):A.length<=sizeLine/\(a == sysModules)=false/\∃ vs,KV A vs/\h.DictOf (dA P w) a vs:=JZ ok (.inl e)
theorem DE {k:List Key} (ok:qI P w H h) (e:H a=some (.tup (k.map kV))):(tupleKind (dA P w)).is h k a:=by
 obtain ⟨Z,b,r,o,c,d,n,f⟩:=(show eh P w H h a (.tup (k.map kV)) from ok a _ e)
 exact ⟨o,b.toArray,n,c,d,f,by simpa using xZ r⟩
theorem Fs {A:List (List Key×V)} (ok:qI P w H h) (e:Rd H a (.dT A)):A.length<=sizeLine/\(a == sysModules)=false /\
   ∃ xs,KT H A xs/\h.DictOfH (tupleKind (dA P w)) a xs:=by
 obtain ⟨z,y,xs,r,o,d,E,f,g,i,j,k⟩:=(show eh P w H h a (.dT A) from Oj ok e)
 refine ⟨z,y,xs,r,o,d,E,f,g,i,j,λ x b=>?_,k⟩;have all:∀ {l:List (List Key×V)} {m:List (List Key×ak×ay)},KT H l m->∀ x∈m,(tupleKind (dA P w)).is h x.1 x.2.1:=by
   intro l m q;induction q with
   | nil=>intro x b;exact nomatch b
   | @cons p q n Q c t I =>
     intro x b;rcases aay.mp b with e|b
     . subst e;exact DE ok (by rw [<- c.1];exact c.2.1)
     . exact I x b
 exact all r x b
theorem UG {A:List (List Key×V)} (ok:qI P w H h) (e:H a=some (.dT A)):A.length<=sizeLine/\(a == sysModules)=false /\
   ∃ xs,KT H A xs/\h.DictOfH (tupleKind (dA P w)) a xs:=Fs ok (.inl e)
end
def GG (H:Hp) (a:ak) (y:V) (r:eU):Prop :=
 (∃ A k,Rd H a (.dK A)/\y=kV k/\r=iN A k)\/∃ A k b,Rd H a (.dT A)/\y = .ref b/\H b=some (.tup (k.map kV))/\r=iN A k
def IU (H:Hp) (a:ak) (y v:V) (h:Hp):Prop :=
 (∃ A k,H a=some (.dK A)/\y=kV k/\A.length<sizeLine/\h=upd H a (.dK (putK A k v))) \/
 ∃ A k b,H a=some (.dT A)/\y = .ref b/\H b=some (.tup (k.map kV))/\A.length<sizeLine/\h=upd H a (.dT (putK A k v))
theorem GG.t {a b:ak} {A:List (List Key×V)} {k:List Key} (e:H a=some (.dT A)) (E:H b=some (.tup (k.map kV))):GG H a (.ref b) (iN A k):=.inr ⟨A,k,b,.inl e,rfl,E,rfl⟩
theorem IU.t {a b:ak} {A:List (List Key×V)} {k:List Key} {v:V} (e:H a=some (.dT A)) (E:H b=some (.tup (k.map kV))) (h:A.length<sizeLine) :
   IU H a (.ref b) v (upd H a (.dT (putK A k v))):=.inr ⟨A,k,b,e,rfl,E,h,rfl⟩
section
variable {X:Cx} {pins:List (ak×Obj)} {U:St} {H:Hp} {s:Shared} {a:ak} {y v:V} {u r:ay} {o:eU} {A:Around} {E:ay->Shared->Prop}
theorem Inv.big (I:Inv X pins U H s):sysModules<s.heap.objs.size:=by
 exact afo (by decide) ((I.mod.glob.keeps I.bk).lt)
theorem zP {h:bx} {t':Nat} {o:HO} (I:Inv X pins U H s) (m:Wb (H a)) (e:Heap.SameBut a s.heap h) (d:∃ q,h.get? a=some q) (n:eh X.prog X.w (upd H a o) h a o) :
   Inv X pins U (upd H a o) { s with heap:=h,toks:=t' } :=
 I.write m (.inl rfl) (λ b q c z=>(e.2 b c).trans z) d n
theorem Qb {P:bq} {w:bi} {h:bx} {A:List (Key×V)} {vs:List (Key×ay)} (z:A.length<=sizeLine) (H:(a == sysModules)=false) (r:KV A vs) (d:h.DictOf (dA P w) a vs) :
   eh P w H' h a (.dK A):=⟨z,H,vs,r,d⟩
theorem Hq {Q:Unit->Shared->Prop} (O:A.units+1<cLine) (I:Inv X pins U H s) (g:IU H a y v H') (B:RelV y u) (x:RelV v r) (h:∀ s',Inv X pins U H' s'->Q () s') :
   wpAny (model X.prog X.w) A (setItem (.ref a) u r) Q E s:=by
 rcases g with ⟨d,k,e,j,l,i⟩|⟨d,k,b,e,j,p,l,i⟩
 .
  subst j i;obtain ⟨z,m,V,R,D⟩:=Uy I.eB e;have S:V.length<=sizeLine:=by rw [<- R.length];exact z
  have n:(putK d k v).length<=sizeLine:=by have:=ui d k v;lia
  refine wpAny_setItem_pairs (Ld B) D λ G L o=>h _ ?_;exact zP I (by rw [e];exact True.intro) o (let ⟨q,_,_,f,_⟩:=L;⟨q,f⟩) (Qb n m (R.put k x) L)
 .
  subst j i;cases (show u=Value.ref b from B);obtain ⟨z,m,T,R,D⟩:=UG I.eB e;have S:T.length<=sizeLine:=by rw [<- aef R];exact z
  have n:(putK d k v).length<=sizeLine:=by have:=ui d k v;lia
  refine wpAny_setItem_heap (tupleKind_room_in1 O) (DE I.eB p) D λ G L o=>h _ ?_;obtain ⟨q,F,C,f,J,K,M,Z,N⟩:=L;refine zP I (by rw [e];exact True.intro) o ⟨q,f⟩ ⟨n,m,_,(R.put k p x).keeps λ c Y t=>?_,q,F,C,f,J,K,M,N⟩;rw [aw (TX t e (λ z=>nomatch z))];exact t
end
def XD (i:Expr):Prop:=∀ o I,subscripted i false o I=operate [o,I] (getItem o I)
theorem LW {prog:bq} {w:bi} {A:Around} {E:ay->Shared->Prop} {s:Shared} {env:Env} {v S:Expr} {p:Pos} {T id:String} {Q:ay->Shared->Prop} (g:typeLookup (.type T) "__getitem__" = pure (some (.builtin id))) (j:XD S) (h:wpAny (model prog w) A (eval v env) (λ o a=>wpAny (model prog w) A (eval S env) (λ i s₂=>s₂.TypeIs o T/\wpAny (model prog w) A (getItem o i) Q E s₂) E a) E s) :
   wpAny (model prog w) A (eval (.Subscript v S p) env) Q E s:=by
 refine Subscript_ (adE h (λ o a c=>adE c (λ i s₂ H=>?_) λ Z Z x=>x) λ Z Z x=>x);obtain ⟨e,H⟩:=H;refine aam (aam (afB e g ?_));have f:wpAny (model prog w) A (subscripted S false o i) (λ r b=>wpAny (model prog w) A (letTemporaryGo v o r >>= λ Z=>pure r) Q E b) E s₂:=by
   rw [j o i];exact wpAny_operating (adE H (λ r b d=>aam (wpAny_letTemporaryGo (aaW d))) λ Z Z x=>x)
 first
   | exact aaW (aam f)
   | exact aam (aaW (aam f))
   | exact aam f
def Wv (t ty tv:TE):TS:=λ D U H=>tv U H λ v b=>t U b λ x c=>ty U c λ y d=>∃ a h,x = .ref a/\IU d a y v h/\D.nx U h
section
variable {X:Cx} {o i e value:Expr} {pos pos':Pos} {td ty tv:TE}
theorem MD (q:X.A.units+1<cLine) (m:PE X o td) (l:PE X i ty) (t:PE X value tv) (n:swapsWith value (some (.Subscript o i pos')) pos.line X.env=pure false) :
   PS X (.Assign [.Subscript o i pos'] value pos) (Wv td ty tv):=by
 intro p s U H D I h;refine wpAny_Assign_Subscript (dC (t p s U H _ I h) λ r S ⟨v,b,e,R,Q⟩=>dC (m p S U b _ e Q) λ u E ⟨x,c,f,B,w⟩=>dC (l p E U c _ f w) λ G J ⟨y,F,j,C,a,d,ex,g,z⟩=>?_) n;subst ex;obtain rfl:=B;exact Hq q j g C R λ K k=>⟨U,d,k,z⟩
end
theorem Lb {P:bq} {w:bi} (h:bx) (a:sysModules<h.objs.size):eh P w H (h.push { cls:=.type "dict",data:=.dict #[]}) h.objs.size (.dT []) :=
 ⟨ab2 _,aeW.mpr (aeg (abN a)),[],.nil,_,#[],0,abW _ rfl,⟨rfl,rfl,rfl⟩,rfl,rfl,aeJ⟩
def Qa:TE:=λ Z H Q=>∀ p,H p=none->Q (.ref p) (upd H p (.dT []))
section
variable {X:Cx} {pos:Pos}
theorem JD:PE X (.Dict [] [] pos) Qa:=λ p s U H Q I h =>
 wpAny_Dict_empty ⟨.ref s.heap.objs.size,_,I.laid (λ Z Z q=>aaF _ q) (aaE _) (Lb s.heap I.big),rfl,h _ (I.eB.fresh (aaE _))⟩
end
def KG:List (TE×TE)->St->Hp->(List (V×V)->Hp->Prop)->Prop
 | [],_,H,Q=>Q [] H
 | (t,tv)::r,U,H,Q=>t U H λ x h=>tv U h λ y a=>KG r U a λ p b=>Q ((x,y)::p) b
abbrev VV:List (V×V)->List (ay×ay)->Prop:=Paired λ p q=>RelV p.1 q.1/\RelV p.2 q.2
def PPs (X:Cx) (a:Pos) (k:List (Option Expr)) (v:List Expr) (t:List (TE×TE)):Prop :=
 ∀ (p:List (ak×Obj)) (s:Shared) (U:St) (H:Hp) (Q:List (V×V)->Hp->Prop),Inv X p U H s->KG t U H Q ->
   wpAny (model X.prog X.w) X.A (evalPairs (pairTrees k v X.env a)) (λ c S=>∃ b H',Inv X p U H' S/\VV b c/\Q b H') X.xe s
structure M2 (X:Cx) (o:Expr) (m:Str) (apos:Pos) (e f:Expr) (mU:Pos):Prop where
 base:attributeBase o m X.env (eval o X.env)=eval o X.env
 Yx:((backTo mU (starEach [e,f] X.env)).all (λ x => !x.1) && (backToKw mU (keywordEach [] X.env)).all (λ x=>x.1.isSome)
   && decide (([e,f]:List Expr).length+([]:List Keyword).length+(if ([]:List Keyword).isEmpty then 0 else 1)<30))=true
 line:(apos.endLine == mU.line)=true
 trees:backTo mU (starEach [e,f] X.env)=[(false,eval e X.env),(false,eval f X.env)]
def IsD (H:Hp) (a:ak):Prop:=(∃ A,Rd H a (.dK A))\/∃ A,Rd H a (.dT A)
theorem Qx {X:Cx} {p:List (ak×Obj)} {s:Shared} {a:ak} (I:Inv X p U H s) (d:IsD H a) :
   s.TypeIs (.ref a) "dict"/\(∀ b,Value.ref a = .ref b->∃ o,s.heap.get? b=some o/\o.dict=none)/\(a == sysModules)=false:=by
 rcases d with ⟨A,e⟩|⟨A,e⟩
 .
  obtain ⟨Z,f,v,Z,D⟩:=JZ I.eB e;refine ⟨D.typeIs,λ b q=>?_,f⟩;cases q;obtain ⟨o,Z,Z,h,c,Z⟩:=D;exact ⟨o,h,c.2.1⟩
 .
  obtain ⟨Z,f,x,Z,D⟩:=Fs I.eB e;refine ⟨D.typeIs,λ b q=>?_,f⟩;cases q;obtain ⟨o,Z,Z,h,c,Z⟩:=D;exact ⟨o,h,c.2.1⟩
section
variable {X:Cx} {pins:List (ak×Obj)} {U:St} {H:Hp} {s:Shared} {a:ak} {y d:V} {u r:ay} {o:eU} {A:Around} {E:ay->Shared->Prop}
theorem Pm {Q:ay->Shared->Prop} (p:A.units+1<cLine) (I:Inv X pins U H s) (g:GG H a y o) (j:RelV y u) (i:RelV d r) (h:∀ W s',Inv X pins U H s'->RelV (o.getD d) W->Q W s') :
   wpAny (model X.prog X.w) A (call (.builtin "dict.get") [.ref a,u,r]) Q E s:=by
 rcases g with ⟨m,k,e,c,l⟩|⟨m,k,b,e,c,n,l⟩
 .
  subst c;obtain ⟨z,f,v,R,D⟩:=JZ I.eB e;refine call_meetsIn afn D.typeIs agx (agt _ _ _) (meets_dict_get_default (dA X.prog X.w) a (Ld j) f r) ⟨_,D.mapOf,h _ _ (I.tok _) ?_⟩;rw [l];exact (R.val k).getD i
 .
  subst c;cases (show u=Value.ref b from j);obtain ⟨z,f,x,R,D⟩:=Fs I.eB e;refine call_meetsIn afn D.typeIs agx (agt _ _ _) (meetsH_dict_get_default (tupleKind (dA X.prog X.w)) a b f r) ⟨tupleKind_room_in1 p,k,x,DE I.eB n,D,h _ _ (I.tok _) ?_⟩;rw [l];exact (R.val k).getD i
end
def QJ (t ty T:TE):TE:=λ U H Q=>t U H λ x h=>∃ a,x = .ref a/\IsD h a/\ty U h λ y c=>T U c λ z b=>∃ o,GG b a y o/\Q (o.getD z) b
section
variable {X:Cx} {o e f:Expr} {apos mU:Pos} {td ty tx:TE}
theorem A1 (v:X.A.units+1<cLine) (t:PE X o td) (q:PE X e ty) (r:PE X f tx) (m:M2 X o "get" apos e f mU):PE X (.Call (.Attribute o "get" apos) [e,f] [] mU) (QJ td ty tx):=by
 intro p s U H Q I h;refine wpAny_Call_method m.base m.Yx m.line PySem.F.plainAttrs_dict afn PySem.F.type_dict_get (dC (t p s U H _ I h) λ u S ⟨x,b,i,R,a,ex,d,w⟩=>?_);subst ex;obtain rfl:=R;obtain ⟨T,J,Z⟩:=Qx i d;refine ⟨T,J,?_⟩;rw [m.trees];exact afz rfl (Calls.evalArgs_plain (afh (dC (q p S U b _ i w) λ L G ⟨y,c,k,D,B⟩ =>
   afh (dC (r p G U c _ k B) λ K N ⟨z,j,l,E,O,g,C⟩=>agi (Pm v l g D E λ W V n M=>⟨_,j,n,M,C⟩)))))
end
end L2
namespace Att
open PySem PySem.W PySem.Calls PyProof.Rows
theorem uL {P:Params} {h:bx}:∀ (ns:List Int) (vs:bB),WellAll P h vs (ns.map WData.int)->IntsAre vs ns:=by
 intro ns;induction ns with
 | nil =>
   intro vs w;cases w;exact .nil
 | cons n ns i =>
   intro vs w;cases w with
   | cons a b =>
     cases a;exact .cons _ _ (i _ b)
theorem Go {l:OpenLaw} {n:Nat} (j:l.most=some n) {P:Params} {h:bx} {args:List WData} {v:bB}
   (c:l.row.toRowW.claim.pre args=true) (W:WellAll P h v args) :
   ∃ a vs N,v=[Value.ref a]/\args=[WData.list (N.map WData.int)]/\h.get? a=some { cls:=.type "list",data:=.seq vs.toArray }/\IntsAre vs N/\N.length<=n:=by
 obtain ⟨d,r,rfl,e,f⟩:=hasAllW_cons ((pre_splitW c).1);obtain rfl:=hasAllW_nil f;obtain ⟨x,rfl,g⟩:=hasW_list e;obtain ⟨N,rfl⟩:=items_int g;have H:N.length<=n:=by
   have b:=by
     have b:=(holds_andW ((pre_splitW c).2)).1;rw [j] at b;exact b
   have i:=condW_of b (w_not (w_lt w_lit (w_len_list (w_arg rfl))))
   first
     | (lia)
     | (simp at i;lia)
 cases W with
 | cons w m =>
   cases m;cases w with
   | list k Q=>exact ⟨_,_,N,rfl,rfl,k,uL N _ Q,H⟩
theorem HQ (l:OpenLaw) (args:List WData):l.row.toRowW.claim.post args (.bool true) args=true :=
 postW_of
   (show WShape.has [] (.bool true) .bool=true by first|rfl|decide|simp [WShape.has,WShape.arms,WShape.armsAll])
   (show (WTm.eq .res (.lit (.bool true))).value [] { args:=args,res:=some (.bool true),after:=args }=some (.bool (true == true)) from w_eq_bool (w_res rfl) w_lit) rfl
section
def Y6 (h:bx):bx:={ h with objs:=#[]}
noncomputable def ledger (h:bx) (L d:ak):List (ak×Obj):=(List.range h.objs.size).filterMap λ a=>if a=L\/a=d then none else (h.get? a).map λ o=>(a,o)
end
end Att
namespace L2
open PySem PySem.Spec PyProof.Rows
variable {H H':Hp} {qual:Str}
theorem yb:∀ {vs:bB} {N:List Int},IntsAre vs N->Vals (N.map V.int) vs
 | _,_,.nil => .nil
 | _,_,.cons n t h => .cons ⟨t,rfl⟩ (yb h)
def UL (H:Hp):Prop:=∀ b,H b=none\/∃ o x,H b=some (.CT o (.lst x))
theorem IC {P:bq} {w:bi} {K:aF} {M D:eV} {G:Lx} {k:Nat} {l a:ak} {Q:FuncData} {x:Str} {W:Sp} {s₁:Shared} {vs:bB} {N:List Int} (J:K.In s₁.heap) (Y:s₁.heap.Ns mainGlobals M) (c:s₁.heap.Ns builtinsNs D) (SS:∀ x:Str,x ≠ "__name__"->D x=bootBuiltins x) (j:s₁.heap.NoLimit) (hg:s₁.gens=#[]) (t:s₁.heap.get? a=some { cls:=.type "list",data:=.seq vs.toArray }) (S:IntsAre vs N) (T:N.length<=sizeLine) (hr:dW k callerA) (F:∀ B:bx,K.In B->B.Ns mainGlobals M->nN P w K M B G k l Q [x] W) (SN:∀ (s:Shared) (u:ay),BindsTo s Q ⟨[u],[]⟩ [(x,u)]) (Ow:∀ H:Hp,UL H->aW K H a (N.map V.int)->W [.ref a] H (λ v _=>v = .bl true) λ _ _ _=>False) (p:∀ H e s',G [] H s₁ (λ _ _ _=>False) e s'->False) :
   codeAny (model P w) callerA (.call (.ref l) ⟨[.ref a],[]⟩) (λ r s'=>r = .ok (.ret (.bool true))/\OldK s₁.heap s'.heap/\s'.os=s₁.os/\AllBare s'.gens) s₁:=by
 have U:=yb S;have C:∀ H:Hp,UL H->aW K H a (N.map V.int)->qI P w H s₁.heap->(∀ b,H b≠none->b=a)->(H a≠none->K.lookup a=none) ->
     codeAny (model P w) callerA (.call (.ref l) ⟨[.ref a],[]⟩) (λ r s'=>r = .ok (.ret (.bool true))/\OldK s₁.heap s'.heap/\s'.os=s₁.os/\AllBare s'.gens) s₁:=by
   intro H R hS O hA hK;have I:∀ {b:ak} {o:Obj},s₁.heap.get? b=some o->H b=none->(Eo s₁.heap H).get? b=some o:=λ e n=>JU e n;have VQ:∀ {b:ak} {o:Obj} {i:Array DictEntry} {E:Nat},s₁.heap.get? b=some o->o.data = .dict i E->H b=none:=λ {b o i E} e d=>by
     cases q:H b with
     | none=>rfl
     | some u =>
       grind
   have X:∀ {b:ak} {m:eV},s₁.heap.Ns b m->(Eo s₁.heap H).Ns b m:=λ {b m} ⟨o,i,E,e,d,r⟩=>⟨o,i,E,I e (VQ e d),d,r⟩
   have g:=λ b o e=>I (J b o e) (by
     cases q:H b with
     | none=>rfl
     | some u =>
       grind)
   have hM:Mod K M (Eo s₁.heap H):=⟨g,X Y,⟨D,X c,SS⟩,let ⟨mc,h1,h2⟩:=j;⟨mc,X h1,h2⟩⟩
   refine agj ((F _ g (X Y)).run callerA [] s₁ H ⟨[.ref a],[]⟩ [.ref a] [.ref a] _ _ hr (⟨rfl,hM,λ b o e=>M0 e,Nat.le_of_eq (Hs _ _),trivial,λ b c=>absurd (show b∈([]:bp) from c) (by simp),O,.of_eq hg⟩) (SN s₁ (.ref a)) (.cons rfl .nil) (Ow H R hS)) λ r s' h=>?_;cases r with
   | error e=>exact (p H e s' h).elim
   | ok fl =>
     cases fl with
     | next=>exact False.elim h
     | brk=>exact False.elim h
     | cont=>exact False.elim h
     | ret u =>
       obtain ⟨v,H',os,f,un,A,r',q⟩:=h;subst q;obtain rfl:=r';refine ⟨rfl,OldK.of_keep λ b o e=>?_,os,f⟩;cases q:H b with
       | none=>exact un.keep b o e q (by intro z;exact absurd (show b∈([]:bp) from z) (by simp)) (by simp)
       | some u =>
         rcases R b with z|⟨ob,xs,z⟩
         . rw [q] at z;cases z
         . obtain ⟨L,_⟩:=O b _ z;obtain ⟨e2,_⟩:=A b _ (un.zR b ob _ z);rw [e] at L;cases L;exact e2
 cases y:K.lookup a with
 | some o =>
   have e:=J a o y;rw [t] at e;cases e;refine C (λ _=>none) (λ _ => .inl rfl) (.inr ⟨_,vs.toArray,_,y,rfl,rfl,rfl,by rw [abK,S.length];exact T,by simpa using U⟩) (λ b u z=>by cases z) (λ b z=>absurd rfl z) λ z=>absurd rfl z
 | none =>
   refine C (λ b=>if b=a then some (.CT { cls:=.type "list",data:=.seq vs.toArray } (.lst (N.map V.int))) else none) (λ b=>?_) (.inl (.inr ⟨{ cls:=.type "list",data:=.seq vs.toArray },abp rfl⟩)) (λ b u z=>?_) (λ b z=>?_) λ _=>y
   . by_cases c:b=a
     . exact .inr ⟨_,_,abp c⟩
     . exact .inl (abC c)
   .
    by_cases c:b=a
    . have z':=(abp c).symm.trans z;cases z';subst c;exact ⟨t,by rw [Ea];exact T,vs,_,U,t⟩
    . simp_all
   . simp_all
def inClass (s:Stmt) (j:Nat):Stmt:=match s with
 | .ClassDef _ _ _ b _ _ _ _ _ _ _=>b.getD j (.Pass ⟨0,0,0,0⟩)
 | _ => .Pass ⟨0,0,0,0⟩
def ed (s:Stmt):Arguments:=match s with
 | .FunctionDef _ a _ _ _ _ _ _ _ _=>a
 | _=>{ posonlyargs:=[],args:=[],vararg:=none,kwonlyargs:=[],kw_defaults:=[],kwarg:=none,defaults:=[]}
def cC (s:Stmt):List Stmt:=match s with
 | .FunctionDef _ _ b _ _ _ _ _ _ _=>b
 | _=>[]
def av (s:Stmt):Scope:=match s with
 | .FunctionDef _ _ _ _ _ _ S _ _ _=>S
 | _=>{ kind:=.function,names:=[],isGenerator:=false,isCoroutine:=false }
abbrev AI:Lx:=λ _ _ _ _ _ _=>False
abbrev E0:XK:=λ _ _ _=>False
theorem CH {X:Cx}:Passes AI X E0:=λ Z Z Z Z Z Z Z h=>h.elim
structure Nj (K:aF) (x qual:Str) (st:Stmt) (f:ak) (fd:FuncData):Prop where
 ex:∃ (oc:ay) (od:Option ak) (kV doc pm:ay) (an:Option ak) (bO ct:ay) (CD:Array (kY)),
   fd=W.fnOf x qual (ed st) (cC st) (av st) .none kV doc pm an bO ct/\K.lookup f=some ⟨oc,od,.func fd,CD⟩/\W.codeIn K bO qual=true
 kp:W.keepIn K (.ref f)=true
section
variable {P:bq} {w:bi} {K:aF} {mg:eV} {base:bx}
theorem Nj.ok {x:Str} {st:Stmt} {f:ak} {a:FuncData} {N p:d9} {k:Nat} {sp:Sp} (F:Nj K x qual st f a) (S:aD N p (av st)) (len:∀ vs H Q E,sp vs H Q E->vs.length=p.length) (j:∀ (b:ay) (A:Around) (outer:List Env) (s:Shared) (H:Hp) (vs:aB) (Q:VK) (E:XK),dW k (A.deeper (envOfC qual (av st) s.heap.objs.size f b))->sp vs H Q E ->
     ∃ t,xA (ux AI P w K mg base N qual (av st) f b A outer s H E).Ir (cC st) t/\t { nx:=λ Z H'=>Q .cN H',rt:=Q } (start N vs) H):nN P w K mg base AI (k+1) f a p sp:=by
 obtain ⟨o,g,kV,d,i,e,b,ct,C,rfl,l,X⟩:=F.ex;refine Oy l X S len λ A outer s H vs Q E c O=>?_;obtain ⟨t,h,q⟩:=j b A outer s H vs Q E c O;exact ⟨t,h.Ir,q⟩
theorem Nj.binds {x:Str} {st:Stmt} {f:ak} {e:FuncData} {c:d9} (F:Nj K x qual st f e) (h:∀ (kV d p:ay) (a:Option ak) (b ct:ay) (u:bB),u.length=c.length->bindArgs (W.fnOf x qual (ed st) (cC st) (av st) .none kV d p a b ct) ⟨u,[]⟩=pure (c.zip u)):Binds K e c []:=by
 obtain ⟨o,O,kV,d,p,a,b,ct,C,rfl,l,X⟩:=F.ex;exact .all (h kV d p a b ct)
theorem Py {x:Str} {st:Stmt} {f:ak} {o:ay} {O a:Option ak} {C:Array (kY)} {kV d p b ct:ay} (l:K.lookup f=some ⟨o,O,.func (W.fnOf x qual (ed st) (cC st) (av st) .none kV d p a b ct),C⟩) (c:W.codeIn K b qual=true) (k:W.keepIn K (.ref f)=true):Nj K x qual st f (W.fnOf x qual (ed st) (cC st) (av st) .none kV d p a b ct):=⟨⟨o,O,kV,d,p,a,b,ct,C,rfl,l,c⟩,k⟩
end
theorem ET {A:Around} {k:Nat} (h:dW k A):A.units+1<cLine:=abe (Nat.add_le_add_left (by decide) _) h.units
theorem aS {n:Nat} (h:n<=1000):n<sizeLine:=abe h (by decide)
section
variable {X:Cx}
theorem pv (i:Nat) {x:Str} {p:Pos} (h:autoParam (X.N[i]?=some x) za_._auto_1) (a:RR X.env.scope x:=by first|exact Or.inl rfl|exact Or.inr (Or.inl rfl)|exact Or.inr (Or.inr rfl)) (H:autoParam (AU x) zb_._auto_1) (b:autoParam ((x == ("__classdict__" : Str))=false) zb_._auto_1):PE X (.Name x p) (Hb i):=IL h a H b
inductive Q2 (i:Nat) (U:St) (H:Hp) (Q:VK):Prop
 | mk (v:_) (_:U[i]?=some (some v)) (_:Q v H)
theorem RE (i:Nat) {x:Str} {a:Pos} (b:autoParam (X.N[i]?=some x) za_._auto_1) (d:RR X.env.scope x:=by first|exact Or.inl rfl|exact Or.inr (Or.inl rfl)|exact Or.inr (Or.inr rfl)) (c:autoParam (AU x) zb_._auto_1) (f:autoParam ((x == ("__classdict__" : Str))=false) zb_._auto_1):PE X (.Name x a) (Q2 i):=λ p s U H Q I ⟨_,e,h⟩=>IL b d c f p s U H Q I (tv h e)
end
theorem dk {A B:Prop} (h:B):if false=true then A else B:=h
theorem fH {A B:Prop} (h:A):if true=true then A else B:=h
theorem fS {c A B:Prop} [Decidable c] (H:c) (h:B):if (!decide c)=true then A else B:=by
 rw [aaS H];exact dk h
def aE (H h:Hp):Prop:=∀ b o,H b=some o->h b=some o
theorem aE.refl (H:Hp):aE H H:=λ Z Z h=>h
theorem aE.trans {d H2:Hp} (a:aE H d) (b:aE d H2):aE H H2:=λ c o h=>b c o (a c o h)
theorem aE.free (e:aE H H') {l:ak} (h:H' l=Option.none):H l=Option.none:=by
 cases q:H l with
 | none=>rfl
 | some o =>
   rw [e l o q] at h;cases h
theorem aE.seq {K:aF} {a:ak} {xs:aB} (e:aE H H') (h:aW K H a xs):aW K H' a xs:=by
 rcases h with (h|⟨o,h⟩)|h
 . exact .inl (.inl (e _ _ h))
 . exact .inl (.inr ⟨o,e _ _ h⟩)
 . exact .inr h
section
variable {κ:Type} [DecidableEq κ]
theorem Jx {a:List (κ×V)} {k:κ} (h:iN a k=none):¬ k∈a.map (·.1):=by
 intro m;obtain ⟨p,H,e⟩:=abv.mp m;have q:(a.any λ K=>decide (K.1=k))=true:=adF.mpr ⟨p,H,aaS e⟩;rw [lF,h] at q;exact absurd q (by simp)
theorem Fc:∀ {l:List κ} {k:κ},l.Nodup->¬ k∈l->(l++[k]).Nodup
 | [],k,_,_=>by simp
 | a::r,k,h,H=>by
   obtain ⟨b,c⟩:=ab3.mp h;refine ab3.mpr ⟨λ m=>?_,Fc c λ m=>H (aay.mpr (Or.inr m))⟩;rcases aaU.mp m with q|q
   . exact b q
   . exact H (aay.mpr (Or.inl (aac.mp q).symm))
theorem L3 {a:List (κ×V)} {k:κ} (v:V) (H:(a.map (·.1)).Nodup) (h:iN a k=none):((putK a k v).map (·.1)).Nodup:=by
 rw [JP v h,aau];exact Fc H (Jx h)
end
end L2
namespace Mth
theorem ON {g l:Int} (h:0<=g) (H:0<l):Int.gcd l (g % l)=Int.gcd g l:=by
 obtain ⟨a,rfl⟩:=aeE h;obtain ⟨b,rfl⟩:=aeE (ady H);show Nat.gcd b (((a:Int) % b)).natAbs=Nat.gcd a b;have:((a % (b:Int))).natAbs=a % b:=by rfl
 rw [this,Nat.gcd_comm a b,Nat.gcd_comm b,<- Nat.gcd_rec]
theorem UU {g:Int} (h:0<=g):((Int.gcd g 0:Nat):Int)=g:=by
 rw [Int.gcd_zero_right];lia
theorem yA {a b:Int} (H:0<a) (h:0<a * b):0<b:=by
 rcases (by lia:0<b\/b<=0) with q|q
 . exact q
 . have:=ad2 (ady H) (by lia:0 <= -b);rw [Int.mul_neg] at this;lia
structure Fr (t b q r:Int):Prop where
 pos:0<r
 yK:q * b=t * r
 Yk:Int.gcd q r=1
 W9:q.natAbs<=t.natAbs
 Xs:r.natAbs<=b.natAbs
theorem vD {c q:Int} (h:0<c):q.natAbs<=(c * q).natAbs:=by
 rw [ae2];exact Nat.le_mul_of_pos_left _ (by lia)
theorem KI {t b c:Int} (m:b≠0) (e:c=((Int.gcd t b:Nat):Int)):0<c/\c<=b.natAbs/\(0<b->Fr t b (t.fdiv c) (b.fdiv c))/\(b<0->Fr t b (t.fdiv (-c)) (b.fdiv (-c))):=by
 have n:0<Int.gcd t b:=Int.gcd_pos_iff.mpr (.inr m);have C:0<c:=by lia
 obtain ⟨q,H⟩:=(e ▸ Int.gcd_dvd_left t b)
 obtain ⟨r,h⟩:=(e ▸ Int.gcd_dvd_right t b)
 have d:c<=b.natAbs:=by
   rw [h,ae2];have:c.natAbs * 1<=c.natAbs * r.natAbs:=Nat.mul_le_mul_left _ (by lia);lia
 have E:t.fdiv c=q:=by rw [H,aex _ (by lia)]
 have g:b.fdiv c=r:=by rw [h,aex _ (by lia)]
 have i:t.fdiv (-c) = -q:=by rw [show t = -c * -q by rw [H,Int.neg_mul_neg],aex _ (by lia)]
 have j:b.fdiv (-c) = -r:=by rw [show b = -c * -r by rw [h,Int.neg_mul_neg],aex _ (by lia)]
 have f:=by
   have a:=Int.gcd_mul_left c q r;rw [<- H,<- h] at a;have l:c.natAbs=Int.gcd t b:=by lia
   rw [l] at a;have k:Int.gcd t b * Int.gcd q r=Int.gcd t b * 1:=by rw [<- a,agV]
   exact Nat.eq_of_mul_eq_mul_left n k
 have L:=H ▸ vD C;have o:=h ▸ vD C;refine ⟨C,d,λ B=>?_,λ B=>?_⟩
 . rw [E,g];exact ⟨yA C (h ▸ B),by rw [H,h,Int.mul_assoc,Int.mul_left_comm],f,L,o⟩
 . rw [i,j];refine ⟨yA C (by lia),?_,by rw [Int.gcd_neg,Int.neg_gcd];exact f,by lia,by lia⟩;rw [H,h,Int.neg_mul,Int.mul_neg,Int.mul_assoc,Int.mul_left_comm]
def Bd (n:Nat) (x:Int):Prop:=x.natAbs<2 ^ n
theorem Bd.mono {m n:Nat} {x:Int} (h:Bd m x) (l:m<=n):Bd n x:=aa6 h (acy (by decide) l)
theorem Bd.mul {m n:Nat} {x y:Int} (h:Bd m x) (k:Bd n y):Bd (m+n) (x * y):=by
 unfold Bd at *;rw [ae2,Nat.pow_add];exact Nat.mul_lt_mul'' h k
theorem Bd.add {m:Nat} {x y:Int} (h:Bd m x) (k:Bd m y):Bd (m+1) (x+y):=by
 unfold Bd at *;rw [afV];have:=Int.natAbs_add_le x y;lia
theorem Bd.neg {m:Nat} {x:Int} (h:Bd m x):Bd m (-x):=by unfold Bd at *;rw [Int.natAbs_neg];exact h
theorem Bd.sub {m:Nat} {x y:Int} (h:Bd m x) (k:Bd m y):Bd (m+1) (x - y):=h.add k.neg
theorem Bd.le {m:Nat} {x y:Int} (h:Bd m y) (k:x.natAbs<=y.natAbs):Bd m x:=abe k h
theorem Bd.log {n:Nat} {x:Int} (h:Bd n x) (a:0<n):x.natAbs.log2<n:=by
 by_cases H:x.natAbs=0
 . rw [H];simpa using a
 . exact (Nat.log2_lt H).mpr h
theorem Fr.Ra {t b q r:Int} {n:Nat} (h:Fr t b q r) (k:Bd n t):Bd n q:=k.le h.W9
theorem Fr.RC {t b q r:Int} {n:Nat} (h:Fr t b q r) (k:Bd n b):Bd n r:=k.le h.Xs
end Mth
namespace Bit
noncomputable def rooms (n:Nat):aH:=(List.range 61).filter n.testBit
theorem eD {n k:Nat}:k∈rooms n↔k<61/\n.testBit k=true:=by
 unfold rooms;rw [abT,aaK]
theorem qT (n:Nat):(rooms n).Pairwise (· < ·):=(agz).filter _
theorem iP {n m k:Nat} (h:n<2 ^ m) (H:m<=k):n.testBit k=false:=agy (aa6 h (acy (by decide) H))
theorem ED {n m:Nat} (h:n<2 ^ m) (f:m<=61):(List.range m).filter n.testBit=rooms n:=by
 unfold rooms;obtain ⟨d,c⟩:∃ d,61=m+d:=⟨61 - m,by lia⟩
 have e:List.range 61=List.range (m+d):=by rw [c]
 rw [e,List.range_add,adg];have:(List.map (m + ·) (List.range d)).filter n.testBit=[]:=by
   rw [agC];intro a H;obtain ⟨b,Z,rfl⟩:=abv.mp H;rw [iP h (by lia)];exact aa3
 rw [this,ac7]
noncomputable def sumOf (l:aH):Nat:=l.foldl (λ n r=>n ||| 2 ^ r) 0
theorem BU:∀ (l:aH) (a k:Nat),(l.foldl (λ n r=>n ||| 2 ^ r) a).testBit k=(a.testBit k || decide (k∈l))
 | [],a,k=>by simp
 | r::l,a,k=>by
   rw [List.foldl_cons,BU l,agf,Bool.or_assoc];congr 1;by_cases h:r=k
   . subst h;simp
   . grind
theorem oG (l:aH) (k:Nat):(sumOf l).testBit k=decide (k∈l):=by
 unfold sumOf;rw [BU];simp
theorem IX {l:aH} {m:Nat} (h:∀ r∈l,r<m):sumOf l<2 ^ m:=by
 refine ae0 _ λ i H=>?_;rw [oG];exact aaR λ q=>absurd (h i q) (by lia)
theorem CN {l:aH} (h:∀ r∈l,r<61) (i:l.Pairwise (· < ·)):rooms (sumOf l)=l:=by
 have d:∀ k,k∈rooms (sumOf l)↔k∈l:=λ k=>by
   rw [eD,oG];constructor
   . rintro ⟨Z,q⟩;exact aeH q
   . intro q;exact ⟨h k q,aaS q⟩
 have uniq:∀ (a b:aH),a.Pairwise (· < ·)->b.Pairwise (· < ·)->(∀ k,k∈a↔k∈b)->a=b:=by
   intro a;induction a with
   | nil =>
     intro b Z Z H;cases b with
     | nil=>rfl
     | cons y b=>exact absurd ((H y).mpr aaZ) (by simp)
   | cons x a I =>
     intro b f g H;cases b with
     | nil=>exact absurd ((H x).mp aaZ) (by simp)
     | cons y b =>
       obtain ⟨R,c⟩:=aeA.mp f;obtain ⟨J,M⟩:=aeA.mp g;have e:x=y:=by
         rcases aay.mp ((H x).mp aaZ) with q|q
         . exact q
         . rcases aay.mp ((H y).mpr aaZ) with Q|Q
           . exact Q.symm
           . have:=J x q;have:=R y Q;lia
       subst e;rw [I b c M λ k=>?_];constructor
       . grind
       . grind
 exact uniq _ _ (qT _) i d
noncomputable def parts (l:aH):aH:=l.foldl (λ p r=>p++p.map (· ||| 2 ^ r)) [0]
theorem EM {p r:Nat} (h:p<2 ^ r):p ||| 2 ^ r=p+2 ^ r:=by
 have:=af8 h 1;rw [agV] at this;rw [Nat.or_comm,<- this,afp]
structure Ok (ps l:aH):Prop where
 len:ps.length=2 ^ l.length
 first:ps[0]?=some 0
 last:ps[ps.length - 1]?=some (sumOf l)
 rise:ps.Pairwise (· < ·)
 sub:∀ p∈ps,∀ k,p.testBit k=true->k∈l
theorem Pb:Ok [0] []:=⟨rfl,rfl,rfl,by simp,λ p H k h=>by
 grind⟩
theorem M5 {d l:aH} {r:Nat} (h:Ok d l) (o:∀ x∈l,x<r):Ok (d++d.map (· ||| 2 ^ r)) (l++[r]):=by
 have s:∀ p∈d,p<2 ^ r:=λ p m=>ae0 _ λ i t=>by
   cases e:p.testBit i with
   | false=>rfl
   | true=>have:=o i (h.sub p m i e);lia
 have n:0<d.length:=by rw [h.len];exact Nat.two_pow_pos _
 refine ⟨?_,?_,?_,?_,?_⟩
 . rw [aas,Ea,h.len,aas,abh,afV];lia
 . rw [aaO n];exact h.first
 .
  rw [aas,Ea,abM (by lia),aah];have e:d.length+d.length - 1 - d.length=d.length - 1:=by lia
  rw [e,h.last];unfold sumOf;rw [adl];rfl
 .
  rw [afs];refine ⟨h.rise,?_,λ a H b f=>?_⟩
  . rw [ae6];refine ago ?_ h.rise;intro a b H f O;rw [EM (s a H),EM (s b f)];lia
  . obtain ⟨c,g,rfl⟩:=abv.mp f;have:=s a H;rw [EM (s c g)];lia
 .
  intro p m k j;rcases aaU.mp m with q|q
  . exact acR _ (h.sub p q k j)
  .
   obtain ⟨c,g,rfl⟩:=abv.mp q;rw [agf,Bool.or_eq_true] at j;rcases j with z|z
   . exact acR _ (h.sub c g k z)
   . grind
theorem Gf:∀ (b a p:aH),Ok p a->(a++b).Pairwise (· < ·)->Ok (b.foldl (λ p r=>p++p.map (· ||| 2 ^ r)) p) (a++b)
 | [],a,p,h,_=>by simpa using h
 | r::b,a,p,h,H=>by
   have e:a++r::b=(a++[r])++b:=by simp
   have c:=λ x d=>(afs.mp H).2.2 x d r aaZ;rw [e] at H |-;exact Gf b (a++[r]) _ (M5 h c) H
theorem Le {n r:Nat} (b:r<61) (h:n.testBit r=false):(rooms (n ||| 2 ^ r)).length=(rooms n).length+1:=by
 have c:∀ (l:aH),l.Nodup->(l.filter (n ||| 2 ^ r).testBit).length=(l.filter n.testBit).length+(if r∈l then 1 else 0):=by
   intro l;induction l with
   | nil=>intro Z;rfl
   | cons x l i =>
     intro a;obtain ⟨e,H⟩:=ab3.mp a;have d:(n ||| 2 ^ r).testBit x=(n.testBit x || decide (r=x)):=by rw [agf,agU]
     rw [afg,afg,d];by_cases q:r=x
     . simp_all
     . rw [(aaR q),Bool.or_false];cases n.testBit x with
       | true=>simp only [af6,ac8,(i H)];by_cases z:r∈l<;>simp [z,q]<;>lia
       | false=>simp_all
 have:=c (List.range 61) aeQ;rw [abp (aaK.mpr b)] at this;exact this
end Bit
namespace L2
open PySem PySem.Spec PyProof.Rows Mth
theorem Ek:bootBuiltins "abs" = some (.builtin "abs"):=by decide +kernel
theorem cZ:bootBuiltins "len" = some (.builtin "len"):=by decide +kernel
theorem i4:bootBuiltins "isinstance" = some (.builtin "isinstance"):=by decide +kernel
theorem Jk:bootBuiltins "all" = some (.builtin "all"):=by decide +kernel
theorem je:bootBuiltins "tuple" = some (.type "tuple"):=by decide +kernel
theorem vj:bootBuiltins "list" = some (.type "list"):=by decide +kernel
theorem vV:bootBuiltins "int" = some (.type "int"):=by decide +kernel
theorem Gj:bootBuiltins "bool" = some (.type "bool"):=by decide +kernel
theorem E7 {n:Nat} {x:Int} (h:Bd n x):Builtin.Int.intBits x<=n:=aeT.mpr h
theorem LS {n:Nat} {x:Int} (h:Builtin.Int.intBits x<=n):Bd n x:=aeT.mp h
section
variable {X:Cx}
def OF (i j:Int):Prop:=∃ m n,Bd m i/\Bd n j/\m+n<=100000000
def J2 (_ j:Int):Prop:=j≠0/\Bd 8999 j
theorem ME:jI X (binaryOp .Mult) (rI OF λ i j => .int (i * j)):=RQ λ Z Z Z Z Z Z Z a q=>by
 obtain ⟨m,n,h,H,b⟩:=a;exact mul_int q (IntMulOk.of_le (E7 h) (E7 H) (by lia))
theorem Kt:jI X (binaryOp .FloorDiv) (rI J2 λ i j => .int (i.fdiv j)):=RQ λ Z Z Z Z Z Z Z h q=>by
 exact floordiv_int h.1 q (.inl (PyProof.noPylong_of_log2 (aa6 (h.2.log (by decide)) (by decide))))
inductive HP (K:aF) (p:ak) (i:Int) (H:Hp) (Q:VK):Prop
 | mk {xs:aB} {v:V} (_:(aW K H p xs\/cw K H p xs)) (_:uS xs i=some v) (_:Q v H)
def Rj (K:aF) (x:V) (y:V) (H:Hp) (Q:VK):Prop:=match x,y with
 | .ref p,.int i=>HP K p i H Q
 | _,_=>False
theorem aC:Ut X (Rj X.K):=by
 intro V S a s U H x y v u Q I r R h c;unfold Rj at h;split at h
 rotate_left
 . cases h
 rename_i p i
 obtain ⟨b,e,q⟩:=h;rcases b with b|b
 . exact MZ V S a s U H _ _ v u Q I r R ⟨p,_,i,_,rfl,rfl,b,e,q⟩ c
 . exact Q7 V S a s U H _ _ v u Q I r R ⟨p,_,i,_,rfl,rfl,b,e,q⟩ c
theorem kF:im X (.builtin "isinstance") (λ xs H Q=>∃ x c t C b,xs=[x,c]/\tL X.K H x t/\RelV c C/\W.kitOne X.K t C=some b/\Q (.bl b) H):=by
 intro p s U H xs g Q I r h;obtain ⟨x,c,t,C,b,rfl,ty,R,e,q⟩:=h;obtain ⟨u,w,rfl,f,d⟩:=vals2 r;have:w=C:=by
   cases c with
   | cN=>cases d;cases R;rfl
   | bl b=>cases d;cases R;rfl
   | ref a=>cases d;cases R;rfl
   | ty n=>cases d;cases R;rfl
   | int i=>exact absurd e (by obtain ⟨k,rfl⟩:=R;intro z;unfold W.kitOne W.kitCls at z;cases ty<;>simp at z)
   | str i=>exact absurd e (by obtain ⟨k,rfl⟩:=R;intro z;unfold W.kitOne W.kitCls at z;cases ty<;>simp at z)
   | Gm i=>exact absurd e (by obtain ⟨k,rfl⟩:=R;intro z;unfold W.kitOne W.kitCls at z;cases ty<;>simp at z)
   | NU i=>exact absurd e (by obtain ⟨k,rfl⟩:=R;intro z;unfold W.kitOne W.kitCls at z;cases ty<;>simp at z)
 subst this;exact GQ I f ty e λ T=>⟨.bl b,H,I.tok _,rfl,q⟩
end
def gS (K:aF) (m:eV) (x:Str) (st:Stmt):Prop:=∃ f F,m x=some (.ref f)/\Nj K x x st f F
def Def (P:bq) (w:bi) (K:aF) (m:eV) (b:bx) (x:Str) (k:Nat) (p:d9) (s:Sp):Prop :=
 ∃ f F,m x=some (.ref f)/\W.keepIn K (.ref f)=true/\Binds K F p []/\nN P w K m b AI k f F p s
section
variable {P:bq} {w:bi} {K:aF} {mg:eV} {base:bx}
theorem gS.def {x:Str} {st:Stmt} {N p:d9} {k:Nat} {sp:Sp} (h:gS K mg x st) (S:aD N p (av st)) (len:∀ vs H Q E,sp vs H Q E->vs.length=p.length)
   (g:∀ (kV d m:ay) (c:Option ak) (b ct:ay) (u:bB),u.length=p.length->bindArgs (W.fnOf x x (ed st) (cC st) (av st) .none kV d m c b ct) ⟨u,[]⟩=pure (p.zip u))
   (J:∀ (f:ak) (b:ay) (A:Around) (outer:List Env) (s:Shared) (H:Hp) (vs:aB) (Q:VK) (E:XK),dW k (A.deeper (envOfC x (av st) s.heap.objs.size f b))->sp vs H Q E ->
     ∃ t,xA (ux AI P w K mg base N x (av st) f b A outer s H E).Ir (cC st) t/\t { nx:=λ Z a=>Q .cN a,rt:=Q } (start N vs) H):Def P w K mg base x (k+1) p sp:=by
 obtain ⟨f,e,i,F⟩:=h;exact ⟨f,e,i,F.kp,F.binds g,F.ok S len λ b A outer s H vs Q E j l=>J f b A outer s H vs Q E j l⟩
theorem Nj.Qg {x q:Str} {st:Stmt} {f:ak} {e:FuncData} {p:Str} (F:Nj K x q st f e)
   (h:∀ (kV d c:ay) (a:Option ak) (b ct:ay) (u:ay),bindArgs (W.fnOf x q (ed st) (cC st) (av st) .none kV d c a b ct) ⟨[u],[]⟩=pure [(p,u)]) (s:Shared) (u:ay):BindsTo s e ⟨[u],[]⟩ [(p,u)]:=by
 obtain ⟨o,O,kV,d,c,a,b,ct,C,rfl,l,X⟩:=F.ex;exact .of_eq (h kV d c a b ct u)
end
section
variable {X:Cx} {x:Str} {p pos:Pos} {e:Expr} {es:List Expr} {t:TA} {k:Nat} {ps:d9} {sp:Sp}
theorem au (D:Def X.prog X.w X.K X.mg X.base x k ps sp) (g:dW k X.A) (h:PA X (e::es) t) (b:autoParam (Gl X x) za_._auto_1) (B:autoParam (AU x) zb_._auto_1)
   (a:autoParam (Fe X e es) za_._auto_1) (i:autoParam (Im X es pos) za_._auto_1):PE X (.Call (.Name x p) (e::es) [] pos) (FX sp [] E0 t):=by
 obtain ⟨f,j,d,c,H,F⟩:=D;exact FF F g b d c H .nil CH h B a i
end
theorem DI {n:Int} {m:Nat} (h:(W.WData.int n).weight<=m):Bd m n:=by
 refine LS ?_;simpa only [W.WData.weight,Builtin.Int.intBits] using h
end L2
namespace Att
open PySem PySem.W PySem.Calls PyProof.Rows Mth
theorem yS {l:OpenLaw} {n:Nat} {q:bq} {L:d9} {X:(eV)->bx->Prop} {y:bi->bx->Prop} {d:DefRec}
   (K:l.most=some n) (x:d.params.defaults=[])
   (c:∀ (w:bi) (s₀ s:Shared) (m M:eV) (F:ak) (o:Obj) (p C D:ay) (a:ak) (vs:bB) (N:List Int),
     Ground q L [] X w s₀ m M s.heap->y w s.heap ->
     s.heap.get? F=some o->o.data = .func (docDef d.name d.params d.body d.scope p C D)->s.heap.CodeRec C d.name->m d.name=some (.ref F) ->
     s.heap.get? a=some { cls:=.type "list",data:=.seq vs.toArray }->IntsAre vs N->N.length<=n->(∀ z∈N,Bd 1048576 z)->s.gens=#[] ->
     codeAny (model l.prog w) callerA (.call (.ref F) ⟨[.ref a],[]⟩) (λ r s'=>r = .ok (.ret (.bool true))/\OldK s.heap s'.heap/\s'.os=s.os/\AllBare s'.gens) s) :
   WalkO q L X y l.row.toRowW d [] (λ f vs=>PySem.call f vs):=by
 intro w s₀ s m M G Y F o p C D V kV O B U b R E args v as g A S W I;obtain rfl:=Dflts.none b x;obtain rfl:=Dflts.noKw b;obtain ⟨a,vs,N,rfl,rfl,i,h,H⟩:=Go K g W;have e:∀ z∈N,Bd 1048576 z:=λ z T=>by
   have j:=layableW_arg A _ (aac.mpr rfl);exact L2.DI (aaX (layableW_iff.mp (layableW_item j (.int z) (abv.mpr ⟨z,T,rfl⟩))).2.2 (by decide))
 refine enter_call (agj (c w s₀ s m M F o p C D a vs N G Y O (fd_plain B) U R i h H e E) λ r s' Q=>?_);obtain ⟨rfl,k,t,u⟩:=Q;exact ⟨.inl ⟨.bool true,.bool true,[],rfl,λ Z=>rfl,.bool true,HQ l _,λ Z=>⟨List.Pairwise.nil,λ Z J=>(nomatch J)⟩⟩,k,t,u⟩
end Att
namespace L2
open PySem PySem.Spec PyProof.Rows Mth
variable {H H':Hp} {elt iter tg:Expr} {elts ifs:List Expr} {g:TG} {nt t' x1:Nat} {o:HO} {te:TE} {rF:Pos} {U:St}
inductive JK (K:aF) (vs:aB) (H:Hp) (Q:VK) (_E:XK):Prop
 | mk (a:ak) (ns:List Int) (_:vs=[.ref a]) (_:aW K H a (ns.map V.int)) (_:ns.length<=63) (_:(∀ z∈ns,Bd 1048576 z)) (_:∀ H',Q (.bl true) H')
theorem Jy {l:W.OpenLaw} {k:Nat} {q:bq} {L:d9} {X:(eV)->bx->Prop} {y:bi->bx->Prop} {d:DefRec} {K:Params->aF} {x:Str} (M:l.most=some 63) (v:d.params.defaults=[]) (N:dW k callerA) (E:∀ (w:bi) (h:bx),y w h->(K w.params).In h) (F:∀ (w:bi) (m:eV) (j:ak) (h:bx),(K w.params).In h->h.Ns mainGlobals m->m d.name=some (.ref j) ->
     ∃ n:FuncData,(∀ (s:Shared) (u:ay),BindsTo s n ⟨[u],[]⟩ [(x,u)]) /\
       ∀ B:bx,(K w.params).In B->B.Ns mainGlobals m->nN l.prog w (K w.params) m B AI k j n [x] (JK (K w.params))) :
   W.WalkO q L X y l.row.toRowW d [] (λ f vs=>PySem.call f vs):=by
 refine Att.yS M v λ w s₀ S m mb j o pm Q D a vs O G Y ho V xN R t i c r J=>?_;have p:=E w _ Y;obtain ⟨n,I,A⟩:=F w m j _ p G.T.g R;exact IC p G.T.g G.T.b G.T.builtins G.T.nolimit J t i (aaX c (by decide)) N A I (λ H U C=>⟨a,O,rfl,C,c,r,λ Z=>rfl⟩) λ H e s' z=>z
section
variable {X:Cx}
def Ss (x:V) (y:V) (H:Hp) (Q:VK):Prop:=tw x y λ i j=>∀ r:Int,r=i+j->Q (.int r) H
def Tr (x:V) (y:V) (H:Hp) (Q:VK):Prop:=tw x y λ i j=>∀ r:Int,r=i - j->Q (.int r) H
def Xp (x:V) (y:V) (H:Hp) (Q:VK):Prop:=tw x y λ i j=>OF i j/\∀ r:Int,r=i * j->Q (.int r) H
def WP (x:V) (y:V) (H:Hp) (Q:VK):Prop:=tw x y λ i j=>J2 i j/\∀ r:Int,r=i.fdiv j->Q (.int r) H
def Td (x:V) (y:V) (H:Hp) (Q:VK):Prop:=tw x y λ i j=>MQ i j/\∀ r:Int,r=i ^ j.toNat->Q (.int r) H
def Vx (x:V) (y:V) (H:Hp) (Q:VK):Prop:=tw x y λ i j=>MQ i j/\∀ r:Int,r=i * 2 ^ j.toNat->Q (.int r) H
def Ue (x:V) (y:V) (H:Hp) (Q:VK):Prop:=tw x y λ i j=>0<=j/\∀ r:Int,r=i / 2 ^ j.toNat->Q (.int r) H
def Zw (x:V) (y:V) (H:Hp) (Q:VK):Prop:=tw x y λ i j=>∀ r:Int,r=Builtin.bitOr i j->Q (.int r) H
def UO (x:V) (y:V) (H:Hp) (Q:VK):Prop:=tw x y λ i j=>∀ r:Int,r=Builtin.bitAnd i j->Q (.int r) H
def rLM (x:V) (y:V) (H:Hp) (Q:VK):Prop:=tw x y λ i j=>0<j/\∀ r:Int,0<=r->r<j->r=i % j->Q (.int r) H
theorem bL:jI X (binaryOp .Add) Ss:=λ p s U H x y v u Q I r R h=>O1 p s U H x y v u Q I r R (pD h λ Z Z q=>q _ rfl)
theorem fA:jI X (binaryOp .Sub) Tr:=λ p s U H x y v u Q I r R h=>OV p s U H x y v u Q I r R (pD h λ Z Z q=>q _ rfl)
theorem bM:jI X (binaryOp .Mult) Xp:=λ p s U H x y v u Q I r R h=>ME p s U H x y v u Q I r R (pD h λ Z Z q=>⟨q.1,q.2 _ rfl⟩)
theorem bJ:jI X (binaryOp .FloorDiv) WP:=λ p s U H x y v u Q I r R h=>Kt p s U H x y v u Q I r R (pD h λ Z Z q=>⟨q.1,q.2 _ rfl⟩)
theorem Ge:jI X (binaryOp .Pow) Td:=λ p s U H x y v u Q I r R h=>Ql p s U H x y v u Q I r R (pD h λ Z Z q=>⟨q.1,q.2 _ rfl⟩)
theorem Mu:jI X (binaryOp .LShift) Vx:=λ p s U H x y v u Q I r R h=>Ru p s U H x y v u Q I r R (pD h λ Z Z q=>⟨q.1,q.2 _ rfl⟩)
theorem ES:jI X (binaryOp .RShift) Ue:=λ p s U H x y v u Q I r R h=>Ro p s U H x y v u Q I r R (pD h λ Z Z q=>⟨q.1,q.2 _ rfl⟩)
theorem Qe:jI X (binaryOp .BitOr) Zw:=λ p s U H x y v u Q I r R h=>Sy p s U H x y v u Q I r R (pD h λ Z Z q=>q _ rfl)
theorem oX:jI X (binaryOp .BitAnd) UO:=λ p s U H x y v u Q I r R h=>Q5 p s U H x y v u Q I r R (pD h λ Z Z q=>q _ rfl)
theorem bh:jI X (binaryOp .Mod) rLM:=λ p s U H x y v u Q I r R h =>
 PC p s U H x y v u Q I r R (pD h λ Z Z q=>⟨q.1,q.2 _ (agc _ (by lia)) (afG _ q.1) rfl⟩)
theorem se:im X (.builtin "abs") (λ xs H Q=>∃ i,xs=[.int i]/\∀ r:Int,r=i.natAbs->Q (.int r) H) :=
 λ p s U H xs u Q I r ⟨i,e,q⟩=>Ix p s U H xs u Q I r ⟨i,e,q _ (by split<;>lia)⟩
theorem bv:im X (.builtin "len") (λ xs H Q=>∃ p ys,xs=[.ref p]/\(aW X.K H p ys\/cw X.K H p ys)/\∀ r:Int,r=ys.length->Q (.int r) H) :=
 λ a s U H xs u Q I r ⟨p,ys,e,h,q⟩=>zY a s U H xs u Q I r ⟨p,ys,e,h,q _ rfl⟩
def abV (t:TS):TS:=λ D U H=>∃ P:St->Hp->Prop,t { D with nx:=P } U H/\∀ a H',P a H'->D.nx a H'
theorem kX {st:Stmt} {t:TS} (h:PS X st t):PS X st (abV t):=by
 intro p s U H D I d;obtain ⟨P,b,c⟩:=d;refine dC (h p s U H { D with nx:=P } I b) λ f S q=>?_;cases f with
 | next =>
   obtain ⟨a,H',i,q⟩:=q;exact ⟨a,H',i,c a H' q⟩
 | ret v=>exact q
 | brk=>exact q
 | cont=>exact q
end
theorem uN {c A B:Prop} [Decidable c] (H:c) (h:A):if decide c=true then A else B:=by
 rw [aaS H];exact fH h
theorem sK {c A B:Prop} [Decidable c] (H:¬ c) (h:B):if decide c=true then A else B:=by
 rw [aaR H];exact dk h
theorem jL {c A B:Prop} [Decidable c] (h:c->A) (H:¬ c->B):if decide c=true then A else B:=by
 simp_all
theorem xK {c A B:Prop} [Decidable c] (h:¬ c->A) (H:c->B):if (!decide c)=true then A else B:=by
 lia
theorem Xm {c A B:Prop} [Decidable c] (H:¬ c) (h:A):if (!decide c)=true then A else B:=by
 rw [aaR H];exact fH h
theorem blT {c:Prop} [Decidable c] (h:c) {Q:VK} (q:Q (.bl true) H):Q (.bl (decide c)) H:=by rw [aaS h];exact q
theorem kH {a b:Int}:V.int a=V.int b↔a=b:=⟨λ e=>by cases e;rfl,λ e=>by rw [e]⟩
theorem ap {p:ak} (h:H p=none):aE H (upd H p o):=λ b u e=>by rw [aw (ax e h)];exact e
theorem aE.tup {K:aF} {a:ak} {xs:aB} (e:aE H H') (h:cw K H a xs):cw K H' a xs:=by
 rcases h with (h|⟨o,h⟩)|h
 . exact .inl (.inl (e _ _ h))
 . exact .inl (.inr ⟨o,e _ _ h⟩)
 . exact .inr h
theorem mN {n:Nat} {x:Int} (h:autoParam (x.natAbs<2 ^ n) zb_._auto_1):Bd n x:=h
theorem Rq {x:Int} (n:Nat) (lo : -(2 ^ 100)<x) (H:x<2 ^ 100) (h:autoParam (100<=n) zb_._auto_1):Bd n x:=by
 have:Bd 100 x:=by unfold Bd;lia
 exact this.mono h
theorem qM (K:aF):W.kitOne K (.type "int") (.type "bool")=some false:=by
 show (if W.kitMeta "bool" = true then ((PySem.fastBuiltinMro "int").map (·.contains (Value.type "bool"))) else none)=some false;decide +kernel
theorem xF {x y:V}:[x,y].length<=sizeLine:=by show 2<=sizeLine;decide
theorem Ih {x y z:V}:[x,y,z].length<=sizeLine:=by show 3<=sizeLine;decide
inductive Rv  (vs:aB) (H:Hp) (Q:VK) (_E:XK):Prop
 | mk (a b:Int) (_:vs=[.int a,.int b]) (_:∀ r:Int,r=((Int.gcd a b:Nat):Int)->Q (.int r) H)
inductive Cj  (vs:aB) (H:Hp) (Q:VK) (_E:XK):Prop
 | mk (t b:Int) (_:vs=[.int t,.int b]) (_:b≠0) (_:Bd 4000 b) (_:∀ q r p H',Fr t b q r->aE H H'->H' p=some (.tup [.int q,.int r])->Q (.ref p) H')
inductive BG (f:Int->Int->Int->Int->Int) (K:aF) (vs:aB) (H:Hp) (Q:VK) (_E:XK):Prop
 | mk (p1 p2 a b c d:_) (_:vs=[.ref p1,.ref p2]) (_:cw K H p1 [.int a,.int b]) (_:cw K H p2 [.int c,.int d]) (_:0<b) (_:0<d) (_:Bd 1000 a) (_:Bd 1000 b) (_:Bd 1000 c) (_:Bd 1000 d) (_:∀ q r p H',Fr (f a b c d) (b * d) q r->aE H H'->H' p=some (.tup [.int q,.int r])->Q (.ref p) H')
inductive Jz (K:aF) (vs:aB) (H:Hp) (Q:VK) (_E:XK):Prop
 | mk (p1 p2 a b c d:_) (_:vs=[.ref p1,.ref p2]) (_:cw K H p1 [.int a,.int b]) (_:cw K H p2 [.int c,.int d]) (_:Bd 1000 a) (_:Bd 1000 b) (_:Bd 1000 c) (_:Bd 1000 d) (_:Q (.bl (decide (a * d<c * b))) H)
inductive Jp  (vs:aB) (H:Hp) (Q:VK) (_E:XK):Prop
 | mk (t b:Int) (_:vs=[.int t,.int b]) (_:0<b) (_:Bd 4000 b) (_:∀ q r p H',Fr t b q r->aE H H'->H' p=some (.tup [.int q,.int r])->Q (.ref p) H')
def c6 (X:Cx) (n:d9) (S:Scope) (cl:List (Str×ak)) (C:ak) (s:Shared) (H:Hp) (ex:bp):Cx :=
 { X with N:=n,env:=compEnvC S cl C X.env,s₀:=s,H₀:=H,outer:=X.stack,ex:=ex,fn:=λ Z=>false,pn:=[],xe:=λ Z Z=>False }
def On (X:Cx) (i:List Expr) (t:TT):Prop :=
 ∀ (p:List (ak×Obj)) (s:Shared) (U:St) (H:Hp) (Q:Bool->Hp->Prop),Inv X p U H s->t U H Q ->
   wpAny (model X.prog X.w) X.A (forIn i true λ c r=>if r=true then do let ok <- isTrue c X.env (eval c X.env);pure (ForInStep.yield ok) else pure (ForInStep.yield r)) (TP X p U Q) X.xe s
def aaI:TT:=λ Z H Q=>Q true H
theorem cB {X:Cx}:On X [] aaI:=λ Z Z Z H Z I h=>wpAny_tests_nil ⟨H,I,h⟩
theorem gJ {X:Cx} {c:Expr} {tt:TT} (a:PT X c tt):On X [c] tt:=λ p s U H Q I h=>wpAny_tests_one (a p s U H Q I h)
noncomputable def gR (env:Env):List (Str×NameKind)->List (Str×ak)->List (Str×ak)
 | [],acc=>acc
 | y::r,acc=>gR env r (if (y.2 == NameKind.free)=true then (y.1,(env.cells.lookup y.1).getD 0)::acc else acc)
theorem Ah (env:Env):∀ (names:List (Str×NameKind)) (acc:List (Str×ak)),(∀ y∈names,y.2 = .free->∃ c,env.cells.lookup y.1=some c) ->
   (forIn names acc λ x __s=>if (x.snd == NameKind.free)=true then do
       let __do_lift <- cellOf env x.fst
       pure (ForInStep.yield ((x.fst,__do_lift)::__s))
     else pure (ForInStep.yield __s))=(pure (gR env names acc):Sem _)
 | [],acc,_=>rfl
 | y::r,acc,h=>by
   rw [agb];by_cases H:(y.2 == NameKind.free)=true
   .
    obtain ⟨c,e⟩:=h y aaZ (afM.mp H);rw [abp H];have E:cellOf env y.1=pure c:=by unfold cellOf;rw [e]
    rw [E];simp only [pure_bind];rw [Ah env r _ λ z a=>h z (aaB _ a)];simp only [gR,H,af6,e,Option.getD_some]
   . rw [abC H];simp only [pure_bind];rw [Ah env r _ λ z a=>h z (aaB _ a)];simp only [gR,H,af4];rfl
theorem MW {s:Scope} {env:Env} (h:∀ y∈s.names,y.2 = .free->∃ c,env.cells.lookup y.1=some c):closureFor s env=pure (gR env s.names []):=by
 simp only [closureFor];rw [Ah env s.names [] h];simp only [pure_bind]
theorem yN {env:Env}:∀ {names:List (Str×NameKind)} {acc:List (Str×ak)},(∀ y∈names,y.2 = .free->∃ c,env.cells.lookup y.1=some c)->(∀ x c,acc.lookup x=some c->env.cells.lookup x=some c) ->
   ∀ x c,(gR env names acc).lookup x=some c->env.cells.lookup x=some c
 | [],_,_,H,x,c,e=>H x c e
 | y::r,acc,h,H,x,c,e=>by
   refine yN (λ z b=>h z (aaB _ b)) ?_ x c e;intro x c e;by_cases a:(y.2 == NameKind.free)=true
   . grind
   . rw [abC a] at e;exact H x c e
theorem yc {env:Env}:∀ {names:List (Str×NameKind)} {acc:List (Str×ak)} {x:Str},(∃ c,acc.lookup x=some c)->∃ c,(gR env names acc).lookup x=some c
 | [],_,_,h=>h
 | y::r,acc,x,⟨c,h⟩=>by
   refine yc (names:=r) ?_;by_cases H:(y.2 == NameKind.free)=true
   . rw [abp H,aee];cases q:x == y.1 with
     | true=>exact ⟨_,rfl⟩
     | false=>exact ⟨c,h⟩
   . rw [abC H];exact ⟨c,h⟩
theorem sH {env:Env}:∀ {names:List (Str×NameKind)} {acc:List (Str×ak)} {y:Str×NameKind},y∈names->y.2 = .free->∃ c,(gR env names acc).lookup y.1=some c
 | z::r,acc,y,h,H=>by
   rcases aay.mp h with rfl|h
   . refine yc (names:=r) ?_;rw [abp (afM.mpr H)];simp
   . exact sH (names:=r) h H
theorem wS {s:Scope} {env:Env} {x:Str} {k:NameKind} (h:(relabel s env).names.lookup x=some k) (b:k = .cell\/k = .free) (j:∀ y∈s.names,y.2 ≠ .cell):(x,NameKind.free)∈s.names:=by
 obtain ⟨⟨n,K⟩,a,H⟩:=abv.mp (adO h);dsimp only at H;split at H
 . lia
 . grind
theorem jH {env:Env}:∀ {names:List (Str×NameKind)} {x:Str},names.lookup x=some .free ->
   (names.map λ (n,k)=>if (k == NameKind.free && env.scope.kind == .function && env.kindOf n == some .cell) then (n,NameKind.cell) else (n,k)).lookup x=some .cell \/
   (names.map λ (n,k)=>if (k == NameKind.free && env.scope.kind == .function && env.kindOf n == some .cell) then (n,NameKind.cell) else (n,k)).lookup x=some .free
 | [],_,h=>by simp at h
 | (n,k)::r,x,h=>by
   have i:=@jH env r x;show List.lookup x ((if (k == NameKind.free && env.scope.kind == .function && env.kindOf n == some .cell)=true then (n,NameKind.cell) else (n,k))::_)=_\/List.lookup x ((if (k == NameKind.free && env.scope.kind == .function && env.kindOf n == some .cell)=true then (n,NameKind.cell) else (n,k))::_)=_;cases H:x == n with
   | true =>
     simp only [aee,H] at h;cases h;by_cases a:(NameKind.free == NameKind.free && env.scope.kind == .function && env.kindOf n == some .cell)=true
     . rw [abp a];simp [aee,H]
     . rw [abC a];simp [aee,H]
   | false =>
     simp only [aee,H] at h;by_cases a:(k == NameKind.free && env.scope.kind == .function && env.kindOf n == some .cell)=true
     . rw [abp a];simp only [aee,H];exact i h
     . rw [abC a];simp only [aee,H];exact i h
section
variable {prog:bq} {w:bi} {A:Around} {R:Result->Shared->Prop} {s:Shared}
theorem CM {t:Expr} {k:Scope} {u:Pos} {q acc:ay} {env:Env} (I:Nat->Shared->Prop) (T:∀ n s,I n s->wpAny (model prog w) A (pyNext q) (λ r S=>match r with
     | none=>R (.ok .next) S
     | some v=>wpAny (model prog w) A (letOwnedTupleGo t q v) (λ Z S=>wpAny (model prog w) A (assign t env v) (λ Z f =>
         wpAny (model prog w) A (forIn ifs true λ c r=>if r=true then do let ok <- isTrue c env (eval c env);pure (ForInStep.yield ok) else pure (ForInStep.yield r)) (λ ok a =>
           if ok=true then wpAny (model prog w) A (eval elt env) (λ x g =>
             wpAny (model prog w) A (call (.builtin "list.append") [acc,x]) (λ Z i=>∃ m,m<n/\I m i) (notedBy (model prog w) A env λ e s'=>R (.error e) s') g) (notedBy (model prog w) A env λ e s'=>R (.error e) s') a
           else ∃ m,m<n/\I m a) (notedBy (model prog w) A env λ e s'=>R (.error e) s') f) (notedBy (model prog w) A env λ e s'=>R (.error e) s') S) (notedBy (model prog w) A env λ e s'=>R (.error e) s') S) (notedBy (model prog w) A env λ e s'=>R (.error e) s') s) (n:Nat) (h:I n s) :
   codeAny (model prog w) A (.compLoop (.ListComp elt [⟨t,iter,ifs,0⟩] k u) 0 q acc env) R s:=by
 refine codeAny_loop rfl I (λ n s z=>wpAny_noted ?_) n h;rw [compTurn_list];refine aam (af5 (aam (adE (T n s z) (λ r S b=>?_) λ Z Z H=>H)));cases r with
 | none=>exact aaW b
 | some v =>
   refine aam (adE b (λ Z y j=>aam (adE j (λ Z f l=>aam (adE l (λ ok a d=>?_) λ Z Z H=>H)) λ Z Z H=>H)) λ Z Z H=>H);cases ok with
   | false=>exact aaW ⟨rfl,d⟩
   | true =>
     exact aam (aam (adE d (λ x g o=>aam (adE o (λ Z i p=>aaW (aaW ⟨rfl,p⟩)) λ Z Z H=>H)) λ Z Z H=>H))
end
section
variable {X:Cx}
def Cm (w:TI) (g:TG) (T:TT) (t:TE) (n:Nat) (sl:aH):TE:=λ U H Q=>w U H λ J d=>∀ D,d D=none ->
 ∃ W:Nat->Nat->aB->St->Hp->Prop,(∃ m,W 0 m [] (List.replicate n none++sl.map λ j=>(U[j]?).join) (upd d D (.lst []))) /\
   ∀ i m A c H',W i m A c H' ->
     (J.stop i H'/\Q (.ref D) H') \/
     (J.go i H'/\∃ N:aB->St->Hp->Prop,(∀ I a h,N I a h->∃ M,M<m/\W (i+1) M I a h)/\∀ x e,J.Lv i H' x e->g x c e λ a k=>T a k λ b h =>
       if b=true then t a h λ y f=>f D=some (.lst A)/\A.length<sizeLine/\N (A++[y]) a (upd f D (.lst (A++[y])))
       else N A a h)
theorem yM {S:Scope} {aj:Pos} {wi:TI} {tt:TT} {K:d9} {sl:aH} (hc:X.calm=true) (hi:PI X tg iter wi) (hg:∀ cl C s H ex,PG (c6 X K S cl C s H ex) tg g) (ht:∀ cl C s H ex,On (c6 X K S cl C s H ex) ifs tt) (he:∀ cl C s H ex,PE (c6 X K S cl C s H ex) elt te) (Wo:K.length=nt+sl.length) (Tf:∀ k j:Nat,sl[k]?=some j->∃ x,K[nt+k]?=some x/\X.N[j]?=some x/\S.names.lookup x=some .free) (hk:S.kind = .function) (jm:∀ y∈S.names,y.2 ≠ .cell) (lV:∀ y∈S.names,y.2 = .local->S.names.lookup y.1=some .local) (lK:∀ y∈S.names,y.2 = .free->X.env.kindOf y.1=some .cell\/X.env.kindOf y.1=some .free) (hs:∀ x,foldedSetIterable iter X.env x=pure x) {use:Option (ay->Sem Unit)} {Qp:ay->Shared->Prop} {D:List (ak×Obj)} {s:Shared} {Q:V->Hp->Prop} {al:Pos} (I:Inv X D U H s) (h:Cm wi g tt te nt sl U H Q) (a1:∀ (s6:Shared) (H5:Hp) (d c:ak) m,Inv X D U H5 s6->xC X D H5 c->s6.heap.Ns c m->Q (.ref d) H5->compPost (model X.prog X.w) X.A X.xe use Qp (.ref d) c (.ok .next) s6) :
   wpAny (model X.prog X.w) X.A (comprehension (.ListComp elt [⟨tg,iter,ifs,0⟩] S aj) S X.env al (newList []) false (eval iter X.env) use) Qp X.xe s:=by
 have TD:∀ y∈S.names,y.2 = .free->∃ c,X.env.cells.lookup y.1=some c:=λ y hy hf=>I.ok.has y.1 (lK y hy hf);have Y:=yN (env:=X.env) (names:=S.names) (acc:=[]) TD (λ x c e=>by simp at e);refine wpAny_comprehension_free (use:=use) (cl:=gR X.env S.names []) rfl hs (MW TD) hk lV (dC (hi D s U H _ I h) λ v s1 h1=>dC h1 λ bb t h2=>?_);obtain ⟨it,F,tn,J,L,rfl,I2,T,Yz,f2,q⟩:=h2;obtain ⟨W,⟨m0,w0⟩,az⟩:=q t.heap.objs.size (I2.eB.fresh (aaE _));refine afl ?_ (by show 0<=sizeLine;exact ab2 _);have B:Inv X D U (upd L t.heap.objs.size (.lst [])) { t with heap:=t.heap.push { cls:=.type "list",data:=.seq ([]:bB).toArray }} :=
   I2.laid (t':=t.toks) (λ b u e=>aaF _ e) (aaE _) ⟨ab2 _,[],0,.nil,abW _ rfl⟩
 generalize O9:({ t with heap:=t.heap.push { cls:=.type "list",data:=.seq ([]:bB).toArray }}:Shared)=f at B |-;have a4:t.heap.objs.size<=f.heap.objs.size:=by rw [<- O9];show _<=(Heap.push _ _).objs.size;rw [afk];exact aei _
 refine wpAny_newFunctionEnv jm (by intro y hy;simp at hy) (λ h₁ YV a5=>?_) hk;have BL:∀ b o,f.heap.get? b=some o->h₁.get? b=some o:=λ b o e=>a5.extBut b o (abN (aba e)) (aaF _ e);have ba:f.heap.get? f.heap.objs.size=none:=afP (aaE _);have Sw:∀ b∈F,b<t.heap.objs.size:=λ b a=>by
   obtain ⟨o,e,Z⟩:=T.obj _ _ Yz b a;exact aba e
 have ad:∀ b∈F,b≠f.heap.objs.size:=λ b a=>abN (aa6 (Sw b a) a4);have a2:∀ b∈F,b≠t.heap.objs.size:=λ b a=>abN (Sw b a);have ae:∀ b∈F,b∉Ii X.stack:=λ b a hm=>by
   rcases aay.mp (I2.Ev b hm) with z|z
   . exact (f2 b a).2.1 z
   . exact (f2 b a).2.2.1 z
 have a9:∀ x c,(gR X.env S.names []).lookup x=some c->X.env.cells.lookup x=some c:=Y;have Ac:∀ b∈F,(b∈X.ex\/X.s₀.heap.objs.size<=b)/\b≠X.env.locals/\(∀ x c,X.env.cells.lookup x=some c->c≠b)/\∀ p∈X.pn++D,p.1≠b:=λ b a =>
   ⟨(f2 b a).2.2.2.1,(f2 b a).2.1,(f2 b a).2.2.2.2.1,(f2 b a).2.2.2.2.2⟩
 have N5:(c6 X K S (gR X.env S.names []) f.heap.objs.size f (upd L t.heap.objs.size (.lst [])) F).Ok:=by
   refine ⟨B.ok.mod,hk,B.ok.glob,B.ok.blt,aaE _,λ x y c h1 h2=>B.ok.inj x y c (Y x c h1) (Y y c h2),λ x hx=>?_,(λ x c hf=>nomatch hf),B.ok.hd,B.ok.frames,.inl rfl,λ b a=>⟨ad b a,λ x c e=>(Ac b a).2.2.1 x c (Y x c e)⟩,
     B.bs,aaX B.ok.NM B.sz,λ b o e a=>?_,ae,B.stack,B.Fg⟩
   . have hm:(x,NameKind.free)∈S.names:=by
       rcases hx with hx|hx
       . exact wS hx (.inl rfl) jm
       . exact wS hx (.inr rfl) jm
     exact sH hm rfl
   . rcases (Ac b a).1 with z|z
     . exact B.ok.IJ b o e z
     . exact absurd (aa6 (aba (B.ok.bs b o e).1) z) (adB _)
 have I4:Inv (c6 X K S (gR X.env S.names []) f.heap.objs.size f (upd L t.heap.objs.size (.lst [])) F) [] (List.replicate nt none++sl.map λ j=>(U[j]?).join) (upd L t.heap.objs.size (.lst []))
     { f with heap:=h₁,toks:=f.toks+([]:List (Str×ay)).length }:=by
   refine ⟨N5,rfl,B.bare,Un.kept BL,⟨_,YV,λ i x v e1 e2 e3=>?_⟩,λ x c e=>?_,B.eB.fresh (aaE _),λ x c e=>B.pC x c (Y x c e),λ p hp=>absurd hp (by simp [c6]),B.eB.kept BL,?_⟩
   .
    by_cases hi:i<nt
    . rw [aaO (by simpa using hi),aeB] at e2;split at e2<;>cases e2
    .
     rw [abM (by simpa using hi),aek,aah] at e2;cases ej:sl[i - nt]? with
     | none=>rw [ej] at e2;cases e2
     | some j =>
       rw [ej] at e2;have NP:(U[j]?).join=some v:=abb e2;have a0:U[j]?=some (some v):=by
         cases q:U[j]? with
         | none=>rw [q] at NP;cases NP
         | some o=>rw [q] at NP;cases NP;rfl
       obtain ⟨y,n1,n2,n3⟩:=Tf _ j ej;have:nt+(i - nt)=i:=by lia
       rw [this] at n1;have aY:y=x:=abb (n1.symm.trans e1);subst aY;have hm:(y,NameKind.free)∈S.names:=adO n3;have ah:=lK _ hm rfl;obtain ⟨m,hn,hl⟩:=B.loc;have a8:RR X.env.scope y:=by
         rcases ah with z|z
         . exact .inr (.inl z)
         . exact .inr (.inr z)
       obtain ⟨u,r,l⟩:=hl j y v n2 a0 a8;refine ⟨u,r,.inr ⟨jH n3,?_⟩⟩;obtain ⟨c,ec⟩:=sH (env:=X.env) (acc:=[]) hm rfl;refine ⟨c,ec,?_⟩;rcases l with ⟨k1,Z⟩|⟨Z,c',e',Qs⟩
       . rcases ah with z|z
         . rw [show X.env.kindOf y=some .local from k1] at z;cases z
         . rw [show X.env.kindOf y=some .local from k1] at z;cases z
       . have Ie:c=c':=abb ((Y y c ec).symm.trans e');subst Ie;obtain ⟨o,ho,hd⟩:=Qs;exact ⟨o,BL c o ho,hd⟩
   . obtain ⟨v,o,ho,hd⟩:=B.cell x c (Y x c e);exact ⟨v,o,BL c o ho,hd⟩
   . show _=K.length;rw [Wo,aas,aek,Ea]
 have Qd:tn 0 h₁:=T.keep _ _ _ Yz λ b a o e=>BL b o ((λ b o e=>by rw [<- O9];exact aaF _ e) b o e);have OS:∀ {pl:List (ak×Obj)} {H':Hp},pl=[]->(∀ b∈F,H' b=none)->∀ b∈F,xC (c6 X K S (gR X.env S.names []) f.heap.objs.size f (upd L t.heap.objs.size (.lst [])) F) pl H' b:=λ {pl H'} iL hn b a=>by
   subst iL;exact ⟨hn b a,ad b a,ae b a,.inl a,λ x c e=>(Ac b a).2.2.1 x c (Y x c e),λ p hp=>absurd hp (by simp [c6])⟩
 have ab:codeAny (model X.prog X.w) X.A (.compLoop (.ListComp elt [⟨tg,iter,ifs,0⟩] S aj) 0 (.ref it) (.ref t.heap.objs.size) (compEnvC S (gR X.env S.names []) f.heap.objs.size X.env))
     (compPost (model X.prog X.w) X.A X.xe use Qp (.ref t.heap.objs.size) f.heap.objs.size) { f with heap:=h₁,toks:=f.toks+([]:List (Str×ay)).length }:=by
   refine CM (λ n s'=>∃ i G O H',Inv (c6 X K S (gR X.env S.names []) f.heap.objs.size f (upd L t.heap.objs.size (.lst [])) F) [] O H' s'/\tn i s'.heap/\(∀ b∈F,H' b=none)/\W i n G O H') ?_ m0 ⟨0,[],_,_,I4,Qd,λ b a=>by rw [aw (a2 b a)];exact (f2 b a).1,w0⟩;rintro n s5 ⟨i,G,R,H5,I5,Sm,Yg,w5⟩;rcases az i n G R H5 w5 with ⟨ao,qn⟩|⟨go,N,hN,an⟩
   . refine dC (T.done (c6 X K S (gR X.env S.names []) f.heap.objs.size f (upd L t.heap.objs.size (.lst [])) F) rfl rfl rfl hc i [] s5 R H5 _ I5 (OS rfl Yg) Sm ao) λ r s6 ⟨hr,I6⟩=>?_;subst hr;obtain ⟨m,hn,Z⟩:=id I6.loc;exact a1 s6 H5 _ _ m (B.VN (s':=s6) I6.os I6.base I6.eB I6.bare Ac) (B.Ca (aaE _) I6.free) hn qn
   .
    refine dC (T.item (c6 X K S (gR X.env S.names []) f.heap.objs.size f (upd L t.heap.objs.size (.lst [])) F) rfl rfl rfl hc i [] s5 R H5 _ I5 (OS rfl Yg) Sm go) λ r s6 ⟨u,hr,h6⟩=>?_;subst hr;refine dC h6 λ Z s7 ⟨x,H7,I7,r7,y7,Z6,a3⟩=>?_;have M:∀ {s8:Shared} {E:St} {H8:Hp} {iA:aB},Inv (c6 X K S (gR X.env S.names []) f.heap.objs.size f (upd L t.heap.objs.size (.lst [])) F) ([]++wu F s7.heap) E H8 s8->(∃ m',m'<n/\W (i+1) m' iA E H8) ->
        ∃ m,m<n/\∃ i G O H',Inv (c6 X K S (gR X.env S.names []) f.heap.objs.size f (upd L t.heap.objs.size (.lst [])) F) [] O H' s8/\tn i s8.heap/\(∀ b∈F,H' b=none)/\W i m G O H':=λ {s8 E H8 iA} I8 ⟨m',hm,w8⟩=>by
      refine ⟨m',hm,i+1,iA,E,H8,I8.rf,T.keep _ _ _ Z6 λ b a o e=>(I8.pin (b,o) (acp _ (acp _ (lR a e)))).1,λ b a=>?_,w8⟩;obtain ⟨o,e,d⟩:=T.obj _ _ Z6 b a;exact (I8.pin (b,o) (acp _ (acp _ (lR a e)))).2.1
    refine adE (hg _ _ _ _ _ _ s7 R H7 x u _ (I7.pinned (OS rfl a3) (T.obj _ _ Z6)) r7 (an x H7 y7)) (λ Z s8 ⟨E,H8,I8,q8⟩=>adE (ht _ _ _ _ _ _ s8 E H8 _ I8 q8) (λ ok s9 ⟨H9,I9,q9⟩=>?_) λ Z Z z=>False.elim z) λ Z Z z=>False.elim z;cases ok with
    | false =>
      rw [abC aa3] at q9 |-;exact M I9 (hN _ _ _ q9)
    | true =>
      rw [abp rfl] at q9 |-;refine adE (he _ _ _ _ _ _ s9 E H9 _ I9 q9) (λ y rV ⟨yv,FU,aG,Y2,hD,hz,a6⟩=>?_) λ Z Z z=>False.elim z;exact adE (cD (X:=(c6 X K S (gR X.env S.names []) f.heap.objs.size f (upd L t.heap.objs.size (.lst [])) F)) _ rV E FU (.ref t.heap.objs.size) [yv] (.ref t.heap.objs.size) [y] (λ Z AK=>N (G++[yv]) E AK) aG rfl (.cons Y2 .nil) ⟨hD,hz,a6⟩) (λ Z EB ⟨bd,AK,aI,bc,a7⟩=>M aI (hN _ _ _ a7)) λ Z Z z=>False.elim z
 exact codeAny_compStart_list ab (T.self _ 0 _ _ _ Qd ab)
theorem Mf {S:Scope} {p:Pos} {w:TI} {t:TT} {n:d9} {sl:aH} (i:X.calm=true) (r:PI X tg iter w) (o:∀ cl C s H ex,PG (c6 X n S cl C s H ex) tg g) (A:∀ cl C s H ex,On (c6 X n S cl C s H ex) ifs t) (l:∀ cl C s H ex,PE (c6 X n S cl C s H ex) elt te) (W:n.length=nt+sl.length) (T:∀ k j:Nat,sl[k]?=some j->∃ x,n[nt+k]?=some x/\X.N[j]?=some x/\S.names.lookup x=some .free) (u:S.kind = .function) (B:∀ y∈S.names,y.2 ≠ .cell) (D:∀ y∈S.names,y.2 = .local->S.names.lookup y.1=some .local) (L:∀ y∈S.names,y.2 = .free->X.env.kindOf y.1=some .cell\/X.env.kindOf y.1=some .free) (z:∀ x,foldedSetIterable iter X.env x=pure x:=by intro Z;rfl) :
   PE X (.ListComp elt [⟨tg,iter,ifs,0⟩] S p) (Cm w g t te nt sl):=by
 intro a s U H Q I h;exact yM i r o A l W T u B D L z I h λ K e d c m J F v q=>⟨m,v,λ G E=>⟨.ref d,e,J.turned (λ b Z f q=>(E.2 b f).trans q) F.1 F.2.1 F.2.2.2.1 F.2.2.2.2.1 F.2.2.2.2.2,rfl,q⟩⟩
theorem ft {S:Scope} {p:Pos} {w:TI} {c:TT} (T f:d9) (sl:aH) (a:Paired (λ (j:Nat) (x:Str)=>X.N[j]?=some x/\S.names.lookup x=some .free/\(X.env.kindOf x=some .cell\/X.env.kindOf x=some .free)) sl f) (l:X.calm=true) (q:PI X tg iter w) (o:∀ cl C s H ex,PG (c6 X (T++f) S cl C s H ex) tg g) (A:∀ cl C s H ex,On (c6 X (T++f) S cl C s H ex) ifs c) (m:∀ cl C s H ex,PE (c6 X (T++f) S cl C s H ex) elt te) (u:autoParam (S.kind = .function) za_._auto_1) (J:autoParam (∀ y∈S.names,y.2 ≠ .cell) zc_._auto_1) (D:autoParam (∀ y∈S.names,y.2 = .local->S.names.lookup y.1=some .local) zc_._auto_1) (L:autoParam (∀ y∈S.names,y.2 = .free->y.1∈f) zc_._auto_1) (v:∀ x,foldedSetIterable iter X.env x=pure x:=by intro Z;rfl) :
   PE X (.ListComp elt [⟨tg,iter,ifs,0⟩] S p) (Cm w g c te T.length sl):=by
 have K:∀ {sl:aH} {f:d9},Paired (λ j x=>X.N[j]?=some x/\S.names.lookup x=some .free/\(X.env.kindOf x=some .cell\/X.env.kindOf x=some .free)) sl f ->
     (∀ k j:Nat,sl[k]?=some j->∃ x,f[k]?=some x/\X.N[j]?=some x/\S.names.lookup x=some .free)/\∀ x∈f,X.env.kindOf x=some .cell\/X.env.kindOf x=some .free:=by
   intro sl f a;induction a with
   | nil=>exact ⟨λ k j h=>by simp at h,λ x b=>by simp at b⟩
   | cons r t i =>
     refine ⟨λ k j h=>?_,λ x b=>?_⟩
     . cases k with
       | zero =>
         have e:=abb h;subst e;exact ⟨_,rfl,r.1,r.2.1⟩
       | succ k=>exact i.1 k j (by simpa using h)
     . rcases aay.mp b with z|z
       . rw [z];exact r.2.2
       . exact i.2 x z
 refine Mf l q o A m (by rw [aas,a.length]) (λ k j h=>?_) u J D (λ y B n=>(K a).2 _ (L y B n)) v;obtain ⟨x,E,d⟩:=(K a).1 k j h;exact ⟨x,by rw [abM (aed _ _),agu];exact E,d⟩
end
theorem dX {lo:Int} {n:Nat} {t:TT} {D:ak} {Q:Hp->Prop} (c:Nat->aB->St->Hp->Prop) (o:c 0 [] U H) (r:∀ i acc U H,i<n->c i acc U H->g (.int (lo+i)) U H λ a j=>t a j λ b h =>
     if b=true then te a h λ y f=>f D=some (.lst acc)/\acc.length<sizeLine/\c (i+1) (acc++[y]) a (upd f D (.lst (acc++[y]))) else c (i+1) acc a h) (q:∀ acc U H,c n acc U H->Q H) :
   ∃ W:Nat->Nat->aB->St->Hp->Prop,(∃ m,W 0 m [] U H)/\∀ i m acc d H',W i m acc d H'->((Ms lo n).stop i H'/\Q H') \/
     ((Ms lo n).go i H'/\∃ N:aB->St->Hp->Prop,(∀ I a h,N I a h->∃ m',m'<m/\W (i+1) m' I a h)/\∀ x k,(Ms lo n).Lv i H' x k->g x d k λ a j=>t a j λ b h =>
       if b=true then te a h λ y f=>f D=some (.lst acc)/\acc.length<sizeLine/\N (acc++[y]) a (upd f D (.lst (acc++[y]))) else N acc a h):=by
 refine ⟨λ i m acc U H=>m=n - i/\i<=n/\c i acc U H,⟨n,by simp,ab2 _,o⟩,?_⟩;rintro i m acc U H ⟨rfl,u,p⟩;by_cases l:i<n
 .
  refine .inr ⟨l,c (i+1),λ I d H' s=>⟨n - (i+1),by lia,rfl,l,s⟩,λ x H' y=>?_⟩;obtain ⟨e,y⟩:=y;subst e y;exact r i acc U _ l p
 . have e:i=n:=by lia
   subst e;exact .inl ⟨aaE _,q acc U H p⟩
theorem cf {K:aF} {a:ak} {xs:aB} {t:TT} {D:ak} {Q:Hp->Prop} (d:Nat->aB->St->Hp->Prop) (n:d 0 [] U H) (s:∀ i acc U H,i<=xs.length->d i acc U H->aW K H a xs) (u:∀ i x acc U H,xs[i]?=some x->d i acc U H->g x U H λ c k=>t c k λ b h =>
     if b=true then te c h λ y j=>j D=some (.lst acc)/\acc.length<sizeLine/\d (i+1) (acc++[y]) c (upd j D (.lst (acc++[y]))) else d (i+1) acc c h) (o:∀ acc U H,d xs.length acc U H->Q H) :
   ∃ W:Nat->Nat->aB->St->Hp->Prop,(∃ m,W 0 m [] U H)/\∀ i m acc f H',W i m acc f H'->((OK K a).stop i H'/\Q H') \/
     ((OK K a).go i H'/\∃ N:aB->St->Hp->Prop,(∀ I c h,N I c h->∃ m',m'<m/\W (i+1) m' I c h)/\∀ x l,(OK K a).Lv i H' x l->g x f l λ c k=>t c k λ b h =>
       if b=true then te c h λ y j=>j D=some (.lst acc)/\acc.length<sizeLine/\N (acc++[y]) c (upd j D (.lst (acc++[y]))) else N acc c h):=by
 refine ⟨λ i m acc U H=>m=xs.length - i/\i<=xs.length/\d i acc U H,⟨xs.length,by simp,ab2 _,n⟩,?_⟩;rintro i m acc U H ⟨rfl,r,p⟩;have q:=s i acc U H r p;by_cases L:i<xs.length
 .
  refine .inr ⟨⟨xs,xs[i],q,by simp [L]⟩,d (i+1),λ I f H' v=>⟨xs.length - (i+1),by lia,rfl,L,v⟩,λ x H' y=>?_⟩;obtain ⟨e,y⟩:=y;subst e;exact u i x acc U _ (y xs q) p
 . have e:i=xs.length:=by lia
   subst e;exact .inl ⟨⟨xs,q,aaE _⟩,o acc U H p⟩
section
variable {X:Cx}
inductive Mi  (x:V) (vs:aB) (H:Hp) (Q:VK):Prop
 | mk (i:Int) (_:x = .int i) (_:vs=[]) (_:∀ b:Int,b=((Builtin.Int.intBits i:Nat):Int)->Q (.int b) H)
theorem Gn:MtR X "int.bit_length" Mi:=by
 intro p s U H x V v u Q I R r h;obtain ⟨i,rfl,rfl,q⟩:=h;obtain ⟨t,rfl⟩:=R;obtain rfl:=Vals.zero r;exact call_int_bit_length ⟨.int _,H,I.tok _,⟨_,rfl⟩,q _ rfl⟩
theorem GX (a b:Nat):Builtin.bitOr (a:Int) (b:Int)=((a ||| b:Nat):Int):=by
 have n:(Builtin.bitNot (Builtin.bitNot a)).toNat=a:=by unfold Builtin.bitNot;lia
 have N:(Builtin.bitNot (Builtin.bitNot b)).toNat=b:=by unfold Builtin.bitNot;lia
 unfold Builtin.bitOr Builtin.bitAnd;rw [(aaR (by unfold Builtin.bitNot;lia)),(aaR (by unfold Builtin.bitNot;lia))];dsimp only;rw [n,N];unfold Builtin.bitNot;lia
theorem pS (a b:Nat):Builtin.bitAnd (a:Int) (b:Int)=((a &&& b:Nat):Int):=by simp [Builtin.bitAnd]
end
noncomputable def aq (k:Nat):V:=.int (k:Int)
inductive Cy  (vs:aB) (H:Hp) (Q:VK) (_E:XK):Prop
 | mk (n r:Nat) (_:vs=[aq n,aq r]) (_:Q (.bl (n.testBit r)) H)
inductive Ag  (vs:aB) (H:Hp) (Q:VK) (_E:XK):Prop
 | mk (n r:Nat) (_:vs=[aq n,aq r]) (_:r<=1000) (_:Q (aq (n ||| 2 ^ r)) H)
inductive Dc  (vs:aB) (H:Hp) (Q:VK) (_E:XK):Prop
 | mk (n:Nat) (_:vs=[aq n]) (_:n<2 ^ 61) (_:∀ p H',H p=none->aE H H'->H' p=some (.lst ((Bit.rooms n).map aq))->Q (.ref p) H')
inductive DH  (vs:aB) (H:Hp) (Q:VK) (_E:XK):Prop
 | mk (n:Nat) (_:vs=[aq n]) (_:n<2 ^ 61) (_:(Bit.rooms n).length<=8) (_:∀ p H',H p=none->aE H H'->H' p=some (.lst ((Bit.parts (Bit.rooms n)).map aq))->Q (.ref p) H')
theorem yo (n:Nat):(Bit.rooms n).length<=61:=by
 have:=ab0 n.testBit (List.range 61);exact this
theorem L4 (n r:Nat) {s m:Int} (es:s=(n:Int) / 2 ^ ((r:Int)).toNat) (a:m=s % 2):decide (V.int m=V.int 1)=n.testBit r:=by
 rw [Nat.testBit_eq_decide_div_mod_eq];have e:s=((n / 2 ^ r:Nat)):=by
   simp_all
 have b:m=((n / 2 ^ r % 2:Nat)):=by rw [a,e];exact (Int.natCast_emod _ _).symm
 have E:(V.int m=V.int 1)↔(n / 2 ^ r % 2=1):=by rw [kH];lia
 exact afb.mpr E
theorem Ey (l:aH) (r:Nat):Bit.parts (l++[r])=Bit.parts l++(Bit.parts l).map (· ||| 2 ^ r):=by
 unfold Bit.parts;rw [adl];rfl
theorem Mp (n i:Nat):Bit.Ok (Bit.parts ((Bit.rooms n).take i)) ((Bit.rooms n).take i):=by
 have:=Bit.Gf ((Bit.rooms n).take i) [] [0] Bit.Pb ((Bit.qT n).sublist (List.take_sublist _ _));exact this
theorem bX {a:Type} {l:List a} {i:Nat} {x:a} (h:l[i]?=some x):l.take (i+1)=l.take i++[x]:=by
 rw [adG,h];rfl
theorem Az (r:Nat):∀ l:aH,Lf (aq r) (l.map aq)=decide (r∈l)
 | []=>rfl
 | a::l=>by
   have i:=Az r l;unfold Lf at i |-;rw [ab8,aeD,i];have e:MB (aq a) (aq r)=decide (r=a):=by
     show ((a:Int) == r)=_;lia
   rw [e];by_cases h:r=a
   . simp [h]
   . by_cases H:r∈l<;>simp [h,H]
theorem KW {a:Type} {xs:List a} {v:a} (h:xs[xs.length - 1]?=some v):uS xs (-1)=some v:=by
 have H:=(SV.mp h).1;have e:Ik xs.length (-1)=some (xs.length - 1):=by
   unfold Ik;rw [abC (by decide),abp (by lia)];congr 1;lia
 unfold uS;rw [e];exact h
theorem di {l:aH} {i:Nat} {x:V} (h:(l.map aq)[i]?=some x):∃ k,l[i]?=some k/\x=aq k:=by
 rw [aah] at h;cases e:l[i]? with
 | none=>rw [e] at h;cases h
 | some k=>rw [e] at h;exact ⟨k,rfl,(abb h).symm⟩
def Cx.held (X:Cx) (e:ak) (o:Obj):Cx:={ X with A:=X.A.mark (some (.ref e)),calm:=false,pn:=X.pn++[(e,o)],xe:=λ Z Z=>False }
open PySem.Builtin PySem.Builtin.ObjectAttr
open PySem.Builtin PySem.Builtin.ObjectAttr
@[elab_as_elim] theorem eJ {α:Type} {motive:List α->Prop} {n:Nat} {us:List α} (h:us.length=n+1) (k:∀ a t,t.length=n->motive (a::t)):motive us:=by
 cases us with
 | nil=>cases h
 | cons a t=>exact k a t (agI h)
theorem agS {b:Type} {n:Nat} {l:List b} (h:l.length=n+1):∃ a t,l=a::t/\t.length=n:=eJ h λ a t h=>⟨a,t,rfl,h⟩
section
variable {X:Cx} {x:Str} {pos:Pos}
theorem gB {i:Int} (a:Gl X x) (h:∃ t,X.mg x=some (.int i t)) (H:autoParam (AU x) zb_._auto_1):PE X (.Name x pos) (tC (.int i)):=by
 obtain ⟨t,h⟩:=h;exact gH a h ⟨t,rfl⟩ H
end
def DA (K:aF) (a:ak) (xs:aB):Prop :=
 ∃ (o:Obj) (b:Array ay) (n:Nat),K.lookup a=some o/\o.cls = .type "tuple"/\o.data = .seq b n/\b.size<=sizeLine/\Vals xs b.toList
theorem DA.at {K:aF} {a:ak} {xs:aB} (h:DA K a xs) (H:Hp):cw K H a xs:=.inr h
theorem Ol {K:aF} {a:ak} {d:Option ak} {n:Nat} {sl:Array (kY)} {i j:Int} {t u:Tok} (h:K.lookup a=some ⟨.type "tuple",d,.seq #[.int i t,.int j u] n,sl⟩):DA K a [.int i,.int j] :=
 ⟨_,_,_,h,rfl,rfl,by show 2<=sizeLine;decide,.cons ⟨t,rfl⟩ (.cons ⟨u,rfl⟩ .nil)⟩
def GA (K:aF) (T:ak) (j:aB):Prop:=∃ o n i,K.lookup T=some o/\o.data = .seq i n/\Vals j i.toList
structure vZ (K:aF) (x qual:Str) (st:Stmt) (dV:ay) (f:ak) (fd:FuncData):Prop where
 ex:∃ (oc:ay) (od:Option ak) (kV doc pm:ay) (an:Option ak) (bO ct:ay) (CD:Array (kY)),
   fd=W.fnOf x qual (ed st) (cC st) (av st) dV kV doc pm an bO ct/\K.lookup f=some ⟨oc,od,.func fd,CD⟩/\W.codeIn K bO qual=true
 kp:W.keepIn K (.ref f)=true
theorem Fu {K:aF} {x q:Str} {st:Stmt} {f:ak} {o:ay} {O a:Option ak} {C:Array (kY)} {D kV d p b ct:ay} (l:K.lookup f=some ⟨o,O,.func (W.fnOf x q (ed st) (cC st) (av st) D kV d p a b ct),C⟩) (c:W.codeIn K b q=true) (k:W.keepIn K (.ref f)=true):vZ K x q st D f (W.fnOf x q (ed st) (cC st) (av st) D kV d p a b ct):=⟨⟨o,O,kV,d,p,a,b,ct,C,rfl,l,c⟩,k⟩
section
variable {P:bq} {w:bi} {K:aF} {mg:eV} {base:bx} {x qual m:Str} {st:Stmt} {dV:ay} {f C:ak} {fd:FuncData} {N ps:d9} {k:Nat} {sp:Sp} {ds:bB}
theorem vZ.ok (F:vZ K x qual st dV f fd) (S:aD N ps (av st)) (len:∀ vs H Q E,sp vs H Q E->vs.length=ps.length) (j:∀ (b:ay) (A:Around) (outer:List Env) (s:Shared) (H:Hp) (vs:aB) (Q:VK) (E:XK),dW k (A.deeper (envOfC qual (av st) s.heap.objs.size f b))->sp vs H Q E ->
     ∃ t,xA (ux AI P w K mg base N qual (av st) f b A outer s H E).Ir (cC st) t/\t { nx:=λ Z H'=>Q .cN H',rt:=Q } (start N vs) H):nN P w K mg base AI (k+1) f fd ps sp:=by
 obtain ⟨o,e,kV,d,p,c,b,ct,C,rfl,l,X⟩:=F.ex;refine Oy l X S len λ A outer s H vs Q E a O=>?_;obtain ⟨t,h,q⟩:=j b A outer s H vs Q E a O;exact ⟨t,h.Ir,q⟩
theorem vZ.binds {T:ak} {o:Obj} {n:Nat} {i:Array ay} (F:vZ K x qual st (.ref T) f fd) (e:K.lookup T=some o) (j:o.data = .seq i n) (h:∀ (kV d p:ay) (a:Option ak) (b ct:ay) (u:bB),(u++ds).length=ps.length->∃ k,bindArgs (W.fnOf x qual (ed st) (cC st) (av st) (.ref T) kV d p a b ct) ⟨u,[]⟩=seqItems? (.ref T) >>= k/\k (some i)=pure (ps.zip (u++ds))):Binds K fd ps ds:=by
 obtain ⟨O,m,kV,d,p,a,b,ct,C,rfl,l,q⟩:=F.ex;intro s u X g;obtain ⟨k,H,c⟩:=h kV d p a b ct u g;exact W.binds_K X rfl e j H c
theorem vZ.Qz (F:vZ K x qual st .none f fd) (h:∀ (kV d p:ay) (a:Option ak) (b ct:ay) (u:bB),u.length=ps.length->bindArgs (W.fnOf x qual (ed st) (cC st) (av st) .none kV d p a b ct) ⟨u,[]⟩=pure (ps.zip u)):Binds K fd ps []:=by
 obtain ⟨o,O,kV,d,p,a,b,ct,C,rfl,l,X⟩:=F.ex;exact .all (h kV d p a b ct)
def gZ (K:aF) (C:ak) (m q:Str) (st:Stmt) (d:ay):Prop:=∃ f fd,Meth K C m f/\vZ K m q st d f fd
def iK (P:bq) (w:bi) (K:aF) (M:eV) (b:bx) (C:ak) (m:Str) (k:Nat) (p:d9) (d:bB) (s:Sp):Prop :=
 ∃ f fd,Meth K C m f/\Binds K fd p d/\nN P w K M b AI k f fd p s
theorem gZ.Nt (h:gZ K C m qual st .none) (S:aD N ps (av st)) (len:∀ vs H Q E,sp vs H Q E->vs.length=ps.length) (c:∀ (kV d p:ay) (a:Option ak) (b ct:ay) (u:bB),u.length=ps.length->bindArgs (W.fnOf m qual (ed st) (cC st) (av st) .none kV d p a b ct) ⟨u,[]⟩=pure (ps.zip u)) (j:∀ (f:ak) (b:ay) (A:Around) (outer:List Env) (s:Shared) (H:Hp) (vs:aB) (Q:VK) (E:XK),dW k (A.deeper (envOfC qual (av st) s.heap.objs.size f b))->sp vs H Q E ->
     ∃ t,xA (ux AI P w K mg base N qual (av st) f b A outer s H E).Ir (cC st) t/\t { nx:=λ Z H'=>Q .cN H',rt:=Q } (start N vs) H):iK P w K mg base C m (k+1) ps [] sp:=by
 obtain ⟨f,fd,M,F⟩:=h;exact ⟨f,fd,M,F.Qz c,F.ok S len λ b A outer s H vs Q E e g=>j f b A outer s H vs Q E e g⟩
structure G3 (K:aF) (C:ak):Prop where
 makes:W.makesIn K C=true
 kp:W.keepIn K (.ref C)=true
def Ln (K:aF) (m:eV) (x:Str) (st:Stmt) (d:ay):Prop:=∃ f fd,m x=some (.ref f)/\vZ K x x st d f fd
def VT (P:bq) (w:bi) (K:aF) (m:eV) (b:bx) (x:Str) (k:Nat) (p:d9) (d:bB) (s:Sp):Prop :=
 ∃ f fd,m x=some (.ref f)/\W.keepIn K (.ref f)=true/\Binds K fd p d/\nN P w K m b AI k f fd p s
end
section
variable {X:Cx} {C:ak} {m x:Str} {p pos apos:Pos} {e o:Expr} {es:List Expr} {ta:TE} {t:TA} {k:Nat} {ps:d9} {sp:Sp} {ds:bB} {jB:aB}
theorem aM {p:Sem Bool} (b:PE X o ta) (c:Cf X.K C) (D:iK X.prog X.w X.K X.mg X.base C m k ps ds sp) (a:Vals jB ds) (g:dW k X.A) (h:PA X (e::es) t) (j:autoParam (Fe X e es) za_._auto_1) (I:autoParam (Im X es pos) za_._auto_1) (i:autoParam (eval (.Call (.Attribute o m apos) (e::es) [] pos) X.env=(do
     let O <- eval o X.env
     standAt apos.atName
     let (f,first) <- holding [O] (getMethod O m p)
     callWith pos f first (backTo pos (starEach (e::es) X.env)) (backToKw pos (keywordEach [] X.env)))) za_._auto_1) :
   PE X (.Call (.Attribute o m apos) (e::es) [] pos) (Bg C m sp jB E0 ta t):=by
 obtain ⟨f,l,d,H,F⟩:=D;exact M9 b c d F g H a CH h j I i
theorem eC {p:Sem Bool} (a:PE X o ta) (c:Cf X.K C) (D:iK X.prog X.w X.K X.mg X.base C m k ps ds sp) (H:Vals jB ds) (d:dW k X.A) (e:autoParam (eval (.Call (.Attribute o m apos) [] [] pos) X.env=(do
     let O <- eval o X.env
     standAt apos.atName
     let (f,first) <- holding [O] (getMethod O m p)
     callWith pos f first (backTo pos (starEach [] X.env)) (backToKw pos (keywordEach [] X.env)))) za_._auto_1) :
   PE X (.Call (.Attribute o m apos) [] [] pos) (Bg C m sp jB E0 ta LG):=by
 obtain ⟨f,g,b,h,F⟩:=D;exact Jr a c b F d h H CH e
theorem rG (M:G3 X.K C) (D:iK X.prog X.w X.K X.mg X.base C "__init__" k ps ds sp) (a:Vals jB ds) (g:dW (k+1) X.A) (d:X.mg x=some (.ref C)) (h:PA X (e::es) t) (c:autoParam (Gl X x) za_._auto_1) (B:autoParam (AU x) zb_._auto_1) (b:autoParam (Fe X e es) za_._auto_1) (i:autoParam (Im X es pos) za_._auto_1):PE X (.Call (.Name x p) (e::es) [] pos) (IV C sp jB E0 t):=by
 obtain ⟨f,j,m,H,F⟩:=D;exact M1 ⟨M.makes,m.at_,m.fn,M.kp⟩ F g c d H a CH h B b i
theorem GY (D:VT X.prog X.w X.K X.mg X.base x k ps ds sp) (a:Vals jB ds) (i:dW k X.A) (h:PA X (e::es) t) (c:autoParam (Gl X x) za_._auto_1) (B:autoParam (AU x) zb_._auto_1) (b:autoParam (Fe X e es) za_._auto_1) (I:autoParam (Im X es pos) za_._auto_1):PE X (.Call (.Name x p) (e::es) [] pos) (FX sp jB E0 t):=by
 obtain ⟨f,j,g,d,H,F⟩:=D;exact FF F i c g d H a CH h B b I
end
section
variable {X:Cx} {pins:List (ak×Obj)} {U:St} {H:Hp} {s:Shared} {h':bx} {ch:bp}
theorem Inv.zo {a:ak} {t':Nat} (I:Inv X pins U H s) (k:∀ b u,b∉ch->s.heap.get? b=some u->h'.get? b=some u) (e:∀ b∈ch,xC X pins H b) (g:s.heap.objs.size<=a) (N:eh X.prog X.w (upd H a o) h' a o):Inv X pins U (upd H a o) { s with heap:=h',toks:=t' }:=by
 have f:=I.eB.fresh g;refine I.step (λ b d=>⟨(e b d).2.2.2.1,(e b d).2.1,(e b d).2.2.2.2.1,(e b d).2.2.2.2.2⟩) (λ b u Z Z h q Z=>k b u h q) (λ b u Z Z h q Z=>⟨u.slots,k b u h q⟩)
   (λ b u Z q n=>by rw [aw (abN (aa6 (aba q) g))];exact n) (λ b u h q=>⟨u,k b u h q⟩) (λ b x q=>by rw [aw (ax q f)];exact q) (λ b u x q=>by rw [aw (ax q f)];exact q)
   (λ b p q=>⟨#[],by rw [aw (ax q f),q];simp⟩) (λ m j=>?_) (λ b u q=>?_) I.bare
 . obtain ⟨O,i,E,l,r⟩:=j;exact ⟨O,i,E,k _ O (λ z=>(e _ z).2.1 rfl) l,r⟩
 .
  by_cases d:b=a
  . subst d;rw [af] at q;cases q;exact N
  .
   rw [aw d] at q;refine (I.eB b u q).dI (λ c v h z=>k c v (λ y=>?_) z) (λ c z=>by rw [aw (ax z f)];exact z) λ c x z=>by rw [aw (ax z f)];exact z
   have n:=(e c y).1;rcases h with rfl|h
   . rw [n] at q;cases q
   . rw [n] at h;cases h
theorem Inv.yR {t':Nat} (I:Inv X pins U H s) (k:∀ b u,b∉ch->s.heap.get? b=some u->h'.get? b=some u) (a:∀ b∈ch,xC X pins H b):Inv X pins U H { s with heap:=h',toks:=t' }:=by
 refine I.step (λ b d=>⟨(a b d).2.2.2.1,(a b d).2.1,(a b d).2.2.2.2.1,(a b d).2.2.2.2.2⟩) (λ b u Z Z h q Z=>k b u h q) (λ b u Z Z h q Z=>⟨u.slots,k b u h q⟩)
   (λ Z Z Z Z n=>n) (λ b u h q=>⟨u,k b u h q⟩) (λ Z Z q=>q) (λ Z Z Z q=>q) (λ b p q=>⟨#[],by rw [q];simp⟩) (λ m f=>?_) (λ b u q=>?_) I.bare
 . obtain ⟨o,E,e,g,r⟩:=f;exact ⟨o,E,e,k _ o (λ z=>(a _ z).2.1 rfl) g,r⟩
 .
  refine (I.eB b u q).dI (λ c v h z=>k c v (λ y=>?_) z) (λ Z z=>z) λ Z Z z=>z;have n:=(a c y).1;rcases h with rfl|h
  . rw [n] at q;cases q
  . rw [n] at h;cases h
end
def Xg (K:aF) (a b:ak):It :=
 ⟨λ i H=>∃ X Y x y,aW K H a X/\aW K H b Y/\X[i]?=some x/\Y[i]?=some y,
  λ i H v H'=>∃ p x y,H p=none/\v = .ref p/\H'=upd H p (.tup [x,y])/\(∀ X,aW K H a X->X[i]?=some x)/\∀ Y,aW K H b Y->Y[i]?=some y,
  λ i H=>∃ X Y,aW K H a X/\aW K H b Y/\(X.length<=i\/Y.length<=i)⟩
def nO (z TI TO I c a b:ak) (i:Nat) (h:bx):Prop:=IsZip h z TI TO .none/\IsPair h TI (.ref I) (.ref c)/\(∃ u v,IsPair h TO u v)/\h.IsListIter I a i/\h.IsListIter c b i
theorem nO.obj {z TI TO I d a b:ak} {i:Nat} {h:bx} (st:nO z TI TO I d a b i h):∀ c∈[z,TI,TO,I,d],∃ o,h.get? c=some o/\∀ v,o.data ≠ .cell v:=λ c H=>by
 obtain ⟨g,w,⟨u,v,J⟩,⟨O,E,Z,D⟩,⟨j,f,Z,e⟩⟩:=st;simp only [aay,aaj,acd] at H;rcases H with rfl|rfl|rfl|rfl|rfl
 . exact ⟨_,g,λ v q=>by cases q⟩
 . exact ⟨_,w,λ v q=>by cases q⟩
 . exact ⟨_,J,λ v q=>by cases q⟩
 . exact ⟨O,E,λ v q=>by rw [D] at q;cases q⟩
 . exact ⟨j,f,λ v q=>by rw [e] at q;cases q⟩
theorem Km {P:bq} {w:bi} {K:aF} {z TI TO f g a b:ak} (D:ZipApart z TI TO f g a b) :
   Turn P w K (.Tuple elts x1 rF) (Xg K a b) [z,TI,TO,f,g] z (nO z TI TO f g a b) where
 mem:=by simp
 obj:=λ i h S=>S.obj
 keep:=λ i h h' S k=>by
   obtain ⟨n,W,⟨u,v,J⟩,l,m⟩:=S;exact ⟨k z (by simp) _ n,k TI (by simp) _ W,⟨u,v,k TO (by simp) _ J⟩,l.at λ o e=>k f (by simp) o e,m.at λ o e=>k g (by simp) o e⟩
 item:=by
   intro X G O F hc i p s U H E I r S L;subst G O F;obtain ⟨xs,ys,x,y,q,A,hx,hy⟩:=L;obtain ⟨Md,B,Q,P6⟩:=I.list q;obtain ⟨qX,R,T,ZD⟩:=I.list A;obtain ⟨u1,M,V⟩:=B.get hx;obtain ⟨u2,N,ab⟩:=R.get hy;have lt:∀ c∈[z,TI,TO,f,g],c<s.heap.objs.size:=λ c Y=>by
     obtain ⟨o,e,Z⟩:=S.obj c Y;exact aba e
   obtain ⟨n,W,⟨u,v,J⟩,l,m⟩:=S;refine wpAny_pyNext_zip_item D n W J l m Q.isList T.isList (by simpa using M) (by simpa using N) λ h' z1 z2 z3 z4 z5 z6 t=>⟨.ref s.heap.objs.size,rfl,wpAny_letOwnedTupleGo_zip z1 λ YJ zz j=>?_⟩
   have KZ:∀ c o,c∉[z,TI,TO,f,g]->s.heap.get? c=some o->YJ.get? c=some o:=λ c o d e=>by
     simp only [aay,aaj,acd,ad7] at d;exact j.extBut _ _ d.1 (t c o d.1 d.2.2.1 d.2.2.2.1 d.2.2.2.2 e)
   have nz:=aeh (lt z (by simp));refine ⟨.ref s.heap.objs.size,upd H s.heap.objs.size (.tup [x,y]),I.zo KZ r (aaE _) ⟨by show 2<=sizeLine;decide,[u1,u2],.cons V (.cons ab .nil),⟨_,(j.extBut _ _ nz z5),rfl,_,rfl⟩⟩,rfl,
     ⟨_,x,y,I.eB.fresh (aaE _),rfl,rfl,λ ad h=>by rw [I.qU h q];exact hx,λ ae h=>by rw [I.qU h A];exact hy⟩,?_,λ c Y=>?_⟩
   . exact ⟨zz,j.extBut _ _ D.TIz (t _ _ D.TIz D.TITO D.TIi1 D.TIi2 W),⟨_,_,j.extBut _ _ D.TOz z2⟩,z3.extBut j.extBut D.i1z,z4.extBut j.extBut D.i2z⟩
   . rw [aw (abN (lt c Y))];exact (r c Y).1
 done:=by
   intro X G O F hc i p s U H E I r S L;subst G O F;obtain ⟨xs,ys,q,A,hl⟩:=L;obtain ⟨Md,B,Q,P6⟩:=I.list q;obtain ⟨qX,R,T,ZD⟩:=I.list A;have l1:=B.length;have l2:=R.length;obtain ⟨n,W,⟨u,v,J⟩,l,m⟩:=S;have C:Md.toArray[i]?=none\/qX.toArray[i]?=none:=by
     simp_all
   refine wpAny_pyNext_zip_end (I.ok.hd hc) D n W J l m Q.isList T.isList C λ h' t=>⟨rfl,I.yR (λ c o d e=>?_) r⟩
   simp only [aay,aaj,acd,ad7] at d;exact t c o d.1 d.2.2.1 d.2.2.2.1 d.2.2.2.2 e
 self:=λ Z Z Z Z Z S h=>agp S.1 h
theorem Lk:bootBuiltins "zip" = some (.type "zip"):=by decide +kernel
section
variable {X:Cx}
def aat (K:aF) (t:TA):TI:=λ U H R=>t U H λ v h=>∃ a b,v=[.ref a,.ref b]/\(∃ x,aW K h a x)/\(∃ y,aW K h b y)/\R (Xg K a b) h
theorem PD {a b:Expr} {t:TA} {p g:Pos} (o:Gl X "zip") (w:X.mg "zip" = none) (n:PA X [a,b] t) (x:autoParam (starEach [a,b] X.env=[(false,eval a X.env),(false,eval b X.env)]) za_._auto_1) (M:autoParam (starEach [b] X.env=[(false,eval b X.env)]) za_._auto_1):PI X (.Tuple elts x1 rF) (.Call (.Name "zip" p) [a,b] [] g) (aat X.K t):=by
 intro f s U H R I h;refine Call_ (ke I o w Lk (acH (dC (n g f s U H _ I h) λ us S ⟨vs,m,i,C,Q⟩=>?_) (by rw [x,M]) (by rw [M];rfl)));obtain ⟨a,b,e,⟨xs,E⟩,⟨ys,Y⟩,q⟩:=Q;subst e;obtain ⟨u,v,rfl,r,B⟩:=vals2 C;obtain rfl:=r;obtain rfl:=B;obtain ⟨N,V,k,O⟩:=i.list E;obtain ⟨qX,T,l,W⟩:=i.list Y;refine call_zip_2 k.isList l.isList λ h' z D F G J z6 y=>?_;have L:a<S.heap.objs.size:=by obtain ⟨Z,e,Z⟩:=k.isList;exact aba e
 have A:b<S.heap.objs.size:=by obtain ⟨Z,e,Z⟩:=l.isList;exact aba e
 refine agp z (⟨S.heap.objs.size+4,[S.heap.objs.size+4,S.heap.objs.size+2,S.heap.objs.size+3,S.heap.objs.size,S.heap.objs.size+1],_,_,m,rfl,i.kept y,Km (zipApart_new L A),⟨z,D,⟨_,_,F⟩,G,J⟩,λ c j=>?_,q⟩);have d:S.heap.objs.size<=c:=by
   simp only [aay,aaj,acd] at j;rcases j with rfl|rfl|rfl|rfl|rfl
   . exact aed _ _
   . exact aed _ _
   . exact aed _ _
   . exact aaE _
   . exact aed _ _
 exact i.Ca d (i.eB.fresh d)
end
theorem Kr {K:aF} {a b:ak} {xs ys:aB} {t:TT} {D:ak} {Q:Hp->Prop} (d:Nat->aB->St->Hp->Prop) (s:d 0 [] U H) (B:∀ i acc U H,i<=min xs.length ys.length->d i acc U H->aW K H a xs/\aW K H b ys) (F:∀ i x y p acc U H,xs[i]?=some x->ys[i]?=some y->H p=none->d i acc U H->g (.ref p) U (upd H p (.tup [x,y])) λ c l=>t c l λ k h =>
     if k=true then te c h λ v j=>j D=some (.lst acc)/\acc.length<sizeLine/\d (i+1) (acc++[v]) c (upd j D (.lst (acc++[v]))) else d (i+1) acc c h) (z:∀ acc U H,d (min xs.length ys.length) acc U H->Q H) :
   ∃ W:Nat->Nat->aB->St->Hp->Prop,(∃ m,W 0 m [] U H)/\∀ i m acc f H',W i m acc f H'->((Xg K a b).stop i H'/\Q H') \/
     ((Xg K a b).go i H'/\∃ N:aB->St->Hp->Prop,(∀ I c h,N I c h->∃ m',m'<m/\W (i+1) m' I c h)/\∀ x o,(Xg K a b).Lv i H' x o->g x f o λ c l=>t c l λ k h =>
       if k=true then te c h λ y j=>j D=some (.lst acc)/\acc.length<sizeLine/\N (acc++[y]) c (upd j D (.lst (acc++[y]))) else N acc c h):=by
 refine ⟨λ i m acc U H=>m=min xs.length ys.length - i/\i<=min xs.length ys.length/\d i acc U H,⟨_,rfl,ab2 _,s⟩,?_⟩;rintro i m acc U H ⟨rfl,A,p⟩;obtain ⟨q,n⟩:=B i acc U H A p;by_cases L:i<min xs.length ys.length
 .
  have u:i<xs.length:=by lia
  have w:i<ys.length:=by lia
  refine .inr ⟨⟨xs,ys,xs[i],ys[i],q,n,by simp [u],by simp [w]⟩,d (i+1),λ I f H' G=>⟨min xs.length ys.length - (i+1),by lia,rfl,L,G⟩,λ v H' y=>?_⟩;obtain ⟨J,x,y,C,rfl,rfl,E,r⟩:=y;exact F i x y J acc U H (E xs q) (r ys n) C p
 . have e:i=min xs.length ys.length:=by lia
   subst e;exact .inl ⟨⟨xs,ys,q,n,by lia⟩,z acc U H p⟩
mutual
def Dn (K:aF) (H:Hp):PyData->V->Prop
 | .none,v=>v = .cN
 | .bool b,v=>v = .bl b
 | .int i,v=>v = .int i
 | .str x,v=>v = .str x
 | .list d,v=>∃ a xs,v = .ref a/\aW K H a xs/\bP K H d xs
 | .tuple d,v=>∃ a xs,v = .ref a/\cw K H a xs/\bP K H d xs
 | .dict _,_=>False
def bP (K:aF) (H:Hp):List PyData->aB->Prop
 | [],xs=>xs=[]
 | d::D,xs=>∃ x r,xs=x::r/\Dn K H d x/\bP K H D r
end
mutual
def f7:PyData->Bool
 | .list _=>false
 | .dict _=>false
 | .tuple d=>tD d
 | _=>true
def tD:List PyData->Bool
 | []=>true
 | d::D=>f7 d && tD D
end
@[simp] theorem Ry:tD []=true:=rfl
@[simp] theorem Cz {d:PyData} {ds:List PyData}:tD (d::ds)=(f7 d && tD ds):=rfl
theorem wz:∀ {D:List PyData},tD D=true↔∀ d∈D,f7 d=true
 | []=>⟨λ Z d h=>absurd h aaj,λ Z=>rfl⟩
 | d::D=>by
   rw [Cz,abX,wz];constructor
   . grind
   . exact λ h=>⟨h d aaZ,λ e H=>h e (aaB _ H)⟩
theorem nQ {D:List PyData}:f7 (.tuple D)=true↔∀ d∈D,f7 d=true:=wz
def aZ (K:aF) (H h:Hp):Prop:=∀ a x,cw K H a x->cw K h a x
theorem aZ.refl {K:aF} (H:Hp):aZ K H H:=λ Z Z h=>h
theorem aZ.trans {K:aF} {d H2:Hp} (a:aZ K H d) (b:aZ K d H2):aZ K H H2:=λ c x h=>b c x (a c x h)
theorem aE.ts {K:aF} (s:aE H H'):aZ K H H':=λ Z Z h=>s.tup h
def FP:HO->Bool
 | .tup _=>false
 | .CT _ _=>false
 | _=>true
theorem cq {K:aF} {a:ak} {O:HO} (h:H a=some o) (n:FP o=true):aZ K H (upd H a O):=λ b x q=>by
 have N:∀ u,H b=some u->FP u=false->b≠a:=λ u e z y=>by
   lia
 rcases q with (q|⟨c,q⟩)|q
 . exact .inl (.inl (by rw [aw (N _ q rfl)];exact q))
 . exact .inl (.inr ⟨c,by rw [aw (N _ q rfl)];exact q⟩)
 . exact .inr q
section
variable {K:aF} {H H':Hp}
mutual
theorem Dn.same (s:aE H H'):∀ (d:PyData) {v:V},Dn K H d v->Dn K H' d v
 | .none,_,h=>by rw [Dn] at h |-;exact h
 | .bool _,_,h=>by rw [Dn] at h |-;exact h
 | .int _,_,h=>by rw [Dn] at h |-;exact h
 | .str _,_,h=>by rw [Dn] at h |-;exact h
 | .list D,_,h=>by
   rw [Dn] at h |-;obtain ⟨a,xs,e,q,r⟩:=h;exact ⟨a,xs,e,s.seq q,bP.same s D r⟩
 | .tuple D,_,h=>by
   rw [Dn] at h |-;obtain ⟨a,xs,e,q,r⟩:=h;exact ⟨a,xs,e,s.tup q,bP.same s D r⟩
 | .dict _,_,h=>by rw [Dn] at h;exact h.elim
theorem bP.same (s:aE H H'):∀ (D:List PyData) {xs:aB},bP K H D xs->bP K H' D xs
 | [],_,h=>by rw [bP] at h |-;exact h
 | d::D,_,h=>by
   rw [bP] at h |-;obtain ⟨x,r,e,q,t⟩:=h;exact ⟨x,r,e,Dn.same s d q,bP.same s D t⟩
end
mutual
theorem Dn.ts (s:aZ K H H'):∀ (d:PyData) {v:V},f7 d=true->Dn K H d v->Dn K H' d v
 | .none,_,_,h=>by rw [Dn] at h |-;exact h
 | .bool _,_,_,h=>by rw [Dn] at h |-;exact h
 | .int _,_,_,h=>by rw [Dn] at h |-;exact h
 | .str _,_,_,h=>by rw [Dn] at h |-;exact h
 | .list D,_,f,_=>by rw [f7] at f;cases f
 | .tuple D,_,f,h=>by
   rw [Dn] at h |-;obtain ⟨a,xs,e,q,r⟩:=h;exact ⟨a,xs,e,s _ _ q,bP.ts s D (nQ.mp f) r⟩
 | .dict _,_,_,h=>by rw [Dn] at h;exact h.elim
theorem bP.ts (s:aZ K H H'):∀ (D:List PyData) {xs:aB},(∀ d∈D,f7 d=true)->bP K H D xs->bP K H' D xs
 | [],_,_,h=>by rw [bP] at h |-;exact h
 | d::D,_,f,h=>by
   rw [bP] at h |-;obtain ⟨x,r,e,q,t⟩:=h;exact ⟨x,r,e,Dn.ts s d (f d aaZ) q,bP.ts s D (λ d a=>f d (aaB _ a)) t⟩
end
theorem bP.length:∀ {D:List PyData} {xs:aB},bP K H D xs->xs.length=D.length
 | [],_,h=>by rw [h];rfl
 | d::D,_,h=>by
   obtain ⟨x,r,rfl,Z,t⟩:=h;rw [ac8,ac8,bP.length t]
theorem bP.get:∀ {D:List PyData} {xs:aB} {i:Nat} {d:PyData},bP K H D xs->D[i]?=some d->∃ x,xs[i]?=some x/\Dn K H d x
 | [],_,_,_,_,e=>by simp at e
 | _::_,_,0,_,h,e=>by
   obtain ⟨x,r,rfl,q,t⟩:=h;simp at e;subst e;exact ⟨x,rfl,q⟩
 | _::D,_,i+1,d,h,e=>by
   obtain ⟨x,r,rfl,q,t⟩:=h;obtain ⟨y,E,a⟩:=bP.get t (by simpa using e);exact ⟨y,by simpa using E,a⟩
theorem bP.snoc:∀ {D:List PyData} {xs:aB} {d:PyData} {x:V},bP K H D xs->Dn K H d x->bP K H (D++[d]) (xs++[x])
 | [],_,d,x,h,q=>by
   subst h;exact ⟨x,[],rfl,q,rfl⟩
 | _::D,_,d,x,h,q=>by
   obtain ⟨y,r,rfl,Q,t⟩:=h;exact ⟨y,r++[x],rfl,Q,bP.snoc t q⟩
theorem bP.set:∀ {D:List PyData} {xs:aB} {i:Nat} {d:PyData} {x:V},bP K H D xs->Dn K H d x->bP K H (D.set i d) (xs.set i x)
 | [],_,_,_,_,h,_=>by
   subst h;exact rfl
 | _::_,_,0,d,x,h,q=>by
   obtain ⟨y,r,rfl,Q,t⟩:=h;exact ⟨x,r,rfl,q,t⟩
 | _::D,_,i+1,d,x,h,q=>by
   obtain ⟨y,r,rfl,Q,t⟩:=h;exact ⟨y,r.set i x,rfl,Q,bP.set t q⟩
theorem eP:bP K H [] []:=rfl
theorem bI {d:PyData} {D:List PyData} {x:V} {xs:aB} (a:Dn K H d x) (b:bP K H D xs):bP K H (d::D) (x::xs):=⟨x,xs,rfl,a,b⟩
theorem Kc {i:Int}:Dn K H (.int i) (.int i):=rfl
theorem jw {a:ak} {xs:aB} {d:List PyData} (h:cw K H a xs) (r:bP K H d xs):Dn K H (.tuple d) (.ref a):=⟨a,xs,rfl,h,r⟩
theorem wm {a:ak} {xs:aB} {d:List PyData} (h:aW K H a xs) (r:bP K H d xs):Dn K H (.list d) (.ref a):=⟨a,xs,rfl,h,r⟩
abbrev fM (f:Int×Int):PyData:=.tuple [.int f.1,.int f.2]
theorem n9 {p:ak} {f:Int×Int} (h:cw K H p [.int f.1,.int f.2]):Dn K H (fM f) (.ref p):=jw h (bI Kc (bI Kc eP))
theorem Dn.fr {v:V} {f:Int×Int} (h:Dn K H (fM f) v):∃ p,v = .ref p/\cw K H p [.int f.1,.int f.2]:=by
 obtain ⟨p,X,e,q,x,r,E,a,y,R,b,c,d⟩:=h;subst E a b c d;exact ⟨p,e,q⟩
theorem i8 (f:Int×Int):f7 (fM f)=true:=by simp [fM,f7]
end
section
variable {X:Cx} {pins:List (ak×Obj)} {U:St} {H:Hp} {s:Shared}
mutual
theorem Inv.reads (I:Inv X pins U H s):∀ (d:PyData) {v:V} {u:ay},Dn X.K H d v->RelV v u->∃ as,Reads s.heap u d as
 | .none,_,_,h,r=>by
   have h:_=V.cN:=h;subst h;obtain rfl:=(show _=Value.none from r)
   exact ⟨_,.none⟩
 | .bool b,_,_,h,r=>by
   have h:_=V.bl b:=h;subst h;obtain rfl:=(show _=Value.bool b from r)
   exact ⟨_,.bool b⟩
 | .int i,_,_,h,r=>by
   have h:_=V.int i:=h;subst h;obtain ⟨t,rfl⟩:=r;exact ⟨_,.int i t⟩
 | .str x,_,_,h,r=>by
   have h:_=V.str x:=h;subst h;obtain ⟨t,rfl⟩:=r;exact ⟨_,.str x t⟩
 | .list D,_,_,h,r=>by
   obtain ⟨a,j,rfl,q,t⟩:=h;obtain rfl:=(show _=Value.ref a from r)
   obtain ⟨B,g,p,Z⟩:=I.list q;obtain ⟨o,f,c,n,e⟩:=p.isList;obtain ⟨as,R⟩:=Inv.readsAll I D t g;exact ⟨_,.list f c e (by simpa using R)⟩
 | .tuple D,_,_,h,r=>by
   obtain ⟨a,j,rfl,q,t⟩:=h;obtain rfl:=(show _=Value.ref a from r)
   obtain ⟨B,g,p,Z⟩:=I.tuple q;obtain ⟨o,f,c,n,e⟩:=p;obtain ⟨as,R⟩:=Inv.readsAll I D t g;exact ⟨_,.tuple f c e (by simpa using R)⟩
 | .dict _,_,_,h,_=>(show False from h).elim
theorem Inv.readsAll (I:Inv X pins U H s):∀ (D:List PyData) {xs:aB} {u:bB},bP X.K H D xs->Vals xs u->∃ as,ReadsAll s.heap u D as
 | [],_,_,h,r=>by
   have h:_=[]:=h;subst h;obtain rfl:=Vals.zero r;exact ⟨_,.nil⟩
 | d::D,_,_,h,r=>by
   obtain ⟨x,t,rfl,q,Q⟩:=h;cases r with
   | cons R a =>
     obtain ⟨as,b⟩:=Inv.reads I d q R;obtain ⟨B,c⟩:=Inv.readsAll I D Q a;exact ⟨_,.cons b c⟩
end
inductive acB (K:aF) (x:V) (y:V) (H:Hp) (Q:VK):Prop
 | mk (d e:_) (_:Dn K H d x) (_:Dn K H e y) (_:SeqAt.shaped d=true) (_:SeqAt.shaped e=true) (_:Q (.bl (PyData.eqv d e)) H)
inductive abi (K:aF) (x:V) (y:V) (H:Hp) (Q:VK):Prop
 | mk (d e:_) (_:Dn K H d x) (_:Dn K H e y) (_:SeqAt.shaped d=true) (_:SeqAt.shaped e=true) (_:Q (.bl (!PyData.eqv d e)) H)
theorem OP (c:X.A.units+64<cLine):jI X (compareOp .Eq) (acB X.K):=by
 intro pins s U H x y v u Q I f g h;obtain ⟨d,e,a,b,S,i,q⟩:=h;obtain ⟨as,r⟩:=I.reads d a f;obtain ⟨B,R⟩:=I.reads e b g;exact eq_dataH r R S i c ⟨.bl _,H,I,rfl,q⟩
theorem QL (c:X.A.units+64<cLine):jI X (compareOp .NotEq) (abi X.K):=by
 intro pins s U H x y v u Q I f g h;obtain ⟨d,e,a,b,S,i,q⟩:=h;obtain ⟨as,r⟩:=I.reads d a f;obtain ⟨B,R⟩:=I.reads e b g;exact ne_dataH r R S i c ⟨.bl _,H,I,rfl,q⟩
theorem yr (t:X.calm=true):im X (.builtin "all") (λ xs H Q=>∃ (p:ak) (B:List Bool),xs=[.ref p]/\aW X.K H p (B.map V.bl)/\Q (.bl (B.all id)) H):=by
 intro pins s U H xs G Q I r h;obtain ⟨p,B,rfl,C,q⟩:=h;obtain ⟨u,rfl,D⟩:∃ u,G=[u]/\RelV (.ref p) u:=by
   cases r with
   | cons a b=>cases b;exact ⟨_,rfl,a⟩
 obtain rfl:=D;obtain ⟨f,R,j,Z⟩:=I.list C;have A:p<s.heap.objs.size:=by obtain ⟨Z,e,Z⟩:=j.isList;exact aba e
 have d:f.length=B.length:=by rw [<- R.length,Ea]
 have l:∀ i v,f.toArray[i]?=some v->v=Value.bool (B.getD i false):=λ i v e=>by
   have E:=by simpa using e
   have c:i<B.length:=by rw [<- d];exact (SV.mp E).1
   obtain ⟨u,k,F⟩:=R.get (i:=i) (x:=V.bl (B[i])) (by simp [c]);rw [E] at k;cases k;rw [F];simp [c]
 refine call_all_walk (age j.isList ⟨s.heap.objs.size,_,_,_,_,_,λ i=>B.getD i false,rfl,Walks.list (by simpa using I.ok.hd t) _ p (abN A) f.toArray,⟨⟨_,abW _ rfl,rfl,rfl⟩,j.isList.push _⟩,λ i v S L J m g=>?_,λ M T w=>?_⟩)
 . rw [l i v m];exact aaW g
 .
  have e:(List.range f.toArray.size).all (λ i=>B.getD i false)=B.all id:=by
    have:f.toArray.size=B.length:=by simpa using d
    rw [this,adC,acj,acj];constructor
    . intro h b n;obtain ⟨i,c,rfl⟩:=afw n;have:=h i (aaK.mpr c);simpa [c] using this
    . intro h i c;have c:=aaK.mp c;have:=h _ (aaH c);simpa [c] using this
  rw [e];exact ⟨.bl _,H,I.kept λ b o z=>w b o (λ y=>by
    have y:=by simpa using y
    exact absurd (aba z) (by rw [y];exact adB _)) (aaF _ z),rfl,q⟩
end
section
variable {P:bq} {w:bi} {K:aF} {mg:eV} {base:bx} {x qual m:Str} {st:Stmt} {dV:ay} {f C:ak} {fd:FuncData} {N ps:d9} {k:Nat} {sp:Sp} {ds:bB} {jB:aB}
def Wu (P:bq) (w:bi) (K:aF) (M:eV) (b:bx) (C:ak) (m q:Str) (st:Stmt) (d:ay) (k:Nat) (p:d9) (s:Sp):Prop :=
 ∃ f fd,Meth K C m f/\vZ K m q st d f fd/\nN P w K M b AI k f fd p s
def Bl (P:bq) (w:bi) (K:aF) (M:eV) (b:bx) (C:ak) (m:Str) (k:Nat) (p:d9) (j:aB) (s:Sp):Prop :=
 ∃ ds,Vals j ds/\iK P w K M b C m k p ds s
theorem gZ.mok (h:gZ K C m qual st dV) (S:aD N ps (av st)) (len:∀ vs H Q E,sp vs H Q E->vs.length=ps.length) (j:∀ (f:ak) (b:ay) (A:Around) (outer:List Env) (s:Shared) (H:Hp) (vs:aB) (Q:VK) (E:XK),dW k (A.deeper (envOfC qual (av st) s.heap.objs.size f b))->sp vs H Q E ->
     ∃ t,xA (ux AI P w K mg base N qual (av st) f b A outer s H E).Ir (cC st) t/\t { nx:=λ Z H'=>Q .cN H',rt:=Q } (start N vs) H):Wu P w K mg base C m qual st dV (k+1) ps sp:=by
 obtain ⟨f,fd,M,F⟩:=h;exact ⟨f,fd,M,F,F.ok S len λ b A outer s H vs Q E a c=>j f b A outer s H vs Q E a c⟩
theorem Wu.Nt {T:ak} {I:aB} (h:Wu P w K mg base C m qual st (.ref T) k ps sp) (H:GA K T I) (a:∀ i:Array ay,Vals I i.toList->∃ ds,Vals jB ds/\∀ (kV d p:ay) (A:Option ak) (b ct:ay) (u:bB),(u++ds).length=ps.length->∃ k,bindArgs (W.fnOf m qual (ed st) (cC st) (av st) (.ref T) kV d p A b ct) ⟨u,[]⟩=seqItems? (.ref T) >>= k/\k (some i)=pure (ps.zip (u++ds))) :
   Bl P w K mg base C m k ps jB sp:=by
 obtain ⟨f,fd,M,F,O⟩:=h;obtain ⟨o,n,i,H,e,g⟩:=H;obtain ⟨ds,c,a⟩:=a i g;exact ⟨ds,c,f,fd,M,F.binds H e a,O⟩
def WT (P:bq) (w:bi) (K:aF) (m:eV) (b:bx) (x:Str) (st:Stmt) (d:ay) (k:Nat) (p:d9) (s:Sp):Prop :=
 ∃ f fd,m x=some (.ref f)/\vZ K x x st d f fd/\nN P w K m b AI k f fd p s
def Kk (P:bq) (w:bi) (K:aF) (m:eV) (b:bx) (x:Str) (k:Nat) (p:d9) (j:aB) (s:Sp):Prop :=
 ∃ ds,Vals j ds/\VT P w K m b x k p ds s
theorem Ln.dok (h:Ln K mg x st dV) (S:aD N ps (av st)) (len:∀ vs H Q E,sp vs H Q E->vs.length=ps.length) (j:∀ (f:ak) (b:ay) (A:Around) (outer:List Env) (s:Shared) (H:Hp) (vs:aB) (Q:VK) (E:XK),dW k (A.deeper (envOfC x (av st) s.heap.objs.size f b))->sp vs H Q E ->
     ∃ t,xA (ux AI P w K mg base N x (av st) f b A outer s H E).Ir (cC st) t/\t { nx:=λ Z H'=>Q .cN H',rt:=Q } (start N vs) H):WT P w K mg base x st dV (k+1) ps sp:=by
 obtain ⟨f,fd,M,F⟩:=h;exact ⟨f,fd,M,F,F.ok S len λ b A outer s H vs Q E a c=>j f b A outer s H vs Q E a c⟩
theorem WT.Rg {T:ak} {I:aB} (h:WT P w K mg base x st (.ref T) k ps sp) (H:GA K T I) (a:∀ i:Array ay,Vals I i.toList->∃ ds,Vals jB ds/\∀ (kV d p:ay) (A:Option ak) (b ct:ay) (u:bB),(u++ds).length=ps.length->∃ k,bindArgs (W.fnOf x x (ed st) (cC st) (av st) (.ref T) kV d p A b ct) ⟨u,[]⟩=seqItems? (.ref T) >>= k/\k (some i)=pure (ps.zip (u++ds))) :
   Kk P w K mg base x k ps jB sp:=by
 obtain ⟨f,fd,M,F,O⟩:=h;obtain ⟨o,n,i,H,e,g⟩:=H;obtain ⟨ds,c,a⟩:=a i g;exact ⟨ds,c,f,fd,M,F.kp,F.binds H e a,O⟩
theorem vals3 {a b c:V} {i:Array ay} (h:Vals [a,b,c] i.toList):∃ u v z,i=#[u,v,z]/\RelV a u/\RelV b v/\RelV c z:=by
 obtain ⟨l⟩:=i;cases h with
 | cons H h=>cases h with
   | cons d h=>cases h with
     | cons e h=>cases h with
       | nil=>exact ⟨_,_,_,rfl,H,d,e⟩
end
section
variable {X:Cx} {C:ak} {m x:Str} {p pos apos:Pos} {e o:Expr} {es:List Expr} {ta:TE} {t:TA} {k:Nat} {ps:d9} {sp:Sp} {jB:aB}
theorem qV {p:Sem Bool} (a:PE X o ta) (c:Cf X.K C) (D:Bl X.prog X.w X.K X.mg X.base C m k ps jB sp) (b:dW k X.A) (h:PA X (e::es) t) (I:autoParam (Fe X e es) za_._auto_1) (i:autoParam (Im X es pos) za_._auto_1) (d:autoParam (eval (.Call (.Attribute o m apos) (e::es) [] pos) X.env=(do
     let O <- eval o X.env
     standAt apos.atName
     let (f,first) <- holding [O] (getMethod O m p)
     callWith pos f first (backTo pos (starEach (e::es) X.env)) (backToKw pos (keywordEach [] X.env)))) za_._auto_1) :
   PE X (.Call (.Attribute o m apos) (e::es) [] pos) (Bg C m sp jB E0 ta t):=by
 obtain ⟨g,H,D⟩:=D;exact aM a c D H b h I i d
theorem rp (M:G3 X.K C) (D:Bl X.prog X.w X.K X.mg X.base C "__init__" k ps jB sp) (d:dW (k+1) X.A) (c:X.mg x=some (.ref C)) (h:PA X (e::es) t) (b:autoParam (Gl X x) za_._auto_1) (B:autoParam (AU x) zb_._auto_1) (a:autoParam (Fe X e es) za_._auto_1) (i:autoParam (Im X es pos) za_._auto_1):PE X (.Call (.Name x p) (e::es) [] pos) (IV C sp jB E0 t):=by
 obtain ⟨f,H,D⟩:=D;exact rG M D H d c h b B a i
theorem kq (D:Kk X.prog X.w X.K X.mg X.base x k ps jB sp) (c:dW k X.A) (h:PA X (e::es) t) (b:autoParam (Gl X x) za_._auto_1) (B:autoParam (AU x) zb_._auto_1) (a:autoParam (Fe X e es) za_._auto_1) (i:autoParam (Im X es pos) za_._auto_1):PE X (.Call (.Name x p) (e::es) [] pos) (FX sp jB E0 t):=by
 obtain ⟨d,H,D⟩:=D;exact GY D H c h b B a i
end
theorem cL {X:Cx} {K:aF} {es:List Expr} {k:Nat} {p:Pos} {t:N8} {n:Nat} (H:X.K=K) (a:X.calm=true) (h:RG X es t) (b:autoParam ((assignEach es X.env).length=n) za_._auto_1) (i:autoParam ((assignEach es X.env).findIdx? (·.1)=none) za_._auto_1):PG X (.Tuple es k p) (VA K n t):=by
 subst H;exact QR a h b i
end L2
namespace PySem
open Sem (wp)
theorem nU:∀ (l:List DictEntry) (c:Int),(l.map (·.hash)).Nodup->(l.filter (·.hash == c)).length<=1
 | [],_,_=>ab2 _
 | e::l,c,h=>by
   rw [ab8,ab3] at h;rw [afg];split
   . simp_all
   . exact nU l c h.2
section
variable {prog:bq} {w:bi} {K:Type} [DecidableEq K] {knd:KeyKind prog w K} {A:Around} {E:ay->Shared->Prop} {s:Shared}
theorem o9 {k:List K} {a:ak} {Q:Bool->Shared->Prop} (b:IsTupleKey knd s.heap k a) (h:Q false s):wpAny (model prog w) A (Builtin.Dict.quietEq (.ref a)) Q E s:=by
 have H:=b.typeIs;exact aam (afB H F.slot_tuple_eq.lookup (aaW h))
theorem mM {id:String} {d:ak} {o:Obj} {es f} {xs:List (List K×ak×ay)} {Q:Array DictEntry->Shared->Prop} (n:s.heap.get? d=some o) (i:o.data = .dict es f) (a:es.toList=xs.map (entryOfKey (tupleKind knd)))
   (k:∀ x∈xs,IsTupleKey knd s.heap x.1 x.2.1) (j:(xs.map λ x=>tupleKeyHash knd x.1).Nodup) (h:Q es s) :
   wpAny (model prog w) A (Builtin.Dict.entriesForEmpty id d) Q E s:=by
 refine aam (afm n i ?_);have m:(es.toList.map (·.hash)).Nodup:=by
   rw [a,ac5];exact j
 refine aam ?_;refine wpAny_forIn_array' _ (λ rest Z S=>S=s/\∀ e∈rest,e∈es.toList) _ ?_ ?_ _ _ ⟨rfl,λ Z h=>h⟩
 .
  rintro e rest b S ⟨rfl,c⟩;have H:=c e aaZ;rw [a] at H;obtain ⟨x,p,rfl⟩:=abv.mp H;refine aam (o9 (k x p) ?_);have g:¬ ((es.filter λ y=>y.hash == (entryOfKey (tupleKind knd) x).hash).size > 1):=by
    have:=nU es.toList (entryOfKey (tupleKind knd) x).hash m;have q:(es.filter λ y=>y.hash == (entryOfKey (tupleKind knd) x).hash).size=(es.toList.filter λ y=>y.hash == (entryOfKey (tupleKind knd) x).hash).length:=by
      obtain ⟨l⟩:=es;simp
    lia
  simp only [afv,af6,abC g];exact aaW ⟨rfl,λ e a=>c e (aaB _ a)⟩
 . rintro b S ⟨rfl,Z⟩;exact aaW h
theorem sU {O:String} {d o:ak} {xs:List (List K×ak×ay)} {Q:Unit->Shared->Prop} (i:d≠o) (r:(o == sysModules)=false)
   (F:s.heap.DictOfH (tupleKind knd) d []) (M:s.heap.DictOfH (tupleKind knd) o xs) (I:(xs.map λ x=>tupleKeyHash knd x.1).Nodup)
   (n:∀ g,(∃ q es v,g.get? d=some q/\q.ExactDict/\q.data = .dict es v/\es.toList=xs.map (entryOfKey (tupleKind knd))/\(xs.map (·.1)).Nodup)->Heap.SameBut d s.heap g->Q () { s with heap:=g }) (hsz:xs.length<=sizeLine) :
   wpAny (model prog w) A (Builtin.Dict.mergeDict O d o) Q E s:=by
 obtain ⟨R,b,a,Y,X,S,j,t,J⟩:=id F;obtain ⟨T,N,B,c,D,G,H,p,y⟩:=id M;have m:b=#[]:=by
   grind
 have h:N.size=xs.length:=by
   have:=acJ List.length H;simpa using this
 unfold Builtin.Dict.mergeDict;rw [abC (by simpa using i)];unfold Builtin.Dict.showsAll;rw [abC (by rw [r];exact aa3)];refine aam (aaW ?_);refine aam (afm c G ?_);dsimp only;cases xs with
 | nil =>
   have C:N=#[]:=by
     grind
   subst C;have f:=by
     have:=n s.heap ⟨R,b,a,Y,X,S,j,y⟩ (Heap.SameBut.refl _ _);exact this
   split
   . rename_i k
     exact absurd k (by simp)
   . refine aam (wpAny_dictEpoch c G ?_);refine aam (afm c G ?_);refine aam ?_;rw [Std.Legacy.Range.forIn_eq_forIn_range'];exact aaW (aaW f)
 | cons x xs =>
   have k:(decide (N.size<=8) && N.all λ e=>(keyPart e.key).isSome)=false:=by
     obtain ⟨l⟩:=N;have u:=H;subst u;have:keyPart (entryOfKey (tupleKind knd) x).key=none:=rfl;simp [this]
   rw [k];refine aam (afm Y S ?_);rw [m];refine aam (mM c G H p I ?_);have L:N.isEmpty=false:=by
     rw [Array.isEmpty_eq_false_iff];intro z;rw [z] at h;simp at h
   rw [L];refine aam (wpAny_updateDictKeysTo Y S (aaW (n _ ⟨_,_,a+1,aer _ Y (Obj.isFreed_of_dict (Obj.data_mapDictKeys S _)),X.mapDictKeys _,Obj.data_mapDictKeys S _,H,y⟩ (af2 ..))) (by rw [h];lia))
theorem xE {o:ak} {xs:List (List K×ak×ay)} {Q:ay->Shared->Prop} (j:(o == sysModules)=false) (f:s.heap.DictOfH (tupleKind knd) o xs) (hsz:xs.length<=sizeLine) (t:(xs.map λ x=>tupleKeyHash knd x.1).Nodup)
   (h:∀ H,(∃ q es k,H.get? s.heap.objs.size=some q/\q.ExactDict/\q.data = .dict es k/\es.toList=xs.map (entryOfKey (tupleKind knd))/\(xs.map (·.1)).Nodup)->Heap.SameBut s.heap.objs.size (s.heap.push { cls:=.type "dict",data:=.dict #[]}) H->Q (.ref s.heap.objs.size) { s with heap:=H }) :
   wpAny (model prog w) A (call (.type "dict") [.ref o]) Q E s:=by
 refine callType_codes (Q₁:=λ O S=>O = .ref s.heap.objs.size/\S={ s with heap:=s.heap.push { cls:=.type "dict",data:=.dict #[]}}) F.kt_called_dict (F.kt_typeCall_dict_1 _) F.entry_dict_init (kt_code_dict_new _ ⟨rfl,rfl⟩) ?_;rintro O S ⟨rfl,rfl⟩;have z:(s.heap.push { cls:=.type "dict",data:=.dict #[]}).DictOfH (tupleKind knd) s.heap.objs.size []:=Heap.DictOfH.new s.heap;have C:(s.heap.push { cls:=.type "dict",data:=.dict #[]}).DictOfH (tupleKind knd) o xs:=by
   obtain ⟨v,N,a,i,b,G,g,p,Y⟩:=id f;exact ⟨v,N,a,aaF _ i,b,G,g,λ x u=>(let ⟨q,I,n,l,m⟩:=p x u;⟨q,I,n,aaF _ l,m⟩),Y⟩
 have c:s.heap.objs.size≠o:=by
   obtain ⟨Z,Z,Z,r,Z⟩:=f;exact λ e=>absurd (aba r) (by rw [e];exact adB _)
 refine ⟨z.typeIs,F.args_dict_init_2 _ _,?_⟩;refine aam ?_;refine aam (wpAny_notOrdered_dict z.typeIs ?_);refine aaW ?_;show wpAny _ _ (Builtin.Dict.updateFrom "dict.__init__" s.heap.objs.size (.ref o) [] .none) _ _ _;refine aam (wpAny_typeOf C.typeIs ?_);refine aam ?_;refine aam ?_;refine aam (agq C.typeIs isSubtype_dict_dict ?_);refine aam (afB C.typeIs F.slot_dict_iter.lookup (aaW ?_));refine sU (hsz:=hsz) c j z C t λ H T d=>?_;exact aam (aaW (aaW ⟨rfl,h H T d⟩))
end
end PySem
namespace L2
open PySem PySem.Spec PyProof.Rows Mth
variable {elt iter tg:Expr} {g:TG} {ifs:List Expr} {py Mm:Pos} {te:TE} {yi:Nat}
section
variable {X:Cx} {pins:List (ak×Obj)} {U:St} {H:Hp} {s:Shared} {a:ak} {aG:List (List Key×V)} {A:Around} {E:ay->Shared->Prop}
theorem GF {Q:ay->Shared->Prop} (I:Inv X pins U H s) (e:Rd H a (.dT aG)) (g:(aG.map λ k=>tupleKeyHash (dA X.prog X.w) k.1).Nodup) (h:∀ p s',H p=none->Inv X pins U (upd H p (.dT aG)) s'->Q (.ref p) s'):wpAny (model X.prog X.w) A (call (.type "dict") [.ref a]) Q E s:=by
 obtain ⟨z,m,l,R,d⟩:=Fs I.eB e;have o:l.map (λ x=>tupleKeyHash (dA X.prog X.w) x.1)=aG.map λ k=>tupleKeyHash (dA X.prog X.w) k.1:=by
   clear d z g h e;induction R with
   | nil=>rfl
   | cons r _ t=>rw [ab8,ab8,t,r.1]
 refine xE m d (by rw [<- aef R];exact z) (by rw [o];exact g) λ u L n=>?_;have i:=I.eB.fresh (aaE _);refine h _ _ i (I.laid (λ b q j=>?_) (aaE _) ⟨z,aeW.mpr (aeg (abN I.big)),l,R.keeps λ c y f=>?_,L⟩)
 . exact (n.2 b (abN (aba j))).trans (aaF _ j)
 . rw [aw (ax f i)];exact f
end
theorem xS {X:Cx}:im X (.type "dict") (λ xs H Q=>∃ p a,xs=[.ref p]/\H p=some (.dT a)/\(a.map λ k=>tupleKeyHash (dA X.prog X.w) k.1).Nodup/\∀ l,H l=none->Q (.ref l) (upd H l (.dT a))):=by
 intro b s U H xs f Q I r h;obtain ⟨p,a,rfl,e,c,q⟩:=h;obtain ⟨u,rfl,R⟩:=vals1 r;cases R;exact GF I (.inl e) c λ l S d i=>⟨.ref l,_,i,rfl,q l d⟩
theorem FN:bootBuiltins "dict" = some (.type "dict"):=by decide +kernel
section
variable {X:Cx}
theorem Mr {y:Str} {S:Scope} {p:Pos} {w:TI} {t:TT} {n:d9} {f:Nat} {sl:aH} (O:X.calm=true) (Y:PI X tg iter w) (V:∀ cl C s H ex,PG (c6 X n S cl C s H ex) tg g) (ht:∀ cl C s H ex,On (c6 X n S cl C s H ex) ifs t) (Q:∀ cl C s H ex,PE (c6 X n S cl C s H ex) elt te) (W:n.length=f+sl.length) (T:∀ k j:Nat,sl[k]?=some j->∃ x,n[f+k]?=some x/\X.N[j]?=some x/\S.names.lookup x=some .free) (hk:S.kind = .function) (jm:∀ y∈S.names,y.2 ≠ .cell) (lV:∀ y∈S.names,y.2 = .local->S.names.lookup y.1=some .local) (lK:∀ y∈S.names,y.2 = .free->X.env.kindOf y.1=some .cell\/X.env.kindOf y.1=some .free) (K:X.N.Nodup) (B:X.N[yi]?=some y) (hy:Loc X.env.scope y) (R:X.fn y=true\/X.env.scope.names.lookup y=some .local) (D:swapsWith (.ListComp elt [⟨tg,iter,ifs,0⟩] S p) (some (.Name y py)) Mm.line X.env=pure true) (hs:∀ x,foldedSetIterable iter X.env x=pure x:=by intro Z;rfl) :
   PS X (.Assign [.Name y py] (.ListComp elt [⟨tg,iter,ifs,0⟩] S p) Mm) (J8 (Cm w g t te f sl) (vG yi)):=by
 intro l s U H DD I h;rw [exec_Assign_Name_used _ _ _ _ D];refine aam (af5 (aam ?_));refine aam (adE (yM O Y V ht Q W T hk jm lV lK hs I h λ s6 u d c m J F hn q=>wpAny_assign_Name (yq (v:=.ref d) J K B hy rfl (λ s7 A ⟨a,i,L⟩=>?_) R))
   (λ Z s' hq=>aaW (aaW hq)) λ Z Z e=>e)
 have na:c≠a:=λ z=>by
   rcases L with q|q
   . exact F.2.1 (z.trans q)
   . exact F.2.2.2.2.1 _ a q z.symm
 refine ⟨m,?_,λ h' sb=>?_⟩
 . obtain ⟨o,G,E,ho,r⟩:=hn;exact ⟨o,G,E,(i.2 _ na).trans ho,r⟩
 . exact ⟨_,u,A.turned (λ b Z M q=>(sb.2 b M).trans q) F.1 F.2.1 F.2.2.2.1 F.2.2.2.2.1 F.2.2.2.2.2,q⟩
theorem mQ {y:Str} {S:Scope} {p:Pos} {w:TI} {l:TT} (T f:d9) (sl:aH) (a:Paired (λ (j:Nat) (x:Str)=>X.N[j]?=some x/\S.names.lookup x=some .free/\(X.env.kindOf x=some .cell\/X.env.kindOf x=some .free)) sl f) (u:X.calm=true) (B:PI X tg iter w) (A:∀ cl C s H ex,PG (c6 X (T++f) S cl C s H ex) tg g) (G:∀ cl C s H ex,On (c6 X (T++f) S cl C s H ex) ifs l) (v:∀ cl C s H ex,PE (c6 X (T++f) S cl C s H ex) elt te) (q:X.N.Nodup) (d:Loc X.env.scope y) (D:autoParam (S.kind = .function) za_._auto_1) (J:autoParam (∀ y∈S.names,y.2 ≠ .cell) zc_._auto_1) (I:autoParam (∀ y∈S.names,y.2 = .local->S.names.lookup y.1=some .local) zc_._auto_1) (L:autoParam (∀ y∈S.names,y.2 = .free->y.1∈f) zc_._auto_1) (m:autoParam (X.N[yi]?=some y) za_._auto_1) (n:autoParam (swapsWith (.ListComp elt [⟨tg,iter,ifs,0⟩] S p) (some (.Name y py)) Mm.line X.env=pure true) za_._auto_1) (b:autoParam (X.fn y=true\/X.env.scope.names.lookup y=some .local) zd_._auto_1) (F:∀ x,foldedSetIterable iter X.env x=pure x:=by intro Z;rfl) :
   PS X (.Assign [.Name y py] (.ListComp elt [⟨tg,iter,ifs,0⟩] S p) Mm) (J8 (Cm w g l te T.length sl) (vG yi)):=by
 have K:∀ {sl:aH} {f:d9},Paired (λ j x=>X.N[j]?=some x/\S.names.lookup x=some .free/\(X.env.kindOf x=some .cell\/X.env.kindOf x=some .free)) sl f ->
     (∀ k j:Nat,sl[k]?=some j->∃ x,f[k]?=some x/\X.N[j]?=some x/\S.names.lookup x=some .free)/\∀ x∈f,X.env.kindOf x=some .cell\/X.env.kindOf x=some .free:=by
   intro sl f a;induction a with
   | nil=>exact ⟨λ k j h=>by simp at h,λ x c=>by simp at c⟩
   | cons r t i =>
     refine ⟨λ k j h=>?_,λ x c=>?_⟩
     . cases k with
       | zero =>
         have e:=abb h;subst e;exact ⟨_,rfl,r.1,r.2.1⟩
       | succ k=>exact i.1 k j (by simpa using h)
     . rcases aay.mp c with z|z
       . rw [z];exact r.2.2
       . exact i.2 x z
 refine Mr u B A G v (by rw [aas,a.length]) (λ k j h=>?_) D J I (λ y d b=>(K a).2 _ (L y d b)) q m d b n F;obtain ⟨x,E,o⟩:=(K a).1 k j h;exact ⟨x,by rw [abM (aed _ _),agu];exact E,o⟩
end
abbrev bZ:=Int×Int
structure am where
 most:Int
 eO:Int
 load:Int
 rows:List (List bZ)
 de:Int->Int->Option bZ
 bf:List (bZ×bZ×bZ)
 aI:List (Option (bZ×Int×Int×Int))
noncomputable abbrev uJ (s:bZ×bZ×bZ):PyData:=.tuple [fM s.1,fM s.2.1,fM s.2.2]
noncomputable abbrev j6:Option (bZ×Int×Int×Int)->PyData
 | none => .none
 | some s => .tuple [fM s.1,.int s.2.1,.int s.2.2.1,.int s.2.2.2]
noncomputable abbrev Cp (r:List bZ):PyData:=.tuple (r.map fM)
noncomputable def oP (m:am) (a p b c:ak):List (Str×V) :=
 [("most",.int m.most),("cap",.int m.eO),("load",.int m.load),("mark_rows",.ref a),("flows",.ref p),("skies",.ref b),("stoves",.ref c)]
section
variable (m:am) (pm pf ps pt:ak)
theorem nc:(oP m pm pf ps pt).lookup ("most" : Str)=some (.int m.most):=by rfl
theorem vc:(oP m pm pf ps pt).lookup ("cap" : Str)=some (.int m.eO):=by rfl
theorem ww:(oP m pm pf ps pt).lookup ("load" : Str)=some (.int m.load):=by rfl
theorem rE:(oP m pm pf ps pt).lookup ("mark_rows" : Str)=some (.ref pm):=by rfl
theorem oQ:(oP m pm pf ps pt).lookup ("flows" : Str)=some (.ref pf):=by rfl
theorem jR:(oP m pm pf ps pt).lookup ("skies" : Str)=some (.ref ps):=by rfl
theorem mB:(oP m pm pf ps pt).lookup ("stoves" : Str)=some (.ref pt):=by rfl
end
def qg (K:aF) (H:Hp):Option bZ->eU->Prop
 | none,none=>True
 | some f,some v=>Dn K H (fM f) v
 | _,_=>False
noncomputable abbrev my (i j:Int):List Key:=[.inl i,.inl j]
def tX (a:List (List Key×V)):Prop:=(a.map (·.1)).Nodup/\∀ p∈a,∃ i j:Nat,i<4/\j<4/\p.1=my i j
end L2
namespace Mth
noncomputable def nf (t b:Int):Int×Int:=(t.fdiv (Int.gcd t b:Nat),b.fdiv (Int.gcd t b:Nat))
theorem ve {r q s:Int} (h:r ∣ q * s) (c:Int.gcd q r=1):r ∣ s:=by
 have H:r.natAbs ∣ q.natAbs * s.natAbs:=by rw [<- ae2];exact agN.mpr h
 have a:Nat.Coprime r.natAbs q.natAbs:=by rw [Nat.coprime_comm];exact c
 exact agN.mp (Nat.Coprime.dvd_of_dvd_mul_left a H)
theorem Fr.uniq {t b q r Q r':Int} (H:b≠0) (h:Fr t b q r) (k:Fr t b Q r'):q=Q/\r=r':=by
 have e:=by
   have E:=by
     calc (q * r') * b=(q * b) * r':=by rw [afF]
       _=(t * r) * r':=by rw [h.yK]
       _=(t * r') * r:=by rw [afF]
       _=(Q * b) * r:=by rw [k.yK]
       _=(Q * r) * b:=by rw [afF]
   exact aem H E
 have d:=by
   have:r ∣ q * r':=⟨Q,by rw [e,afX]⟩
   exact ve this h.Yk
 have D:=by
   have:r' ∣ Q * r:=⟨q,by rw [<- e,afX]⟩
   exact ve this k.Yk
 have a:=Int.dvd_antisymm (ady h.pos) (ady k.pos) d D;subst a;exact ⟨aem (aeO h.pos) e,rfl⟩
theorem jf {t b:Int} (h:0<b):Fr t b (nf t b).1 (nf t b).2:=(KI (aeO h) rfl).2.2.1 h
theorem Fr.nf {t b q r:Int} (H:0<b) (h:Fr t b q r):(q,r)=nf t b:=by
 obtain ⟨e,E⟩:=h.uniq (aeO H) (jf H);rw [e,E]
def pA (x y:Int×Int):Int×Int:=nf (x.1 * y.2+y.1 * x.2) (x.2 * y.2)
def lZ (x y:Int×Int):Int×Int:=nf (x.1 * y.2 - y.1 * x.2) (x.2 * y.2)
noncomputable def bW (x y:Int×Int):Bool:=decide (x.1 * y.2<y.1 * x.2)
structure eX (n:Nat) (f:Int×Int):Prop where
 t:Bd n f.1
 b:Bd n f.2
 p:0<f.2
theorem eX.mono {m n:Nat} {f:Int×Int} (h:eX m f) (l:m<=n):eX n f:=⟨h.t.mono l,h.b.mono l,h.p⟩
theorem eX.minus {m n:Nat} {x y:Int×Int} (h:eX m x) (k:eX n y):eX (m+n+1) (lZ x y):=by
 have F:=jf (t:=x.1 * y.2 - y.1 * x.2) (adf h.p k.p);have B:Bd (m+n) (y.1 * x.2):=by rw [afp];exact k.t.mul h.b
 exact ⟨F.Ra ((h.t.mul k.b).sub B),F.RC ((h.b.mul k.b).mono (aei _)),F.pos⟩
theorem eX.plus {m n:Nat} {x y:Int×Int} (h:eX m x) (k:eX n y):eX (m+n+1) (pA x y):=by
 have F:=jf (t:=x.1 * y.2+y.1 * x.2) (adf h.p k.p);have B:Bd (m+n) (y.1 * x.2):=by rw [afp];exact k.t.mul h.b
 exact ⟨F.Ra ((h.t.mul k.b).add B),F.RC ((h.b.mul k.b).mono (aei _)),F.pos⟩
theorem JC:eX 100 (0,1):=⟨(by decide:(_:Int).natAbs<_),(by decide:(_:Int).natAbs<_),by decide⟩
theorem EK:eX 100 (1,1):=⟨(by decide:(_:Int).natAbs<_),(by decide:(_:Int).natAbs<_),by decide⟩
end Mth
namespace L2
open PySem PySem.Spec PyProof.Rows Mth
variable {H H':Hp} {o u:HO}
structure am.Wf (m:am):Prop where
 rows:∀ r∈m.rows,∀ f∈r,eX 100 f
 len:∀ r∈m.rows,2<=r.length/\r.length<=7
 de:∀ i j f,m.de i j=some f->eX 100 f
 bf:∀ s∈m.bf,eX 100 s.1/\eX 100 s.2.1/\eX 100 s.2.2
 aI:∀ x,some x∈m.aI->eX 100 x.1
structure aN (K:aF) (C:ak) (H:Hp) (a:ak) (fp:bp) (m:am):Prop where
 ex:∃ dx pm pf ps pt vm vs vt aG,fp=[a,dx,pm,pf,ps,pt]/\H a=some (.ins C dx (oP m pm pf ps pt))/\H dx=some (.own a)/\H pm=some (.lst vm)/\H pf=some (.dT aG)/\H ps=some (.lst vs)/\H pt=some (.lst vt) /\
   pm≠ps/\pm≠pt/\ps≠pt/\bP K H (m.rows.map Cp) vm/\bP K H (m.bf.map uJ) vs/\bP K H (m.aI.map j6) vt/\(∀ i j,qg K H (m.de i j) (iN aG (my i j)))/\tX aG
 sk:m.bf.length=m.rows.length
 st:m.aI.length=m.rows.length
 mx:m.rows.length<=4
 wf:m.Wf
def iw (f:bp) (H h:Hp):Prop:=∀ b o,H b=some o->b∉f->h b=some o
noncomputable def am.cG (m:am) (i j:Nat):bZ:=(m.de i j).getD (0,1)
noncomputable def am.dU (m:am) (i:Nat):bZ:=((m.bf[i]?).map (·.1)).getD (0,1)
def am.gX (m:am) (i n:Nat):bZ:=(List.range n).foldl (λ a j=>lZ a (m.cG i j)) (lZ (1,1) (m.dU i))
def am.own (m:am) (i:Nat):bZ:=m.gX i m.rows.length
def am.share (m:am) (i j:Nat):bZ:=if i=j then m.own i else m.cG i j
theorem am.Wf.cG {m:am} (w:m.Wf) (i j:Nat):eX 100 (m.cG i j):=by
 unfold am.cG;cases e:m.de i j with
 | none=>exact JC
 | some f=>exact w.de i j f e
theorem am.Wf.dU {m:am} (w:m.Wf) (i:Nat):eX 100 (m.dU i):=by
 unfold am.dU;cases e:m.bf[i]? with
 | none=>exact JC
 | some f=>exact (w.bf f (aae e)).1
theorem am.pW (m:am) (i n:Nat):m.gX i (n+1)=lZ (m.gX i n) (m.cG i n):=by
 unfold am.gX;rw [ab6,adl];rfl
theorem am.Wf.gX {m:am} (w:m.Wf) (i:Nat):∀ n,eX (201+101 * n) (m.gX i n)
 | 0=>(EK.minus (w.dU i)).mono (by decide)
 | n+1=>by
   rw [am.pW];exact ((w.gX i n).minus (w.cG i n)).mono (by lia)
section
variable {K:aF} {H:Hp} {v:V}
theorem Dn.mX {s:bZ×bZ×bZ} (h:Dn K H (uJ s) v):∃ p V a v3,v = .ref p/\cw K H p [V,a,v3]/\Dn K H (fM s.1) V/\Dn K H (fM s.2.1) a/\Dn K H (fM s.2.2) v3:=by
 obtain ⟨p,k,e,q,x,r,E,d,X,R,c,D,i,j,f,b,g⟩:=h;subst E c f g;exact ⟨p,x,X,i,e,q,d,D,b⟩
theorem J9 {s:bZ×bZ×bZ} {p:ak} {v a b:V} (q:cw K H p [v,a,b]) (d:Dn K H (fM s.1) v) (D:Dn K H (fM s.2.1) a) (c:Dn K H (fM s.2.2) b):Dn K H (uJ s) (.ref p) :=
 jw q (bI d (bI D (bI c eP)))
theorem vH (s:bZ×bZ×bZ):f7 (uJ s)=true:=by simp [uJ,fM,f7]
theorem vJ (s:Option (bZ×Int×Int×Int)):f7 (j6 s)=true:=by cases s<;>simp [j6,fM,f7]
theorem BY (r:List bZ):f7 (Cp r)=true:=nQ.mpr λ d h=>by
 obtain ⟨f,Z,rfl⟩:=abv.mp h;exact i8 f
theorem DA.fr {a:ak} {f:bZ} (h:DA K a [.int f.1,.int f.2]):Dn K H (fM f) (.ref a):=n9 (h.at H)
end
theorem aK {a:Type} {l:List a} {i:Nat} (h:i<l.length):l[i]?=some l[i]:=UY h
theorem ir {a:Type} {xs:List a} {i:Nat} {v:a} (h:xs[i]?=some v):uS xs (i:Int)=some v:=bC h
theorem Fv {K:aF} {o:Option bZ} {r:eU} {z:V} (h:qg K H o r) (a:Dn K H (fM (0,1)) z):Dn K H (fM (o.getD (0,1))) (r.getD z):=by
 cases o with
 | none=>cases r with
   | none=>exact a
   | some v=>exact (show False from h).elim
 | some f=>cases r with
   | none=>exact (show False from h).elim
   | some v=>exact h
inductive LK  (vs:aB) (H:Hp) (Q:VK) (_E:XK):Prop
 | mk (n g:Int) (_:vs=[.int n,.int g]) (_:Q (.bl (decide (0<=n/\n<=g))) H)
section
variable (K:aF) (C:ak)
inductive Mh  (vs:aB) (H:Hp) (Q:VK) (_E:XK):Prop
 | mk (a fp m:_) (_:vs=[.ref a]) (_:aN K C H a fp m) (_:Q (aq m.rows.length) H)
inductive BD  (vs:aB) (H:Hp) (Q:VK) (_E:XK):Prop
 | mk (a fp m:_) (i:Nat) (_:vs=[.ref a,aq i]) (_:aN K C H a fp m) (_:i<m.rows.length) (_:Q .cN H)
inductive QQ  (vs:aB) (H:Hp) (Q:VK) (_E:XK):Prop
 | mk (a fp m:_) (i:Nat) (s:_) (_:vs=[.ref a,aq i]) (_:aN K C H a fp m) (_:m.bf[i]?=some s) (_:∀ v,Dn K H (uJ s) v->Q v H)
inductive IY  (vs:aB) (H:Hp) (Q:VK) (_E:XK):Prop
 | mk (a fp m:_) (i:Nat) (s:_) (_:vs=[.ref a,aq i]) (_:aN K C H a fp m) (_:m.aI[i]?=some s) (_:∀ v,Dn K H (j6 s) v->Q v H)
inductive ID  (vs:aB) (H:Hp) (Q:VK) (_E:XK):Prop
 | mk (a fp m:_) (i:Nat) (r:_) (_:vs=[.ref a,aq i]) (_:aN K C H a fp m) (_:m.rows[i]?=some r) (_:∀ p xs,H p=none->bP K H (r.map fM) xs->Q (.ref p) (upd H p (.lst xs)))
inductive QY  (vs:aB) (H:Hp) (Q:VK) (_E:XK):Prop
 | mk (a fp m:_) (i:Nat) (_:vs=[.ref a,aq i]) (_:aN K C H a fp m) (_:i<m.rows.length) (_:∀ v H',aE H H'->Dn K H' (fM (m.own i)) v->Q v H')
inductive IK  (vs:aB) (H:Hp) (Q:VK) (_E:XK):Prop
 | mk (a fp m:_) (i j:Nat) (_:vs=[.ref a,aq i,aq j]) (_:aN K C H a fp m) (_:i<m.rows.length) (_:j<m.rows.length) (_:∀ v H',aE H H'->Dn K H' (fM (m.share i j)) v->Q v H')
end
theorem aN.same {K:aF} {C:ak} {a:ak} {f:bp} {m:am} (s:aE H H') (h:aN K C H a f m):aN K C H' a f m:=by
 obtain ⟨⟨g,t,r,u,v,V,z,vt,A,e,k,n,I,R,J,l,N,o,p,D,b,c,d,F⟩,Q,w,x,y⟩:=h;refine ⟨⟨g,t,r,u,v,V,z,vt,A,e,s _ _ k,s _ _ n,s _ _ I,s _ _ R,s _ _ J,s _ _ l,N,o,p,bP.same s _ D,bP.same s _ b,bP.same s _ c,λ i j=>?_,F⟩,Q,w,x,y⟩;have:=d i j
 revert this
 cases m.de i j<;>cases iN A (my i j)<;>intro q
 . exact q
 . exact q
 . exact q
 . exact Dn.same s _ q
theorem mF {n i:Nat} (h:i<n):Ik n (i:Int)=some i:=by
 unfold Ik;rw [abp (by lia),abp (by lia),acM]
theorem Ri {x y z t:V}:[x,y,z,t].length<=sizeLine:=by show 4<=sizeLine;decide
theorem Fn {x:V}:[x].length<=sizeLine:=by show 1<=sizeLine;decide
theorem lC {b:Type} [DecidableEq b]:∀ (l L:List b),l.Nodup->(∀ x∈l,x∈L)->l.length<=L.length
 | [],_,_,_=>ab2 _
 | x::l,L,f,h=>by
   obtain ⟨c,d⟩:=ab3.mp f;have H:=h x aaZ;have:=lC l (L.erase x) d λ y a=>(List.mem_erase_of_ne (λ e=>c (by rw [<- e];exact a))).mpr (h y (aaB _ a));rw [List.length_erase_of_mem H] at this;have g:=List.length_pos_of_mem H;rw [ac8];lia
def M8:List (List Key):=(List.range 4).flatMap λ (i:Nat)=>(List.range 4).map λ (j:Nat)=>my (i:Int) (j:Int)
theorem tX.len {a:List (List Key×V)} (h:tX a):a.length<=16:=by
 have:=lC (a.map (·.1)) M8 h.1 λ x d=>by
   obtain ⟨p,c,rfl⟩:=abv.mp d;obtain ⟨i,j,H,b,e⟩:=h.2 p c;rw [e];exact adS.mpr ⟨i,aaK.mpr H,abv.mpr ⟨j,aaK.mpr b,rfl⟩⟩
 rw [Ea] at this;exact aaX this (by decide)
theorem tX.put {A:List (List Key×V)} (h:tX A) {i j:Nat} (g:i<4) (l:j<4) (v:V):tX (putK A (my i j) v):=by
 refine ⟨?_,λ p H=>?_⟩
 .
  cases e:iN A (my i j) with
  | none=>exact L3 v h.1 e
  | some y =>
    have f:=by
      unfold iN at e;cases q:A.find? λ k=>decide (k.1=my i j) with
      | none=>rw [q] at e;cases e
      | some z=>exact adF.mpr ⟨z,agh q,List.find?_some q⟩
    unfold putK;rw [abp f,ac5];have:((λ x:List Key×V=>x.1) ∘ λ k:List Key×V=>if k.1=my i j then (k.1,v) else k)=λ x=>x.1:=by
      funext x;show (if x.1=my i j then (x.1,v) else x).1=x.1;split<;>rfl
    rw [this];exact h.1
 .
  unfold putK at H;split at H
  . obtain ⟨z,m,rfl⟩:=abv.mp H;obtain ⟨a,b,c,d,e⟩:=h.2 z m;refine ⟨a,b,c,d,?_⟩;split<;>exact e
  .
   rcases aaU.mp H with H|H
   . exact h.2 p H
   . have:=by simpa using H
     subst this;exact ⟨i,j,g,l,rfl⟩
theorem Kl {i j I J:Int} (h:my i j=my I J):i=I/\j=J:=by
 lia
def am.cK (m:am) (i j:Nat) (f:bZ):am:={ m with de:=λ a b=>if a=(i:Int)/\b=(j:Int) then some f else m.de a b }
def am.cX (m:am) (i:Nat) (s:bZ×bZ×bZ):am:={ m with bf:=m.bf.set i s }
def am.bD (m:am) (i:Nat) (s:bZ×Int×Int×Int):am:={ m with aI:=m.aI.set i (some s)}
def am.c8 (m:am) (r:List bZ):am:={ m with rows:=m.rows++[r],bf:=m.bf++[((0,1),(0,1),(0,1))],aI:=m.aI++[none]}
noncomputable def am.new (most eO load:Int):am:=⟨most,eO,load,[],λ Z Z=>none,[],[]⟩
structure uH (K:aF) (C:ak) (H:Hp) (a:ak) (fp:bp) (m':am) (H':Hp) (pI:bp):Prop where
 at_:aN K C H' a pI m'
 but:iw fp H H'
 ts:aZ K H H'
 own:∀ b∈pI,b∈fp\/H b=none
theorem qg.ts {K:aF} (s:aZ K H H'):∀ {o:Option bZ} {v:eU},qg K H o v->qg K H' o v
 | none,none,_=>trivial
 | some f,some v,h=>Dn.ts s _ (i8 f) h
 | none,some _,h=>h
 | some _,none,h=>h
theorem mJ {K:aF} {R:List (List bZ)} {xs:aB} (s:aZ K H H') (h:bP K H (R.map Cp) xs):bP K H' (R.map Cp) xs:=bP.ts s _ (λ d a=>by obtain ⟨r,Z,rfl⟩:=abv.mp a;exact BY r) h
theorem j3 {K:aF} {R:List (bZ×bZ×bZ)} {xs:aB} (s:aZ K H H') (h:bP K H (R.map uJ) xs):bP K H' (R.map uJ) xs:=bP.ts s _ (λ d a=>by obtain ⟨r,Z,rfl⟩:=abv.mp a;exact vH r) h
theorem iT {K:aF} {R:List (Option (bZ×Int×Int×Int))} {xs:aB} (s:aZ K H H') (h:bP K H (R.map j6) xs):bP K H' (R.map j6) xs:=bP.ts s _ (λ d a=>by obtain ⟨r,Z,rfl⟩:=abv.mp a;exact vJ r) h
def jJ (r:List bZ):Bool:=(List.zipWith bW r r.tail).all id
noncomputable def hU (R:List (List bZ)):Int:=R.foldl (λ p r=>p * ((r.length:Int) - 1)) 1
section
variable (K:aF) (C:ak)
inductive Ma  (vs:aB) (H:Hp) (Q:VK) (_E:XK):Prop
 | mk (a fp m:_) (i:Nat) (v1 v2 f g:_) (_:vs=[.ref a,aq i,v1,v2]) (_:aN K C H a fp m) (_:i<m.rows.length) (_:Dn K H (fM f) v1) (_:Dn K H (fM g) v2) (_:eX 100 f) (_:eX 100 g) (_:0<=f.1) (_:bW (pA (m.own i) g) f=false) (_:∀ H',aE H H'->Q .cN H')
inductive CI  (vs:aB) (H:Hp) (Q:VK) (_E:XK):Prop
 | mk (a fp m:_) (i j:Nat) (v f:_) (_:vs=[.ref a,aq i,aq j,v]) (_:aN K C H a fp m) (_:i<m.rows.length) (_:j<m.rows.length) (_:i≠j) (_:Dn K H (fM f) v) (_:eX 100 f) (_:0<=f.1) (_:bW (pA (m.own i) (m.cG i j)) f=false) (_:∀ H' pI,uH K C H a fp (m.cK i j f) H' pI->Q .cN H')
inductive EE  (vs:aB) (H:Hp) (Q:VK) (_E:XK):Prop
 | mk (a fp m:_) (i:Nat) (v1 v2 v3 f lo hi:_) (_:vs=[.ref a,aq i,v1,v2,v3]) (_:aN K C H a fp m) (_:i<m.rows.length) (_:Dn K H (fM f) v1) (_:Dn K H (fM lo) v2) (_:Dn K H (fM hi) v3) (_:eX 100 f) (_:eX 100 lo) (_:eX 100 hi) (_:bW hi lo=false) (_:0<=f.1) (_:bW (pA (m.own i) (m.dU i)) f=false) (_:∀ H' pI,uH K C H a fp (m.cX i (f,lo,hi)) H' pI->Q .cN H')
inductive rL  (vs:aB) (H:Hp) (Q:VK) (_E:XK):Prop
 | mk (a fp m:_) (i:Nat) (v f:_) (w st fl:Int) (_:vs=[.ref a,aq i,v,.int w,.int st,.int fl]) (_:aN K C H a fp m) (_:i<m.rows.length) (_:Dn K H (fM f) v) (_:eX 100 f) (_:0<=f.1) (_:(0<=w/\w<=9)) (_:(0<=st/\st<=3)) (_:(0<=fl/\fl<=3)) (_:∀ H' pI,uH K C H a fp (m.bD i (f,w,st,fl)) H' pI->Q .cN H')
inductive GV  (vs:aB) (H:Hp) (Q:VK) (_E:XK):Prop
 | mk (p xs r:_) (_:vs=[.ref p]) (_:aW K H p xs) (_:bP K H (r.map fM) xs) (_:(∀ f∈r,eX 100 f)) (_:r.length<=7) (_:∀ H',aE H H'->Q (.bl (jJ r)) H')
inductive J4  (vs:aB) (H:Hp) (Q:VK) (_E:XK):Prop
 | mk (p xs rs:_) (_:vs=[.ref p]) (_:aW K H p xs) (_:bP K H (rs.map Cp) xs) (_:rs.length<=5) (_:(∀ r∈rs,1<=r.length/\r.length<=7)) (_:Q (.int (hU rs)) H)
inductive BF  (vs:aB) (H:Hp) (Q:VK) (_E:XK):Prop
 | mk (a fp m p xs r:_) (_:vs=[.ref a,.ref p]) (_:aN K C H a fp m) (_:m.rows.length<4) (_:aW K H p xs) (_:bP K H (r.map fM) xs) (_:(∀ f∈r,eX 100 f)) (_:2<=r.length) (_:r.length<=7) (_:jJ r=true) (_:hU (m.rows++[r])<=400) (_:∀ H' pI,uH K C H a fp (m.c8 r) H' pI->Q (aq m.rows.length) H')
inductive Gc  (vs:aB) (H:Hp) (Q:VK) (_E:XK):Prop
 | mk (x dx:_) (most eO load:Int) (_:vs=[.ref x,.int most,.int eO,.int load]) (_:H x=some (.ins C dx [])) (_:H dx=some (.own x)) (_:(0<=most/\most<=4)) (_:(0<=eO/\eO<=30)) (_:(0<=load/\load<=30)) (_:∀ H' pI,uH K C H x [x,dx] (am.new most eO load) H' pI->Q .cN H')
end
theorem fC {a b:ak} (h:H a=some o) (k:H b=some u) (n:o≠u):a≠b:=λ e=>by
 lia
theorem rm {m:am} {C dx F a p b c I A u x:ak} (h:some (HO.ins C dx (oP m a p b c))=some (HO.ins C F (oP m I A u x))):dx=F/\a=I/\p=A/\b=u/\c=x:=by
 simp only [oP,Option.some.injEq,HO.ins.injEq,List.cons.injEq,Prod.mk.injEq,ag0,and_true,V.ref.injEq] at h;exact h
theorem iw.same {f:bp} (s:aE H H'):iw f H H':=λ b o h Z=>s b o h
theorem iw.upd {f:bp} {p:ak} (b:iw f H H') (a:p∈f):iw f H (upd H' p o):=λ c u h n=>by
 rw [aw (λ e=>n (by rw [e];exact a))];exact b c u h n
section
variable {K:aF} {C:ak} {H H1:Hp} {a:ak} {fp:bp} {m:am}
theorem HF {dx pm p ps pt:ak} {k:List (List Key×V)} {i j:Nat} {f:bZ} {v:V} (N:aN K C H a fp m) (s:aE H H1) (G:H a=some (.ins C dx (oP m pm p ps pt))) (rA:H p=some (.dT k)) (O:i<4) (R:j<4) (d:Dn K H1 (fM f) v) (o:eX 100 f):uH K C H a fp (m.cK i j f) (upd H1 p (.dT (putK k (my i j) v))) fp:=by
 obtain ⟨⟨F,r,A,uY,xj,vm,vs,vt,M,l,y,X,S,Q,U,W,Y,n2,n3,u,x,B,D,E⟩,q1,q2,q3,q⟩:=N;obtain ⟨rfl,rfl,rfl,rfl,rfl⟩:=rm (y.symm.trans G);obtain rfl:M=k:=by
   simp_all
 have T:aZ K H1 (upd H1 A (.dT (putK M (my i j) v))):=cq (s _ _ Q) rfl;have t:=(aE.ts s).trans T;have w:∀ {b o},H b=some o->o ≠ .dT M->(upd H1 A (.dT (putK M (my i j) v))) b=some o:=λ h n=>by
   rw [aw (fC h Q n)];exact s _ _ h
 refine ⟨⟨⟨F,r,A,uY,xj,vm,vs,vt,putK M (my i j) v,l,w y nofun,w X nofun,w S nofun,af,w U nofun,w W nofun,Y,n2,n3,mJ t u,j3 t x,iT t B,λ I J=>?_,E.put O R v⟩,q1,q2,q3,⟨q.rows,q.len,λ I J g c=>?_,q.bf,q.aI⟩⟩,(iw.same s).upd (by rw [l];simp),t,λ b L => .inl L⟩
 .
  rw [KM];by_cases e:I=i/\J=j
  . show qg K _ (if I=i/\J=j then some f else m.de I J) _;rw [abp e,abp (by rw [e.1,e.2])];exact Dn.ts T _ (i8 f) d
  . show qg K _ (if I=i/\J=j then some f else m.de I J) _;rw [abC e,abC (λ z=>e (Kl z))];exact (D I J).ts t
 .
  have c:(if I=i/\J=j then some f else m.de I J)=some g:=c;split at c
  . cases c;exact o
  . exact q.de I J g c
theorem IW {dx pm X p pt:ak} {vs:aB} {i:Nat} {z:bZ×bZ×bZ} {v:V} (J:aN K C H a fp m) (s:aE H H1) (E:H a=some (.ins C dx (oP m pm X p pt))) (j:H p=some (.lst vs)) (d:Dn K H1 (uJ z) v) (o:eX 100 z.1/\eX 100 z.2.1/\eX 100 z.2.2):uH K C H a fp (m.cX i z) (upd H1 p (.lst (vs.set i v))) fp:=by
 obtain ⟨⟨F,I,f,u,xj,vm,A,vt,U,e,Y,k,O,Q,g,S,N,W,c,l,r,x,D,B⟩,q1,q2,q3,q⟩:=J;obtain ⟨rfl,rfl,rfl,rfl,rfl⟩:=rm (Y.symm.trans E);obtain rfl:A=vs:=by
   lia
 have T:aZ K H1 (upd H1 u (.lst (A.set i v))):=cq (s _ _ g) rfl;have t:=(aE.ts s).trans T;have w:∀ {b o},H b=some o->b≠u->(upd H1 u (.lst (A.set i v))) b=some o:=λ h n=>by
   rw [aw n];exact s _ _ h
 refine ⟨⟨⟨F,I,f,u,xj,vm,A.set i v,vt,U,e,w Y (fC Y j nofun),w k (fC k j nofun),w O N,w Q (fC Q j nofun),af,w S c.symm,N,W,c,mJ t l,?_,iT t x,λ M R=>(D M R).ts t,B⟩,?_,q2,q3,⟨q.rows,q.len,q.de,λ y L=>?_,q.aI⟩⟩,(iw.same s).upd (by rw [e];simp),t,λ b G => .inl G⟩
 . show bP K _ ((m.bf.set i z).map uJ) _;rw [afW];exact bP.set (j3 t r) (Dn.ts T _ (vH z) d)
 . show (m.bf.set i z).length=_;rw [ado];exact q1
 . rcases adY L with h|h
   . exact q.bf y h
   . rw [h];exact o
theorem D0 {dx pm pf ps p:ak} {vt:aB} {i:Nat} {z:bZ×Int×Int×Int} {v:V} (L:aN K C H a fp m) (s:aE H H1) (G:H a=some (.ins C dx (oP m pm pf ps p))) (j:H p=some (.lst vt)) (d:Dn K H1 (j6 (some z)) v) (o:eX 100 z.1):uH K C H a fp (m.bD i z) (upd H1 p (.lst (vt.set i v))) fp:=by
 obtain ⟨⟨F,l,f,uY,x,vm,A,I,W,e,Y,k,S,Q,g,M,X,N,c,r,u,B,D,E⟩,q1,q2,q3,q⟩:=L;obtain ⟨rfl,rfl,rfl,rfl,rfl⟩:=rm (Y.symm.trans G);obtain rfl:I=vt:=by
   lia
 have T:aZ K H1 (upd H1 x (.lst (I.set i v))):=cq (s _ _ M) rfl;have t:=(aE.ts s).trans T;have w:∀ {b o},H b=some o->b≠x->(upd H1 x (.lst (I.set i v))) b=some o:=λ h n=>by
   rw [aw n];exact s _ _ h
 refine ⟨⟨⟨F,l,f,uY,x,vm,A,I.set i v,W,e,w Y (fC Y j nofun),w k (fC k j nofun),w S N,w Q (fC Q j nofun),w g c,af,X,N,c,mJ t r,j3 t u,?_,λ R U=>(D R U).ts t,E⟩,q1,?_,q3,⟨q.rows,q.len,q.de,q.bf,λ y O=>?_⟩⟩,(iw.same s).upd (by rw [e];simp),t,λ b J => .inl J⟩
 . show bP K _ ((m.aI.set i (some z)).map j6) _;rw [afW];exact bP.set (iT t B) (Dn.ts T _ (vJ (some z)) d)
 . show (m.aI.set i (some z)).length=_;rw [ado];exact q2
 . rcases adY O with h|h
   . exact q.aI y h
   . cases h;exact o
end
theorem Kv (xs:aB):Hj xs (some 1) none=xs.tail:=by
 have e:HT.AG xs.length 0 (some 1)=min 1 xs.length:=HT.LV _ _ 1;unfold Hj;rw [HT.IB];cases xs with
 | nil=>rfl
 | cons x l =>
   simp_all
theorem aE.put {D:ak} (s:aE H H') (h:H D=none):aE H (upd H' D o):=λ b u e=>by
 rw [aw (ax e h)];exact s b u e
theorem wj {r:List bZ} {i:Nat} {x y:bZ} (h:r[i]?=some x) (H:r[i+1]?=some y):(List.zipWith bW r r.tail)[i]?=some (bW x y):=by
 rw [List.getElem?_zipWith,h];have:r.tail[i]?=some y:=by rw [ag4];exact H
 rw [this]
section
variable {K:aF} {C:ak} {H H1:Hp} {a:ak} {fp:bp} {m:am}
theorem HX {dx E pf v w p kt q N:ak} {vm vs vt:aB} {r:List bZ} (hh:aN K C H a fp m) (s:aE H H1) (ha:H a=some (.ins C dx (oP m E pf v w))) (iC:H E=some (.lst vm)) (J:H v=some (.lst vs)) (d:H w=some (.lst vt)) (hn:H p=none) (DB:H1 p=some (.lst (vm++[.ref kt]))) (dr:Dn K H1 (Cp r) (.ref kt)) (lN:m.rows.length<4) (hr:∀ f∈r,eX 100 f) (hl:2<=r.length/\r.length<=7) (dN:∀ H',Dn K H' (fM (0,1)) (.ref N)) (BW:upd H1 a (.ins C dx (aX "mark_rows" (.ref p) (oP m E pf v w))) q=none) :
   ∃ pI,uH K C H a fp (m.c8 r) (upd (upd (upd (upd H1 a (.ins C dx (aX "mark_rows" (.ref p) (oP m E pf v w)))) q (.tup [.ref N,.ref N,.ref N])) v (.lst (vs++[.ref q]))) w (.lst (vt++[.cN]))) pI:=by
 obtain ⟨⟨M,Ip,L,u,X,Uz,A,I,mr,pB,Y,D,UA,F,HC,MS,n1,n2,n3,dm,ds,dt,df,fk⟩,q1,q2,q3,Q⟩:=hh;obtain ⟨rfl,rfl,rfl,rfl,rfl⟩:=rm (Y.symm.trans ha);obtain rfl:Uz=vm:=by
   have:=UA.symm.trans iC;injection this with e;injection e
 obtain rfl:A=vs:=by
   have:=HC.symm.trans J;injection this with e;injection e
 obtain rfl:I=vt:=by
   have:=MS.symm.trans d;injection this with e;injection e
 let g:=upd H1 a (.ins C M (aX "mark_rows" (.ref p) (oP m Ip L u X)))
 let H3:=upd g q (.tup [.ref N,.ref N,.ref N])
 let O:=upd H3 u (.lst (A++[.ref q]))
 let H5:=upd O X (.lst (I++[.cN]))
 have W:∀ {b o},H1 b=some o->b≠a->g b=some o:=λ h n=>by show upd _ _ _ _=_;rw [aw n];exact h
 have G:aE g H3:=ap BW;have Wm:=fC Y J nofun;have k:=fC Y d nofun;have VL:g u=some (.lst A):=W (s _ _ J) Wm.symm;have R:=G _ _ VL;have V:=G _ _ (W (s _ _ d) k.symm);have U:O X=some (.lst I):=by show upd _ _ _ _=_;rw [aw n3.symm];exact V
 have Ya:aZ K O H5:=cq U rfl;have B:=(cq R rfl).trans Ya;have T:=(cq (s _ _ Y) rfl).trans ((aE.ts G).trans B);have S:=(aE.ts (K:=K) s).trans T;have w5:∀ {b o},g b=some o->b≠u->b≠X->H5 b=some o:=λ h x y=>by
   show upd _ _ _ _=_;rw [aw y];show upd _ _ _ _=_;rw [aw x];exact G _ _ h
 have wo:∀ {b o},H b=some o->b≠a->b≠u->b≠X->H5 b=some o:=λ h x y z=>w5 (W (s _ _ h) x) y z;have l:p≠u:=(ax J hn).symm;have t:p≠X:=(ax d hn).symm;have ab:q≠u:=(ax VL BW).symm;have ZT:H5 u=some (.lst (A++[.ref q])):=by
   show upd _ _ _ _=_;rw [aw n3];exact af
 refine ⟨[a,M,p,L,u,X],⟨⟨M,p,L,u,X,Uz++[.ref kt],A++[.ref q],I++[.cN],mr,rfl,?_,wo D (fC D Y nofun) (fC D J nofun) (fC D d nofun),w5 (W DB ((ax Y hn).symm)) l t,wo F (fC F Y nofun) (fC F J nofun) (fC F d nofun),ZT,af,l,t,n3,?_,?_,?_,λ i j=>(df i j).ts S,fk⟩,?_,?_,?_,?_⟩,?_,S,?_⟩
 . exact w5 af Wm k
 . show bP K H5 ((m.rows++[r]).map Cp) _;rw [aau];exact (mJ S dm).snoc (Dn.ts T _ (BY r) dr)
 . show bP K H5 ((m.bf++[((0,1),(0,1),(0,1))]).map uJ) _;rw [aau];exact (j3 S ds).snoc (Dn.ts B _ (vH _) (J9 (s:=((0,1),(0,1),(0,1))) (cw.of af) (dN _) (dN _) (dN _)))
 . show bP K H5 ((m.aI++[none]).map j6) _;rw [aau];exact (iT S dt).snoc rfl
 . show (m.bf++[_]).length=(m.rows++[r]).length;rw [aas,aas,q1];rfl
 . show (m.aI++[_]).length=(m.rows++[r]).length;rw [aas,aas,q2];rfl
 . show (m.rows++[r]).length<=4;rw [aas];exact lN
 .
  refine ⟨λ x c=>?_,λ x c=>?_,Q.de,λ x c=>?_,λ x c=>?_⟩
  . rcases aaU.mp c with h|h
    . exact Q.rows x h
    . rw [aac.mp h];exact hr
  . rcases aaU.mp c with h|h
    . exact Q.len x h
    . rw [aac.mp h];exact hl
  . rcases aaU.mp c with h|h
    . exact Q.bf x h
    . rw [aac.mp h];exact ⟨JC,JC,JC⟩
  . rcases aaU.mp c with h|h
    . exact Q.aI x h
    . cases aac.mp h
 .
  intro b o h n;rw [pB] at n;simp only [aay,aaj,acd,ad7] at n;exact wo h n.1 n.2.2.2.2.1 n.2.2.2.2.2
 . grind
end
structure lu (K:aF) (C x dx:ak) (H H':Hp) (fs:List (Str×V)):Prop where
 st:∀ b o,H b=some o->b≠x->H' b=some o
 ts:aZ K H H'
 at_:H' x=some (.ins C dx fs)
section
variable {K:aF} {C x dx:ak} {H H':Hp} {fs fs':List (Str×V)}
theorem lu.start (h:H x=some (.ins C dx fs)):lu K C x dx H H fs:=⟨λ Z Z h Z=>h,aZ.refl _,h⟩
theorem lu.put (B:lu K C x dx H H' fs):lu K C x dx H (upd H' x (.ins C dx fs')) fs':=⟨λ b o h n=>by rw [aw n];exact B.st b o h n,B.ts.trans (cq B.at_ rfl),af⟩
theorem lu.new {p:ak} (B:lu K C x dx H H' fs) (a:H' p=none):lu K C x dx H (upd H' p o) fs:=⟨λ b u h n=>by rw [aw (ax (B.st b u h n) a)];exact B.st b u h n,B.ts.trans (aE.ts (ap a)),by rw [aw (ax B.at_ a)];exact B.at_⟩
theorem lu.keep {b:ak} (B:lu K C x dx H H' fs) (h:H' b=some o) (n:b≠x):(upd H' x u) b=some o:=by rw [aw n];exact h
theorem lu.none {p:ak} (B:lu K C x dx H H' fs) (h:H' p=none):H p=Option.none:=by
 cases e:H p with
 | none=>rfl
 | some o =>
   by_cases q:p=x
   . rw [q,B.at_] at h;cases h
   . rw [B.st p o e q] at h;cases h
theorem lu.ne {p:ak} (B:lu K C x dx H H' fs) (h:H' p=Option.none):p≠x:=λ q=>by rw [q,B.at_] at h;cases h
theorem Fy {a:Type} {p:a->Prop} (x:a) (h:x∈([]:List a)):p x:=absurd h aaj
theorem Kn {p d a c:ak} {most eO load:Int} (B:lu K C x dx H H' (oP (am.new most eO load) p d a c)) (m:H x=some (.ins C dx fs')) (k:H dx=some (.own x)) (g:H' p=some (.lst [])) (i:H' d=some (.dT [])) (j:H' a=some (.lst [])) (l:H' c=some (.lst [])) (N:H p=none) (q:H d=none) (r:H a=none) (s:H c=none) (e:p≠a) (E:p≠c) (f:a≠c) :
   uH K C H x [x,dx] (am.new most eO load) H' [x,dx,p,d,a,c]:=by
 refine ⟨⟨⟨dx,p,d,a,c,[],[],[],[],rfl,B.at_,B.st _ _ k (fC k m nofun),g,i,j,l,e,E,f,rfl,rfl,rfl,λ Z Z=>trivial,aeJ,Fy⟩,rfl,rfl,ab2 _,⟨Fy,Fy,λ Z Z Z h=>(by cases h),Fy,λ Z h=>absurd h aaj⟩⟩,?_,B.ts,?_⟩
 . intro b o h n;simp only [aay,aaj,acd,ad7] at n;exact B.st b o h n.1
 . grind
end
theorem lt1000 {n:Nat} (h:Nat.ble (n+1) 1000=true):n<1000:=Nat.le_of_ble_eq_true h
noncomputable def FG (i j:Int):Int:=reduceHash (Builtin.Tuple.tupleHashOf [hashInt i,hashInt j])
theorem Ic:∀ i j I J:Fin 4,FG (i.val:Int) (j.val:Int)=FG (I.val:Int) (J.val:Int)->i=I/\j=J:=by decide +kernel
theorem Gk (i:Nat) (H:i<4) (j:Nat) (c:j<4) (I:Nat) (Z:I<4) (J:Nat) (z:J<4) (h:FG (i:Int) (j:Int)=FG (I:Int) (J:Int)):i=I/\j=J:=by
 obtain ⟨a,b⟩:=Ic ⟨i,H⟩ ⟨j,c⟩ ⟨I,Z⟩ ⟨J,z⟩ h;exact ⟨acJ Fin.val a,acJ Fin.val b⟩
theorem tX.hash {P:bq} {w:bi} {A:List (List Key×V)} (h:tX A):(A.map λ K=>tupleKeyHash (dA P w) K.1).Nodup:=by
 have H:=ae6.mp h.1;refine ae6.mpr (H.imp_of_mem λ {a b} f g n e=>?_);obtain ⟨i,j,k,l,E⟩:=h.2 a f;obtain ⟨I,J,z,d,c⟩:=h.2 b g;rw [E,c] at e;obtain ⟨m,o⟩:=Gk i k j l I z J d e;exact n (by rw [E,c,m,o])
noncomputable def LU:Option Int->V
 | none => .cN
 | some n => .int n
theorem Dk {U:St} {Q:VK} {t:TE} {k:Nat} {o:Option Int} {d:Int} (a:U[k]?=some (some (LU o))) (b:∀ q:VK,q (.int d) H->t U H q) (h:Q (.int (o.getD d)) H) :
   tIf (K1 (WM (λ x y H Q=>y = .cN/\Q (.bl (decide (x = .cN))) H) (Q2 k) (tC .cN))) t (Q2 k) U H Q:=by
 refine ⟨_,by rw [a],rfl,_,rfl,?_⟩;cases o with
 | none=>exact uN rfl (b Q h)
 | some n=>exact sK nofun ⟨_,a,h⟩
noncomputable def am.with (m:am) (x y z:Option Int):am:={ m with most:=x.getD m.most,eO:=y.getD m.eO,load:=z.getD m.load }
def am.UV (m:am):Prop:=(0<=m.most/\m.most<=4)/\(0<=m.eO/\m.eO<=30)/\(0<=m.load/\m.load<=30)
inductive zi (K:aF) (C:ak) (vs:aB) (H:Hp) (Q:VK) (_E:XK):Prop
 | mk (a fp m x y z:_) (_:vs=[.ref a,LU x,LU y,LU z]) (_:aN K C H a fp m) (_:(m.with x y z).UV) (_:∀ b H' pI,aE H H'->aN K C H' b pI (m.with x y z)->(∀ c∈pI,H c=none)->Q (.ref b) H')
theorem LY {K:aF} {C:ak} {h:Hp} {a x dx:ak} {O:bp} {m m':am} {l c L b:ak} {v vs vt:aB} {A:List (List Key×V)} {N g p k n:ak} (Y:aN K C H a O m) (X:H a=some (.ins C N (oP m g p k n))) (iC:H g=some (.lst v)) (rA:H p=some (.dT A)) (ji:H k=some (.lst vs)) (jn:H n=some (.lst vt)) (s:aE H h) (e:m'.rows=m.rows/\m'.de=m.de/\m'.bf=m.bf/\m'.aI=m.aI) (B:lu K C x dx h H' (oP m' l c L b)) (kZ:H' dx=some (.own x)) (Q:H' l=some (.lst v)) (S:H' c=some (.dT A)) (T:H' L=some (.lst vs)) (W:H' b=some (.lst vt)) (E:l≠L) (F:l≠b) (G:L≠b):aN K C H' x [x,dx,l,c,L,b] m':=by
 obtain ⟨⟨Fq,Ip,AL,uY,xj,U,f,I,M,pB,yO,u,UA,qY,HC,MS,n1,n2,n3,w,y,z,D,J⟩,q1,q2,q3,q⟩:=Y;obtain ⟨rfl,rfl,rfl,rfl,rfl⟩:=rm (yO.symm.trans X);obtain rfl:U=v:=by
   lia
 obtain rfl:f=vs:=by
   lia
 obtain rfl:I=vt:=by
   lia
 obtain rfl:M=A:=by
   lia
 have t:=(aE.ts s).trans B.ts;obtain ⟨r,o,R,d⟩:=e;refine ⟨⟨dx,l,c,L,b,U,f,I,M,rfl,B.at_,kZ,Q,S,T,W,E,F,G,?_,?_,?_,λ i j=>?_,J⟩,?_,?_,?_,⟨?_,?_,?_,?_,?_⟩⟩
 . rw [r];exact mJ t w
 . rw [R];exact j3 t y
 . rw [d];exact iT t z
 . rw [o];exact (D i j).ts t
 . rw [r,R];exact q1
 . rw [r,d];exact q2
 . rw [r];exact q3
 . rw [r];exact q.rows
 . rw [r];exact q.len
 . rw [o];exact q.de
 . rw [R];exact q.bf
 . rw [d];exact q.aI
structure OL where
 a:Int
 b:Int
 t:Int
 d:Int
structure OL.Ok (s:OL):Prop where
 a0:1<=s.a
 a1:s.a<=10 ^ 9
 b0:1<=s.b
 b1:s.b<=10 ^ 9
 t0 : -(10 ^ 9)<=s.t
 t1:s.t<=10 ^ 9
 d0:1<=s.d
 d1:s.d<=10 ^ 9
noncomputable abbrev OL.vs (s:OL):aB:=[.int s.a,.int s.b,.int s.t,.int s.d]
def VE (n parts:Int) (s:OL):Int:=n * s.a * s.d+parts * s.t * s.b
def Tu (parts:Int) (s:OL):Int:=parts * s.b * s.d
def KB (n parts:Int) (s:OL):bZ:=nf (VE n parts s) (Tu parts s)
structure StI (z:Int×Int×Int×Int):Prop where
 h:0<=z.1/\z.1<=25
 w:0<=z.2.1/\z.2.1<=9
 s:0<=z.2.2.1/\z.2.2.1<=3
 f:0<=z.2.2.2/\z.2.2.2<=3
noncomputable def dJ (H:Hp) (L:bp):Hp:=λ b=>if b∈L then none else H b
section
variable {H H':Hp} {L:bp} {a:ak} {o:HO}
theorem ia:aE (dJ H L) H:=λ b u h=>by
 unfold dJ at h;split at h
 . cases h
 . exact h
theorem jV (h:H a=some o) (n:a∉L):dJ H L a=some o:=by unfold dJ;rw [abC n];exact h
theorem oU (h:a∈L):dJ (upd H a o) L=dJ H L:=by
 funext b;unfold dJ;split
 . rfl
 . rename_i n
   rw [aw (λ e=>n (by rw [e];exact h))]
theorem wG (s:aE H H'):aE (dJ H L) (dJ H' L):=λ b u h=>by
 unfold dJ at h |-;split at h
 . cases h
 . rename_i n
   rw [abC n];exact s b u h
def IR (H:Hp) (L:bp):Prop:=∀ b∈L,∃ o,H b=some o/\FP o=true
end
structure bV where
 marks:List (List Int)
 mX:List (Int×Int×Int)
 aI:List (Option (Int×Int×Int×Int))
 de:Nat->Nat->Option Int
 scale:OL
 bounds:Int×Int×Int
noncomputable abbrev stI:Option (Int×Int×Int×Int)->PyData
 | none => .none
 | some z => .tuple [.int z.1,.int z.2.1,.int z.2.2.1,.int z.2.2.2]
section
variable {m:bV}
def bV.cK (m:bV) (i j:Nat) (k:Int):bV:={ m with de:=λ a b=>if a=i/\b=j then some k else m.de a b }
end
def Nu (l:List Int):Prop:=∀ i x y,l[i]?=some x->l[i+1]?=some y->x<y
structure Wz (n:Nat) (l:List Int):Prop where
 two:2<=l.length
 most:l.length<=if n<=2 then 7 else 5
 ris:Nu l
 bd:∀ x∈l,-200<=x/\x<=200
structure bV.Ok (n i:Nat) (m:bV):Prop where
 lm:m.marks.length=i
 ls:m.mX.length=i
 lt:m.aI.length=i
 rows:∀ l∈m.marks,Wz n l
 mX:∀ z∈m.mX,(0<=z.1/\z.1<=3)/\(-30<=z.2.1/\z.2.2<=60)/\z.2.1<=z.2.2/\z.2.2<=z.2.1+30
 aI:∀ z,some z∈m.aI->StI z
 de:∀ a b,a<i->b<n->a≠b->∃ k,m.de a b=some k/\0<=k/\k<=3
 scale:m.scale.Ok
 bounds:(0<=m.bounds.1/\m.bounds.1<=4)/\(0<=m.bounds.2.1/\m.bounds.2.1<=30)/\(0<=m.bounds.2.2/\m.bounds.2.2<=30)
end L2
namespace Mth
def Ov (W k:Int) (f:Int×Int):Prop:=f.1 * W=k * f.2/\0<f.2
theorem Ov.nf {W k:Int} (h:0<W):Ov W k (nf k W):=by
 have F:=jf (t:=k) h;exact ⟨F.yK,F.pos⟩
end Mth
namespace L2
open PySem PySem.Spec PyProof.Rows Mth
variable {H:Hp} {elts:List Expr} {ta:TA} {rF:Pos} {x1:Nat} {U:St}
theorem io {m:am} {i j a b:Nat} {f:bZ}:(m.cK i j f).cG a b=if a=i/\b=j then f else m.cG a b:=by
 unfold am.cG am.cK;by_cases e:a=i/\b=j
 . grind
 . lia
theorem AV {m:am} {i a:Nat} {z:bZ×bZ×bZ} (h:i<m.bf.length):(m.cX i z).dU a=if a=i then z.1 else m.dU a:=by
 unfold am.dU am.cX;by_cases e:a=i
 . simp_all
 . rw [abC e,adt (λ x=>e x.symm)]
def bV.row (t:bV) (l:List Int):List bZ:=l.map λ x=>KB x 1 t.scale
def bV.m1 (t:bV) (k:Nat):am:=((t.marks.take k).map t.row).foldl am.c8 (am.new t.bounds.1 t.bounds.2.1 t.bounds.2.2)
def bV.pF (t:bV) (z:Int×Int×Int):bZ×bZ×bZ:=(nf z.1 12,KB z.2.1 1 t.scale,KB z.2.2 1 t.scale)
def bV.iY (t:bV) (z:Int×Int×Int×Int):bZ×Int×Int×Int:=(nf (z.1 * t.scale.a) t.scale.b,z.2.1,z.2.2.1,z.2.2.2)
def bV.MH (t:bV) (m:am) (i:Nat):am:=match t.mX[i]? with|some z=>m.cX i (t.pF z)|none=>m
def bV.Gu (t:bV) (m:am) (i:Nat):am:=match t.aI[i]? with|some (some z)=>m.bD i (t.iY z)|_=>m
def bV.JX (t:bV) (i:Nat) (m:am) (j:Nat):am:=if j=i then m else match t.de i j with|some k=>m.cK i j (nf k 12)|none=>m
def bV.Nz (t:bV) (i:Nat) (m:am) (j:Nat):am:=(List.range j).foldl (t.JX i) m
def bV.KP (t:bV) (n:Nat) (m:am) (i:Nat):am:=t.Nz i (t.Gu (t.MH m i) i) n
def bV.m2 (t:bV) (n k:Nat):am:=(List.range k).foldl (t.KP n) (t.m1 n)
theorem uH.keep {K:aF} {C:ak} {c d:Hp} {a:ak} {f p:bp} {m':am} (S:aE c H) (n:∀ b∈f,c b=none) (D:uH K C H a f m' d p):aE c d/\∀ b∈p,c b=none:=by
 refine ⟨λ b o h=>D.but b o (S b o h) λ q=>?_,λ b e=>?_⟩
 . rw [n b q] at h;cases h
 . rcases D.own b e with q|q
   . exact n b q
   . exact S.free q
theorem ul {K:aF}:∀ {l:List Int} {w:aB},bP K H (l.map PyData.int) w->w=l.map V.int
 | [],_,h=>h
 | x::l,_,h=>by
   obtain ⟨y,r,rfl,e,t⟩:=h;rw [e,ul t];rfl
theorem oW {a:Type} (l:List a) (g:a->bZ):∀ d∈l.map (λ x=>fM (g x)),f7 d=true:=λ d h=>by
 obtain ⟨x,Z,rfl⟩:=abv.mp h;exact i8 _
theorem Ov.nonneg {W k:Int} {f:bZ} (H:0<W) (h:Ov W k f) (a:0<=k):0<=f.1:=by
 have:0<=f.1 * W:=by rw [h.1];exact ad2 a (ady h.2)
 exact Int.nonneg_of_mul_nonneg_left this H
theorem yx {u:ak} {t b q r:Int} {K:aF} (c:0<b) (F:Fr t b q r) (h:H u=some (.tup [.int q,.int r])):Dn K H (fM (nf t b)) (.ref u):=by
 have e:=F.nf c;have E:q=(nf t b).1:=acJ Prod.fst e;have a:r=(nf t b).2:=acJ Prod.snd e;rw [E,a] at h;exact n9 (cw.of h)
def Qq:Nat->PyData->Prop
 | _,.none=>True
 | _,.bool _=>True
 | _,.int _=>True
 | n+1,.list D=>∀ d∈D,Qq n d
 | n+1,.tuple D=>∀ d∈D,Qq n d
 | _,_=>False
theorem Ai {n:Nat} (h:∀ d,Qq n d->PyData.eqv d d=true/\d.canLay0=true/\d.depth<=n):∀ D:List PyData,(∀ d∈D,Qq n d)->PyData.eqvAll D D=true/\PyData.canLayAll0 D=true/\PyData.depthAll D<=n
 | [],_=>by simp [PyData.eqvAll,PyData.canLayAll0,PyData.depthAll]
 | d::D,k=>by
   obtain ⟨a,b,c⟩:=h d (k d aaZ);obtain ⟨A,B,C⟩:=Ai h D (λ e H=>k e (aaB _ H));simp only [PyData.eqvAll,PyData.canLayAll0,PyData.depthAll,a,b,A,B,Bool.and_self,ag0];lia
theorem wD:∀ (n:Nat) (d:PyData),Qq n d->PyData.eqv d d=true/\d.canLay0=true/\d.depth<=n
 | n,.none,_=>by simp [PyData.eqv,PyData.canLay0,PyData.depth]
 | n,.bool b,_=>by simp [PyData.eqv,PyData.canLay0,PyData.depth]
 | n,.int i,_=>by simp [PyData.eqv,PyData.canLay0,PyData.depth]
 | n+1,.list D,h=>by
   obtain ⟨a,b,c⟩:=Ai (wD n) D h;simp only [PyData.eqv,PyData.canLay0,PyData.depth,a,b,ag0];lia
 | n+1,.tuple D,h=>by
   obtain ⟨a,b,c⟩:=Ai (wD n) D h;simp only [PyData.eqv,PyData.canLay0,PyData.depth,a,b,ag0];lia
 | 0,.list _,h=>h.elim
 | 0,.tuple _,h=>h.elim
 | 0,.str _,h=>h.elim
 | _+1,.str _,h=>h.elim
 | 0,.dict _,h=>h.elim
 | _+1,.dict _,h=>h.elim
theorem qF {n:Nat} {d:PyData} (h:Qq n d) (H:n<=64):SeqAt.shaped d=true:=by
 obtain ⟨Z,b,c⟩:=wD n d h;unfold SeqAt.shaped;rw [b,aaS (aaX c H)];rfl
theorem fE {X:Cx} {K:aF} (h:X.K=K):Ut X (Rj K):=by
 subst h;exact aC
theorem mE:∀ {N:List Int} {B:bB},Vals (N.map V.int) B->∃ ys:List (Int×Tok),B=ys.map (λ p=>Value.int p.1 p.2)/\ys.map (·.1)=N
 | [],B,r=>by cases r;exact ⟨[],rfl,rfl⟩
 | n::N,B,r=>by
   cases r with
   | cons a b =>
     obtain ⟨t,rfl⟩:=a;obtain ⟨ys,rfl,e⟩:=mE b;exact ⟨(n,t)::ys,rfl,by rw [ab8,e]⟩
theorem xY {a:Type} {ys:List a} {i:Nat} (h:i<=ys.toArray.size - 1) (k:0<ys.toArray.size):i<ys.length:=by
 grind
section
variable {X:Cx}
theorem GU (i:X.calm=true):im X (.builtin "min") (λ xs H Q=>∃ (p:ak) (n:List Int),xs=[.ref p]/\aW X.K H p (n.map V.int)/\0<n.length/\∀ M,M∈n->(∀ a∈n,M<=a)->Q (.int M) H):=by
 intro d s U H xs C Q I r h;obtain ⟨p,n,rfl,o,L,q⟩:=h;obtain ⟨u,rfl,R⟩:=vals1 r;obtain rfl:=R;obtain ⟨B,z,x,Z⟩:=I.list o;obtain ⟨y,rfl,e⟩:=mE z;have m:s.heap.IsList p (intItems y.toArray):=by have:=x.isList;simpa [intItems] using this
 have b:=by rw [<- e] at L;simpa using L
 refine min_intList (I.ok.hd i) m b λ v A T w l=>?_;obtain ⟨t,rfl⟩:=intItems_at w;obtain ⟨f,g⟩:=argBest_lt (numAt y.toArray) (y.toArray.size - 1);refine ⟨.int _,H,I.kept l,⟨t,rfl⟩,q _ ?_ λ a c=>?_⟩
 . rw [<- e,afL];exact getD_mem (by rw [Ea];exact xY f b)
 .
  rw [<- e] at c;obtain ⟨j,k,rfl⟩:=mem_getD c;rw [Ea] at k;have:=g j (by simp;lia);rw [afL] at this;rw [afL] at this;rw [afL];exact this
theorem Hk (b:X.calm=true):im X (.builtin "sum") (λ xs H Q=>∃ (p:ak) (n:List Int),xs=[.ref p]/\aW X.K H p (n.map V.int)/\∀ r:Int,r=n.sum->Q (.int r) H):=by
 intro a s U H xs k Q I r h;obtain ⟨p,n,rfl,f,q⟩:=h;obtain ⟨u,rfl,R⟩:=vals1 r;obtain rfl:=R;obtain ⟨B,i,g,Z⟩:=I.list f;obtain ⟨y,rfl,e⟩:=mE i;have d:s.heap.IsList p (intItems y.toArray):=by have:=g.isList;simpa [intItems] using this
 refine sum_intListG (I.ok.hd b) d λ j T t c=>⟨.int _,H,I.kept c,⟨t,rfl⟩,q _ ?_⟩
 rw [preSum_eq,ac1 (by simp),<- e]
end
theorem GN {X:Cx} {K:aF} (h:X.K=K):im X (.builtin "len") (λ xs H Q=>∃ p ys,xs=[.ref p]/\(aW K H p ys\/cw K H p ys)/\∀ r:Int,r=ys.length->Q (.int r) H):=by
 subst h;exact bv
theorem Dw:bootBuiltins "min" = some (.builtin "min"):=by decide +kernel
theorem AC:bootBuiltins "max" = some (.builtin "max"):=by decide +kernel
theorem O3:bootBuiltins "sum" = some (.builtin "sum"):=by decide +kernel
theorem JS:bootBuiltins "any" = some (.builtin "any"):=by decide +kernel
theorem mH:bootBuiltins "enumerate" = some (.type "enumerate"):=by decide +kernel
def qy (r:List bZ) (f g:bZ) (b:Nat):Bool:=(!bW g (r.getD b (0,1))) && !bW (r.getD (b+1) (0,1)) f
def kM (r:List bZ) (f g:bZ) (n:Nat):aH:=(List.range n).filter (qy r f g)
def kQ (r:List bZ) (f g:bZ):aH:=kM r f g (r.length - 1)
def lT (r:List bZ) (f g:bZ):Bool:=(!bW f (r.getD 0 (0,1))) && !bW (r.getD (r.length - 1) (0,1)) g
theorem lU (r:List bZ) (f g:bZ) (n:Nat):kM r f g (n+1)=kM r f g n++if qy r f g n then [n] else []:=by
 unfold kM;rw [ab6];cases h:qy r f g n<;>simp [List.filter,h]
theorem kK (r:List bZ) (f g:bZ) (n:Nat):(kM r f g n).length<=n:=by
 have:=ab0 (qy r f g) (List.range n);rw [aaA] at this;exact this
theorem LQ {a:Type} {xs:List a} {x:a} (H:0<xs.length) (h:xs[xs.length - 1]?=some x):uS xs (-1)=some x:=by
 unfold uS Ik;rw [abC (by lia),abp (by lia)];have e:((-1:Int)+xs.length).toNat=xs.length - 1:=by lia
 first
   | (rw [e];exact h)
   | (have E:=by lia
      exact h)
noncomputable def ja (n:Nat):PyData:=.int (n:Int)
theorem vM {K:aF}:∀ l:aH,bP K H (l.map ja) (l.map aq)
 | []=>eP
 | n::l=>bI rfl (vM l)
theorem rO {K:aF} {p:ak} {l:aH} (h:aW K H p (l.map aq)):Dn K H (.list (l.map ja)) (.ref p):=wm h (vM l)
theorem AN:([]:aB).length<=sizeLine:=ab2 _
theorem cut {t u:TS} {D:Ends} (h:∀ R:St->Hp->Prop,(∀ a b,u D a b->R a b)->t { D with nx:=R } U H):bg t u D U H:=h (u D) λ Z Z x=>x
section
variable {P:bq} {w:bi} {A:Around} {E:ay->Shared->Prop} {s:Shared}
theorem Dj {j a:ak} {i:Nat} {b:Array ay} {x:ay} {Q:ay->Shared->Prop} (H:s.heap.IsTupleIter j a i) (g:s.heap.IsTuple a b) (l:b[i]?=some x) (k:∀ h,h.IsTupleIter j a (i+1)->Heap.SameBut j s.heap h->Q x { s with heap:=h }):wpAny (model P w) A (Builtin.SmallTypes.nextOf (.ref j)) Q E s:=by
 obtain ⟨O,e,c,d⟩:=id H;obtain ⟨o,f,Z,n,D⟩:=g;refine aam (aeL H.typeIs aey (aft aey H.typeIs agO ?_ (agD _)));refine aam (m:=field (.ref j) 0) (aeq e d (x:=.ref a) rfl ?_);have N:¬ ((Value.ref a == Value.none)=true):=aa3;refine aam (aeq e d rfl (aam (ael f D ?_)));simp only [acM,l];refine aam (wpAny_setField e d (by simp) (aaW ⟨x,rfl,aaW (k _ ⟨_,aer _ e (Obj.isFreed_of_fields (Obj.data_mapFields d _)),(Obj.cls_mapFields ..).trans c,?_⟩ (af2 ..))⟩));rw [Obj.data_mapFields d];simp [rawInt]
theorem HW {j a:ak} {i:Nat} {B:Array ay} {Q:ay->Shared->Prop} (c:A.handled=none) (H:s.heap.IsTupleIter j a i) (g:s.heap.IsTuple a B) (l:B[i]?=none) (k:∀ h e,Heap.ExtBut j s.heap h->(∃ o,h.get? e=some o/\o.cls = .type "StopIteration")->E (.ref e) { s with heap:=h }):wpAny (model P w) A (Builtin.SmallTypes.nextOf (.ref j)) Q E s:=by
 obtain ⟨p,b,C,d⟩:=id H;obtain ⟨O,f,Z,n,D⟩:=g;refine aam (aeL H.typeIs aey (aft aey H.typeIs agO ?_ (agD _)));refine aam (m:=field (.ref j) 0) (aeq b d (x:=.ref a) rfl ?_);have N:¬ ((Value.ref a == Value.none)=true):=aa3;refine aam (aeq b d rfl (aam (ael f D ?_)));simp only [acM,l];refine aam (agZ (aam (wpAny_setField b d (by simp) (aam (aam (afl (aam (wpAny_of_eq (a:=Value.none) (by first|rfl|(rfl)) (afl ?_ (by size_fits)))) (by size_fits)))))));refine aam (wpAny_handled ?_)
 first|rw [c]|rw [c]
 exact aam (aaW (wpAny_throw (k _ _ (((af2 ..).extBut.push _).push _) ⟨_,abW _ rfl,rfl⟩)))
end
theorem JR {P:bq} {w:bi} {A:Around} (l:A.handled=none) (j a:ak) (n:a≠j) (b:Array ay):Draws P w A j [j,a] b.size (λ i v=>b[i]?=some v) (λ i h=>h.IsTupleIter j a i/\h.IsTuple a b) where
 live:=λ Z Z S=>by
   obtain ⟨⟨o,e,Z⟩,Z⟩:=S;exact ⟨o,e⟩
 frame:=λ Z Z Z S k=>by
   obtain ⟨H,O,f,r⟩:=S;exact ⟨H.at λ o e=>k j (by simp) o e,O,k a (by simp) O f,r⟩
 item:=λ i s Q E c S q=>Dj S.1 S.2 (x:=b[i]) (by simp [c]) λ g H d=>q _ g s.toks (by simp [c]) ⟨H,S.2.extBut d.extBut n⟩ d
 done:=λ s Q E S q=>HW l S.1 S.2 (by simp) q
set_option maxHeartbeats 1000000 in
theorem Hf (a:ak) (o:Obj) (br:Array ay) (n:Nat) (b:o.cls = .type "tuple") (e:o.data = .seq br n) :
   Meets (Builtin.«enumerate.__new__» ⟨[.type "enumerate",.ref a],[]⟩) (λ _ R s=>s.heap.get? a=some o/\R (.ok (.ret (.ref (s.heap.push { cls:=.type "tuple_iterator",data:=.fields #[.ref a,.int 0 0]}).objs.size)))
     { s with heap:=(s.heap.push { cls:=.type "tuple_iterator",data:=.fields #[.ref a,.int 0 0]}).push { cls:=.type "enumerate",data:=.fields #[.none,.bool false,.ref s.heap.objs.size,rawInt 0,.none,.none]}}):=by
 obtain ⟨C,j,D,sl⟩:=o;obtain rfl:C = .type "tuple":=b;obtain rfl:D = .seq br n:=e;refine .of_wp λ P w A R s q=>?_;obtain ⟨f,g,d,t,O⟩:=s;obtain ⟨h,q⟩:=q;have i:=sub_enumerate;have H:Heap.IsTuple (Shared.heap ⟨f,g,d,t,O⟩) a br:=⟨_,h,rfl,n,rfl⟩
 wp_walk using afq h
 refine wpAny_stack_any λ S=>aaW ?_;split
 . rename_i c _ _ _ _ _
   cases (c == Value.type "enumerate")<;>(wp_walk using afq h,wpAny_pyIter_tuple H;exact ⟨_,rfl,q⟩)
 . wp_walk using afq h,wpAny_pyIter_tuple H
   exact ⟨_,rfl,q⟩
section
variable {P:bq} {w:bi} {A:Around} {E:ay->Shared->Prop} {s:Shared}
theorem vE {a:ak} {B:Array ay} {Q:ay->Shared->Prop} (d:s.heap.IsTuple a B) (k:∀ h,IsEnum h (s.heap.objs.size+1) s.heap.objs.size 0 .none->h.IsTupleIter s.heap.objs.size a 0->(∀ b o,s.heap.get? b=some o->h.get? b=some o)->Q (.ref (s.heap.objs.size+1)) { s with heap:=h }) :
   wpAny (model P w) A (call (.type "enumerate") [.ref a]) Q E s:=by
 obtain ⟨i,e,f,n,g⟩:=d;refine callType_new F.called_enumerate (by decide) (F.typeCall_enumerate_1 _) (F.newCall_enumerate_1 _) (λ O=>F.args_object_init_2 O _) F.entry_enumerate_new (Hf a i B n f g) ⟨e,?_⟩;have c:(s.heap.push { cls:=.type "tuple_iterator",data:=.fields #[.ref a,.int 0 0]}).objs.size=s.heap.objs.size+1:=afk ..;have H:=abW (s.heap.push { cls:=.type "tuple_iterator",data:=.fields #[.ref a,.int 0 0]}) (o:={ cls:=.type "enumerate",data:=.fields #[.none,.bool false,.ref s.heap.objs.size,rawInt 0,.none,.none]}) rfl;rw [c] at H;rw [c];exact ⟨⟨_,H,rfl⟩,k _ H ⟨_,aaF _ (abW _ rfl),rfl,rfl⟩ λ b o x=>aaF _ (aaF _ x)⟩
end
def Io (sq:Hp->ak->aB->Prop) (a:ak):It :=
 ⟨λ i H=>∃ X x,sq H a X/\X[i]?=some x,
  λ i H v h=>∃ p x,H p=none/\v = .ref p/\h=upd H p (.tup [aq i,x])/\∀ X,sq H a X->X[i]?=some x,
  λ i H=>∃ X,sq H a X/\X.length=i⟩
def EnL (e j a:ak) (i:Nat) (h:bx):Prop:=(∃ o,IsEnum h e j i o)/\h.IsListIter j a i
def EnT (e j a:ak) (i:Nat) (h:bx):Prop:=(∃ o,IsEnum h e j i o)/\h.IsTupleIter j a i
theorem AR {P:bq} {w:bi} {K:aF} {e j a:ak} (t:e≠j) (V:a≠e) (G:a≠j):Turn P w K (.Tuple elts x1 rF) (Io (aW K) a) [e,j] e (EnL e j a) where
 mem:=by simp
 obj:=λ i h S c l=>by
   obtain ⟨⟨O,b⟩,oj,e2,Z,W⟩:=S;simp only [aay,aaj,acd] at l;rcases l with rfl|rfl
   . exact ⟨_,b,λ v q=>by cases q⟩
   . exact ⟨oj,e2,λ v q=>by rw [W] at q;cases q⟩
 keep:=λ i h J S k=>by
   obtain ⟨⟨O,b⟩,f⟩:=S;exact ⟨⟨O,k e (by simp) _ b⟩,f.at λ o q=>k j (by simp) o q⟩
 item:=by
   intro X z D y l i m s U H E I n S C;subst z D y;obtain ⟨xs,x,r,L⟩:=C;obtain ⟨B,R,p,hz⟩:=I.list r;obtain ⟨u,hu,ru⟩:=R.get L;obtain ⟨⟨O,b⟩,f⟩:=S;have M:=aba b;have lj:j<s.heap.objs.size:=by obtain ⟨o,q,Z⟩:=f;exact aba q
   have hi:=by
     have:=(SV.mp hu).1;simpa using this
   refine wpAny_pyNext_enum_itemD (Draws.list (A:=X.A.in1) (I.ok.hd l) j a G B.toArray) b ⟨f,p.isList⟩ hi t (by simp [t,V.symm]) λ v J T hv eo Q ht ab kk=>?_;obtain rfl:v=u:=by
     simp_all
   refine ⟨.ref s.heap.objs.size,rfl,agP eo λ g he F=>?_⟩;have N:∀ c o,c∉[e,j]->s.heap.get? c=some o->g.get? c=some o:=λ c o d q=>by
     simp only [aay,aaj,acd,ad7] at d;exact F.extBut _ _ d.1 (kk c o d.1 d.2 q)
   refine ⟨.ref s.heap.objs.size,upd H s.heap.objs.size (.tup [aq i,x]),I.zo (t':=T+1) N n (aaE _) ⟨by show 2<=sizeLine;decide,[.int i T,v],.cons ⟨T,rfl⟩ (.cons ru .nil),⟨_,(F.extBut _ _ (aeh M) ht),rfl,_,rfl⟩⟩,rfl,
     ⟨_,x,I.eB.fresh (aaE _),rfl,rfl,λ ad h=>by rw [I.qU h r];exact L⟩,⟨⟨_,by simpa using he⟩,Q.1.extBut F.extBut t.symm⟩,λ c Y=>?_⟩
   have lc:c<s.heap.objs.size:=by
     simp only [aay,aaj,acd] at Y;rcases Y with rfl|rfl
     . exact M
     . exact lj
   rw [aw (abN lc)];exact (n c Y).1
 done:=by
   intro X z D y l i m s U H E I n S C;subst z D y;obtain ⟨xs,r,hl⟩:=C;obtain ⟨B,R,p,hz⟩:=I.list r;obtain ⟨⟨O,b⟩,f⟩:=S;have d:i=B.toArray.size:=by rw [abK,<- R.length];exact hl.symm
   subst d;refine wpAny_pyNext_enum_endD (Draws.list (A:=X.A.in1) (I.ok.hd l) j a G B.toArray) b ⟨f,p.isList⟩ λ J eb=>⟨rfl,I.yR (ch:=[e,j]) (t':=s.toks) (λ c o d q=>?_) n⟩
   simp only [aay,aaj,acd,ad7] at d;exact eb c o d.2 q
 self:=λ Z Z Z Z Z S h=>by
   obtain ⟨⟨O,b⟩,Z⟩:=S;exact aeu b h
theorem AZ {P:bq} {w:bi} {K:aF} {e j a:ak} (t:e≠j) (V:a≠e) (G:a≠j):Turn P w K (.Tuple elts x1 rF) (Io (cw K) a) [e,j] e (EnT e j a) where
 mem:=by simp
 obj:=λ i h S c l=>by
   obtain ⟨⟨O,b⟩,oj,e2,Z,W⟩:=S;simp only [aay,aaj,acd] at l;rcases l with rfl|rfl
   . exact ⟨_,b,λ v q=>by cases q⟩
   . exact ⟨oj,e2,λ v q=>by rw [W] at q;cases q⟩
 keep:=λ i h J S k=>by
   obtain ⟨⟨O,b⟩,f⟩:=S;exact ⟨⟨O,k e (by simp) _ b⟩,f.at λ o q=>k j (by simp) o q⟩
 item:=by
   intro X z D y l i m s U H E I n S C;subst z D y;obtain ⟨xs,x,r,L⟩:=C;obtain ⟨B,R,p,hz⟩:=I.tuple r;obtain ⟨u,hu,ru⟩:=R.get L;obtain ⟨⟨O,b⟩,f⟩:=S;have M:=aba b;have lj:j<s.heap.objs.size:=by obtain ⟨o,q,Z⟩:=f;exact aba q
   have hi:=by
     have:=(SV.mp hu).1;simpa using this
   refine wpAny_pyNext_enum_itemD (JR (A:=X.A.in1) (I.ok.hd l) j a G B.toArray) b ⟨f,p⟩ hi t (by simp [t,V.symm]) λ v J T hv eo Q ht ab kk=>?_;obtain rfl:v=u:=by
     simp_all
   refine ⟨.ref s.heap.objs.size,rfl,agP eo λ g he F=>?_⟩;have N:∀ c o,c∉[e,j]->s.heap.get? c=some o->g.get? c=some o:=λ c o d q=>by
     simp only [aay,aaj,acd,ad7] at d;exact F.extBut _ _ d.1 (kk c o d.1 d.2 q)
   refine ⟨.ref s.heap.objs.size,upd H s.heap.objs.size (.tup [aq i,x]),I.zo (t':=T+1) N n (aaE _) ⟨by show 2<=sizeLine;decide,[.int i T,v],.cons ⟨T,rfl⟩ (.cons ru .nil),⟨_,(F.extBut _ _ (aeh M) ht),rfl,_,rfl⟩⟩,rfl,
     ⟨_,x,I.eB.fresh (aaE _),rfl,rfl,λ ad h=>by rw [I.Ho h r];exact L⟩,⟨⟨_,by simpa using he⟩,Q.1.extBut F.extBut t.symm⟩,λ c Y=>?_⟩
   have lc:c<s.heap.objs.size:=by
     simp only [aay,aaj,acd] at Y;rcases Y with rfl|rfl
     . exact M
     . exact lj
   rw [aw (abN lc)];exact (n c Y).1
 done:=by
   intro X z D y l i m s U H E I n S C;subst z D y;obtain ⟨xs,r,hl⟩:=C;obtain ⟨B,R,p,hz⟩:=I.tuple r;obtain ⟨⟨O,b⟩,f⟩:=S;have d:i=B.toArray.size:=by rw [abK,<- R.length];exact hl.symm
   subst d;refine wpAny_pyNext_enum_endD (JR (A:=X.A.in1) (I.ok.hd l) j a G B.toArray) b ⟨f,p⟩ λ J eb=>⟨rfl,I.yR (ch:=[e,j]) (t':=s.toks) (λ c o d q=>?_) n⟩
   simp only [aay,aaj,acd,ad7] at d;exact eb c o d.2 q
 self:=λ Z Z Z Z Z S h=>by
   obtain ⟨⟨O,b⟩,Z⟩:=S;exact aeu b h
section
variable {X:Cx}
def ZO (K:aF) (t:TA):TI:=λ U H R=>t U H λ v h=>∃ a,v=[.ref a]/\(∃ x,aW K h a x)/\R (Io (aW K) a) h
def Zz (K:aF) (t:TA):TI:=λ U H R=>t U H λ v h=>∃ a,v=[.ref a]/\(∃ x,cw K h a x)/\R (Io (cw K) a) h
theorem Qj:("enumerate" : Str) ≠ "__name__":=by decide +kernel
theorem Q4:(("enumerate" : Str) == ("__debug__" : Str))=false:=by decide +kernel
theorem nZ {a:Expr} {p f:Pos} (n:Gl X "enumerate") (o:X.mg "enumerate" = none) (m:PA X [a] ta) (u:autoParam (starEach [a] X.env=[(false,eval a X.env)]) za_._auto_1) :
   PI X (.Tuple elts x1 rF) (.Call (.Name "enumerate" p) [a] [] f) (ZO X.K ta):=by
 intro d s U H R I h;refine Call_ (ke I n o mH ?_ Qj Q4);refine acH (dC (m f d s U H _ I h) λ E S ⟨V,k,i,w,Q⟩=>?_) u rfl;obtain ⟨a,e,⟨F,t⟩,q⟩:=Q;subst e;cases w with
 | cons r x =>
   cases x;obtain rfl:=r;obtain ⟨B,D,j,A⟩:=i.list t;have l:a<S.heap.objs.size:=by obtain ⟨Z,e,Z⟩:=j.isList;exact aba e
   refine call_enumerate_list j.isList λ C z y G v=>aeu z (⟨S.heap.objs.size+1,[S.heap.objs.size+1,S.heap.objs.size],_,_,k,rfl,i.kept v,AR (afc _) (abN (aeI l)) (abN l),⟨⟨_,z⟩,y⟩,λ c g=>?_,q⟩);have b:S.heap.objs.size<=c:=by
     simp only [aay,aaj,acd] at g;rcases g with rfl|rfl
     . exact aei _
     . exact aaE _
   exact i.Ca b (i.eB.fresh b)
theorem O4 {a:Expr} {p f:Pos} (n:Gl X "enumerate") (o:X.mg "enumerate" = none) (m:PA X [a] ta) (u:autoParam (starEach [a] X.env=[(false,eval a X.env)]) za_._auto_1) :
   PI X (.Tuple elts x1 rF) (.Call (.Name "enumerate" p) [a] [] f) (Zz X.K ta):=by
 intro d s U H R I h;refine Call_ (ke I n o mH ?_ Qj Q4);refine acH (dC (m f d s U H _ I h) λ E S ⟨V,k,i,w,Q⟩=>?_) u rfl;obtain ⟨a,e,⟨F,t⟩,q⟩:=Q;subst e;cases w with
 | cons r x =>
   cases x;obtain rfl:=r;obtain ⟨B,D,j,A⟩:=i.tuple t;have l:=j.lt;refine vE j λ C z y v=>aeu z (⟨S.heap.objs.size+1,[S.heap.objs.size+1,S.heap.objs.size],_,_,k,rfl,i.kept v,AZ (afc _) (abN (aeI l)) (abN l),⟨⟨_,z⟩,y⟩,λ c g=>?_,q⟩);have b:S.heap.objs.size<=c:=by
     simp only [aay,aaj,acd] at g;rcases g with rfl|rfl
     . exact aei _
     . exact aaE _
   exact i.Ca b (i.eB.fresh b)
end
theorem kO {sq:Hp->ak->aB->Prop} {a:ak} {xs:aB} {g:TG} {T:TT} {t:TE} {D:ak} {Q:Hp->Prop} (c:Nat->aB->St->Hp->Prop) (o:c 0 [] U H) (u:∀ i acc U H,i<=xs.length->c i acc U H->sq H a xs) (z:∀ i x p acc U H,xs[i]?=some x->H p=none->c i acc U H->g (.ref p) U (upd H p (.tup [aq i,x])) λ b l=>T b l λ k h =>
     if k=true then t b h λ v j=>j D=some (.lst acc)/\acc.length<sizeLine/\c (i+1) (acc++[v]) b (upd j D (.lst (acc++[v]))) else c (i+1) acc b h) (r:∀ acc U H,c xs.length acc U H->Q H) :
   ∃ W:Nat->Nat->aB->St->Hp->Prop,(∃ m,W 0 m [] U H)/\∀ i m acc f d,W i m acc f d->((Io sq a).stop i d/\Q d) \/
     ((Io sq a).go i d/\∃ N:aB->St->Hp->Prop,(∀ I b h,N I b h->∃ m',m'<m/\W (i+1) m' I b h)/\∀ x n,(Io sq a).Lv i d x n->g x f n λ b l=>T b l λ k h =>
       if k=true then t b h λ y j=>j D=some (.lst acc)/\acc.length<sizeLine/\N (acc++[y]) b (upd j D (.lst (acc++[y]))) else N acc b h):=by
 refine ⟨λ i m acc U H=>m=xs.length - i/\i<=xs.length/\c i acc U H,⟨_,rfl,ab2 _,o⟩,?_⟩;rintro i m acc U H ⟨rfl,s,p⟩;have q:=u i acc U H s p;by_cases L:i<xs.length
 . refine .inr ⟨⟨xs,xs[i],q,by simp [L]⟩,c (i+1),λ I f d A=>⟨xs.length - (i+1),by lia,rfl,L,A⟩,λ v d y=>?_⟩;obtain ⟨B,x,w,rfl,rfl,E⟩:=y;exact z i x B acc U H (E xs q) w p
 . have e:i=xs.length:=by lia
   subst e;exact .inl ⟨⟨xs,q,rfl⟩,r acc U H p⟩
end L2
namespace Tx
open PySem PySem.Builtin PySem.Builtin.Str
theorem len (a:Str):a.cps.toList.length=a.length:=afA
noncomputable def sl:Str:=⟨#[47]⟩
theorem cases (x:Str):47∉x.cps.toList\/∃ a b:Str,47∉a.cps.toList/\x.cps.toList=a.cps.toList++47::b.cps.toList:=by
 by_cases h:47∈x.cps.toList
 . obtain ⟨as,B,e,n⟩:=List.eq_append_cons_of_mem h;exact .inr ⟨⟨as.toArray⟩,⟨B.toArray⟩,by simpa using n,by simpa using e⟩
 . exact .inl h
theorem uniq:∀ {a p b c:aH},47∉a->47∉p->a++47::b=p++47::c->a=p/\b=c
 | [],[],_,_,_,_,e=>⟨rfl,(adq e).2⟩
 | [],q::p,_,_,_,d,e=>by
   simp_all
 | q::a,[],_,_,H,_,e=>by
   have:=(adq e).1;exact absurd (this ▸ aaZ) H
 | q::a,r::p,_,_,H,d,e=>by
   have E:=(adq e).1;have f:=(adq e).2;obtain ⟨x,y⟩:=uniq (λ h=>H (aaB _ h)) (λ h=>d (aaB _ h)) f;exact ⟨by rw [E,x],y⟩
noncomputable def strN (n:Nat):Str:=Str.ofString (toString ((n:Nat):Int))
def Good (z:Str):Prop:=1<=z.length/\z.length<=30/\NumText.AllDigits z.cps.toList/\¬ (z.cps.toList.head?=some 48/\1<z.length)
noncomputable def valOf (z:Str):Int:=((NumText.digitsVal z.cps.toList:Nat):Int)
noncomputable def mi:Str:=⟨#[45]⟩
noncomputable def JQ (z:Str):Bool:=decide (z.cps.toList.head?=some 45)
def bodyOf (z:Str):Str:=if JQ z=true then Txt.slice z (some 1) none else z
def aaN (z:Str):Int:=if JQ z=true then -1 else 1
def Rd (z:Str) (f:Int×Int):Prop :=
 Good (Txt.partition (bodyOf z) sl).1/\(JQ z=true->valOf (Txt.partition (bodyOf z) sl).1≠0)/\f.1=aaN z * valOf (Txt.partition (bodyOf z) sl).1 /\
 (((Txt.partition (bodyOf z) sl).2.1=sl/\Good (Txt.partition (bodyOf z) sl).2.2/\2<=valOf (Txt.partition (bodyOf z) sl).2.2 /\
     Int.gcd (valOf (Txt.partition (bodyOf z) sl).1) (valOf (Txt.partition (bodyOf z) sl).2.2)=1/\f.2=valOf (Txt.partition (bodyOf z) sl).2.2) \/
   ((Txt.partition (bodyOf z) sl).2.1≠sl/\f.2=1))
def Xr (t:Int):Str:=if t<0 then mi++strN t.natAbs else strN t.natAbs
def ahf (t b:Int):Str:=if b=1 then Xr t else Xr t++sl++strN b.natAbs
end Tx
namespace L2
open PySem PySem.Spec PyProof.Rows Mth
theorem cdiv {j:Int} (h:0<j) (H:j<2 ^ 100) {i:Int}:J2 i j:=⟨by lia,Rq 8999 (by lia) H⟩
open PySem.Builtin PySem.Builtin.ObjectAttr
end L2
namespace Ord
open Bit
theorem u9:∀ W,W<16->parts (rooms W)=(List.range 16).filter (λ o=>decide (o &&& W=o)):=by decide +kernel
structure N7 (n:Nat) (has:Nat->Bool) (wd:Nat->Int) (wt:Nat->Bool) (b:Nat) (most heap:Int) (o:Nat):Prop where
 has:∀ r∈rooms o,r<n/\has r=true
 dI:∀ r,r<n->wt r=true->o.testBit r=b.testBit r
 most:((rooms o).length:Int)<=most
 gY:((rooms o).map wd).sum<=heap
def setOf (n:Nat) (p:Nat->Bool):Nat:=sumOf ((List.range n).filter p)
theorem cI (n:Nat) (p:Nat->Bool) (k:Nat):(setOf n p).testBit k=(decide (k<n) && p k):=by
 unfold setOf;rw [oG];by_cases h:k<n<;>cases e:p k<;>simp [h,e]
theorem qE (n:Nat) (p:Nat->Bool):setOf n p<2 ^ n:=IX λ r h=>aaK.mp (abT.mp h).1
theorem sr {n:Nat} (p:Nat->Bool) (H:n<=61):rooms (setOf n p)=(List.range n).filter p :=
 CN (λ r h=>by have:=aaK.mp (abT.mp h).1;lia) ((agz).filter _)
theorem LO {o k:Nat} (h:o<16) (H:4<=k):o.testBit k=false:=iP h H
structure O8 (n:Nat) (has:Nat->Bool) (wd:Nat->Int) (wt:Nat->Bool) (b:Nat) (most heap:Int) (o:Nat):Prop where
 dI:o &&& setOf n wt=b &&& setOf n wt
 most:((rooms o).length:Int)<=most
 gY:((rooms (o &&& setOf n has)).map wd).sum<=heap
section
variable {n:Nat} {has:Nat->Bool} {wd:Nat->Int} {wt:Nat->Bool} {b:Nat} {most heap:Int} {o:Nat}
theorem EX (c:o<2 ^ 61):o &&& setOf n has=o↔∀ r∈rooms o,r<n/\has r=true:=by
 constructor
 .
  intro e r d;have H:=(eD.mp d).2;rw [<- e,abS,cI] at H;simp only [abX,acG] at H;exact H.2
 .
  intro h;refine ab7 λ k=>?_;rw [abS,cI];by_cases b:k<61
  .
   cases e:o.testBit k with
   | false=>rfl
   | true =>
     obtain ⟨a,H⟩:=h k (eD.mpr ⟨b,e⟩);rw [aaS a,H];rfl
  . rw [iP c (by lia)];rfl
theorem lE:o &&& setOf n wt=b &&& setOf n wt↔∀ r,r<n->wt r=true->o.testBit r=b.testBit r:=by
 constructor
 .
  intro e r a c;have h:=acJ (λ x=>Nat.testBit x r) e;simp only [abS,cI,aaS a,c,afa] at h;exact h
 .
  intro h;refine ab7 λ k=>?_;rw [abS,abS,cI];by_cases H:k<n
  . cases e:wt k with
    | false=>simp
    | true=>rw [h k H e]
  . rw [aaR H];simp
theorem Jg (c:o<2 ^ 61):N7 n has wd wt b most heap o↔(o &&& setOf n has=o/\O8 n has wd wt b most heap o):=by
 constructor
 . rintro ⟨d,H,a,h⟩;have e:=(EX c).mpr d;exact ⟨e,⟨lE.mpr H,a,by rw [e];exact h⟩⟩
 . rintro ⟨e,H,a,h⟩;rw [e] at h;exact ⟨(EX c).mp e,lE.mp H,a,h⟩
end
end Ord
namespace L2
open PySem PySem.Spec PyProof.Rows Mth
variable {H:Hp}
section
variable {X:Cx}
inductive aaD (K:aF) (x:V) (lo:Option Int) (hi:Option Int) (H:Hp) (Q:VK):Prop
 | mk (a xs:_) (i:Nat) (_:x = .ref a) (_:cw K H a xs) (_:lo=some (i:Int)) (_:hi=none) (_:1<=i) (_:i<=xs.length) (_:∀ p,H p=none->Q (.ref p) (upd H p (.tup (xs.drop i))))
theorem FK:ZS X (aaD X.K):=by
 intro p s U H x v V t L l sl Q I R e j k h;obtain ⟨a,u,i,rfl,f,rfl,rfl,g,n,q⟩:=h;cases R;cases k;cases j;obtain ⟨B,r,d,m⟩:=I.tuple f;have c:=r.length;refine ⟨"tuple",_,slot_tuple_getitem.lookup,d.typeIs,getItem_tuple_from d e g (by rw [abK];lia) (⟨.ref s.heap.objs.size,_,I.laid (λ b o q=>aaF _ q) (aaE _) ?_,rfl,q _ (I.eB.fresh (aaE _))⟩) (by rw [abK];lia)⟩;refine ⟨by rw [List.length_drop];lia,B.drop i,r.drop i,⟨_,abW _ rfl,rfl,_,rfl⟩⟩
theorem Fh:∀ {n:List Int} {b:bB},Vals (n.map V.int) b->IntsAre b n
 | [],_,.nil => .nil
 | _::_,_,.cons ⟨t,e⟩ r=>by subst e;exact .cons _ _ (Fh r)
theorem Fx:∀ {n:List Int} {b:bB},IntsAre b n->Vals (n.map V.int) b
 | [],_,.nil => .nil
 | _::_,_,.cons _ _ r => .cons ⟨_,rfl⟩ (Fx r)
theorem zy:im X (.builtin "sorted") (λ xs H Q=>∃ (p:ak) (n:List Int),xs=[.ref p]/\aW X.K H p (n.map V.int)/\n.length<64/\∀ q (m:List Int),H q=none->m.Perm n->m.Pairwise (·<=·)->Q (.ref q) (upd H q (.lst (m.map V.int)))):=by
 intro c s U H xs v Q I r h;obtain ⟨p,n,rfl,j,f,q⟩:=h;obtain ⟨u,rfl,l⟩:=vals1 r;obtain rfl:=l;obtain ⟨B,R,k,t⟩:=I.list j;have i:=R.length;rw [Ea] at i;refine sorted_ints k.isList (Fh R) (by lia) λ o m A a d=>?_;obtain ⟨e,g⟩:=sortedAll_at s.heap B o;refine ⟨.ref (s.heap.objs.size+1),_,I.laid (λ b O q=>sortedAll_old q) (aei _) ?_,rfl,q _ m (I.eB.fresh (aei _)) a d⟩;have:=a.length_eq;exact ⟨by simp_all,o.toList,e,Fx A,g⟩
end
structure ck where
 bR:aH
 bG:Nat
 dE:aH
 failed:aH
 heap:Nat
def ig (K:aF) (H:Hp) (p:ak) (s:ck):Prop :=
 ∃ a c b,cw K H p [.ref a,aq s.bG,.ref c,.ref b,aq s.heap]/\cw K H a (s.bR.map aq)/\cw K H c (s.dE.map aq)/\cw K H b (s.failed.map aq)
theorem ig.same {K:aF} {e:Hp} {p:ak} {s:ck} (h:ig K H p s) (q:aE H e):ig K e p s:=by
 obtain ⟨f,i,g,a,b,c,d⟩:=h;exact ⟨f,i,g,q.tup a,q.tup b,q.tup c,q.tup d⟩
abbrev Yn:=bZ×Int×Int×Int
noncomputable def am.eT (m:am) (i:Nat):Option Yn:=(m.aI[i]?).getD none
def am.has (m:am) (i:Nat):Bool:=(m.eT i).isSome
def am.wd (m:am) (i:Nat):Int:=((m.eT i).map λ z=>z.2.1).getD 0
def am.dI (m:am) (i:Nat):Int:=((m.eT i).map λ z=>z.2.2.1).getD 0
def am.fails (m:am) (i:Nat):Int:=((m.eT i).map λ z=>z.2.2.2).getD 0
theorem oY {m:am} {i:Nat} (h:i<m.aI.length):m.aI[i]?=some (m.eT i):=by
 unfold am.eT;rw [aK h];rfl
def Ff:Option Yn->Bool->Nat->Nat->Prop
 | none,f,w,b=>f=false/\w=0/\b=0
 | some z,f,w,b=>(w:Int)<=z.2.2.1/\(b:Int)<=z.2.2.2/\(b=0\/(f=false/\w=0))
noncomputable def gN (l:aH) (i:Nat):Nat:=(l[i]?).getD 0
theorem Pu {l:aH} {i:Nat} (h:i<l.length):l[i]?=some (gN l i):=by
 unfold gN;rw [aK h];rfl
theorem uf {l:aH} {i:Nat} (h:i<l.length):uS (l.map aq) (i:Int)=some (aq (gN l i)):=bC (by rw [aah,Pu h];rfl)
structure cY (m:am) (s:ck):Prop where
 lb:s.bR.length=m.rows.length
 lw:s.dE.length=m.rows.length
 lf:s.failed.length=m.rows.length
 bG:s.bG<2 ^ m.rows.length
 most:((Bit.rooms s.bG).length:Int)<=m.most
 heap:(s.heap:Int)<=m.eO
 band:∀ i,i<m.rows.length->gN s.bR i+1<(m.rows.getD i []).length
 bE:∀ i,i<m.rows.length->Ff (m.eT i) (s.bG.testBit i) (gN s.dE i) (gN s.failed i)
def am.ws (m:am):Nat:=Ord.setOf m.rows.length m.has
def ck.wt (s:ck) (i:Nat):Bool:=decide (0<gN s.dE i)
def ck.held (s:ck):Nat:=Ord.setOf s.dE.length s.wt
def am.gY (m:am) (b:Nat):Int:=((Bit.rooms (b &&& m.ws)).map m.wd).sum
def am.J6 (m:am) (o:Nat) (heap:Int):Bool:=decide (((Bit.rooms o).length:Int)<=m.most) && decide (m.gY o<=heap)
def ck.Hc (m:am) (s:ck) (o:Nat):Bool:=decide (o &&& s.held=s.bG &&& s.held) && m.J6 o s.heap
def ck.orders (m:am) (s:ck):aH:=(Bit.parts (Bit.rooms m.ws)).filter (s.Hc m)
theorem rR {m:am} (h:m.rows.length<=4):m.ws<16:=aa6 (Ord.qE _ _) (acy (by decide) h)
section
variable (K:aF) (C:ak)
inductive Ch  (vs:aB) (H:Hp) (Q:VK) (_E:XK):Prop
 | mk (n:Nat) (_:vs=[aq n]) (_:n<2 ^ 61) (_:∀ H',aE H H'->Q (aq (Bit.rooms n).length) H')
inductive Gy  (vs:aB) (H:Hp) (Q:VK) (_E:XK):Prop
 | mk (p l:_) (_:vs=[.ref p]) (_:aW K H p (l.map aq)) (_:(∀ r∈l,r<=1000)) (_:Q (aq (Bit.sumOf l)) H)
inductive xR  (vs:aB) (H:Hp) (Q:VK) (_E:XK):Prop
 | mk (v z f w b:_) (_:vs=[v,.bl f,aq w,aq b]) (_:Dn K H (j6 z) v) (_:Ff z f w b) (_:∀ H',aE H H'->Q (.bl true) H')
inductive zC  (vs:aB) (H:Hp) (Q:VK) (_E:XK):Prop
 | mk (a fp m p s:_) (i:Nat) (_:vs=[.ref a,.ref p,aq i]) (_:aN K C H a fp m) (_:ig K H p s) (_:cY m s) (_:i<m.rows.length) (_:∀ H',aE H H'->Q (.bl true) H')
inductive Bn  (vs:aB) (H:Hp) (Q:VK) (_E:XK):Prop
 | mk (a fp m p s:_) (_:vs=[.ref a,.ref p]) (_:aN K C H a fp m) (_:ig K H p s) (_:cY m s) (_:∀ H',aE H H'->Q (.bl true) H')
inductive xJ  (vs:aB) (H:Hp) (Q:VK) (_E:XK):Prop
 | mk (a fp m p s:_) (_:vs=[.ref a,.ref p]) (_:aN K C H a fp m) (_:ig K H p s) (_:cY m s) (_:∀ H',aE H H'->Q .cN H')
inductive xO  (vs:aB) (H:Hp) (Q:VK) (_E:XK):Prop
 | mk (a fp m:_) (_:vs=[.ref a]) (_:aN K C H a fp m) (_:∀ H',aE H H'->Q (aq m.ws) H')
inductive DS  (vs:aB) (H:Hp) (Q:VK) (_E:XK):Prop
 | mk (a fp m:_) (b:Nat) (_:vs=[.ref a,aq b]) (_:aN K C H a fp m) (_:∀ H',aE H H'->Q (.int (m.gY b)) H')
inductive zh  (vs:aB) (H:Hp) (Q:VK) (_E:XK):Prop
 | mk (p s:_) (_:vs=[.ref p]) (_:ig K H p s) (_:s.dE.length<=4) (_:∀ H',aE H H'->Q (aq s.held) H')
inductive BZ  (vs:aB) (H:Hp) (Q:VK) (_E:XK):Prop
 | mk (a fp m:_) (o:Nat) (hp:Int) (_:vs=[.ref a,aq o,.int hp]) (_:aN K C H a fp m) (_:o<2 ^ 61) (_:∀ H',aE H H'->Q (.bl (m.J6 o hp)) H')
inductive yZ  (vs:aB) (H:Hp) (Q:VK) (_E:XK):Prop
 | mk (a fp m p s:_) (_:vs=[.ref a,.ref p]) (_:aN K C H a fp m) (_:ig K H p s) (_:cY m s) (_:∀ q H',H q=none->aE H H'->H' q=some (.lst ((s.orders m).map aq))->Q (.ref q) H')
end
theorem Dn.bE {K:aF} {v:V} {z:Yn} (h:Dn K H (j6 (some z)) v):∃ p v1,v = .ref p/\cw K H p [v1,.int z.2.1,.int z.2.2.1,.int z.2.2.2]/\Dn K H (fM z.1) v1:=by
 obtain ⟨p,x,rfl,d,t,r,rfl,e,T,R,rfl,E,i,f,rfl,a,j,g,rfl,b,c⟩:=h;subst E a b c;exact ⟨p,t,rfl,d,e⟩
theorem DX {l:aH} {x j:Nat} (h:j<l.length):gN (l++[x]) j=gN l j:=by
 unfold gN;rw [aaO h]
theorem Pj {l:aH} {x:Nat}:gN (l++[x]) l.length=x:=by
 unfold gN;rw [abM (aaE _),afU];rfl
end L2
namespace Ord
open Bit
theorem Ww:∀ x,x<16->∀ y,y<16->x - (x &&& y)=x ^^^ (x &&& y):=by decide +kernel
noncomputable def off (x y:Nat):Nat:=x - (x &&& y)
theorem i7 {x y:Nat} (h:x<16) (H:y<16) (k:Nat):(off x y).testBit k=(x.testBit k && !y.testBit k):=by
 unfold off;rw [Ww x h y H,Nat.testBit_xor,abS];cases x.testBit k<;>cases y.testBit k<;>rfl
theorem Qo {x y n:Nat} (h:x<2 ^ n):off x y<2 ^ n:=abe (Nat.sub_le _ _) h
theorem yC {n x:Nat} (H:n<=4) (h:x<2 ^ n):x<16:=aa6 h (acy (by decide) H)
theorem less {w:Nat->Int} (H:∀ r,0<=w r) {p q:Nat->Bool} (h:∀ x,p x=true->q x=true):∀ l:aH,(l.filter p).length<=(l.filter q).length/\((l.filter p).map w).sum<=((l.filter q).map w).sum
 | []=>⟨aaE _,adr _⟩
 | x::l=>by
   obtain ⟨a,b⟩:=less H h l;have:=H x;by_cases c:p x=true
   . simp_all
   .
    by_cases d:q x=true
    . rw [aeC c,agw d];simp only [ac8,ab8,agv];lia
    . rw [aeC c,aeC d];exact ⟨a,b⟩
theorem vC {w:Nat->Int} (H:∀ r,0<=w r) {a b:Nat} (h:∀ x,a.testBit x=true->b.testBit x=true):(rooms a).length<=(rooms b).length/\((rooms a).map w).sum<=((rooms b).map w).sum:=less H h _
structure Hd where
 n:Nat
 has:Nat->Bool
 wd:Nat->Int
 wt:Nat->Bool
 b:Nat
 most:Int
 heap:Int
def Hd.ws (h:Hd):Nat:=setOf h.n h.has
def Hd.held (h:Hd):Nat:=setOf h.n h.wt
def Hd.gY (h:Hd) (o:Nat):Int:=((rooms (o &&& h.ws)).map h.wd).sum
def Hd.J6 (h:Hd) (o:Nat):Bool:=decide (((rooms o).length:Int)<=h.most) && decide (h.gY o<=h.heap)
def Hd.step (h:Hd) (o r:Nat):Nat:=if h.J6 (o ||| 2 ^ r) then o ||| 2 ^ r else o
def Hd.first (h:Hd):Nat:=h.b &&& h.held
def Hd.go (h:Hd) (q:Nat):Nat:=(rooms (off (q &&& h.ws) h.held)).foldl h.step h.first
def Hd.may (h:Hd) (q r:Nat):Bool:=q.testBit r && h.has r && !h.wt r
structure Hd.Ok (h:Hd):Prop where
 n4:h.n<=4
 bG:h.b<2 ^ h.n
 sub:∀ r,h.b.testBit r=true->h.has r=true
 most:((rooms h.b).length:Int)<=h.most
 wd0:∀ r,0<=h.wd r
section
variable {h:Hd} {i r o:Nat}
structure Hd.In (h:Hd) (i o:Nat):Prop where
 sub:∀ r,o.testBit r=true->r<h.n/\h.has r=true
 held:∀ r,r<h.n->h.wt r=true->o.testBit r=h.b.testBit r
 aiU:∀ r,i<=r->h.wt r=false->o.testBit r=false
def Hd.Law (h:Hd) (o:Nat):Prop:=N7 h.n h.has h.wd h.wt h.b h.most h.heap o
end
end Ord
namespace L2
open PySem PySem.Spec PyProof.Rows Mth
variable {D:L2.Ends} {H:Hp} {E8 a2 a3 a4 a5 a6 a7 a8 a9:TS}
theorem pX (x y:Nat):Builtin.bitAnd (x:Int) (Builtin.bitNot (y:Int))=((Ord.off x y:Nat):Int):=by
 have e:Builtin.bitNot (Builtin.bitNot y)=y:=by unfold Builtin.bitNot;lia
 have n:¬ 0<=Builtin.bitNot y:=by unfold Builtin.bitNot;lia
 have p:0<=(x:Int):=ac4 _;unfold Builtin.bitAnd;rw [aaR n];show (x:Int) - _=_;rw [e,acM,acM];have:=Nat.and_le_left (n:=x) (m:=y);unfold Ord.off;lia
def Uv (m:am) (s:ck):Ord.Hd:=⟨m.rows.length,m.has,m.wd,s.wt,s.bG,m.most,s.heap⟩
theorem HA:bootBuiltins "sorted" = some (.builtin "sorted"):=boot_sorted
def ck.may (m:am) (s:ck) (o:Nat):Nat:=Ord.setOf m.rows.length λ r=>o.testBit r && !s.bG.testBit r && decide ((gN s.failed r:Int)<m.fails r)
def ck.jj (m:am) (s:ck) (b i:Nat):Nat:=if s.bG.testBit i=b.testBit i then gN s.dE i - 1 else (m.dI i).toNat
def ck.j5 (s:ck) (b o i:Nat):Nat:=if o.testBit i then gN s.failed i+1 else if b.testBit i then 0 else gN s.failed i
def ck.mP (m:am) (s:ck) (b:Nat):Int:=min m.eO ((s.heap:Int) - m.gY b+m.load)
def ck.behind (m:am) (s:ck) (b:aH) (o O:Nat):ck :=
 ⟨b,Ord.off o O,(List.range m.rows.length).map (s.jj m (Ord.off o O)),(List.range m.rows.length).map (s.j5 (Ord.off o O) O),(s.mP m (Ord.off o O)).toNat⟩
section
variable (K:aF) (C:ak)
inductive EH  (vs:aB) (H:Hp) (Q:VK) (_E:XK):Prop
 | mk (a fp m p s:_) (o:Nat) (_:vs=[.ref a,.ref p,aq o]) (_:aN K C H a fp m) (_:ig K H p s) (_:cY m s) (_:o &&& m.ws=o) (_:∀ H',aE H H'->Q (aq (s.may m o)) H')
inductive wZ  (vs:aB) (H:Hp) (Q:VK) (_E:XK):Prop
 | mk (a fp m p s:_) (b i:Nat) (_:vs=[.ref a,.ref p,aq b,aq i]) (_:aN K C H a fp m) (_:ig K H p s) (_:cY m s) (_:i<m.rows.length) (_:(s.bG.testBit i≠b.testBit i->m.has i=true)) (_:0<=m.dI i) (_:Q (aq (s.jj m b i)) H)
inductive tQ  (vs:aB) (H:Hp) (Q:VK) (_E:XK):Prop
 | mk (p s:_) (b out i:Nat) (_:vs=[.ref p,aq b,aq out,aq i]) (_:ig K H p s) (_:i<s.failed.length) (_:Q (aq (s.j5 b out i)) H)
inductive Hn  (vs:aB) (H:Hp) (Q:VK) (_E:XK):Prop
 | mk (a fp m p s:_) (o out:Nat) (_:vs=[.ref a,.ref p,aq o,aq out]) (_:aN K C H a fp m) (_:ig K H p s) (_:cY m s) (_:(∀ i,s.bG.testBit i≠(Ord.off o out).testBit i->m.has i=true)) (_:(∀ i,0<=m.dI i)) (_:0<=s.mP m (Ord.off o out)) (_:∀ q pw pf H',aE H H'->H' q=some (.tup [aq (Ord.off o out),.ref pw,.ref pf,aq (s.mP m (Ord.off o out)).toNat])->H' pw=some (.tup (((List.range m.rows.length).map (s.jj m (Ord.off o out))).map aq))->H' pf=some (.tup (((List.range m.rows.length).map (s.j5 (Ord.off o out) out)).map aq))->Q (.ref q) H')
end
theorem OO {m:am} {s:ck} {o:Nat} (b:m.rows.length<=4) (ok:cY m s) (c:o &&& m.ws=o) :
   Bit.sumOf ((Bit.rooms (Ord.off o s.bG)).filter λ r=>decide ((gN s.failed r:Int)<m.fails r))=s.may m o:=by
 have l:o<16:=by rw [<- c];exact abe afe (rR b)
 have L:o<2 ^ m.rows.length:=by rw [<- c];exact abe afe (Ord.qE _ _)
 refine ab7 λ k=>?_;rw [Bit.oG,ck.may,Ord.cI,adC,acG,abT,Bit.eD,Ord.i7 l (Ord.yC b ok.bG)];simp only [abX,acG];constructor
 .
  rintro ⟨⟨Z,h,H⟩,a⟩;refine ⟨?_,⟨h,H⟩,a⟩;by_cases q:k<m.rows.length
  . exact q
  . rw [Bit.iP L (by lia)] at h;cases h
 . rintro ⟨d,⟨h,H⟩,a⟩;exact ⟨⟨by lia,h,H⟩,a⟩
theorem HJ {m:am} {o r:Nat} (H:o &&& m.ws=o) (h:o.testBit r=true):r<m.rows.length/\m.has r=true:=by
 rw [<- H,abS,am.ws,Ord.cI] at h;simp only [abX,acG] at h;exact h.2
theorem vL {m:am} {r:Nat} (h:m.has r=true):∃ z,m.eT r=some z:=aew.mp h
theorem nY {f:Nat->Nat} {n i:Nat} (h:i<n):gN ((List.range n).map f) i=f i:=by
 unfold gN;rw [aah,afx h];rfl
structure cT (m:am) (s:ck) (o out:Nat):Prop where
 h4:m.rows.length<=4
 ok:cY m s
 Yy:(Uv m s).Law o
 l7:o<16
 Vh:out<16
 sub:∀ r,out.testBit r=true->o.testBit r=true/\s.bG.testBit r=false/\(gN s.failed r:Int)<m.fails r
 wd0:∀ r,0<=m.wd r
 OI:∀ r,0<=m.dI r
 abA:0<=m.eO
 Xi:0<=m.load
section
variable {m:am} {s:ck} {o out r:Nat}
theorem cT.bit (t:cT m s o out) (r:Nat):(Ord.off o out).testBit r=(o.testBit r && !out.testBit r):=Ord.i7 t.l7 t.Vh r
theorem cT.O5 (t:cT m s o out) (h:o.testBit r=true):r<m.rows.length/\m.has r=true:=by
 have H:r<61:=by
   by_cases q:r<61
   . exact q
   . rw [Ord.LO t.l7 (by lia)] at h;cases h
 exact t.Yy.has r (Bit.eD.mpr ⟨H,h⟩)
theorem cT.Sh (t:cT m s o out) (h:(Ord.off o out).testBit r=true):o.testBit r=true/\out.testBit r=false:=by
 rw [t.bit] at h;simp only [abX,Bool.not_eq_true'] at h;exact h
theorem cT.has (t:cT m s o out) (h:s.bG.testBit r≠(Ord.off o out).testBit r):m.has r=true:=by
 cases a:(Ord.off o out).testBit r with
 | true=>exact (t.O5 (t.Sh a).1).2
 | false =>
   rw [a] at h;have H:s.bG.testBit r=true:=by cases q:s.bG.testBit r with|true=>rfl|false=>exact absurd q h
   have b:r<m.rows.length:=by
     by_cases q:r<m.rows.length
     . exact q
     . rw [Bit.iP t.ok.bG (by lia)] at H;cases H
   have:=t.ok.bE r b;unfold am.has;cases e:m.eT r with
   | some z=>rfl
   | none=>rw [e] at this;rw [this.1] at H;cases H
theorem cT.lit (t:cT m s o out) (h:out.testBit r=true):gN s.dE r=0/\(Ord.off o out).testBit r=false:=by
 obtain ⟨H,a,b⟩:=t.sub r h;constructor
 .
  by_cases w:gN s.dE r=0
  . exact w
  . have e:o.testBit r=s.bG.testBit r:=t.Yy.dI r ((t.O5 H).1) (aaS (by lia));rw [H,a] at e;cases e
 . rw [t.bit,h];simp
theorem cT.fits (t:cT m s o out) (f:r<m.rows.length):Ff (m.eT r) ((Ord.off o out).testBit r) (s.jj m (Ord.off o out) r) (s.j5 (Ord.off o out) out r):=by
 have O:=t.ok.bE r f;cases e:m.eT r with
 | none =>
   rw [e] at O;obtain ⟨b,c,a⟩:=O;have n:m.has r=false:=by unfold am.has;rw [e];rfl
   have H:(Ord.off o out).testBit r=false:=by
     cases q:(Ord.off o out).testBit r with
     | false=>rfl
     | true=>rw [(t.O5 (t.Sh q).1).2] at n;cases n
   have h:out.testBit r=false:=by
     cases q:out.testBit r with
     | false=>rfl
     | true=>rw [(t.O5 (t.sub r q).1).2] at n;cases n
   refine ⟨H,?_,?_⟩
   . unfold ck.jj;rw [b,H,abp rfl,c]
   . unfold ck.j5;rw [h,H,a];rfl
 | some z =>
   rw [e] at O;obtain ⟨b,c,a⟩:=O;have d:m.dI r=z.2.2.1:=by unfold am.dI;rw [e];rfl
   have i:m.fails r=z.2.2.2:=by unfold am.fails;rw [e];rfl
   refine ⟨?_,?_,?_⟩
   . unfold ck.jj;split
     . lia
     . rw [aev (t.OI r),d];exact adr _
   .
    unfold ck.j5;split
    . rename_i h
      have:=(t.sub r h).2.2;lia
    . split<;>lia
   .
    cases h:out.testBit r with
    | true =>
      obtain ⟨L,l⟩:=t.lit h;refine .inr ⟨l,?_⟩;unfold ck.jj;rw [l,(t.sub r h).2.1,abp rfl,L]
    | false =>
      cases H:(Ord.off o out).testBit r with
      | true=>exact .inl (by unfold ck.j5;rw [h,H];rfl)
      | false =>
        have E:s.j5 (Ord.off o out) out r=gN s.failed r:=by unfold ck.j5;rw [h,H];rfl
        rw [E];rcases a with q|⟨Q,g⟩
        . exact .inl q
        . refine .inr ⟨rfl,?_⟩;unfold ck.jj;rw [Q,H,abp rfl,g]
theorem cT.less (t:cT m s o out):(Bit.rooms (Ord.off o out)).length<=(Bit.rooms o).length/\((Bit.rooms (Ord.off o out)).map m.wd).sum<=((Bit.rooms o).map m.wd).sum :=
 Ord.vC t.wd0 λ Z h=>(t.Sh h).1
theorem cT.and (t:cT m s o out):Ord.off o out &&& m.ws=Ord.off o out:=by
 refine ab7 λ k=>?_;rw [abS,am.ws,Ord.cI];cases e:(Ord.off o out).testBit k with
 | false=>rfl
 | true =>
   obtain ⟨a,b⟩:=t.O5 (t.Sh e).1;rw [aaS a,b];rfl
theorem cT.gY (t:cT m s o out):m.gY (Ord.off o out)=((Bit.rooms (Ord.off o out)).map m.wd).sum:=by
 unfold am.gY;rw [t.and]
theorem cT.Nx (t:cT m s o out):((Bit.rooms (Ord.off o out)).map m.wd).sum<=(s.heap:Int):=by
 have:=t.less.2;have q:((Bit.rooms o).map m.wd).sum<=s.heap:=t.Yy.gY;lia
theorem cT.N0 (t:cT m s o out):0<=s.mP m (Ord.off o out):=by
 have:=t.Nx;have:=t.abA;have:=t.Xi;unfold ck.mP;rw [t.gY];lia
theorem cT.lt (t:cT m s o out):Ord.off o out<2 ^ m.rows.length:=ae0 _ λ k h=>by
 cases e:(Ord.off o out).testBit k with
 | false=>rfl
 | true=>have:=(t.O5 (t.Sh e).1).1;lia
theorem cT.next (t:cT m s o out) {B:aH} (l:B.length=m.rows.length) (H:∀ i,i<m.rows.length->gN B i+1<(m.rows.getD i []).length):cY m (s.behind m B o out):=by
 refine ⟨l,by simp [ck.behind],by simp [ck.behind],t.lt,?_,?_,H,λ i h=>?_⟩
 .
  have a:=t.less.1;have b:((Bit.rooms o).length)<=m.most:=t.Yy.most;show ((Bit.rooms (Ord.off o out)).length)<=m.most;lia
 .
  show (((s.mP m (Ord.off o out)).toNat:Nat))<=m.eO;rw [aev t.N0];unfold ck.mP;lia
 . show Ff (m.eT i) ((Ord.off o out).testBit i) (gN ((List.range m.rows.length).map (s.jj m (Ord.off o out))) i) (gN ((List.range m.rows.length).map (s.j5 (Ord.off o out) out)) i);rw [nY h,nY h];exact t.fits h
end
abbrev Pr:=bZ×bZ
noncomputable def fQ (D:List Pr):Int×Int:=D.foldl (λ s d=>(s.1 * (d.1.2 * d.2.2)+d.1.1 * d.2.1 * s.2,s.2 * (d.1.2 * d.2.2))) (0,1)
theorem rH (D:List Pr) (d:Pr):fQ (D++[d])=((fQ D).1 * (d.1.2 * d.2.2)+d.1.1 * d.2.1 * (fQ D).2,(fQ D).2 * (d.1.2 * d.2.2)):=by
 unfold fQ;rw [adl];rfl
structure AO (n k:Nat) (d:Pr):Prop where
 a:eX n d.1
 b:eX k d.2
theorem zT (D:List Pr) (h:∀ d∈D,AO 900 900 d):∀ j,j<=D.length->Bd (1802 * j+2) (fQ (D.take j)).1/\Bd (1800 * j+1) (fQ (D.take j)).2/\0<(fQ (D.take j)).2
 | 0,_=>⟨by show Int.natAbs 0<_;decide,by show Int.natAbs 1<_;decide,by show (0:Int)<1;decide⟩
 | j+1,f=>by
   obtain ⟨a,b,c⟩:=zT D h j (by lia);have H:=h D[j] (aaH (by lia));have E:D.take (j+1)=D.take j++[D[j]]:=by rw [acI,aK (by lia)];rfl
   rw [E,rH];generalize D[j]=d at H;generalize fQ (D.take j)=s at a b c;have B:Bd 1800 (d.1.2 * d.2.2):=(H.a.b.mul H.b.b).mono (by decide);have e:Bd 1800 (d.1.1 * d.2.1):=(H.a.t.mul H.b.t).mono (by decide);refine ⟨?_,(b.mul B).mono (by lia),adf c (adf H.a.p H.b.p)⟩;exact ((a.mul B).add ((e.mul b).mono (by lia))).mono (by lia)
theorem LH {D:List Pr} (h:∀ d∈D,AO 900 900 d):0<(fQ D).2:=by
 have:=(zT D h D.length (aaE _)).2.2;rw [aa4] at this;exact this
theorem vk {n:Nat}:∀ (es D:List Pr) {k:Nat},(∀ d∈es,Bd n (d.1.2 * d.2.2))->Bd k (fQ D).2->Bd (k+n * es.length) (fQ (D++es)).2
 | [],D,k,_,h=>by rw [ac7];exact h.mono (by lia)
 | e::es,D,k,H,h=>by
   have E:D++e::es=(D++[e])++es:=by rw [ae7];rfl
   rw [E];have a:Bd (k+n) (fQ (D++[e])).2:=by
     rw [rH];exact h.mul (H e aaZ)
   have:=vk es (D++[e]) (λ d b=>H d (aaB _ b)) a;refine this.mono ?_;rw [ac8,Nat.mul_succ];lia
theorem Tl {t b t' b':Int} (a:0<b) (H:0<b') (h:t * b'=t' * b):nf t b=nf t' b':=by
 have F:=jf (t:=t) a;have G:=jf (t:=t') H;have C:=F.yK;have d:=G.yK;have p:=F.pos;have c:=G.pos;have k:=F.Yk;have K:=G.Yk;generalize nf t b=u at C p k |-;generalize nf t' b'=v at d c K |-;have e:u.1 * v.2=v.1 * u.2:=by
   refine aem (aeO (adf a H)) ?_
   grind
 have E:=Int.dvd_antisymm (ady p) (ady c) (ve ⟨v.1,by rw [e,afX]⟩ k) (ve ⟨u.1,by rw [<- e,afX]⟩ K);rw [<- E] at e;exact Prod.ext (aem (aeO p) e) E
noncomputable abbrev Lh (d:Pr):PyData:=.tuple [fM d.1,fM d.2]
theorem vd (d:Pr):f7 (Lh d)=true:=by simp [Lh,fM,f7]
theorem vO (D:List Pr):∀ e∈D.map Lh,f7 e=true:=λ e h=>by
 obtain ⟨d,Z,rfl⟩:=abv.mp h;exact vd d
inductive Qm (K:aF) (vs:aB) (H:Hp) (Q:VK) (_E:XK):Prop
 | mk (p xs ds:_) (_:vs=[.ref p]) (_:aW K H p xs) (_:bP K H (ds.map Lh) xs) (_:(∀ d∈ds,AO 900 900 d)) (_:ds.length<=10) (_:Bd 4000 (fQ ds).2) (_:∀ q H',aE H H'->H' q=some (.tup [.int (nf (fQ ds).1 (fQ ds).2).1,.int (nf (fQ ds).1 (fQ ds).2).2])->Q (.ref q) H')
def gI (m:am) (i:Nat) (e:List bZ):List Pr:=(List.range e.length).map λ j=>(m.share i j,e.getD j (0,1))
def gi (m:am) (i:Nat) (e:List bZ) (w:bZ) (fired:Bool):List Pr:=gI m i e++[(m.dU i,w)]++(if fired then [((1,1),((m.aI[i]?).getD none).map (·.1) |>.getD (0,1))] else [])
def mj (m:am) (i:Nat) (e:List bZ) (w:bZ) (fired:Bool):bZ:=nf (fQ (gi m i e w fired)).1 (fQ (gi m i e w fired)).2
inductive Ha (K:aF) (C:ak) (vs:aB) (H:Hp) (Q:VK) (_E:XK):Prop
 | mk (a fp m:_) (i:Nat) (pa Ug eQ wv w fired:_) (_:vs=[.ref a,aq i,.ref pa,wv,.bl fired]) (_:aN K C H a fp m) (_:i<m.rows.length) (_:aW K H pa Ug) (_:bP K H (eQ.map fM) Ug) (_:eQ.length=m.rows.length) (_:(∀ f∈eQ,eX 120 f)) (_:Dn K H (fM w) wv) (_:eX 120 w) (_:(fired=true->∃ z,m.aI[i]?=some (some z))) (_:∀ q H',aE H H'->H' q=some (.tup [.int (mj m i eQ w fired).1,.int (mj m i eQ w fired).2])->Q (.ref q) H')
theorem J0 {m:am} (w:m.Wf) (h:m.rows.length<=4) (i j:Nat):eX 605 (m.share i j):=by
 unfold am.share;split
 . exact (w.gX i _).mono (by lia)
 . exact (w.cG i j).mono (by decide)
theorem uk {m:am} {i:Nat} {e:List bZ} {w:bZ} {fired:Bool} (W:m.Wf) (l:m.rows.length<=4) (L:e.length=m.rows.length) (n:∀ f∈e,eX 120 f) (hw:eX 120 w) (o:fired=true->∃ z,m.aI[i]?=some (some z)) :
   (∀ d∈gi m i e w fired,AO 900 900 d)/\(gi m i e w fired).length<=10/\Bd 4000 (fQ (gi m i e w fired)).2:=by
 have r:∀ d∈gI m i e,AO 605 120 d:=λ d H=>by
   obtain ⟨j,c,rfl⟩:=abv.mp H;have c:=aaK.mp c;refine ⟨J0 W l i j,?_⟩;rw [YQ,aK c];exact n _ (aaH c)
 have p:(gI m i e).length<=4:=by unfold gI;rw [Ea,aaA];lia
 have s:AO 100 120 (m.dU i,w):=⟨W.dU i,hw⟩
 have k:=by show Int.natAbs 1<2 ^ 1;decide
 have B:Bd (2901+220 * 1) (fQ (gI m i e++[(m.dU i,w)])).2:=vk [(m.dU i,w)] (gI m i e) (λ d H=>by rw [aac.mp H];exact s.a.b.mul s.b.b) ((vk (gI m i e) [] (λ d H=>(r d H).a.b.mul (r d H).b.b) k).mono (by lia));unfold gi;cases fired with
 | false =>
   rw [abC aa3,ac7];refine ⟨λ d H=>?_,by rw [aas];simp only [ac8,aga];lia,B.mono (by decide)⟩;rcases aaU.mp H with h|h
   . exact ⟨(r d h).a.mono (by decide),(r d h).b.mono (by decide)⟩
   . rw [aac.mp h];exact ⟨s.a.mono (by decide),s.b.mono (by decide)⟩
 | true =>
   obtain ⟨z,E⟩:=o rfl;rw [abp rfl,E];have S:AO 2 100 (((1,1),z.1)):=⟨⟨by show Int.natAbs 1<2 ^ 2;decide,by show Int.natAbs 1<2 ^ 2;decide,by show 0<1;decide⟩,W.aI z (aae E)⟩
   have g:Bd (3121+102 * 1) (fQ ((gI m i e++[(m.dU i,w)])++[((1,1),z.1)])).2:=vk [((1,1),z.1)] _ (λ d H=>by rw [aac.mp H];exact S.a.b.mul S.b.b) B;refine ⟨λ d H=>?_,by rw [aas,aas];simp only [ac8,aga];lia,g.mono (by decide)⟩;rcases aaU.mp H with h|h
   . rcases aaU.mp h with h|h
     . exact ⟨(r d h).a.mono (by decide),(r d h).b.mono (by decide)⟩
     . rw [aac.mp h];exact ⟨s.a.mono (by decide),s.b.mono (by decide)⟩
   . rw [aac.mp h];exact ⟨S.a.mono (by decide),S.b.mono (by decide)⟩
noncomputable def O7 (f:Nat->Int):Nat->Int
 | 0=>0
 | t+1=>O7 f t+f t
noncomputable def bV.skT (t:bV) (i:Nat):Int:=((t.mX[i]?).map (·.1)).getD 0
noncomputable def bV.flT (t:bV) (i j:Nat):Int:=if i=j then 0 else (t.de i j).getD 0
section
variable {X:Cx}
def aaT (K:aF) (t:TA):TI:=λ U H R=>t U H λ v h=>∃ a,v=[.ref a]/\(((∃ x,aW K h a x)/\R (Io (aW K) a) h)\/((∃ x,cw K h a x)/\R (Io (cw K) a) h))
theorem Iv {a:Expr} {t:TA} {p g C:Pos} {E:List Expr} {J:Nat} (w:Gl X "enumerate") (x:X.mg "enumerate" = none) (v:PA X [a] t) (y:autoParam (starEach [a] X.env=[(false,eval a X.env)]) za_._auto_1) :
   PI X (.Tuple E J C) (.Call (.Name "enumerate" p) [a] [] g) (aaT X.K t):=by
 intro f s U H R I h;refine Call_ (ke I w x mH ?_ Qj Q4);refine acH (dC (v g f s U H _ I h) λ M S ⟨V,n,i,A,Q⟩=>?_) y rfl;obtain ⟨a,e,q⟩:=Q;subst e;cases A with
 | cons r D =>
   cases D;obtain rfl:=r;have F:∀ c∈[S.heap.objs.size+1,S.heap.objs.size],S.heap.objs.size<=c:=λ c b=>by
     simp only [aay,aaj,acd] at b;rcases b with rfl|rfl
     . exact aei _
     . exact aaE _
   rcases q with ⟨⟨L,j⟩,q⟩|⟨⟨L,j⟩,q⟩
   . obtain ⟨B,G,d,o⟩:=i.list j;have l:a<S.heap.objs.size:=by obtain ⟨Z,e,Z⟩:=d.isList;exact aba e
     exact call_enumerate_list d.isList λ u z m N k=>aeu z (⟨S.heap.objs.size+1,[S.heap.objs.size+1,S.heap.objs.size],_,_,n,rfl,i.kept k,AR (afc _) (abN (aeI l)) (abN l),⟨⟨_,z⟩,m⟩,λ c b=>i.Ca (F c b) (i.eB.fresh (F c b)),q⟩)
   . obtain ⟨B,G,d,o⟩:=i.tuple j;have l:=d.lt;exact vE d λ u z m k=>aeu z (⟨S.heap.objs.size+1,[S.heap.objs.size+1,S.heap.objs.size],_,_,n,rfl,i.kept k,AZ (afc _) (abN (aeI l)) (abN l),⟨⟨_,z⟩,m⟩,λ c b=>i.Ca (F c b) (i.eB.fresh (F c b)),q⟩)
end
noncomputable def dF (m:am) (b:aH) (d:Nat):List bZ:=(List.range b.length).map λ j=>(m.rows.getD j []).getD (b.getD j 0+d) (0,1)
noncomputable def jc (m:am) (i:Nat):bZ×bZ×bZ:=(m.bf[i]?).getD ((0,1),(0,1),(0,1))
def jF (m:am) (i:Nat) (b:aH) (fired:Bool):bZ:=mj m i (dF m b 0) (jc m i).2.1 fired
def jG (m:am) (i:Nat) (b:aH) (fired:Bool):bZ:=mj m i (dF m b 1) (jc m i).2.2 fired
inductive Ny (K:aF) (C:ak) (vs:aB) (H:Hp) (Q:VK) (_E:XK):Prop
 | mk (a fp m:_) (i:Nat) (pb bs fired:_) (_:vs=[.ref a,aq i,.ref pb,.bl fired]) (_:aN K C H a fp m) (_:i<m.rows.length) (_:(aW K H pb (bs.map aq)\/cw K H pb (bs.map aq))) (_:bs.length=m.rows.length) (_:(∀ j,j<m.rows.length->bs.getD j 0+1<(m.rows.getD j []).length)) (_:(fired=true->∃ z,m.aI[i]?=some (some z))) (_:∀ q q1 q2 H',aE H H'->H' q=some (.tup [.ref q1,.ref q2])->H' q1=some (.tup [.int (jF m i bs fired).1,.int (jF m i bs fired).2])->H' q2=some (.tup [.int (jG m i bs fired).1,.int (jG m i bs fired).2])->Q (.ref q) H')
theorem oI {m:am} {b:aH} (w:m.Wf) (L:b.length=m.rows.length) (a:∀ j,j<m.rows.length->b.getD j 0+1<(m.rows.getD j []).length) {d:Nat} (e:d<=1):∀ f∈dF m b d,eX 120 f:=λ f c=>by
 obtain ⟨j,h,rfl⟩:=abv.mp c;have h:=aaK.mp h;have q:=a j (by lia);have H:j<m.rows.length:=by lia
 rw [YQ (l:=m.rows),aK H] at q |-;rw [YQ,aK (by lia)];exact (w.rows m.rows[j] (aaH H) _ (aaH _)).mono (by decide)
def bV.kT (t:bV) (n i j:Nat):Int:=if j=i then 12 - t.skT i - O7 (t.flT i) n else t.flT i j
def bV.X (t:bV) (n i:Nat) (x:Nat->Int) (a:Int):Int:=O7 (λ j=>t.kT n i j * x j) n+t.skT i * a
noncomputable def bV.mrk (t:bV) (j b:Nat):Int:=(t.marks.getD j []).getD b 0
def bV.xl (t:bV) (b:aH) (d j:Nat):Int:=t.mrk j (b.getD j 0+d)
noncomputable def bV.Vz (t:bV) (i:Nat):Int×Int×Int:=(t.mX[i]?).getD (0,0,0)
noncomputable def bV.KH (t:bV) (i:Nat):Int:=(((t.aI[i]?).getD none).map (·.1)).getD 0
def bV.sX (t:bV) (n i:Nat) (b:aH) (d:Nat) (x:Int) (fired:Bool):Int:=t.X n i (t.xl b d) x+(if fired then 12 * t.KH i else 0)
theorem fJ {a:TS} {U:L2.St} (h:let d:L2.Ends:=D;let z:L2.St:=U;let R:TS:=a3;let r:TS:=bg a2 R;bg a r d z H):(bg a (bg a2 (a3))) D U H:=h
theorem gb {a:TS} {U:L2.St} (h:let d:L2.Ends:=D;let z:L2.St:=U;let b:TS:=a4;let R:TS:=bg a3 b;let r:TS:=bg a2 R;bg a r d z H):(bg a (bg a2 (bg a3 (a4)))) D U H:=h
theorem nA {a:TS} {U:L2.St} (h:let d:L2.Ends:=D;let z:L2.St:=U;let c:TS:=a5;let b:TS:=bg a4 c;let R:TS:=bg a3 b;let r:TS:=bg a2 R;bg a r d z H):(bg a (bg a2 (bg a3 (bg a4 (a5))))) D U H:=h
theorem nX {a:TS} {U:L2.St} (h:let d:L2.Ends:=D;let z:L2.St:=U;let e:TS:=a6;let c:TS:=bg a5 e;let b:TS:=bg a4 c;let R:TS:=bg a3 b;let r:TS:=bg a2 R;bg a r d z H):(bg a (bg a2 (bg a3 (bg a4 (bg a5 (a6)))))) D U H:=h
theorem KC {a:TS} {U:L2.St} (h:let d:L2.Ends:=D;let z:L2.St:=U;let f:TS:=a7;let e:TS:=bg a6 f;let c:TS:=bg a5 e;let b:TS:=bg a4 c;let R:TS:=bg a3 b;let r:TS:=bg a2 R;bg a r d z H):(bg a (bg a2 (bg a3 (bg a4 (bg a5 (bg a6 (a7))))))) D U H:=h
theorem Bs {a:TS} {U:L2.St} (h:let d:L2.Ends:=D;let z:L2.St:=U;let g:TS:=a8;let f:TS:=bg a7 g;let e:TS:=bg a6 f;let c:TS:=bg a5 e;let b:TS:=bg a4 c;let R:TS:=bg a3 b;let r:TS:=bg a2 R;bg a r d z H):(bg a (bg a2 (bg a3 (bg a4 (bg a5 (bg a6 (bg a7 (a8)))))))) D U H:=h
theorem IM {a:TS} {U:L2.St} (h:let d:L2.Ends:=D;let z:L2.St:=U;let i:TS:=a9;let g:TS:=bg a8 i;let f:TS:=bg a7 g;let e:TS:=bg a6 f;let c:TS:=bg a5 e;let b:TS:=bg a4 c;let R:TS:=bg a3 b;let r:TS:=bg a2 R;bg a r d z H):(bg a (bg a2 (bg a3 (bg a4 (bg a5 (bg a6 (bg a7 (bg a8 (a9))))))))) D U H:=h
theorem RO {a:TS} {U:L2.St} (h:let d:L2.Ends:=D;let z:L2.St:=U;let j:TS:=E8;let i:TS:=bg a9 j;let g:TS:=bg a8 i;let f:TS:=bg a7 g;let e:TS:=bg a6 f;let c:TS:=bg a5 e;let b:TS:=bg a4 c;let R:TS:=bg a3 b;let r:TS:=bg a2 R;bg a r d z H):(bg a (bg a2 (bg a3 (bg a4 (bg a5 (bg a6 (bg a7 (bg a8 (bg a9 (E8)))))))))) D U H:=h
theorem GW {o m n S a A b c e f:TS} {U:L2.St} (h:let d:L2.Ends:=D;let z:L2.St:=U;let l:TS:=f;let k:TS:=bg e l;let j:TS:=bg c k;let i:TS:=bg b j;let g:TS:=bg A i;let Z:TS:=bg a g;let R:TS:=bg S Z;let r:TS:=bg n R;let Y:TS:=bg m r;let y:TS:=bg E8 Y;let x:TS:=bg a9 y;let w:TS:=bg a8 x;let v:TS:=bg a7 w;let u:TS:=bg a6 v;let t:TS:=bg a5 u;let s:TS:=bg a4 t;let q:TS:=bg a3 s;let p:TS:=bg a2 q;bg o p d z H):(bg o (bg a2 (bg a3 (bg a4 (bg a5 (bg a6 (bg a7 (bg a8 (bg a9 (bg E8 (bg m (bg n (bg S (bg a (bg A (bg b (bg c (bg e (f))))))))))))))))))) D U H:=h
@[elab_as_elim] theorem Jj {α:Type} {motive:List α->Prop} {us:List α} (h:us.length=1) (k:∀ a,motive [a]):motive us :=
 eJ h λ a _ h=>acf h ▸ k a
@[elab_as_elim] theorem FH {α:Type} {motive:List α->Prop} {us:List α} (h:us.length=2) (k:∀ a b,motive [a,b]):motive us :=
 eJ h λ a _ h=>eJ h λ b _ h=>acf h ▸ k a b
@[elab_as_elim] theorem N4 {α:Type} {motive:List α->Prop} {us:List α} (h:us.length=3) (k:∀ a b c,motive [a,b,c]):motive us :=
 eJ h λ a _ h=>eJ h λ b _ h=>eJ h λ c _ h=>acf h ▸ k a b c
@[elab_as_elim] theorem IQ {α:Type} {motive:List α->Prop} {us:List α} (h:us.length=4) (k:∀ a b c d,motive [a,b,c,d]):motive us :=
 eJ h λ a _ h=>eJ h λ b _ h=>eJ h λ c _ h=>eJ h λ d _ h=>acf h ▸ k a b c d
@[elab_as_elim] theorem OE {α:Type} {motive:List α->Prop} {us:List α} (h:us.length=5) (k:∀ a b c d e,motive [a,b,c,d,e]):motive us :=
 eJ h λ a _ h=>eJ h λ b _ h=>eJ h λ c _ h=>eJ h λ d _ h=>eJ h λ e _ h=>acf h ▸ k a b c d e
@[elab_as_elim] theorem JO {α:Type} {motive:List α->Prop} {us:List α} (h:us.length=6) (k:∀ a b c d e f,motive [a,b,c,d,e,f]):motive us :=
 eJ h λ a _ h=>eJ h λ b _ h=>eJ h λ c _ h=>eJ h λ d _ h=>eJ h λ e _ h=>eJ h λ f _ h=>acf h ▸ k a b c d e f
@[elab_as_elim] theorem Oi {α:Type} {motive:List α->Prop} {us:List α} (h:us.length=7) (k:∀ a b c d e f g,motive [a,b,c,d,e,f,g]):motive us :=
 eJ h λ a _ h=>eJ h λ b _ h=>eJ h λ c _ h=>eJ h λ d _ h=>eJ h λ e _ h=>eJ h λ f _ h=>eJ h λ g _ h=>acf h ▸ k a b c d e f g
theorem lc {s:Scope} {x:Str} (h:(match s.names.lookup x with|some .local=>true|some .cell=>true|_=>false)=true):Loc s x:=by
 split at h
 . rename_i e;exact .inl e
 . rename_i e;exact .inr e
 . cases h
theorem dW.m {j k:Nat} {A:Around} (r:dW k A) (h:j<=k:=by first|decide|lia):dW j A:=r.mono h
section
variable {P:bq} {w:bi} {K:aF} {mg:eV} {base:bx} {x qual:Str} {st:Stmt} {N ps:d9} {k:Nat} {sp:Sp} {C:ak}
theorem gS.cW (h:gS K mg x st) (S:aD N ps (av st)) (j:∀ (f:ak) (b:ay) (A:Around) (outer:List Env) (s:Shared) (H:Hp) (vs:aB) (Q:VK) (E:XK),dW k (A.deeper (envOfC x (av st) s.heap.objs.size f b))->sp vs H Q E ->
     ∃ t,xA (ux AI P w K mg base N x (av st) f b A outer s H E).Ir (cC st) t/\t { nx:=λ Z c=>Q .cN c,rt:=Q } (start N vs) H) (len:∀ vs H Q E,sp vs H Q E->vs.length=ps.length:=by intro Z Z Z Z h;first|(cases h;subst_vars;rfl)|(obtain ⟨Z,rfl,Z⟩:=h;rfl)|(obtain ⟨Z,Z,rfl,Z⟩:=h;rfl)|(obtain ⟨Z,Z,Z,rfl,Z⟩:=h;rfl)|(obtain ⟨Z,Z,Z,Z,rfl,Z⟩:=h;rfl)|(obtain ⟨Z,Z,Z,Z,Z,rfl,Z⟩:=h;rfl)) (g:∀ (kV d p:ay) (e:Option ak) (b ct:ay) (u:bB),u.length=ps.length->bindArgs (W.fnOf x x (ed st) (cC st) (av st) .none kV d p e b ct) ⟨u,[]⟩=pure (ps.zip u):=by intro Z Z Z Z Z Z u a;first|exact Jj a λ Z=>rfl|exact FH a λ Z Z=>rfl|exact N4 a λ Z Z Z=>rfl|exact IQ a λ Z Z Z Z=>rfl|exact OE a λ Z Z Z Z Z=>rfl|exact JO a λ Z Z Z Z Z Z=>rfl|exact Oi a λ Z Z Z Z Z Z Z=>rfl):Def P w K mg base x (k+1) ps sp:=h.def S len g j
theorem gZ.gG {m:Str} (h:gZ K C m qual st .none) (S:aD N ps (av st)) (j:∀ (f:ak) (b:ay) (A:Around) (outer:List Env) (s:Shared) (H:Hp) (vs:aB) (Q:VK) (E:XK),dW k (A.deeper (envOfC qual (av st) s.heap.objs.size f b))->sp vs H Q E ->
     ∃ t,xA (ux AI P w K mg base N qual (av st) f b A outer s H E).Ir (cC st) t/\t { nx:=λ Z c=>Q .cN c,rt:=Q } (start N vs) H) (len:∀ vs H Q E,sp vs H Q E->vs.length=ps.length:=by intro Z Z Z Z h;first|(cases h;subst_vars;rfl)|(obtain ⟨Z,rfl,Z⟩:=h;rfl)|(obtain ⟨Z,Z,rfl,Z⟩:=h;rfl)|(obtain ⟨Z,Z,Z,rfl,Z⟩:=h;rfl)|(obtain ⟨Z,Z,Z,Z,rfl,Z⟩:=h;rfl)|(obtain ⟨Z,Z,Z,Z,Z,rfl,Z⟩:=h;rfl)) (g:∀ (kV d p:ay) (e:Option ak) (b ct:ay) (u:bB),u.length=ps.length->bindArgs (W.fnOf m qual (ed st) (cC st) (av st) .none kV d p e b ct) ⟨u,[]⟩=pure (ps.zip u):=by intro Z Z Z Z Z Z u a;first|exact Jj a λ Z=>rfl|exact FH a λ Z Z=>rfl|exact N4 a λ Z Z Z=>rfl|exact IQ a λ Z Z Z Z=>rfl|exact OE a λ Z Z Z Z Z=>rfl|exact JO a λ Z Z Z Z Z Z=>rfl|exact Oi a λ Z Z Z Z Z Z Z=>rfl):iK P w K mg base C m (k+1) ps [] sp:=h.Nt S len g j
end
inductive A3 (a b c:Prop):Prop|mk (_:a) (_:b) (_:c)
inductive A4 (a b c d:Prop):Prop|mk (_:a) (_:b) (_:c) (_:d)
inductive A5 (a b c d e:Prop):Prop|mk (_:a) (_:b) (_:c) (_:d) (_:e)
inductive A6 (a b c d e f:Prop):Prop|mk (_:a) (_:b) (_:c) (_:d) (_:e) (_:f)
inductive E2 {a b:Type} (p:a->b->Prop):Prop|mk (x:a) (y:b) (_:p x y)
inductive E3 {a b c:Type} (p:a->b->c->Prop):Prop|mk (x:a) (y:b) (z:c) (_:p x y z)
inductive E4 {a b c d:Type} (p:a->b->c->d->Prop):Prop|mk (x:a) (y:b) (z:c) (u:d) (_:p x y z u)
inductive E5 {a b c d e:Type} (p:a->b->c->d->e->Prop):Prop|mk (x:a) (y:b) (z:c) (u:d) (v:e) (_:p x y z u v)
section
variable {K:aF} {H H':Hp} {s:ck} {g:Int}
theorem ig.ts {p:ak} (h:ig K H p s) (t:aZ K H H'):ig K H' p s:=by
 obtain ⟨e,g,f,a,b,c,d⟩:=h;exact ⟨e,g,f,t _ _ a,t _ _ b,t _ _ c,t _ _ d⟩
end
theorem sS {m:am} {s:ck} {o:Nat} (h:m.rows.length<=4):s.may m o<16:=aa6 (Ord.qE _ _) (acy (by decide) h)
theorem aN.L9 {K:aF} {C:ak} {d:Hp} {a x:ak} {f:bp} {m:am} (h:aN K C H a f m) (st:∀ b o,H b=some o->b≠x->d b=some o) (t:aZ K H d) (nx:x∉f):aN K C d a f m:=by
 obtain ⟨⟨N,B,y,E,G,V,S,vt,A,rfl,p,s,I,R,J,r,u,v,w,k,l,n,D,F⟩,Q,L,M,O⟩:=h;have g:=λ {c o} e q=>st c o e (λ z=>nx (z ▸ q));exact ⟨⟨N,B,y,E,G,V,S,vt,A,rfl,g p (by simp),g s (by simp),g I (by simp),g R (by simp),g J (by simp),g r (by simp),u,v,w,mJ t k,j3 t l,iT t n,λ i j=>(D i j).ts t,F⟩,Q,L,M,O⟩
def bV.tch (t:bV) (i:Nat) (z lo h:Int):Prop:=0<=z/\z<((t.marks.getD i []).length:Int) - 1/\12 * t.mrk i z.toNat<=h/\lo<=12 * t.mrk i (z.toNat+1)
instance {t:bV} {i:Nat} {z lo h:Int}:Decidable (t.tch i z lo h):=by unfold bV.tch;infer_instance
def bV.s0 (t:bV) (n i:Nat) (b:aH) (f:Bool):Int:=t.sX n i b 0 (t.Vz i).2.1 f
def bV.s1 (t:bV) (n i:Nat) (b:aH) (f:Bool):Int:=t.sX n i b 1 (t.Vz i).2.2 f
theorem aN.some {K:aF} {C:ak} {a:ak} {f:bp} {m:am} (h:aN K C H a f m):∀ c∈f,∃ o,H c=some o:=by
 obtain ⟨⟨N,e,p,g,l,v,V,vt,A,rfl,d,k,i,r,j,J,Z⟩,Z⟩:=h;intro c b;simp only [aay,aaj,acd] at b;rcases b with rfl|rfl|rfl|rfl|rfl|rfl
 . exact ⟨_,d⟩
 . exact ⟨_,k⟩
 . exact ⟨_,i⟩
 . exact ⟨_,r⟩
 . exact ⟨_,j⟩
 . exact ⟨_,J⟩
def o5 (s:ck):PyData:=.tuple [.tuple (s.bR.map ja),ja s.bG,.tuple (s.dE.map ja),.tuple (s.failed.map ja),ja s.heap]
end L2
namespace PySem
open Sem (wp)
mutual
def kd:PyData->Bool
 | .bool _=>true
 | .int _=>true
 | .tuple d=>AJ d
 | _=>false
def AJ:List PyData->Bool
 | []=>true
 | d::D=>kd d && AJ D
end
mutual
def vf:PyData->PyData
 | .bool b => .int (if b then 1 else 0)
 | .tuple D => .tuple (pe D)
 | d=>d
def pe:List PyData->List PyData
 | []=>[]
 | d::D=>vf d::pe D
end
mutual
def xz:PyData->Nat
 | .tuple d=>xW d+1
 | _=>0
def xW:List PyData->Nat
 | []=>0
 | d::D=>max (xz d) (xW D)
end
mutual
def uu:PyData->Int
 | .int i=>hashInt i
 | .bool b=>hashInt (if b then 1 else 0)
 | .tuple d=>reduceHash (Builtin.Tuple.tupleHashOf (nF d))
 | _=>0
def nF:List PyData->List Int
 | []=>[]
 | d::D=>uu d::nF D
end
mutual
def ut:PyData->Nat
 | .tuple d=>pU d+1
 | _=>1
def pU:List PyData->Nat
 | []=>0
 | d::D=>ut d+pU D
end
mutual
theorem yd:∀ d,kd d=true->uu (vf d)=uu d
 | .bool b,_=>by simp only [vf,uu]
 | .int i,_=>by simp only [vf,uu]
 | .tuple D,h=>by simp only [vf,uu];rw [wQ D h]
 | .none,_ | .str _,_ | .list _,_ | .dict _,_=>by simp only [vf]
theorem wQ:∀ D,AJ D=true->nF (pe D)=nF D
 | [],_=>rfl
 | d::D,h=>by
   rw [AJ,abX] at h;simp only [pe,nF];rw [yd d h.1,wQ D h.2]
end
mutual
theorem ym:∀ d,ut (vf d)=ut d
 | .bool b=>by simp only [vf,ut]
 | .tuple D=>by simp only [vf,ut];rw [vU D]
 | .int _ | .none | .str _ | .list _ | .dict _=>by simp only [vf]
theorem vU:∀ D,pU (pe D)=pU D
 | []=>rfl
 | d::D=>by
   simp only [pe,pU];rw [ym d,vU D]
end
mutual
theorem An:∀ (d e:PyData),kd d=true->kd e=true->(PyData.eqv d e=true↔vf d=vf e)
 | .bool a,.bool b,_,_=>by cases a<;>cases b<;>simp [PyData.eqv,vf]
 | .bool a,.int j,_,_=>by simp [PyData.eqv,vf]
 | .int i,.bool b,_,_=>by simp [PyData.eqv,vf]
 | .int i,.int j,_,_=>by simp [PyData.eqv,vf]
 | .tuple xs,.tuple ys,h,k=>by
   simp only [PyData.eqv,vf,PyData.tuple.injEq];exact A2 xs ys h k
 | .bool _,.tuple _,_,_ | .int _,.tuple _,_,_ | .tuple _,.bool _,_,_ | .tuple _,.int _,_,_=>by simp [PyData.eqv,vf]
theorem A2:∀ (D es:List PyData),AJ D=true->AJ es=true->(PyData.eqvAll D es=true↔pe D=pe es)
 | [],[],_,_=>by simp [PyData.eqvAll,pe]
 | [],_::_,_,_=>by simp [PyData.eqvAll,pe]
 | _::_,[],_,_=>by simp [PyData.eqvAll,pe]
 | d::D,e::es,h,k=>by
   rw [AJ,abX] at h k;simp only [PyData.eqvAll,pe,abX,List.cons.injEq];rw [An d e h.1 k.1,A2 D es h.2 k.2]
end
section
variable {prog:bq} {w:bi} {E:ay->Shared->Prop}
set_option maxHeartbeats 0 in
mutual
theorem wx:∀ (d:PyData) (v:ay) (as:bp) (A:Around) (s:Shared) (Q:Int->Shared->Prop),kd d=true->Reads s.heap v d as->A.units+xz d<cLine ->
   Q (uu d) { s with toks:=s.toks+ut d }->wpAny (model prog w) A (pyHash v) Q E s
 | .int i,_,_,A,s,Q,_,x,_,h=>by cases x;exact wpAny_pyHash_int h
 | .bool b,_,_,A,s,Q,_,x,e,h=>by
   cases x;refine W.pyHash_slot (T:="bool") rfl F.slot_bool_hash entry_int_hash (args_int_hash _) (beq_builtin_none _) (.inl rfl) ?_;cases b
   . exact (show wpAny _ _ (do ret (<- mkInt 0)) _ _ s from aam (wpAny_mkInt (aaW ⟨_,_,rfl,h⟩)))
   . exact (show wpAny _ _ (do ret (<- mkInt 1)) _ _ s from aam (wpAny_mkInt (aaW ⟨_,_,rfl,h⟩)))
 | .tuple D,_,_,A,s,Q,H,x,e,h=>by
   cases x with
   | @tuple a o vs n _ _ c g j k =>
     rw [xz] at e;refine W.pyHash_slot (T:="tuple") ⟨_,c,g⟩ F.slot_tuple_hash F.entry_tuple_hash (F.args_tuple_hash_1 _) (beq_builtin_none _) (.inr (by lia)) ?_;show wpAny _ _ (Builtin.Tuple.tupleItemsOf (.ref a) >>= _) _ _ s;refine aam (wpAny_tupleItemsOf c j ?_);refine aam ?_;rw [<- afK];refine uj D vs.toList _ A.in1 s #[] _ H k (by rw [Around.in1_units];lia) λ b f=>?_;show wpAny _ _ (retInt (Builtin.Tuple.tupleHashOf b.toList)) _ _ _;rw [f];exact aam (wpAny_mkInt (aaW ⟨_,_,rfl,h⟩))
 | .none,_,_,_,_,_,H,_,_,_ | .str _,_,_,_,_,_,H,_,_,_ | .list _,_,_,_,_,_,H,_,_,_ | .dict _,_,_,_,_,_,H,_,_,_=>by rw [kd] at H<;>first|cases H|nofun
theorem uj:∀ (D:List PyData) (vs:bB) (as:bp) (A:Around) (s:Shared) (b:Array Int) (Q:Array Int->Shared->Prop),AJ D=true->ReadsAll s.heap vs D as->A.units+xW D<cLine ->
   (∀ B,B.toList=b.toList++nF D->Q B { s with toks:=s.toks+pU D }) ->
   wpAny (model prog w) A (forIn vs b λ x r=>do let h <- pyHash x;pure PUnit.unit;pure (ForInStep.yield (r.push h))) Q E s
 | [],_,_,A,s,b,Q,_,x,_,h=>by cases x;exact aaW (h b (by simp [nF]))
 | d::D,_,_,A,s,b,Q,H,x,c,h=>by
   cases x with
   | cons X e =>
     rw [AJ,abX] at H;rw [xW] at c;rw [agb];refine aam (aam (wx d _ _ A s _ H.1 X (by lia) ?_));refine aam (aaW (aaW ?_));exact uj D _ _ A { s with toks:=s.toks+ut d } _ Q H.2 e (by lia) λ B a=>by
       have:=h B (by simp [a,nF]);rw [pU,<- Nat.add_assoc] at this;exact this
end
set_option maxHeartbeats 0 in
theorem ub:∀ (n:Nat) (d:PyData) (v:ay) (as:bp) (A:Around) (s:Shared) (Q:Bool->Shared->Prop),kd d=true->xz d<=n->Reads s.heap v d as->Q true s->wpAny (model prog w) A (eqIsQuiet n v) Q E s
 | n,.int i,_,_,A,s,Q,_,_,x,h=>by cases x;rw [eqIsQuiet_byValue n rfl];exact aaW h
 | n,.bool i,_,_,A,s,Q,_,_,x,h=>by cases x;rw [eqIsQuiet_byValue n rfl];exact aaW h
 | 0,.tuple D,_,_,A,s,Q,_,g,_,_=>by rw [xz] at g;lia
 | n+1,.tuple D,_,_,A,s,Q,H,g,x,h=>by
   cases x with
   | @tuple a o vs m _ _ f k t l =>
     rw [xz] at g;unfold eqIsQuiet;refine aam (afB ⟨_,f,k⟩ F.slot_tuple_eq.lookup ?_);show wpAny _ _ (isInstance (.ref a) (.type "tuple") >>= _) _ _ s;refine aam (agq ⟨_,f,k⟩ isSubtype_tuple_tuple ?_);simp only [afI,afJ,af4];refine aam (ael f t ?_);refine aam ?_;show wpAny _ _ (forIn vs _ _) _ _ s;rw [<- afK];refine wpAny_forIn_list _ (λ rest r s'=>r.1=none/\s'=s/\∃ es b,AJ es=true/\xW es<=n/\ReadsAll s.heap rest es b) _ ?_ ?_ _ _ ⟨rfl,rfl,D,_,H,by lia,l⟩
     .
      rintro v rest r s' ⟨l,rfl,es,b,c,p,q⟩;cases q with
      | @cons _ _ e es _ _ X u =>
        rw [AJ,abX] at c;rw [xW] at p;refine aam (ub n e v _ _ _ _ c.1 (by lia) X ?_);simp only [afI,afJ,af4];exact aaW ⟨rfl,rfl,es,_,c.2,by lia,u⟩
     . rintro ⟨R,y⟩ s' ⟨j,rfl,Z⟩;have j:R=none:=j;subst j;exact aaW h
 | _,.none,_,_,_,_,_,H,_,_,_|_,.str _,_,_,_,_,_,H,_,_,_|_,.list _,_,_,_,_,_,H,_,_,_|_,.dict _,_,_,_,_,_,H,_,_,_=>by rw [kd] at H<;>first|cases H|nofun
theorem K9 {a b:ak} {d e:PyData} {as B:bp} {A:Around} {s:Shared} {Q:Bool->Shared->Prop} (r:Reads s.heap (.ref a) d as) (R:Reads s.heap (.ref b) e B) (H:SeqAt.shaped d=true) (c:SeqAt.shaped e=true) (k:kd d=true) (K:kd e=true) (f:A.units+64<cLine)
   (h:Q (PyData.eqv d e) s):wpAny (model prog w) A (eqBool (.ref a) (.ref b)) Q E s:=by
 unfold eqBool;try with_reducible refine adP ?_
 by_cases O:(Value.ref a == Value.ref b)=true
 .
  rw [abp O];have z:=by have:=eq_of_beq O;injection this
  subst z;obtain rfl:=(Reads.unique r _ _ R).1;rw [(An d d k k).mpr rfl] at h;exact aam (agZ (aaW h))
 . rw [abC O];exact aam (show wpAny _ _ (compareOp .Eq (.ref a) (.ref b)) _ _ _ from SeqAt.compareEq_shaped r R H c f (adm h))
end
mutual
theorem p9 {h f:bx} (g:∀ b o,h.get? b=some o->∀ n vs,o.data = .seq vs n->f.get? b=some o):∀ (d:PyData) {v:ay} {as:bp},kd d=true->Reads h v d as->Reads f v d as
 | _,_,_,_,.none => .none
 | _,_,_,_,.bool b => .bool b
 | _,_,_,_,.int i t => .int i t
 | _,_,_,_,.str x t => .str x t
 | _,_,_,k,.tuple a c H e => .tuple (g _ _ a _ _ H) c H (tZ g _ k e)
 | _,_,_,k,.list a c H e=>by rw [kd] at k<;>first|cases k|nofun
 | _,_,_,k,.dict a c H e j=>by rw [kd] at k<;>first|cases k|nofun
theorem tZ {h H:bx} (a:∀ b o,h.get? b=some o->∀ n vs,o.data = .seq vs n->H.get? b=some o):∀ (d:List PyData) {vs:bB} {as:bp},AJ d=true->ReadsAll h vs d as->ReadsAll H vs d as
 | _,_,_,_,.nil => .nil
 | _,_,_,k,.cons c e => .cons (p9 a _ (ad5.mp k).1 c) (tZ a _ (ad5.mp k).2 e)
end
noncomputable instance:DecidableEq PyData:=λ a b=>Classical.propDecidable (a=b)
def xn (h:bx) (k:PyData) (a:ak):Prop:=∃ d as,Reads h (.ref a) d as/\kd d=true/\SeqAt.shaped d=true/\xz d<=8/\vf d=k
noncomputable def kh (prog:bq) (w:bi):HeapKind prog w PyData where
 is:=xn
 hash:=uu
 draws:=ut
 room:=λ A=>A.units+64<cLine
 inj:=λ ⟨d,_,r,_,_,_,e⟩ ⟨D,_,R,_,_,_,i⟩=>by
   obtain rfl:=(Reads.unique r _ _ R).1;exact e.symm.trans i
 keeps:=λ {h F k a d o C B} x t p u=>by
   obtain ⟨x,as,r,K,f,g,e⟩:=x;refine ⟨x,as,p9 (λ b O q m V l=>?_) x K r,K,f,g,e⟩;rw [u.2 b λ z=>?_]
   . exact q
   . subst z;rw [t] at q;cases q;rw [p] at l;cases l
 pyHash:=λ {A E s k a Q} H ⟨d,as,r,K,f,g,e⟩ h=>by
   subst e;rw [yd d K,ym d] at h;exact wx d _ as A s Q K r (by lia) h
 eqBool:=λ {A E s x y a b Q} H ⟨d,as,r,K,f,g,e⟩ ⟨D,n,R,c,j,v,i⟩ h=>by
   subst e i;refine K9 r R f j K c H ?_;have q:PyData.eqv d D=decide (vf d=vf D):=by
     rw [adC,decide_eq_true_iff];exact An d D K c
   rw [q];exact h
 quiet:=λ {A E s k a Q} ⟨d,as,r,K,f,g,e⟩ h=>ub 8 d _ as A s Q K g r h
end PySem
namespace L2
open PySem PySem.Spec PyProof.Rows Mth
variable {H H':Hp} {c' cur:Nat} {o:HO}
mutual
theorem FL:∀ d:PyData,kd d=true->f7 d=true
 | .bool _,_=>by simp [f7]
 | .int _,_=>by simp [f7]
 | .tuple D,h=>nQ.mpr (AW D h)
 | .none,h | .str _,h | .list _,h | .dict _,h=>by rw [kd] at h<;>first|cases h|nofun
theorem AW:∀ D:List PyData,AJ D=true->∀ d∈D,f7 d=true
 | [],_,d,h=>absurd h aaj
 | e::D,h,d,m=>by
   rw [AJ,abX] at h;rcases aay.mp m with z|z
   . rw [z];exact FL e h.1
   . exact AW D h.2 d z
end
def iD (K:aF) (H:Hp) (k:PyData) (b:ak):Prop:=∃ d,Dn K H d (.ref b)/\kd d=true/\SeqAt.shaped d=true/\xz d<=8/\vf d=k
theorem iD.ts {K:aF} {k:PyData} {b:ak} (s:aZ K H H') (h:iD K H k b):iD K H' k b:=by
 obtain ⟨d,c,a,e,f,g⟩:=h;exact ⟨d,Dn.ts s d (FL d a) c,a,e,f,g⟩
section
variable {X:Cx} {pins:List (ak×Obj)} {U:St} {H:Hp} {s:Shared}
theorem iD.is {k:PyData} {b:ak} (I:Inv X pins U H s) (h:iD X.K H k b):xn s.heap k b:=by
 obtain ⟨d,a,c,e,f,g⟩:=h;obtain ⟨as,r⟩:=I.reads d a rfl;exact ⟨d,as,r,c,e,f,g⟩
end
abbrev qH:=List (PyData×ak×V)
abbrev XR:qH->List (PyData×ak×ay)->Prop:=Paired λ p q=>p.1=q.1/\p.2.1=q.2.1/\RelV p.2.2 q.2.2
def DxP (P:bq) (w:bi) (a:ak) (A:qH) (h:bx):Prop:=A.length<=sizeLine/\(a == sysModules)=false/\∃ x,XR A x /\
 ∃ o e E,h.get? a=some o/\o.ExactDict/\o.data = .dict e E/\e.toList=x.map (entryOfKey (kh P w))/\(x.map (·.1)).Nodup
def og (P:bq) (w:bi) (a:ak) (A:qH):HO:=.ext (DxP P w a A)
theorem JV {P:bq} {w:bi} {h:bx} {a:ak} {A:qH} (x:DxP P w a A h):eh P w H h a (og P w a A):=by
 refine ⟨x,?_,λ c d ⟨z,y,X,r,o,b,E,e,q⟩ k=>⟨z,y,X,r,o,b,E,k o e,q⟩⟩;obtain ⟨Z,Z,Z,Z,o,Z,Z,e,Z⟩:=x;exact ⟨o,e⟩
noncomputable def jM (a:qH) (k:PyData):eU:=(a.find? λ x=>decide (x.1=k)).map (·.2.2)
noncomputable def gM (a:qH) (k:PyData) (b:ak) (v:V):qH:=if (jM a k).isSome then a.map λ x=>if x.1=k then (x.1,x.2.1,v) else x else a++[(k,b,v)]
theorem wb {a:qH} {xs:List (PyData×ak×ay)} (r:XR a xs) (k:PyData):ng (jM a k) ((atKey xs k).map (·.2)):=by
 induction r with
 | nil=>exact True.intro
 | @cons p q d Q h t i =>
   obtain ⟨H,c,b⟩:=h;unfold jM atKey at i |-;rw [acs,acs,H];by_cases e:q.1=k
   . rw [aaS e];exact b
   . rw [aaR e];exact i
theorem Iy {a:qH} {xs:List (PyData×ak×ay)} (r:XR a xs) (k:PyData) {b:ak} {v:V} {u:ay} (R:RelV v u):XR (gM a k b v) (storedH xs k b u):=by
 unfold gM storedH;have e:(jM a k).isSome=(atKey xs k).isSome:=by rw [(wb r k).tj,afN]
 rw [e];by_cases q:(atKey xs k).isSome=true
 .
  rw [abp q,abp q];clear e q;induction r with
  | nil=>exact .nil
  | @cons p q f Q h t i =>
    refine .cons ?_ i;obtain ⟨H,c,d⟩:=h;unfold putAt;dsimp only;by_cases e:q.1=k
    . rw [abp e,abp (H.trans e)];exact ⟨H,c,R⟩
    . rw [abC e,abC (λ z=>e (H.symm.trans z))];exact ⟨H,c,d⟩
 . rw [abC q,abC q];exact ae4 r ⟨rfl,rfl,R⟩
theorem wl (a:qH) (k:PyData) (b:ak) (v:V):(gM a k b v).length<=a.length+1:=by
 unfold gM;split<;>simp
theorem KU {a:qH} {k:PyData} {b:ak} {v:V} {e:PyData×ak×V} (h:e∈gM a k b v):(∃ E∈a,E.1=e.1/\E.2.1=e.2.1)\/e=(k,b,v):=by
 unfold gM at h;split at h
 . obtain ⟨x,H,rfl⟩:=abv.mp h;refine .inl ⟨x,H,?_⟩;split<;>exact ⟨rfl,rfl⟩
 . rcases aaU.mp h with z|z
   . exact .inl ⟨e,z,rfl,rfl⟩
   . exact .inr (aac.mp z)
theorem nS (a:qH) (k k':PyData) (b:ak) (v:V):jM (gM a k b v) k'=if k'=k then some v else jM a k':=by
 unfold gM;by_cases q:(jM a k).isSome=true
 .
  rw [abp q];by_cases e:k'=k
  .
   rw [abp e];subst e;induction a with
   | nil=>simp [jM] at q
   | cons x a i =>
     unfold jM at i q |-;rw [ab8,acs];by_cases z:x.1=k'
     . rw [abp z,aaS z];rfl
     . rw [abC z,aaR z];rw [acs,aaR z] at q;exact i q
  .
   rw [abC e];clear q;induction a with
   | nil=>rfl
   | cons x a i =>
     unfold jM at i |-;rw [ab8,acs,acs];by_cases z:x.1=k
     . rw [abp z,aaR (λ y:x.1=k'=>e (y.symm.trans z))];exact i
     . rw [abC z];by_cases c:x.1=k'
       . rw [aaS c]
       . rw [aaR c];exact i
 .
  rw [abC q];have q:=by simpa using q
  unfold jM at q |-;rw [List.find?_append];by_cases e:k'=k
  . rw [abp e,e];have z:(a.find? λ x=>decide (x.1=k))=none:=by simpa using q
    rw [z,acs,aaS rfl];rfl
  . rw [abC e,acs,aaR (λ y=>e y.symm),List.find?_nil,Option.or_none]
structure jC (P:bq) (w:bi) (K:aF) (H:Hp) (a:ak) (aG:qH):Prop where
 ob:H a=some (og P w a aG)
 keys:∀ e∈aG,iD K H e.1 e.2.1
theorem jC.nil {P:bq} {w:bi} {K:aF} {a:ak} (h:H a=some (og P w a [])):jC P w K H a []:=⟨h,λ Z h=>absurd h aaj⟩
theorem jC.dI {P:bq} {w:bi} {K:aF} {a:ak} {aG:qH} (x:jC P w K H a aG) (t:aZ K H H') (e:H' a=H a):jC P w K H' a aG:=⟨e.trans x.ob,λ y h=>(x.keys y h).ts t⟩
theorem jC.same {P:bq} {w:bi} {K:aF} {a:ak} {aG:qH} (x:jC P w K H a aG) (s:aE H H'):jC P w K H' a aG:=⟨s _ _ x.ob,λ y h=>(x.keys y h).ts s.ts⟩
theorem jC.put {P:bq} {w:bi} {K:aF} {a b:ak} {A:qH} {k:PyData} {v:V} (x:jC P w K H a A) (f:iD K H k b):jC P w K (upd H a (og P w a (gM A k b v))) a (gM A k b v):=by
 have t:aZ K H (upd H a (og P w a (gM A k b v))):=cq x.ob rfl;refine ⟨af,λ e h=>?_⟩;rcases KU h with ⟨E,m,c,d⟩|rfl
 . rw [<- c,<- d];exact (x.keys E m).ts t
 . exact f.ts t
section
variable {X:Cx} {pins:List (ak×Obj)} {U:St} {H:Hp} {s:Shared} {a b:ak} {aG:qH} {k:PyData} {v:V}
theorem jC.dict (I:Inv X pins U H s) (x:jC X.prog X.w X.K H a aG):aG.length<=sizeLine/\(a == sysModules)=false/\∃ xs,XR aG xs/\s.heap.DictOfH (kh X.prog X.w) a xs:=by
 obtain ⟨z,y,xs,r,o,f,E,g,i,j,k,n⟩:=(show eh X.prog X.w H s.heap a (og X.prog X.w a aG) from I.eB a _ x.ob).1;refine ⟨z,y,xs,r,o,f,E,g,i,j,k,λ e b=>?_,n⟩;have all:∀ {l:qH} {m:List (PyData×ak×ay)},XR l m->(∀ e∈l,iD X.K H e.1 e.2.1)->∀ x∈m,xn s.heap x.1 x.2.1:=by
   intro l m q;induction q with
   | nil=>intro Z x h;exact absurd h aaj
   | @cons p q v Q d t u =>
     intro c x h;rcases aay.mp h with e|h
     . subst e;rw [<- d.1,<- d.2.1];exact (c p aaZ).is I
     . exact u (λ e b=>c e (aaB _ b)) x h
 exact all r x.keys e b
theorem zj {A:Around} {P:bq} {w:bi} (h:A.units+65<cLine):(kh P w).room A.in1:=by
 show A.in1.units+64<cLine;lia
end
def Tj (P:bq) (w:bi) (K:aF) (t ty:TE):TE:=λ U H Q=>t U H λ x c=>ty U c λ y h=>∃ a b A k v,x = .ref a/\y = .ref b/\jC P w K h a A/\iD K h k b/\jM A k=some v/\Q v h
inductive L5 (P:bq) (w:bi) (K:aF) (y:V) (x:V) (H:Hp) (Q:VK):Prop
 | mk (a b aG k:_) (_:x = .ref a) (_:y = .ref b) (_:jC P w K H a aG) (_:iD K H k b) (_:Q (.bl (!(jM aG k).isSome)) H)
def VB (P:bq) (w:bi) (K:aF) (t ty tv:TE):TS:=λ D U H=>tv U H λ v c=>t U c λ x d=>ty U d λ y h=>∃ a b A k,x = .ref a/\y = .ref b/\jC P w K h a A/\iD K h k b/\A.length<sizeLine /\
 D.nx U (upd h a (og P w a (gM A k b v)))
def VS (P:bq) (w:bi):TE:=λ Z H Q=>∀ p,H p=none->Q (.ref p) (upd H p (og P w p []))
theorem dW.La {k:Nat} {A:Around} (r:dW k A):A.units+65<cLine:=by have:=r.un;lia
section
variable {X:Cx} {o i e value:Expr} {pos pos':Pos} {td ty tv:TE} {P:bq} {w:bi} {K:aF}
theorem EQ (a:X.prog=P) (hw:X.w=w):PE X (.Dict [] [] pos) (VS P w):=λ p s U H Q I h=>wpAny_Dict_empty ⟨.ref s.heap.objs.size,_,I.laid (λ Z Z q=>aaF _ q) (aaE _)
   (JV ⟨ab2 _,aeW.mpr (aeg (abN I.big)),[],.nil,_,#[],0,abW _ rfl,⟨rfl,rfl,rfl⟩,rfl,rfl,aeJ⟩),rfl,h _ (I.eB.fresh (aaE _))⟩
theorem lX (m:X.prog=P) (hw:X.w=w) (l:X.K=K) (G:X.A.units+65<cLine) (t:PE X o td) (n:PE X i ty) (C:XD i):PE X (.Subscript o i pos) (Tj P w K td ty):=by
 subst m hw l;intro c s U H Q I h;refine LW PySem.F.slot_dict_getitem.lookup C (dC (t c s U H _ I h) λ u T ⟨x,e,j,R,L⟩=>dC (n c T U e _ j L) λ Y s2 ⟨y,f,d,S,a,b,V,k,v,ex,E,g,q,J,N⟩=>?_);subst ex E;obtain rfl:=R;obtain rfl:=S;obtain ⟨z,W,xs,r,D⟩:=g.dict d;refine ⟨D.typeIs,?_⟩;obtain ⟨w',hw,M⟩:=ng.some_of (by rw [<- J];exact wb r k);obtain ⟨p,B,O⟩:=acY.mp hw;refine wpAny_getItem_heap (zj G) (q.is d) D B ?_;rw [O];exact ⟨v,f,d.tok _,M,N⟩
theorem yf (e:X.prog=P) (hw:X.w=w) (c:X.K=K) (j:X.A.units+65<cLine):jI X (compareOp .NotIn) (L5 P w K):=by
 subst e hw c;intro p s U H x y v u Q I R m h;obtain ⟨a,b,n,k,rfl,rfl,g,i,l⟩:=h;obtain rfl:=m;obtain rfl:=R;obtain ⟨z,f,o,r,d⟩:=g.dict I;refine wpAny_notIn_heap (zj j) (i.is I) f d ⟨.bl _,H,I.tok _,?_,l⟩;have q:=(wb r k).tj;rw [afN] at q;rw [q];rfl
theorem FJ (O:X.prog=P) (hw:X.w=w) (N:X.K=K) (Y:X.A.units+65<cLine) (W:PE X o td) (S:PE X i ty) (hv:PE X value tv) (d:swapsWith value (some (.Subscript o i pos')) pos.line X.env=pure false) :
   PS X (.Assign [.Subscript o i pos'] value pos) (VB P w K td ty tv):=by
 subst O hw N;intro p s U H D I h;refine wpAny_Assign_Subscript (dC (hv p s U H _ I h) λ r s1 ⟨v,f,l,rv,q1⟩=>dC (W p s1 U f _ l q1) λ u s2 ⟨x,j,m,rx,q2⟩=>dC (S p s2 U j _ m q2) λ iv s3 ⟨y,H3,c,ry,a,b,n,k,ex,C,g,T,V,q3⟩=>?_) d;subst ex C;obtain rfl:=rx;obtain rfl:=ry;obtain ⟨z,Q,xs,R,t⟩:=g.dict c;have hz:xs.length<=sizeLine:=by rw [<- aef R];exact z
 refine wpAny_setItem_heap (zj Y) (T.is c) t λ h' L d=>⟨U,_,?_,q3⟩
 obtain ⟨q,B,E,e,F,G,J,Z,M⟩:=L;exact zP c (by rw [g.ob];exact True.intro) d ⟨q,e⟩ (JV ⟨aaX (wl n k b v) V,Q,_,Iy R k rv,q,B,E,e,F,G,J,M⟩)
end
section
variable {X:Cx}
inductive acU (K:aF) (x:V) (y:V) (H:Hp) (Q:VK):Prop
 | mk (p xs:_) (_:x = .cN) (_:y = .ref p) (_:aW K H p xs) (_:(∀ v∈xs,v = .cN\/∃ a ys,v = .ref a/\aW K H a ys)) (_:Q (.bl (decide (V.cN∈xs))) H)
theorem Kw {s:Shared} {p:List (ak×Obj)} {U:St} (I:Inv X p U H s) (c:X.A.units+1<cLine):∀ {xs:aB} {B:bB},Vals xs B->(∀ v∈xs,v = .cN\/∃ a ys,v = .ref a/\aW X.K H a ys) ->
   (∀ u∈B,SeqAt.EqAt X.A.in1 s u .none (u == Value.none))/\(B.any λ u=>u == Value.none)=decide (V.cN∈xs)
 | _,_,.nil,_=>⟨λ Z h=>absurd h aaj,rfl⟩
 | x::xs,u::B,.cons r t,h=>by
   obtain ⟨i,k⟩:=Kw I c t λ v f=>h v (aaB _ f);rcases h x aaZ with rfl|⟨a,ys,rfl,d⟩
   .
    obtain rfl:=r;refine ⟨λ w b=>?_,?_⟩
    . rcases aay.mp b with e|b
      . rw [e];exact SeqAt.EqAt.same _
      . exact i w b
    . rfl
   .
    obtain rfl:=r;obtain ⟨j,Z,g,Z⟩:=I.list d;refine ⟨λ w b=>?_,?_⟩
    . rcases aay.mp b with e|b
      . rw [e];exact SeqAt.EqAt.list_none g.isList (c)
      . exact i w b
    . grind
theorem Q0 (f:X.A.units+1<cLine):jI X (compareOp .In) (acU X.K):=by
 intro a s U H x y v u Q I R k h;obtain ⟨p,m,rfl,rfl,e,i,q⟩:=h;obtain rfl:=k;obtain rfl:=R;obtain ⟨b,r,j,l⟩:=I.list e;obtain ⟨c,d⟩:=Kw I f r i;refine SeqAt.in_listAt (λ u=>u == Value.none) j.isList (λ w g=>c w (by simpa using g)) ⟨.bl _,H,I,rfl,?_⟩;rw [show (b.toArray.any λ u=>u == Value.none)=(b.any λ u=>u == Value.none) by simp,d];exact q
inductive NT (K:aF) (x:V) (y:V) (H:Hp) (Q:VK):Prop
 | mk (a b xs ys:_) (_:x = .ref a) (_:y = .ref b) (_:cw K H a xs) (_:cw K H b ys) (_:xs.length+ys.length<=sizeLine) (_:∀ q H',aE H H'->cw K H' q (xs++ys)->Q (.ref q) H')
theorem LA:jI X (binaryOp .Add) (NT X.K):=by
 intro c s U H x y v u Q I r R h;obtain ⟨a,b,m,Y,rfl,rfl,f,g,C,q⟩:=h;by_cases j:m=[]
 .
  cases r;cases R;obtain ⟨B,J,E,Z⟩:=I.tuple f;obtain ⟨G,M,F,Z⟩:=I.tuple g;obtain ⟨⟨cls,D,data,sl⟩,l,w,n,z⟩:=id E;obtain ⟨⟨L,o,d,O⟩,k,t,N,i⟩:=id F;subst w z t i;refine concat_meets ⟨_,l,rfl⟩ ⟨_,k,rfl⟩ agr seq_tuple_add afi ae8 (ae3 _ _)
    (tuple_addW0 a b B.toArray G.toArray n N D o sl O (by rw [(J.u5.mpr j)];rfl)) ⟨l,k,⟨.ref b,H,I,rfl,q b H (aE.refl _) (by rw [j];exact g)⟩⟩
 . exact Ni c s U H _ _ v u Q I r R ⟨a,b,m,Y,rfl,rfl,f,g,j,C,λ e=>q a H (aE.refl _) (by rw [e,ac7];exact f),λ Z p A=>q p _ (ap A) (cw.of af)⟩
theorem BE {K:aF} (h:X.K=K):jI X (binaryOp .Add) (NT K):=by subst h;exact LA
end
abbrev rfs (h d:ak):List (Str×V):=[("hold",.ref h),("spreads",.ref d)]
def bj (m:am) (i:Nat) (b:aH) (fired:Bool):Option (aH) :=
 if lT (m.rows.getD i []) (jF m i b fired) (jG m i b fired)=true then some (kQ (m.rows.getD i []) (jF m i b fired) (jG m i b fired)) else none
def f8 (L:bp) (H:Hp) (v:V):Option (aH)->Prop
 | none=>v = .cN
 | some l=>∃ q,v = .ref q/\q∉L/\H q=some (.lst (l.map aq))
def mV (i:Nat) (b:aH) (f:Bool):PyData:=.tuple [.int i,.tuple (b.map ja),.int (if f then 1 else 0)]
theorem vX:∀ l:aH,AJ (l.map ja)=true
 | []=>rfl
 | _::l=>by rw [ab8,AJ,vX l];rfl
theorem sI:∀ l:aH,pe (l.map ja)=l.map ja
 | []=>rfl
 | _::l=>by rw [ab8,pe,sI l];rfl
theorem sL:∀ l:aH,xW (l.map ja)=0
 | []=>rfl
 | _::l=>by rw [ab8,xW,sL l];rfl
theorem nG:∀ {l r:aH},l.map ja=r.map ja->l=r
 | [],[],_=>rfl
 | [],_::_,h=>by cases h
 | _::_,[],h=>by cases h
 | a::l,b::r,h=>by
   obtain ⟨H,c⟩:=adq h;rw [nG c,afE (afj H)]
theorem Ll {i I:Nat} {b V:aH} {f F:Bool} (h:mV i b f=mV I V F):i=I/\b=V/\f=F:=by
 have h:=aeF h;obtain ⟨H,h⟩:=adq h;obtain ⟨a,h⟩:=adq h;obtain ⟨c,Z⟩:=adq h;refine ⟨afE (afj H),nG (aeF a),?_⟩;cases f<;>cases F<;>first|rfl|(exact absurd (afj c) (by decide))
theorem qS {n:Nat} {l:aH}:Qq (n+1) (.tuple (l.map ja)):=by
 intro d h;obtain ⟨i,Z,rfl⟩:=abv.mp h;cases n<;>exact trivial
section
variable {K:aF} {H H':Hp}
theorem qJ {p:ak} {l:aH} (h:cw K H p (l.map aq)):Dn K H (.tuple (l.map ja)) (.ref p):=jw h (vM l)
theorem Em {p c:ak} {i:Nat} {b:aH} {f:Bool} (h:cw K H p [aq i,.ref c,.bl f]) (e:cw K H c (b.map aq)):iD K H (mV i b f) p:=by
 refine ⟨.tuple [.int i,.tuple (b.map ja),.bool f],jw h (bI rfl (bI (qJ e) (bI rfl eP))),?_,qF (n:=2) ?_ (by decide),?_,?_⟩
 . simp only [kd,AJ,vX];rfl
 .
  intro d a;simp only [aay,aaj,acd] at a;rcases a with rfl|rfl|rfl
  . exact trivial
  . exact qS
  . exact trivial
 . simp only [xz,xW,sL];decide
 . simp only [vf,pe,sI];rfl
theorem f8.but {L L':bp} {d:ak} {v:V} {r:Option (aH)} (g:H d=some o) (no:∀ xs,o ≠ .lst xs) (b:∀ c u,H c=some u->c≠d->c∉L->H' c=some u) (a:∀ c∈L',c∈L) (h:f8 L H v r):f8 L' H' v r:=by
 cases r with
 | none=>exact h
 | some l =>
   obtain ⟨q,e,n,f⟩:=h;exact ⟨q,e,λ z=>n (a q z),b q _ f (λ z=>by simp_all) n⟩
theorem f8.same {L:bp} {v:V} {r:Option (aH)} (s:aE H H') (h:f8 L H v r):f8 L H' v r:=by
 cases r with
 | none=>exact h
 | some l =>
   obtain ⟨q,e,n,a⟩:=h;exact ⟨q,e,n,s _ _ a⟩
theorem f8.new {L:bp} {D:ak} {v:V} {r:Option (aH)} (b:H D=none) (h:f8 L H v r):f8 (D::L) H v r:=by
 cases r with
 | none=>exact h
 | some l =>
   obtain ⟨q,e,n,a⟩:=h;exact ⟨q,e,λ z=>(aay.mp z).elim (λ z=>by rw [z,b] at a;cases a) n,a⟩
end
theorem p7 {P:bq} {w:bi} {a:ak} {A:qH} (xs:aB):og P w a A ≠ .lst xs:=λ h=>by cases h
structure fD (P:bq) (w:bi) (K:aF) (C CR:ak) (L:bp) (H:Hp) (x d a:ak) (fp:bp) (m:am) (c:Nat):Prop where
 ins:∃ dx,H x=some (.ins CR dx (rfs a d))
 hold:aN K C H a fp m
 nd:d∉fp
 Rk:∃ aG,jC P w K H d aG/\aG.length<=c/\∀ i bs f v,jM aG (mV i bs f)=some v->f8 L H v (bj m i bs f)
section
variable {P:bq} {w:bi} {K:aF} {C CR:ak} {L L':bp} {H H':Hp} {x d a:ak} {fp:bp} {m:am} {c:Nat}
theorem fD.same (r:fD P w K C CR L H x d a fp m c) (s:aE H H'):fD P w K C CR L H' x d a fp m c:=by
 obtain ⟨⟨D,l⟩,h,n,A,g,j,k⟩:=r;exact ⟨⟨D,s _ _ l⟩,h.same s,n,A,g.same s,j,λ i b f v e=>(k i b f v e).same s⟩
theorem fD.more (r:fD P w K C CR L H x d a fp m c) (h:c<=c'):fD P w K C CR L H x d a fp m c':=by
 obtain ⟨i,b,n,A,e,f,g⟩:=r;exact ⟨i,b,n,A,e,aaX f h,g⟩
theorem fD.less (r:fD P w K C CR L H x d a fp m c) (h:∀ b∈L',b∈L):fD P w K C CR L' H x d a fp m c:=by
 obtain ⟨i,j,n,A,g,k,l⟩:=r;exact ⟨i,j,n,A,g,k,λ i B f v e=>(l i B f v e).but g.ob p7 (λ Z Z e Z Z=>e) h⟩
theorem fD.new (r:fD P w K C CR L H x d a fp m c) {D:ak} (h:H D=none):fD P w K C CR (D::L) H x d a fp m c:=by
 obtain ⟨i,g,n,A,j,k,l⟩:=r;exact ⟨i,g,n,A,j,k,λ i b f v e=>(l i b f v e).new h⟩
theorem fD.write (r:fD P w K C CR L H x d a fp m c) {D:ak} {xs ys:aB} (h:H D=some (.lst xs)) (p:D∈L) (nf:D∉fp):fD P w K C CR L (upd H D (.lst ys)) x d a fp m c:=by
 obtain ⟨⟨l,j⟩,q,N,A,g,s,u⟩:=r;have t:aZ K H (upd H D (.lst ys)):=cq h rfl;have B:∀ b o,H b=some o->b≠D->(upd H D (.lst ys)) b=some o:=λ b o e n=>by rw [aw n];exact e
 exact ⟨⟨l,B _ _ j (λ z=>by rw [z,h] at j;cases j)⟩,q.L9 B t nf,N,A,g.dI t (aw (λ z=>by have:=g.ob;rw [z,h] at this;cases this)),s,λ i k f v e=>(u i k f v e).but g.ob p7 (λ b o e Z n=>B b o e λ z=>n (z ▸ p)) λ Z h=>h⟩
theorem fD.put (r:fD P w K C CR L H x d a fp m c) {A:qH} {i:Nat} {B:aH} {f:Bool} {b:ak} {v:V} (g:jC P w K H d A) (E:A.length<=c) (G:∀ i B f v,jM A (mV i B f)=some v->f8 L H v (bj m i B f)) (u:iD K H (mV i B f) b) (s:f8 L H v (bj m i B f)) :
   fD P w K C CR L (upd H d (og P w d (gM A (mV i B f) b v))) x d a fp m (c+1)/\iw [d] H (upd H d (og P w d (gM A (mV i B f) b v)))/\aZ K H (upd H d (og P w d (gM A (mV i B f) b v)))/\f8 L (upd H d (og P w d (gM A (mV i B f) b v))) v (bj m i B f):=by
 obtain ⟨⟨D,l⟩,y,N,Z⟩:=r;have j:∀ k o,H k=some o->k≠d->(upd H d (og P w d (gM A (mV i B f) b v))) k=some o:=λ c o e n=>by rw [aw n];exact e
 have t:aZ K H (upd H d (og P w d (gM A (mV i B f) b v))):=cq g.ob rfl;refine ⟨⟨⟨D,by rw [aw (λ z=>by rw [z,g.ob] at l;cases l)];exact l⟩,y.L9 j t N,N,_,g.put u,aaX (wl ..) (aec E),λ I p F J e=>?_⟩,λ c o e n=>j c o e λ z=>n (aac.mpr z),t,s.but g.ob p7 (λ c o e n Z=>j c o e n) λ Z h=>h⟩;rw [nS] at e;by_cases q:mV I p F=mV i B f
 .
  rw [abp q] at e;obtain ⟨rfl,rfl,rfl⟩:=Ll q;cases e;exact s.but g.ob p7 (λ c o e n Z=>j c o e n) λ Z h=>h
 . rw [abC q] at e;exact (G I p F J e).but g.ob p7 (λ c o e n Z=>j c o e n) λ Z h=>h
end
def bN (rows:List (aH)):List (aH):=rows.foldl (λ C r=>C.flatMap λ c=>r.map λ b=>c++[b]) [[]]
theorem jP (rows:List (aH)) (r:aH):bN (rows++[r])=(bN rows).flatMap λ c=>r.map λ b=>c++[b]:=by
 unfold bN;rw [adl];rfl
theorem fG {b c:Type} {k:Nat} {f:b->List c}:∀ {l:List b},(∀ a,(f a).length<=k)->(l.flatMap f).length<=l.length * k
 | [],_=>by simp
 | a::l,h=>by
   rw [List.flatMap_cons,aas,ac8];have:=fG (l:=l) h;have:=h a;lia
theorem kD {rows:List (aH)} (h:∀ r∈rows,r.length<=6):∀ i,(bN (rows.take i)).length<=6 ^ i
 | 0=>by rw [List.take_zero];decide
 | i+1=>by
   by_cases H:i<rows.length
   . rw [List.take_succ_eq_append_getElem H,jP];exact aaX (fG (k:=6) λ a=>by simp_all) (ad4 6 (kD h i))
   . have e:rows.take (i+1)=rows.take i:=by rw [ac1 (by lia),ac1 (by lia)]
     rw [e,afV];have:=kD h i;lia
theorem snoc_ind {b:Type} {p:List b->Prop} (h:p []) (H:∀ l a,p l->p (l++[a])) (l:List b):p l:=by
 rw [<- List.reverse_reverse l];induction l.reverse with
 | nil=>exact h
 | cons a r i=>rw [List.reverse_cons];exact H _ _ i
theorem gU {rows:List (aH)}:∀ {c:aH},c∈bN rows↔c.length=rows.length/\∀ i,i<rows.length->c.getD i 0∈rows.getD i []:=by
 refine snoc_ind (p:=λ rows=>∀ {c:aH},c∈bN rows↔c.length=rows.length/\∀ i,i<rows.length->c.getD i 0∈rows.getD i []) ?_ ?_ rows
 .
  intro c;constructor
  . intro h;have:=by simpa [bN] using h
    rw [this];exact ⟨rfl,λ i h=>absurd h (acl _)⟩
  . rintro ⟨h,Z⟩;rw [aea.mp h];simp [bN]
 .
  intro rows r I c;rw [jP,adS];constructor
  .
   rintro ⟨a,d,h⟩;obtain ⟨b,f,rfl⟩:=abv.mp h;obtain ⟨l,H⟩:=I.mp d;refine ⟨by simp_all,λ i h=>?_⟩;by_cases e:i<rows.length
   . grind
   . simp_all
  .
   rintro ⟨l,H⟩;rw [aas,abh] at l H;have n:c≠[]:=λ z=>by rw [z] at l;simp at l
   refine ⟨c.dropLast,I.mpr ⟨by rw [List.length_dropLast,l];rfl,λ i h=>?_⟩,abv.mpr ⟨c.getLast n,?_,List.dropLast_concat_getLast n⟩⟩
   . have:=H i (by lia);rw [YQ,aaO h] at this;rw [YQ,YQ,List.getElem?_dropLast,abp (by lia)];exact this
   .
    have:=H rows.length (by lia);rw [YQ,YQ,ack] at this;rw [List.getLast_eq_getElem];rw [UY (by lia)] at this;have e:c.length - 1=rows.length:=by lia
    simp only [e];exact this
inductive A7 (a b c d e f g:Prop):Prop|mk (_:a) (_:b) (_:c) (_:d) (_:e) (_:f) (_:g)
inductive A8 (a b c d e f g h:Prop):Prop|mk (_:a) (_:b) (_:c) (_:d) (_:e) (_:f) (_:g) (_:h)
def sF (m:am) (s:ck) (b i:Nat):Option (aH):=bj m i s.bR (b.testBit i)
def iF (m:am) (s:ck) (b:Nat):Bool:=(List.range m.rows.length).all λ i=>(sF m s b i).isSome
def fI (m:am) (s:ck) (b:Nat):List (aH):=(List.range m.rows.length).map λ i=>(sF m s b i).getD []
def fw (m:am) (s:ck) (o O:Nat):List ck:=(bN (fI m s (Ord.off o O))).map λ c=>s.behind m c o O
def c7 (m:am) (s:ck) (o:Nat):aH:=Bit.parts (Bit.rooms (s.may m o))
def qb (m:am) (s:ck) (o:Nat):List ck:=(c7 m s o).flatMap (fw m s o)
def Refs {b:Type} (R:ak->b->Prop) (xs:aB) (l:List b):Prop:=Paired (λ v a=>∃ p,v = .ref p/\R p a) xs l
theorem Refs.imp {b:Type} {R S:ak->b->Prop} {xs:aB} {l:List b} (h:Refs R xs l) (f:∀ p a,R p a->S p a):Refs S xs l:=Paired.Ay h λ Z Z ⟨p,e,r⟩=>⟨p,e,f p _ r⟩
theorem Refs.nil {a:Type} {R:ak->a->Prop}:Refs R [] ([]:List a):=Paired.nil
theorem Refs.snoc {b:Type} {R:ak->b->Prop} {xs:aB} {l:List b} {p:ak} {a:b} (h:Refs R xs l) (r:R p a):Refs R (xs++[.ref p]) (l++[a]):=ae4 h ⟨p,rfl,r⟩
theorem Refs.append {b:Type} {R:ak->b->Prop}:∀ {xs ys:aB} {l r:List b},Refs R xs l->Refs R ys r->Refs R (xs++ys) (l++r)
 | _,_,_,_,Paired.nil,h=>h
 | _,_,_,_,Paired.cons a t,h=>Paired.cons a (Refs.append t h)
theorem Refs.length {a:Type} {R:ak->a->Prop} {xs:aB} {l:List a} (h:Refs R xs l):xs.length=l.length:=aef h
theorem Refs.get {b:Type} {R:ak->b->Prop}:∀ {xs:aB} {l:List b} {i:Nat} {v:V},Refs R xs l->xs[i]?=some v->∃ p a,v = .ref p/\l[i]?=some a/\R p a
 | _,_,_,_,Paired.nil,h=>by simp at h
 | _,_,0,_,Paired.cons ⟨p,e,r⟩ _,h=>by simp at h;exact ⟨p,_,by rw [<- h,e],rfl,r⟩
 | _,_,i+1,_,Paired.cons _ t,h=>by
   obtain ⟨p,a,H,c,d⟩:=Refs.get t (by simpa using h);exact ⟨p,a,H,by simpa using c,d⟩
abbrev L6 (K:aF) (H:Hp):aB->List (aH)->Prop:=Refs λ t c=>cw K H t (c.map aq)
abbrev rN (K:aF) (H:Hp):aB->List ck->Prop:=Refs (ig K H)
def P4 (m:am) (s:ck):Prop:=∀ i b,i<m.rows.length->(b=true->m.has i=true)->eX 20000 (jF m i s.bR b)/\eX 20000 (jG m i s.bR b)
section
variable (P:bq) (w:bi) (K:aF) (C CR:ak)
inductive Hw  (vs:aB) (H:Hp) (Q:VK) (_E:XK):Prop
 | mk (p1 p2 a b c d:_) (_:vs=[.ref p1,.ref p2]) (_:cw K H p1 [.int a,.int b]) (_:cw K H p2 [.int c,.int d]) (_:Bd 20000 a) (_:Bd 20000 b) (_:Bd 20000 c) (_:Bd 20000 d) (_:Q (.bl (decide (a * d<c * b))) H)
inductive DJ  (vs:aB) (H:Hp) (Q:VK) (_E:XK):Prop
 | mk (a fp m:_) (i:Nat) (r v1 v2 f g:_) (_:vs=[.ref a,aq i,v1,v2]) (_:aN K C H a fp m) (_:m.rows[i]?=some r) (_:Dn K H (fM f) v1) (_:Dn K H (fM g) v2) (_:eX 20000 f) (_:eX 20000 g) (_:∀ H',aE H H'->Q (.bl (lT r f g)) H')
inductive Hv  (vs:aB) (H:Hp) (Q:VK) (_E:XK):Prop
 | mk (a fp m:_) (i:Nat) (r v1 v2 f g:_) (_:vs=[.ref a,aq i,v1,v2]) (_:aN K C H a fp m) (_:m.rows[i]?=some r) (_:Dn K H (fM f) v1) (_:Dn K H (fM g) v2) (_:eX 20000 f) (_:eX 20000 g) (_:∀ p H',H p=none->aE H H'->H' p=some (.lst ((kQ r f g).map aq))->Q (.ref p) H')
inductive Eb  (vs:aB) (H:Hp) (Q:VK) (_E:XK):Prop
 | mk (p xs rows:_) (_:vs=[.ref p]) (_:aW K H p xs) (_:Refs (λ q (r:aH)=>aW K H q (r.map aq)) xs rows) (_:rows.length<=4) (_:(∀ r∈rows,r.length<=6)) (_:∀ q ys H',aE H H'->H' q=some (.lst ys)->L6 K H' ys (bN rows)->Q (.ref q) H')
inductive GR  (vs:aB) (H:Hp) (Q:VK) (_E:XK):Prop
 | mk (x dx a fp m:_) (_:vs=[.ref x,.ref a]) (_:H x=some (.ins CR dx [])) (_:aN K C H a fp m) (_:x∉fp) (_:∀ d H',iw [x] H H'->aZ K H H'->H d=none->fD P w K C CR [] H' x d a fp m 0->Q .cN H')
inductive Hg  (vs:aB) (H:Hp) (Q:VK) (_E:XK):Prop
 | mk (x d a fp m c:_) (i:Nat) (pb bs f L:_) (_:vs=[.ref x,aq i,.ref pb,.bl f]) (_:fD P w K C CR L H x d a fp m c) (_:(∀ b∈L,H b≠none)) (_:c<=16000000) (_:i<m.rows.length) (_:cw K H pb (bs.map aq)) (_:bs.length=m.rows.length) (_:(∀ j,j<m.rows.length->bs.getD j 0+1<(m.rows.getD j []).length)) (_:(f=true->∃ z,m.aI[i]?=some (some z))) (_:eX 20000 (jF m i bs f)) (_:eX 20000 (jG m i bs f)) (_:∀ v H',iw [d] H H'->aZ K H H'->fD P w K C CR L H' x d a fp m (c+1)->f8 L H' v (bj m i bs f)->Q v H')
inductive GP  (vs:aB) (H:Hp) (Q:VK) (_E:XK):Prop
 | mk (x d a fp m c p s:_) (o:Nat) (L:_) (_:vs=[.ref x,.ref p,aq o]) (_:fD P w K C CR L H x d a fp m c) (_:(∀ b∈L,H b≠none)) (_:c<=15000000) (_:ig K H p s) (_:cY m s) (_:o &&& m.ws=o) (_:(∀ out∈c7 m s o,cT m s o out)) (_:P4 m s) (_:((∃ out∈c7 m s o,iF m s (Ord.off o out)=false)->∀ H',iw [d] H H'->aZ K H H'->fD P w K C CR L H' x d a fp m (c+64)->Q .cN H')) (_:((∀ out∈c7 m s o,iF m s (Ord.off o out)=true)->∀ q xs H',H q=none->iw [d] H H'->aZ K H H'->fD P w K C CR L H' x d a fp m (c+64)->H' q=some (.lst xs)->rN K H' xs (qb m s o)->Q (.ref q) H'))
end
theorem Fm {L:bp}:∀ {acc:aB} {R:List (Option (aH))},Paired (f8 L H) acc R->∀ v∈acc,v = .cN\/∃ a ys,v = .ref a/\H a=some (.lst ys)
 | _,_,Paired.nil,v,h=>absurd h aaj
 | _,r::_,Paired.cons a t,v,h=>by
   rcases aay.mp h with e|h
   . subst e;cases r with
     | none=>exact .inl a
     | some l=>obtain ⟨q,e,Z,b⟩:=a;exact .inr ⟨q,_,e,b⟩
   . exact Fm t v h
theorem vY {L:bp}:∀ {acc:aB} {R:List (Option (aH))},Paired (f8 L H) acc R->(V.cN∈acc↔none∈R)
 | _,_,Paired.nil=>by simp
 | _,r::_,Paired.cons a t=>by
   rw [aay,vY t];cases r with
   | none=>rw [a];simp
   | some l=>obtain ⟨q,e,Z⟩:=a;rw [e];simp
theorem Bh {L:bp}:∀ {acc:aB} {R:List (Option (aH))},Paired (f8 L H) acc R->none∉R->Refs (λ q (r:aH)=>H q=some (.lst (r.map aq))) acc (R.map λ r=>r.getD [])
 | _,_,Paired.nil,_=>Paired.nil
 | _,r::_,Paired.cons a t,h=>by
   rw [aay,ad7] at h;cases r with
   | none=>exact absurd rfl h.1
   | some l=>obtain ⟨q,e,Z,b⟩:=a;exact Paired.cons ⟨q,e,b⟩ (Bh t h.2)
theorem yw {m:am} {s:ck} {b:Nat}:none∈(List.range m.rows.length).map (sF m s b)↔iF m s b=false:=by
 unfold iF;constructor
 . simp_all
 . simp_all
theorem Nk (m:am) (s:ck) (b:Nat):((List.range m.rows.length).map (sF m s b)).map (λ r=>r.getD [])=fI m s b:=by
 rw [ac5];rfl
theorem AX {m:am} (w:m.Wf) {s:ck} {b:Nat}:∀ r∈fI m s b,r.length<=6:=λ r H=>by
 obtain ⟨i,h,rfl⟩:=abv.mp H;have h:=aaK.mp h;have a:=w.len _ (aaH h);unfold sF bj;rw [YQ,aK h];split
 .
  have:=kK m.rows[i] (jF m i s.bR (b.testBit i)) (jG m i s.bR (b.testBit i)) (m.rows[i].length - 1);show (kQ m.rows[i] _ _).length<=6;unfold kQ;lia
 . exact ab2 _
theorem mG {m:am} (w:m.Wf) (h:m.rows.length<=4) {s:ck} {o:Nat} (O:Nat):(fw m s o O).length<=1296:=by
 unfold fw;rw [Ea];have l:(fI m s (Ord.off o O)).length=m.rows.length:=by unfold fI;rw [Ea,aaA]
 have:=kD (AX w (s:=s) (b:=Ord.off o O)) 4;rw [ac1 (by lia)] at this;exact this
theorem nB {n:Nat} (h:n<16):(Bit.rooms n).length<=8/\(Bit.parts (Bit.rooms n)).length<=16:=by
 have:∀ b:Fin 16,(Bit.rooms b.val).length<=8/\(Bit.parts (Bit.rooms b.val)).length<=16:=by decide +kernel
 exact this ⟨n,h⟩
theorem gv {K:aF} {p:ak} {s:ck} (h:ig K H p s):iD K H (o5 s) p:=by
 obtain ⟨g,j,i,b,c,e,f⟩:=h;refine ⟨o5 s,jw b (bI (qJ c) (bI rfl (bI (qJ e) (bI (qJ f) (bI rfl eP))))),?_,qF (n:=2) ?_ (by decide),?_,?_⟩
 . simp only [o5,kd,AJ,vX];rfl
 .
  intro d a;simp only [aay,aaj,acd] at a;rcases a with rfl|rfl|rfl|rfl|rfl
  . exact qS
  . exact trivial
  . exact qS
  . exact qS
  . exact trivial
 . simp only [o5,xz,xW,sL,ja];decide
 . simp only [o5,vf,pe,sI];rfl
theorem tG {n:Nat} (h:n<16):Bit.parts (Bit.rooms n)≠[]/\∀ o∈Bit.parts (Bit.rooms n),o<16/\o &&& n=o:=by
 have:∀ b:Fin 16,Bit.parts (Bit.rooms b.val)≠[]/\∀ o∈Bit.parts (Bit.rooms b.val),o<16/\o &&& b.val=o:=by decide +kernel
 exact this ⟨n,h⟩
theorem Nd {m:am} (w:m.Wf) (h:m.rows.length<=4) (s:ck) (o:Nat):(qb m s o).length<=16 * 1296:=by
 unfold qb;have:=fG (l:=c7 m s o) (mG w h (s:=s) (o:=o));have H:(c7 m s o).length<=16:=(nB (sS h)).2;lia
inductive A9 (a b c d e f g h i:Prop):Prop|mk (_:a) (_:b) (_:c) (_:d) (_:e) (_:f) (_:g) (_:h) (_:i)
def kC (m:am) (s:ck) (o:Nat):Option (List ck):=if (c7 m s o).all (λ O=>iF m s (Ord.off o O))=true then some (qb m s o) else none
abbrev cm:=List (Option (aH))
def rq (met:List ck):Option (List ck)->Option (aH)->Prop
 | none,none=>True
 | some l,some J=>Paired (λ j s=>met[j]?=some s) J l
 | _,_=>False
theorem rq.more {met m:List ck}:∀ {a:Option (List ck)} {b:Option (aH)},rq met a b->rq (met++m) a b
 | none,none,_=>trivial
 | some _,some _,h=>Paired.Ay h λ j s e=>by rw [aaO (SV.mp e).1];exact e
 | none,some _,h=>h.elim
 | some _,none,h=>h.elim
structure tp where
 met:List ck
 gu:List (aH)
 rows:List cm
structure ie (m:am) (g:tp):Prop where
 nd:g.met.Nodup
 lo:g.gu.length<=g.met.length
 lr:g.rows.length<=g.met.length
 st:∀ s∈g.met,cY m s
 gu:∀ (i:Nat) (s:ck) (o:aH),g.met[i]?=some s->g.gu[i]?=some o->o=s.orders m
 rows:∀ (i:Nat) (s:ck) (r:cm),g.met[i]?=some s->g.rows[i]?=some r->Paired (λ o b=>rq g.met (kC m s o) b) (s.orders m) r
def tp.add (g:tp) (s:ck):tp:={ g with met:=g.met++[s]}
theorem ie.add {m:am} {g:tp} {s:ck} (h:ie m g) (S:cY m s) (n:s∉g.met):ie m (g.add s):=by
 have O:∀ {i x},i<g.met.length->(g.met++[s])[i]?=some x->g.met[i]?=some x:=λ {i x} H e=>by
   rw [aaO H] at e;exact e
 refine ⟨adL.mpr ⟨h.nd,ad9 _ _,λ a f b j e=>n (by simp_all)⟩,?_,?_,λ x d=>?_,λ i x o c E=>?_,λ i x r c E=>?_⟩
 .
  show g.gu.length<=(g.met++[s]).length;rw [aas];have:=h.lo;lia
 .
  show g.rows.length<=(g.met++[s]).length;rw [aas];have:=h.lr;lia
 . rcases aaU.mp d with z|z
   . exact h.st x z
   . rw [aac.mp z];exact S
 . have E:g.gu[i]?=some o:=E;exact h.gu i x o (O (by have:=(SV.mp E).1;have:=h.lo;lia) c) E
 . exact Paired.Ay (h.rows i x r (O (by have:=h.lr;have E:g.rows[i]?=some r:=E;have:=(SV.mp E).1;lia) c) E) λ Z Z q=>q.more
def wP:Option (aH)->PyData
 | none => .none
 | some l => .list (l.map ja)
def ue (r:cm):PyData:=.list (r.map wP)
abbrev Xx (pm po pr pd:ak) (lim:Int):List (Str×V):=[("met",.ref pm),("orders",.ref po),("rows",.ref pr),("places",.ref pd),("limit",.int lim)]
def Cq (a:qH) (met:List ck):Prop:=(∀ i s,met[i]?=some s->jM a (o5 s)=some (aq i))/\∀ s,s∉met->jM a (o5 s)=none
structure fo (P:bq) (w:bi) (K:aF) (CG:ak) (L:bp) (H:Hp) (x pm po pr pd:ak) (lim:Int) (g:tp):Prop where
 ins:∃ dx,H x=some (.ins CG dx (Xx pm po pr pd lim))
 met:∃ vm,H pm=some (.lst vm)/\rN K H vm g.met
 gu:∃ vo,H po=some (.lst vo)/\bP K (dJ H (L++[pm,po,pr])) (g.gu.map λ l => .list (l.map ja)) vo
 rows:∃ vr,H pr=some (.lst vr)/\bP K (dJ H (L++[pm,po,pr])) (g.rows.map ue) vr
 pls:∃ aG,jC P w K H pd aG/\aG.length<=g.met.length/\Cq aG g.met
 n1:pm≠po
 n2:pm≠pr
 n3:po≠pr
theorem za {s t:ck} (h:o5 s=o5 t):s=t:=by
 have h:=aeF h;obtain ⟨H,h⟩:=adq h;obtain ⟨d,h⟩:=adq h;obtain ⟨f,h⟩:=adq h;obtain ⟨g,h⟩:=adq h;obtain ⟨i,Z⟩:=adq h;cases s;have e:=nG (aeF H);have E:=afE (afj d);have a:=nG (aeF f);have b:=nG (aeF g);have c:=afE (afj i);simp only at e E a b c;rw [e,E,a,b,c]
theorem Cq.nil:Cq [] []:=⟨λ i s h=>by simp at h,λ Z Z=>rfl⟩
theorem Cq.add {A:qH} {met:List ck} {s:ck} {b:ak} (h:Cq A met) (n:s∉met):Cq (gM A (o5 s) b (aq met.length)) (met++[s]):=by
 refine ⟨λ i t e=>?_,λ t a=>?_⟩
 .
  rw [nS];by_cases q:o5 t=o5 s
  .
   rw [abp q];obtain rfl:=za q;by_cases H:i<met.length
   . rw [aaO H] at e;exact absurd (aae e) n
   . have:=(SV.mp e).1;rw [aas,abh] at this;rw [show i=met.length by lia]
  .
   rw [abC q];by_cases H:i<met.length
   . rw [aaO H] at e;exact h.1 i t e
   . rw [abM (by lia)] at e;have:=aac.mp (aae e);exact absurd (by rw [this]) q
 . rw [aaU,aac,ad7] at a;rw [nS,abC (λ q=>a.2 (za q))];exact h.2 t a.1
section
variable {P:bq} {w:bi} {K:aF} {CG:ak} {L:bp} {H H':Hp} {x pm po pr pd:ak} {lim:Int} {g:tp}
theorem fo.same (h:fo P w K CG L H x pm po pr pd lim g) (s:aE H H'):fo P w K CG L H' x pm po pr pd lim g:=by
 obtain ⟨⟨f,i⟩,⟨v,a,A⟩,⟨V,B,c⟩,⟨k,C,d⟩,⟨b,D,e⟩,n,N,j⟩:=h;exact ⟨⟨f,s _ _ i⟩,⟨v,s _ _ a,A.imp λ p x h=>h.same s⟩,⟨V,s _ _ B,bP.same (wG s) _ c⟩,⟨k,s _ _ C,bP.same (wG s) _ d⟩,⟨b,D.same s,e⟩,n,N,j⟩
end
def nH:HO->Bool
 | .lst _=>false
 | .tup _=>false
 | .CT _ _=>false
 | _=>true
section
variable {K:aF} {H:Hp} {d:ak}
theorem Ar {a:ak} {u:HO} (b:∀ o,H d=some o->nH o=true) (e:H a=some u) (h:nH u=false):a∉[d]:=λ z=>by
 grind
theorem aW.xU (b:∀ o,H d=some o->nH o=true) {a:ak} {xs:aB} (h:aW K H a xs):aW K (dJ H [d]) a xs:=by
 rcases h with (h|⟨o,h⟩)|h
 . exact .inl (.inl (jV h (Ar b h rfl)))
 . exact .inl (.inr ⟨o,jV h (Ar b h rfl)⟩)
 . exact .inr h
theorem cw.xU (b:∀ o,H d=some o->nH o=true) {a:ak} {xs:aB} (h:cw K H a xs):cw K (dJ H [d]) a xs:=by
 rcases h with (h|⟨o,h⟩)|h
 . exact .inl (.inl (jV h (Ar b h rfl)))
 . exact .inl (.inr ⟨o,jV h (Ar b h rfl)⟩)
 . exact .inr h
mutual
theorem Dn.xU (b:∀ o,H d=some o->nH o=true):∀ (e:PyData) {v:V},Dn K H e v->Dn K (dJ H [d]) e v
 | .none,_,h=>by rw [Dn] at h |-;exact h
 | .bool _,_,h=>by rw [Dn] at h |-;exact h
 | .int _,_,h=>by rw [Dn] at h |-;exact h
 | .str _,_,h=>by rw [Dn] at h |-;exact h
 | .list D,_,h=>by
   rw [Dn] at h |-;obtain ⟨a,xs,e,q,r⟩:=h;exact ⟨a,xs,e,q.xU b,bP.xU b D r⟩
 | .tuple D,_,h=>by
   rw [Dn] at h |-;obtain ⟨a,xs,e,q,r⟩:=h;exact ⟨a,xs,e,q.xU b,bP.xU b D r⟩
 | .dict _,_,h=>by rw [Dn] at h;exact h.elim
theorem bP.xU (a:∀ o,H d=some o->nH o=true):∀ (D:List PyData) {xs:aB},bP K H D xs->bP K (dJ H [d]) D xs
 | [],_,h=>by rw [bP] at h |-;exact h
 | e::D,_,h=>by
   rw [bP] at h |-;obtain ⟨x,r,E,q,t⟩:=h;exact ⟨x,r,E,Dn.xU a e q,bP.xU a D t⟩
end
theorem bP.zL {L:bp} (f:H d=some o) (g:nH o=true) (b:∀ c u,H c=some u->c≠d->c∉L->H' c=some u) {D:List PyData} {xs:aB} (h:bP K (dJ H L) D xs):bP K (dJ H' L) D xs:=by
 have a:=bP.xU (λ u e=>by
   unfold dJ at e;split at e
   . cases e
   . rw [f] at e;cases e;exact g) D h
 refine bP.same (λ c u e=>?_) D a;unfold dJ at e |-;split at e
 . cases e
 . grind
theorem Hi {d:ak} {L:bp} (b:iw [d] H H'):∀ c u,H c=some u->c≠d->c∉L->H' c=some u:=λ c u e n Z=>b c u e λ z=>n (aac.mp z)
end
section
variable {P:bq} {w:bi} {K:aF} {CG:ak} {L:bp} {H H':Hp} {x pm po pr pd:ak} {lim:Int} {g:tp}
theorem fo.but {d:ak} {kd:qH} (h:fo P w K CG L H x pm po pr pd lim g) (a:H d=some (og P w d kd)) (F:d≠pd) (b:iw [d] H H') (t:aZ K H H'):fo P w K CG L H' x pm po pr pd lim g:=by
 obtain ⟨⟨o,f⟩,⟨v,A,i⟩,⟨V,B,k⟩,⟨y,C,l⟩,⟨j,D,m⟩,q,r,s⟩:=h;have N:∀ {c u},H c=some u->(∀ E,u ≠ .ext E)->c∉[d]:=λ e n z=>by
   rw [aac.mp z,a] at e;exact n _ (abb e).symm
 refine ⟨⟨o,b _ _ f (N f nofun)⟩,⟨v,b _ _ A (N A nofun),i.imp λ p x h=>h.ts t⟩,⟨V,b _ _ B (N B nofun),bP.zL a rfl (Hi b) k⟩,⟨y,b _ _ C (N C nofun),bP.zL a rfl (Hi b) l⟩,⟨j,D.dI t ?_,m⟩,q,r,s⟩;rw [D.ob];exact b _ _ D.ob (by grind)
end
def wU (m:am) (L:Int):Prop:=∀ l:List ck,l.Nodup->(∀ s∈l,cY m s)->(l.length:Int)<=L
structure xi (g g':tp):Prop where
 met:∃ more,g'.met=g.met++more
 gu:g'.gu=g.gu
 rows:g'.rows=g.rows
theorem xi.refl (g:tp):xi g g:=⟨⟨[],(ac7 _).symm⟩,rfl,rfl⟩
theorem xi.trans {a b c:tp} (h:xi a b) (k:xi b c):xi a c:=by
 obtain ⟨⟨m,e⟩,o,r⟩:=h;obtain ⟨⟨M,E⟩,O,R⟩:=k;exact ⟨⟨m++M,by rw [E,e,ae7]⟩,O.trans o,R.trans r⟩
theorem xi.add (g:tp) (s:ck):xi g (g.add s):=⟨⟨[s],rfl⟩,rfl,rfl⟩
theorem xi.at {g G:tp} (h:xi g G) {j:Nat} {s:ck} (e:g.met[j]?=some s):G.met[j]?=some s:=by
 obtain ⟨⟨m,E⟩,Z⟩:=h;rw [E,aaO (SV.mp e).1];exact e
section
variable (P:bq) (w:bi) (K:aF) (CG:ak)
inductive MR  (vs:aB) (H:Hp) (Q:VK) (_E:XK):Prop
 | mk (x p pm po pr pd lim g m s L:_) (_:vs=[.ref x,.ref p]) (_:fo P w K CG L H x pm po pr pd lim g) (_:ie m g) (_:wU m lim) (_:lim<=2000) (_:ig K H p s) (_:cY m s) (_:∀ j g' H',iw [pm,pd] H H'->aZ K H H'->fo P w K CG L H' x pm po pr pd lim g'->xi g g'->ie m g'->g'.met[j]?=some s->(g'=g\/g'=g.add s)->Q (aq j) H')
inductive Er  (vs:aB) (H:Hp) (Q:VK) (_E:XK):Prop
 | mk (x v pm po pr pd lim g m L:_) (_:vs=[.ref x,v]) (_:fo P w K CG L H x pm po pr pd lim g) (_:ie m g) (_:wU m lim) (_:lim<=2000) (_:((v = .cN/\Q .cN H)\/∃ q xs l,v = .ref q/\H q=some (.lst xs)/\q≠pm/\rN K H xs l/\(∀ s∈l,cY m s)/\l.length<=100000/\∀ D js g' H',H D=none->iw [pm,pd] H H'->aZ K H H'->fo P w K CG L H' x pm po pr pd lim g'->xi g g'->ie m g'->H' D=some (.lst (js.map aq))->Paired (λ j s=>g'.met[j]?=some s) js l->Q (.ref D) H'))
end
section
variable {P:bq} {w:bi} {K:aF} {CG:ak} {L:bp} {H:Hp} {x pm po pr pd p:ak} {lim:Int} {g:tp} {s:ck} {vm:aB} {aG:qH}
theorem fo.add (h:fo P w K CG L H x pm po pr pd lim g) (f:H pm=some (.lst vm)) (A:rN K H vm g.met) (a:jC P w K H pd aG) (S:aG.length<=g.met.length) (I:Cq aG g.met) (l:ig K H p s) (n:s∉g.met) :
   fo P w K CG L (upd (upd H pd (og P w pd (gM aG (o5 s) p (aq g.met.length)))) pm (.lst (vm++[.ref p]))) x pm po pr pd lim (g.add s)/\iw [pm,pd] H (upd (upd H pd (og P w pd (gM aG (o5 s) p (aq g.met.length)))) pm (.lst (vm++[.ref p]))) /\
   aZ K H (upd (upd H pd (og P w pd (gM aG (o5 s) p (aq g.met.length)))) pm (.lst (vm++[.ref p]))):=by
 obtain ⟨⟨D,b⟩,Z,⟨V,i,F⟩,⟨y,C,G⟩,Z,m,o,J⟩:=h;have r:pm≠pd:=λ z=>by rw [z,a.ob] at f;cases f
 have nx:x≠pd:=λ z=>by rw [z,a.ob] at b;cases b
 have N:x≠pm:=λ z=>by rw [z,f] at b;cases b
 have no:po≠pd:=λ z=>by rw [z,a.ob] at i;cases i
 have M:pr≠pd:=λ z=>by rw [z,a.ob] at C;cases C
 have T:aZ K H (upd H pd (og P w pd (gM aG (o5 s) p (aq g.met.length)))):=cq a.ob rfl;have B:iw [pd] H (upd H pd (og P w pd (gM aG (o5 s) p (aq g.met.length)))):=λ c u e z=>by rw [aw (λ q=>z (aac.mpr q))];exact e
 have Q:=a.put (v:=aq g.met.length) (gv l);have R:(upd H pd (og P w pd (gM aG (o5 s) p (aq g.met.length)))) pm=some (.lst vm):=by rw [aw r];exact f
 have O:(upd H pd (og P w pd (gM aG (o5 s) p (aq g.met.length)))) x=some (.ins CG D (Xx pm po pr pd lim)):=by rw [aw nx];exact b
 have j:(upd H pd (og P w pd (gM aG (o5 s) p (aq g.met.length)))) po=some (.lst V):=by rw [aw no];exact i
 have k:(upd H pd (og P w pd (gM aG (o5 s) p (aq g.met.length)))) pr=some (.lst y):=by rw [aw M];exact C
 generalize upd H pd (og P w pd (gM aG (o5 s) p (aq g.met.length)))=d at *;have t:aZ K d (upd d pm (.lst (vm++[.ref p]))):=cq R rfl;have E:dJ (upd d pm (.lst (vm++[.ref p]))) (L++[pm,po,pr])=dJ d (L++[pm,po,pr]):=oU (by simp);refine ⟨⟨⟨D,by rw [aw N];exact O⟩,⟨_,af,?_⟩,⟨V,by rw [aw m.symm];exact j,by rw [E];exact (bP.zL a.ob rfl (Hi B) F)⟩,⟨y,by rw [aw o.symm];exact k,by rw [E];exact (bP.zL a.ob rfl (Hi B) G)⟩,⟨_,Q.dI t (aw r.symm),?_,I.add n⟩,m,o,J⟩,λ c u e z=>?_,T.trans t⟩
 . exact Refs.snoc (A.imp λ p s h=>h.ts (T.trans t)) (l.ts (T.trans t))
 .
  refine aaX (wl ..) ?_;show _<=(g.met++[s]).length;rw [aas,abh];lia
 . simp only [aay,aaj,acd,ad7] at z;rw [aw z.1];exact B c u e (by simp [z.2])
theorem fo.new (h:fo P w K CG L H x pm po pr pd lim g) {D:ak} (j:H D=none):fo P w K CG (D::L) H x pm po pr pd lim g:=by
 obtain ⟨i,m,⟨v,B,a⟩,⟨V,c,C⟩,d,n,N,f⟩:=h;have S:aE (dJ H (L++[pm,po,pr])) (dJ H (D::L++[pm,po,pr])):=λ b o e=>by
   unfold dJ at e |-;split at e
   . cases e
   . rw [abC]
     . exact e
     . grind
 exact ⟨i,m,⟨v,B,bP.same S _ a⟩,⟨V,c,bP.same S _ C⟩,d,n,N,f⟩
theorem fo.less (h:fo P w K CG L H x pm po pr pd lim g) {L':bp} (j:∀ b∈L',b∈L):fo P w K CG L' H x pm po pr pd lim g:=by
 obtain ⟨i,m,⟨v,B,a⟩,⟨V,c,C⟩,d,n,N,f⟩:=h;have S:aE (dJ H (L++[pm,po,pr])) (dJ H (L'++[pm,po,pr])):=λ b o e=>by
   unfold dJ at e |-;split at e
   . cases e
   . grind
 exact ⟨i,m,⟨v,B,bP.same S _ a⟩,⟨V,c,bP.same S _ C⟩,d,n,N,f⟩
theorem fo.write (h:fo P w K CG L H x pm po pr pd lim g) {D:ak} {xs ys:aB} (a:H D=some (.lst xs)) (l:D∈L) (o:D≠pm) (no:D≠po) (q:D≠pr):fo P w K CG L (upd H D (.lst ys)) x pm po pr pd lim g:=by
 obtain ⟨⟨k,b⟩,⟨vm,A,c⟩,⟨v,B,f⟩,⟨V,C,i⟩,⟨aG,d,j⟩,n,N,m⟩:=h;have t:aZ K H (upd H D (.lst ys)):=cq a rfl;have e:dJ (upd H D (.lst ys)) (L++[pm,po,pr])=dJ H (L++[pm,po,pr]):=oU (aaU.mpr (.inl l));exact ⟨⟨k,by rw [aw (λ z=>by rw [z,a] at b;cases b)];exact b⟩,⟨vm,by rw [aw o.symm];exact A,c.imp λ p x h=>h.ts t⟩,⟨v,by rw [aw no.symm];exact B,by rw [e];exact f⟩,⟨V,by rw [aw q.symm];exact C,by rw [e];exact i⟩,⟨aG,d.dI t (aw (λ z=>by have:=d.ob;rw [z,a] at this;cases this)),j⟩,n,N,m⟩
end
structure C5 (m:am):Prop where
 h4:m.rows.length<=4
 sp:∀ s,cY m s->P4 m s
 tn:∀ s o,cY m s->o∈s.orders m->∀ out∈c7 m s o,cT m s o out
 nx:∀ s o x,cY m s->o∈s.orders m->x∈qb m s o->cY m x
theorem C5.ow {m:am} (h:C5 m) {s:ck} {o:Nat} (H:o∈s.orders m):o &&& m.ws=o:=((tG (rR h.h4)).2 o (abT.mp H).1).2
theorem wk {m:am} (h:m.rows.length<=4) (s:ck):(s.orders m).length<=16:=by
 have:=ab0 (s.Hc m) (Bit.parts (Bit.rooms m.ws));have:=(nB (rR h)).2;unfold ck.orders;lia
theorem jY {m:am} {s:ck} {o:Nat} (h:∀ O∈c7 m s o,iF m s (Ord.off o O)=true):kC m s o=some (qb m s o):=by
 unfold kC;rw [abp (acj.mpr h)]
theorem II {m:am} {s:ck} {o:Nat} (h:∃ O∈c7 m s o,iF m s (Ord.off o O)=false):kC m s o=none:=by
 unfold kC;rw [abC];intro z;obtain ⟨O,H,a⟩:=h;have:=acj.mp z O H;rw [a] at this;cases this
def tp.ord (g:tp) (l:aH):tp:={ g with gu:=g.gu++[l]}
def tp.row (g:tp) (r:cm):tp:={ g with rows:=g.rows++[r]}
theorem ie.ord {m:am} {g:tp} {s:ck} (h:ie m g) (e:g.met[g.gu.length]?=some s):ie m (g.ord (s.orders m)):=by
 have b:=(SV.mp e).1;refine ⟨h.nd,?_,h.lr,h.st,λ i x o a E=>?_,h.rows⟩
 . show (g.gu++[s.orders m]).length<=g.met.length;rw [aas,abh];lia
 .
  have E:(g.gu++[s.orders m])[i]?=some o:=E;by_cases H:i<g.gu.length
  . rw [aaO H] at E;exact h.gu i x o a E
  .
   have:=(SV.mp E).1;rw [aas,abh] at this;obtain rfl:i=g.gu.length:=by lia
   rw [ack] at E;have a:g.met[g.gu.length]?=some x:=a;rw [e] at a;cases a;cases E;rfl
theorem ie.row {m:am} {g:tp} {s:ck} {r:cm} (h:ie m g) (e:g.met[g.rows.length]?=some s) (c:Paired (λ o b=>rq g.met (kC m s o) b) (s.orders m) r):ie m (g.row r):=by
 have d:=(SV.mp e).1;refine ⟨h.nd,h.lo,?_,h.st,h.gu,λ i x r' a E=>?_⟩
 . show (g.rows++[r]).length<=g.met.length;rw [aas,abh];lia
 .
  have E:(g.rows++[r])[i]?=some r':=E;by_cases H:i<g.rows.length
  . rw [aaO H] at E;exact h.rows i x r' a E
  .
   have:=(SV.mp E).1;rw [aas,abh] at this;obtain rfl:i=g.rows.length:=by lia
   rw [ack] at E;have a:g.met[g.rows.length]?=some x:=a;rw [e] at a;cases a;cases E;exact c
inductive ND (P:bq) (w:bi) (K:aF) (C CG:ak) (vs:aB) (H:Hp) (Q:VK) (_E:XK):Prop
 | mk (x a pm po pr pd lim g m fp:_) (_:vs=[.ref x,.ref a]) (_:fo P w K CG [] H x pm po pr pd lim g) (_:ie m g) (_:g.gu.length=g.rows.length) (_:wU m lim) (_:lim<=2000) (_:C5 m) (_:aN K C H a fp m) (_:pm∉fp) (_:po∉fp) (_:pr∉fp) (_:pd∉fp) (_:∀ g' H',iw [pm,po,pr,pd] H H'->aZ K H H'->fo P w K CG [] H' x pm po pr pd lim g'->ie m g'->g'.gu.length=g'.rows.length->g'.rows.length=g'.met.length->(∃ more,g'.met=g.met++more)->Q .cN H')
section
variable {P:bq} {w:bi} {K:aF} {CG:ak} {L:bp} {H:Hp} {x pm po pr pd q:ak} {lim:Int} {g:tp}
theorem fo.ord (h:fo P w K CG L H x pm po pr pd lim g) {v:aB} {l:aH} (a:H po=some (.lst v)) (m:H q=some (.lst (l.map aq))) (r:q∉L++[pm,po,pr]):fo P w K CG L (upd H po (.lst (v++[.ref q]))) x pm po pr pd lim (g.ord l):=by
 obtain ⟨⟨k,b⟩,⟨V,A,c⟩,⟨s,B,i⟩,⟨u,C,j⟩,⟨f,d,D⟩,n,o,N⟩:=h;rw [a] at B;cases B;have t:aZ K H (upd H po (.lst (v++[.ref q]))):=cq a rfl;have e:dJ (upd H po (.lst (v++[.ref q]))) (L++[pm,po,pr])=dJ H (L++[pm,po,pr]):=oU (by simp);refine ⟨⟨k,by rw [aw (λ z=>by rw [z,a] at b;cases b)];exact b⟩,⟨V,by rw [aw n];exact A,c.imp λ p x h=>h.ts t⟩,⟨_,af,?_⟩,⟨u,by rw [aw N.symm];exact C,by rw [e];exact j⟩,⟨f,d.dI t (aw (λ z=>by have:=d.ob;rw [z,a] at this;cases this)),D⟩,n,o,N⟩;rw [e];show bP K _ ((g.gu++[l]).map _) _;rw [aau];exact bP.snoc i (rO (aW.of (jV m r)))
theorem fo.row (h:fo P w K CG L H x pm po pr pd lim g) {v acc:aB} {r:cm} (a:H pr=some (.lst v)) (l:H q=some (.lst acc)) (o:q∉L++[pm,po,pr]) (O:bP K (dJ H (L++[pm,po,pr])) (r.map wP) acc):fo P w K CG L (upd H pr (.lst (v++[.ref q]))) x pm po pr pd lim (g.row r):=by
 obtain ⟨⟨k,b⟩,⟨V,A,f⟩,⟨s,B,j⟩,⟨u,c,C⟩,⟨i,d,D⟩,m,n,N⟩:=h;rw [a] at c;cases c;have t:aZ K H (upd H pr (.lst (v++[.ref q]))):=cq a rfl;have e:dJ (upd H pr (.lst (v++[.ref q]))) (L++[pm,po,pr])=dJ H (L++[pm,po,pr]):=oU (by simp);refine ⟨⟨k,by rw [aw (λ z=>by rw [z,a] at b;cases b)];exact b⟩,⟨V,by rw [aw n];exact A,f.imp λ p x h=>h.ts t⟩,⟨s,by rw [aw N];exact B,by rw [e];exact j⟩,⟨_,af,?_⟩,⟨i,d.dI t (aw (λ z=>by have:=d.ob;rw [z,a] at this;cases this)),D⟩,m,n,N⟩;rw [e];show bP K _ ((g.rows++[r]).map _) _;rw [aau];exact bP.snoc C (wm (aW.of (jV l o)) O)
end
section
variable {P:bq} {w:bi} {K:aF} {C CR:ak} {L L':bp} {H H':Hp} {x d a:ak} {fp:bp} {m:am} {c:Nat}
theorem Ia (h:aN K C H a fp m) (st:∀ b o,H b=some o->b∈fp->H' b=some o) (t:aZ K H H'):aN K C H' a fp m:=by
 obtain ⟨⟨N,w,v,x,y,V,G,vt,A,rfl,l,q,I,R,J,p,r,s,u,D,f,k,d,F⟩,Q,z,B,E⟩:=h;have g:=λ {c o} e n=>st c o e n;exact ⟨⟨N,w,v,x,y,V,G,vt,A,rfl,g l (by simp),g q (by simp),g I (by simp),g R (by simp),g J (by simp),g p (by simp),r,s,u,mJ t D,j3 t f,iT t k,λ i j=>(d i j).ts t,F⟩,Q,z,B,E⟩
theorem fD.frame (r:fD P w K C CR L H x d a fp m c) {M:bp} (b:iw M H H') (t:aZ K H H') (nx:x∉M) (G:d∉M) (nf:∀ c∈fp,c∉M) (k:∀ c∈M,c∈L\/∀ xs,H c≠some (.lst xs)):fD P w K C CR L H' x d a fp m c:=by
 obtain ⟨⟨D,F⟩,p,n,A,g,s,E⟩:=r;refine ⟨⟨D,b _ _ F nx⟩,Ia p (λ c u e o=>b c u e (nf c o)) t,n,A,g.dI t ?_,s,λ i B f v e=>?_⟩
 . rw [g.ob];exact b _ _ g.ob G
 .
  have:=E i B f v e;cases z:bj m i B f with
  | none=>rw [z] at this;exact this
  | some l =>
    rw [z] at this;obtain ⟨q,e,N,j⟩:=this;exact ⟨q,e,N,b _ _ j λ y=>(k q y).elim N λ h=>h _ j⟩
theorem fD.zero (r:fD P w K C CR L H x d a fp m 0):fD P w K C CR L' H x d a fp m 0:=by
 obtain ⟨i,b,n,A,c,h,g⟩:=r;obtain rfl:=acf (Nat.le_zero.mp h);exact ⟨i,b,n,[],c,h,λ i B f v e=>by cases e⟩
end
inductive Kq (P:bq) (w:bi) (K:aF) (C CG:ak) (vs:aB) (H:Hp) (Q:VK) (_E:XK):Prop
 | mk (x dx a q lim fp m xs l:_) (_:vs=[.ref x,.ref a,.ref q,.int lim]) (_:H x=some (.ins CG dx [])) (_:aN K C H a fp m) (_:x∉fp) (_:C5 m) (_:wU m lim) (_:lim<=2000) (_:H q=some (.lst xs)) (_:rN K H xs l) (_:(∀ s∈l,cY m s)) (_:∀ pm po pr pd g H',iw [x] H H'->aZ K H H'->(∀ b∈[pm,po,pr,pd],H b=none)->fo P w K CG [] H' x pm po pr pd lim g->ie m g->g.gu.length=g.rows.length->g.rows.length=g.met.length->(∀ s∈l,s∈g.met)->(∀ s r,l=s::r->g.met[0]?=some s)->Q .cN H')
structure lA where
 bU:List (List (Option Nat))
 d7:aH
 bQ:List (Option Nat)
 queue:aH
def pO (rows:List cm):Nat->Nat->Prop
 | 0,p=>rows[p]?=some []
 | k+1,p=>∃ r,rows[p]?=some r/\∀ (c:Nat) (v:Option (aH)),r[c]?=some v->v=none\/∃ J,v=some J/\∃ j∈J,pO rows k j
theorem pO.succ {rows:List cm}:∀ {k p:Nat},pO rows k p->pO rows (k+1) p
 | 0,p,h=>⟨[],h,λ c v e=>by simp at e⟩
 | k+1,p,⟨r,e,h⟩=>⟨r,e,λ c v E=>(h c v E).imp id λ ⟨J,a,j,H,q⟩=>⟨J,a,j,H,q.succ⟩⟩
theorem pO.mono {rows:List cm} {k n p:Nat} (h:pO rows k p) (l:k<=n):pO rows n p:=by
 obtain ⟨d,rfl⟩:=Nat.exists_eq_add_of_le l;induction d with
 | zero=>exact h
 | succ d i=>exact (i (aed _ _)).succ
def wn (rows:List cm) (b:List (Option Nat)) (p c t:Nat):Prop:=∃ r:cm,rows[p]?=some r/\(r[c]?=some none/\t=0\/∃ J,r[c]?=some (some J)/\∃ j∈J,b[j]?=some (some t))
structure jh (rows:List cm) (S:lA) (cur:Nat):Prop where
 ll:S.bU.length=rows.length
 lg:S.d7.length=rows.length
 lk:S.bQ.length=rows.length
 sh:∀ (p:Nat) l r,S.bU[p]?=some l->rows[p]?=some r->l.length=r.length
 go:∀ (p:Nat) l n,S.bU[p]?=some l->S.d7[p]?=some n->n=l.countP Option.isNone
 rk:∀ (p:Nat) n,S.d7[p]?=some n->(n=0↔∃ k,S.bQ[p]?=some (some k))
 qu:∀ p,p∈S.queue↔∃ k,S.bQ[p]?=some (some k)
 nd:S.queue.Nodup
 z:∀ p:Nat,rows[p]?=some []↔S.bQ[p]?=some (some 0)
 lo:∀ (p:Nat) l (c:Nat) t,S.bU[p]?=some l->l[c]?=some (some t)->t<=cur
 ls:∀ (p:Nat) l (c:Nat) t,S.bU[p]?=some l->l[c]?=some (some t)->wn rows S.bQ p c t
 top:∀ (p:Nat) t l,S.bQ[p]?=some (some (t+1))->S.bU[p]?=some l->(∀ (c:Nat) t',l[c]?=some (some t')->t'<=t)/\∃ c:Nat,l[c]?=some (some t)
 le:∀ (p:Nat) k,S.bQ[p]?=some (some k)->k<=cur+1
 srt:S.queue.Pairwise λ a b=>∀ x y,S.bQ[a]?=some (some x)->S.bQ[b]?=some (some y)->x<=y
def lA.fin (S:lA) (p c t:Nat) (l:List (Option Nat)) (n:Nat):lA:=⟨S.bU.set p (l.set c (some t)),S.d7.set p (n - 1),if n=1 then S.bQ.set p (some (t+1)) else S.bQ,if n=1 then S.queue++[p] else S.queue⟩
theorem dG {b:Type} {l:List b} {i j:Nat} {a x:b}:(l.set i a)[j]?=some x↔(i=j/\i<l.length/\x=a)\/(i≠j/\l[j]?=some x):=by
 rw [List.getElem?_set];by_cases h:i=j
 .
  rw [abp h];by_cases H:i<l.length
  . rw [abp H];exact ⟨λ e => .inl ⟨h,H,(abb e).symm⟩,λ e=>e.elim (λ e=>by rw [e.2.2]) λ e=>absurd h e.1⟩
  . rw [abC H];exact ⟨λ e=>by simp at e,λ e=>e.elim (λ e=>absurd e.2.1 H) λ e=>absurd h e.1⟩
 . simp_all
theorem jh.fin {rows:List cm} {S:lA} {p c n:Nat} {l:List (Option Nat)} (h:jh rows S cur) (o:S.bU[p]?=some l) (K:S.d7[p]?=some n) (J:l[c]?=some none) (W:wn rows S.bQ p c cur):jh rows (S.fin p c cur l n) cur:=by
 have T:c<l.length:=(SV.mp J).1;have L0:p<S.d7.length:=(SV.mp K).1;have Q:p<S.bQ.length:=by rw [h.lk,<- h.ll];exact ((SV.mp o).1)
 have G:=h.go p l n o K;have n0:n≠0:=λ z=>by
   rw [z] at G;exact aeb.mp G.symm _ (aae J) rfl
 have N:∀ k,S.bQ[p]?≠some (some k):=λ k e=>n0 ((h.rk p n K).mpr ⟨k,e⟩);have C:p∉S.queue:=λ z=>by obtain ⟨k,e⟩:=(h.qu p).mp z;exact N k e
 have f:∀ j k,(S.fin p c cur l n).bQ[j]?=some (some k)↔(n=1/\j=p/\k=cur+1)\/S.bQ[j]?=some (some k):=λ j k=>by
   by_cases H:n=1
   .
    simp only [lA.fin,abp H,dG];constructor
    . rintro (⟨rfl,Z,e⟩|⟨Z,e⟩)
      . exact .inl ⟨H,rfl,abb e⟩
      . exact .inr e
    . rintro (⟨Z,rfl,rfl⟩|e)
      . exact .inl ⟨rfl,Q,rfl⟩
      . exact .inr ⟨λ z=>N k (z ▸ e),e⟩
   . simp only [lA.fin,abC H];exact ⟨.inr,λ e=>e.elim (λ e=>absurd e.1 H) id⟩
 have U:∀ {j k},S.bQ[j]?=some (some k)->(S.fin p c cur l n).bQ[j]?=some (some k):=λ e=>(f _ _).mpr (.inr e);have i:∀ {M c' t'},wn rows S.bQ M c' t'->wn rows (S.fin p c cur l n).bQ M c' t':=λ ⟨r,B,q⟩=>⟨r,B,q.imp id λ ⟨Y,V,j,X,e⟩=>⟨Y,V,j,X,U e⟩⟩
 have F:∀ {j L},(S.fin p c cur l n).bU[j]?=some L->(j=p/\L=l.set c (some cur))\/(j≠p/\S.bU[j]?=some L):=λ e=>by
   rcases dG.mp e with ⟨rfl,Z,e⟩|⟨q,e⟩
   . exact .inl ⟨rfl,e⟩
   . exact .inr ⟨λ z=>q z.symm,e⟩
 have I:∀ {j m},(S.fin p c cur l n).d7[j]?=some m->(j=p/\m=n - 1)\/(j≠p/\S.d7[j]?=some m):=λ e=>by
   rcases dG.mp e with ⟨rfl,Z,e⟩|⟨q,e⟩
   . exact .inl ⟨rfl,e⟩
   . exact .inr ⟨λ z=>q z.symm,e⟩
 have qm:∀ j,j∈(S.fin p c cur l n).queue↔(n=1/\j=p)\/j∈S.queue:=λ j=>by
   by_cases H:n=1
   . simp only [lA.fin,abp H,aaU,aac];exact ⟨λ e=>e.elim .inr λ e => .inl ⟨H,e⟩,λ e=>e.elim (λ e => .inr e.2) .inl⟩
   . simp only [lA.fin,abC H];exact ⟨.inr,λ e=>e.elim (λ e=>absurd e.1 H) id⟩
 have D:(l.set c (some cur)).countP Option.isNone=n - 1:=by
   rw [List.countP_set T,(SV.mp J).2,G];rfl
 refine ⟨?_,?_,?_,?_,?_,?_,?_,?_,?_,?_,?_,?_,?_,?_⟩
 . show (S.bU.set p _).length=_;rw [ado];exact h.ll
 . show (S.d7.set p _).length=_;rw [ado];exact h.lg
 .
  show (if n=1 then S.bQ.set p (some (cur+1)) else S.bQ).length=_;split
  . rw [ado];exact h.lk
  . exact h.lk
 .
  intro j L r e B;rcases F e with ⟨rfl,rfl⟩|⟨Z,e⟩
  . rw [ado];exact h.sh _ _ _ o B
  . exact h.sh _ _ _ e B
 .
  intro j L m e d;rcases F e with ⟨rfl,rfl⟩|⟨q,e⟩
  . rcases I d with ⟨Z,rfl⟩|⟨q,Z⟩
    . exact D.symm
    . exact absurd rfl q
  . rcases I d with ⟨z,Z⟩|⟨Z,d⟩
    . exact absurd z q
    . exact h.go _ _ _ e d
 .
  intro j m d;rcases I d with ⟨rfl,rfl⟩|⟨q,d⟩
  . refine ⟨λ z=>⟨cur+1,(f _ _).mpr (.inl ⟨by lia,rfl,rfl⟩)⟩,λ ⟨k,e⟩=>?_⟩;rcases (f _ _).mp e with ⟨e,Z⟩|e
    . lia
    . exact absurd e (N k)
  . refine (h.rk j m d).trans ⟨λ ⟨k,e⟩=>⟨k,U e⟩,λ ⟨k,e⟩=>?_⟩;rcases (f _ _).mp e with ⟨Z,e,Z⟩|e
    . exact absurd e q
    . exact ⟨k,e⟩
 .
  intro j;rw [qm j];constructor
  . rintro (⟨A,rfl⟩|e)
    . exact ⟨cur+1,(f _ _).mpr (.inl ⟨A,rfl,rfl⟩)⟩
    . obtain ⟨k,e⟩:=(h.qu j).mp e;exact ⟨k,U e⟩
  . rintro ⟨k,e⟩;rcases (f _ _).mp e with ⟨A,E,Z⟩|e
    . exact .inl ⟨A,E⟩
    . exact .inr ((h.qu j).mpr ⟨k,e⟩)
 .
  show (if n=1 then S.queue++[p] else S.queue).Nodup;split
  . exact adL.mpr ⟨h.nd,ad9 _ _,λ a v b w e=>C (by rw [<- aac.mp w,<- e];exact v)⟩
  . exact h.nd
 .
  intro j;refine (h.z j).trans ⟨U,λ e=>?_⟩;rcases (f _ _).mp e with ⟨Z,Z,e⟩|e
  . lia
  . exact e
 .
  intro j L c' t e E;rcases F e with ⟨rfl,rfl⟩|⟨Z,e⟩
  . rcases dG.mp E with ⟨Z,Z,E⟩|⟨Z,E⟩
    . rw [abb E];exact aaE _
    . exact h.lo _ _ _ _ o E
  . exact h.lo _ _ _ _ e E
 .
  intro j L c' t e E;rcases F e with ⟨rfl,rfl⟩|⟨Z,e⟩
  . rcases dG.mp E with ⟨rfl,Z,E⟩|⟨Z,E⟩
    . rw [abb E];exact i W
    . exact i (h.ls _ _ _ _ o E)
  . exact i (h.ls _ _ _ _ e E)
 .
  intro j t L s e;rcases (f _ _).mp s with ⟨Z,rfl,A⟩|u
  .
   obtain rfl:t=cur:=by lia
   rcases F e with ⟨Z,rfl⟩|⟨q,Z⟩
   . refine ⟨λ c' t' R=>?_,c,dG.mpr (.inl ⟨rfl,T,rfl⟩)⟩;rcases dG.mp R with ⟨Z,Z,E⟩|⟨Z,E⟩
     . rw [abb E];exact aaE _
     . exact h.lo _ _ _ _ o E
   . exact absurd rfl q
  . rcases F e with ⟨rfl,Z⟩|⟨Z,e⟩
    . exact absurd u (N _)
    . exact h.top _ _ _ u e
 .
  intro j k s;rcases (f _ _).mp s with ⟨Z,Z,rfl⟩|s
  . exact aaE _
  . exact h.le _ _ s
 .
  have O:S.queue.Pairwise λ a b=>∀ x y,(S.fin p c cur l n).bQ[a]?=some (some x)->(S.fin p c cur l n).bQ[b]?=some (some y)->x<=y:=by
    refine h.srt.imp_of_mem λ {a b} v w q x y ex g=>?_;rcases (f _ _).mp ex with ⟨Z,rfl,Z⟩|ex
    . exact absurd v C
    rcases (f _ _).mp g with ⟨Z,rfl,Z⟩|g
    . exact absurd w C
    exact q x y ex g
  show (if n=1 then S.queue++[p] else S.queue).Pairwise _;by_cases H:n=1
  .
   rw [abp H];refine afs.mpr ⟨O,ad9 _ _,λ a v b w x y ex g=>?_⟩;rw [aac.mp w] at g;rcases (f _ _).mp ex with ⟨Z,rfl,Z⟩|ex
   . exact absurd v C
   rcases (f _ _).mp g with ⟨Z,Z,rfl⟩|g
   . exact h.le _ _ ex
   . exact absurd g (N _)
  . rw [abC H];exact O
def gD (rows:List cm) (S:lA):Prop:=∀ (p:Nat) (r:cm) (c:Nat),rows[p]?=some r->r[c]?=some none->∃ l,S.bU[p]?=some l/\l[c]?=some (some 0)
def zB (rows:List cm) (S:lA) (j:Nat):Prop:=∀ (p:Nat) (r:cm) (c:Nat) J,rows[p]?=some r->r[c]?=some (some J)->j∈J->∃ l t k,S.bU[p]?=some l/\l[c]?=some (some t)/\S.bQ[j]?=some (some k)/\t<=k
theorem xX {S:lA} {p c t n:Nat} {l:List (Option Nat)} (b:S.bU[p]?=some l) (H:l[c]?=some none) {a:Nat} {L:List (Option Nat)} {t':Nat} (e:S.bU[a]?=some L) (E:L[c']?=some (some t')):∃ d,(S.fin p c t l n).bU[a]?=some d/\d[c']?=some (some t'):=by
 by_cases h:p=a
 .
  subst h;rw [b] at e;cases e;refine ⟨_,dG.mpr (.inl ⟨rfl,(SV.mp b).1,rfl⟩),dG.mpr (.inr ⟨λ z=>?_,E⟩)⟩;rw [z,E] at H;cases H
 . exact ⟨L,dG.mpr (.inr ⟨h,e⟩),E⟩
theorem jh.HB {rows:List cm} {S:lA} {p c n t:Nat} {l:List (Option Nat)} (h:jh rows S cur) (b:S.bU[p]?=some l) (H:S.d7[p]?=some n) (a:l[c]?=some none) {j k:Nat} (e:S.bQ[j]?=some (some k)):(S.fin p c t l n).bQ[j]?=some (some k):=by
 have N:n≠0:=λ z=>by
   have E:=h.go p l n b H;rw [z] at E;exact aeb.mp E.symm _ (aae a) rfl
 show (if n=1 then S.bQ.set p (some (t+1)) else S.bQ)[j]?=_;split
 . exact dG.mpr (.inr ⟨λ z=>N ((h.rk p n H).mpr ⟨k,z ▸ e⟩),e⟩)
 . exact e
theorem jh.sound {rows:List cm} {S:lA} (h:jh rows S cur):∀ (k p:Nat),S.bQ[p]?=some (some k)->pO rows k p:=by
 intro k;induction k using Nat.strongRecOn with
 | _ k I =>
   intro p e;cases k with
   | zero=>exact (h.z p).mpr e
   | succ t =>
     have H:p<rows.length:=by rw [<- h.lk];exact (SV.mp e).1
     have o:p<S.bU.length:=by rw [h.ll];exact H
     have D:p<S.d7.length:=by rw [h.lg];exact H
     have E:=UY o;have b:=UY H;have f:=UY D;have C:=(h.go p _ _ E f).symm.trans ((h.rk p _ f).mpr ⟨_,e⟩);refine ⟨_,b,λ c v g=>?_⟩;have i:c<S.bU[p].length:=by rw [h.sh p _ _ E b];exact (SV.mp g).1
     have a:=UY i;have n:=aeb.mp C _ (aaH i);cases q:S.bU[p][c] with
     | none=>rw [q] at n;exact absurd rfl n
     | some T =>
       rw [q] at a;have L:=(h.top p t _ e E).1 c T a;obtain ⟨r,d,w⟩:=h.ls p _ c T E a;rw [b] at d;cases d;rcases w with ⟨w,Z⟩|⟨J,w,j,m,l⟩
       . simp_all
       . rw [g] at w;exact .inr ⟨J,abb w,j,m,(I T (by lia) j l).mono L⟩
theorem jh.whole {rows:List cm} {S:lA} (h:jh rows S cur) (N:gD rows S) (G:∀ j∈S.queue,zB rows S j):∀ (k p:Nat),pO rows k p->∃ K,S.bQ[p]?=some (some K)/\K<=k
 | 0,p,e=>⟨0,(h.z p).mp e,aaE _⟩
 | k+1,p,⟨r,g,x⟩=>by
   have s:=(SV.mp g).1;have O:p<S.bU.length:=by rw [h.ll];exact s
   have D:p<S.d7.length:=by rw [h.lg];exact s
   have d:=UY O;have n:=UY D;have all:∀ c:Nat,c<S.bU[p].length->∃ t,S.bU[p][c]?=some (some t)/\t<=k:=by
     intro c H;have R:c<r.length:=by rw [<- h.sh p _ _ d g];exact H
     have f:=UY R;rcases x c _ f with q|⟨J,q,j,w,i⟩
     . rw [q] at f;obtain ⟨l,E,a⟩:=N p r c g f;rw [d] at E;cases E;exact ⟨0,a,ab2 _⟩
     . rw [q] at f;obtain ⟨K,b,L⟩:=h.whole N G k j i;obtain ⟨l,t,B,E,a,u,A⟩:=G j ((h.qu j).mpr ⟨K,b⟩) p r c J g f w;rw [d] at E;cases E;rw [b] at u;exact ⟨t,a,by lia⟩
   have C:S.bU[p].countP Option.isNone=0:=aeb.mpr λ v y z=>by
     obtain ⟨c,H,rfl⟩:=acP.mp y;obtain ⟨t,o,Z⟩:=all c H;rw [UY H] at o;rw [abb o] at z;cases z
   obtain ⟨K,b⟩:=(h.rk p _ n).mp ((h.go p _ _ d n).trans C);refine ⟨K,b,?_⟩;cases K with
   | zero=>exact ab2 _
   | succ t =>
     obtain ⟨c,m⟩:=(h.top p t _ b d).2;obtain ⟨T,a,L⟩:=all c (SV.mp m).1;rw [m] at a;lia
theorem jh.up {rows:List cm} {S:lA} {a b:Nat} (h:jh rows S a) (L:a<=b):jh rows S b :=
 ⟨h.ll,h.lg,h.lk,h.sh,h.go,h.rk,h.qu,h.nd,h.z,λ p l c t e f=>aaX (h.lo p l c t e f) L,h.ls,h.top,λ p k e=>aaX (h.le p k e) (aec L),h.srt⟩
def LI (rows:List cm):lA:=⟨rows.map λ r=>r.map λ Z=>none,rows.map List.length,rows.map λ r=>if r.length=0 then some 0 else none,(List.range rows.length).filter λ p=>rows[p]? == some []⟩
theorem hZ {rows:List cm} {p k:Nat}:(LI rows).bQ[p]?=some (some k)↔rows[p]?=some []/\k=0:=by
 show (rows.map _)[p]?=_↔_;rw [aah];cases e:rows[p]? with
 | none=>simp
 | some r =>
   cases r with
   | nil=>simp [eq_comm]
   | cons a r=>simp
theorem xa {rows:List cm} {p:Nat} {l:List (Option Nat)} (e:(LI rows).bU[p]?=some l):∃ r,rows[p]?=some r/\l=r.map λ Z=>none:=by
 have e:(rows.map λ r=>r.map λ Z=>none)[p]?=some l:=e;rw [aah] at e;obtain ⟨r,E,rfl⟩:=acY.mp e;exact ⟨r,E,rfl⟩
theorem C7 {rows:List cm} {p c t:Nat} {l:List (Option Nat)} (e:(LI rows).bU[p]?=some l):l[c]?≠some (some t):=by
 obtain ⟨r,Z,rfl⟩:=xa e;intro q;rw [aah] at q;obtain ⟨Z,Z,z⟩:=acY.mp q;cases z
theorem Ph (rows:List cm):jh rows (LI rows) 0:=by
 have C:∀ r:cm,(r.map λ Z=>(none:Option Nat)).countP Option.isNone=r.length:=λ r=>by
   simp_all
 refine ⟨Ea ..,Ea ..,Ea ..,λ p l r e a=>?_,λ p l n e E=>?_,λ p n E=>?_,λ p=>?_,List.nodup_range.filter _,λ p=>?_,λ p l c t e q=>absurd q (C7 e),λ p l c t e q=>absurd q (C7 e),λ p t l e Z=>?_,λ p k e=>?_,?_⟩
 .
  obtain ⟨R,V,rfl⟩:=xa e;rw [a] at V;cases V;exact Ea ..
 .
  obtain ⟨r,a,rfl⟩:=xa e;have E:(rows.map List.length)[p]?=some n:=E;rw [aah,a] at E;rw [C];exact (abb E).symm
 .
  have E:(rows.map List.length)[p]?=some n:=E;rw [aah] at E;obtain ⟨r,a,rfl⟩:=acY.mp E;refine ⟨λ z=>⟨0,hZ.mpr ⟨by rw [a,aea.mp z],rfl⟩⟩,λ ⟨k,e⟩=>?_⟩;have:=(hZ.mp e).1;rw [a] at this;rw [abb this];rfl
 .
  show p∈(List.range rows.length).filter _↔_;rw [abT,aaK];refine ⟨λ ⟨_,e⟩=>⟨0,hZ.mpr ⟨by simpa using e,rfl⟩⟩,λ ⟨k,e⟩=>?_⟩;have:=(hZ.mp e).1;exact ⟨(SV.mp this).1,by rw [this];rfl⟩
 . exact ⟨λ e=>hZ.mpr ⟨e,rfl⟩,λ e=>(hZ.mp e).1⟩
 . have:=(hZ.mp e).2;lia
 . rw [(hZ.mp e).2];exact ab2 _
 . refine ago (λ Z Z Z x y ex b=>?_) (List.pairwise_of_forall λ Z Z=>trivial);rw [(hZ.mp ex).2];exact ab2 _
def kz (m:am):Nat->ck->Prop
 | 0,s=>s.orders m=[]
 | k+1,s=>∀ o∈s.orders m,kC m s o=none\/∃ l,kC m s o=some l/\∃ t∈l,kz m k t
theorem wX {c d:Type} {F:c->d->Prop}:∀ {l:List c} {l₂:List d},Paired F l l₂->∀ a∈l,∃ b∈l₂,F a b
 | _,_,.nil,_,h=>absurd h aaj
 | _,_,.cons f q,a,h=>by
   rcases aay.mp h with rfl|h
   . exact ⟨_,aaZ,f⟩
   . obtain ⟨b,H,e⟩:=wX q a h;exact ⟨b,aaB _ H,e⟩
theorem tT {c d:Type} {F:c->d->Prop}:∀ {l:List c} {l₂:List d},Paired F l l₂->∀ b∈l₂,∃ a∈l,F a b
 | _,_,.nil,_,h=>absurd h aaj
 | _,_,.cons f q,a,h=>by
   rcases aay.mp h with rfl|h
   . exact ⟨_,aaZ,f⟩
   . obtain ⟨b,H,e⟩:=tT q a h;exact ⟨b,aaB _ H,e⟩
theorem ie.ill {m:am} {g:tp} (h:ie m g) (D:g.rows.length=g.met.length):∀ (k p:Nat) (s:ck),g.met[p]?=some s->(pO g.rows k p↔kz m k s):=by
 have a:∀ {p s},g.met[p]?=some s->∃ r,g.rows[p]?=some r/\Paired (λ o b=>rq g.met (kC m s o) b) (s.orders m) r:=λ {p s} e=>by
   have w:p<g.rows.length:=by rw [D];exact (SV.mp e).1
   exact ⟨_,UY w,h.rows p s _ e (UY w)⟩
 intro k;induction k with
 | zero =>
   intro p s e;obtain ⟨r,E,H⟩:=a e;have L:=H.length;show g.rows[p]?=some []↔s.orders m=[]
   rw [E];refine ⟨λ z=>?_,λ z=>?_⟩
   . simp_all
   . rw [z] at L;rw [aea.mp L.symm]
 | succ k I =>
   intro p s e;obtain ⟨r,E,H⟩:=a e;refine ⟨λ ⟨F,V,q⟩ o n=>?_,λ q=>⟨r,E,λ c v A=>?_⟩⟩
   .
    rw [E] at V;cases V;obtain ⟨b,B,R⟩:=wX H o n;obtain ⟨c,C,x⟩:=acP.mp B;have:=q c b (by rw [UY C,x]);cases y:kC m s o with
    | none=>exact .inl rfl
    | some l =>
      rw [y] at R;cases b with
      | none=>exact R.elim
      | some J =>
        rcases this with z|⟨M,z,j,f,i⟩
        . cases z
        . cases z;obtain ⟨t,u,d⟩:=wX (show Paired _ J l from R) j f;exact .inr ⟨l,rfl,t,u,(I j t d).mp i⟩
   .
    obtain ⟨o,n,R⟩:=tT H v (aae A);cases v with
    | none=>exact .inl rfl
    | some J =>
      rcases q o n with z|⟨l,z,t,u,i⟩
      . rw [z] at R;exact R.elim
      . rw [z] at R;obtain ⟨j,f,d⟩:=tT (show Paired _ J l from R) t u;exact .inr ⟨J,rfl,j,f,(I j t d).mpr i⟩
def iI (m:am) (s:ck):Option Nat->Prop
 | none=>∀ k,¬kz m k s
 | some k=>kz m k s/\∀ i,i<k->¬kz m i s
theorem jh.rank {m:am} {g:tp} {S:lA} (h:jh g.rows S cur) (n:gD g.rows S) (G:∀ j∈S.queue,zB g.rows S j) (ok:ie m g) (l:g.rows.length=g.met.length) {p:Nat} {s:ck} {v:Option Nat} (e:g.met[p]?=some s) (a:S.bQ[p]?=some v):iI m s v:=by
 cases v with
 | none =>
   intro k q;obtain ⟨K,E,Z⟩:=h.whole n G k p ((ok.ill l k p s e).mpr q);rw [a] at E;cases E
 | some k =>
   refine ⟨(ok.ill l k p s e).mp (h.sound k p a),λ i H q=>?_⟩;obtain ⟨K,E,L⟩:=h.whole n G i p ((ok.ill l i p s e).mpr q);rw [a] at E;lia
theorem iI.le {m m':am} {s s':ck} {a b:Option Nat} (h:iI m s a) (H:iI m' s' b) (S:∀ k,kz m' k s'->kz m k s):b=none\/∃ x y,a=some x/\b=some y/\x<=y:=by
 cases b with
 | none=>exact .inl rfl
 | some y =>
   have i:=S y H.1;cases a with
   | none=>exact absurd i (h y)
   | some x=>exact .inr ⟨x,y,rfl,rfl,aet λ z=>h.2 y z i⟩
section
variable {X:Cx}
inductive XE (K:aF) (x:V) (y:V) (H:Hp) (Q:VK):Prop
 | mk (p xs:_) (i:Nat) (v:_) (_:x = .ref p) (_:y=aq i) (_:aW K H p xs) (_:xs[i]?=some v) (_:Q v H)
theorem Jm:Sx X (XE X.K):=by
 intro b s U H x y v u Q I R f h;obtain ⟨p,l,i,z,rfl,rfl,c,a,q⟩:=h;cases R;obtain ⟨t,rfl⟩:=f;obtain ⟨B,r,d,k⟩:=I.list c;obtain ⟨w,e,M⟩:=r.get a;have j:=wc;have g:=(SV.mp a).1;exact wpAny_getItem_list d.isList (ac4 i) (by lia) (by simpa using e) ⟨z,H,I,M,q⟩
end
def iE:Option Nat->V
 | none => .cN
 | some n=>aq n
abbrev WN (pl pg pk pq:ak):List (Str×V):=[("lasts",.ref pl),("going",.ref pg),("ranks",.ref pk),("queue",.ref pq)]
structure jo (CR:ak) (H:Hp) (x pl pg pk pq:ak) (qs:bp) (S:lA):Prop where
 ins:∃ dx,H x=some (.ins CR dx (WN pl pg pk pq))
 las:H pl=some (.lst (qs.map .ref))
 len:qs.length=S.bU.length
 xV:∀ (i:Nat) q l,qs[i]?=some q->S.bU[i]?=some l->H q=some (.lst (l.map iE))
 WX:H pg=some (.lst (S.d7.map aq))
 Vg:H pk=some (.lst (S.bQ.map iE))
 Ym:H pq=some (.lst (S.queue.map aq))
 nd:(pl::pg::pk::pq::qs).Nodup
theorem map_set {b c:Type} (f:b->c) (l:List b) (i:Nat) (a:b):(l.map f).set i (f a)=(l.set i a).map f:=List.map_set.symm
theorem jo.fin {CR:ak} {x o g m r q:ak} {Q:bp} {S:lA} {p c t n:Nat} {l:List (Option Nat)} (h:jo CR H x o g m r Q S) (d:Q[p]?=some q) (K:S.bU[p]?=some l) :
   jo CR (upd (upd H q (.lst ((l.map iE).set c (aq t)))) g (.lst ((S.d7.map aq).set p (aq (n - 1))))) x o g m r Q ⟨S.bU.set p (l.set c (some t)),S.d7.set p (n - 1),S.bQ,S.queue⟩:=by
 obtain ⟨⟨w,b⟩,y,F,j,G,I,J,k⟩:=h;simp only [ab3,aay,ad7] at k;obtain ⟨⟨A,U,V,s⟩,⟨B,u,v⟩,⟨W,C⟩,D,R⟩:=k;have N:∀ {a},a∉Q->a≠q:=λ n z=>n (z ▸ (aae d));refine ⟨⟨w,?_⟩,?_,?_,λ i T O e E=>?_,?_,?_,?_,?_⟩
 . rw [aw (λ z=>by rw [z,G] at b;cases b),aw (λ z=>by rw [z,(j p q l d K)] at b;cases b)];exact b
 . rw [aw A,aw (N s)];exact y
 . rw [ado];exact F
 .
  rw [aw (λ z=>v (by rw [<- z];exact aae e))];by_cases f:p=i
  .
   subst f;rw [d] at e;cases e;rw [af];rcases dG.mp E with ⟨Z,Z,E⟩|⟨z,Z⟩
   . rw [E];exact acJ some (acJ HO.lst (map_set iE l c (some t)))
   . exact absurd rfl z
  .
   rcases dG.mp E with ⟨z,Z⟩|⟨Z,E⟩
   . exact absurd z f
   rw [aw (λ z=>?_)]
   . exact j i T O e E
   . rw [z] at e;obtain ⟨X,L⟩:=SV.mp d;obtain ⟨Y,M⟩:=SV.mp e;exact f ((af0 R).mp (L.trans M.symm))
 . rw [af,map_set]
 . rw [aw (λ z=>B z.symm),aw (N C)];exact I
 . rw [aw (λ z=>u z.symm),aw (N D)];exact J
 . simp_all
theorem jo.abj {CR:ak} {x g f c d:ak} {q:bp} {S:lA} {p t:Nat} (h:jo CR H x g f c d q S) :
   jo CR (upd (upd H c (.lst ((S.bQ.map iE).set p (aq (t+1))))) d (.lst (S.queue.map aq++[aq p]))) x g f c d q ⟨S.bU,S.d7,S.bQ.set p (some (t+1)),S.queue++[p]⟩:=by
 obtain ⟨⟨m,a⟩,n,o,r,s,u,v,b⟩:=h;have N:=b;simp only [ab3,aay,ad7] at b;obtain ⟨⟨w,A,j,y⟩,⟨B,k,F⟩,⟨C,l⟩,D,Z⟩:=b;refine ⟨⟨m,?_⟩,?_,o,λ i Q L e E=>?_,?_,?_,?_,N⟩
 . rw [aw (λ z=>by rw [z,v] at a;cases a),aw (λ z=>by rw [z,u] at a;cases a)];exact a
 . rw [aw j,aw A];exact n
 . have:=aae e;rw [aw (λ z=>D (by rw [<- z];exact this)),aw (λ z=>l (by rw [<- z];exact this))];exact r i Q L e E
 . rw [aw k,aw B];exact s
 . rw [aw C,af];exact acJ some (acJ HO.lst (map_set iE S.bQ p (some (t+1))))
 . rw [af,aau];rfl
inductive Rm (CR:ak) (vs:aB) (H:Hp) (Q:VK) (_E:XK):Prop
 | mk (x pl pg pk pq qs S:_) (p c t n:Nat) (l:_) (_:vs=[.ref x,aq p,aq c,aq t]) (_:jo CR H x pl pg pk pq qs S) (_:S.bU[p]?=some l) (_:c<l.length) (_:S.d7[p]?=some n) (_:n≠0) (_:p<S.bQ.length) (_:S.queue.length<=10000) (_:∀ H',iw (pl::pg::pk::pq::qs) H H'->jo CR H' x pl pg pk pq qs (S.fin p c t l n)->Q .cN H')
abbrev IP (pl pg pk pq:ak) (qs:bp):bp:=pl::pg::pk::pq::qs
structure C1 (S S1:lA):Prop where
 qu:∃ more,S1.queue=S.queue++more
 rk:∀ (j k:Nat),S.bQ[j]?=some (some k)->S1.bQ[j]?=some (some k)
 la:∀ (p:Nat) l (c:Nat) t,S.bU[p]?=some l->l[c]?=some (some t)->∃ l',S1.bU[p]?=some l'/\l'[c]?=some (some t)
theorem C1.refl (S:lA):C1 S S:=⟨⟨[],(ac7 _).symm⟩,λ Z Z h=>h,λ Z l Z Z h H=>⟨l,h,H⟩⟩
theorem C1.trans {S s S2:lA} (a:C1 S s) (b:C1 s S2):C1 S S2:=by
 refine ⟨?_,λ j k h=>b.rk j k (a.rk j k h),λ p l c t h H=>?_⟩
 . obtain ⟨m,e⟩:=a.qu;obtain ⟨M,E⟩:=b.qu;exact ⟨m++M,by rw [E,e,ae7]⟩
 . obtain ⟨L,d,f⟩:=a.la p l c t h H;exact b.la p L c t d f
theorem jh.V1 {rows:List cm} {S:lA} {p c n t:Nat} {l:List (Option Nat)} (h:jh rows S cur) (b:S.bU[p]?=some l) (d:S.d7[p]?=some n) (a:l[c]?=some none):C1 S (S.fin p c t l n):=by
 refine ⟨?_,λ j k e=>h.HB b d a e,λ f L c' T e E=>xX b a e E⟩;by_cases H:n=1
 . exact ⟨[p],abp H⟩
 . exact ⟨[],(abC H).trans (ac7 _).symm⟩
theorem zB.more {rows:List cm} {S s:lA} {j:Nat} (g:zB rows S j) (x:C1 S s):zB rows s j:=λ p r c J f d H=>by
 obtain ⟨l,t,k,e,E,a,b⟩:=g p r c J f d H;obtain ⟨L,F,h⟩:=x.la p l c t e E;exact ⟨L,t,k,F,h,x.rk j k a,b⟩
theorem gD.more {rows:List cm} {S S1:lA} (g:gD rows S) (x:C1 S S1):gD rows S1:=λ p r c b a=>by
 obtain ⟨l,e,E⟩:=g p r c b a;exact x.la p l c 0 e E
theorem C1.at {S s:lA} {i j:Nat} (x:C1 S s) (e:S.queue[i]?=some j):s.queue[i]?=some j:=by
 obtain ⟨m,E⟩:=x.qu;rw [E,aaO (SV.mp e).1];exact e
theorem jh.ql {rows:List cm} {S:lA} (h:jh rows S cur):S.queue.length<=rows.length:=by
 have:=ad8 h.nd (l₂:=List.range rows.length) λ p H=>by
   obtain ⟨k,e⟩:=(h.qu p).mp H;exact aaK.mpr (by rw [<- h.lk];exact (SV.mp e).1)
 rw [aaA] at this;exact this
def K5 (K:aF) (H:Hp) (F:bp) (p:ak) (A:List (List (Nat×Nat))):Prop:=∃ v,H p=some (.lst v)/\p∉F/\Refs (λ q l=>q∉F/\∃ V,H q=some (.lst V)/\Refs (λ b (a:Nat×Nat)=>cw K H b [aq a.1,aq a.2]) V l) v A
theorem K5.but {K:aF} {F:bp} {c:ak} {ah:List (List (Nat×Nat))} (h:K5 K H F c ah) (b:iw F H H') (t:aZ K H H'):K5 K H' F c ah:=by
 obtain ⟨v,d,a,f⟩:=h;exact ⟨v,b _ _ d a,a,f.imp λ q l ⟨n,V,e,r⟩=>⟨n,V,b _ _ e n,r.imp λ p g z=>t _ _ z⟩⟩
def Re (rows:List cm) (a:List (List (Nat×Nat))):Prop:=a.length=rows.length/\∀ (j:Nat) l p c,a[j]?=some l->((p,c)∈l↔∃ r:cm,∃ J,rows[p]?=some r/\r[c]?=some (some J)/\j∈J)
theorem jo.wK {CR:ak} {x e p d f:ak} {q:bp} {S:lA} (h:jo CR H x e p d f q S):IR H (IP e p d f q):=λ b a=>by
 simp only [aay] at a;rcases a with rfl|rfl|rfl|rfl|a
 . exact ⟨_,h.las,rfl⟩
 . exact ⟨_,h.WX,rfl⟩
 . exact ⟨_,h.Vg,rfl⟩
 . exact ⟨_,h.Ym,rfl⟩
 . obtain ⟨i,c,rfl⟩:=acP.mp a;have C:i<S.bU.length:=by rw [<- h.len];exact c
   exact ⟨_,h.xV i _ _ (UY c) (UY C),rfl⟩
theorem FT {K:aF} {L:bp} (h:IR H L) (b:iw L H H'):aZ K H H':=λ c x q=>by
 have n:∀ u,H c=some u->FP u=false->c∉L:=λ u e z y=>by
   obtain ⟨o,E,n⟩:=h c y;rw [e] at E;cases E;rw [n] at z;cases z
 rcases q with (q|⟨O,q⟩)|q
 . exact .inl (.inl (b _ _ q (n _ q rfl)))
 . exact .inl (.inr ⟨O,b _ _ q (n _ q rfl)⟩)
 . exact .inr q
theorem Bb {L:bp} {d H2:Hp} (a:iw L H d) (b:iw L d H2):iw L H H2:=λ c o h n=>b c o (a c o h n) n
inductive GM (K:aF) (CR:ak) (vs:aB) (H:Hp) (Q:VK) (_E:XK):Prop
 | mk (x pl pg pk pq qs S pa ah rows:_) (_:vs=[.ref x,.ref pa]) (_:jo CR H x pl pg pk pq qs S) (_:jh rows S 0) (_:gD rows S) (_:K5 K H (IP pl pg pk pq qs) pa ah) (_:Re rows ah) (_:rows.length<=2000) (_:∀ H' S' cur,iw (IP pl pg pk pq qs) H H'->jo CR H' x pl pg pk pq qs S'->jh rows S' cur->gD rows S'->(∀ j∈S'.queue,zB rows S' j)->Q .cN H')
theorem KD (K:aF) (t:String):W.kitOne K (.type t) (.type t)=some true:=by
 unfold W.kitOne;rw [abp (beq_self_eq_true _)]
def InH (m:am) (i:Int):Prop:=0<=i/\i<(m.rows.length:Int)
instance (m:am) (i:Int):Decidable (InH m i):=inferInstanceAs (Decidable (_/\_))
end L2
namespace PySem
open Sem (wp)
end PySem
namespace L2
open PySem PySem.Spec PyProof.Rows Mth
section
variable {X:Cx} {o e f:Expr}
theorem yy (w:X.calm=true):im X (.builtin "any") (λ xs H Q=>∃ (p:ak) (B:List Bool),xs=[.ref p]/\aW X.K H p (B.map V.bl)/\Q (.bl (B.any id)) H):=by
 intro l s U H xs J Q I r h;obtain ⟨p,B,rfl,D,q⟩:=h;obtain ⟨u,rfl,F⟩:∃ u,J=[u]/\RelV (.ref p) u:=by
   cases r with
   | cons a b=>cases b;exact ⟨_,rfl,a⟩
 obtain rfl:=F;obtain ⟨f,R,j,Z⟩:=I.list D;have C:p<s.heap.objs.size:=by obtain ⟨Z,e,Z⟩:=j.isList;exact aba e
 have d:f.length=B.length:=by rw [<- R.length,Ea]
 have m:∀ i v,f.toArray[i]?=some v->v=Value.bool (B.getD i false):=λ i v e=>by
   have E:=by simpa using e
   have c:i<B.length:=by rw [<- d];exact (SV.mp E).1
   obtain ⟨u,k,G⟩:=R.get (i:=i) (x:=V.bl (B[i])) (by simp [c]);rw [E] at k;cases k;rw [G];simp [c]
 refine call_any_walk (age j.isList ⟨s.heap.objs.size,_,_,_,_,_,λ i=>B.getD i false,rfl,Walks.list (by simpa using I.ok.hd w) _ p (abN C) f.toArray,⟨⟨_,abW _ rfl,rfl,rfl⟩,j.isList.push _⟩,λ i v S M L n g=>?_,λ N T A=>?_⟩)
 . rw [m i v n];exact aaW g
 .
  have e:(List.range f.toArray.size).any (λ i=>B.getD i false)=B.any id:=by
    have:f.toArray.size=B.length:=by simpa using d
    rw [this,adC,adF,adF];constructor
    . rintro ⟨i,c,h⟩;have c:=aaK.mp c;exact ⟨B[i],aaH c,by simpa [c] using h⟩
    . rintro ⟨b,t,h⟩;obtain ⟨i,c,rfl⟩:=afw t;exact ⟨i,aaK.mpr c,by simpa [c] using h⟩
  rw [e];exact ⟨.bl _,H,I.kept λ b o z=>A b o (λ y=>by
    have y:=by simpa using y
    exact absurd (aba z) (by rw [y];exact adB _)) (aaF _ z),rfl,q⟩
end
theorem vI {sq:Hp->ak->aB->Prop} {a:ak} {xs:aB} {g:TG} {tb:TS} {D:Ends} {U:St} {H:Hp} (b:Nat->St->Hp->Prop) (j:b 0 U H) (o:∀ i U H,i<=xs.length->b i U H->sq H a xs)
   (s:∀ i x p U H,xs[i]?=some x->H p=none->b i U H->g (.ref p) U (upd H p (.tup [aq i,x])) λ d f=>tb ⟨b (i+1),D.rt,D.nx,b (i+1)⟩ d f) (k:∀ U H,b xs.length U H->D.nx U H) :
   ∃ W:Nat->Nat->St->Hp->Prop,(∃ m,W 0 m U H)/\∀ i m U H,W i m U H ->
     ((Io sq a).stop i H/\D.nx U H)\/((Io sq a).go i H/\∃ N:St->Hp->Prop,(∀ c h,N c h->∃ m',m'<m/\W (i+1) m' c h)/\∀ x h,(Io sq a).Lv i H x h->g x U h λ d f=>tb { D with nx:=N,ct:=N,bk:=D.nx } d f):=by
 refine ⟨λ i m U H=>m=xs.length - i/\i<=xs.length/\b i U H,⟨_,rfl,ab2 _,j⟩,?_⟩;rintro i m U H ⟨rfl,n,p⟩;have q:=o i U H n p;by_cases l:i<xs.length
 . refine .inr ⟨⟨xs,xs[i],q,by simp [l]⟩,b (i+1),λ c h t=>⟨xs.length - (i+1),by lia,rfl,l,t⟩,λ v h y=>?_⟩;obtain ⟨u,x,r,rfl,rfl,E⟩:=y;exact s i x u U H (E xs q) r p
 . have e:i=xs.length:=by lia
   subst e;exact .inl ⟨⟨xs,q,rfl⟩,k U H p⟩
end L2
namespace Mth
noncomputable def qv (f:Int×Int):Rat:=(f.1:Rat) / (f.2:Rat)
theorem gA {b:Int} (h:0<b):(b:Rat)≠0:=λ z=>by
 have:=by exact_mod_cast z
 lia
theorem qP {b:Int} (h:0<b):(0:Rat)<(b:Rat):=by exact_mod_cast h
theorem Ta {f:Int×Int} {t b:Int} (h:0<b) (H:0<f.2) (c:f.1 * b=t * f.2):qv f=(t:Rat) / (b:Rat):=by
 have a:=gA H;have d:=gA h;have C:f.1 * b=(t:Rat) * f.2:=by exact_mod_cast c
 unfold qv
 grind
theorem yu {t b:Int} (h:0<b):qv (nf t b)=(t:Rat) / (b:Rat):=Ta h (jf h).pos (jf h).yK
theorem AQ {x y:Int×Int} (h:0<x.2) (H:0<y.2):qv (lZ x y)=qv x - qv y:=by
 unfold lZ;rw [yu (adf h H)];have a:=gA h;have b:=gA H;have e:((x.1 * y.2 - y.1 * x.2:Int):Rat)=x.1 * y.2 - y.1 * x.2:=by push_cast;rfl
 have E:((x.2 * y.2:Int):Rat)=x.2 * y.2:=by push_cast;rfl
 unfold qv;rw [e,E]
 grind
theorem EN {x y:Int×Int} (h:0<x.2) (H:0<y.2):qv (pA x y)=qv x+qv y:=by
 unfold pA;rw [yu (adf h H)];have a:=gA h;have b:=gA H;have e:((x.1 * y.2+y.1 * x.2):Rat)=x.1 * y.2+y.1 * x.2:=by push_cast;rfl
 have E:((x.2 * y.2:Int))=x.2 * y.2:=by push_cast;rfl
 unfold qv
 grind
theorem rh {x y:Int×Int} (H:0<x.2) (c:0<y.2):bW x y=true↔qv x<qv y:=by
 unfold bW;rw [acG];have d:=qP H;have f:=qP c;have ex:qv x * x.2=x.1:=by unfold qv;have:=gA H;grind
 have E:qv y * y.2=y.1:=by unfold qv;have:=gA c;grind
 have e:(x.1 * y.2<y.1 * x.2)↔(qv x * x.2 * y.2<qv y * y.2 * x.2):=by
   rw [ex,E];constructor
   . intro h;exact_mod_cast h
   . intro h;exact_mod_cast h
 rw [e];generalize qv x=a;generalize qv y=b;have r:a * x.2 * y.2=a * (x.2 * y.2):=by grind
 have R:b * y.2 * x.2=b * (x.2 * y.2):=by grind
 rw [r,R];exact afr (Rat.mul_pos d f)
theorem wJ {x y:Int×Int} (H:0<x.2) (a:0<y.2) (h:qv y<=qv x):bW x y=false:=by
 refine Bool.eq_false_iff.mpr λ z=>?_;have:=(rh H a).mp z
 grind
theorem CA {x:Int×Int} (a:0<x.2):0<=qv x↔0<=x.1:=by
 have H:=qP a;have ex:qv x * x.2=x.1:=by unfold qv;have:=gA a;grind
 constructor
 . intro h;have:0<=(x.1:Rat):=by rw [<- ex];exact Rat.mul_nonneg h (afT H)
   exact_mod_cast this
 .
  intro h;have b:(0:Rat)<=x.1:=by exact_mod_cast h
  rcases agG with z|z
  . exact z
  .
   have:qv x * x.2<=0:=by
     have:=afS z (afT H)
     grind
   rw [ex] at this;have e:(x.1:Rat)=0:=by grind
   have:qv x=0:=by
     rw [e] at ex
     grind
   grind
end Mth
namespace L2
open PySem PySem.Spec PyProof.Rows Mth
variable {H H0:Hp}
def BM (m:am) (i:Nat):Nat->Rat
 | 0=>0
 | n+1=>BM m i n+qv (m.cG i n)
theorem Co {m:am} (w:m.Wf) (i:Nat):∀ n,qv (m.gX i n)=1 - qv (m.dU i) - BM m i n
 | 0=>by
   have e:m.gX i 0=lZ (1,1) (m.dU i):=rfl;rw [e,AQ (by decide) (w.dU i).p];have:qv (1,1)=1:=by unfold qv;grind
   rw [this];show _=1 - qv (m.dU i) - 0
   grind
 | n+1=>by
   rw [am.pW,AQ (w.gX i n).p (w.cG i n).p,Co w i n];show _=1 - qv (m.dU i) - (BM m i n+qv (m.cG i n))
   grind
theorem wE {m:am} (w:m.Wf) (i:Nat):qv (m.own i)=1 - qv (m.dU i) - BM m i m.rows.length:=Co w i _
def Qr (f:bZ):Prop:=0<=qv f/\4 * qv f<=1
theorem qr0:Qr (0,1):=by
 have:qv (0,1)=0:=by unfold qv;grind
 unfold Qr;rw [this];constructor<;>grind
structure QH (m:am):Prop where
 mX:∀ i,Qr (m.dU i)
 cG:∀ i j,Qr (m.cG i j)
 self:∀ i,m.cG i i=(0,1)
noncomputable def vx (i j:Nat):Nat->Nat
 | 0=>0
 | k+1=>vx i j k+(if k=i\/k=j then 0 else 1)
theorem Y8:∀ n:Fin 5,∀ i j:Fin 4,i.val<n.val->j.val<n.val->i≠j->vx i.val j.val n.val<=2:=by decide
theorem SA:∀ n:Fin 5,∀ i:Fin 4,i.val<n.val->vx i.val i.val n.val<=3:=by decide
theorem u7 {m:am} (h:QH m) (i j:Nat):∀ n,BM m i n<=(if j<n then qv (m.cG i j) else 0)+(vx i j n:Rat) / 4
 | 0=>by
   show 0<=0+(0:Rat) / 4
   grind
 | n+1=>by
   have I:=u7 h i j n;have q:=(h.cG i n).2;show BM m i n+qv (m.cG i n)<=_+(((vx i j n+(if n=i\/n=j then 0 else 1):Nat))) / 4;by_cases a:n=j
   . subst a;rw [(abp (Or.inr rfl))];have e:((vx i n n+0:Nat))=(vx i n n):=rfl
     grind
   .
    have E:(if j<n+1 then qv (m.cG i j) else 0)=(if j<n then qv (m.cG i j) else 0):=by
      lia
    rw [E];by_cases H:n=i
    . subst H;rw [(abp (Or.inl rfl))];have e:((vx n j n+0:Nat))=(vx n j n):=rfl;have z:qv (m.cG n n)=0:=by rw [h.self];unfold qv;grind
      rw [e,z]
      grind
    . have c:(if n=i\/n=j then 0 else 1)=1:=abC (λ z=>z.elim H a);rw [c];have e:((vx i j n+1:Nat))=(vx i j n)+1:=by push_cast;rfl
      grind
section
variable {m:am} {i j:Nat} {f:bZ}
theorem Ap {k c:Nat} (h:k<=c):(k:Rat)<=(c:Rat):=by exact_mod_cast h
theorem QH.wO (h:QH m) (w:m.Wf) (e:m.rows.length<=4) (d:i<m.rows.length) (H:j<m.rows.length) (X:i≠j) (c:0<f.2) (g:4 * qv f<=1):bW (pA (m.own i) (m.cG i j)) f=false:=by
 have a:=(w.gX i m.rows.length).p;have b:=(w.cG i j).p;refine wJ (jf (adf a b)).pos c ?_;rw [(EN (x:=m.own i) a b),wE w];have s:=u7 h i j m.rows.length;rw [abp H] at s;have C:=Ap (Y8 ⟨m.rows.length,by lia⟩ ⟨i,by lia⟩ ⟨j,by lia⟩ d H (λ z=>X (acJ Fin.val z)));have k:=(h.mX i).2
 grind
theorem QH.zJ (h:QH m) (w:m.Wf) (d:m.rows.length<=4) (H:i<m.rows.length) (c:0<f.2) (e:4 * qv f<=1):bW (pA (m.own i) (m.dU i)) f=false:=by
 have a:=(w.gX i m.rows.length).p;have b:=(w.dU i).p;refine wJ (jf (adf a b)).pos c ?_;rw [(EN (x:=m.own i) a b),wE w];have s:=u7 h i i m.rows.length;rw [abp H] at s;have C:=Ap (SA ⟨m.rows.length,by lia⟩ ⟨i,by lia⟩ H);have z:qv (m.cG i i)=0:=by rw [h.self];unfold qv;grind
 grind
theorem QH.cK (h:QH m) (x:i≠j) (H:Qr f):QH (m.cK i j f):=by
 refine ⟨h.mX,λ a b=>?_,λ a=>?_⟩
 .
  rw [io];by_cases e:a=i/\b=j
  . rw [abp e];exact H
  . rw [abC e];exact h.cG a b
 . rw [io,abC (λ z=>x (z.1.symm.trans z.2))];exact h.self a
theorem QH.cX {z:bZ×bZ×bZ} (h:QH m) (b:i<m.bf.length) (H:Qr z.1):QH (m.cX i z):=by
 refine ⟨λ a=>?_,h.cG,h.self⟩;rw [AV b];by_cases e:a=i
 . rw [abp e];exact H
 . rw [abC e];exact h.mX a
theorem QH.bD {z:bZ×Int×Int×Int} (h:QH m):QH (m.bD i z):=⟨h.mX,h.cG,h.self⟩
theorem Jl {r:List bZ} (a:Nat):(m.c8 r).dU a=m.dU a:=by
 unfold am.dU am.c8;by_cases e:a<m.bf.length
 . rw [aaO e]
 .
  rw [abM (by lia),ace (l:=m.bf) (by lia)];by_cases z:a - m.bf.length=0
  . rw [z];rfl
  . rw [ace (by show 1<=_;lia)]
theorem QH.c8 {r:List bZ} (h:QH m):QH (m.c8 r):=⟨λ a=>by rw [Jl];exact h.mX a,h.cG,h.self⟩
theorem QH.new {most eO load:Int}:QH (am.new most eO load):=⟨λ Z=>qr0,λ Z Z=>qr0,λ Z=>rfl⟩
end
structure iB (n:Nat) (m:am):Prop where
 rise:∀ r∈m.rows,jJ r=true/\r.length<=n
 mX:∀ s∈m.bf,bW s.2.2 s.2.1=false
 bE:∀ x,some x∈m.aI->0<=x.1.1/\(0<=x.2.1/\x.2.1<=9)/\(0<=x.2.2.1/\x.2.2.1<=3)/\(0<=x.2.2.2/\x.2.2.2<=3)
 FV:m.UV
abbrev lG:=iB 5
theorem iB.w {m:am} (h:iB 5 m):iB 7 m:=⟨λ r H=>⟨(h.rise r H).1,aaX (h.rise r H).2 (by decide)⟩,h.mX,h.bE,h.FV⟩
theorem Pn {R:List (List bZ)} (h:∀ r∈R,2<=r.length/\r.length<=5):0<=hU R/\hU R<=4 ^ R.length:=by
 have k:∀ (R:List (List bZ)) (a:Int),0<=a->(∀ r∈R,2<=r.length/\r.length<=5)->0<=R.foldl (λ p r=>p * ((r.length:Int) - 1)) a/\R.foldl (λ p r=>p * ((r.length:Int) - 1)) a<=a * 4 ^ R.length:=by
   intro R;induction R with
   | nil=>intro a H Z;exact ⟨H,by show a<=a * 1;lia⟩
   | cons r R i =>
     intro a H b;have f:=b r (by simp);obtain ⟨x,y⟩:=i (a * (r.length - 1)) (ad2 H (by lia)) λ q c=>b q (by simp [c]);refine ⟨x,acV y ?_⟩;have l:a * (r.length - 1)<=a * 4:=Int.mul_le_mul_of_nonneg_left (by lia) H;have d:(0:Int)<=4 ^ R.length:=Int.pow_nonneg (by decide);have:=Int.mul_le_mul_of_nonneg_right l d;rw [ac8,Int.pow_succ];have e:a * (4 ^ R.length * 4)=a * 4 * 4 ^ R.length:=by grind
     rw [e];exact this
 have:=k R 1 (by decide) h;rw [Int.one_mul] at this;exact this
theorem CJ {R:List (List bZ)} (h:∀ r∈R,2<=r.length/\r.length<=5) (H:R.length<=4):hU R<=400:=by
 have a:=(Pn h).2;have:4 ^ R.length<=256:=by
   have:R.length=0\/R.length=1\/R.length=2\/R.length=3\/R.length=4:=by lia
   rcases this with e|e|e|e|e<;>rw [e]<;>decide
 lia
theorem KS {X:Cx} {T l:Expr} {t:TE} {K:aF} (h:X.K=K) (H:PE X l t):PI X T l (NZ K t):=by subst h;exact bw H
theorem Eu {X:Cx} {K:aF} (h:X.K=K):jI X (compareOp .In) (X4 K false):=by subst h;exact HU
theorem xI {X:Cx} {K:aF} (h:X.K=K):jI X (compareOp .NotIn) (X4 K true):=by subst h;exact rT
def iz (m:am) (i j:Nat):Bool:=decide (0<(m.share i j).1) || decide (0<(m.share j i).1)
noncomputable def ib (n:Nat) (r:aH):aH:=(List.range n).filter λ o => !decide (o∈r)
def wN (m:am) (R:aH):Bool:=R.any λ r=>(ib m.rows.length R).any λ o=>iz m r o
structure Rs (m:am) (rs:aH):Prop where
 lt:∀ r∈rs,r<m.rows.length
 nd:rs.Nodup
theorem Rs.len {m:am} {r:aH} (h:Rs m r):r.length<=m.rows.length:=by
 have:=lC r (List.range m.rows.length) h.nd λ x H=>aaK.mpr (h.lt x H);rw [aaA] at this;exact this
noncomputable def rowAt (m:am) (r:Nat):List bZ:=(m.rows[r]?).getD []
noncomputable def pF (m:am) (r:Nat):bZ×bZ×bZ:=(m.bf[r]?).getD ((0,1),(0,1),(0,1))
noncomputable def iY (m:am) (r:Nat):Option (bZ×Int×Int×Int):=(m.aI[r]?).getD none
structure oB (m:am) (rs:aH) (p:Nat) (o:am):Prop where
 most:o.most=m.most
 eO:o.eO=m.eO
 load:o.load=m.load
 rows:o.rows=rs.map (rowAt m)
 sk:∀ k,k<rs.length->o.bf[k]?=some (if k<p then pF m (rs.getD k 0) else ((0,1),(0,1),(0,1)))
 st:∀ k,k<rs.length->o.aI[k]?=some (if k<p then iY m (rs.getD k 0) else none)
 fl:∀ a b:Nat,o.cG a b=if a<p/\a<rs.length/\b<rs.length/\a≠b then m.cG (rs.getD a 0) (rs.getD b 0) else (0,1)
section
variable (K:aF) (C NR SH:ak)
inductive LX  (vs:aB) (H:Hp) (Q:VK) (_E:XK):Prop
 | mk (a fp m:_) (i j:Nat) (_:vs=[.ref a,aq i,aq j]) (_:aN K C H a fp m) (_:i<m.rows.length) (_:j<m.rows.length) (_:∀ H',aE H H'->Q (.bl (iz m i j)) H')
inductive IN  (vs:aB) (H:Hp) (Q:VK) (_E:XK):Prop
 | mk (H0 ao Cg mo:_) (k:Nat) (ah RS mh p rs:_) (_:vs=[.ref ao,aq k,.ref ah,.ref p]) (_:aE H0 H) (_:aN K C H ao Cg mo) (_:(∀ b∈Cg,H0 b=none)) (_:aN K C H0 ah RS mh) (_:aW K H0 p (rs.map aq)) (_:Rs mh rs) (_:k<rs.length) (_:QH mo) (_:QH mh) (_:iB 7 mh) (_:oB mh rs k mo) (_:∀ H' SD mo',aE H0 H'->aN K C H' ao SD mo'->(∀ b∈SD,H0 b=none)->QH mo'->oB mh rs (k+1) mo'->Q .cN H')
end
theorem tu {m:am} (w:m.Wf) (h:m.rows.length<=4) (i j:Nat):eX 605 (m.share i j):=by
 unfold am.share;split
 . exact (w.gX i _).mono (by lia)
 . exact (w.cG i j).mono (by decide)
structure C0 where
 a:Int
 b:Int
 t:Int
 d:Int
noncomputable abbrev C0.vs (s:C0):aB:=[.int s.a,.int s.b,.int s.t,.int s.d]
structure C0.Ok (s:C0):Prop where
 a:1<=s.a/\s.a<=10 ^ 9
 b:1<=s.b/\s.b<=10 ^ 9
 t:s.t.natAbs<=10 ^ 9
 d:1<=s.d/\s.d<=10 ^ 9
def eZ (x:Int) (s:C0):bZ:=nf (x * s.a * s.d+s.t * s.b) (s.b * s.d)
theorem yJ {a b:Int} {x y:Nat} (h:a.natAbs<=x) (H:b.natAbs<=y):(a * b).natAbs<=x * y:=by
 rw [ae2];exact Nat.mul_le_mul h H
theorem C0.Ok.den {s:C0} (h:s.Ok):0<s.b * s.d/\(s.b * s.d).natAbs<=10 ^ 18:=by
 have H:=h.b;have a:=h.d;exact ⟨adf (by lia) (by lia),aaX (yJ (x:=10 ^ 9) (y:=10 ^ 9) (by lia) (by lia)) (by decide)⟩
theorem C0.Ok.num {s:C0} (h:s.Ok) {x:Int} (H:x.natAbs<=1000):(x * s.a).natAbs<=10 ^ 12/\(x * s.a * s.d).natAbs<=10 ^ 21/\(s.t * s.b).natAbs<=10 ^ 18:=by
 have f:=h.a;have g:=h.b;have i:=h.d;have e:=yJ H (show s.a.natAbs<=10 ^ 9 by lia);have E:=yJ (x:=10 ^ 12) (a:=x * s.a) (by lia) (show s.d.natAbs<=10 ^ 9 by lia);have c:=yJ h.t (show s.b.natAbs<=10 ^ 9 by lia);exact ⟨by lia,by lia,by lia⟩
theorem oy {s:C0} (h:s.Ok) {x:Int} (H:x.natAbs<=1000):eX 100 (eZ x s):=by
 obtain ⟨D,c⟩:=h.den;obtain ⟨n,N,e⟩:=h.num H;have F:=jf (t:=x * s.a * s.d+s.t * s.b) D;refine ⟨F.Ra (show Int.natAbs _<2 ^ 100 by lia),F.RC (show Int.natAbs _<2 ^ 100 by lia),F.pos⟩
theorem FY {s:C0} (h:s.Ok) (x:Int):qv (eZ x s)=(x:Rat) * ((s.a:Rat) / (s.b:Rat))+(s.t:Rat) / (s.d:Rat):=by
 unfold eZ;rw [yu h.den.1];have H:=gA (show 0<s.b by have:=h.b;lia);have c:=gA (show 0<s.d by have:=h.d;lia);have e:((x * s.a * s.d+s.t * s.b:Int):Rat)=x * s.a * s.d+s.t * s.b:=by push_cast;rfl
 have E:((s.b * s.d:Int):Rat)=s.b * s.d:=by push_cast;rfl
 rw [e,E]
 grind
theorem BN {s:C0} (h:s.Ok) {x y:Int} (H:x.natAbs<=1000) (f:y.natAbs<=1000):bW (eZ x s) (eZ y s)=decide (x<y):=by
 have A:0<(s.a:Rat) / s.b:=by
   have j:=qP (show 0<s.a by have:=h.a;lia);have i:=qP (show 0<s.b by have:=h.b;lia);have e:s.a / (s.b:Rat) * s.b=s.a:=by grind
   rcases agG (a:=s.a / s.b) (b:=0) with z|z
   . have:=afS z (afT i)
     grind
   . have n:(s.a:Rat) / s.b≠0:=λ q=>by rw [q] at e;grind
     grind
 have k:bW (eZ x s) (eZ y s)=true↔x<y:=by
   rw [rh (oy h H).p (oy h f).p,FY h,FY h];generalize (s.a:Rat) / s.b=c at A;generalize s.t / (s.d:Rat)=e;constructor
   . intro l;have g:x * c<y * c:=by grind
     have:=(afr A).mp g
     exact_mod_cast this
   . intro l;have L:x<(y:Rat):=by exact_mod_cast l
     have:=(afr A).mpr L
     grind
 rw [adC,k,acG]
structure R7 where
 marks:List Int
 share:Int
 low:Int
 high:Int
 bE:Option (Int×Int×Int×Int)
abbrev Ke (r:R7):PyData:=.tuple [.list (r.marks.map PyData.int),.int r.share,.int r.low,.int r.high,stI r.bE]
structure R7.Ok (r:R7):Prop where
 len:2<=r.marks.length/\r.marks.length<=5
 rise:∀ (i:Nat) (x y:Int),r.marks[i]?=some x->r.marks[i+1]?=some y->x<y
 bd:∀ x∈r.marks,x.natAbs<=200
 sh:1<=r.share/\r.share<=3
 lo:r.low<=r.high
 lb:r.low.natAbs<=300
 hb:r.high.natAbs<=300
 st:∀ z,r.bE=some z->(0<=z.1/\z.1<=100)/\(0<=z.2.1/\z.2.1<=9)/\(0<=z.2.2.1/\z.2.2.1<=3)/\(0<=z.2.2.2/\z.2.2.2<=3)
section
variable (K:aF) (C:ak)
inductive HR  (vs:aB) (H:Hp) (Q:VK) (_E:XK):Prop
 | mk (c:Int) (_:vs=[.int c]) (_:∀ p (s:C0) H',s.Ok->aE H H'->H' p=some (.tup s.vs)->Q (.ref p) H')
inductive JE  (vs:aB) (H:Hp) (Q:VK) (_E:XK):Prop
 | mk (x:Int) (p:ak) (s:C0) (_:vs=[.int x,.ref p]) (_:cw K H p s.vs) (_:s.Ok) (_:x.natAbs<=1000) (_:∀ q H',aE H H'->H' q=some (.tup [.int (eZ x s).1,.int (eZ x s).2])->Q (.ref q) H')
end
theorem iB.c8 {n:Nat} {m:am} {r:List bZ} (h:iB n m) (a:jJ r=true) (b:r.length<=n):iB n (m.c8 r):=by
 refine ⟨λ x H=>?_,λ x H=>?_,λ x H=>?_,h.FV⟩
 . rcases aaU.mp H with H|H
   . exact h.rise x H
   . rw [aac.mp H];exact ⟨a,b⟩
 . rcases aaU.mp H with H|H
   . exact h.mX x H
   . rw [aac.mp H];decide
 . rcases aaU.mp H with H|H
   . exact h.bE x H
   . cases aac.mp H
theorem iB.cX {n:Nat} {m:am} {i:Nat} {z:bZ×bZ×bZ} (h:iB n m) (H:bW z.2.2 z.2.1=false):iB n (m.cX i z) :=
 ⟨h.rise,λ x a=>(adY a).elim (h.mX x) (λ e=>by rw [e];exact H),h.bE,h.FV⟩
theorem iB.bD {n:Nat} {m:am} {i:Nat} {z:bZ×Int×Int×Int} (h:iB n m) (H:0<=z.1.1/\(0<=z.2.1/\z.2.1<=9)/\(0<=z.2.2.1/\z.2.2.1<=3)/\(0<=z.2.2.2/\z.2.2.2<=3)):iB n (m.bD i z) :=
 ⟨h.rise,h.mX,λ x a=>(adY a).elim (h.bE x) (λ e=>by cases e;exact H),h.FV⟩
theorem iB.cK {n:Nat} {m:am} {i j:Nat} {z:bZ} (h:iB n m):iB n (m.cK i j z):=⟨h.rise,h.mX,h.bE,h.FV⟩
structure CO (K:aF) (H0 H:Hp) (pa:ak) (as:bp) (ah:List (List (Nat×Nat))):Prop where
 sm:aE H0 H
 fr:∀ b∈pa::as,H0 b=none
 nd:(pa::as).Nodup
 le:as.length=ah.length
 hp:H pa=some (.lst (as.map .ref))
 xV:∀ (j:Nat) b l,as[j]?=some b->ah[j]?=some l->∃ vs,H b=some (.lst vs)/\Refs (λ b (pc:Nat×Nat)=>cw K H b [aq pc.1,aq pc.2]) vs l
theorem CO.same {K:aF} {a:Hp} {c:ak} {as:bp} {ah:List (List (Nat×Nat))} (h:CO K H0 H c as ah) (s:aE H a):CO K H0 a c as ah :=
 ⟨h.sm.trans s,h.fr,h.nd,h.le,s _ _ h.hp,λ j b l e E=>by
   obtain ⟨v,d,f⟩:=h.xV j b l e E;exact ⟨v,s _ _ d,f.imp λ p g z=>s.ts _ _ z⟩⟩
theorem CO.put {K:aF} {k b t:ak} {as:bp} {A:List (List (Nat×Nat))} {j p c:Nat} {l:List (Nat×Nat)} {vs:aB} (h:CO K H0 H k as A) (d:as[j]?=some b) (y:A[j]?=some l) (r:H b=some (.lst vs)) (v:Refs (λ b (a:Nat×Nat)=>cw K H b [aq a.1,aq a.2]) vs l) (s:cw K H t [aq p,aq c]):CO K H0 (upd H b (.lst (vs++[.ref t]))) k as (A.set j (l++[(p,c)])):=by
 have T:aZ K H (upd H b (.lst (vs++[.ref t]))):=cq r rfl;have g:=aae d;have n:=ab3.mp h.nd;refine ⟨λ x u e=>?_,h.fr,h.nd,?_,?_,λ i B L e E=>?_⟩
 .
  rw [aw (λ z=>?_)]
  . exact h.sm x u e
  . rw [z,h.fr b (aaB _ g)] at e;cases e
 . rw [ado];exact h.le
 . rw [aw (λ z=>n.1 (by rw [z];exact g))];exact h.hp
 .
  by_cases f:j=i
  .
   subst f;rw [d] at e;cases e;rcases dG.mp E with ⟨Z,Z,E⟩|⟨z,Z⟩
   . rw [E];exact ⟨_,af,Refs.snoc (v.imp λ p a z=>T _ _ z) (T _ _ s)⟩
   . exact absurd rfl z
  .
   rcases dG.mp E with ⟨z,Z⟩|⟨Z,E⟩
   . exact absurd z f
   obtain ⟨m,o,q⟩:=h.xV i B L e E;refine ⟨m,?_,q.imp λ p a z=>T _ _ z⟩;rw [aw (λ z=>?_)]
   . exact o
   . rw [z] at e;obtain ⟨I,J⟩:=SV.mp d;obtain ⟨C,w⟩:=SV.mp e;exact f ((af0 n.2).mp (J.trans w.symm))
def oF (rows:List cm) (i n k:Nat) (a:List (List (Nat×Nat))):Prop:=a.length=rows.length/\(∀ (j:Nat) l,a[j]?=some l->∀ p c,((p,c)∈l↔∃ r:cm,∃ J,rows[p]?=some r/\r[c]?=some (some J)/\((p<i/\j∈J)\/(p=i/\c<n/\j∈J)\/(p=i/\c=n/\j∈J.take k))))
theorem oF.zero (rows:List cm):oF rows 0 0 0 (rows.map λ Z=>[]):=by
 refine ⟨Ea ..,λ j l e p c=>?_⟩;rw [aah] at e;obtain ⟨r,Z,rfl⟩:=acY.mp e;refine ⟨λ h=>absurd h aaj,λ ⟨r,J,_,_,h⟩=>?_⟩;rcases h with ⟨h,Z⟩|⟨Z,h,Z⟩|⟨Z,Z,h⟩
 . exact absurd h (acl _)
 . exact absurd h (acl _)
 . simp at h
theorem oF.done {rows:List cm} {ah:List (List (Nat×Nat))} (h:oF rows rows.length 0 0 ah):Re rows ah:=by
 refine ⟨h.1,λ j l p c e=>(h.2 j l e p c).trans ⟨λ ⟨r,J,E,a,q⟩=>⟨r,J,E,a,?_⟩,λ ⟨r,J,E,a,q⟩=>⟨r,J,E,a,.inl ⟨(SV.mp E).1,q⟩⟩⟩⟩;rcases q with ⟨Z,q⟩|⟨Z,q,Z⟩|⟨Z,Z,q⟩
 . exact q
 . exact absurd q (acl _)
 . simp at q
theorem oF.SQ {rows:List cm} {i:Nat} {r:cm} {ah:List (List (Nat×Nat))} (b:rows[i]?=some r) (h:oF rows i r.length 0 ah):oF rows (i+1) 0 0 ah:=by
 refine ⟨h.1,λ j l e p c=>(h.2 j l e p c).trans ⟨λ ⟨R,J,E,a,q⟩=>⟨R,J,E,a,?_⟩,λ ⟨R,J,E,a,q⟩=>⟨R,J,E,a,?_⟩⟩⟩
 .
  rcases q with ⟨q,w⟩|⟨q,Z,w⟩|⟨Z,Z,q⟩
  . exact .inl ⟨by lia,w⟩
  . exact .inl ⟨by lia,w⟩
  . simp at q
 .
  rcases q with ⟨q,w⟩|⟨Z,q,Z⟩|⟨Z,Z,q⟩
  . grind
  . exact absurd q (acl _)
  . simp at q
theorem oF.Od {rows:List cm} {i n k:Nat} {r:cm} {v:Option (aH)} {ah:List (List (Nat×Nat))} (b:rows[i]?=some r) (d:r[n]?=some v) (f:∀ J,v=some J->k=J.length) (h:oF rows i n k ah):oF rows i (n+1) 0 ah:=by
 refine ⟨h.1,λ j l e p c=>(h.2 j l e p c).trans ⟨λ ⟨R,J,E,a,q⟩=>⟨R,J,E,a,?_⟩,λ ⟨R,J,E,a,q⟩=>⟨R,J,E,a,?_⟩⟩⟩
 .
  rcases q with q|⟨q,Q,w⟩|⟨q,Q,w⟩
  . exact .inl q
  . exact .inr (.inl ⟨q,by lia,w⟩)
  . exact .inr (.inl ⟨q,by lia,agQ w⟩)
 .
  rcases q with q|⟨q,Q,w⟩|⟨Z,Z,q⟩
  . exact .inl q
  .
   by_cases H:c=n
   .
    subst q;subst H;rw [b] at E;cases E;rw [d] at a;cases a;rw [f J rfl,aa4];exact .inr (.inr ⟨rfl,rfl,w⟩)
   . exact .inr (.inl ⟨q,by lia,w⟩)
  . simp at q
theorem oF.put {rows:List cm} {i n k j:Nat} {r:cm} {J:aH} {l:List (Nat×Nat)} {A:List (List (Nat×Nat))} (m:rows[i]?=some r) (o:r[n]?=some (some J)) (f:J[k]?=some j) (g:A[j]?=some l) (h:oF rows i n k A):oF rows i n (k+1) (A.set j (l++[(i,n)])):=by
 refine ⟨by rw [ado];exact h.1,λ s L e p c=>?_⟩;have t:J.take (k+1)=J.take k++[j]:=by
   rw [adG,f];rfl
 rcases dG.mp e with ⟨rfl,Z,rfl⟩|⟨N,e⟩
 .
  rw [aaU,aac,h.2 j l g p c];constructor
  .
   rintro (⟨R,M,E,a,q⟩|q)
   .
    refine ⟨R,M,E,a,?_⟩;rcases q with q|q|⟨Q,b,d⟩
    . exact .inl q
    . exact .inr (.inl q)
    . refine .inr (.inr ⟨Q,b,?_⟩);rw [adG];exact acR _ d
   . simp_all
  .
   rintro ⟨R,M,E,a,q⟩;rcases q with q|q|⟨Q,b,d⟩
   . exact .inl ⟨R,M,E,a,.inl q⟩
   . exact .inl ⟨R,M,E,a,.inr (.inl q)⟩
   . exact .inr (by rw [Q,b])
 .
  rw [h.2 s L e p c];constructor
  .
   rintro ⟨R,M,E,a,q⟩;refine ⟨R,M,E,a,?_⟩;rcases q with q|q|⟨Q,b,d⟩
   . exact .inl q
   . exact .inr (.inl q)
   . refine .inr (.inr ⟨Q,b,?_⟩);rw [adG];exact acR _ d
  .
   rintro ⟨R,M,E,a,q⟩;refine ⟨R,M,E,a,?_⟩;rcases q with q|q|⟨Q,b,d⟩
   . exact .inl q
   . exact .inr (.inl q)
   .
    refine .inr (.inr ⟨Q,b,?_⟩);subst Q;subst b;rw [m] at E;cases E;rw [o] at a;cases a;rw [t] at d;rcases aaU.mp d with z|z
    . exact z
    . exact absurd (aac.mp z).symm N
theorem CO.row {K:aF} {f q:ak} {as:bp} {A:List (List (Nat×Nat))} (h:CO K H0 H f as A) (g:H q=none):CO K H0 (upd (upd H q (.lst [])) f (.lst (as.map .ref++[.ref q]))) f (as++[q]) (A++[[]]):=by
 have n:=ab3.mp h.nd;have Q:q≠f:=(ax h.hp g).symm;have s:=ap (o:=.lst []) g;have N:q∉as:=λ z=>by
   obtain ⟨i,d,e⟩:=acP.mp z;have C:i<A.length:=by rw [<- h.le];exact d
   obtain ⟨v,j,Z⟩:=h.xV i q _ (by rw [UY d,e]) (UY C);rw [g] at j;cases j
 have y:=s _ _ h.hp;refine ⟨λ x u e=>?_,λ b c=>?_,?_,?_,?_,λ i b l e E=>?_⟩
 .
  rw [aw (λ z=>?_)]
  . exact s _ _ (h.sm x u e)
  . rw [z,h.fr f aaZ] at e;cases e
 .
  rcases aay.mp c with rfl|c
  . exact h.fr _ aaZ
  . rcases aaU.mp c with z|z
    . exact h.fr _ (aaB _ z)
    . rw [aac.mp z];exact h.sm.free g
 .
  refine ab3.mpr ⟨λ z=>?_,adL.mpr ⟨n.2,ad9 _ _,λ a r b c e=>N (by rw [<- aac.mp c,<- e];exact r)⟩⟩;rcases aaU.mp z with z|z
  . exact n.1 z
  . exact Q (aac.mp z).symm
 . rw [aas,aas,h.le];rfl
 . rw [af,aau];rfl
 .
  by_cases d:i<as.length
  .
   rw [aaO d] at e;rw [aaO (by rw [<- h.le];exact d)] at E;obtain ⟨v,k,m⟩:=h.xV i b l e E;refine ⟨v,?_,m.imp λ p t z=>(s.ts.trans (cq y rfl)) _ _ z⟩;rw [aw (λ z=>n.1 (by rw [<- z];exact aae e))];exact s _ _ k
  .
   have L:=(SV.mp e).1;rw [aas,abh] at L;obtain rfl:i=as.length:=by lia
   rw [ack] at e;rw [h.le,ack] at E;cases e;cases E;exact ⟨[],by rw [aw Q,af],Refs.nil⟩
def zV (b:Nat) (a:List (List (Nat×Nat))):Prop:=∀ (j:Nat) l,a[j]?=some l->l.length<=b
theorem zV.mono {a b:Nat} {ah:List (List (Nat×Nat))} (h:zV a ah) (L:a<=b):zV b ah:=λ j l e=>aaX (h j l e) L
theorem zV.put {b j:Nat} {l:List (Nat×Nat)} {x:Nat×Nat} {a:List (List (Nat×Nat))} (h:zV b a) (e:a[j]?=some l):zV (b+1) (a.set j (l++[x])):=λ i L E=>by
 rcases dG.mp E with ⟨Z,Z,rfl⟩|⟨Z,E⟩
 . rw [aas];exact aec (h j l e)
 . exact Nat.le_succ_of_le (h i L E)
inductive Jn (K:aF) (vs:aB) (H:Hp) (Q:VK) (_E:XK):Prop
 | mk (pr vr:_) (rows:List cm) (_:vs=[.ref pr]) (_:H pr=some (.lst vr)) (_:bP K H (rows.map ue) vr) (_:rows.length<=2000) (_:(∀ r∈rows,r.length<=16/\∀ js,some js∈r->js.length<=400/\∀ j∈js,j<rows.length)) (_:∀ pa as ah H',CO K H H' pa as ah->Re rows ah->Q (.ref pa) H')
theorem yE {K:aF}:∀ {l:aH} {w:aB},bP K H (l.map ja) w->w=l.map aq
 | [],_,h=>h
 | _::_,_,⟨_,_,e,d,r⟩=>by
   rw [e,yE r,show _=_ from d];rfl
end L2
namespace PySem
open PySem.Spec PyProof.Rows
theorem uI:typeLookup (.type "zip") "__getattr__" = pure none:=by kernel_rfl
theorem Av:typeLookup (.type "zip") "keys" = pure none:=by kernel_rfl
theorem Ck:entryFor table "zip.__getattribute__" = some Builtin.«object.__getattribute__» :=
 entryFor_alias (id':="object.__getattribute__") (by kernel_rfl) (by decide +kernel) (by decide +kernel) (by kernel_rfl)
theorem pL:entryFor table "dict.update.loop" = some Builtin.«dict.update.loop»:=entryFor_of_tree (by kernel_rfl)
theorem k7:plainId "dict.update.loop" = true:=by decide +kernel
theorem xy (a:ak) (xs:Array ay) (sl:Array (kY)) (n:Str) (u:Tok) (b:typeLookup (.type "zip") n=pure none) (J:(["__module__","__name__","__qualname__","__doc__","__annotations__"]:d9).contains n=false) (hsz:n.length+100<=sizeLine:=by size_fits) :
   Meets (Builtin.«object.__getattribute__» ⟨[.ref a,.str n u],[]⟩) (λ A R s=>s.heap.get? a=some { cls:=.type "zip",dict:=none,data:=.fields xs,slots:=sl }/\raisesAttr (.ref a) n A R s) :=
 Meets.of_wp λ p w A R s h=>by
   obtain ⟨H,g,d,t,o⟩:=s;obtain ⟨c,h⟩:=h;have e:(⟨H,g,d,t,o⟩:Shared).TypeIs (.ref a) "zip":=⟨_,c,rfl⟩
   repeat (any_goals (first|assumption|wp_step))
   simp only [J,afJ,af4]
   repeat (any_goals (first|assumption|wp_step))
   exact wpAny_raiseAttrError h.1 h.2 (attrMsg_fits (by decide +kernel) hsz)
theorem Nf {prog:bq} {w:bi} {A:Around} {E:ay->Shared->Prop} {s:Shared} {a:ak} {xs:Array ay} {Q:kY->Shared->Prop}
   (i:s.heap.get? a=some { cls:=.type "zip",dict:=none,data:=.fields xs,slots:=#[]}) (j:A.handled=none)
   (h:∀ c T,(∀ b o,s.heap.get? b=some o->c.get? b=some o)->Q none { s with heap:=c,toks:=T }) :
   wpAny (model prog w) A (getAttr? (.ref a) "keys") Q E s:=by
 obtain ⟨k,g,d,T,O⟩:=s;have f:∀ t,(⟨k,g,d,t,O⟩:Shared).TypeIs (.ref a) "zip":=λ Z=>⟨_,i,rfl⟩
 have l:=sub_AttributeError;have m:=F.slot_zip_getattribute.lookup;have n:=F.slot_zip_getattribute.bind (.ref a);have p:=uI
 repeat (any_goals (first|assumption|exact f _|((with_reducible show wpAny _ _ (call (Value.builtin "zip.__getattribute__") _ _) _ _ _);refine call_meets F.slot_zip_getattribute (f _) Ck (F.args_zip_getattribute_2 _ _) (xy a xs #[] "keys" _ Av (by decide +kernel)) ⟨i,j,λ c t e H=>?_⟩)|wp_step))
 obtain ⟨r,u,q⟩:=H.there;unfold getattributeRaised
 repeat (any_goals (first|assumption|wp_step))
 exact h _ _ H.keeps
end PySem
namespace PySem
open PySem.Spec PyProof.Rows
abbrev sN (h:bx) (z TI TO T:ak) (b:Bool):Prop :=
 h.get? z=some { cls:=.type "zip",dict:=none,data:=.fields #[rawInt T,.bool b,.bool false,.ref TI,.ref TO],slots:=#[]}
section
variable {prog:bq} {w:bi} {A:Around} {E:ay->Shared->Prop} {s:Shared}
theorem rC {M:Model} {a:ak} {Q:Option Obj->Shared->Prop} (h:Q (s.heap.get? a) s):wpAny M A (loadIfAlive a) Q E s:=λ b p H=>h
theorem Fk {z TI TO T:ak} {b:Bool} {o:Obj} {Q:Bool->Shared->Prop} (a:sN s.heap z TI TO T b) (d:s.heap.get? T=some o) (n:T≠z)
   (h:∀ c,sN c z TI TO T true->Heap.SameBut z s.heap c->Q false { s with heap:=c }) :
   wpAny (model prog w) A (Builtin.SmallTypes.ownedTupleIsFree (.ref z)) Q E s:=by
 refine aam (aeq a rfl rfl (aam (rC ?_)));rw [show ((T:Int)).toNat=T from acM T,d];refine aam (aeq a rfl (x:=.bool b) rfl ?_);cases b with
 | false =>
   exact aam (wpAny_setField_rec a (by simp) λ H Y I=>aaW (h H Y I))
 | true =>
   exact aam (aaW (aaW (h _ a (Heap.SameBut.refl ..))))
theorem zc {z TI TO T i g l L:ak} {b:Bool} {V:Obj} {K m:Nat} {xs ys:Array ay} {x y:ay} {Q:ay->Shared->Prop} (D:ZipApart z TI TO i g l L)
   (k:sN s.heap z TI TO T b) (O:s.heap.get? T=some V) (U:T≠z/\T≠i/\T≠g) (W:IsPair s.heap TI (.ref i) (.ref g))
   (J:s.heap.IsListIter i l K) (M:s.heap.IsListIter g L m) (r:s.heap.IsList l xs) (C:s.heap.IsList L ys) (R:xs[K]?=some x) (S:ys[m]?=some y)
   (N:∀ H,sN H z TI TO T true->H.IsListIter i l (K+1)->H.IsListIter g L (m+1)->IsPair H s.heap.objs.size x y->H.objs.size=s.heap.objs.size+1 ->
     (∀ c o,c≠z->c≠i->c≠g->s.heap.get? c=some o->H.get? c=some o)->Q (.ref s.heap.objs.size) { s with heap:=H }) :
   wpAny (model prog w) A (Builtin.«zip.__next__» ⟨[.ref z],[]⟩) (λ F s'=>∃ v,F = .done (.ret v)/\Q v s') E s:=by
 show wpAny _ _ (field (.ref z) 2 >>= _) _ _ _;refine aam (aeq k rfl (x:=.bool false) rfl ?_);refine aam (aeq k rfl rfl (aam (ael W rfl ?_)));refine aam (Fk k O U.1 λ n t I=>aam ?_);rw [<- afK];simp only [agb,List.forIn_nil];refine aam (aam (adP (aam (wpAny_nextOf_list_item (J.extBut I.extBut D.i1z) (r.extBut I.extBut D.l1z) R λ q a p=>aaW ?_))));refine aaW (aam (aam (adP ?_)));refine aam (wpAny_nextOf_list_item ((M.extBut I.extBut D.i2z).extBut p.extBut D.i12.symm)
   ((C.extBut I.extBut D.l2z).extBut p.extBut D.l2i1) S λ j d Y=>aaW ?_)
 refine aaW (aaW (aam (wpAny_newTuple (hsz:=(show 2<=sizeLine by decide)) ?_)));have h:j.objs.size=s.heap.objs.size:=by rw [Y.1,p.1,I.1]
 have f:=Y.extBut _ _ D.i2z.symm (p.extBut _ _ D.i1z.symm t);refine aaW ⟨_,rfl,?_⟩;rw [h];refine N _ (aaF _ f) ((a.extBut Y.extBut D.i12).at λ o e=>aaF _ e) (d.at λ o e=>aaF _ e) (by rw [<- h];exact abW _ rfl) (by rw [afk,h]) λ c o u B G e=>aaF _ (Y.extBut _ _ G (p.extBut _ _ B (I.extBut _ _ u e)))
theorem CK {z TI TO T i d l L:ak} {b:Bool} {O:Obj} {k:Nat} {xs:Array ay} {Q:Fin->Shared->Prop} (u:A.handled=none) (D:ZipApart z TI TO i d l L)
   (a:sN s.heap z TI TO T b) (r:s.heap.get? T=some O) (N:T≠z/\T≠i/\T≠d) (W:IsPair s.heap TI (.ref i) (.ref d))
   (m:s.heap.IsListIter i l k) (C:s.heap.IsList l xs) (v:xs[k]?=none)
   (n:∀ H e,(∀ c o,c≠z->c≠i->s.heap.get? c=some o->H.get? c=some o)->(∃ o,H.get? e=some o/\o.cls = .type "StopIteration")->E (.ref e) { s with heap:=H }) :
   wpAny (model prog w) A (Builtin.«zip.__next__» ⟨[.ref z],[]⟩) Q E s:=by
 show wpAny _ _ (field (.ref z) 2 >>= _) _ _ _;refine aam (aeq a rfl (x:=.bool false) rfl ?_);refine aam (aeq a rfl rfl (aam (ael W rfl ?_)));refine aam (Fk a r N.1 λ f Y I=>aam ?_);refine aam (aam (adP ?_));exact aam (wpAny_nextOf_list_end u (m.extBut I.extBut D.i1z) (C.extBut I.extBut D.l1z) v λ h e p t=>n h e (λ c o g j q=>p _ _ j (I.extBut _ _ g q)) t)
end
end PySem
namespace PySem
open PySem.Spec PyProof.Rows
noncomputable def zA (l:List (PyData×ak×ay)):List (PyData×ak×ay):=l.foldl (λ a e=>storedH a e.1 e.2.1 e.2.2) []
theorem oS (l:List (PyData×ak×ay)) (e:PyData×ak×ay):zA (l++[e])=storedH (zA l) e.1 e.2.1 e.2.2:=by
 unfold zA;rw [adl];rfl
theorem CB {xs:List (PyData×ak×ay)} {k:PyData} {a:ak} {v:ay} {x:PyData×ak×ay} (h:x∈storedH xs k a v):(∃ e∈xs,e.1=x.1/\e.2.1=x.2.1)\/x=(k,a,v):=by
 unfold storedH at h;split at h
 .
  obtain ⟨y,H,rfl⟩:=abv.mp h;refine .inl ⟨y,H,?_⟩;unfold putAt;split<;>exact ⟨rfl,rfl⟩
 . rcases aaU.mp h with z|z
   . exact .inl ⟨x,z,rfl,rfl⟩
   . exact .inr (aac.mp z)
theorem Bu (xs:List (PyData×ak×ay)) (k:PyData) (a:ak) (v:ay):(storedH xs k a v).length<=xs.length+1:=by
 unfold storedH;split<;>simp
theorem wM {h:bx} {es:List (PyData×ak×ay)} (a:∀ e∈es,xn h e.1 e.2.1):∀ i,∀ x∈zA (es.take i),xn h x.1 x.2.1
 | 0,x,H=>absurd H aaj
 | i+1,x,H=>by
   by_cases b:i<es.length
   . rw [adG,UY b,aeX,oS] at H;rcases CB H with ⟨e,d,E,c⟩|rfl
     . rw [<- E,<- c];exact wM a i e d
     . exact a _ (aaH b)
   . rw [ac1 (by lia),<- ac1 (i:=i) (l:=es) (by lia)] at H;exact wM a i x H
theorem vP (es:List (PyData×ak×ay)):∀ i,(zA (es.take i)).length<=i
 | 0=>aaE _
 | i+1=>by
   by_cases h:i<es.length
   . rw [adG,UY h,aeX,oS];exact aaX (Bu ..) (aec (vP es i))
   . rw [ac1 (by lia),<- ac1 (i:=i) (l:=es) (by lia)];exact Nat.le_succ_of_le (vP es i)
def Lj (prog:bq) (w:bi) (h:bx) (d:ak) (xs:List (PyData×ak×ay)):Prop:=∃ o e E,h.get? d=some o/\o.ExactDict/\o.data = .dict e E/\e.toList=xs.map (entryOfKey (kh prog w))/\(xs.map (·.1)).Nodup
theorem xn.up {h H:bx} {k:PyData} {a:ak} (x:xn h k a) (c:∀ b o,h.get? b=some o->H.get? b=some o):xn H k a:=by
 obtain ⟨x,as,r,K,d,f,e⟩:=x;exact ⟨x,as,p9 (λ b O q Z Z Z=>c b O q) x K r,K,d,f,e⟩
def nO (h:bx) (d z TI TO i I:ak):Prop:=(IsZip h z TI TO .none/\∃ a b,IsPair h TO a b)\/∃ T b o,sN h z TI TO T b/\h.get? T=some o/\(T≠z/\T≠i/\T≠I)/\T≠d
theorem nO.at {h c:bx} {d z TI TO i i2:ak} (x:nO h d z TI TO i i2) (N:z≠d) (e:TO≠d) (H:∀ b o,b≠d->h.get? b=some o->c.get? b=some o):nO c d z TI TO i i2:=by
 rcases x with ⟨x,a,b,y⟩|⟨T,b,O,x,y,n,m⟩
 . exact .inl ⟨H _ _ N x,a,b,H _ _ e y⟩
 . exact .inr ⟨T,b,O,H _ _ N x,H _ _ m y,n,m⟩
section
variable {prog:bq} {w:bi} {A:Around} {E:ay->Shared->Prop} {s:Shared}
theorem vT {d z TI TO i I l L:ak} {k:Nat} {xs ys:Array ay} {x y:ay} {Q:kY->Shared->Prop} (D:ZipApart z TI TO i I l L)
   (H:nO s.heap d z TI TO i I) (t:∃ o,s.heap.get? d=some o) (W:IsPair s.heap TI (.ref i) (.ref I))
   (q:s.heap.IsListIter i l k) (r:s.heap.IsListIter I L k) (B:s.heap.IsList l xs) (C:s.heap.IsList L ys) (K:xs[k]?=some x) (M:ys[k]?=some y)
   (G:∀ h,nO h d z TI TO i I->h.IsListIter i l (k+1)->h.IsListIter I L (k+1)->IsPair h s.heap.objs.size x y ->
     (∀ c o,c≠z->c≠TO->c≠i->c≠I->s.heap.get? c=some o->h.get? c=some o)->Q (some (.ref s.heap.objs.size)) { s with heap:=h }) :
   wpAny (model prog w) A (pyNext (.ref z)) Q E s:=by
 obtain ⟨od,t⟩:=t;rcases H with ⟨H,a,b,N⟩|⟨T,b,Y,H,J,n,X⟩
 . have u:i<s.heap.objs.size:=by obtain ⟨Z,e,Z⟩:=q;exact aba e
   have v:I<s.heap.objs.size:=by obtain ⟨Z,e,Z⟩:=r;exact aba e
   exact wpAny_pyNext_zip_item D H W N q r B C K M λ h j a2 m p f O g=>G h (.inr ⟨_,false,_,j,f,⟨aeh (aba H),aeh u,aeh v⟩,aeh (aba t)⟩) m p f g
 .
  have U:s.TypeIs (.ref z) "zip":=⟨_,H,rfl⟩
  exact aam (wpAny_attempt (aeL U afH
    (aft afH U F.entry_zip_next
      (zc D H J n W q r B C K M λ h j m p f O g=>aaW (G h (.inr ⟨T,true,Y,j,g _ _ n.1 n.2.1 n.2.2 J,n,X⟩) m p f λ c o R Z S V e=>g c o R S V e)) (F.args_zip_next_1 _))))
theorem xt {d z TI TO i I l L:ak} {k:Nat} {xs ys:Array ay} {Q:kY->Shared->Prop} (j:A.handled=none) (D:ZipApart z TI TO i I l L)
   (h:nO s.heap d z TI TO i I) (W:IsPair s.heap TI (.ref i) (.ref I))
   (f:s.heap.IsListIter i l k) (r:s.heap.IsListIter I L k) (C:s.heap.IsList l xs) (n:s.heap.IsList L ys) (m:xs[k]?=none)
   (g:∀ H,(∀ c o,c≠z->c≠TO->c≠i->c≠I->s.heap.get? c=some o->H.get? c=some o)->Q none { s with heap:=H }) :
   wpAny (model prog w) A (pyNext (.ref z)) Q E s:=by
 rcases h with ⟨h,a,b,J⟩|⟨T,b,O,h,t,N,M⟩
 . exact wpAny_pyNext_zip_end j D h W J f r C n (.inl m) g
 .
  have U:s.TypeIs (.ref z) "zip":=⟨_,h,rfl⟩
  refine aam (wpAny_attempt (aeL U afH
    (aft afH U F.entry_zip_next (CK j D h t N W f C m λ H e x v=>?_) (F.args_zip_next_1 _))))
  obtain ⟨o,y,u⟩:=v;exact aam (agq ⟨o,y,u⟩ isSubtype_stop (aaW (g _ λ c o p Z q Z e=>x c o p q e)))
theorem MU {R:Result->Shared->Prop} {d z TI TO I a U V:ak} {H:bx} {xs ys:Array ay} {es:List (PyData×ak×ay)} (D:ZipApart z TI TO I a U V) (hh:A.handled=none) (hu:(kh prog w).room A.in1)
   (fr:∀ c∈[z,TI,TO,I,a,d],H.get? c=none) (j:∀ c∈[z,TI,TO,I,a],c≠d) (CY:H.IsList U xs) (CU:H.IsList V ys) (hn:xs.size=es.length)
   (AH:∀ (i:Nat) e,es[i]?=some e->xs[i]?=some (.ref e.2.1)/\ys[i]?=some e.2.2) (hk:∀ e∈es,xn H e.1 e.2.1) (hsz:es.length<=sizeLine) :
   ∀ (k i:Nat) (s:Shared),es.length - i=k->i<=es.length->(∀ b o,H.get? b=some o->s.heap.get? b=some o)->nO s.heap d z TI TO I a->IsPair s.heap TI (.ref I) (.ref a) ->
     s.heap.IsListIter I U i->s.heap.IsListIter a V i->Lj prog w s.heap d (zA (es.take i)) ->
     (∀ h X,(∀ b o,H.get? b=some o->h.get? b=some o)->Lj prog w h d (zA es)->R (.ok (.ret .none)) { s with heap:=h,toks:=X }) ->
     codeAny (model prog w) A (.builtin "dict.update.loop" ⟨[.ref d,.ref z,rawInt i,.none],[]⟩) R s:=by
 have M:∀ {b o},H.get? b=some o->b≠z/\b≠TI/\b≠TO/\b≠I/\b≠a/\b≠d:=λ {b o} e=>by
   refine ⟨?_,?_,?_,?_,?_,?_⟩<;>(rintro rfl;rw [fr _ (by simp)] at e;cases e)
 have f:d≠z:=(j z (by simp)).symm;have r:d≠TO:=(j TO (by simp)).symm;have N:d≠I:=(j I (by simp)).symm;have p:d≠a:=(j a (by simp)).symm;intro k;induction k with
 | zero =>
   intro i s L hi ext T W F G Y J;obtain rfl:i=es.length:=by lia
   refine afD pL (aam (xt (A:=A.in1) hh D T W F G (CY.at λ o e=>ext _ _ e) (CU.at λ o e=>ext _ _ e) (Array.getElem?_eq_none (by lia)) λ h O=>?_));refine aam (aaW (aaW ?_));rw [aa4] at Y;obtain ⟨o,t,u,l,g⟩:=Y;exact J h s.toks (λ b o e=>O b o (M e).1 (M e).2.2.1 (M e).2.2.2.1 (M e).2.2.2.2.1 (ext b o e)) ⟨o,t,u,O _ _ f r N p l,g⟩
 | succ k ih =>
   intro i s L hi ext T W F G Y J;have lN:i<es.length:=by lia
   have m:=UY lN;generalize es[i]=e at m;obtain ⟨S,hy⟩:=AH i e m;obtain ⟨od,t,u,l,g⟩:=Y;refine afD pL ?_;rw [afQ k7 _];refine aam (vT D T ⟨_,l⟩ W F G (CY.at λ o e=>ext _ _ e) (CU.at λ o e=>ext _ _ e) S hy λ h a1 a3 a4 a5 O=>?_);have E:=λ b o e=>O b o (M e).1 (M e).2.2.1 (M e).2.2.2.1 (M e).2.2.2.2.1 (ext b o e);refine aam (adP (aam (afR ?_)));unfold Builtin.Dict.pairItems;refine aam (wpAny_typeOf (⟨_,a5,rfl⟩) ?_);rw [abp (by decide)];refine aam (ael a5 rfl (aaW ?_));refine adP (wpAny_dictSet_heap (hsz:=aaX (vP es i) (aaX hi hsz)) hu ((hk e (aae m)).up E) (⟨od,t,u,O _ _ f r N p l,g.1,g.2.1,g.2.2.1,λ x S=>(wM hk i x S).up E,g.2.2.2⟩) λ YJ Lw Q=>?_);have K:∀ b o,b≠d->h.get? b=some o->YJ.get? b=some o:=λ b o n q=>Q.extBut _ _ n q;obtain ⟨o3,B,v,q1,q2,q3,q4,q5,q6⟩:=Lw;refine aaW ⟨aeZ k7 _,?_⟩;have:=ih (i+1) { s with heap:=YJ,toks:=s.toks+(kh prog w).draws e.1 } (by lia) lN (λ b o q=>K b o (M q).2.2.2.2.2 (E b o q)) (a1.at f.symm r.symm K) (K _ _ (j TI (by simp)) (O _ _ D.TIz D.TITO D.TIi1 D.TIi2 W)) (a3.at λ o q=>K _ o N.symm q) (a4.at λ o q=>K _ o p.symm q) (by
     rw [adG,m,aeX,oS];exact ⟨o3,B,v,q1,q2,q3,q4,q6⟩) λ C X x y=>J C X x y
   exact this
theorem LJ {l L:ak} {xs ys:Array ay} {es:List (PyData×ak×ay)} {Q:ay->Shared->Prop} (n:A.handled=none) (hu:A.units+70<cLine)
   (m:s.heap.IsList l xs) (C:s.heap.IsList L ys) (R:xs.size=es.length)
   (q:∀ (i:Nat) e,es[i]?=some e->xs[i]?=some (.ref e.2.1)/\ys[i]?=some e.2.2) (N:∀ e∈es,xn s.heap e.1 e.2.1) (hsz:es.length<=sizeLine)
   (h:∀ a t d,s.heap.objs.size<=d->(∀ b o,s.heap.get? b=some o->a.get? b=some o)->Lj prog w a d (zA es)->Q (.ref d) { s with heap:=a,toks:=t }) {z:ak} {H:bx}
   (M:z=s.heap.objs.size+4) (f:IsZip H z (s.heap.objs.size+2) (s.heap.objs.size+3) .none) (X:IsPair H (s.heap.objs.size+2) (.ref s.heap.objs.size) (.ref (s.heap.objs.size+1)))
   (Y:IsPair H (s.heap.objs.size+3) .none .none) (z4:H.IsListIter s.heap.objs.size l 0) (z5:H.IsListIter (s.heap.objs.size+1) L 0) (z6:H.objs.size=s.heap.objs.size+5)
   (T:∀ c o,s.heap.get? c=some o->H.get? c=some o) :
   wpAny (model prog w) A (call (.type "dict") [.ref z]) Q E { s with heap:=H }:=by
 subst M;have p:∀ {b o},s.heap.get? b=some o->b<s.heap.objs.size:=λ e=>aba e;have U:l<s.heap.objs.size:=by obtain ⟨Z,e,Z⟩:=m;exact p e
 have V:L<s.heap.objs.size:=by obtain ⟨Z,e,Z⟩:=C;exact p e
 refine callType_codes (Q₁:=λ O S=>O = .ref H.objs.size/\S={ s with heap:=H.push { cls:=.type "dict",data:=.dict #[]}}) F.kt_called_dict (F.kt_typeCall_dict_1 _) F.entry_dict_init (kt_code_dict_new _ ⟨rfl,rfl⟩) ?_;rintro O S ⟨rfl,rfl⟩;have j:(H.push { cls:=.type "dict",data:=.dict #[]}).DictOfH (kh prog w) H.objs.size []:=Heap.DictOfH.new H;refine ⟨j.typeIs,F.args_dict_init_2 _ _,aam ?_⟩;refine aam (wpAny_notOrdered_dict j.typeIs (aaW ?_));show wpAny _ _ (Builtin.Dict.updateFrom "dict.__init__" H.objs.size (.ref (s.heap.objs.size+4)) [] .none) _ _ _;have u:∀ {b o},H.get? b=some o->(H.push { cls:=.type "dict",data:=.dict #[]}).get? b=some o:=λ e=>aaF _ e;refine aam (wpAny_typeOf (⟨_,u f,rfl⟩) ?_);refine aam (Nf (u f) n λ h6 W k=>aam (agZ ?_));refine aam (agp (k _ _ (u f)) (aaW ⟨aeZ k7 _,?_⟩));refine MU (A:=A.in1) (D:=zipApart_new U V) n (by show A.in1.in1.units+64<cLine;lia) (λ c g=>?_) (λ c g=>?_) m C R q N hsz _ 0 _ rfl (ab2 _) (λ b o e=>k _ _ (u (T _ _ e))) (.inl ⟨k _ _ (u f),_,_,k _ _ (u Y)⟩) (k _ _ (u X)) (z4.at λ o e=>k _ _ (u e)) (z5.at λ o e=>k _ _ (u e)) ?_ (λ a t x y=>⟨rfl,h a t _ (by lia) x y⟩)
 . refine (λ e=>afP e) ?_;simp only [aay,aaj,acd] at g;rcases g with rfl|rfl|rfl|rfl|rfl|rfl<;>lia
 . grind
 . obtain ⟨o,J,K,r,v,B,G,Z,I⟩:=j;exact ⟨o,J,K,k _ _ r,v,B,G,I⟩
end
end PySem
namespace PySem
theorem yj {es:List (PyData×ak×ay)} (H:(es.map (·.1)).Nodup):∀ i,i<=es.length->zA (es.take i)=es.take i
 | 0,_=>rfl
 | i+1,h=>by
   rw [adG,UY h,aeX,oS,yj H i (by lia)];refine storedH_new (atKey_none_of_get λ j p e=>?_) _ _;have a:=(SV.mp e).1;rw [aby] at a;rw [agn (by lia)] at e;have:=idxH_unique H e (show es[i]?=some (es[i].1,es[i].2) from UY h);lia
end PySem
namespace L2
open PySem PySem.Spec PyProof.Rows Mth
variable {H H':Hp} {b2:Int}
def KA (P:bq) (w:bi) (K:aF) (t:TA):TE:=λ U H Q=>t U H λ v h=>∃ q b,∃ a:qH,v=[.ref q,.ref b]/\aW K h q (a.map λ e => .ref e.2.1)/\aW K h b (a.map λ e=>e.2.2) /\
 (a.map (·.1)).Nodup/\(∀ e∈a,iD K h e.1 e.2.1)/\a.length<=sizeLine/\∀ p,h p=none->Q (.ref p) (upd h p (og P w p a))
theorem dW.u70 {k:Nat} {A:Around} (r:dW k A):A.units+70<cLine:=by have:=r.un;lia
theorem wL:∀ {a:qH} {u vs:bB},Vals (a.map λ e => .ref e.2.1) u->Vals (a.map λ e=>e.2.2) vs->∃ es:List (PyData×ak×ay),XR a es/\u=es.map (λ e => .ref e.2.1)/\vs=es.map λ e=>e.2.2
 | [],_,_,.nil,.nil=>⟨[],.nil,rfl,rfl⟩
 | e::a,_,_,.cons r t,.cons R T=>by
   obtain ⟨es,h,H,b⟩:=wL t T;exact ⟨(e.1,e.2.1,_)::es,.cons ⟨rfl,rfl,R⟩ h,by rw [H,show _=_ from r];rfl,by rw [b];rfl⟩
theorem XR.keys {a:qH} {es:List (PyData×ak×ay)} (h:XR a es):es.map (·.1)=a.map (·.1):=by
 induction h with
 | nil=>rfl
 | cons r _ i=>rw [ab8,ab8,i,r.1]
theorem XR.mem {a:qH} {es:List (PyData×ak×ay)} (h:XR a es):∀ e∈es,∃ x∈a,x.1=e.1/\x.2.1=e.2.1:=by
 induction h with
 | nil=>exact λ Z h=>absurd h aaj
 | cons r _ i =>
   intro e H;rcases aay.mp H with rfl|H
   . exact ⟨_,aaZ,r.1,r.2.1⟩
   . obtain ⟨x,b,q⟩:=i e H;exact ⟨x,aaB _ b,q⟩
section
variable {X:Cx} {P:bq} {w:bi} {K:aF}
theorem Eg {a b:Expr} {T:TA} {p1 t j N:Pos} (hP:X.prog=P) (hw:X.w=w) (hK:X.K=K) (hu:X.A.units+70<cLine) (hc:X.calm=true) (ha:PA X [a,b] T) (G:Gl X "dict") (S:X.mg "dict" = none) (V:Gl X "zip") (m:X.mg "zip" = none) (hs:autoParam (starEach [a,b] X.env=[(false,eval a X.env),(false,eval b X.env)]) za_._auto_1) (O:autoParam (starEach [b] X.env=[(false,eval b X.env)]) za_._auto_1) (M:autoParam (starEach [.Call (.Name "zip" t) [a,b] [] N] X.env=[(false,eval (.Call (.Name "zip" t) [a,b] [] N) X.env)]) za_._auto_1) :
   PE X (.Call (.Name "dict" p1) [.Call (.Name "zip" t) [a,b] [] N] [] j) (KA P w K T):=by
 subst hP hw hK;intro p s U H Q I h;refine ad6 (ke I G S FN (acH ?_ M rfl) (by decide) (by decide));refine afh (ad6 (ke I V m Lk (acH (dC (ha N p s U H _ I h) λ us s1 ⟨vs,H1,c,r1,q1⟩=>?_) (by rw [hs,O]) (by rw [O];rfl)) (by decide) (by decide)));obtain ⟨a,b,aG,e,F,yn,nd,hk,D,q⟩:=q1;subst e;obtain ⟨u,v,rfl,r,r'⟩:=vals2 r1;obtain rfl:=r;obtain rfl:=r';obtain ⟨Md,J,f,P6⟩:=c.list F;obtain ⟨qX,R,y,ZD⟩:=c.list yn;obtain ⟨E,g,rfl,rfl⟩:=wL J R;have le:=g.length.symm;refine call_zip_2 f.isList y.isList λ h' z1 z2 z3 z4 z5 z6 kk=>agi (LJ (es:=E) (c.ok.hd hc) hu f.isList y.isList (by simp) (λ i e z=>⟨by simp [z],by simp [z]⟩) (λ e he=>?_) (by rw [le];exact D) (λ h2 tk d L k2 C=>?_) rfl z1 z2 z3 z4 z5 z6 kk)
 . obtain ⟨x,hx,k,l⟩:=g.mem e he;rw [<- k,<- l];exact (hk x hx).is c
 .
  have n:(E.map (·.1)).Nodup:=by rw [g.keys];exact nd
  have B:=yj n E.length (aaE _);rw [aa4] at B;rw [B] at C;obtain ⟨o,ea,ep,k,l,W,Y,e5⟩:=C;refine ⟨.ref d,_,c.laid k2 L (JV ⟨D,aeW.mpr (aeg (abN (aa6 c.big L))),E,g,o,ea,ep,k,l,W,Y,e5⟩),rfl,q d (c.eB.fresh L)⟩
end
structure QW (H0 H:Hp) (D:ak) (qs:bp) (ls:List (List (Option Nat))):Prop where
 sm:aE H0 H
 fr:∀ b∈D::qs,H0 b=none
 nd:(D::qs).Nodup
 le:qs.length=ls.length
 hp:H D=some (.lst (qs.map .ref))
 xV:∀ (i:Nat) q l,qs[i]?=some q->ls[i]?=some l->H q=some (.lst (l.map iE))
theorem QW.row {g:Hp} {D q:ak} {Q:bp} {L:List (List (Option Nat))} {l:List (Option Nat)} (h:QW g H D Q L) (f:H q=none):QW g (upd (upd H q (.lst (l.map iE))) D (.lst (Q.map .ref++[.ref q]))) D (Q++[q]) (L++[l]):=by
 have n:=ab3.mp h.nd;have k:=(ax h.hp f).symm;have s:=ap (o:=.lst (l.map iE)) f;have N:q∉Q:=λ z=>by
   obtain ⟨i,c,e⟩:=acP.mp z;have C:i<L.length:=by rw [<- h.le];exact c
   have j:=h.xV i q _ (by rw [UY c,e]) (UY C);rw [f] at j;cases j
 refine ⟨λ x u e=>?_,λ b d=>?_,?_,?_,?_,λ i b m e E=>?_⟩
 .
  rw [aw (λ z=>?_)]
  . exact s _ _ (h.sm x u e)
  . rw [z,h.fr D aaZ] at e;cases e
 .
  rcases aay.mp d with rfl|d
  . exact h.fr _ aaZ
  . rcases aaU.mp d with z|z
    . exact h.fr _ (aaB _ z)
    . rw [aac.mp z];exact h.sm.free f
 .
  refine ab3.mpr ⟨λ z=>?_,adL.mpr ⟨n.2,ad9 _ _,λ a r b d e=>N (by simp_all)⟩⟩;rcases aaU.mp z with z|z
  . exact n.1 z
  . exact k (aac.mp z).symm
 . rw [aas,aas,h.le];rfl
 . rw [af,aau];rfl
 .
  by_cases c:i<Q.length
  . rw [aaO c] at e;rw [aaO (by rw [<- h.le];exact c)] at E;rw [aw (λ z=>n.1 (by rw [<- z];exact aae e))];exact s _ _ (h.xV i b m e E)
  .
   have p:=(SV.mp e).1;rw [aas,abh] at p;obtain rfl:i=Q.length:=by lia
   rw [ack] at e;rw [h.le,ack] at E;cases e;cases E;rw [aw k,af]
def JI (rows:List cm):Prop:=rows.length<=2000/\∀ r∈rows,r.length<=16/\∀ J,some J∈r->J.length<=400/\∀ j∈J,j<rows.length
inductive KN (P:bq) (w:bi) (K:aF) (CG CR:ak) (vs:aB) (H:Hp) (Q:VK) (_E:XK):Prop
 | mk (x dx y pm po pr pd lim g:_) (_:vs=[.ref x,.ref y]) (_:H x=some (.ins CR dx [])) (_:fo P w K CG [] H y pm po pr pd lim g) (_:JI g.rows) (_:∀ pl pg pk pq qs S cur H',iw [x] H H'->aZ K H H'->jo CR H' x pl pg pk pq qs S->jh g.rows S cur->gD g.rows S->(∀ j∈S.queue,zB g.rows S j)->Q .cN H')
theorem aW.sm {K:aF} {q:ak} {xs:aB} (S:aE H H') (e:aW K H q xs):aW K H' q xs:=by
 rcases e with (e|⟨o,e⟩)|e
 . exact .inl (.inl (S _ _ e))
 . exact .inl (.inr ⟨o,S _ _ e⟩)
 . exact .inr e
structure DT (K:aF) (C x dx:ak) (H H':Hp) (fs:List (Str×V)) (L:List (ak×HO)):Prop where
 b:lu K C x dx H H' fs
 at_:∀ e∈L,H' e.1=some e.2/\e.1≠x/\H e.1=none
 nd:(L.map (·.1)).Nodup
section
variable {K:aF} {C x dx D:ak} {H H' Il:Hp} {fs fs':List (Str×V)} {L:List (ak×HO)} {o:HO}
theorem DT.put (h:DT K C x dx H H' fs L):DT K C x dx H (upd H' x (.ins C dx fs')) fs' L:=⟨h.b.put,λ e a=>⟨by rw [aw (h.at_ e a).2.1];exact (h.at_ e a).1,(h.at_ e a).2⟩,h.nd⟩
theorem DT.more (h:DT K C x dx H H' fs L) (s:aE H' Il) (c:H' D=none) (d:Il D=some o):DT K C x dx H Il fs ((D,o)::L):=by
 refine ⟨⟨λ b u e n=>s _ _ (h.b.st b u e n),h.b.ts.trans s.ts,s _ _ h.b.at_⟩,λ e a=>?_,ab3.mpr ⟨λ z=>?_,h.nd⟩⟩
 . rcases aay.mp a with rfl|a
   . exact ⟨d,h.b.ne c,h.b.none c⟩
   . exact ⟨s _ _ (h.at_ e a).1,(h.at_ e a).2⟩
 .
  obtain ⟨e,a,z⟩:=abv.mp z;have:=(h.at_ e a).1;rw [z,c] at this;cases this
noncomputable def yh (p:ak) (q:bp) (L:List (List (Option Nat))):List (ak×HO):=(p,.lst (q.map .ref))::q.zip (L.map λ l => .lst (l.map iE))
theorem QW.rkb {p:ak} {q:bp} {L:List (List (Option Nat))} (h:QW H H' p q L) (c:H x=some (.ins C dx [])):DT K C x dx H H' [] (yh p q L):=by
 have nx:∀ b∈p::q,b≠x:=λ b k z=>by rw [<- z,h.fr b k] at c;cases c
 have n:q.length<=(L.map λ l=>HO.lst (l.map iE)).length:=by rw [Ea,h.le];exact aaE _
 refine ⟨⟨λ b o e Z=>h.sm b o e,h.sm.ts,h.sm _ _ c⟩,λ e a=>?_,?_⟩
 .
  rcases aay.mp a with rfl|a
  . exact ⟨h.hp,nx _ aaZ,h.fr _ aaZ⟩
  .
   obtain ⟨i,m⟩:=aej.mp a;obtain ⟨d,f⟩:=ae1.mp m;rw [aah] at f;obtain ⟨l,j,E⟩:=acY.mp f;have g:=aaB p (aae d);exact ⟨by rw [<- E];exact h.xV i _ l d j,nx _ g,h.fr _ g⟩
 . show (p::(q.zip _).map (·.1)).Nodup;rw [List.map_fst_zip n];exact h.nd
theorem DT.rk {c p a d:ak} {Q:bp} {S:lA} (h:DT K C x dx H H' (WN c p a d) ((d,.lst (S.queue.map aq))::(a,.lst (S.bQ.map iE))::(p,.lst (S.d7.map aq))::yh c Q S.bU)) (L:Q.length=S.bU.length):jo C H' x c p a d Q S:=by
 have s:Q.length<=(S.bU.map λ l=>HO.lst (l.map iE)).length:=by rw [Ea,L];exact aaE _
 refine ⟨⟨dx,h.b.at_⟩,(h.at_ (c,.lst (Q.map .ref)) (by simp [yh])).1,L,λ i q l e E=>?_,(h.at_ (p,.lst (S.d7.map aq)) (by simp)).1,(h.at_ (a,.lst (S.bQ.map iE)) (by simp)).1,(h.at_ (d,.lst (S.queue.map aq)) (by simp)).1,?_⟩
 . exact (h.at_ (q,.lst (l.map iE)) (aaB _ (aaB _ (aaB _ (aaB _ (aej.mpr ⟨i,ae1.mpr ⟨e,by rw [aah,E];rfl⟩⟩)))))).1
 .
  have n:=h.nd;unfold yh at n;rw [ab8,ab8,ab8,ab8,List.map_fst_zip s] at n;simp only [ab3,aay,ad7] at n |-;obtain ⟨⟨A,f,g,j⟩,⟨B,b2,k⟩,⟨m,o⟩,D,r⟩:=n;exact ⟨⟨λ z=>m z.symm,λ z=>b2 z.symm,λ z=>g z.symm,D⟩,⟨λ z=>B z.symm,λ z=>f z.symm,o⟩,⟨λ z=>A z.symm,k⟩,j,r⟩
theorem DT.fr (h:DT K C x dx H H' fs L):iw [x] H H':=λ b u e n=>h.b.st b u e λ z=>n (aac.mpr z)
end
structure pi (rows:List cm) (S:lA) (i n:Nat):Prop where
 ok:jh rows S 0
 dn:∀ (p:Nat) (r:cm) (c:Nat),rows[p]?=some r->r[c]?=some none->(p<i\/(p=i/\c<n))->∃ l,S.bU[p]?=some l/\l[c]?=some (some 0)
 un:∀ (p:Nat) l (c:Nat),S.bU[p]?=some l->c<l.length->(i<p\/(p=i/\n<=c))->l[c]?=some none
theorem pi.zero (rows:List cm):pi rows (LI rows) 0 0:=by
 refine ⟨Ph rows,λ p r c Z Z h=>?_,λ p l c e H Z=>?_⟩
 . rcases h with h|⟨Z,h⟩<;>exact absurd h (acl _)
 .
  have:=UY H;cases q:l[c] with
  | none=>rw [this,q]
  | some t=>rw [q] at this;exact absurd this (C7 e)
theorem pi.skip {rows:List cm} {S:lA} {i n:Nat} {r:cm} {j:aH} (h:pi rows S i n) (a:rows[i]?=some r) (b:r[n]?=some (some j)):pi rows S i (n+1):=by
 refine ⟨h.ok,λ p R c e E q=>h.dn p R c e E ?_,λ p l c e H q=>h.un p l c e H (by lia)⟩;rcases q with q|⟨q,Q⟩
 . exact .inl q
 . grind
theorem pi.step {rows:List cm} {S:lA} {i n m:Nat} {r:cm} {l:List (Option Nat)} (h:pi rows S i n) (a:rows[i]?=some r) (b:r[n]?=some none) (E:S.bU[i]?=some l) (k:S.d7[i]?=some m):pi rows (S.fin i n 0 l m) i (n+1):=by
 have d:n<l.length:=by rw [h.ok.sh i l r E a];exact (SV.mp b).1
 have H:=h.un i l n E d (.inr ⟨rfl,aaE _⟩);refine ⟨h.ok.fin E k H ⟨r,a,.inl ⟨b,rfl⟩⟩,λ p R c e f q=>?_,λ p L c e y q=>?_⟩
 .
  by_cases z:p=i/\c=n
  . obtain ⟨rfl,rfl⟩:=z;exact ⟨_,dG.mpr (.inl ⟨rfl,(SV.mp E).1,rfl⟩),dG.mpr (.inl ⟨rfl,d,rfl⟩)⟩
  . obtain ⟨L,g,j⟩:=h.dn p R c e f (by lia);exact xX E H g j
 .
  rcases dG.mp (show (S.bU.set i (l.set n (some 0)))[p]?=some L from e) with ⟨z,Z,rfl⟩|⟨z,e⟩
  . rw [ado] at y;refine dG.mpr (.inr ⟨by lia,h.un i l c E y (by lia)⟩)
  . exact h.un p L c e y (by lia)
theorem pi.next {rows:List cm} {S:lA} {i:Nat} {r:cm} (h:pi rows S i r.length) (a:rows[i]?=some r):pi rows S (i+1) 0:=by
 refine ⟨h.ok,λ p R c e E q=>h.dn p R c e E ?_,λ p l c e H q=>h.un p l c e H (by lia)⟩;by_cases z:p=i
 . grind
 . lia
theorem pi.done {rows:List cm} {S:lA} (h:pi rows S rows.length 0):gD rows S:=λ p r c e E=>h.dn p r c e E (.inl (SV.mp e).1)
theorem jo.same {CR:ak} {x b p a c:ak} {Q:bp} {S:lA} (h:jo CR H x b p a c Q S) (s:aE H H'):jo CR H' x b p a c Q S:=by
 obtain ⟨⟨d,r⟩,f,g,j,k,m,n,o⟩:=h;exact ⟨⟨d,s _ _ r⟩,s _ _ f,g,λ i q l e E=>s _ _ (j i q l e E),s _ _ k,s _ _ m,s _ _ n,o⟩
theorem Fw {c:Type} {R:ak->c->Prop}:∀ {as:bp} {l:List c},as.length=l.length->(∀ (i:Nat) b a,as[i]?=some b->l[i]?=some a->R b a)->Refs R (as.map .ref) l
 | [],[],_,_=>Refs.nil
 | b::as,a::l,h,f => .cons ⟨b,rfl,f 0 b a rfl rfl⟩ (Fw (agI h) λ i b a e E=>f (i+1) b a e E)
theorem jo.there {CR:ak} {x c p a d:ak} {q:bp} {S:lA} (h:jo CR H x c p a d q S) {b:ak} (f:b∈IP c p a d q):H b≠none:=by
 obtain ⟨o,e,Z⟩:=h.wK b f;rw [e];exact nofun
theorem CO.at {K:aF} {CR:ak} {x f c d g p:ak} {q as:bp} {S:lA} {ah:List (List (Nat×Nat))} (h:jo CR H x f c d g q S) (a:CO K H H' p as ah):K5 K H' (IP f c d g q) p ah :=
 ⟨_,a.hp,λ z=>h.there z (a.fr _ aaZ),Fw a.le λ i b l e E=>⟨λ z=>h.there z (a.fr _ (aaB _ (aae e))),a.xV i b l e E⟩⟩
theorem DT.YX {K:aF} {C x dx f p e g:ak} {F:List (Str×V)} {q:bp} {l:List (List (Option Nat))} {o O d:HO} (h:DT K C x dx H H' F ((g,o)::(e,O)::(p,d)::yh f q l)) (L:q.length=l.length):∀ b∈IP f p e g q,H b=none:=by
 intro b a;simp only [aay] at a;rcases a with rfl|rfl|rfl|rfl|a
 . exact (h.at_ (b,.lst (q.map .ref)) (by simp [yh])).2.2
 . exact (h.at_ (b,d) (by simp)).2.2
 . exact (h.at_ (b,O) (by simp)).2.2
 . exact (h.at_ (b,o) (by simp)).2.2
 . obtain ⟨i,c,rfl⟩:=acP.mp a;have j:i<l.length:=by rw [<- L];exact c
   exact (h.at_ (q[i],.lst (l[i].map iE)) (aaB _ (aaB _ (aaB _ (aaB _ (aej.mpr ⟨i,ae1.mpr ⟨UY c,by simp_all⟩⟩)))))).2.2
def um (m:am):Prop:=∀ s o,cY m s->o∈s.orders m->(qb m s o).length<=400
theorem QS {K:aF} {V:aB} {met:List ck} (h:rN K H V met):∀ {R:List (Option Nat)},R.length=met.length->∃ a:qH,V=a.map (λ e => .ref e.2.1)/\R.map iE=a.map (λ e=>e.2.2)/\a.map (·.1)=met.map o5/\∀ e∈a,iD K H e.1 e.2.1:=by
 induction h with
 | nil =>
   intro R b;obtain rfl:=acf b;exact ⟨[],rfl,rfl,rfl,λ Z h=>absurd h aaj⟩
 | @cons v s V met h t I =>
   intro R b;obtain ⟨p,e,j⟩:=h;cases R with
   | nil=>cases b
   | cons r R =>
     obtain ⟨a,d,f,g,i⟩:=I (agI b);refine ⟨(o5 s,p,iE r)::a,by rw [e,d];rfl,by rw [ab8,f];rfl,by rw [ab8,g];rfl,λ x c=>?_⟩;rcases aay.mp c with rfl|c
     . exact gv j
     . exact i x c
theorem EW:∀ {a:qH} {i:Nat} {e:PyData×ak×V},(a.map (·.1)).Nodup->a[i]?=some e->jM a e.1=some e.2.2
 | [],_,_,_,h=>by simp at h
 | x::a,0,e,_,h=>by
   cases h;unfold jM;rw [acs,aaS rfl];rfl
 | x::a,i+1,e,H,h=>by
   have H:=ab3.mp H;have h:=h;have:=EW H.2 h;unfold jM at this |-;rw [acs,aaR (λ z=>H.1 (abv.mpr ⟨e,aae h,z.symm⟩))];exact this
theorem ie.Q9 {m:am} {g:tp} (h:ie m g) (G:C5 m) (R:um m) (l:g.rows.length=g.met.length) (L:g.met.length<=2000):JI g.rows:=by
 refine ⟨by lia,λ r d=>?_⟩;obtain ⟨i,b,rfl⟩:=acP.mp d;have C:i<g.met.length:=by lia
 have a:=h.rows i _ _ (UY C) (UY b);have s:=h.st _ (aaH C);refine ⟨by rw [<- a.length];exact wk G.h4 _,λ J H=>?_⟩;obtain ⟨o,c,q⟩:=tT a (some J) H;unfold kC at q;split at q
 .
  have q:=q;refine ⟨by rw [q.length];exact (R _ o s c),λ j H=>?_⟩;obtain ⟨t,Z,e⟩:=wX q j H;rw [l];exact (SV.mp e).1
 . exact q.elim
inductive Ba (P:bq) (w:bi) (K:aF) (C:ak) (vs:aB) (H:Hp) (Q:VK) (_E:XK):Prop
 | mk (a q lim fp m xs l:_) (_:vs=[.ref a,.ref q,.int lim]) (_:aN K C H a fp m) (_:C5 m) (_:wU m lim) (_:lim<=2000) (_:um m) (_:H q=some (.lst xs)) (_:rN K H xs l) (_:(∀ s∈l,cY m s)) (_:∀ p aG H',aE H H'->jC P w K H' p aG->(∀ s∈l,∃ v,jM aG (o5 s)=some (iE v)/\iI m s v)->Q (.ref p) H')
section
variable {m:am} {s:ck} {o out:Nat}
theorem Pp (a:m.rows.length<=4) (S:cY m s) (c:o∈s.orders m):o<16/\(Uv m s).Law o:=by
 obtain ⟨b,h⟩:=abT.mp c;obtain ⟨l,O⟩:=(tG (rR a)).2 o b;obtain ⟨h,H⟩:=ad5.mp h;obtain ⟨H,a⟩:=ad5.mp H;refine ⟨l,(Ord.Jg (aa6 l (by decide))).mpr ⟨O,⟨?_,aeH H,aeH a⟩⟩⟩;have:=aeH h;unfold ck.held at this;rw [S.lw] at this;exact this
theorem EY (H:m.rows.length<=4) (Y:∀ x,some x∈m.aI->0<=x.1.1/\(0<=x.2.1/\x.2.1<=9)/\(0<=x.2.2.1/\x.2.2.1<=3)/\(0<=x.2.2.2/\x.2.2.2<=3)) (W:m.UV) (S:cY m s) (b:o∈s.orders m) (D:out∈c7 m s o):cT m s o out:=by
 obtain ⟨l,L⟩:=Pp H S b;obtain ⟨E,u⟩:=(tG (sS H)).2 out D;have a:∀ r,0<=m.wd r/\0<=m.dI r:=λ r=>by
   unfold am.wd am.dI am.eT;cases e:m.aI[r]? with
   | none=>exact ⟨adr _,adr _⟩
   | some z =>
     cases z with
     | none=>exact ⟨adr _,adr _⟩
     | some z =>
       have:=Y z (aae e);exact ⟨this.2.1.1,this.2.2.1.1⟩
 refine ⟨H,S,L,l,E,λ r h=>?_,λ r=>(a r).1,λ r=>(a r).2,W.2.1.1,W.2.2.1⟩;have:(out &&& s.may m o).testBit r=true:=by rw [u];exact h
 rw [abS] at this;have:=(abX _ _ ▸ this).2;unfold ck.may at this;rw [Ord.cI] at this;simp only [abX,Bool.not_eq_true',acG] at this;exact ⟨this.2.1.1,this.2.1.2,this.2.2⟩
theorem KQ {r:List bZ} {f g:bZ} {x:Nat} (h:x∈kQ r f g):x+1<r.length:=by
 have:=aaK.mp (abT.mp h).1;lia
theorem kJ (l:aH) (i:Nat):gN l i=l.getD i 0:=by
 unfold gN;rw [YQ]
theorem NB {D:List Pr} (h:∀ d∈D,AO 900 900 d) (H:D.length<=10):eX 20000 (nf (fQ D).1 (fQ D).2):=by
 obtain ⟨a,b,c⟩:=zT D h D.length (aaE _);rw [aa4] at a b c;have F:=jf (t:=(fQ D).1) c;exact ⟨F.Ra (a.mono (by lia)),F.RC (b.mono (by lia)),F.pos⟩
theorem Mn (W:m.Wf) (H:m.rows.length<=4) (r:m.bf.length=m.rows.length) (S:cY m s):P4 m s:=by
 intro i b k f;have len:∀ d,(dF m s.bR d).length=m.rows.length:=λ d=>by
   unfold dF;rw [Ea,aaA,S.lb]
 have p:b=true->∃ z,m.aI[i]?=some (some z):=λ e=>by
   have:=f e;unfold am.has am.eT at this;cases q:m.aI[i]? with
   | none=>rw [q] at this;cases this
   | some z =>
     cases z with
     | none=>rw [q] at this;cases this
     | some z=>exact ⟨z,rfl⟩
 have h:i<m.bf.length:=by rw [r];exact k
 have E:jc m i=m.bf[i]:=by unfold jc;rw [UY h];rfl
 have a:=W.bf m.bf[i] (aaH h);have o:∀ d w,d<=1->eX 120 w->eX 20000 (mj m i (dF m s.bR d) w b):=λ d w g n=>by
   obtain ⟨A,c,Z⟩:=uk W H (len d) (oI W S.lb (λ j l=>by exact S.band j l) g) n p;exact NB A c
 refine ⟨o 0 _ (by decide) ?_,o 1 _ (by decide) ?_⟩
 . rw [E];exact a.2.1.mono (by decide)
 . rw [E];exact a.2.2.mono (by decide)
theorem F6 (w:m.Wf) (h:m.rows.length<=4) (f:m.bf.length=m.rows.length) (Y:∀ x,some x∈m.aI->0<=x.1.1/\(0<=x.2.1/\x.2.1<=9)/\(0<=x.2.2.1/\x.2.2.1<=3)/\(0<=x.2.2.2/\x.2.2.2<=3)) (W:m.UV):C5 m:=by
 refine ⟨h,λ s S=>Mn w h f S,λ s o S H out D=>EY h Y W S H D,λ s o x S H a=>?_⟩;obtain ⟨out,D,a⟩:=adS.mp a;obtain ⟨c,e,rfl⟩:=abv.mp a;obtain ⟨lc,d⟩:=gU.mp e;have l:(fI m s (Ord.off o out)).length=m.rows.length:=by unfold fI;rw [Ea,aaA]
 rw [l] at lc d;refine (EY h Y W S H D).next lc λ i b=>?_;have:=d i b;unfold fI at this;rw [YQ,aah,afx b] at this;have this:c.getD i 0∈(sF m s (Ord.off o out) i).getD []:=this;unfold sF bj at this;split at this
 . exact KQ this
 . exact absurd this aaj
theorem zQ {n:Nat} (w:m.Wf) (h:m.rows.length<=4) (s:m.bf.length=m.rows.length) (p:iB n m):C5 m:=F6 w h s p.bE p.FV
end
theorem eK {k:Nat} (rows:List (aH)):(∀ r∈rows,r.length<=k)->(bN rows).length<=k ^ rows.length:=by
 refine snoc_ind (p:=λ rows=>(∀ r∈rows,r.length<=k)->(bN rows).length<=k ^ rows.length) (λ Z=>aaE _) (λ l r i h=>?_) rows;rw [jP,aas,abh];refine aaX (fG λ a=>by rw [Ea];exact h r (by simp)) (ad4 _ (i λ x H=>h x (by simp [H])))
def NX (m:am):List ck :=
 (bN ((List.range m.rows.length).map λ i=>List.range ((m.rows.getD i []).length - 1))).flatMap λ b=>(List.range (2 ^ m.rows.length)).flatMap λ u =>
   (bN ((List.range m.rows.length).map λ i=>List.range ((m.dI i).toNat+1))).flatMap λ w=>(bN ((List.range m.rows.length).map λ i=>List.range ((m.fails i).toNat+1))).flatMap λ f =>
     (List.range (m.eO.toNat+1)).map λ h=>⟨b,u,w,f,h⟩
theorem EJ {n i:Nat} {F:Nat->aH} (h:i<n):((List.range n).map F).getD i []=F i:=by
 simp_all
theorem E6 {m:am} {s:ck} (S:cY m s):s∈NX m:=by
 have c:∀ {l:aH} {F:Nat->aH},l.length=m.rows.length->(∀ i,i<m.rows.length->gN l i∈F i)->l∈bN ((List.range m.rows.length).map F):=λ {l F} d b=>by
   refine gU.mpr ⟨by grind,λ i h=>?_⟩;rw [Ea,aaA] at h;rw [EJ h];exact b i h
 have f:∀ i,i<m.rows.length->(gN s.dE i)<=max 0 (m.dI i)/\(gN s.failed i)<=max 0 (m.fails i):=λ i h=>by
   have:=S.bE i h;unfold am.dI am.fails;cases e:m.eT i with
   | none=>rw [e] at this;obtain ⟨Z,H,a⟩:=this;rw [H,a];exact ⟨Int.le_max_left _ _,Int.le_max_left _ _⟩
   | some z=>rw [e] at this;exact ⟨acV this.1 (Int.le_max_right _ _),acV this.2.1 (Int.le_max_right _ _)⟩
 refine adS.mpr ⟨s.bR,c S.lb λ i h=>aaK.mpr (by have:=S.band i h;lia),adS.mpr ⟨s.bG,aaK.mpr S.bG,adS.mpr ⟨s.dE,c S.lw λ i h=>aaK.mpr (by have:=(f i h).1;lia),adS.mpr ⟨s.failed,c S.lf λ i h=>aaK.mpr (by have:=(f i h).2;lia),abv.mpr ⟨s.heap,aaK.mpr (by have:=S.heap;lia),rfl⟩⟩⟩⟩⟩
theorem Fj {m:am} {a b c d:Nat} (h:(bN ((List.range m.rows.length).map λ i=>List.range ((m.rows.getD i []).length - 1))).length<=a) (H:(bN ((List.range m.rows.length).map λ i=>List.range ((m.dI i).toNat+1))).length<=b) (e:(bN ((List.range m.rows.length).map λ i=>List.range ((m.fails i).toNat+1))).length<=c) (g:m.eO.toNat+1<=d) :
   (NX m).length<=a * (2 ^ m.rows.length * (b * (c * d))):=by
 refine aaX (fG λ x=>aaX (fG λ y=>?_) (by rw [aaA];exact aaE _)) (ad4 _ h);refine aaX (fG λ w=>aaX (fG λ f=>?_) (ad4 _ e)) (ad4 _ H);rw [Ea,aaA];exact g
inductive E9 {a b c d e f g h i:Type} (p:a->b->c->d->e->f->g->h->i->Prop):Prop|mk (x:a) (y:b) (z:c) (u:d) (v:e) (w:f) (t:g) (s:h) (r:i) (_:p x y z u v w t s r)
structure J1 (n:Nat) (z:Int×Int×Int×Int):Prop where
 s2:z.2.2.1<=2
 s1:2<=n->z.2.2.1<=1
 f:z.2.2.2<=1
 t:3<=n->z.2.2.1<=0/\z.2.2.2<=0
structure Aq (n b:Nat) (r:R7):Prop where
 len:r.marks.length<=b+1
 st:∀ z,r.bE=some z->J1 n z
structure pj (rs:List R7) (b0 b1 b2:Int) (p:Nat) (m:am):Prop where
 most:m.most=b0
 eO:m.eO=b1
 load:m.load=b2
 rows:∀ (i:Nat) r,m.rows[i]?=some r->∃ q,rs[i]?=some q/\r.length=q.marks.length
 st:∀ (i:Nat) q,i<p->rs[i]?=some q->(m.eT i).map (·.2)=q.bE.map (·.2)
 no:∀ i,p<=i->m.eT i=none
section
variable {rs:List R7} {b0 b1 b2:Int} {p i j:Nat} {m:am}
theorem pj.new:pj rs b0 b1 b2 0 (am.new b0 b1 b2):=⟨rfl,rfl,rfl,λ i r e=>(by have e:([])[i]?=some r:=e;simp at e),λ Z Z h=>absurd h (acl _),λ Z Z=>rfl⟩
theorem pj.c8 {r:List bZ} {q:R7} (h:pj rs b0 b1 b2 0 m) (a:rs[m.rows.length]?=some q) (b:r.length=q.marks.length):pj rs b0 b1 b2 0 (m.c8 r):=by
 refine ⟨h.most,h.eO,h.load,λ i x e=>?_,λ Z Z h=>absurd h (acl _),λ i Z=>?_⟩
 .
  have e:(m.rows++[r])[i]?=some x:=e;by_cases H:i<m.rows.length
  . rw [aaO H] at e;exact h.rows i x e
  .
   have:=(SV.mp e).1;rw [aas,abh] at this;obtain rfl:i=m.rows.length:=by lia
   rw [ack] at e;cases e;exact ⟨q,a,b⟩
 .
  have:=h.no i (ab2 _);show ((m.aI++[none])[i]?).getD none=none;by_cases H:i<m.aI.length
  . rw [aaO H];exact this
  . rw [abM (by lia)];by_cases z:i - m.aI.length=0
    . rw [z];rfl
    . simp_all
theorem pj.cX {z:bZ×bZ×bZ} (h:pj rs b0 b1 b2 p m):pj rs b0 b1 b2 p (m.cX i z):=⟨h.most,h.eO,h.load,h.rows,h.st,h.no⟩
theorem pj.cK {f:bZ} (h:pj rs b0 b1 b2 p m):pj rs b0 b1 b2 p (m.cK i j f):=⟨h.most,h.eO,h.load,h.rows,h.st,h.no⟩
theorem pj.skip {q:R7} (h:pj rs b0 b1 b2 p m) (a:rs[p]?=some q) (b:q.bE=none):pj rs b0 b1 b2 (p+1) m:=by
 refine ⟨h.most,h.eO,h.load,h.rows,λ i x H e=>?_,λ i H=>h.no i (by lia)⟩;by_cases z:i=p
 .
  subst z;rw [a] at e;cases e;rw [h.no i (aaE _),b];rfl
 . exact h.st i x (by lia) e
theorem pj.bD {q:R7} {z:bZ×Int×Int×Int} {y:Int×Int×Int×Int} (h:pj rs b0 b1 b2 p m) (a:p<m.aI.length) (b:rs[p]?=some q) (c:q.bE=some y) (d:z.2=y.2):pj rs b0 b1 b2 (p+1) (m.bD p z):=by
 have E:∀ i,(m.bD p z).eT i=if i=p then some z else m.eT i:=λ i=>by
   unfold am.eT;show ((m.aI.set p (some z))[i]?).getD none=_;by_cases e:i=p
   . simp_all
   . rw [abC e,adt (λ q=>e q.symm)]
 refine ⟨h.most,h.eO,h.load,h.rows,λ i x H e=>?_,λ i H=>?_⟩
 .
  rw [E];by_cases k:i=p
  . simp_all
  . rw [abC k];exact h.st i x (by lia) e
 . rw [E,abC (by lia)];exact h.no i (by lia)
end
def NJ:Option (Int×Int×Int×Int)->Bool->Nat->Nat->Prop
 | none,f,w,b=>f=false/\w=0/\b=0
 | some z,f,w,b=>(w:Int)<=z.2.2.1/\(b:Int)<=z.2.2.2/\(b=0\/(f=false/\w=0))
structure pN (rs:List R7) (b0:Int) (i:Nat) (bs ws fs:aH) (b:Nat):Prop where
 lb:bs.length=i
 lw:ws.length=i
 lf:fs.length=i
 bG:b<2 ^ i
 most:((Bit.rooms b).length:Int)<=b0
 band:∀ (j:Nat) q,j<i->rs[j]?=some q->gN bs j+1<q.marks.length
 bE:∀ (j:Nat) q,j<i->rs[j]?=some q->NJ q.bE (b.testBit j) (gN ws j) (gN fs j)
theorem pN.zero {r:List R7} {b:Int} (h:0<=b):pN r b 0 [] [] [] 0:=by
 refine ⟨rfl,rfl,rfl,by decide,?_,λ Z Z h=>absurd h (acl _),λ Z Z h=>absurd h (acl _)⟩;have e:(Bit.rooms 0).length=0:=by decide
 exact h
theorem pN.next {R:List R7} {B:Int} {i:Nat} {k W F:aH} {b x w f:Nat} {lit:Bool} {q:R7} (h:pN R B i k W F b) (p:i<61) (m:R[i]?=some q) (s:x+1<q.marks.length) (o:NJ q.bE lit w f) (t:lit=true->((Bit.rooms b).length:Int)<B):pN R B (i+1) (k++[x]) (W++[w]) (F++[f]) (if lit then b+2 ^ i else b)/\(Bit.rooms (if lit then b+2 ^ i else b)).length=(Bit.rooms b).length+(if lit then 1 else 0):=by
 have a:=Bit.iP h.bG (aaE _);have g:b+2 ^ i=b ||| 2 ^ i:=by
   have:=af8 h.bG 1;rw [agV] at this;rw [afp,this,Nat.or_comm]
 have L:(if lit then b+2 ^ i else b)<2 ^ (i+1):=by
   have:=h.bG;rw [afV];split<;>lia
 have H:(Bit.rooms (if lit then b+2 ^ i else b)).length=(Bit.rooms b).length+(if lit then 1 else 0):=by
   cases lit with
   | false=>rfl
   | true =>
     show (Bit.rooms (b+2 ^ i)).length=_+1;rw [g,Bit.Le p a]
 have c:∀ j,j<i->(if lit then b+2 ^ i else b).testBit j=b.testBit j:=λ j d=>by
   cases lit with
   | false=>rfl
   | true =>
     rw [afp];exact Nat.testBit_two_pow_add_gt d b
 have z:(if lit then b+2 ^ i else b).testBit i=lit:=by
   cases lit with
   | false=>exact a
   | true =>
     simp_all
 have n:∀ {l:aH} {y:Nat},l.length=i->gN (l++[y]) i=y:=λ {l y} e=>by rw [<- e];exact Pj
 refine ⟨⟨by rw [aas,h.lb];rfl,by rw [aas,h.lw];rfl,by rw [aas,h.lf];rfl,L,?_,λ j r d E=>?_,λ j r d E=>?_⟩,H⟩
 .
  rw [H];have:=h.most;cases lit with
  | false=>exact this
  | true =>
    lia
 .
  by_cases e:j<i
  . rw [DX (by rw [h.lb];exact e)];exact h.band j r e E
  . obtain rfl:j=i:=by lia
    rw [m] at E;cases E;rw [n h.lb];exact s
 .
  by_cases e:j<i
  . rw [DX (by rw [h.lw];exact e),DX (by rw [h.lf];exact e),c j e];exact h.bE j r e E
  . obtain rfl:j=i:=by lia
    rw [m] at E;cases E;rw [n h.lw,n h.lf,z];exact o
theorem pN.ok {r:List R7} {b B:Int} {m:am} {s:ck} (h:pN r b r.length s.bR s.dE s.failed s.bG) (l:pj r b B b2 r.length m) (L:m.rows.length=r.length) (c:(s.heap:Int)<=B):cY m s:=by
 refine ⟨by rw [L];exact h.lb,by rw [L];exact h.lw,by rw [L];exact h.lf,by rw [L];exact h.bG,by rw [l.most];exact h.most,by rw [l.eO];exact c,λ i H=>?_,λ i H=>?_⟩
 .
  obtain ⟨q,E,e⟩:=l.rows i _ (UY H);rw [YQ,UY H];show _<m.rows[i].length;rw [e];exact h.band i q (by lia) E
 .
  have C:i<r.length:=by lia
  have E:=UY C;have:=h.bE i _ C E;have e:=l.st i _ C E;cases q:r[i].bE with
  | none =>
    rw [q] at this e;cases z:m.eT i with
    | none=>exact this
    | some a=>rw [z] at e;cases e
  | some y =>
    rw [q] at this e;cases z:m.eT i with
    | none=>rw [z] at e;cases e
    | some a =>
      rw [z] at e;have e:a.2=y.2:=abb e;show _<=a.2.2.1/\_<=a.2.2.2/\_;rw [e];exact this
section
variable (K:aF) (C:ak)
inductive EL  (vs:aB) (H:Hp) (Q:VK) (_E:XK):Prop
 | mk (c:Int) (n b:Nat) (_:vs=[.int c,aq n,aq b]) (_:1<=n) (_:n<=4) (_:1<=b) (_:b<=4) (_:∀ p xs (rs:List R7) H',aE H H'->H' p=some (.lst xs)->bP K H' (rs.map Ke) xs->rs.length=n->(∀ r∈rs,r.Ok/\Aq n b r)->Q (.ref p) H')
inductive C9  (vs:aB) (H:Hp) (Q:VK) (_E:XK):Prop
 | mk (pr:ak) (xs:aB) (rs:List R7) (pb:ak) (b0 b1 b2 c k:Int) (_:vs=[.ref pr,.ref pb,.int c,.int k]) (_:aW K H pr xs) (_:bP K H (rs.map Ke) xs) (_:1<=rs.length) (_:rs.length<=4) (_:(∀ r∈rs,r.Ok)) (_:cw K H pb [.int b0,.int b1,.int b2]) (_:0<=b0) (_:0<=b1) (_:0<=k) (_:k<=100) (_:∀ q st H',aE H H'->ig K H' q st->pN rs b0 rs.length st.bR st.dE st.failed st.bG->(st.heap:Int)<=b1->Q (.ref q) H')
end
structure G6 where
 a:Bool
 b:Bool
 c:Bool
 d:Bool
 e:Bool
 f:Bool
def RJ (g:G6) (i j:Nat):Bool:=match i,j with
 | 0,1=>g.a|1,0=>g.a|0,2=>g.b|2,0=>g.b|0,3=>g.c|3,0=>g.c|1,2=>g.d|2,1=>g.d|1,3=>g.e|3,1=>g.e|2,3=>g.f|3,2=>g.f|_,_=>false
noncomputable def g6 (r:Nat->Nat->Bool):G6:=⟨r 0 1,r 0 2,r 0 3,r 1 2,r 1 3,r 2 3⟩
theorem Ji {r:Nat->Nat->Bool} (h:∀ i j,r i j=r j i) {i j:Nat} (H:i<4) (a:j<4) (n:i≠j):RJ (g6 r) i j=r i j:=by
 match i,j,H,a with
 | 0,1,_,_=>rfl|0,2,_,_=>rfl|0,3,_,_=>rfl|1,2,_,_=>rfl|1,3,_,_=>rfl|2,3,_,_=>rfl
 | 1,0,_,_=>exact h 0 1|2,0,_,_=>exact h 0 2|3,0,_,_=>exact h 0 3|2,1,_,_=>exact h 1 2|3,1,_,_=>exact h 1 3|3,2,_,_=>exact h 2 3
 | 0,0,_,_=>exact absurd rfl n|1,1,_,_=>exact absurd rfl n|2,2,_,_=>exact absurd rfl n|3,3,_,_=>exact absurd rfl n
noncomputable def C4 (x:Nat):aH->aH
 | []=>[x]
 | y::l=>if x<=y then x::y::l else y::C4 x l
def M3 (l:aH):aH:=l.foldr C4 []
theorem rZ (x:Nat):∀ l,(C4 x l).Perm (x::l)
 | [] => .refl _
 | y::l=>by
   unfold C4;split
   . exact .refl _
   . exact ((rZ x l).cons y).trans (.swap x y l)
theorem yz:∀ l,(M3 l).Perm l
 | [] => .refl _
 | x::l=>(rZ x _).trans ((yz l).cons x)
theorem Fb {x:Nat}:∀ {l:aH},l.Pairwise (·<=·)->(C4 x l).Pairwise (·<=·)
 | [],_=>by simp [C4]
 | y::l,h=>by
   obtain ⟨a,b⟩:=aeA.mp h;unfold C4;split
   . rename_i q
     exact aeA.mpr ⟨λ z H=>by
       rcases aay.mp H with rfl|H
       . exact q
       . exact aaX q (a z H),h⟩
   . refine aeA.mpr ⟨λ z H=>?_,Fb b⟩;rcases aay.mp ((rZ x l).mem_iff.mp H) with rfl|H
     . lia
     . exact a z H
theorem Gi:∀ l,(M3 l).Pairwise (·<=·)
 | [] => .nil
 | _::l=>Fb (Gi l)
theorem P9 {l:aH} {m:List Int} (d:m.Perm (l.map λ n:Nat=>(n:Int))) (e:m.Pairwise (·<=·)):m=(M3 l).map λ n:Nat=>(n:Int):=by
 refine List.Perm.eq_of_pairwise (λ a b Z Z H c=>Int.le_antisymm H c) e ?_ (d.trans ((yz l).symm.map _));rw [ae6];exact (Gi l).imp λ h=>by lia
def ku (g:G6) (d:Nat) (p:aH) (o:Nat):aH:=if (!decide (o∈p) && RJ g (p.getD d 0) o)=true then p++[o] else p
def OA (g:G6) (n:Nat) (p:aH) (d:Nat):aH:=(List.range n).foldl (ku g d) p
def Es (g:G6) (n:Nat):Nat->aH->Nat->aH
 | 0,p,_=>p
 | f+1,p,d=>if d<p.length then Es g n f (OA g n p d) (d+1) else p
def Jc (g:G6) (n r:Nat):aH:=M3 (Es g n 5 [r] 0)
def pP (g:G6) (n:Nat) (a:List (aH)) (r:Nat):List (aH):=if (a.any λ p=>decide (r∈p))=true then a else a++[Jc g n r]
def mD (g:G6) (n:Nat):List (aH):=(List.range n).foldl (pP g n) []
def N1 (n:Nat) (p:aH):Prop:=p.Nodup/\∀ x∈p,x<n
theorem N1.len {n:Nat} {p:aH} (h:N1 n p):p.length<=n:=by
 have:=lC p (List.range n) h.1 λ x H=>aaK.mpr (h.2 x H);rwa [aaA] at this
theorem N1.put {n o:Nat} {p:aH} (h:N1 n p) (f:o<n) (d:o∉p):N1 n (p++[o]) :=
 ⟨adL.mpr ⟨h.1,by simp,λ a H b c=>by rw [aac.mp c];exact λ e=>d (e ▸ H)⟩,λ x g=>by
   rcases aaU.mp g with q|q
   . exact h.2 x q
   . rw [aac.mp q];exact f⟩
theorem Dm (g:G6) (d i:Nat) (p:aH):(List.range (i+1)).foldl (ku g d) p=ku g d ((List.range i).foldl (ku g d) p) i:=by
 rw [ab6,adl];rfl
def Pa (H:Hp) (p:ak) (s:ck):Prop:=∃ a c b,H p=some (.tup [.ref a,aq s.bG,.ref c,.ref b,aq s.heap])/\H a=some (.tup (s.bR.map aq))/\H c=some (.tup (s.dE.map aq))/\H b=some (.tup (s.failed.map aq))
theorem Pa.at {K:aF} {p:ak} {s:ck} (h:Pa H p s):ig K H p s:=by
 obtain ⟨e,g,f,a,b,c,d⟩:=h;exact ⟨e,g,f,cw.of a,cw.of b,cw.of c,cw.of d⟩
def eL (s:ck) (r:aH):ck:=⟨r.map (gN s.bR),Ord.setOf r.length λ j=>s.bG.testBit (r.getD j 0),r.map (gN s.dE),r.map (gN s.failed),s.heap⟩
noncomputable def Sb (bG:Nat) (r:aH) (i:Nat):aH:=(List.range i).filter λ j=>bG.testBit (r.getD j 0)
theorem KE {bG:Nat} {R:aH} {i r:Nat} (e:R[i]?=some r):Sb bG R (i+1)=Sb bG R i++if bG.testBit r=true then [i] else []:=by
 unfold Sb;rw [ab6,adg];have:R.getD i 0=r:=by rw [YQ,e];rfl
 rw [afg,this];split<;>rfl
theorem LC (bG:Nat) (r:aH) (i:Nat):(Sb bG r i).length<=i:=by
 have:=ab0 (λ j=>bG.testBit (r.getD j 0)) (List.range i);rw [aaA] at this;exact this
inductive BJ (K:aF) (vs:aB) (H:Hp) (Q:VK) (_E:XK):Prop
 | mk (pr p:_) (l rs:aH) (_:vs=[.ref pr,.ref p]) (_:cw K H pr (l.map aq)) (_:aW K H p (rs.map aq)) (_:(∀ r∈rs,r<l.length)) (_:rs.length<=4) (_:∀ q H',aE H H'->H' q=some (.tup ((rs.map (gN l)).map aq))->Q (.ref q) H')
inductive yY (K:aF) (vs:aB) (H:Hp) (Q:VK) (_E:XK):Prop
 | mk (q p s:_) (rs:aH) (_:vs=[.ref q,.ref p]) (_:ig K H q s) (_:aW K H p (rs.map aq)) (_:(∀ r∈rs,r<s.bR.length/\r<s.dE.length/\r<s.failed.length)) (_:rs.length<=4) (_:∀ t H',aE H H'->Pa H' t (eL s rs)->Q (.ref t) H')
noncomputable def Pg (m:am) (B:aH) (i:Nat) (b:Bool):Nat:=((bj m i B b).getD []).length
theorem j0 {m:am} {s:ck} {o O:Nat} (h:m.rows.length<=4):O∈c7 m s o↔O<16/\O &&& s.may m o=O:=by
 unfold c7;rw [Ord.u9 _ (sS h),abT,aaK,acG]
theorem uZ {m:am} {s x:ck} {o:Nat}:x∈qb m s o↔∃ out∈c7 m s o,∃ c:aH,c.length=m.rows.length/\(∀ i,i<m.rows.length->c.getD i 0∈(bj m i s.bR ((Ord.off o out).testBit i)).getD [])/\x=s.behind m c o out:=by
 unfold qb;rw [adS];constructor
 .
  rintro ⟨out,H,b⟩;obtain ⟨c,a,rfl⟩:=abv.mp b;obtain ⟨l,q⟩:=gU.mp a;unfold fI at l q;rw [Ea,aaA] at l q;refine ⟨out,H,c,l,λ i h=>?_,rfl⟩;have:=q i h;rw [EJ h] at this;exact this
 .
  rintro ⟨out,H,c,l,q,rfl⟩;refine ⟨out,H,List.mem_map_of_mem (gU.mpr ⟨?_,λ i h=>?_⟩)⟩
  . unfold fI;rw [Ea,aaA];exact l
  . unfold fI at h |-;rw [Ea,aaA] at h;rw [EJ h];exact q i h
noncomputable def oH {a:Type} (F:a->Rat):List a->Rat
 | []=>0
 | i::l=>F i+oH F l
section
variable {α:Type} {F G:α->Rat}
theorem oK:∀ {l r:List α},oH F (l++r)=oH F l+oH F r
 | [],r=>by show oH F r=0+oH F r;grind
 | x::l,r=>by
   show F x+oH F (l++r)=F x+oH F l+oH F r;rw [oK]
   grind
theorem Jo {l r:List α} (h:l.Perm r):oH F l=oH F r:=by
 induction h with
 | nil=>rfl
 | cons x _ i=>show F x+_=F x+_;rw [i]
 | swap x y l=>show F y+(F x+oH F l)=F x+(F y+oH F l);grind
 | trans _ _ a b=>exact a.trans b
theorem sR:∀ {l:List α},(∀ i∈l,F i=G i)->oH F l=oH G l
 | [],_=>rfl
 | x::l,h=>by
   show F x+oH F l=G x+oH G l;rw [h x aaZ,sR λ i H=>h i (aaB _ H)]
theorem Jb:∀ {l:List α},(∀ i∈l,F i<=G i)->oH F l<=oH G l
 | [],_=>Rat.le_refl
 | x::l,h=>by
   show F x+oH F l<=G x+oH G l;have:=h x aaZ;have:=Jb λ i H=>h i (aaB _ H)
   grind
theorem Bi:∀ {l:List α},(∀ i∈l,F i=0)->oH F l=0
 | [],_=>rfl
 | x::l,h=>by
   show F x+oH F l=0;rw [h x aaZ,Bi λ i H=>h i (aaB _ H)]
   grind
theorem AB {a:Type} {g:a->α}:∀ {l:List a},oH F (l.map g)=oH (λ i=>F (g i)) l
 | []=>rfl
 | x::l=>by
   show F (g x)+oH F (l.map g)=F (g x)+_;rw [AB]
end
theorem Ew (r:aH):(List.range r.length).map (λ k=>r.getD k 0)=r:=by
 refine aeS (by simp) λ i H h=>?_;rw [aff,aeY,YQ,UY h];rfl
theorem LB {n:Nat} {R:aH} (N:R.Nodup) (l:∀ r∈R,r<n):(List.range n).Perm (R++ib n R):=by
 unfold ib;refine (List.perm_ext_iff_of_nodup aeQ ?_).mpr λ x=>?_
 .
  refine adL.mpr ⟨N,List.nodup_range.filter _,λ a h b H e=>?_⟩;subst e;have:=(abT.mp H).2;simp [h] at this
 . grind
theorem K3 {F:Nat->Rat} {n:Nat} {rs:aH} (N:rs.Nodup) (L:∀ r∈rs,r<n) (z:∀ i,i<n->i∉rs->F i=0):oH F (List.range n)=oH (λ k=>F (rs.getD k 0)) (List.range rs.length):=by
 have e:oH F (rs++ib n rs)=oH F rs:=by
   rw [oK,Bi (l:=ib n rs) λ i h=>?_]
   . grind
   . obtain ⟨a,b⟩:=abT.mp h;exact z i (aaK.mp a) (by simpa using b)
 rw [Jo (LB N L),e,<- AB (g:=λ k=>rs.getD k 0),Ew]
theorem zG (m:am) (i:Nat):∀ n,BM m i n=oH (λ j=>qv (m.cG i j)) (List.range n)
 | 0=>rfl
 | n+1=>by
   rw [ab6,oK];show BM m i n+qv (m.cG i n)=_+(qv (m.cG i n)+0)
   rw [zG m i n]
   grind
abbrev prQ (d:Pr):Rat:=qv d.1 * qv d.2
theorem Rp (ds:List Pr):(∀ d∈ds,0<d.1.2/\0<d.2.2)->0<(fQ ds).2/\qv (fQ ds)=oH prQ ds:=by
 refine snoc_ind (p:=λ ds:List Pr=>(∀ d∈ds,0<d.1.2/\0<d.2.2)->0<(fQ ds).2/\qv (fQ ds)=oH prQ ds) (λ Z=>?_) (λ l d I h=>?_) ds
 .
  refine ⟨by decide,?_⟩;show qv (0,1)=0;unfold qv
  grind
 .
  obtain ⟨p,e⟩:=I λ x i=>h x (acR _ i);obtain ⟨H,f⟩:=h d (acp _ (aac.mpr rfl));rw [rH,oK,<- e];generalize fQ l=s at p;refine ⟨adf p (adf H f),?_⟩;show qv (s.1 * (d.1.2 * d.2.2)+d.1.1 * d.2.1 * s.2,s.2 * (d.1.2 * d.2.2))=qv s+(qv d.1 * qv d.2+0)
  have a:=gA p;have b:=gA H;have c:=gA f;have E:((s.1 * (d.1.2 * d.2.2)+d.1.1 * d.2.1 * s.2:Int):Rat)=s.1 * (d.1.2 * d.2.2)+d.1.1 * d.2.1 * s.2:=by push_cast;rfl
  have g:((s.2 * (d.1.2 * d.2.2):Int):Rat)=s.2 * (d.1.2 * d.2.2):=by push_cast;rfl
  unfold qv;rw [E,g]
  grind
theorem UC {t b u c:Int} (H:0<b) (e:0<c) (h:qv (t,b)=qv (u,c)):nf t b=nf u c:=by
 refine Tl H e ?_;have a:=gA H;have d:=gA e;unfold qv at h;have:t * c=(u:Rat) * b:=by grind
 exact_mod_cast this
noncomputable def nK (m:am) (i:Nat):bZ:=(((m.aI[i]?).getD none).map (·.1)).getD (0,1)
def MN (m:am) (i:Nat) (E:Nat->bZ) (w:bZ) (f:Bool):Rat:=oH (λ j=>qv (m.share i j) * qv (E j)) (List.range m.rows.length)+qv (m.dU i) * qv w+if f=true then qv (nK m i) else 0
theorem oO {m:am} {i:Nat} {E:List bZ} {w:bZ} {f:Bool} (W:m.Wf) (a:m.rows.length<=4) (l:E.length=m.rows.length) (b:∀ x∈E,0<x.2) (hw:0<w.2):0<(fQ (gi m i E w f)).2/\qv (fQ (gi m i E w f))=MN m i (λ j=>E.getD j (0,1)) w f:=by
 have c:0<(nK m i).2:=by
   unfold nK;cases e:m.aI[i]? with
   | none=>exact (by decide)
   | some z =>
     cases z with
     | none=>exact (by decide)
     | some z=>exact (W.aI z (aae e)).p
 obtain ⟨p,e⟩:=Rp (gi m i E w f) λ d h=>by
   rcases aaU.mp h with h|h
   .
    rcases aaU.mp h with h|h
    . obtain ⟨j,H,rfl⟩:=abv.mp h;refine ⟨(tu W a i j).p,?_⟩;have H:=aaK.mp H;rw [YQ,UY H];exact b _ (aaH H)
    . rw [aac.mp h];exact ⟨(W.dU i).p,hw⟩
   . split at h
     . rw [aac.mp h];exact ⟨(by decide:(0:Int)<1),c⟩
     . exact absurd h aaj
 refine ⟨p,e.trans ?_⟩;unfold gi gI MN;rw [oK,oK,AB,l];have o:qv (1,1)=1:=by unfold qv;grind
 cases f with
 | false =>
   show _+(qv (m.dU i) * qv w+0)+0=_+qv (m.dU i) * qv w+0
   grind
 | true =>
   show _+(qv (m.dU i) * qv w+0)+(qv (1,1) * qv (nK m i)+0)=_+qv (m.dU i) * qv w+qv (nK m i);rw [o]
   grind
structure Pt (m:am) (rs:aH) (p:am):Prop where
 h4:m.rows.length<=4
 sk:m.bf.length=m.rows.length
 st:m.aI.length=m.rows.length
 wf:m.Wf
 wp:p.Wf
 qh:QH m
 qp:QH p
 ro:Rs m rs
 on:oB m rs rs.length p
 cr:wN m rs=false
 pk:iB 7 m
section
variable {m p:am} {rs:aH} {k:Nat}
theorem Pt.len (h:Pt m rs p):p.rows.length=rs.length:=by rw [h.on.rows,Ea]
theorem Pt.p4 (h:Pt m rs p):p.rows.length<=4:=by rw [h.len];exact aaX h.ro.len h.h4
theorem gy {i:Nat} (h:i<rs.length):rs.getD i 0∈rs:=by
 simp_all
theorem tJ {a:Type} {d:a} {g:Nat->a} (h:k<rs.length):(rs.map g).getD k d=g (rs.getD k 0):=by
 simp_all
theorem Pt.row (h:Pt m rs p) (H:k<rs.length):p.rows.getD k []=m.rows.getD (rs.getD k 0) []:=by
 rw [h.on.rows,tJ H];unfold rowAt;rw [YQ (l:=m.rows)]
theorem Pt.mX (h:Pt m rs p) (H:k<rs.length):jc p k=jc m (rs.getD k 0)/\p.dU k=m.dU (rs.getD k 0):=by
 have e:=h.on.sk k H;rw [abp H] at e;have a:rs.getD k 0<m.bf.length:=by rw [h.sk];exact h.ro.lt _ (gy H)
 unfold jc am.dU;rw [e];unfold pF;rw [UY a];exact ⟨rfl,rfl⟩
theorem Pt.eT (h:Pt m rs p) (H:k<rs.length):p.eT k=m.eT (rs.getD k 0):=by
 have e:=h.on.st k H;rw [abp H] at e;unfold am.eT;rw [e];rfl
theorem Pt.KH (h:Pt m rs p) (H:k<rs.length):nK p k=nK m (rs.getD k 0):=by
 have:=h.eT H;unfold am.eT at this;unfold nK;rw [this]
theorem Kf {l:aH} (n:l.Nodup) {i j:Nat} (h:i<l.length) (H:j<l.length) (e:l[i]=l[j]):i=j:=by
 have:=agg.mp n;rcases Nat.lt_trichotomy i j with z|z|z
 . exact absurd e (this i j h H z)
 . exact z
 . exact absurd e.symm (this j i H h z)
theorem Pt.inj (h:Pt m rs p) {j:Nat} (a:k<rs.length) (H:j<rs.length) (e:rs.getD k 0=rs.getD j 0):k=j:=by
 rw [YQ,YQ,UY a,UY H] at e;exact Kf h.ro.nd a H e
theorem qv0 {f:bZ} (h:f.1=0):qv f=0:=by unfold qv;rw [h];grind
theorem Pt.cG (h:Pt m rs p) {j:Nat} (H:k<rs.length) (a:j<rs.length):p.cG k j=m.cG (rs.getD k 0) (rs.getD j 0):=by
 rw [h.on.fl];by_cases e:k=j
 . subst e;rw [abC (λ z=>z.2.2.2 rfl),h.qh.self]
 . rw [abp ⟨H,H,a,e⟩]
theorem Pt.Og (h:Pt m rs p) {r i:Nat} (H:r∈rs) (a:i<m.rows.length) (n:i∉rs):qv (m.cG r i)=0/\qv (m.share r i)=0:=by
 have N:r≠i:=λ z=>n (z ▸ H);have e:m.share r i=m.cG r i:=by unfold am.share;rw [abC N]
 have c:=h.cr;have c:=afO.mp c r H;have c:=af3 _ ▸ c;have c:=afO.mp c i (abT.mpr ⟨aaK.mpr a,by simp [n]⟩);unfold iz at c;rw [e] at c |-;have C:=(CA (h.wf.cG r i).p).mp (h.qh.cG r i).1;have:=qv0 (f:=m.cG r i) (by lia);exact ⟨this,this⟩
theorem Pt.share (h:Pt m rs p) {j:Nat} (H:k<rs.length) (b:j<rs.length):qv (p.share k j)=qv (m.share (rs.getD k 0) (rs.getD j 0)):=by
 unfold am.share;by_cases e:k=j
 . subst e;rw [abp rfl,abp rfl,wE h.wp,wE h.wf,(h.mX H).2,zG,zG,h.len,K3 h.ro.nd h.ro.lt λ i a n=>(h.Og (gy H) a n).1,sR λ i a=>acJ qv (h.cG H (aaK.mp a))]
 . rw [abC e,abC λ z=>e (h.inj H b z),h.cG H b]
theorem vn {m:am} {b:aH} {d j:Nat} (h:j<b.length):(dF m b d).getD j (0,1)=(m.rows.getD j []).getD (b.getD j 0+d) (0,1):=by
 unfold dF;rw [YQ,aah,afx h];rfl
abbrev Je (bs rs:aH):aH:=rs.map (gN bs)
structure MT (m:am) (bs:aH):Prop where
 lb:bs.length=m.rows.length
 hb:∀ j,j<m.rows.length->bs.getD j 0+1<(m.rows.getD j []).length
theorem Pt.Qh (h:Pt m rs p) {B:aH} (b:MT m B):MT p (Je B rs):=by
 refine ⟨by rw [h.len,Ea],λ j H=>?_⟩;rw [h.len] at H;rw [h.row H,tJ H];exact b.hb _ (h.ro.lt _ (gy H))
theorem MT.pos {B:aH} (b:MT m B) (w:m.Wf) {d:Nat} (h:d<=1):∀ x∈dF m B d,0<x.2:=λ x H=>(oI w b.lb b.hb h x H).p
theorem Pt.warm (h:Pt m rs p) {a:aH} (b:MT m a) {d:Nat} (e:d<=1) {w:bZ} (hw:0<w.2) {f:Bool} (c:k<rs.length):mj p k (dF p (Je a rs) d) w f=mj m (rs.getD k 0) (dF m a d) w f:=by
 have B:=h.Qh b;have l:(dF p (Je a rs) d).length=p.rows.length:=by unfold dF;rw [Ea,aaA,B.lb]
 have L:(dF m a d).length=m.rows.length:=by unfold dF;rw [Ea,aaA,b.lb]
 obtain ⟨o,E⟩:=oO h.wp h.p4 l (B.pos h.wp e) hw;obtain ⟨q,g⟩:=oO h.wf h.h4 L (b.pos h.wf e) hw;refine UC o q (E.trans (Eq.trans ?_ g.symm));unfold MN;rw [h.len,h.KH c,(h.mX c).2,K3 (F:=λ j=>qv (m.share (rs.getD k 0) j) * qv ((dF m a d).getD j (0,1))) h.ro.nd h.ro.lt λ i H n=>by rw [(h.Og (gy c) H n).2];grind,sR (F:=λ j=>qv (p.share k j) * qv ((dF p (Je a rs) d).getD j (0,1))) λ i H=>?_];have H:=aaK.mp H;rw [h.share c H,vn (by rw [B.lb,h.len];exact H),vn (by rw [b.lb];exact h.ro.lt _ (gy H)),h.row H,tJ H,kJ]
theorem Pt.spread (h:Pt m rs p) {B:aH} (b:MT m B) {f:Bool} (H:k<rs.length):bj p k (Je B rs) f=bj m (rs.getD k 0) B f:=by
 have a:rs.getD k 0<m.bf.length:=by rw [h.sk];exact h.ro.lt _ (gy H)
 have e:jc m (rs.getD k 0)=m.bf[rs.getD k 0]:=by unfold jc;rw [UY a];rfl
 have w:=h.wf.bf _ (aaH a);rw [<- e] at w;unfold bj jF jG;rw [h.row H,(h.mX H).1,h.warm b (by decide) w.2.1.p H,h.warm b (by decide) w.2.2.p H]
end
def uv (x:Nat) (r:aH):Nat:=Ord.setOf r.length λ j=>x.testBit (r.getD j 0)
theorem ic {x k:Nat} {r:aH}:(uv x r).testBit k=(decide (k<r.length) && x.testBit (r.getD k 0)):=Ord.cI _ _ _
theorem eY {x k:Nat} {r:aH} (h:k<r.length):(uv x r).testBit k=x.testBit (r.getD k 0):=by rw [ic,aaS h,adc]
theorem I0 {a:Type} {r:aH} {F G:Nat->a} (h:∀ k,k<r.length->F (r.getD k 0)=G k):r.map F=(List.range r.length).map G:=by
 have e:((List.range r.length).map (λ k=>r.getD k 0)).map F=(List.range r.length).map G:=by
   rw [ac5];exact agW λ k H=>h k (aaK.mp H)
 rwa [Ew] at e
theorem HZ {x:Nat} {r:aH} (h:r.length<=61):(Bit.rooms (uv x r)).map (λ k=>r.getD k 0)=r.filter x.testBit:=by
 unfold uv;rw [Ord.sr _ h];have e:=List.filter_map (p:=x.testBit) (f:=λ k=>r.getD k 0) (l:=List.range r.length);rw [Ew] at e;exact e.symm
theorem yG {x:Nat} {R:aH} (n:R.Nodup) (l:∀ r∈R,r<4) (h:R.length<=61):(Bit.rooms (uv x R)).length<=(Bit.rooms x).length:=by
 have e:=acJ List.length (HZ (x:=x) h);rw [Ea] at e;rw [e];refine lC _ _ (n.filter _) λ r H=>?_;obtain ⟨a,b⟩:=abT.mp H;have:=l r a;exact Bit.eD.mpr ⟨by lia,b⟩
def DN (m:am):Prop:=∀ i,m.wd i=0
theorem DN.gY {m:am} (h:DN m) (b:Nat):m.gY b=0:=by
 unfold am.gY;generalize Bit.rooms (b &&& m.ws)=l;induction l with
 | nil=>rfl
 | cons x l i=>rw [ab8,agv,i,h x];rfl
section
variable {m p:am} {rs:aH} {k o out:Nat} {s:ck}
theorem Pt.l4 (h:Pt m rs p):rs.length<=4:=by have:=h.p4;rwa [h.len] at this
theorem Pt.r4 (h:Pt m rs p) {r:Nat} (H:r∈rs):r<4:=aa6 (h.ro.lt r H) h.h4
theorem Pt.yB (h:Pt m rs p) (x:Nat):uv x rs<16:=Ord.yC h.l4 (Ord.qE _ _)
theorem Pt.stays (h:Pt m rs p) (H:k<rs.length):p.dI k=m.dI (rs.getD k 0)/\p.fails k=m.fails (rs.getD k 0)/\p.has k=m.has (rs.getD k 0)/\p.wd k=m.wd (rs.getD k 0):=by
 unfold am.dI am.fails am.has am.wd;rw [h.eT H];exact ⟨rfl,rfl,rfl,rfl⟩
theorem Pt.NF (h:Pt m rs p) (s:p.aI.length=p.rows.length) (d:DN m):DN p:=λ k=>by
 by_cases H:k<rs.length
 . rw [(h.stays H).2.2.2];exact d _
 . unfold am.wd am.eT;rw [ace (by rw [s,h.len];lia)];rfl
theorem v9 {l:aH} (h:k<rs.length):gN (rs.map (gN l)) k=gN l (rs.getD k 0):=by rw [kJ,tJ h]
theorem Pt.may (h:Pt m rs p):(eL s rs).may p (uv o rs)=uv (s.may m o) rs:=by
 refine ab7 λ k=>?_;unfold ck.may;rw [ic,Ord.cI,Ord.cI,h.len];by_cases H:k<rs.length
 .
  have e:(eL s rs).bG.testBit k=s.bG.testBit (rs.getD k 0):=eY H;have f:gN (eL s rs).failed k=gN s.failed (rs.getD k 0):=v9 H;rw [aaS (h.ro.lt _ (gy H)),eY H,e,f,(h.stays H).2.1];rfl
 . rw [aaR H];rfl
theorem zm (h:Pt m rs p) (l:o<16) (E:out<16):uv (Ord.off o out) rs=Ord.off (uv o rs) (uv out rs):=by
 refine ab7 λ k=>?_;rw [ic,Ord.i7 (h.yB o) (h.yB out),ic,ic,Ord.i7 l E];by_cases H:k<rs.length
 . rw [aaS H];rfl
 . rw [aaR H];rfl
theorem Pt.behind (h:Pt m rs p) (S:p.aI.length=p.rows.length) (d:DN m) (l:o<16) (E:out<16) (c:aH):eL (s.behind m c o out) rs=(eL s rs).behind p (Je c rs) (uv o rs) (uv out rs):=by
 have b:∀ {k},k<rs.length->(Ord.off (uv o rs) (uv out rs)).testBit k=(Ord.off o out).testBit (rs.getD k 0):=λ H=>by rw [<- zm h l E,eY H]
 refine (ck.mk.injEq _ _ _ _ _ _ _ _ _ _).mpr ⟨rfl,zm h l E,?_,?_,?_⟩
 .
  rw [h.len];refine I0 λ k H=>?_;show gN ((List.range m.rows.length).map (s.jj m (Ord.off o out))) _=_;rw [nY (h.ro.lt _ (gy H))];unfold ck.jj;rw [b H,(h.stays H).1];have e:(eL s rs).bG.testBit k=s.bG.testBit (rs.getD k 0):=eY H;have f:gN (eL s rs).dE k=gN s.dE (rs.getD k 0):=v9 H;rw [e,f]
 .
  rw [h.len];refine I0 λ k H=>?_;show gN ((List.range m.rows.length).map (s.j5 (Ord.off o out) out)) _=_;rw [nY (h.ro.lt _ (gy H))];unfold ck.j5;have f:gN (eL s rs).failed k=gN s.failed (rs.getD k 0):=v9 H;rw [b H,eY H,f]
 .
  show (s.mP m (Ord.off o out)).toNat=_;unfold ck.mP;rw [d.gY,(h.NF S d).gY,h.on.eO,h.on.load];rfl
theorem Pt.IA (h:Pt m rs p) (S:cY m s):cY p (eL s rs):=by
 have B:=h.Qh ⟨S.lb,λ j a=>S.band j a⟩;refine ⟨B.lb,?_,?_,?_,?_,?_,λ i H=>B.hb i H,λ i H=>?_⟩
 . rw [h.len];exact Ea _
 . rw [h.len];exact Ea _
 . rw [h.len];exact Ord.qE _ _
 .
  rw [h.on.most];have:=yG (x:=s.bG) h.ro.nd (λ r b=>h.r4 b) (aaX h.l4 (by decide));have:=S.most;show ((Bit.rooms (uv s.bG rs)).length:Int)<=_;lia
 . rw [h.on.eO];exact S.heap
 .
  rw [h.len] at H;have e:(eL s rs).bG.testBit i=s.bG.testBit (rs.getD i 0):=eY H;have f:gN (eL s rs).failed i=gN s.failed (rs.getD i 0):=v9 H;have g:gN (eL s rs).dE i=gN s.dE (rs.getD i 0):=v9 H;rw [e,f,g,h.eT H];exact S.bE _ (h.ro.lt _ (gy H))
theorem fF (h:m.rows.length<=4):o∈s.orders m↔(o<16/\o &&& m.ws=o)/\o &&& s.held=s.bG &&& s.held/\((Bit.rooms o).length:Int)<=m.most/\m.gY o<=s.heap:=by
 unfold ck.orders ck.Hc am.J6;rw [Ord.u9 _ (rR h),abT,abT,aaK];simp only [abX,acG]
theorem Pt.order (h:Pt m rs p) (i:p.aI.length=p.rows.length) (d:DN m) (S:cY m s) (c:o∈s.orders m):uv o rs∈(eL s rs).orders p:=by
 obtain ⟨⟨l,O⟩,f,j,Z⟩:=(fF h.h4).mp c;refine (fF h.p4).mpr ⟨⟨h.yB o,?_⟩,?_,?_,?_⟩
 .
  unfold am.ws at O |-;refine ab7 λ k=>?_;rw [abS,Ord.cI,ic,h.len];by_cases a:k<rs.length
  .
   have e:=acJ (λ x=>Nat.testBit x (rs.getD k 0)) O;simp only [abS,Ord.cI] at e;rw [aaS (h.ro.lt _ (gy a))] at e;rw [aaS a,(h.stays a).2.2.1,adc];exact e
  . rw [aaR a];rfl
 .
  refine Ord.lE.mpr λ r H b=>?_;have H:r<rs.length:=by rwa [show (eL s rs).dE.length=rs.length from Ea _] at H
  have e:(eL s rs).bG.testBit r=s.bG.testBit (rs.getD r 0):=eY H;have g:gN (eL s rs).dE r=gN s.dE (rs.getD r 0):=v9 H;unfold ck.wt at b;rw [g] at b;rw [eY H,e];exact Ord.lE.mp f _ (by rw [S.lw];exact h.ro.lt _ (gy H)) b
 . rw [h.on.most];have:=yG (x:=o) h.ro.nd (λ r H=>h.r4 H) (aaX h.l4 (by decide));lia
 . rw [(h.NF i d).gY];exact ac4 _
theorem oZ (h:m.rows.length<=4) (d:DN m) (S:cY m s):s.orders m≠[]:=by
 have:(s.bG &&& s.held)∈s.orders m:=by
   refine (fF h).mpr ⟨⟨abe Nat.and_le_left (Ord.yC h S.bG),?_⟩,?_,?_,?_⟩
   .
    refine ab7 λ k=>?_;unfold am.ws;rw [abS,abS,Ord.cI];cases e:s.bG.testBit k with
    | false=>rfl
    | true =>
      have H:k<m.rows.length:=by
        by_cases z:k<m.rows.length
        . exact z
        . rw [Bit.iP S.bG (by lia)] at e;cases e
      have f:=S.bE k H;rw [aaS H];unfold am.has;cases z:m.eT k with
      | some z=>simp
      | none =>
        rw [z,e] at f;cases f.1
   . rw [Nat.and_assoc,Nat.and_self]
   . have:=(Ord.vC (λ Z=>adr _) (a:=s.bG &&& s.held) (b:=s.bG) λ x c=>by simp_all).1;have:=S.most;lia
   . rw [d.gY];exact ac4 _
 intro e;rw [e] at this;exact absurd this aaj
end
theorem HD {r:List bZ} (h:jJ r=true) (a:∀ f∈r,0<f.2) {i:Nat} (H:i+1<r.length):qv (r.getD i (0,1))<=qv (r.getD (i+1) (0,1)):=by
 have b:i<(List.zipWith bW r r.tail).length:=by grind
 have q:=acj.mp h _ (aaH b);rw [List.getElem_zipWith,List.getElem_tail] at q;rw [YQ,YQ,UY H,UY (Nat.lt_of_succ_lt H)];exact afT ((rh (a _ (aaH _)) (a _ (aaH _))).mp q)
theorem lJ {x y:bZ} (H:0<x.2) (a:0<y.2):(!bW x y)=true↔qv y<=qv x:=by
 constructor
 .
  intro h;rcases agG with z|z
  . exact z
  .
   by_cases e:qv x=qv y
   . rw [e];exact Rat.le_refl
   . have:qv x<qv y:=by grind
     rw [(rh H a).mpr this] at h;cases h
 . intro h;rw [wJ H a h];rfl
theorem JG {r:List bZ} {f g:bZ} (h:2<=r.length) (n:∀ x∈r,0<x.2) (p:0<f.2) (c:0<g.2) (L:qv f<=qv g) (w:lT r f g=true):kQ r f g≠[]:=by
 have a:∀ {i},i<r.length->0<(r.getD i (0,1)).2:=λ {i} H=>by
   rw [YQ,UY H];exact n _ (aaH H)
 obtain ⟨W,d⟩:=ad5.mp w;have W:=(lJ p (a (by lia))).mp W;have d:=(lJ (a (by lia)) c).mp d;have m:∀ b,b+1<r.length->qv (r.getD b (0,1))<=qv g->qv f<=qv (r.getD (b+1) (0,1))->kQ r f g≠[]:=λ b l k h e=>by
   have:b∈kQ r f g:=by
     refine abT.mpr ⟨aaK.mpr (by lia),?_⟩;unfold qy;rw [(lJ c (a (by lia))).mpr k,(lJ (a l) p).mpr h];rfl
   rw [e] at this;exact absurd this aaj
 have G:∀ j,j+2<=r.length->kQ r f g≠[]\/qv (r.getD j (0,1))<=qv g:=λ j=>by
   induction j with
   | zero=>exact λ Z => .inr (by grind)
   | succ j I =>
     grind
 rcases G (r.length - 2) (by lia) with z|z
 . exact z
 . grind
section
variable {m:am} {i:Nat} {bs:aH} {f:Bool}
theorem QH.QK (h:QH m) (w:m.Wf) (a:m.rows.length<=4) (H:i<m.rows.length) (j:Nat):0<=qv (m.share i j):=by
 unfold am.share;split
 .
  rw [wE w];have s:=u7 h i i m.rows.length;rw [abp H] at s;have c:=Ap (SA ⟨m.rows.length,by lia⟩ ⟨i,by lia⟩ H);have z:qv (m.cG i i)=0:=by rw [h.self];unfold qv;grind
  have k:=(h.mX i).2
  grind
 . exact (h.cG i j).1
theorem Mw (w:m.Wf) (H:m.rows.length<=4) (S:m.bf.length=m.rows.length) (q:QH m) (k:iB 7 m) (b:MT m bs) (c:i<m.rows.length):0<(jF m i bs f).2/\0<(jG m i bs f).2/\qv (jF m i bs f)<=qv (jG m i bs f):=by
 have a:i<m.bf.length:=by rw [S];exact c
 have o:jc m i=m.bf[i]:=by unfold jc;rw [UY a];rfl
 have W:=w.bf _ (aaH a);have u:=k.mX _ (aaH a);rw [<- o] at W u;have u:=(lJ W.2.2.p W.2.1.p).mp (by rw [u];rfl);have l:∀ d,(dF m bs d).length=m.rows.length:=λ d=>by unfold dF;rw [Ea,aaA,b.lb]
 obtain ⟨e,E⟩:=oO (i:=i) (f:=f) w H (l 0) (b.pos w (by decide)) W.2.1.p;obtain ⟨g,n⟩:=oO (i:=i) (f:=f) w H (l 1) (b.pos w (by decide)) W.2.2.p;have Q:qv (jF m i bs f)=_:=(yu e).trans E;have s:qv (jG m i bs f)=_:=(yu g).trans n;refine ⟨(jf e).pos,(jf g).pos,?_⟩;rw [Q,s];unfold MN;have v:=Jb (F:=λ j=>qv (m.share i j) * qv ((dF m bs 0).getD j (0,1))) (G:=λ j=>qv (m.share i j) * qv ((dF m bs 1).getD j (0,1))) (l:=List.range m.rows.length) λ j h=>by
   have h:=aaK.mp h;refine afY ?_ (q.QK w H c j);rw [vn (by rw [b.lb];exact h),vn (by rw [b.lb];exact h)];have M:m.rows.getD j []∈m.rows:=by simp_all
   exact HD (k.rise _ M).1 (λ x r=>(w.rows _ M x r).p) (b.hb j h)
 have t:=afY u (q.mX i).1
 grind
theorem QA (w:m.Wf) (H:m.rows.length<=4) (s:m.bf.length=m.rows.length) (q:QH m) (g:iB 7 m) (b:MT m bs) (a:i<m.rows.length) (h:(bj m i bs f).isSome=true):(bj m i bs f).getD []≠[]:=by
 obtain ⟨d,e,l⟩:=Mw w H s q g b a;have M:m.rows.getD i []∈m.rows:=by simp_all
 unfold bj at h |-;split at h
 . rename_i z
   rw [abp z];exact JG (w.len _ M).1 (λ x c=>(w.rows _ M x c).p) d e l z
 . cases h
end
def Gd (m:am) (s:ck) (o i:Nat):Prop:=(bj m i s.bR (o.testBit i)).isSome=true/\((s.may m o).testBit i=true->(bj m i s.bR false).isSome=true)
def ZR (m:am) (s:ck) (o i:Nat):Nat:=Pg m s.bR i (o.testBit i)+if (s.may m o).testBit i=true then Pg m s.bR i false else 0
theorem lL {m:am} {s:ck} {o:Nat} (a:m.rows.length<=4) (l:o<16):(∀ O∈c7 m s o,iF m s (Ord.off o O)=true)↔∀ i,i<m.rows.length->Gd m s o i:=by
 have S:∀ {b},iF m s b=true↔∀ i,i<m.rows.length->(bj m i s.bR (b.testBit i)).isSome=true:=λ {b}=>by
   unfold iF;rw [acj];exact ⟨λ h i H=>h i (aaK.mpr H),λ h i H=>h i (aaK.mp H)⟩
 constructor
 .
  intro h i H;have d:i<4:=by lia
  refine ⟨?_,λ c=>?_⟩
  . have:=S.mp (h 0 ((j0 a).mpr ⟨by decide,Nat.zero_and _⟩)) i H;rw [Ord.i7 l (by decide),aeP,afv,afa] at this;exact this
  .
   have p:2 ^ i<16:=Nat.pow_lt_pow_right (by decide) d;have:=S.mp (h (2 ^ i) ((j0 a).mpr ⟨p,ab7 λ k=>by
     rw [abS,agU];by_cases e:i=k
     . subst e;rw [c,afa]
     . rw [aaR e];rfl⟩)) i H
   rw [Ord.i7 l p,Nat.testBit_two_pow_self,afI,aes] at this;exact this
 .
  intro h O f;obtain ⟨E,u⟩:=(j0 a).mp f;refine S.mpr λ i H=>?_;rw [Ord.i7 l E];cases e:O.testBit i with
  | false=>rw [afv,afa];exact (h i H).1
  | true =>
    rw [afI,aes];refine (h i H).2 ?_;have:=acJ (λ x=>Nat.testBit x i) u;simp only [abS,e,adc] at this;exact this
section
variable {m p:am} {rs:aH} {k o out:Nat} {s:ck}
theorem cY.Qh (S:cY m s):MT m s.bR:=⟨S.lb,λ j h=>S.band j h⟩
theorem Pt.gd (h:Pt m rs p) (S:cY m s) (H:k<rs.length):(Gd p (eL s rs) (uv o rs) k↔Gd m s o (rs.getD k 0))/\ZR p (eL s rs) (uv o rs) k=ZR m s o (rs.getD k 0):=by
 have e:∀ f,bj p k (eL s rs).bR f=bj m (rs.getD k 0) s.bR f:=λ f=>h.spread S.Qh H;unfold Gd ZR Pg;rw [e,e,h.may,eY H,eY H];exact ⟨Iff.rfl,rfl⟩
theorem Pt.safe (h:Pt m rs p) (S:cY m s) (l:o<16):(∀ out∈c7 p (eL s rs) (uv o rs),iF p (eL s rs) (Ord.off (uv o rs) out)=true)↔∀ r∈rs,Gd m s o r:=by
 rw [lL h.p4 (h.yB o),h.len];constructor
 .
  intro q r a;obtain ⟨k,H,rfl⟩:=acP.mp a;have:=(h.gd S H).1.mp (q k H);rw [YQ,UY H] at this;exact this
 . intro q k H;exact (h.gd S H).1.mpr (q _ (gy H))
theorem zg {x:Nat} (h:x∈rs):rs.idxOf x<rs.length/\rs.getD (rs.idxOf x) 0=x:=by
 have l:=List.idxOf_lt_length_of_mem h;refine ⟨l,?_⟩;rw [YQ,UY l];exact List.getElem_idxOf l
theorem Pt.idx (h:Pt m rs p) (H:k<rs.length):rs.idxOf (rs.getD k 0)=k:=by
 obtain ⟨a,b⟩:=zg (gy H);exact h.inj a H b
theorem Pt.set (h:Pt m rs p) (A:p.aI.length=p.rows.length) (d:DN m) (S:cY m s) (L:o<16) (N:∀ i,i<m.rows.length->Gd m s o i) (x:ck):(∃ y∈qb m s o,eL y rs=x)↔x∈qb p (eL s rs) (uv o rs):=by
 have e:∀ {k} f,k<rs.length->bj p k (eL s rs).bR f=bj m (rs.getD k 0) s.bR f:=λ f H=>h.spread S.Qh H;constructor
 .
  rintro ⟨y,J,rfl⟩;obtain ⟨out,t,c,lc,q,rfl⟩:=uZ.mp J;obtain ⟨E,U⟩:=(j0 h.h4).mp t;refine uZ.mpr ⟨uv out rs,(j0 h.p4).mpr ⟨h.yB _,?_⟩,Je c rs,?_,λ k H=>?_,h.behind A d L E c⟩
  .
   rw [h.may];refine ab7 λ k=>?_;rw [abS,ic,ic];have:=acJ (λ x=>Nat.testBit x (rs.getD k 0)) U;simp only [abS] at this;by_cases H:k<rs.length
   . rw [aaS H,adc,adc];exact this
   . rw [aaR H];rfl
  . rw [h.len];exact Ea _
  . rw [h.len] at H;rw [e _ H,tJ H,<- zm h L E,eY H,kJ];exact q _ (h.ro.lt _ (gy H))
 .
  intro I;obtain ⟨D,t,n,lc,q,rfl⟩:=uZ.mp I;obtain ⟨v,V⟩:=(j0 h.p4).mp t;rw [h.len] at lc q;rw [h.may] at V;have F:∀ {k},D.testBit k=true->k<rs.length/\(s.may m o).testBit (rs.getD k 0)=true:=λ {k} H=>by
    have:=acJ (λ x=>Nat.testBit x k) V;simp only [abS,ic,H,adc,abX,acG] at this;exact this
  let out:=Ord.setOf m.rows.length λ i=>decide (i∈rs) && D.testBit (rs.idxOf i)
  have B:∀ {i},i<m.rows.length->out.testBit i=(decide (i∈rs) && D.testBit (rs.idxOf i)):=λ {i} j=>by
    show (Ord.setOf _ _).testBit i=_;rw [Ord.cI,aaS j,adc]
  have E:out<16:=Ord.yC h.h4 (Ord.qE _ _);have M:uv out rs=D:=ab7 λ k=>by
    rw [ic];by_cases H:k<rs.length
    . rw [aaS H,adc,B (h.ro.lt _ (gy H)),aaS (gy H),adc,h.idx H]
    . rw [aaR H];cases z:D.testBit k with
      | false=>rfl
      | true=>exact absurd (F z).1 H
  let c:=(List.range m.rows.length).map λ i=>if i∈rs then n.getD (rs.idxOf i) 0 else ((bj m i s.bR (o.testBit i)).getD []).headD 0
  have w:∀ {i},i<m.rows.length->gN c i=if i∈rs then n.getD (rs.idxOf i) 0 else ((bj m i s.bR (o.testBit i)).getD []).headD 0:=λ j=>nY j;have K:Je c rs=n:=by
    refine aeS (by rw [Ea,lc]) λ k r G=>?_;have H:k<rs.length:=by rw [Ea] at r;exact r
    have:=tJ (d:=0) (g:=gN c) H;rw [YQ,UY r] at this;refine this.trans ?_;rw [w (h.ro.lt _ (gy H)),abp (gy H),h.idx H,YQ,UY G];rfl
  refine ⟨s.behind m c o out,uZ.mpr ⟨out,(j0 h.h4).mpr ⟨E,ab7 λ i=>?_⟩,c,by rw [Ea,aaA],λ i j=>?_,rfl⟩,?_⟩
  .
   rw [abS];cases z:out.testBit i with
   | false=>rfl
   | true =>
     have u:=(Ord.cI _ _ _).symm.trans z;simp only [abX,acG] at u;have:=(F u.2.2).2;rw [(zg u.2.1).2] at this;rw [this];rfl
  .
   rw [<- kJ,w j,Ord.i7 L E,B j];by_cases C:i∈rs
   . obtain ⟨a,b⟩:=zg C;rw [abp C,aaS C,adc];have:=q _ a;rw [e _ a,b,Ord.i7 (h.yB o) v,eY a,b] at this;exact this
   . rw [abC C,aaR C,aeK,afv,afa];have:=QA h.wf h.h4 h.sk h.qh h.pk S.Qh j (N i j).1;cases z:(bj m i s.bR (o.testBit i)).getD [] with
     | nil=>exact absurd z this
     | cons x l=>exact aaZ
  . rw [h.behind A d L E,M,K]
end
theorem HI:∀ (a b c d e f:Bool) (n:Fin 5),((mD ⟨a,b,c,d,e,f⟩ n).flatten.isPerm (List.range n) && (mD ⟨a,b,c,d,e,f⟩ n).all λ R => !(R.any λ r=>(ib n R).any λ o=>RJ ⟨a,b,c,d,e,f⟩ r o))=true:=by decide +kernel
structure Parts (m:am) (ps:List (aH)):Prop where
 perm:ps.flatten.Perm (List.range m.rows.length)
 cr:∀ rs∈ps,wN m rs=false
theorem Parts.rs {m:am} {p:List (aH)} (h:Parts m p) {rs:aH} (H:rs∈p):Rs m rs:=by
 refine ⟨λ r q=>aaK.mp (h.perm.mem_iff.mp (aeR.mpr ⟨rs,H,q⟩)),?_⟩;have:=h.perm.nodup_iff.mpr aeQ;exact (List.pairwise_flatten.mp this).1 rs H
theorem we {m:am} (H:m.rows.length<=4):Parts m (mD (g6 (iz m)) m.rows.length):=by
 obtain ⟨a,b⟩:=ad5.mp (HI (g6 (iz m)).a (g6 (iz m)).b (g6 (iz m)).c (g6 (iz m)).d (g6 (iz m)).e (g6 (iz m)).f ⟨m.rows.length,by lia⟩);have p:=List.isPerm_iff.mp a;refine ⟨p,λ R k=>?_⟩;have b:=acj.mp b R k;refine Bool.eq_false_iff.mpr λ c=>?_;obtain ⟨r,F,c⟩:=adF.mp c;obtain ⟨o,g,c⟩:=adF.mp c;obtain ⟨h,I⟩:=abT.mp g;have I:=by simpa using I
 have e:=Ji (r:=iz m) (λ i j=>Bool.or_comm ..) (aa6 (aaK.mp (p.mem_iff.mp (aeR.mpr ⟨R,k,F⟩))) H) (aa6 (aaK.mp h) H) (λ z=>I (z ▸ F));rw [<- e] at c;have:(R.any λ r=>(ib m.rows.length R).any λ o=>RJ (g6 (iz m)) r o)=true:=adF.mpr ⟨r,F,adF.mpr ⟨o,g,c⟩⟩;have b:=b;rw [this] at b;cases b
structure gQ (m:am) (p:Nat) (m':am):Prop where
 most:m'.most=m.most
 eO:m'.eO=m.eO
 rows:m'.rows=m.rows
 st:∀ i,m'.eT i=if i<p then (m.eT i).map (λ z=>(z.1,(0:Int),z.2.2.1,z.2.2.2)) else m.eT i
section
variable {m m':am} {p:Nat}
theorem gQ.zero:gQ m 0 m:=⟨rfl,rfl,rfl,λ Z=>(abC (acl _)).symm⟩
theorem gQ.skip (h:gQ m p m') (e:m'.eT p=none):gQ m (p+1) m':=by
 refine ⟨h.most,h.eO,h.rows,λ i=>?_⟩;have:=h.st i;by_cases c:i<p
 . rw [abp c] at this;rw [abp (aeI c)];exact this
 . grind
theorem gQ.put (h:gQ m p m') (H:p<m'.aI.length) {z:bZ×Int×Int×Int} (e:m'.eT p=some z):gQ m (p+1) (m'.bD p (z.1,0,z.2.2.1,z.2.2.2)):=by
 refine ⟨h.most,h.eO,h.rows,λ i=>?_⟩;have:=h.st i;have E:(m'.bD p (z.1,0,z.2.2.1,z.2.2.2)).eT i=if i=p then some (z.1,0,z.2.2.1,z.2.2.2) else m'.eT i:=by
   unfold am.eT;show ((m'.aI.set p _)[i]?).getD none=_;by_cases q:i=p
   . simp_all
   . rw [abC q,adt (λ y=>q y.symm)]
 rw [E];by_cases q:i=p
 . subst q;rw [abC (adB _)] at this;rw [abp rfl,abp (afd _),<- this,e];rfl
 .
  rw [abC q,this];by_cases c:i<p
  . rw [abp c,abp (by lia)]
  . rw [abC c,abC (by lia)]
theorem gQ.NF (h:gQ m m.rows.length m') (st:m.aI.length=m.rows.length):DN m':=λ i=>by
 unfold am.wd;rw [h.st];split
 . cases m.eT i<;>rfl
 . unfold am.eT;rw [ace (by lia)];rfl
theorem gQ.IA (h:gQ m p m') {s:ck} (S:cY m s):cY m' s:=by
 refine ⟨by rw [h.rows];exact S.lb,by rw [h.rows];exact S.lw,by rw [h.rows];exact S.lf,by rw [h.rows];exact S.bG,by rw [h.most];exact S.most,by rw [h.eO];exact S.heap,by rw [h.rows];exact S.band,λ i H=>?_⟩;rw [h.rows] at H;have:=S.bE i H;rw [h.st];split
 . cases e:m.eT i with
   | none=>rw [e] at this;exact this
   | some z=>rw [e] at this;exact this
 . exact this
end
section
variable (K:aF) (C:ak)
inductive JY  (vs:aB) (H:Hp) (Q:VK) (_E:XK):Prop
 | mk (a fp m pr xs B:_) (_:vs=[.ref a,.ref pr]) (_:aE B H) (_:B pr=some (.lst xs)) (_:xs.length=m.rows.length) (_:aN K C H a fp m) (_:(∀ c∈fp,B c=none)) (_:QH m) (_:lG m) (_:∀ H' pI m',aE B H'->aN K C H' a pI m'->(∀ c∈pI,B c=none)->QH m'->lG m'->gQ m m.rows.length m'->Q .cN H')
end
section
variable {m p:am} {rs:aH}
theorem Pt.gm (h:Pt m rs p) (s:p.aI.length=p.rows.length) (K:p.bf.length=p.rows.length):C5 p:=by
 refine F6 h.wp h.p4 K (λ x b=>?_) ?_
 .
  obtain ⟨k,H⟩:=aej.mp b;have a:=by
    have:=(SV.mp H).1;rw [s,h.len] at this;exact this
  have e:=h.on.st k a;rw [H,abp a] at e;have e:=abb e;unfold iY at e;cases z:m.aI[rs.getD k 0]? with
  | none=>rw [z] at e;cases e
  | some y =>
    rw [z] at e;have e:some x=y:=e;rw [<- e] at z;exact h.pk.bE x (aae z)
 .
  have:=h.pk.FV;unfold am.UV at this |-;rw [h.on.most,h.on.eO,h.on.load];exact this
end
structure GsM where
 bR:List Int
 bG:Nat
 dE:List Int
 failed:List Int
 heap:Int
noncomputable def ofN (l:aH):List Int:=l.map Int.ofNat
def GsM.of (s:ck):GsM:=⟨ofN s.bR,s.bG,ofN s.dE,ofN s.failed,s.heap⟩
noncomputable def am.nb (m:am) (i:Nat):Int:=((m.rows.getD i []).length:Int) - 1
noncomputable def Zy (o:Option Yn):Option (Int×Int):=o.map λ z=>(z.2.2.1,z.2.2.2)
def am.sv (m:am) (i:Nat):Option (Int×Int):=Zy (m.eT i)
def ck.at (s:ck) (h:Nat):ck:={ s with heap:=h }
theorem iI.uniq {m:am} {s:ck} {a b:Option Nat} (h:iI m s a) (k:iI m s b):a=b:=by
 rcases h.le k λ Z z=>z with e|⟨x,y,c,d,L⟩<;>rcases k.le h λ Z z=>z with E|⟨X,Y,V,N,l⟩
 . rw [e,E]
 . rw [e] at V;cases V
 . rw [E] at c;cases c
 . grind
section
variable (K:aF) (C:ak)
inductive My  (vs:aB) (H:Hp) (Q:VK) (_E:XK):Prop
 | mk (a fp m p rs:_) (_:vs=[.ref a,.ref p]) (_:aN K C H a fp m) (_:aW K H p (rs.map aq)) (_:Rs m rs) (_:wN m rs=false) (_:∀ H',aE H H'->Q .cN H')
inductive K7  (vs:aB) (H:Hp) (Q:VK) (_E:XK):Prop
 | mk (a fp m p rs:_) (_:vs=[.ref a,.ref p]) (_:aN K C H a fp m) (_:QH m) (_:iB 7 m) (_:(rs.length<=1\/∀ r∈m.rows,r.length<=5)) (_:aW K H p (rs.map aq)) (_:Rs m rs) (_:wN m rs=false) (_:∀ b pI o H',aE H H'->aN K C H' b pI o->(∀ c∈pI,H c=none)->QH o->oB m rs rs.length o->Q (.ref b) H')
end
section
variable {m p:am} {rs:aH} {s:ck} {o:Nat}
theorem K0 (h:¬ ∀ O∈c7 m s o,iF m s (Ord.off o O)=true):kC m s o=none:=by
 unfold kC;rw [abC λ z=>h (acj.mp z)]
structure Pw (m:am) (rs:aH) (p:am):Prop where
 pt:Pt m rs p
 sp:p.aI.length=p.rows.length
 kp:p.bf.length=p.rows.length
theorem Pw.ill (h:Pw m rs p) (d:DN m) (g:C5 m):∀ (k:Nat) (s:ck),cY m s->kz p k (eL s rs)->kz m k s
 | 0,s,S,q=>absurd q (oZ h.pt.p4 (h.pt.NF h.sp d) (h.pt.IA S))
 | k+1,s,S,q=>λ o H=>by
   have L:=((fF h.pt.h4).mp H).1.1;rcases Classical.em (∀ i,i<m.rows.length->Gd m s o i) with a|n
   .
    have E:=jY ((h.pt.safe S L).mpr λ r c=>a r (h.pt.ro.lt r c));rcases q _ (h.pt.order h.sp d S H) with z|⟨l,e,t,f,I⟩
    . rw [E] at z;cases z
    . rw [E] at e;cases e;obtain ⟨y,b,rfl⟩:=(h.pt.set h.sp d S L a t).mpr f;exact .inr ⟨_,jY ((lL h.pt.h4 L).mpr a),y,b,Pw.ill h d g k y (g.nx s o y S H b) I⟩
   . exact .inl (K0 λ z=>n ((lL h.pt.h4 L).mp z))
theorem BV {i:Nat} {q:aH}:∀ {p:List (aH)},p.flatten.Nodup->rs∈p->q∈p->i∈rs->i∈q->rs=q
 | [],_,h,_,_,_=>absurd h aaj
 | l::p,n,d,e,H,c=>by
   rw [List.flatten_cons,adL] at n;rcases aay.mp d with a|a<;>rcases aay.mp e with b|b
   . rw [a,b]
   . exact absurd rfl (n.2.2 i (a ▸ H) i (aeR.mpr ⟨_,b,c⟩))
   . exact absurd rfl (n.2.2 i (b ▸ c) i (aeR.mpr ⟨_,a,H⟩))
   . exact BV n.2.1 a b H c
theorem yL {r:List (aH)} (d:DN m) (J:((Bit.rooms m.ws).length:Int)<=m.most) (u:m.rows.length<=4) (g:C5 m) (F:Parts m r):∀ (k:Nat) (s:ck),cY m s->kz m k s->∃ rs∈r,∀ p,Pw m rs p->kz p k (eL s rs)
 | 0,s,w,q=>absurd q (oZ u d w)
 | k+1,s,w,q=>adj λ N=>by
   have st:∀ rs,∃ o:Nat,rs∈r->∃ p,Pw m rs p/\o∈(eL s rs).orders p/\(∀ D∈c7 p (eL s rs) o,iF p (eL s rs) (Ord.off o D)=true)/\∀ t∈qb p (eL s rs) o,¬kz p k t:=λ rs=>by
     by_cases H:rs∈r
     . obtain ⟨p,a,no⟩:∃ p,Pw m rs p/\¬kz p (k+1) (eL s rs):=adj λ z=>N ⟨rs,H,λ p a=>adj λ y=>z ⟨p,a,y⟩⟩;obtain ⟨o,n,no⟩:∃ o,o∈(eL s rs).orders p/\¬(kC p (eL s rs) o=none\/∃ l,kC p (eL s rs) o=some l/\∃ t∈l,kz p k t):=adj λ z=>no λ o n=>adj λ y=>z ⟨o,n,y⟩;have S:=adj λ z=>no (.inl (K0 z));exact ⟨o,λ Z=>⟨p,a,n,S,λ t B I=>no (.inr ⟨_,jY S,t,B,I⟩)⟩⟩
     . exact ⟨0,λ h=>absurd h H⟩
   obtain ⟨O,v⟩:=Classical.skolem.mp st
   let W:Nat->aH:=λ i=>(r.find? λ rs=>decide (i∈rs)).getD []
   have U:∀ rs∈r,∀ i∈rs,W i=rs:=λ rs H i c=>by
     show (r.find? λ rs=>decide (i∈rs)).getD []=rs;cases e:r.find? λ rs=>decide (i∈rs) with
     | none=>exact absurd (aaS c) (List.find?_eq_none.mp e rs H)
     | some V =>
       have:=aeH (p:=i∈V) (List.find?_some (p:=λ rs=>decide (i∈rs)) e);exact BV (F.perm.nodup_iff.mpr aeQ) (agh e) H this c
   let o:=Ord.setOf m.rows.length λ i=>(O (W i)).testBit ((W i).idxOf i)
   have L:o<16:=Ord.yC u (Ord.qE _ _);have C:∀ {rs},rs∈r->∀ {j},j<rs.length->o.testBit (rs.getD j 0)=(O rs).testBit j:=λ {rs} H {j} b=>by
     obtain ⟨p,a,Z⟩:=v rs H;show (Ord.setOf _ _).testBit _=_;rw [Ord.cI,aaS (a.pt.ro.lt _ (gy b)),adc,U rs H _ (gy b),a.pt.idx b]
   have M:∀ rs∈r,uv o rs=O rs:=λ rs H=>ab7 λ j=>by
     rw [ic];by_cases b:j<rs.length
     . rw [aaS b,adc,C H b]
     . rw [aaR b];obtain ⟨p,a,n,Z⟩:=v rs H;have e:=acJ (λ x=>Nat.testBit x j) ((fF a.pt.p4).mp n).1.2;unfold am.ws at e;simp only [abS,Ord.cI] at e;rw [a.pt.len,aaR b,aeK,aes] at e;exact e
   have E:∀ {i},i<m.rows.length->∃ rs∈r,∃ j,j<rs.length/\rs.getD j 0=i:=λ {i} c=>by
     obtain ⟨rs,H,h⟩:=aeR.mp (F.perm.mem_iff.mpr (aaK.mpr c));exact ⟨rs,H,_,zg h⟩
   have Q:o &&& m.ws=o:=ab7 λ i=>by
     unfold am.ws;rw [abS,Ord.cI m.rows.length m.has];by_cases c:i<m.rows.length
     .
      obtain ⟨rs,H,j,b,rfl⟩:=E c;obtain ⟨p,a,n,Z⟩:=v rs H;have e:=acJ (λ x=>Nat.testBit x j) ((fF a.pt.p4).mp n).1.2;unfold am.ws at e;simp only [abS,Ord.cI] at e;rw [a.pt.len,aaS b,(a.pt.stays b).2.2.1] at e;rw [aaS c,C H b];exact e
     . have:o.testBit i=false:=by
         show (Ord.setOf _ _).testBit i=_;rw [Ord.cI,aaR c,aeK]
       rw [this,aeK]
   have n:o∈s.orders m:=by
     refine (fF u).mpr ⟨⟨L,Q⟩,?_,?_,?_⟩
     .
      unfold ck.held;refine Ord.lE.mpr λ i c K=>?_;rw [w.lw] at c;obtain ⟨rs,H,j,b,rfl⟩:=E c;obtain ⟨p,a,n,Z⟩:=v rs H;have h:=((fF a.pt.p4).mp n).2.1;unfold ck.held at h;have f:gN (eL s rs).dE j=gN s.dE (rs.getD j 0):=v9 b;rw [C H b,<- (eY b)];refine Ord.lE.mp h j (by rw [show (eL s rs).dE.length=rs.length from Ea _];exact b) ?_;unfold ck.wt at K |-;rw [f];exact K
     . refine acV (agM.mpr (ad8 (List.Pairwise.filter _ aeQ) λ i c=>?_)) J;obtain ⟨T,G⟩:=Bit.eD.mp c;refine Bit.eD.mpr ⟨T,?_⟩;rw [<- Q,abS,abX] at G;exact G.2
     . rw [d.gY];exact ac4 _
   have S:∀ i,i<m.rows.length->Gd m s o i:=λ i c=>by
     obtain ⟨rs,H,j,b,rfl⟩:=E c;obtain ⟨p,a,Z,A,Z⟩:=v rs H;rw [<- M rs H] at A;exact (a.pt.safe w L).mp A _ (gy b)
   rcases q o n with z|⟨l,e,t,B,I⟩
   . rw [jY ((lL u L).mpr S)] at z;cases z
   .
    rw [jY ((lL u L).mpr S)] at e;cases e;obtain ⟨rs,H,R⟩:=yL d J u g F k t (g.nx s o t w n B) I;obtain ⟨p,a,Z,Z,no⟩:=v rs H;refine no _ ?_ (R p a);rw [<- M rs H];exact (a.pt.set a.sp d w L S _).mp ⟨t,B,rfl⟩
theorem Pw.one (h:Pw m (List.range m.rows.length) p):∀ (k:Nat) (s:ck),C5 m->cY m s->(kz p k s↔kz m k s):=by
 have G:∀ {k},k<m.rows.length->(List.range m.rows.length).getD k 0=k:=λ {k} C=>by simp_all
 have L:=h.pt.len;rw [aaA] at L;have n:p.rows=m.rows:=by
   rw [h.pt.on.rows];refine aeS (by rw [Ea,aaA]) λ i v a=>?_;rw [aff,aeY];unfold rowAt;rw [UY a];rfl
 have r:p.bf=m.bf:=by
   refine List.ext_getElem? λ i=>?_;by_cases H:i<m.rows.length
   . rw [h.pt.on.sk i (by rw [aaA];exact H),aaA,abp H,G H];unfold pF;rw [UY (by rw [h.pt.sk];exact H)];rfl
   . rw [ace (by rw [h.kp,L];lia),ace (by rw [h.pt.sk];lia)]
 have u:p.aI=m.aI:=by
   refine List.ext_getElem? λ i=>?_;by_cases H:i<m.rows.length
   . rw [h.pt.on.st i (by rw [aaA];exact H),aaA,abp H,G H];unfold iY;rw [UY (by rw [h.pt.st];exact H)];rfl
   . rw [ace (by rw [h.sp,L];lia),ace (by rw [h.pt.st];lia)]
 have c:∀ {s},cY m s->∀ i,i<m.rows.length->∀ b,bj p i s.bR b=bj m i s.bR b:=λ {s} S i H b=>by
   have:=h.pt.spread S.Qh (f:=b) (k:=i) (by rw [aaA];exact H);rw [G H] at this;have e:Je s.bR (List.range m.rows.length)=s.bR:=by
     refine aeS (by rw [<- S.lb];unfold Je;rw [Ea,aaA]) λ i v a=>?_;unfold Je;rw [aff,aeY,kJ,YQ,UY a];rfl
   rw [e] at this;exact this
 have e:p={ m with de:=p.de }:=by
   cases p;have E:=h.pt.on.most;have d:=h.pt.on.eO;have j:=h.pt.on.load;simp only at E d j n r u;subst E d j n r u;rfl
 rw [e] at c |-;generalize p.de=F at c;have A:∀ {s},cY m s->∀ o,kC { m with de:=F } s o=kC m s o:=λ {s} S o=>by
   have q:∀ b,(List.range m.rows.length).map (sF { m with de:=F } s b)=(List.range m.rows.length).map (sF m s b):=λ b=>agW λ i H=>c S i (aaK.mp H) _;have z:=λ b=>by
     have:=acJ (λ l=>l.all Option.isSome) (q b);rw [List.all_map,List.all_map] at this;exact this
   have R:∀ b,fI { m with de:=F } s b=fI m s b:=λ b=>by
     have:=acJ (λ l=>l.map λ x=>x.getD []) (q b);rw [ac5,ac5] at this;exact this
   have B:fw { m with de:=F } s o=fw m s o:=funext λ O=>by
     unfold fw;rw [R];rfl
   unfold kC qb;rw [B];have:(λ O=>iF { m with de:=F } s (Ord.off o O))=λ O=>iF m s (Ord.off o O):=funext λ O=>z _;rw [this];rfl
 intro k;induction k with
 | zero=>exact λ s g S=>Iff.rfl
 | succ k I =>
   intro s g S;refine forall_congr' λ o=>forall_congr' λ w=>?_;rw [A S o];refine or_congr Iff.rfl (exists_congr λ l=>and_congr_right λ e=>exists_congr λ t=>and_congr_right λ y=>I t g ?_);unfold kC at e;split at e
   . cases e;exact g.nx s o t S w y
   . cases e
theorem Fi (S:cY m s):eL s (List.range m.rows.length)=s:=by
 have g:∀ {l:aH},l.length=m.rows.length->(List.range m.rows.length).map (gN l)=l:=λ {l} a=>by
   refine aeS (by rw [Ea,aaA,a]) λ i b h=>?_;rw [aff,aeY,kJ,YQ,UY h];rfl
 refine (ck.mk.injEq _ _ _ _ _ _ _ _ _ _).mpr ⟨g S.lb,ab7 λ k=>?_,g S.lw,g S.lf,rfl⟩;rw [Ord.cI,aaA];by_cases H:k<m.rows.length
 . simp_all
 . rw [aaR H];exact (agy (aa6 S.bG (acy (by decide) (by lia)))).symm
end
theorem G8:∀ (a b c d e f:Bool) (n:Fin 5),((mD ⟨a,b,c,d,e,f⟩ n).length<=1->mD ⟨a,b,c,d,e,f⟩ n=if (n:Nat)=0 then [] else [List.range n]):=by decide +kernel
theorem oJ:∀ (a b c d e f:Bool) (n:Fin 5),(mD ⟨a,b,c,d,e,f⟩ n).length<=4:=by decide +kernel
structure sd (m:am):Prop where
 n3:m.rows.length<=3
 bd:∀ i,(m.rows.getD i []).length<=3
 sf:∀ i,m.dI i<=1/\m.fails i<=1/\(3<=m.rows.length->m.dI i<=0/\m.fails i<=0)
 eO:m.eO<=1
section
variable {m p:am} {rs:aH} {s:ck}
theorem sd.fin (h:sd m):wU m 2000:=λ l N j=>by
 have L:∀ {F:Nat->aH},((List.range m.rows.length).map F).length=m.rows.length:=by grind
 have R:∀ {F:Nat->Nat} {k:Nat},(∀ i,F i<=k)->∀ r∈(List.range m.rows.length).map (λ i=>List.range (F i)),r.length<=k:=λ {F k} f r n=>by
   obtain ⟨i,p,rfl⟩:=abv.mp n;rw [aaA];exact f i
 have c:=eK (k:=2) _ (R (F:=λ i=>(m.rows.getD i []).length - 1) λ i=>by have:=h.bd i;lia);rw [L] at c;have g:∀ b:Nat,(∀ i,(m.dI i).toNat+1<=b/\(m.fails i).toNat+1<=b)->l.length<=2 ^ m.rows.length * (2 ^ m.rows.length * (b ^ m.rows.length * (b ^ m.rows.length * 2))):=λ b H=>by
   have C:=eK (k:=b) _ (R λ i=>(H i).1);have a:=eK (k:=b) _ (R λ i=>(H i).2);rw [L] at C a;exact aaX (ad8 N λ s o=>E6 (j s o)) (Fj (d:=2) c C a (by have:=h.eO;lia))
 have q:=h.n3;have:m.rows.length=0\/m.rows.length=1\/m.rows.length=2\/m.rows.length=3:=by lia
 rcases this with e|e|e|e
 . have:=g 2 λ i=>by have:=h.sf i;lia
   rw [e] at this;lia
 . have:=g 2 λ i=>by have:=h.sf i;lia
   rw [e] at this;lia
 . have:=g 2 λ i=>by have:=h.sf i;lia
   rw [e] at this;lia
 . have:=g 1 λ i=>by have:=(h.sf i).2.2 (by lia);lia
   rw [e] at this;lia
theorem sd.res (h:sd m):um m:=λ s o S c=>by
 have bl:∀ O,(fw m s o O).length<=8:=λ O=>by
   unfold fw;rw [Ea];have L:(fI m s (Ord.off o O)).length=m.rows.length:=by unfold fI;rw [Ea,aaA]
   have:=eK (fI m s (Ord.off o O)) λ r H=>by
     obtain ⟨i,b,rfl⟩:=abv.mp H;unfold sF bj;split
     . have:=kK (m.rows.getD i []) (jF m i s.bR ((Ord.off o O).testBit i)) (jG m i s.bR ((Ord.off o O).testBit i)) ((m.rows.getD i []).length - 1);have:=h.bd i;show (kM _ _ _ _).length<=2;lia
     . exact ab2 _
   rw [L] at this;exact aaX this (acy (by decide) h.n3)
 have:=fG (l:=c7 m s o) bl;have a:(c7 m s o).length<=16:=(nB (sS (aaX h.n3 (by decide)))).2;show ((c7 m s o).flatMap (fw m s o)).length<=400;lia
theorem Pw.GO (h:Pw m rs p) (f:sd m):sd p:=by
 have l:=h.pt.ro.len;refine ⟨by rw [h.pt.len];exact aaX l f.n3,λ i=>?_,λ i=>?_,by rw [h.pt.on.eO];exact f.eO⟩
 .
  by_cases H:i<rs.length
  . rw [h.pt.row H];exact f.bd _
  . rw [YQ,ace (by rw [h.pt.len];lia)];exact ab2 _
 .
  by_cases H:i<rs.length
  . rw [(h.pt.stays H).1,(h.pt.stays H).2.1,h.pt.len];exact ⟨(f.sf _).1,(f.sf _).2.1,λ z=>(f.sf _).2.2 (aaX z l)⟩
  . have:p.eT i=none:=by unfold am.eT;rw [ace (by rw [h.sp,h.pt.len];lia)];rfl
    unfold am.dI am.fails;rw [this];exact ⟨by decide,by decide,λ Z=>by decide⟩
theorem pj.GO {R:List R7} {B b:Int} (l:pj R B b b2 R.length m) (L:m.rows.length=R.length) (n:2<=R.length) (N:R.length<=3) (H:∀ r∈R,Aq R.length 2 r) (a:b<=1):sd m:=by
 refine ⟨by lia,λ i=>?_,λ i=>?_,by rw [l.eO];exact a⟩
 .
  rw [YQ];cases e:m.rows[i]? with
  | none=>exact ab2 _
  | some r =>
    obtain ⟨q,E,e⟩:=l.rows i r e;show r.length<=3;rw [e];exact (H q (aae E)).len
 .
  unfold am.dI am.fails;cases e:m.eT i with
  | none=>exact ⟨by decide,by decide,λ Z=>by decide⟩
  | some z =>
    by_cases h:i<R.length
    .
     have q:=l.st i _ h (UY h);rw [e] at q;cases y:R[i].bE with
     | none=>rw [y] at q;cases q
     | some x =>
       rw [y] at q;have q:z.2=x.2:=abb q;have F:=(H _ (aaH h)).st x y;show z.2.2.1<=1/\z.2.2.2<=1/\(_->z.2.2.1<=0/\z.2.2.2<=0)
       rw [q];exact ⟨F.s1 n,F.f,λ k=>F.t (by lia)⟩
    . rw [l.no i (by lia)] at e;cases e
theorem wW {f:Nat->Int}:∀ {l:aH},(∀ x∈l,0<=f x)->0<=(l.map f).sum/\((l.map f).sum<=0->∀ x∈l,f x=0)
 | [],_=>⟨adr _,λ Z Z h=>absurd h aaj⟩
 | y::l,h=>by
   obtain ⟨a,b⟩:=wW λ x H=>h x (aaB _ H);have c:=h y aaZ;rw [ab8,agv];refine ⟨by lia,λ z x H=>?_⟩;rcases aay.mp H with rfl|H
   . lia
   . exact b (by lia) x H
theorem P5 {n:Nat} (st:m.aI.length=m.rows.length) (a:m.rows.length<=4) (p:iB n m) (h:¬ m.gY m.ws > 0):DN m:=λ i=>by
 have N:∀ x,0<=m.wd x:=λ x=>by
   unfold am.wd;cases e:m.eT x with
   | none=>exact adr _
   | some z =>
     unfold am.eT at e;cases E:m.aI[x]? with
     | none=>rw [E] at e;cases e
     | some y =>
       rw [E] at e;have e:y=some z:=e;rw [e] at E;exact (p.bE z (aae E)).2.1.1
 by_cases H:m.has i=true
 .
  refine (wW λ x Z=>N x).2 (Int.not_lt.mp h) i (Bit.eD.mpr ?_);have I:i<m.rows.length:=by
    rw [<- st];unfold am.has am.eT at H;cases e:m.aI[i]? with
    | none=>rw [e] at H;cases H
    | some y=>exact (SV.mp e).1
  refine ⟨by lia,?_⟩;unfold am.ws;rw [abS,Ord.cI,aaS I,H];rfl
 .
  unfold am.has at H;unfold am.wd;cases e:m.eT i with
  | none=>rfl
  | some z=>rw [e] at H;exact absurd rfl H
structure uh (vs:List (Option Nat)) (u:Option Nat):Prop where
 no:u=none->∀ x∈vs,x=none
 at_:∀ k,u=some k->some k∈vs/\∀ j,some j∈vs->k<=j
abbrev Qk (m:am) (s:ck) (rs:aH) (v:Option Nat):Prop:=∃ p,Pw m rs p/\iI p (eL s rs) v
theorem CF {a:List (aH)} {vs:List (Option Nat)} {v u:Option Nat} (A:∀ k,kz m k s->∃ rs∈a,∀ p,Pw m rs p->kz p k (eL s rs)) (B:∀ rs∈a,∀ p,Pw m rs p->∀ k,kz p k (eL s rs)->kz m k s) (h:Paired (Qk m s) a vs) (mi:uh vs u) (r:iI m s v):v=u:=by
 have bk:∀ k,some k∈vs->kz m k s:=λ k f=>by
   obtain ⟨rs,H,p,b,R⟩:=tT h _ f;exact B rs H p b k R.1
 cases v with
 | none =>
   cases u with
   | none=>rfl
   | some k=>exact absurd (bk k (mi.at_ k rfl).1) (r k)
 | some k =>
   obtain ⟨rs,H,d⟩:=A k r.1;obtain ⟨x,c,p,b,R⟩:=wX h rs H;have I:=d p b;cases x with
   | none=>exact absurd I (R k)
   | some j =>
     have J:=aet λ z=>R.2 k z I;cases u with
     | none=>cases mi.no rfl _ c
     | some i =>
       obtain ⟨e,l⟩:=mi.at_ i rfl;have:=l j c;have K:=aet λ z=>r.2 i z (bk i e);congr 1;lia
def pM (m:am):List (aH):=mD (g6 (iz m)) m.rows.length
def QM (m:am):Bool:=decide (m.gY m.ws > 0) || decide (((Bit.rooms m.ws).length:Int) > m.most)
def NN (m:am):Bool:=decide (1<(pM m).length) && QM m
theorem By {n:Nat} {vs:List (Option Nat)} {v u:Option Nat} (c:0<m.rows.length) (st:m.aI.length=m.rows.length) (H:m.rows.length<=4) (f:iB n m) (g:C5 m) (S:cY m s) (N:NN m=false) (h:Paired (Qk m s) (pM m) vs) (mi:uh vs u) (r:iI m s v):v=u:=by
 by_cases l:1<(pM m).length
 .
  unfold NN QM at N;rw [aaS l,adc,Bool.or_eq_false_iff,ags,ags] at N;have d:=P5 st H f N.1;exact CF (yL d (Int.not_lt.mp N.2) H g (we H) · s S) (λ rs b p a k=>a.ill d g k s S) h mi r
 .
  have e:pM m=if m.rows.length=0 then [] else [List.range m.rows.length]:=G8 _ _ _ _ _ _ ⟨m.rows.length,by lia⟩ (aet l);rw [abC (aeh c)] at e;rw [e] at h;refine CF (λ k q=>⟨_,aac.mpr rfl,λ p a=>?_⟩) (λ rs b p a k q=>?_) h mi r
  . rw [Fi S];exact (a.one k s g S).mpr q
  . obtain rfl:=aac.mp b;rw [Fi S] at q;exact (a.one k s g S).mp q
end
section
variable (K:aF) (C NS SH:ak)
inductive C6  (vs:aB) (H:Hp) (Q:VK) (_E:XK):Prop
 | mk (a fp m:_) (_:vs=[.ref a]) (_:aN K C H a fp m) (_:∀ H',aE H H'->Q (.bl (QM m)) H')
end
theorem Ov.pos {W k:Int} {f:bZ} (H:0<W) (h:Ov W k f) (a:0<k):0<f.1:=by
 have:0 * W<f.1 * W:=by rw [h.1,Int.zero_mul];exact adf a h.2
 exact Int.lt_of_mul_lt_mul_right this (ady H)
def Fl (m:am) (l:List (Nat×Nat)):Prop:=∀ i j:Nat,i≠j->(0<(m.cG i j).1↔(i,j)∈l)
structure QZ (fl:Int) (m:am):Prop where
 q:QH m
 z:fl=0->Fl m []
 ht:∀ x,some x∈m.aI->eX 90 x.1
section
variable {fl:Int} {m:am} {i j:Nat} {f:bZ} {l:List (Nat×Nat)}
theorem Pq {a b c:Int}:Fl (am.new a b c) []:=λ Z Z Z=>⟨λ h=>absurd h (by show ¬ 0<0;decide),λ h=>absurd h aaj⟩
theorem QE {m:am} {i:Nat} {z:bZ×Int×Int×Int} (h:∀ x,some x∈m.aI->eX 90 x.1) (a:eX 90 z.1):∀ x,some x∈(m.bD i z).aI->eX 90 x.1:=λ x H=>(adY H).elim (h x) λ e=>by cases e;exact a
theorem Rb {m:am} {r:List bZ} (h:∀ x,some x∈m.aI->eX 90 x.1):∀ x,some x∈(m.c8 r).aI->eX 90 x.1:=λ x H=>(aaU.mp H).elim (h x) λ e=>by cases aac.mp e
theorem QZ.cK (h:QZ fl m) (x:i≠j) (H:Qr f) (c:fl=0->f.1=0):QZ fl (m.cK i j f):=⟨h.q.cK x H,λ e a b A=>by
 rw [io];split
 . simp_all
 . exact h.z e a b A,h.ht⟩
theorem Fl.put (h:Fl m l) (H:0<f.1):Fl (m.cK i j f) (l++[(i,j)]):=λ a b A=>by
 rw [io];split
 . simp_all
 .
  rw [h a b A];refine ⟨λ z=>acR _ z,λ z=>?_⟩;rcases aaU.mp z with z|z
  . exact z
  . grind
end
noncomputable def DV (i:Nat):List (Nat×Nat):=[[],[(0,1)],[(1,2)],[(2,0)],[(1,0),(2,1)],[(0,2),(1,2)]].getD i []
noncomputable def xV (n:Nat) (l:List (Nat×Nat)):List (Nat×Nat):=l.filter λ x=>decide (x.1<n) && decide (x.2<n)
section
variable (K:aF) (C:ak)
inductive Gr  (vs:aB) (H:Hp) (Q:VK) (_E:XK):Prop
 | mk (pr:ak) (xs:aB) (rs:List R7) (FB:ak) (s:C0) (pb:ak) (b0 b1 b2:Int) (fl:Int) (_:vs=[.ref pr,.ref FB,.ref pb,.int fl]) (_:aW K H pr xs) (_:bP K H (rs.map Ke) xs) (_:1<=rs.length) (_:rs.length<=4) (_:(∀ r∈rs,r.Ok)) (_:cw K H FB s.vs) (_:s.Ok) (_:cw K H pb [.int b0,.int b1,.int b2]) (_:(0<=b0/\b0<=4)) (_:(0<=b1/\b1<=30)) (_:(0<=b2/\b2<=30)) (_:∀ a fp m H',aE H H'->aN K C H' a fp m->(∀ c∈fp,H c=none)->m.rows.length=rs.length->QZ fl m->lG m->pj rs b0 b1 b2 rs.length m->Q (.ref a) H')
inductive JL  (vs:aB) (H:Hp) (Q:VK) (_E:XK):Prop
 | mk (a:ak) (ns:List Int) (k:Nat) (_:vs=[.ref a,.int (k:Int)]) (_:aW K H a (ns.map V.int)) (_:Q (.int ((ns[k]?).getD 0)) H)
inductive De  (vs:aB) (H:Hp) (Q:VK) (_E:XK):Prop
 | mk (p:_) (ns:List Int) (_:vs=[.ref p,.int 2]) (_:aW K H p (ns.map V.int)) (_:∀ t a fp m pr xs (rs:List R7) pb b0 b1 b2 (ix:Nat) B H',aE H B->aE B H'->H' t=some (.tup [.ref a,.ref pr,.ref pb])->aN K C H' a fp m->(∀ c∈fp,B c=none)->B pr=some (.lst xs)->bP K B (rs.map Ke) xs->B pb=some (.tup [.int b0,.int b1,.int b2])->(2<=rs.length/\rs.length<=3)->m.rows.length=rs.length->(∀ r∈rs,r.Ok/\Aq rs.length 2 r)->QH m->lG m->pj rs b0 b1 b2 rs.length m->(0<=b0/\0<=b1/\b1<=1)->(∀ x,some x∈m.aI->eX 90 x.1)->Fl m (xV rs.length (DV ix))->(ix:Int)=((ns[0]?).getD 0).fdiv 60 % 6->Q (.ref t) H')
end
theorem Hl (a:ay):argsOk "min" ⟨[a],[("default",.none)]⟩:=by kernel_rfl
section
variable {prog:bq} {w:bi} {A:Around} {R:Result->Shared->Prop} {I:ak} {fp wr:bp} {n:Nat} {P:Nat->ay->Prop} {St:Nat->bx->Prop}
inductive K4 (P:Nat->ay->Prop) (bt:Nat->Nat->Bool):Nat->Array ay->Prop
 | no:K4 P bt 0 #[]
 | at_ {i:Nat} {v:ay} (h:P (argBest bt i) v):K4 P bt (i+1) #[v,v]
theorem GS (W:Walks prog w A.in1 I fp wr n P St) {B:Nat->Nat->Bool} (J:CmpOf prog w A.in1 .Lt P B) {S:ak} (f:S∉fp):∀ (k j:Nat) (s:Shared) (O:Array ay) (c:Nat),n - j=k->j<=n->St j s.heap->K4 P B j O->s.heap.get? S=some { cls:=.type "list",dict:=none,data:=.seq O c,slots:=#[]} ->
   (∀ v d x,(n=0/\v = .none\/0<n/\P (argBest B (n - 1)) v)->(∀ b o,b∉wr->b≠S->s.heap.get? b=some o->d.get? b=some o)->R (.ok (.ret v)) { s with heap:=d,toks:=x }) ->
   codeAny (model prog w) A (.builtin "min.loop" ⟨[.ref I,.none,.ref S],[("default",.none)]⟩) R s:=by
 have t:S∉wr:=λ h=>f (W.sub _ h);have N:(toString "min" ++ toString ".loop" : String) = "min.loop":=by decide
 intro k;induction k with
 | zero =>
   intro j s O c M L E C r g;obtain rfl:j=n:=by lia
   refine afD F.entry_min_loop ?_;rw [afQ aeG];refine aam (ael r rfl (aam (afR (W.done s _ _ E λ d x K=>?_))));cases C with
   | no=>exact aam (agZ (aaW (g .none d x (.inl ⟨rfl,rfl⟩) λ b o H Z e=>K b o H e)))
   | @at_ i v m =>
     have p:=K S _ t r;show wpAny _ _ (updateSeq S (λ Z=>#[]) >>= _) _ _ _;exact aam (agE p rfl (aam (agF (aaW (g v _ x (.inr ⟨agH _,m⟩) λ b o H a e=>(aeV _ _ (aeg a)).trans (K b o H e))))))
 | succ k D =>
   intro j s O c M L E C r g;refine afD F.entry_min_loop ?_;rw [afQ aeG];refine aam (ael r rfl (aam (afR (W.item j s _ _ (by lia) E λ v d x m y K=>?_))));have p:=K S _ t r;have U:∀ {b o u},b≠S->d.get? b=some o->(d.update S u).get? b=some o:=λ a e=>(aeV _ _ (aeg a)).trans e;cases C with
   | no =>
     show wpAny _ _ (updateSeq S (λ Z=>#[v,v]) >>= _) _ _ _;refine aam (agE p rfl ?_);rw [N];refine aaW ⟨aeZ aeG _,D 1 _ _ _ (by lia) (by lia) (W.frame _ _ _ y λ b H o e=>U (λ z=>f (z ▸ H)) e) (.at_ m) (aer _ p rfl) λ V l T q X=>?_⟩;exact g V l T q λ b o H a e=>X b o H a (U a (K b o H e))
   | @at_ i G H =>
     show wpAny _ _ (tryCatch (holding [v,v] (richCompare .Lt v G >>= _)) _ >>= _) _ _ _;refine aam (afR (adP (aam (J (i+1) (argBest B i) v G _ _ _ m H (aam (adP (adm (aam (agF (aaW ?_))))))))));cases e:B (i+1) (argBest B i) with
     | true =>
       rw [abp rfl];refine aam (agE p rfl (aam (agF ?_)));rw [N];refine aaW ⟨aeZ aeG _,D (i+2) _ _ _ (by lia) (by lia) (W.frame _ _ _ y λ b H o e=>U (λ z=>f (z ▸ H)) e) (.at_ (by unfold argBest;rw [e,abp rfl];exact m)) (aer _ p rfl) λ V l T q X=>?_⟩;exact g V l T q λ b o H a e=>X b o H a (U a (K b o H e))
     | false =>
       rw [abC aa3];refine aam (agF ?_);rw [N];exact aaW ⟨aeZ aeG _,D (i+2) _ _ _ (by lia) (by lia) y (.at_ (by unfold argBest;rw [e,abC aa3];exact H)) p λ V l T q X=>g V l T q λ b o H a e=>X b o H a (K b o H e)⟩
end
section
variable {prog:bq} {w:bi} {A:Around} {E:ay->Shared->Prop} {s:Shared} {l:ak} {xs:Array (Int×Tok)}
theorem K6 {Q:ay->Shared->Prop} (g:A.handled=none) (k:s.heap.IsList l (intItems xs)) (h:∀ v H t,(xs.size=0/\v = .none\/0<xs.size/\(intItems xs)[argBest (λ i j=>decide (numAt xs i<numAt xs j)) (xs.size - 1)]?=some v)->(∀ b o,s.heap.get? b=some o->H.get? b=some o)->Q v { s with heap:=H,toks:=t }) :
   wpAny (model prog w) A (call (.builtin "min") [.ref l] [("default",.none)]) Q E s:=by
 have N:(toString "min" ++ toString ".loop") = "min.loop":=by decide
 have n:(intItems xs).size=xs.size:=Array.size_map;refine kmk_tree F.kind_min F.plain_min F.entry_min (Hl _) (aam (wpAny_of_eq (show Builtin.Builtins.bindParams "min" ["key","default"] 0 ⟨[],[("default",.none)]⟩=pure [none,some .none] from rfl) (aam (aaW (aam (iter_intList k λ p e S a c=>?_))))));subst e;refine aam (afl ?_);have W:=Walks.list (prog:=prog) (w:=w) (A:=A.in1) g _ l c (intItems xs);refine aaW ⟨aeZ aeG _,GS W (CmpOf.ints_lt (numAt xs) λ Z Z=>intItems_at) (λ m=>adB _ (a _ m)) _ 0 _ _ _ rfl (ab2 _) (W.frame _ _ _ S λ b Z o e=>aaF _ e) .no (abW _ rfl) λ v H t d K=>?_⟩;rw [n] at d;exact h v H t d (old_kept λ b o f e=>K b o f (abN (aba e)) (aaF _ e))
end
def W7 (K:aF):aB->aB->Hp->VK->Prop:=λ x z H Q=>z=[.cN]/\∃ (p:ak) (n:List Int),x=[.ref p]/\aW K H p (n.map V.int)/\(n=[]->Q .cN H)/\∀ M,M∈n->(∀ a∈n,M<=a)->Q (.int M) H
theorem Mt {X:Cx} {K:aF} {p c w:Pos} {e E:Expr} {t T:TA} (F:X.K=K) (G:X.calm=true) (J:Gl X "min") (N:X.mg "min" = none) (d:bootBuiltins "min" = some (.builtin "min")) (g:PA X [e] t) (l:PK X [⟨some "default",E,w⟩] T) (n:autoParam (starEach [e] X.env=[(false,eval e X.env)]) za_._auto_1):PE X (.Call (.Name "min" p) [e] [⟨some "default",E,w⟩] c) (λ U H Q=>t U H λ vs k=>T U k λ x f=>W7 K vs x f Q):=by
 subst F;intro b s U H Q I h;refine ad6 (ke I J N d ?_ (by decide) (by decide));refine callWith_kw (dC (g c b s U H _ I h) λ us s1 ⟨vs,k,A,r,q⟩=>dC (l c b s1 U k _ A q) λ ws s2 ⟨x,f,i,rz,W⟩=>?_) (by rw [n];rfl) (by rw [n];rfl);obtain ⟨rfl,V,ns,rfl,O,S,R⟩:=W;obtain ⟨u,rfl,Y⟩:=vals1 r;obtain rfl:=Y;obtain ⟨z,rfl,r2⟩:=vals1 rz;obtain rfl:=r2;obtain ⟨br,rv,B,Z⟩:=i.list O;obtain ⟨y,rfl,e⟩:=mE rv;have M:s2.heap.IsList V (intItems y.toArray):=by have:=B.isList;simpa [intItems] using this
 refine K6 (i.ok.hd G) M λ v h' T d o=>?_;rcases d with ⟨m,rfl⟩|⟨m,d⟩
 . exact ⟨.cN,f,i.kept o,rfl,S (by grind)⟩
 .
  obtain ⟨t,rfl⟩:=intItems_at d;obtain ⟨C,D⟩:=argBest_lt (numAt y.toArray) (y.toArray.size - 1);refine ⟨.int _,f,i.kept o,⟨t,rfl⟩,R _ ?_ λ a g=>?_⟩
  . rw [<- e,afL];exact getD_mem (by rw [Ea];exact xY C m)
  .
   rw [<- e] at g;obtain ⟨j,L,rfl⟩:=mem_getD g;rw [Ea] at L;have:=D j (by simp;lia);rw [afL,afL] at this;rw [afL];exact this
abbrev S7:=Int×Int×Int×Int
section
variable (K:aF) (C:ak)
inductive GH  (vs:aB) (H:Hp) (Q:VK) (_E:XK):Prop
 | mk (a fp m q st:_) (_:vs=[.ref a,.ref q]) (_:aN K C H a fp m) (_:C5 m) (_:wU m 2000) (_:um m) (_:ig K H q st) (_:cY m st) (_:∀ v H',aE H H'->iI m st v->Q (iE v) H')
inductive K8  (vs:aB) (H:Hp) (Q:VK) (_E:XK):Prop
 | mk (a fp m p st:_) (_:vs=[.ref a,.ref p]) (_:aN K C H a fp m) (_:QH m) (_:iB 7 m) (_:(∀ rs∈pM m,rs.length<=1\/∀ r∈m.rows,r.length<=5)) (_:(∀ rs∈pM m,∀ o,Pw m rs o->wU o 2000/\um o)) (_:ig K H p st) (_:cY m st) (_:NN m=false) (_:∀ us u H',aE H H'->Paired (Qk m st) (pM m) us->uh us u->Q (iE u) H')
end
theorem G4 {m:am} (g:C5 m) (d:DN m) (w:m.ws=0) (a:∀ s,cY m s->∀ i,i<m.rows.length->(bj m i s.bR false).isSome=true):∀ (k:Nat) (s:ck),cY m s->¬kz m k s:=λ k=>by
 induction k with
 | zero=>exact λ s S q=>oZ g.h4 d S q
 | succ k f =>
   intro s S q;obtain ⟨o,h⟩:=List.exists_mem_of_ne_nil _ (oZ g.h4 d S);have e:=((fF g.h4).mp h).1.2;rw [w,Nat.and_zero] at e;subst e;have b:=jY ((lL (o:=0) g.h4 (by decide)).mpr λ i H=>⟨by rw [aeP];exact a s S i H,λ Z=>a s S i H⟩);rcases q 0 h with z|⟨l,z,t,c,I⟩
   . rw [b] at z;cases z
   . rw [b] at z;cases z;exact f t (g.nx _ _ _ S h c) I
noncomputable def sE (n:Nat):List bZ:=(List.range (n+1)).map λ k:Nat=>(3 * (k:Int) - 7,1)
noncomputable def i5 (q:Nat):aH:=[[6,6,2],[6,2,6],[2,6,6]].getD q []
def dO (l:aH) (i:Nat):am:=⟨4,30,1,(l.take i).map sE,λ Z Z=>none,List.replicate i ((0,1),(0,1),(0,1)),List.replicate i none⟩
theorem Pf:∀ q:Fin 3,((List.range ((i5 q).getD 0 0)).all λ a=>(List.range ((i5 q).getD 1 0)).all λ b=>(List.range ((i5 q).getD 2 0)).all λ c=>(List.range 3).all λ i=>(bj (dO (i5 q) 3) i [a,b,c] false).isSome)=true:=by decide +kernel
theorem wV:∀ q:Fin 3,∀ i:Fin 3,((dO (i5 q) 3).rows.getD i []).length=(i5 q).getD i 0+1/\(i5 q)[i.val]?=some ((i5 q).getD i 0):=by decide +kernel
theorem Dy:∀ q:Fin 3,∀ i:Fin 3,jJ (sE ((i5 q).getD i 0))=true/\hU ((dO (i5 q) i).rows++[sE ((i5 q).getD i 0)])<=400/\((i5 q).getD i 0=6\/(i5 q).getD i 0=2):=by decide +kernel
theorem DK:∀ q:Fin 3,(i5 q).length=3:=by decide
theorem WH:mD ⟨false,false,false,false,false,false⟩ 3=[[0],[1],[2]]:=by decide +kernel
section
variable {q:Fin 3}
theorem qR:(dO (i5 q) 3).rows.length=3:=by
 show ((List.take 3 (i5 q)).map sE).length=3;rw [Ea,aby,DK];rfl
theorem Qy {i n:Nat} (h:(i5 q)[i]?=some n):i<3/\(n=6\/n=2)/\(jJ (sE n)=true/\hU ((dO (i5 q) i).rows++[sE n])<=400)/\(dO (i5 q) i).c8 (sE n)=dO (i5 q) (i+1):=by
 have H:=(SV.mp h).1;rw [DK] at H;have e:=(wV q ⟨i,H⟩).2;have e:=abb (h.symm.trans e);have p:=Dy q ⟨i,H⟩;rw [<- e] at p;refine ⟨H,p.2.2,⟨p.1,p.2.1⟩,?_⟩;unfold dO am.c8;rw [acI,h,aau,aen,aen];rfl
theorem El (i:Nat):(dO (i5 q) 3).eT i=none:=by
 unfold am.eT;cases e:(dO (i5 q) 3).aI[i]? with
 | none=>rfl
 | some z=>rw [List.eq_of_mem_replicate (aae e)];rfl
theorem Db:DN (dO (i5 q) 3):=λ i=>by unfold am.wd;rw [El];rfl
theorem OB:(dO (i5 q) 3).ws=0:=by
 have e:(dO (i5 q) 3).has=λ Z=>false:=funext λ i=>by unfold am.has;rw [El];rfl
 unfold am.ws Ord.setOf;rw [e,agC.mpr (λ Z Z=>aa3)];rfl
theorem Mq {s:ck} (S:cY (dO (i5 q) 3) s) {i:Nat} (H:i<3):(bj (dO (i5 q) 3) i s.bR false).isSome=true:=by
 have l:=S.lb;rw [qR] at l;have B:∀ j:Fin 3,gN s.bR j<(i5 q).getD j 0:=λ j=>by
   have:=S.band j (by rw [qR];exact j.isLt);rw [(wV q j).1] at this;lia
 obtain ⟨a,b,c,e⟩:∃ a b c,s.bR=[a,b,c]:=by
   match h:s.bR,l with
   | [a,b,c],_=>exact ⟨a,b,c,rfl⟩
 have d:=B 0;have f:=B 1;have b2:=B 2;rw [e] at d f b2 |-;exact acj.mp (acj.mp (acj.mp (acj.mp (Pf q) a (aaK.mpr d)) b (aaK.mpr f)) c (aaK.mpr b2)) i (aaK.mpr H)
theorem JN:pM (dO (i5 q) 3)=[[0],[1],[2]]:=by
 unfold pM;rw [qR];exact WH
theorem Ky:NN (dO (i5 q) 3)=false:=by
 unfold NN QM;rw [OB,show (dO (i5 q) 3).gY 0=0 from Db.gY 0];exact aes _
theorem NI {p:am} (H:p.rows.length=1) (m:(p.rows.getD 0 []).length<=7) (st:∀ i,p.eT i=none) (c:p.eO<=30):wU p 2000/\um p:=by
 constructor
 .
  intro l n f;have t:=ad8 n λ s g=>E6 (f s g);have z:∀ i,p.dI i=0/\p.fails i=0:=λ i=>by unfold am.dI am.fails;rw [st];exact ⟨rfl,rfl⟩
  have C:=eK (k:=6) ((List.range p.rows.length).map λ i=>List.range ((p.rows.getD i []).length - 1)) λ r h=>by
    simp_all
  have a:=eK (k:=1) ((List.range p.rows.length).map λ i=>List.range ((p.dI i).toNat+1)) λ r h=>by
    simp_all
  have b:=eK (k:=1) ((List.range p.rows.length).map λ i=>List.range ((p.fails i).toNat+1)) λ r h=>by
    simp_all
  have:=Fj (d:=31) C a b (by lia);rw [Ea,aaA,H] at this;lia
 .
  intro s o S q;have bl:∀ O,(fw p s o O).length<=6:=λ O=>by
    unfold fw;rw [Ea];have L:(fI p s (Ord.off o O)).length=1:=by unfold fI;rw [Ea,aaA,H]
    have:=eK (fI p s (Ord.off o O)) λ r h=>by
      obtain ⟨i,e,rfl⟩:=abv.mp h;have:=aaK.mp e;obtain rfl:i=0:=by lia
      unfold sF bj;split
      . have:=kK (p.rows.getD 0 []) (jF p 0 s.bR ((Ord.off o O).testBit 0)) (jG p 0 s.bR ((Ord.off o O).testBit 0)) ((p.rows.getD 0 []).length - 1);show (kM _ _ _ _).length<=6;lia
      . exact ab2 _
    rw [L] at this;exact this
  have:=fG (l:=c7 p s o) bl;have j:(c7 p s o).length<=16:=(nB (sS (by lia))).2;show ((c7 p s o).flatMap (fw p s o)).length<=400;lia
theorem Nl {r:aH} (d:r∈pM (dO (i5 q) 3)) {p:am} (h:Pw (dO (i5 q) 3) r p):wU p 2000/\um p:=by
 rw [JN] at d;obtain ⟨i,c,rfl⟩:∃ i,i<3/\r=[i]:=by
   grind
 have E:=h.pt.len;refine NI E ?_ (λ j=>?_) (by rw [h.pt.on.eO];exact adr 30)
 .
  rw [h.pt.row (show 0 < [i].length from Nat.one_pos)];show ((dO (i5 q) 3).rows.getD i []).length<=7;have a:=(wV q ⟨i,c⟩).1;have b:=(Dy q ⟨i,c⟩).2.2;lia
 .
  by_cases H:j < [i].length
  .
   have e:=h.pt.on.st j H;rw [abp H] at e;unfold am.eT;rw [e];exact El _
  . unfold am.eT;rw [ace (by rw [h.sp,E];exact aet H)];rfl
end
inductive G0  (vs:aB) (H:Hp) (Q:VK) (_E:XK):Prop
 | mk (c:Int) (_:vs=[.int c]) (_:∀ H',Q (.bl true) H')
theorem Vb {X:Hp} {i:Int} {p a b:ak} (I:0<=i) (f:i<3) (e:H p=none/\X p=some (.lst [.int 6,.int 6,.int 2])) (E:H a=none/\X a=some (.lst [.int 6,.int 2,.int 6])) (d:H b=none/\X b=some (.lst [.int 2,.int 6,.int 6])):∃ (q:_root_.Fin 3) (c:ak),uS [V.ref p,.ref a,.ref b] i=some (.ref c)/\H c=none/\X c=some (.lst ((i5 q).map aq)):=by
 obtain ⟨n,rfl⟩:=aeE I;have:n=0\/n=1\/n=2:=by lia
 rcases this with rfl|rfl|rfl
 . exact ⟨0,p,rfl,e⟩
 . exact ⟨1,a,rfl,E⟩
 . exact ⟨2,b,rfl,d⟩
theorem Wy:∀ j:_root_.Fin 3,∃ d:Int,uS [V.int 1,.int 2,.int 4] (0+((j.val:Nat):Int))=some (.int d)/\d≠0/\d.natAbs<2 ^ 10:=by
 intro j
 match j with
 | ⟨0,_⟩=>exact ⟨1,rfl,by decide,by decide⟩
 | ⟨1,_⟩=>exact ⟨2,rfl,by decide,by decide⟩
 | ⟨2,_⟩=>exact ⟨4,rfl,by decide,by decide⟩
theorem J7:QH (am.new 4 30 1)/\iB 7 (am.new 4 30 1):=⟨QH.new,λ r h=>absurd h aaj,λ r h=>absurd h aaj,λ r h=>absurd h aaj,⟨by decide,by decide⟩,⟨by decide,by decide⟩,⟨by decide,by decide⟩⟩
theorem Vn {q:_root_.Fin 3} {B:aH} (l:B.length=3) (h:∀ i:Nat,i<3->gN B i<(i5 q).getD i 0):cY (dO (i5 q) 3) ⟨B,0,[0,0,0],[0,0,0],0⟩:=by
 have r:=qR (q:=q);refine ⟨by rw [r];exact l,by rw [r];rfl,by rw [r];rfl,Nat.two_pow_pos _,show ((Bit.rooms 0).length:Int)<=4 by decide +kernel,by show 0<=30;decide,λ i H=>?_,λ i H=>?_⟩
 .
  rw [r] at H;have:=(wV q ⟨i,H⟩).1;have b:=h i H;rw [this];exact Nat.succ_lt_succ b
 .
  rw [r] at H
  match i,H with
  | 0,_=>exact ⟨aeP _,rfl,rfl⟩
  | 1,_=>exact ⟨aeP _,rfl,rfl⟩
  | 2,_=>exact ⟨aeP _,rfl,rfl⟩
theorem QV {K:aF} {C:ak} {a:ak} {f:bp} {q:_root_.Fin 3} {s:ck} (h:aN K C H a f (dO (i5 q) 3)) (c:iB 7 (dO (i5 q) 3)) (S:cY (dO (i5 q) 3) s) {U:List (Option Nat)} {u:Option Nat} (d:Paired (Qk (dO (i5 q) 3) s) (pM (dO (i5 q) 3)) U) (mi:uh U u):u=none:=by
 have g:=zQ h.wf h.mx h.sk c;cases u with
 | none=>rfl
 | some k =>
   obtain ⟨R,j,p,e,r⟩:=tT d _ (mi.at_ k rfl).1;exact absurd (e.ill Db g k s S r.1) (G4 g Db OB (λ s S i b=>Mq S (by rw [qR] at b;exact b)) k s S)
theorem sd.of {m m':am} (f:sd m) (e:m'.rows=m.rows) (E:m'.eO=m.eO) (es:∀ i,m'.dI i=m.dI i/\m'.fails i=m.fails i):sd m' :=
 ⟨by rw [e];exact f.n3,λ i=>by rw [e];exact f.bd i,λ i=>by rw [(es i).1,(es i).2,e];exact f.sf i,by rw [E];exact f.eO⟩
structure zS (m:am) (st:ck):Prop where
 qh:QH m
 pk:lG m
 f3:sd m
 so:cY m st
 NF:DN m
 cnt:((Bit.rooms m.ws).length:Int)<=m.most
 n1:0<m.rows.length
section
variable {m:am} {st:ck}
theorem zS.sh (g:zS m st):NN m=false:=by
 unfold NN QM;rw [g.NF.gY,aaR (Int.not_lt.mpr g.cnt)];exact aes _
theorem zS.l5 (g:zS m st):∀ R∈pM m,R.length<=1\/∀ r∈m.rows,r.length<=5:=λ Z Z => .inr λ r h=>(g.pk.rise r h).2
theorem zS.Yx (g:zS m st):∀ r∈pM m,∀ o,Pw m r o->wU o 2000/\um o:=λ Z Z Z p=>⟨(p.GO g.f3).fin,(p.GO g.f3).res⟩
theorem zS.rank (g:zS m st) {K:aF} {C:ak} {a:ak} {f:bp} (b:aN K C H a f m) {U:List (Option Nat)} {u v:Option Nat} (h:Paired (Qk m st) (pM m) U) (mi:uh U u) (r:iI m st v):v=u :=
 By g.n1 b.st b.mx g.pk (zQ b.wf b.mx b.sk g.pk) g.so g.sh h mi r
theorem zS.cX (g:zS m st) {i:Nat} {z:bZ×bZ×bZ} (h:i<m.bf.length) (H:Qr z.1) (a:bW z.2.2 z.2.1=false):zS (m.cX i z) st :=
 ⟨g.qh.cX h H,g.pk.cX a,g.f3.of rfl rfl λ Z=>⟨rfl,rfl⟩,⟨g.so.lb,g.so.lw,g.so.lf,g.so.bG,g.so.most,g.so.heap,g.so.band,g.so.bE⟩,g.NF,g.cnt,g.n1⟩
theorem Nw {i:Nat} {z y:bZ×Int×Int×Int} (h:m.eT i=some z) (j:Nat):(m.bD i y).eT j=if j=i then some y else m.eT j:=by
 have H:=by
   unfold am.eT at h;cases e:m.aI[i]? with
   | none=>rw [e] at h;cases h
   | some x=>exact (SV.mp e).1
 unfold am.eT am.bD;by_cases c:j=i
 . simp_all
 . rw [abC c,adt (λ y=>c y.symm)]
theorem zS.bD (g:zS m st) {i:Nat} {z:bZ×Int×Int×Int} {h:bZ} (H:m.eT i=some z) (c:0<=h.1) (b:(0<=z.2.2.1/\z.2.2.1<=3)/\(0<=z.2.2.2/\z.2.2.2<=3)):zS (m.bD i (h,0,z.2.2.1,z.2.2.2)) st:=by
 have s:=Nw (y:=(h,0,z.2.2.1,z.2.2.2)) H;have a:(m.bD i (h,0,z.2.2.1,z.2.2.2)).has=m.has:=funext λ j=>by
   unfold am.has;rw [s];split
   . rename_i e;rw [e,H];rfl
   . rfl
 have w:(m.bD i (h,0,z.2.2.1,z.2.2.2)).ws=m.ws:=by unfold am.ws;rw [a];rfl
 refine ⟨g.qh.bD,g.pk.bD ⟨c,⟨adr 0,show 0<=9 by decide⟩,b.1,b.2⟩,g.f3.of rfl rfl λ j=>?_,⟨g.so.lb,g.so.lw,g.so.lf,g.so.bG,g.so.most,g.so.heap,g.so.band,λ j d=>?_⟩,λ j=>?_,by rw [w];exact g.cnt,g.n1⟩
 .
  unfold am.dI am.fails;rw [s];split
  . rename_i e;rw [e,H];exact ⟨rfl,rfl⟩
  . exact ⟨rfl,rfl⟩
 .
  have:=g.so.bE j d;rw [s];split
  . rename_i e;rw [e,H] at this;rw [e];exact this
  . exact this
 .
  unfold am.wd;rw [s];split
  . rfl
  . exact g.NF j
theorem pj.rooms {r:List R7} {B c:Int} (l:pj r B c b2 r.length m) (L:m.rows.length=r.length) (H:m.rows.length<=4):Bit.rooms m.ws=(List.range r.length).filter λ i=>((r[i]?).bind (·.bE)).isSome:=by
 unfold am.ws;rw [Ord.sr _ (by lia),L];refine List.filter_congr λ i h=>?_;have h:=aaK.mp h;have e:=l.st i _ h (UY h);rw [UY h];show _=(r[i].bE).isSome;unfold am.has;cases a:m.eT i<;>cases b:r[i].bE<;>rw [a,b] at e
 . rfl
 . cases e
 . cases e
 . rfl
theorem zS.of {M:am} {a:Int} (d:gQ m m.rows.length M) (Q:m.aI.length=m.rows.length) (q:QH M) (p:lG M) (f:sd m) (S:cY m st) (n:0<m.rows.length) (b:m.most<=a) (B:a<=4) (c:((Bit.rooms m.ws).length:Int)<=a):zS (M.with (some a) none none) st:=by
 have h:M.has=m.has:=funext λ j=>by
   unfold am.has;rw [d.st];split
   . cases m.eT j<;>rfl
   . rfl
 have w:M.ws=m.ws:=by unfold am.ws;rw [h,d.rows]
 have s:=d.IA S;have e:=p.FV;refine ⟨⟨q.mX,q.cG,q.self⟩,⟨p.rise,p.mX,p.bE,⟨⟨by show 0<=a;lia,B⟩,e.2⟩⟩,f.of d.rows d.eO λ j=>?_,⟨s.lb,s.lw,s.lf,s.bG,acV s.most (by rw [d.most];exact b),s.heap,s.band,s.bE⟩,λ j=>d.NF Q j,?_,by show 0<M.rows.length;rw [d.rows];exact n⟩
 .
  show M.dI j=_/\M.fails j=_;unfold am.dI am.fails;rw [d.st];split
  . cases m.eT j<;>exact ⟨rfl,rfl⟩
  . exact ⟨rfl,rfl⟩
 . show ((Bit.rooms M.ws).length)<=a;rw [w];exact c
theorem pj.some {r:List R7} {B c:Int} (l:pj r B c b2 r.length m) {i:Nat} (h:i<r.length):(m.eT i).isSome=(r[i].bE).isSome:=by
 have e:=l.st i _ h (UY h);cases a:m.eT i<;>cases b:r[i].bE<;>rw [a,b] at e
 . rfl
 . cases e
 . cases e
 . rfl
theorem gQ.KH {a:am} {p:Nat} (d:gQ m p a) (H:∀ x,some x∈m.aI->eX 90 x.1) (i:Nat) (x:bZ×Int×Int×Int) (h:a.eT i=some x):eX 90 x.1:=by
 have M:∀ {z},m.eT i=some z->some z∈m.aI:=λ {z} e=>by
   unfold am.eT at e;cases E:m.aI[i]? with
   | none=>rw [E] at e;cases e
   | some y =>
     rw [E] at e;have e:y=some z:=e;rw [e] at E;exact aae E
 rw [d.st] at h;split at h
 .
  cases e:m.eT i with
  | none=>rw [e] at h;cases h
  | some z =>
    grind
 . exact H x (M h)
theorem gQ.isSome {M:am} {p:Nat} (d:gQ m p M) (i:Nat):(M.eT i).isSome=(m.eT i).isSome:=by
 rw [d.st];split
 . cases m.eT i<;>rfl
 . rfl
end
theorem oR (l:aH):SeqAt.shaped (.list (l.map ja))=true:=qF (n:=1) (λ d h=>by
 obtain ⟨z,Z,rfl⟩:=abv.mp h;exact trivial) (by decide)
theorem zD (l:aH):PyData.eqv (.list (l.map ja)) (.list [])=decide (l=[]):=by cases l<;>simp [PyData.eqv,PyData.eqvAll]
theorem Kz {vs:List (Option Nat)} (e:vs.filterMap id=[]):uh vs none:=⟨λ Z x h=>by
 cases x with
 | none=>rfl
 | some k =>
   grind,nofun⟩
theorem Kg {vs:List (Option Nat)} {M:Int} (h:M∈(vs.filterMap id).map λ n:Nat=>(n:Int)) (l:∀ a∈(vs.filterMap id).map (λ n:Nat=>(n:Int)),M<=a):∃ k:Nat,M=k/\uh vs (some k):=by
 obtain ⟨k,c,rfl⟩:=abv.mp h;obtain ⟨x,d,ex⟩:=adV.mp c;have ex:=ex;refine ⟨k,rfl,nofun,λ i H=>?_⟩;cases H;exact ⟨ex ▸ d,λ j b=>agM.mp (l _ (abv.mpr ⟨j,adV.mpr ⟨_,b,rfl⟩,rfl⟩))⟩
theorem Jq {m:am} {K:aF} {C a:ak} {f:bp} (b:aN K C H a f m) (n:0<m.rows.length):∃ s,m.bf[0]?=some s/\eX 100 s.2.1/\0<m.bf.length:=by
 have h:0<m.bf.length:=by rw [b.sk];exact n
 refine ⟨m.bf[0],UY h,?_,h⟩;exact (b.wf.bf _ (aaH h)).2.1
end L2
namespace L2
open PySem PySem.Spec PyProof.Rows Mth
theorem fq {N Q:d9} {sc:Scope} (a:autoParam (sc.kind = .function) za_._auto_1) (b:autoParam (sc.isCoroutine=false) za_._auto_1) (c:autoParam (sc.isGenerator=false) za_._auto_1) (d:autoParam (N.Nodup) zc_._auto_1) (e:autoParam (N.take Q.length=Q) za_._auto_1) (f:autoParam (∀ x∈Q,sc.names.lookup x=some .local\/sc.names.lookup x=some .cell) zc_._auto_1) (g:autoParam (∀ y∈sc.names,y.2 ≠ .free) zc_._auto_1):aD N Q sc:=⟨a,b,c,d,e,f,g⟩
section
variable {X:Cx} {i:Nat} {x:Str} {pos pos':Pos} {e:Expr} {te:TE}
theorem fR (h:X.N.Nodup) (a:autoParam (X.N[i]?=some x) za_._auto_1) (b:Loc X.env.scope x:=by exact lc rfl) (H:autoParam (X.fn x=true\/X.env.scope.names.lookup x=some .local) zd_._auto_1):PG X (.Name x pos) (vG i):=E1 h a b H
theorem ky (h:X.N.Nodup:=by dsimp only [c6];decide +kernel) (a:autoParam (X.N[i]?=some x) za_._auto_1) (b:Loc X.env.scope x:=by exact lc rfl) (H:autoParam (X.fn x=true\/X.env.scope.names.lookup x=some .local) zd_._auto_1):PG X (.Name x pos) (vG i):=E1 h a b H
theorem dD (h:X.N.Nodup) (H:PE X e te) (b:autoParam (X.N[i]?=some x) za_._auto_1) (d:Loc X.env.scope x:=by exact lc rfl) (c:autoParam (swapsWith e (some (.Name x pos')) pos.line X.env=pure false) za_._auto_1) (a:autoParam (X.fn x=true\/X.env.scope.names.lookup x=some .local) zd_._auto_1):PS X (.Assign [.Name x pos'] e pos) (J8 te (vG i)):=QP h b d H c a
end
end L2
namespace K72
open PySem PySem.Spec PyProof.Rows L2 Mth
seal PE PS xA PPs PA PG RG PT On PI
noncomputable def top (i:Nat):Stmt:=PySem.Challenge.pw_stoke_k72_whole_rank_by_parts.main.body.getD i (.Pass ⟨0,0,0,0⟩)
abbrev qB:Stmt:=top 1
theorem Bx:aD ["bits","room"] ["bits","room"] (av qB):=fq
abbrev m7:Stmt:=top 2
theorem zt:aD ["bits","room"] ["bits","room"] (av m7):=fq
abbrev pY:Stmt:=top 3
theorem Bj:aD ["bits"] ["bits"] (av pY):=fq
abbrev tH:Stmt:=top 4
theorem Ec:aD ["bits"] ["bits"] (av tH):=fq
abbrev sW:Stmt:=top 5
theorem lY:aD ["bits","parts","room"] ["bits"] (av sW):=fq
abbrev tV:Stmt:=top 6
theorem lW:aD ["rooms","bits","room"] ["rooms"] (av tV):=fq
abbrev EZ:Stmt:=inClass (top 18) 0
abbrev Dx:Stmt:=inClass (top 19) 0
abbrev qa:Stmt:=top 21
theorem fX:aD ["hold","state","bands","burning","waits","failed","heap","many"] ["hold","state"] (av qa):=fq
abbrev ou:Stmt:=top 22
theorem gp:aD ["hold","state","room","bands","burning","waits","failed","heap"] ["hold","state","room"] (av ou):=fq
abbrev mw:Stmt:=top 23
theorem lh:aD ["stove","fired","wait","failed","stay","fails"] ["stove","fired","wait","failed"] (av mw):=fq
abbrev jD:Stmt:=top 24
theorem sG:aD ["hold","state"] ["hold","state"] (av jD):=fq
abbrev mL:Stmt:=top 25
theorem xL:aD ["hold"] ["hold"] (av mL):=fq
abbrev sC:Stmt:=top 26
theorem Dz:aD ["hold","bits"] ["hold","bits"] (av sC):=fq
abbrev nL:Stmt:=top 27
theorem zZ:aD ["state"] ["state"] (av nL):=fq
abbrev qi:Stmt:=top 28
theorem Cu:aD ["hold","order","heap"] ["hold","order","heap"] (av qi):=fq
abbrev ni:Stmt:=top 29
theorem mC:aD ["hold","state","held","going_on"] ["hold","state"] (av ni):=fq
abbrev sx:Stmt:=top 30
theorem wA:aD ["hold","state","order","lit"] ["hold","state","order"] (av sx):=fq
abbrev jp:Stmt:=top 31
theorem fe:aD ["hold","state","order","out","burning","waits","failed","heap"] ["hold","state","order","out"] (av jp):=fq
abbrev kU:Stmt:=top 32
theorem wF:aD ["hold","state","burning","room"] ["hold","state","burning","room"] (av kU):=fq
abbrev ju:Stmt:=top 33
theorem sT:aD ["state","burning","out","room"] ["state","burning","out","room"] (av ju):=fq
abbrev tK:Stmt:=top 37
theorem iQ:aD ["one","other","greater","lesser","rest"] ["one","other"] (av tK):=fq
abbrev qC:Stmt:=top 38
theorem oq:aD ["top","bottom","common"] ["top","bottom"] (av qC):=fq
abbrev Dv:Stmt:=top 39
theorem ML:aD ["one","other"] ["one","other"] (av Dv):=fq
abbrev zu:Stmt:=top 40
theorem KR:aD ["one","other"] ["one","other"] (av zu):=fq
abbrev Ab:Stmt:=top 41
theorem BO:aD ["one","other"] ["one","other"] (av Ab):=fq
abbrev hV:Stmt:=top 43
theorem cp:aD ["pairs","top","bottom","one","other","below"] ["pairs"] (av hV):=fq
abbrev nE:Stmt:=top 44
theorem rS:aD ["hold","room","airs","weather","fired","pairs"] ["hold","room","airs","weather","fired"] (av nE):=fq
abbrev sD:Stmt:=top 45
theorem j4:aD ["hold","room","bands","fired","low","high","lows","highs"] ["hold","room","bands","fired"] (av sD):=fq
abbrev sg:Stmt:=top 46
theorem wy:aD ["hold","room","least","greatest","marks"] ["hold","room","least","greatest"] (av sg):=fq
abbrev vz:Stmt:=top 47
theorem yl:aD ["hold","room","least","greatest","marks"] ["hold","room","least","greatest"] (av vz):=fq
abbrev kR:Stmt:=top 49
theorem fh:aD ["rows","choices","row","longer","choice"] ["rows"] (av kR):=fq
abbrev iO:Stmt:=inClass (top 50) 0
theorem qQ:aD ["self","hold"] ["self","hold"] (av iO):=fq
abbrev fN:Stmt:=inClass (top 50) 1
theorem cx:aD ["self","state","order","states","out","burning","rows","stoves"] ["self","state","order"] (av fN):=fq
abbrev jX:Stmt:=inClass (top 50) 2
theorem fK:aD ["self","room","bands","fired","key","least","greatest","safe"] ["self","room","bands","fired"] (av jX):=fq
abbrev lS:Stmt:=top 52
theorem uc:aD ["hold","states","limit","game"] ["hold","states","limit"] (av lS):=fq
abbrev sy:Stmt:=top 53
theorem Ed:aD ["hold","state"] ["hold","state"] (av sy):=fq
abbrev jq:Stmt:=inClass (top 54) 0
theorem iS:aD ["self","hold","states","limit","state"] ["self","hold","states","limit"] (av jq):=fq
abbrev mI:Stmt:=inClass (top 54) 1
theorem iZ:aD ["self","hold","reach","state","orders"] ["self","hold"] (av mI):=fq
abbrev jA:Stmt:=inClass (top 54) 2
theorem tN:aD ["self","states"] ["self","states"] (av jA):=fq
abbrev np:Stmt:=inClass (top 54) 3
theorem zl:aD ["self","state"] ["self","state"] (av np):=fq
abbrev jE:Stmt:=top 55
theorem c5:aD ["rows","ahead","place","choices","number","row","behind"] ["rows"] (av jE):=fq
abbrev iJ:Stmt:=inClass (top 56) 0
theorem eM:aD ["self","game","place","choices","number","row"] ["self","game"] (av iJ):=fq
abbrev jr:Stmt:=inClass (top 56) 1
theorem dS:aD ["self","ahead","done","here","place","number"] ["self","ahead"] (av jr):=fq
abbrev oC:Stmt:=inClass (top 56) 2
theorem zF:aD ["self","place","number","lasting"] ["self","place","number","lasting"] (av oC):=fq
abbrev jx:Stmt:=top 68
theorem tR:aD ["thing","greatest"] ["thing","greatest"] (av jx):=fq
abbrev nW:Stmt:=top 69
theorem Ae:aD ["marks"] ["marks"] (av nW):=fq
abbrev iR:Stmt:=top 70
theorem fO:aD ["rows","product","marks"] ["rows"] (av iR):=fq
abbrev gK:Stmt:=inClass (top 71) 0
theorem sM:aD ["self","most","cap","load"] ["self","most","cap","load"] (av gK):=fq
abbrev jz:Stmt:=inClass (top 71) 1
theorem lI:aD ["self","marks","rows"] ["self","marks"] (av jz):=fq
abbrev jv:Stmt:=inClass (top 71) 2
theorem ss:aD ["self","into","of","share"] ["self","into","of","share"] (av jv):=fq
abbrev j7:Stmt:=inClass (top 71) 3
theorem uz:aD ["self","room","share","low","high"] ["self","room","share","low","high"] (av j7):=fq
abbrev gn:Stmt:=inClass (top 71) 4
theorem qO:aD ["self","room","heat","wood","stay","fails"] ["self","room","heat","wood","stay","fails"] (av gn):=fq
abbrev ox:Stmt:=inClass (top 71) 5
theorem zq:aD ["self"] ["self"] (av ox):=fq
abbrev mK:Stmt:=inClass (top 71) 6
theorem xP:aD ["self","room"] ["self","room"] (av mK):=fq
abbrev ma:Stmt:=inClass (top 71) 7
theorem xu:aD ["self","into","of"] ["self","into","of"] (av ma):=fq
abbrev qG:Stmt:=inClass (top 71) 8
theorem BB:aD ["self","room"] ["self","room"] (av qG):=fq
abbrev md:Stmt:=inClass (top 71) 9
theorem xp:aD ["self","room"] ["self","room"] (av md):=fq
abbrev iV:Stmt:=inClass (top 71) 10
theorem fP:aD ["self","room","rest","other"] ["self","room"] (av iV):=fq
abbrev jy:Stmt:=inClass (top 71) 11
theorem tz:aD ["self","room"] ["self","room"] (av jy):=fq
abbrev ge:Stmt:=inClass (top 71) 12
theorem iG:aD ["self","room","share","former","free"] ["self","room","share","former"] (av ge):=fq
abbrev kL:Stmt:=top 72
theorem qZ:aD ["hold","most","cap","load","like"] ["hold","most","cap","load"] (av kL):=fq
abbrev qA:Stmt:=top 74
theorem nI:aD ["hold","parts","room"] ["hold"] (av qA):=fq
abbrev tE:Stmt:=top 75
theorem ko:aD ["hold","room","part","done","other"] ["hold","room"] (av tE):=fq
abbrev iH:Stmt:=top 76
theorem rB:aD ["hold","one","other"] ["hold","one","other"] (av iH):=fq
abbrev lP:Stmt:=top 77
theorem gE:aD ["hold","rooms","room","only","place"] ["hold","rooms"] (av lP):=fq
abbrev hG:Stmt:=top 78
theorem gO:aD ["hold","rooms","others","room"] ["hold","rooms"] (av hG):=fq
abbrev nJ:Stmt:=top 79
theorem cO:aD ["only","place","hold","rooms","room","of","other","share","low","high","heat","wood","stay","fails"] ["only","place","hold","rooms"] (av nJ):=fq
abbrev tU:Stmt:=top 80
theorem gP:aD ["state","rooms","bands","burning","waits","failed","heap","bits"] ["state","rooms"] (av tU):=fq
abbrev wC:Stmt:=top 81
theorem HK:aD ["row","rooms"] ["row","rooms"] (av wC):=fq
abbrev lO:Stmt:=top 82
theorem kW:aD ["hold","state","parts","ranks"] ["hold","state"] (av lO):=fq
abbrev kr:Stmt:=top 83
theorem mR:aD ["hold","stoves"] ["hold"] (av kr):=fq
abbrev ly:Stmt:=top 85
theorem wB:aD ["_law_script","_law_k"] ["_law_script","_law_k"] (av ly):=fq
abbrev tP:Stmt:=top 86
theorem wI:aD ["_law_cell","_law_k","_law_turn","_law_prime"] ["_law_cell","_law_k","_law_turn"] (av tP):=fq
abbrev qw:Stmt:=top 87
theorem gW:aD ["_law_top","_law_bottom","_law_one","_law_other","_law_rest"] ["_law_top","_law_bottom"] (av qw):=fq
abbrev nl:Stmt:=top 88
theorem mq:aD ["_law_cell","_law_far"] ["_law_cell"] (av nl):=fq
abbrev pR:Stmt:=top 89
theorem Ce:aD ["_law_steps","_law_scale_here"] ["_law_steps","_law_scale_here"] (av pR):=fq
abbrev nV:Stmt:=top 90
theorem ce:aD ["_law_cell","_law_many","_law_bands","_law_rooms_here","_law_k","_law_marks","_law_j","_law_below","_law_share","_law_low","_law_high","_law_heat","_law_stove"] ["_law_cell","_law_many","_law_bands"] (av nV):=fq
abbrev pV:Stmt:=top 91
theorem ga:aD ["_law_rooms_here","_law_scale_here","_law_bounds","_law_flows","_law_hold_here","_law_one","_law_k","_law_share","_law_stove","_law_j"] ["_law_rooms_here","_law_scale_here","_law_bounds","_law_flows"] (av pV):=fq
abbrev nP:Stmt:=top 92
theorem cS:aD ["_law_rooms_here","_law_bounds","_law_cell","_law_k","_law_bands","_law_waits","_law_failed","_law_burning","_law_lit","_law_j","_law_stove","_law_x"] ["_law_rooms_here","_law_bounds","_law_cell","_law_k"] (av nP):=fq
abbrev nC:Stmt:=top 93
theorem dH:aD ["_law_script","_law_most_bands","_law_first","_law_many","_law_bounds","_law_rooms_here","_law_hold_here","_law_pairs","_law_into","_law_out"] ["_law_script","_law_most_bands"] (av nC):=fq
abbrev si:Stmt:=top 94
theorem pT:aD ["_law_hold_here","_law_rooms_here","_law_k","_law_stove"] ["_law_hold_here","_law_rooms_here"] (av si):=fq
abbrev qe:Stmt:=top 95
theorem jd:aD ["_law_cell","_law_hold_here","_law_bands","_law_begun","_law_many"] ["_law_cell"] (av qe):=fq
abbrev EU:Stmt:=top 96
theorem gz:aD ["_law_script","_law_drawn","_law_rooms_here","_law_bounds","_law_stoves","_law_hold_here","_law_state_here","_law_found","_law_ranks","_law_some","_law_one","_law_finite","_law_low","_law_x","_law_stove","_law_again"] ["_law_script"] (av EU):=fq
structure Ads where
 aY:ak
 Reach:ak
 dB:ak
 dZ:ak
 jT:ak
 yF:ak
 jt:ak
 iW:ak
 pZ:ak
 mY:ak
structure Txt (K:aF) (mg:eV) (A:Ads):Prop where
 As:mg "Hold" = some (.ref A.aY)
 Mz:mg "Reach" = some (.ref A.Reach)
 Pl:mg "Game" = some (.ref A.dB)
 NA:mg "Ranks" = some (.ref A.dZ)
 iu:mg "NOUGHT" = some (.ref A.jT)
 ER:mg "WHOLE" = some (.ref A.yF)
 xT:∃ t,mg "LEAST_MARKS" = some (.int 2 t)
 zw:∃ t,mg "MOST_BANDS" = some (.int 400 t)
 vw:∃ t,mg "MOST_BURNING" = some (.int 4 t)
 Dq:∃ t,mg "MOST_CAP" = some (.int 30 t)
 yU:∃ t,mg "MOST_FAILS" = some (.int 3 t)
 BS:∃ t,mg "MOST_LOAD" = some (.int 30 t)
 zr:∃ t,mg "MOST_MARKS" = some (.int 7 t)
 zf:∃ t,mg "MOST_ROOMS" = some (.int 4 t)
 CL:∃ t,mg "MOST_STAY" = some (.int 3 t)
 AY:∃ t,mg "MOST_WOOD" = some (.int 9 t)
 kj:DA K A.jT [.int 0,.int 1]
 Ft:DA K A.yF [.int 1,.int 1]
 az:Cf K A.aY
 uX:G3 K A.aY
 gf:dM K A.aY "most"
 jb:dM K A.aY "cap"
 jQ:dM K A.aY "load"
 cQ:dM K A.aY "mark_rows"
 fL:dM K A.aY "flows"
 dP:dM K A.aY "skies"
 fj:dM K A.aY "stoves"
 uU:gZ K A.aY "__init__" "Hold.__init__" gK (.ref A.jt)
 uw:GA K A.jt [.int 4,.int 0,.int 0]
 uE:gZ K A.aY "put_room" "Hold.put_room" jz .none
 uA:gZ K A.aY "put_flow" "Hold.put_flow" jv .none
 vR:gZ K A.aY "put_sky" "Hold.put_sky" j7 .none
 sY:gZ K A.aY "put_stove" "Hold.put_stove" gn (.ref A.iW)
 sO:GA K A.iW [.int 0,.int 0,.int 0]
 Bm:gZ K A.aY "many" "Hold.many" ox .none
 zb:gZ K A.aY "marks" "Hold.marks" mK .none
 yX:gZ K A.aY "share" "Hold.share" ma .none
 DZ:gZ K A.aY "sky" "Hold.sky" qG .none
 yW:gZ K A.aY "stove" "Hold.stove" md .none
 rX:gZ K A.aY "own_share" "Hold.own_share" iV .none
 uG:gZ K A.aY "look_for" "Hold.look_for" jy .none
 oi:gZ K A.aY "look_at_share" "Hold.look_at_share" ge .none
 eE:Cf K A.Reach
 Kp:G3 K A.Reach
 eR:dM K A.Reach "hold"
 ff:dM K A.Reach "spreads"
 sV:gZ K A.Reach "__init__" "Reach.__init__" iO .none
 mW:gZ K A.Reach "states_behind" "Reach.states_behind" fN .none
 wY:gZ K A.Reach "spread" "Reach.spread" jX .none
 cy:Cf K A.dB
 Nv:G3 K A.dB
 fW:dM K A.dB "met"
 m6:dM K A.dB "orders"
 eG:dM K A.dB "rows"
 hJ:dM K A.dB "places"
 pG:dM K A.dB "limit"
 uO:gZ K A.dB "__init__" "Game.__init__" jq .none
 zE:gZ K A.dB "go_on" "Game.go_on" mI .none
 uC:gZ K A.dB "meet_all" "Game.meet_all" jA .none
 Bv:gZ K A.dB "meet" "Game.meet" np .none
 cR:Cf K A.dZ
 Kb:G3 K A.dZ
 jU:dM K A.dZ "lasts"
 ik:dM K A.dZ "going"
 fU:dM K A.dZ "ranks"
 ip:dM K A.dZ "queue"
 tS:gZ K A.dZ "__init__" "Ranks.__init__" iJ .none
 uV:gZ K A.dZ "go_back" "Ranks.go_back" jr .none
 Ct:gZ K A.dZ "end" "Ranks.end" oC .none
 DQ:gS K mg "has_room" qB
 Be:gS K mg "with_room" m7
 EG:gS K mg "how_many" pY
 GL:gS K mg "members" tH
 HY:gS K mg "subsets" sW
 HL:gS K mg "bits_of" tV
 DO:gS K mg "is_state" qa
 Bp:gS K mg "fits_room" ou
 Ao:gS K mg "fits_stove" mw
 uK:gS K mg "look_at_state" jD
 zx:gS K mg "with_stove" mL
 Ib:gS K mg "wood_of" sC
 BX:gS K mg "must_stay" nL
 C8:gS K mg "can_burn" qi
 AM:gS K mg "orders_of" ni
 Ht:gS K mg "failing" sx
 uM:gS K mg "stoves_behind" jp
 xQ:gS K mg "wait_behind" kU
 uT:gS K mg "failed_behind" ju
 G5:gS K mg "divisor" tK
 En:gS K mg "fraction" qC
 Ps:gS K mg "plus" Dv
 Nh:gS K mg "minus" zu
 Fp:gS K mg "under" Ab
 rg:gS K mg "sum_of_products" hV
 Bo:gS K mg "warmth_of" nE
 Hy:gS K mg "span_of" sD
 Hr:gS K mg "touched" sg
 IG:gS K mg "within" vz
 xH:gS K mg "each_choice" kR
 Da:Ln K mg "ranks_of" lS (.ref A.pZ)
 Dr:GA K A.pZ [.int 2000]
 HE:gS K mg "rank_of" sy
 uQ:gS K mg "choices_ahead" jE
 uF:gS K mg "is_whole_upto" jx
 Bf:gS K mg "is_rising" nW
 tW:gS K mg "bands_together" iR
 Bw:Ln K mg "hold_like" kL (.ref A.mY)
 tY:GA K A.mY [.cN,.cN,.cN]
 Et:gS K mg "parts_of" qA
 G9:gS K mg "part_of" tE
 tI:gS K mg "takes_or_gives" iH
 Al:gS K mg "only_rooms" lP
 rJ:gS K mg "look_for_others" hG
 Cv:gS K mg "put_alike" nJ
 GD:gS K mg "portion" tU
 JM:gS K mg "chosen" wC
 Aa:gS K mg "rank_apart" lO
 wg:gS K mg "stoves_share" kr
 xB:gS K mg "_law_cell_at" ly
 Hx:gS K mg "_law_mix" tP
 Ef:gS K mg "_law_part" qw
 BI:gS K mg "_law_scale" nl
 Df:gS K mg "_law_warm" pR
 BA:gS K mg "_law_rooms" nV
 Ez:gS K mg "_law_hold" pV
 Ci:gS K mg "_law_state" nP
 Cc:gS K mg "_law_apart" nC
 GZ:gS K mg "_law_dry" si
 EI:gS K mg "_law_wide" qe
 SY:gS K mg "law" EU
 KL:mg "abs" = none
 N3:mg "all" = none
 Oa:mg "any" = none
 Iw:mg "bool" = none
 J5:mg "dict" = none
 dg:mg "enumerate" = none
 BH:mg "int" = none
 jK:mg "isinstance" = none
 fc:mg "len" = none
 zp:mg "list" = none
 FQ:mg "max" = none
 JT:mg "min" = none
 c9:mg "range" = none
 Ks:mg "sorted" = none
 UR:mg "sum" = none
 kN:mg "tuple" = none
 Ot:mg "zip" = none
abbrev u0 (K:aF) (C:ak) (x y:Str) (s:Stmt) (v:ay):Prop:=∃ f b c d e g h i j n,W.findIn K (.ref C) x=some (some (.ref f))/\W.isFn K (.ref f)=true/\K.lookup f=some ⟨b,c,.func (W.fnOf x y (ed s) (cC s) (av s) v d e g h i j),n⟩/\W.codeIn K i y=true/\W.keepIn K (.ref f)=true
abbrev hC (K:aF) (x:Str) (s:Stmt) (v:ay):Prop:=∃ f b c d e g h i j n,W.nsIn K mainGlobals x=some (some (.ref f))/\K.lookup f=some ⟨b,c,.func (W.fnOf x x (ed s) (cC s) (av s) v d e g h i j),n⟩/\W.codeIn K i x=true/\W.keepIn K (.ref f)=true
theorem j9 {K:aF} {C:ak} {x y:Str} {s:Stmt} {v:ay} (q:u0 K C x y s v):gZ K C x y s v:=by
 obtain ⟨f,Z,Z,Z,Z,Z,Z,Z,Z,Z,a,b,c,d,e⟩:=q;exact ⟨f,_,⟨a,b,e⟩,Fu (st:=s) c d e⟩
theorem Um {K:aF} {h:bx} {m:Str->kY} (X:K.In h) (G:h.Ns mainGlobals m) {x:Str} {s:Stmt} {v:ay} (q:hC K x s v):Ln K m x s v:=by
 obtain ⟨f,Z,Z,Z,Z,Z,Z,Z,Z,Z,a,c,d,e⟩:=q;exact ⟨f,_,aez X G a,Fu (st:=s) c d e⟩
theorem cV {K:aF} {h:bx} {m:Str->kY} (X:K.In h) (G:h.Ns mainGlobals m) {x:Str} {s:Stmt} (q:hC K x s .none):gS K m x s:=by
 obtain ⟨f,Z,Z,Z,Z,Z,Z,Z,Z,Z,a,c,d,e⟩:=q;exact ⟨f,_,aez X G a,Py (st:=s) c d e⟩
abbrev kq_ (K:W.Frag) (a:Addr):Prop:=W.keepIn K (.ref a)=true
abbrev kn_ (K:W.Frag) (x:Str) (a:Addr):Prop:=W.nsIn K mainGlobals x=some (some (.ref a))
theorem txt_mk {K:aF} {h:bx} {mg:eV} (X:K.In h) (G:h.Ns mainGlobals mg)
 {a d b c e f g i j k:ak}
 {l m n o p q r s t u v w x y z A B C D E F:Tok}
 {H I J L M N:Option ak}
 {O P Q R S T:Nat}
 {U V Y Z aa ab:Array (kY)}
 {ac ad ae af:ay}
 (ag:kn_ K "Hold" a)
 (ah:kn_ K "Reach" d)
 (ai:kn_ K "Game" b)
 (aj:kn_ K "Ranks" c)
 (al:kn_ K "NOUGHT" e)
 (am:kn_ K "WHOLE" f)
 (an:W.nsIn K mainGlobals "LEAST_MARKS" = some (some (.int 2 l)))
 (ao:W.nsIn K mainGlobals "MOST_BANDS" = some (some (.int 400 m)))
 (ap:W.nsIn K mainGlobals "MOST_BURNING" = some (some (.int 4 n)))
 (aq:W.nsIn K mainGlobals "MOST_CAP" = some (some (.int 30 o)))
 (ar:W.nsIn K mainGlobals "MOST_FAILS" = some (some (.int 3 p)))
 (au:W.nsIn K mainGlobals "MOST_LOAD" = some (some (.int 30 q)))
 (av:W.nsIn K mainGlobals "MOST_MARKS" = some (some (.int 7 r)))
 (aw:W.nsIn K mainGlobals "MOST_ROOMS" = some (some (.int 4 s)))
 (ax:W.nsIn K mainGlobals "MOST_STAY" = some (some (.int 3 t)))
 (az:W.nsIn K mainGlobals "MOST_WOOD" = some (some (.int 9 u)))
 (aA:K.lookup e=some ⟨.type "tuple",H,.seq #[.int 0 v,.int 1 w] O,U⟩)
 (aB:K.lookup f=some ⟨.type "tuple",I,.seq #[.int 1 x,.int 1 y] P,V⟩)
 (aC:W.plainGet K a Str.empty=true)
 (aD:W.hasDictIn K a=true)
 (aE:W.plainOver K a=true)
 (aG:W.findIn K (.ref a) "__setattr__" = some (some (.builtin "object.__setattr__")))
 (aH:W.makesIn K a=true)
 (aI:kq_ K a)
 (aJ:W.findIn K (.ref a) "most" = some none)
 (aK:W.findIn K (.ref a) "cap" = some none)
 (aL:W.findIn K (.ref a) "load" = some none)
 (aM:W.findIn K (.ref a) "mark_rows" = some none)
 (aN:W.findIn K (.ref a) "flows" = some none)
 (aO:W.findIn K (.ref a) "skies" = some none)
 (aP:W.findIn K (.ref a) "stoves" = some none)
 (aQ:u0 K a "__init__" "Hold.__init__" gK (.ref g))
 (aR:K.lookup g=some ⟨ac,J,.seq #[.int 4 z,.int 0 A,.int 0 B] Q,Y⟩)
 (aS:u0 K a "put_room" "Hold.put_room" jz .none)
 (aT:u0 K a "put_flow" "Hold.put_flow" jv .none)
 (aU:u0 K a "put_sky" "Hold.put_sky" j7 .none)
 (aV:u0 K a "put_stove" "Hold.put_stove" gn (.ref i))
 (aW:K.lookup i=some ⟨ad,L,.seq #[.int 0 C,.int 0 D,.int 0 E] R,Z⟩)
 (aX:u0 K a "many" "Hold.many" ox .none)
 (aY:u0 K a "marks" "Hold.marks" mK .none)
 (aZ:u0 K a "share" "Hold.share" ma .none)
 (a0:u0 K a "sky" "Hold.sky" qG .none)
 (a1:u0 K a "stove" "Hold.stove" md .none)
 (a2:u0 K a "own_share" "Hold.own_share" iV .none)
 (a3:u0 K a "look_for" "Hold.look_for" jy .none)
 (a4:u0 K a "look_at_share" "Hold.look_at_share" ge .none)
 (a5:W.plainGet K d Str.empty=true)
 (a6:W.hasDictIn K d=true)
 (a7:W.plainOver K d=true)
 (a8:W.findIn K (.ref d) "__setattr__" = some (some (.builtin "object.__setattr__")))
 (a9:W.makesIn K d=true)
 (ba:kq_ K d)
 (bb:W.findIn K (.ref d) "hold" = some none)
 (bc:W.findIn K (.ref d) "spreads" = some none)
 (bd:u0 K d "__init__" "Reach.__init__" iO .none)
 (be:u0 K d "states_behind" "Reach.states_behind" fN .none)
 (bf:u0 K d "spread" "Reach.spread" jX .none)
 (bg:W.plainGet K b Str.empty=true)
 (bh:W.hasDictIn K b=true)
 (bi:W.plainOver K b=true)
 (bj:W.findIn K (.ref b) "__setattr__" = some (some (.builtin "object.__setattr__")))
 (bk:W.makesIn K b=true)
 (bl:kq_ K b)
 (bm:W.findIn K (.ref b) "met" = some none)
 (bn:W.findIn K (.ref b) "orders" = some none)
 (bo:W.findIn K (.ref b) "rows" = some none)
 (bp:W.findIn K (.ref b) "places" = some none)
 (bq:W.findIn K (.ref b) "limit" = some none)
 (br:u0 K b "__init__" "Game.__init__" jq .none)
 (bs:u0 K b "go_on" "Game.go_on" mI .none)
 (bt:u0 K b "meet_all" "Game.meet_all" jA .none)
 (bu:u0 K b "meet" "Game.meet" np .none)
 (bv:W.plainGet K c Str.empty=true)
 (bw:W.hasDictIn K c=true)
 (bz:W.plainOver K c=true)
 (bA:W.findIn K (.ref c) "__setattr__" = some (some (.builtin "object.__setattr__")))
 (bB:W.makesIn K c=true)
 (bC:kq_ K c)
 (bD:W.findIn K (.ref c) "lasts" = some none)
 (bE:W.findIn K (.ref c) "going" = some none)
 (bF:W.findIn K (.ref c) "ranks" = some none)
 (bG:W.findIn K (.ref c) "queue" = some none)
 (bH:u0 K c "__init__" "Ranks.__init__" iJ .none)
 (bI:u0 K c "go_back" "Ranks.go_back" jr .none)
 (bJ:u0 K c "end" "Ranks.end" oC .none)
 (bK:hC K "has_room" qB .none)
 (bL:hC K "with_room" m7 .none)
 (bM:hC K "how_many" pY .none)
 (bN:hC K "members" tH .none)
 (bO:hC K "subsets" sW .none)
 (bP:hC K "bits_of" tV .none)
 (bQ:hC K "is_state" qa .none)
 (bR:hC K "fits_room" ou .none)
 (bS:hC K "fits_stove" mw .none)
 (bT:hC K "look_at_state" jD .none)
 (bU:hC K "with_stove" mL .none)
 (bV:hC K "wood_of" sC .none)
 (bW:hC K "must_stay" nL .none)
 (bX:hC K "can_burn" qi .none)
 (bY:hC K "orders_of" ni .none)
 (bZ:hC K "failing" sx .none)
 (b0:hC K "stoves_behind" jp .none)
 (b1:hC K "wait_behind" kU .none)
 (b2:hC K "failed_behind" ju .none)
 (b3:hC K "divisor" tK .none)
 (b4:hC K "fraction" qC .none)
 (b5:hC K "plus" Dv .none)
 (b6:hC K "minus" zu .none)
 (b7:hC K "under" Ab .none)
 (b8:hC K "sum_of_products" hV .none)
 (b9:hC K "warmth_of" nE .none)
 (ca:hC K "span_of" sD .none)
 (cb:hC K "touched" sg .none)
 (cc:hC K "within" vz .none)
 (cd:hC K "each_choice" kR .none)
 (ce:hC K "ranks_of" lS (.ref j))
 (cf:K.lookup j=some ⟨ae,M,.seq #[.int 2000 F] S,aa⟩)
 (cg:hC K "rank_of" sy .none)
 (ch:hC K "choices_ahead" jE .none)
 (ci:hC K "is_whole_upto" jx .none)
 (cj:hC K "is_rising" nW .none)
 (ck:hC K "bands_together" iR .none)
 (cl:hC K "hold_like" kL (.ref k))
 (cm:K.lookup k=some ⟨af,N,.seq #[.none,.none,.none] T,ab⟩)
 (cn:hC K "parts_of" qA .none)
 (co:hC K "part_of" tE .none)
 (cp:hC K "takes_or_gives" iH .none)
 (cq:hC K "only_rooms" lP .none)
 (cr:hC K "look_for_others" hG .none)
 (cs:hC K "put_alike" nJ .none)
 (ct:hC K "portion" tU .none)
 (cu:hC K "chosen" wC .none)
 (cv:hC K "rank_apart" lO .none)
 (cw:hC K "stoves_share" kr .none)
 (cx:hC K "_law_cell_at" ly .none)
 (cy:hC K "_law_mix" tP .none)
 (cz:hC K "_law_part" qw .none)
 (cA:hC K "_law_scale" nl .none)
 (cB:hC K "_law_warm" pR .none)
 (cC:hC K "_law_rooms" nV .none)
 (cD:hC K "_law_hold" pV .none)
 (cE:hC K "_law_state" nP .none)
 (cF:hC K "_law_apart" nC .none)
 (cG:hC K "_law_dry" si .none)
 (cH:hC K "_law_wide" qe .none)
 (cI:hC K "law" EU .none)
 (cJ:W.nsIn K mainGlobals "abs" = some none)
 (cK:W.nsIn K mainGlobals "all" = some none)
 (cL:W.nsIn K mainGlobals "any" = some none)
 (cM:W.nsIn K mainGlobals "bool" = some none)
 (cN:W.nsIn K mainGlobals "dict" = some none)
 (cO:W.nsIn K mainGlobals "enumerate" = some none)
 (cP:W.nsIn K mainGlobals "int" = some none)
 (cQ:W.nsIn K mainGlobals "isinstance" = some none)
 (cR:W.nsIn K mainGlobals "len" = some none)
 (cS:W.nsIn K mainGlobals "list" = some none)
 (cT:W.nsIn K mainGlobals "max" = some none)
 (cU:W.nsIn K mainGlobals "min" = some none)
 (cW:W.nsIn K mainGlobals "range" = some none)
 (cX:W.nsIn K mainGlobals "sorted" = some none)
 (cY:W.nsIn K mainGlobals "sum" = some none)
 (cZ:W.nsIn K mainGlobals "tuple" = some none)
 (c0:W.nsIn K mainGlobals "zip" = some none)
 : Txt K mg ⟨a,d,b,c,e,f,g,i,j,k⟩ :=
⟨aez X G ag,
aez X G ah,
aez X G ai,
aez X G aj,
aez X G al,
aez X G am,
⟨_,aez X G an⟩,
⟨_,aez X G ao⟩,
⟨_,aez X G ap⟩,
⟨_,aez X G aq⟩,
⟨_,aez X G ar⟩,
⟨_,aez X G au⟩,
⟨_,aez X G av⟩,
⟨_,aez X G aw⟩,
⟨_,aez X G ax⟩,
⟨_,aez X G az⟩,
Ol aA,
Ol aB,
⟨aC,aD,aE,aG⟩,
⟨aH,aI⟩,
aJ,
aK,
aL,
aM,
aN,
aO,
aP,
j9 aQ,
⟨_,_,_,aR,rfl,(.cons ⟨_,rfl⟩ (.cons ⟨_,rfl⟩ (.cons ⟨_,rfl⟩ .nil)))⟩,
j9 aS,
j9 aT,
j9 aU,
j9 aV,
⟨_,_,_,aW,rfl,(.cons ⟨_,rfl⟩ (.cons ⟨_,rfl⟩ (.cons ⟨_,rfl⟩ .nil)))⟩,
j9 aX,
j9 aY,
j9 aZ,
j9 a0,
j9 a1,
j9 a2,
j9 a3,
j9 a4,
⟨a5,a6,a7,a8⟩,
⟨a9,ba⟩,
bb,
bc,
j9 bd,
j9 be,
j9 bf,
⟨bg,bh,bi,bj⟩,
⟨bk,bl⟩,
bm,
bn,
bo,
bp,
bq,
j9 br,
j9 bs,
j9 bt,
j9 bu,
⟨bv,bw,bz,bA⟩,
⟨bB,bC⟩,
bD,
bE,
bF,
bG,
j9 bH,
j9 bI,
j9 bJ,
cV X G bK,
cV X G bL,
cV X G bM,
cV X G bN,
cV X G bO,
cV X G bP,
cV X G bQ,
cV X G bR,
cV X G bS,
cV X G bT,
cV X G bU,
cV X G bV,
cV X G bW,
cV X G bX,
cV X G bY,
cV X G bZ,
cV X G b0,
cV X G b1,
cV X G b2,
cV X G b3,
cV X G b4,
cV X G b5,
cV X G b6,
cV X G b7,
cV X G b8,
cV X G b9,
cV X G ca,
cV X G cb,
cV X G cc,
cV X G cd,
Um X G ce,
⟨_,_,_,cf,rfl,(.cons ⟨_,rfl⟩ .nil)⟩,
cV X G cg,
cV X G ch,
cV X G ci,
cV X G cj,
cV X G ck,
Um X G cl,
⟨_,_,_,cm,rfl,(.cons rfl (.cons rfl (.cons rfl .nil)))⟩,
cV X G cn,
cV X G co,
cV X G cp,
cV X G cq,
cV X G cr,
cV X G cs,
cV X G ct,
cV X G cu,
cV X G cv,
cV X G cw,
cV X G cx,
cV X G cy,
cV X G cz,
cV X G cA,
cV X G cB,
cV X G cC,
cV X G cD,
cV X G cE,
cV X G cF,
cV X G cG,
cV X G cH,
cV X G cI,
ade X G cJ,
ade X G cK,
ade X G cL,
ade X G cM,
ade X G cN,
ade X G cO,
ade X G cP,
ade X G cQ,
ade X G cR,
ade X G cS,
ade X G cT,
ade X G cU,
ade X G cW,
ade X G cX,
ade X G cY,
ade X G cZ,
ade X G c0⟩
section
variable {P:bq} {w:bi} {K:aF} {mg:eV} {base:bx} {Ad:Ads}
def fY {lo:Int} {n:Nat} {g:TG} {tb:TS} {D:Ends} {U:L2.St} {H:Hp} (p:Nat->L2.St->Hp->Prop) (b:p 0 U H) (d:let G:Nat->L2.St->Hp->Prop:=λ i U H=>g (.int (lo+i)) U H λ a h=>tb { D with nx:=p (i+1),ct:=p (i+1),bk:=D.nx } a h
   ∀ (i:Nat) (U:L2.St) (H:Hp),i<n->p i U H->G i U H) (c:∀ U H,p n U H->D.nx U H):=sJ (lo:=lo) (n:=n) (g:=g) (tb:=tb) (D:=D) (U:=U) (H:=H) p b d c
def eA {K:aF} {a:ak} {xs:aB} {g:TG} {tb:TS} {D:Ends} {U:L2.St} {H:Hp} (p:Nat->L2.St->Hp->Prop) (c:p 0 U H) (e:∀ i U H,i<=xs.length->p i U H->aW K H a xs) (f:let G:Nat->V->L2.St->Hp->Prop:=λ i x U H=>g x U H λ b h=>tb { D with nx:=p (i+1),ct:=p (i+1),bk:=D.nx } b h
   ∀ (i:Nat) (x:V) (U:L2.St) (H:Hp),xs[i]?=some x->p i U H->G i x U H) (d:∀ U H,p xs.length U H->D.nx U H):=jZ (K:=K) (a:=a) (xs:=xs) (g:=g) (tb:=tb) (D:=D) (U:=U) (H:=H) p c e f d
theorem Ej (T:Txt K mg Ad):Def P w K mg base "divisor" 1 ["one","other"] Rv:=by
 refine T.G5.cW iQ λ Z Z Z Z Z H v Q E u h=>?_;obtain ⟨a,b,rfl,k⟩:=h;refine ⟨_,(ag (dD (i:=2) iQ.nd (aT se (by rfl) T.KL Ek (aa (pv 0) ac)))
     (ag (dD (i:=3) iQ.nd (aT se (by rfl) T.KL Ek (aa (pv 1) ac)))
     (ag (nu aa7 (aP pE (pv 3) ai (aQ _)) (ag (dD (i:=4) iQ.nd (aA bh (pv 2) (pv 3)))
     (ag (dD (i:=2) iQ.nd (pv 3))
     (ar (dD (i:=3) iQ.nd (pv 4))))))
     (ar (aO (pv 2)))))),?_⟩
 first|(refine gb ?_;intro Z Z Z Z Z)|skip
 refine ⟨_,rfl,λ G o=>⟨_,rfl,λ t p=>?_⟩⟩;refine ⟨λ m U d=>d=H/\E3 λ (g l:Int) (r:eU)=>A5 (U=[some (.int a),some (.int b),some (.int g),some (.int l),r]) (0<=g) (0<=l) (m=l.toNat) (Int.gcd g l=Int.gcd a b),
   ⟨_,rfl,G,t,none,rfl,by lia,by lia,rfl,by rw [o,p];rfl⟩,?_⟩
 rintro m U d ⟨rfl,g,l,r,rfl,f,s,rfl,e⟩;refine ⟨rfl,_,rfl,xK (λ h=>?_) (λ h=>?_)⟩
 .
  have L:0<l:=by rw [kH] at h;lia
  refine ⟨λ c I=>I=d/\c=[some (.int a),some (.int b),some (.int l),some (.int (g % l)),some (.int (g % l))],λ c I ⟨j,n⟩=>?_,?_⟩
  . have M:=afG g L;exact ⟨(g % l).toNat,by lia,j,l,g % l,_,n,s,agc g (by lia:l≠0),rfl,(ON f L).trans e⟩
  . refine ⟨L,λ r Z Z q=>?_⟩;subst q;exact ⟨rfl,rfl⟩
 .
  have L:=kH.mp h;subst L;refine (k g ?_);rw [<- e,UU f]
theorem nv (T:Txt K mg Ad):Def P w K mg base "fraction" 2 ["top","bottom"] Cj:=by
 refine T.En.cW oq λ Z Z Z Z Z H V Q E x h=>?_;obtain ⟨t,b,rfl,j,l,k⟩:=h;refine ⟨_,(ag (bA (aP fT (pv 1) ai (aQ _)) (ar cH) aR)
     (ag (dD (i:=2) oq.nd (au (Ej T) x.m (aa (pv 0) (aa (pv 1) ac))))
     (ag (kX (bA (aP kI (pv 1) ai (aQ _)) (ar (dD (i:=2) oq.nd (vS zW (pv 2)))) aR))
     (ar (aO (ca (aa (aA bJ (pv 0) (pv 2)) (aa (aA bJ (pv 1) (pv 2)) ac)))))))),?_⟩
 first|(refine gb ?_;intro Z Z Z Z Z)|skip
 refine ⟨rfl,_,rfl,sK (λ e=>j (kH.mp e)) ?_⟩;refine ⟨t,b,rfl,λ c n=>?_⟩;obtain ⟨y,z,F,fn⟩:=KI j n;have B:Bd 8999 c:=(l.le (by lia)).mono (by decide);refine ⟨λ a d=>d=H/\∃ C,A4 (C≠0) (Bd 8999 C) (Fr t b (t.fdiv C) (b.fdiv C)) (a=[some (.int t),some (.int b),some (.int C)]),?_,?_⟩
 . refine ⟨_,rfl,jL (λ h=>?_) (λ h=>?_)⟩
   . exact ⟨_,rfl,rfl,-c,by lia,B.neg,fn h,rfl⟩
   . exact ⟨rfl,c,by lia,B,F (by lia),rfl⟩
 .
  rintro a d ⟨rfl,C,f,g,u,rfl⟩;refine ⟨⟨f,g⟩,λ q o=>⟨⟨f,g⟩,λ r s=>⟨xF,λ p v=>?_⟩⟩⟩;subst o s;exact k _ _ p _ u (ap v) af
theorem LF (T:Txt K mg Ad):Def P w K mg base "plus" 3 ["one","other"] (BG (λ a b c d=>a * d+c * b) K):=by
 refine T.Ps.cW ML λ Z Z Z Z Z H V Q E r h=>?_;obtain ⟨s,v,a,b,c,d,rfl,f,g,i,D,j,B,l,e,k⟩:=h;refine ⟨_,(ar (aO (au (nv T) r.m (aa (aA bL (aA bM (aJ aC (pv 0) ai) (aJ aC (pv 1) ai)) (aA bM (aJ aC (pv 1) ai) (aJ aC (pv 0) ai))) (aa (aA bM (aJ aC (pv 0) ai) (aJ aC (pv 1) ai)) ac))))),⟨.inr f,rfl,.inr g,rfl,⟨_,_,j,e,by decide⟩,λ x n=>?_⟩⟩;refine ⟨.inr g,rfl,.inr f,rfl,⟨_,_,l,B,by decide⟩,λ X o=>(λ t p=>⟨.inr f,rfl,.inr g,rfl,⟨_,_,B,e,by decide⟩,λ u q=>?_⟩)⟩;subst n o p q;exact ⟨_,_,rfl,aeO (adf i D),(B.mul e).mono (by decide),k⟩
theorem BP (T:Txt K mg Ad):Def P w K mg base "minus" 3 ["one","other"] (BG (λ a b c d=>a * d - c * b) K):=by
 refine T.Nh.cW KR λ Z Z Z Z Z H V Q E r h=>?_;obtain ⟨s,v,a,b,c,d,rfl,f,g,i,D,j,B,l,e,k⟩:=h;refine ⟨_,(ar (aO (au (nv T) r.m (aa (aA fA (aA bM (aJ aC (pv 0) ai) (aJ aC (pv 1) ai)) (aA bM (aJ aC (pv 1) ai) (aJ aC (pv 0) ai))) (aa (aA bM (aJ aC (pv 0) ai) (aJ aC (pv 1) ai)) ac))))),⟨.inr f,rfl,.inr g,rfl,⟨_,_,j,e,by decide⟩,λ x n=>?_⟩⟩;refine ⟨.inr g,rfl,.inr f,rfl,⟨_,_,l,B,by decide⟩,λ X o=>(λ t p=>⟨.inr f,rfl,.inr g,rfl,⟨_,_,B,e,by decide⟩,λ u q=>?_⟩)⟩;subst n o p q;exact ⟨_,_,rfl,aeO (adf i D),(B.mul e).mono (by decide),k⟩
theorem j8 (T:Txt K mg Ad):Def P w K mg base "under" 1 ["one","other"] (Jz K):=by
 refine T.Fp.cW BO λ Z Z Z Z Z H v Q E n h=>?_;obtain ⟨p,o,a,b,c,d,rfl,e,f,B,g,i,j,k⟩:=h;refine ⟨_,(ar (aO (dL kI (aA bM (aJ aC (pv 0) ai) (aJ aC (pv 1) ai)) (aA bM (aJ aC (pv 1) ai) (aJ aC (pv 0) ai)) (aQ _)))),?_⟩;refine ⟨.inr e,rfl,.inr f,rfl,⟨_,_,B,j,by decide⟩,λ x l=>⟨.inr f,rfl,.inr e,rfl,⟨_,_,i,g,by decide⟩,λ X m=>?_⟩⟩;subst l m;exact k
theorem dR (T:Txt K mg Ad):Def P w K mg base "is_whole_upto" 1 ["thing","greatest"] LK:=by
 refine T.uF.cW tR λ Z Z Z Z Z H c Q E b h=>?_;obtain ⟨n,g,rfl,k⟩:=h;refine ⟨_,(ag (bA (PW.pt (uo (cP (aT kF (by rfl) T.jK i4 (aa (pv 0) (aa (vg (v:=V.ty "bool") rfl T.Iw Gj rfl) ac)))) (qD (fB (cP (aT kF (by rfl) T.jK i4 (aa (pv 0) (aa (vg (v:=V.ty "int") rfl T.BH vV rfl) ac)))))))) (ar (aO rQ)) aR)
     (ar (aO (KF kG kG ai (pv 0) (pv 1))))),⟨_,_,_,_,_,rfl,.int n,rfl,qM K,_,rfl,dk ⟨_,_,_,_,_,rfl,.int n,rfl,rfl,_,rfl,dk ?_⟩⟩⟩
 refine ⟨_,rfl,?_⟩;by_cases a:0<=n
 .
  refine uN a ?_;have:decide (n<=g)=decide (0<=n/\n<=g):=afb.mpr ⟨λ h=>⟨a,h⟩,λ h=>h.2⟩;show Q (V.bl (decide (n<=g))) H;rw [this];exact k
 .
  refine sK a ?_;have:decide (0<=n/\n<=g)=false:=aaR λ h=>a h.1;rw [this] at k;exact k
theorem cu (T:Txt K mg Ad):iK P w K mg base Ad.aY "many" 1 ["self"] [] (Mh K Ad.aY):=by
 refine T.Bm.gG zq λ Z Z Z Z Z H v Q E p h=>?_;obtain ⟨a,o,m,rfl,f,k⟩:=h;refine ⟨_,(ar (aO (aT bv (by rfl) T.fc cZ (aa (aU (pv 0) rfl) ac)))),?_⟩;obtain ⟨⟨l,x,u,y,z,V,v,vt,A,rfl,c,r,i,R,J,q,N,s,t,d,g,j,D,F⟩,B,C,G,I⟩:=f;refine ⟨c,T.az,T.cQ,rE ..,_,_,rfl,.inl (aW.of i),λ n b=>?_⟩;have e:n=m.rows.length:=by rw [b,d.length,Ea]
 rw [e];exact k
theorem bT (T:Txt K mg Ad):iK P w K mg base Ad.aY "look_for" 3 ["self","room"] [] (BD K Ad.aY):=by
 refine T.uG.gG tz λ Z Z Z Z Z H v Q E d h=>?_;obtain ⟨a,f,m,i,rfl,b,e,k⟩:=h;refine ⟨_,(ar (bA (fB (lB kG kI ai (pv 1) (eC (pv 0) T.az (cu T) .nil d.m))) (ar cH) aR)),?_⟩;obtain ⟨⟨D,j,g,l,n,V,v,vt,A,p,c,Z⟩,Z⟩:=id b;exact ⟨_,rfl,uN (by lia) ⟨c,rfl,a,f,m,rfl,b,_,rfl,fS (by lia) k⟩⟩
theorem jN (T:Txt K mg Ad):iK P w K mg base Ad.aY "sky" 4 ["self","room"] [] (QQ K Ad.aY):=by
 refine T.DZ.gG BB λ Z Z Z Z Z H V Q E j h=>?_;obtain ⟨a,F,m,i,z,rfl,c,d,k⟩:=h;refine ⟨_,(ag (aV (aM (pv 0) T.az (bT T) .nil j.m (aa (pv 1) ac)))
     (ar (aO (aJ aC (aU (pv 0) rfl) (pv 1))))),?_⟩
 obtain ⟨⟨p,C,B,G,L,U,V,vt,A,y,b,t,I,S,J,s,N,u,x,n,D,o,l,r⟩,q,M,O,R⟩:=id c;have g:i<m.rows.length:=by rw [<- q];exact (SV.mp d).1
 obtain ⟨v,f,e⟩:=D.get (by rw [aah,d];rfl);exact ⟨b,rfl,a,F,m,i,rfl,c,g,⟨b,T.az,T.dP,jR ..,.inl (aW.of J),ir f,k v e⟩⟩
theorem cE (T:Txt K mg Ad):iK P w K mg base Ad.aY "stove" 4 ["self","room"] [] (IY K Ad.aY):=by
 refine T.yW.gG xp λ Z Z Z Z Z H V Q E j h=>?_;obtain ⟨a,F,m,i,z,rfl,c,d,k⟩:=h;refine ⟨_,(ag (aV (aM (pv 0) T.az (bT T) .nil j.m (aa (pv 1) ac)))
     (ar (aO (aJ aC (aU (pv 0) rfl) (pv 1))))),?_⟩
 obtain ⟨⟨p,C,B,G,L,U,V,vt,A,y,b,t,I,S,s,J,N,u,x,n,o,D,l,r⟩,M,q,O,R⟩:=id c;have g:i<m.rows.length:=by rw [<- q];exact (SV.mp d).1
 obtain ⟨v,f,e⟩:=D.get (by rw [aah,d];rfl);exact ⟨b,rfl,a,F,m,i,rfl,c,g,⟨b,T.az,T.fj,mB ..,.inl (aW.of J),ir f,k v e⟩⟩
theorem fm (T:Txt K mg Ad):iK P w K mg base Ad.aY "marks" 4 ["self","room"] [] (ID K Ad.aY):=by
 refine T.zb.gG xP λ Z Z Z Z Z H V Q E o h=>?_;obtain ⟨a,F,m,i,r,rfl,d,e,k⟩:=h;refine ⟨_,(ag (aV (aM (pv 0) T.az (bT T) .nil o.m (aa (pv 1) ac)))
     (ar (aO (cU jO (by rfl) T.zp vj (aa (aJ aC (aU (pv 0) rfl) (pv 1)) ac))))),?_⟩
 obtain ⟨⟨u,O,M,R,S,vm,V,vt,A,L,c,B,I,rA,J,z,N,C,G,D,s,t,q,y⟩,U,W,X,Y⟩:=id d;have j:=(SV.mp e).1;obtain ⟨v,g,b,x,rfl,n,f⟩:=D.get (by rw [aah,e];rfl);exact ⟨c,rfl,a,F,m,i,rfl,d,j,⟨c,T.az,T.cQ,rE ..,.inl (aW.of I),ir g,b,x,rfl,.inr n,λ p l=>k p x l f⟩⟩
theorem jS (T:Txt K mg Ad):iK P w K mg base Ad.aY "own_share" 4 ["self","room"] [] (QY K Ad.aY):=by
 refine T.rX.gG fP λ Z Z Z Z Z H vs Q E g h=>?_;obtain ⟨a,fp,m,i,rfl,R,hi,k⟩:=h;refine ⟨_,(ag (dD (i:=2) fP.nd (au (BP T) g.m (aa (gH (v:=V.ref _) rfl T.ER rfl) (aa (aJ aC (aJ aC (aU (pv 0) rfl) (pv 1)) ai) ac))))
     (ag (cA aa7 rfl (bY rfl T.c9 (aa (eC (pv 0) T.az (cu T) .nil g.m) ac)) (fR (i:=3) fP.nd) (ar (dD (i:=2) fP.nd (au (BP T) g.m (aa (pv 2) (aa (A1 (ET g) (aU (pv 0) rfl) (ca (aa (pv 1) (aa (pv 3) ac))) (gH (v:=V.ref _) rfl T.iu rfl) ⟨rfl,rfl,rfl,rfl⟩) ac))))))
     (ar (aO (pv 2))))),?_⟩
 try dsimp only [kA,cz]
 first|(refine fJ ?_;intro Z Z Z Z)|skip
 obtain ⟨⟨dx,pm,pf,ps,pt,vm,vs,vt,aG,pB,z,kZ,iC,X,ji,jn,n1,n2,n3,dm,ds,dt,df,fk⟩,q1,q2,q3,J⟩:=id R;have Lp:i<m.bf.length:=by rw [q1];exact hi
 have W:=aK Lp;obtain ⟨v,ev,dv⟩:=ds.get (i:=i) (d:=uJ m.bf[i]) (by rw [aah,W];rfl);obtain ⟨p0,v1,v2,v3,rfl,Y,d1,d2,d3⟩:=dv.mX;obtain ⟨p1,rfl,EF⟩:=d1.fr;have N:m.bf[i].1=m.dU i:=by unfold am.dU;rw [W];rfl
 have O:=N ▸ J.dU i;refine ⟨z,T.az,T.dP,jR ..,.inl (aW.of ji),ir ev,.inr Y,rfl,⟨Ad.yF,p1,1,1,_,_,rfl,T.Ft.at H,EF,by decide,O.p,mN,mN,O.t.mono (by decide),O.b.mono (by decide),λ q r u H1 F L c=>?_⟩⟩;have e0:(q,r)=m.gX i 0:=by
   have:=F.nf (adf (by decide) O.p);rw [this];unfold am.gX lZ;rw [<- N];rfl
 refine ⟨L _ _ z,rfl,a,fp,m,rfl,aN.same L R,_,rfl,by lia,by lia,?_⟩;refine fY (lo:=0) (n:=m.rows.length) (λ j U M=>aE H M/\E2 λ (u:ak) (x:eU)=>M u=some (.tup [.int (m.gX i j).1,.int (m.gX i j).2])/\U=[some (.ref a),some (aq i),some (.ref u),x])
   ⟨L,u,none,by rw [<- e0];exact c,rfl⟩ ?_ ?_
 .
  rintro Z j U e hj ⟨s,u,x,c,rfl⟩;have l:=(J.gX i j).mono (show 201+101 * j<=1000 by lia);refine ⟨s _ _ z,T.az,T.fL,oQ ..,_,rfl,.inr ⟨_,.inl (s _ _ X)⟩,xF,λ C M7=>?_⟩;have S:=ap (o:=.tup [aq i,.int (0+(j:Int))]) M7;have DP:(upd e C (.tup [aq i,.int (0+(j:Int))])) C=some (.tup ((my i j).map kV)):=by rw [af,abL];rfl
  refine ⟨_,GG.t (S _ _ (s _ _ X)) DP,?_⟩;have D:Dn K (upd e C (.tup [aq i,.int (0+(j:Int))])) (fM (m.cG i j)) ((iN aG (my i j)).getD (.ref Ad.jT)):=by
    refine Dn.same (s.trans S) _ (Fv (df i j) (T.kj.fr (f:=(0,1))))
  obtain ⟨I,y,A⟩:=D.fr;have G:=J.cG i j;rw [y];refine ⟨u,I,_,_,_,_,rfl,cw.of (S _ _ c),A,l.p,G.p,l.t,l.b,G.t.mono (by decide),G.b.mono (by decide),λ q r u' H4 F s4 B=>⟨s.trans (S.trans s4),u',_,?_,rfl⟩⟩;have:=F.nf (adf l.p G.p);rw [B,am.pW];unfold lZ;rw [<- this]
 . rintro U e ⟨s,u,x,c,rfl⟩;exact (k _ e s (n9 (cw.of c)))
theorem gc (T:Txt K mg Ad):iK P w K mg base Ad.aY "share" 5 ["self","into","of"] [] (IK K Ad.aY):=by
 refine T.yX.gG xu λ Z Z Z Z Z H y Q E d h=>?_;obtain ⟨a,f,m,i,j,rfl,c,g,u,k⟩:=h;refine ⟨_,(ag (aV (aM (pv 0) T.az (bT T) .nil d.m (aa (pv 1) ac)))
     (ag (aV (aM (pv 0) T.az (bT T) .nil d.m (aa (pv 2) ac)))
     (ag (bA (aP fT (pv 1) (pv 2) (aQ _)) (ar (aO (aM (pv 0) T.az (jS T) .nil d.m (aa (pv 1) ac)))) aR)
     (ar (aO (A1 (ET d) (aU (pv 0) rfl) (ca (aa (pv 1) (aa (pv 2) ac))) (gH (v:=V.ref _) rfl T.iu rfl) ⟨rfl,rfl,rfl,rfl⟩)))))),?_⟩
 first|(refine gb ?_;intro Z Z Z Z Z)|skip
 obtain ⟨⟨F,Y,X,ps,pt,vm,y,vt,A,W,b,N,I,r,J,L,O,R,U,z,B,C,p,G⟩,q1,q2,q3,q4⟩:=id c;refine ⟨b,rfl,a,f,m,i,rfl,c,g,⟨b,rfl,a,f,m,j,rfl,c,u,⟨rfl,_,rfl,?_⟩⟩⟩;by_cases x:i=j
 . subst x;refine uN rfl ⟨b,rfl,a,f,m,i,rfl,c,g,λ v n S q=>k v n S ?_⟩;rw [am.share,abp rfl];exact q
 .
  refine sK (λ e=>x (by have:=kH.mp e;lia)) (⟨b,T.az,T.fL,oQ ..,_,rfl,.inr ⟨_,.inl r⟩,xF,λ l M=>?_⟩);have s:=ap (o:=.tup [aq i,aq j]) M;have D:(upd H l (.tup [aq i,aq j])) l=some (.tup ((my i j).map kV)):=by rw [af];rfl
  refine ⟨_,GG.t (s _ _ r) D,k _ _ s ?_⟩;rw [am.share,abC x];exact Dn.same s _ (Fv (p i j) (T.kj.fr))
theorem ij (T:Txt K mg Ad):iK P w K mg base Ad.aY "look_at_share" 5 ["self","room","share","former"] [] (Ma K Ad.aY):=by
 refine T.oi.gG iG λ Z Z Z Z Z H U Q E c h=>?_;obtain ⟨a,G,m,i,v1,v2,f,g,rfl,l,J,z,A,d,o,hf,n,k⟩:=h;refine ⟨_,(ag (dD (i:=4) iG.nd (au (LF T) c.m (aa (aM (pv 0) T.az (jS T) .nil c.m (aa (pv 1) ac)) (aa (pv 3) ac))))
     (ar (bA (PW.pt (uo (cP (au (j8 T) c.m (aa (pv 2) (aa (gH (v:=V.ref _) rfl T.iu rfl) ac)))) (qD (cP (au (j8 T) c.m (aa (pv 4) (aa (pv 2) ac))))))) (ar cH) aR))),?_⟩
 obtain ⟨⟨dx,pm,pf,ps,pt,vm,U,vt,Y,pB,I,kZ,iC,rA,ji,jn,n1,n2,n3,dm,ds,dt,df,fk⟩,q1,q2,q3,R⟩:=id l;obtain ⟨x,rfl,y⟩:=z.fr;obtain ⟨M,rfl,L⟩:=A.fr;refine ⟨I,rfl,a,G,m,i,rfl,l,J,λ v W s B=>?_⟩;obtain ⟨N,rfl,D⟩:=B.fr;have O:eX 800 (m.own i):=(R.gX i _).mono (by lia);refine ⟨N,M,_,_,_,_,rfl,D,s.tup L,O.p,o.p,O.t.mono (by decide),O.b.mono (by decide),o.t.mono (by decide),o.b.mono (by decide),λ q r u X F S e=>?_⟩;have C:(q,r)=pA (m.own i) g:=F.nf (adf O.p o.p);have j:eX 950 (pA (m.own i) g):=(O.plus o).mono (by decide);rw [<- C] at j n;refine ⟨x,Ad.jT,_,_,_,_,rfl,S.tup (s.tup y),T.kj.at _,d.t.mono (by decide),d.b.mono (by decide),mN,mN,_,rfl,sK (by lia) (⟨u,x,_,_,_,_,rfl,cw.of e,S.tup (s.tup y),j.t.mono (by decide),j.b.mono (by decide),d.t.mono (by decide),d.b.mono (by decide),_,rfl,sK (ag1 n) (k _ (s.trans S))⟩)⟩
theorem ii (T:Txt K mg Ad):iK P w K mg base Ad.aY "put_flow" 6 ["self","into","of","share"] [] (CI K Ad.aY):=by
 refine T.uA.gG ss λ Z Z Z Z Z H V Q E d h=>?_;obtain ⟨a,F,m,i,j,v,f,rfl,c,g,n,x,D,O,B,C,k⟩:=h;refine ⟨_,(ag (aV (aM (pv 0) T.az (bT T) .nil d.m (aa (pv 1) ac)))
     (ag (aV (aM (pv 0) T.az (bT T) .nil d.m (aa (pv 2) ac)))
     (ag (bA (aP fT (pv 1) (pv 2) (aQ _)) (ar cH) aR)
     (ag (aV (aM (pv 0) T.az (ij T) .nil d.m (aa (pv 1) (aa (pv 3) (aa (aM (pv 0) T.az (gc T) .nil d.m (aa (pv 1) (aa (pv 2) ac))) ac)))))
     (ar (MD (ET d) (aU (pv 0) rfl) (ca (aa (pv 1) (aa (pv 2) ac))) (pv 3) rfl)))))),?_⟩
 first|(refine nA ?_;intro Z Z Z Z Z Z)|skip
 obtain ⟨⟨X,pm,pf,ps,pt,vm,V,vt,L,pB,b,kZ,Y,r,ji,jn,n1,n2,n3,R,U,W,N,A⟩,q1,q2,q3,G⟩:=id c;refine ⟨b,rfl,a,F,m,i,rfl,c,g,⟨b,rfl,a,F,m,j,rfl,c,n,⟨rfl,_,rfl,sK (λ e=>x (by have:=kH.mp e;lia)) ?_⟩⟩⟩;refine ⟨b,rfl,b,rfl,a,F,m,i,j,rfl,c,g,n,λ z J s l=>?_⟩;rw [am.share,abC x] at l;refine ⟨a,F,m,i,v,z,f,_,rfl,c.same s,g,Dn.same s _ D,l,O,G.cG i j,B,C,λ y I=>?_⟩;have q:=s.trans I;refine ⟨q _ _ b,T.az,T.fL,oQ ..,xF,λ p M=>?_⟩;have u:(upd y p (.tup [aq i,aq j])) p=some (.tup ((my i j).map kV)):=by rw [af];rfl
 have S:=q.trans (ap (o:=.tup [aq i,aq j]) M);refine ⟨_,_,rfl,IU.t (S _ _ r) u (abe A.len (by decide)),k _ F (HF c S b r (by lia) (by lia) (Dn.same S _ D) O)⟩
theorem iM (T:Txt K mg Ad):iK P w K mg base Ad.aY "put_sky" 6 ["self","room","share","low","high"] [] (EE K Ad.aY):=by
 refine T.vR.gG uz λ Z Z Z Z Z H V Q E j h=>?_;obtain ⟨a,e,m,i,A,v2,v3,f,lo,hi,rfl,d,F,D,n,p,x,O,l,g,R,S,k⟩:=h;refine ⟨_,(ag (aV (aM (pv 0) T.az (bT T) .nil j.m (aa (pv 1) ac)))
     (ag (bA (cP (au (j8 T) j.m (aa (pv 4) (aa (pv 3) ac)))) (ar cH) aR)
     (ag (aV (aM (pv 0) T.az (ij T) .nil j.m (aa (pv 1) (aa (pv 2) (aa (aJ aC (aJ aC (aU (pv 0) rfl) (pv 1)) ai) ac)))))
     (ar (gL (ca (aa (pv 2) (aa (pv 3) (aa (pv 4) ac)))) (sj (aU (pv 0) rfl) (pv 1) set_list)))))),?_⟩
 first|(refine gb ?_;intro Z Z Z Z Z)|skip
 obtain ⟨⟨dx,pm,pf,W,pt,vm,V,vt,aG,pB,c,kZ,iC,rA,J,jn,n1,n2,n3,dm,q,dt,df,fk⟩,X,q2,q3,Y⟩:=id d;obtain ⟨y,rfl,U⟩:=n.fr;obtain ⟨z,rfl,C⟩:=p.fr;have L:i<m.bf.length:=by rw [X];exact F
 have u:=aK L;obtain ⟨v,N,G⟩:=q.get (by rw [aah,u];rfl);obtain ⟨p0,w1,w2,w3,rfl,B,r,e2,e3⟩:=G.mX;have I:m.bf[i].1=m.dU i:=by unfold am.dU;rw [u];rfl
 rw [I] at r;refine ⟨c,rfl,a,e,m,i,rfl,d,F,⟨z,y,_,_,_,_,rfl,C,U,l.t.mono (by decide),l.b.mono (by decide),O.t.mono (by decide),O.b.mono (by decide),_,rfl,sK (ag1 g) ?_⟩⟩;refine ⟨c,rfl,c,T.az,T.dP,jR ..,.inl (aW.of J),ir N,.inr B,rfl,⟨a,e,m,i,A,w1,f,_,rfl,d,F,D,r,x,Y.dU i,R,S,λ H2 s2=>?_⟩⟩;refine ⟨Ih,λ kp M=>?_⟩;have s:=s2.trans (ap (o:=.tup [A,.ref y,.ref z]) M);have hl:V.length=m.bf.length:=by rw [q.length,Ea]
 refine ⟨s _ _ c,T.az,T.dP,jR ..,W,V,_,i,rfl,rfl,s _ _ J,mF (by lia),k _ e (IW d s c J (J9 (cw.of af) (Dn.same s _ D) (Dn.same s _ n) (Dn.same s _ p)) ⟨x,O,l⟩)⟩
theorem qL (T:Txt K mg Ad):Wu P w K mg base Ad.aY "put_stove" "Hold.put_stove" gn (.ref Ad.iW) 4 ["self","room","heat","wood","stay","fails"] (rL K Ad.aY):=by
 refine T.sY.mok qO (λ l H Q E h=>?_) (λ f Z Z Z s H l Q E c h=>?_)
 . obtain ⟨a,d,m,i,v,f,W,j,F,rfl,Z⟩:=h;rfl
 .
  obtain ⟨a,d,m,i,v,f,W,j,F,rfl,g,q,D,O,L,u,I,Y,k⟩:=h;refine ⟨_,(ag (aV (aM (pv 0) T.az (bT T) .nil c.m (aa (pv 1) ac)))
    (ag (bA (cP (au (j8 T) c.m (aa (pv 2) (aa (gH (v:=V.ref _) rfl T.iu rfl) ac)))) (ar cH) aR)
    (ag (bA (fB (cP (au (dR T) c.m (aa (pv 3) (aa (gB rfl T.AY) ac))))) (ar cH) aR)
    (ag (bA (fB (cP (au (dR T) c.m (aa (pv 4) (aa (gB rfl T.CL) ac))))) (ar cH) aR)
    (ag (bA (fB (cP (au (dR T) c.m (aa (pv 5) (aa (gB rfl T.yU) ac))))) (ar cH) aR)
    (ar (gL (ca (aa (pv 2) (aa (pv 3) (aa (pv 4) (aa (pv 5) ac))))) (sj (aU (pv 0) rfl) (pv 1) set_list)))))))),?_⟩
  first|(refine nX ?_;intro Z Z Z Z Z Z Z)|skip
  obtain ⟨⟨C,pm,pf,ps,x,vm,l,vt,A,pB,e,X,R,rA,U,J,n1,n2,n3,z,B,n,y,G⟩,q1,q2,q3,q4⟩:=id g;obtain ⟨p,rfl,r⟩:=D.fr;refine ⟨e,rfl,a,d,m,i,rfl,g,q,⟨p,Ad.jT,_,_,_,_,rfl,r,T.kj.at _,O.t.mono (by decide),O.b.mono (by decide),mN,mN,_,rfl,sK (by lia) ?_⟩⟩;refine ⟨W,9,rfl,_,rfl,fS u ⟨j,3,rfl,_,rfl,fS I ⟨F,3,rfl,_,rfl,fS Y (⟨Ri,λ kp M=>?_⟩)⟩⟩⟩;have S:=ap (o:=.tup [.ref p,.int W,.int j,.int F]) M;have N:vt.length=m.aI.length:=by rw [n.length,Ea]
  exact ⟨S _ _ e,T.az,T.fj,mB ..,x,vt,_,i,rfl,rfl,S _ _ J,mF (by lia),k _ d (D0 g S e J (jw (cw.of af) (bI (Dn.same S _ D) (bI rfl (bI rfl (bI rfl eP))))) O)⟩
theorem eI (T:Txt K mg Ad):Bl P w K mg base Ad.aY "put_stove" 4 ["self","room","heat","wood","stay","fails"] [] (rL K Ad.aY) :=
 (qL T).Nt T.sO λ i H=>by
   obtain ⟨U,j,k,rfl,r,R,g⟩:=vals3 H;exact ⟨[],.nil,λ Z Z Z Z Z Z u h=>by obtain ⟨a,b,c,d,e,f,rfl⟩:∃ a b c d e f,u=[a,b,c,d,e,f]:=JO (by simpa using h:u.length=6) λ a b c d e f=>⟨a,b,c,d,e,f,rfl⟩;exact ⟨_,rfl,rfl⟩⟩
theorem rj (T:Txt K mg Ad):Def P w K mg base "bands_together" 1 ["rows"] (J4 K):=by
 refine T.tW.cW fO λ Z Z Z Z Z H V Q E G h=>?_;obtain ⟨p,X,r,rfl,o,l,F,N,k⟩:=h;refine ⟨_,(ag (dD (i:=1) fO.nd ai)
     (ag (cA aa7 rfl (bw (pv 0)) (fR (i:=2) fO.nd) (ar (dD (i:=1) fO.nd (aA bM (pv 1) (aA fA (aT bv (by rfl) T.fc cZ (aa (pv 2) ac)) ai)))))
     (ar (aO (pv 1))))),?_⟩
 try dsimp only [kA,cz]
 have R:X.length=r.length:=by rw [l.length,Ea]
 refine ⟨⟨X,o⟩,eA (xs:=X) (λ i U a=>a=H/\∃ (x:eU),Bd (1+3 * i) (hU (r.take i))/\U=[some (.ref p),some (.int (hU (r.take i))),x]) ⟨rfl,none,(by show Bd 1 (hU []);exact mN),rfl⟩ (λ i U a Z e=>by rw [e.1];exact o) ?_ ?_⟩
 .
  rintro Z i x U a q ⟨rfl,y,c,rfl⟩;have f:i<r.length:=by rw [<- R];exact (SV.mp q).1
  obtain ⟨v,B,b,C,rfl,Y,D⟩:=l.get (i:=i) (d:=Cp r[i]) (by rw [aah,aK f];rfl);obtain rfl:=abb (q.symm.trans B);have m:=N r[i] (aaH f);have s:C.length=r[i].length:=by rw [D.length,Ea]
  refine ⟨_,_,rfl,.inr Y,λ n t=>(λ u A=>⟨?_,λ z j=>?_⟩)⟩
  . exact ⟨_,3,c,(show u.natAbs<2 ^ 3 by lia),(show 1+3 * i+3<=_ by lia)⟩
  .
   have g:z=hU (r.take (i+1)):=by
     rw [j,A,t,s];unfold hU;rw [acI,aK f,adl];rfl
   refine ⟨rfl,_,?_,by rw [<- g];rfl⟩;rw [<- g,j];exact (c.mul (show u.natAbs<2 ^ 3 by lia)).mono (by lia)
 .
  rintro U a ⟨rfl,y,c,rfl⟩;refine ?_;rw [R,aa4];exact k
theorem zM (T:Txt K mg Ad):Def P w K mg base "is_rising" 2 ["marks"] (GV K):=by
 refine T.Bf.cW Ae λ Z Z Z Z Z H vs Q E hr h=>?_;obtain ⟨p,X,r,rfl,l,j,L,hl,k⟩:=h;refine ⟨_,(ar (aO (aT (yr rfl) (by rfl) T.N3 Jk (aa (ft ["low","high"] [] [] .nil rfl (PD rfl T.Ot (aa (pv 0) (aa (vQ Me (pv 0) (yV ai) Aj) ac))) (λ Z Z Z Z Z=>(cL (K:=K) (n:=2) rfl rfl (aL (ky (i:=0)) (aL (ky (i:=1)) cJ)))) (λ Z Z Z Z Z=>cB) (λ Z Z Z Z Z=>(au (j8 T) hr.m (aa (pv 0) (aa (pv 1) ac))))) ac)))),?_⟩;try dsimp only [kA,cz]
 refine ⟨1,rfl,p,X,rfl,l,λ z o7=>?_⟩;have s:=ap (o:=.lst (Hj X (some 1) none)) o7;rw [Kv] at s |-;have R:X.length=r.length:=by rw [j.length,Ea]
 refine ⟨p,z,rfl,⟨X,s.seq l⟩,⟨X.tail,aW.of af⟩,λ D J=>?_⟩;have f:min X.length X.tail.length=(List.zipWith bW r r.tail).length:=by rw [agX,afZ,afZ,R]
 refine Kr (K:=K) (a:=p) (b:=z) (xs:=X) (ys:=X.tail) (λ i A U c=>A4 (aE (upd H z (.lst X.tail)) c) (c D=some (.lst A)) (A=((List.zipWith bW r r.tail).take i).map V.bl) (E2 λ B C=>U=[B,C]))
   ⟨ap J,af,rfl,none,none,rfl⟩ (λ i A U c Z e=>⟨e.1.seq (s.seq l),e.1.seq (aW.of af)⟩) ?_ ?_
 .
  rintro i x y pp A U c hx q M ⟨S,g,rfl,B,C,rfl⟩;rw [ag4] at q;have I:i+1<r.length:=by rw [<- R];exact (SV.mp q).1
  obtain ⟨u,eu,du⟩:=j.get (i:=i) (d:=fM r[i]) (by rw [aah,aK (by lia)];rfl);obtain rfl:x=u:=abb (hx.symm.trans eu);obtain ⟨v,ev,dv⟩:=j.get (i:=i+1) (d:=fM r[i+1]) (by rw [aah,aK I];rfl);obtain rfl:y=v:=abb (q.symm.trans ev);obtain ⟨F,rfl,g1⟩:=du.fr;obtain ⟨G,rfl,g2⟩:=dv.fr;have O:=L r[i] (aaH _);have N:=L r[i+1] (aaH _);have W:aE c (upd c pp (.tup [.ref F,.ref G])):=ap M;have Y:=s.trans (S.trans W);refine ⟨cw.of af,rfl,rfl,⟨F,G,_,_,_,_,rfl,Y.tup g1,Y.tup g2,O.t.mono (by decide),O.b.mono (by decide),N.t.mono (by decide),N.b.mono (by decide),?_⟩⟩;refine ⟨by rw [aw (ax g M)];exact g,?_,aE.put (S.trans W) J,af,?_,_,_,rfl⟩
  . rw [Ea,aby];have:(7:Nat)<sizeLine:=by decide
    rw [<- f];lia
  . rw [acI,wj (aK (show i<r.length by lia)) (aK I),aau];rfl
 . rintro A U c ⟨S,g,rfl,B,C,rfl⟩;rw [f,aa4] at g;exact ⟨D,_,rfl,aW.of g,k _ (s.trans S)⟩
theorem iq (T:Txt K mg Ad):iK P w K mg base Ad.aY "put_room" 3 ["self","marks"] [] (BF K Ad.aY):=by
 refine T.uE.gG lI λ Z Z Z Z Z H q Q E t h=>?_;obtain ⟨a,fp,m,p,X,r,rfl,F,h4,I,C,ho,CU,d,VH,hb,k⟩:=h;refine ⟨_,(ag (bA (aP OM (eC (pv 0) T.az (cu T) .nil t.m) (gB rfl T.zf) (aQ _)) (ar cH) aR)
     (ag (bA (fB (lB kG kG (gB rfl T.xT) (aT bv (by rfl) T.fc cZ (aa (pv 1) ac)) (gB rfl T.zr))) (ar cH) aR)
     (ag (bA (fB (cP (au (zM T) t.m (aa (pv 1) ac)))) (ar cH) aR)
     (ag (dD (i:=2) lI.nd (aA IE (aU (pv 0) rfl) (bK (aa (cU dQ (by rfl) T.kN je (aa (pv 1) ac)) ac))))
     (ag (bA (aP ur (au (rj T) t.m (aa (pv 2) ac)) (gB rfl T.zw) (aQ _)) (ar cH) aR)
     (ag (d8 (pv 0) (pv 2) rfl)
     (ag (aV (hX abE abG abF cD (aU (pv 0) rfl) (aa (ca (aa (gH (v:=V.ref _) rfl T.iu rfl) (aa (gH (v:=V.ref _) rfl T.iu rfl) (aa (gH (v:=V.ref _) rfl T.iu rfl) ac)))) ac)))
     (ag (aV (hX abE abG abF cD (aU (pv 0) rfl) (aa cM ac)))
     (ar (aO (aA fA (eC (pv 0) T.az (cu T) .nil t.m) ai))))))))))),?_⟩
 try dsimp only [kA,cz]
 first|(refine IM ?_;intro Z Z Z Z Z Z Z Z Z Z)|skip
 obtain ⟨⟨A,M,pf,ps,pt,u,q,vt,aG,pB,b,kZ,iC,rA,J,L,n1,n2,n3,Y,ds,dt,df,fk⟩,q1,q2,q3,q4⟩:=id F;have RN:X.length=r.length:=by rw [C.length,Ea]
 have lm:u.length=m.rows.length:=by rw [Y.length,Ea]
 have ls:q.length=m.bf.length:=by rw [ds.length,Ea]
 have lt:vt.length=m.aI.length:=by rw [dt.length,Ea]
 have ab:(7:Nat)<sizeLine:=by decide
 refine ⟨b,rfl,a,fp,m,rfl,F,_,rfl,sK (by lia) (⟨_,_,rfl,.inl I,λ n en=>⟨_,rfl,uN (by lia) ⟨_,rfl,fS (by lia) ?_⟩⟩⟩)⟩;refine ⟨p,X,r,rfl,I,C,ho,d,λ H1 S=>⟨_,rfl,?_⟩⟩;rw [VH];refine dk (⟨S _ _ b,T.az,T.cQ,rE ..,p,X,rfl,.inl ⟨S.seq I,λ j G=>⟨Fn,λ kl c=>?_⟩⟩⟩);have O:=(S.trans (ap (o:=.tup X) G)).trans (ap (o:=.lst [.ref j]) c);refine ⟨M,kl,u,[.ref j],rfl,rfl,O _ _ iC,af,by rw [abh];lia,λ l y=>?_⟩;have s:=O.trans (ap (o:=.lst (u++[.ref j])) y);have dr:=jw (cw.of (((ap (o:=.lst [.ref j]) c).trans (ap (o:=.lst (u++[.ref j])) y)) _ _ af)) (bP.same s _ C);refine ⟨l,_,m.rows++[r],rfl,aW.of af,?_,by rw [aas,abh];lia,?_,_,rfl,sK (by lia) ?_⟩
 . rw [aau];exact (bP.same s _ Y).snoc dr
 .
  intro x hx;rcases aaU.mp hx with h|h
  . have:=q4.len x h;lia
  . rw [aac.mp h];lia
 refine ⟨a,_,A,_,rfl,s _ _ b,T.az,T.cQ,lt1000 rfl,?_⟩;have g:H l=none:=O.free y;have ad:l≠a:=(ax b g).symm;refine ⟨af,T.az,T.dP,jR ..,?_⟩;have W:=fC J b nofun;have g1:=(aw (o:=.ins Ad.aY A (aX "mark_rows" (.ref l) (oP m M pf ps pt))) W).trans (s _ _ J);have g2:=(aw (o:=.ins Ad.aY A (aX "mark_rows" (.ref l) (oP m M pf ps pt))) (fC L b nofun)).trans (s _ _ L);refine ⟨.inl ⟨rfl,q,aW.of g1⟩,Ih,λ q0 U=>?_⟩;have R:=ap (o:=.tup [.ref Ad.jT,.ref Ad.jT,.ref Ad.jT]) U;refine ⟨R _ _ g1,by lia,?_⟩;have g3:=(aw (o:=.lst (q++[.ref q0])) n3.symm).trans (R _ _ g2);refine ⟨(aw (o:=.lst (q++[.ref q0])) W.symm).trans (R _ _ af),T.az,T.fj,mB ..,.inl ⟨rfl,vt,aW.of g3⟩,g3,by lia,?_⟩;obtain ⟨pI,D⟩:=HX (N:=Ad.jT) (r:=r) F s b iC J L g af dr h4 ho ⟨CU,d⟩ (λ H'=>T.kj.fr (f:=(0,1))) U;obtain ⟨⟨Fq,Ip,AL,uY,xj,Z,Z,Z,Z,Z,B,Z⟩,Z⟩:=id D.at_;refine ⟨B,rfl,a,pI,_,rfl,D.at_,λ z ez=>?_⟩;have e:z=(m.rows.length:Int):=by
   rw [ez];show (((m.rows++[r]).length:Nat):Int) - 1=_;rw [aas,abh];lia
 rw [e];exact k _ pI D
theorem tf (T:Txt K mg Ad):Wu P w K mg base Ad.aY "__init__" "Hold.__init__" gK (.ref Ad.jt) 2 ["self","most","cap","load"] (Gc K Ad.aY):=by
 refine T.uU.mok sM (λ X H Q E h=>?_) (λ f Z Z Z s H X Q E D h=>?_)
 . obtain ⟨x,d,most,eO,load,rfl,Z⟩:=h;rfl
 .
  obtain ⟨x,d,most,eO,load,rfl,M,W,V,S,U,k⟩:=h;refine ⟨_,(ag (bA (fB (cP (au (dR T) D.m (aa (pv 1) (aa (gB rfl T.vw) ac))))) (ar cH) aR)
    (ag (bA (fB (cP (au (dR T) D.m (aa (pv 2) (aa (gB rfl T.Dq) ac))))) (ar cH) aR)
    (ag (bA (fB (cP (au (dR T) D.m (aa (pv 3) (aa (gB rfl T.BS) ac))))) (ar cH) aR)
    (ag (d8 (pv 0) (pv 1) rfl)
    (ag (d8 (pv 0) (pv 2) rfl)
    (ag (d8 (pv 0) (pv 3) rfl)
    (ag (d8 (pv 0) (bK ac) rfl)
    (ag (d8 (pv 0) JD rfl)
    (ag (d8 (pv 0) (bK ac) rfl)
    (ar (d8 (pv 0) (bK ac) rfl))))))))))),?_⟩
  first|(simp_all)|skip
  refine ⟨most,4,rfl,_,rfl,fS V ⟨eO,30,rfl,_,rfl,fS S ⟨load,30,rfl,_,rfl,fS U ?_⟩⟩⟩;have I:lu K Ad.aY x d H H []:=.start M;refine ⟨x,_,d,_,rfl,I.at_,T.az,T.gf,lt1000 rfl,?_⟩;have J:=I.put (fs':=aX "most" (.int most) []);refine ⟨x,_,d,_,rfl,J.at_,T.az,T.jb,lt1000 rfl,?_⟩;have L:=J.put (fs':=aX "cap" (.int eO) (aX "most" (.int most) []));refine ⟨x,_,d,_,rfl,L.at_,T.az,T.jQ,lt1000 rfl,?_⟩;have B:=L.put (fs':=aX "load" (.int load) (aX "cap" (.int eO) (aX "most" (.int most) [])));refine ⟨ab2 _,λ p e=>?_⟩;have y:=B.new (o:=.lst []) e;refine ⟨x,_,d,_,rfl,y.at_,T.az,T.cQ,lt1000 rfl,λ c g=>?_⟩;have i:=y.put (fs':=aX "mark_rows" (.ref p) (aX "load" (.int load) (aX "cap" (.int eO) (aX "most" (.int most) []))));have q:=i.new (o:=.dT []) g;refine ⟨x,_,d,_,rfl,q.at_,T.az,T.fL,lt1000 rfl,ab2 _,λ v a=>?_⟩;have r:=q.put (fs':=aX "flows" (.ref c) (aX "mark_rows" (.ref p) (aX "load" (.int load) (aX "cap" (.int eO) (aX "most" (.int most) [])))));have z:=r.new (o:=.lst []) a;refine ⟨x,_,d,_,rfl,z.at_,T.az,T.dP,lt1000 rfl,ab2 _,λ N F=>?_⟩;have A:=z.put (fs':=aX "skies" (.ref v) (aX "flows" (.ref c) (aX "mark_rows" (.ref p) (aX "load" (.int load) (aX "cap" (.int eO) (aX "most" (.int most) []))))));have C:=A.new (o:=.lst []) F;refine ⟨x,_,d,_,rfl,C.at_,T.az,T.fj,lt1000 rfl,?_⟩;have j:=q.keep (u:=.ins Ad.aY d (aX "flows" (.ref c) (aX "mark_rows" (.ref p) (aX "load" (.int load) (aX "cap" (.int eO) (aX "most" (.int most) [])))))) (ap (o:=.dT []) g _ _ (y.keep (u:=.ins Ad.aY d (aX "mark_rows" (.ref p) (aX "load" (.int load) (aX "cap" (.int eO) (aX "most" (.int most) []))))) af (B.ne e))) (B.ne e);have G:=λ b o (h:_=some o) (n:b≠x)=>z.keep (b:=b) (u:=.ins Ad.aY d (aX "skies" (.ref v) (aX "flows" (.ref c) (aX "mark_rows" (.ref p) (aX "load" (.int load) (aX "cap" (.int eO) (aX "most" (.int most) []))))))) h n;have R:=G _ _ (ap (o:=.lst []) a _ _ j) (B.ne e);have O:=G _ _ (ap (o:=.lst []) a _ _ (q.keep (u:=.ins Ad.aY d (aX "flows" (.ref c) (aX "mark_rows" (.ref p) (aX "load" (.int load) (aX "cap" (.int eO) (aX "most" (.int most) [])))))) af (i.ne g))) (i.ne g);have l:=G _ _ af (r.ne a);have t:=λ b o (h:_=some o) (n:b≠x)=>C.keep (b:=b) (u:=.ins Ad.aY d (oP (am.new most eO load) p c v N)) h n;exact k _ _ (Kn (C.put (fs':=oP (am.new most eO load) p c v N)) M W (t _ _ (ap (o:=.lst []) F _ _ R) (B.ne e)) (t _ _ (ap (o:=.lst []) F _ _ O) (i.ne g)) (t _ _ (ap (o:=.lst []) F _ _ l) (r.ne a)) (t _ _ af (A.ne F)) (B.none e) (i.none g) (r.none a) (A.none F) (ax j a) (ax R F) (ax l F))
theorem eW (T:Txt K mg Ad):Bl P w K mg base Ad.aY "__init__" 2 ["self","most","cap","load"] [] (Gc K Ad.aY) :=
 (tf T).Nt T.uw λ i H=>by
   obtain ⟨U,f,g,rfl,r,R,e⟩:=vals3 H;exact ⟨[],.nil,λ Z Z Z Z Z Z u h=>by obtain ⟨a,b,c,d,rfl⟩:∃ a b c d,u=[a,b,c,d]:=IQ (by simpa using h:u.length=4) λ a b c d=>⟨a,b,c,d,rfl⟩;exact ⟨_,rfl,rfl⟩⟩
theorem rM (T:Txt K mg Ad):WT P w K mg base "hold_like" kL (.ref Ad.mY) 4 ["hold","most","cap","load"] (zi K Ad.aY):=by
 refine T.Bw.dok qZ (λ V H Q E h=>?_) (λ f Z Z Z s H V Q E hr h=>?_)
 . obtain ⟨a,fp,m,x,y,z,rfl,Z⟩:=h;rfl
 .
  obtain ⟨a,fp,m,O,g,j,rfl,hh,Y,k⟩:=h;refine ⟨_,(ag (dD (i:=4) qZ.nd (rp T.uX (eW T) hr.m T.As (aa (lD (aP mZ (RE 1) cM (aQ _)) (aU (pv 0) rfl) (RE 1)) (aa (lD (aP mZ (RE 2) cM (aQ _)) (aU (pv 0) rfl) (RE 2)) (aa (lD (aP mZ (RE 3) cM (aQ _)) (aU (pv 0) rfl) (RE 3)) ac)))))
    (ag (d8 (pv 4) (cU jO (by rfl) T.zp vj (aa (aU (pv 0) rfl) ac)) rfl)
    (ag (d8 (pv 4) (cU xS (by rfl) T.J5 FN (aa (aU (pv 0) rfl) ac)) rfl)
    (ag (d8 (pv 4) (cU jO (by rfl) T.zp vj (aa (aU (pv 0) rfl) ac)) rfl)
    (ag (d8 (pv 4) (cU jO (by rfl) T.zp vj (aa (aU (pv 0) rfl) ac)) rfl)
    (ar (aO (pv 4)))))))),?_⟩
  try dsimp only [kA,cz]
  first|(refine nX ?_;intro Z Z Z Z Z Z Z)|skip
  obtain ⟨⟨NY,pm,pf,ps,pt,vm,V,vt,aG,pB,p,kZ,iC,rA,ji,jn,n1,n2,n3,dm,ds,dt,df,fk⟩,q1,q2,q3,q4⟩:=id hh;refine Dk (o:=O) (d:=m.most) rfl (λ Q' h=>⟨p,T.az,T.gf,nc ..,h⟩) ?_;refine Dk (o:=g) (d:=m.eO) rfl (λ Q' h=>⟨p,T.az,T.jb,vc ..,h⟩) ?_;refine Dk (o:=j) (d:=m.load) rfl (λ Q' h=>⟨p,T.az,T.jQ,ww ..,h⟩) ?_;intro x dx l P1 RM;have a0:upd H dx (.own x) x=none:=by rw [aw RM.symm];exact l
  have s0:aE H (upd (upd H dx (.own x)) x (.ins Ad.aY dx [])):=(ap P1).trans (ap a0);refine ⟨x,dx,_,_,_,rfl,af,by rw [aw RM];exact af,Y.1,Y.2.1,Y.2.2,λ H1 uB D=>⟨rfl,?_⟩⟩;have S:aE H H1:=λ b o e=>D.but b o (s0 b o e) λ q=>by
    simp only [aay,aaj,acd] at q;rcases q with rfl|rfl
    . rw [l] at e;cases e
    . rw [P1] at e;cases e
  have ad:∀ b∈uB,H b=none:=λ b Y=>by
    rcases D.own b Y with q|q
    . simp only [aay,aaj,acd] at q;rcases q with rfl|rfl
      . exact l
      . exact P1
    . exact s0.free q
  obtain ⟨⟨A,g1,g2,X,G,Z,Z,Z,Z,ae,vB,Ui,Z⟩,Z⟩:=D.at_;have Zg:H A=none:=ad A (by rw [ae];simp);have a1:A≠x:=fC Ui vB nofun;have M:lu K Ad.aY x A H1 H1 (oP (m.with O g j) g1 g2 X G):=.start vB;refine ⟨S _ _ p,T.az,T.cQ,rE ..,pm,vm,rfl,.inl (aW.of (S _ _ iC)),λ r C=>?_⟩;have B1:=M.new (o:=.lst vm) C;refine ⟨x,_,A,_,rfl,B1.at_,T.az,T.cQ,lt1000 rfl,?_⟩;have B:=B1.put (fs':=oP (m.with O g j) r g2 X G);have k2:∀ b o,H b=some o->_=some o:=λ b o h=>B.st b o (S b o h) (ax h l);have e1:=B1.keep (u:=.ins Ad.aY A (oP (m.with O g j) r g2 X G)) af (M.ne C);refine ⟨k2 _ _ p,T.az,T.fL,oQ ..,pf,aG,rfl,k2 _ _ rA,fk.hash,λ J I=>?_⟩;have B3:=B.new (o:=.dT aG) I;refine ⟨x,_,A,_,rfl,B3.at_,T.az,T.fL,lt1000 rfl,?_⟩;have N:=B3.put (fs':=oP (m.with O g j) r J X G);have k4:∀ b o,H b=some o->_=some o:=λ b o h=>N.st b o (S b o h) (ax h l);have ab:=λ b o (h:_=some o) (n:b≠x)=>B3.keep (b:=b) (u:=.ins Ad.aY A (oP (m.with O g j) r J X G)) h n;have R:=ab _ _ (ap (o:=.dT aG) I _ _ e1) (M.ne C);have aj:=ab _ _ af (B.ne I);refine ⟨k4 _ _ p,T.az,T.dP,jR ..,ps,V,rfl,.inl (aW.of (k4 _ _ ji)),λ l3 t=>?_⟩;have B5:=N.new (o:=.lst V) t;refine ⟨x,_,A,_,rfl,B5.at_,T.az,T.dP,lt1000 rfl,?_⟩;have B6:=B5.put (fs':=oP (m.with O g j) r J l3 G);have k6:∀ b o,H b=some o->_=some o:=λ b o h=>B6.st b o (S b o h) (ax h l);have v:=λ b o (h:_=some o) (n:b≠x)=>B5.keep (b:=b) (u:=.ins Ad.aY A (oP (m.with O g j) r J l3 G)) h n;have U:=v _ _ (ap (o:=.lst V) t _ _ R) (M.ne C);have al:=v _ _ (ap (o:=.lst V) t _ _ aj) (B.ne I);have W:=v _ _ af (N.ne t);refine ⟨k6 _ _ p,T.az,T.fj,mB ..,pt,vt,rfl,.inl (aW.of (k6 _ _ jn)),λ l4 F=>?_⟩;have B7:=B6.new (o:=.lst vt) F;refine ⟨x,_,A,_,rfl,B7.at_,T.az,T.fj,lt1000 rfl,?_⟩;have B8:=B7.put (fs':=oP (m.with O g j) r J l3 l4);have k8:∀ b o,H b=some o->_=some o:=λ b o h=>B8.st b o (S b o h) (ax h l);have Y4:=λ b o (h:_=some o) (n:b≠x)=>B7.keep (b:=b) (u:=.ins Ad.aY A (oP (m.with O g j) r J l3 l4)) h n;have ah:=Y4 _ _ (ap (o:=.lst vt) F _ _ U) (M.ne C);have an:=Y4 _ _ (ap (o:=.lst vt) F _ _ al) (B.ne I);have ao:=Y4 _ _ (ap (o:=.lst vt) F _ _ W) (N.ne t);have aI:=Y4 _ _ af (B6.ne F);have L:=LY (m':=m.with O g j) hh p iC rA ji jn S ⟨rfl,rfl,rfl,rfl⟩ B8 (B8.st _ _ Ui a1) ah an ao aI (ax R t) (ax U F) (ax W F);refine (k x _ _ k8 L λ c hc=>?_);simp only [aay,aaj,acd] at hc;rcases hc with rfl|rfl|rfl|rfl|rfl|rfl
  . exact l
  . exact Zg
  . exact S.free C
  . exact S.free (B.none I)
  . exact S.free (N.none t)
  . exact S.free (B6.none F)
theorem wR (T:Txt K mg Ad):Kk P w K mg base "hold_like" 4 ["hold","most","cap","load"] [.cN,.cN] (zi K Ad.aY) :=
 (rM T).Rg T.tY λ i H=>by
   obtain ⟨e,U,c,rfl,d,r,R⟩:=vals3 H;exact ⟨[U,c],.cons r (.cons R .nil),λ Z Z Z Z Z Z u h=>by obtain ⟨a,b,rfl⟩:∃ a b,u=[a,b]:=FH (by simpa using h:u.length=2) λ a b=>⟨a,b,rfl⟩;exact ⟨_,rfl,rfl⟩⟩
theorem vq (T:Txt K mg Ad):Kk P w K mg base "hold_like" 4 ["hold","most","cap","load"] [.cN,.cN,.cN] (zi K Ad.aY) :=
 (rM T).Rg T.tY λ i H=>by
   obtain ⟨U,c,d,rfl,r,R,b⟩:=vals3 H;exact ⟨[U,c,d],.cons r (.cons R (.cons b .nil)),λ Z Z Z Z Z Z u h=>by obtain ⟨a,rfl⟩:∃ a,u=[a]:=Jj (by simpa using h:u.length=1) λ a=>⟨a,rfl⟩;exact ⟨_,rfl,rfl⟩⟩
theorem fu (T:Txt K mg Ad):Def P w K mg base "has_room" 1 ["bits","room"] Cy:=by
 refine T.DQ.cW Bx λ Z Z Z Z Z H v Q E b h=>?_;obtain ⟨n,r,rfl,k⟩:=h;refine ⟨_,(ar (aO (dL fT (aA bh (aA ES (pv 0) (pv 1)) ai) ai (aQ _)))),⟨ac4 _,λ s a=>⟨by decide,λ m Z Z e=>⟨rfl,?_⟩⟩⟩⟩;rw [L4 n r a e];exact k
theorem rD (T:Txt K mg Ad):Def P w K mg base "with_room" 1 ["bits","room"] Ag:=by
 refine T.Be.cW zt λ Z Z Z Z Z H v Q E c h=>?_;obtain ⟨n,r,rfl,F,k⟩:=h;refine ⟨_,(ar (aO (aA Qe (pv 0) (aA Mu ai (pv 1))))),⟨⟨ac4 _,by lia,by decide⟩,λ s b=>(λ m a=>?_)⟩⟩;have e:s=((2 ^ r:Nat)):=by simp_all
 rw [a,e,GX];exact k
theorem lQ (T:Txt K mg Ad):Def P w K mg base "members" 2 ["bits"] Dc:=by
 refine T.GL.cW Ec λ Z Z Z Z Z H V Q E l h=>?_;obtain ⟨n,rfl,j,k⟩:=h;refine ⟨_,(ar (aO (ft ["room"] ["bits"] [0] (.cons ⟨rfl,rfl,.inl rfl⟩ .nil) rfl (bY rfl T.c9 (aa (QI PySem.F.plainAttrs_int PySem.F.slot_int_bit_length PySem.F.type_int_bit_length Gn (pv 0)) ac)) (λ Z Z Z Z Z=>(ky (i:=0))) (λ Z Z Z Z Z=>(gJ (cP (au (fu T) l.m (aa (pv 1) (aa (pv 0) ac)))))) (λ Z Z Z Z Z=>(pv 0))))),?_⟩;try dsimp only [kA,cz]
 refine ⟨rfl,_,rfl,rfl,λ b o=>?_⟩;have g:Builtin.Int.intBits (n:Int)<=61:=aeT.mpr (by simpa using j);have M:=by
   have:=aeT.mp (aaE (Builtin.Int.intBits (n:Int)));simpa using this
 have f:b.toNat=Builtin.Int.intBits (n:Int):=by lia
 refine ⟨b,rfl,by lia,by lia,λ D d=>dX (λ i a U c=>A3 (c=upd H D (.lst a)) (a=((List.range i).filter n.testBit).map aq) (∃ v,U=[v,some (aq n)])) ⟨rfl,rfl,none,rfl⟩ ?_ ?_⟩
 .
  rintro i a U c p ⟨rfl,rfl,v,rfl⟩;refine ⟨n,i,(by show [_,_]=[_,_];rw [abL];rfl),_,rfl,?_⟩;have e:((List.range (i+1)).filter n.testBit).map aq=((List.range i).filter n.testBit).map aq++(if n.testBit i=true then [aq i] else []):=by
    rw [ab6,adg,aau];by_cases q:n.testBit i=true<;>simp [q]
  by_cases q:n.testBit i=true
  .
   rw [q];refine fH ⟨af,?_,?_,?_,_,rfl⟩
   . have:=ab0 n.testBit (List.range i);rw [aaA] at this;rw [Ea];exact aS (by lia)
   . rw [oM]
   . rw [e,abp q,abL];rfl
  . rw [af3] at q;rw [q];refine dk ⟨rfl,?_,_,rfl⟩;rw [e,q];simp
 . rintro a U c ⟨rfl,rfl,v,rfl⟩;refine k D _ d (ap d) ?_;rw [af,f,Bit.ED M g]
theorem vF (T:Txt K mg Ad):Def P w K mg base "subsets" 3 ["bits"] DH:=by
 refine T.HY.cW lY λ _ _ _ _ _ H vs Q E B h=>?_;obtain ⟨n,rfl,W,h8,k⟩:=h;refine ⟨_,(ag (dD (i:=1) lY.nd (bK (aa ai ac)))
     (ag (cA aa7 rfl (bw (au (lQ T) B.m (aa (pv 0) ac))) (fR (i:=2) lY.nd) (ar (dD (i:=1) lY.nd (aA IE (pv 1) (ft ["part"] ["room"] [2] (.cons ⟨rfl,rfl,.inl rfl⟩ .nil) rfl (bw (pv 1)) (λ _ _ _ _ _=>(ky (i:=0))) (λ _ _ _ _ _=>cB) (λ _ _ _ _ _=>(au (rD T) B.m (aa (pv 0) (aa (pv 1) ac)))))))))
     (ar (aO (pv 1))))),?_⟩
 try dsimp only [kA,cz]
 first|(refine fJ ?_;intro _ _ _ _)|skip
 refine ⟨(by show 1<=sizeLine;decide),λ p0 L=>⟨n,rfl,W,λ pm I iC G C=>⟨⟨_,aW.of C⟩,?_⟩⟩⟩;have S:=(ap (o:=.lst [.int 0]) L).trans G;refine jZ (K:=K) (a:=pm) (xs:=(Bit.rooms n).map aq) (λ i U d=>aE I d/\E2 λ (b:ak) (v:eU)=>A3 (H b=none) (U=[some (aq n),some (.ref b),v]) (d b=some (.lst ((Bit.parts ((Bit.rooms n).take i)).map aq))))
   ⟨aE.refl _,p0,none,L,rfl,G _ _ af⟩ (λ i U d _ ⟨s,_⟩=>aW.of (s _ _ C)) ?_ ?_
 .
  rintro i x U d X ⟨s,b,v,M,rfl,f⟩;obtain ⟨r,t,rfl⟩:=di X;have V:=(SV.mp t).1;have O:r<61:=(Bit.eD.mp (aae t)).1;have J:(Bit.parts ((Bit.rooms n).take i)).length<=256:=by
    rw [(Mp n i).len,aby];exact aaX (acy (by decide) (by lia:min i (Bit.rooms n).length<=8)) (by decide)
  have next:Bit.parts ((Bit.rooms n).take (i+1))=Bit.parts ((Bit.rooms n).take i)++(Bit.parts ((Bit.rooms n).take i)).map (· ||| 2 ^ r):=by
    rw [bX t,Ey]
  generalize Bit.parts ((Bit.rooms n).take i)=g at *;refine ⟨⟨_,aW.of f⟩,λ D u=>?_⟩;have N:b≠D:=ax f u;refine cf (K:=K) (a:=b) (xs:=g.map aq) (λ j A c l=>A3 (l=upd d D (.lst A)) (A=(g.take j).map (λ p=>aq (p ||| 2 ^ r))) (∃ v,c=[v,some (aq r)])) ⟨rfl,rfl,none,rfl⟩
    (λ j A c l _ ⟨e,_,_⟩=>by subst e;exact aW.of (by rw [aw N];exact f)) ?_ ?_
  .
   rintro j y A c l Y ⟨rfl,rfl,v2,rfl⟩;obtain ⟨p,R,rfl⟩:=di Y;refine ⟨p,r,rfl,by lia,af,?_,?_,?_,_,rfl⟩
   . rw [Ea,aby];exact aS (by lia)
   . rw [oM]
   . rw [bX R,aau];rfl
  .
   rintro A c l ⟨rfl,rfl,v2,rfl⟩;rw [Ea,aa4];refine ⟨b,D,_,_,rfl,rfl,(by rw [aw N];exact f),af,?_,λ q z=>?_⟩
   . rw [Ea,Ea];exact aeN (aS (by lia))
   . have F:=ap (o:=.lst (g.map λ p=>aq (p ||| 2 ^ r))) u;refine ⟨s.trans (F.trans (ap (o:=.lst (g.map aq++g.map λ p=>aq (p ||| 2 ^ r))) z)),q,_,S.free (s.free (F.free z)),rfl,?_⟩;rw [af,next,aau,ac5];rfl
 . rintro U d ⟨s,b,v,M,rfl,f⟩;rw [Ea,aa4] at f;exact (k b d M (S.trans s) f)
theorem nM (T:Txt K mg Ad):Def P w K mg base "how_many" 3 ["bits"] Ch:=by
 refine T.EG.cW Bj λ Z Z Z Z Z H v Q E c h=>?_;obtain ⟨n,rfl,b,k⟩:=h;refine ⟨_,(ar (aO (aT bv (by rfl) T.fc cZ (aa (au (lQ T) c.m (aa (pv 0) ac)) ac)))),⟨n,rfl,b,λ p a i s d=>⟨p,_,rfl,.inl (aW.of d),λ y e=>?_⟩⟩⟩;rw [Ea] at e;rw [e];exact k a s
theorem mv (T:Txt K mg Ad):Def P w K mg base "bits_of" 2 ["rooms"] (Gy K):=by
 refine T.HL.cW lW λ Z Z Z Z Z H V Q E g h=>?_;obtain ⟨p,l,rfl,c,f,k⟩:=h;refine ⟨_,(ag (dD (i:=1) lW.nd ai)
     (ag (cA aa7 rfl (bw (pv 0)) (fR (i:=2) lW.nd) (ar (dD (i:=1) lW.nd (au (rD T) g.m (aa (pv 1) (aa (pv 2) ac))))))
     (ar (aO (pv 1))))),?_⟩
 refine ⟨⟨_,c⟩,jZ (K:=K) (λ i U a=>a=H/\∃ v,U=[some (.ref p),some (aq (Bit.sumOf (l.take i))),v]) ⟨rfl,none,rfl⟩ (λ i U a Z e=>by rw [e.1];exact c) ?_ ?_⟩
 .
  rintro i x U a j ⟨rfl,v,rfl⟩;obtain ⟨r,b,rfl⟩:=di j;have d:Bit.sumOf (l.take (i+1))=Bit.sumOf (l.take i) ||| 2 ^ r:=by
    rw [bX b];unfold Bit.sumOf;rw [adl];rfl
  exact ⟨_,r,rfl,f r (aae b),rfl,_,by rw [d];rfl⟩
 . rintro U a ⟨rfl,v,rfl⟩;rw [Ea,aa4];exact k
theorem xD (T:Txt K mg Ad):Def P w K mg base "fits_stove" 1 ["stove","fired","wait","failed"] (xR K):=by
 refine T.Ao.cW lh λ Z Z Z Z Z H r Q E l h=>?_;obtain ⟨v,z,f,W,b,rfl,a,c,k⟩:=h;refine ⟨_,(ag (bA (aP mZ (pv 0) cM (aQ _)) (ar (aO (pQ (zN (pv 1)) (pQ (dL fT (pv 2) ai (aQ _)) (mm (dL fT (pv 3) ai (aQ _))))))) aR)
     (ag (gL (vQ FK (pv 0) (yV ai) Aj) (cL (K:=K) (n:=2) rfl rfl (aL (fR (i:=4) lh.nd) (aL (fR (i:=5) lh.nd) cJ))))
     (ag (bA (PW.pt (uo (fB (lB kG kG ai (pv 2) (pv 4))) (qD (fB (lB kG kG ai (pv 3) (pv 5)))))) (ar (aO rQ)) aR)
     (ar (aO (Lc (dL fT (pv 3) ai (aQ _)) (mm (pQ (zN (pv 1)) (mm (dL fT (pv 2) ai (aQ _))))))))))),?_⟩
 first|(refine gb ?_;intro Z Z Z Z Z)|skip
 cases z with
 | none =>
   obtain ⟨rfl,rfl,rfl⟩:=c;have a:=a;subst a;exact ⟨rfl,_,rfl,uN rfl ⟨_,rfl,_,rfl,fH ⟨rfl,_,rfl,uN rfl ⟨rfl,blT rfl (k H (aE.refl _))⟩⟩⟩⟩
 | some z =>
   obtain ⟨p,m,rfl,g,Z⟩:=a.bE;refine ⟨rfl,_,rfl,sK nofun ?_⟩;refine ⟨2,rfl,p,_,2,rfl,g,rfl,rfl,by decide,(by show 2<=4;decide),λ q j=>?_⟩;refine ⟨cw.of af,rfl,rfl,?_⟩;have s:=ap (o:=.tup [V.int z.2.2.1,V.int z.2.2.2]) j;obtain ⟨F,d,e⟩:=c;refine ⟨_,rfl,uN (by lia) ⟨_,rfl,fS F ?_⟩⟩;refine ⟨_,rfl,uN (by lia) ⟨_,rfl,fS d ?_⟩⟩;refine ⟨rfl,_,rfl,?_⟩;rcases e with rfl|⟨rfl,rfl⟩
   . exact uN rfl (k _ s)
   . refine jL (λ Z=>k _ s) (λ Z=>⟨_,rfl,_,rfl,fH ⟨rfl,blT rfl (k _ s)⟩⟩)
theorem AA (T:Txt K mg Ad):Def P w K mg base "fits_room" 5 ["hold","state","room"] (zC K Ad.aY):=by
 refine T.Bp.cW gp λ Z Z Z Z Z H vs Q E c h=>?_;obtain ⟨a,f,m,p,C,i,rfl,d,t,ok,b,k⟩:=h;refine ⟨_,(ag (gL (pv 1) (cL (K:=K) (n:=5) rfl rfl (aL (fR (i:=3) gp.nd) (aL (fR (i:=4) gp.nd) (aL (fR (i:=5) gp.nd) (aL (fR (i:=6) gp.nd) (aL (fR (i:=7) gp.nd) cJ)))))))
     (ag (bA (fB (lB kG kI ai (aJ aC (pv 3) (pv 2)) (aA fA (aT bv (by rfl) T.fc cZ (aa (aM (pv 0) T.az (fm T) .nil c.m (aa (pv 2) ac)) ac)) ai))) (ar (aO rQ)) aR)
     (ar (aO (au (xD T) c.m (aa (aM (pv 0) T.az (cE T) .nil c.m (aa (pv 2) ac)) (aa (au (fu T) c.m (aa (pv 4) (aa (pv 2) ac))) (aa (aJ aC (pv 5) (pv 2)) (aa (aJ aC (pv 6) (pv 2)) ac))))))))),?_⟩
 first|(refine fJ ?_;intro Z Z Z Z)|skip
 obtain ⟨O,U,R,j,l,r,q⟩:=id t;obtain ⟨⟨G,Z,Z,Z,Z,Z,Z,Z,Z,Z,e,Z⟩,V,W,X,Y⟩:=id d;have A:=aK b;have F:m.rows.getD i []=m.rows[i]:=by rw [YQ,A];rfl
 have N:=ok.band i b;have u:=oY (m:=m) (i:=i) (by lia);refine ⟨j,rfl,rfl,?_⟩;refine ⟨.inr l,uf (by rw [ok.lb];exact b),_,rfl,uN (by lia) ?_⟩;refine ⟨e,rfl,a,f,m,i,_,rfl,d,A,λ B x I M=>⟨B,x,rfl,.inl (aW.of af),λ y J=>(λ z L=>⟨_,rfl,fS ?_ ?_⟩)⟩⟩
 . have:=M.length;rw [Ea] at this;lia
 have s:=ap (o:=.lst x) I;refine ⟨s _ _ e,rfl,a,f,m,i,_,rfl,d.same s,u,λ v D=>?_⟩;refine ⟨C.bG,i,rfl,?_⟩;refine ⟨.inr (s.tup r),uf (by rw [ok.lw];exact b),?_⟩;refine ⟨.inr (s.tup q),uf (by rw [ok.lf];exact b),?_⟩;exact ⟨v,m.eT i,_,_,_,rfl,D,ok.bE i b,λ g S=>k g (s.trans S)⟩
theorem AS (T:Txt K mg Ad):Def P w K mg base "is_state" 6 ["hold","state"] (Bn K Ad.aY):=by
 refine T.DO.cW fX λ Z Z Z Z Z H R Q E o h=>?_;obtain ⟨a,F,m,p,d,rfl,l,r,ok,k⟩:=h;refine ⟨_,(ag (gL (pv 1) (cL (K:=K) (n:=5) rfl rfl (aL (fR (i:=2) fX.nd) (aL (fR (i:=3) fX.nd) (aL (fR (i:=4) fX.nd) (aL (fR (i:=5) fX.nd) (aL (fR (i:=6) fX.nd) cJ)))))))
     (ag (dD (i:=7) fX.nd (eC (pv 0) T.az (cu T) .nil o.m))
     (ag (bA (PW.pt (uo (aP pE (aT bv (by rfl) T.fc cZ (aa (pv 2) ac)) (pv 7) (aQ _)) (uo (aP pE (aT bv (by rfl) T.fc cZ (aa (pv 4) ac)) (pv 7) (aQ _)) (qD (aP pE (aT bv (by rfl) T.fc cZ (aa (pv 5) ac)) (pv 7) (aQ _)))))) (ar (aO rQ)) aR)
     (ag (bA (PW.pt (uo (aP pE (aA ES (pv 3) (pv 7)) ai (aQ _)) (qD (aP ur (au (nM T) o.m (aa (pv 3) ac)) (aU (pv 0) rfl) (aQ _))))) (ar (aO rQ)) aR)
     (ag (bA (fB (lB kG kG ai (pv 6) (aU (pv 0) rfl))) (ar (aO rQ)) aR)
     (ar (aO (aT (yr rfl) (by rfl) T.N3 Jk (aa (ft ["room"] ["hold","state"] [0,1] (.cons ⟨rfl,rfl,.inl rfl⟩ (.cons ⟨rfl,rfl,.inl rfl⟩ .nil)) rfl (bY rfl T.c9 (aa (pv 7) ac)) (λ Z Z Z Z Z=>(ky (i:=0))) (λ Z Z Z Z Z=>cB) (λ Z Z Z Z Z=>(au (AA T) o.m (aa (pv 1) (aa (pv 2) (aa (pv 0) ac)))))) ac))))))))),?_⟩
 try dsimp only [kA,cz]
 first|(refine nX ?_;intro Z Z Z Z Z Z Z)|skip
 obtain ⟨M,O,N,z,B,I,C⟩:=id r;obtain ⟨⟨dx,pm,Y,Ng,X,vm,R,vt,aG,Z,j,Z⟩,q1,q2,q3,q4⟩:=id l;have f:d.bG<2 ^ 61:=aa6 ok.bG (acy (by decide) (by lia));refine ⟨z,rfl,rfl,?_⟩;refine ⟨j,rfl,a,F,m,rfl,l,?_⟩;refine ⟨M,_,rfl,.inr B,λ y e=>⟨rfl,_,rfl,fS (by rw [e,Ea,ok.lb];rfl) ?_⟩⟩;refine ⟨O,_,rfl,.inr I,λ y e=>⟨rfl,_,rfl,fS (by rw [e,Ea,ok.lw];rfl) ?_⟩⟩;refine ⟨N,_,rfl,.inr C,λ y e=>⟨rfl,_,rfl,fS (by rw [e,Ea,ok.lf];rfl) ?_⟩⟩;refine ⟨ac4 _,λ s G=>⟨rfl,_,rfl,fS ?_ ?_⟩⟩
 . rw [G,acM];have:((d.bG:Nat):Int) / 2 ^ m.rows.length=0:=Int.ediv_eq_zero_of_lt (ac4 _) (by exact_mod_cast ok.bG);rw [this]
 refine ⟨d.bG,rfl,f,λ u S=>⟨S _ _ j,T.az,T.gf,nc ..,_,rfl,sK (by have:=ok.most;lia) ?_⟩⟩;refine ⟨_,rfl,uN (by lia) ⟨S _ _ j,T.az,T.jb,vc ..,_,rfl,fS ok.heap ?_⟩⟩;refine ⟨_,rfl,by lia,by lia,λ D q=>?_⟩;refine dX (lo:=0) (n:=m.rows.length) (λ i A U b=>A4 (aE u b) (b D=some (.lst A)) (A=(List.replicate i true).map V.bl) (∃ v,U=[v,some (.ref a),some (.ref p)])) ⟨ap q,af,rfl,none,rfl⟩ ?_ ?_
 . rintro i A U b J ⟨c,g,rfl,v,rfl⟩;refine ⟨a,F,m,p,d,i,(by rw [abL];rfl),l.same (S.trans c),r.same (S.trans c),ok,J,λ W t=>⟨t _ _ g,aS (by rw [Ea,aek];lia),(c.trans t).put q,af,?_,_,rfl⟩⟩;rw [aen,aau];rfl
 .
  rintro A U b ⟨c,g,rfl,v,rfl⟩;refine ⟨D,_,rfl,aW.of g,?_⟩;have:(List.replicate m.rows.length true).all id=true:=by
    rw [acj];intro x L;exact (List.mem_replicate.mp L).2
  rw [this];exact k b (S.trans c)
theorem iU (T:Txt K mg Ad):Def P w K mg base "look_at_state" 7 ["hold","state"] (xJ K Ad.aY):=by
 refine T.uK.cW sG λ Z Z Z Z Z H v Q E d h=>?_;obtain ⟨a,f,m,p,S,rfl,c,e,ok,k⟩:=h;exact ⟨_,(ar (bA (fB (cP (au (AS T) d.m (aa (pv 0) (aa (pv 1) ac))))) (ar cH) aR)),⟨a,f,m,p,S,rfl,c,e,ok,λ b s=>⟨_,rfl,dk (k b s)⟩⟩⟩
theorem kP (T:Txt K mg Ad):Def P w K mg base "with_stove" 5 ["hold"] (xO K Ad.aY):=by
 refine T.zx.cW xL λ Z Z Z Z Z H V Q E c h=>?_;obtain ⟨a,F,m,rfl,g,k⟩:=h;refine ⟨_,(ar (aO (au (mv T) c.m (aa (ft ["room"] ["hold"] [0] (.cons ⟨rfl,rfl,.inl rfl⟩ .nil) rfl (bY rfl T.c9 (aa (eC (pv 0) T.az (cu T) .nil c.m) ac)) (λ Z Z Z Z Z=>(ky (i:=0))) (λ Z Z Z Z Z=>(gJ (aP gw (aM (pv 1) T.az (cE T) .nil c.m (aa (pv 0) ac)) cM (aQ _)))) (λ Z Z Z Z Z=>(pv 0))) ac)))),?_⟩;obtain ⟨⟨y,C,N,u,t,R,V,vt,x,Z,p,Z⟩,I,J,M,O⟩:=id g;refine ⟨p,rfl,a,F,m,rfl,g,_,rfl,by lia,by lia,λ D o=>dX (lo:=0) (n:=m.rows.length) (λ i A U b=>A4 (aE H b) (b D=some (.lst A)) (A=((List.range i).filter m.has).map aq) (∃ v,U=[v,some (.ref a)])) ⟨ap o,af,rfl,none,rfl⟩ ?_ ?_⟩
 .
  rintro i A U b B ⟨s,f,rfl,v,rfl⟩;have l:((List.range (i+1)).filter m.has).map aq=((List.range i).filter m.has).map aq++(if m.has i=true then [aq i] else []):=by
    rw [ab6,adg,aau];by_cases q:m.has i=true<;>simp [q]
  have L:=ab0 m.has (List.range i);rw [aaA] at L;refine ⟨s _ _ p,rfl,a,F,m,i,_,(by rw [abL];rfl),g.same s,oY (m:=m) (i:=i) (by lia),λ v d=>⟨rfl,_,rfl,?_⟩⟩;cases e:m.eT i with
  | none =>
    rw [e] at d;have j:m.has i=false:=by unfold am.has;rw [e];rfl
    refine fS d ⟨s,f,?_,_,rfl⟩;rw [l,j];simp
  | some z =>
    rw [e] at d;obtain ⟨G,Z,rfl,Z⟩:=d.bE;have j:m.has i=true:=by unfold am.has;rw [e];rfl
    refine Xm nofun ⟨f,aS (by rw [Ea];lia),s.put o,af,?_,_,rfl⟩;rw [l,j,abL];rfl
 . rintro A U b ⟨s,f,rfl,v,rfl⟩;exact ⟨D,(List.range m.rows.length).filter m.has,rfl,aW.of f,λ r c=>by have:=aaK.mp (abT.mp c).1;lia,k b s⟩
theorem qx (T:Txt K mg Ad):Def P w K mg base "wood_of" 6 ["hold","bits"] (DS K Ad.aY):=by
 refine T.Ib.cW Dz λ Z Z Z Z Z H W Q E l h=>?_;obtain ⟨a,F,m,b,rfl,f,k⟩:=h;refine ⟨_,(ar (aO (aT (Hk rfl) (by rfl) T.UR O3 (aa (ft ["room"] ["hold"] [0] (.cons ⟨rfl,rfl,.inl rfl⟩ .nil) rfl (bw (au (lQ T) l.m (aa (aA oX (pv 1) (au (kP T) l.m (aa (pv 0) ac))) ac))) (λ Z Z Z Z Z=>(ky (i:=0))) (λ Z Z Z Z Z=>cB) (λ Z Z Z Z Z=>(aJ (fE (K:=K) rfl) (aM (pv 1) T.az (cE T) .nil l.m (aa (pv 0) ac)) ai))) ac)))),?_⟩;obtain ⟨⟨dx,pm,Nb,Ng,LP,vm,W,vt,aG,Z,I,Z⟩,q1,q2,M,q4⟩:=id f;refine ⟨a,F,m,rfl,f,λ Y O=>(λ y G=>⟨b &&& m.ws,(by rw [G,pS];rfl),?_,λ L B iL R t=>⟨⟨_,aW.of t⟩,λ D p=>?_⟩⟩)⟩
 . exact abe afe (afo (rR M) (by decide))
 have S:=O.trans R;have lr:=yo (b &&& m.ws);refine cf (K:=K) (a:=L) (λ j A U c=>A4 (aE B c) (c D=some (.lst A)) (A=(((Bit.rooms (b &&& m.ws)).take j).map m.wd).map V.int) (∃ v,U=[v,some (.ref a)]))
   ⟨ap p,af,rfl,none,rfl⟩ (λ j A U c Z e=>aW.of (e.1 _ _ t)) ?_ ?_
 .
  rintro j x A U c J ⟨s,g,rfl,v,rfl⟩;obtain ⟨r,d,rfl⟩:=di J;have q:=(Bit.eD.mp (aae d)).2;rw [abS,am.ws,Ord.cI,abX,abX,acG] at q;obtain ⟨Z,X,N⟩:=q;obtain ⟨z,o⟩:=aew.mp N;have hj:=(SV.mp d).1;refine ⟨(S.trans s) _ _ I,rfl,a,F,m,r,_,rfl,f.same (S.trans s),oY (m:=m) (i:=r) (by lia),λ u n=>?_⟩;rw [o] at n;obtain ⟨pz,v1,rfl,C,Z⟩:=n.bE;refine ⟨.inr C,rfl,g,aS (by rw [Ea,Ea,aby];lia),s.put p,af,?_,_,rfl⟩;rw [bX d,aau,aau];have:m.wd r=z.2.1:=by unfold am.wd;rw [o];rfl
  show _=_++[V.int (m.wd r)]
  rw [this]
 .
  rintro A U c ⟨s,g,rfl,v,rfl⟩;rw [Ea,aa4] at g;refine ⟨D,_,rfl,aW.of g,λ r d=>?_⟩;rw [d];exact k c (S.trans s)
theorem zU (T:Txt K mg Ad):Def P w K mg base "must_stay" 3 ["state"] (zh K):=by
 refine T.BX.cW zZ λ Z Z Z Z Z H X Q E f h=>?_;obtain ⟨p,s,rfl,z,J,k⟩:=h;refine ⟨_,(ar (aO (au (mv T) f.m (aa (ft ["room","wait"] [] [] .nil rfl (O4 rfl T.dg (aa (aJ aC (pv 0) ai) ac)) (λ Z Z Z Z Z=>(cL (K:=K) (n:=2) rfl rfl (aL (ky (i:=0)) (aL (ky (i:=1)) cJ)))) (λ Z Z Z Z Z=>(gJ (aP ur (pv 1) ai (aQ _)))) (λ Z Z Z Z Z=>(pv 0))) ac)))),?_⟩;try dsimp only [kA,cz]
 obtain ⟨O,u,R,y,C,o,F⟩:=id z;refine ⟨.inr y,rfl,u,rfl,⟨_,o⟩,λ D q=>?_⟩;refine kO (sq:=cw K) (a:=u) (xs:=s.dE.map aq) (λ i A U b=>A4 (aE H b) (b D=some (.lst A)) (A=((List.range i).filter s.wt).map aq) (E2 λ v V=>U=[v,V]))
   ⟨ap q,af,rfl,none,none,rfl⟩ (λ i A U b Z e=>e.1.tup o) ?_ ?_
 .
  rintro i x t A U b B M ⟨S,d,rfl,v,V,rfl⟩;obtain ⟨W,c,rfl⟩:=di B;have I:=(SV.mp c).1;have l:gN s.dE i=W:=by unfold gN;rw [c];rfl
  have j:aE b (upd b t (.tup [aq i,aq W])):=ap M;have N:D≠t:=ax d M;have G:=j _ _ d;have L:=ab0 s.wt (List.range i);rw [aaA] at L;refine ⟨cw.of af,rfl,rfl,⟨_,rfl,jL (λ h=>?_) (λ h=>?_)⟩⟩
  . have g:s.wt i=true:=by unfold ck.wt;rw [l];exact aaS (by lia)
    refine ⟨G,aS (by rw [Ea];lia),(S.trans j).put q,af,?_,_,_,rfl⟩;rw [ab6,adg,aau];simp [g]
  . have g:s.wt i=false:=by unfold ck.wt;rw [l];exact aaR (by lia)
    refine ⟨S.trans j,G,?_,_,_,rfl⟩;rw [ab6,adg,aau];simp [g]
 . rintro A U b ⟨S,d,rfl,v,V,rfl⟩;rw [Ea] at d;exact ⟨D,(List.range s.dE.length).filter s.wt,rfl,aW.of d,λ r f=>by have:=aaK.mp (abT.mp f).1;lia,k b S⟩
theorem BC (T:Txt K mg Ad):Def P w K mg base "can_burn" 7 ["hold","order","heap"] (BZ K Ad.aY):=by
 refine T.C8.cW Cu λ Z Z Z Z Z H v Q E d h=>?_;obtain ⟨a,F,m,o,b,rfl,c,j,k⟩:=h;refine ⟨_,(ar (aO (pQ (dL kG (au (nM T) d.m (aa (pv 1) ac)) (aU (pv 0) rfl) (aQ _)) (mm (dL kG (au (qx T) d.m (aa (pv 0) (aa (pv 1) ac))) (pv 2) (aQ _)))))),?_⟩;obtain ⟨⟨D,p,N,n,L,V,v,vt,A,Z,i,Z⟩,q,l,r,t⟩:=id c;refine ⟨o,rfl,j,λ f s=>⟨s _ _ i,T.az,T.gf,nc ..,_,rfl,jL (λ h=>?_) (λ h=>?_)⟩⟩
 .
  refine ⟨a,F,m,o,rfl,c.same s,λ g S=>?_⟩;have e:m.J6 o b=decide (m.gY o<=b):=by unfold am.J6;rw [aaS h,adc]
  have:=k g (s.trans S);rw [e] at this;exact this
 .
  have e:m.J6 o b=false:=by unfold am.J6;rw [aaR h,aeK]
  have:=k f s;rw [e] at this;exact this
theorem zH (T:Txt K mg Ad):Def P w K mg base "orders_of" 8 ["hold","state"] (yZ K Ad.aY):=by
 refine T.AM.cW mC λ Z Z Z Z Z H vs Q E c h=>?_;obtain ⟨a,F,m,p,s,rfl,l,C,ok,k⟩:=h;refine ⟨_,(ag (aV (au (iU T) c.m (aa (pv 0) (aa (pv 1) ac))))
     (ag (dD (i:=2) mC.nd (au (zU T) c.m (aa (pv 1) ac)))
     (ag (dD (i:=3) mC.nd (aA oX (aJ aC (pv 1) ai) (pv 2)))
     (ar (aO (ft ["order"] ["going_on","hold","held","state"] [3,0,2,1] (.cons ⟨rfl,rfl,.inl rfl⟩ (.cons ⟨rfl,rfl,.inl rfl⟩ (.cons ⟨rfl,rfl,.inl rfl⟩ (.cons ⟨rfl,rfl,.inl rfl⟩ .nil)))) rfl (bw (au (vF T) c.m (aa (au (kP T) c.m (aa (pv 0) ac)) ac))) (λ Z Z Z Z Z=>(ky (i:=0))) (λ Z Z Z Z Z=>(gJ (PW.pt (k9 (aP fT (aA oX (pv 0) (pv 3)) (pv 1) (aQ _)) (iX (cP (au (BC T) c.m (aa (pv 2) (aa (pv 0) (aa (aJ (fE (K:=K) rfl) (pv 4) ai) ac)))))))))) (λ Z Z Z Z Z=>(pv 0)))))))),?_⟩
 try dsimp only [kA,cz]
 first|(refine gb ?_;intro Z Z Z Z Z)|skip
 obtain ⟨pb,pw,pf,J,eb,ew,ef⟩:=id C;obtain ⟨⟨dx,pm,Nb,Ng,LP,vm,vs,vt,aG,Z,ha,Z⟩,q1,q2,M,q4⟩:=id l;refine ⟨a,F,m,p,s,rfl,l,C,ok,λ H1 N=>⟨p,s,rfl,C.same N,by rw [ok.lw];exact M,λ H2 s2=>?_⟩⟩;have r:=N.trans s2;refine ⟨.inr (r.tup J),rfl,λ X t=>?_⟩;obtain rfl:X=((s.bG &&& s.held:Nat):Int):=by rw [t,pS]
 have O:=rR M;have W:(Bit.rooms m.ws).length<=8:=by
   rw [am.ws,Ord.sr _ (by lia)];have:=ab0 m.has (List.range m.rows.length);rw [aaA] at this;lia
 refine ⟨a,F,m,rfl,l.same r,λ H3 s3=>⟨m.ws,rfl,afo O (by decide),W,λ pl R iL sm G=>⟨⟨_,aW.of G⟩,λ D B=>?_⟩⟩⟩;have f:=(r.trans s3).trans sm;have lp:(Bit.parts (Bit.rooms m.ws)).length<=16:=by
   rw [Ord.u9 _ O];exact aaX (ab0 _ _) (by rw [aaA];decide)
 have I:∀ o∈Bit.parts (Bit.rooms m.ws),o<16:=λ o h=>by
   rw [Ord.u9 _ O] at h;exact aaK.mp (abT.mp h).1
 generalize ji:Bit.parts (Bit.rooms m.ws)=d at lp I G;refine cf (K:=K) (a:=pl) (xs:=d.map aq) (λ j A U b=>A4 (aE R b) (b D=some (.lst A)) (A=((d.take j).filter (s.Hc m)).map aq) (∃ v,U=[v,some (aq (s.bG &&& s.held)),some (.ref a),some (aq s.held),some (.ref p)]))
   ⟨ap B,af,rfl,none,rfl⟩ (λ j A U b Z e=>aW.of (e.1 _ _ G)) ?_ ?_
 .
  rintro j x A U b Y ⟨S,z,rfl,v,rfl⟩;obtain ⟨o,L,rfl⟩:=di Y;have la:=ab0 (s.Hc m) (d.take j);rw [aby] at la;refine (λ y V=>⟨rfl,_,rfl,?_⟩);obtain rfl:y=((o &&& s.held:Nat):Int):=by rw [V,pS]
  have u:((d.take (j+1)).filter (s.Hc m)).map aq=((d.take j).filter (s.Hc m)).map aq++(if s.Hc m o=true then [aq o] else []):=by
    rw [bX L,adg,aau];cases q:s.Hc m o<;>simp [q]
  refine jL (λ h=>?_) (λ h=>?_)
  .
   have h:o &&& s.held=s.bG &&& s.held:=by have:=kH.mp h;lia
   have g:s.Hc m o=m.J6 o s.heap:=by unfold ck.Hc;rw [aaS h,adc]
   refine ⟨.inr ((f.trans S).tup J),rfl,a,F,m,o,_,rfl,l.same (f.trans S),afo (I o (aae L)) (by decide),λ H5 n=>⟨_,rfl,?_⟩⟩;cases q:m.J6 o s.heap with
   | true =>
     refine fH ⟨n _ _ z,aS (by rw [Ea];lia),(S.trans n).put B,af,?_,_,rfl⟩;rw [u,g,q];rfl
   | false =>
     refine dk ⟨S.trans n,n _ _ z,?_,_,rfl⟩;rw [u,g,q];simp
  . have g:s.Hc m o=false:=by unfold ck.Hc;rw [aaR (λ e=>h (by rw [e];rfl)),aeK]
    refine dk ⟨S,z,?_,_,rfl⟩;rw [u,g];simp
 .
  rintro A U b ⟨S,z,rfl,v,rfl⟩;rw [Ea,aa4] at z;refine k D b (f.free B) (f.trans S) ?_;rw [z,<- ji];rfl
theorem EC (T:Txt K mg Ad):Def P w K mg base "failing" 5 ["hold","state","order"] (EH K Ad.aY):=by
 refine T.Ht.cW wA λ Z Z Z Z Z H vs Q E b h=>?_;obtain ⟨a,fp,m,p,s,o,rfl,M,hs,ok,l,k⟩:=h;refine ⟨_,(ag (dD (i:=3) wA.nd (aA oX (pv 2) (vS DG (aJ aC (pv 1) ai))))
     (ar (aO (au (mv T) b.m (aa (ft ["room"] ["state","hold"] [1,0] (.cons ⟨rfl,rfl,.inl rfl⟩ (.cons ⟨rfl,rfl,.inl rfl⟩ .nil)) rfl (bw (au (lQ T) b.m (aa (pv 3) ac))) (λ Z Z Z Z Z=>(ky (i:=0))) (λ Z Z Z Z Z=>(gJ (aP kI (aJ (fE (K:=K) rfl) (aJ (fE (K:=K) rfl) (pv 1) ai) (pv 0)) (aJ (fE (K:=K) rfl) (aM (pv 2) T.az (cE T) .nil b.m (aa (pv 0) ac)) ai) (aQ _)))) (λ Z Z Z Z Z=>(pv 0))) ac))))),?_⟩
 try dsimp only [kA,cz]
 obtain ⟨pb,pw,pf,F,eb,ew,ef⟩:=id hs;obtain ⟨⟨dx,pm,Nb,Ng,LP,vm,vs,vt,aG,Z,ha,Z⟩,q1,q2,t,q4⟩:=id M;have O:o<16:=by rw [<- l];exact abe afe (rR t)
 refine ⟨.inr F,rfl,_,rfl,λ y ey=>?_⟩;obtain rfl:y=((Ord.off o s.bG:Nat):Int):=by rw [ey];exact pX _ _
 have X:Ord.off o s.bG<2 ^ 4:=Ord.Qo (n:=4) O;have G:=OO t ok l;have f:∀ r∈Bit.rooms (Ord.off o s.bG),r<m.rows.length/\m.has r=true:=λ r b=>by
   have:=(Bit.eD.mp b).2;rw [Ord.i7 O (Ord.yC t ok.bG),abX] at this;exact HJ l this.1
 generalize Ord.off o s.bG=z at X G f |-;refine ⟨z,rfl,afo X (by decide),λ pl Hm iL R N=>⟨⟨_,aW.of N⟩,λ D L=>?_⟩⟩;refine cf (K:=K) (a:=pl) (xs:=(Bit.rooms z).map aq) (λ j A U c=>A4 (aE Hm c) (c D=some (.lst A)) (A=(((Bit.rooms z).take j).filter λ r=>decide ((gN s.failed r:Int)<m.fails r)).map aq) (∃ v,U=[v,some (.ref p),some (.ref a)]))
   ⟨ap L,af,rfl,none,rfl⟩ (λ j A U c Z e=>aW.of (e.1 _ _ N)) ?_ ?_
 .
  rintro j x A U c hx ⟨S,g,rfl,v,rfl⟩;obtain ⟨r,I,rfl⟩:=di hx;obtain ⟨W,NW⟩:=f r (aae I);obtain ⟨zz,J⟩:=vL NW;have d:=R.trans S;have la:=ab0 (λ r=>decide ((gN s.failed r:Int)<m.fails r)) ((Bit.rooms z).take j);have lr:=yo z;rw [aby] at la;have Y:m.fails r=zz.2.2.2:=by unfold am.fails;rw [J];rfl
  refine ⟨.inr (d.tup F),rfl,.inr (d.tup ef),uf (by rw [ok.lf];exact W),?_⟩;refine ⟨d _ _ ha,rfl,a,fp,m,r,_,rfl,M.same d,oY (m:=m) (i:=r) (by lia),λ u C=>?_⟩;rw [J] at C;obtain ⟨pz,v1,rfl,V,Z⟩:=C.bE;have B:(((Bit.rooms z).take (j+1)).filter λ r=>decide ((gN s.failed r:Int)<m.fails r)).map aq=(((Bit.rooms z).take j).filter λ r=>decide ((gN s.failed r:Int)<m.fails r)).map aq++(if decide ((gN s.failed r:Int)<m.fails r)=true then [aq r] else []):=by
    rw [bX I,adg,aau];by_cases q:(gN s.failed r:Int)<m.fails r<;>simp [q]
  refine ⟨.inr V,rfl,_,rfl,jL (λ h=>?_) (λ h=>?_)⟩
  . refine ⟨g,aS (by rw [Ea];lia),S.put L,af,?_,_,rfl⟩;rw [B,aaS (by rw [Y];exact h)];rfl
  . refine ⟨S,g,?_,_,rfl⟩;rw [B,aaR (by rw [Y];exact h)];simp
 .
  rintro A U c ⟨S,g,rfl,v,rfl⟩;rw [Ea,aa4] at g;have:=k c (R.trans S);rw [<- G] at this;exact ⟨D,_,rfl,aW.of g,λ r b=>by have:=(f r (abT.mp b).1).1;lia,this⟩
theorem wH (T:Txt K mg Ad):Def P w K mg base "wait_behind" 5 ["hold","state","burning","room"] (wZ K Ad.aY):=by
 refine T.xQ.cW wF λ Z Z Z Z Z H A Q E f h=>?_;obtain ⟨a,F,m,p,s,b,i,rfl,l,v,ok,t,x,q,k⟩:=h;refine ⟨_,(ag (bA (aP pE (au (fu T) f.m (aa (aJ aC (pv 1) ai) (aa (pv 3) ac))) (au (fu T) f.m (aa (pv 2) (aa (pv 3) ac))) (aQ _)) (ar (aO (aJ aC (aM (pv 0) T.az (cE T) .nil f.m (aa (pv 3) ac)) ai))) aR)
     (ar (aO (aT (oV rfl) (by rfl) T.FQ AC (aa ai (aa (aA fA (aJ aC (aJ aC (pv 1) ai) (pv 3)) ai) ac)))))),?_⟩
 obtain ⟨U,Y,W,g,O,o,R⟩:=id v;obtain ⟨⟨M,X,N,G,B,vm,A,vt,J,Z,r,Z⟩,q1,q2,q3,q4⟩:=id l;refine ⟨.inr g,rfl,s.bG,i,rfl,⟨b,i,rfl,rfl,_,rfl,xK (λ L=>?_) (λ c=>?_)⟩⟩
 .
  have L:¬ s.bG.testBit i=b.testBit i:=λ e=>L (by rw [e]);obtain ⟨z,j⟩:=vL (x L);have I:=oY (m:=m) (i:=i) (by lia);refine ⟨r,rfl,a,F,m,i,_,rfl,l,I,λ u D=>?_⟩;rw [j] at D;obtain ⟨pz,v1,rfl,C,Z⟩:=D.bE;have n:m.dI i=z.2.2.1:=by unfold am.dI;rw [j];rfl
  have d:aq (s.jj m b i) = .int z.2.2.1:=by
    unfold ck.jj;rw [abC L,<- n];show V.int _=_;rw [aev q]
  rw [d] at k;exact ⟨.inr C,rfl,k⟩
 .
  have c:=by injection c
  refine ⟨.inr g,rfl,.inr o,uf (by rw [ok.lw];exact t),λ y S=>⟨0,y,rfl,?_⟩⟩;have d:(if y > 0 then y else 0)=((s.jj m b i:Nat):Int):=by
    unfold ck.jj;rw [abp c];split<;>lia
  rw [d];exact k
theorem rY (T:Txt K mg Ad):Def P w K mg base "failed_behind" 2 ["state","burning","out","room"] (tQ K):=by
 refine T.uT.cW sT λ Z Z Z Z Z H v Q E g h=>?_;obtain ⟨p,S,b,o,i,rfl,l,f,k⟩:=h;refine ⟨_,(ag (bA (cP (au (fu T) g.m (aa (pv 2) (aa (pv 3) ac)))) (ar (aO (aA bL (aJ aC (aJ aC (pv 0) ai) (pv 3)) ai))) aR)
     (ag (bA (cP (au (fu T) g.m (aa (pv 1) (aa (pv 3) ac)))) (ar (aO ai)) aR)
     (ar (aO (aJ aC (aJ aC (pv 0) ai) (pv 3)))))),?_⟩
 obtain ⟨r,t,s,e,n,q,a⟩:=id l;unfold ck.j5 at k;refine ⟨o,i,rfl,_,rfl,?_⟩;cases c:o.testBit i with
 | true =>
   rw [c] at k;refine fH ⟨.inr e,rfl,.inr a,uf f,λ y j=>?_⟩;rw [j];exact k
 | false =>
   rw [c] at k;refine dk ⟨b,i,rfl,_,rfl,?_⟩;cases d:b.testBit i with
   | true =>
     rw [d] at k;exact fH k
   | false =>
     rw [d] at k;exact dk ⟨.inr e,rfl,.inr a,uf f,k⟩
theorem sQ (T:Txt K mg Ad):Def P w K mg base "stoves_behind" 7 ["hold","state","order","out"] (Hn K Ad.aY):=by
 refine T.uM.cW fe λ Z Z Z Z Z H vs Q E e h=>?_;obtain ⟨a,F,m,p,S,o,O,rfl,d,x,ok,R,h0,L,k⟩:=h;refine ⟨_,(ag (dD (i:=4) fe.nd (aA oX (pv 2) (vS DG (pv 3))))
     (ag (mQ (yi:=5) ["room"] ["hold","state","burning"] [0,1,4] (.cons ⟨rfl,rfl,.inl rfl⟩ (.cons ⟨rfl,rfl,.inl rfl⟩ (.cons ⟨rfl,rfl,.inl rfl⟩ .nil))) rfl (bY rfl T.c9 (aa (eC (pv 0) T.az (cu T) .nil e.m) ac)) (λ Z Z Z Z Z=>(ky (i:=0))) (λ Z Z Z Z Z=>cB) (λ Z Z Z Z Z=>(au (wH T) e.m (aa (pv 1) (aa (pv 2) (aa (pv 3) (aa (pv 0) ac)))))) fe.nd (lc rfl))
     (ag (mQ (yi:=6) ["room"] ["state","burning","out"] [1,4,3] (.cons ⟨rfl,rfl,.inl rfl⟩ (.cons ⟨rfl,rfl,.inl rfl⟩ (.cons ⟨rfl,rfl,.inl rfl⟩ .nil))) rfl (bY rfl T.c9 (aa (eC (pv 0) T.az (cu T) .nil e.m) ac)) (λ Z Z Z Z Z=>(ky (i:=0))) (λ Z Z Z Z Z=>cB) (λ Z Z Z Z Z=>(au (rY T) e.m (aa (pv 1) (aa (pv 2) (aa (pv 3) (aa (pv 0) ac)))))) fe.nd (lc rfl))
     (ag (dD (i:=7) fe.nd (aT (G2 rfl) (by rfl) T.JT Dw (aa (aU (pv 0) rfl) (aa (aA bL (aA fA (aJ aC (pv 1) ai) (au (qx T) e.m (aa (pv 0) (aa (pv 4) ac)))) (aU (pv 0) rfl)) ac))))
     (ar (aO (ca (aa (pv 4) (aa (cU dQ (by rfl) T.kN je (aa (pv 5) ac)) (aa (cU dQ (by rfl) T.kN je (aa (pv 6) ac)) (aa (pv 7) ac))))))))))),?_⟩
 try dsimp only [kA,cz]
 first|(refine nA ?_;intro Z Z Z Z Z Z)|skip
 obtain ⟨pb,pw,pf,e0,eb,ew,ef⟩:=id x;obtain ⟨⟨dx,pm,Nb,Ng,LP,vm,vs,vt,aG,Z,l,Z⟩,q1,q2,q3,q4⟩:=id d;refine ⟨_,rfl,λ y ey=>?_⟩;obtain rfl:y=((Ord.off o O:Nat):Int):=by rw [ey];exact pX _ _
 generalize Ord.off o O=b at R L k |-;refine ⟨l,rfl,a,F,m,rfl,d,_,rfl,by lia,by lia,λ D N=>dX (lo:=0) (n:=m.rows.length) (λ j A U c=>A4 (aE H c) (c D=some (.lst A)) (A=((List.range j).map (S.jj m b)).map aq) (∃ v,U=[v,some (.ref a),some (.ref p),some (aq b)])) ⟨ap N,af,rfl,none,rfl⟩ ?_ ?_⟩
 . rintro j A U c r ⟨s,z,rfl,v,rfl⟩;refine ⟨a,F,m,p,S,b,j,(by rw [abL];rfl),d.same s,x.same s,ok,r,R j,h0 j,z,aS (by rw [Ea,Ea,aaA];lia),s.put N,af,?_,_,rfl⟩;rw [ab6,aau,aau];rfl
 rintro A U H1 ⟨s,z,rfl,v,rfl⟩;refine ⟨s _ _ l,rfl,a,F,m,rfl,d.same s,_,rfl,by lia,by lia,λ I M=>dX (lo:=0) (n:=m.rows.length) (λ j A U c=>A4 (aE H1 c) (c I=some (.lst A)) (A=((List.range j).map (S.j5 b O)).map aq) (∃ v,U=[v,some (.ref p),some (aq b),some (aq O)])) ⟨ap M,af,rfl,none,rfl⟩ ?_ ?_⟩
 . rintro j A U c r ⟨f,G,rfl,v,rfl⟩;refine ⟨p,S,b,O,j,(by rw [abL];rfl),x.same (s.trans f),by rw [ok.lf];exact r,G,aS (by rw [Ea,Ea,aaA];lia),f.put M,af,?_,_,rfl⟩;rw [ab6,aau,aau];rfl
 rintro A U H2 ⟨f,G,rfl,v,rfl⟩;have g:=s.trans f;refine ⟨g _ _ l,T.az,T.jb,vc ..,?_⟩;refine ⟨.inr (g.tup e0),rfl,⟨a,F,m,b,rfl,d.same g,λ H3 B=>?_⟩⟩;have J:=g.trans B;refine (λ x1 g1=>⟨J _ _ l,T.az,T.jQ,ww ..,λ X g2=>⟨_,X,rfl,?_⟩⟩);have e2:(if X<m.eO then X else m.eO)=(((S.mP m b).toNat:Nat):Int):=by
   rw [aev L];unfold ck.mP;split<;>lia
 rw [e2];refine ⟨D,_,rfl,.inl ⟨aW.of ((f.trans B) _ _ z),λ W u=>?_⟩⟩;have Y:aE _ _:=ap (o:=.tup (((List.range m.rows.length).map (S.jj m b)).map aq)) u;refine ⟨I,_,rfl,.inl ⟨aW.of (Y _ _ (B _ _ G)),λ V t=>?_⟩⟩;have u2:aE _ _:=ap (o:=.tup (((List.range m.rows.length).map (S.j5 b O)).map aq)) t;refine ⟨Ri,λ q hq=>?_⟩;have C:aE _ _:=ap (o:=.tup [aq b,.ref W,.ref V,aq (S.mP m b).toNat]) hq;exact k q W V _ (((J.trans Y).trans u2).trans C) af (C _ _ (u2 _ _ af)) (C _ _ af)
theorem GB {t u:L2.TE} {a b:Bool} {U:L2.St} {H:Hp} {Q:VK} (c:∀ Q:VK,Q (.bl a) H->t U H Q) (d:∀ Q:VK,Q (.bl b) H->u U H Q) (h:Q (.bl (a && b)) H):Ko t u U H Q:=by
 refine c _ ⟨a,rfl,?_⟩;cases a with
 | true=>exact fH (d Q h)
 | false=>exact dk h
theorem p8 (T:Txt K mg Ad):Def P w K mg base "sum_of_products" 3 ["pairs"] (Qm K):=by
 refine T.rg.cW cp λ Z Z Z Z Z H vs Q E hr h=>?_;obtain ⟨p,X,D,rfl,N,c,C,hl,hB,k⟩:=h;refine ⟨_,(ag (dD (i:=1) cp.nd ai)
     (ag (dD (i:=2) cp.nd ai)
     (ag (cA aa7 rfl (bw (pv 0)) (cL (K:=K) (n:=2) rfl rfl (aL (fR (i:=3) cp.nd) (aL (fR (i:=4) cp.nd) cJ))) (ag (dD (i:=5) cp.nd (aA bM (aJ aC (pv 3) ai) (aJ aC (pv 4) ai)))
     (ag (dD (i:=1) cp.nd (aA bL (aA bM (pv 1) (pv 5)) (aA bM (aA bM (aJ aC (pv 3) ai) (aJ aC (pv 4) ai)) (pv 2))))
     (ar (dD (i:=2) cp.nd (aA bM (pv 2) (pv 5)))))))
     (ar (aO (au (nv T) hr.m (aa (pv 1) (aa (pv 2) ac)))))))),?_⟩
 try dsimp only [kA,cz]
 have R:X.length=D.length:=by rw [c.length,Ea]
 refine ⟨⟨_,N⟩,jZ (K:=K) (a:=p) (xs:=X) (λ i U g=>g=H/\E3 λ (V G I:eU)=>U=[some (.ref p),some (.int (fQ (D.take i)).1),some (.int (fQ (D.take i)).2),V,G,I]) ⟨rfl,none,none,none,rfl⟩ (λ i U g Z e=>by rw [e.1];exact N) ?_ ?_⟩
 .
  rintro i x U g O ⟨rfl,V,G,I,rfl⟩;have z:i<D.length:=by rw [<- R];exact (SV.mp O).1
  obtain ⟨J,B,Y⟩:=zT D C i (by lia);have et:D.take (i+1)=D.take i++[D[i]]:=by rw [acI,aK z];rfl
  obtain ⟨y,ey,pq,ws,rfl,W,j⟩:=c.get (i:=i) (d:=Lh D[i]) (by rw [aah,aK z];rfl);obtain rfl:=abb (O.symm.trans ey);have c:=C D[i] (aaH z);obtain ⟨w1,r1,rfl,d1,w2,r2,rfl,d2,f⟩:=j;have f:r2=[]:=f;subst f;obtain ⟨p1,rfl,o⟩:=Dn.fr d1;obtain ⟨p2,rfl,v⟩:=Dn.fr d2;rw [et,rH];generalize D[i]=d at c o v |-;generalize fQ (D.take i)=s at J B Y |-;refine ⟨W,rfl,rfl,⟨.inr o,rfl,.inr v,rfl,⟨900,900,c.a.b,c.b.b,by decide⟩,λ be l=>?_⟩⟩;have L:=c.a.b.mul c.b.b;subst l;refine ⟨⟨1802 * i+2,1800,J,L,by lia⟩,λ x1 e1=>⟨.inr o,rfl,.inr v,rfl,⟨900,900,c.a.t,c.b.t,by decide⟩,λ x2 M=>?_⟩⟩;have bt:Bd 1800 x2:=by rw [M];exact c.a.t.mul c.b.t
  refine ⟨⟨1800,1800 * i+1,bt,B,by lia⟩,λ x3 f=>(λ x4 e4=>⟨⟨1800 * i+1,1800,B,L,by lia⟩,λ x5 e5=>⟨rfl,some (.ref p1),some (.ref p2),some (.int (d.1.2 * d.2.2)),?_⟩⟩)⟩;have f4:x4=s.1 * (d.1.2 * d.2.2)+d.1.1 * d.2.1 * s.2:=by rw [e4,e1,f,M]
  rw [f4,e5];rfl
 .
  rintro U g ⟨rfl,V,G,I,rfl⟩;rw [R,aa4];have A:=LH C;refine ⟨_,_,rfl,by lia,hB,λ q r u S F s2 hu=>k u S s2 ?_⟩;have:=F.nf A;rw [hu,<- this]
theorem qK (T:Txt K mg Ad):Def P w K mg base "warmth_of" 6 ["hold","room","airs","weather","fired"] (Ha K Ad.aY):=by
 refine T.Bo.cW rS λ Z Z Z Z Z H vs Q E hr h=>?_;obtain ⟨a,fp,m,i,pa,Ug,c,W,wf,F,rfl,R,hi,YR,da,la,oa,dw,ow,hz,k⟩:=h;refine ⟨_,(ag (mQ (yi:=5) ["of","air"] ["room","hold"] [1,0] (.cons ⟨rfl,rfl,.inl rfl⟩ (.cons ⟨rfl,rfl,.inl rfl⟩ .nil)) rfl (nZ rfl T.dg (aa (pv 2) ac)) (λ Z Z Z Z Z=>(cL (K:=K) (n:=2) rfl rfl (aL (ky (i:=0)) (aL (ky (i:=1)) cJ)))) (λ Z Z Z Z Z=>cB) (λ Z Z Z Z Z=>(ca (aa (aM (pv 3) T.az (gc T) .nil hr.m (aa (pv 2) (aa (pv 0) ac))) (aa (pv 1) ac)))) rS.nd (lc rfl))
     (ag (aV (hX abE abG abF cD (pv 5) (aa (ca (aa (aJ aC (aM (pv 0) T.az (jN T) .nil hr.m (aa (pv 1) ac)) ai) (aa (pv 3) ac))) ac)))
     (ag (kX (bA (cP (pv 4)) (ar (aV (hX abE abG abF cD (pv 5) (aa (ca (aa (gH (v:=V.ref _) rfl T.ER rfl) (aa (aJ aC (aM (pv 0) T.az (cE T) .nil hr.m (aa (pv 1) ac)) ai) ac))) ac)))) aR))
     (ar (aO (au (p8 T) hr.m (aa (pv 5) ac))))))),?_⟩
 try dsimp only [kA,cz]
 first|(refine gb ?_;intro Z Z Z Z Z)|skip
 obtain ⟨⟨dx,pm,Nb,Ng,LP,vm,vs,vt,aG,pB,ha,Z⟩,q1,q2,q3,q4⟩:=id R;obtain ⟨aj,ab,ah⟩:=uk (i:=i) (fired:=F) q4 q3 la oa ow hz;have C:Ug.length=c.length:=by rw [da.length,Ea]
 refine ⟨pa,rfl,⟨_,YR⟩,λ D O=>?_⟩;refine kO (sq:=aW K) (a:=pa) (xs:=Ug) (λ j acc U b=>A4 (aE H b) (b D=some (.lst acc)) (bP K b (((List.range j).map λ j=>((m.share i j,c.getD j (0,1)):Pr)).map Lh) acc) (E2 λ v0 v1=>U=[v0,v1,some (aq i),some (.ref a)]))
   ⟨ap O,af,rfl,none,none,rfl⟩ (λ j acc U b Z e=>e.1.seq YR) ?_ ?_
 .
  rintro j x pp acc U b hx mO ⟨t,B,o,v0,v1,rfl⟩;have hj:j<c.length:=by rw [<- C];exact (SV.mp hx).1
  obtain ⟨y,ey,dy⟩:=da.get (i:=j) (d:=fM c[j]) (by rw [aah,aK hj];rfl);obtain rfl:x=y:=abb (hx.symm.trans ey);have s:aE b (upd b pp (.tup [aq j,x])):=ap mO;have nD:D≠pp:=ax B mO;have S2:=t.trans s;refine ⟨cw.of af,rfl,rfl,⟨S2 _ _ ha,rfl,a,fp,m,i,j,rfl,R.same S2,hi,by lia,λ v l s3 dv=>?_⟩⟩;refine ⟨xF,λ p jn=>?_⟩;have S:aE l (upd l p (.tup [v,x])):=ap jn;have M:=(S2.trans s3).trans S;have r:=S _ _ (s3 _ _ (s _ _ B));have G:aZ K (upd l p (.tup [v,x])) (upd (upd l p (.tup [v,x])) D (.lst (acc++[.ref p]))):=cq r rfl;have G7:acc.length=j:=by rw [o.length,Ea,Ea,aaA]
  refine ⟨r,aS (by lia),(M).put O,af,?_,_,_,rfl⟩;rw [ab6,aau,aau];refine (bP.ts ((aE.ts ((s.trans s3).trans S)).trans G) _ (vO _) o).snoc (Dn.ts G _ (vd _) ?_);have ea:c.getD j (0,1)=c[j]:=by rw [YQ,aK hj];rfl
  show Dn K _ (Lh (m.share i j,c.getD j (0,1))) _;rw [ea];exact jw (cw.of af) (bI (Dn.same S _ dv) (bI (Dn.same M _ dy) eP))
 .
  rintro acc U g ⟨t,B,o,v0,v1,rfl⟩;rw [C] at o;have o:bP K g ((gI m i c).map Lh) acc:=o;have G7:acc.length<=4:=by rw [o.length,Ea];unfold gI;rw [Ea,aaA];lia
  have Pz:i<m.bf.length:=by lia
  have TL:=aK Pz;have Jh:m.dU i=m.bf[i].1:=by unfold am.dU;rw [TL];rfl
  refine ⟨.inl ⟨rfl,_,aW.of B⟩,t _ _ ha,rfl,a,fp,m,i,_,rfl,R.same t,TL,λ v dv=>?_⟩;obtain ⟨p0,L,YE,YH,rfl,BW,ad,PM,al⟩:=dv.mX;refine ⟨.inr BW,rfl,xF,λ p jn=>?_⟩;have s:aE g (upd g p (.tup [L,W])):=ap jn;have gF:=s _ _ B;refine ⟨gF,aS (by lia),?_⟩;have G:aZ K (upd g p (.tup [L,W])) (upd (upd g p (.tup [L,W])) D (.lst (acc++[.ref p]))):=cq gF rfl;have N:(upd (upd g p (.tup [L,W])) D (.lst (acc++[.ref p]))) D=some (.lst (acc++[.ref p])):=af;have A:aE H (upd (upd g p (.tup [L,W])) D (.lst (acc++[.ref p]))):=(t.trans s).put O;have d3:bP K (upd (upd g p (.tup [L,W])) D (.lst (acc++[.ref p]))) ((gI m i c++[(m.dU i,wf)]).map Lh) (acc++[.ref p]):=by
    rw [aau];refine (bP.ts ((aE.ts s).trans G) _ (vO _) o).snoc (Dn.ts G _ (vd _) (jw (cw.of af) (bI (Dn.same s _ ?_) (bI (Dn.same (t.trans s) _ dw) eP))));rw [Jh];exact ad
  generalize (upd (upd g p (.tup [L,W])) D (.lst (acc++[.ref p])))=l at N A d3 |-;refine ⟨λ J b=>aE H b/\∃ X,A3 (b D=some (.lst X)) (bP K b ((gi m i c wf F).map Lh) X) (J=[some (.ref a),some (aq i),some (.ref pa),some W,some (.bl F),some (.ref D)]),?_,?_⟩
  .
   refine ⟨_,rfl,?_⟩;cases F with
   | false =>
     refine dk ⟨A,_,N,?_,rfl⟩;unfold gi;rw [abC aa3,ac7];exact d3
   | true =>
     obtain ⟨z,ez⟩:=hz rfl;refine fH ⟨.inl ⟨rfl,_,aW.of N⟩,⟨A _ _ ha,rfl,a,fp,m,i,_,rfl,R.same A,ez,λ u du=>?_⟩⟩;obtain ⟨pz,zs,rfl,CS,t1,r1,rfl,e1,Z⟩:=du;refine ⟨.inr CS,bC (j:=0) rfl,xF,λ Y ZK=>?_⟩;have S:aE l (upd l Y (.tup [.ref Ad.yF,t1])):=ap ZK;have r:=S _ _ N;refine ⟨r,aS (by rw [aas];simp only [ac8,aga];lia),(A.trans S).put O,_,af,?_,rfl⟩;have I:aZ K (upd l Y (.tup [.ref Ad.yF,t1])) (upd (upd l Y (.tup [.ref Ad.yF,t1])) D (.lst ((acc++[.ref p])++[.ref Y]))):=cq r rfl;have ae:(((m.aI[i]?).getD none).map (·.1)).getD (0,1)=z.1:=by rw [ez];rfl
     unfold gi;rw [abp rfl,aau];refine (bP.ts ((aE.ts S).trans I) _ (vO _) d3).snoc (Dn.ts I _ (vd _) ?_);show Dn K _ (Lh ((1,1),(((m.aI[i]?).getD none).map (·.1)).getD (0,1))) _;rw [ae];exact jw (cw.of af) (bI (T.Ft.fr (f:=(1,1))) (bI (Dn.same S _ e1) eP))
  . rintro J H4 ⟨M,X,r,d4,rfl⟩;exact ⟨D,X,_,rfl,aW.of r,d4,aj,ab,ah,λ q H5 s5 Mv=>k q H5 (M.trans s5) Mv⟩
theorem Dh (T:Txt K mg Ad):Def P w K mg base "span_of" 7 ["hold","room","bands","fired"] (Ny K Ad.aY):=by
 refine T.Hy.cW j4 λ Z Z Z Z Z H vs Q E f h=>?_;obtain ⟨a,O,m,i,W,B,F,rfl,L,hi,u,lb,R,hz,k⟩:=h;refine ⟨_,(ag (gL (vQ FK (aM (pv 0) T.az (jN T) .nil f.m (aa (pv 1) ac)) (yV ai) Aj) (cL (K:=K) (n:=2) rfl rfl (aL (fR (i:=4) j4.nd) (aL (fR (i:=5) j4.nd) cJ))))
     (ag (mQ (yi:=6) ["of","band"] ["hold"] [0] (.cons ⟨rfl,rfl,.inl rfl⟩ .nil) rfl (Iv rfl T.dg (aa (pv 2) ac)) (λ Z Z Z Z Z=>(cL (K:=K) (n:=2) rfl rfl (aL (ky (i:=0)) (aL (ky (i:=1)) cJ)))) (λ Z Z Z Z Z=>cB) (λ Z Z Z Z Z=>(aJ (fE (K:=K) rfl) (aM (pv 2) T.az (fm T) .nil f.m (aa (pv 0) ac)) (pv 1))) j4.nd (lc rfl))
     (ag (mQ (yi:=7) ["of","band"] ["hold"] [0] (.cons ⟨rfl,rfl,.inl rfl⟩ .nil) rfl (Iv rfl T.dg (aa (pv 2) ac)) (λ Z Z Z Z Z=>(cL (K:=K) (n:=2) rfl rfl (aL (ky (i:=0)) (aL (ky (i:=1)) cJ)))) (λ Z Z Z Z Z=>cB) (λ Z Z Z Z Z=>(aJ (fE (K:=K) rfl) (aM (pv 2) T.az (fm T) .nil f.m (aa (pv 0) ac)) (aA bL (pv 1) ai))) j4.nd (lc rfl))
     (ar (aO (ca (aa (au (qK T) f.m (aa (pv 0) (aa (pv 1) (aa (pv 6) (aa (pv 4) (aa (pv 3) ac)))))) (aa (au (qK T) f.m (aa (pv 0) (aa (pv 1) (aa (pv 7) (aa (pv 5) (aa (pv 3) ac)))))) ac)))))))),?_⟩
 try dsimp only [kA,cz]
 first|(refine gb ?_;intro Z Z Z Z Z)|skip
 obtain ⟨⟨dx,l,Nb,Ng,LP,vm,vs,vt,aG,pB,ha,Z⟩,q1,q2,q3,q4⟩:=id L;have Pz:i<m.bf.length:=by lia
 have TL:=aK Pz;have Jh:jc m i=m.bf[i]:=by unfold jc;rw [TL];rfl
 have C2:=q4.bf m.bf[i] (aaH Pz);have an:eX 120 (jc m i).2.1:=by rw [Jh];exact C2.2.1.mono (by decide)
 have al:eX 120 (jc m i).2.2:=by rw [Jh];exact C2.2.2.mono (by decide)
 have WZ:(dF m B 0).length=m.rows.length:=by unfold dF;rw [Ea,aaA,lb]
 have aj:(dF m B 1).length=m.rows.length:=by unfold dF;rw [Ea,aaA,lb]
 refine ⟨ha,rfl,a,O,m,i,_,rfl,L,TL,λ v dv=>?_⟩;obtain ⟨p0,Lo,YE,YH,rfl,BW,aI,PM,ao⟩:=dv.mX;refine ⟨1,rfl,p0,_,1,rfl,BW,rfl,rfl,by decide,(by show 1<=3;decide),λ q0 hq=>⟨cw.of af,rfl,rfl,?_⟩⟩;have M:aE H (upd H q0 (.tup ([Lo,YE,YH].drop 1))):=ap hq;generalize upd H q0 (.tup ([Lo,YE,YH].drop 1))=H0 at M |-;have ah:Dn K H0 (fM (jc m i).2.1) YE:=by rw [Jh];exact Dn.same M _ PM
 have ae:Dn K H0 (fM (jc m i).2.2) YH:=by rw [Jh];exact Dn.same M _ ao
 rcases u with u|u
 .
  have u:=M.seq u;refine ⟨W,rfl,.inl ⟨⟨_,u⟩,λ D hD=>?_⟩⟩;refine kO (sq:=aW K) (a:=W) (xs:=B.map aq) (λ j acc U c=>A4 (aE H0 c) (c D=some (.lst acc)) (bP K c (((List.range j).map λ j=>(m.rows.getD j []).getD (B.getD j 0+0) (0,1)).map fM) acc) (E2 λ V t=>U=[V,t,some (.ref a)]))
    ⟨ap hD,af,rfl,none,none,rfl⟩ (λ j acc U c Z e=>e.1.seq u) ?_ ?_
  .
   rintro j x p acc U c hx mO ⟨r,kg,o,V,t,rfl⟩;obtain ⟨b,A,rfl⟩:=di hx;have hj:j<B.length:=(SV.mp A).1;have f:j<m.rows.length:=by lia
   have C:B.getD j 0=b:=by rw [YQ,A];rfl
   have s:aE c (upd c p (.tup [aq j,aq b])):=ap mO;have g:=M.trans (r.trans s);have I:m.rows.getD j []=m.rows[j]:=by rw [YQ,aK f];rfl
   have q:=R j f;rw [I,C] at q;refine ⟨cw.of af,rfl,rfl,⟨g _ _ ha,rfl,a,O,m,j,_,rfl,L.same g,aK f,λ l X iC Y=>?_⟩⟩;have S:aE (upd c p (.tup [aq j,aq b])) (upd (upd c p (.tup [aq j,aq b])) l (.lst X)):=ap iC;obtain ⟨y,ey,dy⟩:=Y.get (i:=b) (d:=fM m.rows[j][b]) (by rw [aah,aK (by lia)];rfl);have G:=S _ _ (s _ _ kg);have J:aZ K (upd (upd c p (.tup [aq j,aq b])) l (.lst X)) (upd (upd (upd c p (.tup [aq j,aq b])) l (.lst X)) D (.lst (acc++[y]))):=cq G rfl;have G7:acc.length=j:=by rw [o.length,Ea,Ea,aaA]
   refine ⟨.inl (aW.of af),bC ey,G,aS (by lia),(r.trans (s.trans S)).put hD,af,?_,_,_,rfl⟩;rw [ab6,aau,aau];refine (bP.ts ((aE.ts (s.trans S)).trans J) _ (oW _ id) (by simpa using o)).snoc (Dn.ts J _ (i8 _) ?_);show Dn K _ (fM ((m.rows.getD j []).getD (B.getD j 0+0) (0,1))) y;rw [I,C,agJ,YQ,aK (by lia:b<m.rows[j].length)];exact Dn.same S _ dy
  rintro acc U H1 ⟨r,kg,o,V,t,rfl⟩;rw [Ea] at o;have o:bP K H1 ((dF m B 0).map fM) acc:=o;have Jf:=r.seq u;have S1:=M.trans r;refine ⟨W,rfl,.inl ⟨⟨_,Jf⟩,λ D2 gF=>?_⟩⟩;refine kO (sq:=aW K) (a:=W) (xs:=B.map aq) (λ j acc U c=>A4 (aE H1 c) (c D2=some (.lst acc)) (bP K c (((List.range j).map λ j=>(m.rows.getD j []).getD (B.getD j 0+1) (0,1)).map fM) acc) (E2 λ V t=>U=[V,t,some (.ref a)]))
    ⟨ap gF,af,rfl,none,none,rfl⟩ (λ j acc U c Z e=>e.1.seq Jf) ?_ ?_
  .
   rintro j x p jW U c hx mO ⟨US,QO,VG,V,t,rfl⟩;obtain ⟨b,A,rfl⟩:=di hx;have hj:j<B.length:=(SV.mp A).1;have f:j<m.rows.length:=by lia
   have C:B.getD j 0=b:=by rw [YQ,A];rfl
   have s:aE c (upd c p (.tup [aq j,aq b])):=ap mO;have g:=S1.trans (US.trans s);have I:m.rows.getD j []=m.rows[j]:=by rw [YQ,aK f];rfl
   have q:=R j f;rw [I,C] at q;refine ⟨cw.of af,rfl,rfl,⟨g _ _ ha,rfl,a,O,m,j,_,rfl,L.same g,aK f,λ l X iC Y=>?_⟩⟩;have S:aE (upd c p (.tup [aq j,aq b])) (upd (upd c p (.tup [aq j,aq b])) l (.lst X)):=ap iC;obtain ⟨y,ey,dy⟩:=Y.get (i:=b+1) (d:=fM m.rows[j][b+1]) (by rw [aah,aK (by lia)];rfl);have G:=S _ _ (s _ _ QO);have J:aZ K (upd (upd c p (.tup [aq j,aq b])) l (.lst X)) (upd (upd (upd c p (.tup [aq j,aq b])) l (.lst X)) D2 (.lst (jW++[y]))):=cq G rfl;have G7:jW.length=j:=by rw [VG.length,Ea,Ea,aaA]
   refine (λ z ez=>?_);obtain rfl:z=((b+1:Nat):Int):=by rw [ez];push_cast;rfl
   refine ⟨.inl (aW.of af),bC ey,G,aS (by lia),(US.trans (s.trans S)).put gF,af,?_,_,_,rfl⟩;rw [ab6,aau,aau];refine (bP.ts ((aE.ts (s.trans S)).trans J) _ (oW _ id) (by simpa using VG)).snoc (Dn.ts J _ (i8 _) ?_);show Dn K _ (fM ((m.rows.getD j []).getD (B.getD j 0+1) (0,1))) y;rw [I,C,YQ,aK (by lia:b+1<m.rows[j].length)];exact Dn.same S _ dy
  rintro jW U H2 ⟨s,G,N,V,t,rfl⟩;rw [Ea] at N;have N:bP K H2 ((dF m B 1).map fM) jW:=N;have g:=S1.trans s;refine ⟨a,O,m,i,D,acc,dF m B 0,_,_,F,rfl,L.same g,hi,aW.of (s _ _ kg),bP.same s _ o,WZ,oI q4 lb R (by decide),Dn.same ((r.trans s)) _ ah,an,hz,λ w1 H3 S ab=>?_⟩;have S3:=g.trans S;refine ⟨a,O,m,i,D2,jW,dF m B 1,_,_,F,rfl,L.same S3,hi,aW.of (S _ _ G),bP.same S _ N,aj,oI q4 lb R (by decide),Dn.same ((r.trans s).trans S) _ ae,al,hz,λ w2 H4 s4 ad=>⟨xF,λ q hq=>?_⟩⟩;have s5:aE H4 (upd H4 q (.tup [.ref w1,.ref w2])):=ap hq;exact k q w1 w2 _ ((S3.trans s4).trans s5) af (s5 _ _ (s4 _ _ ab)) (s5 _ _ ad)
 .
  have u:=M.tup u;refine ⟨W,rfl,.inr ⟨⟨_,u⟩,λ D hD=>?_⟩⟩;refine kO (sq:=cw K) (a:=W) (xs:=B.map aq) (λ j acc U c=>A4 (aE H0 c) (c D=some (.lst acc)) (bP K c (((List.range j).map λ j=>(m.rows.getD j []).getD (B.getD j 0+0) (0,1)).map fM) acc) (E2 λ V t=>U=[V,t,some (.ref a)]))
    ⟨ap hD,af,rfl,none,none,rfl⟩ (λ j acc U c Z e=>e.1.tup u) ?_ ?_
  .
   rintro j x p acc U c hx mO ⟨r,kg,o,V,t,rfl⟩;obtain ⟨b,A,rfl⟩:=di hx;have hj:j<B.length:=(SV.mp A).1;have f:j<m.rows.length:=by lia
   have C:B.getD j 0=b:=by rw [YQ,A];rfl
   have s:aE c (upd c p (.tup [aq j,aq b])):=ap mO;have g:=M.trans (r.trans s);have I:m.rows.getD j []=m.rows[j]:=by rw [YQ,aK f];rfl
   have q:=R j f;rw [I,C] at q;refine ⟨cw.of af,rfl,rfl,⟨g _ _ ha,rfl,a,O,m,j,_,rfl,L.same g,aK f,λ l X iC Y=>?_⟩⟩;have S:aE (upd c p (.tup [aq j,aq b])) (upd (upd c p (.tup [aq j,aq b])) l (.lst X)):=ap iC;obtain ⟨y,ey,dy⟩:=Y.get (i:=b) (d:=fM m.rows[j][b]) (by rw [aah,aK (by lia)];rfl);have G:=S _ _ (s _ _ kg);have J:aZ K (upd (upd c p (.tup [aq j,aq b])) l (.lst X)) (upd (upd (upd c p (.tup [aq j,aq b])) l (.lst X)) D (.lst (acc++[y]))):=cq G rfl;have G7:acc.length=j:=by rw [o.length,Ea,Ea,aaA]
   refine ⟨.inl (aW.of af),bC ey,G,aS (by lia),(r.trans (s.trans S)).put hD,af,?_,_,_,rfl⟩;rw [ab6,aau,aau];refine (bP.ts ((aE.ts (s.trans S)).trans J) _ (oW _ id) (by simpa using o)).snoc (Dn.ts J _ (i8 _) ?_);show Dn K _ (fM ((m.rows.getD j []).getD (B.getD j 0+0) (0,1))) y;rw [I,C,agJ,YQ,aK (by lia:b<m.rows[j].length)];exact Dn.same S _ dy
  rintro acc U H1 ⟨r,kg,o,V,t,rfl⟩;rw [Ea] at o;have o:bP K H1 ((dF m B 0).map fM) acc:=o;have Jf:=r.tup u;have S1:=M.trans r;refine ⟨W,rfl,.inr ⟨⟨_,Jf⟩,λ D2 gF=>?_⟩⟩;refine kO (sq:=cw K) (a:=W) (xs:=B.map aq) (λ j acc U c=>A4 (aE H1 c) (c D2=some (.lst acc)) (bP K c (((List.range j).map λ j=>(m.rows.getD j []).getD (B.getD j 0+1) (0,1)).map fM) acc) (E2 λ V t=>U=[V,t,some (.ref a)]))
    ⟨ap gF,af,rfl,none,none,rfl⟩ (λ j acc U c Z e=>e.1.tup Jf) ?_ ?_
  .
   rintro j x p jW U c hx mO ⟨US,QO,VG,V,t,rfl⟩;obtain ⟨b,A,rfl⟩:=di hx;have hj:j<B.length:=(SV.mp A).1;have f:j<m.rows.length:=by lia
   have C:B.getD j 0=b:=by rw [YQ,A];rfl
   have s:aE c (upd c p (.tup [aq j,aq b])):=ap mO;have g:=S1.trans (US.trans s);have I:m.rows.getD j []=m.rows[j]:=by rw [YQ,aK f];rfl
   have q:=R j f;rw [I,C] at q;refine ⟨cw.of af,rfl,rfl,⟨g _ _ ha,rfl,a,O,m,j,_,rfl,L.same g,aK f,λ l X iC Y=>?_⟩⟩;have S:aE (upd c p (.tup [aq j,aq b])) (upd (upd c p (.tup [aq j,aq b])) l (.lst X)):=ap iC;obtain ⟨y,ey,dy⟩:=Y.get (i:=b+1) (d:=fM m.rows[j][b+1]) (by rw [aah,aK (by lia)];rfl);have G:=S _ _ (s _ _ QO);have J:aZ K (upd (upd c p (.tup [aq j,aq b])) l (.lst X)) (upd (upd (upd c p (.tup [aq j,aq b])) l (.lst X)) D2 (.lst (jW++[y]))):=cq G rfl;have G7:jW.length=j:=by rw [VG.length,Ea,Ea,aaA]
   refine (λ z ez=>?_);obtain rfl:z=((b+1:Nat):Int):=by rw [ez];push_cast;rfl
   refine ⟨.inl (aW.of af),bC ey,G,aS (by lia),(US.trans (s.trans S)).put gF,af,?_,_,_,rfl⟩;rw [ab6,aau,aau];refine (bP.ts ((aE.ts (s.trans S)).trans J) _ (oW _ id) (by simpa using VG)).snoc (Dn.ts J _ (i8 _) ?_);show Dn K _ (fM ((m.rows.getD j []).getD (B.getD j 0+1) (0,1))) y;rw [I,C,YQ,aK (by lia:b+1<m.rows[j].length)];exact Dn.same S _ dy
  rintro jW U H2 ⟨s,G,N,V,t,rfl⟩;rw [Ea] at N;have N:bP K H2 ((dF m B 1).map fM) jW:=N;have g:=S1.trans s;refine ⟨a,O,m,i,D,acc,dF m B 0,_,_,F,rfl,L.same g,hi,aW.of (s _ _ kg),bP.same s _ o,WZ,oI q4 lb R (by decide),Dn.same ((r.trans s)) _ ah,an,hz,λ w1 H3 S ab=>?_⟩;have S3:=g.trans S;refine ⟨a,O,m,i,D2,jW,dF m B 1,_,_,F,rfl,L.same S3,hi,aW.of (S _ _ G),bP.same S _ N,aj,oI q4 lb R (by decide),Dn.same ((r.trans s).trans S) _ ae,al,hz,λ w2 H4 s4 ad=>⟨xF,λ q hq=>?_⟩⟩;have s5:aE H4 (upd H4 q (.tup [.ref w1,.ref w2])):=ap hq;exact k q w1 w2 _ ((S3.trans s4).trans s5) af (s5 _ _ (s4 _ _ ab)) (s5 _ _ ad)
theorem oN (T:Txt K mg Ad):Def P w K mg base "under" 1 ["one","other"] (Hw K):=by
 refine T.Fp.cW BO λ Z Z Z Z Z H v Q E n h=>?_;obtain ⟨p,o,a,b,c,d,rfl,e,f,B,g,i,j,k⟩:=h;refine ⟨_,(ar (aO (dL kI (aA bM (aJ aC (pv 0) ai) (aJ aC (pv 1) ai)) (aA bM (aJ aC (pv 1) ai) (aJ aC (pv 0) ai)) (aQ _)))),?_⟩;refine ⟨.inr e,rfl,.inr f,rfl,⟨_,_,B,j,by decide⟩,λ x l=>⟨.inr f,rfl,.inr e,rfl,⟨_,_,i,g,by decide⟩,λ X m=>?_⟩⟩;subst l m;exact k
theorem DU (T:Txt K mg Ad):Def P w K mg base "touched" 5 ["hold","room","least","greatest"] (Hv K Ad.aY):=by
 refine T.Hr.cW wy λ Z Z Z Z Z H vs Q E J h=>?_;obtain ⟨a,fp,m,i,r,v1,v2,f,F,rfl,hh,R,d1,d2,o1,o2,k⟩:=h;refine ⟨_,(ag (dD (i:=4) wy.nd (aM (pv 0) T.az (fm T) .nil J.m (aa (pv 1) ac)))
     (ar (aO (ft ["band"] ["greatest","least","marks"] [3,2,4] (.cons ⟨rfl,rfl,.inl rfl⟩ (.cons ⟨rfl,rfl,.inl rfl⟩ (.cons ⟨rfl,rfl,.inl rfl⟩ .nil))) rfl (bY rfl T.c9 (aa (aA fA (aT bv (by rfl) T.fc cZ (aa (pv 4) ac)) ai) ac)) (λ Z Z Z Z Z=>(ky (i:=0))) (λ Z Z Z Z Z=>(gJ (PW.pt (k9 (fB (cP (au (oN T) J.m (aa (pv 1) (aa (aJ (fE (K:=K) rfl) (pv 3) (pv 0)) ac))))) (iX (fB (cP (au (oN T) J.m (aa (aJ (fE (K:=K) rfl) (pv 3) (aA bL (pv 0) ai)) (aa (pv 2) ac)))))))))) (λ Z Z Z Z Z=>(pv 0)))))),?_⟩
 try dsimp only [kA,cz]
 obtain ⟨⟨dx,pm,pf,ps,pt,vm,vs,vt,aG,pB,ha,Z⟩,ab,lst,l4,wf⟩:=id hh;have xc:r∈m.rows:=aae R;have hl:=wf.len r xc;have yD:=wf.rows r xc;refine ⟨ha,rfl,a,fp,m,i,r,rfl,hh,R,λ p X hp M=>?_⟩;have S:aE H (upd H p (.lst X)):=ap hp;have L:(upd H p (.lst X)) p=some (.lst X):=af;have o:=bP.same S _ M;have W:=Dn.same S _ d1;have Y:=Dn.same S _ d2;generalize upd H p (.lst X)=H1 at S L o W Y |-;have lx:X.length=r.length:=by rw [M.length,Ea]
 obtain ⟨p1,rfl,q1⟩:=W.fr;obtain ⟨p2,rfl,q2⟩:=Y.fr;refine ⟨_,_,rfl,.inl (aW.of L),λ y ey=>?_⟩;have hn:=hl;refine (λ z ez=>⟨_,rfl,by lia,by lia,λ D I=>?_⟩);obtain ⟨n,en⟩:∃ n:Nat,z=(n:Int)/\n+1=r.length:=⟨r.length - 1,by lia,by lia⟩
 obtain ⟨rfl,en⟩:=en;refine dX (lo:=0) (n:=n) (λ j A U c=>A4 (aE H1 c) (c D=some (.lst A)) (A=(kM r f F j).map aq) (∃ v,U=[v,some (.ref p2),some (.ref p1),some (.ref p)]))
   ⟨ap I,af,rfl,none,rfl⟩ ?_ ?_
 .
  rintro j A U c hj ⟨s,g,rfl,v,rfl⟩;have u:j<r.length:=by lia
  have q:j+1<r.length:=by lia
  obtain ⟨x,ex,MY⟩:=(bP.same s _ o).get (i:=j) (d:=fM r[j]) (by rw [aah,aK u];rfl);obtain ⟨x',X7,AE⟩:=(bP.same s _ o).get (i:=j+1) (d:=fM r[j+1]) (by rw [aah,aK q];rfl);obtain ⟨u1,rfl,w1⟩:=MY.fr;obtain ⟨u2,rfl,w2⟩:=AE.fr;have N:=(yD r[j] (aaH u)).mono (n:=20000) (by decide);have O:=(yD r[j+1] (aaH q)).mono (n:=20000) (by decide);have l:=s _ _ L;have B:qy r f F j=((!bW F r[j]) && !bW r[j+1] f):=by
    unfold qy;rw [YQ,YQ,aK u,aK q];rfl
  have la:=kK r f F j;refine ⟨.inl (aW.of l),by rw [abL];exact bC ex,p2,u1,_,_,_,_,rfl,s.tup q2,w1,o2.t,o2.b,N.t,N.b,_,rfl,?_⟩;show if (!bW F r[j])=true then _ else _;cases C:bW F r[j] with
  | true =>
    refine dk (dk ⟨s,g,?_,_,rfl⟩);rw [lU,B,C];simp
  | false =>
    refine fH (λ y1 G=>⟨.inl (aW.of l),by rw [G,abL];exact bC (j:=j+1) X7,u2,p1,_,_,_,_,rfl,w2,s.tup q1,O.t,O.b,o1.t,o1.b,_,rfl,?_⟩);show if (!bW r[j+1] f)=true then _ else _;cases V:bW r[j+1] f with
    | true =>
      refine dk ⟨s,g,?_,_,rfl⟩;rw [lU,B,C,V];simp
    | false =>
      refine fH ⟨g,aS (by rw [Ea];lia),s.put I,af,?_,_,rfl⟩;rw [lU,B,C,V,aau,abL];rfl
 .
  rintro A U c ⟨s,g,rfl,v,rfl⟩;have e:n=r.length - 1:=by lia
  rw [e] at g;exact k D c (S.free I) (S.trans s) g
theorem GI (T:Txt K mg Ad):Def P w K mg base "within" 5 ["hold","room","least","greatest"] (DJ K Ad.aY):=by
 refine T.IG.cW yl λ Z Z Z Z Z H vs Q E l h=>?_;obtain ⟨a,V,m,i,r,v1,v2,f,F,rfl,v,R,J,N,O,y,k⟩:=h;refine ⟨_,(ag (dD (i:=4) yl.nd (aM (pv 0) T.az (fm T) .nil l.m (aa (pv 1) ac)))
     (ar (aO (pQ (zN (au (oN T) l.m (aa (pv 2) (aa (aJ aC (pv 4) ai) ac)))) (mm (zN (au (oN T) l.m (aa (aJ aC (pv 4) (vS zW ai)) (aa (pv 3) ac))))))))),?_⟩
 obtain ⟨⟨dx,pm,pf,ps,pt,vm,vs,vt,aG,pB,ha,Z⟩,ab,lst,l4,W⟩:=id v;have z:=aae R;have hl:=W.len r z;have Y:=W.rows r z;refine ⟨ha,rfl,a,V,m,i,r,rfl,v,R,λ p X hp A=>?_⟩;have S:aE H (upd H p (.lst X)):=ap hp;have o:(upd H p (.lst X)) p=some (.lst X):=af;have D:=bP.same S _ A;have s:=Dn.same S _ J;have u:=Dn.same S _ N;generalize upd H p (.lst X)=G at S o D s u |-;have lx:X.length=r.length:=by rw [A.length,Ea]
 obtain ⟨p1,rfl,q1⟩:=s.fr;obtain ⟨p2,rfl,q2⟩:=u.fr;have e:0<r.length:=by lia
 have g:r.length - 1<r.length:=by lia
 obtain ⟨x,ex,M⟩:=D.get (i:=0) (d:=fM r[0]) (by rw [aah,aK e];rfl);obtain ⟨x',I,B⟩:=D.get (i:=r.length - 1) (by rw [aah,aK g];rfl);obtain ⟨u1,rfl,w1⟩:=M.fr;obtain ⟨u2,rfl,w2⟩:=B.fr;have C:=(Y r[0] (aaH e)).mono (n:=20000) (by decide);have L:=(Y r[r.length - 1] (aaH g)).mono (n:=20000) (by decide);have U:lT r f F=((!bW f r[0]) && !bW r[r.length - 1] F):=by
   unfold lT;rw [YQ,YQ,aK e,aK g];rfl
 have c:=k G S;rw [U] at c;refine ⟨.inl (aW.of o),bC (j:=0) ex,p1,u1,_,_,_,_,rfl,q1,w1,O.t,O.b,C.t,C.b,_,rfl,_,rfl,?_⟩;show if (!bW f r[0])=true then _ else _;cases q:bW f r[0] with
 | true =>
   rw [q] at c;exact dk c
 | false =>
   rw [q] at c;exact fH ⟨_,rfl,.inl (aW.of o),LQ (by lia) (by rw [lx];exact I),u2,p2,_,_,_,_,rfl,w2,q2,L.t,L.b,y.t,y.b,_,rfl,c⟩
theorem vN (T:Txt K mg Ad):Def P w K mg base "each_choice" 1 ["rows"] (Eb K):=by
 refine T.xH.cW fh λ Z Z Z Z Z H vs Q E hr h=>?_;obtain ⟨p,X,rows,rfl,hp,CQ,l4,l6,k⟩:=h;refine ⟨_,(ag (dD (i:=1) fh.nd (bK (aa (ca ac) ac)))
     (ag (cA aa7 rfl (bw (pv 0)) (fR (i:=2) fh.nd) (ag (dD (i:=3) fh.nd (bK ac))
     (ag (cA aa7 rfl (bw (pv 1)) (fR (i:=4) fh.nd) (ar (aV (hX abE agl agk yQ (pv 3) (aa (ft ["band"] ["choice"] [4] (.cons ⟨rfl,rfl,.inl rfl⟩ .nil) rfl (bw (pv 2)) (λ Z Z Z Z Z=>(ky (i:=0))) (λ Z Z Z Z Z=>cB) (λ Z Z Z Z Z=>(aA (BE (K:=K) rfl) (pv 1) (ca (aa (pv 0) ac))))) ac)))))
     (ar (dD (i:=1) fh.nd (pv 3))))))
     (ar (aO (pv 1))))),?_⟩
 try dsimp only [kA,cz]
 first|(refine fJ ?_;intro Z Z Z Z)|skip
 refine ⟨AN,λ t0 ad=>⟨Fn,λ pc ab=>?_⟩⟩;have s0:=ap (o:=.tup []) ad;have s1:=ap (o:=.lst [.ref t0]) ab;refine ⟨⟨_,(s0.trans s1).seq hp⟩,?_⟩;have lx:=CQ.length;refine jZ (K:=K) (a:=p) (xs:=X) (λ i U d=>aE H d/\E2 λ q Y=>A3 (d q=some (.lst Y)) (L6 K d Y (bN (rows.take i))) (E3 λ (v2 v3 V:eU)=>U=[some (.ref p),some (.ref q),v2,v3,V]))
   ⟨s0.trans s1,pc,[.ref t0],af,Refs.snoc .nil (cw.of (s1 _ _ af)),none,none,none,rfl⟩ (λ i U d Z ⟨N,_⟩=>N.seq hp) ?_ ?_
 .
  rintro i x U W hx ⟨G,q,Y,J,m,v2,v3,V,rfl⟩;obtain ⟨qr,r,rfl,er,QD⟩:=CQ.get hx;have hi:i<rows.length:=(SV.mp er).1;have r6:=l6 r (aae er);have lc:=kD l6 i;have p6:6 ^ i<=216:=by
    have:=acy (n:=6) (by decide) (show i<=3 by lia);lia
  have l:bN (rows.take (i+1))=(bN (rows.take i)).flatMap λ c=>r.map λ b=>c++[b]:=by
    rw [bX er,jP]
  have L:∀ c∈bN (rows.take i),c.length<=4:=λ c h=>by
    have:=(gU.mp h).1;rw [aby] at this;lia
  generalize bN (rows.take i)=cs at m lc l L;rw [l];clear l;refine ⟨AN,λ B iL=>?_⟩;have N:=ap (o:=.lst []) iL;refine ⟨⟨_,aW.of (N _ _ J)⟩,?_⟩;refine jZ (K:=K) (a:=q) (xs:=Y) (λ j U d=>aE W d/\∃ e,A3 (d B=some (.lst e)) (L6 K d e ((cs.take j).flatMap λ c=>r.map λ b=>c++[b])) (∃ (V:eU),U=[some (.ref p),some (.ref q),some (.ref qr),some (.ref B),V]))
    ⟨N,[],af,.nil,V,rfl⟩ (λ j U d Z ⟨s,_⟩=>aW.of (s _ _ J)) ?_ ?_
  .
   rintro j y U H2 hy ⟨S,e,M,t,V,rfl⟩;obtain ⟨tc,c,rfl,ec,ah⟩:=m.get hy;have hj:j<cs.length:=(SV.mp ec).1;have NW:aW K H2 qr (r.map aq):=(G.trans S).seq QD;have lz:e.length<=216 * 6:=by
     rw [t.length];refine aaX (fG (k:=6) λ a=>by rw [Ea];exact r6) ?_;rw [aby];lia
   rw [bX ec,agY,agB];refine ⟨.inl ⟨rfl,_,aW.of M⟩,⟨_,NW⟩,λ D hD=>?_⟩;refine cf (K:=K) (a:=qr) (xs:=r.map aq) (λ b A f g=>A4 (aE H2 g) (g D=some (.lst A)) (L6 K g A ((r.take b).map λ x=>c++[x])) (∃ v,f=[v,some (.ref tc)]))
     ⟨ap hD,af,.nil,none,rfl⟩ (λ b A f g Z ⟨s,_,_,_⟩=>s.seq NW) ?_ ?_
   .
    rintro b z A f g hb ⟨s,I,O,v,rfl⟩;obtain ⟨bn,eb,rfl⟩:=di hb;have aj:b<r.length:=(SV.mp eb).1;have la:A.length<=6:=by rw [O.length,Ea,aby];lia
    refine ⟨Fn,λ tb ae=>?_⟩;have C:=ap (o:=.tup [aq bn]) ae;refine ⟨tc,tb,_,_,rfl,rfl,(s.trans C).tup (S.tup ah),cw.of af,?_,λ t5 H5 R h5=>?_⟩
    . have:=L c (aae ec);exact aeN (aS (by rw [Ea,abh];lia))
    . refine ⟨R _ _ (C _ _ I),abe la (by decide),((s.trans C).trans R).put hD,af,?_,_,rfl⟩;rw [bX eb,aau];have F:aZ K H5 (upd H5 D (.lst (A++[.ref t5]))):=cq (R _ _ (C _ _ I)) rfl;refine Refs.snoc (O.imp λ p a h=>F _ _ ((C.trans R).tup h)) (F _ _ ?_);rw [aau];exact h5
   .
    rintro A f g ⟨s,I,O,v,rfl⟩;rw [Ea,aa4] at O;have la:A.length<=6:=by rw [O.length,Ea];exact r6
    have u:=s _ _ M;refine ⟨B,D,e,A,rfl,rfl,u,I,aeN (abe (show e.length+A.length<=1302 by lia) (by decide)),?_⟩;have F:aZ K g (upd g B (.lst (e++A))):=cq u rfl;exact ⟨(S.trans s).put iL,_,af,Refs.append (t.imp λ p a h=>F _ _ (s.tup h)) (O.imp λ p a h=>F _ _ h),_,rfl⟩
  . rintro U H2 ⟨S,e,M,t,V,rfl⟩;rw [m.length,aa4] at t;exact ⟨G.trans S,B,e,M,t,_,_,_,rfl⟩
 . rintro U W ⟨G,q,Y,J,m,v2,v3,V,rfl⟩;rw [ac1 (by lia)] at m;exact (k q Y W G J m)
theorem qd (T:Txt K mg Ad):iK P w K mg base Ad.Reach "__init__" 1 ["self","hold"] [] (GR P w K Ad.aY Ad.Reach):=by
 refine T.sV.gG qQ λ Z Z Z Z Z H V Q E A h=>?_;obtain ⟨x,D,a,F,m,rfl,t,q,nx,k⟩:=h;refine ⟨_,(ag (d8 (pv 0) (pv 1) rfl)
     (ar (d8 (pv 0) (EQ (P:=P) (w:=w) rfl rfl) rfl))),?_⟩
 have l:lu K Ad.Reach x D H H []:=.start t;refine ⟨x,_,D,_,rfl,l.at_,T.eE,T.eR,lt1000 rfl,?_⟩;have g:=l.put (fs':=aX "hold" (.ref a) []);intro d j;have p:=g.new (o:=og P w d []) j;refine ⟨x,_,D,_,rfl,p.at_,T.eE,T.ff,lt1000 rfl,?_⟩;have B:=p.put (fs':=aX "spreads" (.ref d) (aX "hold" (.ref a) []));have b:=g.none j;refine k d _ (λ c u s n=>B.st c u s λ z=>n (aac.mpr z)) B.ts b ⟨⟨D,B.at_⟩,q.L9 B.st B.ts nx,λ z=>?_,[],jC.nil (by rw [aw (g.ne j)];exact af),aaE _,λ i y f v e=>by cases e⟩;obtain ⟨o,r⟩:=q.some d z;rw [b] at r;cases r
set_option maxHeartbeats 0 in
theorem tO (T:Txt K mg Ad):iK P w K mg base Ad.Reach "spread" 8 ["self","room","bands","fired"] [] (Hg P w K Ad.aY Ad.Reach):=by
 refine T.wY.gG fK λ Z Z Z Z Z H vs Q E p h=>?_;obtain ⟨x,d,a,F,m,c,i,u,B,b,L,rfl,QF,hL,hc,hi,FR,lb,hb,hf,XQ,X5,k⟩:=h;refine ⟨_,(ag (dD (i:=4) fK.nd (ca (aa (pv 1) (aa (pv 2) (aa (pv 3) ac)))))
     (ag (kX (bA (aP (yf (P:=P) (w:=w) (K:=K) rfl rfl rfl p.La) (pv 4) (aU (pv 0) rfl) (by with_unfolding_all rfl)) (ag (gL (au (Dh T) p.m (aa (aU (pv 0) rfl) (aa (pv 1) (aa (pv 2) (aa (pv 3) ac))))) (cL (K:=K) (n:=2) rfl rfl (aL (fR (i:=5) fK.nd) (aL (fR (i:=6) fK.nd) cJ))))
     (ag (dD (i:=7) fK.nd (au (GI T) p.m (aa (aU (pv 0) rfl) (aa (pv 1) (aa (pv 5) (aa (pv 6) ac))))))
     (ar (FJ (P:=P) (w:=w) (K:=K) rfl rfl rfl p.La (aU (pv 0) rfl) (pv 4) (lD (cP (pv 7)) (au (DU T) p.m (aa (aU (pv 0) rfl) (aa (pv 1) (aa (pv 5) (aa (pv 6) ac))))) cM) rfl)))) aR))
     (ar (aO (lX (P:=P) (w:=w) (K:=K) rfl rfl rfl p.La (aU (pv 0) rfl) (pv 4) (λ Z Z=>rfl)))))),?_⟩
 try dsimp only [kA,cz]
 first|(refine fJ ?_;intro Z Z Z Z)|skip
 refine ⟨Ih,λ tk YM=>?_⟩;have j:=ap (o:=.tup [aq i,.ref u,.bl b]) YM;have I:=QF.same j;have V:iD K (upd H tk (.tup [aq i,.ref u,.bl b])) (mV i B b) tk:=Em (cw.of af) (j.tup FR);generalize upd H tk (.tup [aq i,.ref u,.bl b])=H1 at j I V |-;obtain ⟨⟨dx,r⟩,J,nd,A,O,C,N⟩:=id I;refine ⟨λ y l=>(E2 λ A v=>A7 (iw [d] H1 l) (aZ K H1 l) (fD P w K Ad.aY Ad.Reach L l x d a F m (c+1)) (jC P w K l d A) (iD K l (mV i B b) tk) (jM A (mV i B b)=some v) (f8 L l v (bj m i B b)))/\E3 λ (v5 v6 v7:eU)=>y=[some (.ref x),some (aq i),some (.ref u),some (.bl b),some (.ref tk),v5,v6,v7],?_,?_⟩
 .
  refine ⟨r,T.eE,T.ff,rfl,d,tk,A,_,rfl,rfl,O,V,_,rfl,?_⟩;cases e:jM A (mV i B b) with
  | some v=>exact dk ⟨⟨A,v,λ Z Z h Z=>h,aZ.refl _,I.more (aei _),O,V,e,N i B b v e⟩,none,none,none,rfl⟩
  | none =>
    refine fH ?_;refine ⟨r,T.eE,T.eR,rfl,a,F,m,i,u,B,b,rfl,J,hi,.inr (j.tup FR),lb,hb,hf,λ q q1 q2 H2 Y e0 e1 e2=>?_⟩;refine ⟨cw.of e0,rfl,rfl,?_⟩;have U:=Y _ _ r;have G:=aK hi;have Ml:m.rows.getD i []=m.rows[i]:=by rw [YQ,G];rfl
    refine ⟨U,T.eE,T.eR,rfl,a,F,m,i,m.rows[i],.ref q1,.ref q2,_,_,rfl,J.same Y,G,n9 (cw.of e1),n9 (cw.of e2),XQ,X5,λ H3 s3=>?_⟩;have S:=Y.trans s3;have Xh:=S _ _ r;have M:bj m i B b=if lT m.rows[i] (jF m i B b) (jG m i B b)=true then some (kQ m.rows[i] (jF m i B b) (jG m i B b)) else none:=by unfold bj;rw [Ml]
    cases ew:lT m.rows[i] (jF m i B b) (jG m i B b) with
    | true =>
      rw [ew,abp rfl] at M;refine ⟨_,rfl,fH ⟨Xh,T.eE,T.eR,rfl,a,F,m,i,m.rows[i],.ref q1,.ref q2,_,_,rfl,J.same S,G,n9 (cw.of (s3 _ _ e1)),n9 (cw.of (s3 _ _ e2)),XQ,X5,λ D H4 nt s4 ht=>?_⟩⟩;have s:=S.trans s4;have g:f8 L H4 (.ref D) (bj m i B b):=by rw [M];exact ⟨D,rfl,λ z=>hL D z ((j.trans S).free nt),ht⟩
      obtain ⟨R,W,t,X⟩:=(I.same s).put (O.same s) C (λ i B f v e=>(N i B f v e).same s) (V.ts s.ts) g;exact ⟨s _ _ r,T.eE,T.ff,rfl,d,tk,A,_,rfl,rfl,O.same s,V.ts s.ts,abe (aaX C hc) (by decide),⟨_,.ref D,λ c o e n=>W c o (s c o e) n,s.ts.trans t,R,(O.same s).put (V.ts s.ts),(V.ts s.ts).ts t,by rw [nS,abp rfl],X⟩,_,_,_,rfl⟩
    | false =>
      rw [ew,abC aa3] at M;have g:f8 L H3 .cN (bj m i B b):=by rw [M];rfl
      obtain ⟨R,W,t,X⟩:=(I.same S).put (O.same S) C (λ i B f v e=>(N i B f v e).same S) (V.ts S.ts) g;exact ⟨_,rfl,dk ⟨Xh,T.eE,T.ff,rfl,d,tk,A,_,rfl,rfl,O.same S,V.ts S.ts,abe (aaX C hc) (by decide),⟨_,.cN,λ c o e n=>W c o (S c o e) n,S.ts.trans t,R,(O.same S).put (V.ts S.ts),(V.ts S.ts).ts t,by rw [nS,abp rfl],X⟩,_,_,_,rfl⟩⟩
 .
  rintro y H2 ⟨⟨Aw,v,b2,t2,XT,UH,Vr,ev,MM⟩,v5,v6,v7,rfl⟩;obtain ⟨AE,U⟩:=XT.ins;refine ⟨U,T.eE,T.ff,rfl,d,tk,Aw,_,v,rfl,rfl,UH,Vr,ev,?_⟩;exact k v H2 (λ c o e n=>b2 c o (j c o e) n) (j.ts.trans t2) XT MM
set_option maxHeartbeats 0 in
theorem lH (T:Txt K mg Ad):iK P w K mg base Ad.Reach "states_behind" 9 ["self","state","order"] [] (GP P w K Ad.aY Ad.Reach):=by
 refine T.mW.gG cx λ Z Z Z Z Z H vs Q E I h=>?_;obtain ⟨x,d,a,F,m,c,p,st,o,L,rfl,QF,hL,hc,hs,so,ow,tn,DL,k1,k2⟩:=h;refine ⟨_,(ag (dD (i:=3) cx.nd (bK ac))
     (ag (cA aa7 rfl (bw (au (vF T) I.m (aa (au (EC T) I.m (aa (aU (pv 0) rfl) (aa (pv 1) (aa (pv 2) ac)))) ac))) (fR (i:=4) cx.nd) (ag (dD (i:=5) cx.nd (aA oX (pv 2) (vS DG (pv 4))))
     (ag (mQ (yi:=6) ["room"] ["self","state","burning"] [0,1,5] (.cons ⟨rfl,rfl,.inl rfl⟩ (.cons ⟨rfl,rfl,.inl rfl⟩ (.cons ⟨rfl,rfl,.inl rfl⟩ .nil))) rfl (bY rfl T.c9 (aa (eC (aU (pv 0) rfl) T.az (cu T) .nil I.m) ac)) (λ Z Z Z Z Z=>(ky (i:=0))) (λ Z Z Z Z Z=>cB) (λ Z Z Z Z Z=>(aM (pv 1) T.eE (tO (P:=P) (w:=w) T) .nil I.m (aa (pv 0) (aa (aJ (fE (K:=K) rfl) (pv 2) ai) (aa (au (fu T) I.m (aa (pv 3) (aa (pv 0) ac))) ac))))) cx.nd (lc rfl))
     (ag (bA (aP (Q0 (ET I)) cM (pv 6) (by with_unfolding_all rfl)) (ar (aO cM)) aR)
     (ag (dD (i:=7) cx.nd (au (sQ T) I.m (aa (aU (pv 0) rfl) (aa (pv 1) (aa (pv 2) (aa (pv 4) ac))))))
     (ar (aV (hX abE agl agk yQ (pv 3) (aa (ft ["bands"] ["stoves"] [7] (.cons ⟨rfl,rfl,.inl rfl⟩ .nil) rfl (bw (au (vN T) I.m (aa (pv 6) ac))) (λ Z Z Z Z Z=>(ky (i:=0))) (λ Z Z Z Z Z=>cB) (λ Z Z Z Z Z=>(aA (BE (K:=K) rfl) (ca (aa (pv 0) ac)) (pv 1)))) ac)))))))))
     (ar (aO (pv 3))))),?_⟩
 try dsimp only [kA,cz]
 first|(refine fJ ?_;intro Z Z Z Z)|skip
 obtain ⟨Z,Z,Z,q3,q4⟩:=id QF.hold;refine ⟨AN,λ f W=>?_⟩;have s1:=ap (o:=.lst []) W;have e1:(upd H f (.lst [])) f=some (.lst []):=af;generalize upd H f (.lst [])=H1 at s1 e1 |-;obtain ⟨dx,hx⟩:=QF.ins;refine ⟨s1 _ _ hx,T.eE,T.eR,rfl,a,F,m,p,st,o,rfl,QF.hold.same s1,hs.same s1,so,ow,λ H2 s2=>?_⟩;have S2:=s1.trans s2;have a2:st.may m o<16:=sS q3;have ol:=nB a2;refine ⟨st.may m o,rfl,by lia,ol.1,λ pl H3 iL s3 V=>⟨⟨_,aW.of V⟩,?_⟩⟩;have S:=S2.trans s3;have e3:H3 f=some (.lst []):=s3 _ _ (s2 _ _ e1);have a4:pl≠f:=(ax (s2 _ _ e1) iL).symm;have ah:f∉F:=λ z=>by
   obtain ⟨u,hu⟩:=QF.hold.some f z;rw [W] at hu;cases hu
 have SK:fD P w K Ad.aY Ad.Reach (f::L) H3 x d a F m c:=(QF.new W).same S;obtain ⟨ba,Xt,Z⟩:=SK.Rk;have YZ:pl≠d:=λ z=>by rw [z,Xt.ob] at V;cases V
 have ad:f≠d:=λ z=>by rw [z,Xt.ob] at e3;cases e3
 have O9:=hs.same S;have lo:(c7 m st o).length<=16:=ol.2;have V:H3 pl=some (.lst ((c7 m st o).map aq)):=V;unfold qb at k2;generalize c7 m st o=O at V lo tn k1 k2;refine eA (K:=K) (a:=pl) (xs:=O.map aq) (λ i U H'=>A6 (iw [d,f] H3 H') (aZ K H3 H') (fD P w K Ad.aY Ad.Reach (f::L) H' x d a F m (c+4 * i)) (∃ X,H' f=some (.lst X)/\rN K H' X ((O.take i).flatMap (fw m st o))) (∀ out∈O.take i,iF m st (Ord.off o out)=true) (E4 λ (v4 v5 v6 v7:eU)=>U=[some (.ref x),some (.ref p),some (aq o),some (.ref f),v4,v5,v6,v7]))
   ⟨λ Z Z h Z=>h,aZ.refl _,SK,⟨[],e3,Refs.nil⟩,λ Z h=>absurd h (by simp),none,none,none,none,rfl⟩ (λ i U H' Z ⟨b,_,_,_,_,_⟩=>aW.of (b _ _ V (by simp [YZ,a4]))) ?_ ?_
 .
  rintro Z i v U H4 hv ⟨b4,t4,C,⟨X,MP,AH⟩,Fz,v4,v5,v6,v7,rfl⟩;obtain ⟨out,eo,rfl⟩:=di hv;have hi:i<O.length:=(SV.mp eo).1;have Vf:=tn out (aae eo);have G:∀ i,(Ord.off o out).testBit i=true->m.has i=true:=λ i h=>(Vf.O5 (Vf.Sh h).1).2;refine ⟨_,rfl,λ y ey=>?_⟩;obtain rfl:y=((Ord.off o out:Nat):Int):=by rw [ey];exact pX _ _
  obtain ⟨a6,ZX⟩:=C.ins;obtain ⟨⟨a7,Z,Z,Z,Z,Z,Z,Z,Z,Z,aj,Z⟩,Z⟩:=id C.hold;refine ⟨ZX,T.eE,T.eR,rfl,aj,rfl,a,F,m,rfl,C.hold,_,rfl,by lia,by lia,λ D R=>?_⟩;have UJ:ig K H4 p st:=O9.ts t4;obtain ⟨pb,pw,pf,h0,Se,a9,a8⟩:=id UJ;obtain ⟨bb,ao,Z⟩:=C.Rk;have nD:D≠d:=(ax ao.ob R).symm;have a3:D∉F:=λ z=>by
    obtain ⟨u,hu⟩:=C.hold.some D z;rw [R] at hu;cases hu
  refine dX (lo:=0) (n:=m.rows.length) (λ j A g H5=>A6 (iw [d] H4 H5) (aZ K H4 H5) (fD P w K Ad.aY Ad.Reach (D::f::L) H5 x d a F m (c+4 * i+j)) (H5 D=some (.lst A)) (Paired (f8 (D::f::L) H5) A ((List.range j).map (sF m st (Ord.off o out)))) (∃ v,g=[v,some (.ref x),some (.ref p),some (aq (Ord.off o out))]))
    ⟨λ b u h Z=>ap R b u h,(ap R).ts,(C.new R).same (ap R),af,.nil,none,rfl⟩ ?_ ?_
  .
   rintro j A g H5 hj ⟨N,M,l,CZ,Y,v,rfl⟩;obtain ⟨aG,WG⟩:=l.ins;obtain ⟨bc,UN,Z⟩:=l.Rk;have la:A.length=j:=by rw [aef Y,Ea,aaA]
   have No:=N _ _ MP (by simp [ad]);obtain ⟨XQ,X5⟩:=DL j ((Ord.off o out).testBit j) hj (G j);refine ⟨WG,rfl,.inr (M _ _ h0),rfl,Ord.off o out,j,by rw [abL];rfl,?_⟩;refine ⟨x,d,a,F,m,c+4 * i+j,j,pb,st.bR,(Ord.off o out).testBit j,D::f::L,by rw [abL];rfl,l,?_,by lia,hj,M _ _ Se,so.lb,λ j hj=>by have:=so.band j hj;unfold gN at this;rw [YQ];exact this,λ z=>?_,XQ,X5,λ v6 H6 b6 t6 ae al=>?_⟩
   .
    intro b hb;rcases aay.mp hb with rfl|hb
    . rw [CZ];exact nofun
    rcases aay.mp hb with rfl|hb
    . rw [No];exact nofun
    . by_cases z:b=d
      . rw [z,UN.ob];exact nofun
      . cases e:H b with
        | none=>exact absurd e (hL b hb)
        | some u=>rw [N b u (b4 b u (S b u e) (by simp only [aay,aaj,acd,ad7];exact ⟨z,ax e W⟩)) (by simp [z])];exact nofun
   . obtain ⟨z',ez⟩:=vL (G j z);exact ⟨z',by rw [oY (by lia),ez]⟩
   .
    have MA:=b6 _ _ CZ (by simp [nD]);obtain ⟨bd,an,Z⟩:=ae.Rk;have ks:∀ {v r},f8 (D::f::L) H6 v r->f8 (D::f::L) (upd H6 D (.lst (A++[v6]))) v r:=λ h=>h.but an.ob p7 (λ c u e Z n=>by rw [aw (λ z=>n (by simp [z]))];exact e) λ Z h=>h;refine ⟨MA,aS (by lia),λ b u h n=>by rw [aw (ax h R)];exact b6 b u (N b u h n) n,M.trans (t6.trans (cq MA rfl)),ae.write MA (by simp) a3,af,?_,_,rfl⟩;rw [ab6,aau];exact ae4 (Paired.Ay Y λ a r h=>ks (h.but UN.ob p7 (λ c u e n Z=>b6 c u e (by simp [n])) λ Z h=>h)) (ks al)
  .
   rintro A g H5 ⟨N,M,l,CZ,Y,v,rfl⟩;have Qf:∀ v∈A,v = .cN\/∃ a ys,v = .ref a/\aW K H5 a ys:=λ v hv=>(Fm Y v hv).imp id λ ⟨q,ys,e,h⟩=>⟨q,ys,e,aW.of h⟩
   have No:=N _ _ MP (by simp [ad]);obtain ⟨aG,WG⟩:=l.ins;have B5:iw [d] H H5:=λ b u h n=>N b u (b4 b u (S b u h) (by
     simp only [aay,aaj,acd,ad7] at n |-;exact ⟨n,ax h W⟩)) n
   have T5:aZ K H H5:=S.ts.trans (t4.trans M);refine ⟨D,A,rfl,rfl,aW.of CZ,Qf,_,rfl,jL (λ hn=>?_) (λ hn=>?_)⟩
   . exact k1 ⟨out,aae eo,yw.mp ((vY Y).mp hn)⟩ H5 B5 T5 ((l.less λ b h=>aaB _ (aaB _ h)).more (by lia))
   have nn:none∉(List.range m.rows.length).map (sF m st (Ord.off o out)):=λ z=>hn ((vY Y).mpr z);have Ax:=Bh Y nn;rw [Nk] at Ax;have sf:iF m st (Ord.off o out)=true:=by
     cases e:iF m st (Ord.off o out) with
     | true=>rfl
     | false=>exact absurd (yw.mpr e) nn
   refine ⟨WG,T.eE,T.eR,rfl,a,F,m,p,st,o,out,rfl,l.hold,UJ.ts M,so,λ i h=>Vf.has h,Vf.OI,Vf.N0,λ qt a5 AL H6 s6 g1 g2 g3=>?_⟩;have lr:(fI m st (Ord.off o out)).length=m.rows.length:=by unfold fI;rw [Ea,aaA]
   refine ⟨.inl ⟨rfl,_,aW.of (s6 _ _ No)⟩,D,A,fI m st (Ord.off o out),rfl,aW.of (s6 _ _ CZ),Ax.imp λ q r h=>aW.of (s6 _ _ h),by lia,AX q4,λ qc ys H7 s7 ab Ac=>⟨⟨_,aW.of ab⟩,λ D2 gF=>?_⟩⟩;have bl:=mG q4 q3 (s:=st) (o:=o) out;unfold fw at bl;rw [Ea] at bl;have eb:fw m st o out=(bN (fI m st (Ord.off o out))).map λ c=>st.behind m c o out:=rfl;have l4:∀ c∈bN (fI m st (Ord.off o out)),c.length<=4:=λ c h=>by have:=(gU.mp h).1;lia
   generalize bN (fI m st (Ord.off o out))=cs at Ac bl eb l4;refine cf (K:=K) (a:=qc) (xs:=ys) (λ j J g B=>A4 (aE H7 B) (B D2=some (.lst J)) (rN K B J ((cs.take j).map λ c=>st.behind m c o out)) (∃ v,g=[v,some (.ref qt)]))
     ⟨ap gF,af,Refs.nil,none,rfl⟩ (λ j J g B Z ⟨s8,_,_,_⟩=>aW.of (s8 _ _ ab)) ?_ ?_
   .
    rintro j z J g B hz ⟨s8,Om,v8,v,rfl⟩;obtain ⟨tc,cc,rfl,ec,a1⟩:=Ac.get hz;have hj:j<cs.length:=(SV.mp ec).1;have la:J.length<=1296:=by rw [v8.length,Ea,aby];lia
    have Qi:=s7.trans s8;refine ⟨Fn,λ tb a0=>?_⟩;have s9:=ap (o:=.tup [.ref tc]) a0;refine ⟨tb,qt,_,_,rfl,rfl,cw.of af,cw.of (s9 _ _ (Qi _ _ g1)),(by show 1+4<=sizeLine;decide),λ tq FU rV aI=>?_⟩;have uR:=rV _ _ (s9 _ _ Om);have t:aZ K FU (upd FU D2 (.lst (J++[.ref tq]))):=cq uR rfl;have KY:=s9.trans rV;refine ⟨uR,abe la (by decide),(s8.trans KY).put gF,af,?_,_,rfl⟩;rw [bX ec,aau];refine Refs.snoc (v8.imp λ p a h=>(h.same KY).ts t) ?_;exact ⟨tc,a5,AL,t _ _ aI,t _ _ ((s8.trans KY).tup a1),t _ _ ((Qi.trans KY).tup (cw.of g2)),t _ _ ((Qi.trans KY).tup (cw.of g3))⟩
   .
    rintro J g B ⟨s8,Om,v8,v,rfl⟩;rw [Ac.length,aa4] at v8;rw [<- eb] at v8;have S8:=(s6.trans s7).trans s8;have QT:=S8 _ _ No;have lx:X.length<=16 * 1296:=by
      rw [AH.length];refine aaX (fG (k:=1296) (mG q4 q3)) ?_;rw [aby];exact ad4 1296 (aaX (Nat.min_le_right _ _) lo)
    have la:J.length<=1296:=by rw [v8.length];exact mG q4 q3 out
    refine ⟨f,D2,X,J,rfl,rfl,QT,Om,aeN (abe (show X.length+J.length<=22032 by lia) (by decide)),?_⟩;have t:aZ K B (upd B f (.lst (X++J))):=cq QT rfl;refine ⟨λ b u h n=>?_,t4.trans (M.trans (S8.ts.trans t)),(((l.less λ b h=>aaB _ h).same S8).write QT (by simp) ah).more (by lia),⟨_,af,?_⟩,λ Dt h'=>?_,_,_,_,_,rfl⟩
    . have n':=n;simp only [aay,aaj,acd,ad7] at n';rw [aw n'.2];exact S8 _ _ (N _ _ (b4 b u h n) (by simp [n'.1]))
    . rw [bX eo,agY,agB];exact Refs.append (AH.imp λ p a h=>(((h.ts M).same S8).ts t)) (v8.imp λ p a h=>h.ts t)
    . rw [bX eo] at h';rcases aaU.mp h' with z|z
      . exact Fz Dt z
      . rw [aac.mp z];exact sf
 .
  rintro U H4 ⟨b4,t4,C,⟨X,MP,AH⟩,Fz,v4,v5,v6,v7,rfl⟩;rw [Ea,aa4] at AH Fz;refine (k2 Fz f X H4 W (λ b u h n=>b4 b u (S b u h) ?_) (S.ts.trans t4) ((C.less λ b h=>aaB _ h).more (by rw [Ea];lia)) MP AH);simp only [aay,aaj,acd,ad7] at n |-;exact ⟨n,ax h W⟩
set_option maxHeartbeats 0 in
theorem pJ (T:Txt K mg Ad):iK P w K mg base Ad.dB "meet" 1 ["self","state"] [] (MR P w K Ad.dB):=by
 refine T.Bv.gG zl λ Z Z Z Z Z H vs Q E t h=>?_;obtain ⟨x,p,c,I,J,a,l,g,m,st,L,rfl,s,ok,F,l2,u,so,k⟩:=h;refine ⟨_,(ag (kX (bA (aP (yf (P:=P) (w:=w) (K:=K) rfl rfl rfl t.La) (pv 1) (aU (pv 0) rfl) (by with_unfolding_all rfl)) (ag (bA (aP OM (aT bv (by rfl) T.fc cZ (aa (aU (pv 0) rfl) ac)) (aU (pv 0) rfl) (aQ _)) (ar cH) aR)
     (ag (FJ (P:=P) (w:=w) (K:=K) rfl rfl rfl t.La (aU (pv 0) rfl) (pv 1) (aT bv (by rfl) T.fc cZ (aa (aU (pv 0) rfl) ac)) rfl)
     (ar (aV (hX abE abG abF cD (aU (pv 0) rfl) (aa (pv 1) ac)))))) aR))
     (ar (aO (lX (P:=P) (w:=w) (K:=K) rfl rfl rfl t.La (aU (pv 0) rfl) (pv 1) (λ Z Z=>rfl))))),?_⟩
 try dsimp only [kA,cz]
 obtain ⟨⟨dx,b⟩,⟨v,f,B⟩,Z,Z,⟨A,d,hl,q⟩,Z,Z,Z⟩:=id s;have i:=gv u;refine ⟨λ n o=>(E3 λ j G M=>A9 (iw [c,a] H o) (aZ K H o) (fo P w K Ad.dB L o x c I J a l G) (xi g G) (ie m G) (G.met[j]?=some st) (jC P w K o a M) (jM M (o5 st)=some (aq j)) (G=g\/G=g.add st))/\n=[some (.ref x),some (.ref p)],?_,?_⟩
 .
  refine ⟨b,T.cy,T.hJ,rfl,a,p,A,o5 st,rfl,rfl,d,i,_,rfl,?_⟩;by_cases C:st∈g.met
  . obtain ⟨j,e⟩:=aej.mp C;rw [q.1 j st e];exact dk ⟨⟨j,g,A,λ Z Z h Z=>h,aZ.refl _,s,xi.refl g,ok,e,d,q.1 j st e,.inl rfl⟩,rfl⟩
  .
   rw [q.2 st C];have N:=ok.add so C;have ll:((g.met++[st]).length:Int)<=l:=F _ N.nd N.st;rw [aas,abh] at ll;have lv:=B.length;refine fH ⟨b,T.cy,T.fW,rfl,c,v,rfl,.inl (aW.of f),λ y ey=>⟨b,T.cy,T.pG,rfl,_,rfl,jL (λ h=>?_) (λ h=>?_)⟩⟩
   . exfalso;lia
   refine ⟨b,T.cy,T.fW,rfl,c,v,rfl,.inl (aW.of f),λ y2 r=>?_⟩;obtain rfl:y2=((g.met.length:Nat):Int):=by rw [r,lv]
   refine ⟨b,T.cy,T.hJ,rfl,a,p,A,o5 st,rfl,rfl,d,i,abe (show A.length<=2000 by lia) (by decide),?_⟩;obtain ⟨D,b1,t1⟩:=s.add f B d hl q u C;have nm:c≠a:=λ z=>by rw [z,d.ob] at f;cases f
   have nx:x≠a:=λ z=>by rw [z,d.ob] at b;cases b
   have R:(upd H a (og P w a (gM A (o5 st) p (aq g.met.length)))) c=some (.lst v):=by rw [aw nm];exact f
   have vB:(upd H a (og P w a (gM A (o5 st) p (aq g.met.length)))) x=some (.ins Ad.dB dx (Xx c I J a l)):=by rw [aw nx];exact b
   obtain ⟨V,U,Z,o7⟩:=D.pls;have e:(g.add st).met[g.met.length]?=some st:=ack;exact ⟨vB,T.cy,T.fW,rfl,.inl ⟨rfl,_,aW.of R⟩,R,abe (show v.length<=2000 by lia) (by decide),⟨g.met.length,g.add st,V,b1,t1,D,xi.add g st,N,e,U,o7.1 _ _ e,.inr rfl⟩,rfl⟩
 . rintro n W ⟨⟨j,G,M,b2,O,S,gx,X,e,U,ev,wh⟩,rfl⟩;obtain ⟨AE,Y⟩:=S.ins;exact ⟨Y,T.cy,T.hJ,rfl,a,p,M,o5 st,aq j,rfl,rfl,U,gv (u.ts O),ev,k j G W b2 O S gx X e wh⟩
set_option maxHeartbeats 0 in
theorem rP (T:Txt K mg Ad):iK P w K mg base Ad.dB "meet_all" 2 ["self","states"] [] (Er P w K Ad.dB):=by
 refine T.uC.gG tN λ Z Z Z Z Z H vs Q E hr h=>?_;obtain ⟨x,v,M,po,pr,B,t,g,m,L,rfl,hg,ok,V,l2,h⟩:=h;refine ⟨_,(ar (aO (lD (aP mZ (pv 1) cM (aQ _)) cM (ft ["state"] ["self"] [0] (.cons ⟨rfl,rfl,.inl rfl⟩ .nil) rfl (bw (pv 1)) (λ Z Z Z Z Z=>(ky (i:=0))) (λ Z Z Z Z Z=>cB) (λ Z Z Z Z Z=>(aM (pv 1) T.cy (pJ (P:=P) (w:=w) T) .nil hr.m (aa (pv 0) ac))))))),?_⟩;try dsimp only [kA,cz]
 rcases h with ⟨rfl,k⟩|⟨q,xs,l,rfl,I,nq,AH,Sg,ll,k⟩
 . exact ⟨rfl,_,rfl,fH k⟩
 refine ⟨rfl,_,rfl,jL (λ h=>nomatch h) λ Z=>?_⟩;refine ⟨⟨_,aW.of I⟩,λ D d=>?_⟩;obtain ⟨⟨dx,hx⟩,⟨vm,hm,Z⟩,⟨vo,ho,Z⟩,⟨vr,Rf,Z⟩,⟨aG,hk,Z⟩,Z,Z,Z⟩:=id hg;have RX:D≠M:=(ax hm d).symm;have XN:D≠po:=(ax ho d).symm;have Yb:D≠pr:=(ax Rf d).symm;have Yu:D≠B:=(ax hk.ob d).symm;have ab:q≠B:=λ z=>by rw [z,hk.ob] at I;cases I
 have lx:=AH.length;have s0:=ap (o:=.lst []) d;refine cf (K:=K) (a:=q) (xs:=xs) (λ i A c f=>A5 (iw [M,B] H f) (aZ K H f) (f D=some (.lst A)) (E2 λ F J=>A5 (fo P w K Ad.dB (D::L) f x M po pr B t F) (xi g F) (ie m F) (A=J.map aq) (Paired (λ j s=>F.met[j]?=some s) J (l.take i))) (∃ v,c=[v,some (.ref x)]))
   ⟨λ b u h Z=>s0 b u h,s0.ts,af,⟨g,[],(hg.new d).same s0,xi.refl g,ok,rfl,.nil⟩,none,rfl⟩ (λ i A c f Z ⟨b,_,_,_,_⟩=>aW.of (b _ _ I (by simp [nq,ab]))) ?_ ?_
 .
  rintro i y A c H1 hy ⟨S,N,Y,⟨W,J,C,R,O,rfl,G⟩,v,rfl⟩;obtain ⟨p,st,rfl,U,iy⟩:=AH.get hy;have hi:i<l.length:=(SV.mp U).1;have lj:J.length<=100000:=by rw [aef G,aby];lia
  obtain ⟨MY,vB⟩:=C.ins;refine ⟨vB,rfl,x,p,M,po,pr,B,t,W,m,st,D::L,rfl,C,O,V,l2,iy.ts N,Sg st (aae U),λ j g2 H2 b2 t2 Sk r LL ej Z=>?_⟩;have X:=b2 _ _ Y (by simp [RX,Yu]);refine ⟨X,abe (show (J.map aq).length<=100000 by rw [Ea];exact lj) (by decide),λ b u h n=>?_,N.trans (t2.trans (cq X rfl)),af,⟨g2,J++[j],Sk.write X (by simp) RX XN Yb,R.trans r,LL,by rw [aau];rfl,?_⟩,_,rfl⟩
  . rw [aw (ax h d)];exact b2 b u (S b u h n) n
  . rw [bX U];exact ae4 (Paired.Ay G λ j s e=>r.at e) ej
 . rintro A c H1 ⟨S,N,Y,⟨W,J,C,R,O,rfl,G⟩,v,rfl⟩;rw [lx,aa4] at G;exact k D J W H1 d S N (C.less λ b h=>aaB _ h) R O Y G
set_option maxHeartbeats 0 in
theorem wq (T:Txt K mg Ad):iK P w K mg base Ad.dB "go_on" 10 ["self","hold"] [] (ND P w K Ad.aY Ad.dB):=by
 refine T.zE.gG iZ λ _ _ _ _ _ H vs Q E hr h=>?_;obtain ⟨x,a,l,f,A,F,L,g0,m,R,rfl,ao,cc,bQ,ab,l2,hm,hh,f1,f2,f3,f4,k⟩:=h;refine ⟨_,(ag (dD (i:=2) iZ.nd (rG T.Kp (qd (P:=P) (w:=w) T) .nil hr.m T.Mz (aa (pv 1) ac)))
     (ar (nu aa7 (aP kI (aT bv (by rfl) T.fc cZ (aa (aU (pv 0) rfl) ac)) (aT bv (by rfl) T.fc cZ (aa (aU (pv 0) rfl) ac)) (aQ _)) (ag (dD (i:=3) iZ.nd (aJ aC (aU (pv 0) rfl) (aT bv (by rfl) T.fc cZ (aa (aU (pv 0) rfl) ac))))
     (ag (dD (i:=4) iZ.nd (au (zH T) hr.m (aa (pv 1) (aa (pv 3) ac))))
     (ag (aV (hX abE abG abF cD (aU (pv 0) rfl) (aa (pv 4) ac)))
     (ar (aV (hX abE abG abF cD (aU (pv 0) rfl) (aa (ft ["order"] ["self","state","reach"] [0,3,2] (.cons ⟨rfl,rfl,.inl rfl⟩ (.cons ⟨rfl,rfl,.inl rfl⟩ (.cons ⟨rfl,rfl,.inl rfl⟩ .nil))) rfl (bw (pv 4)) (λ _ _ _ _ _=>(ky (i:=0))) (λ _ _ _ _ _=>cB) (λ _ _ _ _ _=>(aM (pv 1) T.cy (rP (P:=P) (w:=w) T) .nil hr.m (aa (aM (pv 3) T.eE (lH (P:=P) (w:=w) T) .nil hr.m (aa (pv 2) (aa (pv 0) ac))) ac)))) ac)))))))))),?_⟩
 try dsimp only [kA,cz]
 refine (λ X Oz WQ kZ n=>?_);have s1:aE H (upd (upd H Oz (.own X)) X (.ins Ad.Reach Oz [])):=(ap kZ).trans (ap (by first|(rw [aw n];exact WQ)|(rw [aw n.symm];exact WQ)));have vB:(upd (upd H Oz (.own X)) X (.ins Ad.Reach Oz [])) X=some (.ins Ad.Reach Oz []):=af;generalize upd (upd H Oz (.own X)) X (.ins Ad.Reach Oz [])=H1 at s1 vB |-;have Dp:∀ {b},H b=none->b∉R:=λ e z=>by
   obtain ⟨u,hu⟩:=hh.some _ z;rw [e] at hu;cases hu
 refine ⟨X,Oz,a,R,m,rfl,vB,hh.same s1,Dp WQ,λ d H2 b2 t2 hd XT=>⟨rfl,?_⟩⟩;have dn:H d=none:=s1.free hd;have S2:aE H H2:=λ b u e=>b2 b u (s1 b u e) (by simp only [aac];exact ax e WQ);obtain ⟨_,⟨c2,bo,_⟩,⟨c9,bt,_⟩,⟨de,bE,_⟩,⟨cG,Yj,_⟩,n1,n2,n3⟩:=id ao;have ex:∀ {b u},H b=some u->b≠d/\b≠X:=λ e=>⟨ax e dn,ax e WQ⟩
 obtain ⟨dm,xm⟩:=ex bo;obtain ⟨cr,xo⟩:=ex bt;obtain ⟨dr,dh⟩:=ex bE;obtain ⟨dd,xd⟩:=ex Yj.ob;refine ⟨λ mz U O=>A4 (iw [l,f,A,F] H O) (aZ K H O) (∃ g,A6 (fo P w K Ad.dB [] O x l f A F L g) (ie m g) (g.gu.length=g.rows.length) (∃ B,g.met=g0.met++B) (fD P w K Ad.aY Ad.Reach [l,f,A] O X d a R m (1024 * g.rows.length)) (mz=2000 - g.rows.length)) (E2 λ (v3 v4:eU)=>U=[some (.ref x),some (.ref a),some (.ref X),v3,v4]),
   ⟨_,λ b u h _=>S2 b u h,S2.ts,⟨g0,ao.same S2,cc,bQ,⟨[],(ac7 _).symm⟩,XT.zero.more (ab2 _),rfl⟩,none,none,rfl⟩,?_⟩
 rintro mz U H3 ⟨b3,t3,⟨g,hg,ok,lo,a2,re,rfl⟩,v3,v4,rfl⟩;obtain ⟨⟨dx,hx⟩,⟨vm,Ly,a3⟩,⟨Y,aI,be⟩,⟨vr,YT,bf⟩,⟨aG,hk,_⟩,_,_,_⟩:=id hg;have bR:vr.length=g.rows.length:=by rw [bf.length,Ea]
 have c1:Y.length=g.gu.length:=by rw [be.length,Ea]
 have c0:=a3.length;have ci:(g.met.length:Int)<=L:=ab g.met ok.nd ok.st;refine ⟨hx,T.cy,T.eG,rfl,A,vr,rfl,.inl (aW.of YT),λ y1 e1=>⟨hx,T.cy,T.fW,rfl,l,vm,rfl,.inl (aW.of Ly),λ y2 e2=>⟨_,rfl,jL (λ h=>?_) (λ h=>?_)⟩⟩⟩
 .
  have hi:g.rows.length<g.met.length:=by lia
  refine ⟨λ I O=>A4 (iw [l,f,A,F] H O) (aZ K H O) (∃ G,A6 (fo P w K Ad.dB [] O x l f A F L G) (ie m G) (G.gu.length=G.rows.length) (∃ B,G.met=g0.met++B) (fD P w K Ad.aY Ad.Reach [l,f,A] O X d a R m (1024 * G.rows.length)) (G.rows.length=g.rows.length+1)) (E2 λ (v3 v4:eU)=>I=[some (.ref x),some (.ref a),some (.ref X),v3,v4]),
    λ I O ⟨b,t,⟨G,h1,h2,h3,h4,h5,h6⟩,w3,w4,e⟩=>⟨2000 - G.rows.length,by lia,b,t,⟨G,h1,h2,h3,h4,h5,rfl⟩,w3,w4,e⟩,?_⟩
  obtain ⟨p,st,ep,es,iy⟩:=a3.get (aK (show g.rows.length<vm.length by lia));have so:=ok.st st (aae es);have ba:uS vm ((g.rows.length:Nat):Int)=some (.ref p):=ir (by rw [aK (show g.rows.length<vm.length by lia),ep]);refine ⟨hx,T.cy,T.fW,rfl,hx,T.cy,T.eG,rfl,A,vr,rfl,.inl (aW.of YT),λ y3 e3=>⟨.inl (aW.of Ly),(by rw [e3,bR];exact ba:uS vm y3=some (.ref p)),?_⟩⟩;refine ⟨a,R,m,p,st,rfl,re.hold,iy,so,λ q H4 nq s4 hq=>?_⟩;have IH:=s4 _ _ aI;refine ⟨s4 _ _ hx,T.cy,T.m6,rfl,.inl ⟨rfl,_,aW.of IH⟩,IH,abe (show Y.length<=2000 by lia) (by decide),?_⟩;have a0:q≠l:=(ax Ly nq).symm;have a1:q≠f:=(ax aI nq).symm;have b9:q≠A:=(ax YT nq).symm;have ad:=(hg.same s4).ord IH hq (by simp [a0,a1,b9]);have FC:=(re.same s4).write (ys:=Y++[.ref q]) IH (by simp) f2;have a4:aZ K H4 (upd H4 f (.lst (Y++[.ref q]))):=cq IH rfl;have Mv:(upd H4 f (.lst (Y++[.ref q]))) q=some (.lst ((st.orders m).map aq)):=by rw [aw a1];exact hq
  have Hu:(upd H4 f (.lst (Y++[.ref q]))) A=some (.lst vr):=by rw [aw n3.symm];exact s4 _ _ YT
  have b5:iw [l,f,A,F] H (upd H4 f (.lst (Y++[.ref q]))):=λ b u h z=>by
    have:=b3 b u h z;simp only [aay,aaj,acd,ad7] at z;rw [aw z.2.1];exact s4 _ _ this
  have T5:aZ K H (upd H4 f (.lst (Y++[.ref q]))):=t3.trans (s4.ts.trans a4);have XF:ig K (upd H4 f (.lst (Y++[.ref q]))) p st:=(iy.same s4).ts a4;have cd:=ok.ord (s:=st) (by rw [lo];exact es);have cX:=wk hm.h4 st;generalize upd H4 f (.lst (Y++[.ref q]))=H5 at ad FC Mv Hu b5 T5 XF |-;obtain ⟨⟨cs,WG⟩,⟨c3,br,_⟩,⟨da,bu,_⟩,_,⟨cK,ah,_⟩,_,_,_⟩:=id ad;refine ⟨WG,T.cy,T.eG,rfl,.inl ⟨rfl,_,aW.of Hu⟩,⟨_,aW.of Mv⟩,λ D S=>?_⟩;have b1:q≠d:=λ z=>by
    obtain ⟨cW,bn,_⟩:=FC.Rk;rw [z,bn.ob] at Mv;cases Mv
  have b4:q≠F:=λ z=>by rw [z,ah.ob] at Mv;cases Mv
  have RX:D≠l:=(ax br S).symm;have XN:D≠f:=(ax bu S).symm;have Yb:D≠A:=(ax Hu S).symm;have bU:D≠F:=(ax ah.ob S).symm;have bS:D∉R:=λ z=>by
    obtain ⟨u,hu⟩:=FC.hold.some D z;rw [S] at hu;cases hu
  obtain ⟨cj,a6,_⟩:=FC.Rk;have Yu:D≠d:=(ax a6.ob S).symm;have s5:=ap (o:=.lst []) S;refine cf (K:=K) (a:=q) (xs:=(st.orders m).map aq) (λ j acc I N=>A5 (iw [l,F,d] H5 N) (aZ K H5 N) (N D=some (.lst acc)) (E2 λ G r=>A6 (fo P w K Ad.dB [D] N x l f A F L G) (xi (g.ord (st.orders m)) G) (ie m G) (fD P w K Ad.aY Ad.Reach [D,l,f,A] N X d a R m (1024 * g.rows.length+64 * j)) (bP K (dJ N ([D]++[l,f,A])) ((r:cm).map wP) acc) (Paired (λ o b=>rq G.met (kC m st o) b) ((st.orders m).take j) r)) (∃ v,I=[v,some (.ref x),some (.ref p),some (.ref X)]))
    ⟨λ b u h _=>s5 b u h,s5.ts,af,⟨_,[],(ad.new S).same s5,xi.refl _,cd,(FC.new S).same s5,eP,.nil⟩,none,rfl⟩ (λ j acc I N _ ⟨b,_,_,_,_⟩=>aW.of (b _ _ Mv (by simp [a0,b4,b1]))) ?_ ?_
  .
   rintro j y acc I N hy ⟨b6,t6,MA,⟨J,r,Hh,Lz,Cd,Sf,WF,UZ⟩,v,rfl⟩;obtain ⟨o,eo,rfl⟩:=di hy;have ho:=aae eo;have hj:j<(st.orders m).length:=(SV.mp eo).1;have G7:acc.length<=16:=by rw [WF.length,Ea,<- aef UZ,aby];lia
   obtain ⟨ct,bO⟩:=Hh.ins;obtain ⟨co,a7⟩:=Sf.ins;obtain ⟨_,⟨c4,RT,_⟩,⟨db,bz,_⟩,⟨df,bF,_⟩,⟨cQ,cv,_⟩,_,_,_⟩:=id Hh;obtain ⟨cl,Mb,_⟩:=Sf.Rk;have WK:∀ (W:V) (b':Option (aH)) (g2:tp) (C:Hp),iw [l,F,d] N C->aZ K N C->fo P w K Ad.dB [D] C x l f A F L g2->xi J g2->ie m g2->fD P w K Ad.aY Ad.Reach [D,l,f,A] C X d a R m (1024 * g.rows.length+64 * j+64)->bP K (dJ C ([D]++[l,f,A])) (r.map wP) acc->Dn K (dJ C ([D]++[l,f,A])) (wP b') W->rq g2.met (kC m st o) b' ->
       C D=some (.lst acc)/\acc.length<sizeLine/\(iw [l,F,d] H5 (upd C D (.lst (acc++[W])))/\aZ K H5 (upd C D (.lst (acc++[W])))/\(upd C D (.lst (acc++[W]))) D=some (.lst (acc++[W]))/\(∃ G r,fo P w K Ad.dB [D] (upd C D (.lst (acc++[W]))) x l f A F L G/\xi (g.ord (st.orders m)) G/\ie m G/\fD P w K Ad.aY Ad.Reach [D,l,f,A] (upd C D (.lst (acc++[W]))) X d a R m (1024 * g.rows.length+64 * (j+1))/\bP K (dJ (upd C D (.lst (acc++[W]))) ([D]++[l,f,A])) ((r:cm).map wP) (acc++[W])/\Paired (λ o b=>rq G.met (kC m st o) b) ((st.orders m).take (j+1)) r)):=by
     intro W b' g2 C b8 t8 ae X9 aj an YS bd ri;have Om:=b8 _ _ MA (by simp [RX,bU,Yu]);refine ⟨Om,aS (by lia),λ b u h n=>?_,t6.trans (t8.trans (cq Om rfl)),af,g2,r++[b'],ae.write Om (by simp) RX XN Yb,Lz.trans X9,aj,(an.write Om (by simp) bS).more (by lia),?_,?_⟩
     . rw [aw (ax h S)];exact b8 b u (b6 b u h n) n
     . rw [oU (by simp),aau];exact bP.snoc YS bd
     . rw [bX eo];obtain ⟨⟨B,em⟩,_⟩:=X9;exact ae4 (Paired.Ay UZ λ o b q=>by rw [em];exact q.more) ri
   have a5:∀ b∈[D,l,f,A],N b≠none:=by
     intro b hb;simp only [aay,aaj,acd] at hb;rcases hb with rfl|rfl|rfl|rfl
     . rw [MA];exact nofun
     . rw [RT];exact nofun
     . rw [bz];exact nofun
     . rw [bF];exact nofun
   refine ⟨bO,rfl,a7,rfl,X,d,a,R,m,_,p,st,o,[D,l,f,A],rfl,Sf,a5,by lia,XF.ts t6,so,hm.ow ho,hm.tn st o so ho,hm.sp st so,λ hu H7 b7 t7 al=>?_,λ bH q2 ch H7 b0 b7 t7 al yn a8=>?_⟩
   . have OT:=Hh.but Mb.ob dd.symm b7 t7;refine ⟨x,.cN,l,f,A,F,L,J,m,[D],rfl,OT,Cd,ab,l2,.inl ⟨rfl,?_⟩⟩;obtain ⟨z1,z2,z3,z4,z5,g9,r9,y1,y2,y3,y4,y5,y6⟩:=WK .cN none J H7 (λ b u h n=>b7 b u h (by simp only [aay,aaj,acd,ad7] at n;simp [n.2.2])) t7 OT (xi.refl J) Cd al (bP.zL Mb.ob rfl (Hi b7) WF) rfl (by rw [II hu];trivial);exact ⟨z1,z2,z3,z4,z5,⟨g9,r9,y1,y2,y3,y4,y5,y6⟩,_,rfl⟩
   .
    have OT:=Hh.but Mb.ob dd.symm b7 t7;have cn:=Nd (id Sf.hold).5 hm.h4 st o;refine ⟨x,.ref q2,l,f,A,F,L,J,m,[D],rfl,OT,Cd,ab,l2,.inr ⟨q2,ch,qb m st o,rfl,yn,(ax RT b0).symm,a8,λ s' h'=>hm.nx st o s' so ho h',by lia,λ D2 js g2 C gF b8 t8 ae X9 aj a9 GK=>?_⟩⟩;obtain ⟨_,⟨c8,bs,_⟩,⟨dc,bD,_⟩,⟨dg,bG,_⟩,⟨cR,az,_⟩,_,_,_⟩:=id OT;have bm:=b7 _ _ MA (by simp [Yu]);have an:=al.frame (M:=[l,F]) b8 t8 (by simp [xm.symm,xd.symm]) (by simp [dm.symm,dd.symm]) (λ c hc z=>by
      simp only [aay,aaj,acd] at z;rcases z with rfl|rfl
      . exact f1 hc
      . exact f4 hc) (λ c hc=>by
      simp only [aay,aaj,acd] at hc;rcases hc with rfl|rfl
      . exact .inl (by simp)
      . exact .inr λ xs z=>by rw [az.ob] at z;cases z)
    have bc:bP K (dJ H7 ([D]++[l,f,A])) (r.map wP) acc:=bP.zL Mb.ob rfl (Hi b7) WF;have YS:bP K (dJ C ([D]++[l,f,A])) (r.map wP) acc:=bP.zL az.ob rfl (λ c u e n1 n2=>b8 c u e (by
      simp only [af1,List.nil_append,aay,aaj,acd,ad7] at n2 |-;exact ⟨n2.2.1,n1⟩)) bc
    obtain ⟨z1,z2,z3,z4,z5,g9,r9,y1,y2,y3,y4,y5,y6⟩:=WK (.ref D2) (some js) g2 C (λ b u h n=>by
      simp only [aay,aaj,acd,ad7] at n;exact b8 b u (b7 b u h (by simp [n.2.2])) (by simp [n.1,n.2.1])) (t7.trans t8) ae X9 aj an YS (rO (aW.of (jV a9 (by
      simp only [af1,List.nil_append,aay,aaj,acd,ad7];exact ⟨(ax bm gF).symm,(ax bs gF).symm,(ax bD gF).symm,(ax bG gF).symm⟩)))) (by rw [jY bH];exact GK)
    exact ⟨z1,z2,z3,z4,z5,⟨g9,r9,y1,y2,y3,y4,y5,y6⟩,_,rfl⟩
  .
   rintro acc I N ⟨b6,t6,MA,⟨J,r,Hh,Lz,Cd,Sf,WF,UZ⟩,v,rfl⟩;rw [Ea,aa4] at UZ;have NH:=b6 _ _ Hu (by
     simp only [aay,aaj,acd,ad7];exact ⟨n2.symm,(λ z=>by rw [z,ah.ob] at Hu;cases Hu),dr⟩)
   have er:J.rows=g.rows:=Lz.rows;have eo:J.gu=g.gu++[st.orders m]:=Lz.gu;have bb:bP K (dJ N ([]++[l,f,A])) (r.map wP) acc:=bP.same (λ b u e=>by
     unfold dJ at e |-;split at e
     . cases e
     . rename_i z
       rw [abC (show b∉[]++[l,f,A] from λ y=>z (aaU.mpr (.inr y)))];exact e) _ WF
   have OT:=(Hh.less (L':=[]) λ b h=>absurd h aaj).row NH MA (by simp [RX,XN,Yb]) bb;have cg:=Cd.row (s:=st) (r:=r) (by rw [er];exact Lz.at (show (g.ord (st.orders m)).met[g.rows.length]?=some st from es)) UZ;refine ⟨NH,abe (show vr.length<=2000 by lia) (by decide),λ b u h z=>?_,T5.trans (t6.trans (cq NH rfl)),⟨J.row r,OT,cg,?_,?_,?_,?_⟩,_,_,rfl⟩
   . have:=b5 b u h z;simp only [aay,aaj,acd,ad7] at z;rw [aw z.2.2.1];exact b6 _ _ this (by simp only [aay,aaj,acd,ad7];exact ⟨z.1,z.2.2.2,ax h dn⟩)
   . show J.gu.length=(J.rows++[r]).length;rw [eo,er,aas,aas,lo];rfl
   . obtain ⟨⟨B,em⟩,_⟩:=Lz;obtain ⟨Tk,bk⟩:=a2;exact ⟨Tk++B,by show J.met=_;rw [em];show g.met++B=_;rw [bk,ae7]⟩
   . refine ((Sf.less λ b h=>aaB _ h).write NH (by simp) f3).more ?_;show _<=1024 * (J.rows++[r]).length;rw [er,aas,abh,Ea];lia
   . show (J.rows++[r]).length=_;rw [er,aas];rfl
 . exact k g H3 b3 t3 hg ok lo (by have:=ok.lr;lia) a2
set_option maxHeartbeats 0 in
theorem qW (T:Txt K mg Ad):iK P w K mg base Ad.dB "__init__" 11 ["self","hold","states","limit"] [] (Kq P w K Ad.aY Ad.dB):=by
 refine T.uO.gG iS λ Z Z Z Z Z H vs Q E hr h=>?_;obtain ⟨x,D,a,q,L,fp,m,xs,l,rfl,hx,hh,nx,hm,I,l2,F,AH,Sg,k⟩:=h;refine ⟨_,(ag (cA aa7 rfl (bw (pv 2)) (fR (i:=4) iS.nd) (ar (aV (au (iU T) hr.m (aa (pv 1) (aa (pv 4) ac))))))
     (ag (d8 (pv 0) (bK ac) rfl)
     (ag (d8 (pv 0) (bK ac) rfl)
     (ag (d8 (pv 0) (bK ac) rfl)
     (ag (d8 (pv 0) (EQ (P:=P) (w:=w) rfl rfl) rfl)
     (ag (d8 (pv 0) (pv 3) rfl)
     (ag (cA aa7 rfl (bw (pv 2)) (fR (i:=4) iS.nd) (ar (aV (aM (pv 0) T.cy (pJ (P:=P) (w:=w) T) .nil hr.m (aa (pv 4) ac)))))
     (ar (aV (aM (pv 0) T.cy (wq (P:=P) (w:=w) T) .nil hr.m (aa (pv 1) ac))))))))))),?_⟩
 try dsimp only [kA,cz]
 first|(refine Bs ?_;intro Z Z Z Z Z Z Z Z Z)|skip
 have lx:=AH.length;refine ⟨⟨_,aW.of F⟩,?_⟩;refine eA (K:=K) (a:=q) (xs:=xs) (λ i U A=>aE H A/\∃ (v:eU),U=[some (.ref x),some (.ref a),some (.ref q),some (.int L),v]) ⟨aE.refl _,none,rfl⟩ (λ i U A Z ⟨S,_⟩=>aW.of (S _ _ F)) ?_ ?_
 . rintro Z i v U y hv ⟨S,v4,rfl⟩;obtain ⟨p,Y,rfl,C,iy⟩:=AH.get hv;exact ⟨a,fp,m,p,Y,rfl,hh.same S,iy.same S,Sg Y (aae C),λ H2 s2=>⟨S.trans s2,_,rfl⟩⟩
 rintro U y ⟨S,v4,rfl⟩;have B0:lu K Ad.dB x D y y []:=.start (S _ _ hx);refine ⟨AN,λ c iC=>?_⟩;have B1:=B0.new (o:=.lst []) iC;refine ⟨x,_,D,_,rfl,B1.at_,T.cy,T.fW,lt1000 rfl,?_⟩;have B2:=B1.put (fs':=aX "met" (.ref c) []);have Sl:=B0.ne iC;have HS:(upd (upd y c (.lst [])) x (.ins Ad.dB D (aX "met" (.ref c) []))) c=some (.lst []):=by rw [aw Sl];exact af
 have mn:y c=none:=iC;generalize upd (upd y c (.lst [])) x (.ins Ad.dB D (aX "met" (.ref c) []))=H2 at B2 HS |-;refine ⟨AN,λ d RB=>?_⟩;have B3:=B2.new (o:=.lst []) RB;refine ⟨x,_,D,_,rfl,B3.at_,T.cy,T.m6,lt1000 rfl,?_⟩;have B4:=B3.put (fs':=aX "orders" (.ref d) (aX "met" (.ref c) []));have N:=B2.ne RB;have on:y d=none:=B2.none RB;have R:c≠d:=ax HS RB;have P7:(upd (upd H2 d (.lst [])) x (.ins Ad.dB D (aX "orders" (.ref d) (aX "met" (.ref c) [])))) d=some (.lst []):=by rw [aw N];exact af
 have OX:(upd (upd H2 d (.lst [])) x (.ins Ad.dB D (aX "orders" (.ref d) (aX "met" (.ref c) [])))) c=some (.lst []):=by rw [aw Sl,aw R];exact HS
 generalize upd (upd H2 d (.lst [])) x (.ins Ad.dB D (aX "orders" (.ref d) (aX "met" (.ref c) [])))=H4 at B4 P7 OX |-;refine ⟨AN,λ f M=>?_⟩;have B5:=B4.new (o:=.lst []) M;refine ⟨x,_,D,_,rfl,B5.at_,T.cy,T.eG,lt1000 rfl,?_⟩;have B6:=B5.put (fs':=aX "rows" (.ref f) (aX "orders" (.ref d) (aX "met" (.ref c) [])));have YA:=B4.ne M;have rn:y f=none:=B4.none M;have V:c≠f:=ax OX M;have W:d≠f:=ax P7 M;have Uc:(upd (upd H4 f (.lst [])) x (.ins Ad.dB D (aX "rows" (.ref f) (aX "orders" (.ref d) (aX "met" (.ref c) []))))) f=some (.lst []):=by rw [aw YA];exact af
 have UE:(upd (upd H4 f (.lst [])) x (.ins Ad.dB D (aX "rows" (.ref f) (aX "orders" (.ref d) (aX "met" (.ref c) []))))) d=some (.lst []):=by rw [aw N,aw W];exact P7
 have Tt:(upd (upd H4 f (.lst [])) x (.ins Ad.dB D (aX "rows" (.ref f) (aX "orders" (.ref d) (aX "met" (.ref c) []))))) c=some (.lst []):=by rw [aw Sl,aw V];exact OX
 generalize upd (upd H4 f (.lst [])) x (.ins Ad.dB D (aX "rows" (.ref f) (aX "orders" (.ref d) (aX "met" (.ref c) []))))=H6 at B6 Uc UE Tt |-;refine λ t X3=>?_;have B7:=B6.new (o:=og P w t []) X3;refine ⟨x,_,D,_,rfl,B7.at_,T.cy,T.hJ,lt1000 rfl,?_⟩;have B8:=B7.put (fs':=aX "places" (.ref t) (aX "rows" (.ref f) (aX "orders" (.ref d) (aX "met" (.ref c) []))));have YZ:=B6.ne X3;have dn:y t=none:=B6.none X3;refine ⟨x,_,D,_,rfl,B8.at_,T.cy,T.pG,lt1000 rfl,?_⟩;have B9:=B8.put (fs':=aX "limit" (.int L) (aX "places" (.ref t) (aX "rows" (.ref f) (aX "orders" (.ref d) (aX "met" (.ref c) [])))));have kp:∀ {b o o1 o2 o3},H6 b=some o->b≠x->(upd (upd (upd H6 t o1) x o2) x o3) b=some o:=λ e n=>by rw [aw n,aw n,aw (ax e X3)];exact e
 have ae:(upd (upd (upd H6 t (og P w t [])) x (.ins Ad.dB D (aX "places" (.ref t) (aX "rows" (.ref f) (aX "orders" (.ref d) (aX "met" (.ref c) [])))))) x (.ins Ad.dB D (aX "limit" (.int L) (aX "places" (.ref t) (aX "rows" (.ref f) (aX "orders" (.ref d) (aX "met" (.ref c) []))))))) t=some (og P w t []):=by rw [aw YZ,aw YZ];exact af
 have g9:fo P w K Ad.dB [] _ x c d f t L ⟨[],[],[]⟩:=⟨⟨D,B9.at_⟩,⟨[],kp Tt Sl,Refs.nil⟩,⟨[],kp UE N,eP⟩,⟨[],kp Uc YA,eP⟩,⟨[],jC.nil ae,aaE _,Cq.nil⟩,R,V,W⟩
 generalize upd (upd (upd H6 t (og P w t [])) x (.ins Ad.dB D (aX "places" (.ref t) (aX "rows" (.ref f) (aX "orders" (.ref d) (aX "met" (.ref c) [])))))) x (.ins Ad.dB D (aX "limit" (.int L) (aX "places" (.ref t) (aX "rows" (.ref f) (aX "orders" (.ref d) (aX "met" (.ref c) []))))))=H9 at B9 g9 |-;have b9:iw [x] H H9:=λ b u e n=>B9.st b u (S b u e) λ z=>n (aac.mpr z);have T9:aZ K H H9:=S.ts.trans B9.ts;have X:q∉[x]:=λ z=>by rw [aac.mp z,hx] at F;cases F
 have fr:∀ b∈[c,d,f,t],H b=none:=by
   intro b hb;simp only [aay,aaj,acd] at hb;rcases hb with rfl|rfl|rfl|rfl
   . exact S.free mn
   . exact S.free on
   . exact S.free rn
   . exact S.free dn
 have ex:∀ {b u},H b=some u->b∉[x]->b∉[c,d,f,t]:=λ e Z z=>by rw [fr _ z] at e;cases e
 refine ⟨⟨_,aW.of (b9 _ _ F X)⟩,?_⟩;refine eA (K:=K) (a:=q) (xs:=xs) (λ i U A=>A4 (iw [x] H A) (aZ K H A) (∃ g,A7 (fo P w K Ad.dB [] A x c d f t L g) (ie m g) (g.gu=[]) (g.rows=[]) (∀ s∈l.take i,s∈g.met) (∀ s r,l=s::r->0<i->g.met[0]?=some s) (i=0->g.met=[])) (∃ (v:eU),U=[some (.ref x),some (.ref a),some (.ref q),some (.int L),v]))
   ⟨b9,T9,⟨_,g9,⟨aeJ,aaE _,aaE _,λ Z h=>absurd h aaj,λ i s o e=>by simp at e,λ i s o e=>by simp at e⟩,rfl,rfl,λ s h=>absurd h (by simp),λ Z Z Z h=>absurd h (adB _),λ Z=>rfl⟩,_,rfl⟩ (λ i U A Z ⟨b,_,_,_⟩=>aW.of (b _ _ F X)) ?_ ?_
 .
  rintro Z i v U FU hv ⟨Lq,G,⟨g,J,ok,o0,r0,C3,hz,B⟩,v5,rfl⟩;obtain ⟨p,Y,rfl,C,iy⟩:=AH.get hv;obtain ⟨ah,Rr⟩:=J.ins;refine ⟨Rr,rfl,x,p,c,d,f,t,L,g,m,Y,[],rfl,J,ok,I,l2,iy.ts G,Sg Y (aae C),λ j g' AK Kd Qu OU gx EK ej wh=>⟨λ b u e n=>Kd b u (Lq b u e n) (λ z=>ex e n (by
    simp only [aay,aaj,acd] at z |-;rcases z with z|z
    . exact .inl z
    . exact .inr (.inr (.inr z)))),G.trans Qu,⟨g',OU,EK,gx.gu.trans o0,gx.rows.trans r0,λ s hs=>?_,λ s r e Z=>?_,λ e=>absurd e (Nat.succ_ne_zero _)⟩,_,rfl⟩⟩
  .
   rw [bX C] at hs;rcases aaU.mp hs with z|z
   . obtain ⟨⟨O,em⟩,Z⟩:=gx;rw [em];exact acR _ (C3 s z)
   . rw [aac.mp z];exact aae ej
  .
   by_cases h0:0<i
   . exact gx.at (hz s r e h0)
   .
    obtain rfl:i=0:=by lia
    rw [e] at C;cases C;rcases wh with rfl|rfl
    . rw [B rfl] at ej;simp at ej
    . show (g.met++_)[0]?=_;rw [B rfl];rfl
 .
  rintro U FU ⟨Lq,G,⟨g,J,ok,o0,r0,C3,hz,B⟩,v5,rfl⟩;rw [lx,aa4] at C3;obtain ⟨ah,Rr⟩:=J.ins;have nf:∀ {b},b∈[c,d,f,t]->b∉fp:=λ hb z=>by
    obtain ⟨u,hu⟩:=hh.some _ z;rw [fr _ hb] at hu;cases hu
  refine ⟨Rr,rfl,x,a,c,d,f,t,L,g,m,fp,rfl,J,ok,by rw [o0,r0];rfl,I,l2,hm,hh.L9 (λ b u e n=>Lq b u e λ z=>n (aac.mp z)) G nx,nf (by simp),nf (by simp),nf (by simp),nf (by simp),λ g' AK Kd Qu OU EK ad ab ⟨O,em⟩=>?_⟩;refine k c d f t g' AK (λ b u e n=>Kd b u (Lq b u e n) (ex e n)) (G.trans Qu) fr OU EK ad ab (λ s hs=>by rw [em];exact acR _ (C3 s hs)) λ s r e=>?_;have:=hz s r e (by rw [lx,e];exact agH _);rw [em,aaO (SV.mp this).1];exact this
set_option maxHeartbeats 0 in
theorem pH (T:Txt K mg Ad):iK P w K mg base Ad.dZ "end" 1 ["self","place","number","lasting"] [] (Rm Ad.dZ):=by
 refine T.Ct.gG zF λ Z Z Z Z Z H vs Q E hr h=>?_;obtain ⟨x,M,f,i,A,q,S,p,c,t,n,l,rfl,a,y,hc,W,n0,hp,hz,k⟩:=h;refine ⟨_,(ag (gL (pv 3) (sj (aJ aC (aU (pv 0) rfl) (pv 1)) (pv 2) set_list))
     (ag (NE (aU (pv 0) rfl) (pv 1) Jm ai Px set_list)
     (ar (bA (aP fT (aJ aC (aU (pv 0) rfl) (pv 1)) ai (aQ _)) (ag (gL (aA bL (pv 3) ai) (sj (aU (pv 0) rfl) (pv 1) set_list))
     (ar (aV (hX abE abG abF cD (aU (pv 0) rfl) (aa (pv 1) ac))))) aR)))),?_⟩
 try dsimp only [kA,cz]
 first|(refine fJ ?_;intro Z Z Z Z)|skip
 obtain ⟨dx,g⟩:=a.ins;have iL:p<q.length:=by rw [a.len];exact (SV.mp y).1
 have j:q[p]?=some q[p]:=UY iL;have D:=a.xV p _ l j y;have J:=a.nd;simp only [ab3,aay,ad7] at J;obtain ⟨⟨a1,a2,a3,a4⟩,⟨b1,b2,O⟩,⟨U,c2⟩,d1,Z⟩:=J;have C:=aae j;have G:(S.d7.map aq)[p]?=some (aq n):=by rw [aah,W];rfl
 have L:p<(S.d7.map aq).length:=(SV.mp G).1;refine ⟨g,T.cR,T.jU,rfl,.inl (aW.of a.las),bC (by rw [aah,j];rfl),q[p],_,_,c,rfl,rfl,D,?_,?_⟩
 . exact mF (by rw [Ea];exact hc)
 have I:f≠q[p]:=λ z=>O (z ▸ C);have xq:x≠q[p]:=λ z=>by rw [z,D] at g;cases g
 have xg:x≠f:=λ z=>by rw [z,a.WX] at g;cases g
 refine ⟨(aw xq).trans g,T.cR,T.ik,rfl,f,_,p,_,rfl,rfl,aW.of ((aw I).trans a.WX),G,_,_,rfl,rfl,f,_,_,p,rfl,rfl,(aw I).trans a.WX,mF L,?_⟩;have d:=a.fin (c:=c) (t:=t) (n:=n) j y;have ez:(V.int ((n:Int) - 1))=aq (n - 1):=by
   show V.int _=V.int _;rw [show ((n:Int) - 1)=((n - 1:Nat):Int) by lia]
 rw [ez];have B:iw (M::f::i::A::q) H (upd (upd H q[p] (.lst ((l.map iE).set c (aq t)))) f (.lst ((S.d7.map aq).set p (aq (n - 1))))):=λ b u e N=>by
   simp only [aay,ad7] at N;rw [aw N.2.1,aw (λ z=>N.2.2.2.2 (by rw [z];exact C))];exact e
 generalize upd (upd H q[p] (.lst ((l.map iE).set c (aq t)))) f (.lst ((S.d7.map aq).set p (aq (n - 1))))=F at d B |-;obtain ⟨MY,v⟩:=d.ins;have s:((S.d7.set p (n - 1)).map aq)[p]?=some (aq (n - 1)):=by
   rw [aah,dG.mpr (.inl ⟨rfl,by rw [Ea] at L;exact L,rfl⟩)];rfl
 refine ⟨v,T.cR,T.ik,rfl,.inl (aW.of d.WX),bC s,?_⟩;refine ⟨rfl,_,rfl,?_⟩;by_cases R:n=1
 .
  rw [show decide (aq (n - 1)=V.int 0)=true from aaS (by rw [R];rfl)];have yt:p<(S.bQ.map iE).length:=by rw [Ea];exact hp
  have xk:x≠i:=λ z=>by rw [z,d.Vg] at v;cases v
  have h2:=d.abj (p:=p) (t:=t);have m:iw (M::f::i::A::q) H (upd (upd F i (.lst ((S.bQ.map iE).set p (aq (t+1))))) A (.lst (S.queue.map aq++[aq p]))):=λ b u e N=>by
    have:=B b u e N;simp only [aay,ad7] at N;rw [aw N.2.2.2.1,aw N.2.2.1];exact this
  refine fH (λ r X=>?_);obtain rfl:r=((t+1:Nat):Int):=X;refine ⟨v,T.cR,T.fU,rfl,i,_,_,p,rfl,rfl,d.Vg,mF yt,?_⟩;have Y:=(aw (o:=.lst ((S.bQ.map iE).set p (aq (t+1)))) (λ z=>U z.symm)).trans d.Ym;refine ⟨(aw xk).trans v,T.cR,T.ip,rfl,.inl ⟨rfl,_,aW.of Y⟩,Y,abe (show (S.queue.map aq).length<=10000 by rw [Ea];exact hz) (by decide),k _ m ?_⟩;unfold lA.fin;rw [abp R,abp R];exact h2
 .
  rw [show decide (aq (n - 1)=V.int 0)=false from aaR (λ z=>R (by have:=V.int.inj z;lia))];refine dk (k F B ?_);unfold lA.fin;rw [abC R,abC R];exact d
set_option maxHeartbeats 0 in
theorem rK (T:Txt K mg Ad):iK P w K mg base Ad.dZ "go_back" 2 ["self","ahead"] [] (GM K Ad.dZ):=by
 refine T.uV.gG dS λ Z Z Z Z Z H vs Q E hr h=>?_;obtain ⟨x,I,F,G,A,u,S0,pa,ah,rows,rfl,Yj,aY,aI,an,Xo,lr,k⟩:=h;refine ⟨_,(ag (dD (i:=2) dS.nd ai)
     (ar (nu aa7 (aP kI (pv 2) (aT bv (by rfl) T.fc cZ (aa (aU (pv 0) rfl) ac)) (aQ _)) (ag (dD (i:=3) dS.nd (aJ aC (aU (pv 0) rfl) (pv 2)))
     (ag (cA aa7 rfl (bw (aJ aC (pv 1) (pv 3))) (cL (K:=K) (n:=2) rfl rfl (aL (fR (i:=4) dS.nd) (aL (fR (i:=5) dS.nd) cJ))) (ar (bA (aP mZ (aJ aC (aJ aC (aU (pv 0) rfl) (pv 4)) (pv 5)) cM (aQ _)) (ar (aV (aM (pv 0) T.cR (pH (P:=P) (w:=w) T) .nil hr.m (aa (pv 4) (aa (pv 5) (aa (aJ aC (aU (pv 0) rfl) (pv 3)) ac)))))) aR)))
     (ar (Ka (i:=2) dS.nd rfl (lc rfl) ai K2))))))),?_⟩
 try dsimp only [kA,cz]
 refine ⟨λ mz U f=>(E3 λ S B d=>A8 (iw (IP I F G A u) H f) (jo Ad.dZ f x I F G A u S) (jh rows S B) (gD rows S) (∀ i j,i<d->S.queue[i]?=some j->zB rows S j) (∀ i j k,d<=i->S.queue[i]?=some j->S.bQ[j]?=some (some k)->B<=k) (mz=2000 - d) (E3 λ (v3 W Y:eU)=>U=[some (.ref x),some (.ref pa),some (aq d),v3,W,Y])),
   ⟨_,S0,0,0,λ Z Z h Z=>h,Yj,aY,aI,λ i j h=>absurd h (acl _),λ Z Z Z Z Z Z=>ab2 _,rfl,none,none,none,rfl⟩,?_⟩
 rintro mz U H1 ⟨S,B,d,b1,R,ok,nd,gd,lo,rfl,v3,W,Y,rfl⟩;obtain ⟨dx,hx⟩:=R.ins;have ql:=ok.ql;refine ⟨hx,T.cR,T.ip,rfl,A,_,rfl,.inl (aW.of R.Ym),λ y ey=>⟨_,rfl,jL (λ h=>?_) (λ h=>?_)⟩⟩
 .
  rw [Ea] at ey;have hi:d<S.queue.length:=by lia
  have O:S.queue[d]?=some S.queue[d]:=UY hi;generalize S.queue[d]=j at O;obtain ⟨kk,ek⟩:=(ok.qu j).mp (aae O);have Cd:=ok.up (lo d j kk (aaE _) O ek);have hj:j<ah.length:=by rw [Xo.1,<- ok.lk];exact (SV.mp ek).1
  have ea:ah[j]?=some ah[j]:=UY hj;generalize ah[j]=l at ea;refine ⟨λ al f=>∃ s,A6 (iw (IP I F G A u) H f) (jo Ad.dZ f x I F G A u s) (jh rows s kk) (C1 S s) (zB rows s j) (E3 λ (v3 W Y:eU)=>al=[some (.ref x),some (.ref pa),some (aq (d+1)),v3,W,Y]),
    λ al f ⟨s,b',Oc,N5,X,gj,w3,w4,w5,e⟩=>⟨2000 - (d+1),by lia,s,kk,d+1,b',Oc,N5,nd.more X,λ i a hi e=>?_,λ i a k hi e M=>?_,rfl,w3,w4,w5,e⟩,?_⟩
  .
   by_cases q:i=d
   . rw [q,X.at O] at e;cases e;exact gj
   . have hq:i<S.queue.length:=by lia
     have D:=X.at (UY hq);rw [e] at D;cases D;exact (gd i _ (by lia) (UY hq)).more X
  .
   obtain ⟨i1,N⟩:=SV.mp (X.at O);obtain ⟨i2,D⟩:=SV.mp e;have:=agg.mp N5.srt d i i1 i2 (by lia);rw [N,D] at this;exact this kk k (X.rk _ _ ek) M
  obtain ⟨va,YR,a1,ad⟩:=an.but b1 (FT Yj.wK b1);obtain ⟨q,BW⟩:∃ q,va[j]?=some (.ref q)/\q∉IP I F G A u/\∃ vs,H1 q=some (.lst vs)/\Refs (λ b (pc:Nat×Nat)=>cw K H1 b [aq pc.1,aq pc.2]) vs l:=by
    have hv:j<va.length:=by rw [ad.length];exact hj
    obtain ⟨q,l',eq,o,z⟩:=ad.get (UY hv);rw [ea] at o;cases o;exact ⟨q,by rw [UY hv,eq],z⟩
  obtain ⟨eq,nq,vs,hq,ae⟩:=BW;refine ⟨hx,T.cR,T.ip,rfl,.inl (aW.of R.Ym),bC (by rw [aah,O];rfl),?_⟩;refine ⟨.inl (aW.of YR),bC eq,⟨_,aW.of hq⟩,?_⟩;refine eA (K:=K) (a:=q) (xs:=vs) (λ i U f=>∃ s,A7 (iw (IP I F G A u) H f) (iw (IP I F G A u) H1 f) (jo Ad.dZ f x I F G A u s) (jh rows s kk) (C1 S s) (∀ p c,(p,c)∈l.take i->∃ t L,s.bU[p]?=some L/\L[c]?=some (some t)) (E2 λ (W Y:eU)=>U=[some (.ref x),some (.ref pa),some (aq d),some (aq j),W,Y])) ⟨S,b1,λ Z Z h Z=>h,R,Cd,C1.refl S,λ p c h=>by simp at h,_,_,rfl⟩ (λ i U f Z ⟨_,_,b,_,_,_,_,_⟩=>aW.of (b _ _ hq nq)) ?_ ?_
  .
   rintro Z i v U H2 hv ⟨g,b2,OJ,V,C,X,tk,w4,w5,rfl⟩;obtain ⟨b,⟨p,c⟩,rfl,es,az⟩:=ae.get hv;obtain ⟨r,js,M,ec,GK⟩:=(Xo.2 j l p c ea).mp (aae es);have hp:p<rows.length:=(SV.mp M).1;have yt:p<g.bU.length:=by rw [C.ll];exact hp
   have o7:p<g.d7.length:=by rw [C.lg];exact hp
   have DB:p<u.length:=by rw [V.len];exact yt
   have o:=UY yt;have eg:=UY o7;have ab:=UY DB;have hc:c<g.bU[p].length:=by rw [C.sh p _ _ o M];exact (SV.mp ec).1
   have J:=UY hc;have C3:=V.xV p _ _ ab o;obtain ⟨MY,vB⟩:=V.ins;have T2:aZ K H1 H2:=FT R.wK OJ;refine ⟨T2 _ _ az,rfl,rfl,?_⟩;refine ⟨vB,T.cR,T.jU,rfl,HP.mk (v:=.ref u[p]) (.inl (aW.of V.las)) (bC (by rw [aah,ab];rfl)) ⟨.inl (aW.of C3),bC (by rw [aah,J];rfl),rfl,_,rfl,?_⟩⟩;have aj:∀ {S2:lA},C1 g S2->(∃ t L,S2.bU[p]?=some L/\L[c]?=some (some t))->∀ p' c',(p',c')∈l.take (i+1)->∃ t L,S2.bU[p']?=some L/\L[c']?=some (some t):=λ x2 hh p' c' hm=>by
     rw [bX es] at hm;rcases aaU.mp hm with z|z
     . obtain ⟨t,L,N,D⟩:=tk p' c' z;obtain ⟨aG,f1,f2⟩:=x2.la _ _ _ _ N D;exact ⟨t,aG,f1,f2⟩
     . cases aac.mp z;exact hh
   cases q0:g.bU[p][c] with
   | some t =>
     rw [q0] at J;refine dk ⟨g,b2,OJ,V,C,X,aj (C1.refl _) ⟨t,_,o,J⟩,_,_,rfl⟩
   | none =>
     rw [q0] at J;have en:=C.go p _ _ o eg;have n0:g.d7[p]≠0:=λ z=>by
       rw [z] at en;exact aeb.mp en.symm _ (aae J) rfl
     have Vj:=X.rk _ _ ek;have a0:wn rows g.bQ p c kk:=⟨r,M,.inr ⟨js,ec,j,GK,Vj⟩⟩
     refine fH ⟨vB,rfl,vB,T.cR,T.fU,rfl,.inl (aW.of V.Vg),bC (by rw [aah,Vj];rfl),x,I,F,G,A,u,g,p,c,kk,_,_,rfl,V,o,hc,eg,n0,by rw [C.lk];exact hp,aaX C.ql (aaX lr (by decide)),λ H3 b3 ao=>?_⟩;refine ⟨_,Bb b2 b3,Bb OJ b3,ao,C.fin o eg J a0,X.trans (C.V1 o eg J),aj (C.V1 o eg J) ⟨kk,_,dG.mpr (.inl ⟨rfl,yt,rfl⟩),dG.mpr (.inl ⟨rfl,hc,rfl⟩)⟩,_,_,rfl⟩
  .
   rintro U H2 ⟨g,b2,OJ,V,C,X,tk,w4,w5,rfl⟩;rw [ae.length,aa4] at tk;refine ⟨_,rfl,_,_,rfl,rfl,g,b2,V,C,X,λ p r c js M ec GK=>?_,_,_,_,rfl⟩;obtain ⟨t,L,N,D⟩:=tk p c ((Xo.2 j l p c ea).mpr ⟨r,js,M,ec,GK⟩);exact ⟨L,t,kk,N,D,X.rk _ _ ek,C.lo _ _ _ _ N D⟩
 .
  rw [Ea] at ey;refine k H1 S B b1 R ok nd λ j hj=>?_;obtain ⟨i,hi,rfl⟩:=acP.mp hj;exact gd i _ (by lia) (UY hi)
set_option maxHeartbeats 0 in
theorem tM (T:Txt K mg Ad):Def P w K mg base "choices_ahead" 1 ["rows"] (Jn K):=by
 refine T.uQ.cW c5 λ Z Z Z Z Z H vs Q E hr h=>?_;obtain ⟨R,vr,rows,rfl,mS,dr,lr,hb,k⟩:=h;refine ⟨_,(ag (mQ (yi:=1) ["row"] [] [] .nil rfl (bw (pv 0)) (λ Z Z Z Z Z=>(ky (i:=0))) (λ Z Z Z Z Z=>cB) (λ Z Z Z Z Z=>(bK ac)) c5.nd (lc rfl))
     (ag (cA aa7 rfl (nZ rfl T.dg (aa (pv 0) ac)) (cL (K:=K) (n:=2) rfl rfl (aL (fR (i:=2) c5.nd) (aL (fR (i:=3) c5.nd) cJ))) (ar (cA aa7 rfl (nZ rfl T.dg (aa (pv 3) ac)) (cL (K:=K) (n:=2) rfl rfl (aL (fR (i:=4) c5.nd) (aL (fR (i:=5) c5.nd) cJ))) (ar (bA (aP gw (pv 5) cM (aQ _)) (ar (cA aa7 rfl (bw (pv 5)) (fR (i:=6) c5.nd) (ar (aV (hX abE abG abF cD (aJ aC (pv 1) (pv 6)) (aa (ca (aa (pv 2) (aa (pv 4) ac))) ac)))))) aR)))))
     (ar (aO (pv 1))))),?_⟩
 try dsimp only [kA,cz]
 first|(refine fJ ?_;intro Z Z Z Z)|skip
 have lv:vr.length=rows.length:=by rw [dr.length,Ea]
 refine ⟨⟨_,aW.of mS⟩,λ D hD=>?_⟩;have s0:=ap (o:=.lst []) hD;have a0:CO K H (upd H D (.lst [])) D [] []:=⟨s0,λ b hb=>by rw [aac.mp hb];exact hD,ab3.mpr ⟨aaj,aeJ⟩,rfl,af,λ j b l e=>by simp at e⟩
 refine cf (K:=K) (a:=R) (xs:=vr) (λ i f g c=>∃ as,A3 (CO K H c D as ((rows.take i).map λ Z=>[])) (f=as.map .ref) (∃ v,g=[v])) ⟨[],a0,rfl,none,rfl⟩ (λ i f g c Z ⟨_,h,_,_⟩=>aW.of (h.sm _ _ mS)) ?_ ?_
 .
  rintro i y f g H1 hy ⟨as,m,rfl,v,rfl⟩;have hi:i<rows.length:=by rw [<- lv];exact (SV.mp hy).1
  have la:=m.le;rw [Ea,aby] at la;refine ⟨AN,λ q L=>⟨ap L _ _ m.hp,abe (show (as.map V.ref).length<=100000 by rw [Ea];lia) (by decide),as++[q],?_,by rw [aau];rfl,_,rfl⟩⟩;rw [bX (UY hi),aau];exact m.row L
 rintro f g H1 ⟨as,m,rfl,v,rfl⟩;rw [lv,aa4] at m;have G:∀ {Il q xs},aE H Il->aW K H q xs->aW K Il q xs:=λ S e=>by
   rcases e with (e|⟨o,e⟩)|e
   . exact .inl (.inl (S _ _ e))
   . exact .inl (.inr ⟨o,S _ _ e⟩)
   . exact .inr e
 refine ⟨R,rfl,⟨_,aW.of (m.sm _ _ mS)⟩,?_⟩;refine vI (sq:=aW K) (xs:=vr) (λ i U c=>∃ A,A4 (CO K H c D as A) (oF rows i 0 0 A) (zV (i * 16 * 400) A) (E5 λ (v2 v3 Y v5 u:eU)=>U=[some (.ref R),some (.ref D),v2,v3,Y,v5,u])) ⟨_,m,oF.zero rows,λ j l e=>?_,none,none,none,none,none,rfl⟩ (λ i U c Z ⟨_,h,_,_,_⟩=>aW.of (h.sm _ _ mS)) ?_ ?_
 . rw [aah] at e;obtain ⟨r,Z,rfl⟩:=acY.mp e;exact ab2 _
 .
  rintro i x pp U H2 hx mO ⟨A,a2,t2,l2,v2,v3,Y,v5,u,rfl⟩;have hi:i<rows.length:=by rw [<- lv];exact (SV.mp hx).1
  have s:=UY hi;generalize rows[i]=r at s;obtain ⟨x',ex,dx⟩:=dr.get (d:=ue r) (by rw [aah,s];rfl);rw [hx] at ex;cases ex;obtain ⟨q,xs,rfl,L,dq⟩:=dx;have lq:xs.length=r.length:=by rw [dq.length,Ea]
  have bd:=hb r (aae s);refine ⟨cw.of af,rfl,rfl,?_⟩;have a3:=a2.same (ap (o:=.tup [aq i,.ref q]) mO);generalize upd H2 pp (.tup [aq i,.ref q])=H3 at a3 |-;refine ⟨q,rfl,⟨_,G a3.sm L⟩,?_⟩;refine vI (sq:=aW K) (xs:=xs) (λ n U c=>∃ A,A4 (CO K H c D as A) (oF rows i n 0 A) (zV ((i * 16+n) * 400) A) (E3 λ (Y v5 u:eU)=>U=[some (.ref R),some (.ref D),some (aq i),some (.ref q),Y,v5,u])) ⟨_,a3,t2,l2,_,_,_,rfl⟩ (λ i U c Z ⟨_,h,_,_,_⟩=>G h.sm L) ?_ ?_
  .
   rintro n y XJ U H4 hy Rx ⟨Yv,a4,W,N,w4,w5,w6,rfl⟩;have hn:n<r.length:=by rw [<- lq];exact (SV.mp hy).1
   have F:=UY hn;generalize r[n]=vv at F;obtain ⟨y',ey,dy⟩:=dq.get (d:=wP vv) (by rw [aah,F];rfl);rw [hy] at ey;cases ey;refine ⟨cw.of af,rfl,rfl,?_⟩;have a5:=a4.same (ap (o:=.tup [aq n,y]) Rx);generalize upd H4 XJ (.tup [aq n,y])=H5 at a5 |-;cases vv with
   | none =>
     obtain rfl:y = .cN:=dy;exact ⟨rfl,_,rfl,dk ⟨Yv,a5,W.Od s F (λ Z z=>by cases z),N.mono (by lia),_,_,_,rfl⟩⟩
   | some js =>
     obtain ⟨q2,ys,rfl,yn,ab⟩:=dy;obtain rfl:=yE ab;obtain ⟨lj,hj⟩:=bd.2 js (aae F);refine ⟨rfl,_,rfl,fH ?_⟩;refine ⟨⟨_,G a5.sm yn⟩,?_⟩;refine eA (K:=K) (a:=q2) (xs:=js.map aq) (λ kx U c=>∃ A,A4 (CO K H c D as A) (oF rows i n kx A) (zV ((i * 16+n) * 400+kx) A) (∃ (u:eU),U=[some (.ref R),some (.ref D),some (aq i),some (.ref q),some (aq n),some (.ref q2),u])) ⟨Yv,a5,W,by rw [agJ];exact N,_,rfl⟩ (λ i U c Z ⟨_,h,_,_,_⟩=>G h.sm yn) ?_ ?_
     .
      rintro Z kx z U H6 hz ⟨Yr,B,X,O,u6,rfl⟩;rw [aah] at hz;obtain ⟨j,ej,rfl⟩:=acY.mp hz;have Uj:=hj j (aae ej);have J:j<Yr.length:=by rw [X.1];exact Uj
      have GK:j<as.length:=by rw [B.le];exact J
      have C:=UY J;have eb:=UY GK;have hk:kx<js.length:=(SV.mp ej).1;generalize Yr[j]=la at C;generalize as[j]=b at eb;refine ⟨.inl (aW.of B.hp),bC (by rw [aah,eb];rfl),?_⟩;obtain ⟨vs,I,ad⟩:=B.xV j b la eb C;refine ⟨.inl ⟨rfl,_,aW.of I⟩,xF,λ t ht=>?_⟩;have st:=ap (o:=.tup [aq i,aq n]) ht;have a7:=B.same st;have Zo:=st _ _ I;have RP:=ad.imp λ p (pc:Nat×Nat) z=>st.ts (K:=K) _ _ z;have M:cw K (upd H6 t (.tup [aq i,aq n])) t [aq i,aq n]:=cw.of af;generalize upd H6 t (.tup [aq i,aq n])=H7 at a7 Zo RP M |-;have le:=O j la C;refine ⟨Zo,abe (show vs.length<=14000000 by rw [RP.length];lia) (by decide),_,a7.put eb C Zo RP M,X.put s F ej C,by rw [<- Nat.add_assoc];exact O.put C,_,rfl⟩
     . rintro U H6 ⟨Yr,B,X,O,u6,rfl⟩;rw [Ea] at X O;exact ⟨Yr,B,X.Od s F (λ Z z=>by cases z;rfl),O.mono (by lia),_,_,_,rfl⟩
  . rintro U H4 ⟨Yv,a4,W,N,w4,w5,w6,rfl⟩;rw [lq] at W N;exact ⟨Yv,a4,W.SQ s,N.mono (by have:=bd.1;lia),_,_,_,_,_,rfl⟩
 . rintro U H2 ⟨A,a2,t2,l2,v2,v3,Y,v5,u,rfl⟩;rw [lv] at t2;exact (k D as A H2 a2 t2.done)
set_option maxHeartbeats 0 in
theorem qj (T:Txt K mg Ad):iK P w K mg base Ad.dZ "__init__" 3 ["self","game"] [] (KN P w K Ad.dB Ad.dZ):=by
 refine T.tS.gG eM λ Z Z Z Z Z H vs Q E hr h=>?_;obtain ⟨x,R,y,pm,po,pr,pd,aG,g,rfl,hx,hg,M,k⟩:=h;refine ⟨_,(ag (d8 (pv 0) (ft ["choices"] [] [] .nil rfl (bw (aU (pv 1) rfl)) (λ Z Z Z Z Z=>(ky (i:=0))) (λ Z Z Z Z Z=>cB) (λ Z Z Z Z Z=>(ft ["row"] [] [] .nil rfl (KS (K:=K) rfl (pv 0)) (λ Z Z Z Z Z=>(ky (i:=0))) (λ Z Z Z Z Z=>cB) (λ Z Z Z Z Z=>cM)))) rfl)
     (ag (d8 (pv 0) (ft ["choices"] [] [] .nil rfl (bw (aU (pv 1) rfl)) (λ Z Z Z Z Z=>(ky (i:=0))) (λ Z Z Z Z Z=>cB) (λ Z Z Z Z Z=>(aT (GN (K:=K) rfl) (by rfl) T.fc cZ (aa (pv 0) ac)))) rfl)
     (ag (d8 (pv 0) (ft ["many"] [] [] .nil rfl (bw (aU (pv 0) rfl)) (λ Z Z Z Z Z=>(ky (i:=0))) (λ Z Z Z Z Z=>cB) (λ Z Z Z Z Z=>(lD (aP fT (pv 0) ai (aQ _)) ai cM))) rfl)
     (ag (d8 (pv 0) (ft ["place","rank"] [] [] .nil rfl (nZ rfl T.dg (aa (aU (pv 0) rfl) ac)) (λ Z Z Z Z Z=>(cL (K:=K) (n:=2) rfl rfl (aL (ky (i:=0)) (aL (ky (i:=1)) cJ)))) (λ Z Z Z Z Z=>(gJ (aP fT (pv 1) ai (aQ _)))) (λ Z Z Z Z Z=>(pv 0))) rfl)
     (ag (cA aa7 rfl (nZ rfl T.dg (aa (aU (pv 1) rfl) ac)) (cL (K:=K) (n:=2) rfl rfl (aL (fR (i:=2) eM.nd) (aL (fR (i:=3) eM.nd) cJ))) (ar (cA aa7 rfl (nZ rfl T.dg (aa (pv 3) ac)) (cL (K:=K) (n:=2) rfl rfl (aL (fR (i:=4) eM.nd) (aL (fR (i:=5) eM.nd) cJ))) (ar (bA (aP mZ (pv 5) cM (aQ _)) (ar (aV (aM (pv 0) T.cR (pH (P:=P) (w:=w) T) .nil hr.m (aa (pv 2) (aa (pv 4) (aa ai ac)))))) aR)))))
     (ar (aV (aM (pv 0) T.cR (rK (P:=P) (w:=w) T) .nil hr.m (aa (au (tM T) hr.m (aa (aU (pv 1) rfl) ac)) ac))))))))),?_⟩
 try dsimp only [kA,cz]
 first|(refine nX ?_;intro Z Z Z Z Z Z Z)|skip
 obtain ⟨dy,hy⟩:=hg.ins;obtain ⟨vr,mS,dr⟩:=hg.rows;have a5:=bP.same ia _ dr;have lv:vr.length=g.rows.length:=by rw [dr.length,Ea]
 refine ⟨hy,T.cy,T.eG,rfl,⟨_,aW.of mS⟩,λ C iL=>?_⟩;have s0:=ap (o:=.lst []) iL;have a0:QW H (upd H C (.lst [])) C [] []:=⟨s0,λ b M=>by rw [aac.mp M];exact iL,ab3.mpr ⟨aaj,aeJ⟩,rfl,af,λ j b l e=>by simp at e⟩
 refine cf (K:=K) (a:=pr) (xs:=vr) (λ i A f s=>∃ N,A3 (QW H s C N ((g.rows.take i).map λ r=>r.map λ Z=>none)) (A=N.map .ref) (∃ v,f=[v])) ⟨[],a0,rfl,none,rfl⟩ (λ i A f s Z ⟨_,h,_,_⟩=>aW.of (h.sm _ _ mS)) ?_ ?_
 .
  rintro i v A f H1 F ⟨N,W,rfl,v0,rfl⟩;have J:i<g.rows.length:=by rw [<- lv];exact (SV.mp F).1
  have t:=UY J;obtain ⟨v',ev,dv⟩:=a5.get (d:=ue g.rows[i]) (by rw [aah,t];rfl);rw [F] at ev;cases ev;obtain ⟨q,xs,rfl,hq,dq⟩:=dv;have lq:xs.length=g.rows[i].length:=by rw [dq.length,Ea]
  have lb:=(M.2 _ (aaH J)).1;have la:=W.le;rw [Ea,aby] at la;refine ⟨⟨_,hq.sm W.sm⟩,λ D hD=>?_⟩;refine cf (K:=K) (a:=q) (xs:=xs) (λ j iA ab s=>s=upd H1 D (.lst iA)/\iA=List.replicate j .cN/\∃ v,ab=[v]) ⟨rfl,rfl,none,rfl⟩ (λ j iA ab s Z ⟨e,_,_⟩=>by rw [e];exact (hq.sm W.sm).sm (ap hD)) ?_ ?_
  . rintro j u iA ab H2 hu ⟨rfl,rfl,v2,rfl⟩;have hj:j<xs.length:=(SV.mp hu).1;exact ⟨af,abe (show (List.replicate j V.cN).length<=100000 by rw [aek];lia) (by decide),oM,List.replicate_succ'.symm,_,rfl⟩
  .
   rintro iA ab H2 ⟨rfl,rfl,v2,rfl⟩;have en:List.replicate xs.length V.cN=(g.rows[i].map λ Z=>(none:Option Nat)).map iE:=by
     rw [lq,ac5];exact (List.map_const' ..).symm
   refine ⟨ap hD _ _ W.hp,abe (show (N.map V.ref).length<=100000 by rw [Ea];have:=M.1;lia) (by decide),N++[D],?_,by rw [aau];rfl,_,rfl⟩;rw [bX t,aau,en];exact W.row hD
 rintro A f H1 ⟨N,W,rfl,v,rfl⟩;rw [lv,aa4] at W;have la:=W.le;rw [Ea] at la;have B0:=W.rkb (K:=K) hx;generalize ao:(g.rows.map λ r=>r.map λ Z=>(none:Option Nat))=bb at B0;refine ⟨x,_,R,_,rfl,B0.b.at_,T.cR,T.jU,lt1000 rfl,?_⟩;have B1:=B0.put (fs':=aX "lasts" (.ref C) []);have ny:y≠x:=λ z=>by rw [z,hx] at hy;injection hy with h;injection h with _ _ h;cases h
 have nr:pr≠x:=λ z=>by rw [z,hx] at mS;cases mS
 have rd:∀ {s fs L},DT K Ad.dZ x R H s fs L->s y=some (.ins Ad.dB dy (Xx pm po pr pd aG))/\s pr=some (.lst vr)/\bP K s (g.rows.map ue) vr:=λ B=>⟨B.b.st _ _ hy ny,B.b.st _ _ mS nr,bP.same ia _ (bP.zL hx rfl (λ c u e n Z=>B.b.st c u e n) dr)⟩
 generalize upd H1 x (.ins Ad.dZ R (aX "lasts" (.ref C) []))=H2 at B1 |-;obtain ⟨a8,DW,Yi⟩:=rd B1;refine ⟨a8,T.cy,T.eG,rfl,⟨_,aW.of DW⟩,λ I L0=>?_⟩;refine cf (K:=K) (a:=pr) (xs:=vr) (λ i A f s=>A3 (s=upd H2 I (.lst A)) (A=(g.rows.take i).map (λ r:cm=>aq r.length)) (∃ v,f=[v])) ⟨rfl,rfl,none,rfl⟩ (λ i A f s Z ⟨e,_,_⟩=>by rw [e];exact aW.of (ap L0 _ _ DW)) ?_ ?_
 .
  rintro i v A f H3 F ⟨rfl,rfl,v0,rfl⟩;have J:i<g.rows.length:=by rw [<- lv];exact (SV.mp F).1
  have t:=UY J;obtain ⟨v',ev,dv⟩:=Yi.get (d:=ue g.rows[i]) (by rw [aah,t];rfl);rw [F] at ev;cases ev;obtain ⟨q,xs,rfl,hq,dq⟩:=dv;have lq:xs.length=g.rows[i].length:=by rw [dq.length,Ea]
  refine ⟨q,xs,rfl,.inl (hq.sm (ap L0)),λ r PF=>⟨af,abe (show _<=100000 by rw [Ea,aby];have:=M.1;lia) (by decide),oM,?_,_,rfl⟩⟩;rw [bX t,aau,PF,lq];rfl
 rintro A f H3 ⟨rfl,rfl,v0,rfl⟩;rw [lv,aa4];have B2:=B1.more (ap (o:=.lst (g.rows.map λ r:cm=>aq r.length)) L0) L0 af;refine ⟨x,_,R,_,rfl,B2.b.at_,T.cR,T.ik,lt1000 rfl,?_⟩;have B3:=B2.put (fs':=aX "going" (.ref I) (aX "lasts" (.ref C) []));generalize upd (upd H2 I (.lst (g.rows.map λ r:cm=>aq r.length))) x (.ins Ad.dZ R (aX "going" (.ref I) (aX "lasts" (.ref C) [])))=H4 at B3 |-;have Xw:=(B3.at_ _ aaZ).1;have lg:(g.rows.map λ r:cm=>aq r.length).length=g.rows.length:=Ea ..;refine ⟨B3.b.at_,T.cR,T.ik,rfl,⟨_,aW.of Xw⟩,λ G OD=>?_⟩;refine cf (K:=K) (a:=I) (xs:=g.rows.map λ r:cm=>aq r.length) (λ i A f s=>A3 (s=upd H4 G (.lst A)) (A=(g.rows.take i).map (λ r:cm=>iE (if r.length=0 then some 0 else none))) (∃ v,f=[v])) ⟨rfl,rfl,none,rfl⟩ (λ i A f s Z ⟨e,_,_⟩=>by rw [e];exact aW.of (ap OD _ _ Xw)) ?_ ?_
 .
  rintro i v A f H5 F ⟨rfl,rfl,v0,rfl⟩;have J:i<g.rows.length:=by rw [<- lg];exact (SV.mp F).1
  have t:=UY J;rw [aah,t] at F;cases F;have nx:(upd H4 G (.lst ((g.rows.take i).map (λ r:cm=>iE (if r.length=0 then some 0 else none))))) G=some (.lst ((g.rows.take i).map (λ r:cm=>iE (if r.length=0 then some 0 else none))))/\((g.rows.take i).map (λ r:cm=>iE (if r.length=0 then some 0 else none))).length<sizeLine:=⟨af,abe (show _<=100000 by rw [Ea,aby];have:=M.1;lia) (by decide)⟩
  refine ⟨rfl,_,rfl,?_⟩;by_cases X:g.rows[i].length=0
  . rw [show decide (aq g.rows[i].length=V.int 0)=true from aaS (by rw [X];rfl)];refine fH ⟨nx.1,nx.2,oM,?_,_,rfl⟩;rw [bX t,aau,ag3,abp X];rfl
  . rw [show decide (aq g.rows[i].length=V.int 0)=false from aaR (λ z=>X (by have:=V.int.inj z;lia))];refine dk ⟨nx.1,nx.2,oM,?_,_,rfl⟩;rw [bX t,aau,ag3,abC X];rfl
 rintro A f H5 ⟨rfl,rfl,v0,rfl⟩;rw [lg,aa4];have B4:=B3.more (ap (o:=.lst (g.rows.map λ r:cm=>iE (if r.length=0 then some 0 else none))) OD) OD af;refine ⟨x,_,R,_,rfl,B4.b.at_,T.cR,T.fU,lt1000 rfl,?_⟩;have B5:=B4.put (fs':=aX "ranks" (.ref G) (aX "going" (.ref I) (aX "lasts" (.ref C) [])));generalize upd (upd H4 G (.lst (g.rows.map λ r:cm=>iE (if r.length=0 then some 0 else none)))) x (.ins Ad.dZ R (aX "ranks" (.ref G) (aX "going" (.ref I) (aX "lasts" (.ref C) []))))=H6 at B5 |-;have Sq:=(B5.at_ _ aaZ).1;have lk:(g.rows.map λ r:cm=>iE (if r.length=0 then some 0 else none)).length=g.rows.length:=Ea ..;refine ⟨B5.b.at_,T.cR,T.fU,rfl,G,rfl,⟨_,aW.of Sq⟩,λ Y Iu=>?_⟩;refine kO (sq:=aW K) (a:=G) (xs:=g.rows.map λ r:cm=>iE (if r.length=0 then some 0 else none)) (λ i A f s=>A4 (aE H6 s) (s Y=some (.lst A)) (A=((List.range i).filter λ p=>g.rows[p]? == some []).map aq) (E2 λ v w=>f=[v,w])) ⟨ap Iu,af,rfl,none,none,rfl⟩ (λ i A f s Z ⟨e,_,_,_⟩=>aW.of (e _ _ Sq)) ?_ ?_
 .
  rintro i v p A f H7 F hp ⟨s7,XS,rfl,v0,w0,rfl⟩;have J:i<g.rows.length:=by rw [<- lk];exact (SV.mp F).1
  have t:=UY J;rw [aah,t] at F;obtain rfl:v=iE (if g.rows[i].length=0 then some 0 else none):=(abb F).symm;have s8:=ap (o:=.tup [aq i,iE (if g.rows[i].length=0 then some 0 else none)]) hp;refine ⟨cw.of af,rfl,rfl,?_⟩;have ad:=s8 _ _ XS;have Qi:=s7.trans s8;generalize upd H7 p (.tup [aq i,iE (if g.rows[i].length=0 then some 0 else none)])=H8 at ad Qi |-;have lf:(((List.range i).filter λ p=>g.rows[p]? == some []).map aq).length<=100000:=by
    rw [Ea];have:=ab0 (λ p=>g.rows[p]? == some []) (List.range i);rw [aaA] at this;have:=M.1;lia
  have rs:(List.range (i+1)).filter (λ p=>g.rows[p]? == some [])=(List.range i).filter (λ p=>g.rows[p]? == some [])++[i].filter (λ p=>g.rows[p]? == some []):=by
    rw [ab6,adg]
  by_cases X:g.rows[i].length=0
  .
   have e1:[i].filter (λ p=>g.rows[p]? == some [])=[i]:=by
     have:=aea.mp X;simp [t,this]
   rw [abp X];refine ⟨rfl,_,rfl,fH ⟨ad,abe lf (by decide),λ b u e=>?_,af,?_,_,_,rfl⟩⟩
   . rw [aw (ax e Iu)];exact Qi b u e
   . rw [rs,e1,aau];rfl
  .
   have e1:[i].filter (λ p=>g.rows[p]? == some [])=[]:=by
     have:g.rows[i]≠[]:=λ z=>X (by rw [z];rfl);simp [t,this]
   rw [abC X];refine ⟨rfl,_,rfl,dk ⟨Qi,ad,?_,_,_,rfl⟩⟩;rw [rs,e1,ac7]
 rintro A f H7 ⟨s7,XS,rfl,v0,w0,rfl⟩;rw [lk] at XS;have B6:=B5.more s7 Iu XS;refine ⟨x,_,R,_,rfl,B6.b.at_,T.cR,T.ip,lt1000 rfl,?_⟩;have B7:=B6.put (fs':=aX "queue" (.ref Y) (aX "ranks" (.ref G) (aX "going" (.ref I) (aX "lasts" (.ref C) []))));generalize upd H7 x (.ins Ad.dZ R (aX "queue" (.ref Y) (aX "ranks" (.ref G) (aX "going" (.ref I) (aX "lasts" (.ref C) [])))))=H8 at B7 |-;have R8:jo Ad.dZ H8 x C I G Y N (LI g.rows):=by
   refine DT.rk (K:=K) (dx:=R) (H:=H) ?_ (by rw [la];exact (Ea ..).symm);rw [show (LI g.rows).bQ.map iE=g.rows.map (λ r:cm=>iE (if r.length=0 then some 0 else none)) from ac5,show (LI g.rows).d7.map aq=g.rows.map (λ r:cm=>aq r.length) from ac5,show (LI g.rows).bU=bb from ao];exact B7
 have YX:=B7.YX (by rw [la,<- ao];exact (Ea ..).symm);have b8:=B7.fr;have t8:=B7.b.ts;clear B0 B1 B2 B3 B4 B5 B6 B7;have ae:∀ {s},iw [x] H s->s y=some (.ins Ad.dB dy (Xx pm po pr pd aG))/\s pr=some (.lst vr)/\bP K s (g.rows.map ue) vr:=λ b=>⟨b _ _ hy (by simp [ny]),b _ _ mS (by simp [nr]),bP.same ia _ (bP.zL hx rfl (λ c u e n Z=>b c u e (by simp [n])) dr)⟩
 obtain ⟨a9,aY,YS⟩:=ae b8;refine ⟨a9,T.cy,T.eG,rfl,pr,rfl,⟨_,aW.of aY⟩,?_⟩;refine vI (sq:=aW K) (xs:=vr) (λ i U s=>∃ S,A5 (iw [x] H s) (aZ K H s) (jo Ad.dZ s x C I G Y N S) (pi g.rows S i 0) (E4 λ (v2 v3 v4 v5:eU)=>U=[some (.ref x),some (.ref y),v2,v3,v4,v5])) ⟨_,b8,t8,R8,pi.zero _,none,none,none,none,rfl⟩ (λ i U s Z ⟨_,b,_,_,_,_⟩=>aW.of (ae b).2.1) ?_ ?_
 .
  rintro i v pp U H9 F mO ⟨S,b9,t9,R9,Xk,v2,v3,v4,v5,rfl⟩;have J:i<g.rows.length:=by rw [<- lv];exact (SV.mp F).1
  have t:=UY J;generalize g.rows[i]=r at t;have bd:=M.2 r (aae t);have rV:=ap (o:=.tup [aq i,v]) mO;refine ⟨cw.of af,rfl,rfl,?_⟩;have Lq:iw [x] H _:=λ c u e n=>rV c u (b9 c u e n);have N2:=t9.trans rV.ts;have al:=R9.same rV;generalize upd H9 pp (.tup [aq i,v])=FU at Lq N2 al |-;obtain ⟨v',ev,dv⟩:=dr.get (d:=ue r) (by rw [aah,t];rfl);rw [F] at ev;cases ev;obtain ⟨q,xs,rfl,hq,dq⟩:=dv;have lq:xs.length=r.length:=by rw [dq.length,Ea]
  have az:∀ {s},iw [x] H s->aW K s q xs:=λ b=>by
    have nx:∀ {u},H q=some u->nH u=false->q∉[x]:=λ e n z=>by
      rw [aac.mp z,hx] at e;cases e;cases n
    rcases hq with (e|⟨o,e⟩)|e
    . exact .inl (.inl (b _ _ (ia _ _ e) (nx (ia _ _ e) rfl)))
    . exact .inl (.inr ⟨o,b _ _ (ia _ _ e) (nx (ia _ _ e) rfl)⟩)
    . exact .inr e
  refine ⟨q,rfl,⟨_,az Lq⟩,?_⟩;refine vI (sq:=aW K) (xs:=xs) (λ n U s=>∃ S,A5 (iw [x] H s) (aZ K H s) (jo Ad.dZ s x C I G Y N S) (pi g.rows S i n) (E2 λ (v4 v5:eU)=>U=[some (.ref x),some (.ref y),some (aq i),some (.ref q),v4,v5])) ⟨_,Lq,N2,al,Xk,_,_,rfl⟩ (λ i U s Z ⟨_,b,_,_,_,_⟩=>az b) ?_ ?_
  .
   rintro n u XJ U AK hu Rx ⟨S1,Kd,Qu,UW,O,w4,w5,rfl⟩;have hn:n<r.length:=by rw [<- lq];exact (SV.mp hu).1
   have ec:=UY hn;generalize r[n]=vv at ec;obtain ⟨u',eu,du⟩:=dq.get (d:=wP vv) (by rw [aah,ec];rfl);rw [hu] at eu;cases eu;have zK:=ap (o:=.tup [aq n,u]) Rx;refine ⟨cw.of af,rfl,rfl,?_⟩;have OJ:iw [x] H _:=λ c z e m=>zK c z (Kd c z e m);have aj:=Qu.trans zK.ts;have SM:=UW.same zK;generalize upd AK XJ (.tup [aq n,u])=ZW at OJ aj SM |-;cases vv with
   | some js =>
     obtain ⟨q2,ys,rfl,Z,Z⟩:=du;exact ⟨rfl,_,rfl,dk ⟨S1,OJ,aj,SM,O.skip t ec,_,_,rfl⟩⟩
   | none =>
     obtain rfl:u = .cN:=du;have yt:i<S1.bU.length:=by rw [O.ok.ll];exact J
     have o7:i<S1.d7.length:=by rw [O.ok.lg];exact J
     have el:=UY yt;have eg:=UY o7;generalize S1.bU[i]=l at el;generalize S1.d7[i]=m at eg;have hc:n<l.length:=by rw [O.ok.sh i l r el t];exact hn
     have Ie:=O.un i l n el hc (.inr ⟨rfl,aaE _⟩);have en:=O.ok.go i _ _ el eg;have n0:m≠0:=λ z=>by
       rw [z] at en;exact aeb.mp en.symm _ (aae Ie) rfl
     obtain ⟨MY,vB⟩:=SM.ins;refine ⟨rfl,_,rfl,fH ⟨vB,rfl,x,C,I,G,Y,N,S1,i,n,0,m,l,rfl,SM,el,hc,eg,n0,by rw [O.ok.lk];exact J,aaX O.ok.ql (aaX M.1 (by decide)),λ V6 an aI=>?_⟩⟩;refine ⟨_,λ c z e mx=>an c z (OJ c z e mx) λ y=>?_,aj.trans (FT SM.wK an),aI,O.step t ec el eg,_,_,rfl⟩;rw [YX c y] at e;cases e
  . rintro U AK ⟨S1,Kd,Qu,UW,O,w4,w5,rfl⟩;rw [lq] at O;exact ⟨S1,Kd,Qu,UW,O.next t,_,_,_,_,rfl⟩
 .
  rintro U H9 ⟨S,b9,t9,R9,Xk,v2,v3,v4,v5,rfl⟩;rw [lv] at Xk;obtain ⟨bc,a7⟩:=R9.ins;obtain ⟨ba,a2,a6⟩:=ae b9;refine ⟨a7,rfl,ba,T.cy,T.eG,rfl,pr,vr,g.rows,rfl,a2,a6,M.1,M.2,λ pa as ah FU E8 Xo=>?_⟩;refine ⟨x,C,I,G,Y,N,S,pa,ah,g.rows,rfl,R9.same E8.sm,Xk.ok,Xk.done,E8.at R9,Xo,M.1,λ AK S' a4 Kd UW EK a3 Ze=>?_⟩;exact k C I G Y N S' a4 AK (λ c z e mx=>Kd c z (E8.sm c z (b9 c z e mx)) λ y=>by rw [YX c y] at e;cases e) ((t9.trans E8.sm.ts).trans (FT (R9.same E8.sm).wK Kd)) UW EK a3 Ze
set_option maxHeartbeats 0 in
theorem Cw (T:Txt K mg Ad):WT P w K mg base "ranks_of" lS (.ref Ad.pZ) 13 ["hold","states","limit"] (Ba P w K Ad.aY):=by
 refine T.Da.dok uc (λ vs H Q E h=>?_) (λ f Z Z Z s H vs Q E J h=>?_)
 . obtain ⟨a,q,L,fp,m,xs,l,rfl,Z⟩:=h;rfl
 .
  obtain ⟨a,q,L,fp,m,xs,l,rfl,hh,gh,F,l2,rl,hq,AH,Sg,k⟩:=h;refine ⟨_,(ag (dD (i:=3) uc.nd (rG T.Nv (qW (P:=P) (w:=w) T) .nil J.m T.Pl (aa (pv 0) (aa (pv 1) (aa (pv 2) ac)))))
    (ar (aO (Eg (P:=P) (w:=w) (K:=K) rfl rfl rfl J.u70 rfl (aa (aU (pv 3) rfl) (aa (aU (rG T.Kb (qj (P:=P) (w:=w) T) .nil J.m T.NA (aa (pv 3) ac)) rfl) ac)) rfl T.J5 rfl T.Ot)))),?_⟩
  try dsimp only [kA,cz]
  refine (λ y D j v n=>?_);have c:aE H (upd (upd H D (.own y)) y (.ins Ad.dB D [])):=(ap v).trans (ap (by first|(rw [aw n];exact j)|(rw [aw n.symm];exact j)));have W:(upd (upd H D (.own y)) y (.ins Ad.dB D [])) y=some (.ins Ad.dB D []):=af;generalize upd (upd H D (.own y)) y (.ins Ad.dB D [])=H1 at c W |-;refine ⟨y,D,a,q,L,fp,m,xs,l,rfl,W,hh.same c,λ z=>?_,gh,F,l2,c _ _ hq,AH.imp (λ Z Z z=>z.same c),Sg,λ pm po pr pd g H2 b2 t2 fr B ok lo U C3 Z=>⟨rfl,?_⟩⟩
  . obtain ⟨u,hu⟩:=hh.some y z;rw [j] at hu;cases hu
  have s2:aE H H2:=λ b u e=>b2 b u (c b u e) (by simp only [aac];exact ax e j);obtain ⟨ae,O⟩:=B.ins;have lm:g.met.length<=2000:=by
    have:=F g.met ok.nd ok.st;lia
  have hb:=ok.Q9 gh rl U lm;refine ⟨O,T.cy,T.fW,rfl,λ x d M kZ n2=>?_⟩;have V:aE H2 (upd (upd H2 d (.own x)) x (.ins Ad.dZ d [])):=(ap kZ).trans (ap (by first|(rw [aw n2];exact M)|(rw [aw n2.symm];exact M)));have X:(upd (upd H2 d (.own x)) x (.ins Ad.dZ d [])) x=some (.ins Ad.dZ d []):=af;generalize upd (upd H2 d (.own x)) x (.ins Ad.dZ d [])=H3 at V X |-;refine ⟨x,d,y,pm,po,pr,pd,L,g,rfl,X,B.same V,hb,λ pl pg pk pq qs S ab H4 b4 t4 hk rk nd gd=>⟨rfl,?_⟩⟩;have s4:aE H2 H4:=λ b u e=>b4 b u (V b u e) (by simp only [aac];exact ax e M);obtain ⟨ad,ZX⟩:=hk.ins;obtain ⟨vm,iC,Ly⟩:=(B.same s4).met;have lk:S.bQ.length=g.met.length:=by rw [rk.lk,U]
  obtain ⟨A,e1,Y,r,e4⟩:=QS Ly lk;have N:(A.map (·.1)).Nodup:=by
    rw [r];exact List.Pairwise.map o5 (λ a b h z=>h (za z)) ok.nd
  have R:A.length=g.met.length:=by rw [<- Ea (·.1),r,Ea]
  refine ⟨ZX,T.cR,T.fU,rfl,pm,pk,A,rfl,by rw [<- e1];exact aW.of iC,by rw [<- Y];exact aW.of hk.Vg,N,e4,aaX (show _<=2000 by lia) (by decide),λ p hp=>?_⟩;have s5:=ap (o:=og P w p A) hp;refine k p A _ ((s2.trans s4).trans s5) ⟨af,λ e he=>(e4 e he).ts s5.ts⟩ λ st iy=>?_;obtain ⟨i,C,ei⟩:=acP.mp (C3 st iy);have G:i<A.length:=by rw [R];exact C
  have I:i<S.bQ.length:=by rw [lk];exact C
  have t:=UY G;have er:=UY I;have em:g.met[i]?=some st:=by rw [UY C,ei]
  have k1:(A.map (·.1))[i]?=some A[i].1:=by rw [aah,t];rfl
  rw [r,aah,em] at k1;have k2:(A.map (λ e=>e.2.2))[i]?=some A[i].2.2:=by rw [aah,t];rfl
  rw [<- Y,aah,er] at k2;refine ⟨S.bQ[i],?_,rk.rank nd gd ok U em er⟩;rw [show o5 st=A[i].1 from abb k1,EW N t];exact k2.symm
theorem gC (T:Txt K mg Ad):Kk P w K mg base "ranks_of" 13 ["hold","states","limit"] [.int 2000] (Ba P w K Ad.aY) :=
 (Cw T).Rg T.Dr λ i H=>by
   obtain ⟨u,e,r⟩:=vals1 H;obtain rfl:i=#[u]:=by
     obtain ⟨l⟩:=i;exact acJ _ e
   exact ⟨[u],.cons r .nil,λ Z Z Z Z Z Z U h=>by obtain ⟨a,b,rfl⟩:∃ a b,U=[a,b]:=FH (by simpa using h:U.length=2) λ a b=>⟨a,b,rfl⟩;exact ⟨_,rfl,rfl⟩⟩
theorem kE (T:Txt K mg Ad):Def P w K mg base "takes_or_gives" 6 ["hold","one","other"] (LX K Ad.aY):=by
 refine T.tI.cW rB λ Z Z Z Z Z H F Q E c h=>?_;obtain ⟨a,f,m,i,j,rfl,d,g,l,k⟩:=h;refine ⟨_,(ar (aO (Lc (au (j8 T) c.m (aa (gH (v:=V.ref _) rfl T.iu rfl) (aa (aM (pv 0) T.az (gc T) .nil c.m (aa (pv 1) (aa (pv 2) ac))) ac))) (mm (au (j8 T) c.m (aa (gH (v:=V.ref _) rfl T.iu rfl) (aa (aM (pv 0) T.az (gc T) .nil c.m (aa (pv 2) (aa (pv 1) ac))) ac))))))),?_⟩;obtain ⟨⟨I,M,L,N,R,vm,F,vt,G,J,e,Z⟩,U,W,q,n⟩:=id d;have o:=tu n q i j;have O:=tu n q j i;refine ⟨e,rfl,a,f,m,i,j,rfl,d,g,l,λ X p s D=>?_⟩;obtain ⟨A,rfl,Y⟩:=D.fr;refine ⟨Ad.jT,A,_,_,_,_,rfl,T.kj.at _,Y,mN,mN,o.t.mono (by decide),o.b.mono (by decide),_,rfl,?_⟩;have x:decide (0 * (m.share i j).2<(m.share i j).1 * 1)=decide (0<(m.share i j).1):=afb.mpr (by lia);unfold iz at k;rw [x];cases C:decide (0<(m.share i j).1) with
 | true =>
   rw [C] at k;exact fH (k p s)
 | false =>
   rw [C] at k;refine dk ⟨s _ _ e,rfl,a,f,m,j,i,rfl,d.same s,l,g,λ v2 r S u=>?_⟩;obtain ⟨B,rfl,z⟩:=u.fr;refine ⟨Ad.jT,B,_,_,_,_,rfl,T.kj.at _,z,mN,mN,O.t.mono (by decide),O.b.mono (by decide),?_⟩;have y:decide (0 * (m.share j i).2<(m.share j i).1 * 1)=decide (0<(m.share j i).1):=afb.mpr (by lia);rw [y];exact k r (s.trans S)
theorem Gv (l:aH):(l.map aq).all px=true:=by
 rw [acj];intro x h;obtain ⟨n,Z,rfl⟩:=abv.mp h;rfl
theorem Nc (o:Nat) (l:aH):Lf (aq o) (l.map aq)=decide (o∈l):=by
 unfold Lf;induction l with
 | nil=>simp
 | cons x l i =>
   rw [ab8,aeD,i];show ((x == (o:Int)) || decide (o∈l))=_;rw [adC];simp only [Bool.or_eq_true,afM,acG,aay];have:((x:Int)=o)↔o=x:=by lia
   rw [this]
theorem yH (f:Nat->Bool) (i:Nat):(List.range (i+1)).filter f=(List.range i).filter f++(if f i=true then [i] else []):=by
 rw [ab6];by_cases z:f i=true
 . simp [z]
 . simp [z]
theorem JA {a:Type} (f:a->Bool) {l:List a} {i:Nat} {x:a} (h:l[i]?=some x):(l.take (i+1)).any f=((l.take i).any f || f x):=by
 rw [acI,h];simp
theorem oA {l:aH} {i:Nat} {x:V} (h:(l.map aq)[i]?=some x):∃ r,l[i]?=some r/\aq r=x:=by
 simp_all
theorem qk (T:Txt K mg Ad):Def P w K mg base "look_for_others" 7 ["hold","rooms"] (My K Ad.aY):=by
 refine T.rJ.cW gO λ Z Z Z Z Z H vs Q E Y h=>?_;obtain ⟨a,M,m,p,R,rfl,B,C,CQ,F,kt⟩:=h;refine ⟨_,(ag (mQ (yi:=2) ["other"] ["rooms"] [1] (.cons ⟨rfl,rfl,.inl rfl⟩ .nil) rfl (bY rfl T.c9 (aa (eC (pv 0) T.az (cu T) .nil Y.m) ac)) (λ Z Z Z Z Z=>(ky (i:=0))) (λ Z Z Z Z Z=>(gJ (aP (xI (K:=K) rfl) (pv 0) (pv 1) (by with_unfolding_all rfl)))) (λ Z Z Z Z Z=>(pv 0)) gO.nd (lc rfl))
     (ar (cA aa7 rfl (bw (pv 1)) (fR (i:=3) gO.nd) (ar (bA (cP (aT (yy rfl) (by rfl) T.Oa JS (aa (ft ["other"] ["hold","room"] [0,3] (.cons ⟨rfl,rfl,.inl rfl⟩ (.cons ⟨rfl,rfl,.inl rfl⟩ .nil)) rfl (bw (pv 2)) (λ Z Z Z Z Z=>(ky (i:=0))) (λ Z Z Z Z Z=>cB) (λ Z Z Z Z Z=>(au (kE T) Y.m (aa (pv 1) (aa (pv 2) (aa (pv 0) ac)))))) ac))) (ar cH) aR))))),?_⟩
 try dsimp only [kA,cz]
 obtain ⟨⟨dx,pm,pf,ps,pt,vm,vs,vt,aG,pB,ha,Z⟩,q1,q2,q3,q4⟩:=id B;refine ⟨ha,rfl,a,M,m,rfl,B,_,rfl,by lia,by lia,λ D W=>dX (lo:=0) (n:=m.rows.length) (λ i A U b=>A4 (aE H b) (b D=some (.lst A)) (A=(((List.range i).filter λ o => !decide (o∈R)).map aq)) (∃ v,U=[v,some (.ref p)])) ⟨ap W,af,rfl,none,rfl⟩ ?_ ?_⟩
 .
  rintro i A U b hi ⟨s,k,rfl,v,rfl⟩;have lf:=ab0 (λ o => !decide (o∈R)) (List.range i);rw [aaA] at lf;refine ⟨p,_,rfl,.inl (s.seq C),rfl,Gv R,_,rfl,?_⟩;have e:(if true=true then !Lf (V.int (0+(i:Int))) (R.map aq) else Lf (V.int (0+(i:Int))) (R.map aq)) = !decide (i∈R):=by
    rw [abp rfl,abL];exact acJ _ (Nc i R)
  rw [e];have d:=yH (λ o => !decide (o∈R)) i;by_cases z:(!decide (i∈R))=true
  . rw [z];refine fH ⟨k,aS (by rw [Ea];lia),s.put W,af,?_,_,rfl⟩;rw [d,abp z,aau,abL];rfl
  . rw [af3] at z;rw [z];refine dk ⟨s,k,?_,_,rfl⟩;rw [d,z];simp
 rintro A U J ⟨s,k,rfl,v,rfl⟩;have k:J D=some (.lst ((ib m.rows.length R).map aq)):=k;have g:∀ o∈ib m.rows.length R,o<m.rows.length:=λ o ho=>aaK.mp (abT.mp ho).1;have L:(ib m.rows.length R).length<=4:=by
   have:=ab0 (λ o => !decide (o∈R)) (List.range m.rows.length);rw [aaA] at this;exact aaX this q3
 unfold wN at F;generalize ib m.rows.length R=O at k g L F;refine ⟨⟨_,s.seq C⟩,eA (xs:=R.map aq) (λ i U b=>A3 (aE J b) (((R.take i).any λ r=>O.any λ o=>iz m r o)=false) (∃ X,U=[some (.ref a),some (.ref p),some (.ref D),X])) ⟨aE.refl _,rfl,none,rfl⟩ (λ i U b Z e=>(s.trans e.1).seq C) ?_ ?_⟩
 .
  rintro Z i x U b hx ⟨S,q,X,rfl⟩;obtain ⟨r,d,rfl⟩:=oA hx;refine ⟨⟨_,aW.of (S _ _ k)⟩,λ I N=>?_⟩;refine cf (K:=K) (a:=D) (xs:=O.map aq) (λ j A U f=>A4 (aE b f) (f I=some (.lst A)) (A=((O.take j).map λ o=>iz m r o).map V.bl) (∃ v,U=[v,some (.ref a),some (aq r)]))
    ⟨ap N,af,rfl,none,rfl⟩ (λ j A U f Z e=>aW.of (e.1 _ _ (S _ _ k))) ?_ ?_
  .
   rintro j y A U f hy ⟨l,G,rfl,v,rfl⟩;obtain ⟨o,u,rfl⟩:=oA hy;have Vm:=(SV.mp u).1;have S3:=(s.trans S).trans l;refine ⟨a,M,m,r,o,rfl,B.same S3,CQ.lt r (aae d),g o (aae u),λ H4 s4=>⟨s4 _ _ G,aS (by rw [Ea,Ea,aby];lia),(l.trans s4).put N,af,?_,_,rfl⟩⟩;rw [acI,u,aau,aau];rfl
  .
   rintro A U f ⟨l,G,rfl,v,rfl⟩;rw [Ea,aa4] at G;refine ⟨I,_,rfl,aW.of G,_,rfl,?_⟩;have e:((O.map λ o=>iz m r o).any id)=O.any λ o=>iz m r o:=by rw [List.any_map];rfl
   rw [e];have t:=JA (λ r=>O.any λ o=>iz m r o) d;rw [q,Bool.false_or] at t;cases c:(O.any λ o=>iz m r o) with
   | true =>
     exact absurd (F.symm.trans (adF.mpr ⟨r,aae d,c⟩)) nofun
   | false =>
     rw [c] at t;exact dk ⟨S.trans l,t,_,rfl⟩
 . rintro U b ⟨S,q,X,rfl⟩;rw [Ea,aa4] at q;exact kt b (s.trans S)
structure ze (m:am) (rs:aH) (k j:Nat) (o:am):Prop where
 most:o.most=m.most
 eO:o.eO=m.eO
 load:o.load=m.load
 rows:o.rows=rs.map (rowAt m)
 sk:∀ i,i<rs.length->o.bf[i]?=some (if i<k then pF m (rs.getD i 0) else ((0,1),(0,1),(0,1)))
 st:∀ i,i<rs.length->o.aI[i]?=some (if i<k then iY m (rs.getD i 0) else none)
 fl:∀ a b:Nat,o.cG a b=if (a<k/\a<rs.length/\b<rs.length/\a≠b)\/(a=k/\b<j/\b≠k) then m.cG (rs.getD a 0) (rs.getD b 0) else (0,1)
theorem M6 {l:aH} {i r:Nat} (h:l[i]?=some r):l.getD i 0=r:=by rw [YQ,h];rfl
theorem Ep {l:aH} {i:Nat} (h:i<l.length):l[i]?=some (l.getD i 0):=by simp_all
theorem N6 {l:aH} (h:l.Nodup) {i j:Nat} (H:i<l.length) (b:j<l.length) (n:i≠j):l.getD i 0≠l.getD j 0:=λ z=>by
 have a:=Ep H;rw [z,<- (Ep b)] at a;exact n ((List.getElem?_inj H h).mp a)
theorem Kx {a b:Nat} (h:aq a=aq b):a=b:=by have:=kH.mp h;lia
theorem ze.cG {m o:am} {r:aH} {k j:Nat} (h:ze m r k j o) (O:j≠k):ze m r k (j+1) (o.cK k j (m.cG (r.getD k 0) (r.getD j 0))):=by
 refine ⟨h.most,h.eO,h.load,h.rows,h.sk,h.st,λ a b=>?_⟩;rw [io];by_cases e:a=k/\b=j
 . simp_all
 .
  rw [abC e,h.fl];by_cases c:(a<k/\a<r.length/\b<r.length/\a≠b)\/(a=k/\b<j/\b≠k)
  . rw [abp c,abp (c.imp_right λ z=>⟨z.1,by lia,z.2.2⟩)]
  . rw [abC c,abC (λ z=>c (z.imp_right λ y=>⟨y.1,by
      lia,y.2.2⟩))]
theorem ze.skip {m o:am} {r:aH} {k:Nat} (h:ze m r k k o):ze m r k (k+1) o:=by
 refine ⟨h.most,h.eO,h.load,h.rows,h.sk,h.st,λ a b=>?_⟩;rw [h.fl];by_cases c:(a<k/\a<r.length/\b<r.length/\a≠b)\/(a=k/\b<k/\b≠k)
 . rw [abp c,abp (c.imp_right λ z=>⟨z.1,by lia,z.2.2⟩)]
 . rw [abC c,abC (λ z=>c (z.imp_right λ y=>⟨y.1,by lia,y.2.2⟩))]
theorem ze.done {m o:am} {r:aH} {k:Nat} {z:bZ×bZ×bZ} (h:ze m r k r.length o) (q:k<r.length) (v:z=pF m (r.getD k 0)) (L:k<o.bf.length) (w:k<o.aI.length) :
   (iY m (r.getD k 0)=none->oB m r (k+1) (o.cX k z))/\(∀ y,iY m (r.getD k 0)=some y->oB m r (k+1) ((o.cX k z).bD k y)):=by
 have f:∀ a b:Nat,o.cG a b=if a<k+1/\a<r.length/\b<r.length/\a≠b then m.cG (r.getD a 0) (r.getD b 0) else (0,1):=λ a b=>by
   rw [h.fl];by_cases c:a<k+1/\a<r.length/\b<r.length/\a≠b
   . rw [abp c,abp (by
       obtain ⟨p,g,C,j⟩:=c;by_cases e:a=k
       . exact .inr ⟨e,C,by lia⟩
       . exact .inl ⟨by lia,g,C,j⟩)]
   . rw [abC c,abC (λ y=>c (by
       rcases y with ⟨l,Y,d,n⟩|⟨l,Y,d⟩
       . exact ⟨by lia,Y,d,n⟩
       . exact ⟨by lia,by lia,Y,by lia⟩))]
 have s:∀ i,i<r.length->(o.bf.set k z)[i]?=some (if i<k+1 then pF m (r.getD i 0) else ((0,1),(0,1),(0,1))):=λ i H=>by
   by_cases e:i=k
   . simp_all
   . rw [adt (aeg e),h.sk i H];by_cases c:i<k
     . rw [abp c,abp (by lia)]
     . rw [abC c,abC (by lia)]
 refine ⟨λ t=>⟨h.most,h.eO,h.load,h.rows,s,λ i H=>?_,f⟩,λ y u=>⟨h.most,h.eO,h.load,h.rows,s,λ i H=>?_,f⟩⟩
 .
  show o.aI[i]?=_;rw [h.st i H];by_cases e:i=k
  . simp_all
  . by_cases c:i<k
    . rw [abp c,abp (by lia)]
    . rw [abC c,abC (by lia)]
 .
  show (o.aI.set k (some y))[i]?=_;by_cases e:i=k
  . simp_all
  . rw [adt (aeg e),h.st i H];by_cases c:i<k
    . rw [abp c,abp (by lia)]
    . rw [abC c,abC (by lia)]
theorem Am (T:Txt K mg Ad):Def P w K mg base "put_alike" 7 ["only","place","hold","rooms"] (IN K Ad.aY):=by
 refine T.Cv.cW cO λ Z Z Z Z Z H vs Q E l h=>?_;obtain ⟨H0,D,I,F,k,C,W,M,p,R,rfl,S0,ho,hF,V,Lu,G,hk,qo,qh,pk,t,kk⟩:=h;refine ⟨_,(ag (dD (i:=4) cO.nd (aJ aC (pv 3) (pv 1)))
     (ag (cA aa7 rfl (nZ rfl T.dg (aa (pv 3) ac)) (cL (K:=K) (n:=2) rfl rfl (aL (fR (i:=5) cO.nd) (aL (fR (i:=6) cO.nd) cJ))) (ar (bA (aP pE (pv 6) (pv 4) (aQ _)) (ar (aV (aM (pv 0) T.az (ii T) .nil l.m (aa (pv 1) (aa (pv 5) (aa (aM (pv 2) T.az (gc T) .nil l.m (aa (pv 4) (aa (pv 6) ac))) ac)))))) aR)))
     (ag (gL (aM (pv 2) T.az (jN T) .nil l.m (aa (pv 4) ac)) (cL (K:=K) (n:=3) rfl rfl (aL (fR (i:=7) cO.nd) (aL (fR (i:=8) cO.nd) (aL (fR (i:=9) cO.nd) cJ)))))
     (ag (aV (aM (pv 0) T.az (iM T) .nil l.m (aa (pv 1) (aa (pv 7) (aa (pv 8) (aa (pv 9) ac))))))
     (ar (bA (aP gw (aM (pv 2) T.az (cE T) .nil l.m (aa (pv 4) ac)) cM (aQ _)) (ag (gL (aM (pv 2) T.az (cE T) .nil l.m (aa (pv 4) ac)) (cL (K:=K) (n:=4) rfl rfl (aL (fR (i:=10) cO.nd) (aL (fR (i:=11) cO.nd) (aL (fR (i:=12) cO.nd) (aL (fR (i:=13) cO.nd) cJ))))))
     (ar (aV (qV (pv 0) T.az (eI T) l.m (aa (pv 1) (aa (pv 10) (aa (pv 11) (aa (pv 12) (aa (pv 13) ac))))))))) aR)))))),?_⟩
 try dsimp only [kA,cz]
 first|(refine nA ?_;intro Z Z Z Z Z Z)|skip
 obtain ⟨⟨an,Z,Z,Z,Z,Z,Z,Z,Z,Z,N,Z⟩,EF,yn,aG,Zn⟩:=id V;have gk:=Ep hk;have g:=G.lt _ (aae gk);refine ⟨.inl (S0.seq Lu),ir (by rw [aah,gk];rfl),?_⟩;refine ⟨p,rfl,⟨_,S0.seq Lu⟩,?_⟩;refine vI (xs:=R.map aq) (λ j U A=>A3 (aE H0 A) (E2 λ I F=>A4 (aN K Ad.aY A D I F) (∀ b∈I,H0 b=none) (QH F) (ze M R k j F)) (E2 λ x5 x6=>U=[some (.ref D),some (aq k),some (.ref C),some (.ref p),some (aq (R.getD k 0)),x5,x6,none,none,none,none,none,none,none]))
   ⟨S0,⟨I,F,ho,hF,qo,⟨t.most,t.eO,t.load,t.rows,t.sk,t.st,λ a b=>?_⟩⟩,none,none,rfl⟩ (λ j U A Z e=>e.1.seq Lu) ?_ ?_
 .
  rw [t.fl];by_cases c:a<k/\a<R.length/\b<R.length/\a≠b
  . rw [abp c,abp (.inl c)]
  . rw [abC c,abC (λ z=>z.elim c λ y=>absurd y.2.1 (acl b))]
 .
  rintro j x pp U A hx mO ⟨B,⟨uB,d,h1,L,u,s⟩,x5,x6,rfl⟩;obtain ⟨r,er,rfl⟩:=oA hx;have Vm:j<R.length:=(SV.mp er).1;have Y:=M6 er;have sp:=ap (o:=.tup [aq j,aq r]) mO;have S:=B.trans sp;refine ⟨cw.of af,rfl,rfl,?_⟩;generalize upd A pp (.tup [aq j,aq r])=H2 at sp S |-;have h2:=h1.same sp;refine ⟨rfl,_,rfl,xK (λ ne=>?_) (λ eq=>?_)⟩
  .
   have O:j≠k:=λ z=>ne (by rw [<- Y,z]);obtain ⟨⟨Up,Z,Z,Z,Z,Z,Z,Z,Z,Z,Jd,Z⟩,o1,o2,o3,o4⟩:=id h2;have lo:d.rows.length=R.length:=by rw [s.rows,Ea]
   refine ⟨Jd,rfl,S _ _ N,rfl,C,W,M,_,r,rfl,V.same S,g,G.lt _ (aae er),λ v H3 s3 dv=>?_⟩;have aj:R.getD k 0≠r:=by rw [<- Y];exact N6 G.nd hk Vm (aeg O)
   rw [am.share,abC aj] at dv;have qf:=qh.cG (R.getD k 0) r;have Gb:=Zn.cG (R.getD k 0) r;refine ⟨D,uB,d,k,j,v,_,rfl,h2.same s3,by lia,by lia,aeg O,dv,Gb,(CA Gb.p).mp qf.1,u.wO o4 o3 (by lia) (by lia) (aeg O) Gb.p qf.2,λ H4 xh D4=>?_⟩;obtain ⟨S4,F4⟩:=D4.keep (S.trans s3) L;refine ⟨S4,⟨xh,_,D4.at_,F4,u.cK (aeg O) qf,?_⟩,_,_,rfl⟩;have:=s.cG O;rw [Y] at this;exact this
  .
   have O:j=k:=by
     refine adj λ z=>?_;exact N6 G.nd Vm hk z (Y.trans (Kx eq))
   subst O;exact ⟨S,⟨uB,d,h2,L,u,s.skip⟩,_,_,rfl⟩
 .
  rintro U H1 ⟨B,⟨uB,d,h1,L,u,s⟩,x5,x6,rfl⟩;rw [Ea] at s;have Rn:R.getD k 0<M.bf.length:=by rw [EF];exact g
  have V8:R.getD k 0<M.aI.length:=by rw [yn];exact g
  have gs:=aK Rn;have gt:=aK V8;have Jh:pF M (R.getD k 0)=M.bf[R.getD k 0]:=by unfold pF;rw [gs];rfl
  have ad:iY M (R.getD k 0)=M.aI[R.getD k 0]:=by unfold iY;rw [gt];rfl
  have eS:M.dU (R.getD k 0)=M.bf[R.getD k 0].1:=by unfold am.dU;rw [gs];rfl
  obtain ⟨⟨Up,Z,Z,Z,Z,Z,Z,Z,Z,Z,Jd,Z⟩,o1,o2,o3,o4⟩:=id h1;have lo:d.rows.length=R.length:=by rw [s.rows,Ea]
  refine ⟨B _ _ N,rfl,C,W,M,_,_,rfl,V.same B,gs,λ v dv=>?_⟩;obtain ⟨p0,v1,v2,v3,rfl,BW,d1,d2,d3⟩:=dv.mX;obtain ⟨k1,k2,k3⟩:=Zn.bf _ (aaH Rn);have qs:=qh.mX (R.getD k 0);rw [eS] at qs;refine ⟨BW,rfl,rfl,⟨Jd,rfl,D,uB,d,k,v1,v2,v3,_,_,_,rfl,h1,by lia,d1,d2,d3,k1,k2,k3,pk.mX _ (aaH Rn),(CA k1.p).mp qs.1,u.zJ o4 o3 (by lia) k1.p qs.2,λ H2 EO J=>?_⟩⟩;obtain ⟨S,F2⟩:=J.keep B L;have f:=s.done hk (by rw [Jh]) (by lia) (by lia);rw [ad] at f;have q2:QH (d.cX k (M.bf[R.getD k 0].1,M.bf[R.getD k 0].2.1,M.bf[R.getD k 0].2.2)):=u.cX (by lia) qs;refine ⟨S _ _ N,rfl,C,W,M,_,_,rfl,V.same S,gt,λ v5 X=>⟨rfl,_,rfl,?_⟩⟩;cases iy:M.aI[R.getD k 0] with
  | none =>
    rw [iy] at X f;subst X;exact fS rfl (kk H2 EO _ S J.at_ F2 q2 (f.1 rfl))
  | some z =>
    rw [iy] at X f;obtain ⟨pz,ws,rfl,CS,Z⟩:=id X;refine xK (λ Z=>⟨S _ _ N,rfl,C,W,M,_,_,rfl,V.same S,gt,λ v6 d6=>?_⟩) (λ q=>nomatch q);rw [iy] at d6;obtain ⟨p6,w6,rfl,ae,t1,r1,rfl,g1,t2,r2,rfl,g2,t3,r3,rfl,g3,t4,r4,rfl,g4,g5⟩:=d6;subst g2 g3 g4 g5;have VZ:some z∈M.aI:=by rw [<- iy];exact aaH V8
    obtain ⟨z0,z1,z2,z3⟩:=pk.bE z VZ;obtain ⟨⟨al,Z,Z,Z,Z,Z,Z,Z,Z,Z,ab,Z⟩,Z⟩:=id J.at_;refine ⟨ae,rfl,rfl,⟨ab,rfl,D,EO,_,k,t1,z.1,z.2.1,z.2.2.1,z.2.2.2,rfl,J.at_,by show k<d.rows.length;lia,g1,Zn.aI z VZ,z0,z1,z2,z3,λ H3 Ju D3=>?_⟩⟩;obtain ⟨S3,F3⟩:=D3.keep S F2;exact kk H3 Ju _ S3 D3.at_ F3 q2.bD (f.2 z rfl)
structure Gz (m:am) (rs:aH) (i:Nat) (o:am):Prop where
 most:o.most=m.most
 eO:o.eO=m.eO
 load:o.load=m.load
 rows:o.rows=(rs.take i).map (rowAt m)
 sk:o.bf=List.replicate i ((0,1),(0,1),(0,1))
 st:o.aI=List.replicate i none
 fl:o.de=λ _ _=>none
theorem Gz.next {m o:am} {R:aH} {i r:Nat} (h:Gz m R i o) (H:R[i]?=some r):Gz m R (i+1) (o.c8 (rowAt m r)):=by
 refine ⟨h.most,h.eO,h.load,?_,?_,?_,h.fl⟩
 . show o.rows++[rowAt m r]=_;rw [h.rows,acI,H,aau];rfl
 . show o.bf++[_]=_;rw [h.sk,aen]
 . show o.aI++[none]=_;rw [h.st,aen]
theorem Gz.only {m o:am} {r:aH} (h:Gz m r r.length o):oB m r 0 o:=by
 refine ⟨h.most,h.eO,h.load,by rw [h.rows,aa4],λ k H=>?_,λ k H=>?_,λ a b=>?_⟩
 . rw [h.sk,abC (acl k),aeB,abp H]
 . rw [h.st,abC (acl k),aeB,abp H]
 . unfold am.cG;rw [h.fl];rfl
theorem pK (T:Txt K mg Ad):Def P w K mg base "only_rooms" 8 ["hold","rooms"] (K7 K Ad.aY):=by
 refine T.Al.cW gE λ Z Z Z Z Z H vs Q E s h=>?_;obtain ⟨a,L,m,p,R,rfl,O,qh,u,W,V,C,kc,kf⟩:=h;refine ⟨_,(ag (cA aa7 rfl (bw (pv 1)) (fR (i:=2) gE.nd) (ar (aV (aM (pv 0) T.az (bT T) .nil s.m (aa (pv 2) ac)))))
     (ag (aV (au (qk T) s.m (aa (pv 0) (aa (pv 1) ac))))
     (ag (dD (i:=3) gE.nd (rp T.uX (eW T) s.m T.As (aa (aU (pv 0) rfl) (aa (aU (pv 0) rfl) (aa (aU (pv 0) rfl) ac)))))
     (ag (cA aa7 rfl (bw (pv 1)) (fR (i:=2) gE.nd) (ar (aV (aM (pv 3) T.az (iq T) .nil s.m (aa (aM (pv 0) T.az (fm T) .nil s.m (aa (pv 2) ac)) ac)))))
     (ag (cA aa7 rfl (bY rfl T.c9 (aa (aT bv (by rfl) T.fc cZ (aa (pv 1) ac)) ac)) (fR (i:=4) gE.nd) (ar (aV (au (Am T) s.m (aa (pv 3) (aa (pv 4) (aa (pv 0) (aa (pv 1) ac))))))))
     (ar (aO (pv 3)))))))),?_⟩
 try dsimp only [kA,cz]
 first|(refine nX ?_;intro Z Z Z Z Z Z Z)|skip
 obtain ⟨⟨dx,pm,pf,ps,pt,vm,vs,vt,aG,pB,ha,Z⟩,q1,q2,q3,B⟩:=id O;refine ⟨⟨_,V⟩,?_⟩;refine eA (xs:=R.map aq) (λ i U d=>d=H/\∃ X,U=[some (.ref a),some (.ref p),X,none,none]) ⟨rfl,none,rfl⟩ (λ i U d Z e=>by rw [e.1];exact V) ?_ ?_
 . rintro Z i x U d f ⟨rfl,X,rfl⟩;obtain ⟨r,z,rfl⟩:=oA f;exact ⟨ha,rfl,a,L,m,r,rfl,O,C.lt r (aae z),rfl,_,rfl⟩
 rintro U d ⟨rfl,X,rfl⟩;refine ⟨a,L,m,p,R,rfl,O,V,C,kc,λ j D=>?_⟩;have aj:R.length<=4:=aaX C.len q3;have I:=D _ _ ha;have A:=O.same D;have Y:=D.seq V;refine ⟨I,T.az,T.gf,nc ..,I,T.az,T.jb,vc ..,I,T.az,T.jQ,ww ..,λ b Na fb F nb=>?_⟩;have s2:aE j (upd (upd j Na (.own b)) b (.ins Ad.aY Na [])):=λ c o g=>by
   rw [aw (ax g fb),aw (ax g F)];exact g
 refine ⟨b,Na,m.most,m.eO,m.load,rfl,af,by rw [aw nb];exact af,u.FV.1,u.FV.2.1,u.FV.2.2,λ H2 EO D2=>⟨rfl,?_⟩⟩;obtain ⟨S2,F2⟩:=D2.keep s2 (λ c g=>by
   simp only [aay,aaj,acd] at g;rcases g with rfl|rfl
   . exact fb
   . exact F)
 refine ⟨⟨_,S2.seq Y⟩,?_⟩;refine eA (xs:=R.map aq) (λ i U d=>A3 (aE j d) (E2 λ v l=>A4 (aN K Ad.aY d b v l) (∀ c∈v,j c=none) (QH l) (Gz m R i l)) (∃ X,U=[some (.ref a),some (.ref p),X,some (.ref b),none]))
   ⟨S2,⟨EO,_,D2.at_,F2,QH.new,⟨rfl,rfl,rfl,rfl,rfl,rfl,rfl⟩⟩,_,rfl⟩ (λ i U d Z e=>e.1.seq Y) ?_ ?_
 .
  rintro Z i x U H3 f ⟨S,⟨Ju,t,N,F3,q,G⟩,X,rfl⟩;obtain ⟨r,z,rfl⟩:=oA f;have ah:=(SV.mp z).1;have xc:=C.lt r (aae z);have gr:=aK xc;have Ml:rowAt m r=m.rows[r]:=by unfold rowAt;rw [gr];rfl
  have M:=aaH xc;obtain ⟨⟨Up,Z,Z,Z,Z,Z,Z,Z,Z,Z,Jd,Z⟩,Z⟩:=id N;refine ⟨Jd,rfl,S _ _ I,rfl,a,L,m,r,m.rows[r],rfl,A.same S,gr,λ pl ys iL ad=>?_⟩;have s4:=ap (o:=.lst ys) iL;have l3:t.rows.length=i:=by rw [G.rows,Ea,aby];lia
  have ab:hU (t.rows++[m.rows[r]])<=400:=by
    rcases W with l1|W
    . rw [aea.mp (show t.rows.length=0 by lia)];have:=(u.rise _ M).2;have e:hU ([]++[m.rows[r]])=1 * ((m.rows[r].length:Int) - 1):=rfl;rw [e];lia
    refine CJ (λ x f=>?_) (by rw [aas,abh];lia);rcases aaU.mp f with f|f
    . rw [G.rows] at f;obtain ⟨y,hy,rfl⟩:=abv.mp f;have k:=C.lt y (agQ hy);have e:rowAt m y=m.rows[y]:=by unfold rowAt;rw [aK k];rfl
      rw [e];exact ⟨(B.len _ (aaH k)).1,W _ (aaH k)⟩
    . rw [aac.mp f];exact ⟨(B.len _ M).1,W _ M⟩
  refine ⟨b,Ju,t,pl,ys,m.rows[r],rfl,N.same s4,by lia,aW.of af,bP.same s4 _ ad,B.rows _ M,(B.len _ M).1,(B.len _ M).2,(u.rise _ M).1,ab,λ H5 MG D5=>?_⟩;obtain ⟨S5,F5⟩:=D5.keep (S.trans s4) F3;refine ⟨S5,⟨MG,_,D5.at_,F5,q.c8,?_⟩,_,rfl⟩;have:=G.next z;rw [Ml] at this;exact this
 rintro U H3 ⟨S,⟨Ju,t,N,F3,q,G⟩,X,rfl⟩;rw [Ea] at G;refine ⟨p,_,rfl,.inl (S.seq Y),λ n J=>⟨_,rfl,by rw [Ea] at J;lia,by rw [Ea] at J;lia,?_⟩⟩;rw [Ea] at J;subst J;refine fY (lo:=0) (n:=R.length) (λ i U d=>A3 (aE j d) (E2 λ v l=>A4 (aN K Ad.aY d b v l) (∀ c∈v,j c=none) (QH l) (oB m R i l)) (∃ x4,U=[some (.ref a),some (.ref p),X,some (.ref b),x4]))
   ⟨S,⟨Ju,t,N,F3,q,G.only⟩,_,rfl⟩ ?_ ?_
 . rintro Z i U H4 hi ⟨S4,⟨xh,m4,h4,F4,ZE,on⟩,x4,rfl⟩;refine ⟨j,b,xh,m4,i,a,L,m,p,R,by rw [abL];rfl,S4,h4,F4,A,Y,C,hi,ZE,qh,u,on,λ H5 MG m5 S5 h5 F5 q5 ae=>?_⟩;exact ⟨S5,⟨MG,m5,h5,F5,q5,ae⟩,_,rfl⟩
 . rintro U H4 ⟨S4,⟨xh,m4,h4,F4,ZE,on⟩,x4,rfl⟩;exact (kf b xh m4 H4 (D.trans S4) h4 (λ c g=>D.free (F4 c g)) ZE on)
theorem Cb (l:aH):(l.map aq).all px=true:=by
 rw [acj];intro x h;obtain ⟨w,Z,rfl⟩:=abv.mp h;rfl
theorem He (m:am) (i j:Nat):iz m i j=iz m j i:=Bool.or_comm ..
inductive MX (K:aF) (C:ak) (vs:aB) (H:Hp) (Q:VK) (_E:XK):Prop
 | mk (a fp m:_) (r:Nat) (_:vs=[.ref a,aq r]) (_:aN K C H a fp m) (_:r<m.rows.length) (_:∀ p H',aE H H'->H p=none->H' p=some (.lst ((Jc (g6 (iz m)) m.rows.length r).map aq))->Q (.ref p) H')
theorem Do (T:Txt K mg Ad):Def P w K mg base "part_of" 7 ["hold","room"] (MX K Ad.aY):=by
 refine T.G9.cW ko λ Z Z Z Z Z H vs Q E hr h=>?_;obtain ⟨a,fp,m,r,rfl,F,W,k⟩:=h;refine ⟨_,(ag (dD (i:=2) ko.nd (bK (aa (pv 1) ac)))
     (ag (dD (i:=3) ko.nd ai)
     (ag (nu aa7 (aP kI (pv 3) (aT bv (by rfl) T.fc cZ (aa (pv 2) ac)) (aQ _)) (ag (cA aa7 rfl (bY rfl T.c9 (aa (eC (pv 0) T.az (cu T) .nil hr.m) ac)) (fR (i:=4) ko.nd) (ar (bA (PW.pt (k9 (aP rT (pv 4) (pv 2) (by with_unfolding_all rfl)) (iX (cP (au (kE T) hr.m (aa (pv 0) (aa (aJ aC (pv 2) (pv 3)) (aa (pv 4) ac)))))))) (ar (aV (hX abE abG abF cD (pv 2) (aa (pv 4) ac)))) aR)))
     (ar (Ka (i:=3) ko.nd rfl (lc rfl) ai K2))))
     (ar (aO (aT zy (by rfl) T.Ks HA (aa (pv 2) ac))))))),?_⟩
 try dsimp only [kA,cz]
 first|(refine gb ?_;intro Z Z Z Z Z)|skip
 obtain ⟨⟨dx,pm,pf,ps,pt,vm,vs,vt,aG,pB,ha,Z⟩,q1,q2,q3,q4⟩:=id F;have n4:=q3;have G:∀ {i j:Nat},i<m.rows.length->j<m.rows.length->i≠j->RJ (g6 (iz m)) i j=iz m i j:=λ I hj n=>Ji (He m) (by lia) (by lia) n;generalize hg:g6 (iz m)=g at k G;generalize hn:m.rows.length=n at k G W n4;refine cut λ R1 k1=>⟨Fn,λ f mO=>k1 _ _ ?_⟩
 refine cut λ R2 k2=>k2 _ _ (cut λ R3 k3=>?_);refine ⟨λ t U l=>E2 λ p d=>∃ (v:eU),A7 (t+d=5) (aE H l) (l f=some (.lst (p.map aq))) (N1 n p) (d<=p.length) (Es g n t p d=Es g n 5 [r] 0) (U=[some (.ref a),some (aq r),some (.ref f),some (aq d),v]),
   ⟨5,[r],0,none,rfl,ap (o:=.lst [aq r]) mO,af,⟨by simp,λ x hx=>by rw [aac.mp hx];exact W⟩,by simp,rfl,rfl⟩,?_⟩
 rintro t U H1 ⟨p,d,v,ab,B,J,nd,dl,Y,rfl⟩;have pl:=nd.len;refine ⟨f,_,rfl,.inl (aW.of J),λ y ey=>⟨_,rfl,jL (λ q=>?_) λ q=>?_⟩⟩
 .
  have q:(d:Int)<y:=q;rw [Ea] at ey;have D:d<p.length:=by lia
  obtain ⟨c,rfl⟩:∃ c,t=c+1:=⟨t - 1,by lia⟩
  refine ⟨λ U l=>E2 λ p d=>∃ (v:eU),A7 (c+d=5) (aE H l) (l f=some (.lst (p.map aq))) (N1 n p) (d<=p.length) (Es g n c p d=Es g n 5 [r] 0) (U=[some (.ref a),some (aq r),some (.ref f),some (aq d),v]),λ ad l h=>⟨c,by lia,h⟩,cut λ R4 k4=>⟨B _ _ ha,rfl,a,fp,m,rfl,aN.same B F,_,rfl,by lia,by lia,?_⟩⟩;rw [hn];refine sJ (lo:=0) (n:=n) (λ i U l=>A5 (aE H l) (l f=some (.lst (((List.range i).foldl (ku g d) p).map aq))) (N1 n ((List.range i).foldl (ku g d) p)) (p.length<=((List.range i).foldl (ku g d) p).length) (∃ (v:eU),U=[some (.ref a),some (aq r),some (.ref f),some (aq d),v]))
    ⟨B,J,nd,aaE _,_,rfl⟩ ?_ ?_
  .
   rintro i U H2 I ⟨S,O,s,L,v,rfl⟩;rw [Dm];generalize (List.range i).foldl (ku g d) p=b at O s L;have QX:=s.len;have ev:Lf (.int (0+(i:Int))) (b.map aq)=decide (i∈b):=by rw [abL];exact Az i b
   refine ⟨f,_,rfl,.inl (aW.of O),rfl,Cb b,_,rfl,?_⟩;show if (!Lf (.int (0+(i:Int))) (b.map aq))=true then _ else _;rw [ev];have A:d<b.length:=by lia
   by_cases u:i∈b
   . rw [aaS u];refine dk ?_;have z:ku g d b i=b:=by unfold ku;rw [aaS u];rfl
     rw [z];exact dk ⟨S,O,s,L,_,rfl⟩
   .
    rw [aaR u];refine fH ?_;have gd:b.getD d 0=b[d]:=by rw [YQ,aK A];rfl
    have lN:b[d]<n:=s.2 _ (aaH _);rw [(abL _)];refine ⟨.inl (aW.of O),bC (by rw [aah,aK A];rfl),a,fp,m,b[d],i,rfl,aN.same S F,by lia,by lia,λ H3 C=>⟨_,rfl,?_⟩⟩;rw [<- G lN I (λ e=>u (e ▸ aaH _))];cases X:RJ g b[d] i with
    | true =>
      have z:ku g d b i=b++[i]:=by unfold ku;rw [aaR u,gd,X];rfl
      rw [z];refine fH ⟨.inl ⟨rfl,_,aW.of (C _ _ O)⟩,C _ _ O,aS (by rw [Ea];lia),(S.trans C).put mO,?_,s.put I u,by rw [aas];lia,_,rfl⟩;rw [af,aau];rfl
    | false =>
      have z:ku g d b i=b:=by unfold ku;rw [gd,X,aes];rfl
      rw [z];exact dk ⟨S.trans C,C _ _ O,s,L,_,rfl⟩
  .
   rintro U H2 ⟨S,O,s,L,v,rfl⟩;refine k4 _ _ ⟨_,rfl,_,_,rfl,rfl,OA g n p d,d+1,v,by lia,S,O,s,by show d+1<=((List.range n).foldl (ku g d) p).length;lia,?_,?_⟩
   . rw [<- Y];show _=if d<p.length then _ else _;rw [abp D]
   . rfl
 .
  have q:¬ (d:Int)<y:=q;rw [Ea] at ey;refine k3 _ _ ?_;have R:∃ c,t=c+1:=⟨t - 1,by lia⟩
  obtain ⟨c,rfl⟩:=R;have ep:p=Es g n 5 [r] 0:=by
    rw [<- Y];show _=if d<p.length then _ else _;rw [abC (by lia)]
  have M:H1 f=some (.lst ((p.map λ x:Nat=>(x:Int)).map V.int)):=by rw [J,ac5];rfl
  refine ⟨f,_,rfl,aW.of M,by rw [Ea];lia,λ qq ms hq iC N=>?_⟩;refine k qq _ (B.trans (ap hq)) (B.free hq) ?_;rw [af,P9 iC N,ac5,ep];rfl
def Js (H:Hp) (as:bp) (L:List (aH)):Prop:=as.length=L.length/\∀ (i:Nat) (a:ak) (l:aH),as[i]?=some a->L[i]?=some l->H a=some (.lst (l.map aq))
theorem Js.mono {H b:Hp} {as:bp} {ls:List (aH)} (h:Js H as ls) (g:∀ a∈as,∀ o,H a=some o->b a=some o):Js b as ls :=
 ⟨h.1,λ i a l e E=>g a (aae e) _ (h.2 i a l e E)⟩
theorem Js.put {H:Hp} {as:bp} {L:List (aH)} {b:ak} {l:aH} (h:Js H as L) (c:H b=some (.lst (l.map aq))):Js H (as++[b]) (L++[l]) :=
 ⟨by rw [aas,aas,h.1];rfl,λ i a d e E=>by
   rcases Nat.lt_trichotomy i as.length with q|q|q
   . rw [aaO q] at e;rw [aaO (by rw [<- h.1];exact q)] at E;exact h.2 i a d e E
   . subst q;rw [abM (aaE _),afU] at e;rw [h.1,abM (aaE _),afU] at E;cases e;cases E;exact c
   . rw [abM (by lia),ace (by show 1<=_;lia)] at e;cases e⟩
theorem Dd (g:G6) (n i:Nat):(List.range (i+1)).foldl (pP g n) []=pP g n ((List.range i).foldl (pP g n) []) i:=by
 rw [ab6,adl];rfl
inductive Ki (K:aF) (C:ak) (vs:aB) (H:Hp) (Q:VK) (_E:XK):Prop
 | mk (a fp m:_) (_:vs=[.ref a]) (_:aN K C H a fp m) (_:∀ p as H',aE H H'->H p=none->(∀ b∈as,H b=none)->p∉as->as.Nodup->H' p=some (.lst (as.map V.ref))->Js H' as (mD (g6 (iz m)) m.rows.length)->Q (.ref p) H')
theorem ug (T:Txt K mg Ad):Def P w K mg base "parts_of" 8 ["hold"] (Ki K Ad.aY):=by
 refine T.Et.cW nI λ Z Z Z Z Z H vs Q E hr h=>?_;obtain ⟨a,fp,m,rfl,O,k⟩:=h;refine ⟨_,(ag (dD (i:=1) nI.nd (bK ac))
     (ag (cA aa7 rfl (bY rfl T.c9 (aa (eC (pv 0) T.az (cu T) .nil hr.m) ac)) (fR (i:=2) nI.nd) (ar (bA (fB (cP (aT (yy rfl) (by rfl) T.Oa JS (aa (ft ["part"] ["room"] [2] (.cons ⟨rfl,rfl,.inl rfl⟩ .nil) rfl (bw (pv 1)) (λ Z Z Z Z Z=>(ky (i:=0))) (λ Z Z Z Z Z=>cB) (λ Z Z Z Z Z=>(dL (Eu (K:=K) rfl) (pv 1) (pv 0) (by with_unfolding_all rfl)))) ac)))) (ar (aV (hX abE abG abF cD (pv 1) (aa (au (Do T) hr.m (aa (pv 0) (aa (pv 2) ac))) ac)))) aR)))
     (ar (aO (pv 1))))),?_⟩
 try dsimp only [kA,cz]
 first|(refine fJ ?_;intro Z Z Z Z)|skip
 obtain ⟨⟨dx,pm,pf,ps,pt,vm,vs,vt,aG,pB,ha,Z⟩,q1,q2,q3,q4⟩:=id O;refine cut λ R1 k1=>⟨AN,λ q W=>k1 _ _ ?_⟩
 have s0:=ap (o:=.lst []) W;refine cut λ R2 k2=>⟨s0 _ _ ha,rfl,a,fp,m,rfl,aN.same s0 O,_,rfl,by lia,by lia,?_⟩
 generalize hg:g6 (iz m)=g at k;generalize hn:m.rows.length=n at k q3;refine sJ (lo:=0) (n:=n) (λ i U f=>A3 (aE H f) (∃ (as:bp),A5 (f q=some (.lst (as.map V.ref))) (Js f as ((List.range i).foldl (pP g n) [])) (∀ b∈as,H b=none/\b≠q) (as.Nodup) (as.length<=i)) (∃ (v:eU),U=[some (.ref a),some (.ref q),v]))
   ⟨s0,⟨[],af,⟨rfl,nofun⟩,nofun,.nil,aaE _⟩,none,rfl⟩ ?_ ?_
 .
  rintro i U J hi ⟨S,⟨as,r,d,F,N,ll⟩,v,rfl⟩;rw [Dd];generalize (List.range i).foldl (pP g n) []=l at d;rw [(abL _)];refine ⟨⟨_,aW.of r⟩,λ D hD=>?_⟩;refine cf (K:=K) (a:=q) (xs:=as.map V.ref) (λ j A U f=>A4 (aE J f) (f D=some (.lst A)) (A=((l.take j).map λ p=>V.bl (decide (i∈p)))) (∃ v,U=[v,some (aq i)]))
    ⟨ap hD,af,rfl,none,rfl⟩ (λ j A U f Z e=>aW.of (e.1 _ _ r)) ?_ ?_
  .
   rintro j x A U H2 I ⟨s,G,rfl,v,rfl⟩;rw [aah] at I;obtain ⟨b,eb,rfl⟩:=acY.mp I;have B:j<l.length:=by rw [<- d.1];exact (SV.mp eb).1
   refine ⟨b,_,rfl,.inl (aW.of (s _ _ (d.2 j b l[j] eb (aK B)))),rfl,Cb _,?_⟩;rw [show Lf (aq i) (l[j].map aq)=decide (i∈l[j]) from Az i _];have CY:=d.1;refine ⟨G,aS (by rw [Ea,aby];lia),s.put hD,af,?_,_,rfl⟩;rw [acI,aK B,aau];rfl
  .
   rintro A U H2 ⟨s,G,rfl,v,rfl⟩;have e0:((l.take (as.map V.ref).length).map λ p=>V.bl (decide (i∈p)))=(l.map λ p=>decide (i∈p)).map V.bl:=by rw [Ea,d.1,aa4,ac5];rfl
   rw [e0] at G;refine ⟨D,_,rfl,aW.of G,_,rfl,?_⟩;have e1:(l.map λ p=>decide (i∈p)).any id=l.any λ p=>decide (i∈p):=by rw [List.any_map];rfl
   rw [e1];cases ea:l.any λ p=>decide (i∈p) with
   | true =>
     have M:pP g n l i=l:=by unfold pP;rw [abp ea]
     rw [M];exact dk ⟨S.trans s,⟨as,s _ _ r,d.mono λ b u o e=>s _ _ e,F,N,by lia⟩,_,rfl⟩
   | false =>
     have M:pP g n l i=l++[Jc g n i]:=by unfold pP;rw [abC (by rw [ea];exact aa3)]
     rw [M];have L:=S.trans s;have Y:=s _ _ r;refine fH ⟨.inl ⟨rfl,_,aW.of Y⟩,a,fp,m,i,rfl,aN.same L O,by lia,λ b H3 s3 t u=>?_⟩;rw [hg,hn] at u;have nb:b≠q:=λ z=>by rw [z,Y] at t;cases t
     have X:b∉as:=λ R=>by
       obtain ⟨j,B,rfl⟩:=afw R;have:=d.2 j as[j] _ (aK B) (aK (show j<l.length by rw [<- d.1];exact B));rw [s _ _ this] at t;cases t
     refine ⟨s3 _ _ Y,aS (by rw [Ea];lia),(L.trans s3).put W,⟨as++[b],by rw [af,aau];rfl,?_,?_,?_,by rw [aas];show as.length+1<=_;lia⟩,_,rfl⟩
     . refine ((d.mono λ c C o e=>s3 _ _ (s _ _ e)).put u).mono λ c C o e=>?_;rw [aw (λ z=>?_)]
       . exact e
       . rcases aaU.mp C with h|h
         . exact (F c h).2 z
         . exact nb ((aac.mp h) ▸ z)
     . intro c C;rcases aaU.mp C with h|h
       . exact F c h
       . rw [aac.mp h];exact ⟨L.free t,nb⟩
     . exact adL.mpr ⟨N,by simp,λ x I y hy=>by rw [aac.mp hy];exact λ e=>X (e ▸ I)⟩
 . rintro U J ⟨S,⟨as,r,d,F,N,ll⟩,v,rfl⟩;exact k2 _ _ (k q as J S W (λ b u=>(F b u).1) (λ R=>(F q R).2 rfl) N r d)
theorem tF (T:Txt K mg Ad):Def P w K mg base "chosen" 1 ["row","rooms"] (BJ K):=by
 refine T.JM.cW HK λ Z Z Z Z Z H z Q E x h=>?_;obtain ⟨t,p,l,R,rfl,o,f,L,u,k⟩:=h;refine ⟨_,(ar (aO (cU dQ (by rfl) T.kN je (aa (ft ["room"] ["row"] [0] (.cons ⟨rfl,rfl,.inl rfl⟩ .nil) rfl (bw (pv 1)) (λ Z Z Z Z Z=>(ky (i:=0))) (λ Z Z Z Z Z=>cB) (λ Z Z Z Z Z=>(aJ (fE rfl) (pv 1) (pv 0)))) ac)))),?_⟩;refine ⟨⟨_,f⟩,λ D d=>cf (K:=K) (λ j a U b=>A4 (aE H b) (b D=some (.lst a)) (a=((R.take j).map (gN l)).map aq) (∃ v,U=[v,some (.ref t)])) ⟨ap d,af,rfl,none,rfl⟩ (λ j a U b Z e=>e.1.seq f) ?_ ?_⟩
 .
  rintro j y a U b n ⟨s,g,rfl,v,rfl⟩;obtain ⟨r,c,rfl⟩:=di n;have V:=(SV.mp c).1;refine ⟨.inr (s.tup o),uf (L r (aae c)),g,aS (by rw [Ea,Ea,aby];lia),s.put d,af,?_,_,rfl⟩;rw [acI,c,aau,aau];rfl
 . rintro a U b ⟨s,g,rfl,v,rfl⟩;rw [Ea,aa4] at g;exact ⟨D,_,rfl,.inl ⟨aW.of g,λ q m=>k q _ (s.trans (ap m)) af⟩⟩
theorem vK (T:Txt K mg Ad):Def P w K mg base "portion" 3 ["state","rooms"] (yY K):=by
 refine T.GD.cW gP λ Z Z Z Z Z H vs Q E b h=>?_;obtain ⟨q,p,s,R,rfl,⟨pb,pw,pf,hq,Y,hw,hf⟩,c,L,y,k⟩:=h;refine ⟨_,(ag (gL (pv 0) (cL (K:=K) (n:=5) rfl rfl (aL (fR (i:=2) gP.nd) (aL (fR (i:=3) gP.nd) (aL (fR (i:=4) gP.nd) (aL (fR (i:=5) gP.nd) (aL (fR (i:=6) gP.nd) cJ)))))))
     (ag (dD (i:=7) gP.nd (au (mv T) b.m (aa (ft ["place","room"] ["burning"] [3] (.cons ⟨rfl,rfl,.inl rfl⟩ .nil) rfl (nZ rfl T.dg (aa (pv 1) ac)) (λ Z Z Z Z Z=>(cL (K:=K) (n:=2) rfl rfl (aL (ky (i:=0)) (aL (ky (i:=1)) cJ)))) (λ Z Z Z Z Z=>(gJ (cP (au (fu T) b.m (aa (pv 2) (aa (pv 1) ac)))))) (λ Z Z Z Z Z=>(pv 0))) ac)))
     (ar (aO (ca (aa (au (tF T) b.m (aa (pv 2) (aa (pv 1) ac))) (aa (pv 7) (aa (au (tF T) b.m (aa (pv 4) (aa (pv 1) ac))) (aa (au (tF T) b.m (aa (pv 5) (aa (pv 1) ac))) (aa (pv 6) ac)))))))))),?_⟩
 try dsimp only [kA,cz]
 first|(refine fJ ?_;intro Z Z Z Z)|skip
 refine ⟨hq,rfl,rfl,⟨p,rfl,⟨_,c⟩,λ D G=>?_⟩⟩;refine kO (a:=p) (xs:=R.map aq) (λ i A U f=>A4 (aE H f) (f D=some (.lst A)) (A=(Sb s.bG R i).map aq) (E2 λ V C=>U=[V,C,some (aq s.bG)])) ⟨ap G,af,rfl,none,none,rfl⟩ (λ i A U f Z e=>e.1.seq c) ?_ ?_
 .
  rintro i x pp A U f hx mO ⟨S,d,rfl,V,C,rfl⟩;obtain ⟨r,F,rfl⟩:=di hx;have l:=ap (o:=.tup [aq i,aq r]) mO;have ab:=(SV.mp F).1;have lp:=LC s.bG R i;have g:=KE (bG:=s.bG) F;refine ⟨cw.of af,rfl,rfl,⟨s.bG,r,rfl,_,rfl,?_⟩⟩;cases O:s.bG.testBit r with
  | true =>
    rw [O,abp rfl] at g;refine fH ⟨l _ _ d,aS (by rw [Ea];lia),(S.trans l).put G,af,?_,_,_,rfl⟩;rw [g,aau];rfl
  | false =>
    rw [O,abC aa3,ac7] at g;exact dk ⟨S.trans l,l _ _ d,by rw [g],_,_,rfl⟩
 .
  rintro A U H1 ⟨S,d,rfl,V,C,rfl⟩;rw [Ea] at d;refine ⟨D,_,rfl,aW.of d,λ r b=>?_,?_⟩
  . have:=aaK.mp (abT.mp b).1;lia
  refine ⟨pb,p,s.bR,R,rfl,S.tup Y,S.seq c,λ r b=>(L r b).1,y,λ I H2 s2 W=>?_⟩;have u:=S.trans s2;refine ⟨pw,p,s.dE,R,rfl,u.tup hw,u.seq c,λ r b=>(L r b).2.1,y,λ J H3 N X=>?_⟩;have v:=u.trans N;refine ⟨pf,p,s.failed,R,rfl,v.tup hf,v.seq c,λ r b=>(L r b).2.2,y,λ M H4 B z=>⟨(by show 5<=sizeLine;decide),λ t ht=>?_⟩⟩;have j:=ap (o:=.tup [.ref I,aq (Bit.sumOf (Sb s.bG R R.length)),.ref J,.ref M,aq s.heap]) ht;exact k t _ ((v.trans B).trans j) ⟨I,J,M,af,((N.trans B).trans j) _ _ W,(B.trans j) _ _ X,j _ _ z⟩
inductive P2  (vs:aB) (H:Hp) (Q:VK) (_E:XK):Prop
 | mk (c k t:Int) (_:vs=[.int c,.int k,.int t]) (_:0<=k) (_:k<=1000) (_:0<=t) (_:t<=7) (_:∀ H' r,aE H H'->0<=r->r<=65537->Q (.int r) H')
theorem HG {t:Int} (h:0<=t) (H:t<=7):∃ p:Int,uS ([.int 65537,.int 65521,.int 65519,.int 65497,.int 65479,.int 65449,.int 65447,.int 65437]:aB) t=some (.int p)/\65437<=p/\p<=65537:=by
 have:t=0\/t=1\/t=2\/t=3\/t=4\/t=5\/t=6\/t=7:=by lia
 rcases this with rfl|rfl|rfl|rfl|rfl|rfl|rfl|rfl<;>exact ⟨_,rfl,by decide,by decide⟩
theorem cb (T:Txt K mg Ad):Def P w K mg base "_law_mix" 1 ["_law_cell","_law_k","_law_turn"] P2:=by
 refine T.Hx.cW wI λ Z Z Z Z Z H L Q E x h=>?_;obtain ⟨c,k,t,rfl,b,d,s,u,q⟩:=h;refine ⟨_,(ag (dD (i:=3) wI.nd (aJ aC (bK (aa ai (aa ai (aa ai (aa ai (aa ai (aa ai (aa ai (aa ai ac))))))))) (pv 2)))
     (ar (aO (aA bh (aA bM (aA bL (aA bh (pv 0) ai) ai) (aA bL (aA bL (aA bM (pv 1) (pv 1)) ai) (aA bM ai (pv 2)))) (pv 3))))),?_⟩
 obtain ⟨D,e,z,A⟩:=HG s u;refine ⟨(by decide),λ B I=>⟨.inl (aW.of af),e,⟨by decide,λ m M y Z=>(λ a v=>⟨⟨100,100,Rq 100 (by lia) (by lia),Rq 100 (by lia) (by lia),by decide⟩,λ f V=>?_⟩)⟩⟩⟩;have o:0<=f:=by rw [V];exact ad2 b b
 have p:f<=1000 * 1000:=by rw [V];exact afu d d b (by decide)
 refine (λ S j=>⟨⟨100,100,Rq 100 (by lia) (by lia),Rq 100 (by lia) (by lia),by decide⟩,λ J n=>(λ G l=>?_)⟩);exact ⟨⟨100,100,Rq 100 (by lia) (by lia),Rq 100 (by lia) (by lia),by decide⟩,λ C g=>⟨by lia,λ r R F Z=>q _ r (ap I) R (by lia)⟩⟩
theorem fZ (T:Txt K mg Ad):Def P w K mg base "_law_part" 1 ["_law_top","_law_bottom"] Jp:=by
 refine T.Ef.cW gW λ Z Z Z Z Z H V Q E D h=>?_;obtain ⟨t,b,rfl,x,j,k⟩:=h;refine ⟨_,(ag (dD (i:=2) gW.nd (aT se (by rfl) T.KL Ek (aa (pv 0) ac)))
     (ag (dD (i:=3) gW.nd (pv 1))
     (ag (nu aa7 (aP ur (pv 3) ai (aQ _)) (ag (dD (i:=4) gW.nd (aA bh (pv 2) (pv 3)))
     (ag (dD (i:=2) gW.nd (pv 3))
     (ar (dD (i:=3) gW.nd (pv 4))))))
     (ar (aO (ca (aa (aA bJ (pv 0) (pv 2)) (aa (aA bJ (pv 1) (pv 2)) ac)))))))),?_⟩
 first|(refine gb ?_;intro Z Z Z Z Z)|skip
 refine ⟨_,rfl,λ G u=>?_⟩;refine ⟨λ m U c=>c=H/\E3 λ (g l:Int) (r:eU)=>A5 (U=[some (.int t),some (.int b),some (.int g),some (.int l),r]) (0<=g) (0<=l) (m=l.toNat) (Int.gcd g l=Int.gcd t b),
   ⟨_,rfl,G,b,none,rfl,by lia,by lia,rfl,by rw [u];rfl⟩,?_⟩
 rintro m U c ⟨rfl,g,l,r,rfl,f,y,rfl,e⟩;refine ⟨_,rfl,jL (λ h=>?_) (λ h=>?_)⟩
 .
  have L:0<l:=h;refine ⟨λ a I=>I=c/\a=[some (.int t),some (.int b),some (.int l),some (.int (g % l)),some (.int (g % l))],λ a I ⟨n,o⟩=>?_,?_⟩
  . have M:=afG g L;exact ⟨(g % l).toNat,by lia,n,l,g % l,_,o,y,agc g (by lia:l≠0),rfl,(ON f L).trans e⟩
  . refine ⟨L,λ r Z Z d=>?_⟩;subst d;exact ⟨rfl,rfl⟩
 .
  have L:l=0:=by lia
  subst L;have s:g=((Int.gcd t b:Nat):Int):=by rw [<- e,UU f]
  obtain ⟨C,A,F,fn⟩:=KI (by lia:b≠0) s;have B:Bd 8999 g:=(j.le (by lia)).mono (by decide);refine ⟨⟨by lia,B⟩,λ q v=>⟨⟨by lia,B⟩,λ r d=>⟨xF,λ p z=>?_⟩⟩⟩;subst v d;exact k _ _ p _ (F x) (ap z) af
theorem dY (T:Txt K mg Ad):Def P w K mg base "_law_cell_at" 1 ["_law_script","_law_k"] (JL K):=by
 refine T.xB.cW wB λ Z Z Z Z Z H v Q E c h=>?_;obtain ⟨a,N,z,rfl,b,k⟩:=h;refine ⟨_,(ag (bA (aP kI (pv 1) (aT bv (by rfl) T.fc cZ (aa (pv 0) ac)) (aQ _)) (ar (aO (aJ aC (pv 0) (pv 1)))) aR)
     (ar (aO ai))),⟨_,_,rfl,.inl b,λ n e=>⟨_,rfl,?_⟩⟩⟩
 rw [Ea] at e;refine jL (λ h=>?_) (λ h=>?_)
 . exact ⟨.inl b,bC (by simp_all),k⟩
 . rw [ace (by lia)] at k;exact k
theorem At (T:Txt K mg Ad):Def P w K mg base "_law_scale" 1 ["_law_cell"] HR:=by
 refine T.BI.cW mq λ Z Z Z Z Z H N Q E G h=>?_;obtain ⟨c,rfl,k⟩:=h;refine ⟨_,(ag (dD (i:=1) mq.nd (aA Ge ai ai))
     (ag (kX (bA (aP fT (aA bh (pv 0) ai) ai (aQ _)) (ar (dD (i:=1) mq.nd (aA Ge ai ai))) aR))
     (ar (aO (ca (aa (aA bL ai (aA bh (aA bJ (pv 0) ai) (pv 1))) (aa (aA bL ai (aA bh (aA bJ (pv 0) ai) (pv 1))) (aa (aA fA (aA bh (aA bJ (pv 0) ai) (aA bL (aA bM ai (pv 1)) ai)) (pv 1)) (aa (aA bL ai (aA bh (aA bJ (pv 0) ai) (pv 1))) ac))))))))),?_⟩
 try dsimp only [kA,cz]
 first|(refine fJ ?_;intro Z Z Z Z)|skip
 refine ⟨⟨by decide,by decide,by decide⟩,λ g R=>?_⟩;have R:g=10000:=by rw [R];rfl
 subst R;refine ⟨λ a e=>e=H/\∃ (O:Int),A3 (1<=O) (O<=10 ^ 9) (a=[some (.int c),some (.int O)]),?_,?_⟩
 .
  refine ⟨by decide,λ r Z Z Z=>⟨rfl,_,rfl,jL (λ Z=>⟨⟨by decide,by decide,by decide⟩,λ j S=>?_⟩) (λ Z=>⟨rfl,10000,by decide,by decide,rfl⟩)⟩⟩;have S:j=1000000000:=by rw [S];rfl
  subst S;exact ⟨rfl,_,by decide,by decide,rfl⟩
 rintro a e ⟨rfl,O,F,y,rfl⟩;refine ⟨⟨by decide,mN⟩,λ Y Z=>⟨by lia,λ I A t Z=>(λ z m=>⟨⟨by decide,mN⟩,λ U Z=>⟨by lia,λ J B u Z=>(λ b n=>?_)⟩⟩)⟩⟩;refine ⟨⟨by decide,mN⟩,λ W Z=>⟨⟨2,40,mN,show O.natAbs<2 ^ 40 by lia,by decide⟩,λ X V=>(λ y5 l=>⟨by lia,λ L C v Z=>(λ f o=>⟨⟨by decide,mN⟩,λ y6 Z=>⟨by lia,λ M D x Z=>(λ d q=>⟨Ri,λ p s=>?_⟩)⟩⟩)⟩)⟩⟩;exact k p ⟨z,b,f,d⟩ _ ⟨by show 1<=z/\z<=10 ^ 9;lia,by show 1<=b/\b<=10 ^ 9;lia,by show f.natAbs<=10 ^ 9;lia,by show 1<=d/\d<=10 ^ 9;lia⟩ (ap s) af
theorem n6 (T:Txt K mg Ad):Def P w K mg base "_law_warm" 2 ["_law_steps","_law_scale_here"] (JE K):=by
 refine T.Df.cW Ce λ Z Z Z Z Z H V Q E o h=>?_;obtain ⟨x,p,s,rfl,c,ok,z,k⟩:=h;refine ⟨_,(ar (aO (au (fZ T) o.m (aa (aA bL (aA bM (aA bM (pv 0) (aJ aC (pv 1) ai)) (aJ aC (pv 1) ai)) (aA bM (aJ aC (pv 1) ai) (aJ aC (pv 1) ai))) (aa (aA bM (aJ aC (pv 1) ai) (aJ aC (pv 1) ai)) ac))))),?_⟩;try dsimp only [kA,cz]
 obtain ⟨D,A⟩:=ok.den;obtain ⟨N,C,G⟩:=ok.num z;have O:=ok.a;have I:=ok.b;have L:=ok.t;have J:=ok.d;have B:∀ {y:Int},y.natAbs<=10 ^ 12->Bd 60 y:=λ {y} h=>show y.natAbs<2 ^ 60 by lia
 refine ⟨.inr c,rfl,⟨60,60,B (by lia),B (by lia),by decide⟩,λ Y e=>?_⟩;refine ⟨.inr c,rfl,⟨60,60,B (by rw [e];exact N),B (by lia),by decide⟩,λ M i=>⟨.inr c,rfl,.inr c,rfl,⟨60,60,B (by lia),B (by lia),by decide⟩,λ R j=>(λ U l=>?_)⟩⟩;refine ⟨.inr c,rfl,.inr c,rfl,⟨60,60,B (by lia),B (by lia),by decide⟩,λ W n=>?_⟩;subst e i j l n;have g:Bd 4000 (s.b * s.d):=by
   have:Bd 100 (s.b * s.d):=show Int.natAbs _<2 ^ 100 by lia
   exact this.mono (by decide)
 refine ⟨_,_,rfl,D,g,λ q r u f F S v=>k u f S ?_⟩;rw [v];unfold eZ;rw [<- (F.nf D)]
theorem gt1 {n:Nat} (h:2<=n):(n:Int) > 1:=by lia
theorem MI {x:Int} (a:0<=x) (b:x<8):x.natAbs<2 ^ 3:=by lia
theorem UX {x:Int} (h : -30<=x/\x<=86):x.natAbs<=200:=by lia
theorem BQ {H:Hp}:∀ l:List Int,bP K H (l.map PyData.int) (l.map V.int)
 | []=>eP
 | x::l=>bI rfl (BQ l)
set_option maxHeartbeats 0 in
theorem Af (T:Txt K mg Ad):Def P w K mg base "_law_rooms" 2 ["_law_cell","_law_many","_law_bands"] (EL K):=by
 refine T.BA.cW ce λ Z Z Z Z Z H vs Q E s h=>?_;obtain ⟨c,n,R,rfl,n1,n4,b1,b4,k⟩:=h;refine ⟨_,(ag (dD (i:=3) ce.nd (bK ac))
     (ag (cA aa7 rfl (bY rfl T.c9 (aa (pv 1) ac)) (fR (i:=4) ce.nd) (ag (dD (i:=5) ce.nd (bK (aa (aA fA (aA bh (au (cb T) s.m (aa (pv 0) (aa ai (aa ai ac)))) ai) ai) ac)))
     (ag (cA aa7 rfl (bY rfl T.c9 (aa (aA bL ai (aA bh (au (cb T) s.m (aa (pv 0) (aa (pv 4) (aa ai ac)))) (pv 2))) ac)) (fR (i:=6) ce.nd) (ar (aV (hX abE abG abF cD (pv 5) (aa (aA bL (aA bL (aJ aC (pv 5) (vS zW ai)) ai) (aA bh (au (cb T) s.m (aa (pv 0) (aa (aA bL (pv 4) (aA bM ai (pv 6))) (aa ai ac)))) ai)) ac)))))
     (ag (dD (i:=7) ce.nd (aT (oV rfl) (by rfl) T.FQ AC (aa ai (aa (aA fA (aA bh (au (cb T) s.m (aa (pv 0) (aa (pv 4) (aa ai ac)))) ai) ai) ac))))
     (ag (dD (i:=8) ce.nd (aA bL ai (aA bh (aA bJ (au (cb T) s.m (aa (pv 0) (aa (pv 4) (aa ai ac)))) ai) ai)))
     (ag (dD (i:=9) ce.nd (aA fA (aJ aC (pv 5) ai) (pv 7)))
     (ag (dD (i:=10) ce.nd (aT (oV rfl) (by rfl) T.FQ AC (aa (pv 9) (aa (aA bL (aA fA (aJ aC (pv 5) (vS zW ai)) (aA bh (au (cb T) s.m (aa (pv 0) (aa (pv 4) (aa ai ac)))) ai)) (cU sZ (by rfl) T.BH vV (aa (dL fT (aA bh (aA bJ (au (cb T) s.m (aa (pv 0) (aa (pv 4) (aa ai ac)))) ai) ai) ai (aQ _)) ac))) ac))))
     (ag (dD (i:=11) ce.nd (aA bL (aA bJ (aA bL (aA bM (pv 8) (pv 7)) ai) ai) (aA bh (au (cb T) s.m (aa (pv 0) (aa (pv 4) (aa ai ac)))) ai)))
     (ag (kX (bA (aP fT (aA bh (aA bJ (au (cb T) s.m (aa (pv 0) (aa (pv 4) (aa ai ac)))) ai) ai) ai (aQ _)) (ar (dD (i:=11) ce.nd (aA bh (aA bJ (au (cb T) s.m (aa (pv 0) (aa (pv 4) (aa ai ac)))) ai) ai))) aR))
     (ag (dD (i:=12) ce.nd (ca (aa (pv 11) (aa (aA bh (au (cb T) s.m (aa (pv 0) (aa (pv 4) (aa ai ac)))) ai) (aa (aA bh (aA bJ (au (cb T) s.m (aa (pv 0) (aa (pv 4) (aa ai ac)))) ai) ai) (aa (aA bh (au (cb T) s.m (aa (pv 0) (aa (pv 4) (aa ai ac)))) ai) ac))))))
     (ag (kX (bA (aP ur (pv 1) ai (aQ _)) (ar (dD (i:=12) ce.nd (ca (aa (pv 11) (aa (aA bh (aJ aC (pv 12) ai) ai) (aa (aA bM (aA bh (aJ aC (pv 12) ai) ai) (cU sZ (by rfl) T.BH vV (aa (dL fT (pv 1) ai (aQ _)) ac))) (aa (aA bM (aJ aC (pv 12) ai) (cU sZ (by rfl) T.BH vV (aa (pQ (dL fT (pv 1) ai (aQ _)) (mm (dL fT (pv 4) ai (aQ _)))) ac))) ac))))))) aR))
     (ag (kX (bA (aP fT (aA bh (aA bJ (au (cb T) s.m (aa (pv 0) (aa (pv 4) (aa ai ac)))) ai) ai) ai (aQ _)) (ar (dD (i:=12) ce.nd cM)) aR))
     (ar (aV (hX abE abG abF cD (pv 3) (aa (ca (aa (pv 5) (aa (pv 8) (aa (pv 9) (aa (pv 10) (aa (pv 12) ac)))))) ac))))))))))))))))
     (ar (aO (pv 3))))),?_⟩
 try dsimp only [kA,cz]
 first|(refine fJ ?_;intro Z Z Z Z)|skip
 refine ⟨AN,λ A RB=>⟨_,rfl,by lia,by lia,?_⟩⟩;refine fY (lo:=0) (n:=n) (λ i U d=>A3 (aE H d) (E2 λ (xs:aB) (rs:List R7)=>A4 (d A=some (.lst xs)) (bP K (dJ d [A]) (rs.map Ke) xs) (rs.length=i) (∀ r∈rs,r.Ok/\Aq n R r)) (E9 λ x4 x5 x6 x7 x8 x9 Gh NK W1=>U=[some (.int c),some (aq n),some (aq R),some (.ref A),x4,x5,x6,x7,x8,x9,Gh,NK,W1]))
   ⟨ap RB,⟨[],[],af,eP,rfl,λ Z h=>absurd h aaj⟩,none,none,none,none,none,none,none,none,none,rfl⟩ ?_ ?_
 .
  rintro Z i U X hi ⟨S1,⟨xs,rs,LN,AF,lr,yD⟩,x4,x5,x6,x7,x8,x9,Gh,NK,W1,rfl⟩;have I:(0:Int)<=0+(i:Int):=by rw [abL];exact ac4 i
  have B:0+(i:Int)<=1000:=by lia
  refine ⟨c,0,0,rfl,by decide,by decide,by decide,by decide,λ H2 r0 s2 Z Z=>⟨by decide,λ m0 b7 b8 bD=>(λ f0 bt=>⟨Fn,λ p iC=>?_⟩)⟩⟩;clear bD;have bR : -30<=f0/\f0<=30:=by lia
  clear b7 b8 bt;have PH:X p=none:=s2.free iC;have T2:=s2.trans (ap (o:=.lst [.int f0]) iC);have HS:(upd H2 p (.lst [.int f0])) p=some (.lst [.int f0]):=af;generalize upd H2 p (.lst [.int f0])=cv at T2 HS |-;refine ⟨c,0+(i:Int),1,rfl,I,B,by decide,by decide,λ H3 r1 s3 Z Z=>⟨by lia,λ m1 b9 cc bE=>(λ cn bs=>?_)⟩⟩;clear bE;obtain ⟨C,rfl⟩:∃ x:Nat,cn=(x:Int):=⟨cn.toNat,by lia⟩
  have a6:1<=C/\C<=4:=by lia
  have bQ:C<=R:=by lia
  clear b9 cc bs;refine ⟨_,rfl,by lia,by lia,?_⟩;refine fY (lo:=0) (n:=C) (λ j U d=>A3 (aE X d) (∃ (M:List Int),A4 (d p=some (.lst (M.map V.int))) (M.length=j+1) (∀ (a:Nat) (x y:Int),M[a]?=some x->M[a+1]?=some y->x<y) (∀ x∈M,-30<=x/\x<=30+14 * (j:Int))) (∃ x6,U=[some (.int c),some (aq n),some (aq R),some (.ref A),some (.int (0+(i:Int))),some (.ref p),x6,x7,x8,x9,Gh,NK,W1]))
    ⟨T2.trans s3,⟨[f0],s3 _ _ HS,rfl,λ a x y h1 W=>?_,λ x u=>?_⟩,_,rfl⟩ ?_ ?_
  . have:=(SV.mp W).1;have:a+1<1:=this;lia
  . rw [aac.mp u];exact bR
  .
   rintro Z j U d hj ⟨T3,⟨M,VY,O,X2,J⟩,x6,rfl⟩;have hl:(M.map V.int).length=j+1:=by rw [Ea,O]
   have NL:M[j]?=some M[j]:=aK (by lia);refine ⟨.inl ⟨rfl,_,aW.of VY⟩,_,rfl,HP.mk (v:=.int M[j]) (.inl (aW.of VY)) ?_ ?_⟩
   . refine KW ?_;rw [hl,aah,ag2,NL];rfl
   refine (λ y1 e1=>⟨⟨3,5,mN,(show Int.natAbs _<2 ^ 5 by lia),by decide⟩,λ y2 e2=>(λ Y e3=>?_)⟩);have e2:y2=3 * (0+(j:Int)):=e2;have Yw:0<=Y/\Y<=1000:=by lia
   refine ⟨c,Y,2,rfl,Yw.1,Yw.2,by decide,by decide,λ H4 r s4 Z Z=>⟨by decide,λ q F G L=>(λ y4 e4=>?_)⟩⟩;clear L e3 e2 Yw;have h4:M[j]<y4/\y4<=M[j]+14:=by lia
   clear e4 e1 F G;refine ⟨s4 _ _ VY,aS (by lia),(T3.trans s4).put PH,⟨M++[y4],by rw [aau];exact af,by rw [aas,O];rfl,λ a x y u N=>?_,λ x u=>?_⟩,_,rfl⟩
   .
    by_cases ha:a+1<M.length
    . rw [aaO ha] at N;rw [aaO (by lia)] at u;exact X2 a x y u N
    .
     have b5:=(SV.mp N).1;rw [aas,abh] at b5;have br:a=j:=by lia
     subst br;rw [aaO (by lia),NL] at u;rw [abM (by lia),show a+1 - M.length=0 by lia] at N;cases u;have N:some y4=some y:=N;cases N;exact h4.1
   . have cy:=J M[j] (aaH _);rcases aaU.mp u with h|h
     . have:=J x h;lia
     . rw [aac.mp h];lia
  rintro U H4 ⟨T4,⟨M,VY,O,X2,J⟩,Zt,rfl⟩;have hl:(M.map V.int).length=C+1:=by rw [Ea,O]
  have J:∀ x∈M,-30<=x/\x<=86:=λ x u=>⟨(J x u).1,acV (J x u).2 (by lia)⟩
  have l0:0<M.length:=by rw [O];exact agH _
  have lc:C<M.length:=by rw [O];exact afd _
  have g0:M[0]?=some M[0]:=aK l0;have gl:M[C]?=some M[C]:=aK lc;have b0:=J M[0] (aaH _);have bl:=J M[C] (aaH _);have WZ:M[0]<=M[C]:=by
    have b6:∀ t (h:t<M.length),M[0]<=M[t]:=λ t=>by
      induction t with
      | zero=>intro h;exact adr _
      | succ t ih =>
        intro h;have h':=Nat.lt_of_succ_lt h;exact acV (ih h') (ady (X2 t M[t] M[t+1] (aK h') (aK h)))
    exact b6 C lc
  generalize cG:M[0]=mf at g0 b0 WZ;generalize cK:M[C]=ml at gl bl WZ;refine ⟨c,0+(i:Int),3,rfl,I,B,by decide,by decide,λ H5 r s5 Z Z=>⟨by decide,λ q F G L=>(λ y ey=>⟨_,_,rfl,?_⟩)⟩⟩;clear L;have N:y<=12:=by lia
  clear ey F G;have Ls:0<=(if y > 0 then y else 0)/\(if y > 0 then y else 0)<=12:=by split<;>lia
  generalize (if y > 0 then y else 0)=be at Ls |-;clear N;refine ⟨c,0+(i:Int),3,rfl,I,B,by decide,by decide,λ H6 r s6 Z Z=>⟨⟨by decide,mN⟩,λ y ey=>⟨by decide,λ q F G L=>(λ S bF=>?_)⟩⟩⟩;clear L ey;have aj:1<=S/\S<=3:=by lia
  clear bF F G;have T6:=(T4.trans s5).trans s6;have RT:H6 p=some (.lst (M.map V.int)):=(s5.trans s6) _ _ VY;refine HP.mk (v:=.int mf) (.inl (aW.of RT)) (bC (by rw [aah,g0];rfl)) λ l bz=>?_;have a7:l<=86/\l.natAbs<=300/\l<=mf:=by lia
  clear bz;refine ⟨_,rfl,.inl (aW.of RT),KW (by rw [hl,aah,ag2,gl];rfl),?_⟩;refine ⟨c,0+(i:Int),4,rfl,I,B,by decide,by decide,λ H7 r s7 Z Z=>⟨by decide,λ q F G L=>(λ y1 bG=>?_)⟩⟩;clear L;have Zi:y1<=86:=by lia
  clear bG F G;refine ⟨c,0+(i:Int),4,rfl,I,B,by decide,by decide,λ H8 r s8 Z Z=>⟨⟨by decide,mN⟩,λ y2 Z=>⟨by decide,λ q2 Z Z Z=>⟨rfl,.inr ⟨_,rfl,(λ Y aI=>⟨_,_,rfl,?_⟩)⟩⟩⟩⟩⟩;have ah:l<=(if Y > l then Y else l)/\(if Y > l then Y else l).natAbs<=300:=by
    have Yw:Y<=87:=by rw [aI];split<;>lia
    clear aI;split
    . lia
    . exact ⟨adr _,a7.2.1⟩
  generalize (if Y > l then Y else l)=RA at ah |-;have T8:=(T6.trans s7).trans s8;have bS:H8 p=some (.lst (M.map V.int)):=(s7.trans s8) _ _ RT;refine ⟨⟨3,5,(show Int.natAbs _<2 ^ 3 by lia),(show Int.natAbs _<2 ^ 5 by lia),by decide⟩,λ y4 V9=>(λ y5 bH=>⟨⟨by decide,mN⟩,λ y6 aY=>?_⟩)⟩;have b2:0<=y4/\y4<=36:=by
    rw [V9];exact ⟨ad2 (acV (by decide) aj.1) Ls.1,afu aj.2 Ls.2 Ls.1 (by decide)⟩
  rw [agd _ (by decide)] at aY;have b3:0<=y6/\y6<=4:=by lia
  clear V9 bH aY b2;refine ⟨c,0+(i:Int),5,rfl,I,B,by decide,by decide,λ H9 r s9 Z Z=>⟨by decide,λ q F G L=>(λ f bu=>?_)⟩⟩;clear L;have SZ:0<=f/\f<=100:=by lia
  clear bu F G b3;have T9:=T8.trans s9;have a8:=s9 _ _ bS;refine ⟨λ g d=>(aE X d/\d p=some (.lst (M.map V.int)))/\∃ (f:Int),(0<=f/\f<=100)/\g=[some (.int c),some (aq n),some (aq R),some (.ref A),some (.int (0+(i:Int))),some (.ref p),Zt,some (.int be),some (.int S),some (.int l),some (.int RA),some (.int f),W1],?_,?_⟩
  . refine ⟨c,0+(i:Int),5,rfl,I,B,by decide,by decide,λ FU r rV Z Z=>⟨⟨by decide,mN⟩,λ y Z=>⟨by decide,λ q Z Z Z=>⟨rfl,_,rfl,jL (λ Z=>?_) (λ Z=>⟨⟨T9.trans rV,rV _ _ a8⟩,f,SZ,rfl⟩)⟩⟩⟩⟩;exact ⟨c,0+(i:Int),5,rfl,I,B,by decide,by decide,λ AK r EB Z Z=>⟨⟨by decide,mN⟩,λ y Z=>⟨by decide,λ q F G Z=>⟨⟨(T9.trans rV).trans EB,(rV.trans EB) _ _ a8⟩,q,⟨F,acV (ady G) (by decide)⟩,rfl⟩⟩⟩⟩
  clear SZ;rintro g FU ⟨⟨Xu,bo⟩,f,SZ,rfl⟩;refine ⟨c,0+(i:Int),6,rfl,I,B,by decide,by decide,λ AK r EB Z Z=>⟨by decide,λ w1 co cr Z=>?_⟩⟩;refine ⟨c,0+(i:Int),6,rfl,I,B,by decide,by decide,λ ZW r zK Z Z=>⟨⟨by decide,mN⟩,λ y Z=>⟨by decide,λ w2 cs bm Z=>?_⟩⟩⟩;refine ⟨c,0+(i:Int),7,rfl,I,B,by decide,by decide,λ V6 r Sz Z Z=>⟨by decide,λ w3 an XM Z=>⟨Ri,λ D jn=>?_⟩⟩⟩;have ba:=ap (o:=.tup [.int f,.int w1,.int w2,.int w3]) jn;have ab:=((Xu.trans EB).trans (zK.trans Sz)).trans ba;have OZ:=((EB.trans (zK.trans Sz)).trans ba) _ _ bo;refine ⟨λ g d=>(aE X d/\d p=some (.lst (M.map V.int)))/\E2 λ (D:ak) (z:Int×Int×Int×Int)=>A4 (d D=some (.tup [.int z.1,.int z.2.1,.int z.2.2.1,.int z.2.2.2])) (A4 (0<=z.1/\z.1<=100) (0<=z.2.1/\z.2.1<=9) (0<=z.2.2.1/\z.2.2.1<=3) (0<=z.2.2.2/\z.2.2.2<=3)) (J1 n z) (g=[some (.int c),some (aq n),some (aq R),some (.ref A),some (.int (0+(i:Int))),some (.ref p),Zt,some (.int be),some (.int S),some (.int l),some (.int RA),some (.int f),some (.ref D)]),?_,?_⟩
  .
   have Ga:(upd V6 D (.tup [.int f,.int w1,.int w2,.int w3])) D=some (.tup [.int f,.int w1,.int w2,.int w3]):=af;refine ⟨_,rfl,jL (λ Z=>?_) (λ a9=>⟨⟨ab,OZ⟩,D,(f,w1,w2,w3),af,⟨SZ,⟨co,acV (ady cr) (by decide)⟩,⟨cs,acV (ady bm) (by decide)⟩,⟨an,acV (ady XM) (by decide)⟩⟩,⟨aeU bm,λ Tg=>absurd (gt1 Tg) a9,aeU XM,λ Tg=>absurd (show (n:Int) > 1 by lia) a9⟩,rfl⟩)⟩;generalize upd V6 D (.tup [.int f,.int w1,.int w2,.int w3])=Zd at ab OZ Ga |-;refine ⟨.inr (cw.of Ga),rfl,by decide,λ u1 cj cl Z=>?_⟩;refine ⟨.inr (cw.of Ga),rfl,by decide,λ u2 bf bk Z=>⟨rfl,.inr ⟨_,rfl,?_⟩⟩⟩;have Mx:∀ b:Bool,0<=(if b=true then (1:Int) else 0)/\(if b=true then (1:Int) else 0)<=1:=λ b=>by cases b<;>decide
   have Ex:3<=n->decide (aq n=V.int 2)=false:=λ h=>aaR λ e=>by have:(n:Int)=2:=V.int.inj e;lia
   have W:=Mx (decide (aq n=V.int 2));have a0:3<=n->(if decide (aq n=V.int 2)=true then (1:Int) else 0)=0:=λ h=>by rw [Ex h];rfl
   generalize (if decide (aq n=V.int 2)=true then (1:Int) else 0)=bb at W a0 |-;refine ⟨⟨3,3,MI bf (Int.lt_trans bk (by decide)),MI W.1 (ag5 W.2 (by decide)),by decide⟩,λ u3 az=>?_⟩;have Yh:0<=u3/\u3<=1:=by
     rw [az];exact ⟨ad2 bf W.1,acV (afu (aeU bk:u2<=1) W.2 W.1 (by decide)) (by decide)⟩
   refine ⟨.inr (cw.of Ga),rfl,?_⟩;refine (show Ko _ _ _ _ _ from GB (a:=decide (aq n=V.int 2)) (b:=decide (V.int (0+(i:Int))=V.int 0)) (λ Q' q=>⟨rfl,q⟩) (λ Q' q=>⟨rfl,q⟩) ?_);refine .inr ⟨_,rfl,?_⟩;have h3:=Mx (decide (aq n=V.int 2) && decide (V.int (0+(i:Int))=V.int 0));have a5:3<=n->(if (decide (aq n=V.int 2) && decide (V.int (0+(i:Int))=V.int 0))=true then (1:Int) else 0)=0:=λ h=>by rw [Ex h];rfl
   generalize (if (decide (aq n=V.int 2) && decide (V.int (0+(i:Int))=V.int 0))=true then (1:Int) else 0)=bc at h3 a5 |-;refine ⟨⟨3,3,MI an (Int.lt_trans XM (by decide)),MI h3.1 (ag5 h3.2 (by decide)),by decide⟩,λ u4 aG=>⟨Ri,λ p5 ZV=>?_⟩⟩;have al:0<=u4/\u4<=1:=by
     rw [aG];exact ⟨ad2 an h3.1,acV (afu (aeU XM:w3<=1) h3.2 h3.1 (by decide)) (by decide)⟩
   have Qc:=ap (o:=.tup [.int f,.int u1,.int u3,.int u4]) ZV;exact ⟨⟨ab.trans Qc,Qc _ _ OZ⟩,p5,(f,u1,u3,u4),af,⟨SZ,⟨cj,acV (ady cl) (by decide)⟩,⟨Yh.1,acV Yh.2 (by decide)⟩,⟨al.1,acV al.2 (by decide)⟩⟩,⟨acV Yh.2 (by decide),λ Z=>Yh.2,al.2,λ h=>⟨by show u3<=0;rw [az,a0 h,Int.mul_zero];exact adr _,by show u4<=0;rw [aG,a5 h,Int.mul_zero];exact adr _⟩⟩,rfl⟩
  rintro g ct ⟨⟨ao,Ux⟩,p5,z5,ZV,ci,fz,rfl⟩;refine ⟨λ g d=>(aE X d/\d p=some (.lst (M.map V.int)))/\E2 λ (sv:V) (t:Option (Int×Int×Int×Int))=>A4 ((t=none/\sv = .cN)\/∃ (D:ak) (z:Int×Int×Int×Int),t=some z/\sv = .ref D/\d D=some (.tup [.int z.1,.int z.2.1,.int z.2.2.1,.int z.2.2.2])) (∀ z,t=some z->(0<=z.1/\z.1<=100)/\(0<=z.2.1/\z.2.1<=9)/\(0<=z.2.2.1/\z.2.2.1<=3)/\(0<=z.2.2.2/\z.2.2.2<=3)) (∀ z,t=some z->J1 n z) (g=[some (.int c),some (aq n),some (aq R),some (.ref A),some (.int (0+(i:Int))),some (.ref p),Zt,some (.int be),some (.int S),some (.int l),some (.int RA),some (.int f),some sv]),?_,?_⟩
  . exact ⟨c,0+(i:Int),7,rfl,I,B,by decide,by decide,λ So r NQ Z Z=>⟨⟨by decide,mN⟩,λ y Z=>⟨by decide,λ q Z Z Z=>⟨rfl,_,rfl,jL (λ Z=>⟨⟨ao.trans NQ,NQ _ _ Ux⟩,.cN,none,.inl ⟨rfl,rfl⟩,nofun,nofun,rfl⟩) (λ Z=>⟨⟨ao.trans NQ,NQ _ _ Ux⟩,.ref p5,some z5,.inr ⟨p5,z5,rfl,rfl,NQ _ _ ZV⟩,λ z e=>by cases e;obtain ⟨a1,a2,a3,a4⟩:=ci;exact ⟨a1,a2,a3,a4⟩,λ z e=>by cases e;exact fz,rfl⟩)⟩⟩⟩⟩
  rintro g So ⟨⟨ad,bn⟩,sv,t,bU,ch,bO,rfl⟩;have Fa:=ad _ _ LN;have Sl:p≠A:=λ z=>by rw [z,LN] at PH;cases PH
  refine ⟨.inl ⟨rfl,_,aW.of Fa⟩,(by show 5<=sizeLine;decide),λ pq Iu=>?_⟩;have Pk:=ap (o:=.tup [.ref p,.int S,.int l,.int RA,sv]) Iu;have UI:=Pk _ _ Fa;have lx:xs.length=i:=by rw [AF.length,Ea,lr]
  refine ⟨UI,aS (by lia),(((S1.trans ad).trans Pk).put RB),⟨_,rs++[⟨M,S,l,RA,t⟩],af,?_,by rw [aas,lr];rfl,λ r s=>?_⟩,_,_,_,_,_,_,_,_,_,rfl⟩
  .
   rw [oU (by simp),aau];have cd:pq≠A:=λ z=>by rw [z,Fa] at Iu;cases Iu
   have ae:∀ {x:ak} {o:HO},(upd So pq (.tup [.ref p,.int S,.int l,.int RA,sv])) x=some o->x≠A->dJ (upd So pq (.tup [.ref p,.int S,.int l,.int RA,sv])) [A] x=some o:=λ h n=>jV h (by simpa using n);refine (bP.same (wG (ad.trans Pk)) _ AF).snoc ?_;refine jw (cw.of (ae af cd)) (bI ⟨p,_,rfl,aW.of (ae (Pk _ _ bn) Sl),?_⟩ (bI rfl (bI rfl (bI rfl (bI ?_ eP)))))
   . exact BQ M
   . rcases bU with ⟨rfl,rfl⟩|⟨D,z,rfl,rfl,jn⟩
     . rfl
     . have cg:D≠A:=λ q=>by rw [q,Fa] at jn;cases jn
       exact jw (cw.of (ae (Pk _ _ jn) cg)) (bI rfl (bI rfl (bI rfl (bI rfl eP))))
  . rcases aaU.mp s with h|h
    . exact yD r h
    . rw [aac.mp h];exact ⟨⟨by show 2<=M.length/\M.length<=5;rw [O];exact ⟨aec a6.1,aec a6.2⟩,X2,λ x u=>UX (J x u),aj,ah.1,a7.2.1,ah.2,ch⟩,⟨by show M.length<=R+1;rw [O];exact aec bQ,bO⟩⟩
 . rintro U X ⟨S1,⟨xs,rs,LN,AF,lr,yD⟩,x4,x5,x6,x7,x8,x9,Gh,NK,W1,rfl⟩;exact (k A xs rs X S1 LN (bP.same ia _ AF) lr yD)
theorem Pc (j:Nat) (h:j<4):∃ g:Int,uS [V.int 1,V.int 4,V.int 16,V.int 64] (j:Int)=some (.int g)/\1<=g/\g<=64:=by
 have:j=0\/j=1\/j=2\/j=3:=by lia
 rcases this with rfl|rfl|rfl|rfl
 . exact ⟨1,bC rfl,by decide,by decide⟩
 . exact ⟨4,bC rfl,by decide,by decide⟩
 . exact ⟨16,bC rfl,by decide,by decide⟩
 . exact ⟨64,bC rfl,by decide,by decide⟩
theorem vA {H:Hp} {r:R7} {v:V} (h:Dn K H (Ke r) v):∃ p a sv,v = .ref p/\cw K H p [.ref a,.int r.share,.int r.low,.int r.high,sv]/\aW K H a (r.marks.map V.int)/\Dn K H (stI r.bE) sv:=by
 obtain ⟨p,w,rfl,i,T,R,rfl,g,n,j,rfl,G,o,k,rfl,b,q,l,rfl,c,t,m,rfl,e,g6⟩:=h;subst G b c g6;obtain ⟨a,u,rfl,f,d⟩:=g;obtain rfl:=ul d;exact ⟨p,a,t,rfl,i,f,e⟩
theorem vi {H:Hp} {z:Int×Int×Int×Int} {v:V} (h:Dn K H (stI (some z)) v):∃ p,v = .ref p/\cw K H p [.int z.1,.int z.2.1,.int z.2.2.1,.int z.2.2.2]:=by
 obtain ⟨p,w,rfl,d,t,r,rfl,g,T,R,rfl,G,i,e,rfl,a,j,f,rfl,b,c⟩:=h;subst g G a b c;exact ⟨p,rfl,d⟩
theorem HN {r:List bZ} (h:∀ (i:Nat) (x y:bZ),r[i]?=some x->r[i+1]?=some y->bW x y=true):jJ r=true:=by
 refine acj.mpr λ b a=>?_;obtain ⟨i,H⟩:=List.getElem?_of_mem a;have c:=(SV.mp H).1;rw [agX,afZ] at c;rw [(wj (aK (show i<r.length by lia)) (aK (show i+1<r.length by lia)))] at H;cases H;exact h i _ _ (aK (by lia)) (aK (by lia))
theorem Os {s:C0} (ok:s.Ok) {r:R7} (c:r.Ok):jJ (r.marks.map λ x=>eZ x s)=true:=by
 refine HN λ i x y h H=>?_;rw [aah] at h H;cases e:r.marks[i]? with
 | none=>rw [e] at h;cases h
 | some a =>
   cases E:r.marks[i+1]? with
   | none=>rw [E] at H;cases H
   | some b =>
     rw [e] at h;rw [E] at H;cases h;cases H;have d:=c.bd a (aae e);have f:=c.bd b (aae E);rw [BN ok (by lia) (by lia)];exact aaS (c.rise i a b e E)
theorem L1 {k:Int} (h:0<=k) (H:k<=3):Qr (nf k 12):=by
 unfold Qr;rw [yu (by decide)];have a:(0:Rat)<=(k:Rat):=by exact_mod_cast h
 have b:(k:Rat)<=3:=by exact_mod_cast H
 have e:((12:Int):Rat)=12:=rfl;rw [e];constructor<;>grind
theorem Wd {k b:Int} (h:0<b) (B:b.natAbs<=10 ^ 25) (H:k.natAbs<=10 ^ 25):eX 100 (nf k b):=by
 have F:=jf (t:=k) h;exact ⟨F.Ra (show Int.natAbs _<2 ^ 100 by lia),F.RC (show Int.natAbs _<2 ^ 100 by lia),F.pos⟩
theorem adp {k b:Int} (h:0<b) (B:b.natAbs<=10 ^ 25) (H:k.natAbs<=10 ^ 25):eX 90 (nf k b):=by
 have F:=jf (t:=k) h;exact ⟨F.Ra (show Int.natAbs _<2 ^ 90 by lia),F.RC (show Int.natAbs _<2 ^ 90 by lia),F.pos⟩
theorem yP {k b:Int} (h:0<b) (H:0<=k):0<=(nf k b).1:=Ov.nonneg h (Ov.nf h) H
set_option maxHeartbeats 0 in
theorem Cr (T:Txt K mg Ad):Def P w K mg base "_law_hold" 7 ["_law_rooms_here","_law_scale_here","_law_bounds","_law_flows"] (Gr K Ad.aY):=by
 refine T.Ez.cW ga λ Z Z Z Z Z H vs Q E G h=>?_;obtain ⟨pr,xs,R,L,s,pb,b0,b1,b2,J,rfl,N,dr,n1,n4,yD,W4,B,FR,Se,Jf,Mx,k⟩:=h;refine ⟨_,(ag (dD (i:=4) ga.nd (rp T.uX (eW T) G.m T.As (aa (aJ aC (pv 2) ai) (aa (aJ aC (pv 2) ai) (aa (aJ aC (pv 2) ai) ac)))))
     (ag (cA aa7 rfl (bw (pv 0)) (fR (i:=5) ga.nd) (ar (aV (aM (pv 4) T.az (iq T) .nil G.m (aa (ft ["_law_mark"] ["_law_scale_here"] [1] (.cons ⟨rfl,rfl,.inl rfl⟩ .nil) rfl (bw (aJ aC (pv 5) ai)) (λ Z Z Z Z Z=>(ky (i:=0))) (λ Z Z Z Z Z=>cB) (λ Z Z Z Z Z=>(au (n6 T) G.m (aa (pv 0) (aa (pv 1) ac))))) ac)))))
     (ag (cA aa7 rfl (bY rfl T.c9 (aa (aT bv (by rfl) T.fc cZ (aa (pv 0) ac)) ac)) (fR (i:=6) ga.nd) (ag (dD (i:=7) ga.nd (au (fZ T) G.m (aa (aJ aC (aJ aC (pv 0) (pv 6)) ai) (aa ai ac))))
     (ag (aV (aM (pv 4) T.az (iM T) .nil G.m (aa (pv 6) (aa (pv 7) (aa (au (n6 T) G.m (aa (aJ aC (aJ aC (pv 0) (pv 6)) ai) (aa (pv 1) ac))) (aa (au (n6 T) G.m (aa (aJ aC (aJ aC (pv 0) (pv 6)) ai) (aa (pv 1) ac))) ac))))))
     (ag (dD (i:=8) ga.nd (aJ aC (aJ aC (pv 0) (pv 6)) ai))
     (ag (kX (bA (aP gw (pv 8) cM (aQ _)) (ar (aV (qV (pv 4) T.az (eI T) G.m (aa (pv 6) (aa (au (fZ T) G.m (aa (aA bM (aJ aC (pv 8) ai) (aJ aC (pv 1) ai)) (aa (aJ aC (pv 1) ai) ac))) (aa (aJ aC (pv 8) ai) (aa (aJ aC (pv 8) ai) (aa (aJ aC (pv 8) ai) ac)))))))) aR))
     (ar (cA aa7 rfl (bY rfl T.c9 (aa (aT bv (by rfl) T.fc cZ (aa (pv 0) ac)) ac)) (fR (i:=9) ga.nd) (ar (bA (aP pE (pv 9) (pv 6) (aQ _)) (ar (aV (aM (pv 4) T.az (ii T) .nil G.m (aa (pv 6) (aa (pv 9) (aa (au (fZ T) G.m (aa (aA bh (aA bJ (pv 3) (aJ aC (bK (aa ai (aa ai (aa ai (aa ai ac))))) (pv 9))) ai) (aa ai ac))) ac)))))) aR)))))))))
     (ar (aO (pv 4)))))),?_⟩
 try dsimp only [kA,cz]
 first|(refine gb ?_;intro Z Z Z Z Z)|skip
 have lx:xs.length=R.length:=by rw [dr.length,Ea]
 refine ⟨.inr FR,rfl,.inr FR,rfl,.inr FR,rfl,λ a NY fa P1 RM=>?_⟩;have s0:aE H (upd (upd H NY (.own a)) a (.ins Ad.aY NY [])):=λ c o hc=>by
   rw [aw (ax hc fa),aw (ax hc P1)];exact hc
 refine ⟨a,NY,b0,b1,b2,rfl,af,by rw [aw RM];exact af,Se,Jf,Mx,λ H1 uB D1=>⟨rfl,?_⟩⟩;obtain ⟨S1,F1⟩:=D1.keep s0 (λ c hc=>by
   simp only [aay,aaj,acd] at hc;rcases hc with rfl|rfl
   . exact fa
   . exact P1)
 refine ⟨⟨_,S1.seq N⟩,?_⟩;refine eA (xs:=xs) (λ i U A=>A3 (aE H A) (E2 λ C m=>A6 (aN K Ad.aY A a C m) (∀ c∈C,H c=none) (m.rows.length=i) (QZ J m) (lG m) (pj R b0 b1 b2 0 m)) (∃ x5,U=[some (.ref pr),some (.ref L),some (.ref pb),some (.int J),some (.ref a),x5,none,none,none,none]))
   ⟨S1,⟨uB,_,D1.at_,F1,rfl,⟨QH.new,λ Z=>Pq,λ Z h=>absurd h aaj⟩,⟨λ Z h=>absurd h aaj,λ Z h=>absurd h aaj,λ Z h=>absurd h aaj,⟨Se,Jf,Mx⟩⟩,pj.new⟩,none,rfl⟩ (λ i U A Z e=>e.1.seq N) ?_ ?_
 .
  rintro Z i x U H2 hx ⟨S,⟨EO,m2,h2,F2,l2,q2,YU,Y⟩,x5,rfl⟩;have X:i<R.length:=by rw [<- lx];exact (SV.mp hx).1
  obtain ⟨v,ev,dv⟩:=dr.get (i:=i) (d:=Ke R[i]) (by rw [aah,aK X];rfl);obtain rfl:x=v:=abb (hx.symm.trans ev);obtain ⟨pq,pm,sv,rfl,M,hm,Z⟩:=vA dv;have l:=yD R[i] (aaH X);have Ij:=UY X;generalize R[i]=r at M hm l dv Ij;obtain ⟨⟨Up,Z,Z,Z,Z,Z,Z,Z,Z,Z,Jd,Z⟩,Z,Z,Z,w2⟩:=id h2;refine ⟨Jd,rfl,.inr (S.tup M),rfl,⟨_,S.seq hm⟩,λ Dl hD=>?_⟩;refine cf (K:=K) (a:=pm) (xs:=r.marks.map V.int) (λ j acc U I=>A4 (aE H2 I) (I Dl=some (.lst acc)) (bP K I ((r.marks.take j).map λ x=>fM (eZ x s)) acc) (∃ v,U=[v,some (.ref L)]))
    ⟨ap hD,af,eP,none,rfl⟩ (λ j acc U I Z e=>(S.trans e.1).seq hm) ?_ ?_
  .
   rintro j y acc U I t ⟨s3,gT,d3,v,rfl⟩;obtain ⟨z,ez,rfl⟩:∃ z,r.marks[j]?=some z/\V.int z=y:=by
     rw [aah] at t;cases e:r.marks[j]? with
     | none=>rw [e] at t;cases t
     | some r=>rw [e] at t;cases t;exact ⟨r,rfl,rfl⟩
   have hz:=l.bd z (aae ez);have Vm:=(SV.mp ez).1;have la:acc.length=j:=by rw [d3.length,Ea,aby];lia
   refine ⟨z,L,s,rfl,(S.trans s3).tup W4,B,by lia,λ q H4 O h4=>?_⟩;have Ya:aZ K H4 (upd H4 Dl (.lst (acc++[.ref q]))):=cq (O _ _ gT) rfl;refine ⟨O _ _ gT,aS (by have:=l.len;lia),(s3.trans O).put hD,af,?_,_,rfl⟩;rw [acI,ez,aau];exact (bP.ts ((aE.ts O).trans Ya) _ (oW _ _) d3).snoc (Dn.ts Ya _ (i8 _) (n9 (cw.of h4)))
  .
   rintro acc U I ⟨s3,gT,d3,v,rfl⟩;rw [Ea,aa4] at d3;have lr:(r.marks.map λ x=>eZ x s).length=r.marks.length:=Ea ..;have a2:bP K I ((r.marks.map λ x=>eZ x s).map fM) acc:=by rw [ac5];exact d3
   have ol:=l.len;refine ⟨a,EO,m2,Dl,acc,r.marks.map λ x=>eZ x s,rfl,h2.same s3,by lia,aW.of gT,a2,λ f hf=>?_,by lia,by lia,Os B l,CJ (λ y t=>?_) (by rw [aas,abh];lia),λ H4 xh D4=>?_⟩
   . obtain ⟨z,hz,rfl⟩:=abv.mp hf;have:=l.bd z hz;exact oy B (by lia)
   . rcases aaU.mp t with t|t
     . exact ⟨(w2.len y t).1,(YU.rise y t).2⟩
     . rw [aac.mp t,lr];exact ol
   . obtain ⟨S4,F4⟩:=D4.keep (S.trans s3) F2;exact ⟨S4,⟨xh,_,D4.at_,F4,by show (m2.rows++[_]).length=_;rw [aas,l2];rfl,⟨q2.q.c8,q2.z,Rb q2.ht⟩,YU.c8 (Os B l) (by lia),Y.c8 (by rw [l2];exact Ij) lr⟩,_,rfl⟩
 rintro U H2 ⟨S,⟨EO,m2,h2,F2,l2,q2,YU,Y⟩,x5,rfl⟩;refine ⟨pr,_,rfl,.inl (S.seq N),λ n en=>⟨_,rfl,by lia,by lia,?_⟩⟩;rw [lx] at en l2;subst en;refine fY (lo:=0) (n:=R.length) (λ i U A=>A3 (aE H A) (E2 λ C m=>A6 (aN K Ad.aY A a C m) (∀ c∈C,H c=none) (m.rows.length=R.length) (QZ J m) (lG m) (pj R b0 b1 b2 i m)) (E4 λ x6 x7 x8 x9=>U=[some (.ref pr),some (.ref L),some (.ref pb),some (.int J),some (.ref a),x5,x6,x7,x8,x9]))
   ⟨S,⟨EO,m2,h2,F2,l2,q2,YU,Y⟩,none,none,none,none,rfl⟩ ?_ ?_
 .
  rintro Z i U I X ⟨S3,⟨Ju,m3,h3,F3,l3,q3,ad,ab⟩,x6,x7,x8,x9,rfl⟩;obtain ⟨v,ev,dv⟩:=dr.get (i:=i) (d:=Ke R[i]) (by rw [aah,aK X];rfl);obtain ⟨pq,pm,sv,rfl,M,hm,D⟩:=vA dv;have l:=yD R[i] (aaH X);have Ij:=UY X;generalize R[i]=r at M hm l dv D Ij;have Rh:uS xs (0+(i:Int))=some (.ref pq):=by rw [abL];exact ir ev
  obtain ⟨⟨Up,Z,Z,Z,Z,Z,Z,Z,Z,Z,Jd,Z⟩,k1,k2,k3,w3⟩:=id h3;have bn:=l.sh;refine ⟨.inl (S3.seq N),Rh,.inr (S3.tup M),rfl,_,_,rfl,by decide,mN,λ q r' u H4 F O hu=>?_⟩;have e4:=yx (K:=K) (by decide) F hu;have S4:=S3.trans O;refine ⟨O _ _ Jd,rfl,.inl (S4.seq N),Rh,.inr (S4.tup M),rfl,r.low,L,s,rfl,S4.tup W4,B,by have:=l.lb;lia,λ q5 H5 s5 h5=>?_⟩;have S5:=S4.trans s5;refine ⟨.inl (S5.seq N),Rh,.inr (S5.tup M),rfl,r.high,L,s,rfl,S5.tup W4,B,by have:=l.hb;lia,λ q6 H6 s6 h6=>?_⟩;have S6:=S5.trans s6;have We:bW (eZ r.high s) (eZ r.low s)=false:=by
    rw [BN B (by have:=l.hb;lia) (by have:=l.lb;lia)];exact aaR (by have:=l.lo;lia)
  have Y9:eX 100 (nf r.share 12):=Wd (by decide) (by decide) (by lia);have ae:=L1 (show 0<=r.share by lia) (by lia);refine ⟨a,Ju,m3,i,.ref u,.ref q5,.ref q6,nf r.share 12,eZ r.low s,eZ r.high s,by rw [abL];rfl,h3.same ((O.trans s5).trans s6),by lia,Dn.same (s5.trans s6) _ e4,Dn.same s6 _ (n9 (cw.of h5)),n9 (cw.of h6),Y9,oy B (by have:=l.lb;lia),oy B (by have:=l.hb;lia),We,(CA Y9.p).mp ae.1,q3.q.zJ w3 k3 (by lia) Y9.p ae.2,λ H7 aj D7=>?_⟩;obtain ⟨S7,F7⟩:=D7.keep S6 F3;have Y3:QZ J (m3.cX i (nf r.share 12,eZ r.low s,eZ r.high s)):=⟨q3.q.cX (by lia) ae,q3.z,q3.ht⟩
  have al:=ab.cX (i:=i) (z:=(nf r.share 12,eZ r.low s,eZ r.high s));have ao:=ad.cX (i:=i) (z:=(nf r.share 12,eZ r.low s,eZ r.high s)) We;refine ⟨.inl (S7.seq N),Rh,.inr (S7.tup M),rfl,?_⟩;refine ⟨λ aI A=>A3 (aE H A) (E2 λ C m=>A6 (aN K Ad.aY A a C m) (∀ c∈C,H c=none) (m.rows.length=R.length) (QZ J m) (lG m) (pj R b0 b1 b2 (i+1) m)) (E2 λ x7 x8=>aI=[some (.ref pr),some (.ref L),some (.ref pb),some (.int J),some (.ref a),x5,some (.int (0+(i:Int))),x7,x8,x9]),?_,?_⟩
  .
   refine ⟨rfl,_,rfl,?_⟩;cases iy:r.bE with
   | none =>
     rw [iy] at D;have D:sv = .cN:=D;subst D;exact fS rfl ⟨S7,⟨aj,_,D7.at_,F7,l3,Y3,ao,al.skip Ij iy⟩,_,_,rfl⟩
   | some z =>
     rw [iy] at D;obtain ⟨pz,rfl,CS⟩:=vi D;obtain ⟨z1,z2,z3,z4⟩:=l.st z iy;refine xK (λ Z=>?_) (λ q=>nomatch q);obtain ⟨⟨bk,Z,Z,Z,Z,Z,Z,Z,Z,Z,a5,Z⟩,Z⟩:=id D7.at_;have oa:=B.a;have ob:=B.b;refine ⟨a5,rfl,.inr (S7.tup CS),rfl,.inr (S7.tup W4),rfl,⟨10,40,(show Int.natAbs _<2 ^ 10 by lia),(show Int.natAbs _<2 ^ 40 by lia),by decide⟩,λ y ey=>?_⟩;refine ⟨.inr (S7.tup W4),rfl,_,_,rfl,by lia,(show Bd 40 s.b from (show s.b.natAbs<2 ^ 40 by lia)).mono (by decide),λ q r' u8 H8 F8 s8 a8=>?_⟩;have e8:=yx (K:=K) (by lia) F8 a8;have W:=S7.trans s8;have t:0<=y/\y.natAbs<=10 ^ 12:=by
       rw [ey];refine ⟨ad2 z1.1 (by lia),?_⟩;have:=yJ (x:=100) (y:=10 ^ 9) (a:=z.1) (b:=s.a) (by lia) (by lia);lia
     have o8:eX 100 (nf y s.b):=Wd (by lia) (by lia) (by lia);refine ⟨.inr (W.tup CS),rfl,.inr (W.tup CS),rfl,.inr (W.tup CS),rfl,a,aj,_,i,.ref u8,nf y s.b,z.2.1,z.2.2.1,z.2.2.2,by rw [abL];rfl,D7.at_.same s8,by show i<m3.rows.length;lia,e8,o8,yP (by lia) t.1,z2,z3,z4,λ H9 XO D9=>?_⟩;obtain ⟨S9,F9⟩:=D9.keep W F7;exact ⟨S9,⟨XO,_,D9.at_,F9,l3,⟨Y3.q.bD,Y3.z,QE Y3.ht (adp (by lia) (by lia) (by lia))⟩,ao.bD (z:=(nf y s.b,z.2.1,z.2.2.1,z.2.2.2)) ⟨yP (by lia) t.1,z2,z3,z4⟩,al.bD (by have:=D7.at_.st;have e7:(m3.cX i (nf r.share 12,eZ r.low s,eZ r.high s)).rows.length=m3.rows.length:=rfl;lia) Ij iy rfl⟩,_,_,rfl⟩
  rintro aI H8 ⟨W,⟨a4,m8,h8,F8,l8,q8,bb,ba⟩,bc,be,rfl⟩;refine ⟨pr,_,rfl,.inl (W.seq N),λ n en=>⟨_,rfl,by lia,by lia,?_⟩⟩;rw [lx] at en;subst en;refine fY (lo:=0) (n:=R.length) (λ j U A=>A3 (aE H A) (E2 λ C m=>A6 (aN K Ad.aY A a C m) (∀ c∈C,H c=none) (m.rows.length=R.length) (QZ J m) (lG m) (pj R b0 b1 b2 (i+1) m)) (∃ x9,U=[some (.ref pr),some (.ref L),some (.ref pb),some (.int J),some (.ref a),x5,some (.int (0+(i:Int))),bc,be,x9]))
    ⟨W,⟨a4,m8,h8,F8,l8,q8,bb,ba⟩,_,rfl⟩ ?_ ?_
  .
   rintro Z j U H9 hj ⟨S9,⟨XO,m9,h9,F9,l9,q9,aG,an⟩,bf,rfl⟩;refine ⟨rfl,_,rfl,xK (λ ne=>?_) (λ Z=>⟨S9,⟨XO,m9,h9,F9,l9,q9,aG,an⟩,_,rfl⟩)⟩;have xf:i≠j:=λ z=>ne (by rw [z]);obtain ⟨⟨bm,Z,Z,Z,Z,Z,Z,Z,Z,Z,a6,Z⟩,o1,o2,o3,w9⟩:=id h9;refine ⟨a6,rfl,Ri,λ p4 a7=>?_⟩;have rV:=ap (o:=.lst [.int 1,.int 4,.int 16,.int 64]) a7;have Rc:∃ g:Int,uS [V.int 1,V.int 4,V.int 16,V.int 64] (0+(j:Int))=some (.int g)/\1<=g/\g<=64:=by
     rw [abL];exact Pc j (by lia)
   obtain ⟨g,hg,g1,g2⟩:=Rc;refine ⟨.inl (aW.of af),hg,⟨by lia,(show Bd 10 g from (show g.natAbs<2 ^ 10 by lia)).mono (by decide)⟩,λ y ey=>⟨by decide,λ q q0 q1 eq=>?_⟩⟩;refine ⟨_,_,rfl,by decide,mN,λ qq r' u AK a0 EB hu=>?_⟩;have a3:=yx (K:=K) (by decide) a0 hu;have Q1:=L1 q0 (by lia);have P0:eX 100 (nf q 12):=Wd (by decide) (by decide) (by lia);have zK:=rV.trans EB;refine ⟨a,XO,m9,i,j,.ref u,nf q 12,by rw [abL,abL];rfl,h9.same zK,by lia,by lia,xf,a3,P0,(CA P0.p).mp Q1.1,q9.q.wO w9 o3 (by lia) (by lia) xf P0.p Q1.2,λ V6 a1 ah=>?_⟩;obtain ⟨OH,XW⟩:=ah.keep (S9.trans zK) F9;refine ⟨OH,⟨a1,_,ah.at_,XW,l9,q9.cK xf Q1 (λ e=>?_),aG.cK,an.cK⟩,_,rfl⟩;subst e;rw [Int.zero_fdiv] at ey;rw [ey] at eq;rw [eq];rfl
  . rintro U H9 ⟨S9,a9,bf,rfl⟩;exact ⟨S9,a9,_,_,_,_,rfl⟩
 . rintro U I ⟨S3,⟨Ju,m3,h3,F3,l3,q3,ad,ab⟩,x6,x7,x8,x9,rfl⟩;exact (k a Ju m3 I S3 h3 F3 l3 q3 ad ab)
theorem OQ (i:Nat) (h:i<4):uS [V.int 1,V.int 2,V.int 4,V.int 8] (i:Int)=some (.int ((2 ^ i:Nat):Int)):=by
 have:i=0\/i=1\/i=2\/i=3:=by lia
 rcases this with rfl|rfl|rfl|rfl<;>exact bC rfl
set_option maxHeartbeats 0 in
theorem zO (T:Txt K mg Ad):Def P w K mg base "_law_state" 2 ["_law_rooms_here","_law_bounds","_law_cell","_law_k"] (C9 K):=by
 refine T.Ci.cW cS λ Z Z Z Z Z H vs Q E hr h=>?_;obtain ⟨pr,xs,rs,a3,b0,b1,b2,c,kk,rfl,mS,dr,n1,n4,yD,FR,Se,Jf,k0,k1,k⟩:=h;refine ⟨_,(ag (dD (i:=4) cS.nd (bK ac))
     (ag (dD (i:=5) cS.nd (bK ac))
     (ag (dD (i:=6) cS.nd (bK ac))
     (ag (dD (i:=7) cS.nd ai)
     (ag (dD (i:=8) cS.nd ai)
     (ag (cA aa7 rfl (bY rfl T.c9 (aa (aT bv (by rfl) T.fc cZ (aa (pv 0) ac)) ac)) (fR (i:=9) cS.nd) (ag (dD (i:=10) cS.nd (aJ aC (aJ aC (pv 0) (pv 9)) ai))
     (ag (aV (hX abE abG abF cD (pv 4) (aa (aA bh (au (cb T) hr.m (aa (pv 2) (aa (aA bL (pv 3) (pv 9)) (aa ai ac)))) (aA fA (aT bv (by rfl) T.fc cZ (aa (aJ aC (aJ aC (pv 0) (pv 9)) ai) ac)) ai)) ac)))
     (ag (aV (hX abE abG abF cD (pv 5) (aa ai ac)))
     (ag (aV (hX abE abG abF cD (pv 6) (aa ai ac)))
     (ag (dD (i:=11) cS.nd (au (cb T) hr.m (aa (pv 2) (aa (aA bL (pv 3) (aA bM ai (pv 9))) (aa ai ac)))))
     (ar (bA (PW.pt (k9 (aP gw (pv 10) cM (aQ _)) (iX (aP kI (aA bh (pv 11) ai) ai (aQ _))))) (ag (gL (aA bh (aA bJ (pv 11) ai) (aA bL (aJ aC (pv 10) ai) ai)) (sj (pv 5) (pv 9) set_list))
     (ar (bA (PW.pt (k9 (aP fT (aA bh (pv 11) ai) ai (aQ _)) (iX (aP kI (pv 8) (aJ aC (pv 1) ai) (aQ _))))) (ag (dD (i:=7) cS.nd (aA bL (pv 7) (aJ aC (bK (aa ai (aa ai (aa ai (aa ai ac))))) (pv 9))))
     (ar (dD (i:=8) cS.nd (aA bL (pv 8) ai)))) aR))) (ar (bA (aP gw (pv 10) cM (aQ _)) (ar (gL (aA bh (aA bJ (pv 11) ai) (aA bL (aJ aC (pv 10) ai) ai)) (sj (pv 6) (pv 9) set_list))) aR))))))))))
     (ar (aO (ca (aa (cU dQ (by rfl) T.kN je (aa (pv 4) ac)) (aa (pv 7) (aa (cU dQ (by rfl) T.kN je (aa (pv 5) ac)) (aa (cU dQ (by rfl) T.kN je (aa (pv 6) ac)) (aa (aA bh (au (cb T) hr.m (aa (pv 2) (aa (pv 3) (aa ai ac)))) (aA bL (aJ aC (pv 1) ai) ai)) ac)))))))))))))),?_⟩
 try dsimp only [kA,cz]
 first|(refine KC ?_;intro Z Z Z Z Z Z Z Z)|skip
 have lx:xs.length=rs.length:=by rw [dr.length,Ea]
 refine ⟨AN,λ t hb=>⟨AN,λ p hw=>⟨AN,λ j R=>?_⟩⟩⟩;have sb:=ap (o:=.lst []) hb;have sw:=ap (o:=.lst []) hw;have sf:=ap (o:=.lst []) R;have ah:=(sw.trans sf) _ _ (af (H:=H) (a:=t) (o:=.lst []));have al:=sf _ _ (af (H:=upd H t (.lst [])) (a:=p) (o:=.lst []));have Y1:t≠p:=λ z=>by rw [<- z,af] at hw;cases hw
 have Yp:t≠j:=λ z=>by rw [<- z] at R;rw [sw _ _ af] at R;cases R
 have Xn:p≠j:=λ z=>by rw [<- z,af] at R;cases R
 have aj:(upd (upd (upd H t (.lst [])) p (.lst [])) j (.lst [])) j=some (.lst []):=af;have S0:=(sb.trans sw).trans sf;have aG:H p=none:=sb.free hw;have az:H j=none:=(sb.trans sw).free R;generalize upd (upd (upd H t (.lst [])) p (.lst [])) j (.lst [])=H0 at ah al aj S0 |-;refine ⟨pr,_,rfl,.inl (S0.seq mS),λ n en=>⟨_,rfl,by lia,by lia,?_⟩⟩;rw [lx] at en;subst en;refine fY (lo:=0) (n:=rs.length) (λ i U H'=>aE H H'/\E4 λ (B g F:aH) (s:Nat)=>A5 (H' t=some (.lst (B.map aq))) (H' p=some (.lst (g.map aq))) (H' j=some (.lst (F.map aq))) (pN rs b0 i B g F s) (E3 λ (x9 Gh NK:eU)=>U=[some (.ref pr),some (.ref a3),some (.int c),some (.int kk),some (.ref t),some (.ref p),some (.ref j),some (aq s),some (aq (Bit.rooms s).length),x9,Gh,NK]))
   ⟨S0,[],[],[],0,ah,al,aj,pN.zero Se,none,none,none,rfl⟩ ?_ ?_
 .
  rintro Z i U H1 hi ⟨S1,B,g,F,s,RD,O,N,u,x9,Gh,NK,rfl⟩;obtain ⟨v,ev,dv⟩:=dr.get (i:=i) (d:=Ke rs[i]) (by rw [aah,aK hi];rfl);obtain ⟨pq,pm,sv,rfl,hq,hm,D⟩:=vA dv;have kB:=yD rs[i] (aaH hi);have Ij:=UY hi;generalize rs[i]=r at hq hm kB dv D Ij;have lb:=u.lb;have lw:=u.lw;have lf:=u.lf;have XY:i<61:=by lia
  have Rh:uS xs (0+(i:Int))=some (.ref pq):=by rw [abL];exact ir ev
  have ol:=kB.len;refine ⟨.inl (S1.seq mS),Rh,.inr (S1.tup hq),rfl,?_⟩;refine ⟨.inl ⟨rfl,_,aW.of RD⟩,λ y1 e1=>⟨c,y1,0,rfl,by lia,by lia,by decide,by decide,λ G r2 S Z Z=>?_⟩⟩;have S2:=S1.trans S;refine ⟨.inl (S2.seq mS),Rh,.inr (S2.tup hq),rfl,pm,_,rfl,.inl (S2.seq hm),λ y2 e2=>(λ y3 e3=>⟨by rw [Ea] at e2;lia,λ q q0 q1 Z=>?_⟩)⟩;obtain ⟨q,rfl⟩:∃ x:Nat,q=(x:Int):=⟨q.toNat,by lia⟩
  have X8:q+1<r.marks.length:=by rw [Ea] at e2;lia
  have Z7:=S _ _ RD;have ao:=S _ _ O;have an:=S _ _ N;refine ⟨Z7,aS (by rw [Ea];lia),?_⟩;refine ⟨.inl ⟨rfl,_,aW.of (by rw [aw Y1.symm];exact ao)⟩,by rw [aw Y1.symm];exact ao,aS (by rw [Ea];lia),?_⟩;refine ⟨.inl ⟨rfl,_,aW.of (by rw [aw Xn.symm,aw Yp.symm];exact an)⟩,by rw [aw Xn.symm,aw Yp.symm];exact an,aS (by rw [Ea];lia),?_⟩;have S3:aE H (upd (upd (upd G t (.lst (B.map aq++[.int (q:Int)]))) p (.lst (g.map aq++[.int 0]))) j (.lst (F.map aq++[.int 0]))):=((S2.put hb).put aG).put az;have ab:(upd (upd (upd G t (.lst (B.map aq++[.int (q:Int)]))) p (.lst (g.map aq++[.int 0]))) j (.lst (F.map aq++[.int 0]))) t=some (.lst ((B++[q]).map aq)):=by rw [aw Yp,aw Y1,af,aau];rfl
  have ae:(upd (upd (upd G t (.lst (B.map aq++[.int (q:Int)]))) p (.lst (g.map aq++[.int 0]))) j (.lst (F.map aq++[.int 0]))) p=some (.lst ((g++[0]).map aq)):=by rw [aw Xn,af,aau];rfl
  have ad:(upd (upd (upd G t (.lst (B.map aq++[.int (q:Int)]))) p (.lst (g.map aq++[.int 0]))) j (.lst (F.map aq++[.int 0]))) j=some (.lst ((F++[0]).map aq)):=by rw [af,aau];rfl
  generalize upd (upd (upd G t (.lst (B.map aq++[.int (q:Int)]))) p (.lst (g.map aq++[.int 0]))) j (.lst (F.map aq++[.int 0]))=H3 at S3 ab ae ad |-;refine ⟨⟨3,5,mN,(show Int.natAbs _<2 ^ 5 by lia),by decide⟩,λ y4 e4=>(λ y5 e5=>?_)⟩;have e4:y4=7 * (0+(i:Int)):=e4;refine ⟨c,y5,1,rfl,by lia,by lia,by decide,by decide,λ I xv A a9 Z=>?_⟩;have J:=S3.trans A;have L:=A _ _ ab;have ZQ:=A _ _ ae;have M:=A _ _ ad;have sl:∀ {l:aH} {a b:Nat},l.length=i->(l++[a]).set i b=l++[b]:=λ {l a b} e=>by subst e;simp
  cases X:r.bE with
  | none =>
    rw [X] at D;have D:sv = .cN:=D;subst D;exact ⟨rfl,_,rfl,fS rfl ⟨rfl,_,rfl,fS rfl ⟨J,_,_,_,s,L,ZQ,M,(u.next (w:=0) (f:=0) (lit:=false) XY Ij X8 (by rw [X];exact ⟨rfl,rfl,rfl⟩) nofun).1,_,_,_,rfl⟩⟩⟩
  | some z =>
    rw [X] at D;obtain ⟨pz,rfl,CS⟩:=vi D;obtain ⟨z1,z2,z3,z4⟩:=kB.st z X;have TY:=J.tup CS;refine ⟨rfl,_,rfl,xK (λ Z=>?_) (λ q=>nomatch q)⟩;refine ⟨by decide,λ m4 a7 a8 a6=>⟨_,rfl,jL (λ Z=>?_) (λ Z=>?_)⟩⟩
    .
     refine ⟨⟨by decide,mN⟩,λ y6 Z=>⟨.inr TY,rfl,λ y7 e7=>⟨by lia,λ W a4 a5 Z=>?_⟩⟩⟩;obtain ⟨W,rfl⟩:∃ x:Nat,W=(x:Int):=⟨W.toNat,by lia⟩
     have Yl:(W:Int)<=z.2.2.1:=by lia
     refine ⟨p,_,_,i,rfl,rfl,ZQ,(by rw [abL];exact mF (by rw [Ea,aas];show i<g.length+1;lia)),?_⟩;have S5:aE H (upd I p (.lst (((g++[0]).map aq).set i (.int (W:Int))))):=J.put aG;have YK:(upd I p (.lst (((g++[0]).map aq).set i (.int (W:Int))))) p=some (.lst ((g++[W]).map aq)):=by rw [af,show V.int (W:Int)=aq W from rfl,<- afW,sl lw]
     have YI:(upd I p (.lst (((g++[0]).map aq).set i (.int (W:Int))))) t=some (.lst ((B++[q]).map aq)):=by rw [aw Y1];exact L
     have RU:(upd I p (.lst (((g++[0]).map aq).set i (.int (W:Int))))) j=some (.lst ((F++[0]).map aq)):=by rw [aw Xn.symm];exact M
     generalize upd I p (.lst (((g++[0]).map aq).set i (.int (W:Int))))=H5 at S5 YK YI RU |-;have Oh:=(u.next (w:=W) (f:=0) (lit:=false) XY Ij X8 (by rw [X];exact ⟨Yl,z4.1,.inl rfl⟩) nofun).1;refine ⟨by decide,λ m5 Z Z Z=>⟨rfl,_,rfl,jL (λ Z=>?_) (λ Z=>⟨S5,_,_,_,s,YI,YK,RU,Oh,_,_,_,rfl⟩)⟩⟩;refine ⟨.inr (S5.tup FR),rfl,_,rfl,jL (λ lN=>?_) (λ Z=>⟨S5,_,_,_,s,YI,YK,RU,Oh,_,_,_,rfl⟩)⟩;refine ⟨Ri,λ p6 aI=>?_⟩;have C:=ap (o:=.lst [.int 1,.int 2,.int 4,.int 8]) aI;have Rc:uS [V.int 1,V.int 2,V.int 4,V.int 8] (0+(i:Int))=some (.int ((2 ^ i:Nat):Int)):=by
       rw [abL];exact OQ i (by lia)
     refine ⟨.inl (aW.of af),Rc,λ y8 e8=>(λ y9 e9=>?_)⟩;obtain rfl:y8=((s+2 ^ i:Nat):Int):=by rw [e8];push_cast;rfl
     obtain ⟨a2,Y⟩:=u.next (w:=W) (f:=0) (lit:=true) XY Ij X8 (by rw [X];exact ⟨Yl,z4.1,.inl rfl⟩) (λ Z=>lN);have Y:(Bit.rooms (s+2 ^ i)).length=(Bit.rooms s).length+1:=Y;obtain rfl:y9=(((Bit.rooms (s+2 ^ i)).length:Nat):Int):=by rw [e9,Y];push_cast;rfl
     exact ⟨S5.trans C,_,_,_,s+2 ^ i,C _ _ YI,C _ _ YK,C _ _ RU,a2,_,_,_,rfl⟩
    .
     refine ⟨rfl,_,rfl,xK (λ Z=>?_) (λ q=>nomatch q)⟩;refine ⟨⟨by decide,mN⟩,λ y6 Z=>⟨.inr TY,rfl,λ y7 e7=>⟨by lia,λ W a4 a5 Z=>?_⟩⟩⟩;obtain ⟨W,rfl⟩:∃ x:Nat,W=(x:Int):=⟨W.toNat,by lia⟩
     have Yl:(W:Int)<=z.2.2.2:=by lia
     refine ⟨j,_,_,i,rfl,rfl,M,(by rw [abL];exact mF (by rw [Ea,aas];show i<F.length+1;lia)),?_⟩;have RU:(upd I j (.lst (((F++[0]).map aq).set i (.int (W:Int))))) j=some (.lst ((F++[W]).map aq)):=by rw [af,show V.int (W:Int)=aq W from rfl,<- afW,sl lf]
     exact ⟨J.put az,_,_,_,s,by rw [aw Yp];exact L,by rw [aw Xn];exact ZQ,RU,(u.next (w:=0) (f:=W) (lit:=false) XY Ij X8 (by rw [X];exact ⟨z3.1,Yl,.inr ⟨rfl,rfl⟩⟩) nofun).1,_,_,_,rfl⟩
 .
  rintro U H1 ⟨S1,B,g,F,s,RD,O,N,u,x9,Gh,NK,rfl⟩;refine ⟨t,_,rfl,.inl ⟨aW.of RD,λ t1 a0=>?_⟩⟩;have S:=ap (o:=.tup (B.map aq)) a0;have e2:(upd H1 t1 (.tup (B.map aq))) t1=some (.tup (B.map aq)):=af;generalize upd H1 t1 (.tup (B.map aq))=G at S e2 |-;refine ⟨p,_,rfl,.inl ⟨aW.of (S _ _ O),λ t2 a1=>?_⟩⟩;have s3:=ap (o:=.tup (g.map aq)) a1;have e3:(upd G t2 (.tup (g.map aq))) t2=some (.tup (g.map aq)):=af;generalize upd G t2 (.tup (g.map aq))=H3 at s3 e3 |-;refine ⟨j,_,rfl,.inl ⟨aW.of ((S.trans s3) _ _ N),λ t3 Si=>?_⟩⟩;have A:=ap (o:=.tup (F.map aq)) Si;have e4:(upd H3 t3 (.tup (F.map aq))) t3=some (.tup (F.map aq)):=af;generalize upd H3 t3 (.tup (F.map aq))=I at A e4 |-;refine ⟨c,kk,2,rfl,k0,by lia,by decide,by decide,λ H5 r5 s5 Z Z=>?_⟩;have J:=((S1.trans S).trans s3).trans A;refine ⟨.inr ((J.trans s5).tup FR),rfl,λ y e=>⟨by lia,λ hp Lu yt Z=>⟨(by show 5<=sizeLine;decide),λ qt aY=>?_⟩⟩⟩;obtain ⟨hp,rfl⟩:∃ x:Nat,hp=(x:Int):=⟨hp.toNat,by lia⟩
  have C:=ap (o:=.tup [.ref t1,aq s,.ref t2,.ref t3,aq hp]) aY;refine k qt ⟨B,s,g,F,hp⟩ _ ((J.trans s5).trans C) ⟨t1,t2,t3,cw.of af,cw.of (((s3.trans A).trans (s5.trans C)) _ _ e2),cw.of ((A.trans (s5.trans C)) _ _ e3),cw.of ((s5.trans C) _ _ e4)⟩ u (by show (hp:Int)<=b1;lia)
theorem DF (T:Txt K mg Ad):Def P w K mg base "rank_of" 14 ["hold","state"] (GH K Ad.aY):=by
 refine T.HE.cW Ed λ Z Z Z Z Z H V Q E e h=>?_;obtain ⟨a,j,m,q,x,rfl,l,G,F,i,b,u,k⟩:=h;refine ⟨_,(ar (aO (lX (P:=P) (w:=w) (K:=K) rfl rfl rfl e.La (kq (gC (P:=P) (w:=w) T) e.m (aa (pv 0) (aa (bK (aa (pv 1) ac)) ac))) (pv 1) (λ Z Z=>rfl)))),?_⟩;try dsimp only [kA,cz]
 refine ⟨Fn,λ n I=>?_⟩;have sl:=ap (o:=.lst [.ref q]) I;refine ⟨a,n,2000,j,m,[.ref q],[x],rfl,l.same sl,G,F,by decide,i,af,.cons ⟨q,rfl,b.same sl⟩ .nil,λ s b=>by rw [aac.mp b];exact u,λ p A f t c d=>?_⟩;obtain ⟨v,g,r⟩:=d _ (aac.mpr rfl);have S:=sl.trans t;exact ⟨p,q,A,_,_,rfl,rfl,c,gv (b.same S),g,k v f S r⟩
theorem uy (T:Txt K mg Ad):Def P w K mg base "stoves_share" 7 ["hold"] (C6 K Ad.aY):=by
 refine T.wg.cW mR λ Z Z Z Z Z H v Q E d h=>?_;obtain ⟨a,F,m,rfl,c,k⟩:=h;refine ⟨_,(ag (dD (i:=1) mR.nd (au (kP T) d.m (aa (pv 0) ac)))
     (ar (aO (Lc (dL ur (au (qx T) d.m (aa (pv 0) (aa (pv 1) ac))) ai (aQ _)) (mm (dL ur (au (nM T) d.m (aa (pv 1) ac)) (aU (pv 0) rfl) (aQ _))))))),?_⟩
 try dsimp only [kA,cz]
 refine ⟨a,F,m,rfl,c,λ p g=>⟨a,F,m,m.ws,rfl,c.same g,λ l o=>?_⟩⟩;have s:=g.trans o;have b:=λ f (S:aE l f)=>k f (s.trans S);unfold QM at b;refine ⟨_,rfl,?_⟩;cases e:decide (0<m.gY m.ws) with
 | true =>
   rw [show decide (m.gY m.ws > 0)=true from e,Bool.true_or] at b;exact fH (b _ (aE.refl _))
 | false =>
   rw [show decide (m.gY m.ws > 0)=false from e,Bool.false_or] at b;obtain ⟨⟨D,Z,Z,Z,Z,Z,Z,Z,Z,Z,n,Z⟩,Z⟩:=id c;exact dk ⟨m.ws,rfl,aa6 (rR c.mx) (by decide),λ q j=>⟨(s.trans j) _ _ n,T.az,T.gf,nc ..,b _ j⟩⟩
set_option maxHeartbeats 0 in
theorem kS (T:Txt K mg Ad)   : Def P w K mg base "rank_apart" 15 ["hold","state"] (K8 K Ad.aY):=by
 refine T.Aa.cW kW λ _ _ _ _ _ H f Q E B h=>?_;obtain ⟨a,W,m,p,st,rfl,l,qh,pk,l5,f3,hs,O,ns,k⟩:=h;refine ⟨_,(ag (aV (au (iU T) B.m (aa (pv 0) (aa (pv 1) ac))))
     (ag (dD (i:=2) kW.nd (au (ug T) B.m (aa (pv 0) ac)))
     (ag (bA (PW.pt (k9 (aP ur (aT bv (by rfl) T.fc cZ (aa (pv 2) ac)) ai (aQ _)) (iX (cP (au (uy T) B.m (aa (pv 0) ac)))))) (ar cH) aR)
     (ag (mQ (yi:=3) ["rooms"] ["hold","state"] [0,1] (.cons ⟨rfl,rfl,.inl rfl⟩ (.cons ⟨rfl,rfl,.inl rfl⟩ .nil)) rfl (bw (pv 2)) (λ _ _ _ _ _=>(ky (i:=0))) (λ _ _ _ _ _=>cB) (λ _ _ _ _ _=>(au (DF T) B.m (aa (au (pK T) B.m (aa (pv 1) (aa (pv 0) ac))) (aa (au (vK T) B.m (aa (pv 2) (aa (pv 0) ac))) ac)))) kW.nd (lc rfl))
     (ar (aO (Mt (K:=K) rfl rfl (by rfl) T.JT Dw (aa (ft ["rank"] [] [] .nil rfl (bw (pv 3)) (λ _ _ _ _ _=>(ky (i:=0))) (λ _ _ _ _ _=>(gJ (aP gw (pv 0) cM (aQ _)))) (λ _ _ _ _ _=>(pv 0))) ac) (LD cM PN)))))))),?_⟩
 try dsimp only [kA,cz]
 first|(refine nA ?_;intro _ _ _ _ _ _)|skip
 rename_i d z r4 r3 r2 r1
 refine ⟨a,W,m,p,st,rfl,l,hs,O,λ H1 s1=>?_⟩
 .
  skip
  refine ⟨a,W,m,rfl,l.same s1,λ pp as H2 s2 n2 na _ _ e2 L=>?_⟩;have S2:=s1.trans s2;have L:Js H2 as (pM m):=L;refine ⟨pp,_,rfl,.inl (aW.of e2),λ n en=>⟨_,rfl,?_⟩⟩;rw [Ea,L.1] at en;subst en;have rest:∀ H3,aE H2 H3->r3 d (List.set z 2 (some (V.ref pp))) H3:=λ H3 S=>by
    have S3:=S2.trans S;refine ⟨⟨_,aW.of (S _ _ e2)⟩,λ D hD=>?_⟩;refine cf (K:=K) (a:=pp) (xs:=as.map V.ref) (λ j A U y=>A4 (aE H3 y) (y D=some (.lst A)) (∃ f,A=f.map iE/\Paired (Qk m st) ((pM m).take j) f) (∃ v,U=[v,some (.ref a),some (.ref p)])) ⟨ap hD,af,⟨[],rfl,.nil⟩,none,rfl⟩ (λ j A U y _ e=>aW.of (e.1 _ _ (S _ _ e2))) ?_ ?_
    .
     rintro j x A U H4 g ⟨s4,zd,⟨f,rfl,pv⟩,v,rfl⟩;rw [aah] at g;obtain ⟨b,G,rfl⟩:∃ b,as[j]?=some b/\V.ref b=x:=by
       cases e:as[j]? with
       | none=>rw [e] at g;cases g
       | some b=>rw [e] at g;cases g;exact ⟨b,rfl,rfl⟩
     have jl:j<(pM m).length:=by rw [<- L.1];exact (SV.mp G).1
     have er:=UY jl;have G:=L.2 j b _ G er;have pa:=we (m:=m) l.mx;have X:(pM m)[j]∈pM m:=aaH jl;generalize (pM m)[j]=R at er G X;have N:=pa.rs X;have F:=S.trans s4;have S4:=S2.trans F;have J:aW K H4 b (R.map aq):=aW.of (F _ _ G);refine ⟨a,W,m,b,R,rfl,l.same S4,qh,pk,l5 R X,J,N,pa.cr R X,λ o Cg po H5 s Y Fo qo on=>?_⟩;have q:Pw m R po:=⟨⟨l.mx,l.sk,l.st,l.wf,Y.wf,qh,qo,N,on,pa.cr R X,pk⟩,Y.st,Y.sk⟩
     refine ⟨p,b,st,R,rfl,hs.same (S4.trans s),s.seq J,λ r h=>⟨by rw [O.lb];exact N.lt r h,by rw [O.lw];exact N.lt r h,by rw [O.lf];exact N.lt r h⟩,q.pt.l4,λ t H6 s6 e6=>?_⟩;refine ⟨o,Cg,po,t,eL st R,rfl,Y.same s6,q.pt.gm q.sp q.kp,(f3 R X po q).1,(f3 R X po q).2,e6.at,q.pt.IA O,λ u H7 s7 rk=>?_⟩;have S7:=(s.trans s6).trans s7;have lv:=pv.length;rw [aby] at lv;have l4:(pM m).length<=4:=oJ _ _ _ _ _ _ ⟨m.rows.length,ae5 l.mx⟩;exact ⟨S7 _ _ zd,aS (by rw [Ea];lia),(s4.trans S7).put hD,af,⟨f++[u],by rw [aau];rfl,by rw [acI,er];exact pv.snoc ⟨po,q,rk⟩⟩,_,rfl⟩
    .
     rintro A U H4 ⟨s4,zd,⟨f,rfl,pv⟩,v,rfl⟩;rw [Ea,L.1,aa4] at pv;refine ⟨⟨_,aW.of zd⟩,λ D2 gF=>?_⟩;refine cf (K:=K) (a:=D) (xs:=f.map iE) (λ j A U y=>A4 (aE H4 y) (y D2=some (.lst A)) (A=((f.take j).filterMap id).map aq) (∃ v,U=[v])) ⟨ap gF,af,rfl,none,rfl⟩ (λ j A U y _ e=>aW.of (e.1 _ _ zd)) ?_ ?_
     .
      rintro j x A U H5 g ⟨s,C,rfl,v,rfl⟩;rw [aah] at g;obtain ⟨u,eu,rfl⟩:∃ u,f[j]?=some u/\iE u=x:=by
        cases e:f[j]? with
        | none=>rw [e] at g;cases g
        | some b=>rw [e] at g;cases g;exact ⟨b,rfl,rfl⟩
      have et:(f.take (j+1)).filterMap id=(f.take j).filterMap id++u.toList:=by
        rw [acI,eu,agK];cases u<;>rfl
      have lf:=agm id (f.take j);have lt:=agR j f;have lv:=pv.length;have l4:(pM m).length<=4:=oJ _ _ _ _ _ _ ⟨m.rows.length,ae5 l.mx⟩;refine ⟨rfl,_,rfl,?_⟩;cases u with
      | none=>exact dk ⟨s,C,by rw [et];exact (by simp),_,rfl⟩
      | some n=>exact fH ⟨C,aS (by rw [Ea];lia),s.put gF,af,by rw [et,aau];rfl,_,rfl⟩
     .
      rintro A U H5 ⟨s,C,rfl,v,rfl⟩;rw [Ea,aa4] at C;have S5:=(S3.trans s4).trans s;have I:∀ u,uh f u->Q (iE u) H5:=λ u mi=>k f u H5 S5 pv mi;refine ⟨rfl,D2,(f.filterMap id).map λ n:Nat=>(n:Int),rfl,aW.of (by rw [ac5];exact C),λ e=>?_,λ M hM le=>?_⟩
      . refine I none ⟨λ _ x g=>?_,nofun⟩;cases x with
        | none=>rfl
        | some k =>
          have:=adV.mpr ⟨_,g,(rfl:id (some k)=some k)⟩;rw [List.map_eq_nil_iff.mp e] at this;exact absurd this aaj
      . obtain ⟨k,hk,rfl⟩:=abv.mp hM;obtain ⟨x,g,ex⟩:=adV.mp hk;have ex:x=some k:=ex;refine I (some k) ⟨nofun,λ i hi=>?_⟩;cases hi;exact ⟨ex ▸ g,λ j hj=>agM.mp (le _ (abv.mpr ⟨j,adV.mpr ⟨_,hj,rfl⟩,rfl⟩))⟩
  by_cases c:1<(pM m).length
  .
   rw [aaS (by lia)];refine fH ⟨a,W,m,rfl,l.same S2,λ H3 S=>⟨_,rfl,?_⟩⟩;cases e:QM m with
   | true=>unfold NN at ns;rw [aaS c,e] at ns;cases ns
   | false=>exact dk (rest H3 S)
  . rw [aaR (by lia)];exact dk (dk (rest H2 (aE.refl _)))
theorem lM {H:Hp} {p q:ak} {o:HO} (h:H p=none) (_:upd H p o q=none):aE H (upd H p o)/\(upd H p o) p=some o:=⟨ap h,af⟩
theorem Mj {a H:Hp} {f:bp} (s:aE a H) (n:∀ c∈f,a c=none):aE a (dJ H f):=λ c o h=>jV (s c o h) (λ z=>by rw [n c z] at h;cases h)
theorem Jt {H:Hp} {f:bp}:∀ c∈f,dJ H f c=none:=λ c h=>by unfold dJ;rw [abp h]
theorem QC {H X:Hp} {i:Int} {p a b c d e T f g h j k l:ak} (I:0<=i) (C:i<6) (F:H p=none/\X p=some (.lst [])) (n:H a=none/\X a=some (.lst [.ref T])) (o:H b=none/\X b=some (.lst [.ref f])) (r:H c=none/\X c=some (.lst [.ref g])) (s:H d=none/\X d=some (.lst [.ref h,.ref j])) (u:H e=none/\X e=some (.lst [.ref k,.ref l]))
   (G:H T=none/\X T=some (.tup [.int 0,.int 1])) (v:H f=none/\X f=some (.tup [.int 1,.int 2])) (w:H g=none/\X g=some (.tup [.int 2,.int 0])) (y:H h=none/\X h=some (.tup [.int 1,.int 0])) (g6:H j=none/\X j=some (.tup [.int 2,.int 1])) (A:H k=none/\X k=some (.tup [.int 0,.int 2])) (B:H l=none/\X l=some (.tup [.int 1,.int 2])) :
   ∃ m z,uS [V.ref p,.ref a,.ref b,.ref c,.ref d,.ref e] i=some (.ref m)/\H m=none/\X m=some (.lst z)/\Refs (λ t (x:Nat×Nat)=>(H t=none/\X t=some (.tup [aq x.1,aq x.2]))/\x.1≠x.2) z (DV i.toNat):=by
 obtain ⟨q,rfl⟩:∃ q:Nat,i=(q:Int):=⟨i.toNat,by lia⟩
 have:q=0\/q=1\/q=2\/q=3\/q=4\/q=5:=by lia
 rcases this with rfl|rfl|rfl|rfl|rfl|rfl
 . exact ⟨p,[],bC rfl,F.1,F.2,.nil⟩
 . exact ⟨a,_,bC rfl,n.1,n.2,.cons ⟨T,rfl,G,by decide⟩ .nil⟩
 . exact ⟨b,_,bC rfl,o.1,o.2,.cons ⟨f,rfl,v,by decide⟩ .nil⟩
 . exact ⟨c,_,bC rfl,r.1,r.2,.cons ⟨g,rfl,w,by decide⟩ .nil⟩
 . exact ⟨d,_,bC rfl,s.1,s.2,.cons ⟨h,rfl,y,by decide⟩ (.cons ⟨j,rfl,g6,by decide⟩ .nil)⟩
 . exact ⟨e,_,bC rfl,u.1,u.2,.cons ⟨k,rfl,A,by decide⟩ (.cons ⟨l,rfl,B,by decide⟩ .nil)⟩
set_option maxHeartbeats 0 in
theorem zI (T:Txt K mg Ad):Def P w K mg base "_law_apart" 8 ["_law_script","_law_most_bands"] (De K Ad.aY):=by
 refine T.Cc.cW dH λ Z Z Z Z Z H vs Q E b h=>?_;obtain ⟨ps,ns,rfl,hS,k⟩:=h;refine ⟨_,(ag (dD (i:=2) dH.nd (au (dY T) b.m (aa (pv 0) (aa ai ac))))
     (ag (dD (i:=3) dH.nd (aA bL ai (aA bh (pv 2) ai)))
     (ag (dD (i:=4) dH.nd (ca (aa (aA bh (aA bJ (pv 2) ai) ai) (aa (aA bh (aA bJ (pv 2) ai) ai) (aa (aA bh (aA bJ (pv 2) ai) ai) ac)))))
     (ag (dD (i:=5) dH.nd (au (Af T) b.m (aa (au (dY T) b.m (aa (pv 0) (aa ai ac))) (aa (pv 3) (aa (pv 1) ac)))))
     (ag (dD (i:=6) dH.nd (au (Cr T) b.m (aa (pv 5) (aa (au (At T) b.m (aa (au (dY T) b.m (aa (pv 0) (aa ai ac))) ac)) (aa (pv 4) (aa ai ac))))))
     (ag (dD (i:=7) dH.nd (aJ aC (bK (aa (bK ac) (aa (bK (aa (ca (aa ai (aa ai ac))) ac)) (aa (bK (aa (ca (aa ai (aa ai ac))) ac)) (aa (bK (aa (ca (aa ai (aa ai ac))) ac)) (aa (bK (aa (ca (aa ai (aa ai ac))) (aa (ca (aa ai (aa ai ac))) ac))) (aa (bK (aa (ca (aa ai (aa ai ac))) (aa (ca (aa ai (aa ai ac))) ac))) ac))))))) (aA bh (aA bJ (pv 2) ai) ai)))
     (ag (cA aa7 rfl (bw (pv 7)) (cL (K:=K) (n:=2) rfl rfl (aL (fR (i:=8) dH.nd) (aL (fR (i:=9) dH.nd) cJ))) (ar (bA (PW.pt (k9 (aP kI (pv 8) (pv 3) (aQ _)) (iX (aP kI (pv 9) (pv 3) (aQ _))))) (ar (aV (aM (pv 6) T.az (ii T) .nil b.m (aa (pv 8) (aa (pv 9) (aa (au (fZ T) b.m (aa (aA bL ai (aA bh (aA bJ (pv 2) ai) ai)) (aa ai ac))) ac)))))) aR)))
     (ar (aO (ca (aa (pv 6) (aa (pv 5) (aa (pv 4) ac))))))))))))),?_⟩
 try dsimp only [kA,cz]
 first|(refine Bs ?_;intro Z Z Z Z Z Z Z Z Z)|skip
 refine ⟨ps,ns,0,rfl,hS,?_⟩;generalize al:(ns[0]?).getD 0=fi;refine ⟨by decide,λ r r0 r1 Z=>(λ mn bt=>?_)⟩;obtain ⟨n,rfl⟩:∃ n:Nat,mn=(n:Int):=⟨mn.toNat,by lia⟩
 have hn:2<=n/\n<=3:=by lia
 refine ⟨⟨by decide,mN⟩,λ y1 Z=>⟨by decide,λ j aj bm Z=>?_⟩⟩;refine ⟨⟨by decide,mN⟩,λ y2 Z=>⟨by decide,λ l Lq Kd Z=>?_⟩⟩;refine ⟨⟨by decide,mN⟩,λ y3 Z=>⟨by decide,λ s bn bo Z=>⟨Ih,λ v FR=>?_⟩⟩⟩;have s1:=ap (o:=.tup [.int j,.int l,.int s]) FR;have e1:(upd H v (.tup [.int j,.int l,.int s])) v=some (.tup [.int j,.int l,.int s]):=af;generalize upd H v (.tup [.int j,.int l,.int s])=H1 at s1 e1 |-;refine ⟨ps,ns,1,rfl,s1.seq hS,?_⟩;refine ⟨_,n,2,rfl,by lia,by lia,by lia,by lia,λ pr xs R H2 s2 h2 d2 lr yD=>?_⟩;have S2:=s1.trans s2;refine ⟨ps,ns,2,rfl,S2.seq hS,_,rfl,λ FB sc H3 DL S h3=>?_⟩;have S3:=S2.trans S;have ae:=(s2.trans S) _ _ e1;refine ⟨pr,xs,R,FB,sc,v,j,l,s,0,rfl,aW.of (S _ _ h2),bP.same S _ d2,by lia,by lia,λ r b=>(yD r b).1,cw.of h3,DL,cw.of ae,by lia,by lia,by lia,λ a f m H4 s4 hh F0 l0 G bk lk=>?_⟩;have S4:=S3.trans s4;refine ⟨AN,λ p1 g1=>⟨xF,λ t2 g2=>⟨Fn,λ p2 g3=>⟨xF,λ t3 g4=>⟨Fn,λ p3 g5=>⟨xF,λ t4 g6=>⟨Fn,λ p4 g7=>⟨xF,λ t5 g8=>⟨xF,λ t6 g9=>⟨xF,λ p5 XZ=>⟨xF,λ t7 Ye=>⟨xF,λ t8 X6=>⟨xF,λ p6 X0=>⟨by show 6<=sizeLine;decide,λ po ad=>?_⟩⟩⟩⟩⟩⟩⟩⟩⟩⟩⟩⟩⟩⟩;obtain ⟨a1,Vt⟩:=lM g1 g2;obtain ⟨a2,NP⟩:=lM g2 g3;obtain ⟨a3,V⟩:=lM g3 g4;obtain ⟨a4,RZ⟩:=lM g4 g5;obtain ⟨a5,W⟩:=lM g5 g6;obtain ⟨a6,X⟩:=lM g6 g7;obtain ⟨a7,Y⟩:=lM g7 g8;obtain ⟨a8,ab⟩:=lM g8 g9;obtain ⟨a9,Sn⟩:=lM g9 XZ;obtain ⟨E8,SL⟩:=lM XZ Ye;obtain ⟨R5,UQ⟩:=lM Ye X6;obtain ⟨RK,Th⟩:=lM X6 X0;obtain ⟨Sj,Wp⟩:=lM X0 ad;have C:=ap (o:=.lst [.ref p1,.ref p2,.ref p3,.ref p4,.ref p5,.ref p6]) ad;have A:=Sj.trans C;have y:=RK.trans A;have Xu:=R5.trans y;have T9:=E8.trans Xu;have T8:=a9.trans T9;have T7:=a8.trans T8;have T6:=a7.trans T7;have T5:=a6.trans T6;have T4:=a5.trans T5;have T3:=a4.trans T4;have T2:=a3.trans T3;have T1:=a2.trans T2;have U1:=a1;have U2:=U1.trans a2;have U3:=U2.trans a3;have U4:=U3.trans a4;have U5:=U4.trans a5;have U6:=U5.trans a6;have U7:=U6.trans a7;have U8:=U7.trans a8;have U9:=U8.trans a9;have Za:=U9.trans E8;have D:=Za.trans R5;have F:=D.trans RK;have O:=F.trans Sj;have UF:=O.trans C;have L:=And.intro (g1) (T1 _ _ Vt);have aG:=And.intro (U1.free g2) (T2 _ _ NP);have EO:=And.intro (U2.free g3) (T3 _ _ V);have a0:=And.intro (U3.free g4) (T4 _ _ RZ);have Ju:=And.intro (U4.free g5) (T5 _ _ W);have ba:=And.intro (U5.free g6) (T6 _ _ X);have xh:=And.intro (U6.free g7) (T7 _ _ Y);have bb:=And.intro (U7.free g8) (T8 _ _ ab);have bc:=And.intro (U8.free g9) (T9 _ _ Sn);have MG:=And.intro (U9.free XZ) (Xu _ _ SL);have bd:=And.intro (Za.free Ye) (y _ _ UQ);have be:=And.intro (D.free X6) (A _ _ Th);have Yt:=And.intro (F.free X0) (C _ _ Wp);refine ⟨⟨by decide,mN⟩,λ y4 V9=>⟨by decide,λ J i0 i6 an=>?_⟩⟩;clear g1 g2 g3 g4 g5 g6 g7 g8 g9 XZ Ye X6 X0 a1 Vt a2 NP a3 V a4 RZ a5 W a6 X a7 Y a8 ab a9 Sn E8 SL R5 UQ RK Th Sj Wp U1 U2 U3 U4 U5 U6 U7 U8 U9 Za D F O T1 T2 T3 T4 T5 T6 T7 T8 T9 Xu y A;have ah:∀ {c},H4 c=none->c∉f:=λ h z=>by
   obtain ⟨u,hu⟩:=hh.some _ z;rw [h] at hu;cases hu
 obtain ⟨pl,zs,Rc,n5,e5,hz⟩:=QC i0 i6 L EO Ju xh MG Yt aG a0 ba bb bc bd be;refine ⟨.inl (aW.of af),Rc,?_⟩;obtain ⟨B,bS,bH,bF,bl,bz⟩:∃ B,aE H3 B/\aE B _/\(∀ c∈f,B c=none)/\B pl=some (.lst zs)/\Refs (λ t (x:Nat×Nat)=>B t=some (.tup [aq x.1,aq x.2])/\x.1≠x.2) zs (DV J.toNat) :=
   ⟨dJ _ f,Mj (s4.trans UF) F0,ia,Jt,jV e5 (ah n5),hz.imp λ t x h=>⟨jV h.1.2 (ah h.1.1),h.2⟩⟩
 have bf:=hh.same UF;refine ⟨⟨_,aW.of e5⟩,?_⟩;refine jZ (K:=K) (a:=pl) (xs:=zs) (λ i U H'=>A3 (aE B H') (E2 λ f m=>A8 (aN K Ad.aY H' a f m) (∀ c∈f,B c=none) (m.rows.length=R.length) (QH m) (lG m) (pj R j l s R.length m) (∀ x,some x∈m.aI->eX 90 x.1) (Fl m (xV n ((DV J.toNat).take i)))) (E2 λ x8 x9=>U=[some (.ref ps),some (.int 2),some (.int fi),some (aq n),some (.ref v),some (.ref pr),some (.ref a),some (.ref pl),x8,x9]))
   ⟨bH,⟨f,m,bf,bF,l0,G.q,bk,lk,G.ht,G.z rfl⟩,none,none,rfl⟩ (λ i U H' Z e=>aW.of (e.1 _ _ bl)) ?_ ?_
 .
  rintro i x U H6 hx ⟨N,⟨L,M,h1,F1,l1,q1,k1,k2,t1,f1⟩,x8,x9,rfl⟩;obtain ⟨t,⟨I,d⟩,rfl,hy,ht,xf⟩:=bz.get hx;have ht:B t=some (.tup [aq I,aq d]):=ht;have xf:I≠d:=xf;have tk:xV n ((DV J.toNat).take (i+1))=xV n ((DV J.toNat).take i)++if I<n/\d<n then [(I,d)] else []:=by
    unfold xV;rw [acI,hy,adg];congr 1;by_cases c:I<n/\d<n
    . rw [abp c];exact agw (by simp [c])
    . rw [abC c];exact aeC (by simpa using λ h=>aet λ z=>c ⟨h,z⟩)
  refine ⟨cw.of (N _ _ ht),rfl,rfl,?_⟩;have no:¬ (I<n/\d<n)->A3 (aE B H6) (E2 λ f m=>A8 (aN K Ad.aY H6 a f m) (∀ c∈f,B c=none) (m.rows.length=R.length) (QH m) (lG m) (pj R j l s R.length m) (∀ x,some x∈m.aI->eX 90 x.1) (Fl m (xV n ((DV J.toNat).take (i+1))))) (E2 λ x8 x9=>_=[some (.ref ps),some (.int 2),some (.int fi),some (aq n),some (.ref v),some (.ref pr),some (.ref a),some (.ref pl),x8,x9]):=λ c=>⟨N,⟨L,M,h1,F1,l1,q1,k1,k2,t1,by rw [tk,abC c,ac7];exact f1⟩,some (aq I),some (aq d),rfl⟩
  refine ⟨_,rfl,jL (λ br=>?_) (λ c=>no λ z=>c (agL.mpr z.1))⟩;refine ⟨_,rfl,jL (λ bs=>?_) (λ c=>no λ z=>c (agL.mpr z.2))⟩;have Lp:I<M.rows.length:=by
    lia
  have CV:d<M.rows.length:=by
    lia
  obtain ⟨⟨dx,Z,Z,Z,Z,Z,Z,Z,Z,Z,ha,Z⟩,o1,o2,o3,w7⟩:=id h1;refine ⟨ha,rfl,⟨by decide,mN⟩,λ u1 Z=>⟨by decide,λ g g0 g3 Z=>(λ z ez=>?_)⟩⟩;refine ⟨_,_,rfl,by decide,mN,λ q' r' u H7 F7 s7 hu=>?_⟩;have e7:=yx (K:=K) (by decide) F7 hu;have QD:=L1 (k:=z) (by lia) (by lia);have Gb:eX 100 (nf z 12):=Wd (by decide) (by decide) (by lia);refine ⟨a,L,M,I,d,.ref u,nf z 12,rfl,h1.same s7,Lp,CV,xf,e7,Gb,yP (by decide) (by lia),q1.wO w7 o3 Lp CV xf Gb.p QD.2,λ H8 ao D8=>?_⟩;obtain ⟨S8,F8⟩:=D8.keep (N.trans s7) F1;exact ⟨S8,⟨ao,_,D8.at_,F8,l1,q1.cK xf QD,k1.cK,k2.cK,t1,by rw [tk,abp ⟨by lia,by lia⟩];exact f1.put (Ov.pos (by decide) (Ov.nf (by decide)) (by lia))⟩,_,_,rfl⟩
 rintro U H6 ⟨N,⟨L,M,h1,F1,l1,q1,k1,k2,t1,f1⟩,x8,x9,rfl⟩;rw [bz.length,aa4] at f1;refine ⟨Ih,λ t ht=>?_⟩;have st:=ap (o:=.tup [.ref a,.ref pr,.ref v]) ht;exact k t a L M pr xs R v j l s J.toNat B _ (S3.trans bS) (N.trans st) af (h1.same st) F1 (bS _ _ (S _ _ h2)) (bP.same (S.trans bS) _ d2) (bS _ _ ae) (by lia) l1 (λ r b=>by rw [lr];exact yD r b) q1 k1 k2 ⟨aj,Lq,by lia⟩ t1 (by rw [lr];exact f1) (by rw [aev i0,al,<- V9];exact an)
theorem Ee (T:Txt K mg Ad):Def P w K mg base "_law_dry" 5 ["_law_hold_here","_law_rooms_here"] (JY K Ad.aY):=by
 refine T.GZ.cW pT λ Z Z Z Z Z H vs Q E J h=>?_;obtain ⟨a,fp,m,R,xs,B,rfl,x,mS,lx,I,F,qh,pk,k⟩:=h;refine ⟨_,(ar (cA aa7 rfl (bY rfl T.c9 (aa (aT bv (by rfl) T.fc cZ (aa (pv 1) ac)) ac)) (fR (i:=2) pT.nd) (ag (dD (i:=3) pT.nd (aM (pv 0) T.az (cE T) .nil J.m (aa (pv 2) ac)))
     (ar (bA (aP gw (pv 3) cM (aQ _)) (ar (aV (qV (pv 0) T.az (eI T) J.m (aa (pv 2) (aa (aJ aC (pv 3) ai) (aa ai (aa (aJ aC (pv 3) ai) (aa (aJ aC (pv 3) ai) ac)))))))) aR))))),?_⟩
 try dsimp only [kA,cz]
 have m4:=I.mx;refine ⟨R,_,rfl,.inl (aW.of (x _ _ mS)),λ n A=>⟨_,rfl,by lia,by lia,?_⟩⟩;rw [lx] at A;subst A;refine fY (lo:=0) (n:=m.rows.length) (λ i U e=>A3 (aE B e) (E2 λ N o=>A5 (aN K Ad.aY e a N o) (∀ c∈N,B c=none) (QH o) (lG o) (gQ m i o)) (E2 λ v u=>U=[some (.ref a),some (.ref R),v,u])) ⟨x,⟨fp,m,I,F,qh,pk,gQ.zero⟩,none,none,rfl⟩ ?_ ?_
 .
  rintro Z i U e hi ⟨S,⟨j,M,b,l,q,f,D⟩,v,u,rfl⟩;obtain ⟨⟨dx,Z,Z,Z,Z,Z,Z,Z,Z,Z,G,Z⟩,o1,O,o3,w7⟩:=id b;have L:i<M.aI.length:=by rw [O,D.rows];exact hi
  have g:=aK L;generalize M.aI[i]=s at g;have C:M.eT i=s:=by unfold am.eT;rw [g];rfl
  refine ⟨G,rfl,a,j,M,i,s,by rw [abL];rfl,b,g,λ v1 y=>?_⟩;cases s with
  | none =>
    obtain rfl:v1 = .cN:=y;exact ⟨rfl,_,rfl,dk ⟨S,⟨j,M,b,l,q,f,D.skip C⟩,_,_,rfl⟩⟩
  | some z =>
    obtain ⟨p,v2,rfl,r,Y⟩:=y.bE;have d:=f.bE z (aae g);refine ⟨rfl,_,rfl,fH ⟨G,rfl,.inr r,rfl,.inr r,rfl,.inr r,rfl,a,j,M,i,v2,z.1,0,z.2.2.1,z.2.2.2,by rw [abL];rfl,b,by rw [<- O];exact L,Y,w7.aI z (aae g),d.1,by decide,d.2.2.1,d.2.2.2,λ H2 V t=>?_⟩⟩;obtain ⟨X,W⟩:=t.keep S l;exact ⟨X,⟨V,_,t.at_,W,q.bD,f.bD ⟨d.1,⟨adr 0,show (0:Int)<=9 by decide⟩,d.2.2.1,d.2.2.2⟩,D.put L C⟩,_,_,rfl⟩
 . rintro U e ⟨S,⟨j,M,b,l,q,f,D⟩,v,u,rfl⟩;exact k e j M S b l q f D
set_option maxHeartbeats 0 in
theorem CC (T:Txt K mg Ad):Def P w K mg base "_law_wide" 16 ["_law_cell"] G0:=by
 refine T.EI.cW jd λ Z Z Z Z Z H vs Q E g h=>?_;obtain ⟨x,rfl,k⟩:=h;refine ⟨_,(ag (dD (i:=1) jd.nd (rp T.uX (eW T) g.m T.As (aa ai (aa ai (aa ai ac)))))
     (ag (dD (i:=2) jd.nd (aJ aC (bK (aa (bK (aa ai (aa ai (aa ai ac)))) (aa (bK (aa ai (aa ai (aa ai ac)))) (aa (bK (aa ai (aa ai (aa ai ac)))) ac)))) (aA bh (aA bJ (pv 0) ai) ai)))
     (ag (mQ (yi:=3) ["_law_k"] ["_law_bands","_law_cell"] [2,0] (.cons ⟨rfl,rfl,.inl rfl⟩ (.cons ⟨rfl,rfl,.inl rfl⟩ .nil)) rfl (bY rfl T.c9 (aa ai ac)) (λ Z Z Z Z Z=>(ky (i:=0))) (λ Z Z Z Z Z=>cB) (λ Z Z Z Z Z=>(aA fA (aA bJ (aJ (fE (K:=K) rfl) (pv 1) (pv 0)) ai) (aA bh (aA bJ (pv 2) (aJ (fE (K:=K) rfl) (bK (aa ai (aa ai (aa ai ac)))) (pv 0))) ai))) jd.nd (lc rfl))
     (ag (cA aa7 rfl (bw (pv 2)) (fR (i:=4) jd.nd) (ar (aV (aM (pv 1) T.az (iq T) .nil g.m (aa (ft ["_law_k"] [] [] .nil rfl (bY rfl T.c9 (aa (aA bL (pv 4) ai) ac)) (λ Z Z Z Z Z=>(ky (i:=0))) (λ Z Z Z Z Z=>cB) (λ Z Z Z Z Z=>(ca (aa (aA fA (aA bM ai (pv 0)) ai) (aa ai ac))))) ac)))))
     (ar (aO (dL mZ (au (kS T) g.m (aa (pv 1) (aa (ca (aa (cU dQ (by rfl) T.kN je (aa (pv 3) ac)) (aa ai (aa (ca (aa ai (aa ai (aa ai ac)))) (aa (ca (aa ai (aa ai (aa ai ac)))) (aa ai ac)))))) ac))) cM (aQ _)))))))),?_⟩
 try dsimp only [kA,cz]
 first|(refine nA ?_;intro Z Z Z Z Z Z)|skip
 refine λ a NY fa P1 RM=>?_;refine ⟨a,NY,4,30,1,rfl,af,by rw [aw RM];exact af,by decide,by decide,by decide,λ H1 uB D1=>⟨rfl,?_⟩⟩;refine ⟨Ih,λ p1 g1=>⟨Ih,λ p2 g2=>⟨Ih,λ p3 g3=>⟨Ih,λ po g4=>?_⟩⟩⟩⟩;have Y:=ap (o:=.lst [.int 6,.int 6,.int 2]) g1;have a2:=ap (o:=.lst [.int 6,.int 2,.int 6]) g2;have a3:=ap (o:=.lst [.int 2,.int 6,.int 6]) g3;have F:=ap (o:=.lst [.ref p1,.ref p2,.ref p3]) g4;have S1:=Y.trans (a2.trans (a3.trans F));refine ⟨⟨by decide,mN⟩,λ y ey=>⟨by decide,λ ix i0 i3 Z=>?_⟩⟩;obtain ⟨q,B,Rc,n1,iL⟩:=Vb i0 i3 ⟨g1,(a2.trans (a3.trans F)) _ _ af⟩ ⟨Y.free g2,(a3.trans F) _ _ af⟩ ⟨(Y.trans a2).free g3,F _ _ af⟩;refine ⟨.inl (aW.of af),Rc,?_⟩;have h1:=D1.at_.same S1;have n1:B∉uB:=λ z=>by
   obtain ⟨u,J⟩:=D1.at_.some B z;rw [n1] at J;cases J
 clear Y a2 a3 F g1 g2 g3 S1 D1;refine ⟨3,rfl,by decide,by decide,λ D hD=>?_⟩;generalize upd (upd (upd (upd H1 p1 _) p2 _) p3 _) po _=H2 at iL h1 hD |-;refine dX (lo:=0) (n:=(3:Int).toNat) (λ j A U W=>A4 (aE H2 W) (W D=some (.lst A)) (∃ (b:aH),A3 (A=b.map aq) (b.length=j) (∀ i,i<j->gN b i<(i5 q).getD i 0)) (∃ v,U=[v,some (.ref B),some (.int x)])) ⟨ap hD,af,⟨[],rfl,rfl,λ i hi=>absurd hi (acl _)⟩,none,rfl⟩ ?_ ?_
 .
  rintro j A U W p ⟨s,gT,⟨b,rfl,L,I⟩,v,rfl⟩;have p:j<3:=p;obtain ⟨d,hd,dn,db⟩:=Wy ⟨j,p⟩;have er:=(wV q ⟨j,p⟩).2;have t:=(Dy q ⟨j,p⟩).2.2;have eb:(i5 q).getD (⟨j,p⟩:_root_.Fin 3).val 0=(i5 q).getD j 0:=rfl;rw [eb] at er t;generalize hn:(i5 q).getD j 0=n at er t;refine HP.mk (v:=aq n) (.inl (aW.of (s _ _ iL))) (by rw [abL];exact bC (by rw [aah,er];rfl)) ⟨cdiv (by decide) (by decide),λ y1 e1=>⟨Ih,λ pq Iu=>⟨.inl (aW.of af),hd,⟨dn,(show Bd 10 d from db).mono (by decide)⟩,λ y2 Z=>⟨by decide,λ r r0 r1 Z=>(λ z ez=>?_)⟩⟩⟩⟩;have sq:=ap (o:=.lst [.int 1,.int 2,.int 4]) Iu;have zz:0<=z/\z<n:=by
    rcases t with rfl|rfl
    . have:y1=3:=e1;lia
    . have:y1=1:=e1;lia
  obtain ⟨zn,rfl⟩:=aeE zz.1;refine ⟨sq _ _ gT,aS (by rw [Ea];lia),(s.trans sq).put hD,af,⟨b++[zn],by rw [aau];rfl,by rw [aas,abh,L],λ i hi=>?_⟩,_,rfl⟩;rw [kJ,YQ];by_cases c:i<j
  . have:=I i c;rw [kJ,YQ] at this;rw [aaO (by lia)];exact this
  . obtain rfl:i=j:=by lia
    rw [abM (by lia),L,afU,hn];exact agL.mp zz.2
 .
  rintro A U W ⟨s,gT,⟨b,rfl,L,I⟩,v,rfl⟩;have L:b.length=3:=L;have I:∀ i,i<3->gN b i<(i5 q).getD i 0:=I;have n2:D∉uB:=λ z=>by
    obtain ⟨u,J⟩:=h1.some D z;rw [hD] at J;cases J
  refine ⟨⟨_,aW.of (s _ _ iL)⟩,?_⟩;refine eA (K:=K) (a:=B) (xs:=(i5 q).map aq) (λ i U V=>A4 (V B=some (.lst ((i5 q).map aq))) (V D=some (.lst (b.map aq))) (∃ fp,A5 (aN K Ad.aY V a fp (dO (i5 q) i)) (B∉fp) (D∉fp) (QH (dO (i5 q) i)) (iB 7 (dO (i5 q) i))) (∃ v,U=[some (.int x),some (.ref a),some (.ref B),some (.ref D),v]))
    ⟨s _ _ iL,gT,⟨uB,h1.same s,n1,n2,J7.1,J7.2⟩,none,rfl⟩ (λ i U V Z e=>aW.of e.1) ?_ ?_
  .
   rintro Z i y U H4 hy ⟨e4,d4,⟨xh,h4,m1,m2,qh,M⟩,v,rfl⟩;obtain ⟨n,en,rfl⟩:=di hy;obtain ⟨i3,ah,⟨ri,bd⟩,ad⟩:=Qy en;obtain ⟨⟨Up,Z,Z,Z,Z,Z,Z,Z,Z,Z,Jd,Z⟩,Z⟩:=id h4;refine ⟨Jd,rfl,λ z ez=>⟨z,rfl,by lia,by lia,λ D2 gF=>?_⟩⟩;obtain rfl:z=((n+1:Nat):Int):=ez;refine dX (lo:=0) (n:=(((n+1:Nat):Int)).toNat) (λ j A U l=>A4 (aE H4 l) (l D2=some (.lst A)) (bP K l ((List.range j).map λ k:Nat=>fM (3 * (k:Int) - 7,1)) A) (∃ v,U=[v])) ⟨ap gF,af,eP,none,rfl⟩ ?_ ?_
   .
    rintro j A U l p ⟨N,R,G,v,rfl⟩;rw [acM] at p;have la:A.length=j:=by rw [G.length,Ea,aaA]
    refine ⟨⟨10,10,(by decide:(3:Int).natAbs<2 ^ 10),show Int.natAbs _<2 ^ 10 by lia,by decide⟩,λ z1 e1=>(λ z2 e2=>⟨xF,λ q hq=>?_⟩)⟩;obtain rfl:z2=3 * (j:Int) - 7:=by lia
    have S:=ap (o:=.tup [.int (3 * (j:Int) - 7),.int 1]) hq;have h6:(upd l q (.tup [.int (3 * (j:Int) - 7),.int 1])) q=_:=af;generalize upd l q (.tup [.int (3 * (j:Int) - 7),.int 1])=X at S h6 |-;have O:aZ K X (upd X D2 (.lst (A++[.ref q]))):=cq (S _ _ R) rfl;refine ⟨S _ _ R,aS (by lia),(N.trans S).put gF,af,?_,_,rfl⟩;rw [ab6,aau];exact (bP.ts ((aE.ts S).trans O) _ (oW _ _) G).snoc (Dn.ts O _ (i8 _) (n9 (cw.of h6)))
   .
    rintro A U l ⟨N,R,G,v,rfl⟩;rw [acM] at G;have lr:(sE n).length=n+1:=by unfold sE;rw [Ea,aaA]
    refine ⟨a,xh,dO (i5 q) i,D2,A,sE n,rfl,h4.same N,?_,aW.of R,by unfold sE;rw [ac5];exact G,λ f hf=>?_,by lia,by lia,ri,bd,λ X Yt C=>?_⟩
    . show (List.map _ _).length<4;rw [Ea,aby];lia
    . obtain ⟨z,hz,rfl⟩:=abv.mp hf;have:=aaK.mp hz;exact ⟨aa6 (show _<2 ^ 5 by lia) (acy (by decide) (by decide)),(by decide:(1:Int).natAbs<2 ^ 100),show (0:Int)<1 by decide⟩
    .
     have q6:=qh.c8 (r:=sE n);have p6:=M.c8 (r:=sE n) ri (by lia);rw [ad] at C q6 p6;have no:∀ {c o},l c=some o->c∉xh->c∉Yt:=λ e n z=>by
       rcases C.own _ z with q|q
       . exact n q
       . rw [e] at q;cases q
     have a5:=N _ _ e4;have b5:=N _ _ d4;exact ⟨C.but _ _ a5 m1,C.but _ _ b5 m2,⟨Yt,C.at_,no a5 m1,no b5 m2,q6,p6⟩,_,rfl⟩
  .
   rintro U H4 ⟨e4,d4,⟨xh,hh,m1,m2,qh,M⟩,v,rfl⟩;rw [Ea,DK] at hh qh M;refine ⟨D,_,rfl,.inl ⟨aW.of d4,λ t1 ab=>⟨Ih,λ t2 ae=>⟨Ih,λ t3 Si=>⟨(by show 5<=sizeLine;decide),λ qq Yc=>?_⟩⟩⟩⟩⟩;have s1:=ap (o:=.tup (b.map aq)) ab;have s2:=ap (o:=.tup [.int 0,.int 0,.int 0]) ae;have s:=ap (o:=.tup [.int 0,.int 0,.int 0]) Si;have s4:=ap (o:=.tup [.ref t1,.int 0,.ref t2,.ref t3,.int 0]) Yc;have so:=Vn L I;refine ⟨a,xh,dO (i5 q) 3,qq,⟨b,0,[0,0,0],[0,0,0],0⟩,rfl,hh.same (s1.trans (s2.trans (s.trans s4))),qh,M,λ rs g=>?_,λ rs g o pw=>Nl g pw,⟨t1,t2,t3,cw.of af,cw.of ((s2.trans (s.trans s4)) _ _ af),cw.of ((s.trans s4) _ _ af),cw.of (s4 _ _ af)⟩,so,Ky,λ us u X S pr mi=>⟨rfl,?_⟩⟩
   . rw [JN] at g;simp only [aay,aaj,acd] at g;rcases g with rfl|rfl|rfl<;>exact .inl (aaE 1)
   . rw [QV hh M so pr mi];exact k _
theorem ne_self {u:Option Nat} {H:Hp} {Q:VK} (h:Q (.bl false) H):rNe (iE u) (iE u) H Q:=by
 cases u<;>refine ⟨rfl,?_⟩<;>rw [aaS rfl]<;>exact h
theorem eq_self {u:Option Nat} {H:Hp} {Q:VK} (h:Q (.bl true) H):rEq (iE u) (iE u) H Q:=by
 cases u<;>refine ⟨rfl,?_⟩<;>rw [aaS rfl]<;>exact h
set_option maxHeartbeats 0 in
theorem Q8 {f:ak} {fd:FuncData} (F:Nj K "law" "law" EU f fd) (T:Txt K mg Ad):nN P w K mg base AI 17 f fd ["_law_script"] (JK K):=by
 refine F.ok gz (λ I H Q E h=>?_) (λ bO A outer s H I Q E l h=>?_)
 . obtain ⟨a,ns,rfl,_⟩:=h;rfl
 .
  obtain ⟨ps,ns,rfl,hS,c8,FD,k⟩:=h;refine ⟨_,(ag (bA (aP fT (aA bh (au (dY T) l.m (aa (pv 0) (aa ai ac))) ai) ai (aQ _)) (ar (aO (au (CC T) l.m (aa (aA bJ (au (dY T) l.m (aa (pv 0) (aa ai ac))) ai) ac)))) aR)
    (ag (gL (au (zI T) l.m (aa (pv 0) (aa ai ac))) (cL (K:=K) (n:=3) rfl rfl (aL (fR (i:=1) gz.nd) (aL (fR (i:=2) gz.nd) (aL (fR (i:=3) gz.nd) cJ)))))
    (ag (aV (au (Ee T) l.m (aa (pv 1) (aa (pv 2) ac))))
    (ag (mQ (yi:=4) ["_law_k"] ["_law_rooms_here"] [2] (.cons ⟨rfl,rfl,.inl rfl⟩ .nil) rfl (bY rfl T.c9 (aa (aT bv (by rfl) T.fc cZ (aa (pv 2) ac)) ac)) (λ _ _ _ _ _=>(ky (i:=0))) (λ _ _ _ _ _=>(gJ (aP gw (aJ (fE (K:=K) rfl) (aJ (fE (K:=K) rfl) (pv 1) (pv 0)) ai) cM (aQ _)))) (λ _ _ _ _ _=>(pv 0)) gz.nd (lc rfl))
    (ag (dD (i:=5) gz.nd (kq (wR T) l.m (aa (pv 1) (aa (aT (oV rfl) (by rfl) T.FQ AC (aa (aJ aC (pv 3) ai) (aa (aT bv (by rfl) T.fc cZ (aa (pv 4) ac)) ac))) ac))))
    (ag (dD (i:=6) gz.nd (au (zO T) l.m (aa (pv 2) (aa (pv 3) (aa (au (dY T) l.m (aa (pv 0) (aa ai ac))) (aa ai ac))))))
    (ag (dD (i:=7) gz.nd (au (kS T) l.m (aa (pv 5) (aa (pv 6) ac))))
    (ag (bA (PW.pt (k9 (aP gw (pv 7) cM (aQ _)) (iX (PW.pt (uo (fB (cP (aT kF (by rfl) T.jK i4 (aa (pv 7) (aa (vg (v:=V.ty "int") rfl T.BH vV rfl) ac))))) (qD (cP (aT kF (by rfl) T.jK i4 (aa (pv 7) (aa (vg (v:=V.ty "bool") rfl T.Iw Gj rfl) ac)))))))))) (ar (aO rQ)) aR)
    (ag (bA (aP pE (pv 7) (lX (P:=P) (w:=w) (K:=K) rfl rfl rfl l.La (kq (gC (P:=P) (w:=w) T) l.m (aa (pv 5) (aa (bK (aa (pv 6) ac)) ac))) (pv 6) (λ _ _=>rfl)) (aQ _)) (ar (aO rQ)) aR)
    (ag (dD (i:=8) gz.nd (bK ac))
    (ag (cA aa7 rfl (bw (au (ug T) l.m (aa (pv 5) ac))) (fR (i:=9) gz.nd) (ag (dD (i:=10) gz.nd (au (vK T) l.m (aa (pv 6) (aa (pv 9) ac))))
    (ar (aV (hX abE abG abF cD (pv 8) (aa (lX (P:=P) (w:=w) (K:=K) rfl rfl rfl l.La (kq (gC (P:=P) (w:=w) T) l.m (aa (au (pK T) l.m (aa (pv 5) (aa (pv 9) ac))) (aa (bK (aa (pv 10) ac)) ac))) (pv 10) (λ _ _=>rfl)) ac))))))
    (ag (mQ (yi:=11) ["_law_rank"] [] [] .nil rfl (bw (pv 8)) (λ _ _ _ _ _=>(ky (i:=0))) (λ _ _ _ _ _=>(gJ (aP gw (pv 0) cM (aQ _)))) (λ _ _ _ _ _=>(pv 0)) gz.nd (lc rfl))
    (ag (bA (PW.pt (uo (PW.pt (k9 (aP (OP l.units) (pv 11) (bK ac) (aQ _)) (iX (aP gw (pv 7) cM (aQ _))))) (qD (PW.pt (k9 (aP (QL l.units) (pv 11) (bK ac) (aQ _)) (iX (aP pE (pv 7) (aT (GU rfl) (by rfl) T.JT Dw (aa (pv 11) ac)) (aQ _)))))))) (ar (aO rQ)) aR)
    (ag (dD (i:=12) gz.nd (aJ aC (aM (pv 5) T.az (jN T) .nil l.m (aa ai ac)) ai))
    (ag (dD (i:=13) gz.nd (au (cb T) l.m (aa (au (dY T) l.m (aa (pv 0) (aa ai ac))) (aa ai (aa ai ac)))))
    (ag (aV (aM (pv 5) T.az (iM T) .nil l.m (aa ai (aa (au (fZ T) l.m (aa (aA bh (pv 13) ai) (aa ai ac))) (aa (pv 12) (aa (pv 12) ac))))))
    (ag (kX (bA (aP gw (aJ aC (aJ aC (pv 2) ai) ai) cM (aQ _)) (ag (dD (i:=14) gz.nd (aM (pv 5) T.az (cE T) .nil l.m (aa ai ac)))
    (ar (aV (qV (pv 5) T.az (eI T) l.m (aa ai (aa (au (fZ T) l.m (aa (aA bM (aA bh (aA bJ (pv 13) ai) ai) (aJ aC (aJ aC (pv 14) ai) ai)) (aa (aA bM (aJ aC (aJ aC (pv 14) ai) ai) ai) ac))) (aa ai (aa (aJ aC (pv 14) ai) (aa (aJ aC (pv 14) ai) ac))))))))) aR))
    (ag (dD (i:=15) gz.nd (lX (P:=P) (w:=w) (K:=K) rfl rfl rfl l.La (kq (gC (P:=P) (w:=w) T) l.m (aa (kq (vq T) l.m (aa (pv 5) ac)) (aa (bK (aa (pv 6) ac)) ac))) (pv 6) (λ _ _=>rfl)))
    (ar (aO (pQ (dL fT (au (kS T) l.m (aa (pv 5) (aa (pv 6) ac))) (pv 15) (aQ _)) (mm (dL fT (lX (P:=P) (w:=w) (K:=K) rfl rfl rfl l.La (kq (gC (P:=P) (w:=w) T) l.m (aa (pv 5) (aa (bK (aa (pv 6) ac)) ac))) (pv 6) (λ _ _=>rfl)) (pv 15) (aQ _)))))))))))))))))))))))),?_⟩
  try dsimp only [kA,cz]
  first|(refine GW ?_;intro _ _ _ _ _ _ _ _ _ _ _ _ _ _ _ _ _ _ _ _)|skip
  rename_i d z ds dq cQ dp dn Zk dm dl Y2 r9 r8 r7 r6 r5 r4 r3 r2 r1
  refine ⟨ps,ns,3,rfl,hS,by decide,λ cQ _ _ _=>⟨rfl,_,rfl,jL (λ _=>?_) (λ _=>?_)⟩⟩
  . exact ⟨ps,ns,3,rfl,hS,⟨by decide,mN⟩,λ y0 _=>⟨y0,rfl,λ J=>k J⟩⟩
  refine ⟨ps,ns,rfl,hS,λ t a fp m pr xs R pb b0 b1 b2 ix B H1 sB s1 et hh F0 mS dr FR hn l0 yD qh pk lk hb ht fl df=>?_⟩;refine ⟨cw.of et,rfl,rfl,?_⟩;have lx:xs.length=R.length:=by rw [dr.length,Ea]
  refine ⟨a,fp,m,pr,xs,B,rfl,s1,mS,by lia,hh,F0,qh,pk,λ H2 EO m2 s2 h2 F2 q2 k2 d2=>?_⟩;have DW:=s2 _ _ mS;have Yi:=bP.same s2 _ dr;refine ⟨pr,_,rfl,.inl (aW.of DW),λ mn a2=>?_⟩;rw [lx] at a2;subst a2;refine ⟨_,rfl,by lia,by lia,λ D hD=>?_⟩;refine dX (lo:=0) (n:=((R.length:Int)).toNat) (λ j G U J=>A4 (aE H2 J) (J D=some (.lst G)) (G=(((List.range j).filter λ i=>((R[i]?).bind (·.bE)).isSome).map aq)) (∃ v,U=[v,some (.ref pr)])) ⟨ap hD,af,rfl,none,rfl⟩ ?_ ?_
  .
   rintro j G U H3 hj ⟨s3,gT,rfl,v,rfl⟩;rw [acM] at hj;obtain ⟨v,ev,dv⟩:=Yi.get (i:=j) (d:=Ke R[j]) (by rw [aah,aK hj];rfl);obtain ⟨pq,pm,sv,rfl,hq,_,C⟩:=vA dv;have lf:=ab0 (λ i=>((R[i]?).bind (·.bE)).isSome) (List.range j);rw [aaA] at lf;refine HP.mk (v:=.ref pq) (.inl (aW.of (s3 _ _ DW))) (by rw [abL];exact bC ev) ⟨.inr (s3.tup hq),rfl,rfl,_,rfl,?_⟩;rw [yH];rw [UY hj];show _;cases Y:R[j].bE with
   | none =>
     rw [Y] at C;have C:sv = .cN:=C;subst C;exact fS rfl ⟨s3,gT,by simp [Y],_,rfl⟩
   | some z =>
     rw [Y] at C;obtain ⟨pz,rfl,CS⟩:=vi C;refine xK (λ _=>⟨gT,aS (by rw [Ea];lia),s3.put hD,af,?_,_,rfl⟩) (λ q=>nomatch q);rw [aau,abL];simp [Y];rfl
  rintro G U H3 ⟨s3,gT,rfl,v,rfl⟩;rw [acM] at gT;rw [<- lk.rooms l0 hh.mx] at gT;have WA:=s2 _ _ FR;have lm:=lk.most;have bm:=pk.FV.1;have l4:(Bit.rooms m.ws).length<=R.length:=by
    rw [lk.rooms l0 hh.mx];exact aaX (ab0 _ _) (by rw [aaA];exact aaE _)
  refine ⟨.inr (cw.of (s3 _ _ WA)),rfl,D,_,rfl,.inl (aW.of gT),λ YW en=>⟨b0,YW,rfl,?_⟩⟩;rw [Ea] at en;obtain ⟨X,a3,x1,x2,x4⟩:∃ X,(if YW > b0 then YW else b0)=X/\b0<=X/\YW<=X/\X<=4:=⟨_,rfl,by split<;>lia,by split<;>lia,by split<;>lia⟩
  rw [a3];refine ⟨a,EO,m2,some X,none,none,rfl,h2.same s3,⟨⟨by show 0<=X;lia,x4⟩,k2.FV.2⟩,λ b H4 xh s4 h4 F4=>?_⟩;have S4:=s2.trans (s3.trans s4);have ae:=sB.trans S4;refine ⟨ps,ns,3,rfl,ae.seq hS,?_⟩;refine ⟨pr,xs,R,pb,b0,b1,b2,_,2,rfl,aW.of (S4 _ _ mS),bP.same S4 _ dr,by lia,by lia,λ r l=>(yD r l).1,cw.of (S4 _ _ FR),by lia,by lia,by lia,by lia,λ q st H5 s5 Y bk hp=>?_⟩;have c3:cY m st:=bk.ok lk l0 hp;have cy:sd m:=lk.GO l0 hn.1 hn.2 (λ r l=>(yD r l).2) hb.2.2;have g:zS (m2.with (some X) none none) st:=zS.of d2 hh.st q2 k2 cy c3 (by lia) (by lia) x4 (by lia);have Si:∀ i x,(m2.with (some X) none none).eT i=some x->eX 90 x.1:=d2.KH ht;have SU:∀ {j} (hj:j<R.length),((m2.with (some X) none none).eT j).isSome=(R[j].bE).isSome:=λ {j} hj=>(d2.isSome j).trans (lk.some hj);have YA:pr∉xh:=λ z=>by have e:=F4 _ z;rw [s3 _ _ DW] at e;cases e
  generalize m2.with (some X) none none=m3 at h4 g Si SU;have S5:=S4.trans s5;have bz:=ae.trans s5;have h5:=h4.same s5;clear s3 gT s4 S4 ae s5 h4 x1 x2 x4 a3 en l4 bm lm k2 q2 d2 h2 F2 Yi DW WA;refine ⟨b,xh,m3,q,st,rfl,h5,g.qh,g.pk.w,g.l5,g.Yx,Y,g.so,g.sh,λ us u H6 s6 bn ba=>?_⟩;have Oq:r8 d [some (.ref ps),some (.ref a),some (.ref pr),some (.ref pb),some (.ref D),some (.ref b),some (.ref q),some (iE u),none,none,none,none,none,none,none,none] H6:=by
    refine ⟨Fn,λ pl iL=>?_⟩;have sl:=ap (o:=.lst [.ref q]) iL;have S6:=s6.trans sl;have gm:=zQ h5.wf h5.mx h5.sk g.pk;refine ⟨b,pl,2000,xh,m3,[.ref q],[st],rfl,h5.same S6,gm,g.f3.fin,by decide,g.f3.res,af,.cons ⟨q,rfl,Y.same S6⟩ .nil,λ s hs=>by rw [aac.mp hs];exact g.so,λ p2 Aw H7 s7 a7 RP=>?_⟩;obtain ⟨v,ev,rk⟩:=RP _ (aac.mpr rfl);obtain rfl:=g.rank h5 bn ba rk;have S7:=S6.trans s7;refine ⟨p2,q,Aw,_,_,rfl,rfl,a7,gv (Y.same S7),ev,ne_self ⟨_,rfl,dk ?_⟩⟩;have N:=h5.same S7;have Rt:=Y.same S7;have a0:=S5.trans S7;clear bn ba a7 RP ev s7 sl S6 S7 bz iL s6 S5 Y h5;refine ⟨AN,λ PR an=>?_⟩;have sP:=ap (o:=.lst []) an;refine ⟨b,xh,m3,rfl,N.same sP,λ pp as H8 s8 n8 na nn nd e8 ll=>?_⟩;have ll:Js H8 as (pM m3):=ll;have bf:pp≠PR:=λ e=>by rw [e,af] at n8;cases n8
    have be:∀ c∈as,c≠PR:=λ c hc e=>by have:=na c hc;rw [e,af] at this;cases this
    refine ⟨⟨_,aW.of e8⟩,?_⟩;refine eA (K:=K) (a:=pp) (xs:=as.map V.ref) (λ i U J=>A5 (aE H7 J) (J pp=some (.lst (as.map V.ref))) (Js J as (pM m3)) (∃ I,J PR=some (.lst (I.map iE))/\Paired (Qk m3 st) ((pM m3).take i) I) (E2 λ x9 Gh=>U=[some (.ref ps),some (.ref a),some (.ref pr),some (.ref pb),some (.ref D),some (.ref b),some (.ref q),some (iE v),some (.ref PR),x9,Gh,none,none,none,none,none]))
      ⟨sP.trans s8,e8,ll,⟨[],s8 _ _ af,.nil⟩,none,none,rfl⟩ (λ i U J _ e=>aW.of e.2) ?_ ?_
    .
     rintro _ i x U H9 W ⟨s9,e9,l9,⟨I,RL,pv⟩,x9,Gh,rfl⟩;rw [aah] at W;obtain ⟨bb,eb,rfl⟩:∃ b,as[i]?=some b/\V.ref b=x:=by
       cases e:as[i]? with
       | none=>rw [e] at W;cases W
       | some b=>rw [e] at W;cases W;exact ⟨b,rfl,rfl⟩
     have jl:i<(pM m3).length:=by rw [<- l9.1];exact (SV.mp eb).1
     have er:=UY jl;have SS:=l9.2 i bb _ eb er;have pa:=we (m:=m3) N.mx;have xc:(pM m3)[i]∈pM m3:=aaH jl;generalize (pM m3)[i]=OC at er SS xc;have ro:=pa.rs xc;have h9:=N.same s9;have bQ:=Rt.same s9;refine ⟨q,bb,st,OC,rfl,bQ,aW.of SS,λ r h=>⟨by rw [g.so.lb];exact ro.lt r h,by rw [g.so.lw];exact ro.lt r h,by rw [g.so.lf];exact ro.lt r h⟩,aaX ro.len N.mx,λ t FU O cl=>?_⟩;refine ⟨.inl ⟨rfl,_,aW.of (O _ _ RL)⟩,?_⟩;refine ⟨b,xh,m3,bb,OC,rfl,h9.same O,g.qh,g.pk.w,g.l5 OC xc,aW.of (O _ _ SS),ro,pa.cr OC xc,λ o Cg po AK EB ho Fo qo on=>?_⟩;have pw:Pw m3 OC po:=⟨⟨N.mx,N.sk,N.st,N.wf,ho.wf,g.qh,qo,ro,on,pa.cr OC xc,g.pk.w⟩,ho.st,ho.sk⟩
     refine ⟨Fn,λ QX bU=>?_⟩;have Ob:=ap (o:=.lst [.ref t]) bU;have Xq:ig K _ t (eL st OC):=(cl.at.same EB).same Ob;refine ⟨o,QX,2000,Cg,po,[.ref t],[eL st OC],rfl,ho.same Ob,pw.pt.gm pw.sp pw.kp,(pw.GO g.f3).fin,by decide,(pw.GO g.f3).res,af,.cons ⟨t,rfl,Xq⟩ .nil,λ s hs=>by rw [aac.mp hs];exact pw.pt.IA g.so,λ p3 ZU ZW zK Zp Zq=>?_⟩;obtain ⟨v',co,cR⟩:=Zq _ (aac.mpr rfl);have X1:=O.trans (EB.trans (Ob.trans zK));have lv:=pv.length;rw [aby] at lv;have l4:(pM m3).length<=4:=oJ _ _ _ _ _ _ ⟨m3.rows.length,ae5 N.mx⟩;refine ⟨p3,t,ZU,_,_,rfl,rfl,Zp,gv (Xq.same zK),co,X1 _ _ RL,aS (by rw [Ea];lia),?_⟩;refine ⟨(s9.trans X1).put an,?_,l9.mono λ c hc o h=>?_,⟨I++[v'],by rw [af,aau];rfl,by rw [acI,er];exact pv.snoc ⟨po,pw,cR⟩⟩,_,_,rfl⟩
     . rw [aw bf];exact X1 _ _ e9
     . rw [aw (be c hc)];exact X1 _ _ h
    rintro U H9 ⟨s9,e9,l9,⟨I,RL,pv⟩,x9,Gh,rfl⟩;rw [Ea,l9.1,aa4] at pv;have l4:(pM m3).length<=4:=oJ _ _ _ _ _ _ ⟨m3.rows.length,ae5 N.mx⟩;have lv:=pv.length;refine ⟨⟨_,aW.of RL⟩,λ D2 gF=>?_⟩;refine cf (K:=K) (a:=PR) (xs:=I.map iE) (λ j G U J=>A4 (aE H9 J) (J D2=some (.lst G)) (G=((I.take j).filterMap id).map aq) (∃ v,U=[v])) ⟨ap gF,af,rfl,none,rfl⟩ (λ j G U J _ e=>aW.of (e.1 _ _ RL)) ?_ ?_
    .
     rintro j x G U FU W ⟨O,uR,rfl,v0,rfl⟩;rw [aah] at W;obtain ⟨u,eu,rfl⟩:∃ u,I[j]?=some u/\iE u=x:=by
       cases e:I[j]? with
       | none=>rw [e] at W;cases W
       | some b=>rw [e] at W;cases W;exact ⟨b,rfl,rfl⟩
     have et:(I.take (j+1)).filterMap id=(I.take j).filterMap id++u.toList:=by
       rw [acI,eu,agK];cases u<;>rfl
     have lf:=agm id (I.take j);have lt:=agR j I;refine ⟨rfl,_,rfl,?_⟩;cases u with
     | none=>exact dk ⟨O,uR,by rw [et];exact (by simp),_,rfl⟩
     | some n=>exact fH ⟨uR,aS (by rw [Ea];lia),O.put gF,af,by rw [et,aau];rfl,_,rfl⟩
    rintro G U FU ⟨O,uR,rfl,v0,rfl⟩;rw [Ea,aa4] at uR;have cG:=N.same (s9.trans O);have Uo:=Rt.same (s9.trans O);have Zb:=a0.trans (s9.trans O);have bc:I.filterMap id=[]->v=none:=λ e=>g.rank N pv (Kz e) rk;have bd:∀ M,M∈(I.filterMap id).map (λ n:Nat=>(n:Int))->(∀ a∈(I.filterMap id).map (λ n:Nat=>(n:Int)),M<=a)->V.int M=iE v:=λ M h1 h2=>by
      obtain ⟨k,rfl,mi⟩:=Kg h1 h2;rw [g.rank N pv mi rk];rfl
    generalize I.filterMap id=fn at uR bc bd;clear pv s9 e9 l9 RL O ll e8 s8 sP be bf na n8 nn nd an N Rt a0 lv l4;refine ⟨AN,λ p0 h0=>?_⟩;have s0:=ap (o:=.lst []) h0;refine ⟨.list (fn.map ja),.list [],rO (aW.of (s0 _ _ uR)),wm (aW.of af) eP,oR fn,oR [],_,rfl,?_⟩;have Ja:∀ AK,aE FU AK->Zk d [some (.ref ps),some (.ref a),some (.ref pr),some (.ref pb),some (.ref D),some (.ref b),some (.ref q),some (iE v),some (.ref PR),x9,Gh,some (.ref D2),none,none,none,none] AK:=λ AK EB=>by
      have PB:=cG.same EB;have QN:=Zb.trans EB;obtain ⟨S,Jh,ao,Pz⟩:=Jq PB g.n1;obtain ⟨⟨Na,_,_,_,_,_,_,_,_,_,Oe,_⟩,_⟩:=id PB;refine ⟨Oe,rfl,b,xh,m3,0,S,rfl,PB,Jh,λ v1 dv=>?_⟩;obtain ⟨dg,w1,w2,w3,rfl,OD,ci,ah,cj⟩:=dv.mX;refine ⟨.inr OD,rfl,?_⟩;refine ⟨ps,ns,3,rfl,(sB.trans QN).seq hS,_,3,4,rfl,by decide,by decide,by decide,by decide,λ ZW x zK x0 x1=>?_⟩;refine ⟨zK _ _ Oe,rfl,by decide,λ r r0 r1 _=>⟨r,12,rfl,by decide,mN,λ q' r' u V6 XW Sz hu=>?_⟩⟩;have a1:=yx (K:=K) (by decide) XW hu;have QD:=L1 (k:=r) (by lia) (by lia);have Gb:eX 100 (nf r 12):=Wd (by decide) (by decide) (by lia);have OH:=zK.trans Sz;have us:bW S.2.1 S.2.1=false:=aaR (Int.lt_irrefl _);refine ⟨b,xh,m3,0,.ref u,w2,w2,nf r 12,S.2.1,S.2.1,rfl,PB.same OH,g.n1,a1,Dn.same OH _ ah,Dn.same OH _ ah,Gb,ao,ao,us,yP (by decide) (by lia),g.qh.zJ PB.wf PB.mx g.n1 Gb.p QD.2,λ Zd P3 Ul=>?_⟩;have g4:=g.cX (z:=(nf r 12,S.2.1,S.2.1)) Pz QD us;have Yc:∀ i x,(m3.cX 0 (nf r 12,S.2.1,S.2.1)).eT i=some x->eX 90 x.1:=Si;have Qd:∀ {j} (hj:j<R.length),((m3.cX 0 (nf r 12,S.2.1,S.2.1)).eT j).isSome=(R[j].bE).isSome:=SU;have SJ:=Ul.at_;have PQ:=QN.trans OH;have OG:=(Uo.same (EB.trans OH)).ts Ul.ts;have Xl:Zd pr=some (.lst xs):=Ul.but _ _ (PQ _ _ mS) YA;have d0:=hn.1;obtain ⟨v0,cs,cg⟩:=dr.get (i:=0) (d:=Ke R[0]) (by rw [aah,aK (show 0<R.length by lia)];rfl);obtain ⟨pq,pm,sv,rfl,hq,_,C⟩:=vA cg;have bG:cw K Zd pq _:=Ul.ts _ _ (PQ.tup hq);generalize m3.cX 0 (nf r 12,S.2.1,S.2.1)=m4 at g4 Yc Qd SJ;clear Ul a1 XW hu Sz zK OH Oe ci ah cj OD dv PB QN PQ Jh ao Pz us;refine ⟨λ bs J=>A3 (E2 λ fp m'=>aN K Ad.aY J b fp m'/\zS m' st) (ig K J q st) (∃ br,bs=[some (.ref ps),some (.ref a),some (.ref pr),some (.ref pb),some (.ref D),some (.ref b),some (.ref q),some (iE v),some (.ref PR),x9,Gh,some (.ref D2),some w2,some (.int x),br,none]),?_,?_⟩
      .
       refine ⟨.inl (aW.of Xl),bC (j:=0) cs,.inr bG,rfl,rfl,_,rfl,?_⟩;cases a9:R[0].bE with
       | none =>
         rw [a9] at C;have C:sv = .cN:=C;subst C;exact fS rfl ⟨⟨P3,m4,SJ,g4⟩,OG,_,rfl⟩
       | some z0 =>
         have hz:=Qd (show 0<R.length by lia);rw [a9] at C hz;obtain ⟨dj,rfl,_⟩:=vi C;refine xK (λ _=>?_) (λ q=>nomatch q);obtain ⟨zz,ez⟩:∃ zz,m4.eT 0=some zz:=by
           cases e:m4.eT 0 with
           | none=>rw [e] at hz;cases hz
           | some y=>exact ⟨y,rfl⟩
         have a4:m4.aI[0]?=some (some zz):=by
           unfold am.eT at ez;cases e:m4.aI[0]? with
           | none=>rw [e] at ez;cases ez
           | some y=>rw [e] at ez;exact acJ some ez
         have oz:=Yc 0 zz ez;have pz:=g4.pk.bE zz (aae a4);obtain ⟨⟨de,_,_,_,_,_,_,_,_,_,a6,_⟩,_⟩:=id SJ;refine ⟨a6,rfl,b,P3,m4,0,some zz,rfl,SJ,a4,λ v2 ch=>?_⟩;obtain ⟨XJ,vh,rfl,mO,dh⟩:=ch.bE;obtain ⟨ph,rfl,a8⟩:=dh.fr;have cd:zz.1.1.natAbs<2 ^ 90:=oz.t;have cc:zz.1.2.natAbs<2 ^ 90:=oz.b;have p0:=oz.p;refine ⟨a6,rfl,⟨by decide,mN⟩,λ y1 _=>⟨by decide,λ y2 c4 dt _=>?_⟩⟩;refine ⟨.inr mO,rfl,.inr a8,rfl,⟨10,90,(show Int.natAbs _<2 ^ 10 by lia),cd,by decide⟩,λ y3 e3=>?_⟩;refine ⟨.inr mO,rfl,.inr a8,rfl,⟨90,10,cc,(by decide:(2:Int).natAbs<2 ^ 10),by decide⟩,λ y4 e4=>?_⟩;have h4:0<y4:=by lia
         have b4:y4.natAbs<2 ^ 92:=by lia
         have h3:0<=y3:=by rw [e3];exact ad2 c4 pz.1
         have b3:y3.natAbs<2 ^ 100:=by
           have:=yJ (x:=16) (y:=2 ^ 90) (a:=y2) (b:=zz.1.1) (by lia) (by lia);rw [<- e3] at this;lia
         refine ⟨y3,y4,rfl,h4,(show Bd 92 y4 from b4).mono (by decide),λ q' r' u bu bt Qc hu=>?_⟩;have cn:=yx (K:=K) h4 bt hu;have F:=jf (t:=y3) h4;have bF:eX 100 (nf y3 y4):=⟨F.Ra b3,F.RC (show Int.natAbs _<2 ^ 100 by lia),F.pos⟩
         refine ⟨.inr (Qc.tup mO),rfl,.inr (Qc.tup mO),rfl,b,P3,m4,0,.ref u,nf y3 y4,0,zz.2.2.1,zz.2.2.2,rfl,SJ.same Qc,g4.n1,cn,bF,yP h4 h3,by decide,pz.2.2.1,pz.2.2.2,λ So Nm aG=>?_⟩;exact ⟨⟨Nm,_,aG.at_,g4.bD ez (yP h4 h3) ⟨pz.2.2.1,pz.2.2.2⟩⟩,(OG.same Qc).ts aG.ts,_,rfl⟩
      .
       rintro bs bu ⟨⟨MG,m5,Ve,L⟩,Lg,br,rfl⟩;have a5:=zQ Ve.wf Ve.mx Ve.sk L.pk;refine ⟨b,MG,m5,none,none,none,rfl,Ve,L.pk.FV,λ b2 So Nm NQ aj da=>?_⟩;have aj:aN K Ad.aY So b2 Nm m5:=aj;refine ⟨Fn,λ pl iL=>?_⟩;have sl:=ap (o:=.lst [.ref q]) iL;refine ⟨b2,pl,2000,Nm,m5,[.ref q],[st],rfl,aj.same sl,a5,L.f3.fin,by decide,L.f3.res,af,.cons ⟨q,rfl,(Lg.same NQ).same sl⟩ .nil,λ s hs=>by rw [aac.mp hs];exact L.so,λ p2 Aw db Pk b8 b7=>?_⟩;obtain ⟨v2,ct,bo⟩:=b7 _ (aac.mpr rfl);have ab:=NQ.trans (sl.trans Pk);refine ⟨p2,q,Aw,_,_,rfl,rfl,b8,gv (Lg.same ab),ct,?_⟩;have al:=Ve.same ab;have Kh:=Lg.same ab;refine ⟨b,MG,m5,q,st,rfl,al,L.qh,L.pk.w,L.l5,L.Yx,Kh,L.so,L.sh,λ us u dc c0 bH b9=>?_⟩;obtain rfl:=L.rank al bH b9 bo;refine tv (eq_self ⟨_,rfl,fH ⟨Fn,λ cK b6=>?_⟩⟩) rfl;have c2:=ap (o:=.lst [.ref q]) b6;have ad:=c0.trans c2;refine ⟨b,cK,2000,MG,m5,[.ref q],[st],rfl,al.same ad,a5,L.f3.fin,by decide,L.f3.res,af,.cons ⟨q,rfl,Kh.same ad⟩ .nil,λ s hs=>by rw [aac.mp hs];exact L.so,λ p4 bR dd c1 bS b5=>?_⟩;obtain ⟨v4,cv,cW⟩:=b5 _ (aac.mpr rfl);obtain rfl:=cW.uniq bo;exact ⟨p4,q,bR,_,_,rfl,rfl,bS,gv (Kh.same (ad.trans c1)),cv,tv (eq_self (k _)) rfl⟩
    rw [zD];by_cases e:fn=[]
    .
     rw [aaS e];obtain rfl:=bc e;refine fH ⟨rfl,_,rfl,dk ⟨AN,λ p1 h1=>?_⟩⟩;have s1:=s0.trans (ap (o:=.lst []) h1);refine ⟨.list (fn.map ja),.list [],rO (aW.of (s1 _ _ uR)),wm (aW.of af) eP,oR fn,oR [],_,rfl,?_⟩;rw [zD,aaS e];exact dk (dk (Ja _ s1))
    .
     rw [aaR e];refine dk (dk ⟨AN,λ p1 h1=>?_⟩);have s1:=s0.trans (ap (o:=.lst []) h1);refine ⟨.list (fn.map ja),.list [],rO (aW.of (s1 _ _ uR)),wm (aW.of af) eP,oR fn,oR [],_,rfl,?_⟩;rw [zD,aaR e];refine fH ⟨D2,fn.map (λ n:Nat=>(n:Int)),rfl,aW.of (by rw [ac5];exact s1 _ _ uR),by rw [Ea];exact List.length_pos_iff.mpr e,λ M h1 h2=>?_⟩;rw [bd M h1 h2];exact ne_self ⟨_,rfl,dk (Ja _ s1)⟩
  cases u with
  | none=>exact ⟨rfl,_,rfl,dk (dk Oq)⟩
  | some n=>exact ⟨rfl,_,rfl,fH ⟨_,_,_,_,_,rfl,.int _,rfl,KD K "int",_,rfl,dk ⟨_,_,_,_,_,rfl,.int _,rfl,qM K,_,rfl,dk Oq⟩⟩⟩
end
theorem walk {l:W.OpenLaw} {q:bq} {L:d9} {X:(eV)->bx->Prop} {Y:bi->bx->Prop} {d:DefRec} {K:Params->aF} (n:l.most=some 63) (g:d.params.defaults=[]) (J:d.name = "law")
   (H:∀ (w:bi) (h:bx),Y w h->(K w.params).In h)
   (F:∀ (w:bi) (m:eV) (h:bx),(K w.params).In h->h.Ns mainGlobals m->∃ A,Txt (K w.params) m A) :
   W.WalkO q L X Y l.row.toRowW d [] (λ f vs=>PySem.call f vs) :=
 L2.Jy (k:=17) (x:="_law_script") n g ⟨rfl,by decide,by decide⟩ H
   (λ w m o h c G R=>by
     obtain ⟨Z,T⟩:=F w m h c G;obtain ⟨f,i,j,a⟩:=id T.SY;rw [J] at R;have e:=R.symm.trans j;cases e;exact ⟨i,a.Qg (λ Z Z Z Z Z Z Z=>rfl),λ b Z Z=>Q8 a T⟩)
end K72
namespace PySem.W.Fast
abbrev q:=True
def tw7868331415136080369:=q
def tw11262893307604099480:=q
def tw5713617971217876580:=q
def tw6441449901993222817:=q
def tw14074627139045849005:=q
def tw10026383925855085910:=q
def tw17097974220546711613:=q
def tw10473129673335289061:=q
def tw7031192835101821915:=q
def tw102513914027570452:=q
def tw10431226134315505118:=q
def tw16275953760868437356:=q
def tw4741375229928571826:=q
def tw1481693658046875997:=q
def tw15893538547750549629:=q
def tw15607683172792966447:=q
def tw15188609326334544933:=q
def tw15192856384204645815:=q
def tw4566533798103192654:=q
def tw1702461085118230196:=q
def tw13674430835657457675:=q
def tw2186118582101526016:=q
def tw17558761039732620799:=q
def tw1190991641057618375:=q
def tw3703162104498466532:=q
def tw9845441309851923709:=q
def tw16205451935070237520:=q
def tw959236594075768835:=q
def tw16523442529436570243:=q
def tw15004154301795489055:=q
def tw11482903326045063999:=q
def tw14992487336055455796:=q
def tw17624905509670902326:=q
def tw12718642567385848009:=q
def tw18397484560788041980:=q
def tw15831085273459472296:=q
def tw13891217136223712346:=q
def tw3391813378267933384:=q
def tw2035110709420031925:=q
def tw17176195664288021424:=q
def tw6599039848292181932:=q
def tw726673484837274252:=q
def tw12921990687181321350:=q
def tw696060239559637972:=q
def tw18143863189519287617:=q
def tw6171699468295811773:=q
def tw16729883338127712:=q
def tw13443385857831492514:=q
def tw4660464253642750418:=q
def tw87350228459265138:=q
def tw9675565985930247482:=q
def tw737505376980538706:=q
def tw13311838806328497865:=q
def tw12999298581093522186:=q
def tw12833303236272832186:=q
def tw10912034197910074182:=q
def tw10359065772169125552:=q
def tw4809612517534311211:=q
def tw13234700483922587716:=q
def tw15000189954346068939:=q
def tw895433903845649349:=q
def tw7035243809509930623:=q
def tw4097554484323626042:=q
def tw2191661417705628678:=q
def tw798789074341392513:=q
def tw8290094034943354901:=q
def tw6000679447059533727:=q
def tw7325676535510897178:=q
def tw356863195829375159:=q
def tw3114385257200080891:=q
def tw4781014510586519376:=q
def tw17137974307263848824:=q
def tw3289575889523446243:=q
def tw15753335641517994075:=q
def tw10053859693061201869:=q
def tw11043693382056468307:=q
def tw14647115575962182733:=q
def tw13073701425677931762:=q
def tw17524914293868388538:=q
def tw8854557199734685943:=q
def tw15918995849115101111:=q
def tw14311327070480587373:=q
def tw1966071026982651804:=q
def tw15752776837079266909:=q
def tw15143419892986863153:=q
def tw15703585200623127669:=q
def tw13966025091351263800:=q
def tw9117252568413325506:=q
def tw15833167101743149757:=q
def tw12301570924228284581:=q
def tw5310385160269145930:=q
def tw8819915336989140759:=q
def tw14380277496932961465:=q
def tw6815203256599420406:=q
def tw14808960934778762424:=q
def tw3368307694430649426:=q
def tw12841535614692530390:=q
def tw11109747969574925469:=q
def tw17823480280339702379:=q
def tw13726996844266894169:=q
def tw8640190367700693544:=q
def tw10898841321498270003:=q
def tw10622588234515755457:=q
def tw5240541290756148525:=q
def tw9649812699982363403:=q
def tw15202440421747145259:=q
def tw1837590173664134668:=q
def tw4532861325798346416:=q
def tw1493610956715418278:=q
def tw6355493902184133157:=q
def tw1671571525436001833:=q
def tw9072063625282268544:=q
def tw4667982557660118169:=q
def tw331587874691620090:=q
def tw8711121784338075558:=q
def tw18177294843947363983:=q
def tw18433853572897523796:=q
def tw12360709412870761002:=q
def tw10084302990134557752:=q
def tw16248461469210563912:=q
def tw15476081027027222108:=q
def tw13196675016927614271:=q
def tw6050238366930312922:=q
def tw10574056245507134488:=q
def tw7652945941222828524:=q
def tw4796802448471350926:=q
def tw11405324058213745373:=q
def tw3348661575768960323:=q
def tw2475431837196773182:=q
def tw16137146597706706046:=q
def tw5342598383534851741:=q
def tw8241865666017634115:=q
def tw12967410708866241316:=q
def tw11582465986342519272:=q
def tw11859209879711549466:=q
def tw7893613474817672412:=q
def tw1754080760035692180:=q
def tw15930706971736622040:=q
def tw3788170744367056991:=q
def tw5460004787110273082:=q
def tw15499106401508950174:=q
def tw4408281449390613528:=q
def tw11256112775275765788:=q
def tw835838155477848225:=q
def tw4211092480094316460:=q
def tw1331242469077998372:=q
def tw1856045503052856447:=q
def tw4090758906187829372:=q
def tw5671789410962192468:=q
def tw3082037661711639430:=q
def tw14785670668081862659:=q
def tw4247008818374517022:=q
def tw814016480348466550:=q
def tw5128069424102076696:=q
def tw15444491050891139307:=q
def tw10114448229797590606:=q
def tw11480897953820854691:=q
def tw3453806423099622857:=q
def tw2861906622628322624:=q
def tw3433511302130569335:=q
def tw6480322046395497182:=q
def tw13818639041084727754:=q
def tw12125235322334514424:=q
def tw9925287424316672447:=q
def tw16901427581811079650:=q
def tw10165823192795954666:=q
def tw13552669127551064883:=q
def tw14501704831134613362:=q
def tw832252806416776988:=q
def tw17985309087954499629:=q
def tw8560647970529809901:=q
def tw2470674125605511835:=q
def tw15519633905698312457:=q
def tw12479259363732994049:=q
def tw1476734353172919932:=q
def tw2035510526042678087:=q
def tw1936105156369828662:=q
def tw10222152316475277150:=q
def tw1952178421681752117:=q
def tw8797679217484656677:=q
def tw2309545807017669361:=q
def tw7726934907848778061:=q
def tw11713274620676688177:=q
def tw6451764815154231432:=q
def tw1353193006817836269:=q
def tw4217540186636581180:=q
def tw11407523664439249516:=q
def tw18326337205320740073:=q
def tw5369260995485820330:=q
def tw16293755211226917840:=q
def tw3802890985684339413:=q
def tw5080046937620710664:=q
def tw3793825419048468651:=q
def tw8320737922717402851:=q
def tw13118947528470400900:=q
def tw10332579062715784742:=q
def tw617157596875740056:=q
def tw79595255304289441:=q
def tw5335251714518048705:=q
def tw7216826365075396757:=q
def tw17864370824695193867:=q
def tw400014728186044443:=q
def tw15580039397024193912:=q
def tw2366178618351728160:=q
def tw4482122101894142497:=q
def tw3226582140085300977:=q
def tw70717560107104542:=q
def tw17559630400804101833:=q
def tw10680911864110030666:=q
def tw8313859532512492194:=q
def tw10626747616968077299:=q
def tw17604395832117593728:=q
def tw6998321501959277600:=q
def tw2049111781959388199:=q
def tw12452555083538803925:=q
def tw9785858295466685702:=q
def tw4212860359983101578:=q
def tw7024255926166448111:=q
def tw427254675925123024:=q
def tw1803090521269527186:=q
def tw16152170766547349439:=q
def tw9558245790840097969:=q
def tw10191511699661504627:=q
def tw7286605188680701293:=q
def tw15007653850167158638:=q
def tw6602267190682851918:=q
def tw3070322055251364335:=q
def tw6644953393665775220:=q
def tw13232607644966004785:=q
def tw7595041607661687419:=q
def tw16229009215127224942:=q
def tw13923013122724482665:=q
def tw3702130344707622038:=q
def tw9373628422418396602:=q
def tw18251771152223311218:=q
def tw9282862100106213451:=q
def tw8585844174473339482:=q
def tw7978184062884154171:=q
def tw3062447406127961896:=q
def tw1515665563586761177:=q
def tw10644357754508860471:=q
def tw10468400988217802168:=q
def tw6288916367265199532:=q
def tw16415258594614157869:=q
def tw8434242656849647480:=q
def tw10985508243474057764:=q
def tw14932983303146190514:=q
def tw7542804382061257759:=q
def tw6924885355370238166:=q
def tw16634648036656477628:=q
def tw13621537124716662005:=q
def tw5338081834760036089:=q
def tw10454423520588481516:=q
def tw344159833688765912:=q
def tw2402831890309774875:=q
def tw1765186319582199098:=q
def tw12202470909261146682:=q
def tw3519726316014396533:=q
def tw16762764570767047940:=q
def tw17178914353593639160:=q
def tw12524616177006403872:=q
def tw15861188544108311107:=q
def tw6810080749431695881:=q
def tw4195940590259751434:=q
def tw2633862736614138509:=q
def tw1405266219663316365:=q
def tw16528817279098184135:=q
def tw15891134529321694164:=q
def tw11183432286917480789:=q
def tw16925776493135211616:=q
def tw4913718246224102486:=q
def tw15198115946278855006:=q
def tw12884292938828698851:=q
def tw13437703764190341901:=q
def tw17425337449126172109:=q
def tw4663919915725163465:=q
def tw1114828292170999564:=q
def tw136567375130473244:=q
def tw5432169424308110279:=q
def tw3432700401147256823:=q
def tw2978480214850843315:=q
def tw17932748742379439596:=q
def tw17453043302905585149:=q
def tw16162901679252656570:=q
def tw10091699991109117604:=q
def tw13089041574367584582:=q
def tw11194172219685374503:=q
def tw13300629158731082744:=q
def tw5727582639849434593:=q
def tw4674022041829595236:=q
def tw11785239589972423321:=q
def tw9036389320176576096:=q
def tw16772758086405610964:=q
def tw4740328323523953669:=q
def tw9035989186185751856:=q
def tw12061500780801452773:=q
def tw1710784625959127548:=q
def tw14948513367639694634:=q
def tw5671880022464830455:=q
def tw4248083729395519829:=q
def tw8875565418617926599:=q
def tw6214500729959246255:=q
def tw16629924966589754411:=q
def tw17071247644606696332:=q
def tw14681877468617368078:=q
def tw11959746002162631382:=q
def tw11734035713502683275:=q
def tw17350278196631578235:=q
def tw5391131484076575999:=q
def tw5348695369359233374:=q
def tw9571114622180723082:=q
def tw3701315493423342586:=q
def tw3694886826328353751:=q
def tw11246005706338986762:=q
def tw10858012771469023930:=q
def tw34164368842239340:=q
def tw2962157171335810619:=q
def tw4393614696396502695:=q
def tw2457183134696423711:=q
def tw10453561041911753777:=q
def tw5533474749316597536:=q
def tw11790502908838246748:=q
def tw8280815306133908145:=q
def tw17311469984554952678:=q
def tw1257412140815964187:=q
def tw10528973939487119275:=q
def tw7133973608494122023:=q
def tw261426977617628446:=q
def tw17386499600982011877:=q
def tw5930199289365369252:=q
def tw17415967385025298588:=q
def tw1241460235235649579:=q
def tw613919145839438942:=q
def tw3002766580630648147:=q
def tw18343311710002195750:=q
def tw1673888226862351384:=q
def tw14185091484108647831:=q
def tw10227930493139276228:=q
def tw17418941259631876552:=q
def tw4526414121072232364:=q
def tw2721570654962614714:=q
def tw17187880332203591538:=q
def tw11085144562364249951:=q
def tw7723131056413852056:=q
def tw13310896357491751044:=q
def tw7253388550897280887:=q
def tw3357446688114886582:=q
def tw18105378430806382335:=q
def tw1675707400592575557:=q
def tw13380473242076024970:=q
def tw7029277525532083416:=q
def tw12793929447028513402:=q
def tw9471520163613173008:=q
def tw1981855195039409495:=q
def tw11858630251270447144:=q
def tw3694999026304767078:=q
def tw5963515041083704588:=q
def tw4319999625328262372:=q
def tw14292309267107248041:=q
def tw10757573047401828330:=q
def tw3118557050129084172:=q
def tw13204235902085177269:=q
def tw9248801748182400851:=q
def tw6239727309162162637:=q
def tw11748299227695701941:=q
def tw2415952285517816242:=q
def tw2254492010867011853:=q
def tw3531273847813271369:=q
def tw3619305316298568792:=q
def tw17221218369017806427:=q
def tw13962359450515456090:=q
def tw3248291874840006939:=q
def tw16215485411078587526:=q
def tw9069589397044430850:=q
def tw3386921136478851260:=q
def tw5765025520935944223:=q
def tw9691289702006305074:=q
def tw7317977112680409827:=q
def tw7266959453571625650:=q
def tw12660821631320194365:=q
def tw8639395898934143238:=q
def tw4469222780799598067:=q
def tw1809110731640174707:=q
def tw17911765912117074929:=q
def tw388661801163797452:=q
def tw232437915661360029:=q
def tw11888870134446540566:=q
def tw11098266694831830900:=q
def tw9255210175193985776:=q
def tw9010019931553754732:=q
def tw8687623694404671348:=q
def tw17522974103732443669:=q
def tw11917941923754194761:=q
def tw8093406484451911134:=q
def tw7818484058668601247:=q
def tw4529772221749160522:=q
def tw2365391014774079981:=q
def tw16892877670415997523:=q
def tw16296792765073781399:=q
def tw10694468271351834736:=q
def tw5697801951658577983:=q
def tw5313231540013255259:=q
def tw2334964228409402066:=q
def tw15604259837242021728:=q
def tw11861151697784081699:=q
def tw10588327883029852830:=q
def tw9473894250442323169:=q
def tw453368275678921790:=q
def tw16398173169433100291:=q
def tw2007988139488153944:=q
def tw13049804992524932661:=q
def tw10997793603125224227:=q
def tw9496587936790048028:=q
def tw14191127258235497634:=q
def tw10002605385754575885:=q
def tw4383375936482060059:=q
def tw3910450463953969188:=q
def tw1983644551556134811:=q
def tw9114831875345920389:=q
def tw12322044518908306140:=q
def tw5262349124796497924:=q
def tw16756903045306728912:=q
def tw9228332071862343575:=q
def tw767580510745744168:=q
def tw16704122740776765445:=q
def tw14254028560868381339:=q
def tw11385834840478619672:=q
def tw16240135361915063039:=q
def tw1572817709286877334:=q
def tw9376415514162935860:=q
def tw5456915382864040678:=q
def tw18307256234412205119:=q
def tw13111159642061599683:=q
def tw7867634776326353313:=q
def tw16833236294144895349:=q
def tw10255699805697097319:=q
def tw772548818599475240:=q
def tw13779125832732471326:=q
def tw7297272007257560650:=q
def tw16958457970908751339:=q
def tw15029193233894702720:=q
def tw13529890111940196906:=q
def tw12666220391104685057:=q
def tw4960666747391136820:=q
def tw41735013016461652:=q
def tw7819914227117344889:=q
def tw1420402207743453017:=q
def tw12613017273774174584:=q
def tw17768859151236236335:=q
def tw8570800739666840997:=q
def tw887603526729780637:=q
def tw18247254658974656372:=q
def tw9121151050377428808:=q
def tw781341490160478581:=q
def tw17060393381769187327:=q
def tw12360404453756084505:=q
def tw10988143296400260970:=q
def tw14533872863713905684:=q
def tw13955240459657845308:=q
def tw10599693910620921403:=q
def tw9545679410308544432:=q
def tw9360224334344100580:=q
def tw13610128599613002571:=q
def tw10735616747934471095:=q
def tw6222114712129135073:=q
def tw14921394956717145250:=q
def tw17226314694202445990:=q
def tw11508945965952245472:=q
def tw8768223745936280822:=q
def tw7568689871519366234:=q
def tw2016598927704678948:=q
def tw17200152758915753189:=q
def tw13654330853047345271:=q
def tw9358696666330935991:=q
end PySem.W.Fast
open PySem PySem.W PyProof.Rows
set_option maxRecDepth 100000 in
set_option maxHeartbeats 0 in
theorem PySem.Challenge.cw_stoke_k72_whole_rank_by_parts_holds : PySem.Challenge.rw_stoke_k72_whole_rank_by_parts.Holds := by
 w_on; o_law; k_head; (case hw => w_witness2)
 k_fill
 refine K72.walk (l:=PySem.Challenge.rw_stoke_k72_whole_rank_by_parts) rfl rfl rfl (fun w h Y => PySem.W.kIn_of Y) ?F
 case F =>
   intro w mg h KX G
   refine' ⟨_,K72.txt_mk KX G ?_ ?_ ?_ ?_ ?_ ?_ ?_ ?_ ?_ ?_ ?_ ?_ ?_ ?_ ?_ ?_ ?_ ?_ ?_ ?_ ?_ ?_ ?_ ?_ ?_ ?_ ?_ ?_ ?_ ?_ ?_ ?_ ?_ ?_ ?_ ?_ ?_ ?_ ?_ ?_ ?_ ?_ ?_ ?_ ?_ ?_ ?_ ?_ ?_ ?_ ?_ ?_ ?_ ?_ ?_ ?_ ?_ ?_ ?_ ?_ ?_ ?_ ?_ ?_ ?_ ?_ ?_ ?_ ?_ ?_ ?_ ?_ ?_ ?_ ?_ ?_ ?_ ?_ ?_ ?_ ?_ ?_ ?_ ?_ ?_ ?_ ?_ ?_ ?_ ?_ ?_ ?_ ?_ ?_ ?_ ?_ ?_ ?_ ?_ ?_ ?_ ?_ ?_ ?_ ?_ ?_ ?_ ?_ ?_ ?_ ?_ ?_ ?_ ?_ ?_ ?_ ?_ ?_ ?_ ?_ ?_ ?_ ?_ ?_ ?_ ?_ ?_ ?_ ?_ ?_ ?_ ?_ ?_ ?_ ?_ ?_ ?_ ?_ ?_ ?_ ?_ ?_ ?_ ?_ ?_ ?_ ?_ ?_ ?_ ?_ ?_ ?_ ?_ ?_ ?_ ?_ ?_ ?_ ?_ ?_ ?_ ?_ ?_⟩
   iterate 2 (all_goals try first | exact ⟨_,_,_,_,_,_,_,_,_,_,by k_is,by k_is,by k_is,by k_is,by k_is⟩ | exact ⟨_,_,_,_,_,_,_,_,_,_,by k_is,by k_is,by k_is,by k_is⟩ | ((try delta K72.kq_); (try delta K72.kc_); (try delta K72.kf_); (try delta K72.kn_); (try delta K72.kg_); first | k_is | k_exc | kernel_rfl))
