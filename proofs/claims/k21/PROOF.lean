import PyProof.Rows.All
import Wide.All
import OpenK.AllK
import Wide.FinOn
import Lean
import PyProof.EqAt
import PyProof.EqKinds
import PyProof.TupleCall
import PySem.Challenge.RW_stoke_k21_whole_nature
set_option maxHeartbeats 0
set_option Elab.async false
set_option linter.all false
set_option maxRecDepth 100000
abbrev cy:=PySem.Str->Option PySem.Value
abbrev kK:=Option PySem.Value
abbrev aZ:=List PySem.Value
abbrev bZ:=List PySem.Addr
abbrev cp:=List PySem.Str
abbrev bg:=List Nat
abbrev au:=PySem.Value
abbrev ai:=PySem.Addr
abbrev aC:=PySem.W.Frag
abbrev aU:=PySem.Heap
abbrev bq:=PySem.Program
abbrev bh:=PySem.World
def BO:=@List.getD_eq_getElem?_getD
def OS:=@List.length_map
def RJ:=@List.getElem?_eq_some_iff
def T1:=@List.getElem?_map
def UV:=@PySem.wpAny_bind
def aaa:=@List.mem_cons
def aab:=@List.map_append
def aac:=@PySem.Heap.get?_push_of_some
def aad:=@List.length_append
def aae:=@List.not_mem_nil
def aaf:=@Nat.le_refl
def aag:=@List.getElem_mem
def aah:=@Bool.false_ne_true
def aai:=@List.mem_singleton
def aaj:=@Option.some.inj
def aak:=@List.mem_cons_of_mem
def aal:=@decide_eq_false
def aam:=@if_neg
def aan:=@if_pos
def aao:=@PySem.Heap.lt_size
def aap:=@Int.zero_add
def aaq:=@Bool.and_eq_true
def aas:=@PySem.wpAny_pure
def aat:=@List.mem_map
def aau:=@List.size_toArray
def aav:=@Nat.lt_of_lt_of_le
def aaw:=@List.length_range
def aax:=@List.length_take
def aay:=@Int.mul_le_mul_of_nonneg_left
def aaz:=@List.mem_of_getElem?
def aaA:=@List.getElem?_append_left
def aaB:=@Nat.ne_of_lt
def aaC:=@PySem.F.plainAttrs_list
def aaD:=@List.length_cons
def aaE:=@decide_eq_true
def aaF:=@List.mem_cons_self
def aaG:=@List.getElem?_append_right
def aaH:=@List.mem_range
def aaI:=@PySem.F.type_list_append
def aaJ:=@PySem.F.slot_list_append
def aaK:=@PySem.Heap.get?_push_size
def aaL:=@Int.mul_right_comm
def aaM:=@List.getElem?_eq_getElem
def aaN:=@PySem.PassesOwn.never
def aaO:=@Nat.lt_of_le_of_lt
def aaP:=@Int.le_of_lt
def aaQ:=@List.map_cons
def aaR:=@List.mem_append
def aaS:=@decide_eq_true_eq
def aaT:=@Nat.le_trans
def aaU:=@List.range_succ
def aaW:=@List.mem_filter
def aaX:=@Int.toNat_natCast
def aaY:=@Nat.zero_le
def aaZ:=@Int.mul_pos
def aa0:=@PySem.wpAny_mono
def aa1:=@List.take_length
def aa2:=@or_false
def aa3:=@List.mem_append_right
def aa4:=@List.length_filter_le
def aa5:=@Nat.testBit_and
def aa6:=@List.find?_cons
def aa7:=@List.eq_nil_of_length_eq_zero
def aa8:=@List.length_singleton
def aa9:=@Nat.lt_irrefl
def aba:=@Nat.pow_le_pow_right
def abb:=@List.append_nil
def abc:=@Int.mul_assoc
def abd:=@Int.toNat_of_nonneg
def abe:=@List.foldl_append
def abf:=@PySem.W.mg_none_of
def abg:=@PyProof.Rows.callWith_type1
def abh:=@List.filter_append
def abi:=@Int.natCast_nonneg
def abj:=@Int.mul_lt_mul_of_pos_right
def abk:=@Nat.eq_of_testBit_eq
def abl:=@List.getElem?_set_ne
def abm:=@Int.eq_of_mul_eq_mul_right
def abn:=@List.getElem?_set_self
def abo:=@beq_eq_false_iff_ne
def abp:=@List.getElem_of_mem
def abq:=@List.length_set
def abr:=@Int.mul_comm
def abt:=@Int.le_trans
def abu:=@Bool.eq_iff_iff
def abv:=@PySem.wpAny_truthy_bool
def abw:=@List.lookup_cons
def abx:=@Int.le_refl
def aby:=@Bool.not_eq_true'
def abz:=@PySem.mem_of_lookup
def abA:=@Ne.symm
def abB:=@List.nodup_cons
def abC:=@PySem.F.excBase_ValueError
def abD:=@Int.lt_of_mul_lt_mul_right
def abE:=@List.all_eq_true
def abF:=@List.length_replicate
def abG:=@beq_iff_eq
def abH:=@PySem.W.mg_of
def abI:=@congrArg
def abJ:=@List.any_cons
def abK:=@List.take_succ
def abL:=@Int.mul_nonneg
def abM:=@List.take_of_length_le
def abN:=@Nat.not_lt_zero
def abO:=@Nat.le_succ
def abP:=@List.map_map
def abQ:=@Int.ne_of_gt
def abR:=@PySem.Heap.get?_update_other
def abS:=@PySem.wpAny_passesOwn
def abT:=@PySem.Heap.get?_update_self
def abU:=@decide_eq_decide
def abV:=@Nat.le_add_right
def abW:=@PySem.wpAny_pyIter_enum
def abX:=@Option.isSome_iff_exists
def abY:=@List.getElem?_take_of_lt
def abZ:=@Int.mul_fdiv_cancel_left
def ab0:=@Int.add_zero
def ab1:=@PySem.F.slot_tuple_iterator_next
def ab2:=@if_true
def ab3:=@List.length_nil
def ab4:=@List.length_eq_zero_iff
def ab5:=@Bool.false_eq_true
def ab6:=@Option.map_eq_some_iff
def ab8:=@Nat.lt_succ_of_lt
def ab9:=@PySem.wpAny_holding
def aca:=@PySem.W.kia_one
def acb:=@PySem.Paired.length
def acd:=@Nat.le_of_lt
def ace:=@Int.mul_le_mul_of_nonneg_right
def acf:=@Nat.lt_succ_self
def acg:=@Nat.and_le_right
def ach:=@not_or
def aci:=@PySem.intBits_le_iff
def acj:=@List.mem_append_left
def ack:=@PySem.wpAny_loadPart_at
def acl:=@PySem.plainObj_wpAny_Assign_Attribute
def acm:=@if_false
def acn:=@Option.map_some
def aco:=@List.getElem?_concat_length
def acp:=@of_decide_eq_false
def acq:=@Nat.lt_trans
def acr:=@Nat.add_comm
def acs:=@List.mem_filterMap
def act:=@PySem.Heap.get?_none_of_le
def acu:=@PySem.Calls.evalArgs_plain
def acw:=@PySem.wpAny_standAt
def acx:=@Nat.lt_pow_two_of_testBit
def acy:=@List.nodup_nil
def acz:=@PySem.Within.cons
def acA:=@PySem.F.args_tuple_add_2
def acB:=@decide_eq_false_iff_not
def acC:=@PySem.F.entry_tuple_add
def acD:=@List.getElem?_replicate
def acE:=@List.filter_cons_of_pos
def acF:=@List.filter_cons_of_neg
def acG:=@PySem.wpAny_Call_Name_kw
def acH:=@PySem.codeAny_mono
def acI:=@Nat.succ_ne_self
def acJ:=@List.filter_cons
def acK:=@PySem.F.slot_tuple_add
def acL:=@PySem.wpAny_dictEntries
def acM:=@PySem.F.slot_dict_get
def acN:=@Nat.sub_self
def acO:=@Nat.pow_succ
def acP:=@Nat.ne_of_gt
def acQ:=@Nat.le_of_ble_eq_true
def acR:=@List.nil_append
def acS:=@PySem.AutoSeq1.wpAny_loadPart'
def acT:=@Int.mul_lt_mul_right
def acU:=@Int.natAbs_mul
def acV:=@Bool.false_and
def acW:=@Nat.testBit_two_pow
def acX:=@List.getElem?_range
def acY:=@List.filterMap_cons
def acZ:=@PySem.Calls.callWith_builtin
def ac0:=@Array.length_toList
def ac1:=@PySem.wpAny_specialOf
def ac2:=@PySem.wpAny_execs_nil
def ac3:=@PySem.W.of_hideAll
def ac4:=@List.getElem?_tail
def ac5:=@List.cons.inj
def ac7:=@Int.emod_lt_of_pos
def ac8:=@of_decide_eq_true
def ac9:=@Option.isSome_map
def ada:=@List.pairwise_map
def adc:=@List.append_assoc
def ade:=@Int.not_lt
def adf:=@List.map_set
def adg:=@PySem.Heap.size_push
def adh:=@PySem.sizeLine_eq
def adi:=@beq_self_eq_true
def adj:=@PySem.Paired.snoc
def adk:=@List.mem_flatMap
def adl:=@List.any_eq_true
def adm:=@PySem.Heap.SameBut.update
def adn:=@PySem.tupleKind_room_in1
def ado:=@and_congr_right
def adp:=@PySem.W.looks_clsIn
def adq:=@Nat.two_pow_add_eq_or_of_lt
def adr:=@List.of_mem_zip
def ads:=@List.cons.injEq
def adt:=@Int.natCast_pow
def adu:=@Int.emod_nonneg
def adv:=@PySem.Calls.spliced_cons
def adw:=@Bool.or_eq_true
def adx:=@Int.fdiv_eq_ediv_of_nonneg
def ady:=@PySem.wpAny_newObj_type
def adz:=@Nat.testBit_or
def adA:=@List.mem_or_eq_of_mem_set
def adB:=@Int.mul_le_mul
def adC:=@Int.le_of_mul_le_mul_left
def adD:=@Bool.not_false
def adE:=@PySem.F.type_list_extend
def adF:=@PySem.F.slot_list_extend
def adG:=@PySem.wpAny_lookBehind
def adH:=@PySem.pastItsLine_dict
def adI:=@PySem.noFill_tuple_add
def adJ:=@PySem.F.args_dict_get_3
def adK:=@Nat.add_sub_cancel_left
def adL:=@Int.eq_ofNat_of_zero_le
def adM:=@Bool.not_true
def adN:=@PySem.Around.in1_units
def adO:=@PySem.F.entry_dict_get
def adP:=@Nat.le_of_succ_le_succ
def adQ:=@List.pairwise_lt_range
def adR:=@List.flatMap_singleton
def adS:=@List.filter_eq_nil_iff
def adT:=@PySem.F.args_tuple_iterator_next_1
def adU:=@PySem.wpAny_field
def adV:=@List.map_nil
def adW:=@List.getElem?_zipWith
def adX:=@List.getElem?_toArray
def adY:=@Int.natAbs_dvd_natAbs
def adZ:=@PySem.F.entry_tuple_iterator_next
def ad0:=@Bool.or_true
def ad1:=@PySem.wpAny_letOwnedTupleGo_enum
def ad3:=@Nat.mul_le_mul_right
def ad4:=@List.pairwise_append
def ad5:=@Int.add_le_add_right
def ad6:=@PySem.Calls.Name_function_global
def ad7:=@Bool.and_eq_true_iff
def ad8:=@PySem.wpAny_seqItems
def ad9:=@PySem.wpAny_loadPart
def aea:=@PySem.W.hideAll_none
def aeb:=@PySem.PyData.int.inj
def aee:=@Nat.mul_one
def aef:=@List.replicate_succ
def aeg:=@List.length_pos_iff
def aeh:=@List.flatMap_append
def aei:=@Int.mul_neg
def aej:=@PySem.wpAny_call
def aek:=@true_and
def ael:=@decide_eq_true_iff
def aem:=@PySem.W.any_some
def aen:=@List.pairwise_cons
def aeo:=@List.contains_cons
def aep:=@Array.forIn_toList
def aeq:=@Array.find?_toList
def aer:=@Array.append_assoc
def aes:=@List.getElem?_eq_some_iff
namespace L2
open PySem PySem.Spec PyProof.Rows
variable {H:Hp} {Q:VK} {es:List Expr} {g:TG} {lo:Int} {o u:HO} {qual:Str} {s':Shared} {t':Nat} {tb:TS} {te:TE} {tg:Expr} {v:V} {U:St}
abbrev Key:=Sum Int Str
def wQ:Key->au->Bool
 | .inl k,v=>Value.isInt k v
 | .inr x,v=>Value.isStrOf x v
def ZI (w:bh):Key->Int
 | .inl k=>hashInt k
 | .inr x=>hashStr w x
def dB:∀ {k:Key} {v:au},wQ k v=true->(∃ i t,k=Sum.inl i/\v=Value.int i t)\/(∃ x t,k=Sum.inr x/\v=Value.str x t)
 | .inl i,v,h=>by
   obtain ⟨t,e⟩:=Value.isInt_shape (k:=i) (v:=v) h
   exact .inl ⟨i,t,rfl,e⟩
 | .inr x,v,h=>by
   obtain ⟨t,e⟩:=Value.isStrOf_shape (x:=x) (v:=v) h
   exact .inr ⟨x,t,rfl,e⟩
def Fv (i:Int) (t:Tok):wQ (.inl i) (.int i t)=true:=by simp [wQ,Value.isInt]
def Fy (x:Str) (t:Tok):wQ (.inr x) (.str x t)=true:=by simp [wQ,Value.isStrOf]
def Ox (a b:Int):decide ((Sum.inl a:Key)=Sum.inl b)=(a == b):=by
 by_cases e:a=b
 . subst e;simp
 . have h:¬ (Sum.inl a:Key)=Sum.inl b:=λ q=>e (Sum.inl.inj q)
   rw [aal h]
   exact (abo.mpr e).symm
def Nr (a b:Str):decide ((Sum.inr a:Key)=Sum.inr b)=decide (a=b):=by
 by_cases e:a=b
 . subst e;simp
 . have h:¬ (Sum.inr a:Key)=Sum.inr b:=λ q=>e (Sum.inr.inj q)
   rw [aal h,aal e]
def Nz (a:Int) (b:Str):decide ((Sum.inl a:Key)=Sum.inr b)=false:=aal (λ q=>nomatch q)
def NH (a:Str) (b:Int):decide ((Sum.inr a:Key)=Sum.inl b)=false:=aal (λ q=>nomatch q)
def cC (prog:bq) (w:bh):PySem.KeyKind prog w Key where
 is:=wQ
 hash:=ZI w
 inj:=λ v a b d c=>by
   rcases dB d with ⟨i,t,rfl,rfl⟩|⟨x,t,rfl,rfl⟩
   . rcases dB c with ⟨j,u,rfl,e⟩|⟨y,u,rfl,e⟩
     . injection e with e1 _;rw [e1]
     . exact nomatch e
   . rcases dB c with ⟨j,u,rfl,e⟩|⟨y,u,rfl,e⟩
     . exact nomatch e
     . injection e with e1 _;rw [e1]
 byValue:=λ k v h=>by
   rcases dB h with ⟨i,t,rfl,rfl⟩|⟨x,t,rfl,rfl⟩<;>rfl
 pyHash:=λ H h=>by
   rcases dB H with ⟨i,t,rfl,rfl⟩|⟨x,t,rfl,rfl⟩
   . exact wpAny_pyHash_int h
   . exact wpAny_pyHash_str h
 eqBool:=λ f H h=>by
   rcases dB f with ⟨i,t,rfl,rfl⟩|⟨x,t,rfl,rfl⟩
   . rcases dB H with ⟨j,u,rfl,rfl⟩|⟨y,u,rfl,rfl⟩
     . rw [Ox] at h;exact wpAny_eqBool_int h
     . rw [Nz] at h;exact SeqAt.EqAt.int_str i t y u _ _ _ _ h
   . rcases dB H with ⟨j,u,rfl,rfl⟩|⟨y,u,rfl,rfl⟩
     . rw [NH] at h;exact SeqAt.EqAt.str_int x t j u _ _ _ _ h
     . rw [Nr] at h;exact wpAny_eqBool_str h
 «strs»:=λ k x t v h=>by
   rcases dB h with ⟨i,u,rfl,e⟩|⟨y,u,rfl,e⟩
   . exact nomatch e
   . injection e with e1 _
     subst e1
     cases v<;>rfl
def yU (prog:bq) (w:bh) (i:Int) (t:Tok):(cC prog w).is (.inl i) (.int i t)=true:=Fv i t
def zD (prog:bq) (w:bh) (x:Str) (t:Tok):(cC prog w).is (.inr x) (.str x t)=true:=Fy x t
inductive V where
 | cn|bl (b:Bool)|int (i:Int)|str (x:Str)|Ep (b:Array UInt8)|LJ (b:UInt64)|ref (a:ai)|ty (n:String)
 deriving DecidableEq
abbrev aA:=List V
abbrev fR:=Option V
def RelV:V->au->Prop
 | .cn,u=>u=Value.none
 | .bl b,u=>u=Value.bool b
 | .int i,u=>∃ t,u=Value.int i t
 | .str x,u=>∃ t,u=Value.str x t
 | .Ep b,u=>∃ t,u=Value.bytes b t
 | .LJ b,u=>∃ t,u=Value.float b t
 | .ref a,u=>u=Value.ref a
 | .ty n,u=>u=Value.type n
abbrev Vals:aA->aZ->Prop:=Paired RelV
theorem Vals.length {xs:aA} {us:aZ} (r:Vals xs us):xs.length=us.length:=acb r
theorem Vals.get:∀ {xs:aA} {us:aZ} {i:Nat} {x:V},Vals xs us->xs[i]?=some x->∃ u,us[i]?=some u/\RelV x u
 | _,_,_,_,.nil,e=>by simp at e
 | _,_,0,_,.cons r _,e=>by simp at e;subst e;exact ⟨_,rfl,r⟩
 | _,_,i+1,x,.cons _ t,e=>by
   obtain ⟨u,h,H⟩:=Vals.get (i:=i) (x:=x) t (by simpa using e)
   exact ⟨u,by simpa using h,H⟩
theorem Vals.set {x:V} {u:au} (r:RelV x u):∀ {xs:aA} {us:aZ} (i:Nat),Vals xs us->Vals (xs.set i x) (us.set i u)
 | _,_,_,.nil => .nil
 | _,_,0,.cons _ t => .cons r t
 | _,_,i+1,.cons q t => .cons q (Vals.set r i t)
theorem Vals.append:∀ {xs ys:aA} {us w:aZ},Vals xs us->Vals ys w->Vals (xs++ys) (us++w)
 | _,_,_,_,.nil,s=>s
 | _,_,_,_,.cons r t,s => .cons r (Vals.append t s)
theorem Vals.take:∀ {xs:aA} {us:aZ} (n:Nat),Vals xs us->Vals (xs.take n) (us.take n)
 | _,_,0,_ => .nil
 | _,_,_+1,.nil => .nil
 | _,_,n+1,.cons r t => .cons r (Vals.take n t)
theorem Vals.drop:∀ {xs:aA} {us:aZ} (n:Nat),Vals xs us->Vals (xs.drop n) (us.drop n)
 | _,_,0,r=>r
 | _,_,_+1,.nil => .nil
 | _,_,n+1,.cons _ t=>Vals.drop n t
def jw:fR->kK->Prop
 | some v,some u=>RelV v u
 | none,none=>True
 | _,_=>False
def KV {a:Type}:List (a×V)->List (a×au)->Prop:=Paired λ (p:a×V) (q:a×au)=>p.1=q.1/\RelV p.2 q.2
def kV:Key->V
 | .inl i => .int i
 | .inr x => .str x
inductive HO where
 | lst (xs:aA)
 | tup (xs:aA)
 | dK (aE:List (Key×V))|dT (aE:List (List Key×V))
 | set (S:Int->Bool) (n:Nat)
 | ins (C dx:ai) (fs:List (Str×V))
 | own (x:ai)
 | xd (fs:List (Str×V))
 | met (f x:ai)
 | Q0 (lo hi:Int)
 | yX (o:Obj) (u:HO)
 | Lp (ps:Array au)
 | ext (φ:aU->Prop)
abbrev Hp:=ai->Option HO
def upd (H:Hp) (a:ai) (o:HO):Hp:=λ b=>if b=a then some o else H b
def ag {a:ai}:upd H a o a=some o:=by unfold upd;rw [aan rfl]
def aB {a b:ai} (h:b≠a):upd H a o b=H b:=by unfold upd;rw [aam h]
def Dv {a:ai}:upd (upd H a o) a u=upd H a u:=by
 funext b;unfold upd;split<;>rfl
def Pw {a b:ai} (h:H a=some o) (h':H b=some u) (d:o≠u):a≠b:=by
 intro e;subst e;rw [h] at h';exact d (aaj h')
def ax {a b:ai} (h:H a=some o) (h':H b=none):a≠b:=by
 intro e;subst e;rw [h] at h';cases h'
section
variable (P:bq) (w:bh)
def c8 (H:Hp) (h:aU) (a:ai):HO->Prop
 | .lst xs=>xs.length<=sizeLine/\∃ (b:aZ) (n:Nat),Vals xs b/\h.get? a=some { cls:=.type "list",data:=.seq b.toArray n }
 | .tup xs=>xs.length<=sizeLine/\∃ b:aZ,Vals xs b/\IsTup h a b.toArray
 | .dK A=>A.length<=sizeLine/\(a == sysModules)=false/\∃ vs,KV A vs/\h.DictOf (cC P w) a vs
 | .dT A=>A.length<=sizeLine/\(a == sysModules)=false/\∃ xs:List (List Key×ai×au),
     Paired (λ (p:List Key×V) (q:List Key×ai×au)=>p.1=q.1/\H q.2.1=some (.tup (p.1.map kV))/\RelV p.2 q.2.2) A xs /\
     ∃ o es E,h.get? a=some o/\o.ExactDict/\o.data = .dict es E/\es.toList=xs.map (entryOfKey (tupleKind (cC P w)))/\(xs.map (·.1)).Nodup
 | .set S n=>h.SetOf (intKind P w) a S n
 | .ins C d F=>H d=some (.own a)/\F.length<=1000/\d≠a/\h.get? a=some (W.instObj C d) /\
     ∃ m,h.Ns1 d m/\(∀ f,jw (F.lookup f) (m f))/\PySem.Within m (F.map (·.1))
 | .own _=>∃ o,h.get? a=some o
 | .xd F=>∃ m,h.Ns1 a m/\∀ f,jw (F.lookup f) (m f)
 | .Q0 lo i=>∃ t u v,h.get? a=some { cls:=.type "range",data:=.fields #[.int lo t,.int i u,.int 1 v]}
 | .yX o u=>h.get? a=some o/\c8 H h a u
 | .Lp j=>h.get? a=some { cls:=.none,data:=.fields j }
 | .met f x=>h.get? a=some (W.methodObj (.ref f) (.ref x))
 | .ext c=>c h/\(∃ o,h.get? a=some o)/\∀ e g:aU,c e->(∀ o,e.get? a=some o->g.get? a=some o)->c g
def kR (H:Hp) (h:aU):Prop:=∀ a o,H a=some o->c8 P w H h a o
end
section
variable {P:bq} {w:bh} {H H':Hp} {h h':aU} {a:ai} {o:HO}
theorem c8.lt (x:c8 P w H h a o):a<h.objs.size:=by
 cases o with
 | lst X=>obtain ⟨Z,Z,Z,Z,e⟩:=x;exact aao e
 | tup X=>obtain ⟨Z,Z,Z,p⟩:=x;exact p.lt
 | dK A=>obtain ⟨Z,Z,Z,Z,o,Z,Z,e,Z⟩:=x;exact aao e
 | dT A=>obtain ⟨Z,Z,Z,Z,o,Z,Z,e,Z⟩:=x;exact aao e
 | set S n=>obtain ⟨o,Z,Z,Z,e,Z⟩:=x;exact aao e
 | ins C d F=>obtain ⟨Z,Z,Z,e,Z⟩:=x;exact aao e
 | own y=>obtain ⟨Z,e⟩:=x;exact aao e
 | xd F=>obtain ⟨Z,⟨Z,Z,Z,e,Z⟩,Z⟩:=x;exact aao e
 | Q0 lo b=>obtain ⟨Z,Z,Z,e⟩:=x;exact aao e
 | yX O u=>obtain ⟨e,Z⟩:=x;exact aao e
 | Lp c=>exact aao (show h.get? a=some _ from x)
 | met f y=>exact aao (show h.get? a=some _ from x)
 | ext g=>obtain ⟨Z,⟨Z,e⟩,Z⟩:=x;exact aao e
theorem Paired.HV {c d:Type} {F G:c->d->Prop}:∀ {l₁:List c} {l:List d},Paired F l₁ l->(∀ a b,F a b->G a b)->Paired G l₁ l
 | _,_,.nil,_ => .nil
 | _,_,.cons r t,f => .cons (f _ _ r) (Paired.HV t f)
def c8.fT (x:c8 P w H h a o) (k:∀ b u,(b=a\/H b=some (.own a))->h.get? b=some u->h'.get? b=some u) (l:∀ b,H b=some (.own a)->H' b=some (.own a)) (D:∀ b xs,H b=some (.tup xs)->H' b=some (.tup xs)):c8 P w H' h' a o:=by
 induction o with
 | lst xs=>obtain ⟨z,B,n,r,e⟩:=x;exact ⟨z,B,n,r,k _ _ (.inl rfl) e⟩
 | tup xs=>obtain ⟨z,B,r,O,e,c⟩:=x;exact ⟨z,B,r,O,k _ _ (.inl rfl) e,c⟩
 | dK A=>obtain ⟨z,y,V,r,O,es,E,e,c⟩:=x;exact ⟨z,y,V,r,O,es,E,k _ _ (.inl rfl) e,c⟩
 | dT A =>
   obtain ⟨z,y,xs,r,O,es,E,e,c⟩:=x
   exact ⟨z,y,xs,Paired.HV r λ p q z=>⟨z.1,D _ _ z.2.1,z.2.2⟩,O,es,E,k _ _ (.inl rfl) e,c⟩
 | set S n=>obtain ⟨O,es,E,t,e,c⟩:=x;exact ⟨O,es,E,t,k _ _ (.inl rfl) e,c⟩
 | ins C G F =>
   obtain ⟨d,z,N,e,m,⟨g,es,E,j,c⟩,r⟩:=x
   exact ⟨l _ d,z,N,k _ _ (.inl rfl) e,m,⟨g,es,E,k _ _ (.inr d) j,c⟩,r⟩
 | own y=>obtain ⟨O,e⟩:=x;exact ⟨O,k _ _ (.inl rfl) e⟩
 | xd F=>obtain ⟨m,⟨g,es,E,e,c⟩,r⟩:=x;exact ⟨m,⟨g,es,E,k _ _ (.inl rfl) e,c⟩,r⟩
 | Q0 lo J=>obtain ⟨t,u,v,e⟩:=x;exact ⟨t,u,v,k _ _ (.inl rfl) e⟩
 | yX O u I=>obtain ⟨e,q⟩:=x;exact ⟨k _ _ (.inl rfl) e,I q⟩
 | Lp i =>
   have e:h.get? a=some { cls:=.none,data:=.fields i }:=x
   show h'.get? a=some { cls:=.none,data:=.fields i }
   exact k a _ (.inl rfl) e
 | met f y =>
   have e:h.get? a=some (W.methodObj (.ref f) (.ref y)):=x
   show h'.get? a=some (W.methodObj (.ref f) (.ref y))
   exact k a _ (.inl rfl) e
 | ext K=>obtain ⟨p,⟨o,e⟩,s⟩:=x;exact ⟨s _ _ p λ o q=>k _ _ (.inl rfl) q,⟨o,k _ _ (.inl rfl) e⟩,s⟩
theorem kR.lt (x:kR P w H h) (e:H a=some o):a<h.objs.size:=(x a o e).lt
def kR.fresh (x:kR P w H h) (e:h.objs.size<=a):H a=none:=by
 cases q:H a with
 | none=>rfl
 | some u=>exact absurd (aav (x.lt q) e) (aa9 _)
def kR.kept (x:kR P w H h) (k:∀ b u,h.get? b=some u->h'.get? b=some u):kR P w H h':=λ a o e =>
 (x a o e).fT (λ b u Z q=>k b u q) (λ Z q=>q) λ Z Z q=>q
def kR.laid (x:kR P w H h) (k:∀ b u,h.get? b=some u->h'.get? b=some u) (g:h.objs.size<=a) (n:c8 P w (upd H a o) h' a o):kR P w (upd H a o) h':=λ b u e=>by
 have f:=x.fresh g
 by_cases d:b=a
 . subst d;rw [ag] at e;cases e;exact n
 . rw [aB d] at e
   exact (x b u e).fT (λ c v Z q=>k c v q) (λ c q=>by rw [aB (ax q f)];exact q) λ c X q=>by rw [aB (ax q f)];exact q
end
def Rd (H:Hp) (a:ai) (u:HO):Prop:=H a=some u\/∃ o,H a=some (.yX o u)
def Rd.ok {P:bq} {w:bh} {h:aU} {a:ai} (r:Rd H a u) (x:kR P w H h):c8 P w H h a u:=by
 rcases r with r|⟨o,r⟩
 . exact x a u r
 . obtain ⟨Z,q⟩:=x a _ r
   exact q
def PF:Option HO->Prop
 | some (.lst _)=>True
 | some (.dK _)=>True
 | some (.dT _)=>True
 | some (.set _ _)=>True
 | some (.ins _ _ _)=>True
 | some (.ext _)=>True
 | _=>False
section
variable {P:bq} {w:bh} {H:Hp} {h h':aU} {x e:ai} {o':HO}
def kR.write (ok:kR P w H h) (m:PF (H x)) (f:e=x\/H e=some (.own x)) (k:∀ b u,b≠e->h.get? b=some u->h'.get? b=some u) (D:∃ u,h'.get? e=some u) (n:c8 P w (upd H x o') h' x o'):kR P w (upd H x o') h':=λ b u q=>by
 have U:∀ c y,H c=some (.own y)->c≠x:=λ c y r z=>by subst z;rw [r] at m;exact m
 have g:∀ c X,H c=some (.tup X)->c≠x:=λ c X r z=>by subst z;rw [r] at m;exact m
 by_cases a:b=x
 . subst a;rw [ag] at q;cases q;exact n
 .
  rw [aB a] at q
  by_cases M:b=e
  .
   have Q:H b=some (.own x):=by
     rcases f with z|z
     . exact absurd (M.trans z) a
     . rw [M];exact z
   rw [q] at Q;cases Q
   obtain ⟨v,i⟩:=D
   exact ⟨v,by rw [M];exact i⟩
  .
   refine (ok b u q).fT (λ c v d r=>k c v ?_ r) (λ c r=>by rw [aB (U c b r)];exact r) λ c X r=>by rw [aB (g c X r)];exact r
   rcases d with rfl|d
   . exact M
   . rintro rfl
     rcases f with z|z
     . exact U c b d z
     . rw [d] at z;cases z;exact a rfl
end
structure Un (fs ex:bZ) (H H':Hp) (h h':aU):Prop where
 keep:∀ b o,h.get? b=some o->H b=none->b∉fs->b∉ex->h'.get? b=some o
 slot:∀ b o,h.get? b=some o->H b=none->b∈fs->b∉ex->∃ sl,h'.get? b=some { o with slots:=sl }
 free:∀ b o,h.get? b=some o->H b=none->b∉ex->H' b=none
 there:∀ b o,h.get? b=some o->b∉ex->∃ o',h'.get? b=some o'
 rN:∀ b xs,H b=some (.tup xs)->H' b=some (.tup xs)
 pM:∀ b o u,H b=some (.yX o u)->H' b=some (.yX o u)
 se:∀ b ps,H b=some (.Lp ps)->∃ more,H' b=some (.Lp (ps++more))
section
variable {fs ex:bZ} {H H1:Hp} {h h1 h':aU} {a x e:ai} {o:HO}
def Un.any (u:Un fs ex H H1 h h1) {b:ai} {o:Obj} (q:h.get? b=some o) (n:H b=none) (c:b∉ex):∃ sl,h1.get? b=some { o with slots:=sl }:=by
 by_cases a:b∈fs
 . exact u.slot b o q n a c
 . exact ⟨o.slots,u.keep b o q n a c⟩
def Un.kept (k:∀ b u,h.get? b=some u->h'.get? b=some u):Un fs ex H H h h' :=
 ⟨λ b o q Z Z Z=>k b o q,λ b o q Z Z Z=>⟨o.slots,k b o q⟩,λ Z Z Z n Z=>n,λ b o q Z=>⟨o,k b o q⟩,λ Z Z q=>q,λ Z Z Z q=>q,λ Z p q=>⟨#[],by rw [q];simp⟩⟩
def Un.refl:Un fs ex H H h h:=Un.kept λ Z Z q=>q
def Un.laid (k:∀ b u,h.get? b=some u->h'.get? b=some u) (d:h.objs.size<=a) (c:H a=none):Un fs ex H (upd H a o) h h' where
 keep:=λ b u q Z Z Z=>k b u q
 slot:=λ b u q Z Z Z=>⟨u.slots,k b u q⟩
 free:=λ b u q n Z=>by rw [aB (aaB (aav (aao q) d))];exact n
 there:=λ b u q Z=>⟨u,k b u q⟩
 rN:=λ b x q=>by rw [aB (ax q c)];exact q
 pM:=λ b u x q=>by rw [aB (ax q c)];exact q
 se:=λ b p q=>⟨#[],by rw [aB (ax q c),q];simp⟩
def Un.write (m:PF (H x)) (f:e=x\/H e=some (.own x)) (k:∀ b u,b≠e->h.get? b=some u->h'.get? b=some u) (D:∃ u,h'.get? e=some u):Un fs ex H (upd H x o) h h':=by
 have d:∀ b,H b=none->b≠x:=λ b n z=>by subst z;rw [n] at m;exact m
 have c:∀ b,H b=none->b≠e:=λ b n z=>by
   subst z
   rcases f with r|r
   . exact d b n r
   . rw [n] at r;cases r
 have a:∀ b u,H b=some u->¬ PF (some u)->b≠x:=λ b u q N z=>by subst z;rw [q] at m;exact N m
 refine ⟨λ b u q n Z Z=>k b u (c b n) q,λ b u q n Z Z=>⟨u.slots,k b u (c b n) q⟩,λ b u q n Z=>by rw [aB (d b n)];exact n,λ b u q Z=>?_,
   λ b X q=>by rw [aB (a b _ q λ z=>z)];exact q,λ b u X q=>by rw [aB (a b _ q λ z=>z)];exact q,λ b p q=>⟨#[],by rw [aB (a b _ q λ z=>z),q];simp⟩⟩
 by_cases M:b=e
 . subst M;exact D
 . exact ⟨u,k b u M q⟩
end
def UA (h:aU) (H:Hp):bZ:=(List.range h.objs.size).filter λ a=>(H a).isSome
def xH (h:aU) (H:Hp):aU:=W.hideAll h (UA h H)
def Fp (h:aU) (H:Hp):(xH h H).objs.size=h.objs.size:=W.hideAll_size _ _
def Gg {h:aU} {b:ai} {o:Obj} (e:h.get? b=some o) (n:H b=none):(xH h H).get? b=some o :=
 W.hideAll_get _ e λ a=>by
   have q:(H b).isSome=true:=(aaW.mp a).2
   rw [n] at q;simp at q
def Lg {h:aU} {b:ai} {o:Obj} (e:(xH h H).get? b=some o):h.get? b=some o/\H b=none:=by
 have E:h.get? b=some o:=ac3 (UA h H) e
 refine ⟨E,?_⟩
 cases q:H b with
 | none=>rfl
 | some x =>
   have a:b∈UA h H:=aaW.mpr ⟨aaH.mpr (aao E),by simp [q]⟩
   have z:(xH h H).get? b=none:=aea (UA h H) a
   rw [z] at e;cases e
def J1 (g h:aU) (L:ai):List (ai×Obj):=(List.range h.objs.size).filterMap λ a=>if a=L\/(g.get? a).isSome=true then none else (h.get? a).map λ o=>(a,o)
def rest (g h:aU) (L d:ai):List (ai×Obj):=(J1 g h L).filter λ p=>decide (p.1≠d)
structure Mod (K:aC) (mg:cy) (base:aU):Prop where
 Mg:K.In base
 glob:base.Ns mainGlobals mg
 blt:∃ mb,base.Ns builtinsNs mb/\∀ x:Str,x ≠ "__name__"->mb x=bootBuiltins x
 nolimit:base.NoLimit
structure Cx where
 prog:bq
 w:bh
 K:aC
 mg:cy
 base:aU
 A:Around
 N:cp
 s₀:Shared
 H₀:Hp
 env:Env
 outer:List Env
 stack:List Env
 ex:bZ
 fn:Str->Bool
 calm:Bool
 pn:List (ai×Obj)
 xe:au->Shared->Prop
abbrev Cq (X:Cx) (e:Expr) (es:List Expr):Prop:=starEach (e::es) X.env=(false,eval e X.env)::starEach es X.env
abbrev FK (X:Cx) (es:List Expr) (pos:Pos):Prop:=(backTo pos (starEach es X.env)).any (·.1)=false
abbrev U3 (X:Cx) (x:Str):Prop:=X.fn x=true\/X.env.scope.names.lookup x=some .local
abbrev Ba (x:Str):Prop:=(x == ("__debug__" : Str))=false
def iV (l:List Env):bZ:=l.filterMap (·.frame)
abbrev Cx.fs (X:Cx):bZ:=iV X.outer
def Um (s:Scope) (x:Str):Prop:=s.names.lookup x=some .local\/s.names.lookup x=some .cell\/s.names.lookup x=some .free
def Loc (s:Scope) (x:Str):Prop:=s.names.lookup x=some .local\/s.names.lookup x=some .cell
def Look (env:Env) (h:aU) (m:cy) (x:Str) (u:au):Prop :=
 (env.kindOf x=some .local/\m x=some u)\/((env.kindOf x=some .cell\/env.kindOf x=some .free)/\∃ c,env.cells.lookup x=some c/\h.IsCell c (some u))
structure Cx.Ok (X:Cx):Prop where
 mod:Mod X.K X.mg X.base
 kind:X.env.scope.kind = .function
 glob:X.env.globals=mainGlobals
 blt:X.env.builtins=builtinsNs
 above:X.s₀.heap.objs.size<=X.env.locals
 inj:∀ x y c,X.env.cells.lookup x=some c->X.env.cells.lookup y=some c->x=y
 has:∀ x,(X.env.kindOf x=some .cell\/X.env.kindOf x=some .free)->∃ c,X.env.cells.lookup x=some c
 QY:∀ x c,X.fn x=true->X.env.cells.lookup x=some c->X.s₀.heap.objs.size<=c
 hd:X.calm=true->X.A.handled=none
 frames:X.A.frames=some X.stack
 UB:X.stack=X.outer\/(X.stack=X.env::X.outer/\X.env.frame=some X.env.locals)
 exf:∀ b∈X.ex,b≠X.env.locals/\∀ x c,X.env.cells.lookup x=some c->c≠b
 bs:∀ b o,X.base.get? b=some o->X.s₀.heap.get? b=some o/\X.H₀ b=none
 LN:X.base.objs.size<=X.s₀.heap.objs.size
 IP:∀ b o,X.base.get? b=some o->b∉X.ex
 KJ:∀ b∈X.ex,b∉X.fs
 nQ:X.s₀.heap.FunFrames X.base X.outer
 Kb:∀ b∈X.fs,X.H₀ b=none
structure Inv (X:Cx) (pins:List (ai×Obj)) (U:List (fR)) (H:Hp) (s:Shared):Prop where
 ok:X.Ok
 os:s.os=X.s₀.os
 bare:AllBare s.gens
 base:Un X.fs X.ex X.H₀ H X.s₀.heap s.heap
 loc:∃ m,s.heap.Ns X.env.locals m/\∀ (i:Nat) (x:Str) (v:V),X.N[i]?=some x->U[i]?=some (some v)->Um X.env.scope x->∃ u,RelV v u/\Look X.env s.heap m x u
 cell:∀ x c,X.env.cells.lookup x=some c->∃ v,s.heap.IsCell c v
 free:H X.env.locals=none
 mF:∀ x c,X.env.cells.lookup x=some c->H c=none
 pin:∀ p∈X.pn++pins,s.heap.get? p.1=some p.2/\H p.1=none/\p.1≠X.env.locals/\p.1∉X.fs/\∀ v,p.2.data ≠ .cell v
 cA:kR X.prog X.w H s.heap
 len:U.length=X.N.length
section
variable {X:Cx} {pins:List (ai×Obj)} {U:List (fR)} {H H':Hp} {s:Shared} {h':aU}
def Cx.Ok.mY (ok:X.Ok) {b:ai} {o:Obj} (e:X.base.get? b=some o):b∉X.fs:=λ h=>by
 have:=(ok.nQ.mem h).1
 rw [e] at this;cases this
theorem Inv.bs (I:Inv X pins U H s):∀ b o,X.base.get? b=some o->s.heap.get? b=some o/\H b=none:=λ b o e =>
 ⟨I.base.keep b o (I.ok.bs b o e).1 (I.ok.bs b o e).2 (I.ok.mY e) (I.ok.IP b o e),I.base.free b o (I.ok.bs b o e).1 (I.ok.bs b o e).2 (I.ok.IP b o e)⟩
def Inv.bk (I:Inv X pins U H s):∀ b o,X.base.get? b=some o->s.heap.get? b=some o:=λ b o e=>(I.bs b o e).1
theorem Inv.mod (I:Inv X pins U H s):Mod X.K X.mg X.base:=I.ok.mod
def Inv.pH (I:Inv X pins U H s):X.K.In s.heap:=I.ok.mod.Mg.keeps I.bk
theorem Inv.lt (I:Inv X pins U H s):X.env.locals<s.heap.objs.size:=let ⟨_,h,_⟩:=I.loc;h.lt
def Inv.sz (I:Inv X pins U H s):X.s₀.heap.objs.size<=s.heap.objs.size:=aaT I.ok.above (acd I.lt)
def Inv.VR (I:Inv X pins U H s) {a:ai} (h:s.heap.objs.size<=a):a∉X.fs:=λ b=>by
 obtain ⟨Z,o,c,Z⟩:=I.ok.nQ.mem b
 exact absurd (aav (aao c) (aaT I.sz h)) (aa9 _)
def Inv.Ow (I:Inv X pins U H s):∀ x c,X.env.cells.lookup x=some c->c≠X.env.locals:=λ x c e z=>by
 obtain ⟨v,o,a,h⟩:=I.cell x c e
 obtain ⟨m,⟨O,es,E,A,F,Z⟩,Z⟩:=I.loc
 rw [z,A] at a;cases a;rw [F] at h;cases h
theorem Inv.nQ (I:Inv X pins U H s):s.heap.FunFrames X.base X.outer:=by
 have all:∀ (l:List Env),(∀ b∈iV l,b∈X.fs)->X.s₀.heap.FunFrames X.base l->s.heap.FunFrames X.base l:=by
   intro l
   induction l with
   | nil=>intro Z Z;trivial
   | cons env r n =>
     intro d i
     obtain ⟨g,⟨L,o,c,j,k,f⟩,m⟩:=i
     have h:L∈X.fs:=d L (by unfold iV;rw [acY,c];exact aaF)
     obtain ⟨sl,e⟩:=I.base.slot L o k (I.ok.Kb L h) h λ z=>I.ok.KJ L z h
     exact ⟨g,⟨L,_,c,j,e,f⟩,n (λ b a=>d b (by unfold iV;rw [acY,c];exact aak _ a)) m⟩
 exact all X.outer (λ Z a=>a) I.ok.nQ
theorem Inv.stack (I:Inv X pins U H s):s.heap.FunFrames X.base X.stack:=by
 rcases I.ok.UB with e|⟨e,h⟩
 . rw [e];exact I.nQ
 .
  rw [e]
  obtain ⟨m,a,Z⟩:=I.loc
  refine .cons (by rw [I.ok.kind];decide) h a ?_ I.nQ
  exact act (aaT I.ok.LN I.ok.above)
def Inv.Bt (I:Inv X pins U H s):∀ b∈iV X.stack,b∈X.env.locals::X.fs:=λ b h=>by
 rcases I.ok.UB with e|⟨e,a⟩
 . rw [e] at h;exact aak _ h
 .
  rw [e] at h
  unfold iV at h
  rw [acY,a] at h
  exact h
def Inv.oV (I:Inv X pins U H s):∀ b∈iV X.stack,H b=none:=λ b h=>by
 rcases aaa.mp (I.Bt b h) with e|h
 . rw [e];exact I.free
 . obtain ⟨Z,o,a,Z⟩:=I.ok.nQ.mem h
   exact I.base.free b o a (I.ok.Kb b h) λ z=>I.ok.KJ b z h
def Inv.step {g':Array GenState} {t':Nat} {d':Drawn} {ch:bZ} (I:Inv X pins U H s) (y:∀ b∈ch,(b∈X.ex\/X.s₀.heap.objs.size<=b)/\b≠X.env.locals/\(∀ x c,X.env.cells.lookup x=some c->c≠b)/\∀ p∈X.pn++pins,p.1≠b) (K:∀ b o,b≠X.env.locals->b∉X.fs->b∉ch->s.heap.get? b=some o->H b=none->h'.get? b=some o) (S:∀ b o,b≠X.env.locals->b∈X.fs->b∉ch->s.heap.get? b=some o->H b=none->∃ sl,h'.get? b=some { o with slots:=sl }) (f:∀ b o,b∉ch->s.heap.get? b=some o->H b=none->H' b=none) (t:∀ b o,b∉ch->s.heap.get? b=some o->∃ O,h'.get? b=some O) (rN:∀ b xs,H b=some (.tup xs)->H' b=some (.tup xs)) (pM:∀ b o u,H b=some (.yX o u)->H' b=some (.yX o u)) (se:∀ b B,H b=some (.Lp B)->∃ M,H' b=some (.Lp (B++M))) (ns:∀ m,s.heap.Ns X.env.locals m->h'.Ns X.env.locals m) (Q:kR X.prog X.w H' h') (V:AllBare g') :
   Inv X pins U H' { s with heap:=h',gens:=g',drawn:=d',toks:=t' }:=by
 have N:∀ b o,X.s₀.heap.get? b=some o->b≠X.env.locals:=λ b o e=>aaB (aav (aao e) I.ok.above)
 have A:∀ b o,X.s₀.heap.get? b=some o->b∉X.ex->b∉ch:=λ b o e h a=>by
   rcases (y b a).1 with z|z
   . exact h z
   . exact absurd (aav (aao e) z) (aa9 _)
 have C:∀ x c,X.env.cells.lookup x=some c->∀ v,s.heap.IsCell c v->h'.IsCell c v:=λ x c e v ⟨o,g,D⟩=>by
   have R:c∉ch:=λ z=>(y c z).2.2.1 x c e rfl
   by_cases F:c∈X.fs
   . obtain ⟨sl,q⟩:=S c o (I.Ow x c e) F R g (I.mF x c e)
     exact ⟨_,q,D⟩
   . exact ⟨o,K c o (I.Ow x c e) F R g (I.mF x c e),D⟩
 refine ⟨I.ok,I.os,V,⟨λ b o e n a h=>?_,λ b o e n a h=>?_,λ b o e n h=>?_,λ b o e h=>?_,λ b xs e=>rN b xs (I.base.rN b xs e),λ b o xs e=>pM b o xs (I.base.pM b o xs e),λ b B e=>?_⟩,?_,λ x c e=>?_,?_,λ x c e=>?_,λ p G=>?_,Q,I.len⟩
 . exact K b o (N b o e) a (A b o e h) (I.base.keep b o e n a h) (I.base.free b o e n h)
 . obtain ⟨sl,E⟩:=I.base.slot b o e n a h
   obtain ⟨L,j⟩:=S b _ (N b o e) a (A b o e h) E (I.base.free b o e n h)
   exact ⟨L,j⟩
 . obtain ⟨O,E⟩:=I.base.there b o e h
   exact f b O (A b o e h) E (I.base.free b o e n h)
 . obtain ⟨O,E⟩:=I.base.there b o e h
   exact t b O (A b o e h) E
 . obtain ⟨m1,E⟩:=I.base.se b B e
   obtain ⟨m2,j⟩:=se b _ E
   exact ⟨m1++m2,by rw [j,aer]⟩
 .
  obtain ⟨m,Y,W⟩:=I.loc
  refine ⟨m,ns m Y,λ i x v E j T=>?_⟩
  obtain ⟨u,r,l⟩:=W i x v E j T
  refine ⟨u,r,?_⟩
  rcases l with l|⟨k,c,e,z⟩
  . exact .inl l
  . exact .inr ⟨k,c,e,C x c e _ z⟩
 . obtain ⟨v,z⟩:=I.cell x c e
   exact ⟨v,C x c e v z⟩
 . obtain ⟨m,⟨o,Z,Z,g,Z⟩,Z⟩:=I.loc
   exact f _ o (λ z=>(y _ z).2.1 rfl) g I.free
 . obtain ⟨v,o,g,D⟩:=I.cell x c e
   exact f c o (λ z=>(y c z).2.2.1 x c e rfl) g (I.mF x c e)
 . obtain ⟨e,n,J,nf,d⟩:=I.pin p G
   have R:p.1∉ch:=λ z=>(y p.1 z).2.2.2 p G rfl
   exact ⟨K p.1 p.2 J nf R e n,f p.1 p.2 R e n,J,nf,d⟩
def Inv.un {t':Nat} (I:Inv X pins U H s) (u:Un X.fs [] H H' s.heap h') (C:kR X.prog X.w H' h'):Inv X pins U H' { s with heap:=h',toks:=t' }:=by
 obtain ⟨m,⟨o,es,E,a,r⟩,Z⟩:=id I.loc
 obtain ⟨sl,d⟩:=u.any a I.free (by simp)
 exact I.step (g':=s.gens) (d':=s.drawn) (ch:=[]) (λ Z z=>nomatch z) (λ b o Z h Z e n=>u.keep b o e n h (by simp)) (λ b o Z h Z e n=>u.slot b o e n h (by simp)) (λ b o Z e n=>u.free b o e n (by simp)) (λ b o Z e=>u.there b o e (by simp)) u.rN u.pM u.se (λ M f=>by
   obtain ⟨O,c,Y,A,R⟩:=f
   rw [a] at A;cases A
   exact ⟨_,c,Y,d,R⟩) C I.bare
def Inv.call {g':Array GenState} {t':Nat} {d':Drawn} {ch:bZ} (I:Inv X pins U H s) (u:Un (iV X.stack) ch H H' s.heap h') (C:kR X.prog X.w H' h') (j:AllBare g') (f:∀ b∈ch,(b∈X.ex\/X.s₀.heap.objs.size<=b)/\b≠X.env.locals/\(∀ x c,X.env.cells.lookup x=some c->c≠b)/\∀ p∈X.pn++pins,p.1≠b) :
   Inv X pins U H' { s with heap:=h',gens:=g',drawn:=d',toks:=t' }:=by
 obtain ⟨m,⟨o,es,E,d,r⟩,Z⟩:=id I.loc
 obtain ⟨sl,a⟩:=u.any d I.free λ z=>(f _ z).2.1 rfl
 exact I.step (ch:=ch) f (λ b o a i h e n=>u.keep b o e n (λ z=>(aaa.mp (I.Bt b z)).elim a i) h) (λ b o Z Z h e n=>u.any e n h) (λ b o h e n=>u.free b o e n h) (λ b o h e=>u.there b o e h) u.rN u.pM u.se (λ M k=>by
   obtain ⟨O,g,Y,A,R⟩:=k
   rw [d] at A;cases A
   exact ⟨_,g,Y,a,R⟩) C j
def Inv.turned {t':Nat} {i:ai} (I:Inv X pins U H s) (k:∀ b o,b≠i->s.heap.get? b=some o->h'.get? b=some o) (t:H i=none) (a:i≠X.env.locals) (d:i∈X.ex\/X.s₀.heap.objs.size<=i) (f:∀ x c,X.env.cells.lookup x=some c->c≠i) (g:∀ p∈X.pn++pins,p.1≠i):Inv X pins U H { s with heap:=h',toks:=t' }:=by
 have N:∀ b u,H b=some u->b≠i:=λ b u e z=>by rw [z,t] at e;cases e
 refine I.step (g':=s.gens) (d':=s.drawn) (ch:=[i]) (λ b j=>?_) (λ b o Z Z h e Z=>k b o (λ z=>h (by simp [z])) e) (λ b o Z Z h e Z=>⟨o.slots,k b o (λ z=>h (by simp [z])) e⟩) (λ Z Z Z Z n=>n)
   (λ b o h e=>⟨o,k b o (λ z=>h (by simp [z])) e⟩) (λ Z Z e=>e) (λ Z Z Z e=>e) (λ b y e=>⟨#[],by rw [e];simp⟩) (λ m l=>?_) (λ b u e=>?_) I.bare
 . have e:b=i:=by simpa using j
   subst e
   exact ⟨d,a,f,g⟩
 . obtain ⟨o,es,E,w,r⟩:=l
   exact ⟨o,es,E,k _ o (abA a) w,r⟩
 .
  refine (I.cA b u e).fT (λ c v h q=>k c v ?_ q) (λ Z q=>q) λ Z Z q=>q
  rcases h with z|z
  . rw [z];exact N b u e
  . exact N c _ z
def Inv.tok (I:Inv X pins U H s) (t:Nat):Inv X pins U H { s with toks:=t }:=I.un (h':=s.heap) (t':=t) Un.refl I.cA
theorem Inv.kept {t':Nat} (I:Inv X pins U H s) (k:∀ b u,s.heap.get? b=some u->h'.get? b=some u):Inv X pins U H { s with heap:=h',toks:=t' }:=I.un (Un.kept k) (I.cA.kept k)
theorem Inv.laid {a:ai} {t':Nat} (I:Inv X pins U H s) (k:∀ b u,s.heap.get? b=some u->h'.get? b=some u) (h:s.heap.objs.size<=a) (n:c8 X.prog X.w (upd H a o) h' a o) :
   Inv X pins U (upd H a o) { s with heap:=h',toks:=t' }:=I.un (Un.laid k h (I.cA.fresh h)) (I.cA.laid k h n)
theorem Inv.write {x e:ai} {t':Nat} (I:Inv X pins U H s) (m:PF (H x)) (h:e=x\/H e=some (.own x)) (k:∀ b u,b≠e->s.heap.get? b=some u->h'.get? b=some u) (D:∃ u,h'.get? e=some u) (n:c8 X.prog X.w (upd H x o) h' x o):Inv X pins U (upd H x o) { s with heap:=h',toks:=t' }:=I.un (Un.write m h k D) (I.cA.write m h k D n)
def Inv.DM {M:List (ai×Obj)} (I:Inv X pins U H s) (h:∀ p∈M,s.heap.get? p.1=some p.2/\H p.1=none/\p.1≠X.env.locals/\p.1∉X.fs/\∀ v,p.2.data ≠ .cell v):Inv X M U H s :=
 ⟨I.ok,I.os,I.bare,I.base,I.loc,I.cell,I.free,I.mF,λ p a=>(aaR.mp a).elim (λ z=>I.pin p (acj _ z)) (h p),I.cA,I.len⟩
def zL {N:cp} (h:N.Nodup) {i j:Nat} {x:Str} (a:N[i]?=some x) (b:N[j]?=some x):i=j:=by
 obtain ⟨H,e⟩:=RJ.mp a
 obtain ⟨c,E⟩:=RJ.mp b
 exact (List.getElem_inj h).mp (e.trans E.symm)
def wy {M:Model} {A:Around} {E:au->Shared->Prop} {i:Nat} {x:Str} {u:au} {Q:Unit->Shared->Prop} (I:Inv X pins U H s) (hN:X.N.Nodup) (K:X.N[i]?=some x) (B:Loc X.env.scope x) (r:RelV v u) (h:∀ s',Inv X pins (U.set i (some v)) H s'->(∃ a,Heap.SameBut a s.heap s'.heap/\(a=X.env.locals\/X.env.cells.lookup x=some a))->Q () s') (hf:U3 X x:=by first|exact .inl rfl|exact .inr rfl|assumption):wpAny M A (storeName X.env x u) Q E s:=by
 obtain ⟨m,Y,hl⟩:=id I.loc
 have W6:(X.env.scope.kind == .class || (X.env.scope.kind == .module && X.env.locals != X.env.globals))=false:=by rw [I.ok.kind];rfl
 have Z4:i<U.length:=by rw [I.len];exact (RJ.mp K).1
 have S:=I.Ow
 have t:∀ {a:ai} {h':aU},(∃ o,s.heap.get? a=some o/\H a=none)->Heap.SameBut a s.heap h'->kR X.prog X.w H h':=λ {a h'} ha f b ob e=>by
   obtain ⟨Z,Z,jL⟩:=ha
   refine (I.cA b ob e).fT (λ c W l q=>(f.2 c ?_).trans q) (λ Z q=>q) λ Z Z q=>q
   rintro rfl
   rcases l with rfl|l
   . rw [jL] at e;cases e
   . rw [jL] at l;cases l
 rcases B with D|D
 .
  refine wpAny_storeName_local D Y (λ h' ab f=>?_) W6
  obtain ⟨oL,Z,Z,ad,Z⟩:=id Y
  refine h _ ⟨I.ok,I.os,I.bare,⟨λ b o e n F B=>?_,λ b o e n F B=>?_,I.base.free,λ b o e B=>?_,I.base.rN,I.base.pM,I.base.se⟩,⟨_,ab,λ j y v' g C V=>?_⟩,λ y c e=>?_,I.free,I.mF,λ p hp=>?_,t ⟨oL,ad,I.free⟩ f,by simpa using I.len⟩ ⟨_,f,.inl rfl⟩
  . exact (f.2 b (aaB (aav (aao e) I.ok.above))).trans (I.base.keep b o e n F B)
  . obtain ⟨sl,g⟩:=I.base.slot b o e n F B
    exact ⟨sl,(f.2 b (aaB (aav (aao e) I.ok.above))).trans g⟩
  . obtain ⟨o',g⟩:=I.base.there b o e B
    exact ⟨o',(f.2 b (aaB (aav (aao e) I.ok.above))).trans g⟩
  .
   by_cases G:j=i
   . subst G
     rw [K] at g;cases g
     rw [abn Z4] at C
     cases C
     exact ⟨u,r,.inl ⟨D,by simp⟩⟩
   .
    rw [abl (abA G)] at C
    obtain ⟨u',r',q⟩:=hl j y v' g C V
    refine ⟨u',r',?_⟩
    rcases q with ⟨k,e⟩|⟨k,c,e,z⟩
    . refine .inl ⟨k,?_⟩
      have:y≠x:=λ e=>G (zL hN g (e ▸ K))
      simp [this,e]
    . exact .inr ⟨k,c,e,z.sameBut f (S y c e)⟩
  . obtain ⟨W,z⟩:=I.cell y c e
    exact ⟨W,z.sameBut f (S y c e)⟩
  . obtain ⟨e,n,R,nf,d⟩:=I.pin p hp
    exact ⟨(f.2 p.1 R).trans e,n,R,nf,d⟩
 .
  have T:X.fn x=true:=by
    rcases hf with z|z
    . exact z
    . rw [z] at D;cases D
  obtain ⟨c,l⟩:=I.ok.has x (.inl D)
  obtain ⟨W,z⟩:=I.cell x c l
  refine wpAny_storeName_cell I.ok.kind D l z (λ h' Bv f=>?_)
  obtain ⟨oc,L,YK⟩:=id z
  refine h { s with heap:=h' } ⟨I.ok,I.os,I.bare,⟨λ b o e n F B=>?_,λ b o e n F B=>?_,I.base.free,λ b o e B=>?_,I.base.rN,I.base.pM,I.base.se⟩,⟨m,Y.sameBut f (abA (S x c l)),λ j y v' g C V=>?_⟩,λ y O e=>?_,I.free,I.mF,λ p hp=>?_,t ⟨oc,L,I.mF x c l⟩ f,by simpa using I.len⟩ ⟨c,f,.inr l⟩
  . exact (f.2 b (aaB (aav (aao e) (I.ok.QY x c T l)))).trans (I.base.keep b o e n F B)
  . obtain ⟨sl,g⟩:=I.base.slot b o e n F B
    exact ⟨sl,(f.2 b (aaB (aav (aao e) (I.ok.QY x c T l)))).trans g⟩
  . obtain ⟨o',g⟩:=I.base.there b o e B
    exact ⟨o',(f.2 b (aaB (aav (aao e) (I.ok.QY x c T l)))).trans g⟩
  .
   by_cases G:j=i
   . subst G
     rw [K] at g;cases g
     rw [abn Z4] at C
     cases C
     exact ⟨u,r,.inr ⟨.inl D,c,l,Bv⟩⟩
   .
    rw [abl (abA G)] at C
    obtain ⟨u',r',q⟩:=hl j y v' g C V
    refine ⟨u',r',?_⟩
    rcases q with q|⟨k,O,e,z'⟩
    . exact .inl q
    . refine .inr ⟨k,O,e,z'.sameBut f ?_⟩
      rintro rfl
      exact G (zL hN g (I.ok.inj _ _ _ e l ▸ K))
  . by_cases J:O=c
    . subst J;exact ⟨_,Bv⟩
    . obtain ⟨w2,z2⟩:=I.cell y O e
      exact ⟨w2,z2.sameBut f J⟩
  .
   obtain ⟨e,n,R,nf,d⟩:=I.pin p hp
   refine ⟨(f.2 p.1 ?_).trans e,n,R,nf,d⟩
   intro q
   rw [q,L] at e
   have q':oc=p.2:=aaj e
   exact d W (by rw [<- q'];exact YK)
def yT {M:Model} {A:Around} {E:au->Shared->Prop} {i:Nat} {x:Str} {u:au} {Q:Unit->Shared->Prop} (I:Inv X pins U H s) (b:X.N.Nodup) (d:X.N[i]?=some x) (e:Loc X.env.scope x) (r:RelV v u) (h:∀ s',Inv X pins (U.set i (some v)) H s'->Q () s') (c:U3 X x:=by first|exact .inl rfl|exact .inr rfl|assumption):wpAny M A (storeName X.env x u) Q E s :=
 wy I b d e r (λ s' a Z=>h s' a) c
def Inv.Pj {ch:bZ} (I:Inv X pins U H s) (a:s'.os=s.os) (u:Un (iV X.stack) ch H H' s.heap s'.heap) (C:kR X.prog X.w H' s'.heap) (h:AllBare s'.gens) (f:∀ b∈ch,(b∈X.ex\/X.s₀.heap.objs.size<=b)/\b≠X.env.locals/\(∀ x c,X.env.cells.lookup x=some c->c≠b)/\∀ p∈X.pn++pins,p.1≠b):Inv X pins U H' s':=by
 obtain ⟨h',g,d,t',o⟩:=s'
 have e:o=s.os:=a
 subst e
 exact I.call (g':=g) (t':=t') (d':=d) u C h f
end
abbrev XK:=au->Option ai->Hp->Prop
abbrev St:=List (fR)
abbrev VK:=V->Hp->Prop
abbrev TE:=St->Hp->VK->Prop
abbrev TT:=St->Hp->(Bool->Hp->Prop)->Prop
abbrev TA:=St->Hp->(aA->Hp->Prop)->Prop
structure Ends where
 nx:St->Hp->Prop
 rt:VK
 bk:St->Hp->Prop:=λ _ _=>False
 ct:St->Hp->Prop:=λ _ _=>False
abbrev TS:=Ends->St->Hp->Prop
inductive EP (X:Cx) (pins:List (ai×Obj)) (U:St) (Q:VK) (u:au) (s':Shared):Prop|mk (v:V) (H':Hp) (_:Inv X pins U H' s') (_:RelV v u) (_:Q v H')
def TP (X:Cx) (p:List (ai×Obj)) (U:St) (Q:Bool->Hp->Prop) (b:Bool) (s':Shared):Prop:=∃ H,Inv X p U H s'/\Q b H
inductive AP (X:Cx) (pins:List (ai×Obj)) (U:St) (Q:aA->Hp->Prop) (us:aZ) (s':Shared):Prop|mk (vs:aA) (H':Hp) (_:Inv X pins U H' s') (_:Vals vs us) (_:Q vs H')
def SP (X:Cx) (p:List (ai×Obj)) (D:Ends) (f:Flow) (s':Shared):Prop :=
 match f with
 | .next=>∃ a H,Inv X p a H s'/\D.nx a H
 | .brk=>∃ a H,Inv X p a H s'/\D.bk a H
 | .cont=>∃ a H,Inv X p a H s'/\D.ct a H
 | .ret u=>∃ v a H,Inv X p a H s'/\RelV v u/\D.rt v H
def PE (X:Cx) (e:Expr) (t:TE):Prop :=
 ∀ (p:List (ai×Obj)) (s:Shared) (U:St) (H:Hp) (Q:VK),Inv X p U H s->t U H Q->wpAny (model X.prog X.w) X.A (eval e X.env) (EP X p U Q) X.xe s
def PT (X:Cx) (e:Expr) (t:TT):Prop :=
 ∀ (p:List (ai×Obj)) (s:Shared) (U:St) (H:Hp) (Q:Bool->Hp->Prop),Inv X p U H s->t U H Q->wpAny (model X.prog X.w) X.A (isTrue e X.env (eval e X.env)) (TP X p U Q) X.xe s
def PW (X:Cx) (e:Expr) (t:TT):Prop :=
 ∀ (W:Sem au) (p:List (ai×Obj)) (s:Shared) (U:St) (H:Hp) (Q:Bool->Hp->Prop),Inv X p U H s->t U H Q->wpAny (model X.prog X.w) X.A (isTrue e X.env W) (TP X p U Q) X.xe s
def PW.pt {X:Cx} {e:Expr} {t:TT} (h:PW X e t):PT X e t:=h _
def PA (X:Cx) (e:List Expr) (t:TA):Prop :=
 ∀ (a:Pos) (p:List (ai×Obj)) (s:Shared) (U:St) (H:Hp) (Q:aA->Hp->Prop),Inv X p U H s->t U H Q->wpAny (model X.prog X.w) X.A (spliced (backTo a (starEach e X.env))) (AP X p U Q) X.xe s
def PS (X:Cx) (st:Stmt) (t:TS):Prop :=
 ∀ (p:List (ai×Obj)) (s:Shared) (U:St) (H:Hp) (D:Ends),Inv X p U H s->t D U H->wpAny (model X.prog X.w) X.A (exec st X.env) (SP X p D) X.xe s
def rK (X:Cx) (st:List Stmt) (t:TS):Prop :=
 ∀ (p:List (ai×Obj)) (s:Shared) (U:St) (H:Hp) (D:Ends),Inv X p U H s->t D U H->wpAny (model X.prog X.w) X.A (execs st X.env) (SP X p D) X.xe s
def cV {b:Type} {t:Sem b} {Q q:b->Shared->Prop} {M:Model} {A:Around} {E:au->Shared->Prop} {s:Shared} (h:wpAny M A t Q E s) (H:∀ a s,Q a s->q a s):wpAny M A t q E s:=aa0 h H λ Z Z x=>x
section
variable {X:Cx}
inductive K1 (i:Nat) (U:St) (H:Hp) (Q:VK):Prop|mk (v:_) (_:U[i]?=some (some v)) (_:Q v H)
def tC (v:V):TE:=λ Z H Q=>Q v H
def Oi {i:Nat} {x:Str} {d:Pos} (k:X.N[i]?=some x) (t:Um X.env.scope x) (b:Ba x:=by decide) (S:(x == ("__classdict__" : Str))=false:=by decide):PE X (.Name x d) (K1 i):=by
 intro p s U H Q I h
 obtain ⟨v,e,h⟩:=h
 obtain ⟨m,q,n⟩:=I.loc
 obtain ⟨u,r,l⟩:=n i x v k e t
 have f:EP X p U Q u s:=⟨v,H,I,r,h⟩
 rcases l with ⟨a,o⟩|⟨a,c,g,j⟩
 . exact wpAny_Name (wpAny_loadName_local I.ok.kind a q o f) b
 . rcases a with a|a
   . exact wpAny_Name (wpAny_loadName_cell I.ok.kind a g j f) b
   . exact wpAny_Name (wpAny_loadName_free I.ok.kind a g j f S) b
def ah {i j p}:PE X (.Constant (.int i) j p) (tC (.int i)):=λ Z Z Z H Z I h=>wpAny_Constant_int ⟨.int i,H,I.tok _,⟨_,rfl⟩,h⟩
def iC {b j p}:PE X (.Constant (.bool b) j p) (tC (.bl b)):=λ Z Z Z H Z I h=>Constant_bool ⟨.bl b,H,I,rfl,h⟩
def dg {j p}:PE X (.Constant .none j p) (tC .cn):=λ Z Z Z H Z I h=>Constant_none ⟨.cn,H,I,rfl,h⟩
def bQ {x j p}:PE X (.Constant (.str x) j p) (tC (.str x)):=λ Z Z Z H Z I h=>Calls.Constant_str ⟨.str x,H,I.tok _,⟨_,rfl⟩,h⟩
def Gl (X:Cx) (x:Str):Prop:=X.env.kindOf x=some .globalImplicit
def o4 {E:au->Shared->Prop} {p:List (ai×Obj)} {s:Shared} {x:Str} {u:au} {a:Pos} {Q:au->Shared->Prop} (I:Inv X p U H s) (c:Gl X x) (d:X.mg x=some u) (h:Q u s) (b:Ba x:=by decide):wpAny (model X.prog X.w) X.A (eval (.Name x a) X.env) Q E s :=
 ad6 I.ok.kind c (Calls.loadGlobal_global (by rw [I.ok.glob];exact I.mod.glob.keeps I.bk) d h) b
def lS {E:au->Shared->Prop} {p:List (ai×Obj)} {s:Shared} {x:Str} {u:au} {a:Pos} {Q:au->Shared->Prop} (I:Inv X p U H s) (e:Gl X x) (f:X.mg x=none) (i:bootBuiltins x=some u) (h:Q u s) (g:x ≠ "__name__":=by decide) (d:Ba x:=by decide):wpAny (model X.prog X.w) X.A (eval (.Name x a) X.env) Q E s:=by
 obtain ⟨m,b,c⟩:=I.mod.blt
 exact ad6 I.ok.kind e (Calls.loadGlobal_builtin (by rw [I.ok.glob];exact I.mod.glob.keeps I.bk) f (by rw [I.ok.blt];exact b.keeps I.bk) ((c x g).trans i) h) d
def gZ {x:Str} {u:au} {p:Pos} (b:Gl X x) (c:X.mg x=some u) (r:RelV v u) (a:Ba x:=by decide):PE X (.Name x p) (tC v) :=
 λ Z Z Z H Z I h=>o4 I b c ⟨v,H,I,r,h⟩ a
def Dj {x:Str} {u:au} {p:Pos} (b:Gl X x) (c:X.mg x=none) (e:bootBuiltins x=some u) (r:RelV v u) (d:x ≠ "__name__":=by decide) (a:Ba x:=by decide):PE X (.Name x p) (tC v) :=
 λ Z Z Z H Z I h=>lS I b c e ⟨v,H,I,r,h⟩ d a
variable {a b:Expr} {ta tb:TE} {pos:Pos}
def tB (t:TE):TT:=λ U H Q=>t U H λ x h=>∃ c,x = .bl c/\Q c h
def cw {e:Expr} {t:TE} (h:PE X e t) (b:∀ w,isTrue e X.env w=(do let v <- w;standAt e.pos;holding [v] (truthy v)):=by intro Z;rfl):PT X e (tB t):=by
 intro p s U H Q I c
 refine isTrue_plain (cV (h p s U H _ I c) λ v S ⟨x,a,i,r,f⟩=>?_) (b _)
 obtain ⟨d,rfl,q⟩:=f
 cases r
 exact abv ⟨a,i,q⟩
variable {tA Uv:TT} {rest:List Expr}
def Wp (t u:TT):TT:=λ U H Q=>t U H λ c h=>if c=true then u U h Q else Q false h
def tOr (t u:TT):TT:=λ U H Q=>t U H λ c h=>if c=true then Q true h else u U h Q
def V1 (t:TT):TT:=λ U H Q=>t U H λ c h=>Q (!c) h
def oG (b:PT X a tA):PW X (.BoolOp .And [a] pos) tA:=by
 intro w p s U H Q I h
 refine isTrue_and (cV (b p s U H Q I h) λ c S e=>?_)
 cases c with
 | true=>exact isTrue_and_nil e
 | false=>exact e
def nH (b:PT X a tA):PW X (.BoolOp .Or [a] pos) tA:=by
 intro w p s U H Q I h
 refine isTrue_or (cV (b p s U H Q I h) λ c S e=>?_)
 cases c with
 | false=>exact isTrue_or_nil e
 | true=>exact e
def tQ (e:PT X a tA) (f:PW X (.BoolOp .And (b::rest) pos) Uv):PW X (.BoolOp .And (a::b::rest) pos) (Wp tA Uv):=by
 intro w p s U H Q I h
 refine isTrue_and (cV (e p s U H _ I h) λ c S ⟨d,i,q⟩=>?_)
 cases c with
 | true=>exact f w p S U d Q i q
 | false=>exact ⟨d,i,q⟩
def rq (e:PT X a tA) (f:PW X (.BoolOp .Or (b::rest) pos) Uv):PW X (.BoolOp .Or (a::b::rest) pos) (tOr tA Uv):=by
 intro w p s U H Q I h
 refine isTrue_or (cV (e p s U H _ I h) λ c S ⟨d,i,q⟩=>?_)
 cases c with
 | true=>exact ⟨d,i,q⟩
 | false=>exact f w p S U d Q i q
def fF (d:PT X a tA):PT X (.UnaryOp .Not a pos) (V1 tA):=by
 intro p s U H Q I h
 exact isTrue_not (d p s U H (λ c b=>Q (!c) b) I h)
def RL (t tb:TE):TE:=λ U H Q=>t U H λ x h=>∃ c,x = .bl c/\if c=true then tb U h Q else Q (.bl false) h
def YE (t tb:TE):TE:=λ U H Q=>t U H λ x h=>∃ c,x = .bl c/\if c=true then Q (.bl true) h else tb U h Q
def Qs (t:TE):TE:=λ U H Q=>t U H λ x h=>∃ c,x = .bl c/\Q (.bl (!c)) h
def ug {o} {t:TE} (h:PE X a t):PE X (.BoolOp o [a] pos) t:=λ p s U H Q I b=>BoolOp_one (h p s U H Q I b)
def tp (e:PE X a ta) (f:PE X (.BoolOp .And (b::rest) pos) tb):PE X (.BoolOp .And (a::b::rest) pos) (RL ta tb):=by
 intro p s U H Q I h
 refine BoolOp_and (cV (e p s U H _ I h) λ v S ⟨x,d,i,r,q⟩=>?_)
 obtain ⟨c,rfl,q⟩:=q
 cases r
 refine abv ?_
 cases c with
 | true=>exact f p S U d Q i q
 | false=>exact ⟨.bl false,d,i,rfl,q⟩
def Sy (e:PE X a ta) (f:PE X (.BoolOp .Or (b::rest) pos) tb):PE X (.BoolOp .Or (a::b::rest) pos) (YE ta tb):=by
 intro p s U H Q I h
 refine BoolOp_or (cV (e p s U H _ I h) λ v S ⟨x,d,i,r,q⟩=>?_)
 obtain ⟨c,rfl,q⟩:=q
 cases r
 refine abv ?_
 cases c with
 | false=>exact f p S U d Q i q
 | true=>exact ⟨.bl true,d,i,rfl,q⟩
def yd (d:PE X a ta):PE X (.UnaryOp .Not a pos) (Qs ta):=by
 intro p s U H Q I h
 refine UnaryOp_ (cV (d p s U H _ I h) λ v S ⟨x,b,i,r,q⟩=>?_)
 obtain ⟨c,rfl,q⟩:=q
 cases r
 exact not_of (abv ⟨.bl (!c),b,i,rfl,q⟩)
def tIf (t:TT) (T tb:TE):TE:=λ U H Q=>t U H λ c h=>if c=true then T U h Q else tb U h Q
def oS {c:Expr} (j:PT X c tA) (f:PE X a ta) (g:PE X b tb):PE X (.IfExp c a b pos) (tIf tA ta tb):=by
 intro p s U H Q I h
 refine wpAny_IfExp (cV (j p s U H _ I h) λ d S ⟨e,i,q⟩=>?_)
 cases d with
 | true=>exact f p S U e Q i q
 | false=>exact g p S U e Q i q
end
def bi (K:aC) (H:Hp) (a:ai) (xs:aA):Prop :=
 Rd H a (.lst xs) \/
   ∃ (o:Obj) (b:Array au) (n:Nat),K.lookup a=some o/\o.cls = .type "list"/\o.dict=none/\o.data = .seq b n/\b.size<=sizeLine/\Vals xs b.toList
def bR (K:aC) (H:Hp) (a:ai) (xs:aA):Prop :=
 Rd H a (.tup xs) \/
   ∃ (o:Obj) (b:Array au) (n:Nat),K.lookup a=some o/\o.cls = .type "tuple"/\o.data = .seq b n/\b.size<=sizeLine/\Vals xs b.toList
def V0:au->fR
 | .none=>some .cn
 | .bool b=>some (.bl b)
 | .int i _=>some (.int i)
 | .str x _=>some (.str x)
 | .bytes b _=>some (.Ep b)
 | .float b _=>some (.LJ b)
 | .ref a=>some (.ref a)
 | .type n=>some (.ty n)
 | _=>none
def RelV.abs {x:V} {u:au} (r:RelV x u):V0 u=some x:=by
 cases x with
 | cn=>cases r;rfl
 | bl _=>cases r;rfl
 | int _=>obtain ⟨t,rfl⟩:=r;rfl
 | str _=>obtain ⟨t,rfl⟩:=r;rfl
 | Ep _=>obtain ⟨t,rfl⟩:=r;rfl
 | LJ _=>obtain ⟨t,rfl⟩:=r;rfl
 | ref _=>cases r;rfl
 | ty _=>cases r;rfl
def RelV.inj {x y:V} {u:au} (r:RelV x u) (q:RelV y u):x=y:=aaj (r.abs.symm.trans q.abs)
theorem Vals.inj:∀ {xs ys:aA} {us:aZ},Vals xs us->Vals ys us->xs=ys
 | _,_,_,.nil,.nil=>rfl
 | _,_,_,.cons r t,.cons R t'=>by rw [r.inj R,Vals.inj t t']
section
variable {X:Cx} {pins:List (ai×Obj)} {U:St} {H:Hp} {s:Shared} {a:ai} {xs ys:aA}
def bi.of {K:aC} (h:H a=some (.lst xs)):bi K H a xs:=.inl (.inl h)
def bR.of {K:aC} (h:H a=some (.tup xs)):bR K H a xs:=.inl (.inl h)
def Inv.list (I:Inv X pins U H s) (h:bi X.K H a xs):∃ b:aZ,Vals xs b/\PlainL s.heap a b.toArray/\xs.length<=sizeLine:=by
 rcases h with h|⟨o,b,n,f,c,d,g,i,r⟩
 . obtain ⟨z,b,n,r,e⟩:=h.ok I.cA
   exact ⟨b,r,⟨_,n,e,rfl,rfl,rfl⟩,z⟩
 .
  refine ⟨b.toList,r,⟨o,n,I.pH a o f,c,d,by simpa using g⟩,?_⟩
  have e:=r.length
  simp only [ac0] at e
  lia
def Inv.tuple (I:Inv X pins U H s) (h:bR X.K H a xs):∃ b:aZ,Vals xs b/\IsTup s.heap a b.toArray/\xs.length<=sizeLine:=by
 rcases h with h|⟨o,b,n,d,c,f,g,r⟩
 . obtain ⟨z,b,r,p⟩:=h.ok I.cA
   exact ⟨b,r,p,z⟩
 .
  refine ⟨b.toList,r,⟨o,I.pH a o d,c,n,by simpa using f⟩,?_⟩
  have e:=r.length
  simp only [ac0] at e
  lia
def Inv.oT (I:Inv X pins U H s) (h:bi X.K H a xs) (h':bi X.K H a ys):xs=ys:=by
 obtain ⟨b,r,⟨o,n,e,Z,Z,d⟩,Z⟩:=I.list h
 obtain ⟨i,R,⟨O,N,E,Z,Z,D⟩,Z⟩:=I.list h'
 rw [e] at E;cases E
 rw [d] at D
 injection D with d1 _
 have:b=i:=by simpa using abI Array.toList d1
 subst this
 exact r.inj R
def Inv.Em (I:Inv X pins U H s) (h:bR X.K H a xs) (h':bR X.K H a ys):xs=ys:=by
 obtain ⟨b,r,⟨o,e,Z,n,d⟩,Z⟩:=I.tuple h
 obtain ⟨i,R,⟨O,E,Z,N,D⟩,Z⟩:=I.tuple h'
 rw [e] at E;cases E
 rw [d] at D
 injection D with d1 _
 have:b=i:=by simpa using abI Array.toList d1
 subst this
 exact r.inj R
end
abbrev Cx.nK (X:Cx) (E:au->Shared->Prop):Cx:={ X with xe:=E }
abbrev Cx.Fe (X:Cx):Cx:=X.nK λ _ _=>False
theorem Cx.Ok.nK {X:Cx} (ok:X.Ok) (E:au->Shared->Prop):(X.nK E).Ok :=
 ⟨ok.mod,ok.kind,ok.glob,ok.blt,ok.above,ok.inj,ok.has,ok.QY,ok.hd,ok.frames,ok.UB,ok.exf,ok.bs,ok.LN,ok.IP,ok.KJ,ok.nQ,ok.Kb⟩
def Cx.Ok.lM {X:Cx} {E:au->Shared->Prop} (ok:(X.nK E).Ok):X.Ok :=
 ⟨ok.mod,ok.kind,ok.glob,ok.blt,ok.above,ok.inj,ok.has,ok.QY,ok.hd,ok.frames,ok.UB,ok.exf,ok.bs,ok.LN,ok.IP,ok.KJ,ok.nQ,ok.Kb⟩
section
variable {X:Cx} {pins:List (ai×Obj)} {U:St} {H:Hp} {s:Shared} {E:au->Shared->Prop}
theorem Inv.nK (I:Inv X pins U H s) (E:au->Shared->Prop):Inv (X.nK E) pins U H s:=⟨I.ok.nK E,I.os,I.bare,I.base,I.loc,I.cell,I.free,I.mF,I.pin,I.cA,I.len⟩
theorem Inv.lM (I:Inv (X.nK E) pins U H s):Inv X pins U H s:=⟨I.ok.lM,I.os,I.bare,I.base,I.loc,I.cell,I.free,I.mF,I.pin,I.cA,I.len⟩
theorem SP.lM {D:Ends} {f:Flow} (h:SP (X.nK E) pins D f s'):SP X pins D f s':=by
 cases f with
 | next=>obtain ⟨a,H,I,q⟩:=h;exact ⟨a,H,I.lM,q⟩
 | brk=>obtain ⟨a,H,I,q⟩:=h;exact ⟨a,H,I.lM,q⟩
 | cont=>obtain ⟨a,H,I,q⟩:=h;exact ⟨a,H,I.lM,q⟩
 | ret u=>obtain ⟨v,a,H,I,r,q⟩:=h;exact ⟨v,a,H,I.lM,r,q⟩
theorem rK.Fe {st:List Stmt} {t:TS} (h:rK X.Fe st t):rK X st t:=λ pins s U H D I a =>
 aa0 (h pins s U H D (I.nK _) a) (λ Z Z q=>q.lM) λ Z Z z=>False.elim z
end
section
variable {X:Cx} {st:Stmt} {rest:List Stmt} {t u:TS} {e:Expr} {te:TE} {pos:Pos}
def PN:TS:=λ D U H=>D.nx U H
def aS (t u:TS):TS:=λ D U H=>t { D with nx:=u D } U H
def aK:rK X [] PN:=λ Z Z U H Z I h=>ac2 ⟨U,H,I,h⟩
def ac (c:PS X st t) (d:rK X rest u):rK X (st::rest) (aS t u):=by
 intro p s U H D I h
 refine wpAny_execs_cons (cV (c p s U H { D with nx:=u D } I h) λ f S q=>?_)
 cases f with
 | next =>
   obtain ⟨a,b,i,q⟩:=q
   exact d p S a b D i q
 | ret v=>exact q
 | brk=>exact q
 | cont=>exact q
def am (a:PS X st t):rK X [st] t:=by
 intro p s U H D I h
 refine wpAny_execs_cons (cV (a p s U H D I h) λ f S q=>?_)
 cases f with
 | next=>exact ac2 q
 | ret v=>exact q
 | brk=>exact q
 | cont=>exact q
def Inv.quiet {p:List (ai×Obj)} {s:Shared} (I:Inv X p U H s):interactive X.env=false:=by simp [interactive,I.ok.kind]
def Ry (t:TE):TS:=λ D U H=>t U H λ Z h=>D.nx U h
def bf (b:PE X e te) (c:swapsWith e none pos.line X.env=pure false:=by rfl):PS X (.Expr e pos) (Ry te):=by
 intro p s U H D I h
 exact wpAny_Expr_any (cV (b p s U H _ I h) λ v S ⟨x,a,i,r,q⟩=>⟨U,a,i,q⟩) I.quiet c
def Zx (t:TE):TS:=λ D U H=>t U H D.rt
def aI (b:PE X e te):PS X (.Return (some e) pos) (Zx te):=by
 intro p s U H D I h
 exact wpAny_Return_some (cV (b p s U H _ I h) λ v S ⟨x,a,i,r,q⟩=>⟨x,U,a,i,r,q⟩)
def YH (c:TT) (t u:TS):TS:=λ D U H=>c U H λ b h=>if b=true then t D U h else u D U h
def bB {c:Expr} {a b:List Stmt} {T:TT} (j:PT X c T) (f:rK X a t) (g:rK X b u):PS X (.If c a b pos) (YH T t u):=by
 intro p s U H D I h
 refine wpAny_If (cV (j p s U H _ I h) λ d S ⟨e,i,q⟩=>?_)
 cases d with
 | true=>exact f p S U e D i q
 | false=>exact g p S U e D i q
def NC:TS:=λ Z Z Z=>False
def cN:PS X st NC:=λ Z Z Z Z Z Z h=>h.elim
end
abbrev TG:=V->St->Hp->(St->Hp->Prop)->Prop
abbrev Oj:=aA->St->Hp->(St->Hp->Prop)->Prop
def PG (X:Cx) (T:Expr) (t:TG):Prop :=
 ∀ (p:List (ai×Obj)) (s:Shared) (U:St) (H:Hp) (v:V) (u:au) (Q:St->Hp->Prop),Inv X p U H s->RelV v u->t v U H Q ->
   wpAny (model X.prog X.w) X.A (assign T X.env u) (λ Z s'=>∃ a h,Inv X p a h s'/\Q a h) X.xe s
def O8 (X:Cx) (T:List Expr) (t:Oj):Prop :=
 ∀ (p:List (ai×Obj)) (s:Shared) (U:St) (H:Hp) (v:aA) (u:aZ) (Q:St->Hp->Prop),Inv X p U H s->Vals v u->t v U H Q ->
   wpAny (model X.prog X.w) X.A (assignInOrder ((assignEach T X.env).map (·.2)) u) (λ Z s'=>∃ a h,Inv X p a h s'/\Q a h) X.xe s
abbrev MY:=V->V->V->Hp->(Hp->Prop)->Prop
def TB (X:Cx) (t:MY):Prop :=
 ∀ (p:List (ai×Obj)) (s:Shared) (U:St) (H:Hp) (o i v:V) (O I u:au) (Q:Hp->Prop),Inv X p U H s->RelV o O->RelV i I->RelV v u->t o i v H Q ->
   wpAny (model X.prog X.w) X.A (setItem O I u) (λ Z s'=>∃ h,Inv X p U h s'/\Q h) X.xe s
section
variable {X:Cx} {pos:Pos}
def tF (i:Nat):TG:=λ v U H Q=>Q (U.set i (some v)) H
def Ed {i:Nat} {x:Str} (b:X.N.Nodup) (d:X.N[i]?=some x) (e:Loc X.env.scope x) (c:U3 X x:=by first|exact .inl rfl|exact .inr rfl|assumption):PG X (.Name x pos) (tF i):=by
 intro p s U H v u Q I r h
 exact wpAny_assign_Name (yT I b d e r (λ s' a=>⟨_,H,a,h⟩) c)
def YU:Oj:=λ v U H Q=>v=[]/\Q U H
inductive Qf (t:TG) (u:Oj) (vs:aA) (U:St) (H:Hp) (Q:(St->Hp->Prop)):Prop|mk (v r:_) (_:vs=v::r) (_:t v U H λ σ' H'=>u r σ' H' Q)
def eQ:O8 X [] YU:=by
 intro p s U H v u Q I r h
 obtain ⟨e,h⟩:=h
 subst e
 cases r
 exact assignInOrder_nil ⟨U,H,I,h⟩
def aY {e:Expr} {t:TG} {u:Oj} (c:PG X e t) (d:O8 X es u) (f:(assignEach (e::es) X.env).map (·.2)=assign e X.env::(assignEach es X.env).map (·.2):=by rfl):O8 X (e::es) (Qf t u):=by
 intro p s U H j g Q I r h
 obtain ⟨v,V,E,h⟩:=h
 subst E
 cases r with
 | cons r R =>
   rw [f]
   refine assignInOrder_cons (cV (c p s U H _ _ _ I r h) λ Z S ⟨a,b,i,q⟩=>?_)
   exact d p S a b _ _ Q i R q
inductive SA (K:aC) (n:Nat) (t:Oj) (v:V) (U:St) (H:Hp) (Q:(St->Hp->Prop)):Prop|mk (a xs:_) (_:v = .ref a) (_:bR K H a xs) (_:xs.length=n) (_:t xs U H Q)
def OI {k:Nat} {t:Oj} {n:Nat} (f:X.calm=true) (h:O8 X es t) (j:(assignEach es X.env).length=n:=by rfl) (w:(assignEach es X.env).findIdx? (·.1)=none:=by rfl):PG X (.Tuple es k pos) (SA X.K n t):=by
 intro p s U H v u Q I r c
 obtain ⟨a,x,E,l,g,c⟩:=c
 subst E
 cases r
 obtain ⟨B,R,m,y⟩:=I.tuple l
 refine assign_Tuple_tuple (I.ok.hd f) m (by simp [j,<- g,R.length]) w λ d q=>?_
 have i:Inv X p U H { s with heap:=d }:=I.kept (t':=s.toks) λ b o e=>q b o (aaB (aao e)) e
 exact h p _ U H x _ Q i (by simpa using R) c
def VU (c T:TE) (t:MY):TG:=λ v U H Q=>c U H λ o h=>T U h λ i a=>t o i v a λ b=>Q U b
def xN {o i:Expr} {b T:TE} {t:MY} (m:PE X o b) (l:PE X i T) (n:TB X t) (k:∀ v,assign (.Subscript o i pos) X.env v=(do
     let O <- holding [v] (eval o X.env)
     let a <- holding [v,O] (eval i X.env)
     standAt pos
     holding [v,O,a] (setItem O a v)
     release [v,O,a] []):=by intro Z;rfl):PG X (.Subscript o i pos) (VU b T t):=by
 intro p s U H v u Q I r h
 rw [k]
 refine UV (ab9 (cV (m p s U H _ I h) λ O S ⟨x,c,f,R,q⟩=>?_))
 refine UV (ab9 (cV (l p S U c _ f q) λ a B ⟨y,d,g,A,w⟩=>?_))
 refine UV (acw (UV (ab9 (cV (n p B U d x y v O a u _ g R A r w) λ Z C ⟨e,j,z⟩=>?_))))
 exact wpAny_release ⟨U,e,j,z⟩
def GH (t:TE) (g:TG):TS:=λ D U H=>t U H λ x h=>g x U h D.nx
def i8 {e:Expr} (c:PE X e te) (d:PG X tg g) (f:swapsWithSole [tg] e pos.line X.env=pure false:=by rfl) (hw:swappedStores [tg] e X.env=pure none:=by rfl) (b:(assignEach [tg] X.env).map (·.2)=[assign tg X.env]:=by rfl):PS X (.Assign [tg] e pos) (GH te g):=by
 intro p s U H D I h
 refine wpAny_Assign_stores (cV (c p s U H _ I h) λ v S ⟨x,a,i,r,Q⟩=>?_) f hw
 rw [b]
 exact cV (d p S U a x v _ i r Q) λ Z j q=>q
def MO {i:Nat} {x:Str} {e:Expr} {p:Pos} (f:X.N.Nodup) (k:X.N[i]?=some x) (m:Loc X.env.scope x) (g:PE X e te) (l:swapsWith e (some (.Name x p)) pos.line X.env=pure false:=by rfl) (j:U3 X x:=by first|exact .inl rfl|exact .inr rfl|assumption) :
   PS X (.Assign [.Name x p] e pos) (GH te (tF i)):=by
 intro a s U H D I h
 refine wpAny_Assign_Name (cV (g a s U H _ I h) λ v S ⟨y,b,c,r,q⟩=>?_) l
 exact yT c f k m r (λ n d=>⟨_,b,d,q⟩) j
end
section
variable {X:Cx} {pos:Pos}
def Nj (c:TT) (tb:TS):TS:=λ D U H=>∃ W:Nat->St->Hp->Prop,(∃ m,W m U H)/\∀ m U H,W m U H ->
 c U H λ b d=>if b=true then ∃ N:St->Hp->Prop,(∀ a h,N a h->∃ M,M<m/\W M a h)/\tb { D with nx:=N,ct:=N,bk:=D.nx } U d else D.nx U d
def yP {c:Expr} {B:List Stmt} {T:TT} (z:PassesOwn (model X.prog X.w) X.A X.env X.xe) (F:PT X c T) (E:rK X B tb):PS X (.While c B [] pos) (Nj T tb):=by
 intro p s U H D I h
 obtain ⟨W,⟨M,J⟩,t⟩:=h
 refine wpAny_While (codeAny_whileLoop (λ n s'=>∃ g o,Inv X p g o s'/\W n g o) ?_ M ⟨U,H,I,J⟩)
 rintro n S ⟨d,r,C,K⟩
 refine abS z (cV (F p S d r _ C (t n d r K)) λ b G ⟨u,x,q⟩=>?_)
 cases b with
 | true =>
   obtain ⟨N,y,q⟩:=q
   rw [aan rfl]
   refine abS z (cV (E p G d u _ x q) λ f L Q=>?_)
   cases f with
   | next =>
     obtain ⟨a,e,i,k⟩:=Q
     obtain ⟨m,j,l⟩:=y a e k
     exact ⟨m,j,a,e,i,l⟩
   | cont =>
     obtain ⟨a,e,i,k⟩:=Q
     obtain ⟨m,j,l⟩:=y a e k
     exact ⟨m,j,a,e,i,l⟩
   | brk=>exact Q
   | ret v=>exact Q
 | false =>
   rw [aam aah]
   exact ac2 ⟨d,u,x,q⟩
end
structure It where
 go:Nat->Hp->Prop
 FX:Nat->Hp->V->Hp->Prop
 stop:Nat->Hp->Prop
def u6 (X:Cx) (a:List (ai×Obj)) (H:Hp) (b:ai):Prop :=
 H b=none/\b≠X.env.locals/\b∉X.fs/\(b∈X.ex\/X.s₀.heap.objs.size<=b)/\(∀ x c,X.env.cells.lookup x=some c->c≠b)/\∀ p∈X.pn++a,p.1≠b
def Inv.zi {X:Cx} {a:List (ai×Obj)} {d:Hp} {s:Shared} {b:ai} (I:Inv X a U H s) (h:s.heap.objs.size<=b) (f:d b=none):u6 X a d b:=by
 refine ⟨f,acP (aav I.lt h),I.VR h,.inr (aaT I.sz h),λ x c e z=>?_,λ p g z=>?_⟩
 . obtain ⟨v,q⟩:=I.cell x c e
   exact absurd (aav q.lt (by rw [z];exact h)) (aa9 _)
 . exact absurd (aav (aao (I.pin p g).1) (by rw [z];exact h)) (aa9 _)
structure Turn (P:bq) (w:bh) (K:aC) (tg:Expr) (J:It) (fp:bZ) (it:ai) (tn:Nat->aU->Prop):Prop where
 mem:it∈fp
 obj:∀ i h,tn i h->∀ b∈fp,∃ o,h.get? b=some o/\∀ v,o.data ≠ .cell v
 keep:∀ i h h',tn i h->(∀ b∈fp,∀ o,h.get? b=some o->h'.get? b=some o)->tn i h'
 item:∀ (X:Cx),X.prog=P->X.w=w->X.K=K->X.calm=true->∀ (i:Nat) (pins:List (ai×Obj)) (s:Shared) (U:St) (H:Hp) (E:au->Shared->Prop),Inv X pins U H s->(∀ b∈fp,u6 X pins H b)->tn i s.heap->J.go i H ->
   wpAny (model P w) X.A (pyNext (.ref it)) (λ r s1=>∃ u,r=some u /\
     wpAny (model P w) X.A (letOwnedTupleGo tg (.ref it) u) (λ _ s2=>∃ x H',Inv X pins U H' s2/\RelV x u/\J.FX i H x H'/\tn (i+1) s2.heap/\∀ b∈fp,H' b=none) E s1) E s
 done:∀ (X:Cx),X.prog=P->X.w=w->X.K=K->X.calm=true->∀ (i:Nat) (pins:List (ai×Obj)) (s:Shared) (U:St) (H:Hp) (E:au->Shared->Prop),Inv X pins U H s->(∀ b∈fp,u6 X pins H b)->tn i s.heap->J.stop i H ->
   wpAny (model P w) X.A (pyNext (.ref it)) (λ r s1=>r=none/\Inv X pins U H s1) E s
 self:∀ (A:Around) (i:Nat) (s:Shared) (Q:au->Shared->Prop) (E:au->Shared->Prop),tn i s.heap->Q (.ref it) s->wpAny (model P w) A (pyIter (.ref it)) Q E s
abbrev TI:=St->Hp->(It->Hp->Prop)->Prop
def PIE (X:Cx) (p:List (ai×Obj)) (U:St) (T:Expr) (R:It->Hp->Prop) (Y:au) (s:Shared):Prop :=
 ∃ (i:ai) (f:bZ) (t:Nat->aU->Prop) (J:It) (H:Hp),Y = .ref i/\Inv X p U H s/\Turn X.prog X.w X.K T J f i t/\t 0 s.heap/\(∀ b∈f,u6 X p H b)/\R J H
def PI (X:Cx) (t i:Expr) (W:TI):Prop :=
 ∀ (p:List (ai×Obj)) (s:Shared) (U:St) (H:Hp) (R:It->Hp->Prop),Inv X p U H s->W U H R ->
   wpAny (model X.prog X.w) X.A (eval i X.env) (λ v S=>wpAny (model X.prog X.w) X.A (pyIter v) (PIE X p U t R) X.xe S) X.xe s
def Mc {M:Model} {A:Around} {E:au->Shared->Prop} {s:Shared} {i:ai} {u:au} {o:Obj} {n:String} {vs:Array au} {Q:Unit->Shared->Prop} (d:s.heap.get? i=some o) (a:o.cls = .type n) (b:o.data = .fields vs) (c:["enumerate","zip","dict_itemiterator","dict_reverseitemiterator","odict_iterator","itertools.zip_longest","itertools.pairwise"].contains n=false) (H:Q () s):wpAny M A (letOwnedTupleGo tg (.ref i) u) Q E s:=by
 unfold letOwnedTupleGo
 cases tg<;>first
   | exact aas H
   | (cases u<;>first
       | exact aas H
       | (refine UV (wpAny_load d ?_)
          rw [a,b]
          show wpAny M A (if (["enumerate","zip","dict_itemiterator","dict_reverseitemiterator","odict_iterator","itertools.zip_longest","itertools.pairwise"].contains n && vs[0]? == some (rawInt _))=true then _ else _) Q E s
          rw [aam (by intro h;rw [c,acV] at h;cases h)]
          exact aas H))
def IV (K:aC) (a:ai):It :=
 ⟨λ i H=>∃ X x,bi K H a X/\X[i]?=some x,λ i H x h=>h=H/\∀ X,bi K H a X->X[i]?=some x,λ i H=>∃ X,bi K H a X/\X.length<=i⟩
def FU (lo:Int) (n:Nat):It:=⟨λ i Z=>i<n,λ i H x h=>h=H/\x = .int (lo+i),λ i Z=>n<=i⟩
def Fk {P:bq} {w:bh} {K:aC} (a j:ai):Turn P w K tg (IV K a) [j] j (λ i h=>h.IsListIter j a i) where
 mem:=by simp
 obj:=λ i h S b g=>by
   have e:b=j:=by simpa using g
   subst e
   obtain ⟨o,e,c,d⟩:=S
   exact ⟨o,e,λ v z=>by rw [d] at z;cases z⟩
 keep:=λ i h l S k=>S.at λ o e=>k j (by simp) o e
 item:=by
   intro X B D A J i f s U H E I m S C
   subst B D A
   obtain ⟨xs,x,n,G⟩:=C
   obtain ⟨N,R,p,W⟩:=I.list n
   obtain ⟨u,T,Y⟩:=R.get G
   obtain ⟨F,q,Q,r,t,y⟩:=m j (by simp)
   refine wpAny_pyNext_list_item S p.isList (x:=u) (by simpa using T) λ l L sb=>?_
   have M:Inv X f U H { s with heap:=l }:=I.turned (t':=s.toks) (λ b o g e=>(sb.2 b g).trans e) F q r t y
   obtain ⟨o,e,c,d⟩:=id L
   exact ⟨u,rfl,Mc (s:={ s with heap:=l }) e c d (by decide) ⟨x,H,M,Y,⟨rfl,λ ys V=>by rw [I.oT V n];exact G⟩,L,λ b g=>(m b g).1⟩⟩
 done:=by
   intro X B D A J i f s U H E I m S C
   subst B D A
   obtain ⟨xs,n,G⟩:=C
   obtain ⟨N,R,p,W⟩:=I.list n
   obtain ⟨F,q,Q,r,t,y⟩:=m j (by simp)
   have hl:=R.length
   exact wpAny_pyNext_list_end (I.ok.hd J) S p.isList (by simp;lia) λ l O=>⟨rfl,I.turned (t':=s.toks) (λ b o g e=>O b o g e) F q r t y⟩
 self:=λ Z Z Z Z Z S h=>wpAny_pyIter_listiter S h
def CH {P:bq} {w:bh} {K:aC} (a:ai) (lo:Int) (n:Nat):Turn P w K tg (FU lo n) [a] a (λ i h=>IsRangeIter h a (lo+(i:Nat) * 1) ((n:Int) - (i:Nat)) 1) where
 mem:=by simp
 obj:=λ i h S b c=>by
   have e:b=a:=by simpa using c
   subst e
   exact ⟨_,S,λ v z=>by
     have J:Data.fields _=Data.cell v:=z
     cases J⟩
 keep:=λ i h d S k=>k a (by simp) _ S
 item:=by
   intro X r y q u i p s U H E I f S x
   subst r y q
   obtain ⟨F,g,C,j,l,m⟩:=f a (by simp)
   have W:=Walks.range (prog:=X.prog) (w:=X.w) (I.ok.hd u) a lo 1 n
   refine W.item i s _ _ x S λ v d T D L G=>?_
   obtain ⟨t,rfl⟩:=D
   have A:Inv X p U H { s with heap:=d,toks:=T }:=I.turned (λ b o c e=>G b o (by simpa using c) e) F g j l m
   refine ⟨_,rfl,Mc (s:={ s with heap:=d,toks:=T }) (n:="range_iterator") L rfl rfl (by decide) ⟨.int (lo+i),H,A,⟨t,?_⟩,⟨rfl,rfl⟩,L,λ b c=>(f b c).1⟩⟩
   rw [Int.mul_one]
 done:=by
   intro X r y q u i p s U H E I f S x
   subst r y q
   obtain ⟨F,g,C,j,l,m⟩:=f a (by simp)
   exact wpAny_pyNext_range_end (I.ok.hd u) S (by have:n<=i:=x;lia) λ d B=>⟨rfl,I.turned (t':=s.toks) (λ b o c e=>B b o c e) F g j l m⟩
 self:=λ Z Z Z Z Z S h=>wpAny_pyIter_rangeiter S h
section
variable {X:Cx} {tg:Expr}
inductive VI (K:aC) (R:It->Hp->Prop) (x:V) (H1:Hp):Prop|mk (a:ai) (h1:x = .ref a) (h2:∃ xs,bi K H1 a xs) (q:R (IV K a) H1)
def Sx (K:aC) (t:TE):TI:=λ U H R=>t U H (VI K R)
def dP {l:Expr} {t:TE} (g:PE X l t):PI X tg l (Sx X.K t):=by
 intro c s U H R I h
 refine cV (g c s U H _ I h) λ v S ⟨x,d,i,r,Q⟩=>?_
 obtain ⟨a,e,⟨n,j⟩,q⟩:=Q
 subst e
 cases r
 obtain ⟨B,m,p,k⟩:=i.list j
 refine wpAny_pyIter_list p.isList ?_
 refine ⟨S.heap.objs.size,[S.heap.objs.size],_,_,d,rfl,i.kept (t':=S.toks) λ b o e=>aac _ e,Fk a _,⟨_,aaK _ rfl,rfl,rfl⟩,λ b f=>?_,q⟩
 have e:b=S.heap.objs.size:=by simpa using f
 subst e
 exact i.zi (aaf _) (i.cA.fresh (aaf _))
def IS {p:List (ai×Obj)} {s:Shared} {R:It->Hp->Prop} {E:au->Shared->Prop} {h:Int} {t u v:Tok} {T:Nat} (I:Inv X p U H s) (d : -(2 ^ 62)<=lo) (f:lo<2 ^ 62) (g : -(2 ^ 62)<=h) (j:h<2 ^ 62) (q:R (FU lo (h - lo).toNat) H):wpAny (model X.prog X.w) X.A (pyIter (.ref s.heap.objs.size)) (PIE X p U tg R) E { s with heap:=s.heap.push { cls:=.type "range",data:=.fields #[.int lo t,.int h u,.int 1 v]},toks:=T }:=by
 refine wpAny_pyIter_range (IsRange.new ..) (small_one d f g j) ?_
 have i:Inv X p U H { s with heap:=s.heap.push { cls:=.type "range",data:=.fields #[.int lo t,.int h u,.int 1 v]},toks:=T }:=I.kept λ b o e=>aac _ e
 refine ⟨(s.heap.push { cls:=.type "range",data:=.fields #[.int lo t,.int h u,.int 1 v]}).objs.size,[(s.heap.push { cls:=.type "range",data:=.fields #[.int lo t,.int h u,.int 1 v]}).objs.size],_,_,H,rfl,
   i.kept (t':=T) λ b o e=>aac _ e,CH _ lo (h - lo).toNat,?_,λ b k=>?_,q⟩
 .
  have a:lo+((0:Nat):Int) * 1=lo:=by simp
  have c:(((h - lo).toNat:Nat):Int) - ((0:Nat):Int)=Builtin.Range.rangeSize lo h 1:=by rw [rangeSize_one];split<;>lia
  show IsRangeIter _ _ (lo+((0:Nat):Int) * 1) ((((h - lo).toNat:Nat):Int) - ((0:Nat):Int)) 1
  rw [a,c]
  exact aaK _ rfl
 . have e:b=(s.heap.push { cls:=.type "range",data:=.fields #[.int lo t,.int h u,.int 1 v]}).objs.size:=by simpa using k
   subst e
   exact i.zi (aaf _) (i.cA.fresh (aaf _))
inductive Vo (R:It->Hp->Prop) (vs:aA) (H1:Hp):Prop|mk (j:Int) (h1:vs=[.int j]) (h2 : -(2 ^ 62)<=j) (h3:j<2 ^ 62) (q:R (FU 0 j.toNat) H1)
def Po (t:TA):TI:=λ U H R=>t U H (Vo R)
def bN {a:Expr} {T:TA} {p c:Pos} (f:Gl X "range") (g:X.mg "range" = none) (d:PA X [a] T) (k:starEach [a] X.env=[(false,eval a X.env)]:=by rfl):PI X tg (.Call (.Name "range" p) [a] [] c) (Po T):=by
 intro b s U H R I h
 refine Call_ (lS I f g boot_range (abg (cV (d c b s U H _ I h) λ u S ⟨v,o,i,m,Q⟩=>?_) k rfl))
 obtain ⟨j,e,Q,l,q⟩:=Q
 subst e
 cases m with
 | cons r n =>
   cases n
   obtain ⟨t,rfl⟩:=r
   exact call_range_1 (IS i (by lia) (by lia) Q l (by simpa using q))
def VH (w:TI) (g:TG) (tb:TS):TS:=λ D U H=>w U H λ J c=>∃ W:Nat->Nat->St->Hp->Prop,(∃ m,W 0 m U c)/\∀ i m U H,W i m U H ->
 (J.stop i H/\D.nx U H)\/(J.go i H/\∃ N:St->Hp->Prop,(∀ a h,N a h->∃ M,M<m/\W (i+1) M a h)/\∀ x h,J.FX i H x h->g x U h λ b d=>tb { D with nx:=N,ct:=N,bk:=D.nx } b d)
def uM (f:bZ) (h:aU):List (ai×Obj):=f.filterMap λ b=>(h.get? b).map λ o=>(b,o)
def j5 {f:bZ} {h:aU} {b:ai} {o:Obj} (H:b∈f) (e:h.get? b=some o):(b,o)∈uM f h:=acs.mpr ⟨b,H,by rw [e];rfl⟩
def FH {f:bZ} {h:aU} {p:ai×Obj} (a:p∈uM f h):p.1∈f/\h.get? p.1=some p.2:=by
 obtain ⟨b,H,e⟩:=acs.mp a
 cases q:h.get? b with
 | none=>rw [q] at e;cases e
 | some o =>
   rw [q] at e
   have E:(b,o)=p:=aaj e
   subst E
   exact ⟨H,q⟩
def Inv.pinned {a:List (ai×Obj)} {s:Shared} {f:bZ} (I:Inv X a U H s) (i:∀ b∈f,u6 X a H b) (j:∀ b∈f,∃ o,s.heap.get? b=some o/\∀ v,o.data ≠ .cell v):Inv X (a++uM f s.heap) U H s :=
 I.DM λ p k=>(aaR.mp k).elim (λ z=>I.pin p (aa3 _ z)) λ z=>by
   obtain ⟨h,e⟩:=FH z
   obtain ⟨F,c,g,Z⟩:=i p.1 h
   obtain ⟨o,E,d⟩:=j p.1 h
   rw [e] at E;cases E
   exact ⟨e,F,c,g,d⟩
def Inv.nP {a pl:List (ai×Obj)} {s:Shared} (I:Inv X (a++pl) U H s):Inv X a U H s:=I.DM λ p h=>I.pin p (aa3 _ (acj _ h))
def dh {q:Expr} {B:List Stmt} {wi:TI} {ab:Pos} (C:PassesOwn (model X.prog X.w) X.A X.env X.xe) (hc:X.calm=true) (hi:PI X tg q wi) (hg:PG X tg g) (l:rK X B tb) (hs:∀ x,foldedSetIterable q X.env x=pure x:=by intro _;rfl):PS X (.For tg q B [] ab) (VH wi g tb):=by
 intro p s U H D I h
 refine wpAny_For (cV (hi p s U H _ I h) λ v s1 h1=>cV h1 λ YN s2 h2=>?_) hs
 obtain ⟨it,F,tn,J,H2,e,I2,T,Us,f2,W,⟨m0,w0⟩,L⟩:=h2
 subst e
 have R:∀ {H':Hp},(∀ b∈F,H' b=none)->∀ b∈F,u6 X p H' b:=λ hn b l=>⟨hn b l,(f2 b l).2⟩
 refine codeAny_forLoop_any (λ n s'=>∃ i t H',Inv X p t H' s'/\tn i s'.heap/\(∀ b∈F,H' b=none)/\W i n t H') ?_ m0 ⟨0,U,H2,I2,Us,λ b l=>(f2 b l).1,w0⟩
 rintro n s3 ⟨i,y,M,I3,S,z,w3⟩
 rcases L i n y M w3 with ⟨K,qn⟩|⟨go,N,hN,G⟩
 . refine abS C (cV (T.done X rfl rfl rfl hc i p s3 y M X.xe I3 (R z) S K) λ r s4 ⟨Y,I4⟩=>?_)
   subst Y
   exact ac2 ⟨y,M,I4,qn⟩
 .
  refine abS C (cV (T.item X rfl rfl rfl hc i p s3 y M X.xe I3 (R z) S go) λ r s4 ⟨u,Y,h4⟩=>?_)
  subst Y
  refine abS C (cV h4 λ _ s5 ⟨x,H5,I5,r5,y5,V,Uy⟩=>?_)
  have O:=I5.pinned (R Uy) (T.obj _ _ V)
  refine abS C (cV (hg _ s5 y H5 x u _ O r5 (G x H5 y5)) λ _ s6 ⟨ad,H6,I6,q6⟩=>?_)
  refine abS C (cV (l _ s6 ad H6 _ I6 q6) λ f s7 Q=>?_)
  have k:∀ {a:St} {c:Hp},Inv X (p++uM F s5.heap) a c s7->N a c->∃ m,m<n/\∃ i t H',Inv X p t H' s7/\tn i s7.heap/\(∀ b∈F,H' b=none)/\W i m t H':=λ {a c} j E=>by
    obtain ⟨m',hm,w7⟩:=hN a c E
    refine ⟨m',hm,i+1,a,c,j.nP,T.keep _ _ _ V λ b l o e=>(j.pin (b,o) (aa3 _ (aa3 _ (j5 l e)))).1,λ b l=>?_,w7⟩
    obtain ⟨o,e,d⟩:=T.obj _ _ V b l
    exact (j.pin (b,o) (aa3 _ (aa3 _ (j5 l e)))).2.1
  cases f with
  | next=>obtain ⟨a,c,j,E⟩:=Q;exact k j E
  | cont=>obtain ⟨a,c,j,E⟩:=Q;exact k j E
  | brk=>obtain ⟨a,c,j,Q⟩:=Q;exact ⟨a,c,j.nP,Q⟩
  | ret v=>obtain ⟨x7,a,c,j,r7,Q⟩:=Q;exact ⟨x7,a,c,j.nP,r7,Q⟩
end
def iQ {K:aC} {a:ai} {xs:aA} {D:Ends} (b:Nat->St->Hp->Prop) (j:b 0 U H) (n:∀ i U H,i<=xs.length->b i U H->bi K H a xs) (o:∀ i x U H,xs[i]?=some x->b i U H->g x U H λ d f=>tb { D with nx:=b (i+1),ct:=b (i+1),bk:=D.nx } d f) (k:∀ U H,b xs.length U H->D.nx U H) :
   ∃ W:Nat->Nat->St->Hp->Prop,(∃ m,W 0 m U H)/\∀ i m U H,W i m U H ->
     ((IV K a).stop i H/\D.nx U H)\/((IV K a).go i H/\∃ N:St->Hp->Prop,(∀ c h,N c h->∃ m',m'<m/\W (i+1) m' c h)/\∀ x h,(IV K a).FX i H x h->g x U h λ d f=>tb { D with nx:=N,ct:=N,bk:=D.nx } d f):=by
 refine ⟨λ i m U H=>m=xs.length - i/\i<=xs.length/\b i U H,⟨xs.length,by simp,aaY _,j⟩,?_⟩
 rintro i m U H ⟨rfl,l,p⟩
 have q:=n i U H l p
 by_cases M:i<xs.length
 .
  refine .inr ⟨⟨xs,xs[i],q,by simp [M]⟩,b (i+1),λ c h r=>⟨xs.length - (i+1),by lia,rfl,M,r⟩,λ x h y=>?_⟩
  obtain ⟨e,y⟩:=y
  subst e
  exact o i x U _ (y xs q) p
 . have e:i=xs.length:=by lia
   subst e
   exact .inl ⟨⟨xs,q,aaf _⟩,k U H p⟩
def wc {n:Nat} {D:Ends} (a:Nat->St->Hp->Prop) (f:a 0 U H) (k:∀ i U H,i<n->a i U H->g (.int (lo+i)) U H λ c d=>tb { D with nx:=a (i+1),ct:=a (i+1),bk:=D.nx } c d) (j:∀ U H,a n U H->D.nx U H) :
   ∃ W:Nat->Nat->St->Hp->Prop,(∃ m,W 0 m U H)/\∀ i m U H,W i m U H ->
     ((FU lo n).stop i H/\D.nx U H)\/((FU lo n).go i H/\∃ N:St->Hp->Prop,(∀ b h,N b h->∃ m',m'<m/\W (i+1) m' b h)/\∀ x h,(FU lo n).FX i H x h->g x U h λ c d=>tb { D with nx:=N,ct:=N,bk:=D.nx } c d):=by
 refine ⟨λ i m U H=>m=n - i/\i<=n/\a i U H,⟨n,by simp,aaY _,f⟩,?_⟩
 rintro i m U H ⟨rfl,o,p⟩
 by_cases M:i<n
 .
  refine .inr ⟨M,a (i+1),λ b h l=>⟨n - (i+1),by lia,rfl,M,l⟩,λ x h y=>?_⟩
  obtain ⟨e,y⟩:=y
  subst e y
  exact k i U _ M p
 . have e:i=n:=by lia
   subst e
   exact .inl ⟨aaf _,j U H p⟩
abbrev R2:=V->V->Hp->VK->Prop
def iD (X:Cx) (f:au->au->Sem au) (r:R2):Prop :=
 ∀ (p:List (ai×Obj)) (s:Shared) (U:St) (H:Hp) (x y:V) (v u:au) (Q:VK),Inv X p U H s->RelV x v->RelV y u->r x y H Q ->
   wpAny (model X.prog X.w) X.A (f v u) (EP X p U Q) X.xe s
def U8 (X:Cx) (f:au->Sem au) (r:V->Hp->VK->Prop):Prop :=
 ∀ (p:List (ai×Obj)) (s:Shared) (U:St) (H:Hp) (x:V) (v:au) (Q:VK),Inv X p U H s->RelV x v->r x H Q ->
   wpAny (model X.prog X.w) X.A (f v) (EP X p U Q) X.xe s
def iy (X:Cx) (f:au) (r:aA->Hp->VK->Prop):Prop :=
 ∀ (p:List (ai×Obj)) (s:Shared) (U:St) (H:Hp) (x:aA) (u:aZ) (Q:VK),Inv X p U H s->Vals x u->r x H Q ->
   wpAny (model X.prog X.w) X.A (call f u) (EP X p U Q) X.xe s
def RR (r:R2) (t tb:TE):TE:=λ U H Q=>t U H λ x h=>tb U h λ y a=>r x y a Q
def tUn (r:V->Hp->VK->Prop) (t:TE):TE:=λ U H Q=>t U H λ x h=>r x h Q
inductive rI (C:Int->Int->Prop) (g:Int->Int->V) (x:V) (y:V) (H:Hp) (Q:VK):Prop|mk (i j:_) (_:x = .int i) (_:y = .int j) (_:C i j) (_:Q (g i j) H)
inductive Js (g:Int->Int->V) (x:V) (y:V) (H:Hp) (Q:VK):Prop|mk (i j:_) (_:x = .int i) (_:y = .int j) (_:Q (g i j) H)
inductive rU (g:Int->V) (x:V) (H:Hp) (Q:VK):Prop|mk (i:_) (_:x = .int i) (_:Q (g i) H)
section
variable {X:Cx} {a b c:Expr} {ta tb:TE} {pos:Pos}
def MC (k:PE X a ta) (l:PE X b tb) {p:List (ai×Obj)} {s:Shared} {R:V->V->Hp->Prop} (I:Inv X p U H s) (h:ta U H λ x g=>tb U g λ y c=>R x y c) {Q:au->Shared->Prop} {f:au->au->Sem au} (m:∀ v u e x y c,Inv X p U c e->RelV x v->RelV y u->R x y c->wpAny (model X.prog X.w) X.A (f v u) Q X.xe e) :
   wpAny (model X.prog X.w) X.A (eval a X.env) (λ v S=>wpAny (model X.prog X.w) X.A (eval b X.env) (λ u d=>wpAny (model X.prog X.w) X.A (f v u) Q X.xe d) X.xe S) X.xe s:=by
 refine cV (k p s U H _ I h) λ v t ⟨x,g,i,r,q⟩=>?_
 refine cV (l p t U g _ i q) λ u e ⟨y,c,j,o,n⟩=>?_
 exact m v u e x y c j r o n
def aw {o:Operator} {r:R2} (f:iD X (binaryOp o) r) (d:PE X a ta) (e:PE X b tb):PE X (.BinOp a o b pos) (RR r ta tb):=by
 intro p s U H Q I h
 exact wpAny_BinOp (MC d e I h λ v u S x y c i R g q=>f p S U c x y v u Q i R g q)
def mD {o:UnaryOp} {r:V->Hp->VK->Prop} (d:U8 X (unaryOp o) r) (c:PE X a ta):PE X (.UnaryOp o a pos) (tUn r ta):=by
 intro p s U H Q I h
 exact UnaryOp_ (cV (c p s U H _ I h) λ v S ⟨x,b,i,R,q⟩=>d p S U b x v Q i R q)
def Pe {f:au->au->Sem au} {C:Int->Int->Prop} {g:Int->Int->Int} (r:∀ (i j:Int) (t u:Tok) (s:Shared) (Q:au->Shared->Prop) (E:au->Shared->Prop),C i j->Q (.int (g i j) s.toks) { s with toks:=s.toks+1 }->wpAny (model X.prog X.w) X.A (f (.int i t) (.int j u)) Q E s) :
   iD X f (rI C λ i j => .int (g i j)):=by
 intro p s U H x y v u Q I R b h
 obtain ⟨i,j,rfl,rfl,a,q⟩:=h
 obtain ⟨t,rfl⟩:=R
 obtain ⟨t',rfl⟩:=b
 exact r i j t t' s _ _ a ⟨.int (g i j),H,I.tok _,⟨_,rfl⟩,q⟩
def Lr {f:au->au->Sem au} {g:Int->Int->Int} (r:∀ (i j:Int) (t u:Tok) (s:Shared) (Q:au->Shared->Prop) (E:au->Shared->Prop),Q (.int (g i j) s.toks) { s with toks:=s.toks+1 }->wpAny (model X.prog X.w) X.A (f (.int i t) (.int j u)) Q E s) :
   iD X f (Js λ i j => .int (g i j)):=by
 intro p s U H x y v u Q I R a h
 obtain ⟨i,j,rfl,rfl,q⟩:=h
 obtain ⟨t,rfl⟩:=R
 obtain ⟨t',rfl⟩:=a
 exact r i j t t' s _ _ ⟨.int (g i j),H,I.tok _,⟨_,rfl⟩,q⟩
def JM {f:au->au->Sem au} {g:Int->Int->Bool} (r:∀ (i j:Int) (t u:Tok) (s:Shared) (Q:au->Shared->Prop) (E:au->Shared->Prop),Q (.bool (g i j)) s->wpAny (model X.prog X.w) X.A (f (.int i t) (.int j u)) Q E s) :
   iD X f (Js λ i j => .bl (g i j)):=by
 intro p s U H x y v u Q I R a h
 obtain ⟨i,j,rfl,rfl,q⟩:=h
 obtain ⟨t,rfl⟩:=R
 obtain ⟨t',rfl⟩:=a
 exact r i j t t' s _ _ ⟨.bl (g i j),H,I,rfl,q⟩
def Kg (i j:Int):Prop:=0<=j/\j<=1000000/\i.natAbs<2 ^ 64
def CP (k:Nat):(0:Int)<=2 ^ k:=by
 rw [two_pow_cast]
 exact abi _
def MT:iD X (binaryOp .Add) (Js λ i j => .int (i+j)):=Lr λ Z Z Z Z Z Z Z q=>add_int q
def Mw:iD X (binaryOp .Sub) (Js λ i j => .int (i - j)):=Lr λ Z Z Z Z Z Z Z q=>sub_int q
def Mv:iD X (binaryOp .Mod) (rI (λ Z j=>0<j) λ i j => .int (i % j)):=Pe λ i j Z Z Z Z Z h q=>by
 have H:(0:Int)<j:=h
 exact mod_int' (by lia) (by rw [Int.fmod_eq_emod_of_nonneg i (by lia)];exact q)
def OO:iD X (binaryOp .Pow) (rI Kg λ i j => .int (i ^ j.toNat)):=Pe λ Z Z Z Z Z Z Z h q=>pow_int_small h.1 h.2.1 h.2.2 q
def MA:iD X (binaryOp .LShift) (rI Kg λ i j => .int (i * 2 ^ j.toNat)):=Pe λ Z Z Z Z Z Z Z h q=>lshift_int_small h.1 h.2.1 h.2.2 q
def MG:iD X (binaryOp .RShift) (rI (λ Z j=>0<=j) λ i j => .int (i / 2 ^ j.toNat)):=Pe λ i j Z Z Z Z Z h q =>
 rshift_int h (by rw [adx i (CP _)];exact q)
def N9:iD X (binaryOp .BitAnd) (Js λ i j => .int (Builtin.bitAnd i j)):=Lr λ Z Z Z Z Z Z Z q=>and_int q
def Pk:iD X (binaryOp .BitOr) (Js λ i j => .int (Builtin.bitOr i j)):=Lr λ Z Z Z Z Z Z Z q=>or_int q
def unI {f:au->Sem au} {g:Int->Int} (r:∀ (i:Int) (t:Tok) (s:Shared) (Q:au->Shared->Prop) (E:au->Shared->Prop),Q (.int (g i) s.toks) { s with toks:=s.toks+1 }->wpAny (model X.prog X.w) X.A (f (.int i t)) Q E s) :
   U8 X f (rU λ i => .int (g i)):=by
 intro p s U H x v Q I R h
 obtain ⟨i,rfl,q⟩:=h
 obtain ⟨t,rfl⟩:=R
 exact r i t s _ _ ⟨.int (g i),H,I.tok _,⟨_,rfl⟩,q⟩
def xa:U8 X (unaryOp .USub) (rU λ i => .int (-i)):=unI λ Z Z Z Z Z q=>neg_int q
def qM:U8 X (unaryOp .Invert) (rU λ i => .int (Builtin.bitNot i)):=unI λ Z Z Z Z Z q=>invert_int q
end
def R3:V->V->Bool
 | .cn,.cn=>true | .cn,.int _=>true | .int _,.cn=>true | .cn,.bl _=>true | .bl _,.cn=>true | .cn,.str _=>true | .str _,.cn=>true
 | .int _,.int _=>true | .bl _,.bl _=>true | .str _,.str _=>true | .Ep _,.Ep _=>true
 | .int _,.str _=>true | .str _,.int _=>true | .bl _,.str _=>true | .str _,.bl _=>true
 | _,_=>false
def rEq:R2:=λ x y H Q=>R3 x y=true/\Q (.bl (decide (x=y))) H
def rNe:R2:=λ x y H Q=>R3 x y=true/\Q (.bl (!decide (x=y))) H
def DY {i j:Int}:decide (V.int i=V.int j)=(i == j):=by
 rw [abu]
 simp
def HG {i j:Bool}:decide (V.bl i=V.bl j)=(i == j):=by
 rw [abu]
 simp
def Du {i j:Str}:decide (V.str i=V.str j)=(i == j):=by
 rw [abu]
 simp
def Do {i j:Array UInt8}:decide (V.Ep i=V.Ep j)=(i.toList == j.toList):=by
 rw [abu]
 cases i
 cases j
 simp
section
variable {X:Cx} {a b c:Expr} {ta tb tc:TE} {pos:Pos}
def bY {p:List (ai×Obj)} {s:Shared} {k K:Bool} (I:Inv X p U H s) (q:Q (.bl k) H) (e:k=K):EP X p U Q (.bool K) s:=by
 subst e
 exact ⟨.bl k,H,I,rfl,q⟩
def jm:iD X (compareOp .Eq) rEq:=by
 intro p s U H x y v u Q I R r h
 obtain ⟨a,q⟩:=h
 cases x with
 | cn =>
   cases R
   cases y with
   | cn=>cases r;exact PySem.EqNone.eq_none_none (bY I q (by simp))
   | bl j=>cases r;exact PySem.EqNone.eq_none_bool (bY I q (by simp))
   | int j=>obtain ⟨t',rfl⟩:=r;exact PySem.EqNone.eq_none_int (bY I q (by simp))
   | str j=>obtain ⟨t',rfl⟩:=r;exact PySem.EqNone.eq_none_str (bY I q (by simp))
   | _=>exact absurd (show false=true from a) aah
 | bl i =>
   cases R
   cases y with
   | cn=>cases r;exact PySem.EqNone.eq_bool_none (bY I q (by simp))
   | bl j=>cases r;exact eq_bool (bY I q HG)
   | str j=>obtain ⟨t',rfl⟩:=r;exact PySem.EqMixed.eq_bool_str (bY I q (by simp))
   | _=>exact absurd (show false=true from a) aah
 | int i =>
   obtain ⟨t,rfl⟩:=R
   cases y with
   | cn=>cases r;exact PySem.EqNone.eq_int_none (bY I q (by simp))
   | int j=>obtain ⟨t',rfl⟩:=r;exact eq_int (bY I q DY)
   | str j=>obtain ⟨t',rfl⟩:=r;exact PySem.EqMixed.eq_int_str (bY I q (by simp))
   | _=>exact absurd (show false=true from a) aah
 | str i =>
   obtain ⟨t,rfl⟩:=R
   cases y with
   | cn=>cases r;exact PySem.EqNone.eq_str_none (bY I q (by simp))
   | bl j=>cases r;exact PySem.EqMixed.eq_str_bool (bY I q (by simp))
   | int j=>obtain ⟨t',rfl⟩:=r;exact PySem.EqMixed.eq_str_int (bY I q (by simp))
   | str j=>obtain ⟨t',rfl⟩:=r;exact eq_str (bY I q Du)
   | _=>exact absurd (show false=true from a) aah
 | Ep i =>
   obtain ⟨t,rfl⟩:=R
   cases y with
   | Ep j=>obtain ⟨t',rfl⟩:=r;exact W.eq_bytes (bY I q Do)
   | _=>exact absurd (show false=true from a) aah
 | _=>cases y<;>exact absurd (show false=true from a) aah
def lI:iD X (compareOp .NotEq) rNe:=by
 intro p s U H x y v u Q I R r h
 obtain ⟨a,q⟩:=h
 cases x with
 | cn =>
   cases R
   cases y with
   | cn=>cases r;exact PySem.EqNone.ne_none_none (bY I q (by simp))
   | bl j=>cases r;exact PySem.EqNone.ne_none_bool (bY I q (by simp))
   | int j=>obtain ⟨t',rfl⟩:=r;exact PySem.EqNone.ne_none_int (bY I q (by simp))
   | str j=>obtain ⟨t',rfl⟩:=r;exact PySem.EqNone.ne_none_str (bY I q (by simp))
   | _=>exact absurd (show false=true from a) aah
 | bl i =>
   cases R
   cases y with
   | cn=>cases r;exact PySem.EqNone.ne_bool_none (bY I q (by simp))
   | bl j=>cases r;exact ne_bool (bY I q (abI not HG))
   | str j=>obtain ⟨t',rfl⟩:=r;exact PySem.EqMixed.ne_bool_str (bY I q (by simp))
   | _=>exact absurd (show false=true from a) aah
 | int i =>
   obtain ⟨t,rfl⟩:=R
   cases y with
   | cn=>cases r;exact PySem.EqNone.ne_int_none (bY I q (by simp))
   | int j=>obtain ⟨t',rfl⟩:=r;exact ne_int (bY I q (abI not DY))
   | str j=>obtain ⟨t',rfl⟩:=r;exact PySem.EqMixed.ne_int_str (bY I q (by simp))
   | _=>exact absurd (show false=true from a) aah
 | str i =>
   obtain ⟨t,rfl⟩:=R
   cases y with
   | cn=>cases r;exact PySem.EqNone.ne_str_none (bY I q (by simp))
   | bl j=>cases r;exact PySem.EqMixed.ne_str_bool (bY I q (by simp))
   | int j=>obtain ⟨t',rfl⟩:=r;exact PySem.EqMixed.ne_str_int (bY I q (by simp))
   | str j=>obtain ⟨t',rfl⟩:=r;exact ne_str (bY I q (abI not Du))
   | _=>exact absurd (show false=true from a) aah
 | Ep i =>
   obtain ⟨t,rfl⟩:=R
   cases y with
   | Ep j=>obtain ⟨t',rfl⟩:=r;exact W.ne_bytes (bY I q (abI not Do))
   | _=>exact absurd (show false=true from a) aah
 | _=>cases y<;>exact absurd (show false=true from a) aah
def oC:iD X (compareOp .Lt) (Js λ i j => .bl (decide (i<j))):=JM λ Z Z Z Z Z Z Z q=>lt_int q
def iu:iD X (compareOp .LtE) (Js λ i j => .bl (decide (i<=j))):=JM λ Z Z Z Z Z Z Z q=>le_int q
def Ao:iD X (compareOp .Gt) (Js λ i j => .bl (decide (j<i))):=JM λ Z Z Z Z Z Z Z q=>gt_int q
def QL:iD X (compareOp .GtE) (Js λ i j => .bl (decide (j<=i))):=JM λ Z Z Z Z Z Z Z q=>ge_int q
def qd:iD X (compareOp .Is) (λ x y H Q=>y = .cn/\Q (.bl (decide (x = .cn))) H):=by
 intro p s U H x y v u Q I r R h
 obtain ⟨rfl,q⟩:=h
 cases R
 refine is_none_gen (bY I q ?_)
 cases x<;>first
   | (cases r;rfl)
   | (obtain ⟨t,rfl⟩:=r;rfl)
def mq:iD X (compareOp .IsNot) (λ x y H Q=>y = .cn/\Q (.bl (!decide (x = .cn))) H):=by
 intro p s U H x y v u Q I r R h
 obtain ⟨rfl,q⟩:=h
 cases R
 refine isnot_none_gen (bY I q ?_)
 cases x<;>first
   | (cases r;rfl)
   | (obtain ⟨t,rfl⟩:=r;rfl)
def aR (b:Expr) {o:CmpOp} (h:o ≠ .In:=by decide) (H:o ≠ .NotIn:=by decide):behindInMarks o b=false:=by
 have e:(o == CmpOp.In)=false:=by cases o<;>first|rfl|exact absurd rfl h
 have E:(o == CmpOp.NotIn)=false:=by cases o<;>first|rfl|exact absurd rfl H
 cases b<;>simp [behindInMarks,e,E]
def gB {o:CmpOp} {r:R2} (g:iD X (compareOp o) r) (d:PE X a ta) (e:PE X b tb) (f:behindInMarks o b=false):PE X (.Compare a [o] [b] pos) (RR r ta tb):=by
 intro p s U H Q I h
 exact wpAny_Compare1 (MC d e I h λ v u S x y c i R j q=>g p S U c x y v u Q i R j q) f
inductive WN (Q:Bool->Hp->Prop) (x:V) (H:Hp):Prop|mk (k:Bool) (h:x = .bl k) (q:Q k H)
def IR (t:TE):TT:=λ U H Q=>t U H (WN Q)
def aM {o:CmpOp} {r:R2} (t:iD X (compareOp o) r) (m:PE X a ta) (n:PE X b tb) (q:behindInMarks o b=false):PT X (.Compare a [o] [b] pos) (IR (RR r ta tb)):=by
 intro p s U H Q I h
 refine wpAny_isTrue_Compare1 (cV (m p s U H _ I h) λ v S ⟨x,d,i,R,w⟩=>cV (n p S U d _ i w) λ u E ⟨y,f,j,C,A⟩ =>
   cV (t p E U f x y v u _ j R C A) λ c F ⟨z,g,l,D,k,e,B⟩=>?_) q
 subst e
 cases D
 exact abv ⟨g,l,B⟩
def Gw (r R:R2) (t tb T:TE):TE:=λ U H Q=>t U H λ x a=>tb U a λ y b=>r x y b λ z h=>∃ k,z = .bl k /\
 (if k=true then T U h λ w c=>R y w c Q else Q (.bl false) h)
def Ij {o N:CmpOp} {r R:R2} (F:iD X (compareOp o) r) (A:iD X (compareOp N) R) (B:PE X a ta) (C:PE X b tb) (D:PE X c tc) (E:lastMarks [o,N] [b,c]=false:=by with_unfolding_all rfl):PE X (.Compare a [o,N] [b,c] pos) (Gw r R ta tb tc):=by
 intro p s U H Q I h
 refine Compare_chain (cV (B p s U H _ I h) λ v S ⟨x,j,n,L,G⟩=>chain_link (cV (C p S U j _ n G) λ u T ⟨y,l,t,g,J⟩ =>
   cV (F p T U l x y v u _ t L g J) λ d V ⟨z,f,i,M,k,e,q⟩=>?_)) E
 subst e
 cases M
 refine abv ?_
 cases k with
 | false=>exact ite_ff ⟨.bl false,f,i,rfl,q⟩
 | true=>exact ite_tt (chain_last (cV (D p V U f _ i q) λ Y W ⟨z',m,w,O,K⟩=>A p W U m y z' u Y Q w g O K))
def jI {o N:CmpOp} {r R:R2} (L:iD X (compareOp o) r) (A:iD X (compareOp N) R) (F:PE X a ta) (G:PE X b tb) (J:PE X c tc) (K:lastMarks [o,N] [b,c]=false:=by with_unfolding_all rfl):PT X (.Compare a [o,N] [b,c] pos) (IR (Gw r R ta tb tc)):=by
 intro p s U H Q I h
 refine isTrue_chain (cV (F p s U H _ I h) λ v s1 ⟨x,j,t,W,O⟩=>test_link (cV (G p s1 U j _ t O) λ u s2 ⟨y,l,w,g,S⟩ =>
   cV (L p s2 U l x y v u _ w W g S) λ d s3 ⟨z,f,i,Y,k,e,q⟩=>?_)) K
 subst e
 cases Y
 refine abv ?_
 cases k with
 | false =>
   obtain ⟨k',E,M⟩:=q
   cases E
   exact ite_ff ⟨f,i,M⟩
 | true =>
   refine ite_tt (test_last (cV (J p s3 U f _ i q) λ w' s4 ⟨z',m,B,r4,T⟩=>cV (A p s4 U m y z' u w' _ B g r4 T) λ d' s5 ⟨z2,n,C,r5,k2,D,V⟩=>?_))
   subst D
   cases r5
   exact abv ⟨n,C,V⟩
def yj:(sizeLine:Nat)<2 ^ 63:=by rw [adh];decide
def vals1 {x:V} {us:aZ} (r:Vals [x] us):∃ u,us=[u]/\RelV x u:=by
 cases r with
 | cons R a=>cases a;exact ⟨_,rfl,R⟩
def vals2 {x y:V} {us:aZ} (r:Vals [x,y] us):∃ u w',us=[u,w']/\RelV x u/\RelV y w':=by
 cases r with
 | cons R a =>
   cases a with
   | cons b c=>cases c;exact ⟨_,_,rfl,R,b⟩
def Gj:iy X (.builtin "abs") (λ xs H Q=>∃ i,xs=[.int i]/\Q (.int (if i<0 then -i else i)) H):=by
 intro p s U H xs a Q I r h
 obtain ⟨i,rfl,q⟩:=h
 obtain ⟨u,rfl,t,rfl⟩:=vals1 r
 exact call_abs_int λ u T=>⟨.int (if i<0 then -i else i),H,I.tok _,⟨_,rfl⟩,q⟩
def FN (b:X.calm=true):iy X (.builtin "max") (λ xs H Q=>∃ i j,xs=[.int i,.int j]/\Q (.int (if j > i then j else i)) H):=by
 intro p s U H xs d Q I r h
 obtain ⟨i,j,rfl,q⟩:=h
 obtain ⟨u,w,rfl,⟨t,rfl⟩,⟨t',rfl⟩⟩:=vals2 r
 refine max_two_ints (I.ok.hd b) λ c T k=>⟨_,H,I.kept k,?_,q⟩
 by_cases a:j > i
 . rw [aan a,aan a];exact ⟨_,rfl⟩
 . rw [aam a,aam a];exact ⟨_,rfl⟩
def EF (b:X.calm=true):iy X (.builtin "min") (λ xs H Q=>∃ i j,xs=[.int i,.int j]/\Q (.int (if j<i then j else i)) H):=by
 intro p s U H xs d Q I r h
 obtain ⟨i,j,rfl,q⟩:=h
 obtain ⟨u,w,rfl,⟨t,rfl⟩,⟨t',rfl⟩⟩:=vals2 r
 refine min_two_ints (I.ok.hd b) λ c T k=>⟨_,H,I.kept k,?_,q⟩
 by_cases a:j<i
 . rw [aan a,aan a];exact ⟨_,rfl⟩
 . rw [aam a,aam a];exact ⟨_,rfl⟩
def Fc:iy X (.type "int") (λ xs H Q=>(∃ i,xs=[.int i]/\Q (.int i) H)\/∃ k,xs=[.bl k]/\Q (.int (if k then 1 else 0)) H):=by
 intro p s U H xs a Q I r h
 rcases h with ⟨i,rfl,q⟩|⟨k,rfl,q⟩
 . obtain ⟨u,rfl,t,rfl⟩:=vals1 r
   exact call_int_int ⟨.int i,H,I,⟨_,rfl⟩,q⟩
 . obtain ⟨u,rfl,R⟩:=vals1 r
   cases R
   exact call_int_bool ⟨.int (if k then 1 else 0),H,I.tok _,⟨_,rfl⟩,q⟩
end
structure Bi (h:aU) (x dx C:ai) (mA:cy):Prop where
 obj:h.get? x=some (W.instObj C dx)
 ns:h.Ns1 dx mA
 ne:dx≠x
def vK {h:aU} {d:ai} {m:cy} (n:h.Ns1 d m):∃ O,h.get? d=some O/\∀ name,W.lookIn name O=some (m name):=by
 obtain ⟨o,es,E,f,H,b,_,c⟩:=n
 refine ⟨o,f,λ name=>?_⟩
 have e:=c name
 unfold nsFind findBy at e
 rw [<- aeq] at e
 unfold W.lookIn
 rw [H]
 dsimp only
 split
 . rename_i y q
   rw [q] at e
   exact abI some e
 .
  rename_i q
  rw [q] at e
  have a:es.toList.any (·.refKey)=false:=by
    rw [List.any_eq_false]
    intro y g
    obtain ⟨z,t,p⟩:=b y (Array.mem_toList_iff.mp g)
    simp [DictEntry.refKey,p]
  have A:¬ es.toList.any (·.refKey)=true:=by rw [a];exact aah
  rw [aam A]
  exact abI some e
def Bi.look {h:aU} {x d C:ai} {m:cy} (I:Bi h x d C m):∃ o,W.InstAt h x (W.instObj C d) C (some o)/\∀ name,W.lookIn name o=some (m name) :=
 let ⟨o,a,H⟩:=vK I.ns
 ⟨o,⟨I.obj,rfl,rfl,a⟩,H⟩
section
variable {prog:bq} {w:bh} {A:Around} {E:au->Shared->Prop} {s:Shared} {K:aC} {x dx C f:ai} {mA:cy} {name:Str} {v:au}
def get_map {e:Bool} {Q:au->Shared->Prop} (X:K.In s.heap) (I:Bi s.heap x dx C mA) (b:W.plainGet K C name=true) (c:W.hasDictIn K C=true) (a:W.findIn K (.ref C) name=some none) (f:mA name=some v) (H:W.handedIn v=true) (h:Q v { s with toks:=s.toks+1 }) :
   wpAny (model prog w) A (getAttr (.ref x) name e) Q E s:=by
 obtain ⟨o,J,d⟩:=I.look
 exact W.get_value X J (W.plainGet_of b).1 (W.findObj_own c a rfl (by rw [d,f])) H h
def IE {pl:Sem Bool} {Q:au×aZ->Shared->Prop} (X:K.In s.heap) (I:Bi s.heap x dx C mA) (H:W.plainGet K C name=true) (a:W.findIn K (.ref C) name=some (some (.ref f))) (c:W.isFn K (.ref f)=true) (d:mA name=none) (h:Q (.ref f,[.ref x]) s) :
   wpAny (model prog w) A (getMethod (.ref x) name pl) Q E s:=by
 obtain ⟨o,J,b⟩:=I.look
 exact W.method_fn X J (W.plainGet_of H).1 (W.plainGet_of H).2 a (abG.mp c) (by show (W.lookIn name o).map (·.isSome)=some false;rw [b,d];rfl) h
def Jx {ns:cp} {Q:Unit->Shared->Prop} (X:K.In s.heap) (I:Bi s.heap x dx C mA) (i:W.findIn K (.ref C) "__setattr__" = some (some (.builtin "object.__setattr__"))) (g:W.plainOver K C=true) (j:W.takerIn K C name=some none) (f:W.hasDictIn K C=true) (hw:PySem.Within mA ns) (hsz:ns.length<=sizeLine) (h:∀ h',Bi h' x dx C (λ y=>if y=name then some v else mA y)->Heap.SameBut dx s.heap h'->Q () { s with heap:=h',toks:=s.toks+2 }) :
   wpAny (model prog w) A (setAttr (.ref x) name v) Q E s:=by
 obtain ⟨O,J,m⟩:=I.look
 refine W.set_plain X J i (W.osa_open (s:={ s with toks:=s.toks+1 }) (r:=none) X J g j λ b=>?_)
 obtain ⟨l,H,F⟩:=aem f
 have k:s.heap.get? x=some ⟨.ref C,some dx,.plain,#[]⟩:=I.obj
 refine UV (aas (UV (UV (ad9 k (UV (W.Looks.here (s:={ s with toks:=s.toks+1 }) (adp X H) ?_))))))
 rw [F]
 refine aas (a:=some dx) (UV (aas (UV ?_)))
 refine wpAny_nsSet1 (s:={ s with toks:=s.toks+1 }) I.ns λ h' L e=>?_
 obtain ⟨o,d,c,q,T,t⟩:=L.count (acz name v hw)
 refine UV (adG q (by rw [T];exact adH (aaT t (by rw [aaD];lia))) ?_)
 exact aas (h _ ⟨(e.2 _ (abA I.ne)).trans I.obj,L,I.ne⟩ e)
def GQ {R:Result->Shared->Prop} {vs:aZ} {kw:List (Str×au)} (X:K.In s.heap) (b:W.makesIn K C=true) (a:W.findIn K (.ref C) "__init__" = some (some (.ref f))) (H:W.typeIn K (.ref f)=some (.type "function")) (h:codeAny (model prog w) (A.under (.builtin "type.__call__" ⟨.ref C::vs,kw⟩)) (.call (.ref f) ⟨.ref (s.heap.objs.size+1)::vs,kw⟩) (W.InitBack (s.heap.objs.size+1) R)
     { s with heap:=(s.heap.push W.emptyDict).push (W.instObj C s.heap.objs.size)}) :
   codeAny (model prog w) A (.call (.ref C) ⟨vs,kw⟩) R s:=by
 obtain ⟨c,g,d,t,o⟩:=s
 exact W.make_core (W.makes_of X b) (W.looks_findIn X a) (λ S=>W.bind_fn X S H) (.inl rfl) h
end
def bG (f:Str) (v:V):List (Str×V)->List (Str×V)
 | []=>[(f,v)]
 | (g,x)::r=>if g=f then (g,v)::r else (g,x)::bG f v r
theorem qQ (f g:Str) (v:V):∀ F:List (Str×V),(bG f v F).lookup g=if g=f then some v else F.lookup g
 | []=>by
   show List.lookup g [(f,v)]=_
   by_cases h:g=f
   . have H:(g == f)=true:=abG.mpr h
     simp only [List.lookup,H,aan h]
   . have H:(g == f)=false:=abo.mpr h
     simp only [List.lookup,H,aam h]
 | (k,x)::r=>by
   have i:=qQ f g v r
   rw [show bG f v ((k,x)::r)=(if k=f then (k,v)::r else (k,x)::bG f v r) from rfl]
   by_cases a:k=f
   .
    rw [aan a]
    by_cases h:g=k
    . have H:(g == k)=true:=abG.mpr h
      simp only [List.lookup,H,aan (h.trans a)]
    . have H:(g == k)=false:=abo.mpr h
      simp only [List.lookup,H,aam (λ e:g=f=>h (e.trans a.symm))]
   .
    rw [aam a]
    by_cases h:g=k
    . have H:(g == k)=true:=abG.mpr h
      simp only [List.lookup,H,aam (λ e:g=f=>a (h.symm.trans e))]
    . have H:(g == k)=false:=abo.mpr h
      simp only [List.lookup,H]
      exact i
theorem pI (f:Str) (v:V):∀ F:List (Str×V),f∈(bG f v F).map (·.1)/\∀ g,g∈F.map (·.1)->g∈(bG f v F).map (·.1)
 | []=>⟨by simp [bG],λ g h=>by simp at h⟩
 | (k,x)::r=>by
   obtain ⟨i,I⟩:=pI f v r
   rw [show bG f v ((k,x)::r)=(if k=f then (k,v)::r else (k,x)::bG f v r) from rfl]
   by_cases H:k=f
   . rw [aan H]
     subst H
     exact ⟨by simp,λ g h=>by simpa using h⟩
   .
    rw [aam H]
    refine ⟨?_,λ g h=>?_⟩
    . rw [aaQ]
      exact aak _ i
    . rw [aaQ] at h |-
      rcases aaa.mp h with e|e
      . exact aaa.mpr (.inl e)
      . exact aak _ (I g e)
theorem qO (f:Str) (v:V):∀ F:List (Str×V),(bG f v F).length<=F.length+1
 | []=>by simp [bG]
 | (k,x)::r=>by
   have i:=qO f v r
   rw [show bG f v ((k,x)::r)=(if k=f then (k,v)::r else (k,x)::bG f v r) from rfl]
   by_cases h:k=f
   . rw [aan h,aaD,aaD];lia
   . rw [aam h,aaD,aaD];lia
def jw.some_of {o:kK} (r:jw (some v) o):∃ u,o=some u/\RelV v u:=by
 cases o with
 | none=>exact (show False from r).elim
 | some u=>exact ⟨u,rfl,r⟩
def jw.none_of {o:kK} (r:jw none o):o=none:=by
 cases o with
 | none=>rfl
 | some u=>exact (show False from r).elim
def Fo {u:au} (r:RelV v u):W.handedIn u=true:=by
 cases v with
 | cn=>cases (show u=Value.none from r);rfl
 | bl b=>cases (show u=Value.bool b from r);rfl
 | int i=>obtain ⟨t,e⟩:=(show ∃ t,u=Value.int i t from r);cases e;rfl
 | str x=>obtain ⟨t,e⟩:=(show ∃ t,u=Value.str x t from r);cases e;rfl
 | Ep b=>obtain ⟨t,e⟩:=(show ∃ t,u=Value.bytes b t from r);cases e;rfl
 | LJ b=>obtain ⟨t,e⟩:=(show ∃ t,u=Value.float b t from r);cases e;rfl
 | ref a=>cases (show u=Value.ref a from r);rfl
 | ty n=>cases (show u=Value.type n from r);rfl
section
variable {P:bq} {w:bh} {H:Hp} {h:aU} {a C dx:ai} {fs:List (Str×V)}
def sN (c:kR P w H h) (e:H a=some (.ins C dx fs)):∃ m,Bi h a dx C m/\(∀ f,jw (fs.lookup f) (m f))/\PySem.Within m (fs.map (·.1))/\fs.length<=1000/\H dx=some (.own a):=by
 obtain ⟨d,z,N,o,m,n,r,q⟩:=(show c8 P w H h a (.ins C dx fs) from c a _ e)
 exact ⟨m,⟨o,n,N⟩,r,q,z,d⟩
end
structure yu (K:aC) (C:ai):Prop where
 pg:W.plainGet K C Str.empty=true
 hd:W.hasDictIn K C=true
 po:W.plainOver K C=true
 sa:W.findIn K (.ref C) "__setattr__" = some (some (.builtin "object.__setattr__"))
def yu.get {K:aC} {C:ai} (c:yu K C) (f:Str):W.plainGet K C f=true:=c.pg
def eB (K:aC) (C:ai) (f:Str):Prop:=W.findIn K (.ref C) f=some none
def eB.Rk {K:aC} {C:ai} {f:Str} (n:eB K C f):W.takerIn K C f=some none:=by
 unfold W.takerIn
 rw [show W.findIn K (.ref C) f=some none from n]
 rfl
structure Meth (K:aC) (C:ai) (m:Str) (f:ai):Prop where
 at_:W.findIn K (.ref C) m=some (some (.ref f))
 fn:W.isFn K (.ref f)=true
 kp:W.keepIn K (.ref f)=true
section
variable {X:Cx} {pins:List (ai×Obj)} {U:St} {H:Hp} {s:Shared} {a C dx:ai} {fs:List (Str×V)} {f:Str} {v:V} {A:Around} {E:au->Shared->Prop}
def tU {b:Bool} {Q:au->Shared->Prop} (I:Inv X pins U H s) (e:H a=some (.ins C dx fs)) (c:yu X.K C) (n:eB X.K C f) (l:fs.lookup f=some v) (h:∀ u s',Inv X pins U H s'->RelV v u->Q u s'):wpAny (model X.prog X.w) A (getAttr (.ref a) f b) Q E s:=by
 obtain ⟨m,O,r,Z,Z,Z⟩:=sN I.cA e
 obtain ⟨u,d,R⟩:=jw.some_of (v:=v) (o:=m f) (by rw [<- l];exact r f)
 exact get_map I.pH O (c.get f) c.hd n d (Fo R) (h u _ (I.tok _) R)
def tS {m:Str} {g:ai} {pl:Sem Bool} {Q:au×aZ->Shared->Prop} (I:Inv X pins U H s) (e:H a=some (.ins C dx fs)) (c:yu X.K C) (k:Meth X.K C m g) (l:fs.lookup m=none) (h:Q (.ref g,[.ref a]) s):wpAny (model X.prog X.w) A (getMethod (.ref a) m pl) Q E s:=by
 obtain ⟨M,O,r,Z,Z,Z⟩:=sN I.cA e
 have b:M m=none:=jw.none_of (by rw [<- l];exact r m)
 exact IE I.pH O (c.get m) k.at_ k.fn b h
def ud {y:V} {u:au} {Q:Unit->Shared->Prop} (I:Inv X pins U H s) (e:H a=some (.ins C dx fs)) (c:yu X.K C) (n:eB X.K C f) (B:fs.length<1000) (R:RelV y u) (h:∀ s',Inv X pins U (upd H a (.ins C dx (bG f y fs))) s'->Q () s'):wpAny (model X.prog X.w) A (setAttr (.ref a) f u) Q E s:=by
 obtain ⟨m,O,r,W,Z,i⟩:=sN I.cA e
 have v:(fs.map (·.1)).length<=sizeLine:=by rw [OS,adh];lia
 refine Jx I.pH O c.sa c.po n.Rk c.hd W v λ k d S=>h _ ?_
 have p:∃ o,k.get? dx=some o:=let ⟨o,_,_,j,_⟩:=d.ns;⟨o,j⟩
 refine I.write (x:=a) (e:=dx) (by rw [e];exact True.intro) (.inr i) (λ b q l z=>(S.2 b l).trans z) p ?_
 refine ⟨by rw [aB O.ne];exact i,?_,O.ne,d.obj,_,d.ns,λ g=>?_,λ g t=>?_⟩
 . have:=qO f y fs;lia
 .
  show jw ((bG f y fs).lookup g) (if g=f then some u else m g)
  rw [qQ]
  by_cases q:g=f
  . rw [aan q,aan q];exact R
  . rw [aam q,aam q];exact r g
 .
  by_cases q:g=f
  . rw [q];exact (pI f y fs).1
  . refine (pI f y fs).2 g (W g λ z=>t ?_)
    show (if g=f then some u else m g)=none
    rw [aam q];exact z
def Inv.made (I:Inv X pins U H s):Inv X pins U (upd (upd H s.heap.objs.size (.own (s.heap.objs.size+1))) (s.heap.objs.size+1) (.ins C s.heap.objs.size []))
   { s with heap:=(s.heap.push W.emptyDict).push (W.instObj C s.heap.objs.size)}:=by
 have E:(s.heap.push W.emptyDict).get? s.heap.objs.size=some W.emptyDict:=aaK s.heap rfl
 have c:((s.heap.push W.emptyDict).push (W.instObj C s.heap.objs.size)).get? (s.heap.objs.size+1)=some (W.instObj C s.heap.objs.size):=by
   have:=aaK (s.heap.push W.emptyDict) (o:=W.instObj C s.heap.objs.size) rfl
   rwa [adg] at this
 have d:(s.heap.push W.emptyDict).Ns s.heap.objs.size (λ Z=>none):=⟨W.emptyDict,#[],_,E,rfl,(λ e h=>absurd h (by simp)),λ Z=>rfl⟩
 have i:=I.laid (a:=s.heap.objs.size) (o:=.own (s.heap.objs.size+1)) (h':=s.heap.push W.emptyDict) (t':=s.toks) (λ b u q=>aac _ q) (aaf _) ⟨_,E⟩
 refine i.laid (a:=s.heap.objs.size+1) (o:=.ins C s.heap.objs.size []) (t':=s.toks) (λ b u q=>aac _ q) (Nat.le_of_eq (adg _ _)) ?_
 have n:s.heap.objs.size≠s.heap.objs.size+1:=aaB (acf _)
 refine ⟨by rw [aB n,ag],aaY _,n,c,λ Z=>none,(Heap.Ns1.of_empty d).at λ o q=>aac _ q,λ Z=>True.intro,λ y f=>absurd rfl f⟩
def KA {prog:bq} {w:bh} {env:Env} {e:Expr} {f:Str} {p:Pos} {s:Shared} {Q:au->Shared->Prop} (H:attributeBase e f env (eval e env)=eval e env) (h:wpAny (model prog w) A (eval e env) (λ o S=>wpAny (model prog w) A (getAttr o f true) Q E S) E s):wpAny (model prog w) A (eval (.Attribute e f p) env) Q E s :=
 Attribute_any_ h (by rw [arm_eval_Attribute,H])
end
inductive Sd (K:aC) (f:Str) (Q:VK) (x:V) (H1:Hp):Prop|mk (a C dx:ai) (fs:List (Str×V)) (v:V) (h1:x = .ref a) (h2:H1 a=some (.ins C dx fs)) (h3:yu K C) (h4:eB K C f) (h5:fs.lookup f=some v) (q:Q v H1)
def Qa (K:aC) (t:TE) (f:Str):TE:=λ U H Q=>t U H (Sd K f Q)
def Xr (K:aC) (t T:TE) (f:Str):TS:=λ D U H=>T U H λ y b=>t U b λ x h=>∃ a C d F,x = .ref a/\h a=some (.ins C d F)/\yu K C/\eB K C f/\F.length<1000 /\
 D.nx U (upd h a (.ins C d (bG f y F)))
def PY (X:Cx) (o:Operator) (r:V->V->Hp->VK->Prop):Prop :=
 ∀ (p:List (ai×Obj)) (s:Shared) (U:St) (H:Hp) (x y:V) (u v:au) (Q:VK),Inv X p U H s->RelV x u->RelV y v->r x y H Q->wpAny (model X.prog X.w) X.A (inplaceOp o u v) (EP X p U Q) X.xe s
def J4 (K:aC) (t T:TE) (r:V->V->Hp->VK->Prop) (f:Str):TS:=λ D U H=>t U H λ x h=>∃ a C e c v,x = .ref a/\h a=some (.ins C e c)/\yu K C/\eB K C f/\c.lookup f=some v /\
 T U h λ y d=>r v y d λ z b=>∃ w F,b a=some (.ins C w F)/\F.length<1000/\D.nx U (upd b a (.ins C w (bG f z F)))
section
variable {X:Cx} {o e value:Expr} {f:Str} {pos pos' pR:Pos} {ta tv:TE}
def bj (j:PE X e ta) (g:attributeBase e f X.env (eval e X.env)=eval e X.env):PE X (.Attribute e f pos) (Qa X.K ta f):=by
 intro p s U H Q I h
 refine KA g (cV (j p s U H _ I h) λ u S ⟨x,b,i,R,a,C,D,F,v,ex,E,c,n,l,q⟩=>?_)
 subst ex
 obtain rfl:u=Value.ref a:=R
 exact tU i E c n l λ m k d r=>⟨v,b,d,r,q⟩
def dW (g:PE X o ta) (k:PE X value tv) (j:swapsWith value (some (.Attribute o f pos')) pos.line X.env=pure false):PS X (.Assign [.Attribute o f pos'] value pos) (Xr X.K ta tv f):=by
 intro p s U H D I h
 refine acl (cV (k p s U H _ I h) λ u S ⟨y,b,i,R,q⟩=>cV (g p S U b _ i q) λ O v ⟨x,m,d,r,a,C,t,F,ex,E,c,n,l,Q⟩=>?_) j
 subst ex
 obtain rfl:O=Value.ref a:=r
 exact ud d E c n l R λ w e=>⟨U,_,e,Q⟩
def wE {O:Operator} {r:V->V->Hp->VK->Prop} (w:PE X o ta) (A:PE X value tv) (b:PY X O r):PS X (.AugAssign (.Attribute o f pR) O value pos) (J4 X.K ta tv r f):=by
 intro p s U H D I h
 refine wpAny_AugAssign_AttributeAny (cV (w p s U H _ I h) λ B s1 ⟨x,d,i,J,a,C,dx,fs,v,ex,E,c,n,l,q⟩=>?_)
 subst ex
 obtain rfl:B=Value.ref a:=J
 refine tU i E c n l λ u S j R=>cV (A p S U d _ j q) λ W T ⟨y,g,k,M,Q⟩=>cV (b p T U g v y u W _ k R M Q) λ w4 s4 ⟨z,Y,m,N,wC,F,e,L,G⟩=>?_
 exact ud m e c n L N λ s5 t=>⟨U,_,t,G⟩
inductive XJ (x:V) (y:V) (H:Hp) (Q:VK):Prop|mk (i j:_) (_:x = .int i) (_:y = .int j) (_:Q (.int (i+j)) H)
def Gb:PY X .Add XJ:=by
 rintro p s U H x y u v Q I r R ⟨i,j,rfl,rfl,q⟩
 obtain ⟨t,rfl⟩:=(show ∃ t,u=Value.int i t from r)
 obtain ⟨t',rfl⟩:=(show ∃ t',v=Value.int j t' from R)
 exact PyProof.Rows.iadd_int ⟨.int (i+j),H,I.tok _,⟨_,rfl⟩,q⟩
end
section
variable {X:Cx} {pins:List (ai×Obj)} {U:St} {H:Hp} {s:Shared} {A:Around} {E:au->Shared->Prop} {Q:au->Shared->Prop} {c:au} {b:Bool}
inductive pS (K:aC) (H:Hp):V->au->Prop where
 | cn:pS K H .cn (.type "NoneType")
 | bl (x:Bool):pS K H (.bl x) (.type "bool")
 | int (i:Int):pS K H (.int i) (.type "int")
 | str (x:Str):pS K H (.str x) (.type "str")
 | LJ (x:UInt64):pS K H (.LJ x) (.type "float")
 | lst {a:ai} {xs:aA} (e:H a=some (.lst xs)):pS K H (.ref a) (.type "list")
 | yX {a:ai} {o:Obj} {xs:aA} (e:H a=some (.yX o (.lst xs))):pS K H (.ref a) (.type "list")
 | tup {a:ai} {xs:aA} (e:H a=some (.tup xs)):pS K H (.ref a) (.type "tuple")
 | dK {a:ai} {aE:List (Key×V)} (e:H a=some (.dK aE)):pS K H (.ref a) (.type "dict")
 | dT {a:ai} {aE:List (List Key×V)} (e:H a=some (.dT aE)):pS K H (.ref a) (.type "dict")
 | ins {a C dx:ai} {fs:List (Str×V)} (e:H a=some (.ins C dx fs)) (cl:yu K C) (ha:W.findIn K (.ref C) "__class__" = some (some (.builtin "object.__class__")))
     (hn:W.specialIn K (.builtin "object.__class__") "__get__" = some (some (.builtin "getset_descriptor.__get__"))) (UT:W.takesIn K (.builtin "object.__class__")=some true)
     (hm:W.mroIn K C (.type "object")=some true):pS K H (.ref a) (.ref C)
def Fq {x:V} {u t:au} (I:Inv X pins U H s) (r:RelV x u) (ty:pS X.K H x t) (e:W.kitOne X.K t c=some b) (h:∀ T,Q (.bool b) { s with toks:=T }) :
   wpAny (model X.prog X.w) A (call (.builtin "isinstance") [u,c]) Q E s:=by
 cases ty with
 | cn=>cases (show u=Value.none from r);exact aca W.kitx_none I.pH True.intro e (λ z=>nomatch z) h
 | bl y=>cases (show u=Value.bool y from r);exact aca W.kitx_bool I.pH True.intro e (λ z=>nomatch z) h
 | int i=>obtain ⟨t,q⟩:=(show ∃ t,u=Value.int i t from r);cases q;exact aca W.kitx_int I.pH True.intro e (λ z=>nomatch z) h
 | str y=>obtain ⟨t,q⟩:=(show ∃ t,u=Value.str y t from r);cases q;exact aca W.kitx_str I.pH True.intro e (λ z=>nomatch z) h
 | LJ y=>obtain ⟨t,q⟩:=(show ∃ t,u=Value.float y t from r);cases q;exact aca W.kitx_float I.pH True.intro e (λ z=>nomatch z) h
 | @lst a g d =>
   cases (show u=Value.ref a from r)
   obtain ⟨Z,Z,n,Z,f⟩:=(show c8 X.prog X.w H s.heap a (.lst g) from I.cA a _ d)
   exact aca W.kitx_list I.pH ⟨_,f,rfl⟩ e (λ z=>nomatch z) h
 | @yX a G g d =>
   cases (show u=Value.ref a from r)
   obtain ⟨Z,Z,Z,n,Z,f⟩:=(show c8 X.prog X.w H s.heap a (.yX G (.lst g)) from I.cA a _ d)
   exact aca W.kitx_list I.pH ⟨_,f,rfl⟩ e (λ z=>nomatch z) h
 | @tup a g d =>
   cases (show u=Value.ref a from r)
   obtain ⟨Z,Z,Z,p⟩:=(show c8 X.prog X.w H s.heap a (.tup g) from I.cA a _ d)
   obtain ⟨o,f,j,Z⟩:=p
   exact aca W.kitx_tuple I.pH ⟨o,f,j⟩ e (λ z=>nomatch z) h
 | @dK a k d =>
   cases (show u=Value.ref a from r)
   obtain ⟨Z,Z,S,Z,p⟩:=(show c8 X.prog X.w H s.heap a (.dK k) from I.cA a _ d)
   obtain ⟨o,es,v,f,j,Z⟩:=p
   exact aca W.kitx_dict I.pH ⟨o,f,j.1⟩ e (λ z=>nomatch z) h
 | @dT a k d =>
   cases (show u=Value.ref a from r)
   obtain ⟨Z,Z,g,Z,o,es,v,f,j,Z⟩:=(show c8 X.prog X.w H s.heap a (.dT k) from I.cA a _ d)
   exact aca W.kitx_dict I.pH ⟨o,f,j.1⟩ e (λ z=>nomatch z) h
 | @ins a C L M d l B F m D =>
   cases (show u=Value.ref a from r)
   obtain ⟨N,O,Z⟩:=sN I.cA d
   obtain ⟨R,J,Z⟩:=O.look
   exact aca (W.kitx_own (l.get _) l.hd B F m D) I.pH J e (λ z=>nomatch z) h
end
structure cR (k:Nat) (A:Around):Prop where
 hd:A.handled=none
 dp:A.depth+3 * k+5<recursionLimit
 un:A.units+16 * k+200<cLine
def cR.mono {j k:Nat} {A:Around} (r:cR k A) (h:j<=k):cR j A:=⟨r.hd,by have:=r.dp;lia,by have:=r.un;lia⟩
theorem cR.deeper {k:Nat} {A:Around} (r:cR (k+1) A) (env:Env):cR k (A.deeper env) :=
 ⟨r.hd,by have:=r.dp;show A.depth+1+3 * k+5<_;lia,by have:=r.un;show A.units+3+16 * k+200<_;lia⟩
def BW {A:Around} {C:ai} {us:aZ} {kw:List (Str×au)}:(A.under (.builtin "type.__call__" ⟨.ref C::us,kw⟩)).depth=A.depth+1:=by
 first|rfl|simp [Around.under,Code.weight,Code.isCreation,Code.isGuard,Code.isCaller,Code.frames,Code.isFrame,guardIds]
def Cj {A:Around} {C:ai} {us:aZ} {kw:List (Str×au)}:(A.under (.builtin "type.__call__" ⟨.ref C::us,kw⟩)).units=A.units+1:=by
 first|rfl|simp [Around.under,Code.cUnits,Code.frames,Code.isFrame]
def cR.make {k:Nat} {A:Around} (r:cR (k+1) A) (C:ai) (us:aZ) (kw:List (Str×au)):cR k (A.under (.builtin "type.__call__" ⟨.ref C::us,kw⟩)) :=
 ⟨r.hd,by have:=r.dp;rw [BW];lia,by have:=r.un;rw [Cj];lia⟩
theorem cR.depth {k:Nat} {A:Around} (r:cR k A):A.depth<recursionLimit:=by have:=r.dp;lia
theorem cR.units {k:Nat} {A:Around} (r:cR k A):A.units+64<cLine:=by have:=r.un;lia
def JB:TA:=λ Z H Q=>Q [] H
def RQ (t:TE) (T:TA):TA:=λ U H Q=>t U H λ x h=>T U h λ X a=>Q (x::X) a
section
variable {X:Cx} {e:Expr} {es:List Expr} {te:TE} {t:TA} {pos:Pos}
def af:PA X [] JB:=λ Z Z Z Z H Q I h=>Calls.spliced_nil ⟨[],H,I,.nil,h⟩
def aa (d:PE X e te) (f:PA X es t) (g:Cq X e es:=by rfl):PA X (e::es) (RQ te t):=by
 intro pos p s U H Q I h
 rw [g]
 show wpAny _ _ (spliced ((false,eval e X.env)::backTo pos (starEach es X.env))) _ _ s
 refine adv (cV (d p s U H _ I h) λ u S ⟨x,a,i,r,q⟩=>?_)
 exact cV (f pos p S U a _ i q) λ m l ⟨k,b,c,R,j⟩=>⟨x::k,b,c,.cons r R,j⟩
def Zn (t:TA):TE:=λ U H Q=>t U H λ x h=>x.length<=sizeLine/\∀ p,h p=none->Q (.ref p) (upd h p (.tup x))
def WA (t:TA):TE:=λ U H Q=>t U H λ x h=>x.length<=sizeLine/\∀ p,h p=none->Q (.ref p) (upd h p (.lst x))
def cQ {x} (h:PA X es t):PE X (.Tuple es x pos) (Zn t):=by
 intro p s U H Q I d
 refine wpAny_Tuple_spliced (cV (h pos p s U H _ I d) λ f S ⟨g,a,i,r,z,q⟩=>⟨by rw [<- r.length];exact z,?_⟩)
 have c:a S.heap.objs.size=none:=i.cA.fresh (aaf _)
 refine ⟨.ref S.heap.objs.size,upd a S.heap.objs.size (.tup g),i.laid (t':=S.toks) (λ b u e=>aac _ e) (aaf _) ?_,rfl,q _ c⟩
 exact ⟨z,f,r,⟨_,aaK _ rfl,rfl,_,rfl⟩⟩
def cH (h:PA X es t):PE X (.List es pos) (WA t):=by
 intro p s U H Q I d
 refine wpAny_List_spliced (cV (h pos p s U H _ I d) λ f S ⟨x,a,i,r,z,q⟩=>⟨by rw [<- r.length];exact z,?_⟩)
 have c:a S.heap.objs.size=none:=i.cA.fresh (aaf _)
 refine ⟨.ref S.heap.objs.size,upd a S.heap.objs.size (.lst x),i.laid (t':=S.toks) (λ b u e=>aac _ e) (aaf _) ?_,rfl,q _ c⟩
 exact ⟨z,f,0,r,aaK _ rfl⟩
end
abbrev Sp:=aA->Hp->VK->XK->Prop
abbrev Go:=List Env->Hp->Shared->XK->au->Shared->Prop
structure CJ (P:bq) (w:bh) (K:aC) (mg:cy) (base:aU) (A:Around) (outer:List Env) (s:Shared) (H:Hp):Prop where
 frames:A.frames=some outer
 mod:Mod K mg base
 bs:∀ b o,base.get? b=some o->s.heap.get? b=some o/\H b=none
 LN:base.objs.size<=s.heap.objs.size
 nQ:s.heap.FunFrames base outer
 Kb:∀ b∈iV outer,H b=none
 cA:kR P w H s.heap
 bare:AllBare s.gens
def CE (outer:List Env) (P:bq) (w:bh) (H:Hp) (s:Shared) (Q:VK) (u:au) (s':Shared):Prop :=
 ∃ v h,s'.os=s.os/\AllBare s'.gens/\Un (iV outer) [] H h s.heap s'.heap/\kR P w h s'.heap/\RelV v u/\Q v h
def CR (C:Go) (outer:List Env) (P:bq) (w:bh) (H:Hp) (s:Shared) (Q:VK) (E:XK) (r:Result) (s':Shared):Prop :=
 match r with
 | .ok (.ret u)=>CE outer P w H s Q u s'
 | .ok _=>False
 | .error e=>C outer H s E e s'
structure ic (P:bq) (w:bh) (K:aC) (mg:cy) (base:aU) (CX:Go) (k:Nat) (f:ai) (fd:FuncData) (ps:cp) (sp:Sp):Prop where
 len:∀ vs H Q E,sp vs H Q E->vs.length=ps.length
 run:∀ (A:Around) (outer:List Env) (s:Shared) (H:Hp) (args:Args) (us:aZ) (vs:aA) (Q:VK) (E:XK),cR k A->CJ P w K mg base A outer s H->BindsTo s fd args (ps.zip us)->Vals vs us->sp vs H Q E ->
   codeAny (model P w) A (.call (.ref f) args) (CR CX outer P w H s Q E) s
def CJ.make {P:bq} {w:bh} {K:aC} {m:cy} {base:aU} {A:Around} {outer:List Env} {s:Shared} (e:CJ P w K m base A outer s H) (C:ai) (us:aZ) (kw:List (Str×au)) :
   CJ P w K m base (A.under (.builtin "type.__call__" ⟨.ref C::us,kw⟩)) outer s H:=⟨by first|exact e.frames|(simpa [Around.under,Code.envs,Code.isFrame,pushEnvs] using e.frames),e.mod,e.bs,e.LN,e.nQ,e.Kb,e.cA,e.bare⟩
section
variable {X:Cx} {pins:List (ai×Obj)} {U:St} {H:Hp} {s s':Shared}
def Inv.OJ (I:Inv X pins U H s):CJ X.prog X.w X.K X.mg X.base X.A X.stack s H :=
 ⟨I.ok.frames,I.ok.mod,I.bs,aaT I.ok.LN I.sz,I.stack,I.oV,I.cA,I.bare⟩
def Inv.after {u:au} (I:Inv X pins U H s) (h:CE X.stack X.prog X.w H s Q u s'):EP X pins U Q u s':=by
 obtain ⟨v,a,O,B,f,c,r,q⟩:=h
 obtain ⟨e,g,d,t,o⟩:=s'
 obtain rfl:o=s.os:=O
 exact ⟨v,a,I.call (h':=e) (g':=g) (d':=d) (t':=t) (ch:=[]) f c B (λ b z=>absurd z (by simp)),r,q⟩
end
def DN (s:Sp) (g:aA) (E:XK) (t:TA):TE:=λ U H Q=>t U H λ v h=>s (v++g) h Q E
inductive N6 (C:ai) (m:Str) (sp:Sp) (gj:aA) (E:XK) (t:TA) (U:St) (Q:VK) (x:V) (H1:Hp):Prop|mk (a dx:ai) (fs:List (Str×V)) (h1:x = .ref a) (h2:H1 a=some (.ins C dx fs)) (h3:fs.lookup m=none) (q:t U H1 λ vs H2=>sp (x::(vs++gj)) H2 Q E)
def vZ (C:ai) (m:Str) (s:Sp) (g:aA) (E:XK) (T:TE) (t:TA):TE:=λ U H Q=>T U H (N6 C m s g E t U Q)
def Hk (C:ai) (s:Sp) (g:aA) (E:XK) (t:TA):TE:=λ U H Q=>t U H λ V h=>∀ x d,h x=none->h d=none->d≠x ->
 s (.ref x::(V++g)) (upd (upd h d (.own x)) x (.ins C d [])) (λ v a=>v = .cn/\Q (.ref x) a) E
def Binds (K:aC) (f:FuncData) (p:cp) (d:aZ):Prop :=
 ∀ (s:Shared) (u:aZ),K.In s.heap->(u++d).length=p.length->BindsTo s f ⟨u,[]⟩ (p.zip (u++d))
def Binds.all {K:aC} {f:FuncData} {p:cp} (h:∀ us:aZ,us.length=p.length->bindArgs f ⟨us,[]⟩=pure (p.zip us)):Binds K f p []:=λ s us Z H=>by
 rw [abb] at H |-
 exact .of_eq (h us H)
def Passes (C:Go) (X:Cx) (E:XK):Prop:=∀ (p:List (ai×Obj)) (U:St) (H:Hp) (s:Shared) (e:au) (s':Shared),Inv X p U H s->C X.stack H s E e s'->X.xe e s'
section
variable {X:Cx} {CX:Go} {k:Nat} {f C:ai} {fd:FuncData} {ps:cp} {sp:Sp} {gj:aA} {ds:aZ} {E:XK} {x m:Str} {p pos apos:Pos} {e o:Expr} {es:List Expr} {ta:TE} {t:TA}
def BN {p:List (ai×Obj)} {s:Shared} {us:aZ} {vs:aA} (F:ic X.prog X.w X.K X.mg X.base CX k f fd ps sp) (i:cR k X.A) (c:Binds X.K fd ps ds) (d:Vals gj ds) (j:Passes CX X E) (I:Inv X p U H s) (r:Vals vs us) (h:sp (vs++gj) H Q E):wpAny (model X.prog X.w) X.A (call (.ref f) us) (EP X p U Q) X.xe s:=by
 have R:Vals (vs++gj) (us++ds):=r.append d
 have g:(us++ds).length=ps.length:=by rw [<- R.length];exact F.len _ _ _ _ h
 refine aej (acH (F.run X.A X.stack s H ⟨us,[]⟩ (us++ds) (vs++gj) Q E i I.OJ (c s us I.pH g) R h) λ r s' a=>?_)
 cases r with
 | error e=>exact j p U H s e s' I a
 | ok b =>
   cases b with
   | ret u=>exact I.after a
   | next=>exact False.elim a
   | brk=>exact False.elim a
   | cont=>exact False.elim a
def D8 (F:ic X.prog X.w X.K X.mg X.base CX k f fd ps sp) (o:cR k X.A) (l:Gl X x) (n:X.mg x=some (.ref f)) (m:W.keepIn X.K (.ref f)=true) (d:Binds X.K fd ps ds) (g:Vals gj ds) (u:Passes CX X E) (c:PA X (e::es) t) (b:Ba x:=by decide) (j:Cq X e es:=by rfl) (J:FK X es pos:=by rfl) :
   PE X (.Call (.Name x p) (e::es) [] pos) (DN sp gj E t):=by
 intro a s U H Q I h
 refine acG (o4 I l n ?_ b)
 refine W.callWith_K (h₀:=X.base) I.ok.mod.Mg m (cV (c pos a s U H _ I h) λ y S ⟨V,v,i,r,q⟩=>⟨i.pH,?_⟩) j J
 exact BN F o d g u i r q
def Dr {pl:Sem Bool} (D:PE X o ta) (c:yu X.K C) (d:Meth X.K C m f) (F:ic X.prog X.w X.K X.mg X.base CX k f fd ps sp) (G:cR k X.A) (z:Binds X.K fd ps ds) (B:Vals gj ds) (L:Passes CX X E) (y:PA X (e::es) t) (N:Cq X e es:=by rfl) (M:FK X es pos:=by rfl) (J:eval (.Call (.Attribute o m apos) (e::es) [] pos) X.env=(do
     let O <- eval o X.env
     standAt apos.atName
     let (f,first) <- holding [O] (getMethod O m pl)
     callWith pos f first (backTo pos (starEach (e::es) X.env)) (backToKw pos (keywordEach [] X.env))):=by rfl) :
   PE X (.Call (.Attribute o m apos) (e::es) [] pos) (vZ C m sp gj E ta t):=by
 intro p s U H Q I h
 refine W.methodCall_KW (pl:=pl) (cV (D p s U H _ I h) λ u T ⟨x,j,i,S,a,Y,fs,ex,n,l,q⟩=>?_) J
 subst ex
 obtain rfl:u=Value.ref a:=S
 refine tS i n c d l ?_
 refine W.callWith_K (first:=[.ref a]) (h₀:=X.base) I.ok.mod.Mg d.kp (cV (y pos p T U j _ i q) λ g s2 ⟨v,V,b,r,R⟩=>⟨b.pH,?_⟩) N M
 exact BN (us:=.ref a::g) (vs:=.ref a::v) F G z B L b (.cons rfl r) R
def G7 {pl:Sem Bool} (j:PE X o ta) (c:yu X.K C) (b:Meth X.K C m f) (F:ic X.prog X.w X.K X.mg X.base CX k f fd ps sp) (n:cR k X.A) (d:Binds X.K fd ps ds) (g:Vals gj ds) (t:Passes CX X E) (r:eval (.Call (.Attribute o m apos) [] [] pos) X.env=(do
     let O <- eval o X.env
     standAt apos.atName
     let (f,first) <- holding [O] (getMethod O m pl)
     callWith pos f first (backTo pos (starEach [] X.env)) (backToKw pos (keywordEach [] X.env))):=by rfl) :
   PE X (.Call (.Attribute o m apos) [] [] pos) (vZ C m sp gj E ta JB):=by
 intro p s U H Q I h
 refine W.methodCall_KW (pl:=pl) (cV (j p s U H _ I h) λ u S ⟨x,v,i,R,a,D,y,ex,e,l,q⟩=>?_) r
 subst ex
 obtain rfl:u=Value.ref a:=R
 refine tS i e c b l ?_
 exact W.callWith_K0 (first:=[.ref a]) i.pH b.kp (BN (us:=[.ref a]) (vs:=[.ref a]) F n d g t i (.cons rfl .nil) q)
structure Mk (K:aC) (C f:ai):Prop where
 makes:W.makesIn K C=true
 init:W.findIn K (.ref C) "__init__" = some (some (.ref f))
 fn:W.isFn K (.ref f)=true
 kp:W.keepIn K (.ref C)=true
def Ib {p:List (ai×Obj)} {s:Shared} {us:aZ} {vs:aA} (M:Mk X.K C f) (F:ic X.prog X.w X.K X.mg X.base CX k f fd ps sp) (t:cR (k+1) X.A) (n:Binds X.K fd ps ds) (o:Vals gj ds) (y:Passes CX X E) (I:Inv X p U H s) (r:Vals vs us) (h:∀ x d,H x=none->H d=none->d≠x->sp (.ref x::(vs++gj)) (upd (upd H d (.own x)) x (.ins C d [])) (λ v g=>v = .cn/\Q (.ref x) g) E) :
   wpAny (model X.prog X.w) X.A (call (.ref C) us) (EP X p U Q) X.xe s:=by
 have b:=h (s.heap.objs.size+1) s.heap.objs.size (I.cA.fresh (abO _)) (I.cA.fresh (aaf _)) (aaB (acf _))
 have a:=Inv.made (C:=C) I
 have R:Vals (V.ref (s.heap.objs.size+1)::(vs++gj)) (Value.ref (s.heap.objs.size+1)::(us++ds)):=.cons rfl (r.append o)
 have q:(Value.ref (s.heap.objs.size+1)::us++ds).length=ps.length:=by
   have e:=R.length
   rw [F.len _ _ _ _ b] at e
   exact e.symm
 refine aej (GQ (f:=f) I.pH M.makes M.init (abG.mp M.fn) (acH (F.run _ X.stack _ _ ⟨Value.ref (s.heap.objs.size+1)::us,[]⟩ (Value.ref (s.heap.objs.size+1)::(us++ds)) _ _ E (t.make C us [])
   (a.OJ.make C us []) (n _ (Value.ref (s.heap.objs.size+1)::us) a.pH q) R b) λ r s' i=>?_))
 cases r with
 | error e=>exact y p U _ _ e s' a i
 | ok m =>
   cases m with
   | ret u =>
     obtain ⟨v,c,j,B,l,z⟩:=a.after i
     subst l
     exact ⟨B,⟨V.ref (s.heap.objs.size+1),c,j,rfl,z⟩⟩
   | next=>exact False.elim i
   | brk=>exact False.elim i
   | cont=>exact False.elim i
def J8 (M:Mk X.K C f) (F:ic X.prog X.w X.K X.mg X.base CX k f fd ps sp) (n:cR (k+1) X.A) (l:Gl X x) (m:X.mg x=some (.ref C)) (d:Binds X.K fd ps ds) (g:Vals gj ds) (o:Passes CX X E) (c:PA X (e::es) t) (b:Ba x:=by decide) (j:Cq X e es:=by rfl) (J:FK X es pos:=by rfl) :
   PE X (.Call (.Name x p) (e::es) [] pos) (Hk C sp gj E t):=by
 intro a s U H Q I h
 refine acG (o4 I l m ?_ b)
 refine W.callWith_K (h₀:=X.base) I.ok.mod.Mg M.kp (cV (c pos a s U H _ I h) λ v S ⟨V,u,i,r,q⟩=>⟨i.pH,?_⟩) j J
 exact Ib M F n d g o i r q
end
structure az (N P:cp) (sc:Scope):Prop where
 kind:sc.kind = .function
 co:sc.isCoroutine=false
 gen:sc.isGenerator=false
 nd:N.Nodup
 pre:N.take P.length=P
 par:∀ x∈P,sc.names.lookup x=some .local\/sc.names.lookup x=some .cell
 NM:∀ y∈sc.names,y.2 ≠ .free
theorem vL {k:Str->Option NameKind} {x:Str}:∀ {b:List (Str×au)} {m:cy},(∀ v,(x,v)∉b)->bindL k b m x=m x
 | [],_,_=>rfl
 | (n,v)::r,m,h=>by
   unfold bindL
   rw [vL λ w hw=>h w (aak _ hw)]
   split
   . have:x≠n:=by rintro rfl;exact h v aaF
     simp [this]
   . rfl
theorem vS {k:Str->Option NameKind} {x:Str}:∀ {b:List (Str×au)} {m:cy},(∀ v,(x,v)∉b)->bindC k b m x=m x
 | [],_,_=>rfl
 | (n,v)::r,m,h=>by
   unfold bindC
   rw [vS λ w hw=>h w (aak _ hw)]
   split
   . rfl
   . have:x≠n:=by rintro rfl;exact h v aaF
     simp [this]
theorem vU {k:Str->Option NameKind} {x:Str} {v:au}:∀ {P:cp} {vs:aZ} {i:Nat} {m:cy},P.Nodup->P[i]?=some x->vs[i]?=some v->k x=some .local ->
   bindL k (P.zip vs) m x=some v
 | [],_,_,_,_,h,_,_=>by simp at h
 | _::_,[],_,_,_,_,h,_=>by simp at h
 | p::P,w::vs,0,m,n,H,a,b=>by
   simp at H a;subst H;subst a
   show bindL k ((p,w)::P.zip vs) m p=_
   unfold bindL
   rw [vL λ v c=>(abB.mp n).1 (adr c).1,aan b]
   simp
 | p::P,w::vs,i+1,m,n,H,a,b=>by
   show bindL k ((p,w)::P.zip vs) m x=_
   unfold bindL
   exact vU (i:=i) (abB.mp n).2 (by simpa using H) (by simpa using a) b
theorem wL {k:Str->Option NameKind} {x:Str} {v:au}:∀ {P:cp} {vs:aZ} {i:Nat} {m:cy},P.Nodup->P[i]?=some x->vs[i]?=some v->k x≠some .local ->
   bindC k (P.zip vs) m x=some v
 | [],_,_,_,_,h,_,_=>by simp at h
 | _::_,[],_,_,_,_,h,_=>by simp at h
 | p::P,w::vs,0,m,n,H,a,b=>by
   simp at H a;subst H;subst a
   show bindC k ((p,w)::P.zip vs) m p=_
   unfold bindC
   rw [vS λ v c=>(abB.mp n).1 (adr c).1,aam b]
   simp
 | p::P,w::vs,i+1,m,n,H,a,b=>by
   show bindC k ((p,w)::P.zip vs) m x=_
   unfold bindC
   exact wL (i:=i) (abB.mp n).2 (by simpa using H) (by simpa using a) b
def start (N:cp) (vs:aA):St:=vs.map some++List.replicate (N.length - vs.length) none
def fQ (C:Go) (P:bq) (w:bh) (K:aC) (mg:cy) (base:aU) (N:cp) (q:Str) (S:Scope) (f:ai) (c:au) (A:Around) (outer:List Env) (s:Shared) (H:Hp) (E:XK):Cx where
 prog:=P
 w:=w
 K:=K
 mg:=mg
 base:=base
 A:=A.deeper (envOfC q S s.heap.objs.size f c)
 N:=N
 s₀:=s
 H₀:=H
 env:=envOfC q S s.heap.objs.size f c
 outer:=outer
 stack:=envOfC q S s.heap.objs.size f c::outer
 ex:=[]
 calm:=true
 fn:=λ Z=>true
 pn:=[]
 xe:=λ e s'=>wpAny (model P w) (A.deeper (envOfC q S s.heap.objs.size f c)) (leaving (envOfC q S s.heap.objs.size f c) e) (λ Z z=>C outer H s E e z) (λ a z=>C outer H s E a z) s'
def zJ {s:Scope} {n:Nat} {x:Str} (h:s.names.lookup x=some .cell):∃ c,(cellsFrom n s.names []).lookup x=some c:=by
 have q:=W.cellsFrom_some s.names n [] (.inl h)
 exact abX.mp q
def FM {D:Go} {P:bq} {w:bh} {K:aC} {M:cy} {base:aU} {N m:cp} {d:Scope} {f:ai} {C:au} {A:Around} {outer:List Env} {s s1:Shared} {E:XK} {us:aZ} {vs:aA} (S:az N m d) (L:A.handled=none) (j:CJ P w K M base A outer s H) (T:vs.length=m.length) (r:Vals vs us) (x:InCallC s s.heap.objs.size (bindL (envOfC qual d s.heap.objs.size f C).kindOf (m.zip us) λ Z=>none) (cellsFrom (s.heap.objs.size+1) d.names []) (bindC (envOfC qual d s.heap.objs.size f C).kindOf (m.zip us) λ Z=>none) s1) :
   Inv (fQ D P w K M base N qual d f C A outer s H E) [] (start N vs) H s1:=by
 have U:m.length<=N.length:=by have:=abI List.length S.pre;rw [aax] at this;lia
 obtain ⟨t,V,rfl,G⟩:=x.done
 have Q:∀ b:ai,b∉(fQ D P w K M base N qual d f C A outer s H E).ex:=λ b z=>absurd (show b∈([]:bZ) from z) (by simp)
 refine ⟨⟨j.mod,S.kind,rfl,rfl,aaf _,λ y z c t g=>?_,λ y l=>?_,λ y c Z h=>?_,λ Z=>L,Around.frames_deeper j.frames,.inr ⟨rfl,rfl⟩,λ b z=>absurd z (Q b),j.bs,j.LN,λ b Z Z=>Q b,λ b z=>absurd z (Q b),j.nQ,j.Kb⟩,
   rfl,j.bare,Un.kept G,⟨_,x.toInCall.ns,λ i y v t g O=>?_⟩,λ y c h=>⟨_,x.cell y c h⟩,j.cA.fresh (aaf _),λ y c h=>?_,λ p o=>absurd (show p∈([]:List (ai×Obj)) from o) (by simp),j.cA.kept G,?_⟩
 . exact name_of_addr x.apart (abz t) (abz g)
 .
  have l:d.names.lookup y=some .cell\/d.names.lookup y=some .free:=l
  rcases l with l|l
  . exact zJ l
  . exact absurd rfl (S.NM _ (abz l))
 . exact acd (x.above y c (abz h))
 .
  have B:i<vs.length:=by
    unfold start at g
    by_cases B:i<vs.length
    . exact B
    . rw [aaG (by simpa using B)] at g
      rw [acD] at g
      split at g<;>cases g
  have J:vs[i]?=some v:=by
    unfold start at g
    rw [aaA (by simpa using B),T1] at g
    cases e:vs[i]? with
    | none=>rw [e] at g;cases g
    | some a=>rw [e] at g;cases g;rfl
  obtain ⟨u,I,R⟩:=r.get J
  have o:m[i]?=some y:=by
    rw [<- S.pre,abY (by lia)];exact t
  have F:m.Nodup:=by rw [<- S.pre];exact S.nd.sublist (List.take_sublist _ _)
  refine ⟨u,R,?_⟩
  rcases S.par y (aaz o) with k|k
  . exact .inl ⟨k,vU F o I k⟩
  .
   obtain ⟨c,e⟩:=zJ (n:=s.heap.objs.size+1) k
   refine .inr ⟨.inl k,c,e,?_⟩
   have q:=x.cell y c e
   rw [wL F o I (by show d.names.lookup y≠_;rw [k];decide)] at q
   exact q
 . exact j.cA.fresh (acd (x.above y c (abz h)))
 .
  unfold start
  show _=N.length
  rw [aad,OS,abF]
  lia
def IY {C:Go} {P:bq} {w:bh} {K:aC} {m:cy} {base:aU} {k:Nat} {f:ai} {name:Str} {p:Arguments} {B:List Stmt} {a:Scope} {O kV D T d ct oc:au} {M od:Option ai} {yz:Array (kK)} {N j:cp} {sp:Sp} (lk:K.lookup f=some ⟨oc,od,.func (W.fnOf name qual p B a O kV D T M d ct),yz⟩) (sH:W.codeIn K d qual=true) (S:az N j a) (len:∀ vs H Q E,sp vs H Q E->vs.length=j.length) (X:∀ (A:Around) (outer:List Env) (s:Shared) (H:Hp) (vs:aA) (Q:VK) (E:XK),cR k (A.deeper (envOfC qual a s.heap.objs.size f d))->sp vs H Q E ->
     ∃ t,rK (fQ C P w K m base N qual a f d A outer s H E) B t/\t { nx:=λ _ h=>Q .cn h,rt:=Q } (start N vs) H) :
   ic P w K m base C (k+1) f (W.fnOf name qual p B a O kV D T M d ct) j sp:=by
 refine ⟨len,λ A outer s H args us vs Q E l i hb r z=>?_⟩
 have hl:=len _ _ _ _ z
 have G:K.In s.heap:=i.mod.Mg.keeps λ b o e=>(i.bs b o e).1
 have L:s.heap.NoLimit:=i.mod.nolimit.keeps λ b o e=>(i.bs b o e).1
 have U:∀ y∈j.zip us,a.names.lookup y.1=some .local\/(a.names.lookup y.1=some .cell/\((cellsFrom (s.heap.objs.size+1) a.names []).lookup y.1).isSome=true):=λ ⟨n,v⟩ hy=>by
   rcases S.par n (adr hy).1 with q|q
   . exact .inl q
   . exact .inr ⟨q,W.cellsFrom_some _ _ _ (.inl q)⟩
 refine codeAny_call_function l.depth (G _ _ lk) rfl S.co S.gen rfl (W.codeRec_of G sH) (hb _ _ _ _ ?_)
 refine wpAny_newFunctionEnv_cells S.kind U λ env he s1 x=>?_
 subst he
 refine ⟨L.keeps x.toInCall.keep,codeAny_func ?_⟩
 obtain ⟨t,ht,hq⟩:=X A outer s H vs Q E (l.deeper _) z
 have I:Inv (fQ C P w K m base N qual a f d A outer s H E) [] (start N vs) H s1:=FM S l.hd i hl r x
 refine aa0 (ht [] s1 (start N vs) H _ I hq) (λ Y s' g=>?_) λ e s' g=>g
 have F:∀ {c:St} {h:Hp} {v:V} {u:au},Inv (fQ C P w K m base N qual a f d A outer s H E) [] c h s'->RelV v u->Q v h->CE outer P w H s Q u s' :=
   λ {c h v u} J R q=>⟨v,h,J.os,J.bare,J.base,J.cA,R,q⟩
 cases Y with
 | ret u =>
   obtain ⟨v,c,h,J,R,q⟩:=g
   exact F J R q
 | next =>
   obtain ⟨c,h,J,q⟩:=g
   exact F (v:=V.cn) (u:=Value.none) J rfl q
 | brk =>
   obtain ⟨_,_,_,q⟩:=g
   exact False.elim q
 | cont =>
   obtain ⟨_,_,_,q⟩:=g
   exact False.elim q
section
variable {X:Cx} {x:Str} {p pos:Pos} {e:Expr} {es:List Expr} {t:TA} {id T:String} {r:aA->Hp->VK->Prop}
def tCB (r:aA->Hp->VK->Prop) (t:TA):TE:=λ U H Q=>t U H λ v h=>r v h Q
def br (d:iy X (.builtin id) r) (g:Gl X x) (j:X.mg x=none) (l:bootBuiltins x=some (.builtin id)) (c:PA X (e::es) t) (k:x ≠ "__name__":=by decide) (A:Ba x:=by decide) (f:Cq X e es:=by rfl) (J:FK X es pos:=by rfl):PE X (.Call (.Name x p) (e::es) [] pos) (tCB r t):=by
 intro a s U H Q I h
 refine acG (lS I g j l ?_ k A)
 exact PyProof.Rows.callWith_builtin1 (cV (c pos a s U H _ I h) λ u S ⟨v,b,i,R,q⟩=>d a S U b v u Q i R q) f J
def cG (d:iy X (.type T) r) (g:Gl X x) (j:X.mg x=none) (l:bootBuiltins x=some (.type T)) (c:PA X (e::es) t) (k:x ≠ "__name__":=by decide) (A:Ba x:=by decide) (f:Cq X e es:=by rfl) (J:FK X es pos:=by rfl):PE X (.Call (.Name x p) (e::es) [] pos) (tCB r t):=by
 intro a s U H Q I h
 refine acG (lS I g j l ?_ k A)
 exact abg (cV (c pos a s U H _ I h) λ u S ⟨v,b,i,R,q⟩=>d a S U b v u Q i R q) f J
end
end L2
namespace HT
open PySem PyProof.Rows
def lexLt:List Int->List Int->Bool
 | [],[]=>false
 | [],_::_=>true
 | _::_,[]=>false
 | x::xs,y::ys=>if x=y then lexLt xs ys else decide (x<y)
section
variable {prog:bq} {w:bh} {A:Around} {E:au->Shared->Prop} {s:Shared}
def JW {t b:ai} {vs W:aZ} {Q:au->Shared->Prop} (o:IsTup s.heap t vs.toArray) (l:IsTup s.heap b W.toArray) (i:vs≠[])
   (j:W=[]->Q (.ref t) s) (k:W≠[]->Q (.ref s.heap.objs.size) { s with heap:=s.heap.push { cls:=.type "tuple",data:=.seq (vs++W).toArray }})
   (hsz:vs.length+W.length<=sizeLine):wpAny (model prog w) A (binaryOp .Add (.ref t) (.ref b)) Q E s:=by
 obtain ⟨⟨cls,D,data,sl⟩,H,f,n,g⟩:=id o
 obtain ⟨⟨Y,m,d,c⟩,M,S,N,h⟩:=id l
 simp only at f g S h
 subst f g S h
 have e:vs.toArray++W.toArray=(vs++W).toArray:=by simp
 by_cases a:W=[]
 . exact concat_meets ⟨_,H,rfl⟩ ⟨_,M,rfl⟩ adI seq_tuple_add acK acC (acA _ _)
     (tuple_addW1 t b vs.toArray W.toArray n N D m sl c (by simpa using i) (by simp [a])) ⟨H,M,j a⟩
 .
  refine concat_meets ⟨_,H,rfl⟩ ⟨_,M,rfl⟩ adI seq_tuple_add acK acC (acA _ _)
    (tuple_addW2 t b vs.toArray W.toArray n N D m sl c (by simpa using i) (by simpa using a) (by rw [aau,aau];exact hsz)) ⟨H,M,?_⟩
  rw [e]
  exact k a
def uY (n d:Nat):Option Int->Nat
 | none=>d
 | some v=>if v<0 then (v+(n:Int)).toNat else min v.toNat n
def ID (n d:Nat):uY n d none=d:=rfl
def J3 (n d k:Nat):uY n d (some (k:Int))=min k n:=by
 show (if (k:Int)<0 then ((k:Int)+(n:Int)).toNat else min (k:Int).toNat n)=min k n
 rw [aam (by lia),aaX]
end
end HT
namespace L2
open PySem PySem.Spec PyProof.Rows
variable {H H':Hp} {t':Nat} {v:V} {U:St}
abbrev TO:=St->Hp->(Option Int->Hp->Prop)->Prop
def PO (X:Cx) (e:Option Expr) (t:TO):Prop :=
 ∀ (p:List (ai×Obj)) (s:Shared) (U:St) (H:Hp) (Q:Option Int->Hp->Prop),Inv X p U H s->t U H Q ->
   wpAny (model X.prog X.w) X.A (evalPart e X.env) (λ u S=>∃ o H',Inv X p U H' S/\IsPart u o/\Q o H') X.xe s
def Kd:TO:=λ Z H Q=>Q none H
def Qy (t:TE):TO:=λ U H Q=>t U H λ x h=>∃ i,x = .int i/\Q (some i) h
section
variable {X:Cx} {e:Expr} {te:TE} {lo hi:Option Expr} {tl th:TO} {pos p2:Pos}
def xq:PO X none Kd:=by
 intro p s U H Q I h
 rw [evalPart_none]
 exact aas ⟨none,H,I,.none,h⟩
def kG (h:PE X e te):PO X (some e) (Qy te):=by
 intro p s U H Q I c
 rw [evalPart_some]
 refine cV (h p s U H _ I c) λ u S ⟨x,a,b,r,d⟩=>?_
 obtain ⟨i,rfl,q⟩:=d
 obtain ⟨t,rfl⟩:=r
 exact ⟨some i,a,b,.int i t,q⟩
def Zi (X:Cx) (r:V->Option Int->Option Int->Hp->VK->Prop):Prop :=
 ∀ (p:List (ai×Obj)) (s:Shared) (U:St) (H:Hp) (x:V) (v a b:au) (lo hi:Option Int) (sl:ai) (Q:VK),Inv X p U H s->RelV x v->s.heap.IsSliceOf sl a b .none->IsPart a lo->IsPart b hi->r x lo hi H Q ->
   ∃ T id,typeLookup (.type T) "__getitem__" = pure (some (.builtin id))/\s.TypeIs v T/\wpAny (model X.prog X.w) X.A (getItem v (.ref sl)) (EP X p U Q) X.xe s
def tSl (r:V->Option Int->Option Int->Hp->VK->Prop) (t:TE) (c T:TO):TE:=λ U H Q=>t U H λ x h=>c U h λ l a=>T U a λ u b=>r x l u b Q
def lX {r:V->Option Int->Option Int->Hp->VK->Prop} (z:Zi X r) (o:PE X e te) (y:PO X lo tl) (C:PO X hi th):PE X (.Subscript e (.Slice lo hi none p2) pos) (tSl r te tl th):=by
 intro p s U H Q I h
 refine Subscript_ (cV (o p s U H _ I h) λ v K ⟨x,f,i,R,F⟩=>?_)
 refine wpAny_Slice (cV (y p K U f _ i F) λ a L ⟨l,g,j,D,G⟩=>cV (C p L U g _ j G) λ c S ⟨u,d,k,E,J⟩=>?_)
 rw [evalPart_none]
 refine aas ?_
 have m:Inv X p U d { S with heap:=S.heap.push { cls:=.type "slice",data:=.fields #[a,c,.none]}}:=k.kept (t':=S.toks) λ b O q=>aac _ q
 obtain ⟨T,id,n,B,t⟩:=z p { S with heap:=S.heap.push { cls:=.type "slice",data:=.fields #[a,c,.none]}} U d x v a c l u S.heap.objs.size Q m R (Heap.IsSliceOf.new ..) D E J
 show wpAny (model X.prog X.w) X.A (subscriptTail e (.Slice lo hi none p2) v (.ref S.heap.objs.size)) (EP X p U Q) X.xe { S with heap:=S.heap.push { cls:=.type "slice",data:=.fields #[a,c,.none]}}
 exact tail_any (ops:=[.ref S.heap.objs.size,v]) B n t (by with_unfolding_all rfl)
def p5 (xs:aA) (lo h:Option Int):aA:=(xs.drop (HT.uY xs.length 0 lo)).take (HT.uY xs.length xs.length h - HT.uY xs.length 0 lo)
def rA (xs:aA) (lo h:Option Int):(p5 xs lo h).length<=xs.length:=by
 unfold p5
 rw [aax,List.length_drop]
 lia
inductive Tz (K:aC) (x:V) (y:V) (H:Hp) (Q:VK):Prop|mk (a b xs ys:_) (_:x = .ref a) (_:y = .ref b) (_:bR K H a xs) (_:bR K H b ys) (_:xs≠[]) (_:xs.length+ys.length<=sizeLine) (_:(ys=[]->Q (.ref a) H)) (_:(ys≠[]->∀ p,H p=none->Q (.ref p) (upd H p (.tup (xs++ys)))))
def Vals.sE {xs:aA} {us:aZ} (r:Vals xs us):us=[]↔xs=[]:=by
 cases r with
 | nil=>simp
 | cons _ _=>simp
def DT:iD X (binaryOp .Add) (Tz X.K):=by
 intro p s U H x y v u Q I k l h
 obtain ⟨a,b,m,Y,rfl,rfl,d,e,f,c,i,j⟩:=h
 cases k
 cases l
 obtain ⟨B,R,g,Z⟩:=I.tuple d
 obtain ⟨O,r,p2,Z⟩:=I.tuple e
 refine HT.JW g p2 (λ z=>f (R.sE.mp z)) (λ z=>⟨.ref a,H,I,rfl,i (r.sE.mp z)⟩) (λ z=>?_) (by rw [<- R.length,<- r.length];exact c)
 refine ⟨.ref s.heap.objs.size,_,I.laid (t':=s.toks) (o:=.tup (m++Y)) (λ b n q=>aac _ q) (aaf _) ?_,rfl,j (λ w=>z (r.sE.mpr w)) _ (I.cA.fresh (aaf _))⟩
 exact ⟨by rw [aad];exact c,_,R.append r,IsTup.new _ _⟩
end
def D3 (n:Nat) (i:Int):Option Nat:=if 0<=i then (if i<n then some i.toNat else none) else if -(n:Int)<=i then some (i+n).toNat else none
def uw {α:Type} (xs:List α) (i:Int):Option α:=(D3 xs.length i).bind λ j=>xs[j]?
def D9 {n:Nat} {i:Int} {j:Nat} (h:D3 n i=some j):seqIndex? i n=some j/\j<n/\-(n:Int)<=i/\i<n:=by
 unfold D3 at h
 by_cases a:0<=i
 .
  rw [aan a] at h
  by_cases H:i<n
  . rw [aan H] at h
    have e:i.toNat=j:=aaj h
    exact ⟨by rw [seqIndex_of a H,e],by lia,by lia,H⟩
  . rw [aam H] at h;cases h
 .
  rw [aam a] at h
  by_cases H : -(n:Int)<=i
  . rw [aan H] at h
    have e:(i+n).toNat=j:=aaj h
    exact ⟨by rw [seqIndex_neg (by lia) H,e],by lia,H,by lia⟩
  . rw [aam H] at h;cases h
def Ef {a:Type} {xs:List a} {i:Int} {v:a} (h:uw xs i=some v):∃ j,seqIndex? i xs.length=some j/\xs[j]?=some v/\j<xs.length/\-(xs.length:Int)<=i/\i<xs.length:=by
 unfold uw at h
 cases e:D3 xs.length i with
 | none=>rw [e] at h;cases h
 | some j =>
   rw [e] at h
   obtain ⟨H,b,c,d⟩:=D9 e
   exact ⟨j,H,h,b,c,d⟩
def bK {a:Type} {xs:List a} {j:Nat} {v:a} (h:xs[j]?=some v):uw xs (j:Int)=some v:=by
 have H:j<xs.length:=(RJ.mp h).1
 have e:D3 xs.length (j:Int)=some j:=by
   unfold D3
   rw [aan (by lia),aan (by lia)];simp
 unfold uw;rw [e];exact h
def KB (b:Expr):Prop:=∀ o i,subscripted b false o i=operate [o,i] (getItem o i)
def SX (X:Cx) (r:R2):Prop :=
 ∀ (a S:Expr) (p:List (ai×Obj)) (s:Shared) (U:St) (H:Hp) (x y:V) (v u:au) (Q:VK),Inv X p U H s->RelV x v->RelV y u->r x y H Q ->
   subscripted S false v u=operate [v,u] (getItem v u)->wpAny (model X.prog X.w) X.A (subscriptTail a S v u) (EP X p U Q) X.xe s
def Y9 (X:Cx) (id:String) (r:V->aA->Hp->VK->Prop):Prop :=
 ∀ (p:List (ai×Obj)) (s:Shared) (U:St) (H:Hp) (x:V) (a:aA) (v:au) (u:aZ) (Q:VK),Inv X p U H s->RelV x v->Vals a u->r x a H Q ->
   wpAny (model X.prog X.w) X.A (call (.builtin id) (v::u)) (EP X p U Q) X.xe s
section
variable {X:Cx} {a b:Expr} {ta tb:TE} {pos:Pos}
def aF {r:R2} (f:SX X r) (d:PE X a ta) (e:PE X b tb) (g:KB b:=by exact λ Z Z=>rfl):PE X (.Subscript a b pos) (RR r ta tb):=by
 intro p s U H Q I h
 exact Subscript_ (MC d e I h λ v u S x y c i R j q=>f a b p S U c x y v u Q i R j q (g _ _))
inductive YW (K:aC) (x:V) (y:V) (H:Hp) (Q:VK):Prop|mk (p xs i v:_) (_:x = .ref p) (_:y = .int i) (_:bi K H p xs) (_:uw xs i=some v) (_:Q v H)
inductive X8 (K:aC) (x:V) (y:V) (H:Hp) (Q:VK):Prop|mk (p xs i v:_) (_:x = .ref p) (_:y = .int i) (_:bR K H p xs) (_:uw xs i=some v) (_:Q v H)
def Lc:SX X (YW X.K):=by
 intro V S a s U H x y v u Q I R E h k
 obtain ⟨p,M,i,z,rfl,rfl,C,o,q⟩:=h
 cases R
 obtain ⟨t,rfl⟩:=E
 obtain ⟨B,r,d,L⟩:=I.list C
 obtain ⟨j,b,l,G,m,n⟩:=Ef o
 obtain ⟨w,e,D⟩:=r.get l
 have A:=r.length
 have J:=yj
 have f:EP X a U Q w s:=⟨z,H,I,D,q⟩
 by_cases g:0<=i
 .
  have c:i.toNat=j:=by
    rw [seqIndex_of g n] at b
    exact aaj b
  exact item_listR d.isList g (by lia) (by rw [c];simpa using e) f k
 .
  have c:(i+(B.toArray.size:Int)).toNat=j:=by
    rw [seqIndex_neg (by lia) m] at b
    rw [aau,<- A]
    exact aaj b
  exact subscriptTail_builtinR (x:=w) d.isList.typeIs slot_list_getitem.lookup
    (wpAny_getItem_list_neg (Q:=λ r F=>r=w/\EP X a U Q r F) d.isList (by lia) (by rw [aau]<;>lia) (by lia) (by rw [c];simpa using e) ⟨rfl,f⟩) k
def M7:SX X (X8 X.K):=by
 intro V S a s U H x y v u Q I R n h m
 obtain ⟨p,J,i,z,rfl,rfl,l,g,q⟩:=h
 cases R
 obtain ⟨t,rfl⟩:=n
 obtain ⟨B,r,b,G⟩:=I.tuple l
 obtain ⟨j,c,d,A,C,E⟩:=Ef g
 obtain ⟨w,e,D⟩:=r.get d
 have k:=r.length
 have F:=yj
 have f:EP X a U Q w s:=⟨z,H,I,D,q⟩
 exact subscriptTail_builtinR (x:=w) b.typeIs slot_tuple_getitem.lookup
   (getItem_tuple (j:=j) (Q:=λ r o=>r=w/\EP X a U Q r o) b (by lia) (by lia) (by rw [aau,<- k];exact c) (by simpa using e) ⟨rfl,f⟩) m
def Bo (b:aZ) (n j:Nat) (u:au):Obj.mapSeq (·.setIfInBounds j u) { cls:=.type "list",data:=.seq b.toArray n }={ cls:=.type "list",data:=.seq (b.set j u).toArray n }:=by
 simp [Obj.mapSeq]
theorem Inv.lst {a:List (ai×Obj)} {s:Shared} {p:ai} {xs:aA} (I:Inv X a U H s) (h:H p=some (.lst xs)) :
   ∃ (b:aZ) (n:Nat),Vals xs b/\s.heap.get? p=some { cls:=.type "list",data:=.seq b.toArray n }/\xs.length<=sizeLine:=by
 obtain ⟨z,b,n,r,e⟩:=I.cA p _ h
 exact ⟨b,n,r,e,z⟩
def Inv.N8 {a:List (ai×Obj)} {s:Shared} {p:ai} {xs ys:aA} {B its':aZ} {n N:Nat} {f:Obj->Obj} (I:Inv X a U H s) (h:H p=some (.lst xs)) (g:s.heap.get? p=some { cls:=.type "list",data:=.seq B.toArray n }) (c:f { cls:=.type "list",data:=.seq B.toArray n }={ cls:=.type "list",data:=.seq its'.toArray N }) (r:Vals ys its') (i:ys.length<=sizeLine) (t:Nat) :
   Inv X a U (upd H p (.lst ys)) { s with heap:=s.heap.update p f,toks:=t }:=by
 have e:(s.heap.update p f).get? p=some { cls:=.type "list",data:=.seq its'.toArray N }:=by
   rw [abT f g (by rw [c]<;>rfl),c]
 refine I.write (x:=p) (e:=p) (by rw [h];trivial) (.inl rfl) (λ b u d q=>(abR _ _ (abA d)).trans q) ⟨_,e⟩ ?_
 exact ⟨i,its',N,r,e⟩
def Qq:V->V->V->Hp->(Hp->Prop)->Prop:=λ o i v H Q=>∃ p x k j,o = .ref p/\i = .int k/\H p=some (.lst x)/\D3 x.length k=some j/\Q (upd H p (.lst (x.set j v)))
def set_list:TB X Qq:=by
 intro a s U H o i v O F u Q I z R A h
 obtain ⟨p,C,k,j,rfl,rfl,w,x,q⟩:=h
 cases z
 obtain ⟨t,rfl⟩:=R
 obtain ⟨B,n,r,e,y⟩:=I.lst w
 obtain ⟨b,D,l,m⟩:=D9 x
 have d:=r.length
 have E:=yj
 have f:Inv X a U (upd H p (.lst (C.set j v))) { s with heap:=s.heap.update p (Obj.mapSeq (·.setIfInBounds j u))} :=
   I.N8 w e (Bo B n j u) (r.set A j) (by rw [abq];exact y) s.toks
 by_cases g:0<=k
 .
  have c:k.toNat=j:=by
    rw [seqIndex_of g m] at b
    exact aaj b
  exact W.ki_setAt e g (by lia) (by rw [aau,<- d];exact m) (by rw [c];exact ⟨_,f,q⟩)
 .
  have c:(k+(B.toArray.size:Int)).toNat=j:=by
    rw [seqIndex_neg (by lia) l] at b
    rw [aau,<- d]
    exact aaj b
  exact W.ki_setBack e (by lia) (by rw [aau,<- d];exact l) (by lia) (by rw [c];exact ⟨_,f,q⟩)
def xh (lo H:Option Int) (n:Nat):(sliceBounds lo H none n).1=((HT.uY n 0 lo:Nat):Int)/\(sliceBounds lo H none n).2.1=((HT.uY n n H:Nat):Int)/\(sliceBounds lo H none n).2.2=1:=by
 refine ⟨?_,?_,rfl⟩
 .
  cases lo with
  | none=>simp [sliceBounds,HT.uY]
  | some i =>
    simp only [sliceBounds,HT.uY,Option.getD_none,show (1:Int) > 0 by decide,ab2]
    by_cases h:i<0
    . simp only [h,ab2]<;>lia
    . simp only [h,acm]<;>lia
 .
  cases H with
  | none=>simp [sliceBounds,HT.uY]
  | some i =>
    simp only [sliceBounds,HT.uY,Option.getD_none,show (1:Int) > 0 by decide,ab2]
    by_cases h:i<0
    . simp only [h,ab2]<;>lia
    . simp only [h,acm]<;>lia
def vb (b:aZ) (lo h:Option Int):slicePick b.toArray lo h none=((b.drop (HT.uY b.length 0 lo)).take (HT.uY b.length b.length h - HT.uY b.length 0 lo)).toArray:=by
 obtain ⟨H,a,c⟩:=xh lo h b.toArray.size
 unfold slicePick
 rw [H,a,c]
 simp only [sliceRange_one,pick_run,aau]<;>rfl
inductive Vj (K:aC) (x:V) (lo:Option Int) (hi:Option Int) (H:Hp) (Q:VK):Prop|mk (a xs:_) (_:x = .ref a) (_:bi K H a xs) (_:∀ p,H p=none->Q (.ref p) (upd H p (.lst (p5 xs lo hi))))
def xG:Zi X (Vj X.K):=by
 intro p s U H x v V n l e sl Q I R g k m h
 obtain ⟨a,c,rfl,i,q⟩:=h
 cases R
 obtain ⟨B,r,f,j⟩:=I.list i
 have d:=r.length
 refine ⟨"list",_,slot_list_getitem.lookup,f.isList.typeIs,?_⟩
 refine wpAny_getItem_list_slice f.isList g k m .none (by simp) ?_ (by rw [aau]<;>lia)
 rw [vb,<- d]
 refine ⟨.ref s.heap.objs.size,_,I.laid (t':=s.toks) (o:=.lst (p5 c l e)) (λ b O q=>aac _ q) (aaf _) ?_,rfl,q _ (I.cA.fresh (aaf _))⟩
 exact ⟨aaT (rA c l e) j,_,0,(r.drop (HT.uY c.length 0 l)).take (HT.uY c.length c.length e - HT.uY c.length 0 l),aaK _ rfl⟩
def oU:V->Bool
 | .cn=>true
 | .bl _=>true
 | .int _=>true
 | .str _=>true
 | _=>false
def Ma:V->V->Bool
 | .cn,.cn=>true
 | .bl a,.bl b=>a == b
 | .bl a,.int b=>(if a then 1 else 0) == b
 | .int a,.bl b=>a == (if b then 1 else 0)
 | .int a,.int b=>a == b
 | .str a,.str b=>a == b
 | _,_=>false
def Om {A:Around} {s:Shared} {y x:V} {u v:au} (R:RelV y u) (r:RelV x v) (F:oU y=true) (f:oU x=true):SeqAt.EqAt A s u v (Ma y x):=by
 cases y with
 | cn =>
   cases R
   cases x with
   | cn=>cases r;exact SeqAt.EqAt.same _
   | bl b=>cases r;exact SeqAt.EqAt.none_bool b
   | int b=>obtain ⟨t,rfl⟩:=r;exact SeqAt.EqAt.none_int b t
   | str b=>obtain ⟨t,rfl⟩:=r;exact SeqAt.EqAt.none_str b t
   | _=>exact absurd (show false=true from f) aah
 | bl a =>
   cases R
   cases x with
   | cn=>cases r;exact SeqAt.EqAt.bool_none a
   | bl b=>cases r;exact SeqAt.EqAt.bool_bool a b
   | int b=>obtain ⟨t,rfl⟩:=r;exact SeqAt.EqAt.bool_int a b t
   | str b=>obtain ⟨t,rfl⟩:=r;exact SeqAt.EqAt.bool_str a b t
   | _=>exact absurd (show false=true from f) aah
 | int a =>
   obtain ⟨t',rfl⟩:=R
   cases x with
   | cn=>cases r;exact SeqAt.EqAt.int_none a t'
   | bl b=>cases r;exact SeqAt.EqAt.int_bool a t' b
   | int b=>obtain ⟨t,rfl⟩:=r;exact SeqAt.EqAt.int_int a t' b t
   | str b=>obtain ⟨t,rfl⟩:=r;exact SeqAt.EqAt.int_str a t' b t
   | _=>exact absurd (show false=true from f) aah
 | str a =>
   obtain ⟨t',rfl⟩:=R
   cases x with
   | cn=>cases r;exact SeqAt.EqAt.str_none a t'
   | bl b=>cases r;exact SeqAt.EqAt.str_bool a t' b
   | int b=>obtain ⟨t,rfl⟩:=r;exact SeqAt.EqAt.str_int a t' b t
   | str b=>obtain ⟨t,rfl⟩:=r;exact SeqAt.EqAt.str_str a t' b t
   | _=>exact absurd (show false=true from f) aah
 | _=>exact absurd (show false=true from F) aah
def KN (x:V) (u:au):Bool:=match u with
 | .none=>Ma .cn x
 | .bool b=>Ma (.bl b) x
 | .int i _=>Ma (.int i) x
 | .str z _=>Ma (.str z) x
 | _=>false
def IM {x y:V} {u:au} (r:RelV y u) (f:oU y=true):KN x u=Ma y x:=by
 cases y with
 | cn=>cases r;rfl
 | bl b=>cases r;rfl
 | int i=>obtain ⟨t,rfl⟩:=r;rfl
 | str z=>obtain ⟨t,rfl⟩:=r;rfl
 | _=>exact absurd (show false=true from f) aah
theorem xg {x:V}:∀ {xs:aA} {us:aZ},Vals xs us->xs.all oU=true->us.any (KN x)=xs.any λ y=>Ma y x
 | _,_,.nil,_=>rfl
 | y::xs,u::us,.cons r t,f=>by
   rw [List.all_cons,aaq] at f
   rw [abJ,abJ,IM r f.1,xg t f.2]
theorem uS {A:Around} {s:Shared} {x:V} {v:au} (R:RelV x v) (F:oU x=true):∀ {xs:aA} {us:aZ},Vals xs us->xs.all oU=true->∀ u∈us,SeqAt.EqAt A s u v (KN x u)
 | _,_,.nil,_=>λ u h=>by cases h
 | y::xs,u::us,.cons r t,f=>λ U h=>by
   rw [List.all_cons,aaq] at f
   rcases aaa.mp h with rfl|h
   . rw [IM r f.1];exact Om r R f.1 F
   . exact uS R F t f.2 U h
def Jl (x:V) (xs:aA):Bool:=xs.any λ y=>Ma y x
inductive rIn (K:aC) (neg:Bool) (x:V) (y:V) (H:Hp) (Q:VK):Prop|mk (p xs:_) (_:y = .ref p) (_:(bi K H p xs\/bR K H p xs)) (_:oU x=true) (_:xs.all oU=true) (_:Q (.bl (if neg then !Jl x xs else Jl x xs)) H)
def ou:iD X (compareOp .NotIn) (rIn X.K true):=by
 intro e s U H x y v u Q I R i h
 obtain ⟨p,j,rfl,a,F,f,q⟩:=h
 cases i
 rcases a with a|a
 .
  obtain ⟨b,r,d,g⟩:=I.list a
  refine SeqAt.notIn_listAt (KN x) d.isList (λ w c=>uS R F r f w (by simpa using c)) ⟨.bl _,H,I,rfl,?_⟩
  rw [show b.toArray.any (KN x)=b.any (KN x) by simp,xg r f]
  exact q
 .
  obtain ⟨b,r,d,g⟩:=I.tuple a
  refine SeqAt.notIn_tupleAt (KN x) d (λ w c=>uS R F r f w (by simpa using c)) ⟨.bl _,H,I,rfl,?_⟩
  rw [show b.toArray.any (KN x)=b.any (KN x) by simp,xg r f]
  exact q
def xW:iy X (.builtin "len") (λ xs H Q=>∃ p ys,xs=[.ref p]/\(bi X.K H p ys\/bR X.K H p ys)/\Q (.int ys.length) H):=by
 intro d s U H xs i Q I r h
 obtain ⟨p,ys,rfl,b,q⟩:=h
 obtain ⟨u,rfl,f⟩:=vals1 r
 cases f
 have g:=yj
 rcases b with b|b
 . obtain ⟨B,R,c,e⟩:=I.list b
   have a:=R.length
   exact Calls.call_len_list c.isList (by simp only [aau]<;>lia) ⟨.int ys.length,H,I.tok _,⟨s.toks+1,by rw [aau,a]⟩,q⟩
 . obtain ⟨B,R,c,e⟩:=I.tuple b
   have a:=R.length
   exact len_tuple c (by simp only [aau]<;>lia) ⟨.int ys.length,H,I.tok _,⟨s.toks+1,by rw [aau,a]⟩,q⟩
def gz:iy X (.type "list") (λ xs H Q=>∃ p ys,xs=[.ref p]/\(bi X.K H p ys\/bR X.K H p ys)/\∀ l,H l=none->Q (.ref l) (upd H l (.lst ys))):=by
 intro j s U H xs z Q I r h
 obtain ⟨p,ys,rfl,g,q⟩:=h
 obtain ⟨u,rfl,y⟩:=vals1 r
 cases y
 have f:∀ (B:aZ),Vals ys B->ys.length<=sizeLine->∀ (a:aU) (c:Nat),(∀ b O,s.heap.get? b=some O->a.get? b=some O) ->
     a.get? s.heap.objs.size=some { cls:=.type "list",dict:=none,data:=.seq B.toArray c,slots:=#[]}->EP X j U Q (.ref s.heap.objs.size) { s with heap:=a }:=λ B R i a c k e =>
   ⟨.ref s.heap.objs.size,_,I.laid (t':=s.toks) k (aaf _) (show c8 X.prog X.w _ a _ (.lst ys) from ⟨i,B,c,R,e⟩),rfl,q _ (I.cA.fresh (aaf _))⟩
 rcases g with g|g
 .
  obtain ⟨B,R,x,i⟩:=I.list g
  have d:=R.length
  obtain ⟨o,v,m,n,t⟩:=x.isList
  exact call_list_seq p (.inl rfl) v m t (λ a c k e=>f B R i a c k e) (by simp only [aau]<;>lia)
 .
  obtain ⟨B,R,x,i⟩:=I.tuple g
  have d:=R.length
  obtain ⟨o,v,m,n,t⟩:=x
  exact call_list_seq p (.inr rfl) v m t (λ a c k e=>f B R i a c k e) (by simp only [aau]<;>lia)
def cZ:iy X (.type "tuple") (λ xs H Q=>∃ p ys,xs=[.ref p]/\((bi X.K H p ys/\∀ l,H l=none->Q (.ref l) (upd H l (.tup ys)))\/(bR X.K H p ys/\Q (.ref p) H))):=by
 intro a s U H xs t Q I r h
 obtain ⟨p,ys,rfl,h⟩:=h
 obtain ⟨u,rfl,n⟩:=vals1 r
 cases n
 rcases h with ⟨d,q⟩|⟨d,q⟩
 .
  obtain ⟨B,R,f,j⟩:=I.list d
  have g:=R.length
  refine call_tuple_list f.isList (λ c m=>?_) (by simp only [aau]<;>lia)
  have i:Inv X a U H { s with heap:=c }:=I.kept (t':=s.toks) m
  have k:Inv X a U (upd H c.objs.size (.tup ys)) { s with heap:=c.push { cls:=.type "tuple",data:=.seq B.toArray }} :=
    i.laid (t':=s.toks) (λ b o e=>aac _ e) (aaf _) (show c8 X.prog X.w _ _ _ (.tup ys) from ⟨j,B,R,IsTup.new _ _⟩)
  exact ⟨.ref c.objs.size,_,k,rfl,q _ (i.cA.fresh (aaf _))⟩
 . obtain ⟨B,R,f,j⟩:=I.tuple d
   exact call_tuple_same f ⟨.ref p,H,I,rfl,q⟩
def ZH (K:aC) (T:String) (x:V) (H:Hp):Prop:=match x with
 | .str _=>T = "str"
 | .int _=>T = "int"
 | .ref p=>(T = "list"/\∃ X,bi K H p X)\/(T = "tuple"/\∃ o,K.lookup p=some o/\o.cls = .type "tuple"/\o.dict=none) \/
     (T = "dict"/\((∃ a,H p=some (.dK a))\/∃ a,H p=some (.dT a)))\/(T = "set"/\∃ S n,H p=some (.set S n))
 | _=>False
def G1 {b:List (ai×Obj)} {s:Shared} {T:String} {x:V} {v:au} (I:Inv X b U H s) (r:RelV x v) (ty:ZH X.K T x H) :
   s.TypeIs v T/\∀ a,v = .ref a->∃ O,s.heap.get? a=some O/\O.dict=none:=by
 cases x with
 | str z =>
   obtain ⟨t,rfl⟩:=r
   cases (show T = "str" from ty)
   exact ⟨typeIs_str s z t,λ Z e=>nomatch e⟩
 | int i =>
   obtain ⟨t,rfl⟩:=r
   cases (show T = "int" from ty)
   exact ⟨typeIs_int s i t,λ Z e=>nomatch e⟩
 | ref p =>
   cases r
   rcases ty with ⟨rfl,k,j⟩|⟨rfl,o,h,g,d⟩|⟨rfl,h⟩|⟨rfl,S,n,h⟩
   . obtain ⟨B,Z,f,Z⟩:=I.list j
     refine ⟨f.isList.typeIs,λ a e=>?_⟩
     cases e
     obtain ⟨o,n,e,c,d,Z⟩:=f
     exact ⟨o,e,d⟩
   . refine ⟨⟨o,I.pH p o h,g⟩,λ a e=>?_⟩
     cases e
     exact ⟨o,I.pH _ o h,d⟩
   .
    have z:∃ o,s.heap.get? p=some o/\o.ExactDict:=by
      rcases h with ⟨A,h⟩|⟨A,h⟩
      . obtain ⟨Z,Z,Z,Z,o,Z,Z,e,ex,Z⟩:=I.cA p _ h
        exact ⟨o,e,ex⟩
      . obtain ⟨Z,Z,Z,Z,o,Z,Z,e,ex,Z⟩:=I.cA p _ h
        exact ⟨o,e,ex⟩
    obtain ⟨o,e,ex⟩:=z
    refine ⟨⟨o,e,ex.1⟩,λ a E=>?_⟩
    cases E
    exact ⟨o,e,ex.2.1⟩
   . obtain ⟨o,Z,Z,Z,e,ex,Z⟩:=I.cA p _ h
     refine ⟨⟨o,e,ex.1⟩,λ a E=>?_⟩
     cases E
     exact ⟨o,e,ex.2.1⟩
 | _=>exact False.elim ty
def WS (K:aC) (T:String) (r:V->aA->Hp->VK->Prop) (t:TE):TE:=λ U H Q=>t U H λ x h=>ZH K T x h/\r x [] h Q
def tBM (K:aC) (T:String) (r:V->aA->Hp->VK->Prop) (b:TE) (t:TA):TE:=λ U H Q=>b U H λ x h=>ZH K T x h/\t U h λ X a=>r x X a Q
variable {o e:Expr} {es:List Expr} {to:TE} {t:TA} {name:Str} {apos fc:Pos} {T id:String} {r:V->aA->Hp->VK->Prop}
def N4 (j:PlainAttrs T) (S:Slot T name id) (c:typeOf (.builtin id)=pure (.type "method_descriptor")) (f:Y9 X id r) (g:PE X o to) (l:attributeBase o name X.env (eval o X.env)=eval o X.env:=by rfl) (b:(apos.endLine == fc.line)=true:=by rfl):PE X (.Call (.Attribute o name apos) [] [] fc) (WS X.K T r to):=by
 intro p s U H Q I h
 refine wpAny_Call_method0_late l b (cV (g p s U H _ I h) λ v k ⟨x,a,i,R,ty,q⟩=>?_)
 obtain ⟨d,e⟩:=G1 i R ty
 exact ⟨T,id,j,S,c,d,e,acZ rfl (PySem.evalArgs_none (f p k U a x [] v [] Q i R .nil q))⟩
def iw (w:PlainAttrs T) (S:Slot T name id) (g:typeOf (.builtin id)=pure (.type "method_descriptor")) (m:Y9 X id r) (n:PE X o to) (l:PA X (e::es) t) (D:attributeBase o name X.env (eval o X.env)=eval o X.env:=by rfl) (W:((backTo fc (starEach (e::es) X.env)).all (λ x => !x.1) && (backToKw fc (keywordEach [] X.env)).all (λ x=>x.1.isSome)
     && decide ((e::es).length+([]:List Keyword).length+(if ([]:List Keyword).isEmpty then 0 else 1)<30))=true:=by rfl) (f:(apos.endLine == fc.line)=true:=by rfl) (q:Cq X e es:=by rfl) (u:(backTo fc (starEach es X.env)).any (·.1)=false:=by rfl) :
   PE X (.Call (.Attribute o name apos) (e::es) [] fc) (tBM X.K T r to t):=by
 intro p s U H Q I h
 refine wpAny_Call_method_late D W f rfl (cV (n p s U H _ I h) λ v B ⟨x,b,i,R,ty,y⟩=>?_)
 obtain ⟨j,k⟩:=G1 i R ty
 refine ⟨T,id,w,S,g,j,k,?_⟩
 have a:=l fc p B U b _ i y
 rw [q] at a |-
 refine acZ (by show (false || (backTo fc (starEach es X.env)).any (·.1))=false;rw [u]<;>rfl) (acu ?_)
 exact cV a λ E C ⟨V,c,d,A,z⟩=>m p C U c x V v E Q d R A z
end
def Z7 (X:Cx) (id:String) (r:V->aA->Hp->VK->Prop):Prop :=
 ∀ (p:List (ai×Obj)) (s:Shared) (U:St) (H:Hp) (x:V) (a:aA) (v:au) (u:aZ) (Q:VK),Inv X p U H s->RelV x v->Vals a u->r x a H Q ->
   wpAny (model X.prog X.w) X.A (call (.builtin id) (v::u)) (EP X p U Q) X.xe s
def Vals.one:∀ {x:V} {us:aZ},Vals [x] us->∃ u,us=[u]/\RelV x u
 | _,_,.cons r .nil=>⟨_,rfl,r⟩
def Vals.zero:∀ {us:aZ},Vals [] us->us=[]
 | _,.nil=>rfl
section
variable {X:Cx} {pins:List (ai×Obj)} {U:St} {H:Hp} {s:Shared} {l b:ai} {xs ys:aA}
def Inv.Pl {b its':aZ} {n:Nat} {f:Array au->Array au} {t':Nat} (I:Inv X pins U H s) (h:H l=some (.lst xs)) (e:s.heap.get? l=some { cls:=.type "list",data:=.seq b.toArray n }) (c:f b.toArray=its'.toArray) (g:Vals ys its') (i:ys.length<=sizeLine) :
   Inv X pins U (upd H l (.lst ys)) { s with heap:=s.heap.update l (Obj.mapSeq f),toks:=t' }:=by
 have q:=PySem.IsL.update e f
 rw [c] at q
 refine I.write (x:=l) (e:=l) (by rw [h];exact trivial) (.inl rfl) (λ B u a d=>(abR s.heap (Obj.mapSeq f) (abA a)).trans d) ⟨_,q⟩ ?_
 exact ⟨i,its',_,g,q⟩
def Inv.Vm {b:aZ} {t':Nat} (I:Inv X pins U H s) (h:Vals ys b) (a:ys.length<=sizeLine) :
   Inv X pins U (upd H s.heap.objs.size (.lst ys)) { s with heap:=s.heap.push { cls:=.type "list",data:=.seq b.toArray },toks:=t' } :=
 I.laid (λ Z Z q=>aac _ q) (aaf _) ⟨a,b,0,h,aaK _ rfl⟩
theorem Inv.fresh (I:Inv X pins U H s):H s.heap.objs.size=none:=I.cA.fresh (aaf _)
def Inv.GX (I:Inv X pins U H s) (h:H l=some (.lst xs)):xs.length<=sizeLine/\∃ (b:aZ) (n:Nat),Vals xs b/\xs.length=b.length/\s.heap.get? l=some { cls:=.type "list",data:=.seq b.toArray n }:=by
 obtain ⟨z,b,n,r,e⟩:=I.cA l _ h
 exact ⟨z,b,n,r,r.length,e⟩
def F9 {n:Nat} (h:n<=sizeLine):Builtin.List.listTooLong n=false:=by
 unfold Builtin.List.listTooLong
 exact aal (by lia)
end
section
variable {X:Cx}
inductive JF (x:V) (vs:aA) (H:Hp) (Q:VK):Prop|mk (l xs y:_) (_:x = .ref l) (_:vs=[y]) (_:H l=some (.lst xs)) (_:xs.length<sizeLine) (_:Q .cn (upd H l (.lst (xs++[y]))))
def cI:Z7 X "list.append" JF:=by
 intro p s U H x V v i Q I d c h
 obtain ⟨l,j,y,rfl,rfl,a,g,q⟩:=h
 cases d
 obtain ⟨u,rfl,R⟩:=c.one
 obtain ⟨z,b,n,r,f,e⟩:=I.GX a
 refine call_meets F.slot_list_append ⟨_,e,rfl⟩ F.entry_list_append (F.args_list_append_2 _ _) (PySem.list_append l b.toArray n u (by rw [aau];lia)) ⟨e,?_⟩
 refine ⟨.cn,_,I.Pl (its':=b++[u]) a e (by simp) (r.append (.cons R .nil)) ?_,rfl,q⟩
 rw [aad,aa8]
 lia
inductive LA (x:V) (vs:aA) (H:Hp) (Q:VK):Prop|mk (l b xs zs:_) (_:x = .ref l) (_:vs=[.ref b]) (_:H l=some (.lst xs)) (_:H b=some (.lst zs)) (_:xs.length+zs.length<=sizeLine) (_:Q .cn (upd H l (.lst (xs++zs))))
def ww:Z7 X "list.extend" LA:=by
 intro p s U H x V v t Q I i g h
 obtain ⟨l,b,w,A,rfl,rfl,c,d,m,q⟩:=h
 cases i
 obtain ⟨u,rfl,f⟩:=g.one
 cases f
 obtain ⟨z,B,n,r,k,e⟩:=I.GX c
 obtain ⟨y,o,N,R,j,E⟩:=I.GX d
 have a:B.toArray.size+o.toArray.size<=sizeLine:=by rw [aau,aau];lia
 have T:¬ (!B.toArray.isEmpty && Builtin.List.listTooLong (B.toArray.size+o.toArray.size))=true:=by
   rw [F9 a,Bool.and_false]
   exact aah
 refine call_meets F.slot_list_extend ⟨_,e,rfl⟩ F.entry_list_extend (F.args_list_extend_2 _ _)
   (AutoSeq1.list_extend_list_list_0 l B.toArray n b o.toArray N T (by rw [aau];lia) (by lia)) ⟨e,E,?_⟩
 refine ⟨.cn,_,I.Pl (its':=B++o) c e (by simp) (r.append R) ?_,rfl,q⟩
 rw [aad]
 lia
inductive XV (x:V) (y:V) (H:Hp) (Q:VK):Prop|mk (l b xs zs:_) (_:x = .ref l) (_:y = .ref b) (_:H l=some (.lst xs)) (_:H b=some (.lst zs)) (_:xs.length+zs.length<=sizeLine) (_:∀ p,H p=none->Q (.ref p) (upd H p (.lst (xs++zs))))
def G0:iD X (binaryOp .Add) XV:=by
 intro p s U H x y v u Q I f g h
 obtain ⟨l,b,m,w,rfl,rfl,d,c,k,q⟩:=h
 cases f
 cases g
 obtain ⟨z,B,n,r,j,e⟩:=I.GX d
 obtain ⟨t,o,N,R,i,E⟩:=I.GX c
 refine PySem.P.add_list e E ?_ (by rw [aau,aau];lia)
 have a:B.toArray++o.toArray=(B++o).toArray:=by simp
 rw [a]
 exact ⟨.ref _,_,I.Vm (t':=s.toks) (r.append R) (by rw [aad];lia),rfl,q _ I.fresh⟩
end
section
variable {κ:Type} [DecidableEq κ]
def gl (a:List (κ×V)) (k:κ):fR:=(a.find? λ K=>decide (K.1=k)).map (·.2)
def putK (a:List (κ×V)) (k:κ) (v:V):List (κ×V) :=
 if (a.any λ K=>decide (K.1=k))=true then a.map (λ K=>if K.1=k then (K.1,v) else K) else a++[(k,v)]
def fB {p:κ×V} {r:List (κ×V)} {k:κ} (e:p.1=k):gl (p::r) k=some p.2:=by simp [gl,aa6,e]
def fC {p:κ×V} {r:List (κ×V)} {k:κ} (e:¬ p.1=k):gl (p::r) k=gl r k:=by simp [gl,aa6,e]
theorem jO (k:κ):∀ a:List (κ×V),(a.any λ K=>decide (K.1=k))=(gl a k).isSome
 | []=>rfl
 | p::r=>by
   rw [abJ]
   by_cases e:p.1=k
   . simp only [fB e,aaE e,Bool.true_or,Option.isSome_some]
   . rw [fC e,aal e,Bool.false_or];exact jO k r
theorem yD (k j:κ) (y:V):∀ a:List (κ×V),gl (a.map λ K=>if K.1=k then (K.1,y) else K) j=(gl a j).map λ x=>if j=k then y else x
 | []=>rfl
 | p::r=>by
   have i:=yD k j y r
   rw [aaQ]
   by_cases h:p.1=k
   . rw [aan h]
     by_cases e:p.1=j
     . rw [fB (p:=(p.1,y)) e,fB e,acn,aan (e.symm.trans h)]
     . rw [fC (p:=(p.1,y)) e,fC e,i]
   . rw [aam h]
     by_cases e:p.1=j
     . rw [fB (p:=p) e,fB e,acn,aam (λ z=>h (e.trans z))]
     . rw [fC (p:=p) e,fC e,i]
theorem wB (k j:κ) (y:V):∀ a:List (κ×V),gl a k=none->gl (a++[(k,y)]) j=if j=k then some y else gl a j
 | [],_=>by
   by_cases e:k=j
   . rw [aan e.symm];exact fB (p:=(k,y)) e
   . rw [aam (λ z=>e z.symm)];exact fC (p:=(k,y)) e
 | p::r,h=>by
   rw [List.cons_append]
   have H:¬ p.1=k:=λ z=>by rw [fB z] at h;cases h
   rw [fC H] at h
   have i:=wB k j y r h
   by_cases e:p.1=j
   . rw [fB e,fB e,aam (λ z=>H (e.trans z))]
   . rw [fC e,fC e,i]
def AV (A:List (κ×V)) (k j:κ) (y:V):gl (putK A k y) j=if j=k then some y else gl A j:=by
 unfold putK
 by_cases a:(A.any λ K=>decide (K.1=k))=true
 .
  rw [aan a,yD]
  rw [jO] at a
  by_cases e:j=k
  . obtain ⟨x,h⟩:=abX.mp a
    rw [aan e,e,h,acn,aan rfl]
  . rw [aam e]
    cases gl A j with
    | none=>rfl
    | some x=>rw [acn,aam e]
 .
  rw [aam a]
  refine wB k j y A ?_
  rw [jO] at a
  cases q:gl A k with
  | none=>rfl
  | some x=>rw [q] at a;exact (a rfl).elim
def kZ (a:List (κ×V)) (k:κ) (v:V):(putK a k v).length<=a.length+1:=by
 unfold putK
 split
 . rw [OS];lia
 . rw [aad,aaD,ab3];lia
def HX {a:List (κ×V)} {k:κ} (v:V) (h:gl a k=none):putK a k v=a++[(k,v)]:=by
 unfold putK
 rw [jO,h]
 exact aam (by decide)
def jw.pW {o:fR} {u:kK} (r:jw o u):o.isSome=u.isSome:=by
 cases o with
 | none=>cases u with
   | none=>rfl
   | some _=>exact (show False from r).elim
 | some _=>cases u with
   | none=>exact (show False from r).elim
   | some _=>rfl
theorem jw.getD {o:fR} {u:kK} {d:V} {d':au} (r:jw o u) (R:RelV d d'):RelV (o.getD d) (u.getD d'):=by
 cases o with
 | none=>cases u with
   | none=>exact R
   | some _=>exact (show False from r).elim
 | some _=>cases u with
   | none=>exact (show False from r).elim
   | some _=>exact r
def KV.val {a:List (κ×V)} {vs:List (κ×au)} (r:KV a vs) (k:κ):jw (gl a k) (valueAt vs k):=by
 unfold KV at r
 induction r with
 | nil=>exact True.intro
 | @cons p q d Q h t i =>
   obtain ⟨H,c⟩:=h
   by_cases e:p.1=k
   . have E:q.1=k:=H.symm.trans e
     have b:valueAt (q::Q) k=some q.2:=by simp [valueAt,aa6,E]
     rw [fB e,b];exact c
   . have E:¬ q.1=k:=λ z=>e (H.trans z)
     have b:valueAt (q::Q) k=valueAt Q k:=by simp [valueAt,aa6,E]
     rw [fC e,b];exact i
theorem KV.any {a:List (κ×V)} {vs:List (κ×au)} (r:KV a vs) (k:κ):(a.any λ K=>decide (K.1=k))=vs.any λ K=>decide (K.1=k):=by
 unfold KV at r
 induction r with
 | nil=>rfl
 | cons h t i=>rw [abJ,abJ,i,h.1]
def KV.OH {a:List (κ×V)} {vs:List (κ×au)} (r:KV a vs) (k:κ) {y:V} {u:au} (R:RelV y u) :
   KV (a.map λ K=>if K.1=k then (K.1,y) else K) (vs.map λ K=>if K.1=k then (K.1,u) else K):=by
 unfold KV at r |-
 induction r with
 | nil=>exact .nil
 | @cons p q c Q h t i =>
   rw [aaQ,aaQ]
   refine .cons ?_ i
   obtain ⟨H,b⟩:=h
   by_cases e:p.1=k
   . rw [aan e,aan (H.symm.trans e)];exact ⟨H,R⟩
   . rw [aam e,aam (λ z=>e (H.trans z))];exact ⟨H,b⟩
def KV.put {a:List (κ×V)} {vs:List (κ×au)} (r:KV a vs) (k:κ) {y:V} {u:au} (R:RelV y u):KV (putK a k y) (stored vs k u):=by
 unfold putK stored
 rw [r.any k]
 by_cases e:(vs.any λ K=>decide (K.1=k))=true
 . rw [aan e,aan e];exact r.OH k R
 . rw [aam e,aam e];exact adj r ⟨rfl,R⟩
theorem KV.length {a:List (κ×V)} {vs:List (κ×au)} (r:KV a vs):a.length=vs.length:=acb r
end
def AB {P:bq} {w:bh} {k:Key} {u:au} (r:RelV (kV k) u):(cC P w).is k u=true:=by
 cases k with
 | inl i=>obtain ⟨t,e⟩:=(show ∃ t,u=Value.int i t from r);subst e;exact yU P w i t
 | inr x=>obtain ⟨t,e⟩:=(show ∃ t,u=Value.str x t from r);subst e;exact zD P w x t
theorem wb {P:bq} {w:bh}:∀ {K:List Key} {us:aZ},Vals (K.map kV) us->ItemsAre (cC P w) K us
 | [],_,r=>by rw [adV] at r;cases r;exact .nil
 | k::K,_,r=>by
   rw [aaQ] at r
   cases r with
   | cons h t=>exact .cons (AB h) (wb t)
abbrev KT (H:Hp):List (List Key×V)->List (List Key×ai×au)->Prop:=Paired λ p q=>p.1=q.1/\H q.2.1=some (.tup (p.1.map kV))/\RelV p.2 q.2.2
def KT.val {a:List (List Key×V)} {xs:List (List Key×ai×au)} (r:KT H a xs) (k:List Key):jw (gl a k) ((atKey xs k).map (·.2)):=by
 induction r with
 | nil=>exact True.intro
 | @cons p q f Q h t i =>
   obtain ⟨c,Z,d⟩:=h
   by_cases e:p.1=k
   . have E:q.1=k:=c.symm.trans e
     have b:atKey (q::Q) k=some q.2:=by simp [atKey,aa6,E]
     rw [fB e,b];exact d
   . have E:¬ q.1=k:=λ z=>e (c.trans z)
     have b:atKey (q::Q) k=atKey Q k:=by simp [atKey,aa6,E]
     rw [fC e,b];exact i
def KT.OH {A:List (List Key×V)} {xs:List (List Key×ai×au)} (r:KT H A xs) (k:List Key) {y:V} {u:au} (R:RelV y u) :
   KT H (A.map λ K=>if K.1=k then (K.1,y) else K) (xs.map (putAt k u)):=by
 induction r with
 | nil=>exact .nil
 | @cons p q d Q h t i =>
   rw [aaQ,aaQ]
   refine .cons ?_ i
   obtain ⟨a,b,c⟩:=h
   unfold putAt
   by_cases e:p.1=k
   . rw [aan e,aan (a.symm.trans e)];exact ⟨a,b,R⟩
   . rw [aam e,aam (λ z=>e (a.trans z))];exact ⟨a,b,c⟩
def KT.put {a:List (List Key×V)} {xs:List (List Key×ai×au)} (r:KT H a xs) (k:List Key) {b:ai} {y:V} {u:au} (h:H b=some (.tup (k.map kV))) (R:RelV y u) :
   KT H (putK a k y) (storedH xs k b u):=by
 have e:(a.any λ K=>decide (K.1=k))=(atKey xs k).isSome:=by
   rw [jO,(r.val k).pW,ac9]
 unfold putK storedH
 rw [e]
 by_cases q:(atKey xs k).isSome=true
 . rw [aan q,aan q];exact r.OH k R
 . rw [aam q,aam q];exact adj r ⟨rfl,h,R⟩
def KT.keeps {a:List (List Key×V)} {xs:List (List Key×ai×au)} (r:KT H a xs) (h:∀ b ys,H b=some (.tup ys)->H' b=some (.tup ys)):KT H' a xs :=
 Paired.HV r λ Z Z z=>⟨z.1,h _ _ z.2.1,z.2.2⟩
section
variable {P:bq} {w:bh} {H:Hp} {h:aU} {a:ai}
def LS {u:HO} (ok:kR P w H h) (e:Rd H a u):c8 P w H h a u:=e.ok ok
def zq {A:List (Key×V)} (ok:kR P w H h) (e:Rd H a (.dK A)):A.length<=sizeLine/\(a == sysModules)=false/\∃ vs,KV A vs/\h.DictOf (cC P w) a vs :=
 show c8 P w H h a (.dK A) from LS ok e
def Mp {A:List (Key×V)} (ok:kR P w H h) (e:H a=some (.dK A)):A.length<=sizeLine/\(a == sysModules)=false/\∃ vs,KV A vs/\h.DictOf (cC P w) a vs:=zq ok (.inl e)
def wT {k:List Key} (ok:kR P w H h) (e:H a=some (.tup (k.map kV))):(tupleKind (cC P w)).is h k a:=by
 obtain ⟨Z,b,r,o,c,d,n,f⟩:=(show c8 P w H h a (.tup (k.map kV)) from ok a _ e)
 exact ⟨o,b.toArray,n,c,d,f,by simpa using wb r⟩
def we {A:List (List Key×V)} (ok:kR P w H h) (e:Rd H a (.dT A)):A.length<=sizeLine/\(a == sysModules)=false /\
   ∃ xs,KT H A xs/\h.DictOfH (tupleKind (cC P w)) a xs:=by
 obtain ⟨z,y,xs,r,o,d,E,f,g,i,j,k⟩:=(show c8 P w H h a (.dT A) from LS ok e)
 refine ⟨z,y,xs,r,o,d,E,f,g,i,j,λ x b=>?_,k⟩
 have all:∀ {l:List (List Key×V)} {m:List (List Key×ai×au)},KT H l m->∀ x∈m,(tupleKind (cC P w)).is h x.1 x.2.1:=by
   intro l m q
   induction q with
   | nil=>intro x b;exact nomatch b
   | @cons p q n Q c t I =>
     intro x b
     rcases aaa.mp b with e|b
     . subst e
       exact wT ok (by rw [<- c.1];exact c.2.1)
     . exact I x b
 exact all r x b
def Q5 {A:List (List Key×V)} (ok:kR P w H h) (e:H a=some (.dT A)):A.length<=sizeLine/\(a == sysModules)=false /\
   ∃ xs,KT H A xs/\h.DictOfH (tupleKind (cC P w)) a xs:=we ok (.inl e)
end
def gO (H:Hp) (a:ai) (y:V) (r:fR):Prop :=
 (∃ A k,Rd H a (.dK A)/\y=kV k/\r=gl A k)\/∃ A k b,Rd H a (.dT A)/\y = .ref b/\H b=some (.tup (k.map kV))/\r=gl A k
def xX (H:Hp) (a:ai) (y v:V) (h:Hp):Prop :=
 (∃ A k,H a=some (.dK A)/\y=kV k/\A.length<sizeLine/\h=upd H a (.dK (putK A k v))) \/
 ∃ A k b,H a=some (.dT A)/\y = .ref b/\H b=some (.tup (k.map kV))/\A.length<sizeLine/\h=upd H a (.dT (putK A k v))
theorem gO.k {a:ai} {A:List (Key×V)} {k:Key} (e:H a=some (.dK A)):gO H a (kV k) (gl A k):=.inl ⟨A,k,.inl e,rfl,rfl⟩
def gO.t {a b:ai} {A:List (List Key×V)} {k:List Key} (e:H a=some (.dT A)) (E:H b=some (.tup (k.map kV))):gO H a (.ref b) (gl A k):=.inr ⟨A,k,b,.inl e,rfl,E,rfl⟩
theorem xX.k {a:ai} {A:List (Key×V)} {k:Key} (e:H a=some (.dK A)) (h:A.length<sizeLine):xX H a (kV k) v (upd H a (.dK (putK A k v))):=.inl ⟨A,k,e,rfl,h,rfl⟩
def xX.t {a b:ai} {A:List (List Key×V)} {k:List Key} (e:H a=some (.dT A)) (E:H b=some (.tup (k.map kV))) (h:A.length<sizeLine) :
   xX H a (.ref b) v (upd H a (.dT (putK A k v))):=.inr ⟨A,k,b,e,rfl,E,h,rfl⟩
section
variable {X:Cx} {pins:List (ai×Obj)} {U:St} {H:Hp} {s:Shared} {a:ai} {y v:V} {u r:au} {o:fR} {A:Around} {E:au->Shared->Prop}
def Inv.big (I:Inv X pins U H s):sysModules<s.heap.objs.size:=by
 have h:mainGlobals<s.heap.objs.size:=(I.mod.glob.keeps I.bk).lt
 exact acq (by decide) h
def EV {Q:au->Shared->Prop} (t:A.units+1<cLine) (I:Inv X pins U H s) (g:gO H a y (some v)) (R:RelV y u) (h:∀ W s',Inv X pins U H s'->RelV v W->Q W s') :
   wpAny (model X.prog X.w) A (getItem (.ref a) u) Q E s:=by
 rcases g with ⟨j,k,e,c,l⟩|⟨j,k,b,e,c,m,l⟩
 .
  subst c
  obtain ⟨z,n,V,r,d⟩:=zq I.cA e
  obtain ⟨W,f,D⟩:=jw.some_of (v:=v) (o:=valueAt V k) (by rw [l];exact r.val k)
  exact wpAny_getItem_of (AB R) d.mapOf f (h W _ (I.tok _) D)
 .
  subst c
  cases (show u=Value.ref b from R)
  obtain ⟨z,n,x,r,d⟩:=we I.cA e
  obtain ⟨W,f,D⟩:=jw.some_of (v:=v) (o:=(atKey x k).map (·.2)) (by rw [l];exact r.val k)
  obtain ⟨p,q,i⟩:=ab6.mp f
  refine wpAny_getItem_heap (adn t) (wT I.cA m) d q ?_
  rw [i]
  exact h W _ (I.tok _) D
def sM {h':aU} {t':Nat} {o:HO} (I:Inv X pins U H s) (m:PF (H a)) (d:Heap.SameBut a s.heap h') (c:∃ q,h'.get? a=some q) (n:c8 X.prog X.w (upd H a o) h' a o) :
   Inv X pins U (upd H a o) { s with heap:=h',toks:=t' } :=
 I.write (x:=a) (e:=a) m (.inl rfl) (λ b q h z=>(d.2 b h).trans z) c n
def HR {P:bq} {w:bh} {h':aU} {A:List (Key×V)} {vs:List (Key×au)} (z:A.length<=sizeLine) (h:(a == sysModules)=false) (r:KV A vs) (dd:h'.DictOf (cC P w) a vs) :
   c8 P w H' h' a (.dK A):=⟨z,h,vs,r,dd⟩
def FC {Q:Unit->Shared->Prop} (T:A.units+1<cLine) (I:Inv X pins U H s) (g:xX H a y v H') (G:RelV y u) (F:RelV v r) (h:∀ s',Inv X pins U H' s'->Q () s') :
   wpAny (model X.prog X.w) A (setItem (.ref a) u r) Q E s:=by
 rcases g with ⟨d,k,e,m,l,j⟩|⟨d,k,b,e,m,x,l,j⟩
 .
  subst m j
  obtain ⟨z,n,V,R,D⟩:=Mp I.cA e
  have t:V.length<=sizeLine:=by rw [<- R.length];exact z
  have o:(putK d k v).length<=sizeLine:=by have:=kZ d k v;lia
  refine wpAny_setItem_pairs (hsz:=t) (AB G) D λ C i p=>h _ ?_
  have S:∃ q,C.get? a=some q:=let ⟨q,_,_,f,_⟩:=i;⟨q,f⟩
  exact sM I (by rw [e];exact True.intro) p S (HR o n (R.put k F) i)
 .
  subst m j
  cases (show u=Value.ref b from G)
  obtain ⟨z,n,W,R,D⟩:=Q5 I.cA e
  have t:W.length<=sizeLine:=by rw [<- acb R];exact z
  have o:(putK d k v).length<=sizeLine:=by have:=kZ d k v;lia
  refine wpAny_setItem_heap (hsz:=t) (adn T) (wT I.cA x) D λ C i p=>h _ ?_
  obtain ⟨q,K,J,f,L,M,N,Z,O⟩:=i
  refine sM I (by rw [e];exact True.intro) p ⟨q,f⟩ ⟨o,n,_,(R.put k x F).keeps λ c Y B=>?_,q,K,J,f,L,M,N,O⟩
  rw [aB (Pw B e (λ z=>nomatch z))]
  exact B
end
def Nv (i:Expr):Prop:=∀ o I,subscripted i false o I=operate [o,I] (getItem o I)
def DW {prog:bq} {w:bh} {A:Around} {E:au->Shared->Prop} {s:Shared} {env:Env} {v S:Expr} {p:Pos} {T id:String} {Q:au->Shared->Prop} (g:typeLookup (.type T) "__getitem__" = pure (some (.builtin id))) (j:Nv S) (h:wpAny (model prog w) A (eval v env) (λ o a=>wpAny (model prog w) A (eval S env) (λ i s₂=>s₂.TypeIs o T/\wpAny (model prog w) A (getItem o i) Q E s₂) E a) E s) :
   wpAny (model prog w) A (eval (.Subscript v S p) env) Q E s:=by
 refine Subscript_ (aa0 h (λ o a c=>aa0 c (λ i s₂ H=>?_) λ Z Z x=>x) λ Z Z x=>x)
 obtain ⟨e,H⟩:=H
 unfold subscriptTail
 refine UV ?_
 rw [getitemInPython_of_ne e.not_modules]
 refine UV (ac1 e g ?_)
 have f:wpAny (model prog w) A (subscripted S false o i) (λ r b=>wpAny (model prog w) A (letTemporaryGo v o r >>= λ Z=>pure r) Q E b) E s₂:=by
   rw [j o i]
   exact wpAny_operating (aa0 H (λ r b d=>UV (wpAny_letTemporaryGo (aas d))) λ Z Z x=>x)
 first
   | exact aas (UV f)
   | exact UV (aas (UV f))
   | exact UV f
def AI {X:Cx} {p:List (ai×Obj)} {s:Shared} {a:ai} {y:V} {o:fR} (I:Inv X p U H s) (g:gO H a y o):s.TypeIs (.ref a) "dict":=by
 rcases g with ⟨A,k,e,Z,Z⟩|⟨A,k,b,e,Z,Z,Z⟩
 . obtain ⟨Z,Z,v,Z,d⟩:=zq I.cA e
   exact d.typeIs
 . obtain ⟨Z,Z,x,Z,d⟩:=we I.cA e
   exact d.typeIs
inductive VD (Q:VK) (x y:V) (H2:Hp):Prop|mk (a:ai) (v:V) (h1:x = .ref a) (h2:gO H2 a y (some v)) (q:Q v H2)
def Rl (t ty:TE):TE:=λ U H Q=>t U H λ x h=>ty U h (VD Q x)
def Rn (t ty T:TE):TS:=λ D U H=>T U H λ v b=>t U b λ x c=>ty U c λ y d=>∃ a h,x = .ref a/\xX d a y v h/\D.nx U h
section
variable {X:Cx} {o i e value:Expr} {pos pos':Pos} {td ty tv:TE}
def bS (m:X.A.units+1<cLine) (k:PE X o td) (j:PE X i ty) (l:Nv i):PE X (.Subscript o i pos) (Rl td ty):=by
 intro p s U H Q I h
 refine DW PySem.F.slot_dict_getitem.lookup l (cV (k p s U H _ I h) λ u S ⟨x,c,e,r,q⟩=>cV (j p S U c _ e q) λ t w ⟨y,d,b,R,a,v,ex,g,n⟩=>?_)
 subst ex
 obtain rfl:u=Value.ref a:=r
 exact ⟨AI b g,EV m b g R λ W z f D=>⟨v,d,f,D,n⟩⟩
def xi (q:X.A.units+1<cLine) (m:PE X o td) (l:PE X i ty) (t:PE X value tv) (n:swapsWith value (some (.Subscript o i pos')) pos.line X.env=pure false) :
   PS X (.Assign [.Subscript o i pos'] value pos) (Rn td ty tv):=by
 intro p s U H D I h
 refine wpAny_Assign_Subscript (cV (t p s U H _ I h) λ r S ⟨v,b,e,R,Q⟩=>cV (m p S U b _ e Q) λ u E ⟨x,c,f,B,w⟩=>cV (l p E U c _ f w) λ G J ⟨y,F,j,C,a,d,ex,g,z⟩=>?_) n
 subst ex
 obtain rfl:u=Value.ref a:=B
 exact FC q j g C R λ K k=>⟨U,d,k,z⟩
end
def Hg {P:bq} {w:bh} (h:aU) (a:sysModules<h.objs.size):c8 P w H (h.push { cls:=.type "dict",data:=.dict #[]}) h.objs.size (.dK []) :=
 ⟨aaY _,abo.mpr (abA (aaB a)),[],.nil,Heap.DictOf.new h⟩
def Hv {P:bq} {w:bh} (h:aU) (a:sysModules<h.objs.size):c8 P w H (h.push { cls:=.type "dict",data:=.dict #[]}) h.objs.size (.dT []) :=
 ⟨aaY _,abo.mpr (abA (aaB a)),[],.nil,_,#[],0,aaK _ rfl,⟨rfl,rfl,rfl⟩,rfl,rfl,acy⟩
def MJ:TE:=λ Z H Q=>∀ p,H p=none->Q (.ref p) (upd H p (.dT []))
section
variable {X:Cx} {pos:Pos}
def zy:PE X (.Dict [] [] pos) MJ:=λ p s U H Q I h =>
 wpAny_Dict_empty ⟨.ref s.heap.objs.size,_,I.laid (a:=s.heap.objs.size) (o:=.dT []) (t':=s.toks) (λ Z Z q=>aac _ q) (aaf _) (Hv s.heap I.big),rfl,h _ (I.cA.fresh (aaf _))⟩
end
def BQ:List (TE×TE)->St->Hp->(List (V×V)->Hp->Prop)->Prop
 | [],_,H,Q=>Q [] H
 | (t,T)::r,U,H,Q=>t U H λ x h=>T U h λ y a=>BQ r U a λ p b=>Q ((x,y)::p) b
abbrev VV:List (V×V)->List (au×au)->Prop:=Paired λ p q=>RelV p.1 q.1/\RelV p.2 q.2
def Q9 (X:Cx) (a:Pos) (k:List (Option Expr)) (v:List Expr) (K:List (TE×TE)):Prop :=
 ∀ (p:List (ai×Obj)) (s:Shared) (U:St) (H:Hp) (Q:List (V×V)->Hp->Prop),Inv X p U H s->BQ K U H Q ->
   wpAny (model X.prog X.w) X.A (evalPairs (pairTrees k v X.env a)) (λ c S=>∃ b H',Inv X p U H' S/\VV b c/\Q b H') X.xe s
def LF {X:Cx} {p:Pos}:Q9 X p [] [] []:=λ a s U H Q I h=>pairTrees_nil_walk ⟨[],H,I,.nil,h⟩
def kU {X:Cx} {a:Pos} {k v:Expr} {b:List (Option Expr)} {vs:List Expr} {t T:TE} {K:List (TE×TE)} (j:PE X k t) (m:PE X v T) (l:Q9 X a b vs K) :
   Q9 X a (some k::b) (v::vs) ((t,T)::K):=λ p s U H Q I h =>
 pairTrees_cons_walk (cV (j p s U H _ I h) λ u S ⟨x,c,i,R,q⟩=>cV (m p S U c _ i q) λ W A ⟨y,d,f,z,o⟩ =>
   cV (l p A U d _ f o) λ C B ⟨n,e,g,r,w⟩=>⟨(x,y)::n,e,g,.cons ⟨R,z⟩ r,w⟩)
def kx (A m:List (Key×V)):List (Key×V):=m.foldl (λ a k=>putK a k.1 k.2) A
def KV.merge:∀ {m:List (Key×V)} {R:List (Key×au)} {a:List (Key×V)} {vs:List (Key×au)},KV m R->KV a vs->KV (kx a m) (merged vs R):=by
 intro m R a vs r
 unfold KV at r
 induction r generalizing a vs with
 | nil=>intro q;exact q
 | @cons p q c Q h t i =>
   intro b
   have e:KV (putK a p.1 p.2) (stored vs q.1 q.2):=by
     have:=b.put p.1 h.2
     rw [<- h.1];exact this
   exact i e
theorem jy:∀ (m a:List (Key×V)),(kx a m).length<=a.length+m.length
 | [],a=>by show a.length<=a.length+0;lia
 | p::r,a=>by
   have h:=jy r (putK a p.1 p.2)
   have H:=kZ a p.1 p.2
   show (kx (putK a p.1 p.2) r).length<=_
   rw [aaD];lia
theorem tu {P:bq} {w:bh}:∀ {A:List (Key×V)} {W:List (au×au)},VV (A.map λ k=>(kV k.1,k.2)) W->∃ R,Carries (cC P w) W R/\KV A R
 | [],_,r=>by rw [adV] at r;cases r;exact ⟨[],True.intro,.nil⟩
 | p::A,_,r=>by
   rw [aaQ] at r
   cases r with
   | @cons a b as bs h t =>
     obtain ⟨R,c,q⟩:=tu (P:=P) (w:=w) t
     obtain ⟨d,B⟩:=b
     exact ⟨(p.1,B)::R,⟨AB h.1,rfl,c⟩,.cons ⟨rfl,h.2⟩ q⟩
def QD (K:List (TE×TE)):TE:=λ U H Q=>∀ p,H p=none->BQ K U (upd H p (.dK [])) λ b h=>h p=some (.dK [])/\∃ a:List (Key×V),b=a.map (λ k=>(kV k.1,k.2))/\a.length<=15/\Q (.ref p) (upd h p (.dK (kx [] a)))
def K0 {X:Cx} {b:Pos} {k:List (Option Expr)} {v:List Expr} {K:List (TE×TE)} (h:Q9 X b k v K) (j:k.all (·.isSome)=true) (x:k.length=v.length) (m:k≠[]) (d:k.length<=15):PE X (.Dict k v b) (QD K):=by
 intro p s U H Q I q
 have y:=I.cA.fresh (aaf s.heap.objs.size)
 have l:=I.laid (a:=s.heap.objs.size) (o:=.dK []) (h':=s.heap.push { cls:=.type "dict",data:=.dict #[]}) (t':=s.toks) (λ Z Z q=>aac _ q) (aaf _) (Hg s.heap I.big)
 refine wpAny_Dict_walk (knd:=cC X.prog X.w) j x m d (cV (h p _ U _ _ l (q _ y)) λ W S ⟨O,M,i,r,e,A,E,N,G⟩=>?_)
 subst E
 obtain ⟨L,c,J⟩:=tu (P:=X.prog) (w:=X.w) r
 obtain ⟨z,t,V,R,D⟩:=Mp i.cA e
 cases R
 refine ⟨L,c,D,λ g f C=>⟨.ref s.heap.objs.size,_,?_,rfl,G⟩⟩
 have F:(kx [] A).length<=sizeLine:=by
   have n:=jy A []
   rw [ab3] at n
   rw [adh];lia
 have u:∃ q,g.get? s.heap.objs.size=some q:=let ⟨q,_,_,B,_⟩:=f;⟨q,B⟩
 exact sM i (by rw [e];exact True.intro) C u (HR F t (J.merge .nil) f)
structure M1 (X:Cx) (o:Expr) (m:Str) (apos:Pos) (e:Expr) (fc:Pos):Prop where
 base:attributeBase o m X.env (eval o X.env)=eval o X.env
 few:((backTo fc (starEach [e] X.env)).all (λ x => !x.1) && (backToKw fc (keywordEach [] X.env)).all (λ x=>x.1.isSome)
   && decide (([e]:List Expr).length+([]:List Keyword).length+(if ([]:List Keyword).isEmpty then 0 else 1)<30))=true
 line:(apos.endLine == fc.line)=true
 trees:backTo fc (starEach [e] X.env)=[(false,eval e X.env)]
structure M2 (X:Cx) (o:Expr) (m:Str) (apos:Pos) (e f:Expr) (fc:Pos):Prop where
 base:attributeBase o m X.env (eval o X.env)=eval o X.env
 few:((backTo fc (starEach [e,f] X.env)).all (λ x => !x.1) && (backToKw fc (keywordEach [] X.env)).all (λ x=>x.1.isSome)
   && decide (([e,f]:List Expr).length+([]:List Keyword).length+(if ([]:List Keyword).isEmpty then 0 else 1)<30))=true
 line:(apos.endLine == fc.line)=true
 trees:backTo fc (starEach [e,f] X.env)=[(false,eval e X.env),(false,eval f X.env)]
def IsD (H:Hp) (a:ai):Prop:=(∃ A,Rd H a (.dK A))\/∃ A,Rd H a (.dT A)
def OM {X:Cx} {p:List (ai×Obj)} {s:Shared} {a:ai} (I:Inv X p U H s) (d:IsD H a) :
   s.TypeIs (.ref a) "dict"/\(∀ b,Value.ref a = .ref b->∃ o,s.heap.get? b=some o/\o.dict=none)/\(a == sysModules)=false:=by
 rcases d with ⟨A,e⟩|⟨A,e⟩
 .
  obtain ⟨Z,f,v,Z,D⟩:=zq I.cA e
  refine ⟨D.typeIs,λ b q=>?_,f⟩
  cases q
  obtain ⟨o,Z,Z,h,c,Z⟩:=D
  exact ⟨o,h,c.2.1⟩
 .
  obtain ⟨Z,f,x,Z,D⟩:=we I.cA e
  refine ⟨D.typeIs,λ b q=>?_,f⟩
  cases q
  obtain ⟨o,Z,Z,h,c,Z⟩:=D
  exact ⟨o,h,c.2.1⟩
section
variable {X:Cx} {pins:List (ai×Obj)} {U:St} {H:Hp} {s:Shared} {a:ai} {y d:V} {u r:au} {o:fR} {A:Around} {E:au->Shared->Prop}
def MV {Q:au->Shared->Prop} (p:A.units+1<cLine) (I:Inv X pins U H s) (g:gO H a y o) (j:RelV y u) (i:RelV d r) (h:∀ W s',Inv X pins U H s'->RelV (o.getD d) W->Q W s') :
   wpAny (model X.prog X.w) A (call (.builtin "dict.get") [.ref a,u,r]) Q E s:=by
 rcases g with ⟨m,k,e,c,l⟩|⟨m,k,b,e,c,n,l⟩
 .
  subst c
  obtain ⟨z,f,v,R,D⟩:=zq I.cA e
  refine call_meetsIn acM D.typeIs adO (adJ _ _ _) (meets_dict_get_default (cC X.prog X.w) a (AB j) f r) ⟨_,D.mapOf,h _ _ (I.tok _) ?_⟩
  rw [l]
  exact (R.val k).getD i
 .
  subst c
  cases (show u=Value.ref b from j)
  obtain ⟨z,f,x,R,D⟩:=we I.cA e
  refine call_meetsIn acM D.typeIs adO (adJ _ _ _) (meetsH_dict_get_default (tupleKind (cC X.prog X.w)) a b f r) ⟨adn p,k,x,wT I.cA n,D,h _ _ (I.tok _) ?_⟩
  rw [l]
  exact (R.val k).getD i
end
def N3 (t ty T:TE):TE:=λ U H Q=>t U H λ x h=>∃ a,x = .ref a/\IsD h a/\ty U h λ y c=>T U c λ z b=>∃ o,gO b a y o/\Q (o.getD z) b
section
variable {X:Cx} {o e f:Expr} {apos fc:Pos} {td ty tx:TE}
def zH (v:X.A.units+1<cLine) (t:PE X o td) (q:PE X e ty) (r:PE X f tx) (m:M2 X o "get" apos e f fc):PE X (.Call (.Attribute o "get" apos) [e,f] [] fc) (N3 td ty tx):=by
 intro p s U H Q I h
 refine wpAny_Call_method m.base m.few m.line PySem.F.plainAttrs_dict acM PySem.F.type_dict_get (cV (t p s U H _ I h) λ u S ⟨x,b,i,R,a,ex,d,w⟩=>?_)
 subst ex
 obtain rfl:u=Value.ref a:=R
 obtain ⟨T,K,Z⟩:=OM i d
 refine ⟨T,K,?_⟩
 rw [m.trees]
 refine acZ rfl (acu (adv (cV (q p S U b _ i w) λ M J ⟨y,c,k,E,B⟩ =>
   adv (cV (r p J U c _ k B) λ L N ⟨z,j,l,G,O,g,C⟩=>Calls.spliced_nil ?_))))
 exact MV v l g E G λ W V n D=>⟨_,j,n,D,C⟩
end
end L2
namespace Att
open PySem PySem.W PySem.Calls PyProof.Rows
def rW {P:Params} {h:aU}:∀ (ns:List Int) (vs:aZ),WellAll P h vs (ns.map WData.int)->IntsAre vs ns:=by
 intro ns
 induction ns with
 | nil =>
   intro vs w
   rw [adV] at w
   cases w
   exact .nil
 | cons n ns i =>
   intro vs w
   rw [aaQ] at w
   cases w with
   | cons a b =>
     cases a
     exact .cons _ _ (i _ b)
def EQ {l:OpenLaw} {n:Nat} (k:l.most=some n) {P:Params} {h:aU} {args:List WData} {v:aZ}
   (K:l.row.toRowW.claim.pre args=true) (S:WellAll P h v args) :
   ∃ a vs ns,v=[Value.ref a]/\args=[WData.list (ns.map WData.int)]/\h.get? a=some { cls:=.type "list",data:=.seq vs.toArray }/\IntsAre vs ns/\ns.length<=n:=by
 have Y:WShape.hasAll [] args [.list .int]=true:=(pre_splitW K).1
 have e:l.pre.holds [] { args:=args }=true:=(pre_splitW K).2
 obtain ⟨d,r,rfl,g,i⟩:=hasAllW_cons Y
 obtain rfl:=hasAllW_nil i
 obtain ⟨x,rfl,j⟩:=hasW_list g
 obtain ⟨ns,rfl⟩:=items_int j
 have H:ns.length<=n:=by
   unfold OpenLaw.pre at e
   have b:(WTm.not (.lt (.lit (.int (n:Int))) (.len (.arg 0)))).holds [] { args:=[.list (ns.map .int)]}=true:=by
     have b:=(holds_andW e).1
     rw [k] at b
     exact b
   have c:=condW_of b (w_not (w_lt w_lit (w_len_list (w_arg rfl))))
   rw [OS] at c
   refine Nat.le_of_not_lt λ q=>?_
   have Q:(n:Int)<((ns.length:Nat):Int):=by lia
   first
     | (rw [aaE Q] at c;exact absurd c (by decide))
     | (simp at c;lia)
 cases S with
 | cons w W =>
   cases W
   cases w with
   | list m f=>exact ⟨_,_,ns,rfl,rfl,m,rW ns _ f,H⟩
def Fm (l:OpenLaw) (args:List WData):l.row.toRowW.claim.post args (.bool true) args=true :=
 postW_of (r:=l.row.toRowW) (X:=(true == true))
   (show WShape.has [] (.bool true) .bool=true by first|rfl|decide|simp [WShape.has,WShape.arms,WShape.armsAll])
   (show (WTm.eq .res (.lit (.bool true))).value [] { args:=args,res:=some (.bool true),after:=args }=some (.bool (true == true)) from w_eq_bool (w_res rfl) w_lit) rfl
section
def Yr (h:aU):aU:={ h with objs:=#[]}
def ledger (h:aU) (L d:ai):List (ai×Obj):=(List.range h.objs.size).filterMap λ a=>if a=L\/a=d then none else (h.get? a).map λ o=>(a,o)
end
end Att
namespace L2
open PySem PySem.Spec PyProof.Rows
variable {H H':Hp} {qual:Str}
theorem wr:∀ {vs:aZ} {ns:List Int},IntsAre vs ns->Vals (ns.map V.int) vs
 | _,_,.nil => .nil
 | _,_,.cons n t h => .cons ⟨t,rfl⟩ (wr h)
def Rg (H:Hp):Prop:=∀ b,H b=none\/∃ o x,H b=some (.yX o (.lst x))
def IG {P:bq} {w:bh} {K:aC} {M y:cy} {A:Go} {k:Nat} {l a:ai} {N:FuncData} {x:Str} {W:Sp} {s₁:Shared} {vs:aZ} {ns:List Int} (I:K.In s₁.heap) (G:s₁.heap.Ns mainGlobals M) (c:s₁.heap.Ns builtinsNs y) (U2:∀ x:Str,x ≠ "__name__"->y x=bootBuiltins x) (ZA:s₁.heap.NoLimit) (hg:s₁.gens=#[]) (i:s₁.heap.get? a=some { cls:=.type "list",data:=.seq vs.toArray }) (R:IntsAre vs ns) (S:ns.length<=sizeLine) (hr:cR k callerA) (F:∀ base:aU,K.In base->base.Ns mainGlobals M->ic P w K M base A k l N [x] W) (SK:∀ (s:Shared) (u:au),BindsTo s N ⟨[u],[]⟩ [(x,u)]) (Y:∀ H:Hp,Rg H->bi K H a (ns.map V.int)->W [.ref a] H (λ v _=>v = .bl true) λ _ _ _=>False) (p:∀ H e s',A [] H s₁ (λ _ _ _=>False) e s'->False) :
   codeAny (model P w) callerA (.call (.ref l) ⟨[.ref a],[]⟩) (λ r s'=>r = .ok (.ret (.bool true))/\OldK s₁.heap s'.heap/\s'.os=s₁.os/\AllBare s'.gens) s₁:=by
 have T:=wr R
 have ZG:=R.length
 have C:∀ H:Hp,Rg H->bi K H a (ns.map V.int)->kR P w H s₁.heap->(∀ b,H b≠none->b=a)->(H a≠none->K.lookup a=none) ->
     codeAny (model P w) callerA (.call (.ref l) ⟨[.ref a],[]⟩) (λ r s'=>r = .ok (.ret (.bool true))/\OldK s₁.heap s'.heap/\s'.os=s₁.os/\AllBare s'.gens) s₁:=by
   intro H Q hS J O hK
   have D:∀ {b:ai} {o:Obj},s₁.heap.get? b=some o->H b=none->(xH s₁.heap H).get? b=some o:=λ e n=>Gg e n
   have Qu:∀ {b:ai} {o:Obj} {E:Array DictEntry} {ep:Nat},s₁.heap.get? b=some o->o.data = .dict E ep->H b=none:=λ {b o E ep} e d=>by
     cases q:H b with
     | none=>rfl
     | some u =>
       have j:b=a:=O b (by rw [q];simp)
       subst j
       rw [i] at e;cases e
       have d':Data.seq vs.toArray _=Data.dict E ep:=d
       cases d'
   have U:∀ {b:ai} {m:cy},s₁.heap.Ns b m->(xH s₁.heap H).Ns b m:=λ {b m} ⟨o,E,ep,e,d,r⟩=>⟨o,E,ep,D e (Qu e d),d,r⟩
   have f:K.In (xH s₁.heap H):=λ b o e=>D (I b o e) (by
     cases q:H b with
     | none=>rfl
     | some u =>
       have j:b=a:=O b (by rw [q];simp)
       subst j
       rw [hK (by rw [q];simp)] at e;cases e)
   have hM:Mod K M (xH s₁.heap H):=⟨f,U G,⟨y,U c,U2⟩,let ⟨mc,h1,h2⟩:=ZA;⟨mc,U h1,h2⟩⟩
   have e0:CJ P w K M (xH s₁.heap H) callerA [] s₁ H:=⟨rfl,hM,λ b o e=>Lg e,Nat.le_of_eq (Fp _ _),trivial,λ b c=>absurd (show b∈([]:bZ) from c) (by simp),J,.of_eq hg⟩
   refine acH ((F _ f (U G)).run callerA [] s₁ H ⟨[.ref a],[]⟩ [.ref a] [.ref a] _ _ hr e0 (SK s₁ (.ref a)) (.cons rfl .nil) (Y H Q hS)) λ r s' h=>?_
   cases r with
   | error e=>exact (p H e s' h).elim
   | ok fl =>
     cases fl with
     | next=>exact False.elim h
     | brk=>exact False.elim h
     | cont=>exact False.elim h
     | ret u =>
       obtain ⟨v,H',os,B,X,W3,r',q⟩:=h
       have q':v = .bl true:=q
       subst q'
       obtain rfl:u=Value.bool true:=r'
       refine ⟨rfl,OldK.of_keep λ b o e=>?_,os,B⟩
       cases q:H b with
       | none=>exact X.keep b o e q (by intro z;exact absurd (show b∈([]:bZ) from z) (by simp)) (by simp)
       | some u =>
         rcases Q b with z|⟨ob,xs,z⟩
         . rw [q] at z;cases z
         . have z2:=X.pM b ob _ z
           obtain ⟨L,_⟩:=J b _ z
           obtain ⟨e2,_⟩:=W3 b _ z2
           rw [e] at L;cases L
           exact e2
 cases t:K.lookup a with
 | some o =>
   have e:=I a o t
   rw [i] at e
   cases e
   refine C (λ _=>none) (λ _ => .inl rfl) (.inr ⟨_,vs.toArray,_,t,rfl,rfl,rfl,by rw [aau,ZG];exact S,by simpa using T⟩) (λ b u z=>by have g:(none:Option HO)=some u:=z;cases g) (λ b z=>absurd rfl z) λ z=>absurd rfl z
 | none =>
   refine C (λ b=>if b=a then some (.yX { cls:=.type "list",data:=.seq vs.toArray } (.lst (ns.map V.int))) else none) (λ b=>?_) (.inl (.inr ⟨{ cls:=.type "list",data:=.seq vs.toArray },aan rfl⟩)) (λ b u z=>?_) (λ b z=>?_) λ _=>t
   . by_cases c:b=a
     . exact .inr ⟨_,_,aan c⟩
     . exact .inl (aam c)
   .
    by_cases c:b=a
    . have g:=(aan c).symm.trans z
      cases g
      subst c
      exact ⟨i,by rw [OS];exact S,vs,_,T,i⟩
    . have g:=(aam c).symm.trans z
      cases g
   . by_cases c:b=a
     . exact c
     . exact absurd (aam c) z
def inClass (s:Stmt) (j:Nat):Stmt:=match s with
 | .ClassDef _ _ _ b _ _ _ _ _ _ _=>b.getD j (.Pass ⟨0,0,0,0⟩)
 | _ => .Pass ⟨0,0,0,0⟩
def cD (s:Stmt):Arguments:=match s with
 | .FunctionDef _ a _ _ _ _ _ _ _ _=>a
 | _=>{ posonlyargs:=[],args:=[],vararg:=none,kwonlyargs:=[],kw_defaults:=[],kwarg:=none,defaults:=[]}
def bF (s:Stmt):List Stmt:=match s with
 | .FunctionDef _ _ b _ _ _ _ _ _ _=>b
 | _=>[]
def ao (s:Stmt):Scope:=match s with
 | .FunctionDef _ _ _ _ _ _ S _ _ _=>S
 | _=>{ kind:=.function,names:=[],isGenerator:=false,isCoroutine:=false }
abbrev uX:Go:=λ _ _ _ _ _ _=>False
abbrev E0:XK:=λ _ _ _=>False
def zh {X:Cx}:Passes uX X E0:=λ Z Z Z Z Z Z Z h=>h.elim
structure KH (K:aC) (x qual:Str) (st:Stmt) (f:ai) (fd:FuncData):Prop where
 ex:∃ (oc:au) (od:Option ai) (kV doc pm:au) (an:Option ai) (bA ct:au) (yz:Array (kK)),
   fd=W.fnOf x qual (cD st) (bF st) (ao st) .none kV doc pm an bA ct/\K.lookup f=some ⟨oc,od,.func fd,yz⟩/\W.codeIn K bA qual=true
 kp:W.keepIn K (.ref f)=true
section
variable {P:bq} {w:bh} {K:aC} {mg:cy} {base:aU}
def KH.ok {x:Str} {st:Stmt} {f:ai} {a:FuncData} {N p:cp} {k:Nat} {sp:Sp} (F:KH K x qual st f a) (S:az N p (ao st)) (len:∀ vs H Q E,sp vs H Q E->vs.length=p.length) (e:∀ (b:au) (A:Around) (outer:List Env) (s:Shared) (H:Hp) (vs:aA) (Q:VK) (E:XK),cR k (A.deeper (envOfC qual (ao st) s.heap.objs.size f b))->sp vs H Q E ->
     ∃ t,rK (fQ uX P w K mg base N qual (ao st) f b A outer s H E).Fe (bF st) t/\t { nx:=λ Z H'=>Q .cn H',rt:=Q } (start N vs) H):ic P w K mg base uX (k+1) f a p sp:=by
 obtain ⟨o,O,kV,d,j,i,b,ct,y,rfl,l,g⟩:=F.ex
 refine IY l g S len λ A outer s H vs Q E c J=>?_
 obtain ⟨t,h,q⟩:=e b A outer s H vs Q E c J
 exact ⟨t,h.Fe,q⟩
def KH.binds {x:Str} {st:Stmt} {f:ai} {e:FuncData} {c:cp} (F:KH K x qual st f e) (h:∀ (kV d p:au) (a:Option ai) (b ct:au) (us:aZ),us.length=c.length->bindArgs (W.fnOf x qual (cD st) (bF st) (ao st) .none kV d p a b ct) ⟨us,[]⟩=pure (c.zip us)):Binds K e c []:=by
 obtain ⟨o,O,kV,d,p,a,b,ct,y,rfl,l,s⟩:=F.ex
 exact .all (h kV d p a b ct)
def NN {x:Str} {st:Stmt} {f:ai} {o:au} {O a:Option ai} {y:Array (kK)} {kV d p b ct:au} (l:K.lookup f=some ⟨o,O,.func (W.fnOf x qual (cD st) (bF st) (ao st) .none kV d p a b ct),y⟩) (c:W.codeIn K b qual=true) (k:W.keepIn K (.ref f)=true):KH K x qual st f (W.fnOf x qual (cD st) (bF st) (ao st) .none kV d p a b ct):=⟨⟨o,O,kV,d,p,a,b,ct,y,rfl,l,c⟩,k⟩
end
def cT {A:Around} {k:Nat} (h:cR k A):A.units+1<cLine:=aaO (Nat.add_le_add_left (by decide:1<=64) _) h.units
def aO {n:Nat} (h:n<=1000):n<sizeLine:=aaO h (by decide)
section
variable {X:Cx}
def pv (i:Nat) {x:Str} {p:Pos} (h:X.N[i]?=some x:=by rfl) (a:Um X.env.scope x:=by first|exact Or.inl rfl|exact Or.inr (Or.inl rfl)|exact Or.inr (Or.inr rfl)) (H:Ba x:=by decide) (s:(x == ("__classdict__" : Str))=false:=by decide):PE X (.Name x p) (K1 i):=Oi h a H s
end
def gm {A B:Prop} (h:B):if false=true then A else B:=by
 rw [aam aah]
 exact h
def jh {A B:Prop} (h:A):if true=true then A else B:=by
 rw [aan rfl]
 exact h
def fz {c A B:Prop} [Decidable c] (H:c) (h:B):if (!decide c)=true then A else B:=by
 rw [aaE H]
 exact gm h
def aD (H h:Hp):Prop:=∀ b o,H b=some o->h b=some o
def aD.refl (H:Hp):aD H H:=λ Z Z h=>h
def aD.trans {d H2:Hp} (a:aD H d) (b:aD d H2):aD H H2:=λ c o h=>b c o (a c o h)
def aD.free (e:aD H H') {l:ai} (h:H' l=Option.none):H l=Option.none:=by
 cases q:H l with
 | none=>rfl
 | some o =>
   rw [e l o q] at h
   cases h
def aD.seq {K:aC} {a:ai} {xs:aA} (e:aD H H') (h:bi K H a xs):bi K H' a xs:=by
 rcases h with (h|⟨o,h⟩)|h
 . exact .inl (.inl (e _ _ h))
 . exact .inl (.inr ⟨o,e _ _ h⟩)
 . exact .inr h
section
variable {κ:Type} [DecidableEq κ]
def Iq {a:List (κ×V)} {k:κ} (h:gl a k=none):¬ k∈a.map (·.1):=by
 intro m
 obtain ⟨p,H,e⟩:=aat.mp m
 have q:(a.any λ K=>decide (K.1=k))=true:=adl.mpr ⟨p,H,aaE e⟩
 rw [jO,h] at q
 exact absurd q (by simp)
theorem DS:∀ {l:List κ} {k:κ},l.Nodup->¬ k∈l->(l++[k]).Nodup
 | [],k,_,_=>by simp
 | a::r,k,h,H=>by
   obtain ⟨b,c⟩:=abB.mp h
   show (a::(r++[k])).Nodup
   refine abB.mpr ⟨λ m=>?_,DS c λ m=>H (aaa.mpr (Or.inr m))⟩
   rcases aaR.mp m with q|q
   . exact b q
   . exact H (aaa.mpr (Or.inl (aai.mp q).symm))
def Ke {a:List (κ×V)} {k:κ} (v:V) (H:(a.map (·.1)).Nodup) (h:gl a k=none):((putK a k v).map (·.1)).Nodup:=by
 rw [HX v h,aab]
 exact DS H (Iq h)
end
end L2
namespace Mth
def LV {g l:Int} (h:0<=g) (H:0<l):Int.gcd l (g % l)=Int.gcd g l:=by
 obtain ⟨a,rfl⟩:=adL h
 obtain ⟨b,rfl⟩:=adL (aaP H)
 show Nat.gcd b (((a:Int) % (b:Int))).natAbs=Nat.gcd a b
 have:(((a:Int) % (b:Int))).natAbs=a % b:=by rw [<- Int.natCast_emod];rfl
 rw [this,Nat.gcd_comm a b,Nat.gcd_comm b,<- Nat.gcd_rec]
def Rq {g:Int} (h:0<=g):((Int.gcd g 0:Nat):Int)=g:=by
 rw [Int.gcd_zero_right];lia
def wN {a b:Int} (H:0<a) (h:0<a * b):0<b:=by
 rcases (by lia:0<b\/b<=0) with q|q
 . exact q
 . have:=abL (aaP H) (by lia:0 <= -b)
   rw [aei] at this
   lia
structure Fr (t b q r:Int):Prop where
 pos:0<r
 jG:q * b=t * r
 Uu:Int.gcd q r=1
 QS:q.natAbs<=t.natAbs
 Qx:r.natAbs<=b.natAbs
def uB {c q:Int} (h:0<c):q.natAbs<=(c * q).natAbs:=by
 rw [acU]
 exact Nat.le_mul_of_pos_left _ (by lia)
def GV {t b c:Int} (e:b≠0) (f:c=((Int.gcd t b:Nat):Int)):0<c/\c<=b.natAbs/\(0<b->Fr t b (t.fdiv c) (b.fdiv c))/\(b<0->Fr t b (t.fdiv (-c)) (b.fdiv (-c))):=by
 have o:0<Int.gcd t b:=Int.gcd_pos_iff.mpr (.inr e)
 have C:0<c:=by lia
 have D:c ∣ t:=f ▸ Int.gcd_dvd_left t b
 have i:c ∣ b:=f ▸ Int.gcd_dvd_right t b
 obtain ⟨q,H⟩:=D
 obtain ⟨r,h⟩:=i
 have z:r≠0:=by rintro rfl;rw [Int.mul_zero] at h;exact e h
 have d:c<=b.natAbs:=by
   rw [h,acU]
   have:c.natAbs * 1<=c.natAbs * r.natAbs:=Nat.mul_le_mul_left _ (by lia)
   lia
 have E:t.fdiv c=q:=by rw [H,abZ _ (by lia)]
 have j:b.fdiv c=r:=by rw [h,abZ _ (by lia)]
 have k:t.fdiv (-c) = -q:=by rw [show t = -c * -q by rw [H,Int.neg_mul_neg],abZ _ (by lia)]
 have l:b.fdiv (-c) = -r:=by rw [show b = -c * -r by rw [h,Int.neg_mul_neg],abZ _ (by lia)]
 have g:Int.gcd q r=1:=by
   have a:Int.gcd (c * q) (c * r)=c.natAbs * Int.gcd q r:=Int.gcd_mul_left c q r
   rw [<- H,<- h] at a
   have n:c.natAbs=Int.gcd t b:=by lia
   rw [n] at a
   have m:Int.gcd t b * Int.gcd q r=Int.gcd t b * 1:=by rw [<- a,aee]
   exact Nat.eq_of_mul_eq_mul_left o m
 have L:q.natAbs<=t.natAbs:=H ▸ uB C
 have p:r.natAbs<=b.natAbs:=h ▸ uB C
 refine ⟨C,d,λ B=>?_,λ B=>?_⟩
 . rw [E,j]
   exact ⟨wN C (h ▸ B),by rw [H,h,abc,Int.mul_left_comm],g,L,p⟩
 . rw [k,l]
   refine ⟨wN C (by rw [aei,<- h];lia),?_,by rw [Int.gcd_neg,Int.neg_gcd];exact g,by lia,by lia⟩
   rw [H,h,Int.neg_mul,aei,abc,Int.mul_left_comm]
def Bd (n:Nat) (x:Int):Prop:=x.natAbs<2 ^ n
def Bd.mono {m n:Nat} {x:Int} (h:Bd m x) (l:m<=n):Bd n x:=aav h (aba (by decide) l)
def Bd.mul {m n:Nat} {x y:Int} (h:Bd m x) (k:Bd n y):Bd (m+n) (x * y):=by
 unfold Bd at *
 rw [acU,Nat.pow_add]
 exact Nat.mul_lt_mul'' h k
def Bd.add {m:Nat} {x y:Int} (h:Bd m x) (k:Bd m y):Bd (m+1) (x+y):=by
 unfold Bd at *
 rw [acO]
 have:=Int.natAbs_add_le x y
 lia
def Bd.neg {m:Nat} {x:Int} (h:Bd m x):Bd m (-x):=by unfold Bd at *;rw [Int.natAbs_neg];exact h
def Bd.sub {m:Nat} {x y:Int} (h:Bd m x) (k:Bd m y):Bd (m+1) (x - y):=by rw [Int.sub_eq_add_neg];exact h.add k.neg
def Bd.le {m:Nat} {x y:Int} (h:Bd m y) (k:x.natAbs<=y.natAbs):Bd m x:=aaO k h
def Bd.log {n:Nat} {x:Int} (h:Bd n x) (a:0<n):x.natAbs.log2<n:=by
 by_cases H:x.natAbs=0
 . rw [H];simpa using a
 . exact (Nat.log2_lt H).mpr h
def Fr.US {t b q r:Int} {n:Nat} (h:Fr t b q r) (k:Bd n t):Bd n q:=k.le h.QS
def Fr.UJ {t b q r:Int} {n:Nat} (h:Fr t b q r) (k:Bd n b):Bd n r:=k.le h.Qx
end Mth
namespace Bit
def rooms (n:Nat):bg:=(List.range 61).filter n.testBit
def fK {n k:Nat}:k∈rooms n↔k<61/\n.testBit k=true:=by
 unfold rooms;rw [aaW,aaH]
def jU (n:Nat):(rooms n).Pairwise (· < ·):=(adQ).filter _
def iL {n m k:Nat} (h:n<2 ^ m) (H:m<=k):n.testBit k=false:=Nat.testBit_lt_two_pow (aav h (aba (by decide) H))
def Cs {n m:Nat} (h:n<2 ^ m) (f:m<=61):(List.range m).filter n.testBit=rooms n:=by
 unfold rooms
 obtain ⟨d,c⟩:∃ d,61=m+d:=⟨61 - m,by lia⟩
 have e:List.range 61=List.range (m+d):=by rw [c]
 rw [e,List.range_add,abh]
 have:(List.map (m + ·) (List.range d)).filter n.testBit=[]:=by
   rw [adS]
   intro a H
   obtain ⟨b,Z,rfl⟩:=aat.mp H
   rw [iL h (by lia)]
   exact aah
 rw [this,abb]
def sumOf (l:bg):Nat:=l.foldl (λ n r=>n ||| 2 ^ r) 0
theorem An:∀ (l:bg) (a k:Nat),(l.foldl (λ n r=>n ||| 2 ^ r) a).testBit k=(a.testBit k || decide (k∈l))
 | [],a,k=>by simp
 | r::l,a,k=>by
   rw [List.foldl_cons,An l,adz,acW,Bool.or_assoc]
   congr 1
   by_cases h:r=k
   . subst h;simp
   . have:decide (k∈r::l)=decide (k∈l):=by simp [abA h]
     rw [this];simp [h]
def mm (l:bg) (k:Nat):(sumOf l).testBit k=decide (k∈l):=by
 unfold sumOf;rw [An];simp
def HH {l:bg} {m:Nat} (h:∀ r∈l,r<m):sumOf l<2 ^ m:=by
 refine acx _ λ i H=>?_
 rw [mm]
 exact aal λ q=>absurd (h i q) (by lia)
def A0 {l:bg} (h:∀ r∈l,r<61) (g:l.Pairwise (· < ·)):rooms (sumOf l)=l:=by
 have E:∀ k,k∈rooms (sumOf l)↔k∈l:=λ k=>by
   rw [fK,mm]
   constructor
   . rintro ⟨Z,q⟩;exact ac8 q
   . intro q;exact ⟨h k q,aaE q⟩
 have u:∀ (a b:bg),a.Pairwise (· < ·)->b.Pairwise (· < ·)->(∀ k,k∈a↔k∈b)->a=b:=by
   intro a
   induction a with
   | nil =>
     intro b Z Z H
     cases b with
     | nil=>rfl
     | cons y b=>exact absurd ((H y).mpr aaF) (by simp)
   | cons x a i =>
     intro b e f H
     cases b with
     | nil=>exact absurd ((H x).mp aaF) (by simp)
     | cons y b =>
       obtain ⟨c,d⟩:=aen.mp e
       obtain ⟨J,N⟩:=aen.mp f
       have W:x=y:=by
         rcases aaa.mp ((H x).mp aaF) with q|q
         . exact q
         . rcases aaa.mp ((H y).mpr aaF) with Q|Q
           . exact Q.symm
           . have:=J x q;have:=c y Q;lia
       subst W
       rw [i b d N λ k=>?_]
       constructor
       . intro q
         rcases aaa.mp ((H k).mp (aak _ q)) with z|z
         . subst z;exact absurd (c k q) (aa9 _)
         . exact z
       . intro q
         rcases aaa.mp ((H k).mpr (aak _ q)) with z|z
         . subst z;exact absurd (J k q) (aa9 _)
         . exact z
 exact u _ _ (jU _) g E
def parts (l:bg):bg:=l.foldl (λ p r=>p++p.map (· ||| 2 ^ r)) [0]
def CF {p r:Nat} (h:p<2 ^ r):p ||| 2 ^ r=p+2 ^ r:=by
 have:=adq h 1
 rw [aee] at this
 rw [Nat.or_comm,<- this,acr]
structure Ok (ps l:bg):Prop where
 len:ps.length=2 ^ l.length
 first:ps[0]?=some 0
 last:ps[ps.length - 1]?=some (sumOf l)
 rise:ps.Pairwise (· < ·)
 sub:∀ p∈ps,∀ k,p.testBit k=true->k∈l
def Ia:Ok [0] []:=⟨rfl,rfl,rfl,by simp,λ p H k h=>by
 have:p=0:=by simpa using H
 subst this;simp at h⟩
def JN {d l:bg} {r:Nat} (h:Ok d l) (o:∀ x∈l,x<r):Ok (d++d.map (· ||| 2 ^ r)) (l++[r]):=by
 have s:∀ p∈d,p<2 ^ r:=λ p m=>acx _ λ i t=>by
   cases e:p.testBit i with
   | false=>rfl
   | true=>have:=o i (h.sub p m i e);lia
 have n:0<d.length:=by rw [h.len];exact Nat.two_pow_pos _
 refine ⟨?_,?_,?_,?_,?_⟩
 . rw [aad,OS,h.len,aad,aa8,acO];lia
 . rw [aaA n];exact h.first
 .
  rw [aad,OS,aaG (by lia),T1]
  have e:d.length+d.length - 1 - d.length=d.length - 1:=by lia
  rw [e,h.last]
  show some (sumOf l ||| 2 ^ r)=some (sumOf (l++[r]))
  unfold sumOf
  rw [abe];rfl
 .
  rw [ad4]
  refine ⟨h.rise,?_,λ a H b f=>?_⟩
  . rw [ada]
    refine List.Pairwise.imp_of_mem ?_ h.rise
    intro a b H f B
    rw [CF (s a H),CF (s b f)];lia
  . obtain ⟨c,g,rfl⟩:=aat.mp f
    have:=s a H
    rw [CF (s c g)];lia
 .
  intro p m k j
  rcases aaR.mp m with q|q
  . exact acj _ (h.sub p q k j)
  .
   obtain ⟨c,g,rfl⟩:=aat.mp q
   rw [adz,adw] at j
   rcases j with z|z
   . exact acj _ (h.sub c g k z)
   . rw [acW] at z
     have:=ac8 z
     subst this
     exact aa3 _ (by simp)
theorem xD:∀ (b a p:bg),Ok p a->(a++b).Pairwise (· < ·)->Ok (b.foldl (λ p r=>p++p.map (· ||| 2 ^ r)) p) (a++b)
 | [],a,p,h,_=>by simpa using h
 | r::b,a,p,h,H=>by
   rw [List.foldl_cons]
   have e:a++r::b=(a++[r])++b:=by simp
   have c:∀ x∈a,x<r:=λ x d=>(ad4.mp H).2.2 x d r aaF
   rw [e] at H |-
   exact xD b (a++[r]) _ (JN h c) H
def Gf {n:Nat}:Ok (parts (rooms n)) (rooms n):=by
 have:=xD (rooms n) [] [0] Ia (by simpa using jU n)
 rw [acR] at this
 exact this
def LC {p n:Nat} (h:∀ k,p.testBit k=true->n.testBit k=true):p &&& n=p:=by
 refine abk λ k=>?_
 rw [aa5]
 cases e:p.testBit k with
 | false=>rfl
 | true=>rw [h k e];rfl
def HU {n p:Nat} (H:p∈parts (rooms n)):p &&& n=p:=LC λ k h=>(fK.mp (Gf.sub p H k h)).2
def G6 {n r:Nat} (f:r<61) (h:n.testBit r=false):(rooms (n ||| 2 ^ r)).length=(rooms n).length+1:=by
 have c:∀ (l:bg),l.Nodup->(l.filter (n ||| 2 ^ r).testBit).length=(l.filter n.testBit).length+(if r∈l then 1 else 0):=by
   intro l
   induction l with
   | nil=>intro Z;rfl
   | cons x l i =>
     intro b
     obtain ⟨H,a⟩:=abB.mp b
     have e:=i a
     have g:(n ||| 2 ^ r).testBit x=(n.testBit x || decide (r=x)):=by rw [adz,acW]
     rw [acJ,acJ,g]
     by_cases q:r=x
     . subst q
       rw [h]
       simp only [decide_true,ad0,ab2,aaD,e,aam H,aaa,true_or]
       simp
     . have Q:(r∈x::l)↔r∈l:=by simp [q]
       have d:decide (r=x)=false:=aal q
       rw [d,Bool.or_false]
       cases n.testBit x with
       | true=>simp only [ab2,aaD,e];by_cases z:r∈l<;>simp [z,q]<;>lia
       | false=>simp only [ab5,acm,e];by_cases z:r∈l<;>simp [z,q]
 have:=c (List.range 61) List.nodup_range
 rw [aan (aaH.mpr f)] at this
 exact this
end Bit
namespace L2
open PySem PySem.Spec PyProof.Rows Mth
def Ck:bootBuiltins "abs" = some (.builtin "abs"):=by decide +kernel
def dL:bootBuiltins "len" = some (.builtin "len"):=by decide +kernel
def mH:bootBuiltins "isinstance" = some (.builtin "isinstance"):=by decide +kernel
def Bw:bootBuiltins "all" = some (.builtin "all"):=by decide +kernel
def hU:bootBuiltins "tuple" = some (.type "tuple"):=by decide +kernel
def oW:bootBuiltins "list" = some (.type "list"):=by decide +kernel
def HN:bootBuiltins "int" = some (.type "int"):=by decide +kernel
def LD:bootBuiltins "bool" = some (.type "bool"):=by decide +kernel
def DL {n:Nat} {x:Int} (h:Bd n x):Builtin.Int.intBits x<=n:=aci.mpr h
def JC {n:Nat} {x:Int} (h:Builtin.Int.intBits x<=n):Bd n x:=aci.mp h
section
variable {X:Cx}
def Mh (i j:Int):Prop:=∃ m n,Bd m i/\Bd n j/\m+n<=100000000
def LX (_ j:Int):Prop:=j≠0/\Bd 8999 j
def Ka:iD X (binaryOp .Mult) (rI Mh λ i j => .int (i * j)):=Pe λ Z Z Z Z Z Z Z a q=>by
 obtain ⟨m,n,h,H,b⟩:=a
 exact mul_int q (IntMulOk.of_le (DL h) (DL H) (by lia))
def Gx:iD X (binaryOp .FloorDiv) (rI LX λ i j => .int (i.fdiv j)):=Pe λ Z Z Z Z Z Z Z h q=>by
 have H:Bd 8999 _:=h.2
 exact floordiv_int h.1 q (.inl (PyProof.noPylong_of_log2 (aav (H.log (by decide)) (by decide))))
inductive SZ (K:aC) (x:V) (y:V) (H:Hp) (Q:VK):Prop|mk (p xs i v:_) (_:x = .ref p) (_:y = .int i) (_:(bi K H p xs\/bR K H p xs)) (_:uw xs i=some v) (_:Q v H)
def ay:SX X (SZ X.K):=by
 intro V S a s U H x y v u Q I r R h d
 obtain ⟨p,f,i,w,e,E,b,c,q⟩:=h
 rcases b with b|b
 . exact Lc V S a s U H x y v u Q I r R ⟨p,f,i,w,e,E,b,c,q⟩ d
 . exact M7 V S a s U H x y v u Q I r R ⟨p,f,i,w,e,E,b,c,q⟩ d
def qW:iy X (.builtin "isinstance") (λ xs H Q=>∃ x c t C b,xs=[x,c]/\pS X.K H x t/\RelV c C/\W.kitOne X.K t C=some b/\Q (.bl b) H):=by
 intro p s U H xs g Q I r h
 obtain ⟨x,c,t,C,b,rfl,ty,R,e,q⟩:=h
 obtain ⟨u,w,rfl,f,d⟩:=vals2 r
 have:w=C:=by
   cases c with
   | cn=>cases d;cases R;rfl
   | bl b=>cases d;cases R;rfl
   | ref a=>cases d;cases R;rfl
   | ty n=>cases d;cases R;rfl
   | int i=>exact absurd e (by obtain ⟨k,rfl⟩:=R;intro z;unfold W.kitOne W.kitCls at z;cases ty<;>simp at z)
   | str i=>exact absurd e (by obtain ⟨k,rfl⟩:=R;intro z;unfold W.kitOne W.kitCls at z;cases ty<;>simp at z)
   | Ep i=>exact absurd e (by obtain ⟨k,rfl⟩:=R;intro z;unfold W.kitOne W.kitCls at z;cases ty<;>simp at z)
   | LJ i=>exact absurd e (by obtain ⟨k,rfl⟩:=R;intro z;unfold W.kitOne W.kitCls at z;cases ty<;>simp at z)
 subst this
 exact Fq I f ty e λ T=>⟨.bl b,H,I.tok _,rfl,q⟩
end
def gr (K:aC) (m:cy) (x:Str) (st:Stmt):Prop:=∃ f F,m x=some (.ref f)/\KH K x x st f F
def Def (P:bq) (w:bh) (K:aC) (m:cy) (base:aU) (x:Str) (k:Nat) (p:cp) (s:Sp):Prop :=
 ∃ f F,m x=some (.ref f)/\W.keepIn K (.ref f)=true/\Binds K F p []/\ic P w K m base uX k f F p s
section
variable {P:bq} {w:bh} {K:aC} {mg:cy} {base:aU}
def gr.def {x:Str} {st:Stmt} {N p:cp} {k:Nat} {sp:Sp} (h:gr K mg x st) (S:az N p (ao st)) (len:∀ vs H Q E,sp vs H Q E->vs.length=p.length)
   (i:∀ (kV d n:au) (c:Option ai) (b ct:au) (us:aZ),us.length=p.length->bindArgs (W.fnOf x x (cD st) (bF st) (ao st) .none kV d n c b ct) ⟨us,[]⟩=pure (p.zip us))
   (e:∀ (f:ai) (b:au) (A:Around) (outer:List Env) (s:Shared) (H:Hp) (vs:aA) (Q:VK) (E:XK),cR k (A.deeper (envOfC x (ao st) s.heap.objs.size f b))->sp vs H Q E ->
     ∃ t,rK (fQ uX P w K mg base N x (ao st) f b A outer s H E).Fe (bF st) t/\t { nx:=λ Z a=>Q .cn a,rt:=Q } (start N vs) H):Def P w K mg base x (k+1) p sp:=by
 obtain ⟨f,g,j,F⟩:=h
 exact ⟨f,g,j,F.kp,F.binds i,F.ok S len λ b A outer s H vs Q E l m=>e f b A outer s H vs Q E l m⟩
def KH.MM {x q:Str} {st:Stmt} {f:ai} {e:FuncData} {p:Str} (F:KH K x q st f e)
   (h:∀ (kV d c:au) (a:Option ai) (b ct:au) (u:au),bindArgs (W.fnOf x q (cD st) (bF st) (ao st) .none kV d c a b ct) ⟨[u],[]⟩=pure [(p,u)]) (s:Shared) (u:au):BindsTo s e ⟨[u],[]⟩ [(p,u)]:=by
 obtain ⟨o,O,kV,d,c,a,b,ct,y,rfl,l,S⟩:=F.ex
 exact .of_eq (h kV d c a b ct u)
end
section
variable {X:Cx} {x:Str} {p pos:Pos} {e:Expr} {es:List Expr} {t:TA} {k:Nat} {ps:cp} {sp:Sp}
def ak (D:Def X.prog X.w X.K X.mg X.base x k ps sp) (i:cR k X.A) (h:PA X (e::es) t) (c:Gl X x:=by rfl) (a:Ba x:=by decide)
   (b:Cq X e es:=by rfl) (j:FK X es pos:=by rfl):PE X (.Call (.Name x p) (e::es) [] pos) (DN sp [] E0 t):=by
 obtain ⟨f,l,g,d,H,F⟩:=D
 exact D8 F i c g d H .nil zh h a b j
end
def CU {n:Int} {m:Nat} (h:(W.WData.int n).weight<=m):Bd m n:=by
 refine JC ?_
 simpa only [W.WData.weight,Builtin.Int.intBits] using h
end L2
namespace Att
open PySem PySem.W PySem.Calls PyProof.Rows Mth
def wS {l:OpenLaw} {n:Nat} {q:bq} {L:cp} {X:(cy)->aU->Prop} {y:bh->aU->Prop} {d:DefRec}
   (J:l.most=some n) (j:d.params.defaults=[])
   (c:∀ (w:bh) (s₀ s:Shared) (m M:cy) (F:ai) (o:Obj) (p C D:au) (a:ai) (vs:aZ) (ns:List Int),
     Ground q L [] X w s₀ m M s.heap->y w s.heap ->
     s.heap.get? F=some o->o.data = .func (docDef d.name d.params d.body d.scope p C D)->s.heap.CodeRec C d.name->m d.name=some (.ref F) ->
     s.heap.get? a=some { cls:=.type "list",data:=.seq vs.toArray }->IntsAre vs ns->ns.length<=n->(∀ z∈ns,Bd 1048576 z)->s.gens=#[] ->
     codeAny (model l.prog w) callerA (.call (.ref F) ⟨[.ref a],[]⟩) (λ r s'=>r = .ok (.ret (.bool true))/\OldK s.heap s'.heap/\s'.os=s.os/\AllBare s'.gens) s) :
   WalkO q L X y l.row.toRowW d [] (λ f vs=>PySem.call f vs):=by
 intro w s₀ s m M G Y F o p C D k kV N A U e O B args v as K W R S E
 obtain rfl:k = .none:=Dflts.none e j
 obtain rfl:kV = .none:=Dflts.noKw e
 obtain ⟨a,vs,ns,rfl,rfl,i,h,H⟩:=EQ J K S
 have g:∀ z∈ns,Bd 1048576 z:=λ z T=>by
   have t:=layableW_arg W _ (aai.mpr rfl)
   have b:=layableW_item t (.int z) (aat.mpr ⟨z,T,rfl⟩)
   exact L2.CU (aaT (layableW_iff.mp b).2.2 (by decide))
 refine enter_call (acH (c w s₀ s m M F o p C D a vs ns G Y N (fd_plain A) U O i h H g B) λ r s' Q=>?_)
 obtain ⟨rfl,b,u,x⟩:=Q
 exact ⟨.inl ⟨.bool true,.bool true,[],rfl,λ Z=>rfl,.bool true,Fm l _,λ Z=>⟨List.Pairwise.nil,λ Z I=>(nomatch I)⟩⟩,b,u,x⟩
end Att
namespace L2
open PySem PySem.Spec PyProof.Rows Mth
variable {E:XK} {H H':Hp} {fc np pR:Pos} {elt e₀ iter tg:Expr} {elts ifs:List Expr} {g:TG} {nt t' x1:Nat} {o u:HO} {oI:Obj} {te:TE} {U:St}
inductive HJ (K:aC) (vs:aA) (H:Hp) (Q:VK) (_E:XK):Prop|mk (a:ai) (ns:List Int) (_:vs=[.ref a]) (_:bi K H a (ns.map V.int)) (_:ns.length<=63) (_:(∀ z∈ns,Bd 1048576 z)) (_:∀ H',Q (.bl true) H')
def Ic {l:W.OpenLaw} {k:Nat} {q:bq} {L:cp} {X:(cy)->aU->Prop} {y:bh->aU->Prop} {d:DefRec} {K:Params->aC} {x:Str} (I:l.most=some 63) (r:d.params.defaults=[]) (J:cR k callerA) (B:∀ (w:bh) (h:aU),y w h->(K w.params).In h) (F:∀ (w:bh) (m:cy) (j:ai) (h:aU),(K w.params).In h->h.Ns mainGlobals m->m d.name=some (.ref j) ->
     ∃ n:FuncData,(∀ (s:Shared) (u:au),BindsTo s n ⟨[u],[]⟩ [(x,u)]) /\
       ∀ base:aU,(K w.params).In base->base.Ns mainGlobals m->ic l.prog w (K w.params) m base uX k j n [x] (HJ (K w.params))) :
   W.WalkO q L X y l.row.toRowW d [] (λ f vs=>PySem.call f vs):=by
 refine Att.wS I r λ w s₀ S m mb j o pm Q t a vs N G Y V U sH O M i c D E=>?_
 have p:=B w _ Y
 obtain ⟨n,C,v⟩:=F w m j _ p G.T.g O
 exact IG p G.T.g G.T.b G.T.builtins G.T.nolimit E M i (aaT c (by decide)) J v C (λ H R A=>⟨a,N,rfl,A,c,D,λ Z=>rfl⟩) λ H e s' z=>z
section
variable {X:Cx}
inductive SC (x:V) (y:V) (H:Hp) (Q:VK):Prop|mk (i j:_) (_:x = .int i) (_:y = .int j) (_:∀ r:Int,r=i+j->Q (.int r) H)
inductive Sr (x:V) (y:V) (H:Hp) (Q:VK):Prop|mk (i j:_) (_:x = .int i) (_:y = .int j) (_:∀ r:Int,r=i - j->Q (.int r) H)
inductive Qv (x:V) (y:V) (H:Hp) (Q:VK):Prop|mk (i j:_) (_:x = .int i) (_:y = .int j) (_:Mh i j) (_:∀ r:Int,r=i * j->Q (.int r) H)
inductive PD (x:V) (y:V) (H:Hp) (Q:VK):Prop|mk (i j:_) (_:x = .int i) (_:y = .int j) (_:LX i j) (_:∀ r:Int,r=i.fdiv j->Q (.int r) H)
inductive TD (x:V) (y:V) (H:Hp) (Q:VK):Prop|mk (i j:_) (_:x = .int i) (_:y = .int j) (_:Kg i j) (_:∀ r:Int,r=i ^ j.toNat->Q (.int r) H)
inductive TY (x:V) (y:V) (H:Hp) (Q:VK):Prop|mk (i j:_) (_:x = .int i) (_:y = .int j) (_:Kg i j) (_:∀ r:Int,r=i * 2 ^ j.toNat->Q (.int r) H)
inductive Sa (x:V) (y:V) (H:Hp) (Q:VK):Prop|mk (i j:_) (_:x = .int i) (_:y = .int j) (_:0<=j) (_:∀ r:Int,r=i / 2 ^ j.toNat->Q (.int r) H)
inductive YV (x:V) (y:V) (H:Hp) (Q:VK):Prop|mk (i j:_) (_:x = .int i) (_:y = .int j) (_:∀ r:Int,r=Builtin.bitOr i j->Q (.int r) H)
inductive Qk (x:V) (y:V) (H:Hp) (Q:VK):Prop|mk (i j:_) (_:x = .int i) (_:y = .int j) (_:∀ r:Int,r=Builtin.bitAnd i j->Q (.int r) H)
inductive rLM (x:V) (y:V) (H:Hp) (Q:VK):Prop|mk (i j:_) (_:x = .int i) (_:y = .int j) (_:0<j) (_:∀ r:Int,0<=r->r<j->r=i % j->Q (.int r) H)
def aJ:iD X (binaryOp .Add) SC:=λ p s U H x y v u Q I r R ⟨i,j,e,E,q⟩=>MT p s U H x y v u Q I r R ⟨i,j,e,E,q _ rfl⟩
def de:iD X (binaryOp .Sub) Sr:=λ p s U H x y v u Q I r R ⟨i,j,e,E,q⟩=>Mw p s U H x y v u Q I r R ⟨i,j,e,E,q _ rfl⟩
def aL:iD X (binaryOp .Mult) Qv:=λ p s U H x y v u Q I r R ⟨i,j,e,E,c,q⟩=>Ka p s U H x y v u Q I r R ⟨i,j,e,E,c,q _ rfl⟩
def i4:iD X (binaryOp .FloorDiv) PD:=λ p s U H x y v u Q I r R ⟨i,j,e,E,c,q⟩=>Gx p s U H x y v u Q I r R ⟨i,j,e,E,c,q _ rfl⟩
def oK:iD X (binaryOp .Pow) TD:=λ p s U H x y v u Q I r R ⟨i,j,e,E,c,q⟩=>OO p s U H x y v u Q I r R ⟨i,j,e,E,c,q _ rfl⟩
def Jy:iD X (binaryOp .LShift) TY:=λ p s U H x y v u Q I r R ⟨i,j,e,E,c,q⟩=>MA p s U H x y v u Q I r R ⟨i,j,e,E,c,q _ rfl⟩
def xQ:iD X (binaryOp .RShift) Sa:=λ p s U H x y v u Q I r R ⟨i,j,e,E,c,q⟩=>MG p s U H x y v u Q I r R ⟨i,j,e,E,c,q _ rfl⟩
def Ob:iD X (binaryOp .BitOr) YV:=λ p s U H x y v u Q I r R ⟨i,j,e,E,q⟩=>Pk p s U H x y v u Q I r R ⟨i,j,e,E,q _ rfl⟩
def gY:iD X (binaryOp .BitAnd) Qk:=λ p s U H x y v u Q I r R ⟨i,j,e,E,q⟩=>N9 p s U H x y v u Q I r R ⟨i,j,e,E,q _ rfl⟩
def fm:iD X (binaryOp .Mod) rLM:=λ p s U H x y v u Q I r R ⟨i,j,e,E,c,q⟩ =>
 Mv p s U H x y v u Q I r R ⟨i,j,e,E,c,q _ (adu _ (by lia)) (ac7 _ c) rfl⟩
def qm:iy X (.builtin "abs") (λ xs H Q=>∃ i,xs=[.int i]/\∀ r:Int,r=i.natAbs->Q (.int r) H) :=
 λ p s U H xs u Q I r ⟨i,e,q⟩=>Gj p s U H xs u Q I r ⟨i,e,q _ (by split<;>lia)⟩
def bO:iy X (.builtin "len") (λ xs H Q=>∃ p ys,xs=[.ref p]/\(bi X.K H p ys\/bR X.K H p ys)/\∀ r:Int,r=ys.length->Q (.int r) H) :=
 λ a s U H xs u Q I r ⟨p,ys,e,h,q⟩=>xW a s U H xs u Q I r ⟨p,ys,e,h,q _ rfl⟩
def Y8 (t:TS):TS:=λ D U H=>∃ P:St->Hp->Prop,t { D with nx:=P } U H/\∀ a H',P a H'->D.nx a H'
def lH {st:Stmt} {t:TS} (h:PS X st t):PS X st (Y8 t):=by
 intro p s U H D I d
 obtain ⟨P,b,c⟩:=d
 refine cV (h p s U H { D with nx:=P } I b) λ f S q=>?_
 cases f with
 | next =>
   obtain ⟨a,H',i,q⟩:=q
   exact ⟨a,H',i,c a H' q⟩
 | ret v=>exact q
 | brk=>exact q
 | cont=>exact q
end
def qa {c A B:Prop} [Decidable c] (H:c) (h:A):if decide c=true then A else B:=by
 rw [aaE H];exact jh h
def nW {c A B:Prop} [Decidable c] (H:¬ c) (h:B):if decide c=true then A else B:=by
 rw [aal H];exact gm h
def iH {c A B:Prop} [Decidable c] (H:c->A) (a:¬ c->B):if decide c=true then A else B:=by
 by_cases h:c
 . exact qa h (H h)
 . exact nW h (a h)
def vD {c A B:Prop} [Decidable c] (H:¬ c->A) (a:c->B):if (!decide c)=true then A else B:=by
 by_cases h:c
 . exact fz h (a h)
 . rw [aal h];exact jh (H h)
def G2 {c A B:Prop} [Decidable c] (H:¬ c) (h:A):if (!decide c)=true then A else B:=by
 rw [aal H];exact jh h
def blT {c:Prop} [Decidable c] (h:c) {Q:VK} (q:Q (.bl true) H):Q (.bl (decide c)) H:=by rw [aaE h];exact q
def fL {a b:Int}:V.int a=V.int b↔a=b:=⟨λ e=>by cases e;rfl,λ e=>by rw [e]⟩
def al {p:ai} (h:H p=none):aD H (upd H p o):=λ b u e=>by rw [aB (ax e h)];exact e
def aD.tup {K:aC} {a:ai} {xs:aA} (e:aD H H') (h:bR K H a xs):bR K H' a xs:=by
 rcases h with (h|⟨o,h⟩)|h
 . exact .inl (.inl (e _ _ h))
 . exact .inl (.inr ⟨o,e _ _ h⟩)
 . exact .inr h
def mE {n:Nat} {x:Int} (h:x.natAbs<2 ^ n:=by decide):Bd n x:=h
def VA {x:Int} (n:Nat) (lo : -(2 ^ 100)<x) (H:x<2 ^ 100) (h:100<=n:=by decide):Bd n x:=by
 have:Bd 100 x:=by unfold Bd;lia
 exact this.mono h
def wW (K:aC):W.kitOne K (.type "int") (.type "bool")=some false:=by
 show (if W.kitMeta "bool" = true then ((PySem.fastBuiltinMro "int").map (·.contains (Value.type "bool"))) else none)=some false
 decide +kernel
def DR {x y:V}:[x,y].length<=sizeLine:=by show 2<=sizeLine;decide
def Of {x y z:V}:[x,y,z].length<=sizeLine:=by show 3<=sizeLine;decide
inductive M4 (vs:aA) (H:Hp) (Q:VK) (_E:XK):Prop|mk (a b:Int) (_:vs=[.int a,.int b]) (_:∀ r:Int,r=((Int.gcd a b:Nat):Int)->Q (.int r) H)
inductive yG (vs:aA) (H:Hp) (Q:VK) (_E:XK):Prop|mk (t b:Int) (_:vs=[.int t,.int b]) (_:b≠0) (_:Bd 4000 b) (_:∀ q r p H',Fr t b q r->aD H H'->H' p=some (.tup [.int q,.int r])->Q (.ref p) H')
inductive Au (f:Int->Int->Int->Int->Int) (K:aC) (vs:aA) (H:Hp) (Q:VK) (_E:XK):Prop|mk (p1 p2 a b c d:_) (_:vs=[.ref p1,.ref p2]) (_:bR K H p1 [.int a,.int b]) (_:bR K H p2 [.int c,.int d]) (_:0<b) (_:0<d) (_:Bd 1000 a) (_:Bd 1000 b) (_:Bd 1000 c) (_:Bd 1000 d) (_:∀ q r p H',Fr (f a b c d) (b * d) q r->aD H H'->H' p=some (.tup [.int q,.int r])->Q (.ref p) H')
inductive Gp (K:aC) (vs:aA) (H:Hp) (Q:VK) (_E:XK):Prop|mk (p1 p2 a b c d:_) (_:vs=[.ref p1,.ref p2]) (_:bR K H p1 [.int a,.int b]) (_:bR K H p2 [.int c,.int d]) (_:Bd 1000 a) (_:Bd 1000 b) (_:Bd 1000 c) (_:Bd 1000 d) (_:Q (.bl (decide (a * d<c * b))) H)
inductive Bf (K:aC) (vs:aA) (H:Hp) (Q:VK) (_E:XK):Prop|mk (a:ai) (ns:List Int) (k:Int) (_:vs=[.ref a,.int k]) (_:bi K H a (ns.map V.int)) (_:0<=k) (_:∀ z,(z∈ns\/z=0)->Q (.int z) H)
inductive GF (vs:aA) (H:Hp) (Q:VK) (_E:XK):Prop|mk (t b:Int) (_:vs=[.int t,.int b]) (_:0<b) (_:Bd 4000 b) (_:∀ q r p H',Fr t b q r->aD H H'->H' p=some (.tup [.int q,.int r])->Q (.ref p) H')
def cF (X:Cx) (N':cp) (S:Scope) (cl:List (Str×ai)) (C:ai) (s:Shared) (H:Hp) (ex:bZ):Cx :=
 { X with N:=N',env:=compEnvC S cl C X.env,s₀:=s,H₀:=H,outer:=X.stack,ex:=ex,fn:=λ Z=>false,pn:=[],xe:=λ Z Z=>False }
def LU (X:Cx) (i:List Expr) (t:TT):Prop :=
 ∀ (p:List (ai×Obj)) (s:Shared) (U:St) (H:Hp) (Q:Bool->Hp->Prop),Inv X p U H s->t U H Q ->
   wpAny (model X.prog X.w) X.A (forIn i true λ c r=>if r=true then do let ok <- isTrue c X.env (eval c X.env);pure (ForInStep.yield ok) else pure (ForInStep.yield r)) (TP X p U Q) X.xe s
def XM:TT:=λ Z H Q=>Q true H
def eM {X:Cx}:LU X [] XM:=λ Z Z Z H Z I h=>wpAny_tests_nil ⟨H,I,h⟩
def ki {X:Cx} {c:Expr} {tt:TT} (a:PT X c tt):LU X [c] tt:=λ p s U H Q I h=>wpAny_tests_one (a p s U H Q I h)
def gi (env:Env):List (Str×NameKind)->List (Str×ai)->List (Str×ai)
 | [],acc=>acc
 | y::r,acc=>gi env r (if (y.2 == NameKind.free)=true then (y.1,(env.cells.lookup y.1).getD 0)::acc else acc)
theorem ye (env:Env):∀ (names:List (Str×NameKind)) (acc:List (Str×ai)),(∀ y∈names,y.2 = .free->∃ c,env.cells.lookup y.1=some c) ->
   (forIn names acc λ x __s=>if (x.snd == NameKind.free)=true then do
       let __do_lift <- cellOf env x.fst
       pure (ForInStep.yield ((x.fst,__do_lift)::__s))
     else pure (ForInStep.yield __s))=(pure (gi env names acc):Sem _)
 | [],acc,_=>rfl
 | y::r,acc,h=>by
   rw [List.forIn_cons]
   by_cases H:(y.2 == NameKind.free)=true
   .
    obtain ⟨c,e⟩:=h y aaF (abG.mp H)
    rw [aan H]
    have E:cellOf env y.1=pure c:=by unfold cellOf;rw [e]
    rw [E]
    simp only [pure_bind]
    rw [ye env r _ λ z a=>h z (aak _ a)]
    simp only [gi,H,ab2,e,Option.getD_some]
   . rw [aam H]
     simp only [pure_bind]
     rw [ye env r _ λ z a=>h z (aak _ a)]
     simp only [gi,H,acm]
     rfl
def KZ {s:Scope} {env:Env} (h:∀ y∈s.names,y.2 = .free->∃ c,env.cells.lookup y.1=some c):closureFor s env=pure (gi env s.names []):=by
 simp only [closureFor]
 rw [ye env s.names [] h]
 simp only [pure_bind]
theorem vY {env:Env}:∀ {names:List (Str×NameKind)} {acc:List (Str×ai)},(∀ y∈names,y.2 = .free->∃ c,env.cells.lookup y.1=some c)->(∀ x c,acc.lookup x=some c->env.cells.lookup x=some c) ->
   ∀ x c,(gi env names acc).lookup x=some c->env.cells.lookup x=some c
 | [],_,_,H,x,c,e=>H x c e
 | y::r,acc,h,H,x,c,e=>by
   refine vY (names:=r) (λ z b=>h z (aak _ b)) ?_ x c e
   intro x c e
   by_cases a:(y.2 == NameKind.free)=true
   .
    rw [aan a] at e
    obtain ⟨C,E⟩:=h y aaF (abG.mp a)
    rw [E,Option.getD_some,abw] at e
    cases q:x == y.1 with
    | true=>rw [q] at e;cases e;rw [abG.mp q];exact E
    | false=>rw [q] at e;exact H x c e
   . rw [aam a] at e;exact H x c e
theorem vN {env:Env}:∀ {names:List (Str×NameKind)} {acc:List (Str×ai)} {x:Str},(∃ c,acc.lookup x=some c)->∃ c,(gi env names acc).lookup x=some c
 | [],_,_,h=>h
 | y::r,acc,x,⟨c,h⟩=>by
   refine vN (names:=r) ?_
   by_cases H:(y.2 == NameKind.free)=true
   . rw [aan H,abw]
     cases q:x == y.1 with
     | true=>exact ⟨_,rfl⟩
     | false=>exact ⟨c,h⟩
   . rw [aam H];exact ⟨c,h⟩
theorem pL {env:Env}:∀ {names:List (Str×NameKind)} {acc:List (Str×ai)} {y:Str×NameKind},y∈names->y.2 = .free->∃ c,(gi env names acc).lookup y.1=some c
 | z::r,acc,y,h,H=>by
   rcases aaa.mp h with rfl|h
   . refine vN (names:=r) ?_
     rw [aan (abG.mpr H),abw]
     simp
   . exact pL (names:=r) h H
def ul {s:Scope} {env:Env} {x:Str} {k:NameKind} (h:(relabel s env).names.lookup x=some k) (c:k = .cell\/k = .free) (i:∀ y∈s.names,y.2 ≠ .cell):(x,NameKind.free)∈s.names:=by
 have d:=abz h
 obtain ⟨⟨n,K⟩,H,a⟩:=aat.mp d
 dsimp only at a
 split at a
 .
  rename_i b
  cases a
  have:(K == NameKind.free)=true:=by
    simp only [aaq] at b
    exact b.1.1
  rw [abG.mp this] at H
  exact H
 .
  cases a
  rcases c with rfl|rfl
  . exact absurd rfl (i _ H)
  . exact H
theorem ix {env:Env}:∀ {names:List (Str×NameKind)} {x:Str},names.lookup x=some .free ->
   (names.map λ (n,k)=>if (k == NameKind.free && env.scope.kind == .function && env.kindOf n == some .cell) then (n,NameKind.cell) else (n,k)).lookup x=some .cell \/
   (names.map λ (n,k)=>if (k == NameKind.free && env.scope.kind == .function && env.kindOf n == some .cell) then (n,NameKind.cell) else (n,k)).lookup x=some .free
 | [],_,h=>by simp at h
 | (n,k)::r,x,h=>by
   have i:=@ix env r x
   show List.lookup x ((if (k == NameKind.free && env.scope.kind == .function && env.kindOf n == some .cell)=true then (n,NameKind.cell) else (n,k))::_)=_\/List.lookup x ((if (k == NameKind.free && env.scope.kind == .function && env.kindOf n == some .cell)=true then (n,NameKind.cell) else (n,k))::_)=_
   cases H:x == n with
   | true =>
     simp only [abw,H] at h
     cases h
     by_cases a:(NameKind.free == NameKind.free && env.scope.kind == .function && env.kindOf n == some .cell)=true
     . rw [aan a];simp [abw,H]
     . rw [aam a];simp [abw,H]
   | false =>
     simp only [abw,H] at h
     by_cases a:(k == NameKind.free && env.scope.kind == .function && env.kindOf n == some .cell)=true
     . rw [aan a];simp only [abw,H];exact i h
     . rw [aam a];simp only [abw,H];exact i h
section
variable {prog:bq} {w:bh} {A:Around} {R:Result->Shared->Prop} {s:Shared}
def AF {t:Expr} {a:Scope} {q:Pos} {u acc:au} {env:Env} (I:Nat->Shared->Prop) (T:∀ n s,I n s->wpAny (model prog w) A (pyNext u) (λ r S=>match r with
     | none=>R (.ok .next) S
     | some v=>wpAny (model prog w) A (letOwnedTupleGo t u v) (λ Z S=>wpAny (model prog w) A (assign t env v) (λ Z g =>
         wpAny (model prog w) A (forIn ifs true λ c r=>if r=true then do let ok <- isTrue c env (eval c env);pure (ForInStep.yield ok) else pure (ForInStep.yield r)) (λ ok b =>
           if ok=true then wpAny (model prog w) A (eval elt env) (λ x i =>
             wpAny (model prog w) A (call (.builtin "list.append") [acc,x]) (λ Z j=>∃ m,m<n/\I m j) (notedBy (model prog w) A env λ e s'=>R (.error e) s') i) (notedBy (model prog w) A env λ e s'=>R (.error e) s') b
           else ∃ m,m<n/\I m b) (notedBy (model prog w) A env λ e s'=>R (.error e) s') g) (notedBy (model prog w) A env λ e s'=>R (.error e) s') S) (notedBy (model prog w) A env λ e s'=>R (.error e) s') S) (notedBy (model prog w) A env λ e s'=>R (.error e) s') s) (n:Nat) (h:I n s) :
   codeAny (model prog w) A (.compLoop (.ListComp elt [⟨t,iter,ifs,0⟩] a q) 0 u acc env) R s:=by
 refine codeAny_loop rfl I (λ n s z=>?_) n h
 show wpAny _ A ((compTurn (.ListComp elt [⟨t,iter,ifs,0⟩] a q) 0 u acc env).onRaise (λ x=>do noteFrame x env;theTreesLotGoes x)) _ _ s
 refine wpAny_noted ?_
 rw [compTurn_list]
 refine UV (acw (UV (aa0 (T n s z) (λ r S d=>?_) λ Z Z H=>H)))
 cases r with
 | none=>exact aas d
 | some v =>
   refine UV (aa0 d (λ Z y k=>?_) λ Z Z H=>H)
   refine UV (aa0 k (λ Z g l=>UV (aa0 l (λ ok b f=>?_) λ Z Z H=>H)) λ Z Z H=>H)
   cases ok with
   | false=>exact aas ⟨rfl,f⟩
   | true =>
     exact UV (UV (aa0 f (λ x i o=>UV (aa0 o (λ Z j p=>aas (aas ⟨rfl,p⟩)) λ Z Z H=>H)) λ Z Z H=>H))
end
section
variable {X:Cx}
def yF (w:TI) (g:TG) (T:TT) (t:TE) (n:Nat) (sl:bg):TE:=λ U H Q=>w U H λ J d=>∀ D,d D=none ->
 ∃ W:Nat->Nat->aA->St->Hp->Prop,(∃ m,W 0 m [] (List.replicate n none++sl.map λ j=>(U[j]?).join) (upd d D (.lst []))) /\
   ∀ i m A c H',W i m A c H' ->
     (J.stop i H'/\Q (.ref D) H') \/
     (J.go i H'/\∃ N:aA->St->Hp->Prop,(∀ k a h,N k a h->∃ M,M<m/\W (i+1) M k a h)/\∀ x e,J.FX i H' x e->g x c e λ a l=>T a l λ b h =>
       if b=true then t a h λ y f=>f D=some (.lst A)/\A.length<sizeLine/\N (A++[y]) a (upd f D (.lst (A++[y])))
       else N A a h)
def vR {S:Scope} {aE:Pos} {wi:TI} {tt:TT} {N':cp} {sl:bg} (hc:X.calm=true) (hi:PI X tg iter wi) (hg:∀ cl C s H ex,PG (cF X N' S cl C s H ex) tg g) (ht:∀ cl C s H ex,LU (cF X N' S cl C s H ex) ifs tt) (he:∀ cl C s H ex,PE (cF X N' S cl C s H ex) elt te) (Tj:N'.length=nt+sl.length) (Os:∀ k j:Nat,sl[k]?=some j->∃ x,N'[nt+k]?=some x/\X.N[j]?=some x/\S.names.lookup x=some .free) (hk:S.kind = .function) (iz:∀ y∈S.names,y.2 ≠ .cell) (kE:∀ y∈S.names,y.2 = .local->S.names.lookup y.1=some .local) (jL:∀ y∈S.names,y.2 = .free->X.env.kindOf y.1=some .cell\/X.env.kindOf y.1=some .free) (hs:∀ x,foldedSetIterable iter X.env x=pure x) {use:Option (au->Sem Unit)} {Qp:au->Shared->Prop} {D:List (ai×Obj)} {s:Shared} {Q:V->Hp->Prop} {aG:Pos} (I:Inv X D U H s) (h:yF wi g tt te nt sl U H Q) (a6:∀ (s6:Shared) (R:Hp) (d c:ai) m,Inv X D U R s6->u6 X D R c->s6.heap.Ns c m->Q (.ref d) R->compPost (model X.prog X.w) X.A X.xe use Qp (.ref d) c (.ok .next) s6) :
   wpAny (model X.prog X.w) X.A (comprehension (.ListComp elt [⟨tg,iter,ifs,0⟩] S aE) S X.env aG (newList []) false (eval iter X.env) use) Qp X.xe s:=by
 have aj:∀ y∈S.names,y.2 = .free->∃ c,X.env.cells.lookup y.1=some c:=λ y hy hf=>I.ok.has y.1 (jL y hy hf)
 have yO:=vY (env:=X.env) (names:=S.names) (acc:=[]) aj (λ x c e=>by simp at e)
 refine wpAny_comprehension_free (use:=use) (cl:=gi X.env S.names []) rfl hs (KZ aj) hk kE (cV (hi D s U H _ I h) λ v s1 h1=>cV h1 λ YN t h2=>?_)
 obtain ⟨it,F,tn,J,K,rfl,I2,T,Us,f2,q⟩:=h2
 have nD:K t.heap.objs.size=none:=I2.cA.fresh (aaf _)
 obtain ⟨W,⟨m0,w0⟩,a0⟩:=q t.heap.objs.size nD
 refine ady ?_ (by show 0<=sizeLine;exact aaY _)
 have B:Inv X D U (upd K t.heap.objs.size (.lst [])) { t with heap:=t.heap.push { cls:=.type "list",data:=.seq ([]:aZ).toArray }} :=
   I2.laid (t':=t.toks) (λ b u e=>aac _ e) (aaf _) ⟨aaY _,[],0,.nil,aaK _ rfl⟩
 generalize UC:({ t with heap:=t.heap.push { cls:=.type "list",data:=.seq ([]:aZ).toArray }}:Shared)=f at B |-
 have ba:t.heap.objs.size<=f.heap.objs.size:=by rw [<- UC];show _<=(Heap.push _ _).objs.size;rw [adg];exact abO _
 have Ln:∀ b o,t.heap.get? b=some o->f.heap.get? b=some o:=λ b o e=>by rw [<- UC];exact aac _ e
 refine wpAny_newFunctionEnv iz (by intro y hy;simp at hy) (λ h₁ F3 bb=>?_) hk
 have zW:∀ b o,f.heap.get? b=some o->h₁.get? b=some o:=λ b o e=>bb.extBut b o (aaB (aao e)) (aac _ e)
 have nC:(upd K t.heap.objs.size (.lst [])) f.heap.objs.size=none:=B.cA.fresh (aaf _)
 have bm:f.heap.get? f.heap.objs.size=none:=act (aaf _)
 have RA:∀ b∈F,b<t.heap.objs.size:=λ b a=>by
   obtain ⟨o,e,Z⟩:=T.obj _ _ Us b a
   exact aao e
 have ad:∀ b∈F,b≠f.heap.objs.size:=λ b a=>aaB (aav (RA b a) ba)
 have a7:∀ b∈F,b≠t.heap.objs.size:=λ b a=>aaB (RA b a)
 have ae:∀ b∈F,b∉iV X.stack:=λ b a hm=>by
   rcases aaa.mp (I2.Bt b hm) with z|z
   . exact (f2 b a).2.1 z
   . exact (f2 b a).2.2.1 z
 have bk:∀ x c,(gi X.env S.names []).lookup x=some c->X.env.cells.lookup x=some c:=yO
 have xk:∀ b∈F,(b∈X.ex\/X.s₀.heap.objs.size<=b)/\b≠X.env.locals/\(∀ x c,X.env.cells.lookup x=some c->c≠b)/\∀ p∈X.pn++D,p.1≠b:=λ b a =>
   ⟨(f2 b a).2.2.2.1,(f2 b a).2.1,(f2 b a).2.2.2.2.1,(f2 b a).2.2.2.2.2⟩
 have Ya:(cF X N' S (gi X.env S.names []) f.heap.objs.size f (upd K t.heap.objs.size (.lst [])) F).Ok:=by
   refine ⟨B.ok.mod,hk,B.ok.glob,B.ok.blt,aaf _,λ x y c h1 h2=>B.ok.inj x y c (yO x c h1) (yO y c h2),λ x hx=>?_,(λ x c hf=>nomatch hf),B.ok.hd,B.ok.frames,.inl rfl,λ b a=>⟨ad b a,λ x c e=>(xk b a).2.2.1 x c (yO x c e)⟩,
     B.bs,aaT B.ok.LN B.sz,λ b o e a=>?_,ae,B.stack,B.oV⟩
   . have hm:(x,NameKind.free)∈S.names:=by
       rcases hx with hx|hx
       . exact ul hx (.inl rfl) iz
       . exact ul hx (.inr rfl) iz
     exact pL hm rfl
   . rcases (xk b a).1 with z|z
     . exact B.ok.IP b o e z
     . exact absurd (aav (aao (B.ok.bs b o e).1) z) (aa9 _)
 have I4:Inv (cF X N' S (gi X.env S.names []) f.heap.objs.size f (upd K t.heap.objs.size (.lst [])) F) [] (List.replicate nt none++sl.map λ j=>(U[j]?).join) (upd K t.heap.objs.size (.lst []))
     { f with heap:=h₁,toks:=f.toks+([]:List (Str×au)).length }:=by
   refine ⟨Ya,rfl,B.bare,Un.kept zW,⟨_,F3,λ i x v e1 Y e3=>?_⟩,λ x c e=>?_,nC,λ x c e=>B.mF x c (yO x c e),λ p hp=>absurd hp (by simp [cF]),B.cA.kept zW,?_⟩
   .
    by_cases hi:i<nt
    . rw [aaA (by simpa using hi),acD] at Y
      split at Y<;>cases Y
    .
     rw [aaG (by simpa using hi),abF,T1] at Y
     cases ej:sl[i - nt]? with
     | none=>rw [ej] at Y;cases Y
     | some j =>
       rw [ej] at Y
       have Uj:(U[j]?).join=some v:=aaj Y
       have a5:U[j]?=some (some v):=by
         cases q:U[j]? with
         | none=>rw [q] at Uj;cases Uj
         | some o=>rw [q] at Uj;cases Uj;rfl
       obtain ⟨y,n1,n2,n3⟩:=Os _ j ej
       have:nt+(i - nt)=i:=by lia
       rw [this] at n1
       have Wi:y=x:=aaj (n1.symm.trans e1)
       subst Wi
       have hm:(y,NameKind.free)∈S.names:=abz n3
       have an:=jL _ hm rfl
       obtain ⟨m,hn,hl⟩:=B.loc
       have be:Um X.env.scope y:=by
         rcases an with z|z
         . exact .inr (.inl z)
         . exact .inr (.inr z)
       obtain ⟨u,r,l⟩:=hl j y v n2 a5 be
       refine ⟨u,r,.inr ⟨ix n3,?_⟩⟩
       obtain ⟨c,ec⟩:=pL (env:=X.env) (acc:=[]) hm rfl
       refine ⟨c,ec,?_⟩
       rcases l with ⟨k1,Z⟩|⟨Z,c',e',OA⟩
       . rcases an with z|z
         . rw [show X.env.kindOf y=some .local from k1] at z;cases z
         . rw [show X.env.kindOf y=some .local from k1] at z;cases z
       . have a4:c=c':=aaj ((yO y c ec).symm.trans e')
         subst a4
         obtain ⟨o,ho,hd⟩:=OA
         exact ⟨o,zW c o ho,hd⟩
   . obtain ⟨v,o,ho,hd⟩:=B.cell x c (yO x c e)
     exact ⟨v,o,zW c o ho,hd⟩
   . show _=N'.length
     rw [Tj,aad,abF,OS]
 have aH:tn 0 h₁:=T.keep _ _ _ Us λ b a o e=>zW b o (Ln b o e)
 have N1:∀ {pl:List (ai×Obj)} {H':Hp},pl=[]->(∀ b∈F,H' b=none)->∀ b∈F,u6 (cF X N' S (gi X.env S.names []) f.heap.objs.size f (upd K t.heap.objs.size (.lst [])) F) pl H' b:=λ {pl H'} jE hn b a=>by
   subst jE
   exact ⟨hn b a,ad b a,ae b a,.inl a,λ x c e=>(xk b a).2.2.1 x c (yO x c e),λ p hp=>absurd hp (by simp [cF])⟩
 have a8:∀ b∈F,(upd K t.heap.objs.size (.lst [])) b=none:=λ b a=>by rw [aB (a7 b a)];exact (f2 b a).1
 have ab:codeAny (model X.prog X.w) X.A (.compLoop (.ListComp elt [⟨tg,iter,ifs,0⟩] S aE) 0 (.ref it) (.ref t.heap.objs.size) (compEnvC S (gi X.env S.names []) f.heap.objs.size X.env))
     (compPost (model X.prog X.w) X.A X.xe use Qp (.ref t.heap.objs.size) f.heap.objs.size) { f with heap:=h₁,toks:=f.toks+([]:List (Str×au)).length }:=by
   refine AF (λ n s'=>∃ i E M H',Inv (cF X N' S (gi X.env S.names []) f.heap.objs.size f (upd K t.heap.objs.size (.lst [])) F) [] M H' s'/\tn i s'.heap/\(∀ b∈F,H' b=none)/\W i n E M H') ?_ m0 ⟨0,[],_,_,I4,aH,a8,w0⟩
   rintro n s5 ⟨i,E,O,R,I5,Pb,Uy,w5⟩
   rcases a0 i n E O R w5 with ⟨aX,qn⟩|⟨go,N,hN,aP⟩
   . refine cV (T.done (cF X N' S (gi X.env S.names []) f.heap.objs.size f (upd K t.heap.objs.size (.lst [])) F) rfl rfl rfl hc i [] s5 O R _ I5 (N1 rfl Uy) Pb aX) λ r s6 ⟨hr,I6⟩=>?_
     subst hr
     obtain ⟨m,hn,Z⟩:=id I6.loc
     exact a6 s6 R _ _ m (B.Pj (s':=s6) I6.os I6.base I6.cA I6.bare xk) (B.zi (aaf _) I6.free) hn qn
   .
    refine cV (T.item (cF X N' S (gi X.env S.names []) f.heap.objs.size f (upd K t.heap.objs.size (.lst [])) F) rfl rfl rfl hc i [] s5 O R _ I5 (N1 rfl Uy) Pb go) λ r s6 ⟨u,hr,h6⟩=>?_
    subst hr
    refine cV h6 λ Z s7 ⟨x,H7,I7,r7,y7,Xg,a9⟩=>?_
    have a3:=I7.pinned (N1 rfl a9) (T.obj _ _ Xg)
    have L:∀ {s8:Shared} {G:St} {H8:Hp} {je:aA},Inv (cF X N' S (gi X.env S.names []) f.heap.objs.size f (upd K t.heap.objs.size (.lst [])) F) ([]++uM F s7.heap) G H8 s8->(∃ m',m'<n/\W (i+1) m' je G H8) ->
        ∃ m,m<n/\∃ i E M H',Inv (cF X N' S (gi X.env S.names []) f.heap.objs.size f (upd K t.heap.objs.size (.lst [])) F) [] M H' s8/\tn i s8.heap/\(∀ b∈F,H' b=none)/\W i m E M H':=λ {s8 G H8 je} I8 ⟨m',hm,w8⟩=>by
      refine ⟨m',hm,i+1,je,G,H8,I8.nP,T.keep _ _ _ Xg λ b a o e=>(I8.pin (b,o) (aa3 _ (aa3 _ (j5 a e)))).1,λ b a=>?_,w8⟩
      obtain ⟨o,e,d⟩:=T.obj _ _ Xg b a
      exact (I8.pin (b,o) (aa3 _ (aa3 _ (j5 a e)))).2.1
    refine aa0 (hg _ _ _ _ _ _ s7 O H7 x u _ a3 r7 (aP x H7 y7)) (λ Z s8 ⟨G,H8,I8,q8⟩=>?_) λ Z Z z=>False.elim z
    refine aa0 (ht _ _ _ _ _ _ s8 G H8 _ I8 q8) (λ ok s9 ⟨H9,I9,q9⟩=>?_) λ Z Z z=>False.elim z
    cases ok with
    | false =>
      rw [aam aah] at q9 |-
      exact L I9 (hN _ _ _ q9)
    | true =>
      rw [aan rfl] at q9 |-
      refine aa0 (he _ _ _ _ _ _ s9 G H9 _ I9 q9) (λ y wD ⟨yv,Jo,a1,Xf,hD,hz,bc⟩=>?_) λ Z Z z=>False.elim z
      refine aa0 (cI (X:=(cF X N' S (gi X.env S.names []) f.heap.objs.size f (upd K t.heap.objs.size (.lst [])) F)) _ wD G Jo (.ref t.heap.objs.size) [yv] (.ref t.heap.objs.size) [y] (λ Z WY=>N (E++[yv]) G WY) a1 rfl (.cons Xf .nil) ⟨_,E,yv,rfl,rfl,hD,hz,bc⟩) (λ Z OV ⟨bo,WY,a2,bn,bd⟩=>?_) λ Z Z z=>False.elim z
      exact L a2 (hN _ _ _ bd)
 exact codeAny_compStart_list ab (T.self _ 0 _ _ _ aH ab)
def J0 {S:Scope} {p:Pos} {w:TI} {t:TT} {N':cp} {sl:bg} (i:X.calm=true) (o:PI X tg iter w) (n:∀ cl C s H ex,PG (cF X N' S cl C s H ex) tg g) (z:∀ cl C s H ex,LU (cF X N' S cl C s H ex) ifs t) (l:∀ cl C s H ex,PE (cF X N' S cl C s H ex) elt te) (T:N'.length=nt+sl.length) (O:∀ k j:Nat,sl[k]?=some j->∃ x,N'[nt+k]?=some x/\X.N[j]?=some x/\S.names.lookup x=some .free) (r:S.kind = .function) (A:∀ y∈S.names,y.2 ≠ .cell) (K:∀ y∈S.names,y.2 = .local->S.names.lookup y.1=some .local) (B:∀ y∈S.names,y.2 = .free->X.env.kindOf y.1=some .cell\/X.env.kindOf y.1=some .free) (v:∀ x,foldedSetIterable iter X.env x=pure x:=by intro Z;rfl) :
   PE X (.ListComp elt [⟨tg,iter,ifs,0⟩] S p) (yF w g t te nt sl):=by
 intro a s U H Q I h
 rw [eval_ListComp]
 exact vR i o n z l T O r A K B v I h λ D e d c m J F u q=>⟨m,u,λ G E=>⟨.ref d,e,J.turned (t':=D.toks) (λ b Z f q=>(E.2 b f).trans q) F.1 F.2.1 F.2.2.2.1 F.2.2.2.2.1 F.2.2.2.2.2,rfl,q⟩⟩
def jk {S:Scope} {p:Pos} {w:TI} {c:TT} (T f:cp) (sl:bg) (a:Paired (λ (j:Nat) (x:Str)=>X.N[j]?=some x/\S.names.lookup x=some .free/\(X.env.kindOf x=some .cell\/X.env.kindOf x=some .free)) sl f) (l:X.calm=true) (q:PI X tg iter w) (o:∀ cl C s H ex,PG (cF X (T++f) S cl C s H ex) tg g) (A:∀ cl C s H ex,LU (cF X (T++f) S cl C s H ex) ifs c) (m:∀ cl C s H ex,PE (cF X (T++f) S cl C s H ex) elt te) (u:S.kind = .function:=by rfl) (I:∀ y∈S.names,y.2 ≠ .cell:=by decide +kernel) (D:∀ y∈S.names,y.2 = .local->S.names.lookup y.1=some .local:=by decide +kernel) (J:∀ y∈S.names,y.2 = .free->y.1∈f:=by decide +kernel) (v:∀ x,foldedSetIterable iter X.env x=pure x:=by intro Z;rfl) :
   PE X (.ListComp elt [⟨tg,iter,ifs,0⟩] S p) (yF w g c te T.length sl):=by
 have K:∀ {sl:bg} {f:cp},Paired (λ (j:Nat) (x:Str)=>X.N[j]?=some x/\S.names.lookup x=some .free/\(X.env.kindOf x=some .cell\/X.env.kindOf x=some .free)) sl f ->
     (∀ k j:Nat,sl[k]?=some j->∃ x,f[k]?=some x/\X.N[j]?=some x/\S.names.lookup x=some .free)/\∀ x∈f,X.env.kindOf x=some .cell\/X.env.kindOf x=some .free:=by
   intro sl f a
   induction a with
   | nil=>exact ⟨λ k j h=>by simp at h,λ x b=>by simp at b⟩
   | cons r t i =>
     refine ⟨λ k j h=>?_,λ x b=>?_⟩
     . cases k with
       | zero =>
         have e:_=j:=aaj h
         subst e
         exact ⟨_,rfl,r.1,r.2.1⟩
       | succ k=>exact i.1 k j (by simpa using h)
     . rcases aaa.mp b with z|z
       . rw [z];exact r.2.2
       . exact i.2 x z
 refine J0 (N':=T++f) l q o A m (by rw [aad,a.length]) (λ k j h=>?_) u I D (λ y B n=>(K a).2 _ (J y B n)) v
 obtain ⟨x,E,d⟩:=(K a).1 k j h
 exact ⟨x,by rw [aaG (abV _ _),adK];exact E,d⟩
end
def eP {lo:Int} {n:Nat} {t:TT} {D:ai} {Q:Hp->Prop} (c:Nat->aA->St->Hp->Prop) (l:c 0 [] U H) (q:∀ i acc U H,i<n->c i acc U H->g (.int (lo+i)) U H λ a j=>t a j λ b h =>
     if b=true then te a h λ y f=>f D=some (.lst acc)/\acc.length<sizeLine/\c (i+1) (acc++[y]) a (upd f D (.lst (acc++[y]))) else c (i+1) acc a h) (o:∀ acc U H,c n acc U H->Q H) :
   ∃ W:Nat->Nat->aA->St->Hp->Prop,(∃ m,W 0 m [] U H)/\∀ i m acc d H',W i m acc d H'->((FU lo n).stop i H'/\Q H') \/
     ((FU lo n).go i H'/\∃ N:aA->St->Hp->Prop,(∀ J a h,N J a h->∃ m',m'<m/\W (i+1) m' J a h)/\∀ x k,(FU lo n).FX i H' x k->g x d k λ a j=>t a j λ b h =>
       if b=true then te a h λ y f=>f D=some (.lst acc)/\acc.length<sizeLine/\N (acc++[y]) a (upd f D (.lst (acc++[y]))) else N acc a h):=by
 refine ⟨λ i m acc U H=>m=n - i/\i<=n/\c i acc U H,⟨n,by simp,aaY _,l⟩,?_⟩
 rintro i m acc U H ⟨rfl,s,p⟩
 by_cases M:i<n
 .
  refine .inr ⟨M,c (i+1),λ J d H' r=>⟨n - (i+1),by lia,rfl,M,r⟩,λ x H' y=>?_⟩
  obtain ⟨e,y⟩:=y
  subst e y
  exact q i acc U _ M p
 . have e:i=n:=by lia
   subst e
   exact .inl ⟨aaf _,o acc U H p⟩
def gK {K:aC} {a:ai} {xs:aA} {t:TT} {D:ai} {Q:Hp->Prop} (d:Nat->aA->St->Hp->Prop) (n:d 0 [] U H) (s:∀ i acc U H,i<=xs.length->d i acc U H->bi K H a xs) (u:∀ i x acc U H,xs[i]?=some x->d i acc U H->g x U H λ c k=>t c k λ b h =>
     if b=true then te c h λ y j=>j D=some (.lst acc)/\acc.length<sizeLine/\d (i+1) (acc++[y]) c (upd j D (.lst (acc++[y]))) else d (i+1) acc c h) (o:∀ acc U H,d xs.length acc U H->Q H) :
   ∃ W:Nat->Nat->aA->St->Hp->Prop,(∃ m,W 0 m [] U H)/\∀ i m acc f H',W i m acc f H'->((IV K a).stop i H'/\Q H') \/
     ((IV K a).go i H'/\∃ N:aA->St->Hp->Prop,(∀ J c h,N J c h->∃ m',m'<m/\W (i+1) m' J c h)/\∀ x l,(IV K a).FX i H' x l->g x f l λ c k=>t c k λ b h =>
       if b=true then te c h λ y j=>j D=some (.lst acc)/\acc.length<sizeLine/\N (acc++[y]) c (upd j D (.lst (acc++[y]))) else N acc c h):=by
 refine ⟨λ i m acc U H=>m=xs.length - i/\i<=xs.length/\d i acc U H,⟨xs.length,by simp,aaY _,n⟩,?_⟩
 rintro i m acc U H ⟨rfl,r,p⟩
 have q:=s i acc U H r p
 by_cases M:i<xs.length
 .
  refine .inr ⟨⟨xs,xs[i],q,by simp [M]⟩,d (i+1),λ J f H' v=>⟨xs.length - (i+1),by lia,rfl,M,v⟩,λ x H' y=>?_⟩
  obtain ⟨e,y⟩:=y
  subst e
  exact u i x acc U _ (y xs q) p
 . have e:i=xs.length:=by lia
   subst e
   exact .inl ⟨⟨xs,q,aaf _⟩,o acc U H p⟩
section
variable {X:Cx}
inductive Kq (x:V) (vs:aA) (H:Hp) (Q:VK):Prop|mk (i:Int) (_:x = .int i) (_:vs=[]) (_:∀ b:Int,b=((Builtin.Int.intBits i:Nat):Int)->Q (.int b) H)
def EE:Y9 X "int.bit_length" Kq:=by
 intro p s U H x V v u Q I R r h
 obtain ⟨i,rfl,rfl,q⟩:=h
 obtain ⟨t,rfl⟩:=R
 obtain rfl:=Vals.zero r
 exact call_int_bit_length ⟨.int _,H,I.tok _,⟨_,rfl⟩,q _ rfl⟩
def EX (a b:Nat):Builtin.bitOr (a:Int) (b:Int)=((a ||| b:Nat):Int):=by
 have d:decide (0<=Builtin.bitNot (a:Int))=false:=aal (by unfold Builtin.bitNot;lia)
 have D:decide (0<=Builtin.bitNot (b:Int))=false:=aal (by unfold Builtin.bitNot;lia)
 have n:(Builtin.bitNot (Builtin.bitNot (a:Int))).toNat=a:=by unfold Builtin.bitNot;lia
 have N:(Builtin.bitNot (Builtin.bitNot (b:Int))).toNat=b:=by unfold Builtin.bitNot;lia
 unfold Builtin.bitOr Builtin.bitAnd
 rw [d,D]
 dsimp only
 rw [n,N]
 unfold Builtin.bitNot
 lia
def nE (a b:Nat):Builtin.bitAnd (a:Int) (b:Int)=((a &&& b:Nat):Int):=by simp [Builtin.bitAnd]
end
def aq (k:Nat):V:=.int (k:Int)
inductive zQ (vs:aA) (H:Hp) (Q:VK) (_E:XK):Prop|mk (n r:Nat) (_:vs=[aq n,aq r]) (_:Q (.bl (n.testBit r)) H)
inductive xo (vs:aA) (H:Hp) (Q:VK) (_E:XK):Prop|mk (n r:Nat) (_:vs=[aq n,aq r]) (_:r<=1000) (_:Q (aq (n ||| 2 ^ r)) H)
inductive CV (vs:aA) (H:Hp) (Q:VK) (_E:XK):Prop|mk (n:Nat) (_:vs=[aq n]) (_:n<2 ^ 61) (_:∀ p H',H p=none->aD H H'->H' p=some (.lst ((Bit.rooms n).map aq))->Q (.ref p) H')
inductive Bq (vs:aA) (H:Hp) (Q:VK) (_E:XK):Prop|mk (n:Nat) (_:vs=[aq n]) (_:n<2 ^ 61) (_:(Bit.rooms n).length<=8) (_:∀ p H',H p=none->aD H H'->H' p=some (.lst ((Bit.parts (Bit.rooms n)).map aq))->Q (.ref p) H')
def vO (n:Nat):(Bit.rooms n).length<=61:=by
 have:=aa4 n.testBit (List.range 61)
 rw [aaw] at this
 exact this
def Dz (n r:Nat) {s m:Int} (c:s=(n:Int) / 2 ^ ((r:Int)).toNat) (b:m=s % 2):decide (V.int m=V.int 1)=n.testBit r:=by
 rw [Nat.testBit_eq_decide_div_mod_eq]
 have e:s=((n / 2 ^ r:Nat):Int):=by
   rw [c,aaX]
   have:((2:Int) ^ r)=((2 ^ r:Nat):Int):=by rw [adt];rfl
   rw [this,<- Int.natCast_ediv]
 have E:m=((n / 2 ^ r % 2:Nat):Int):=by rw [b,e];exact (Int.natCast_emod _ _).symm
 have a:(V.int m=V.int 1)↔(n / 2 ^ r % 2=1):=by rw [fL,E];lia
 exact abU.mpr a
def By (l:bg) (r:Nat):Bit.parts (l++[r])=Bit.parts l++(Bit.parts l).map (· ||| 2 ^ r):=by
 unfold Bit.parts;rw [abe];rfl
def Kl (n i:Nat):Bit.Ok (Bit.parts ((Bit.rooms n).take i)) ((Bit.rooms n).take i):=by
 have:=Bit.xD ((Bit.rooms n).take i) [] [0] Bit.Ia (by rw [acR];exact (Bit.jU n).sublist (List.take_sublist _ _))
 rw [acR] at this
 exact this
def di {a:Type} {l:List a} {i:Nat} {x:a} (h:l[i]?=some x):l.take (i+1)=l.take i++[x]:=by
 rw [List.take_add_one,h];rfl
def d9 {l:bg} {i:Nat} {x:V} (h:(l.map aq)[i]?=some x):∃ k,l[i]?=some k/\x=aq k:=by
 rw [T1] at h
 cases e:l[i]? with
 | none=>rw [e] at h;cases h
 | some k=>rw [e] at h;exact ⟨k,rfl,(aaj h).symm⟩
def D0 (f:Obj->Obj):Prop:=∀ o,(f o).dict=o.dict/\(o.isFreed=false->(f o).isFreed=false)
def d5 {b:Type}:Sem b->Prop
 | .pure _=>True
 | .raise _=>True
 | .unsupported _=>True
 | .finish _=>True
 | .rule _ k=>d5 (k ())
 | .at _ k=>d5 (k ())
 | .load _ _ k=>∀ o,d5 (k o)
 | .update _ _ f k=>D0 f/\d5 (k ())
 | .alloc _ k=>∀ a,d5 (k a)
 | .loadIfAlive _ k=>∀ o,d5 (k o)
 | .point _ k=>d5 (k ())
 | .register _ _=>True
 | .fresh k=>∀ t,d5 (k t)
 | .ask k=>∀ t,d5 (k t)
 | .choose _ _ k=>∀ n,d5 (k n)
 | .os _ _ k=>∀ r,d5 (k r)
 | .call ..=>False
 | .handled _ k=>∀ o,d5 (k o)
 | .newGen _ k=>∀ n,d5 (k n)
 | .genState _ k=>∀ x,d5 (k x)
 | .resume ..=>False
 | .yield ..=>True
 | .stack k=>∀ x,d5 (k x)
 | .fork ..=>True
 | .thread k=>∀ n,d5 (k n)
 | .await ..=>True
def cU (h h':aU):Prop:=∀ b o,h.get? b=some o->∃ O,h'.get? b=some O/\O.dict=o.dict
def cU.refl (h:aU):cU h h:=λ Z o e=>⟨o,e,rfl⟩
theorem cU.trans {h H h3:aU} (x:cU h H) (y:cU H h3):cU h h3:=λ b o e =>
 let ⟨O,E,d⟩:=x b o e;let ⟨c,a,D⟩:=y b O E;⟨c,a,D.trans d⟩
theorem cU.update {h:aU} {a:ai} {f:Obj->Obj} (m:D0 f):cU h (h.update a f):=λ b o e=>by
 by_cases z:a=b
 . subst z
   have nf:o.isFreed=false:=(Heap.get?_some_iff.mp e).2
   exact ⟨f o,abT f e ((m o).2 nf),(m o).1⟩
 . exact ⟨o,(abR h f z).trans e,rfl⟩
theorem cU.push {h:aU} {o:Obj}:cU h (h.push o):=λ b O e=>⟨O,aac _ e,rfl⟩
def JG {j:Type} (M:Model) (d:PySem.Ctx):∀ (t:Sem j) (Q:j->Pos->Shared->Prop) (E:au->Pos->Shared->Prop) (p:Pos) (s:Shared),d5 t->Sem.wp M d t Q E p s ->
   Sem.wp M d t (λ a p s'=>Q a p s'/\cU s.heap s'.heap) (λ e p s'=>E e p s'/\cU s.heap s'.heap) p s:=by
 intro t
 have u:∀ (t:Sem j) (Q:j->Pos->Shared->Prop) (E:au->Pos->Shared->Prop) (p:Pos) (s s1:Shared),cU s.heap s1.heap ->
     Sem.wp M d t (λ a p s'=>Q a p s'/\cU s1.heap s'.heap) (λ e p s'=>E e p s'/\cU s1.heap s'.heap) p s1 ->
     Sem.wp M d t (λ a p s'=>Q a p s'/\cU s.heap s'.heap) (λ e p s'=>E e p s'/\cU s.heap s'.heap) p s1:=λ t Q E p s s1 k h =>
   Sem.wp_mono M d t (λ Z Z Z z=>⟨z.1,k.trans z.2⟩) (λ Z Z Z z=>⟨z.1,k.trans z.2⟩) p s1 h
 induction t with
 | pure a=>intro Q E p s Z h;rw [Sem.wp_pure] at h |-;exact ⟨h,.refl _⟩
 | raise e=>intro Q E p s Z h;rw [Sem.wp_raise] at h |-;exact ⟨h,.refl _⟩
 | unsupported w=>intro Q E p s Z h;rw [Sem.wp_unsupported] at h;exact h.elim
 | finish e=>intro Q E p s Z h;rw [Sem.wp_finish] at h;exact h.elim
 | rule t k i=>intro Q E p s m h;rw [Sem.wp_rule] at h |-;exact i () Q E p s m h
 | «at» q k i=>intro Q E p s m h;rw [Sem.wp_at] at h |-;exact i () Q E q s m h
 | load a b k i=>intro Q E p s m h;rw [Sem.wp_load] at h |-;obtain ⟨o,e,h⟩:=h;exact ⟨o,e,i o Q E p s (m o) h⟩
 | update a b f k i=>intro Q E p s m h;rw [Sem.wp_update] at h |-;exact ⟨h.1,u _ Q E p s _ (.update m.1) (i () Q E p _ m.2 h.2)⟩
 | alloc o k i=>intro Q E p s m h;rw [Sem.wp_alloc] at h |-;exact u _ Q E p s _ .push (i _ Q E p _ (m _) h)
 | loadIfAlive a k i=>intro Q E p s m h;rw [Sem.wp_loadIfAlive] at h |-;exact i _ Q E p s (m _) h
 | point l k i=>intro Q E p s m h;rw [Sem.wp_point] at h |-;exact i () Q E p s m h
 | register a k i=>intro Q E p s m h;rw [Sem.wp_register] at h;exact h.elim
 | fresh k i=>intro Q E p s m h;rw [Sem.wp_fresh] at h |-;exact i _ Q E p _ (m _) h
 | ask k i=>intro Q E p s m h;rw [Sem.wp_ask] at h |-;exact i _ Q E p s (m _) h
 | choose S n k i=>intro Q E p s m h;rw [Sem.wp_choose] at h |-;exact ⟨h.1,i _ Q E p _ (m _) h.2⟩
 | os q l k i=>intro Q E p s m h;rw [Sem.wp_os] at h |-;exact i _ Q E p _ (m _) h
 | call c h g l k i=>intro Q E p s m h;exact m.elim
 | handled own k i=>intro Q E p s m h;rw [Sem.wp_handled] at h |-;exact i _ Q E p s (m _) h
 | newGen c k i=>intro Q E p s m h;rw [Sem.wp_newGen] at h |-;exact i _ Q E p _ (m _) h
 | genState g k i=>intro Q E p s m h;rw [Sem.wp_genState] at h |-;obtain ⟨x,e,h⟩:=h;exact ⟨x,e,i _ Q E p s (m _) h⟩
 | resume g r l k i=>intro Q E p s m h;exact m.elim
 | yield v g l k i=>intro Q E p s m h;rw [Sem.wp_yield] at h;exact h.elim
 | stack k i=>intro Q E p s m h;rw [Sem.wp_stack] at h |-;exact i _ Q E p s (m _) h
 | fork c k i=>intro Q E p s m h;rw [Sem.wp_fork] at h;exact h.elim
 | thread k i=>intro Q E p s m h;rw [Sem.wp_thread] at h |-;exact i _ Q E p s (m _) h
 | await a y T l k i=>intro Q E p s m h;unfold Sem.wp at h;exact h.elim
def mL {c:Type} {M:Model} {A:Around} {t:Sem c} {Q:c->Shared->Prop} {E:au->Shared->Prop} {s:Shared} (m:d5 t) (h:wpAny M A t Q E s) :
   wpAny M A t (λ a s'=>Q a s'/\cU s.heap s'.heap) (λ e s'=>E e s'/\cU s.heap s'.heap) s:=λ b p H=>JG M b t _ _ p s m (h b p H)
theorem d5.bind {b d:Type} {f:b->Sem d} (H:∀ a,d5 (f a)):∀ {t:Sem b},d5 t->d5 (t.bind f):=by
 intro t
 induction t with
 | pure a=>intro Z;exact H a
 | raise e=>intro Z;trivial
 | unsupported w=>intro Z;trivial
 | finish e=>intro Z;trivial
 | rule t k i=>intro m;exact i () m
 | «at» q k i=>intro m;exact i () m
 | load a p k i=>intro m;exact λ o=>i o (m o)
 | update a p g k i=>intro m;exact ⟨m.1,i () m.2⟩
 | alloc o k i=>intro m;exact λ a=>i a (m a)
 | loadIfAlive a k i=>intro m;exact λ a=>i a (m a)
 | point l k i=>intro m;exact i () m
 | register a k i=>intro m;trivial
 | fresh k i=>intro m;exact λ a=>i a (m a)
 | ask k i=>intro m;exact λ a=>i a (m a)
 | choose s n k i=>intro m;exact λ a=>i a (m a)
 | os q l k i=>intro m;exact λ a=>i a (m a)
 | call c h g l k i=>intro m;exact m.elim
 | handled own k i=>intro m;exact λ a=>i a (m a)
 | newGen c k i=>intro m;exact λ a=>i a (m a)
 | genState g k i=>intro m;exact λ a=>i a (m a)
 | resume g r l k i=>intro m;exact m.elim
 | yield v g l k i=>intro m;trivial
 | stack k i=>intro m;exact λ a=>i a (m a)
 | fork c k i=>intro m;trivial
 | thread k i=>intro m;exact λ a=>i a (m a)
 | await a j T l k i=>intro m;trivial
def d5.bd {b c:Type} {t:Sem b} {f:b->Sem c} (h:d5 t) (H:∀ a,d5 (f a)):d5 (t >>= f):=d5.bind H h
def xm (g:Array au->Array au):D0 (Obj.mapFields g):=λ o=>by
 obtain ⟨c,d,D,sl⟩:=o
 cases D<;>exact ⟨rfl,λ h=>h⟩
def Aq (g:Obj->Array (kK)):D0 (λ o=>{ o with slots:=g o }):=λ o=>by
 obtain ⟨c,d,D,sl⟩:=o
 refine ⟨rfl,λ h=>?_⟩
 cases D<;>first|rfl|exact h
def qh (a:ai):d5 (load a):=λ Z=>trivial
def vn (v:au):d5 (fieldsOf v):=by
 unfold fieldsOf
 split
 . refine .bd (qh _) λ o=>?_
   split<;>trivial
 . trivial
def j8 (v:au) (i:Nat):d5 (field v i):=by
 unfold field
 refine .bd (vn v) λ V=>?_
 split<;>trivial
def jC (v:au) (i:Nat) (x:au):d5 (setField v i x):=by
 unfold setField
 split
 .
  unfold updateField
  refine .bd (qh _) λ o=>?_
  split
  . split
    . exact ⟨xm _,trivial⟩
    . trivial
  . trivial
 . trivial
def sO (e:au) (f:Option ai):d5 (setFlight e f):=by
 unfold setFlight
 refine .bd (j8 _ _) λ t=>?_
 split
 . exact jC _ _ _
 . trivial
def mX:d5 stack:=λ Z=>trivial
theorem sZ:∀ l:List Env,d5 (readyFrames l)
 | []=>trivial
 | env::outer=>by
   unfold readyFrames
   split
   .
    refine .bd (qh _) λ o=>?_
    split
    . trivial
    .
     refine .bd ?_ λ i => .bd ?_ λ bk=>⟨Aq _,sZ outer⟩
     . unfold behindIsImport
       split
       . trivial
       . split
         . trivial
         . exact .bd (j8 _ _) λ Z=>trivial
     . unfold keptBack
       split
       . split
         . trivial
         . unfold underTheClaimsCaller
           exact .bd (.bd mX λ Z=>trivial) λ Z=>trivial
       . trivial
   . trivial
def xC (env:Env):d5 (PySem.frameOf env):=by
 unfold PySem.frameOf frameEnvs
 refine .bd (.bd mX λ Z=>trivial) λ l => .bd ?_ λ r=>?_
 .
  unfold frameObject
  split
  . trivial
  . exact .bd (sZ _) λ Z=>trivial
 . split<;>trivial
def Ca (f:ai) (b:Bool):d5 (entryPlaceOf f b):=by
 unfold entryPlaceOf
 refine .bd mX λ l=>?_
 split<;>trivial
def vg (a b c d e:au) (pl:aZ):d5 (EntryCells.newEntry a b c d e pl):=by
 unfold EntryCells.newEntry newFields newObj
 dsimp only
 have o:∀ d,d5 (newObjAsIs (.type "traceback") d):=λ d=>by
   unfold newObjAsIs
   exact .bd (λ Z=>trivial) λ Z=>trivial
 split
 . split
   . exact .bd trivial λ Z=>o _
   . exact o _
 . split
   . exact .bd trivial λ Z=>o _
   . exact o _
def Ff (e:au) (env:Env):d5 (noteFrame e env):=by
 unfold noteFrame
 split
 .
  refine .bd (j8 _ _) λ h=>?_
  have rest:d5 (do setField e 1 (<- EntryCells.newEntry h (<- PySem.frameOf env) .none (rawInt ‹ai›) .none (<- entryPlaceOf ‹ai› (h != .none)))) :=
    .bd (xC env) λ f => .bd (Ca _ _) λ p => .bd (vg _ _ _ _ _ _) λ v=>jC _ _ _
  split
  . refine .bd (j8 _ _) λ x=>?_
    split
    . trivial
    . exact .bd (jC _ _ _) λ Z=>rest
  . exact rest
 . trivial
def j6 (env:Env) (e:au):d5 (leaving env e):=by
 unfold leaving
 exact .bd (Ff _ _) λ Z=>sO _ _
def o0 {h:aU} {as:bZ} {b:ai} {o:Obj} (e:h.get? b=some o) (n:b∉as):(W.hideAll h as).get? b=some o:=W.hideAll_get _ e n
structure Fly (P:bq) (w:bh) (outer:List Env) (H:Hp) (s:Shared) (cls:au) (x:ai) (H':Hp) (s':Shared):Prop where
 os:s'.os=s.os
 bare:AllBare s'.gens
 un:Un (iV outer) [] H H' s.heap s'.heap
 cA:kR P w H' s'.heap
 fly:∃ a0 B,Heap.FlyingW B outer x cls a0 s'.heap/\(∀ b o,s.heap.get? b=some o->b∉iV outer->∀ o',s'.heap.get? b=some o'->B.get? b=some o')/\∀ b u,H' b=some u->∃ o,B.get? b=some o
def XD (h:aU) (x:ai) (d:Option ai):Prop:=∃ o,h.get? x=some o/\o.dict=d
def XD.kept {h h':aU} {x:ai} {d:Option ai} (k:cU h h') (q:XD h x d):XD h' x d:=let ⟨o,e,z⟩:=q;let ⟨O,E,Z⟩:=k x o e;⟨O,E,Z.trans z⟩
def CQ (P:bq) (w:bh):Go:=λ outer H s E e S=>∃ x cls H',e = .ref x/\Fly P w outer H s cls x H' S/\∃ d,XD S.heap x d/\E cls d H'
def Co {P:bq} {w:bh} {h h' B:aU} (x:kR P w H h) (c:∀ b o,B.get? b=some o->h'.get? b=some o) (d:∀ b o,B.get? b=some o->h.get? b=some o) (t:∀ b u,H b=some u->∃ o,B.get? b=some o):kR P w H h':=λ a o e =>
 (x a o e).fT (λ b u U q=>by
   have:∃ u',H b=some u':=by
     rcases U with z|z
     . exact ⟨o,by rw [z];exact e⟩
     . exact ⟨_,z⟩
   obtain ⟨u',N⟩:=this
   obtain ⟨O,M⟩:=t b u' N
   have:=d b O M
   rw [q] at this
   cases this
   exact c b u M) (λ Z q=>q) λ Z Z q=>q
def Thr (X:Cx) (E:XK):Prop:=∀ (p:List (ai×Obj)) (U:St) (H:Hp) (s:Shared) (h:aU) (x:ai) (cls:au) (args:aZ),Inv X p U H s->Heap.MadeExcOf s.heap h x cls args->E cls none H->X.xe (.ref x) { s with heap:=h }
section
variable {P:bq} {w:bh} {K:aC} {mg:cy} {base:aU} {N:cp} {qual:Str} {scope:Scope} {f:ai} {cd:au} {A:Around} {outer:List Env} {s₀:Shared} {H₀:Hp} {E E':XK}
def yb (hE:∀ cls d H,E' cls d H->E cls d H):Thr (fQ (CQ P w) P w K mg base N qual scope f cd A outer s₀ H₀ E) E':=by
 intro L U H s h' x cls args I k v
 have R:(envOfC qual scope s₀.heap.objs.size f cd).frame=some s₀.heap.objs.size:=rfl
 have Y:=I.ok.frames
 have st:=I.stack
 have yx:∀ env∈(envOfC qual scope s₀.heap.objs.size f cd::outer),∀ b,env.frame=some b->b∈iV (envOfC qual scope s₀.heap.objs.size f cd::outer):=λ env v b h=>acs.mpr ⟨env,v,h⟩
 show wpAny _ _ (leaving _ _) _ _ _
 refine aa0 (mL (j6 _ _) (wpAny_leaves_madeW (E:=λ Z Z=>False) (Q:=λ Z M=>∃ g t,M={ s with heap:=g }/\Heap.FlyingW (W.hideAll s.heap (iV (envOfC qual scope s₀.heap.objs.size f cd::outer))) outer x cls (.ref t) g/\h'.UpToSlots g) (base:=W.hideAll s.heap (iV (envOfC qual scope s₀.heap.objs.size f cd::outer))) Y R (λ b o q=>ac3 _ q) (W.funFrames_hide st yx) k λ g t i tup tn l=>⟨g,t,rfl,i,l⟩)) (λ Z M z=>?_) λ Z Z z=>z.1.elim
 obtain ⟨⟨g,t,rfl,i,l⟩,X⟩:=z
 have m:∀ b o,s₀.heap.get? b=some o->b∉iV outer->b∉iV (envOfC qual scope s₀.heap.objs.size f cd::outer):=λ b o e n hm=>by
   rcases aaa.mp (show b∈s₀.heap.objs.size::iV outer from hm) with z|z
   . exact absurd (aao e) (by rw [z];exact aa9 _)
   . exact n z
 have r:∀ b o,s.heap.get? b=some o->b∉iV (envOfC qual scope s₀.heap.objs.size f cd::outer)->g.get? b=some o:=λ b o e n=>i.1 b o (o0 e n)
 have F:∀ b∈iV outer,∃ o,s.heap.get? b=some o/\∀ vs,o.data ≠ .fields vs:=λ b h=>(I.ok.nQ.mem h).2 |> λ ⟨o,e,j⟩=>by
   obtain ⟨sl,a⟩:=I.base.slot b o e (I.ok.Kb b h) h (by intro z;exact absurd (show b∈([]:bZ) from z) (by simp))
   exact ⟨_,a,j⟩
 have T:∀ b u,H b=some u->∃ o,(W.hideAll s.heap (iV (envOfC qual scope s₀.heap.objs.size f cd::outer))).get? b=some o:=λ b u e=>by
   have nf:b∉iV (envOfC qual scope s₀.heap.objs.size f cd::outer):=λ z=>by rw [I.oV b z] at e;cases e
   have lt:=I.cA.lt e
   cases q:s.heap.get? b with
   | none =>
     obtain ⟨o,J⟩:∃ o,s.heap.get? b=some o:=by
       have ok:=I.cA b u e
       cases u with
       | lst xs=>obtain ⟨Z,Z,Z,Z,e⟩:=ok;exact ⟨_,e⟩
       | tup xs=>obtain ⟨Z,Z,Z,o,e,Z⟩:=ok;exact ⟨_,e⟩
       | dK V=>obtain ⟨Z,Z,Z,Z,o,Z,Z,e,Z⟩:=ok;exact ⟨_,e⟩
       | dT V=>obtain ⟨Z,Z,Z,Z,o,Z,Z,e,Z⟩:=ok;exact ⟨_,e⟩
       | set S n=>obtain ⟨o,Z,Z,Z,e,Z⟩:=ok;exact ⟨_,e⟩
       | ins C dx fs=>obtain ⟨Z,Z,Z,e,Z⟩:=ok;exact ⟨_,e⟩
       | own y=>obtain ⟨Z,e⟩:=ok;exact ⟨_,e⟩
       | xd fs=>obtain ⟨Z,⟨Z,Z,Z,e,Z⟩,Z⟩:=ok;exact ⟨_,e⟩
       | Q0 lo hi=>obtain ⟨Z,Z,Z,e⟩:=ok;exact ⟨_,e⟩
       | yX ob u=>obtain ⟨e,Z⟩:=ok;exact ⟨_,e⟩
       | Lp ps=>exact ⟨_,ok⟩
       | met f y=>exact ⟨_,ok⟩
       | ext φ=>obtain ⟨Z,⟨Z,e⟩,Z⟩:=ok;exact ⟨_,e⟩
     rw [q] at J;cases J
   | some o=>exact ⟨o,o0 q nf⟩
 refine ⟨x,cls,H,rfl,⟨I.os,I.bare,?_,Co I.cA i.1 (λ b o q=>ac3 _ q) T,_,_,i,?_,T⟩,none,XD.kept X (let ⟨_,e,_⟩:=k.there;⟨_,e,rfl⟩),hE _ _ _ v⟩
 .
  refine ⟨λ b o e n h Z=>r b o (I.base.keep b o e n h (by simp [fQ])) (m b o e h),λ b o e n h Z=>?_,λ b o e n Z=>I.base.free b o e n (by simp [fQ]),λ b o e Z=>?_,I.base.rN,I.base.pM,I.base.se⟩
  .
   obtain ⟨sl,c⟩:=I.base.slot b o e n h (by simp [fQ])
   obtain ⟨B,a,j⟩:=F b h
   rw [c] at a
   cases a
   obtain ⟨D,p⟩:=l b _ (k.keeps b _ c) j
   exact ⟨D,p⟩
  .
   obtain ⟨O,c⟩:=I.base.there b o e (by simp [fQ])
   by_cases h:b∈iV outer
   . obtain ⟨B,a,j⟩:=F b h
     obtain ⟨D,p⟩:=l b _ (k.keeps b _ a) j
     exact ⟨_,p⟩
   . exact ⟨O,r b O c (m b o e h)⟩
 .
  intro b o e h O G
  obtain ⟨B,c⟩:=I.base.there b o e (by simp [fQ])
  have a:=r b B c (m b o e h)
  rw [a] at G
  cases G
  exact o0 c (m b o e h)
def sL (hE:∀ cls d H,E' cls d H->E cls d H):Passes (CQ P w) (fQ (CQ P w) P w K mg base N qual scope f cd A outer s₀ H₀ E) E':=by
 intro R U H s e S I hc
 obtain ⟨x,cls,H',rfl,F,dd,W,he⟩:=hc
 obtain ⟨G,B,v,J,V⟩:=F.fly
 have Y:(envOfC qual scope s₀.heap.objs.size f cd).frame=some s₀.heap.objs.size:=rfl
 have fr:=I.ok.frames
 show wpAny _ _ (leaving _ _) _ _ _
 refine aa0 (mL (j6 _ _) (wpAny_leaves_onW (E:=λ Z Z=>False) (Q:=λ Z T=>∃ j,T={ S with heap:=j }/\Heap.FlyingW B outer x cls G j/\S.heap.UpToSlots j) (outer:=outer) fr Y v λ j k r=>⟨j,rfl,k,r⟩)) (λ Z T z=>?_) λ Z Z z=>z.1.elim
 obtain ⟨⟨j,rfl,k,r⟩,dk⟩:=z
 have M:∀ b o,s₀.heap.get? b=some o->b∉iV outer->b∉iV (envOfC qual scope s₀.heap.objs.size f cd::outer):=λ b o e n hm=>by
   rcases aaa.mp (show b∈s₀.heap.objs.size::iV outer from hm) with z|z
   . exact absurd (aao e) (by rw [z];exact aa9 _)
   . exact n z
 have g:∀ b:ai,b∉(fQ (CQ P w) P w K mg base N qual scope f cd A outer s₀ H₀ E).ex:=λ b=>by simp [fQ]
 have l:∀ b o,s₀.heap.get? b=some o->b∉iV outer->∃ o',S.heap.get? b=some o'/\B.get? b=some o'/\j.get? b=some o':=λ b o e n=>by
   obtain ⟨O,a⟩:=I.base.there b o e (g b)
   obtain ⟨C,c⟩:=F.un.there b O a (by simp)
   have i:=J b O a (M b o e n) C c
   exact ⟨C,c,i,k.1 b C i⟩
 have m:∀ b∈iV outer,∃ o,S.heap.get? b=some o/\∀ vs,o.data ≠ .fields vs:=λ b h=>(v.2.2.1.mem (aak (s₀.heap.objs.size) h:b∈iV (envOfC qual scope s₀.heap.objs.size f cd::outer))).2
 refine ⟨x,cls,H',rfl,⟨F.os.trans I.os,F.bare,?_,Co F.cA k.1 v.1 V,G,B,k,?_,V⟩,dd,W.kept dk,hE _ _ _ he⟩
 .
  refine ⟨λ b o e n h Z=>?_,λ b o e n h Z=>?_,λ b o e n Z=>?_,λ b o e Z=>?_,λ b X q=>F.un.rN b X (I.base.rN b X q),λ b L u q=>F.un.pM b L u (I.base.pM b L u q),λ b ps q=>?_⟩
  . have a:=I.base.keep b o e n h (g b)
    have c:=F.un.keep b o a (I.base.free b o e n (g b)) (M b o e h) (by simp)
    exact k.1 b o (J b o a (M b o e h) o c)
  .
   obtain ⟨sl,a⟩:=I.base.slot b o e n h (g b)
   obtain ⟨ZY,c⟩:=F.un.slot b _ a (I.base.free b o e n (g b)) (aak (s₀.heap.objs.size) h:b∈iV (envOfC qual scope s₀.heap.objs.size f cd::outer)) (by simp)
   obtain ⟨O,i,y⟩:=m b h
   rw [c] at i
   cases i
   obtain ⟨D,t⟩:=r b _ c y
   exact ⟨D,t⟩
  . obtain ⟨O,a⟩:=I.base.there b o e (g b)
    exact F.un.free b O a (I.base.free b o e n (g b)) (by simp)
  .
   by_cases h:b∈iV outer
   . obtain ⟨O,i,y⟩:=m b h
     obtain ⟨D,t⟩:=r b _ i y
     exact ⟨_,t⟩
   . obtain ⟨o',Z,Z,p⟩:=l b o e h
     exact ⟨o',p⟩
  . obtain ⟨m1,a⟩:=I.base.se b ps q
    obtain ⟨m2,c⟩:=F.un.se b _ a
    exact ⟨m1++m2,by rw [c,aer]⟩
 .
  intro b o e h o' p
  obtain ⟨O,Z,a,c⟩:=l b o e h
  rw [c] at p
  cases p
  exact a
end
def Lj {K:aC} {h:aU} {C:ai} {s:aZ} {newId:String} (X:K.In h) (q:W.excIn K C s newId=true) :
   ∃ bm N nm q bs hdct sn sub ab col dd k0 k1 k2 k3 k5 mN,h.get? C=some (excClassObj nm q C N bs bm hdct sn sub ab col dd k0 k1 k2 k3 k5 newId)/\h.Ns N mN/\mN "__init__" = none/\OwnTail h s bm:=by
 unfold W.excIn at q
 split at q
 .
  rename_i dd b sl f
  split at q
  .
   rename_i j bm k0 k1 k2 k3 n k5 H a
   simp only [aaq,abG,aby] at q
   obtain ⟨⟨⟨⟨⟨rfl,rfl⟩,p⟩,g⟩,c⟩,O⟩:=q
   obtain ⟨nm,bs,m,i,Q,e,sn,sub,ab,col,d⟩:=b
   dsimp only at H p c O
   subst H p
   have o:sl=#[k0,k1,k2,k3,some (.builtin n),k5]:=by
     obtain ⟨l⟩:=sl
     simp only at a
     rw [a]
   subst o
   exact ⟨bm,i,nm,Q,bs,e,sn,sub,ab,col,dd,k0,k1,k2,k3,k5,_,X _ _ f,.of_isNs (W.isNs_of_in X c),W.nsMap_none_of_in X c O,W.tail_of_in X g⟩
  . cases q
 . cases q
section
variable {X:Cx}
def Nl (C:ai) (E:XK) (t:TA):TS:=λ Z U H=>t U H λ v h=>v.length<=sizeLine/\E (.ref C) none h
def o8 {c:Str} {C:ai} {B j2:String} {u:aZ} {newId:String} {rest:List Expr} {d:Pos} {t:TA} (Q:X.calm=true) (F:ExcBaseFacts B newId j2 u) (Y:X.mg c=some (.ref C)) (q:W.excIn X.K C u newId=true) (th:Thr X E) (L:PA X (e₀::rest) t) (V:Gl X c:=by rfl) (R:(c == ("__debug__" : Str))=false:=by decide) (j:starEach (e₀::rest) X.env=(false,eval e₀ X.env)::starEach rest X.env:=by rfl) (ky:(backTo fc (starEach rest X.env)).any (·.1)=false:=by rfl) :
   PS X (.Raise (some (.Call (.Name c np) (e₀::rest) [] fc)) none d) (Nl C E t):=by
 intro p s U H D I h
 obtain ⟨tl,N,r,qn,e,a,v,S,A,b,f,k,l,m,n,o,M,G,J,O,T⟩:=Lj I.ok.mod.Mg q
 refine wpAny_Raise_call_subT (C:=C) (nm:=r) (q:=qn) (N:=N) (bs:=e) (bm:=tl) (hdct:=a) (sn:=v) (sub:=S) (ab:=A) (col:=b) (dd:=f) (k0:=k) (k1:=l) (k2:=m) (k3:=n) (k5:=o)
   F (mN:=M) (T.hasType F.hasBase) (I.ok.hd Q) (by rw [j];show (false || (backTo fc (starEach rest X.env)).any (·.1))=false;rw [ky];rfl) O (o4 I V Y ⟨rfl,?_⟩ R)
 have g:=L fc p s U H _ I h
 rw [j] at g |-
 refine acu (aa0 g (λ us s2 ⟨vs,w,i,r2,hz,q2⟩=>⟨rfl,by rw [<- r2.length];exact hz,i.bk _ _ G,J.keeps i.bk,T.keeps i.bk,λ z x hx=>?_⟩) λ Z Z y=>y)
 exact th p U w s2 z x _ _ i hx q2
end
section
variable {P:bq} {w:bh} {K:aC} {mg:cy} {base:aU}
def ic.Vi {k:Nat} {f:ai} {a:FuncData} {p:cp} {S:Sp} (F:ic P w K mg base (CQ P w) k f a p S):ic P w K mg base uX k f a p (λ vs H Q Z=>S vs H Q E0) :=
 ⟨λ vs H Q Z h=>F.len vs H Q E0 h,λ A outer s H args u vs Q E g b d r i=>acH (F.run A outer s H args u vs Q E0 g b d r i) λ r j h=>by
   cases r with
   | error e=>obtain ⟨Z,Z,Z,Z,Z,Z,Z,z⟩:=h;exact False.elim z
   | ok c=>cases c<;>exact h⟩
end
def Cx.held (X:Cx) (e:ai) (o:Obj):Cx:={ X with A:=X.A.mark (some (.ref e)),calm:=false,pn:=X.pn++[(e,o)],xe:=λ Z Z=>False }
structure IH (K:aC) (C:ai):Prop where
 ga:W.findIn K (.ref C) "__getattribute__" = some (some (.builtin "BaseException.__getattribute__"))
 gt:W.findIn K (.ref C) "__getattr__" = some none
 cl:W.findIn K (.ref C) "__class__" = some (some (.builtin "object.__class__"))
 gs:W.specialIn K (.builtin "object.__class__") "__get__" = some (some (.builtin "getset_descriptor.__get__"))
 tk:W.takesIn K (.builtin "object.__class__")=some true
 mo:W.mroIn K C (.type "object")=some true
 mb:W.mroIn K C (.type "BaseException")=some true
 is:(W.clsIn K C).isSome=true
open PySem.Builtin PySem.Builtin.ObjectAttr
section
variable {K:aC} {prog:bq} {w:bh} {A:Around} {E:au->Shared->Prop} {s:Shared} {x C:ai} {name:Str} {v:au}
def mw:aZ->Bool
 | []=>false
 | .ref _::r=>mw r
 | c::r=>decide (c::r=[.type "ValueError",.type "Exception",.type "BaseException",.type "object"])
def jl (K:aC) (C:ai):Bool:=(W.clsIn K C).any λ c=>mw c.mro
def mJ {l:aZ} (e:mw l=true):(∃ c r,l = .ref c::r/\mw r=true)\/l=[.type "ValueError",.type "Exception",.type "BaseException",.type "object"]:=by
 cases l with
 | nil=>cases e
 | cons c r =>
   cases c with
   | ref a=>exact .inl ⟨a,r,rfl,e⟩
   | _=>exact .inr (ac8 e)
theorem sS (self:au):∀ (n:Nat) {l:aZ},l.length<=n->mw l=true->refuseLoop self "__setattr__" l=pure ()
 | 0,l,h,e=>by
   have:l=[]:=ab4.mp (Nat.le_zero.mp h)
   subst this
   cases e
 | n+1,l,h,e=>by
   rcases mJ e with ⟨c,r,rfl,E⟩|rfl
   . rw [refuseLoop_ref]
     exact sS self n (adP h) E
   . exact PySem.F.store_ValueError.passes self
theorem qP:∀ (n:Nat) {l:aZ},l.length<=n->mw l=true->l.contains (.type "object")=true/\l.isEmpty=false
 | 0,l,h,e=>by
   have:l=[]:=ab4.mp (Nat.le_zero.mp h)
   subst this
   cases e
 | n+1,l,h,e=>by
   rcases mJ e with ⟨c,r,rfl,E⟩|rfl
   . refine ⟨?_,rfl⟩
     rw [aeo,(qP n (adP h) E).1,ad0]
   . exact ⟨by simp,rfl⟩
def DP {O:Obj} {o:Option Obj} {t:Tok} {R:Result->Shared->Prop} (X:K.In s.heap) (J:W.InstAt s.heap x O C o) (l:jl K C=true) (g:W.findIn K (.ref C) name=some none) (h:wpAny (model prog w) A.in1 (storeInOwnDict (.ref x) (.ref C) (.str name t) name v false)
     (λ a s'=>match a with | .done f=>R (.ok f) s' | .again c'=>c'.quiet=true/\codeAny (model prog w) A c' R s') (λ e s'=>R (.error e) s') s) :
   codeAny (model prog w) A (.call (.builtin "object.__setattr__") ⟨[.ref x,.str name t,v],[]⟩) R s:=by
 obtain ⟨c,b,H⟩:=aem l
 obtain ⟨m,j⟩:=qP _ (aaf _) H
 have d:W.mroIn K C (.type "object")=some true:=by
   unfold W.mroIn
   rw [b]
   show (if c.mro.isEmpty=true then none else some (c.mro.contains (.type "object")))=some true
   rw [aam (by rw [j];exact aah),m]
 have top:W.Looks (model prog w) s.heap (isInstance (.ref x) (.type "object")) true:=J.type.andThen (W.looks_mroIn X d)
 have S:=PySem.F.store_object
 refine codeAny_call_builtin S.slot.plain S.entry (W.check_slot (M:=model prog w) (s:=s) (i:="object.__setattr__") (owner:="object") (n:="__setattr__") (self:=.ref x) (rest:=[.str name t,v]) (kw:=[]) S.kind S.split top (S.args (.ref x) (.str name t) v) ?_)
 have k:W.Looks (model prog w) s.heap (mroOf (.ref C)) c.mro:=W.Looks.andThen (adp X b) .now
 have L:W.Looks (model prog w) s.heap (storeTaker? none) none:=.now
 rw [W.osa_eq,refuse_eq]
 refine UV (UV (J.type.here (UV (k.here ?_))))
 rw [sS _ _ (aaf _) H]
 refine aas (UV (J.type.here (UV ((W.looks_findIn X g).here (UV (L.here ?_))))))
 exact h
def F2 (C t:ai) (d:Option ai):Obj:={ cls:=.ref C,dict:=d,data:=.fields #[.ref t,.none,.none,.none,.bool false,.none]}
def Kw {t:ai} {Q:Unit->Shared->Prop} (X:K.In s.heap) (H:s.heap.get? x=some (F2 C t none)) (B:W.findIn K (.ref C) "__setattr__" = some (some (.builtin "object.__setattr__"))) (z:jl K C=true) (D:W.findIn K (.ref C) name=some none) (u:W.hasDictIn K C=true) (h:∀ h',h'.get? x=some (F2 C t (some s.heap.objs.size))->h'.Ns1 s.heap.objs.size (λ y=>if y=name then some v else none)->(∀ b o,b≠x->s.heap.get? b=some o->h'.get? b=some o)->Q () { s with heap:=h',toks:=s.toks+2 }) :
   wpAny (model prog w) A (setAttr (.ref x) name v) Q E s:=by
 have J:W.InstAt s.heap x (F2 C t none) C none:=⟨H,rfl,rfl,trivial⟩
 refine W.set_plain X J B (DP (s:={ s with toks:=s.toks+1 }) X J z D ?_)
 obtain ⟨M,r,i⟩:=aem u
 refine UV (aas (UV (UV (ad9 H (UV (W.Looks.here (s:={ s with toks:=s.toks+1 }) (adp X r) ?_))))))
 rw [i]
 rw [aam (by decide)]
 show wpAny _ _ (alloc { cls:=.type "dict",data:=.dict #[]} >>= λ d=>update x (λ o=>{ o with dict:=some d }) >>= λ Z=>dictMade (.ref C) x d) _ _ _
 have m:=aao H
 have c:(s.heap.push { cls:=.type "dict",data:=.dict #[]}).get? x=some (F2 C t none):=aac _ H
 have f:((s.heap.push { cls:=.type "dict",data:=.dict #[]}).update x (λ o=>{ o with dict:=some s.heap.objs.size })).get? x=some (F2 C t (some s.heap.objs.size)):=abT _ c rfl
 have I:((s.heap.push { cls:=.type "dict",data:=.dict #[]}).update x (λ o=>{ o with dict:=some s.heap.objs.size })).get? s.heap.objs.size=some { cls:=.type "dict",data:=.dict #[]}:=by
   rw [abR _ _ (aaB m)]
   exact aaK _ rfl
 have F:((s.heap.push { cls:=.type "dict",data:=.dict #[]}).update x (λ o=>{ o with dict:=some s.heap.objs.size })).Ns1 s.heap.objs.size (λ Z=>none) :=
   ⟨_,#[],_,I,rfl,(λ e H=>absurd H (by simp)),(by simp [UniqKeys]),λ Z=>rfl⟩
 refine UV (wpAny_alloc ?_)
 refine UV (wpAny_update c ?_)
 refine aas (a:=some s.heap.objs.size) ?_
 refine UV (aas (UV ?_))
 refine wpAny_nsSet1 (s:={ s with heap:=(s.heap.push { cls:=.type "dict",data:=.dict #[]}).update x (λ o=>{ o with dict:=some s.heap.objs.size }),toks:=s.toks+1 }) F λ h' L g=>?_
 obtain ⟨O,n,l,j,T,k⟩:=L.count (acz name v (ns:=[]) (λ y G=>absurd rfl G))
 refine UV (adG j (by rw [T];exact adH (aaT k (by rw [aaD,ab3,adh];lia))) ?_)
 refine aas (h h' ((g.2 _ (aaB m)).trans f) L λ b o p q=>?_)
 rw [g.2 b (aaB (aao q))]
 show ((s.heap.push _).update x _).get? b=some o
 rw [abR _ _ (abA p)]
 exact aac _ q
end
open PySem.Builtin PySem.Builtin.ObjectAttr
structure ExcAt (K:aC) (C:ai) (f:Str):Prop where
 ex:IH K C
 hd:W.hasDictIn K C=true
 no:W.findIn K (.ref C) f=some none
 sa:W.findIn K (.ref C) "__setattr__" = some (some (.builtin "object.__setattr__"))
 po:jl K C=true
def XO (x C t:ai) (d:Option ai):HO:=.ext λ h=>h.get? x=some (F2 C t d)
section
variable {prog:bq} {w:bh} {A:Around} {E:au->Shared->Prop} {h:aU} {g:Array GenState} {d:Drawn} {t:Nat} {os:OsState}
variable {nm q:Str} {C N:ai} {bs bm sB:aZ} {hdct:Bool} {sn:cp} {sub:aZ} {ab:Bool} {col:Option Bool} {dd:Option ai} {k0 k1 k2 k3 k5:kK} {B newId j2:String}
def rS (F:ExcBaseFacts B newId j2 sB) (T:OwnTail h sB bm) {mN:cy} {rest:aZ} {fI:ai} {Q:Fin->Shared->Prop} (f:h.get? C=some (excClassObj nm q C N bs bm hdct sn sub ab col dd k0 k1 k2 k3 k5 newId)) (p:h.Ns N mN) (m:mN "__init__" = some (.ref fI)) (O:h.get? fI=some oI) (n:oI.cls = .type "function") (s:∀ h' e,h.objs.size<=e->Heap.MadeExcOf h h' e (.ref C) rest->wpAny (model prog w) A (call (.ref fI) (.ref e::rest)) (λ r s'=>r = .none/\Q (.done (.ret (.ref e))) s') E ⟨h',g,d,t,os⟩) (hrest:rest.length<=sizeLine) :
   wpAny (model prog w) A (Builtin.«type.__call__» ⟨.ref C::rest,[]⟩) Q E ⟨h,g,d,t,os⟩:=by
 repeat (first|with_reducible refine ack f ?_|with_reducible refine wpAny_madeBy_exc f ?_|wp_step)
 refine codeAny_call_builtin_code (Code.quiet_builtin _ F.quiet) (wpAny_check_new_subT F T f ?_)
 refine codeAny_exc_new_subT F T f ?_ hrest
 show wpAny _ _ _ _ _ _
 have k:∀ b o,h.get? b=some o->((h.push { cls:=.type "tuple",data:=.seq rest.toArray }).push { cls:=.ref C,data:=.fields #[.ref h.objs.size,.none,.none,.none,.bool false,.none]}).get? b=some o :=
   λ b o e=>aac _ (aac _ e)
 have H:=k _ _ f
 have Y:=k _ _ O
 have a:=p.keeps k
 have c:=T.keeps k
 have j:((h.push { cls:=.type "tuple",data:=.seq rest.toArray }).push
     { cls:=.ref C,data:=.fields #[.ref h.objs.size,.none,.none,.none,.bool false,.none]}).get? (h.objs.size+1)=some
     { cls:=.ref C,data:=.fields #[.ref h.objs.size,.none,.none,.none,.bool false,.none]}:=by heap_get
 have i:(Value.ref C::bm).contains (.ref C)=true:=by simp
 unfold isInstance
 repeat (first|with_reducible refine ack j ?_|(with_reducible refine wpAny_isSubtype_exc H ?_;rw [i])|wp_step)
 show wpAny _ _ (typeLookup (.ref C) _) _ _ _
 refine wpAny_typeLookup_tail H a c F.mroIs F.init.lookup ?_
 rw [m]
 refine ab9 (UV ?_)
 unfold bindSpecial
 refine UV (wpAny_typeOf (T:="function") ⟨_,Y,n⟩ ?_)
 rw [aan (by decide)]
 refine aas (UV (aa0 (s _ (h.objs.size+1) (abO _) ⟨k,act (abO _),h.objs.size,j,act (aaf _),aac _ (Heap.get?_push_at rfl rfl)⟩) (λ r s' u=>?_) λ Z Z x=>x))
 obtain ⟨rfl,l⟩:=u
 wp_walk
 exact l
def Bu (F:ExcBaseFacts B newId j2 sB) (T:OwnTail h sB bm) {mN:cy} {rest:aZ} {fI:ai} {Q:au->Shared->Prop} (H:h.get? C=some (excClassObj nm q C N bs bm hdct sn sub ab col dd k0 k1 k2 k3 k5 newId)) (f:h.Ns N mN) (b:mN "__init__" = some (.ref fI)) (O:h.get? fI=some oI) (n:oI.cls = .type "function") (i:∀ h' e,h.objs.size<=e->Heap.MadeExcOf h h' e (.ref C) rest->wpAny (model prog w) (A.under (.builtin "type.__call__" ⟨.ref C::rest,[]⟩)) (call (.ref fI) (.ref e::rest)) (λ r s'=>r = .none/\Q (.ref e) s') E ⟨h',g,d,t,os⟩) (hrest:rest.length<=sizeLine) :
   wpAny (model prog w) A (call (.ref C) rest) Q E ⟨h,g,d,t,os⟩:=by
 have j:=tc_lookup
 have k:=tc_bind (.ref C)
 have l:(⟨h,g,d,t,os⟩:Shared).TypeIs (.ref C) "type":=⟨_,H,rfl⟩
 refine aej (codeAny_of_tree ?_)
 show wpAny _ _ (callAny (.ref C) _) _ _ _
 repeat (any_goals (first|assumption|with_reducible refine ack H ?_|wp_step))
 refine ⟨rfl,?_⟩
 refine codeAny_call_builtin_at (Code.quiet_builtin _ (by decide +kernel)) entry_typeCall (wpAny_check_type_call_sub H (rS (hrest:=hrest) F T H f b O n λ h' e a c=>?_))
 exact i h' e a c
end
section
variable {M:Model} {A:Around} {E:au->Shared->Prop} {env:Env}
variable {nm q:Str} {C N:ai} {bs bm:aZ} {hdct:Bool} {sn:cp} {sub:aZ} {ab:Bool} {col:Option Bool} {dd:Option ai} {k0 k1 k2 k3 k5:kK} {newId:String}
def Ac {s:Shared} {x:Sem au} {Q:Flow->Shared->Prop} (j:bm.contains (.type "BaseException")=true) (i:A.handled=none) (h:wpAny M A x (λ v S=>∃ e t O,v = .ref e/\S.heap.get? C=some (excClassObj nm q C N bs bm hdct sn sub ab col dd k0 k1 k2 k3 k5 newId)/\S.heap.get? e=some { cls:=.ref C,dict:=O,data:=.fields #[.ref t,.none,.none,.none,.bool false,.none]}/\E (.ref e) S) E s) :
   wpAny M A (raiseStmt env (some x) none) Q E s:=by
 have a:(Value.ref C::bm).contains (.type "BaseException")=true:=by rw [aeo,j,ad0]
 unfold raiseStmt
 refine UV (aa0 h (λ v S H=>?_) λ Z Z x=>x)
 obtain ⟨e,t,O,rfl,b,f,c⟩:=H
 obtain ⟨k,g,d,T,o⟩:=S
 repeat (first|with_reducible refine ack f ?_|with_reducible refine ack b ?_|(with_reducible refine wpAny_isSubtype_exc b ?_;rw [a])|wp_step)
 exact wpAny_raiseNew_none i c
end
section
variable {prog:bq} {w:bh} {A:Around} {E:au->Shared->Prop} {s:Shared} {env:Env}
variable {nm q:Str} {C N:ai} {bs bm sB:aZ} {hdct:Bool} {sn:cp} {sub:aZ} {ab:Bool} {col:Option Bool} {dd:Option ai} {k0 k1 k2 k3 k5:kK} {B newId j2:String}
def Ap (F:ExcBaseFacts B newId j2 sB) {mN:cy} {fI:ai} {x:Str} {p:Pos} {args:List Expr} {Q:Flow->Shared->Prop} (M:bm.contains (.type "BaseException")=true) (G:A.handled=none) (L:(backTo fc (starEach args env)).any (·.1)=false) (I:mN "__init__" = some (.ref fI)) (h:wpAny (model prog w) A (eval (.Name x np) env) (λ f c=>f = .ref C/\wpAny (model prog w) A (evalArgs (.ref C) true (backTo fc (starEach args env)) [])
     (λ a S=>a.kw=[]/\a.pos.length<=sizeLine/\S.heap.get? C=some (excClassObj nm q C N bs bm hdct sn sub ab col dd k0 k1 k2 k3 k5 newId)/\S.heap.Ns N mN/\OwnTail S.heap sB bm/\(∃ oI,S.heap.get? fI=some oI/\oI.cls = .type "function") /\
       ∀ h' e,S.heap.objs.size<=e->Heap.MadeExcOf S.heap h' e (.ref C) a.pos->wpAny (model prog w) (A.under (.builtin "type.__call__" ⟨.ref C::a.pos,[]⟩)) (call (.ref fI) (.ref e::a.pos))
         (λ r s'=>r = .none/\s'.heap.get? C=some (excClassObj nm q C N bs bm hdct sn sub ab col dd k0 k1 k2 k3 k5 newId)/\(∃ t O,s'.heap.get? e=some { cls:=.ref C,dict:=O,data:=.fields #[.ref t,.none,.none,.none,.bool false,.none]})/\E (.ref e) s') E { S with heap:=h' }) E c) E s) :
   wpAny (model prog w) A (exec (.Raise (some (.Call (.Name x np) args [] fc)) none p) env) Q E s:=by
 rw [arm_exec_Raise]
 refine UV (acw (Ac (C:=C) (nm:=nm) (q:=q) (N:=N) (bs:=bs) (bm:=bm) (hdct:=hdct) (sn:=sn) (sub:=sub) (ab:=ab) (col:=col) (dd:=dd) (k0:=k0) (k1:=k1) (k2:=k2) (k3:=k3) (k5:=k5) (newId:=newId) M G ?_))
 refine UV (aa0 (wpAny_Call_ofName (aa0 h (λ f c H=>?_) λ Z Z x=>x)) (λ v o j=>UV (acw (aas j))) λ Z Z x=>x)
 obtain ⟨rfl,H⟩:=H
 unfold callWith
 refine UV (ab9 (aa0 H (λ a S b=>UV (acw ?_)) λ Z Z x=>x))
 obtain ⟨m,k⟩:=a
 obtain ⟨D,i,n,K,T,⟨oI,y,u⟩,b⟩:=b
 obtain rfl:k=[]:=D
 obtain ⟨X,g,d,tk,Y⟩:=S
 simp only [L]
 refine UV (wpAny_keeperOf_exc n ?_)
 refine UV (Bu (hrest:=i) F T n K I y u λ h' e l J=>?_)
 refine aa0 (b h' e l J) (λ r s' z=>?_) λ Z Z z=>z
 obtain ⟨R,U,⟨t,O,W⟩,V⟩:=z
 exact ⟨R,UV (ab9 (wpAny_point (aas ⟨e,t,O,rfl,U,W,V⟩)))⟩
end
def Fs {P:bq} {w:bh} {h:aU} (x:kR P w H h) {b:ai} (e:H b=some u):∃ o,h.get? b=some o:=by
 have ok:=x b u e
 cases u with
 | lst X=>obtain ⟨Z,Z,Z,Z,e⟩:=ok;exact ⟨_,e⟩
 | tup X=>obtain ⟨Z,Z,Z,o,e,Z⟩:=ok;exact ⟨_,e⟩
 | dK a=>obtain ⟨Z,Z,Z,Z,o,Z,Z,e,Z⟩:=ok;exact ⟨_,e⟩
 | dT a=>obtain ⟨Z,Z,Z,Z,o,Z,Z,e,Z⟩:=ok;exact ⟨_,e⟩
 | set S n=>obtain ⟨o,Z,Z,Z,e,Z⟩:=ok;exact ⟨_,e⟩
 | ins C d F=>obtain ⟨Z,Z,Z,e,Z⟩:=ok;exact ⟨_,e⟩
 | own y=>obtain ⟨Z,e⟩:=ok;exact ⟨_,e⟩
 | xd F=>obtain ⟨Z,⟨Z,Z,Z,e,Z⟩,Z⟩:=ok;exact ⟨_,e⟩
 | Q0 l c=>obtain ⟨Z,Z,Z,e⟩:=ok;exact ⟨_,e⟩
 | yX O u=>obtain ⟨e,Z⟩:=ok;exact ⟨_,e⟩
 | Lp p=>exact ⟨_,ok⟩
 | met f y=>exact ⟨_,ok⟩
 | ext g=>obtain ⟨Z,⟨Z,e⟩,Z⟩:=ok;exact ⟨_,e⟩
def i5 (H:Hp) (e:ai):Hp:=λ b=>if b=e then none else H b
def wO {e b:ai} (h:i5 H e b=some u):b≠e/\H b=some u:=by
 unfold i5 at h
 split at h
 . cases h
 . rename_i n;exact ⟨n,h⟩
def gh {e b:ai} (n:b≠e):i5 H e b=H b:=by unfold i5;rw [aam n]
def Ft {P:bq} {w:bh} {h:aU} {e:ai} {d:aU->Prop} (x:kR P w H h) (a:H e=some (.ext d)):kR P w (i5 H e) h:=λ b u q=>by
 obtain ⟨n,q⟩:=wO q
 refine (x b u q).fT (λ Z Z Z z=>z) (λ c z=>?_) λ c X z=>?_
 . rw [gh (λ y=>by rw [y,a] at z;cases z)];exact z
 . rw [gh (λ y=>by rw [y,a] at z;cases z)];exact z
section
variable {P:bq} {w:bh} {K:aC} {mg:cy} {base:aU} {N:cp} {qual:Str} {scope:Scope} {f:ai} {cd:au} {A:Around} {outer:List Env} {s₀:Shared} {H₀:Hp} {E E':XK}
def Tk {p:List (ai×Obj)} {s:Shared} {x C t:ai} {D:Option ai} (hE:∀ cls d H,E' cls d H->E cls d H) (I:Inv (fQ (CQ P w) P w K mg base N qual scope f cd A outer s₀ H₀ E) p U H s) (g:H x=some (XO x C t D)) (CO:∀ o,s₀.heap.get? x≠some o) (B:E' (.ref C) D (i5 H x)):(fQ (CQ P w) P w K mg base N qual scope f cd A outer s₀ H₀ E).xe (.ref x) s:=by
 have R:s.heap.get? x=some (F2 C t D):=(I.cA x _ g).1
 have L1:(envOfC qual scope s₀.heap.objs.size f cd).frame=some s₀.heap.objs.size:=rfl
 have fr:=I.ok.frames
 have st:=I.stack
 have ab:x∉iV (envOfC qual scope s₀.heap.objs.size f cd::outer):=λ z=>by have:=I.oV x z;rw [g] at this;cases this
 have yx:∀ env∈(envOfC qual scope s₀.heap.objs.size f cd::outer),∀ b,env.frame=some b->b∈x::iV (envOfC qual scope s₀.heap.objs.size f cd::outer):=λ env B b h=>aak _ (acs.mpr ⟨env,B,h⟩)
 have X:∀ b o,s.heap.get? b=some o->b≠x->b∉iV (envOfC qual scope s₀.heap.objs.size f cd::outer)->(W.hideAll s.heap (x::iV (envOfC qual scope s₀.heap.objs.size f cd::outer))).get? b=some o:=λ b o e G n2 =>
   o0 e λ z=>(aaa.mp z).elim G n2
 show wpAny _ _ (leaving _ _) _ _ _
 refine aa0 (mL (j6 _ _) (wpAny_leaving_firstW (E:=λ Z Z=>False) (Q:=λ Z T=>∃ j,T={ s with heap:=j }/\Heap.FlyingW (W.hideAll s.heap (x::iV (envOfC qual scope s₀.heap.objs.size f cd::outer))) outer x (.ref C) (.ref t) j/\s.heap.UpToSlots j)
   (base:=W.hideAll s.heap (x::iV (envOfC qual scope s₀.heap.objs.size f cd::outer))) (a0:=.ref t) fr (W.funFrames_hide st yx) L1 R (λ b o q=>ac3 _ q) (aea _ (.head _)) rfl rfl rfl λ h' hL=>?_)) (λ Z T z=>?_) λ Z Z z=>z.1.elim
 . obtain ⟨k1,⟨Z,Z,k2⟩,k3,k4⟩:=hL
   exact ⟨h',rfl,⟨k1,aea _ (.head _),k2,k3⟩,k4⟩
 obtain ⟨⟨j,rfl,v,Y⟩,dk⟩:=z
 have M:∀ b o,s₀.heap.get? b=some o->b∉iV outer->b∉iV (envOfC qual scope s₀.heap.objs.size f cd::outer):=λ b o e n hm=>by
   rcases aaa.mp (show b∈s₀.heap.objs.size::iV outer from hm) with z|z
   . exact absurd (aao e) (by rw [z];exact aa9 _)
   . exact n z
 have F:∀ b o,s₀.heap.get? b=some o->b≠x:=λ b o e z=>CO o (z ▸ e)
 have r:∀ b o,s.heap.get? b=some o->b≠x->b∉iV (envOfC qual scope s₀.heap.objs.size f cd::outer)->j.get? b=some o:=λ b o e G n=>v.1 b o (X b o e G n)
 have i:∀ b∈iV outer,∃ o,s.heap.get? b=some o/\∀ vs,o.data ≠ .fields vs:=λ b h=>(I.ok.nQ.mem h).2 |> λ ⟨o,e,k⟩=>by
   obtain ⟨sl,a⟩:=I.base.slot b o e (I.ok.Kb b h) h (by intro z;exact absurd (show b∈([]:bZ) from z) (by simp))
   exact ⟨_,a,k⟩
 have V:∀ b u,i5 H x b=some u->∃ o,(W.hideAll s.heap (x::iV (envOfC qual scope s₀.heap.objs.size f cd::outer))).get? b=some o:=λ b u e=>by
   obtain ⟨n,e⟩:=wO e
   have nf:b∉iV (envOfC qual scope s₀.heap.objs.size f cd::outer):=λ z=>by rw [I.oV b z] at e;cases e
   obtain ⟨o,q⟩:=Fs I.cA e
   exact ⟨o,X b o q n nf⟩
 refine ⟨x,.ref C,i5 H x,rfl,⟨I.os,I.bare,?_,Co (Ft I.cA g) v.1 (λ b o q=>ac3 _ q) V,_,_,v,?_,V⟩,D,XD.kept dk ⟨_,R,rfl⟩,hE _ _ _ B⟩
 .
  refine ⟨λ b o e n h Z=>r b o (I.base.keep b o e n h (by simp [fQ])) (F b o e) (M b o e h),λ b o e n h Z=>?_,λ b o e n Z=>by rw [gh (F b o e)];exact I.base.free b o e n (by simp [fQ]),λ b o e Z=>?_,λ b xs q=>?_,λ b ob u q=>?_,λ b ps q=>?_⟩
  .
   obtain ⟨sl,c⟩:=I.base.slot b o e n h (by simp [fQ])
   obtain ⟨J,a,k⟩:=i b h
   rw [c] at a
   cases a
   obtain ⟨L,l⟩:=Y b _ c k
   exact ⟨L,l⟩
  .
   obtain ⟨O,c⟩:=I.base.there b o e (by simp [fQ])
   by_cases h:b∈iV outer
   . obtain ⟨J,a,k⟩:=i b h
     obtain ⟨L,l⟩:=Y b _ a k
     exact ⟨_,l⟩
   . exact ⟨O,r b O c (F b o e) (M b o e h)⟩
  . have z:=I.base.rN b xs q
    rw [gh (λ y=>by rw [y,g] at z;cases z)];exact z
  . have z:=I.base.pM b ob u q
    rw [gh (λ y=>by rw [y,g] at z;cases z)];exact z
  . obtain ⟨m,z⟩:=I.base.se b ps q
    exact ⟨m,by rw [gh (λ y=>by rw [y,g] at z;cases z)];exact z⟩
 .
  intro b o e h O S
  obtain ⟨J,c⟩:=I.base.there b o e (by simp [fQ])
  have a:=r b J c (F b o e) (M b o e h)
  rw [a] at S
  cases S
  exact X b _ c (F b o e) (M b o e h)
end
structure Ly (K:aC) (C fI:ai) (sB:aZ) (newId:String):Prop where
 ex:∀ h:aU,K.In h->∃ bm N nm q bs hdct sn sub ab col dd k0 k1 k2 k3 k5 mN,h.get? C=some (excClassObj nm q C N bs bm hdct sn sub ab col dd k0 k1 k2 k3 k5 newId)/\h.Ns N mN/\mN "__init__" = some (.ref fI)/\OwnTail h sB bm
 fn:∀ h:aU,K.In h->∃ oI,h.get? fI=some oI/\oI.cls = .type "function"
def Nd (X:Cx) (E:XK):Prop:=∀ (p:List (ai×Obj)) (U:St) (H:Hp) (s:Shared) (x C t:ai) (d:Option ai),Inv X p U H s->H x=some (XO x C t d)->(∀ o,X.s₀.heap.get? x=some o->x∈X.ex)->E (.ref C) d (i5 H x)->X.xe (.ref x) s
section
variable {P:bq} {w:bh} {K:aC} {mg:cy} {base:aU} {N:cp} {qual:Str} {scope:Scope} {f:ai} {cd:au} {A:Around} {outer:List Env} {s₀:Shared} {H₀:Hp} {E E':XK}
def Dp (h:∀ cls d H,E' cls d H->E cls d H):Nd (fQ (CQ P w) P w K mg base N qual scope f cd A outer s₀ H₀ E) E':=λ p U H s x C t D I c b a =>
 Tk h I c (λ o q=>absurd (show x∈([]:bZ) from b o q) (by simp)) a
end
section
variable {X:Cx} {k:Nat} {fd:FuncData} {ps:cp} {sp:Sp}
def Ec (C:ai) (E:XK) (s:Sp) (t:TA):TS:=λ Z U H=>t U H λ V h=>V.length<=sizeLine/\∀ x t,h x=none->s (.ref x::V) (upd h x (XO x C t none)) (λ v a=>v = .cn/\∃ d,a x=some (XO x C t d)/\E (.ref C) d (i5 a x)) E0
def ES {c:Str} {C fI:ai} {B j2:String} {sB:aZ} {newId:String} {rest:List Expr} {M:Pos} {t:TA} (hc:X.calm=true) (O:ExcBaseFacts B newId j2 sB) (hm:X.mg c=some (.ref C)) (q:Ly X.K C fI sB newId) (F:ic X.prog X.w X.K X.mg X.base uX k fI fd ps sp) (hr:cR (k+1) X.A) (hb:Binds X.K fd ps []) (th:Nd X E) (ha:PA X (e₀::rest) t) (hg:Gl X c:=by rfl) (hd:(c == ("__debug__" : Str))=false:=by decide) (he:starEach (e₀::rest) X.env=(false,eval e₀ X.env)::starEach rest X.env:=by rfl) (ky:(backTo fc (starEach rest X.env)).any (·.1)=false:=by rfl) :
   PS X (.Raise (some (.Call (.Name c np) (e₀::rest) [] fc)) none M) (Ec C E sp t):=by
 intro f s U H D I h
 obtain ⟨tl,N,nm,qn,bs,b,sn,S,ab,l,dd,k0,k1,k2,k3,k5,mN,hC,hN,hi,T⟩:=q.ex _ I.ok.mod.Mg
 obtain ⟨oI,OG,NZ⟩:=q.fn _ I.ok.mod.Mg
 refine Ap (C:=C) (nm:=nm) (q:=qn) (N:=N) (bs:=bs) (bm:=tl) (hdct:=b) (sn:=sn) (sub:=S) (ab:=ab) (col:=l) (dd:=dd) (k0:=k0) (k1:=k1) (k2:=k2) (k3:=k3) (k5:=k5)
   O (mN:=mN) (fI:=fI) (T.hasType O.hasBase) (I.ok.hd hc) (by rw [he];show (false || (backTo fc (starEach rest X.env)).any (·.1))=false;rw [ky];rfl) hi (o4 I hg hm ⟨rfl,?_⟩ hd)
 have hA:=ha fc f s U H _ I h
 rw [he] at hA |-
 refine acu (aa0 hA (λ g s2 ⟨vs,H2,i,r2,hz,q2⟩=>⟨rfl,by rw [<- r2.length];exact hz,i.bk _ _ hC,hN.keeps i.bk,T.keeps i.bk,⟨oI,i.bk _ _ OG,NZ⟩,λ h' x m L=>?_⟩) λ _ _ y=>y)
 obtain ⟨n,W,_,_⟩:=L.there
 have G:=i.laid (a:=x) (o:=XO x C n none) (h':=h') (t':=s2.toks) L.keeps m ⟨W,⟨_,W⟩,λ h1 h2 p z=>z _ p⟩
 have hq:=q2 x n (i.cA.fresh m)
 have r3:Vals (V.ref x::vs) (Value.ref x::g):=.cons rfl r2
 have hl:(Value.ref x::g++[]).length=ps.length:=by
   have e:=r3.length
   rw [F.len _ _ _ _ hq] at e
   rw [abb]
   exact e.symm
 have R:=hb _ (Value.ref x::g) G.pH hl
 rw [abb] at R
 refine aej (acH (F.run _ X.stack _ _ ⟨Value.ref x::g,[]⟩ (Value.ref x::g) _ _ E0 (hr.make C g []) (G.OJ.make C g []) R r3 hq) λ r s' j=>?_)
 cases r with
 | error e=>exact False.elim j
 | ok fl =>
   cases fl with
   | ret u =>
     obtain ⟨v,H',J,rv,ev,d,Q,hE⟩:=G.after j
     subst ev
     refine ⟨rv,J.bk _ _ hC,⟨n,d,(J.cA x _ Q).1⟩,th f U H' s' x C n d J Q (λ o z=>?_) hE⟩
     by_cases Y:x∈X.ex
     . exact Y
     . obtain ⟨o',e'⟩:=i.base.there x o z Y
       rw [L.new] at e'
       cases e'
   | next=>exact False.elim j
   | brk=>exact False.elim j
   | cont=>exact False.elim j
end
def JR {K:aC} {h:aU} {N:ai} {m:cy} {n:Str} {v:au} (X:K.In h) (G:h.Ns N m) (e:W.nsIn K N n=some (some v)):m n=some v:=by
 obtain ⟨o,a,k,i,H,_,g⟩:=G
 unfold W.nsIn at e
 split at e
 .
  rename_i c d U l sl q
  have E:=X _ _ q
  rw [i] at E
  cases E
  cases H
  rw [<- g]
  have f:nsFind a n=(a.toList.find? λ x=>x.key.isStr n).map (·.val):=by
    unfold nsFind findBy
    rw [<- aeq]
  rw [f]
  split at e
  . rename_i j b
    rw [b]
    cases e
    rfl
  . split at e<;>cases e
 . cases e
def ss (K:aC) (C f:ai) (s:aZ) (newId:String):Bool:=(K.lookup C).any λ o=>decide (o.cls = .type "type") &&
 match o.data with
 | .cls c=>decide (c.mro = .ref C::c.mro.tail) && decide (o.slots.size=6) && decide (o.slots[4]?=some (some (.builtin newId))) && !c.hasDel && W.tailIn K s c.mro.tail && W.nsOkIn K c.ns && decide (W.nsIn K c.ns "__init__" = some (some (.ref f)))
 | _=>false
@[elab_as_elim] theorem dA {α:Type} {motive:List α->Prop} {n:Nat} {us:List α} (h:us.length=n+1) (k:∀ a t,t.length=n->motive (a::t)):motive us:=by
 cases us with
 | nil=>cases h
 | cons a t=>exact k a t (Nat.succ.inj h)
def wI {b:Type} {n:Nat} {l:List b} (h:l.length=n+1):∃ a t,l=a::t/\t.length=n:=dA h λ a t h=>⟨a,t,rfl,h⟩
def DB {K:aC} {C f:ai} {S:aZ} {newId:String} (q:ss K C f S newId=true) (u:W.typeIn K (.ref f)=some (.type "function")):Ly K C f S newId where
 ex:=λ h X=>by
   unfold ss at q
   cases H:K.lookup C with
   | none=>rw [H] at q;cases q
   | some o =>
     rw [H] at q
     obtain ⟨cls,D,data,sl⟩:=o
     simp only [Option.any_some,aaq,aaS] at q
     obtain ⟨rfl,q⟩:=q
     cases data with
     | cls i =>
       obtain ⟨N,B,m,M,Q,t,R,s,A,c,j⟩:=i
       simp only [aaq,aaS,aby] at q
       obtain ⟨⟨⟨⟨⟨⟨v,b⟩,k⟩,rfl⟩,x⟩,e⟩,O⟩:=q
       obtain ⟨l⟩:=sl
       obtain ⟨y,l,rfl,z⟩:=wI (n:=5) (l:=l) b
       obtain ⟨F,l,rfl,g⟩:=wI (n:=4) (l:=l) z
       obtain ⟨G,l,rfl,p⟩:=wI (n:=3) (l:=l) g
       obtain ⟨I,l,rfl,U⟩:=wI (n:=2) (l:=l) p
       obtain ⟨J,l,rfl,w⟩:=wI (n:=1) (l:=l) U
       obtain ⟨L,l,rfl,d⟩:=wI (n:=0) (l:=l) w
       obtain rfl:=ab4.mp d
       have a:J=some (.builtin newId):=by simpa using k
       subst a
       have E:=X _ _ H
       rw [v] at E
       exact ⟨m.tail,M,N,Q,B,t,R,s,A,c,D,y,F,G,I,L,_,E,.of_isNs (W.isNs_of_in X e),JR X (.of_isNs (W.isNs_of_in X e)) O,W.tail_of_in X x⟩
     | _=>cases q
 fn:=λ h X=>by
   obtain ⟨o,H,r⟩:=ab6.mp (show (K.lookup f).map (·.cls)=some (.type "function") from u)
   exact ⟨o,X _ _ H,r⟩
section
variable {X:Cx} {x:Str} {pos:Pos}
def fZ {i:Int} (a:Gl X x) (h:∃ t,X.mg x=some (.int i t)) (H:Ba x:=by decide):PE X (.Name x pos) (tC (.int i)):=by
 obtain ⟨t,h⟩:=h
 exact gZ a h ⟨t,rfl⟩ H
end
def BP (K:aC) (a:ai) (xs:aA):Prop :=
 ∃ (o:Obj) (b:Array au) (n:Nat),K.lookup a=some o/\o.cls = .type "tuple"/\o.data = .seq b n/\b.size<=sizeLine/\Vals xs b.toList
def BP.at {K:aC} {a:ai} {xs:aA} (h:BP K a xs) (H:Hp):bR K H a xs:=.inr h
def Mj {K:aC} {a:ai} {dd:Option ai} {n:Nat} {sl:Array (kK)} {i j:Int} {t u:Tok} (h:K.lookup a=some ⟨.type "tuple",dd,.seq #[.int i t,.int j u] n,sl⟩):BP K a [.int i,.int j] :=
 ⟨_,_,_,h,rfl,rfl,by show 2<=sizeLine;decide,.cons ⟨t,rfl⟩ (.cons ⟨u,rfl⟩ .nil)⟩
def Bh (K:aC) (T:ai) (g:aA):Prop:=∃ o n i,K.lookup T=some o/\o.data = .seq i n/\Vals g i.toList
structure mQ (K:aC) (x qual:Str) (st:Stmt) (dV:au) (f:ai) (fd:FuncData):Prop where
 ex:∃ (oc:au) (od:Option ai) (kV doc pm:au) (an:Option ai) (bA ct:au) (yz:Array (kK)),
   fd=W.fnOf x qual (cD st) (bF st) (ao st) dV kV doc pm an bA ct/\K.lookup f=some ⟨oc,od,.func fd,yz⟩/\W.codeIn K bA qual=true
 kp:W.keepIn K (.ref f)=true
def sv {K:aC} {x q:Str} {st:Stmt} {f:ai} {o:au} {O a:Option ai} {y:Array (kK)} {D kV d p b ct:au} (l:K.lookup f=some ⟨o,O,.func (W.fnOf x q (cD st) (bF st) (ao st) D kV d p a b ct),y⟩) (c:W.codeIn K b q=true) (k:W.keepIn K (.ref f)=true):mQ K x q st D f (W.fnOf x q (cD st) (bF st) (ao st) D kV d p a b ct):=⟨⟨o,O,kV,d,p,a,b,ct,y,rfl,l,c⟩,k⟩
section
variable {P:bq} {w:bh} {K:aC} {mg:cy} {base:aU} {x qual m:Str} {st:Stmt} {dV:au} {f C:ai} {fd:FuncData} {N ps:cp} {k:Nat} {sp:Sp} {ds:aZ}
def mQ.ok (F:mQ K x qual st dV f fd) (S:az N ps (ao st)) (len:∀ vs H Q E,sp vs H Q E->vs.length=ps.length) (e:∀ (b:au) (A:Around) (outer:List Env) (s:Shared) (H:Hp) (vs:aA) (Q:VK) (E:XK),cR k (A.deeper (envOfC qual (ao st) s.heap.objs.size f b))->sp vs H Q E ->
     ∃ t,rK (fQ uX P w K mg base N qual (ao st) f b A outer s H E).Fe (bF st) t/\t { nx:=λ Z H'=>Q .cn H',rt:=Q } (start N vs) H):ic P w K mg base uX (k+1) f fd ps sp:=by
 obtain ⟨o,O,kV,d,p,g,b,ct,y,rfl,l,c⟩:=F.ex
 refine IY l c S len λ A outer s H vs Q E a J=>?_
 obtain ⟨t,h,q⟩:=e b A outer s H vs Q E a J
 exact ⟨t,h.Fe,q⟩
def mQ.binds {T:ai} {o:Obj} {n:Nat} {i:Array au} (F:mQ K x qual st (.ref T) f fd) (e:K.lookup T=some o) (j:o.data = .seq i n) (h:∀ (kV d p:au) (a:Option ai) (b ct:au) (us:aZ),(us++ds).length=ps.length->∃ k,bindArgs (W.fnOf x qual (cD st) (bF st) (ao st) (.ref T) kV d p a b ct) ⟨us,[]⟩=seqItems? (.ref T) >>= k/\k (some i)=pure (ps.zip (us++ds))):Binds K fd ps ds:=by
 obtain ⟨O,m,kV,d,p,a,b,ct,y,rfl,l,S⟩:=F.ex
 intro s us X g
 obtain ⟨k,H,c⟩:=h kV d p a b ct us g
 exact W.binds_K X rfl e j H c
def mQ.CD (F:mQ K x qual st .none f fd) (h:∀ (kV d p:au) (a:Option ai) (b ct:au) (us:aZ),us.length=ps.length->bindArgs (W.fnOf x qual (cD st) (bF st) (ao st) .none kV d p a b ct) ⟨us,[]⟩=pure (ps.zip us)):Binds K fd ps []:=by
 obtain ⟨o,O,kV,d,p,a,b,ct,y,rfl,l,s⟩:=F.ex
 exact .all (h kV d p a b ct)
def fu (K:aC) (C:ai) (m q:Str) (st:Stmt) (d:au):Prop:=∃ f fd,Meth K C m f/\mQ K m q st d f fd
def hZ (P:bq) (w:bh) (K:aC) (M:cy) (base:aU) (C:ai) (m:Str) (k:Nat) (p:cp) (d:aZ) (s:Sp):Prop :=
 ∃ f fd,Meth K C m f/\Binds K fd p d/\ic P w K M base uX k f fd p s
def fu.Lu (h:fu K C m qual st .none) (S:az N ps (ao st)) (len:∀ vs H Q E,sp vs H Q E->vs.length=ps.length) (c:∀ (kV d p:au) (a:Option ai) (b ct:au) (us:aZ),us.length=ps.length->bindArgs (W.fnOf m qual (cD st) (bF st) (ao st) .none kV d p a b ct) ⟨us,[]⟩=pure (ps.zip us)) (e:∀ (f:ai) (b:au) (A:Around) (outer:List Env) (s:Shared) (H:Hp) (vs:aA) (Q:VK) (E:XK),cR k (A.deeper (envOfC qual (ao st) s.heap.objs.size f b))->sp vs H Q E ->
     ∃ t,rK (fQ uX P w K mg base N qual (ao st) f b A outer s H E).Fe (bF st) t/\t { nx:=λ Z H'=>Q .cn H',rt:=Q } (start N vs) H):hZ P w K mg base C m (k+1) ps [] sp:=by
 obtain ⟨f,fd,M,F⟩:=h
 exact ⟨f,fd,M,F.CD c,F.ok S len λ b A outer s H vs Q E g i=>e f b A outer s H vs Q E g i⟩
structure He (K:aC) (C:ai):Prop where
 makes:W.makesIn K C=true
 kp:W.keepIn K (.ref C)=true
def JQ (K:aC) (m:cy) (x:Str) (st:Stmt) (d:au):Prop:=∃ f fd,m x=some (.ref f)/\mQ K x x st d f fd
def Ts (P:bq) (w:bh) (K:aC) (m:cy) (base:aU) (x:Str) (k:Nat) (p:cp) (d:aZ) (s:Sp):Prop :=
 ∃ f fd,m x=some (.ref f)/\W.keepIn K (.ref f)=true/\Binds K fd p d/\ic P w K m base uX k f fd p s
end
section
variable {X:Cx} {C:ai} {m x:Str} {p pos apos:Pos} {e o:Expr} {es:List Expr} {ta:TE} {t:TA} {k:Nat} {ps:cp} {sp:Sp} {ds:aZ} {gj:aA}
def aW {pl:Sem Bool} (b:PE X o ta) (c:yu X.K C) (D:hZ X.prog X.w X.K X.mg X.base C m k ps ds sp) (a:Vals gj ds) (g:cR k X.A) (h:PA X (e::es) t) (p:Cq X e es:=by rfl) (j:FK X es pos:=by rfl) (i:eval (.Call (.Attribute o m apos) (e::es) [] pos) X.env=(do
     let O <- eval o X.env
     standAt apos.atName
     let (f,first) <- holding [O] (getMethod O m pl)
     callWith pos f first (backTo pos (starEach (e::es) X.env)) (backToKw pos (keywordEach [] X.env))):=by rfl) :
   PE X (.Call (.Attribute o m apos) (e::es) [] pos) (vZ C m sp gj E0 ta t):=by
 obtain ⟨f,l,d,H,F⟩:=D
 exact Dr (pl:=pl) b c d F g H a zh h p j i
def cS {pl:Sem Bool} (a:PE X o ta) (c:yu X.K C) (D:hZ X.prog X.w X.K X.mg X.base C m k ps ds sp) (H:Vals gj ds) (d:cR k X.A) (e:eval (.Call (.Attribute o m apos) [] [] pos) X.env=(do
     let O <- eval o X.env
     standAt apos.atName
     let (f,first) <- holding [O] (getMethod O m pl)
     callWith pos f first (backTo pos (starEach [] X.env)) (backToKw pos (keywordEach [] X.env))):=by rfl) :
   PE X (.Call (.Attribute o m apos) [] [] pos) (vZ C m sp gj E0 ta JB):=by
 obtain ⟨f,g,b,h,F⟩:=D
 exact G7 (pl:=pl) a c b F d h H zh e
def uE (M:He X.K C) (D:hZ X.prog X.w X.K X.mg X.base C "__init__" k ps ds sp) (b:Vals gj ds) (i:cR (k+1) X.A) (g:X.mg x=some (.ref C)) (h:PA X (e::es) t) (d:Gl X x:=by rfl) (a:Ba x:=by decide) (c:Cq X e es:=by rfl) (j:FK X es pos:=by rfl):PE X (.Call (.Name x p) (e::es) [] pos) (Hk C sp gj E0 t):=by
 obtain ⟨f,l,m,H,F⟩:=D
 exact J8 ⟨M.makes,m.at_,m.fn,M.kp⟩ F i d g H b zh h a c j
def Ey (D:Ts X.prog X.w X.K X.mg X.base x k ps ds sp) (b:Vals gj ds) (j:cR k X.A) (h:PA X (e::es) t) (d:Gl X x:=by rfl) (a:Ba x:=by decide) (c:Cq X e es:=by rfl) (J:FK X es pos:=by rfl):PE X (.Call (.Name x p) (e::es) [] pos) (DN sp gj E0 t):=by
 obtain ⟨f,l,i,g,H,F⟩:=D
 exact D8 F j d i g H b zh h a c J
end
section
variable {X:Cx} {pins:List (ai×Obj)} {U:St} {H:Hp} {s:Shared} {h':aU} {ch:bZ}
def Inv.xK {a:ai} {t':Nat} (I:Inv X pins U H s) (k:∀ b u,b∉ch->s.heap.get? b=some u->h'.get? b=some u) (e:∀ b∈ch,u6 X pins H b) (g:s.heap.objs.size<=a) (N:c8 X.prog X.w (upd H a o) h' a o):Inv X pins U (upd H a o) { s with heap:=h',toks:=t' }:=by
 have f:H a=none:=I.cA.fresh g
 refine I.step (g':=s.gens) (d':=s.drawn) (ch:=ch) (λ b d=>⟨(e b d).2.2.2.1,(e b d).2.1,(e b d).2.2.2.2.1,(e b d).2.2.2.2.2⟩) (λ b u Z Z h q Z=>k b u h q) (λ b u Z Z h q Z=>⟨u.slots,k b u h q⟩)
   (λ b u Z q n=>by rw [aB (aaB (aav (aao q) g))];exact n) (λ b u h q=>⟨u,k b u h q⟩) (λ b x q=>by rw [aB (ax q f)];exact q) (λ b u x q=>by rw [aB (ax q f)];exact q)
   (λ b p q=>⟨#[],by rw [aB (ax q f),q];simp⟩) (λ m j=>?_) (λ b u q=>?_) I.bare
 . obtain ⟨O,i,E,l,r⟩:=j
   exact ⟨O,i,E,k _ O (λ z=>(e _ z).2.1 rfl) l,r⟩
 .
  by_cases d:b=a
  . subst d
    rw [ag] at q
    cases q
    exact N
  .
   rw [aB d] at q
   refine (I.cA b u q).fT (λ c v h z=>k c v (λ y=>?_) z) (λ c z=>by rw [aB (ax z f)];exact z) λ c x z=>by rw [aB (ax z f)];exact z
   have n:=(e c y).1
   rcases h with rfl|h
   . rw [n] at q;cases q
   . rw [n] at h;cases h
def Inv.xF {t':Nat} (I:Inv X pins U H s) (k:∀ b u,b∉ch->s.heap.get? b=some u->h'.get? b=some u) (a:∀ b∈ch,u6 X pins H b):Inv X pins U H { s with heap:=h',toks:=t' }:=by
 refine I.step (g':=s.gens) (d':=s.drawn) (ch:=ch) (λ b d=>⟨(a b d).2.2.2.1,(a b d).2.1,(a b d).2.2.2.2.1,(a b d).2.2.2.2.2⟩) (λ b u Z Z h q Z=>k b u h q) (λ b u Z Z h q Z=>⟨u.slots,k b u h q⟩)
   (λ Z Z Z Z n=>n) (λ b u h q=>⟨u,k b u h q⟩) (λ Z Z q=>q) (λ Z Z Z q=>q) (λ b p q=>⟨#[],by rw [q];simp⟩) (λ m f=>?_) (λ b u q=>?_) I.bare
 . obtain ⟨o,E,e,g,r⟩:=f
   exact ⟨o,E,e,k _ o (λ z=>(a _ z).2.1 rfl) g,r⟩
 .
  refine (I.cA b u q).fT (λ c v h z=>k c v (λ y=>?_) z) (λ Z z=>z) λ Z Z z=>z
  have n:=(a c y).1
  rcases h with rfl|h
  . rw [n] at q;cases q
  . rw [n] at h;cases h
end
def Ri (K:aC) (a b:ai):It :=
 ⟨λ i H=>∃ X Y x y,bi K H a X/\bi K H b Y/\X[i]?=some x/\Y[i]?=some y,
  λ i H v H'=>∃ p x y,H p=none/\v = .ref p/\H'=upd H p (.tup [x,y])/\(∀ X,bi K H a X->X[i]?=some x)/\∀ Y,bi K H b Y->Y[i]?=some y,
  λ i H=>∃ X Y,bi K H a X/\bi K H b Y/\(X.length<=i\/Y.length<=i)⟩
def GA (z TI TO I c a b:ai) (i:Nat) (h:aU):Prop:=IsZip h z TI TO .none/\IsPair h TI (.ref I) (.ref c)/\(∃ u v,IsPair h TO u v)/\h.IsListIter I a i/\h.IsListIter c b i
def GA.obj {z TI TO I d a b:ai} {i:Nat} {h:aU} (st:GA z TI TO I d a b i h):∀ c∈[z,TI,TO,I,d],∃ o,h.get? c=some o/\∀ v,o.data ≠ .cell v:=λ c H=>by
 obtain ⟨g,L,⟨u,v,M⟩,⟨O,E,Z,D⟩,⟨j,f,Z,e⟩⟩:=st
 simp only [aaa,aae,aa2] at H
 rcases H with rfl|rfl|rfl|rfl|rfl
 . exact ⟨_,g,λ v q=>by cases q⟩
 . exact ⟨_,L,λ v q=>by cases q⟩
 . exact ⟨_,M,λ v q=>by cases q⟩
 . exact ⟨O,E,λ v q=>by rw [D] at q;cases q⟩
 . exact ⟨j,f,λ v q=>by rw [e] at q;cases q⟩
def GO {P:bq} {w:bh} {K:aC} {z TI TO f g a b:ai} (D:ZipApart z TI TO f g a b) :
   Turn P w K (.Tuple elts x1 pR) (Ri K a b) [z,TI,TO,f,g] z (GA z TI TO f g a b) where
 mem:=by simp
 obj:=λ i h S=>S.obj
 keep:=λ i h G S k=>by
   obtain ⟨p,L,⟨u,v,M⟩,l,m⟩:=S
   exact ⟨k z (by simp) _ p,k TI (by simp) _ L,⟨u,v,k TO (by simp) _ M⟩,l.at λ o e=>k f (by simp) o e,m.at λ o e=>k g (by simp) o e⟩
 item:=by
   intro X O T N hc i q s U H E I t S Q
   subst O T N
   obtain ⟨xs,ys,x,y,r,J,hx,hy⟩:=Q
   obtain ⟨Ni,F,V,EH⟩:=I.list r
   obtain ⟨oH,C,W,Pc⟩:=I.list J
   obtain ⟨u1,R,Y⟩:=F.get hx
   obtain ⟨u2,Yb,ab⟩:=C.get hy
   have lt:∀ c∈[z,TI,TO,f,g],c<s.heap.objs.size:=λ c B=>by
     obtain ⟨o,e,Z⟩:=S.obj c B
     exact aao e
   obtain ⟨p,L,⟨u,v,M⟩,l,m⟩:=S
   refine wpAny_pyNext_zip_item D p L M l m V.isList W.isList (x:=u1) (y:=u2) (by simpa using R) (by simpa using Yb) λ G z1 z2 z3 z4 z5 z6 A=>?_
   refine ⟨.ref s.heap.objs.size,rfl,wpAny_letOwnedTupleGo_zip (s:={ s with heap:=G }) z1 λ n zz j=>?_⟩
   have HZ:∀ c o,c∉[z,TI,TO,f,g]->s.heap.get? c=some o->n.get? c=some o:=λ c o d e=>by
     simp only [aaa,aae,aa2,ach] at d
     exact j.extBut _ _ d.1 (A c o d.1 d.2.2.1 d.2.2.2.1 d.2.2.2.2 e)
   have nz:s.heap.objs.size≠z:=acP (lt z (by simp))
   have n5:IsPair n s.heap.objs.size u1 u2:=j.extBut _ _ nz z5
   refine ⟨.ref s.heap.objs.size,upd H s.heap.objs.size (.tup [x,y]),I.xK (t':=s.toks) HZ t (aaf _) ⟨by show 2<=sizeLine;decide,[u1,u2],.cons Y (.cons ab .nil),⟨_,n5,rfl,_,rfl⟩⟩,rfl,
     ⟨_,x,y,I.cA.fresh (aaf _),rfl,rfl,λ ad h=>by rw [I.oT h r];exact hx,λ ae h=>by rw [I.oT h J];exact hy⟩,?_,λ c B=>?_⟩
   . exact ⟨zz,j.extBut _ _ D.TIz (A _ _ D.TIz D.TITO D.TIi1 D.TIi2 L),⟨_,_,j.extBut _ _ D.TOz z2⟩,z3.extBut j.extBut D.i1z,z4.extBut j.extBut D.i2z⟩
   . rw [aB (aaB (lt c B))]
     exact (t c B).1
 done:=by
   intro X O T N hc i q s U H E I t S Q
   subst O T N
   obtain ⟨xs,ys,r,J,hl⟩:=Q
   obtain ⟨Ni,F,V,EH⟩:=I.list r
   obtain ⟨oH,C,W,Pc⟩:=I.list J
   have l1:=F.length
   have l2:=C.length
   obtain ⟨p,L,⟨u,v,M⟩,l,m⟩:=S
   have Xn:Ni.toArray[i]?=none\/oH.toArray[i]?=none:=by
     rcases hl with h|h
     . exact .inl (by simp;lia)
     . exact .inr (by simp;lia)
   refine wpAny_pyNext_zip_end (I.ok.hd hc) D p L M l m V.isList W.isList Xn λ G A=>⟨rfl,I.xF (ch:=[z,TI,TO,f,g]) (t':=s.toks) (λ c o d e=>?_) t⟩
   simp only [aaa,aae,aa2,ach] at d
   exact A c o d.1 d.2.2.1 d.2.2.2.1 d.2.2.2.2 e
 self:=λ Z Z Z Z Z S h=>wpAny_pyIter_zip S.1 h
def Nm:bootBuiltins "zip" = some (.type "zip"):=by decide +kernel
section
variable {X:Cx}
def ZT (K:aC) (t:TA):TI:=λ U H R=>t U H λ v h=>∃ a b,v=[.ref a,.ref b]/\(∃ x,bi K h a x)/\(∃ y,bi K h b y)/\R (Ri K a b) h
def N0 {a b:Expr} {t:TA} {p g:Pos} (w:Gl X "zip") (x:X.mg "zip" = none) (o:PA X [a,b] t) (y:starEach [a,b] X.env=[(false,eval a X.env),(false,eval b X.env)]:=by rfl) (E:starEach [b] X.env=[(false,eval b X.env)]:=by rfl):PI X (.Tuple elts x1 pR) (.Call (.Name "zip" p) [a,b] [] g) (ZT X.K t):=by
 intro f s U H R I h
 refine Call_ (lS I w x Nm (abg (cV (o g f s U H _ I h) λ us S ⟨vs,m,i,D,Q⟩=>?_) (by rw [y,E]) (by rw [E];rfl)))
 obtain ⟨a,b,e,⟨xs,n⟩,⟨ys,J⟩,q⟩:=Q
 subst e
 obtain ⟨u,v,rfl,r,C⟩:=vals2 D
 obtain rfl:u=Value.ref a:=r
 obtain rfl:v=Value.ref b:=C
 obtain ⟨T,Y,k,O⟩:=i.list n
 obtain ⟨oH,W,l,V⟩:=i.list J
 refine call_zip_2 k.isList l.isList λ h' z F G M N z6 A=>?_
 have L:a<S.heap.objs.size:=by obtain ⟨Z,e,Z⟩:=k.isList;exact aao e
 have B:b<S.heap.objs.size:=by obtain ⟨Z,e,Z⟩:=l.isList;exact aao e
 refine wpAny_pyIter_zip z ?_
 refine ⟨S.heap.objs.size+4,[S.heap.objs.size+4,S.heap.objs.size+2,S.heap.objs.size+3,S.heap.objs.size,S.heap.objs.size+1],_,_,m,rfl,i.kept (t':=S.toks) A,GO (zipApart_new L B),⟨z,F,⟨_,_,G⟩,M,N⟩,λ c j=>?_,q⟩
 have d:S.heap.objs.size<=c:=by
   simp only [aaa,aae,aa2] at j
   rcases j with rfl|rfl|rfl|rfl|rfl
   . exact abV _ _
   . exact abV _ _
   . exact abV _ _
   . exact aaf _
   . exact abV _ _
 exact i.zi d (i.cA.fresh d)
end
def IJ {K:aC} {a b:ai} {xs ys:aA} {t:TT} {D:ai} {Q:Hp->Prop} (d:Nat->aA->St->Hp->Prop) (s:d 0 [] U H) (B:∀ i acc U H,i<=min xs.length ys.length->d i acc U H->bi K H a xs/\bi K H b ys) (F:∀ i x y p acc U H,xs[i]?=some x->ys[i]?=some y->H p=none->d i acc U H->g (.ref p) U (upd H p (.tup [x,y])) λ c l=>t c l λ k h =>
     if k=true then te c h λ v j=>j D=some (.lst acc)/\acc.length<sizeLine/\d (i+1) (acc++[v]) c (upd j D (.lst (acc++[v]))) else d (i+1) acc c h) (z:∀ acc U H,d (min xs.length ys.length) acc U H->Q H) :
   ∃ W:Nat->Nat->aA->St->Hp->Prop,(∃ m,W 0 m [] U H)/\∀ i m acc f H',W i m acc f H'->((Ri K a b).stop i H'/\Q H') \/
     ((Ri K a b).go i H'/\∃ N:aA->St->Hp->Prop,(∀ J c h,N J c h->∃ m',m'<m/\W (i+1) m' J c h)/\∀ x o,(Ri K a b).FX i H' x o->g x f o λ c l=>t c l λ k h =>
       if k=true then te c h λ y j=>j D=some (.lst acc)/\acc.length<sizeLine/\N (acc++[y]) c (upd j D (.lst (acc++[y]))) else N acc c h):=by
 refine ⟨λ i m acc U H=>m=min xs.length ys.length - i/\i<=min xs.length ys.length/\d i acc U H,⟨_,rfl,aaY _,s⟩,?_⟩
 rintro i m acc U H ⟨rfl,A,p⟩
 obtain ⟨q,n⟩:=B i acc U H A p
 by_cases M:i<min xs.length ys.length
 .
  have u:i<xs.length:=by lia
  have w:i<ys.length:=by lia
  refine .inr ⟨⟨xs,ys,xs[i],ys[i],q,n,by simp [u],by simp [w]⟩,d (i+1),λ J f H' G=>⟨min xs.length ys.length - (i+1),by lia,rfl,M,G⟩,λ v H' y=>?_⟩
  obtain ⟨I,x,y,C,rfl,rfl,E,r⟩:=y
  exact F i x y I acc U H (E xs q) (r ys n) C p
 . have e:i=min xs.length ys.length:=by lia
   subst e
   exact .inl ⟨⟨xs,ys,q,n,by lia⟩,z acc U H p⟩
mutual
def Dn (K:aC) (H:Hp):PyData->V->Prop
 | .none,v=>v = .cn
 | .bool b,v=>v = .bl b
 | .int i,v=>v = .int i
 | .str x,v=>v = .str x
 | .list d,v=>∃ a xs,v = .ref a/\bi K H a xs/\bX K H d xs
 | .tuple d,v=>∃ a xs,v = .ref a/\bR K H a xs/\bX K H d xs
 | .dict _,_=>False
def bX (K:aC) (H:Hp):List PyData->aA->Prop
 | [],xs=>xs=[]
 | d::D,xs=>∃ x r,xs=x::r/\Dn K H d x/\bX K H D r
end
mutual
def d7:PyData->Bool
 | .list _=>false
 | .dict _=>false
 | .tuple d=>qC d
 | _=>true
def qC:List PyData->Bool
 | []=>true
 | d::D=>d7 d && qC D
end
@[simp] theorem Oc:qC []=true:=rfl
@[simp] theorem Ax {d:PyData} {ds:List PyData}:qC (d::ds)=(d7 d && qC ds):=rfl
theorem tX:∀ {D:List PyData},qC D=true↔∀ d∈D,d7 d=true
 | []=>⟨λ Z d h=>absurd h aae,λ Z=>rfl⟩
 | d::D=>by
   rw [Ax,aaq,tX]
   constructor
   . rintro ⟨a,b⟩ e H
     rcases aaa.mp H with rfl|H
     . exact a
     . exact b e H
   . exact λ h=>⟨h d aaF,λ e H=>h e (aak _ H)⟩
def k7 {D:List PyData}:d7 (.tuple D)=true↔∀ d∈D,d7 d=true:=tX
def bD (K:aC) (H h:Hp):Prop:=∀ a x,bR K H a x->bR K h a x
def bD.refl {K:aC} (H:Hp):bD K H H:=λ Z Z h=>h
def bD.trans {K:aC} {d H2:Hp} (a:bD K H d) (b:bD K d H2):bD K H H2:=λ c x h=>b c x (a c x h)
def aD.ts {K:aC} (s:aD H H'):bD K H H':=λ Z Z h=>s.tup h
def L7:HO->Bool
 | .tup _=>false
 | .yX _ _=>false
 | _=>true
def cO {K:aC} {a:ai} {O:HO} (h:H a=some o) (n:L7 o=true):bD K H (upd H a O):=λ b x q=>by
 have N:∀ u,H b=some u->L7 u=false->b≠a:=λ u e z y=>by
   subst y
   rw [h] at e
   cases e
   rw [n] at z
   cases z
 rcases q with (q|⟨c,q⟩)|q
 . exact .inl (.inl (by rw [aB (N _ q rfl)];exact q))
 . exact .inl (.inr ⟨c,by rw [aB (N _ q rfl)];exact q⟩)
 . exact .inr q
section
variable {K:aC} {H H':Hp}
mutual
theorem Dn.same (s:aD H H'):∀ (d:PyData) {v:V},Dn K H d v->Dn K H' d v
 | .none,_,h=>by rw [Dn] at h |-;exact h
 | .bool _,_,h=>by rw [Dn] at h |-;exact h
 | .int _,_,h=>by rw [Dn] at h |-;exact h
 | .str _,_,h=>by rw [Dn] at h |-;exact h
 | .list D,_,h=>by
   rw [Dn] at h |-
   obtain ⟨a,xs,e,q,r⟩:=h
   exact ⟨a,xs,e,s.seq q,bX.same s D r⟩
 | .tuple D,_,h=>by
   rw [Dn] at h |-
   obtain ⟨a,xs,e,q,r⟩:=h
   exact ⟨a,xs,e,s.tup q,bX.same s D r⟩
 | .dict _,_,h=>by rw [Dn] at h;exact h.elim
theorem bX.same (s:aD H H'):∀ (D:List PyData) {xs:aA},bX K H D xs->bX K H' D xs
 | [],_,h=>by rw [bX] at h |-;exact h
 | d::D,_,h=>by
   rw [bX] at h |-
   obtain ⟨x,r,e,q,t⟩:=h
   exact ⟨x,r,e,Dn.same s d q,bX.same s D t⟩
end
mutual
theorem Dn.ts (s:bD K H H'):∀ (d:PyData) {v:V},d7 d=true->Dn K H d v->Dn K H' d v
 | .none,_,_,h=>by rw [Dn] at h |-;exact h
 | .bool _,_,_,h=>by rw [Dn] at h |-;exact h
 | .int _,_,_,h=>by rw [Dn] at h |-;exact h
 | .str _,_,_,h=>by rw [Dn] at h |-;exact h
 | .list D,_,f,_=>by rw [d7] at f;cases f
 | .tuple D,_,f,h=>by
   rw [Dn] at h |-
   obtain ⟨a,xs,e,q,r⟩:=h
   exact ⟨a,xs,e,s _ _ q,bX.ts s D (k7.mp f) r⟩
 | .dict _,_,_,h=>by rw [Dn] at h;exact h.elim
theorem bX.ts (s:bD K H H'):∀ (D:List PyData) {xs:aA},(∀ d∈D,d7 d=true)->bX K H D xs->bX K H' D xs
 | [],_,_,h=>by rw [bX] at h |-;exact h
 | d::D,_,f,h=>by
   rw [bX] at h |-
   obtain ⟨x,r,e,q,t⟩:=h
   exact ⟨x,r,e,Dn.ts s d (f d aaF) q,bX.ts s D (λ d a=>f d (aak _ a)) t⟩
end
theorem bX.length:∀ {D:List PyData} {xs:aA},bX K H D xs->xs.length=D.length
 | [],_,h=>by rw [bX] at h;rw [h];rfl
 | d::D,_,h=>by
   rw [bX] at h
   obtain ⟨x,r,rfl,Z,t⟩:=h
   rw [aaD,aaD,bX.length t]
theorem bX.get:∀ {D:List PyData} {xs:aA} {i:Nat} {d:PyData},bX K H D xs->D[i]?=some d->∃ x,xs[i]?=some x/\Dn K H d x
 | [],_,_,_,_,e=>by simp at e
 | _::_,_,0,_,h,e=>by
   rw [bX] at h
   obtain ⟨x,r,rfl,q,t⟩:=h
   simp at e
   subst e
   exact ⟨x,rfl,q⟩
 | _::D,_,i+1,d,h,e=>by
   rw [bX] at h
   obtain ⟨x,r,rfl,q,t⟩:=h
   obtain ⟨y,E,a⟩:=bX.get (i:=i) t (by simpa using e)
   exact ⟨y,by simpa using E,a⟩
theorem bX.snoc:∀ {D:List PyData} {xs:aA} {d:PyData} {x:V},bX K H D xs->Dn K H d x->bX K H (D++[d]) (xs++[x])
 | [],_,d,x,h,q=>by
   rw [bX] at h
   subst h
   exact ⟨x,[],rfl,q,rfl⟩
 | _::D,_,d,x,h,q=>by
   rw [bX] at h
   obtain ⟨y,r,rfl,Q,t⟩:=h
   exact ⟨y,r++[x],rfl,Q,bX.snoc t q⟩
theorem bX.set:∀ {D:List PyData} {xs:aA} {i:Nat} {d:PyData} {x:V},bX K H D xs->Dn K H d x->bX K H (D.set i d) (xs.set i x)
 | [],_,_,_,_,h,_=>by
   rw [bX] at h
   subst h
   exact rfl
 | _::_,_,0,d,x,h,q=>by
   rw [bX] at h
   obtain ⟨y,r,rfl,Q,t⟩:=h
   exact ⟨x,r,rfl,q,t⟩
 | _::D,_,i+1,d,x,h,q=>by
   rw [bX] at h
   obtain ⟨y,r,rfl,Q,t⟩:=h
   exact ⟨y,r.set i x,rfl,Q,bX.set t q⟩
def gq:bX K H [] []:=rfl
def bJ {d:PyData} {D:List PyData} {x:V} {xs:aA} (a:Dn K H d x) (b:bX K H D xs):bX K H (d::D) (x::xs):=⟨x,xs,rfl,a,b⟩
def Hc {i:Int}:Dn K H (.int i) (.int i):=rfl
def fU {a:ai} {xs:aA} {d:List PyData} (h:bR K H a xs) (r:bX K H d xs):Dn K H (.tuple d) (.ref a):=⟨a,xs,rfl,h,r⟩
def Gv {a:ai} {xs:aA} {d:List PyData} (h:bi K H a xs) (r:bX K H d xs):Dn K H (.list d) (.ref a):=⟨a,xs,rfl,h,r⟩
abbrev dO (f:Int×Int):PyData:=.tuple [.int f.1,.int f.2]
def hR {p:ai} {f:Int×Int} (h:bR K H p [.int f.1,.int f.2]):Dn K H (dO f) (.ref p):=fU h (bJ Hc (bJ Hc gq))
def Dn.fr {v:V} {f:Int×Int} (h:Dn K H (dO f) v):∃ p,v = .ref p/\bR K H p [.int f.1,.int f.2]:=by
 obtain ⟨p,X,e,q,x,r,c,E,y,R,d,a,b⟩:=h
 have E:x=V.int f.1:=E
 have a:y=V.int f.2:=a
 have b:R=[]:=b
 subst c E d a b
 exact ⟨p,e,q⟩
def f6 (f:Int×Int):d7 (dO f)=true:=by simp [dO,d7]
end
section
variable {X:Cx} {pins:List (ai×Obj)} {U:St} {H:Hp} {s:Shared}
mutual
theorem Inv.reads (I:Inv X pins U H s):∀ (d:PyData) {v:V} {u:au},Dn X.K H d v->RelV v u->∃ as,Reads s.heap u d as
 | .none,_,_,h,r=>by
   have h:_=V.cn:=h
   subst h
   obtain rfl:=(show _=Value.none from r)
   exact ⟨_,.none⟩
 | .bool b,_,_,h,r=>by
   have h:_=V.bl b:=h
   subst h
   obtain rfl:=(show _=Value.bool b from r)
   exact ⟨_,.bool b⟩
 | .int i,_,_,h,r=>by
   have h:_=V.int i:=h
   subst h
   obtain ⟨t,rfl⟩:=r
   exact ⟨_,.int i t⟩
 | .str x,_,_,h,r=>by
   have h:_=V.str x:=h
   subst h
   obtain ⟨t,rfl⟩:=r
   exact ⟨_,.str x t⟩
 | .list D,_,_,h,r=>by
   obtain ⟨a,j,rfl,q,t⟩:=h
   obtain rfl:=(show _=Value.ref a from r)
   obtain ⟨B,g,p,Z⟩:=I.list q
   obtain ⟨o,f,c,n,e⟩:=p.isList
   obtain ⟨as,R⟩:=Inv.readsAll I D t g
   exact ⟨_,.list f c e (by simpa using R)⟩
 | .tuple D,_,_,h,r=>by
   obtain ⟨a,j,rfl,q,t⟩:=h
   obtain rfl:=(show _=Value.ref a from r)
   obtain ⟨B,g,p,Z⟩:=I.tuple q
   obtain ⟨o,f,c,n,e⟩:=p
   obtain ⟨as,R⟩:=Inv.readsAll I D t g
   exact ⟨_,.tuple f c e (by simpa using R)⟩
 | .dict _,_,_,h,_=>(show False from h).elim
theorem Inv.readsAll (I:Inv X pins U H s):∀ (D:List PyData) {xs:aA} {us:aZ},bX X.K H D xs->Vals xs us->∃ as,ReadsAll s.heap us D as
 | [],_,_,h,r=>by
   have h:_=[]:=h
   subst h
   obtain rfl:=Vals.zero r
   exact ⟨_,.nil⟩
 | d::D,_,_,h,r=>by
   obtain ⟨x,t,rfl,q,Q⟩:=h
   cases r with
   | cons R a =>
     obtain ⟨as,b⟩:=Inv.reads I d q R
     obtain ⟨B,c⟩:=Inv.readsAll I D Q a
     exact ⟨_,.cons b c⟩
end
inductive QJ (K:aC) (x:V) (y:V) (H:Hp) (Q:VK):Prop|mk (d e:_) (_:Dn K H d x) (_:Dn K H e y) (_:SeqAt.shaped d=true) (_:SeqAt.shaped e=true) (_:Q (.bl (PyData.eqv d e)) H)
inductive Tt (K:aC) (x:V) (y:V) (H:Hp) (Q:VK):Prop|mk (d e:_) (_:Dn K H d x) (_:Dn K H e y) (_:SeqAt.shaped d=true) (_:SeqAt.shaped e=true) (_:Q (.bl (!PyData.eqv d e)) H)
def Ix (c:X.A.units+64<cLine):iD X (compareOp .Eq) (QJ X.K):=by
 intro pins s U H x y v u Q I f g h
 obtain ⟨d,e,a,b,S,i,q⟩:=h
 obtain ⟨as,r⟩:=I.reads d a f
 obtain ⟨B,R⟩:=I.reads e b g
 exact eq_dataH r R S i c ⟨.bl _,H,I,rfl,q⟩
def MK (c:X.A.units+64<cLine):iD X (compareOp .NotEq) (Tt X.K):=by
 intro pins s U H x y v u Q I f g h
 obtain ⟨d,e,a,b,S,i,q⟩:=h
 obtain ⟨as,r⟩:=I.reads d a f
 obtain ⟨B,R⟩:=I.reads e b g
 exact ne_dataH r R S i c ⟨.bl _,H,I,rfl,q⟩
def qA (n:X.calm=true):iy X (.builtin "all") (λ xs H Q=>∃ (p:ai) (bs:List Bool),xs=[.ref p]/\bi X.K H p (bs.map V.bl)/\Q (.bl (bs.all id)) H):=by
 intro pins s U H xs G Q I r h
 obtain ⟨p,bs,rfl,A,q⟩:=h
 obtain ⟨u,rfl,C⟩:∃ u,G=[u]/\RelV (.ref p) u:=by
   cases r with
   | cons a b=>cases b;exact ⟨_,rfl,a⟩
 obtain rfl:u=Value.ref p:=C
 obtain ⟨B,R,g,Z⟩:=I.list A
 have w:p<s.heap.objs.size:=by obtain ⟨Z,e,Z⟩:=g.isList;exact aao e
 have d:B.length=bs.length:=by rw [<- R.length,OS]
 have k:∀ i v,B.toArray[i]?=some v->v=Value.bool (bs.getD i false):=λ i v e=>by
   have E:B[i]?=some v:=by simpa using e
   have c:i<bs.length:=by rw [<- d];exact (RJ.mp E).1
   obtain ⟨u,j,D⟩:=R.get (i:=i) (x:=V.bl (bs[i])) (by simp [c])
   rw [E] at j
   cases j
   have F:v=Value.bool bs[i]:=D
   rw [F]
   simp [c]
 refine call_all_walk (wpAny_pyIter_list g.isList ⟨s.heap.objs.size,_,_,_,_,_,λ i=>bs.getD i false,rfl,Walks.list (by simpa using I.ok.hd n) _ p (aaB w) B.toArray,⟨⟨_,aaK _ rfl,rfl,rfl⟩,g.isList.push _⟩,λ i v S L J l f=>?_,λ M T t=>?_⟩)
 . rw [k i v l]
   exact aas f
 .
  have e:(List.range B.toArray.size).all (λ i=>bs.getD i false)=bs.all id:=by
    have:B.toArray.size=bs.length:=by simpa using d
    rw [this,abu,abE,abE]
    constructor
    . intro h b m
      obtain ⟨i,c,rfl⟩:=abp m
      have:=h i (aaH.mpr c)
      simpa [c] using this
    . intro h i c
      have c:=aaH.mp c
      have:=h _ (aag c)
      simpa [c] using this
  rw [e]
  exact ⟨.bl _,H,I.kept (t':=T) λ b o z=>t b o (λ y=>by
    have y:b=s.heap.objs.size:=by simpa using y
    exact absurd (aao z) (by rw [y];exact aa9 _)) (aac _ z),rfl,q⟩
end
section
variable {P:bq} {w:bh} {K:aC} {mg:cy} {base:aU} {x qual m:Str} {st:Stmt} {dV:au} {f C:ai} {fd:FuncData} {N ps:cp} {k:Nat} {sp:Sp} {ds:aZ} {gj:aA}
def P1 (P:bq) (w:bh) (K:aC) (M:cy) (base:aU) (C:ai) (m q:Str) (st:Stmt) (d:au) (k:Nat) (p:cp) (s:Sp):Prop :=
 ∃ f fd,Meth K C m f/\mQ K m q st d f fd/\ic P w K M base uX k f fd p s
def uJ (P:bq) (w:bh) (K:aC) (M:cy) (base:aU) (C:ai) (m:Str) (k:Nat) (p:cp) (g:aA) (s:Sp):Prop :=
 ∃ ds,Vals g ds/\hZ P w K M base C m k p ds s
def fu.mok (h:fu K C m qual st dV) (S:az N ps (ao st)) (len:∀ vs H Q E,sp vs H Q E->vs.length=ps.length) (e:∀ (f:ai) (b:au) (A:Around) (outer:List Env) (s:Shared) (H:Hp) (vs:aA) (Q:VK) (E:XK),cR k (A.deeper (envOfC qual (ao st) s.heap.objs.size f b))->sp vs H Q E ->
     ∃ t,rK (fQ uX P w K mg base N qual (ao st) f b A outer s H E).Fe (bF st) t/\t { nx:=λ Z H'=>Q .cn H',rt:=Q } (start N vs) H):P1 P w K mg base C m qual st dV (k+1) ps sp:=by
 obtain ⟨f,fd,M,F⟩:=h
 exact ⟨f,fd,M,F,F.ok S len λ b A outer s H vs Q E a c=>e f b A outer s H vs Q E a c⟩
def P1.Lu {T:ai} {A:aA} (h:P1 P w K mg base C m qual st (.ref T) k ps sp) (H:Bh K T A) (a:∀ i:Array au,Vals A i.toList->∃ ds,Vals gj ds/\∀ (kV d p:au) (b:Option ai) (B ct:au) (us:aZ),(us++ds).length=ps.length->∃ k,bindArgs (W.fnOf m qual (cD st) (bF st) (ao st) (.ref T) kV d p b B ct) ⟨us,[]⟩=seqItems? (.ref T) >>= k/\k (some i)=pure (ps.zip (us++ds))) :
   uJ P w K mg base C m k ps gj sp:=by
 obtain ⟨f,fd,M,F,O⟩:=h
 obtain ⟨o,n,i,H,e,g⟩:=H
 obtain ⟨ds,c,a⟩:=a i g
 exact ⟨ds,c,f,fd,M,F.binds H e a,O⟩
def Ud (P:bq) (w:bh) (K:aC) (m:cy) (base:aU) (x:Str) (st:Stmt) (d:au) (k:Nat) (p:cp) (s:Sp):Prop :=
 ∃ f fd,m x=some (.ref f)/\mQ K x x st d f fd/\ic P w K m base uX k f fd p s
def Ot (P:bq) (w:bh) (K:aC) (m:cy) (base:aU) (x:Str) (k:Nat) (p:cp) (g:aA) (s:Sp):Prop :=
 ∃ ds,Vals g ds/\Ts P w K m base x k p ds s
def JQ.dok (h:JQ K mg x st dV) (S:az N ps (ao st)) (len:∀ vs H Q E,sp vs H Q E->vs.length=ps.length) (e:∀ (f:ai) (b:au) (A:Around) (outer:List Env) (s:Shared) (H:Hp) (vs:aA) (Q:VK) (E:XK),cR k (A.deeper (envOfC x (ao st) s.heap.objs.size f b))->sp vs H Q E ->
     ∃ t,rK (fQ uX P w K mg base N x (ao st) f b A outer s H E).Fe (bF st) t/\t { nx:=λ Z H'=>Q .cn H',rt:=Q } (start N vs) H):Ud P w K mg base x st dV (k+1) ps sp:=by
 obtain ⟨f,fd,M,F⟩:=h
 exact ⟨f,fd,M,F,F.ok S len λ b A outer s H vs Q E a c=>e f b A outer s H vs Q E a c⟩
def Ud.WO {T:ai} {A:aA} (h:Ud P w K mg base x st (.ref T) k ps sp) (H:Bh K T A) (a:∀ i:Array au,Vals A i.toList->∃ ds,Vals gj ds/\∀ (kV d p:au) (b:Option ai) (B ct:au) (us:aZ),(us++ds).length=ps.length->∃ k,bindArgs (W.fnOf x x (cD st) (bF st) (ao st) (.ref T) kV d p b B ct) ⟨us,[]⟩=seqItems? (.ref T) >>= k/\k (some i)=pure (ps.zip (us++ds))) :
   Ot P w K mg base x k ps gj sp:=by
 obtain ⟨f,fd,M,F,O⟩:=h
 obtain ⟨o,n,i,H,e,g⟩:=H
 obtain ⟨ds,c,a⟩:=a i g
 exact ⟨ds,c,f,fd,M,F.kp,F.binds H e a,O⟩
def vals3 {a b c:V} {i:Array au} (h:Vals [a,b,c] i.toList):∃ u v z,i=#[u,v,z]/\RelV a u/\RelV b v/\RelV c z:=by
 obtain ⟨l⟩:=i
 cases h with
 | cons H h=>cases h with
   | cons d h=>cases h with
     | cons e h=>cases h with
       | nil=>exact ⟨_,_,_,rfl,H,d,e⟩
end
section
variable {X:Cx} {C:ai} {m x:Str} {p pos apos:Pos} {e o:Expr} {es:List Expr} {ta:TE} {t:TA} {k:Nat} {ps:cp} {sp:Sp} {gj:aA}
def zX {pl:Sem Bool} (a:PE X o ta) (c:yu X.K C) (D:uJ X.prog X.w X.K X.mg X.base C m k ps gj sp) (b:cR k X.A) (h:PA X (e::es) t) (p:Cq X e es:=by rfl) (j:FK X es pos:=by rfl) (d:eval (.Call (.Attribute o m apos) (e::es) [] pos) X.env=(do
     let O <- eval o X.env
     standAt apos.atName
     let (f,first) <- holding [O] (getMethod O m pl)
     callWith pos f first (backTo pos (starEach (e::es) X.env)) (backToKw pos (keywordEach [] X.env))):=by rfl) :
   PE X (.Call (.Attribute o m apos) (e::es) [] pos) (vZ C m sp gj E0 ta t):=by
 obtain ⟨g,H,D⟩:=D
 exact aW (pl:=pl) a c D H b h p j d
def zf (M:He X.K C) (D:uJ X.prog X.w X.K X.mg X.base C "__init__" k ps gj sp) (f:cR (k+1) X.A) (d:X.mg x=some (.ref C)) (h:PA X (e::es) t) (c:Gl X x:=by rfl) (a:Ba x:=by decide) (b:Cq X e es:=by rfl) (j:FK X es pos:=by rfl):PE X (.Call (.Name x p) (e::es) [] pos) (Hk C sp gj E0 t):=by
 obtain ⟨g,H,D⟩:=D
 exact uE M D H f d h c a b j
def HC (D:Ot X.prog X.w X.K X.mg X.base x k ps gj sp) (d:cR k X.A) (h:PA X (e::es) t) (c:Gl X x:=by rfl) (a:Ba x:=by decide) (b:Cq X e es:=by rfl) (j:FK X es pos:=by rfl):PE X (.Call (.Name x p) (e::es) [] pos) (DN sp gj E0 t):=by
 obtain ⟨f,H,D⟩:=D
 exact Ey D H d h c a b j
end
def eK {X:Cx} {K:aC} {e:List Expr} {k:Nat} {p:Pos} {t:Oj} {n:Nat} (H:X.K=K) (a:X.calm=true) (h:O8 X e t) (b:(assignEach e X.env).length=n:=by rfl) (c:(assignEach e X.env).findIdx? (·.1)=none:=by rfl):PG X (.Tuple e k p) (SA K n t):=by
 subst H
 exact OI a h b c
end L2
namespace PySem
open Sem (wp)
theorem lJ:∀ (l:List DictEntry) (c:Int),(l.map (·.hash)).Nodup->(l.filter (·.hash == c)).length<=1
 | [],_,_=>aaY _
 | e::l,c,h=>by
   rw [aaQ,abB] at h
   rw [acJ]
   split
   .
    rename_i q
    have q:e.hash=c:=by simpa using q
    have:l.filter (·.hash == c)=[]:=by
      rw [adS]
      intro x H z
      exact h.1 (aat.mpr ⟨x,H,by rw [q];simpa using z⟩)
    rw [this]
    exact aaf _
   . exact lJ l c h.2
section
variable {prog:bq} {w:bh} {K:Type} [DecidableEq K] {knd:KeyKind prog w K} {A:Around} {E:au->Shared->Prop} {s:Shared}
def mz {k:List K} {a:ai} {Q:Bool->Shared->Prop} (b:IsTupleKey knd s.heap k a) (h:Q false s):wpAny (model prog w) A (Builtin.Dict.quietEq (.ref a)) Q E s:=by
 have H:=b.typeIs
 unfold Builtin.Dict.quietEq
 exact UV (ac1 H F.slot_tuple_eq.lookup (aas h))
def ko {id:String} {d:ai} {o:Obj} {a g} {xs:List (List K×ai×au)} {Q:Array DictEntry->Shared->Prop} (p:s.heap.get? d=some o) (j:o.data = .dict a g) (c:a.toList=xs.map (entryOfKey (tupleKind knd)))
   (m:∀ x∈xs,IsTupleKey knd s.heap x.1 x.2.1) (k:(xs.map λ x=>tupleKeyHash knd x.1).Nodup) (h:Q a s) :
   wpAny (model prog w) A (Builtin.Dict.entriesForEmpty id d) Q E s:=by
 unfold Builtin.Dict.entriesForEmpty
 refine UV (acL p j ?_)
 have n:(a.toList.map (·.hash)).Nodup:=by
   rw [c,abP]
   exact k
 refine UV ?_
 refine wpAny_forIn_array' _ (λ rest Z S=>S=s/\∀ e∈rest,e∈a.toList) _ ?_ ?_ _ _ ⟨rfl,λ Z h=>h⟩
 .
  rintro e rest b S ⟨rfl,f⟩
  have H:=f e aaF
  rw [c] at H
  obtain ⟨x,q,rfl⟩:=aat.mp H
  refine UV (mz (m x q) ?_)
  have i:¬ ((a.filter λ y=>y.hash == (entryOfKey (tupleKind knd) x).hash).size > 1):=by
    have:=lJ a.toList (entryOfKey (tupleKind knd) x).hash n
    have r:(a.filter λ y=>y.hash == (entryOfKey (tupleKind knd) x).hash).size=(a.toList.filter λ y=>y.hash == (entryOfKey (tupleKind knd) x).hash).length:=by
      obtain ⟨l⟩:=a
      simp
    lia
  simp only [adD,ab2,aam i]
  exact aas ⟨rfl,λ e c=>f e (aak _ c)⟩
 . rintro b S ⟨rfl,Z⟩
   exact aas h
def pQ {nm:String} {d o:ai} {xs:List (List K×ai×au)} {Q:Unit->Shared->Prop} (n:d≠o) (Y:(o == sysModules)=false)
   (B:s.heap.DictOfH (tupleKind knd) d []) (M:s.heap.DictOfH (tupleKind knd) o xs) (C:(xs.map λ x=>tupleKeyHash knd x.1).Nodup)
   (i:∀ h',(∃ q g t,h'.get? d=some q/\q.ExactDict/\q.data = .dict g t/\g.toList=xs.map (entryOfKey (tupleKind knd))/\(xs.map (·.1)).Nodup)->Heap.SameBut d s.heap h'->Q () { s with heap:=h' }) (hsz:xs.length<=sizeLine) :
   wpAny (model prog w) A (Builtin.Dict.mergeDict nm d o) Q E s:=by
 obtain ⟨N,W,a,G,S,k,H,p,I⟩:=id B
 obtain ⟨R,J,u,O,y,F,D,m,L⟩:=id M
 have c:W=#[]:=by
   obtain ⟨l⟩:=W
   have:l=[]:=by simpa using H
   rw [this]
 have h:J.size=xs.length:=by
   obtain ⟨l⟩:=J
   have:l.length=_:=abI List.length D
   simpa using this
 unfold Builtin.Dict.mergeDict
 rw [aam (by simpa using n)]
 unfold Builtin.Dict.showsAll
 rw [aam (by rw [Y];exact aah)]
 refine UV (aas ?_)
 refine UV (acL O F ?_)
 dsimp only
 cases xs with
 | nil =>
   have v:J=#[]:=by
     obtain ⟨l⟩:=J
     have:l=[]:=by simpa using D
     rw [this]
   subst v
   have f:Q () s:=by
     have:=i s.heap ⟨N,W,a,G,S,k,H,L⟩ (Heap.SameBut.refl _ _)
     exact this
   split
   . rename_i b
     exact absurd b (by simp)
   . refine UV (wpAny_dictEpoch O F ?_)
     refine UV (acL O F ?_)
     refine UV ?_
     rw [Std.Legacy.Range.forIn_eq_forIn_range']
     exact aas (aas f)
 | cons x xs =>
   have b:(decide (J.size<=8) && J.all λ e=>(keyPart e.key).isSome)=false:=by
     obtain ⟨l⟩:=J
     have r:l=_:=D
     subst r
     have:keyPart (entryOfKey (tupleKind knd) x).key=none:=rfl
     simp [this]
   rw [b]
   simp only [adD,ab2]
   refine UV (acL G k ?_)
   rw [c]
   simp only [Array.isEmpty_empty,ab2]
   refine UV (ko O F D m C ?_)
   have j:J.isEmpty=false:=by
     rw [Array.isEmpty_eq_false_iff]
     intro z
     rw [z] at h
     simp at h
   rw [j]
   simp only [adD,ab2]
   refine UV (wpAny_updateDictKeysTo G k (aas (i _ ⟨_,_,a+1,abT _ G (Obj.isFreed_of_dict (Obj.data_mapDictKeys k _)),S.mapDictKeys _,Obj.data_mapDictKeys k _,D,L⟩ (adm ..))) (by rw [h];lia))
def vp {o:ai} {xs:List (List K×ai×au)} {Q:au->Shared->Prop} (Y:(o == sysModules)=false) (f:s.heap.DictOfH (tupleKind knd) o xs) (hsz:xs.length<=sizeLine) (t:(xs.map λ x=>tupleKeyHash knd x.1).Nodup)
   (h:∀ h',(∃ q d l,h'.get? s.heap.objs.size=some q/\q.ExactDict/\q.data = .dict d l/\d.toList=xs.map (entryOfKey (tupleKind knd))/\(xs.map (·.1)).Nodup)->Heap.SameBut s.heap.objs.size (s.heap.push { cls:=.type "dict",data:=.dict #[]}) h'->Q (.ref s.heap.objs.size) { s with heap:=h' }) :
   wpAny (model prog w) A (call (.type "dict") [.ref o]) Q E s:=by
 refine callType_codes (Q₁:=λ O S=>O = .ref s.heap.objs.size/\S={ s with heap:=s.heap.push { cls:=.type "dict",data:=.dict #[]}}) F.kt_called_dict (F.kt_typeCall_dict_1 _) F.entry_dict_init (kt_code_dict_new _ ⟨rfl,rfl⟩) ?_
 rintro O S ⟨rfl,rfl⟩
 have C:(s.heap.push { cls:=.type "dict",data:=.dict #[]}).DictOfH (tupleKind knd) s.heap.objs.size []:=Heap.DictOfH.new s.heap
 have a:(s.heap.push { cls:=.type "dict",data:=.dict #[]}).DictOfH (tupleKind knd) o xs:=by
   obtain ⟨v,J,b,j,H,i,D,k,L⟩:=id f
   exact ⟨v,J,b,aac _ j,H,i,D,λ x u=>(let ⟨q,I,n,m,p⟩:=k x u;⟨q,I,n,aac _ m,p⟩),L⟩
 have W:s.heap.objs.size≠o:=by
   obtain ⟨Z,Z,Z,r,Z⟩:=f
   exact λ e=>absurd (aao r) (by rw [e];exact aa9 _)
 refine ⟨C.typeIs,F.args_dict_init_2 _ _,?_⟩
 unfold Builtin.«dict.__init__»
 refine UV ?_
 unfold Builtin.Dict.selfAndRest
 refine UV (wpAny_notOrdered_dict C.typeIs ?_)
 show wpAny _ _ (pure (s.heap.objs.size,[Value.ref o])) _ _ _
 refine aas ?_
 show wpAny _ _ (Builtin.Dict.updateFrom "dict.__init__" s.heap.objs.size (.ref o) [] .none) _ _ _
 unfold Builtin.Dict.updateFrom
 refine UV (wpAny_typeOf a.typeIs ?_)
 rw [aam (by decide)]
 refine UV ?_
 unfold Builtin.Dict.merge
 refine UV ?_
 unfold Builtin.Dict.readDirectly
 refine UV (wpAny_isInstance a.typeIs isSubtype_dict_dict ?_)
 simp only [adM,ab5,acm]
 refine UV (ac1 a.typeIs F.slot_dict_iter.lookup (aas ?_))
 simp only [adi,ab2]
 refine UV (aas ?_)
 refine pQ (hsz:=hsz) W Y C a t λ h' g c=>?_
 show wpAny _ _ (Builtin.Dict.addKeywords s.heap.objs.size [] >>= _) _ _ _
 exact UV (aas (aas ⟨rfl,h h' g c⟩))
end
end PySem
namespace L2
open PySem PySem.Spec PyProof.Rows Mth
variable {elt iter tg:Expr} {g:TG} {ifs:List Expr} {py KF:Pos} {te:TE} {yi:Nat}
section
variable {X:Cx} {pins:List (ai×Obj)} {U:St} {H:Hp} {s:Shared} {a:ai} {aE:List (List Key×V)} {A:Around} {E:au->Shared->Prop}
def FL {Q:au->Shared->Prop} (I:Inv X pins U H s) (e:Rd H a (.dT aE)) (g:(aE.map λ k=>tupleKeyHash (cC X.prog X.w) k.1).Nodup) (h:∀ p s',H p=none->Inv X pins U (upd H p (.dT aE)) s'->Q (.ref p) s'):wpAny (model X.prog X.w) A (call (.type "dict") [.ref a]) Q E s:=by
 obtain ⟨z,n,l,R,d⟩:=we I.cA e
 have u:l.map (λ x=>tupleKeyHash (cC X.prog X.w) x.1)=aE.map λ k=>tupleKeyHash (cC X.prog X.w) k.1:=by
   clear d z g h e
   induction R with
   | nil=>rfl
   | cons r _ v=>rw [aaQ,aaQ,v,r.1]
 refine vp n d (by rw [<- acb R];exact z) (by rw [u];exact g) λ y m t=>?_
 have i:H s.heap.objs.size=none:=I.cA.fresh (aaf _)
 refine h _ _ i (I.laid (a:=s.heap.objs.size) (o:=.dT aE) (t':=s.toks) (λ b q j=>?_) (aaf _) ⟨z,abo.mpr (abA (aaB I.big)),l,R.keeps λ c Y f=>?_,m⟩)
 . exact (t.2 b (aaB (aao j))).trans (aac _ j)
 . rw [aB (ax f i)];exact f
end
def vc {X:Cx}:iy X (.type "dict") (λ xs H Q=>∃ p a,xs=[.ref p]/\H p=some (.dT a)/\(a.map λ k=>tupleKeyHash (cC X.prog X.w) k.1).Nodup/\∀ l,H l=none->Q (.ref l) (upd H l (.dT a))):=by
 intro b s U H xs f Q I r h
 obtain ⟨p,a,rfl,e,c,q⟩:=h
 obtain ⟨u,rfl,R⟩:=vals1 r
 cases R
 exact FL I (.inl e) c λ l S d i=>⟨.ref l,_,i,rfl,q l d⟩
def Lz:bootBuiltins "dict" = some (.type "dict"):=by decide +kernel
section
variable {X:Cx}
def LG {y:Str} {S:Scope} {p:Pos} {w:TI} {t:TT} {N':cp} {n:Nat} {sl:bg} (Q:X.calm=true) (hi:PI X tg iter w) (hg:∀ cl C s H ex,PG (cF X N' S cl C s H ex) tg g) (ht:∀ cl C s H ex,LU (cF X N' S cl C s H ex) ifs t) (R:∀ cl C s H ex,PE (cF X N' S cl C s H ex) elt te) (T:N'.length=n+sl.length) (O:∀ k j:Nat,sl[k]?=some j->∃ x,N'[n+k]?=some x/\X.N[j]?=some x/\S.names.lookup x=some .free) (hk:S.kind = .function) (iz:∀ y∈S.names,y.2 ≠ .cell) (kE:∀ y∈S.names,y.2 = .local->S.names.lookup y.1=some .local) (jL:∀ y∈S.names,y.2 = .free->X.env.kindOf y.1=some .cell\/X.env.kindOf y.1=some .free) (K:X.N.Nodup) (V:X.N[yi]?=some y) (hy:Loc X.env.scope y) (W:X.fn y=true\/X.env.scope.names.lookup y=some .local) (Y:swapsWith (.ListComp elt [⟨tg,iter,ifs,0⟩] S p) (some (.Name y py)) KF.line X.env=pure true) (hs:∀ x,foldedSetIterable iter X.env x=pure x:=by intro Z;rfl) :
   PS X (.Assign [.Name y py] (.ListComp elt [⟨tg,iter,ifs,0⟩] S p) KF) (GH (yF w g t te n sl) (tF yi)):=by
 intro f s U H D I h
 rw [exec_Assign_Name_used _ _ _ _ Y]
 refine UV (acw (UV ?_))
 show wpAny _ X.A (do let _ <- comprehension (.ListComp elt [⟨tg,iter,ifs,0⟩] S p) S X.env _ (newList []) false (eval iter X.env) (some (assign (.Name y py) X.env))) _ _ s
 refine UV (aa0 (vR (use:=some (assign (.Name y py) X.env)) (Qp:=λ Z l=>SP X f D .next l) Q hi hg ht R T O hk iz kE jL hs I h λ s6 u d c m J F hn q=>?_)
   (λ Z l hq=>aas (aas hq)) λ Z Z e=>e)
 refine wpAny_assign_Name (wy (v:=.ref d) J K V hy rfl (λ s7 B ⟨a,i,L⟩=>?_) W)
 have na:c≠a:=λ z=>by
   rcases L with q|q
   . exact F.2.1 (z.trans q)
   . exact F.2.2.2.2.1 _ a q z.symm
 refine ⟨m,?_,λ h' sb=>?_⟩
 . obtain ⟨o,G,E,ho,r⟩:=hn
   exact ⟨o,G,E,(i.2 _ na).trans ho,r⟩
 . exact ⟨_,u,B.turned (t':=s7.toks) (λ b Z M q=>(sb.2 b M).trans q) F.1 F.2.1 F.2.2.2.1 F.2.2.2.2.1 F.2.2.2.2.2,q⟩
def qT {y:Str} {S:Scope} {p:Pos} {w:TI} {l:TT} (T f:cp) (sl:bg) (a:Paired (λ (j:Nat) (x:Str)=>X.N[j]?=some x/\S.names.lookup x=some .free/\(X.env.kindOf x=some .cell\/X.env.kindOf x=some .free)) sl f) (o:X.calm=true) (v:PI X tg iter w) (u:∀ cl C s H ex,PG (cF X (T++f) S cl C s H ex) tg g) (D:∀ cl C s H ex,LU (cF X (T++f) S cl C s H ex) ifs l) (q:∀ cl C s H ex,PE (cF X (T++f) S cl C s H ex) elt te) (n:X.N.Nodup) (d:Loc X.env.scope y) (A:S.kind = .function:=by rfl) (I:∀ y∈S.names,y.2 ≠ .cell:=by decide +kernel) (F:∀ y∈S.names,y.2 = .local->S.names.lookup y.1=some .local:=by decide +kernel) (J:∀ y∈S.names,y.2 = .free->y.1∈f:=by decide +kernel) (V:X.N[yi]?=some y:=by rfl) (Y:swapsWith (.ListComp elt [⟨tg,iter,ifs,0⟩] S p) (some (.Name y py)) KF.line X.env=pure true:=by rfl) (b:X.fn y=true\/X.env.scope.names.lookup y=some .local:=by first|exact .inl rfl|exact .inr rfl|assumption) (B:∀ x,foldedSetIterable iter X.env x=pure x:=by intro Z;rfl) :
   PS X (.Assign [.Name y py] (.ListComp elt [⟨tg,iter,ifs,0⟩] S p) KF) (GH (yF w g l te T.length sl) (tF yi)):=by
 have K:∀ {sl:bg} {f:cp},Paired (λ (j:Nat) (x:Str)=>X.N[j]?=some x/\S.names.lookup x=some .free/\(X.env.kindOf x=some .cell\/X.env.kindOf x=some .free)) sl f ->
     (∀ k j:Nat,sl[k]?=some j->∃ x,f[k]?=some x/\X.N[j]?=some x/\S.names.lookup x=some .free)/\∀ x∈f,X.env.kindOf x=some .cell\/X.env.kindOf x=some .free:=by
   intro sl f a
   induction a with
   | nil=>exact ⟨λ k j h=>by simp at h,λ x c=>by simp at c⟩
   | cons r t i =>
     refine ⟨λ k j h=>?_,λ x c=>?_⟩
     . cases k with
       | zero =>
         have e:_=j:=aaj h
         subst e
         exact ⟨_,rfl,r.1,r.2.1⟩
       | succ k=>exact i.1 k j (by simpa using h)
     . rcases aaa.mp c with z|z
       . rw [z];exact r.2.2
       . exact i.2 x z
 refine LG (N':=T++f) o v u D q (by rw [aad,a.length]) (λ k j h=>?_) A I F (λ y d b=>(K a).2 _ (J y d b)) n V d b Y B
 obtain ⟨x,E,m⟩:=(K a).1 k j h
 exact ⟨x,by rw [aaG (abV _ _),adK];exact E,m⟩
end
abbrev ce:=Int×Int
structure ap where
 most:Int
 iO:Int
 load:Int
 rows:List (List ce)
 bH:Int->Int->Option ce
 bC:List (ce×ce×ce)
 aH:List (Option (ce×Int×Int×Int))
abbrev nX (s:ce×ce×ce):PyData:=.tuple [dO s.1,dO s.2.1,dO s.2.2]
abbrev il:Option (ce×Int×Int×Int)->PyData
 | none => .none
 | some s => .tuple [dO s.1,.int s.2.1,.int s.2.2.1,.int s.2.2.2]
abbrev vC (r:List ce):PyData:=.tuple (r.map dO)
def lq (m:ap) (a p b c:ai):List (Str×V) :=
 [("most",.int m.most),("cap",.int m.iO),("load",.int m.load),("mark_rows",.ref a),("flows",.ref p),("skies",.ref b),("stoves",.ref c)]
section
variable (m:ap) (pm pf ps pt:ai)
def uQ:(lq m pm pf ps pt).lookup ("most" : Str)=some (.int m.most):=by rfl
def xR:(lq m pm pf ps pt).lookup ("cap" : Str)=some (.int m.iO):=by rfl
def Aj:(lq m pm pf ps pt).lookup ("load" : Str)=some (.int m.load):=by rfl
def pC:(lq m pm pf ps pt).lookup ("mark_rows" : Str)=some (.ref pm):=by rfl
def mj:(lq m pm pf ps pt).lookup ("flows" : Str)=some (.ref pf):=by rfl
def iK:(lq m pm pf ps pt).lookup ("skies" : Str)=some (.ref ps):=by rfl
def j0:(lq m pm pf ps pt).lookup ("stoves" : Str)=some (.ref pt):=by rfl
end
def mW (K:aC) (H:Hp):Option ce->fR->Prop
 | none,none=>True
 | some f,some v=>Dn K H (dO f) v
 | _,_=>False
abbrev gb (i j:Int):List Key:=[.inl i,.inl j]
def oZ (a:List (List Key×V)):Prop:=(a.map (·.1)).Nodup/\∀ p∈a,∃ i j:Nat,i<4/\j<4/\p.1=gb i j
end L2
namespace Mth
def nf (t b:Int):Int×Int:=(t.fdiv (Int.gcd t b:Nat),b.fdiv (Int.gcd t b:Nat))
def si {r q s:Int} (h:r ∣ q * s) (c:Int.gcd q r=1):r ∣ s:=by
 have H:r.natAbs ∣ q.natAbs * s.natAbs:=by rw [<- acU];exact adY.mpr h
 have a:Nat.Coprime r.natAbs q.natAbs:=by rw [Nat.coprime_comm];exact c
 exact adY.mp (Nat.Coprime.dvd_of_dvd_mul_left a H)
def Fr.uniq {t b q r Q r':Int} (H:b≠0) (h:Fr t b q r) (k:Fr t b Q r'):q=Q/\r=r':=by
 have e:q * r'=Q * r:=by
   have E:(q * r') * b=(Q * r) * b:=by
     have a:=h.jG
     have A:=k.jG
     calc (q * r') * b=(q * b) * r':=by rw [aaL]
       _=(t * r) * r':=by rw [a]
       _=(t * r') * r:=by rw [aaL]
       _=(Q * b) * r:=by rw [A]
       _=(Q * r) * b:=by rw [aaL]
   exact abm H E
 have d:r ∣ r':=by
   have:r ∣ q * r':=⟨Q,by rw [e,abr]⟩
   exact si this h.Uu
 have D:r' ∣ r:=by
   have:r' ∣ Q * r:=⟨q,by rw [<- e,abr]⟩
   exact si this k.Uu
 have c:r=r':=Int.dvd_antisymm (aaP h.pos) (aaP k.pos) d D
 subst c
 exact ⟨abm (abQ h.pos) e,rfl⟩
def iB {t b:Int} (h:0<b):Fr t b (nf t b).1 (nf t b).2:=(GV (abQ h) rfl).2.2.1 h
theorem Fr.nf {t b q r:Int} (H:0<b) (h:Fr t b q r):(q,r)=nf t b:=by
 obtain ⟨e,E⟩:=h.uniq (abQ H) (iB H)
 rw [e,E]
def li (x y:Int×Int):Int×Int:=nf (x.1 * y.2+y.1 * x.2) (x.2 * y.2)
def mR (x y:Int×Int):Int×Int:=nf (x.1 * y.2 - y.1 * x.2) (x.2 * y.2)
def aN (x y:Int×Int):Bool:=decide (x.1 * y.2<y.1 * x.2)
structure dH (n:Nat) (f:Int×Int):Prop where
 t:Bd n f.1
 b:Bd n f.2
 p:0<f.2
theorem dH.mono {m n:Nat} {f:Int×Int} (h:dH m f) (l:m<=n):dH n f:=⟨h.t.mono l,h.b.mono l,h.p⟩
def dH.minus {m n:Nat} {x y:Int×Int} (h:dH m x) (k:dH n y):dH (m+n+1) (mR x y):=by
 have F:=iB (t:=x.1 * y.2 - y.1 * x.2) (b:=x.2 * y.2) (aaZ h.p k.p)
 have B:Bd (m+n) (x.1 * y.2):=h.t.mul k.b
 have a:Bd (m+n) (y.1 * x.2):=by rw [acr];exact k.t.mul h.b
 exact ⟨F.US (B.sub a),F.UJ ((h.b.mul k.b).mono (abO _)),F.pos⟩
def dH.plus {m n:Nat} {x y:Int×Int} (h:dH m x) (k:dH n y):dH (m+n+1) (li x y):=by
 have F:=iB (t:=x.1 * y.2+y.1 * x.2) (b:=x.2 * y.2) (aaZ h.p k.p)
 have B:Bd (m+n) (x.1 * y.2):=h.t.mul k.b
 have a:Bd (m+n) (y.1 * x.2):=by rw [acr];exact k.t.mul h.b
 exact ⟨F.US (B.add a),F.UJ ((h.b.mul k.b).mono (abO _)),F.pos⟩
def Hu:dH 100 (0,1):=⟨(by decide:(_:Int).natAbs<_),(by decide:(_:Int).natAbs<_),by decide⟩
def Vp:dH 100 (1,1):=⟨(by decide:(_:Int).natAbs<_),(by decide:(_:Int).natAbs<_),by decide⟩
end Mth
namespace L2
open PySem PySem.Spec PyProof.Rows Mth
variable {H H':Hp} {Q:VK} {l:List Int} {o u:HO} {v:V}
structure ap.Wf (m:ap):Prop where
 rows:∀ r∈m.rows,∀ f∈r,dH 100 f
 len:∀ r∈m.rows,2<=r.length/\r.length<=7
 bH:∀ i j f,m.bH i j=some f->dH 100 f
 bC:∀ s∈m.bC,dH 100 s.1/\dH 100 s.2.1/\dH 100 s.2.2
 aH:∀ x,some x∈m.aH->dH 100 x.1
structure aV (K:aC) (C:ai) (H:Hp) (a:ai) (fp:bZ) (m:ap):Prop where
 ex:∃ dx pm pf ps pt vm vs vt aE,fp=[a,dx,pm,pf,ps,pt]/\H a=some (.ins C dx (lq m pm pf ps pt))/\H dx=some (.own a)/\H pm=some (.lst vm)/\H pf=some (.dT aE)/\H ps=some (.lst vs)/\H pt=some (.lst vt) /\
   pm≠ps/\pm≠pt/\ps≠pt/\bX K H (m.rows.map vC) vm/\bX K H (m.bC.map nX) vs/\bX K H (m.aH.map il) vt/\(∀ i j,mW K H (m.bH i j) (gl aE (gb i j)))/\oZ aE
 sk:m.bC.length=m.rows.length
 st:m.aH.length=m.rows.length
 mx:m.rows.length<=4
 wf:m.Wf
def nB (f:bZ) (H h:Hp):Prop:=∀ b o,H b=some o->b∉f->h b=some o
def ap.fV (m:ap) (i j:Nat):ce:=(m.bH i j).getD (0,1)
def ap.fG (m:ap) (i:Nat):ce:=((m.bC[i]?).map (·.1)).getD (0,1)
def ap.gD (m:ap) (i n:Nat):ce:=(List.range n).foldl (λ a j=>mR a (m.fV i j)) (mR (1,1) (m.fG i))
def ap.own (m:ap) (i:Nat):ce:=m.gD i m.rows.length
def ap.share (m:ap) (i j:Nat):ce:=if i=j then m.own i else m.fV i j
theorem ap.Wf.fV {m:ap} (w:m.Wf) (i j:Nat):dH 100 (m.fV i j):=by
 unfold ap.fV
 cases e:m.bH i j with
 | none=>exact Hu
 | some f=>exact w.bH i j f e
theorem ap.Wf.fG {m:ap} (w:m.Wf) (i:Nat):dH 100 (m.fG i):=by
 unfold ap.fG
 cases e:m.bC[i]? with
 | none=>exact Hu
 | some f=>exact (w.bC f (aaz e)).1
def ap.kA (m:ap) (i n:Nat):m.gD i (n+1)=mR (m.gD i n) (m.fV i n):=by
 unfold ap.gD
 rw [aaU,abe];rfl
theorem ap.Wf.gD {m:ap} (w:m.Wf) (i:Nat):∀ n,dH (201+101 * n) (m.gD i n)
 | 0=>(Vp.minus (w.fG i)).mono (by decide)
 | n+1=>by
   rw [ap.kA]
   exact ((w.gD i n).minus (w.fV i n)).mono (by lia)
section
variable {K:aC} {H:Hp} {v:V}
def Dn.dI {s:ce×ce×ce} (h:Dn K H (nX s) v):∃ p V a v3,v = .ref p/\bR K H p [V,a,v3]/\Dn K H (dO s.1) V/\Dn K H (dO s.2.1) a/\Dn K H (dO s.2.2) v3:=by
 obtain ⟨p,k,e,q,x,R,c,d,X,j,f,D,i,r,g,b,E⟩:=h
 have E:r=[]:=E
 subst c f g E
 exact ⟨p,x,X,i,e,q,d,D,b⟩
def Gd {s:ce×ce×ce} {p:ai} {v a b:V} (q:bR K H p [v,a,b]) (d:Dn K H (dO s.1) v) (D:Dn K H (dO s.2.1) a) (c:Dn K H (dO s.2.2) b):Dn K H (nX s) (.ref p) :=
 fU q (bJ d (bJ D (bJ c gq)))
def uU (s:ce×ce×ce):d7 (nX s)=true:=by simp [nX,dO,d7]
def t9 (s:Option (ce×Int×Int×Int)):d7 (il s)=true:=by cases s<;>simp [il,dO,d7]
def Ah (r:List ce):d7 (vC r)=true:=k7.mpr λ d h=>by
 obtain ⟨f,Z,rfl⟩:=aat.mp h
 exact f6 f
def BP.fr {a:ai} {f:ce} (h:BP K a [.int f.1,.int f.2]):Dn K H (dO f) (.ref a):=hR (h.at H)
end
def ar {a:Type} {l:List a} {i:Nat} (h:i<l.length):l[i]?=some l[i]:=aaM h
def jb {a:Type} {xs:List a} {i:Nat} {v:a} (h:xs[i]?=some v):uw xs (i:Int)=some v:=bK h
def De {K:aC} {o:Option ce} {r:fR} {z:V} (h:mW K H o r) (a:Dn K H (dO (0,1)) z):Dn K H (dO (o.getD (0,1))) (r.getD z):=by
 cases o with
 | none=>cases r with
   | none=>exact a
   | some v=>exact (show False from h).elim
 | some f=>cases r with
   | none=>exact (show False from h).elim
   | some v=>exact h
inductive J6 (vs:aA) (H:Hp) (Q:VK) (_E:XK):Prop|mk (n g:Int) (_:vs=[.int n,.int g]) (_:Q (.bl (decide (0<=n/\n<=g))) H)
section
variable (K:aC) (C:ai)
inductive K5 (vs:aA) (H:Hp) (Q:VK) (_E:XK):Prop|mk (a fp m:_) (_:vs=[.ref a]) (_:aV K C H a fp m) (_:Q (aq m.rows.length) H)
inductive AO (vs:aA) (H:Hp) (Q:VK) (_E:XK):Prop|mk (a fp m:_) (i:Nat) (_:vs=[.ref a,aq i]) (_:aV K C H a fp m) (_:i<m.rows.length) (_:Q .cn H)
inductive Oo (vs:aA) (H:Hp) (Q:VK) (_E:XK):Prop|mk (a fp m:_) (i:Nat) (s:_) (_:vs=[.ref a,aq i]) (_:aV K C H a fp m) (_:m.bC[i]?=some s) (_:∀ v,Dn K H (nX s) v->Q v H)
inductive IB (vs:aA) (H:Hp) (Q:VK) (_E:XK):Prop|mk (a fp m:_) (i:Nat) (s:_) (_:vs=[.ref a,aq i]) (_:aV K C H a fp m) (_:m.aH[i]?=some s) (_:∀ v,Dn K H (il s) v->Q v H)
inductive Gu (vs:aA) (H:Hp) (Q:VK) (_E:XK):Prop|mk (a fp m:_) (i:Nat) (r:_) (_:vs=[.ref a,aq i]) (_:aV K C H a fp m) (_:m.rows[i]?=some r) (_:∀ p xs,H p=none->bX K H (r.map dO) xs->Q (.ref p) (upd H p (.lst xs)))
inductive MR (vs:aA) (H:Hp) (Q:VK) (_E:XK):Prop|mk (a fp m:_) (i:Nat) (_:vs=[.ref a,aq i]) (_:aV K C H a fp m) (_:i<m.rows.length) (_:∀ v H',aD H H'->Dn K H' (dO (m.own i)) v->Q v H')
inductive Iv (vs:aA) (H:Hp) (Q:VK) (_E:XK):Prop|mk (a fp m:_) (i j:Nat) (_:vs=[.ref a,aq i,aq j]) (_:aV K C H a fp m) (_:i<m.rows.length) (_:j<m.rows.length) (_:∀ v H',aD H H'->Dn K H' (dO (m.share i j)) v->Q v H')
end
theorem aV.same {K:aC} {C:ai} {a:ai} {f:bZ} {m:ap} (s:aD H H') (h:aV K C H a f m):aV K C H' a f m:=by
 obtain ⟨⟨g,u,t,v,w,V,B,G,A,e,o,J,k,n,F,E,N,p,r,D,b,c,d,l⟩,Q,x,y,z⟩:=h
 refine ⟨⟨g,u,t,v,w,V,B,G,A,e,s _ _ o,s _ _ J,s _ _ k,s _ _ n,s _ _ F,s _ _ E,N,p,r,bX.same s _ D,bX.same s _ b,bX.same s _ c,λ i j=>?_,l⟩,Q,x,y,z⟩
 have:=d i j
 revert this
 cases m.bH i j<;>cases gl A (gb i j)<;>intro q
 . exact q
 . exact q
 . exact q
 . exact Dn.same s _ q
def DF {n i:Nat} (h:i<n):D3 n (i:Int)=some i:=by
 unfold D3
 rw [aan (by lia),aan (by lia),aaX]
def O3 {x y z t:V}:[x,y,z,t].length<=sizeLine:=by show 4<=sizeLine;decide
def Mb {x:V}:[x].length<=sizeLine:=by show 1<=sizeLine;decide
theorem vT {b:Type} [DecidableEq b]:∀ (l L:List b),l.Nodup->(∀ x∈l,x∈L)->l.length<=L.length
 | [],_,_,_=>aaY _
 | x::l,L,f,h=>by
   obtain ⟨c,d⟩:=abB.mp f
   have H:=h x aaF
   have:=vT l (L.erase x) d λ y a=>(List.mem_erase_of_ne (λ e=>c (by rw [<- e];exact a))).mpr (h y (aak _ a))
   rw [List.length_erase_of_mem H] at this
   have g:=List.length_pos_of_mem H
   rw [aaD]
   lia
def Ju:List (List Key):=(List.range 4).flatMap λ (i:Nat)=>(List.range 4).map λ (j:Nat)=>gb (i:Int) (j:Int)
def oZ.len {a:List (List Key×V)} (h:oZ a):a.length<=16:=by
 have:=vT (a.map (·.1)) Ju h.1 λ x d=>by
   obtain ⟨p,c,rfl⟩:=aat.mp d
   obtain ⟨i,j,H,b,e⟩:=h.2 p c
   rw [e]
   exact adk.mpr ⟨i,aaH.mpr H,aat.mpr ⟨j,aaH.mpr b,rfl⟩⟩
 rw [OS] at this
 exact aaT this (by decide)
def oZ.put {A:List (List Key×V)} (h:oZ A) {i j:Nat} (g:i<4) (l:j<4) (v:V):oZ (putK A (gb i j) v):=by
 refine ⟨?_,λ p H=>?_⟩
 .
  cases e:gl A (gb i j) with
  | none=>exact Ke v h.1 e
  | some y =>
    have f:(A.any λ k=>decide (k.1=gb i j))=true:=by
      unfold gl at e
      cases q:A.find? λ k=>decide (k.1=gb i j) with
      | none=>rw [q] at e;cases e
      | some z=>have Q:=List.find?_some q;exact adl.mpr ⟨z,List.mem_of_find?_eq_some q,Q⟩
    unfold putK
    rw [aan f,abP]
    have:((λ x:List Key×V=>x.1) ∘ λ k:List Key×V=>if k.1=gb i j then (k.1,v) else k)=λ x=>x.1:=by
      funext x
      show (if x.1=gb i j then (x.1,v) else x).1=x.1
      split<;>rfl
    rw [this]
    exact h.1
 .
  unfold putK at H
  split at H
  . obtain ⟨z,m,rfl⟩:=aat.mp H
    obtain ⟨a,b,c,d,e⟩:=h.2 z m
    refine ⟨a,b,c,d,?_⟩
    split<;>exact e
  .
   rcases aaR.mp H with H|H
   . exact h.2 p H
   . have:p=(gb i j,v):=by simpa using H
     subst this
     exact ⟨i,j,g,l,rfl⟩
def yN {i j I J:Int} (h:gb i j=gb I J):i=I/\j=J:=by
 simp only [gb,ads,Sum.inl.injEq,and_true] at h
 exact h
def ap.fi (m:ap) (i j:Nat) (f:ce):ap:={ m with bH:=λ a b=>if a=(i:Int)/\b=(j:Int) then some f else m.bH a b }
def ap.f9 (m:ap) (i:Nat) (s:ce×ce×ce):ap:={ m with bC:=m.bC.set i s }
def ap.hJ (m:ap) (i:Nat) (s:ce×Int×Int×Int):ap:={ m with aH:=m.aH.set i (some s)}
def ap.cf (m:ap) (r:List ce):ap:={ m with rows:=m.rows++[r],bC:=m.bC++[((0,1),(0,1),(0,1))],aH:=m.aH++[none]}
def ap.new (most iO load:Int):ap:=⟨most,iO,load,[],λ Z Z=>none,[],[]⟩
structure rZ (K:aC) (C:ai) (H:Hp) (a:ai) (fp:bZ) (m':ap) (H':Hp) (qX:bZ):Prop where
 at_:aV K C H' a qX m'
 but:nB fp H H'
 ts:bD K H H'
 own:∀ b∈qX,b∈fp\/H b=none
theorem mW.ts {K:aC} (s:bD K H H'):∀ {o:Option ce} {v:fR},mW K H o v->mW K H' o v
 | none,none,_=>trivial
 | some f,some v,h=>Dn.ts s _ (f6 f) h
 | none,some _,h=>h
 | some _,none,h=>h
def kg {K:aC} {R:List (List ce)} {xs:aA} (s:bD K H H') (h:bX K H (R.map vC) xs):bX K H' (R.map vC) xs:=bX.ts s _ (λ d a=>by obtain ⟨r,Z,rfl⟩:=aat.mp a;exact Ah r) h
def iU {K:aC} {R:List (ce×ce×ce)} {xs:aA} (s:bD K H H') (h:bX K H (R.map nX) xs):bX K H' (R.map nX) xs:=bX.ts s _ (λ d a=>by obtain ⟨r,Z,rfl⟩:=aat.mp a;exact uU r) h
def gQ {K:aC} {R:List (Option (ce×Int×Int×Int))} {xs:aA} (s:bD K H H') (h:bX K H (R.map il) xs):bX K H' (R.map il) xs:=bX.ts s _ (λ d a=>by obtain ⟨r,Z,rfl⟩:=aat.mp a;exact t9 r) h
def sj (r:List ce):Bool:=(List.zipWith aN r r.tail).all id
def jW (R:List (List ce)):Int:=R.foldl (λ p r=>p * ((r.length:Int) - 1)) 1
section
variable (K:aC) (C:ai)
inductive Ls (vs:aA) (H:Hp) (Q:VK) (_E:XK):Prop|mk (a fp m:_) (i:Nat) (v1 v2 f g:_) (_:vs=[.ref a,aq i,v1,v2]) (_:aV K C H a fp m) (_:i<m.rows.length) (_:Dn K H (dO f) v1) (_:Dn K H (dO g) v2) (_:dH 100 f) (_:dH 100 g) (_:0<=f.1) (_:aN (li (m.own i) g) f=false) (_:∀ H',aD H H'->Q .cn H')
inductive yR (vs:aA) (H:Hp) (Q:VK) (_E:XK):Prop|mk (a fp m:_) (i j:Nat) (v f:_) (_:vs=[.ref a,aq i,aq j,v]) (_:aV K C H a fp m) (_:i<m.rows.length) (_:j<m.rows.length) (_:i≠j) (_:Dn K H (dO f) v) (_:dH 100 f) (_:0<=f.1) (_:aN (li (m.own i) (m.fV i j)) f=false) (_:∀ H' qX,rZ K C H a fp (m.fi i j f) H' qX->Q .cn H')
inductive Cv (vs:aA) (H:Hp) (Q:VK) (_E:XK):Prop|mk (a fp m:_) (i:Nat) (v1 v2 v3 f lo hi:_) (_:vs=[.ref a,aq i,v1,v2,v3]) (_:aV K C H a fp m) (_:i<m.rows.length) (_:Dn K H (dO f) v1) (_:Dn K H (dO lo) v2) (_:Dn K H (dO hi) v3) (_:dH 100 f) (_:dH 100 lo) (_:dH 100 hi) (_:aN hi lo=false) (_:0<=f.1) (_:aN (li (m.own i) (m.fG i)) f=false) (_:∀ H' qX,rZ K C H a fp (m.f9 i (f,lo,hi)) H' qX->Q .cn H')
inductive pA (vs:aA) (H:Hp) (Q:VK) (_E:XK):Prop|mk (a fp m:_) (i:Nat) (v f:_) (w st fl:Int) (_:vs=[.ref a,aq i,v,.int w,.int st,.int fl]) (_:aV K C H a fp m) (_:i<m.rows.length) (_:Dn K H (dO f) v) (_:dH 100 f) (_:0<=f.1) (_:(0<=w/\w<=9)) (_:(0<=st/\st<=3)) (_:(0<=fl/\fl<=3)) (_:∀ H' qX,rZ K C H a fp (m.hJ i (f,w,st,fl)) H' qX->Q .cn H')
inductive FA (vs:aA) (H:Hp) (Q:VK) (_E:XK):Prop|mk (p xs r:_) (_:vs=[.ref p]) (_:bi K H p xs) (_:bX K H (r.map dO) xs) (_:(∀ f∈r,dH 100 f)) (_:r.length<=7) (_:∀ H',aD H H'->Q (.bl (sj r)) H')
inductive HM (vs:aA) (H:Hp) (Q:VK) (_E:XK):Prop|mk (p xs rs:_) (_:vs=[.ref p]) (_:bi K H p xs) (_:bX K H (rs.map vC) xs) (_:rs.length<=5) (_:(∀ r∈rs,1<=r.length/\r.length<=7)) (_:Q (.int (jW rs)) H)
inductive AM (vs:aA) (H:Hp) (Q:VK) (_E:XK):Prop|mk (a fp m p xs r:_) (_:vs=[.ref a,.ref p]) (_:aV K C H a fp m) (_:m.rows.length<4) (_:bi K H p xs) (_:bX K H (r.map dO) xs) (_:(∀ f∈r,dH 100 f)) (_:2<=r.length) (_:r.length<=7) (_:sj r=true) (_:jW (m.rows++[r])<=400) (_:∀ H' qX,rZ K C H a fp (m.cf r) H' qX->Q (aq m.rows.length) H')
inductive DV (vs:aA) (H:Hp) (Q:VK) (_E:XK):Prop|mk (x dx:_) (most iO load:Int) (_:vs=[.ref x,.int most,.int iO,.int load]) (_:H x=some (.ins C dx [])) (_:H dx=some (.own x)) (_:(0<=most/\most<=4)) (_:(0<=iO/\iO<=30)) (_:(0<=load/\load<=30)) (_:∀ H' qX,rZ K C H x [x,dx] (ap.new most iO load) H' qX->Q .cn H')
end
def bM {a b:ai} (h:H a=some o) (k:H b=some u) (n:o≠u):a≠b:=λ e=>by
 subst e
 rw [h] at k
 exact n (aaj k)
def oN {m:ap} {C d w a p b c E W r s:ai} (h:some (HO.ins C d (lq m a p b c))=some (HO.ins C w (lq m E W r s))):d=w/\a=E/\p=W/\b=r/\c=s:=by
 simp only [lq,Option.some.injEq,HO.ins.injEq,ads,Prod.mk.injEq,aek,and_true,V.ref.injEq] at h
 exact h
def nB.same {f:bZ} (s:aD H H'):nB f H H':=λ b o h Z=>s b o h
theorem nB.upd {f:bZ} {p:ai} (b:nB f H H') (a:p∈f):nB f H (upd H' p o):=λ c u h n=>by
 rw [aB (λ e=>n (by rw [e];exact a))]
 exact b c u h n
section
variable {K:aC} {C:ai} {H H1:Hp} {a:ai} {fp:bZ} {m:ap}
def FO {B pm k ps pt:ai} {A:List (List Key×V)} {i j:Nat} {f:ce} (S:aV K C H a fp m) (s:aD H H1) (Q:H a=some (.ins C B (lq m pm k ps pt))) (O:H k=some (.dT A)) (U:i<4) (X:j<4) (d:Dn K H1 (dO f) v) (o:dH 100 f):rZ K C H a fp (m.fi i j f) (upd H1 k (.dT (putK A (gb i j) v))) fp:=by
 obtain ⟨⟨wC,E,W,rH,sy,vm,vs,vt,p,l,r,Y,G,M,L,F,n1,n2,n3,u,x,y,D,N⟩,q1,q2,q3,q⟩:=S
 obtain ⟨rfl,rfl,rfl,rfl,rfl⟩:=oN (r.symm.trans Q)
 obtain rfl:p=A:=by
   have:=M.symm.trans O
   injection this with e
   injection e
 have T:bD K H1 (upd H1 W (.dT (putK p (gb i j) v))):=cO (s _ _ M) rfl
 have t:=(aD.ts (K:=K) s).trans T
 have w:∀ {b o},H b=some o->o ≠ .dT p->(upd H1 W (.dT (putK p (gb i j) v))) b=some o:=λ h n=>by
   rw [aB (bM h M n)]
   exact s _ _ h
 refine ⟨⟨⟨wC,E,W,rH,sy,vm,vs,vt,putK p (gb i j) v,l,w r nofun,w Y nofun,w G nofun,ag,w L nofun,w F nofun,n1,n2,n3,kg t u,iU t x,gQ t y,λ I J=>?_,N.put U X v⟩,q1,q2,q3,⟨q.rows,q.len,λ I J g c=>?_,q.bC,q.aH⟩⟩,(nB.same s).upd (by rw [l];simp),t,λ b R => .inl R⟩
 .
  rw [AV]
  by_cases e:I=(i:Int)/\J=(j:Int)
  . show mW K _ (if I=(i:Int)/\J=(j:Int) then some f else m.bH I J) _
    rw [aan e,aan (by rw [e.1,e.2])]
    exact Dn.ts T _ (f6 f) d
  . show mW K _ (if I=(i:Int)/\J=(j:Int) then some f else m.bH I J) _
    rw [aam e,aam (λ z=>e (yN z))]
    exact (D I J).ts t
 .
  have c:(if I=(i:Int)/\J=(j:Int) then some f else m.bH I J)=some g:=c
  split at c
  . cases c
    exact o
  . exact q.bH I J g c
def GU {x X U p pt:ai} {vs:aA} {i:Nat} {z:ce×ce×ce} (L:aV K C H a fp m) (s:aD H H1) (I:H a=some (.ins C x (lq m X U p pt))) (f:H p=some (.lst vs)) (d:Dn K H1 (nX z) v) (o:dH 100 z.1/\dH 100 z.2.1/\dH 100 z.2.2):rZ K C H a fp (m.f9 i z) (upd H1 p (.lst (vs.set i v))) fp:=by
 obtain ⟨⟨wC,E,wV,r,sy,vm,B,vt,W,g,V,j,F,M,Y,A,N,S,c,k,l,u,D,G⟩,q1,q2,q3,q⟩:=L
 obtain ⟨rfl,rfl,rfl,rfl,rfl⟩:=oN (V.symm.trans I)
 obtain rfl:B=vs:=by
   have:=Y.symm.trans f
   injection this with e
   injection e
 have T:bD K H1 (upd H1 r (.lst (B.set i v))):=cO (s _ _ Y) rfl
 have t:=(aD.ts (K:=K) s).trans T
 have w:∀ {b o},H b=some o->b≠r->(upd H1 r (.lst (B.set i v))) b=some o:=λ h n=>by
   rw [aB n]
   exact s _ _ h
 refine ⟨⟨⟨wC,E,wV,r,sy,vm,B.set i v,vt,W,g,w V (bM V f nofun),w j (bM j f nofun),w F N,w M (bM M f nofun),ag,w A c.symm,N,S,c,kg t k,?_,gQ t u,λ Q R=>(D Q R).ts t,G⟩,?_,q2,q3,⟨q.rows,q.len,q.bH,λ y O=>?_,q.aH⟩⟩,(nB.same s).upd (by rw [g];simp),t,λ b J => .inl J⟩
 . show bX K _ ((m.bC.set i z).map nX) _
   rw [adf]
   exact bX.set (i:=i) (iU t l) (Dn.ts T _ (uU z) d)
 . show (m.bC.set i z).length=_
   rw [abq];exact q1
 . rcases adA O with h|h
   . exact q.bC y h
   . rw [h];exact o
def Bz {F pm X ps p:ai} {f:aA} {i:Nat} {z:ce×Int×Int×Int} (O:aV K C H a fp m) (s:aD H H1) (J:H a=some (.ins C F (lq m pm X ps p))) (c:H p=some (.lst f)) (d:Dn K H1 (il (some z)) v) (o:dH 100 z.1):rZ K C H a fp (m.hJ i z) (upd H1 p (.lst (f.set i v))) fp:=by
 obtain ⟨⟨wC,r,wV,rH,S,vm,B,E,Y,l,V,j,G,M,yC,g,W,N,k,u,x,A,D,I⟩,q1,q2,q3,q⟩:=O
 obtain ⟨rfl,rfl,rfl,rfl,rfl⟩:=oN (V.symm.trans J)
 obtain rfl:E=f:=by
   have:=g.symm.trans c
   injection this with e
   injection e
 have T:bD K H1 (upd H1 S (.lst (E.set i v))):=cO (s _ _ g) rfl
 have t:=(aD.ts (K:=K) s).trans T
 have w:∀ {b o},H b=some o->b≠S->(upd H1 S (.lst (E.set i v))) b=some o:=λ h n=>by
   rw [aB n]
   exact s _ _ h
 refine ⟨⟨⟨wC,r,wV,rH,S,vm,B,E.set i v,Y,l,w V (bM V c nofun),w j (bM j c nofun),w G N,w M (bM M c nofun),w yC k,ag,W,N,k,kg t u,iU t x,?_,λ R U=>(D R U).ts t,I⟩,q1,?_,q3,⟨q.rows,q.len,q.bH,q.bC,λ y Q=>?_⟩⟩,(nB.same s).upd (by rw [l];simp),t,λ b L => .inl L⟩
 . show bX K _ ((m.aH.set i (some z)).map il) _
   rw [adf]
   exact bX.set (i:=i) (gQ t A) (Dn.ts T _ (t9 (some z)) d)
 . show (m.aH.set i (some z)).length=_
   rw [abq];exact q2
 . rcases adA Q with h|h
   . exact q.aH y h
   . cases h;exact o
end
def GP (xs:aA):p5 xs (some 1) none=xs.tail:=by
 have e:HT.uY xs.length 0 (some 1)=min 1 xs.length:=HT.J3 _ _ 1
 unfold p5
 rw [e,HT.ID]
 cases xs with
 | nil=>rfl
 | cons x l =>
   have:min 1 (x::l).length=1:=by simp
   rw [this]
   simp
def aD.put {D:ai} (s:aD H H') (h:H D=none):aD H (upd H' D o):=λ b u e=>by
 rw [aB (ax e h)]
 exact s b u e
def Da {r:List ce} {i:Nat} {x y:ce} (h:r[i]?=some x) (H:r[i+1]?=some y):(List.zipWith aN r r.tail)[i]?=some (aN x y):=by
 rw [adW,h]
 have:r.tail[i]?=some y:=by rw [ac4];exact H
 rw [this]
section
variable {K:aC} {C:ai} {H H1:Hp} {a:ai} {fp:bZ} {m:ap}
def En {U D pf l t p V q N:ai} {vm vs vt:aA} {r:List ce} (hh:aV K C H a fp m) (s:aD H H1) (ha:H a=some (.ins C U (lq m D pf l t))) (eZ:H D=some (.lst vm)) (F:H l=some (.lst vs)) (E:H t=some (.lst vt)) (A:H p=none) (KL:H1 p=some (.lst (vm++[.ref V]))) (dr:Dn K H1 (vC r) (.ref V)) (mv:m.rows.length<4) (hr:∀ f∈r,dH 100 f) (hl:2<=r.length/\r.length<=7) (O:∀ H',Dn K H' (dO (0,1)) (.ref N)) (Fg:upd H1 a (.ins C U (bG "mark_rows" (.ref p) (lq m D pf l t))) q=none) :
   ∃ qX,rZ K C H a fp (m.cf r) (upd (upd (upd (upd H1 a (.ins C U (bG "mark_rows" (.ref p) (lq m D pf l t)))) q (.tup [.ref N,.ref N,.ref N])) l (.lst (vs++[.ref q]))) t (.lst (vt++[.cn]))) qX:=by
 obtain ⟨⟨I,EJ,L,R,S,Sh,B,d,ph,pG,v,J,MU,M,yC,ET,n1,n2,X,dm,ds,dt,df,fk⟩,q1,q2,q3,u⟩:=hh
 obtain ⟨rfl,rfl,rfl,rfl,rfl⟩:=oN (v.symm.trans ha)
 obtain rfl:Sh=vm:=by
   have:=MU.symm.trans eZ
   injection this with e
   injection e
 obtain rfl:B=vs:=by
   have:=yC.symm.trans F
   injection this with e
   injection e
 obtain rfl:d=vt:=by
   have:=ET.symm.trans E
   injection this with e
   injection e
 let H2:=upd H1 a (.ins C I (bG "mark_rows" (.ref p) (lq m EJ L R S)))
 let H3:=upd H2 q (.tup [.ref N,.ref N,.ref N])
 let H4:=upd H3 R (.lst (B++[.ref q]))
 let H5:=upd H4 S (.lst (d++[.cn]))
 have W:∀ {b o},H1 b=some o->b≠a->H2 b=some o:=λ h n=>by show upd _ _ _ _=_;rw [aB n];exact h
 have G:aD H2 H3:=al Fg
 have na:H2 a=some (.ins C I (bG "mark_rows" (.ref p) (lq m EJ L R S))):=ag
 have SS:=bM v F nofun
 have UO:=bM v E nofun
 have Rx:H2 R=some (.lst B):=W (s _ _ F) SS.symm
 have XH:H2 S=some (.lst d):=W (s _ _ E) UO.symm
 have VO:=G _ _ Rx
 have Wb:=G _ _ XH
 have W5:H4 S=some (.lst d):=by show upd _ _ _ _=_;rw [aB X.symm];exact Wb
 have ab:bD K H1 H2:=cO (s _ _ v) rfl
 have ad:bD K H3 H4:=cO VO rfl
 have Ue:bD K H4 H5:=cO W5 rfl
 have w:=ad.trans Ue
 have T:=ab.trans ((aD.ts G).trans w)
 have Q:=(aD.ts (K:=K) s).trans T
 have w5:∀ {b o},H2 b=some o->b≠R->b≠S->H5 b=some o:=λ h x y=>by
   show upd _ _ _ _=_
   rw [aB y]
   show upd _ _ _ _=_
   rw [aB x]
   exact G _ _ h
 have wo:∀ {b o},H b=some o->b≠a->b≠R->b≠S->H5 b=some o:=λ h x y z=>w5 (W (s _ _ h) x) y z
 have Y:p≠a:=(ax v A).symm
 have g:p≠R:=(ax F A).symm
 have k:p≠S:=(ax E A).symm
 have ae:q≠R:=(ax Rx Fg).symm
 have VJ:H5 R=some (.lst (B++[.ref q])):=by
   show upd _ _ _ _=_
   rw [aB X]
   exact ag
 refine ⟨[a,I,p,L,R,S],⟨⟨I,p,L,R,S,Sh++[.ref V],B++[.ref q],d++[.cn],ph,rfl,?_,wo J (bM J v nofun) (bM J F nofun) (bM J E nofun),w5 (W KL Y) g k,wo M (bM M v nofun) (bM M F nofun) (bM M E nofun),VJ,ag,g,k,X,?_,?_,?_,λ i j=>(df i j).ts Q,fk⟩,?_,?_,?_,?_⟩,?_,Q,?_⟩
 . exact w5 na SS UO
 . show bX K H5 ((m.rows++[r]).map vC) _
   rw [aab]
   exact (kg Q dm).snoc (Dn.ts T _ (Ah r) dr)
 . show bX K H5 ((m.bC++[((0,1),(0,1),(0,1))]).map nX) _
   rw [aab]
   exact (iU Q ds).snoc (Dn.ts w _ (uU _) (Gd (s:=((0,1),(0,1),(0,1))) (bR.of ag) (O _) (O _) (O _)))
 . show bX K H5 ((m.aH++[none]).map il) _
   rw [aab]
   exact (gQ Q dt).snoc rfl
 . show (m.bC++[_]).length=(m.rows++[r]).length
   rw [aad,aad,q1];rfl
 . show (m.aH++[_]).length=(m.rows++[r]).length
   rw [aad,aad,q2];rfl
 . show (m.rows++[r]).length<=4
   rw [aad];exact mv
 .
  refine ⟨λ x c=>?_,λ x c=>?_,u.bH,λ x c=>?_,λ x c=>?_⟩
  . rcases aaR.mp c with h|h
    . exact u.rows x h
    . rw [aai.mp h];exact hr
  . rcases aaR.mp c with h|h
    . exact u.len x h
    . rw [aai.mp h];exact hl
  . rcases aaR.mp c with h|h
    . exact u.bC x h
    . rw [aai.mp h];exact ⟨Hu,Hu,Hu⟩
  . rcases aaR.mp c with h|h
    . exact u.aH x h
    . cases aai.mp h
 .
  intro b o h n
  rw [pG] at n
  simp only [aaa,aae,aa2,ach] at n
  exact wo h n.1 n.2.2.2.2.1 n.2.2.2.2.2
 .
  intro b hb
  rw [pG]
  simp only [aaa,aae,aa2] at hb |-
  rcases hb with rfl|rfl|rfl|rfl|rfl|rfl
  . exact .inl (.inl rfl)
  . exact .inl (.inr (.inl rfl))
  . exact .inr A
  . exact .inl (.inr (.inr (.inr (.inl rfl))))
  . exact .inl (.inr (.inr (.inr (.inr (.inl rfl)))))
  . exact .inl (.inr (.inr (.inr (.inr (.inr rfl)))))
end
structure jg (K:aC) (C x dx:ai) (H H':Hp) (fs:List (Str×V)):Prop where
 st:∀ b o,H b=some o->b≠x->H' b=some o
 ts:bD K H H'
 at_:H' x=some (.ins C dx fs)
section
variable {K:aC} {C x dx:ai} {H H':Hp} {fs fs':List (Str×V)}
def jg.start (h:H x=some (.ins C dx fs)):jg K C x dx H H fs:=⟨λ Z Z h Z=>h,bD.refl _,h⟩
def jg.put (B:jg K C x dx H H' fs):jg K C x dx H (upd H' x (.ins C dx fs')) fs':=⟨λ b o h n=>by rw [aB n];exact B.st b o h n,B.ts.trans (cO B.at_ rfl),ag⟩
def jg.new {p:ai} (B:jg K C x dx H H' fs) (a:H' p=none):jg K C x dx H (upd H' p o) fs:=⟨λ b u h n=>by rw [aB (ax (B.st b u h n) a)];exact B.st b u h n,B.ts.trans (aD.ts (al a)),by rw [aB (ax B.at_ a)];exact B.at_⟩
def jg.keep {b:ai} (B:jg K C x dx H H' fs) (h:H' b=some o) (n:b≠x):(upd H' x u) b=some o:=by rw [aB n];exact h
theorem jg.none {p:ai} (B:jg K C x dx H H' fs) (h:H' p=none):H p=Option.none:=by
 cases e:H p with
 | none=>rfl
 | some o =>
   by_cases q:p=x
   . rw [q,B.at_] at h;cases h
   . rw [B.st p o e q] at h;cases h
def jg.ne {p:ai} (B:jg K C x dx H H' fs) (h:H' p=Option.none):p≠x:=λ q=>by rw [q,B.at_] at h;cases h
def Ee {a:Type} {p:a->Prop} (x:a) (h:x∈([]:List a)):p x:=absurd h aae
def GS {p d a c:ai} {most iO load:Int} (B:jg K C x dx H H' (lq (ap.new most iO load) p d a c)) (q:H x=some (.ins C dx fs')) (j:H dx=some (.own x)) (i:H' p=some (.lst [])) (k:H' d=some (.dT [])) (l:H' a=some (.lst [])) (m:H' c=some (.lst [])) (N:H p=none) (r:H d=none) (s:H a=none) (t:H c=none) (E:p≠a) (f:p≠c) (g:a≠c) :
   rZ K C H x [x,dx] (ap.new most iO load) H' [x,dx,p,d,a,c]:=by
 refine ⟨⟨⟨dx,p,d,a,c,[],[],[],[],rfl,B.at_,B.st _ _ j (bM j q nofun),i,k,l,m,E,f,g,rfl,rfl,rfl,λ Z Z=>trivial,acy,Ee⟩,rfl,rfl,aaY _,⟨Ee,Ee,λ Z Z Z h=>(by cases h),Ee,λ Z h=>absurd h aae⟩⟩,?_,B.ts,?_⟩
 . intro b o h n
   simp only [aaa,aae,aa2,ach] at n
   exact B.st b o h n.1
 .
  intro b e
  simp only [aaa,aae,aa2] at e |-
  rcases e with rfl|rfl|rfl|rfl|rfl|rfl
  . exact .inl (.inl rfl)
  . exact .inl (.inr rfl)
  . exact .inr N
  . exact .inr r
  . exact .inr s
  . exact .inr t
end
def lt1000 {n:Nat} (h:Nat.ble (n+1) 1000=true):n<1000:=acQ h
def D6 (i j:Int):Int:=reduceHash (Builtin.Tuple.tupleHashOf [hashInt i,hashInt j])
def EU:∀ i j I J:Fin 4,D6 (i.val:Int) (j.val:Int)=D6 (I.val:Int) (J.val:Int)->i=I/\j=J:=by decide +kernel
def FS (i:Nat) (H:i<4) (j:Nat) (c:j<4) (I:Nat) (W:I<4) (J:Nat) (w:J<4) (h:D6 (i:Int) (j:Int)=D6 (I:Int) (J:Int)):i=I/\j=J:=by
 obtain ⟨a,b⟩:=EU ⟨i,H⟩ ⟨j,c⟩ ⟨I,W⟩ ⟨J,w⟩ h
 exact ⟨abI Fin.val a,abI Fin.val b⟩
def oZ.hash {P:bq} {w:bh} {A:List (List Key×V)} (h:oZ A):(A.map λ K=>tupleKeyHash (cC P w) K.1).Nodup:=by
 have H:=ada.mp h.1
 refine ada.mpr (H.imp_of_mem λ {a b} f g n e=>?_)
 obtain ⟨i,j,k,l,E⟩:=h.2 a f
 obtain ⟨I,J,W,d,c⟩:=h.2 b g
 rw [E,c] at e
 obtain ⟨z,m⟩:=FS i k j l I W J d e
 exact n (by rw [E,c,z,m])
def K2:Option Int->V
 | none => .cn
 | some n => .int n
def CM {U:St} {t:TE} {k:Nat} {o:Option Int} {d:Int} (a:U[k]?=some (some (K2 o))) (b:∀ q:VK,q (.int d) H->t U H q) (h:Q (.int (o.getD d)) H) :
   tIf (IR (RR (λ x y H Q=>y = .cn/\Q (.bl (decide (x = .cn))) H) (K1 k) (tC .cn))) t (K1 k) U H Q:=by
 refine ⟨_,by rw [a],rfl,_,rfl,?_⟩
 cases o with
 | none=>exact qa rfl (b Q h)
 | some n=>exact nW nofun ⟨_,a,h⟩
def ap.with (m:ap) (x y z:Option Int):ap:={ m with most:=x.getD m.most,iO:=y.getD m.iO,load:=z.getD m.load }
def ap.Uz (m:ap):Prop:=(0<=m.most/\m.most<=4)/\(0<=m.iO/\m.iO<=30)/\(0<=m.load/\m.load<=30)
inductive DC (K:aC) (C:ai) (vs:aA) (H:Hp) (Q:VK) (_E:XK):Prop|mk (a fp m x y z:_) (_:vs=[.ref a,K2 x,K2 y,K2 z]) (_:aV K C H a fp m) (_:(m.with x y z).Uz) (_:∀ b H' qX,aD H H'->aV K C H' b qX (m.with x y z)->(∀ c∈qX,H c=none)->Q (.ref b) H')
def K3 {K:aC} {C:ai} {k:Hp} {a x d:ai} {fp:bZ} {m m':ap} {l c L b:ai} {v vs g:aA} {A:List (List Key×V)} {D o p u w:ai} (hh:aV K C H a fp m) (ha:H a=some (.ins C D (lq m o p u w))) (W:H o=some (.lst v)) (h9:H p=some (.dT A)) (X:H u=some (.lst vs)) (U:H w=some (.lst g)) (s:aD H k) (e:m'.rows=m.rows/\m'.bH=m.bH/\m'.bC=m.bC/\m'.aH=m.aH) (B:jg K C x d k H' (lq m' l c L b)) (jf:H' d=some (.own x)) (h1:H' l=some (.lst v)) (h2:H' c=some (.dT A)) (h3:H' L=some (.lst vs)) (h4:H' b=some (.lst g)) (O:l≠L) (Q:l≠b) (T:L≠b):aV K C H' x [x,d,l,c,L,b] m':=by
 obtain ⟨⟨wC,EJ,wV,rH,sy,S,h,E,n,pG,vM,F,M,mB,yC,z,n1,n2,n3,I,J,N,G,Y⟩,q1,q2,q3,q⟩:=hh
 obtain ⟨rfl,rfl,rfl,rfl,rfl⟩:=oN (vM.symm.trans ha)
 obtain rfl:S=v:=by
   have:=M.symm.trans W
   injection this with e
   injection e
 obtain rfl:h=vs:=by
   have:=yC.symm.trans X
   injection this with e
   injection e
 obtain rfl:E=g:=by
   have:=z.symm.trans U
   injection this with e
   injection e
 obtain rfl:n=A:=by
   have:=mB.symm.trans h9
   injection this with e
   injection e
 have t:=(aD.ts (K:=K) s).trans B.ts
 obtain ⟨r,y,R,f⟩:=e
 refine ⟨⟨d,l,c,L,b,S,h,E,n,rfl,B.at_,jf,h1,h2,h3,h4,O,Q,T,?_,?_,?_,λ i j=>?_,Y⟩,?_,?_,?_,⟨?_,?_,?_,?_,?_⟩⟩
 . rw [r];exact kg t I
 . rw [R];exact iU t J
 . rw [f];exact gQ t N
 . rw [y];exact (G i j).ts t
 . rw [r,R];exact q1
 . rw [r,f];exact q2
 . rw [r];exact q3
 . rw [r];exact q.rows
 . rw [r];exact q.len
 . rw [y];exact q.bH
 . rw [R];exact q.bC
 . rw [f];exact q.aH
def zN {ns:List Int} {r:Int} (H:0<=r) (a:r<ns.length):∃ z∈ns,uw (ns.map V.int) r=some (.int z):=by
 have h:r.toNat<ns.length:=by lia
 have e:(ns.map V.int)[r.toNat]?=some (.int (ns[r.toNat]'h)):=by simp [h]
 have E:=bK e
 rw [abd H] at E
 exact ⟨_,aag h,E⟩
inductive KW (vs:aA) (H:Hp) (Q:VK) (_E:XK):Prop|mk (c k n:Int) (_:vs=[.int c,.int k,.int n]) (_:0<=k) (_:k<=1000) (_:0<n) (_:∀ r,0<=r->r<n->Q (.int r) H)
structure wj where
 a:Int
 b:Int
 t:Int
 d:Int
structure wj.Ok (s:wj):Prop where
 a0:1<=s.a
 a1:s.a<=10 ^ 9
 b0:1<=s.b
 b1:s.b<=10 ^ 9
 t0 : -(10 ^ 9)<=s.t
 t1:s.t<=10 ^ 9
 d0:1<=s.d
 d1:s.d<=10 ^ 9
abbrev wj.vs (s:wj):aA:=[.int s.a,.int s.b,.int s.t,.int s.d]
inductive IN (vs:aA) (H:Hp) (Q:VK) (_E:XK):Prop|mk (c:Int) (_:vs=[.int c]) (_:∀ p H' (s:wj),s.Ok->aD H H'->H' p=some (.tup s.vs)->Q (.ref p) H')
def cB (n parts:Int) (s:wj):Int:=n * s.a * s.d+parts * s.t * s.b
def cg (parts:Int) (s:wj):Int:=parts * s.b * s.d
def aT (n parts:Int) (s:wj):ce:=nf (cB n parts s) (cg parts s)
inductive K9 (K:aC) (vs:aA) (H:Hp) (Q:VK) (_E:XK):Prop|mk (num parts p:_) (s:wj) (_:vs=[.int num,.int parts,.ref p]) (_:bR K H p s.vs) (_:s.Ok) (_:Bd 30 num) (_:0<parts) (_:Bd 30 parts) (_:∀ q H',aD H H'->H' q=some (.tup [.int (aT num parts s).1,.int (aT num parts s).2])->Q (.ref q) H')
def dR {parts:Int} {s:wj} (h:s.Ok) (H:0<parts):0<cg parts s:=aaZ (aaZ H (by have:=h.b0;lia)) (by have:=h.d0;lia)
def tH {x:Int} (h : -(10 ^ 9)<=x) (H:x<=10 ^ 9):Bd 30 x:=by show x.natAbs<2 ^ 30;lia
section
variable {s:wj}
def wj.Ok.ba (h:s.Ok):Bd 30 s.a:=tH (by have:=h.a0;lia) h.a1
def wj.Ok.bb (h:s.Ok):Bd 30 s.b:=tH (by have:=h.b0;lia) h.b1
def wj.Ok.bt (h:s.Ok):Bd 30 s.t:=tH h.t0 h.t1
def wj.Ok.bd (h:s.Ok):Bd 30 s.d:=tH (by have:=h.d0;lia) h.d1
end
def oF {N parts:Int} {s:wj} {n:Nat} (h:s.Ok) (H:0<parts) (g:Bd n N) (B:Bd n parts):dH (n+61) (aT N parts s):=by
 have F:=iB (t:=cB N parts s) (dR h H)
 have c:Bd (n+60) (N * s.a * s.d):=((g.mul h.ba).mul h.bd).mono (by lia)
 have e:Bd (n+60) (parts * s.t * s.b):=((B.mul h.bt).mul h.bb).mono (by lia)
 have f:Bd (n+60) (cg parts s):=((B.mul h.bb).mul h.bd).mono (by lia)
 exact ⟨(F.US (c.add e)).mono (by lia),(F.UJ f).mono (by lia),F.pos⟩
def tV {x y parts:Int} {s:wj} (h:s.Ok) (f:0<parts):aN (aT x parts s) (aT y parts s)=decide (x<y):=by
 have F:=iB (t:=cB x parts s) (dR h f)
 have G:=iB (t:=cB y parts s) (dR h f)
 have b:=dR h f
 have e:(aT x parts s).1 * (aT y parts s).2<(aT y parts s).1 * (aT x parts s).2↔cB x parts s<cB y parts s:=by
   have c:(aT x parts s).1 * cg parts s=cB x parts s * (aT x parts s).2:=F.jG
   have C:(aT y parts s).1 * cg parts s=cB y parts s * (aT y parts s).2:=G.jG
   have p:0<(aT x parts s).2:=F.pos
   have g:0<(aT y parts s).2:=G.pos
   generalize (aT x parts s).1=q at c |-
   generalize (aT x parts s).2=r at c p |-
   generalize (aT y parts s).1=Q at C |-
   generalize (aT y parts s).2=r2 at C g |-
   generalize cB x parts s=T at c |-
   generalize cB y parts s=i at C |-
   generalize cg parts s=B at c C b
   have k:(q * r2) * B=T * (r * r2):=by rw [aaL,c,abc]
   have K:(Q * r) * B=i * (r * r2):=by rw [aaL,C,abc,abr r2 r]
   have R:0<r * r2:=aaZ p g
   constructor
   . intro l
     have:=abj l b
     rw [k,K] at this
     exact abD this (aaP R)
   . intro l
     have:=abj l R
     rw [<- k,<- K] at this
     exact abD this (aaP b)
 unfold aN
 refine abU.mpr (e.trans ?_)
 have H:0<s.a * s.d:=aaZ (by have:=h.a0;lia) (by have:=h.d0;lia)
 unfold cB
 rw [abc x,abc y]
 constructor
 . intro l
   exact abD (by lia:x * (s.a * s.d)<y * (s.a * s.d)) (aaP H)
 . intro l
   have:=abj l H
   lia
abbrev GB (z:Int×Int×Int×Int):aA:=[.int z.1,.int z.2.1,.int z.2.2.1,.int z.2.2.2]
structure PQ (z:Int×Int×Int×Int):Prop where
 h:0<=z.1/\z.1<=25
 w:0<=z.2.1/\z.2.1<=9
 s:0<=z.2.2.1/\z.2.2.1<=3
 f:0<=z.2.2.2/\z.2.2.2<=3
inductive rC (vs:aA) (H:Hp) (Q:VK) (_E:XK):Prop|mk (a b c:Int) (i:Nat) (_:vs=[.int a,.int b,.int c,aq i]) (_:i<4) (_:Q .cn H) (_:∀ p z,PQ z->H p=none->Q (.ref p) (upd H p (.tup (GB z))))
def fP (H:Hp) (L:bZ):Hp:=λ b=>if b∈L then none else H b
section
variable {H H':Hp} {L:bZ} {a:ai} {o:HO}
def dC:aD (fP H L) H:=λ b u h=>by
 unfold fP at h
 split at h
 . cases h
 . exact h
def lZ (h:H a=some o) (n:a∉L):fP H L a=some o:=by unfold fP;rw [aam n];exact h
def sD (h:a∈L):fP (upd H a o) L=fP H L:=by
 funext b
 unfold fP
 split
 . rfl
 . rename_i n
   rw [aB (λ e=>n (by rw [e];exact h))]
def lT (s:aD H H'):aD (fP H L) (fP H' L):=λ b u h=>by
 unfold fP at h |-
 split at h
 . cases h
 . rename_i n
   rw [aam n]
   exact s b u h
end
structure av where
 marks:List (List Int)
 dI:List (Int×Int×Int)
 aH:List (Option (Int×Int×Int×Int))
 bH:Nat->Nat->Option Int
 scale:wj
 bounds:Int×Int×Int
abbrev Fi (z:Int×Int×Int):PyData:=.tuple [.int z.1,.int z.2.1,.int z.2.2]
abbrev stI:Option (Int×Int×Int×Int)->PyData
 | none => .none
 | some z => .tuple [.int z.1,.int z.2.1,.int z.2.2.1,.int z.2.2.2]
abbrev zl (l:List Int):PyData:=.list (l.map PyData.int)
def nN (b c d a f p:ai):List (Key×V) :=
 [(.inr "marks",.ref b),(.inr "sky",.ref c),(.inr "stoves",.ref d),(.inr "flows",.ref a),(.inr "scale",.ref f),(.inr "bounds",.ref p)]
structure TC (K:aC) (H:Hp) (p pm ps pt pf fW pb:ai) (vm vs vt:aA) (aE:List (List Key×V)) (m:av):Prop where
 hp:H p=some (.dK (nN pm ps pt pf fW pb))
 eZ:H pm=some (.lst vm)
 fj:H ps=some (.lst vs)
 eY:H pt=some (.lst vt)
 h9:H pf=some (.dT aE)
 n1:pm≠ps
 n2:pm≠pt
 n3:ps≠pt
 dm:bX K (fP H [p,pm,ps,pt,pf]) (m.marks.map zl) vm
 ds:bX K (fP H [p,pm,ps,pt,pf]) (m.dI.map Fi) vs
 dt:bX K (fP H [p,pm,ps,pt,pf]) (m.aH.map stI) vt
 df:∀ i j:Nat,i<4->j<4->gl aE (gb i j)=(m.bH i j).map V.int
 fk:oZ aE
 sc:bR K (fP H [p,pm,ps,pt,pf]) fW m.scale.vs
 bo:bR K (fP H [p,pm,ps,pt,pf]) pb [.int m.bounds.1,.int m.bounds.2.1,.int m.bounds.2.2]
section
variable {K:aC} {H H':Hp} {p pm ps pt pf fW pb:ai} {vm vs vt:aA} {aE:List (List Key×V)} {m:av}
theorem TC.same (c:TC K H p pm ps pt pf fW pb vm vs vt aE m) (s:aD H H'):TC K H' p pm ps pt pf fW pb vm vs vt aE m :=
 ⟨s _ _ c.hp,s _ _ c.eZ,s _ _ c.fj,s _ _ c.eY,s _ _ c.h9,c.n1,c.n2,c.n3,bX.same (lT s) _ c.dm,bX.same (lT s) _ c.ds,bX.same (lT s) _ c.dt,c.df,c.fk,(lT s).tup c.sc,(lT s).tup c.bo⟩
def TC.Gk (c:TC K H p pm ps pt pf fW pb vm vs vt aE m) {x:V} (d:Dn K (fP H [p,pm,ps,pt,pf]) (zl l) x) :
   TC K (upd H pm (.lst (vm++[x]))) p pm ps pt pf fW pb (vm++[x]) vs vt aE { m with marks:=m.marks++[l]}:=by
 have e:fP (upd H pm (.lst (vm++[x]))) [p,pm,ps,pt,pf]=fP H [p,pm,ps,pt,pf]:=sD (by simp)
 refine ⟨by rw [aB (bM c.hp c.eZ nofun)];exact c.hp,ag,by rw [aB c.n1.symm];exact c.fj,by rw [aB c.n2.symm];exact c.eY,by rw [aB (bM c.h9 c.eZ nofun)];exact c.h9,c.n1,c.n2,c.n3,?_,by rw [e];exact c.ds,by rw [e];exact c.dt,c.df,c.fk,by rw [e];exact c.sc,by rw [e];exact c.bo⟩
 rw [e]
 show bX K _ ((m.marks++[l]).map zl) _
 rw [aab]
 exact c.dm.snoc d
def TC.MS (c:TC K H p pm ps pt pf fW pb vm vs vt aE m) {l:Int×Int×Int} {x:V} (d:Dn K (fP H [p,pm,ps,pt,pf]) (Fi l) x) :
   TC K (upd H ps (.lst (vs++[x]))) p pm ps pt pf fW pb vm (vs++[x]) vt aE { m with dI:=m.dI++[l]}:=by
 have e:fP (upd H ps (.lst (vs++[x]))) [p,pm,ps,pt,pf]=fP H [p,pm,ps,pt,pf]:=sD (by simp)
 refine ⟨by rw [aB (bM c.hp c.fj nofun)];exact c.hp,by rw [aB c.n1];exact c.eZ,ag,by rw [aB c.n3.symm];exact c.eY,by rw [aB (bM c.h9 c.fj nofun)];exact c.h9,c.n1,c.n2,c.n3,by rw [e];exact c.dm,?_,by rw [e];exact c.dt,c.df,c.fk,by rw [e];exact c.sc,by rw [e];exact c.bo⟩
 rw [e]
 show bX K _ ((m.dI++[l]).map Fi) _
 rw [aab]
 exact c.ds.snoc d
def TC.HA (c:TC K H p pm ps pt pf fW pb vm vs vt aE m) {l:Option (Int×Int×Int×Int)} {x:V} (d:Dn K (fP H [p,pm,ps,pt,pf]) (stI l) x) :
   TC K (upd H pt (.lst (vt++[x]))) p pm ps pt pf fW pb vm vs (vt++[x]) aE { m with aH:=m.aH++[l]}:=by
 have e:fP (upd H pt (.lst (vt++[x]))) [p,pm,ps,pt,pf]=fP H [p,pm,ps,pt,pf]:=sD (by simp)
 refine ⟨by rw [aB (bM c.hp c.eY nofun)];exact c.hp,by rw [aB c.n2];exact c.eZ,by rw [aB c.n3];exact c.fj,ag,by rw [aB (bM c.h9 c.eY nofun)];exact c.h9,c.n1,c.n2,c.n3,by rw [e];exact c.dm,by rw [e];exact c.ds,?_,c.df,c.fk,by rw [e];exact c.sc,by rw [e];exact c.bo⟩
 rw [e]
 show bX K _ ((m.aH++[l]).map stI) _
 rw [aab]
 exact c.dt.snoc d
def av.fi (m:av) (i j:Nat) (k:Int):av:={ m with bH:=λ a b=>if a=i/\b=j then some k else m.bH a b }
theorem TC.fi (c:TC K H p pm ps pt pf fW pb vm vs vt aE m) {i j:Nat} {k:Int} (f:i<4) (g:j<4) :
   TC K (upd H pf (.dT (putK aE (gb i j) (.int k)))) p pm ps pt pf fW pb vm vs vt (putK aE (gb i j) (.int k)) (m.fi i j k):=by
 have e:fP (upd H pf (.dT (putK aE (gb i j) (.int k)))) [p,pm,ps,pt,pf]=fP H [p,pm,ps,pt,pf]:=sD (by simp)
 refine ⟨by rw [aB (bM c.hp c.h9 nofun)];exact c.hp,by rw [aB (bM c.eZ c.h9 nofun)];exact c.eZ,by rw [aB (bM c.fj c.h9 nofun)];exact c.fj,by rw [aB (bM c.eY c.h9 nofun)];exact c.eY,ag,c.n1,c.n2,c.n3,by rw [e];exact c.dm,by rw [e];exact c.ds,by rw [e];exact c.dt,λ a b h d=>?_,c.fk.put f g _,by rw [e];exact c.sc,by rw [e];exact c.bo⟩
 rw [AV]
 show _=(if a=i/\b=j then some k else m.bH a b).map V.int
 by_cases z:a=i/\b=j
 . rw [aan z,aan (by rw [z.1,z.2])];rfl
 . rw [aam z,aam (λ y=>z (by have:=yN y;lia))]
   exact c.df a b h d
end
def pi (l:List Int):Prop:=∀ i x y,l[i]?=some x->l[i+1]?=some y->x<y
structure wJ (n:Nat) (l:List Int):Prop where
 two:2<=l.length
 most:l.length<=if n<=2 then 7 else 5
 Jg:pi l
 bd:∀ x∈l,-200<=x/\x<=200
structure av.Ok (n i:Nat) (m:av):Prop where
 lm:m.marks.length=i
 ls:m.dI.length=i
 lt:m.aH.length=i
 rows:∀ l∈m.marks,wJ n l
 dI:∀ z∈m.dI,(0<=z.1/\z.1<=3)/\(-30<=z.2.1/\z.2.2<=60)/\z.2.1<=z.2.2/\z.2.2<=z.2.1+30
 aH:∀ z,some z∈m.aH->PQ z
 bH:∀ a b,a<i->b<n->a≠b->∃ k,m.bH a b=some k/\0<=k/\k<=3
 scale:m.scale.Ok
 bounds:(0<=m.bounds.1/\m.bounds.1<=4)/\(0<=m.bounds.2.1/\m.bounds.2.1<=30)/\(0<=m.bounds.2.2/\m.bounds.2.2<=30)
def iT (K:aC) (H:Hp) (p:ai) (m:av):Prop:=∃ d e g c f b v V h a,TC K H p d e g c f b v V h a m
theorem iT.same {K:aC} {p:ai} {m:av} (h:iT K H p m) (s:aD H H'):iT K H' p m:=by
 obtain ⟨e,g,i,d,f,b,v,V,j,a,c⟩:=h
 exact ⟨e,g,i,d,f,b,v,V,j,a,c.same s⟩
section
variable {H:Hp} {p pm ps pt pf fW pb:ai}
def db (h:H p=some (.dK (nN pm ps pt pf fW pb))):gO H p (.str "marks") (some (.ref pm)):=gO.k (k:=.inr "marks") h
def uf (h:H p=some (.dK (nN pm ps pt pf fW pb))):gO H p (.str "sky") (some (.ref ps)):=gO.k (k:=.inr "sky") h
def jj (h:H p=some (.dK (nN pm ps pt pf fW pb))):gO H p (.str "stoves") (some (.ref pt)):=gO.k (k:=.inr "stoves") h
def m9 (h:H p=some (.dK (nN pm ps pt pf fW pb))):gO H p (.str "flows") (some (.ref pf)):=gO.k (k:=.inr "flows") h
def tT (h:H p=some (.dK (nN pm ps pt pf fW pb))):gO H p (.str "scale") (some (.ref fW)):=gO.k (k:=.inr "scale") h
def mh (h:H p=some (.dK (nN pm ps pt pf fW pb))):gO H p (.str "bounds") (some (.ref pb)):=gO.k (k:=.inr "bounds") h
end
def Ko {j:Nat} (h:j<l.length):uw (l.map V.int) ((0:Int)+(j:Int))=some (.int l[j]):=by
 rw [aap]
 exact bK (by rw [T1,aaM h];rfl)
def JO {n:Nat} (h:1<=n) (H:n<=4) {x:Int} (e:x=(n:Int) - 1):uw [V.int 6,.int 6,.int 4,.int 4] x=some (.int (if n<=2 then 6 else 4)):=by
 subst e
 match n,h,H with
 | 1,_,_=>rfl
 | 2,_,_=>rfl
 | 3,_,_=>rfl
 | 4,_,_=>rfl
def Ak {j:Nat} {z:Int} (h:pi l) (c:l.length=j+1) (d:l[j]'(by lia)<z):pi (l++[z]):=by
 intro i x y a H
 by_cases b:i+1<l.length
 . rw [aaA (by lia)] at a
   rw [aaA b] at H
   exact h i x y a H
 .
  have J:i+1<(l++[z]).length:=(RJ.mp H).1
  rw [aad,aa8] at J
  have e:i=j:=by lia
  subst e
  rw [aaA (by lia),aaM (by lia)] at a
  rw [aaG (by lia),c,acN] at H
  have a:=aaj a
  have H:z=y:=aaj H
  rw [<- a,<- H]
  exact d
theorem av.Ok.marks {n i:Nat} {m:av} {z:Int×Int×Int} {t:Option (Int×Int×Int×Int)} {fl:Nat->Nat->Option Int} (h:m.Ok n i) (d:wJ n l) (f:(0<=z.1/\z.1<=3)/\(-30<=z.2.1/\z.2.2<=60)/\z.2.1<=z.2.2/\z.2.2<=z.2.1+30) (e:∀ y,t=some y->PQ y) (c:∀ a b,a<i+1->b<n->a≠b->∃ k,fl a b=some k/\0<=k/\k<=3) :
   av.Ok n (i+1) { m with marks:=m.marks++[l],dI:=m.dI++[z],aH:=m.aH++[t],bH:=fl }:=by
 refine ⟨?_,?_,?_,λ x H=>?_,λ x H=>?_,λ x H=>?_,c,h.scale,h.bounds⟩
 . show (m.marks++[l]).length=_
   rw [aad,h.lm];rfl
 . show (m.dI++[z]).length=_
   rw [aad,h.ls];rfl
 . show (m.aH++[t]).length=_
   rw [aad,h.lt];rfl
 . rcases aaR.mp H with q|q
   . exact h.rows x q
   . rw [aai.mp q];exact d
 . rcases aaR.mp H with q|q
   . exact h.dI x q
   . rw [aai.mp q];exact f
 . rcases aaR.mp H with q|q
   . exact h.aH x q
   . exact e x (aai.mp q).symm
theorem xr {K:aC}:∀ l:List Int,bX K H (l.map PyData.int) (l.map V.int)
 | []=>rfl
 | x::l=>⟨.int x,l.map V.int,rfl,rfl,xr l⟩
def TC.LI {K:aC} {p d e f a F g b:ai} {v vs i:aA} {A:List (List Key×V)} {m:av} (c:TC K H p d e f a F g v vs i A m) (h:H b=none):b∉[p,d,e,f,a]:=by
 simp only [aaa,aae,aa2,ach]
 exact ⟨(ax c.hp h).symm,(ax c.eZ h).symm,(ax c.fj h).symm,(ax c.eY h).symm,(ax c.h9 h).symm⟩
def OD (H:Hp) (t:Option (Int×Int×Int×Int)) (x:V) (h:Hp):Prop:=(t=none/\x = .cn/\h=H)\/∃ p z,t=some z/\x = .ref p/\H p=none/\PQ z/\h=upd H p (.tup (GB z))
def AW {vs:aA} {E:XK} {a b c:Int} {i:Nat} (f:vs=[.int a,.int b,.int c,aq i]) (d:i<4) (h:∀ t x H',OD H t x H'->Q x H'):rC vs H Q E :=
 ⟨a,b,c,i,f,d,h none _ _ (.inl ⟨rfl,rfl,rfl⟩),λ p z g e=>h (some z) _ _ (.inr ⟨p,z,rfl,rfl,e,g,rfl⟩)⟩
def OD.same {t:Option (Int×Int×Int×Int)} {x:V} (h:OD H t x H'):aD H H':=by
 rcases h with ⟨Z,Z,rfl⟩|⟨p,z,Z,Z,a,Z,rfl⟩
 . exact aD.refl _
 . exact al a
def OD.ok {t:Option (Int×Int×Int×Int)} {x:V} (h:OD H t x H'):∀ y,t=some y->PQ y:=by
 rcases h with ⟨rfl,Z,Z⟩|⟨p,z,rfl,Z,b,a,Z⟩
 . exact nofun
 . intro y e;cases e;exact a
def OD.dn {K:aC} {t:Option (Int×Int×Int×Int)} {x:V} {L:bZ} (h:OD H t x H') (n:∀ b,H b=none->b∉L):Dn K (fP H' L) (stI t) x:=by
 rcases h with ⟨rfl,rfl,Z⟩|⟨p,z,rfl,rfl,a,c,rfl⟩
 . rfl
 . exact fU (bR.of (lZ ag (n p a))) (bJ rfl (bJ rfl (bJ rfl (bJ rfl gq))))
end L2
namespace Mth
def Ov (W k:Int) (f:Int×Int):Prop:=f.1 * W=k * f.2/\0<f.2
theorem Ov.nf {W k:Int} (h:0<W):Ov W k (nf k W):=by
 have F:=iB (t:=k) h
 exact ⟨F.jG,F.pos⟩
def GY {W:Int}:Ov W W (1,1):=⟨by show 1 * W=W * 1;lia,by decide⟩
def sK {W:Int}:Ov W 0 (0,1):=⟨by show 0 * W=0 * 1;lia,by decide⟩
def Ov.minus {W a b:Int} {x y:Int×Int} (h:Ov W a x) (k:Ov W b y):Ov W (a - b) (mR x y):=by
 have F:=iB (t:=x.1 * y.2 - y.1 * x.2) (b:=x.2 * y.2) (aaZ h.2 k.2)
 refine ⟨?_,F.pos⟩
 have c:=F.jG
 have H:=h.1
 have d:=k.1
 have p:0<x.2 * y.2:=aaZ h.2 k.2
 show (Mth.nf (x.1 * y.2 - y.1 * x.2) (x.2 * y.2)).1 * W=(a - b) * (Mth.nf (x.1 * y.2 - y.1 * x.2) (x.2 * y.2)).2
 generalize (Mth.nf (x.1 * y.2 - y.1 * x.2) (x.2 * y.2)).1=q at c |-
 generalize (Mth.nf (x.1 * y.2 - y.1 * x.2) (x.2 * y.2)).2=r at c |-
 refine abm (abQ p) ?_
 have e:x.1 * y.2 * W=a * (x.2 * y.2):=by rw [aaL,H,abc]
 have E:y.1 * x.2 * W=b * (x.2 * y.2):=by rw [aaL,d,abc,abr y.2]
 calc q * W * (x.2 * y.2)=(q * (x.2 * y.2)) * W:=by rw [aaL]
   _=(x.1 * y.2 - y.1 * x.2) * r * W:=by rw [c]
   _=((x.1 * y.2 - y.1 * x.2) * W) * r:=by rw [aaL]
   _=(a * (x.2 * y.2) - b * (x.2 * y.2)) * r:=by rw [Int.sub_mul,e,E]
   _=(a - b) * r * (x.2 * y.2):=by rw [<- Int.sub_mul,aaL]
def Ov.plus {W a b:Int} {x y:Int×Int} (h:Ov W a x) (k:Ov W b y):Ov W (a+b) (li x y):=by
 have F:=iB (t:=x.1 * y.2+y.1 * x.2) (b:=x.2 * y.2) (aaZ h.2 k.2)
 refine ⟨?_,F.pos⟩
 have c:=F.jG
 have H:=h.1
 have d:=k.1
 have p:0<x.2 * y.2:=aaZ h.2 k.2
 show (Mth.nf (x.1 * y.2+y.1 * x.2) (x.2 * y.2)).1 * W=(a+b) * (Mth.nf (x.1 * y.2+y.1 * x.2) (x.2 * y.2)).2
 generalize (Mth.nf (x.1 * y.2+y.1 * x.2) (x.2 * y.2)).1=q at c |-
 generalize (Mth.nf (x.1 * y.2+y.1 * x.2) (x.2 * y.2)).2=r at c |-
 refine abm (abQ p) ?_
 have e:x.1 * y.2 * W=a * (x.2 * y.2):=by rw [aaL,H,abc]
 have E:y.1 * x.2 * W=b * (x.2 * y.2):=by rw [aaL,d,abc,abr y.2]
 calc q * W * (x.2 * y.2)=(q * (x.2 * y.2)) * W:=by rw [aaL]
   _=(x.1 * y.2+y.1 * x.2) * r * W:=by rw [c]
   _=((x.1 * y.2+y.1 * x.2) * W) * r:=by rw [aaL]
   _=(a * (x.2 * y.2)+b * (x.2 * y.2)) * r:=by rw [Int.add_mul,e,E]
   _=(a+b) * r * (x.2 * y.2):=by rw [<- Int.add_mul,aaL]
def Ov.under {W a b:Int} {x y:Int×Int} (H:0<W) (h:Ov W a x) (k:Ov W b y):aN x y=decide (a<b):=by
 unfold aN
 refine abU.mpr ?_
 have p:0<x.2 * y.2:=aaZ h.2 k.2
 have e:x.1 * y.2 * W=a * (x.2 * y.2):=by rw [aaL,h.1,abc]
 have E:y.1 * x.2 * W=b * (x.2 * y.2):=by rw [aaL,k.1,abc,abr y.2]
 constructor
 .
  intro l
  have:=abj l H
  rw [e,E] at this
  exact abD this (aaP p)
 .
  intro l
  have:=abj l p
  rw [<- e,<- E] at this
  exact abD this (aaP H)
end Mth
namespace L2
open PySem PySem.Spec PyProof.Rows Mth
variable {H:Hp} {elts:List Expr} {l:List Int} {ta:TA} {tm:av} {pR:Pos} {x1:Nat}
def sumF (fl:Nat->Nat->Int) (i:Nat):Nat->Int
 | 0=>0
 | t+1=>sumF fl i t+fl i t
structure gX (W:Int) (sk:Nat->Int) (fl:Nat->Nat->Int) (m:ap):Prop where
 dI:∀ i,Ov W (sk i) (m.fG i)
 fV:∀ i j,Ov W (fl i j) (m.fV i j)
theorem gX.gD {W:Int} {s:Nat->Int} {fl:Nat->Nat->Int} {m:ap} (h:gX W s fl m) (i:Nat):∀ t,Ov W (W - s i - sumF fl i t) (m.gD i t)
 | 0=>by
   have:=(GY (W:=W)).minus (h.dI i)
   have e:W - s i - sumF fl i 0=W - s i:=by show W - s i - 0=_;lia
   rw [e]
   exact this
 | t+1=>by
   rw [ap.kA]
   have:=(h.gD i t).minus (h.fV i t)
   have e:W - s i - sumF fl i (t+1)=W - s i - sumF fl i t - fl i t:=by show W - s i - (sumF fl i t+fl i t)=_;lia
   rw [e]
   exact this
theorem gX.own {W:Int} {s:Nat->Int} {fl:Nat->Nat->Int} {m:ap} (h:gX W s fl m) (i:Nat):Ov W (W - s i - sumF fl i m.rows.length) (m.own i):=h.gD i _
def gX.xT {W k:Int} {s:Nat->Int} {fl:Nat->Nat->Int} {m:ap} {f:ce} {i:Nat} (H:0<W) (h:gX W s fl m) (a:Ov W k f) (l:k<=W - sumF fl i m.rows.length):aN (li (m.own i) (m.fG i)) f=false:=by
 rw [((h.own i).plus (h.dI i)).under H a]
 exact aal (by lia)
def gX.sP {W k:Int} {s:Nat->Int} {fl:Nat->Nat->Int} {m:ap} {f:ce} {i j:Nat} (H:0<W) (h:gX W s fl m) (a:Ov W k f) (l:k<=W - s i - sumF fl i m.rows.length+fl i j):aN (li (m.own i) (m.fV i j)) f=false:=by
 rw [((h.own i).plus (h.fV i j)).under H a]
 exact aal (by lia)
def w9 {m:ap} {i j a b:Nat} {f:ce}:(m.fi i j f).fV a b=if a=i/\b=j then f else m.fV a b:=by
 unfold ap.fV ap.fi
 by_cases e:a=i/\b=j
 . rw [aan e]
   show ((if (a:Int)=(i:Int)/\(b:Int)=(j:Int) then some f else m.bH a b)).getD (0,1)=f
   rw [aan (by lia)];rfl
 . rw [aam e]
   show ((if (a:Int)=(i:Int)/\(b:Int)=(j:Int) then some f else m.bH a b)).getD (0,1)=_
   rw [aam (by lia)]
theorem gX.fi {W k:Int} {s:Nat->Int} {fl:Nat->Nat->Int} {m:ap} {f:ce} {i j:Nat} (h:gX W s fl m) (H:Ov W k f):gX W s (λ a b=>if a=i/\b=j then k else fl a b) (m.fi i j f):=by
 refine ⟨λ a=>h.dI a,λ a b=>?_⟩
 rw [w9]
 by_cases e:a=i/\b=j
 . simp only [aan e];exact H
 . simp only [aam e];exact h.fV a b
def zZ {m:ap} {i a:Nat} {z:ce×ce×ce} (h:i<m.bC.length):(m.f9 i z).fG a=if a=i then z.1 else m.fG a:=by
 unfold ap.fG ap.f9
 by_cases e:a=i
 .
  subst e
  rw [aan rfl]
  show (((m.bC.set a z)[a]?).map (·.1)).getD (0,1)=_
  rw [abn h];rfl
 . rw [aam e]
   show (((m.bC.set i z)[a]?).map (·.1)).getD (0,1)=_
   rw [abl (λ x=>e x.symm)]
theorem gX.f9 {W k:Int} {s:Nat->Int} {fl:Nat->Nat->Int} {m:ap} {z:ce×ce×ce} {i:Nat} (h:gX W s fl m) (c:i<m.bC.length) (H:Ov W k z.1):gX W (λ a=>if a=i then k else s a) fl (m.f9 i z):=by
 refine ⟨λ a=>?_,λ a b=>h.fV a b⟩
 rw [zZ c]
 by_cases e:a=i
 . simp only [aan e];exact H
 . simp only [aam e];exact h.dI a
theorem gX.new {W:Int} {most iO load:Int}:gX W (λ Z=>0) (λ Z Z=>0) (ap.new most iO load):=⟨λ Z=>sK,λ Z Z=>sK⟩
theorem gX.cf {W:Int} {s:Nat->Int} {fl:Nat->Nat->Int} {m:ap} {r:List ce} (h:gX W s fl m) (H:∀ i,m.bC.length<=i->s i=0):gX W s fl (m.cf r):=by
 refine ⟨λ a=>?_,λ a b=>h.fV a b⟩
 by_cases e:a<m.bC.length
 .
  have:(m.cf r).fG a=m.fG a:=by
    show (((m.bC++[((0,1),(0,1),(0,1))])[a]?).map (·.1)).getD (0,1)=((m.bC[a]?).map (·.1)).getD (0,1)
    rw [aaA e]
  rw [this]
  exact h.dI a
 .
  have:(m.cf r).fG a=(0,1):=by
    show (((m.bC++[((0,1),(0,1),(0,1))])[a]?).map (·.1)).getD (0,1)=(0,1)
    rw [aaG (by lia)]
    cases q:a - m.bC.length with
    | zero=>rfl
    | succ n=>rfl
  rw [this,H a (by lia)]
  exact sK
theorem gX.hJ {W:Int} {s:Nat->Int} {fl:Nat->Nat->Int} {m:ap} {i:Nat} {z:ce×Int×Int×Int} (h:gX W s fl m):gX W s fl (m.hJ i z):=⟨λ a=>h.dI a,λ a b=>h.fV a b⟩
def Kx {fl:Nat->Nat->Int} {t:Int} {i n:Nat} (H:n<=4) (f:0<=t) (h:∀ j,0<=fl i j/\fl i j<=t) (d:fl i i=0) (e:i<n):0<=sumF fl i n/\sumF fl i n<=3 * t:=by
 have a:=h 0
 have A:=h 1
 have b:=h 2
 have c:=h 3
 match n,H with
 | 0,_=>lia
 | 1,_=>simp only [sumF];lia
 | 2,_=>simp only [sumF];lia
 | 3,_=>simp only [sumF];lia
 | 4,_ =>
   have:i=0\/i=1\/i=2\/i=3:=by lia
   rcases this with rfl|rfl|rfl|rfl<;>simp only [sumF]<;>lia
def av.row (tm:av) (l:List Int):List ce:=l.map λ x=>aT x 1 tm.scale
def av.m1 (tm:av) (k:Nat):ap:=((tm.marks.take k).map tm.row).foldl ap.cf (ap.new tm.bounds.1 tm.bounds.2.1 tm.bounds.2.2)
def av.nR (tm:av) (z:Int×Int×Int):ce×ce×ce:=(nf z.1 12,aT z.2.1 1 tm.scale,aT z.2.2 1 tm.scale)
def av.ju (tm:av) (z:Int×Int×Int×Int):ce×Int×Int×Int:=(nf (z.1 * tm.scale.a) tm.scale.b,z.2.1,z.2.2.1,z.2.2.2)
def av.gx (tm:av) (m:ap) (i:Nat):ap:=match tm.dI[i]? with|some z=>m.f9 i (tm.nR z)|none=>m
def av.b7 (tm:av) (m:ap) (i:Nat):ap:=match tm.aH[i]? with|some (some z)=>m.hJ i (tm.ju z)|_=>m
def av.gC (tm:av) (i:Nat) (m:ap) (j:Nat):ap:=if j=i then m else match tm.bH i j with|some k=>m.fi i j (nf k 12)|none=>m
def av.fo (tm:av) (i:Nat) (m:ap) (j:Nat):ap:=(List.range j).foldl (tm.gC i) m
def av.pD (tm:av) (n:Nat) (m:ap) (i:Nat):ap:=tm.fo i (tm.b7 (tm.gx m i) i) n
def av.m2 (tm:av) (n k:Nat):ap:=(List.range k).foldl (tm.pD n) (tm.m1 n)
def av.Lv {k:Nat} (h:tm.marks[k]?=some l):tm.m1 (k+1)=(tm.m1 k).cf (tm.row l):=by
 unfold av.m1
 rw [abK,h,aab,abe];rfl
def av.DI (tm:av) (n k:Nat):tm.m2 n (k+1)=tm.pD n (tm.m2 n k) k:=by
 unfold av.m2
 rw [aaU,abe];rfl
def av.o9 (tm:av) (i:Nat) (m:ap) (j:Nat):tm.fo i m (j+1)=tm.gC i (tm.fo i m j) j:=by
 unfold av.fo
 rw [aaU,abe];rfl
def GN {n:Nat} {b:Nat} (f:b=if n<=2 then 6 else 4) (j:n<=4):∀ {R:List (List ce)},(∀ r∈R,1<=r.length/\r.length<=b+1)->R.length<=n->0<=jW R/\jW R<=400:=by
 intro R h q
 have K:∀ (R:List (List ce)) (p:Int),(∀ r∈R,1<=r.length/\r.length<=b+1)->0<=p->0<=R.foldl (λ p r=>p * ((r.length:Int) - 1)) p/\R.foldl (λ p r=>p * ((r.length:Int) - 1)) p<=p * (b:Int) ^ R.length:=by
   intro R
   induction R with
   | nil=>intro p Z H;exact ⟨H,by simp⟩
   | cons r R i =>
     intro p h H
     have s:=h r aaF
     have o:0<=p * ((r.length:Int) - 1):=abL H (by lia)
     obtain ⟨a,c⟩:=i (p * ((r.length:Int) - 1)) (λ x l=>h x (aak _ l)) o
     refine ⟨a,abt c ?_⟩
     have B:0<=(b:Int) ^ R.length:=Int.pow_nonneg (by lia)
     have e:p * ((r.length:Int) - 1)<=p * (b:Int):=aay (by lia) H
     have:=ace e B
     have E:p * (b:Int) ^ (r::R).length=p * (b:Int) * (b:Int) ^ R.length:=by rw [aaD,Int.pow_succ,<- abc,aaL]
     rw [E]
     exact this
 obtain ⟨a,c⟩:=K R 1 h (by decide)
 refine ⟨a,abt c ?_⟩
 rw [Int.one_mul]
 have g:(b:Int) ^ n<=400:=by
   subst f
   match n,j with
   | 0,_=>decide
   | 1,_=>decide
   | 2,_=>decide
   | 3,_=>decide
   | 4,_=>decide
 have J:(1:Int)<=(b:Int):=by subst f;split<;>lia
 have m:∀ d k:Nat,(b:Int) ^ k<=(b:Int) ^ (k+d):=by
   intro d k
   induction d with
   | zero=>exact abx _
   | succ d i =>
     refine abt i ?_
     rw [<- Nat.add_assoc,Int.pow_succ]
     have B:0<=(b:Int) ^ (k+d):=Int.pow_nonneg (by lia)
     have:=aay J B
     lia
 have:=m (n - R.length) R.length
 rw [show R.length+(n - R.length)=n by lia] at this
 lia
def Dd (ok:tm.scale.Ok) (h:pi l):sj (tm.row l)=true:=by
 unfold sj
 rw [abE]
 intro b a
 obtain ⟨i,H⟩:=List.mem_iff_getElem?.mp a
 rw [adW] at H
 unfold av.row at H
 rw [ac4,T1,T1] at H
 cases e:l[i]? with
 | none=>rw [e] at H;simp at H
 | some x =>
   cases E:l[i+1]? with
   | none=>rw [e,E] at H;simp at H
   | some y =>
     rw [e,E] at H
     have H:aN (aT x 1 tm.scale) (aT y 1 tm.scale)=b:=by simpa using H
     rw [<- H,tV ok (by decide)]
     exact aaE (h i x y e E)
def ME {n:Nat} (ok:tm.scale.Ok) (h:wJ n l):∀ f∈tm.row l,dH 100 f:=by
 intro f H
 obtain ⟨x,a,rfl⟩:=aat.mp H
 have:=h.bd x a
 exact (oF (n:=8) ok (by decide) (show x.natAbs<2 ^ 8 by lia) mE).mono (by decide)
def rZ.keep {K:aC} {C:ai} {c d:Hp} {a:ai} {f Q:bZ} {m':ap} (S:aD c H) (n:∀ b∈f,c b=none) (D:rZ K C H a f m' d Q):aD c d/\∀ b∈Q,c b=none:=by
 refine ⟨λ b o h=>D.but b o (S b o h) λ q=>?_,λ b e=>?_⟩
 . rw [n b q] at h;cases h
 . rcases D.own b e with q|q
   . exact n b q
   . exact S.free q
structure Kp (m m':ap):Prop where
 rows:m'.rows=m.rows
 most:m'.most=m.most
 iO:m'.iO=m.iO
 load:m'.load=m.load
def Kp.refl (m:ap):Kp m m:=⟨rfl,rfl,rfl,rfl⟩
theorem Kp.trans {m M m2:ap} (a:Kp m M) (b:Kp M m2):Kp m m2:=⟨b.rows.trans a.rows,b.most.trans a.most,b.iO.trans a.iO,b.load.trans a.load⟩
theorem xu {a:Type} {f:ap->a->ap} (h:∀ m x,Kp m (f m x)):∀ (l:List a) (m:ap),Kp m (l.foldl f m)
 | [],m => .refl m
 | x::l,m=>(h m x).trans (xu h l (f m x))
def Nq (tm:av) (m:ap) (i:Nat):Kp m (tm.gx m i):=by
 unfold av.gx
 split
 . exact ⟨rfl,rfl,rfl,rfl⟩
 . exact .refl m
def Hb (tm:av) (m:ap) (i:Nat):Kp m (tm.b7 m i):=by
 unfold av.b7
 split
 . exact ⟨rfl,rfl,rfl,rfl⟩
 . exact .refl m
def Kn (tm:av) (i:Nat) (m:ap) (j:Nat):Kp m (tm.gC i m j):=by
 unfold av.gC
 split
 . exact .refl m
 . split
   . exact ⟨rfl,rfl,rfl,rfl⟩
   . exact .refl m
def Kh (tm:av) (n:Nat) (m:ap) (i:Nat):Kp m (tm.pD n m i) :=
 ((Nq tm m i).trans (Hb tm _ i)).trans (xu (Kn tm i) _ _)
def Tf (tm:av) (n k:Nat):Kp (tm.m1 n) (tm.m2 n k):=xu (Kh tm n) _ _
theorem yW:∀ (R:List (List ce)) (m:ap),(R.foldl ap.cf m).rows=m.rows++R/\(R.foldl ap.cf m).most=m.most/\(R.foldl ap.cf m).iO=m.iO/\(R.foldl ap.cf m).load=m.load
 | [],m=>⟨by simp,rfl,rfl,rfl⟩
 | r::R,m=>by
   obtain ⟨a,b,c,d⟩:=yW R (m.cf r)
   refine ⟨?_,b,c,d⟩
   show (R.foldl ap.cf (m.cf r)).rows=_
   rw [a]
   show (m.rows++[r])++R=_
   simp
def eR (tm:av) (n k:Nat):(tm.m2 n k).rows=(tm.marks.take n).map tm.row/\(tm.m2 n k).most=tm.bounds.1/\(tm.m2 n k).iO=tm.bounds.2.1/\(tm.m2 n k).load=tm.bounds.2.2:=by
 have q:=Tf tm n k
 obtain ⟨a,b,c,d⟩:=yW ((tm.marks.take n).map tm.row) (ap.new tm.bounds.1 tm.bounds.2.1 tm.bounds.2.2)
 exact ⟨q.rows.trans a,q.most.trans b,q.iO.trans c,q.load.trans d⟩
theorem hV {K:aC}:∀ {l:List Int} {w:aA},bX K H (l.map PyData.int) w->w=l.map V.int
 | [],_,h=>h
 | x::l,_,h=>by
   obtain ⟨y,r,rfl,e,t⟩:=h
   have e:y = .int x:=e
   rw [e,hV t];rfl
def oO {a:Type} (l:List a) (g:a->ce):∀ d∈l.map (λ x=>dO (g x)),d7 d=true:=λ d h=>by
 obtain ⟨x,Z,rfl⟩:=aat.mp h
 exact f6 _
def JY {n:Nat} (ok:tm.Ok n n):∀ r∈tm.marks.map tm.row,1<=r.length/\r.length<=(if n<=2 then 6 else 4)+1:=by
 intro r b
 obtain ⟨l,a,rfl⟩:=aat.mp b
 have:=ok.rows l a
 have c:=this.two
 have h:=this.most
 unfold av.row
 rw [OS]
 split at h<;>rename_i H<;>simp only [H,ab2,acm]<;>lia
def Ov.nonneg {W k:Int} {f:ce} (H:0<W) (h:Ov W k f) (a:0<=k):0<=f.1:=by
 have e:=h.1
 have:0<=f.1 * W:=by rw [e];exact abL a (aaP h.2)
 exact Int.nonneg_of_mul_nonneg_left this H
def GG {t b:Int} (a:0<b) (h:Bd 100 t) (H:Bd 100 b):dH 100 (nf t b):=by
 have F:=iB (t:=t) a
 exact ⟨F.US h,F.UJ H,F.pos⟩
def Gz {u:ai} {t b q r:Int} {K:aC} (c:0<b) (F:Fr t b q r) (h:H u=some (.tup [.int q,.int r])):Dn K H (dO (nf t b)) (.ref u):=by
 have e:=F.nf c
 have E:q=(nf t b).1:=abI Prod.fst e
 have a:r=(nf t b).2:=abI Prod.snd e
 rw [E,a] at h
 exact hR (bR.of h)
theorem LW {W:Int} {tm:av}:∀ (l:List (List ce)) (m:ap),gX W (λ Z=>0) (λ Z Z=>0) m->gX W (λ Z=>0) (λ Z Z=>0) (l.foldl ap.cf m)
 | [],_,h=>h
 | _::l,_,h=>LW (tm:=tm) l _ (h.cf λ Z Z=>rfl)
def av.TR {W:Int} (tm:av) (k:Nat):gX W (λ Z=>0) (λ Z Z=>0) (tm.m1 k):=LW (tm:=tm) _ _ gX.new
structure SF (sk:Nat->Int) (fl:Nat->Nat->Int):Prop where
 Jp:∀ a,0<=sk a/\sk a<=3
 FY:∀ a b,0<=fl a b/\fl a b<=3
 Li:∀ a,fl a a=0
def Tw (m:ap):Prop:=∃ s f,gX 12 s f m/\SF s f
def Tw.dI {m:ap} {i:Nat} {z:ce×ce×ce} {k:Int} (h:Tw m) (b:i<m.bC.length) (H:Ov 12 k z.1) (k0:0<=k) (k3:k<=3):Tw (m.f9 i z):=by
 obtain ⟨s,f,S,F⟩:=h
 refine ⟨_,_,S.f9 b H,⟨λ a=>?_,F.FY,F.Li⟩⟩
 show 0<=(if a=i then k else s a)/\(if a=i then k else s a)<=3
 split
 . exact ⟨k0,k3⟩
 . exact F.Jp a
def Tw.fV {m:ap} {i j:Nat} {f:ce} {k:Int} (h:Tw m) (w:i≠j) (H:Ov 12 k f) (k0:0<=k) (k3:k<=3):Tw (m.fi i j f):=by
 obtain ⟨s,c,S,F⟩:=h
 refine ⟨_,_,S.fi H,⟨F.Jp,λ a b=>?_,λ a=>?_⟩⟩
 .
  show 0<=(if a=i/\b=j then k else c a b)/\(if a=i/\b=j then k else c a b)<=3
  split
  . exact ⟨k0,k3⟩
  . exact F.FY a b
 . show (if a=i/\a=j then k else c a a)=0
   rw [aam (by lia)]
   exact F.Li a
def Tw.jn {m:ap} {i:Nat} {z:ce×Int×Int×Int} (h:Tw m):Tw (m.hJ i z):=by
 obtain ⟨s,f,S,F⟩:=h
 exact ⟨s,f,S.hJ,F⟩
theorem Tw.xT {m:ap} {i:Nat} {f:ce} {k:Int} (h:Tw m) (b:i<m.rows.length) (H:m.rows.length<=4) (a:Ov 12 k f) (k3:k<=3):aN (li (m.own i) (m.fG i)) f=false:=by
 obtain ⟨s,c,S,F⟩:=h
 have:=Kx H (t:=3) (by decide) (F.FY i) (F.Li i) b
 exact S.xT (by decide) a (by lia)
def Hs {fl:Nat->Nat->Int} {i j n:Nat} (H:n<=4) (h:∀ b,0<=fl i b/\fl i b<=3) (f:fl i i=0) (g:i<n) (k:j<n) (w:i≠j):sumF fl i n - fl i j<=6:=by
 have a:=h 0
 have A:=h 1
 have d:=h 2
 have e:=h 3
 have c:i=0\/i=1\/i=2\/i=3:=by lia
 have C:j=0\/j=1\/j=2\/j=3:=by lia
 match n,H with
 | 0,_=>lia
 | 1,_=>lia
 | 2,_=>rcases c with rfl|rfl|rfl|rfl<;>rcases C with rfl|rfl|rfl|rfl<;>simp only [sumF]<;>lia
 | 3,_=>rcases c with rfl|rfl|rfl|rfl<;>rcases C with rfl|rfl|rfl|rfl<;>simp only [sumF]<;>lia
 | 4,_=>rcases c with rfl|rfl|rfl|rfl<;>rcases C with rfl|rfl|rfl|rfl<;>simp only [sumF]<;>lia
theorem Tw.sP {m:ap} {i j:Nat} {f:ce} {k:Int} (h:Tw m) (b:i<m.rows.length) (c:j<m.rows.length) (w:i≠j) (H:m.rows.length<=4) (a:Ov 12 k f) (k3:k<=3):aN (li (m.own i) (m.fV i j)) f=false:=by
 obtain ⟨s,d,S,F⟩:=h
 have:=Hs H (F.FY i) (F.Li i) b c w
 have:=F.Jp i
 exact S.sP (by decide) a (by lia)
inductive IX (K:aC) (C:ai) (vs:aA) (H:Hp) (Q:VK) (_E:XK):Prop|mk (p:_) (tm:av) (n:Nat) (_:vs=[.ref p]) (_:iT K H p tm) (_:tm.Ok n n) (_:1<=n) (_:n<=4) (_:∀ a H' fp,aD H H'->aV K C H' a fp (tm.m2 n n)->(∀ b∈fp,H b=none)->(tm.m2 n n).rows.length=n->Tw (tm.m2 n n)->Q (.ref a) H')
def Df:Nat->PyData->Prop
 | _,.none=>True
 | _,.bool _=>True
 | _,.int _=>True
 | n+1,.list D=>∀ d∈D,Df n d
 | n+1,.tuple D=>∀ d∈D,Df n d
 | _,_=>False
theorem xJ {n:Nat} (h:∀ d,Df n d->PyData.eqv d d=true/\d.canLay0=true/\d.depth<=n):∀ D:List PyData,(∀ d∈D,Df n d)->PyData.eqvAll D D=true/\PyData.canLayAll0 D=true/\PyData.depthAll D<=n
 | [],_=>by simp [PyData.eqvAll,PyData.canLayAll0,PyData.depthAll]
 | d::D,k=>by
   obtain ⟨a,b,c⟩:=h d (k d aaF)
   obtain ⟨A,B,C⟩:=xJ h D (λ e H=>k e (aak _ H))
   simp only [PyData.eqvAll,PyData.canLayAll0,PyData.depthAll,a,b,A,B,Bool.and_self,aek]
   lia
theorem on:∀ (n:Nat) (d:PyData),Df n d->PyData.eqv d d=true/\d.canLay0=true/\d.depth<=n
 | n,.none,_=>by simp [PyData.eqv,PyData.canLay0,PyData.depth]
 | n,.bool b,_=>by simp [PyData.eqv,PyData.canLay0,PyData.depth]
 | n,.int i,_=>by simp [PyData.eqv,PyData.canLay0,PyData.depth]
 | n+1,.list D,h=>by
   obtain ⟨a,b,c⟩:=xJ (on n) D h
   simp only [PyData.eqv,PyData.canLay0,PyData.depth,a,b,aek]
   lia
 | n+1,.tuple D,h=>by
   obtain ⟨a,b,c⟩:=xJ (on n) D h
   simp only [PyData.eqv,PyData.canLay0,PyData.depth,a,b,aek]
   lia
 | 0,.list _,h=>h.elim
 | 0,.tuple _,h=>h.elim
 | 0,.str _,h=>h.elim
 | _+1,.str _,h=>h.elim
 | 0,.dict _,h=>h.elim
 | _+1,.dict _,h=>h.elim
def gc {n:Nat} {d:PyData} (h:Df n d) (H:n<=64):SeqAt.shaped d=true:=by
 obtain ⟨Z,b,c⟩:=on n d h
 unfold SeqAt.shaped
 rw [b,aaE (aaT c H)];rfl
def AR {n:Nat} {d:PyData} (h:Df n d):PyData.eqv d d=true:=(on n d h).1
def Il {K:aC} {x y:V} {d:PyData} {n:Nat} {Q:VK} (a:Dn K H d x) (b:Dn K H d y) (p:Df n d) (h:n<=64) (q:Q (.bl false) H):Tt K x y H Q :=
 ⟨d,d,a,b,gc p h,gc p h,by rw [AR p];exact q⟩
def f7 {X:Cx} {K:aC} (h:X.K=K):SX X (SZ K):=by
 subst h
 exact ay
theorem uO:∀ {ns:List Int} {B:aZ},Vals (ns.map V.int) B->∃ ys:List (Int×Tok),B=ys.map (λ p=>Value.int p.1 p.2)/\ys.map (·.1)=ns
 | [],B,r=>by cases r;exact ⟨[],rfl,rfl⟩
 | n::ns,B,r=>by
   cases r with
   | cons a b =>
     obtain ⟨t,rfl⟩:=a
     obtain ⟨ys,rfl,e⟩:=uO b
     exact ⟨(n,t)::ys,rfl,by rw [aaQ,e]⟩
section
variable {X:Cx}
def Fa (b:X.calm=true):iy X (.builtin "sum") (λ xs H Q=>∃ (p:ai) (ns:List Int),xs=[.ref p]/\bi X.K H p (ns.map V.int)/\∀ r:Int,r=ns.sum->Q (.int r) H):=by
 intro a s U H xs k Q I r h
 obtain ⟨p,ns,rfl,f,q⟩:=h
 obtain ⟨u,rfl,R⟩:=vals1 r
 obtain rfl:u=Value.ref p:=R
 obtain ⟨B,i,g,Z⟩:=I.list f
 obtain ⟨y,rfl,e⟩:=uO i
 have d:s.heap.IsList p (intItems y.toArray):=by have:=g.isList;simpa [intItems] using this
 refine sum_intListG (I.ok.hd b) d λ j T t c=>?_
 refine ⟨.int _,H,I.kept c,⟨t,rfl⟩,q _ ?_⟩
 rw [preSum_eq,abM (by simp),<- e]
end
def M3:bootBuiltins "min" = some (.builtin "min"):=by decide +kernel
def Od:bootBuiltins "max" = some (.builtin "max"):=by decide +kernel
def M0:bootBuiltins "sum" = some (.builtin "sum"):=by decide +kernel
def j4:bootBuiltins "enumerate" = some (.type "enumerate"):=by decide +kernel
def jX (r:List ce) (f g:ce) (b:Nat):Bool:=(!aN g (r.getD b (0,1))) && !aN (r.getD (b+1) (0,1)) f
def jZ (r:List ce) (f g:ce) (n:Nat):bg:=(List.range n).filter (jX r f g)
def dX (r:List ce) (f g:ce):bg:=jZ r f g (r.length - 1)
def dE (r:List ce) (f g:ce):Bool:=(!aN f (r.getD 0 (0,1))) && !aN (r.getD (r.length - 1) (0,1)) g
def kr (r:List ce) (f g:ce) (n:Nat):jZ r f g (n+1)=jZ r f g n++if jX r f g n then [n] else []:=by
 unfold jZ
 rw [aaU,abh]
 cases h:jX r f g n<;>simp [List.filter,h]
def rg (r:List ce) (f g:ce) (n:Nat):(jZ r f g n).length<=n:=by
 have:=aa4 (jX r f g) (List.range n)
 rw [aaw] at this
 exact this
inductive Fl (K:aC) (C:ai) (vs:aA) (H:Hp) (Q:VK) (_E:XK):Prop|mk (a fp m:_) (i:Nat) (r v1 v2 f g:_) (_:vs=[.ref a,aq i,v1,v2]) (_:aV K C H a fp m) (_:m.rows[i]?=some r) (_:Dn K H (dO f) v1) (_:Dn K H (dO g) v2) (_:dH 1000 f) (_:dH 1000 g) (_:∀ H',aD H H'->Q (.bl (dE r f g)) H')
def KE {a:Type} {xs:List a} {x:a} (H:0<xs.length) (h:xs[xs.length - 1]?=some x):uw xs (-1)=some x:=by
 unfold uw D3
 rw [aam (by lia),aan (by lia)]
 have e:((-1:Int)+(xs.length:Int)).toNat=xs.length - 1:=by lia
 simp only [Option.bind_some]
 first
   | (rw [e];exact h)
   | (have E:((xs.length:Int) + -1).toNat=xs.length - 1:=by lia
      rw [E];exact h)
def eJ {x y p q:Int} {s:wj} (h:s.Ok) (H:0<p) (f:0<q):aN (aT x p s) (aT y q s)=decide (x * q<y * p):=by
 have F:=iB (t:=cB x p s) (dR h H)
 have G:=iB (t:=cB y q s) (dR h f)
 have m:=dR h H
 have n:=dR h f
 have C:(aT x p s).1 * cg p s=cB x p s * (aT x p s).2:=F.jG
 have e:(aT y q s).1 * cg q s=cB y q s * (aT y q s).2:=G.jG
 have g:0<(aT x p s).2:=F.pos
 have i:0<(aT y q s).2:=G.pos
 unfold aN
 rw [abU]
 generalize (aT x p s).1=Q at C |-
 generalize (aT x p s).2=r at C g |-
 generalize (aT y q s).1=c at e |-
 generalize (aT y q s).2=r2 at e i |-
 have o:0<cg p s * cg q s:=aaZ m n
 have u:0<r * r2:=aaZ g i
 have E:(Q * r2) * (cg p s * cg q s)=(cB x p s * cg q s) * (r * r2):=by
   have:(Q * r2) * (cg p s * cg q s)=(Q * cg p s) * (r2 * cg q s):=by grind
   rw [this,C];grind
 have j:(c * r) * (cg p s * cg q s)=(cB y q s * cg p s) * (r * r2):=by
   have:(c * r) * (cg p s * cg q s)=(c * cg q s) * (r * cg p s):=by grind
   rw [this,e];grind
 have S:Q * r2<c * r↔cB x p s * cg q s<cB y q s * cg p s:=by
   rw [<- acT o,E,j,acT u]
 rw [S]
 have A:=h.a0
 have B:=h.b0
 have D:=h.d0
 have v:0<s.a * s.d * s.b * s.d:=aaZ (aaZ (aaZ (by lia) (by lia)) (by lia)) (by lia)
 have k:cB x p s * cg q s=(x * q) * (s.a * s.d * s.b * s.d)+p * q * s.t * s.b * s.b * s.d:=by unfold cB cg;grind
 have l:cB y q s * cg p s=(y * p) * (s.a * s.d * s.b * s.d)+p * q * s.t * s.b * s.b * s.d:=by unfold cB cg;grind
 rw [k,l,Int.add_lt_add_iff_right,acT v]
def iS (n:Nat):PyData:=.int (n:Int)
theorem jc {K:aC}:∀ l:bg,bX K H (l.map iS) (l.map aq)
 | []=>gq
 | n::l=>bJ rfl (jc l)
def Jw {K:aC} {p:ai} {l:bg} (h:bi K H p (l.map aq)):Dn K H (.list (l.map iS)) (.ref p):=Gv h (jc l)
def KS {n:Nat} {l:bg}:Df (n+1) (.list (l.map iS)):=by
 intro d h
 obtain ⟨i,Z,rfl⟩:=aat.mp h
 cases n<;>exact trivial
def IK:([]:aA).length<=sizeLine:=aaY _
def Ll (ns:List Int) (lo h:Option Int):List Int:=(ns.drop (HT.uY ns.length 0 lo)).take (HT.uY ns.length ns.length h - HT.uY ns.length 0 lo)
def Fu (ns:List Int) (lo h:Option Int):p5 (ns.map V.int) lo h=(Ll ns lo h).map V.int:=by
 unfold p5 Ll
 rw [OS,<- List.map_drop,<- List.map_take]
theorem vV:∀ (R:List (List ce)) (m:ap),(R.foldl ap.cf m).bC=m.bC++List.replicate R.length ((0,1),(0,1),(0,1))/\(R.foldl ap.cf m).aH=m.aH++List.replicate R.length none/\(R.foldl ap.cf m).bH=m.bH
 | [],m=>⟨by simp,by simp,rfl⟩
 | r::R,m=>by
   obtain ⟨a,b,c⟩:=vV R (m.cf r)
   refine ⟨?_,?_,c⟩
   . show (R.foldl ap.cf (m.cf r)).bC=_
     rw [a]
     show (m.bC++[((0,1),(0,1),(0,1))])++_=_
     rw [adc,aaD,aef];rfl
   . show (R.foldl ap.cf (m.cf r)).aH=_
     rw [b]
     show (m.aH++[none])++_=_
     rw [adc,aaD,aef];rfl
theorem oi (tm:av) (i:Nat) (m:ap):∀ j,(tm.fo i m j).bC=m.bC/\(tm.fo i m j).aH=m.aH/\∀ a b:Int,(tm.fo i m j).bH a b=if a=(i:Int)/\0<=b/\b<j/\b≠i then (match tm.bH i b.toNat with|some k=>some (nf k 12)|none=>m.bH a b) else m.bH a b
 | 0=>by
   refine ⟨rfl,rfl,λ a b=>?_⟩
   rw [aam (by lia)];rfl
 | j+1=>by
   obtain ⟨h,H,f⟩:=oi tm i m j
   rw [av.o9]
   unfold av.gC
   by_cases e:j=i
   .
    rw [aan e]
    refine ⟨h,H,λ a b=>?_⟩
    rw [f]
    by_cases c:a=(i:Int)/\0<=b/\b<(j:Int)/\b≠i
    . rw [aan c,aan (by lia)]
    . rw [aam c,aam (by lia)]
   .
    rw [aam e]
    cases g:tm.bH i j with
    | none =>
      refine ⟨h,H,λ a b=>?_⟩
      show (tm.fo i m j).bH a b=_
      rw [f]
      by_cases c:a=(i:Int)/\0<=b/\b<(j:Int)/\b≠i
      . rw [aan c,aan (by lia)]
      . rw [aam c]
        by_cases d:a=(i:Int)/\0<=b/\b<((j+1:Nat):Int)/\b≠i
        . rw [aan d]
          have:b.toNat=j:=by lia
          rw [this,g]
        . rw [aam d]
    | some k =>
      refine ⟨h,H,λ a b=>?_⟩
      show (if a=(i:Int)/\b=(j:Int) then some (nf k 12) else (tm.fo i m j).bH a b)=_
      by_cases c:a=(i:Int)/\b=(j:Int)
      . rw [aan c,aan (by lia)]
        have:b.toNat=j:=by lia
        rw [this,g]
      . rw [aam c,f]
        by_cases d:a=(i:Int)/\0<=b/\b<(j:Int)/\b≠i
        . rw [aan d,aan (by lia)]
        . rw [aam d,aam (by lia)]
def jN {n:Nat} (ok:tm.Ok n n):∀ k,k<=n ->
   (∀ i,i<k->(tm.m2 n k).bC[i]?=(tm.dI[i]?).map tm.nR)/\(tm.m2 n k).bC.length=n /\
   (∀ i,i<k->(tm.m2 n k).aH[i]?=(tm.aH[i]?).map λ z=>z.map tm.ju)/\(∀ i,k<=i->i<n->(tm.m2 n k).aH[i]?=some none)/\(tm.m2 n k).aH.length=n /\
   (∀ a b:Nat,a<k->b<n->a≠b->(tm.m2 n k).bH a b=(tm.bH a b).map λ x=>nf x 12) /\
   (∀ a:Nat,(tm.m2 n k).bH a a=none):=by
 intro k
 induction k with
 | zero =>
   intro Z
   obtain ⟨a,b,c⟩:=vV ((tm.marks.take n).map tm.row) (ap.new tm.bounds.1 tm.bounds.2.1 tm.bounds.2.2)
   have l:((tm.marks.take n).map tm.row).length=n:=by rw [OS,aax,ok.lm];lia
   rw [l] at a b
   have A:(tm.m2 n 0).bC=List.replicate n ((0,1),(0,1),(0,1)):=a
   have d:(tm.m2 n 0).aH=List.replicate n none:=b
   have C:(tm.m2 n 0).bH=λ Z Z=>none:=c
   refine ⟨nofun,by rw [A,abF],nofun,λ i Z H=>?_,by rw [d,abF],nofun,λ Z=>by rw [C]⟩
   rw [d,acD,aan H]
 | succ k I =>
   intro K
   obtain ⟨s,S,T,t,o,f,g⟩:=I (by lia)
   have h:k<tm.dI.length:=by rw [ok.ls];lia
   have U:k<tm.aH.length:=by rw [ok.lt];lia
   rw [av.DI]
   generalize tm.m2 n k=m at s S T t o f g
   have E:tm.gx m k=m.f9 k (tm.nR tm.dI[k]):=by unfold av.gx;rw [ar h]
   unfold av.pD
   rw [E]
   obtain ⟨p,q,G⟩:=oi tm k (tm.b7 (m.f9 k (tm.nR tm.dI[k])) k) n
   have J:(tm.b7 (m.f9 k (tm.nR tm.dI[k])) k).bC=m.bC.set k (tm.nR tm.dI[k]):=by
     unfold av.b7
     split<;>rfl
   have F:(tm.b7 (m.f9 k (tm.nR tm.dI[k])) k).bH=m.bH:=by
     unfold av.b7
     split<;>rfl
   have y:(tm.b7 (m.f9 k (tm.nR tm.dI[k])) k).aH=m.aH.set k (tm.aH[k].map tm.ju):=by
     unfold av.b7
     rw [ar U]
     cases tm.aH[k] with
     | some z=>rfl
     | none =>
       show m.aH=m.aH.set k none
       have r:=t k (aaf _) (by lia)
       obtain ⟨l,u⟩:=RJ.mp r
       rw [<- u,List.set_getElem_self]
   rw [p,q,J,y]
   refine ⟨λ i H=>?_,by rw [abq];exact S,λ i H=>?_,λ i H v=>?_,by rw [abq];exact o,λ a b D j B=>?_,λ a=>?_⟩
   . by_cases e:i=k
     . subst e
       rw [abn (by lia),ar h];rfl
     . rw [abl (by lia)];exact s i (by lia)
   . by_cases e:i=k
     . subst e
       rw [abn (by lia),ar U];rfl
     . rw [abl (by lia)];exact T i (by lia)
   . rw [abl (by lia)];exact t i (by lia) v
   .
    rw [G,F]
    by_cases e:a=k
    . subst e
      rw [aan (by lia)]
      obtain ⟨x,w,Z⟩:=ok.bH a b (by lia) j B
      have:((b:Int)).toNat=b:=by lia
      rw [this,w];rfl
    . rw [aam (by lia)]
      exact f a b (by lia) j B
   . rw [G,F]
     rw [aam (by lia)]
     exact g a
section
variable {P:bq} {w:bh} {A:Around} {E:au->Shared->Prop} {s:Shared}
def BB {j a:ai} {i:Nat} {b:Array au} {x:au} {Q:au->Shared->Prop} (h:s.heap.IsTupleIter j a i) (H:s.heap.IsTuple a b) (g:b[i]?=some x) (k:∀ h',h'.IsTupleIter j a (i+1)->Heap.SameBut j s.heap h'->Q x { s with heap:=h' }):wpAny (model P w) A (Builtin.SmallTypes.nextOf (.ref j)) Q E s:=by
 obtain ⟨O,e,c,d⟩:=id h
 obtain ⟨o,f,Z,N,D⟩:=H
 unfold Builtin.SmallTypes.nextOf
 refine UV (wpAny_callSpecial?_slot (name:=Str.ofString "__next__") h.typeIs ab1 (wpAny_call_entry ab1 h.typeIs adZ ?_ (adT _)))
 refine UV (m:=field (.ref j) 0) (adU e d (x:=.ref a) rfl ?_)
 have n:¬ ((Value.ref a == Value.none)=true):=aah
 show wpAny _ _ (if (Value.ref a == Value.none)=true then _ else _) _ _ s
 rw [aam n]
 refine UV (m:=field (.ref j) 1) (adU e d (x:=.int i 0) rfl ?_)
 refine UV (m:=seqItems? (.ref a)) (ad8 f D ?_)
 simp only [aaX,g]
 refine UV (wpAny_setField e d (by simp) (aas ⟨x,rfl,aas (k _ ⟨_,abT _ e (Obj.isFreed_of_fields (Obj.data_mapFields d _)),(Obj.cls_mapFields ..).trans c,?_⟩ (adm ..))⟩))
 rw [Obj.data_mapFields d]
 simp [rawInt]
def FQ {j a:ai} {i:Nat} {B:Array au} {Q:au->Shared->Prop} (H:A.handled=none) (h:s.heap.IsTupleIter j a i) (g:s.heap.IsTuple a B) (l:B[i]?=none) (k:∀ h' e,Heap.ExtBut j s.heap h'->(∃ o,h'.get? e=some o/\o.cls = .type "StopIteration")->E (.ref e) { s with heap:=h' }):wpAny (model P w) A (Builtin.SmallTypes.nextOf (.ref j)) Q E s:=by
 obtain ⟨p,b,C,d⟩:=id h
 obtain ⟨O,c,Z,N,D⟩:=g
 unfold Builtin.SmallTypes.nextOf
 refine UV (wpAny_callSpecial?_slot (name:=Str.ofString "__next__") h.typeIs ab1 (wpAny_call_entry ab1 h.typeIs adZ ?_ (adT _)))
 refine UV (m:=field (.ref j) 0) (adU b d (x:=.ref a) rfl ?_)
 have n:¬ ((Value.ref a == Value.none)=true):=aah
 show wpAny _ _ (if (Value.ref a == Value.none)=true then _ else _) _ _ s
 rw [aam n]
 refine UV (m:=field (.ref j) 1) (adU b d (x:=.int i 0) rfl ?_)
 refine UV (m:=seqItems? (.ref a)) (ad8 c D ?_)
 simp only [aaX,l]
 refine UV (wpAny_rule (UV (wpAny_setField b d (by simp) (UV (m:=newExc (.type "StopIteration") []) ?_))))
 simp only [newExc,newTuple]
 refine UV (ady (UV (m:=firstArgMember _ _) (wpAny_of_eq (a:=Value.none) (by first|rfl|(simp only [firstArgMember];rfl)) (ady ?_ (by size_fits)))) (by size_fits))
 simp only [raiseNew]
 refine UV (wpAny_handled ?_)
 have f:A.in1.handled=none:=H
 first|rw [f]|rw [H]
 exact UV (aas (wpAny_throw (k _ _ (((adm ..).extBut.push _).push _) ⟨_,aaK _ rfl,rfl⟩)))
end
def Io {P:bq} {w:bh} {A:Around} (l:A.handled=none) (j a:ai) (n:a≠j) (b:Array au):Draws P w A j [j,a] b.size (λ i v=>b[i]?=some v) (λ i h=>h.IsTupleIter j a i/\h.IsTuple a b) where
 live:=λ Z Z S=>by
   obtain ⟨⟨o,e,Z⟩,Z⟩:=S
   exact ⟨o,e⟩
 frame:=λ Z Z Z S k=>by
   obtain ⟨H,O,f,r⟩:=S
   exact ⟨H.at λ o e=>k j (by simp) o e,O,k a (by simp) O f,r⟩
 item:=λ i s Q E c S q=>BB S.1 S.2 (x:=b[i]) (by simp [c]) λ g H d=>q _ g s.toks (by simp [c]) ⟨H,S.2.extBut d.extBut n⟩ d
 done:=λ s Q E S q=>FQ l S.1 S.2 (by simp) q
set_option maxHeartbeats 1000000 in
def FF (a:ai) (o:Obj) (bE:Array au) (n:Nat) (b:o.cls = .type "tuple") (e:o.data = .seq bE n) :
   Meets (Builtin.«enumerate.__new__» ⟨[.type "enumerate",.ref a],[]⟩) (λ _ R s=>s.heap.get? a=some o/\R (.ok (.ret (.ref (s.heap.push { cls:=.type "tuple_iterator",data:=.fields #[.ref a,.int 0 0]}).objs.size)))
     { s with heap:=(s.heap.push { cls:=.type "tuple_iterator",data:=.fields #[.ref a,.int 0 0]}).push { cls:=.type "enumerate",data:=.fields #[.none,.bool false,.ref s.heap.objs.size,rawInt 0,.none,.none]}}):=by
 obtain ⟨C,i,D,sl⟩:=o
 obtain rfl:C = .type "tuple":=b
 obtain rfl:D = .seq bE n:=e
 refine .of_wp λ P w A R s q=>?_
 obtain ⟨f,g,d,t,O⟩:=s
 obtain ⟨h,q⟩:=q
 have E:=sub_enumerate
 have H:Heap.IsTuple (Shared.heap ⟨f,g,d,t,O⟩) a bE:=⟨_,h,rfl,n,rfl⟩
 wp_walk using acS h
 refine wpAny_stack_any λ S=>aas ?_
 split
 . rename_i c _ _ _ _ _
   cases (c == Value.type "enumerate")<;>(wp_walk using acS h,wpAny_pyIter_tuple H;exact ⟨_,rfl,q⟩)
 . wp_walk using acS h,wpAny_pyIter_tuple H
   exact ⟨_,rfl,q⟩
section
variable {P:bq} {w:bh} {A:Around} {E:au->Shared->Prop} {s:Shared}
def tI {a:ai} {B:Array au} {Q:au->Shared->Prop} (c:s.heap.IsTuple a B) (k:∀ h',IsEnum h' (s.heap.objs.size+1) s.heap.objs.size 0 .none->h'.IsTupleIter s.heap.objs.size a 0->(∀ b o,s.heap.get? b=some o->h'.get? b=some o)->Q (.ref (s.heap.objs.size+1)) { s with heap:=h' }) :
   wpAny (model P w) A (call (.type "enumerate") [.ref a]) Q E s:=by
 obtain ⟨g,e,d,n,f⟩:=c
 refine callType_new F.called_enumerate (by decide) (F.typeCall_enumerate_1 _) (F.newCall_enumerate_1 _) (λ O=>F.args_object_init_2 O _) F.entry_enumerate_new (FF a g B n d f) ⟨e,?_⟩
 have H:(s.heap.push { cls:=.type "tuple_iterator",data:=.fields #[.ref a,.int 0 0]}).objs.size=s.heap.objs.size+1:=adg ..
 have h:=aaK (s.heap.push { cls:=.type "tuple_iterator",data:=.fields #[.ref a,.int 0 0]}) (o:={ cls:=.type "enumerate",data:=.fields #[.none,.bool false,.ref s.heap.objs.size,rawInt 0,.none,.none]}) rfl
 rw [H] at h
 show _/\_
 rw [H]
 exact ⟨⟨_,h,rfl⟩,k _ h ⟨_,aac _ (aaK _ rfl),rfl,rfl⟩ λ b o x=>aac _ (aac _ x)⟩
end
def FZ (sq:Hp->ai->aA->Prop) (a:ai):It :=
 ⟨λ i H=>∃ X x,sq H a X/\X[i]?=some x,
  λ i H v h=>∃ p x,H p=none/\v = .ref p/\h=upd H p (.tup [aq i,x])/\∀ X,sq H a X->X[i]?=some x,
  λ i H=>∃ X,sq H a X/\X.length=i⟩
def EnL (e j a:ai) (i:Nat) (h:aU):Prop:=(∃ o,IsEnum h e j i o)/\h.IsListIter j a i
def EnT (e j a:ai) (i:Nat) (h:aU):Prop:=(∃ o,IsEnum h e j i o)/\h.IsTupleIter j a i
def AL {P:bq} {w:bh} {K:aC} {e j a:ai} (z:e≠j) (ae:a≠e) (M:a≠j):Turn P w K (.Tuple elts x1 pR) (FZ (bi K) a) [e,j] e (EnL e j a) where
 mem:=by simp
 obj:=λ i h S c l=>by
   obtain ⟨⟨O,b⟩,oj,e2,Z,d2⟩:=S
   simp only [aaa,aae,aa2] at l
   rcases l with rfl|rfl
   . exact ⟨_,b,λ v q=>by cases q⟩
   . exact ⟨oj,e2,λ v q=>by rw [d2] at q;cases q⟩
 keep:=λ i h C S k=>by
   obtain ⟨⟨O,b⟩,f⟩:=S
   exact ⟨⟨O,k e (by simp) _ b⟩,f.at λ o q=>k j (by simp) o q⟩
 item:=by
   intro X F J D l i m s U H E I n S G
   subst F J D
   obtain ⟨xs,x,r,Q⟩:=G
   obtain ⟨B,R,p,hz⟩:=I.list r
   obtain ⟨u,N,ru⟩:=R.get Q
   obtain ⟨⟨O,b⟩,f⟩:=S
   have V:e<s.heap.objs.size:=aao b
   have lj:j<s.heap.objs.size:=by obtain ⟨o,q,Z⟩:=f;exact aao q
   have hi:i<B.toArray.size:=by
     have:=(RJ.mp N).1
     simpa using this
   refine wpAny_pyNext_enum_itemD (Draws.list (A:=X.A.in1) (I.ok.hd l) j a M B.toArray) b ⟨f,p.isList⟩ hi z (by simp [z,ae.symm]) λ v C T t eo Y ht Se kk=>?_
   obtain rfl:v=u:=by
     have t:B.toArray[i]?=some v:=t
     rw [adX,N] at t
     exact (aaj t).symm
   refine ⟨.ref s.heap.objs.size,rfl,ad1 (s:={ s with heap:=C,toks:=T+1 }) eo λ g he L=>?_⟩
   have W:∀ c o,c∉[e,j]->s.heap.get? c=some o->g.get? c=some o:=λ c o d q=>by
     simp only [aaa,aae,aa2,ach] at d
     exact L.extBut _ _ d.1 (kk c o d.1 d.2 q)
   have n5:=L.extBut _ _ (acP V) ht
   refine ⟨.ref s.heap.objs.size,upd H s.heap.objs.size (.tup [aq i,x]),I.xK (t':=T+1) W n (aaf _) ⟨by show 2<=sizeLine;decide,[.int i T,v],.cons ⟨T,rfl⟩ (.cons ru .nil),⟨_,n5,rfl,_,rfl⟩⟩,rfl,
     ⟨_,x,I.cA.fresh (aaf _),rfl,rfl,λ ab h=>by rw [I.oT h r];exact Q⟩,⟨⟨_,by simpa using he⟩,Y.1.extBut L.extBut z.symm⟩,λ c y=>?_⟩
   have lc:c<s.heap.objs.size:=by
     simp only [aaa,aae,aa2] at y
     rcases y with rfl|rfl
     . exact V
     . exact lj
   rw [aB (aaB lc)]
   exact (n c y).1
 done:=by
   intro X F J D l i m s U H E I n S G
   subst F J D
   obtain ⟨xs,r,hl⟩:=G
   obtain ⟨B,R,p,hz⟩:=I.list r
   obtain ⟨⟨O,b⟩,f⟩:=S
   have d:i=B.toArray.size:=by rw [aau,<- R.length];exact hl.symm
   subst d
   refine wpAny_pyNext_enum_endD (Draws.list (A:=X.A.in1) (I.ok.hd l) j a M B.toArray) b ⟨f,p.isList⟩ λ C eb=>⟨rfl,I.xF (ch:=[e,j]) (t':=s.toks) (λ c o d q=>?_) n⟩
   simp only [aaa,aae,aa2,ach] at d
   exact eb c o d.2 q
 self:=λ Z Z Z Z Z S h=>by
   obtain ⟨⟨O,b⟩,Z⟩:=S
   exact abW b h
def AU {P:bq} {w:bh} {K:aC} {e j a:ai} (z:e≠j) (ae:a≠e) (M:a≠j):Turn P w K (.Tuple elts x1 pR) (FZ (bR K) a) [e,j] e (EnT e j a) where
 mem:=by simp
 obj:=λ i h S c l=>by
   obtain ⟨⟨O,b⟩,oj,e2,Z,d2⟩:=S
   simp only [aaa,aae,aa2] at l
   rcases l with rfl|rfl
   . exact ⟨_,b,λ v q=>by cases q⟩
   . exact ⟨oj,e2,λ v q=>by rw [d2] at q;cases q⟩
 keep:=λ i h C S k=>by
   obtain ⟨⟨O,b⟩,f⟩:=S
   exact ⟨⟨O,k e (by simp) _ b⟩,f.at λ o q=>k j (by simp) o q⟩
 item:=by
   intro X F J D l i m s U H E I n S G
   subst F J D
   obtain ⟨xs,x,r,Q⟩:=G
   obtain ⟨B,R,p,hz⟩:=I.tuple r
   obtain ⟨u,N,ru⟩:=R.get Q
   obtain ⟨⟨O,b⟩,f⟩:=S
   have V:e<s.heap.objs.size:=aao b
   have lj:j<s.heap.objs.size:=by obtain ⟨o,q,Z⟩:=f;exact aao q
   have hi:i<B.toArray.size:=by
     have:=(RJ.mp N).1
     simpa using this
   refine wpAny_pyNext_enum_itemD (Io (A:=X.A.in1) (I.ok.hd l) j a M B.toArray) b ⟨f,p⟩ hi z (by simp [z,ae.symm]) λ v C T t eo Y ht Se kk=>?_
   obtain rfl:v=u:=by
     have t:B.toArray[i]?=some v:=t
     rw [adX,N] at t
     exact (aaj t).symm
   refine ⟨.ref s.heap.objs.size,rfl,ad1 (s:={ s with heap:=C,toks:=T+1 }) eo λ g he L=>?_⟩
   have W:∀ c o,c∉[e,j]->s.heap.get? c=some o->g.get? c=some o:=λ c o d q=>by
     simp only [aaa,aae,aa2,ach] at d
     exact L.extBut _ _ d.1 (kk c o d.1 d.2 q)
   have n5:=L.extBut _ _ (acP V) ht
   refine ⟨.ref s.heap.objs.size,upd H s.heap.objs.size (.tup [aq i,x]),I.xK (t':=T+1) W n (aaf _) ⟨by show 2<=sizeLine;decide,[.int i T,v],.cons ⟨T,rfl⟩ (.cons ru .nil),⟨_,n5,rfl,_,rfl⟩⟩,rfl,
     ⟨_,x,I.cA.fresh (aaf _),rfl,rfl,λ ab h=>by rw [I.Em h r];exact Q⟩,⟨⟨_,by simpa using he⟩,Y.1.extBut L.extBut z.symm⟩,λ c y=>?_⟩
   have lc:c<s.heap.objs.size:=by
     simp only [aaa,aae,aa2] at y
     rcases y with rfl|rfl
     . exact V
     . exact lj
   rw [aB (aaB lc)]
   exact (n c y).1
 done:=by
   intro X F J D l i m s U H E I n S G
   subst F J D
   obtain ⟨xs,r,hl⟩:=G
   obtain ⟨B,R,p,hz⟩:=I.tuple r
   obtain ⟨⟨O,b⟩,f⟩:=S
   have d:i=B.toArray.size:=by rw [aau,<- R.length];exact hl.symm
   subst d
   refine wpAny_pyNext_enum_endD (Io (A:=X.A.in1) (I.ok.hd l) j a M B.toArray) b ⟨f,p⟩ λ C eb=>⟨rfl,I.xF (ch:=[e,j]) (t':=s.toks) (λ c o d q=>?_) n⟩
   simp only [aaa,aae,aa2,ach] at d
   exact eb c o d.2 q
 self:=λ Z Z Z Z Z S h=>by
   obtain ⟨⟨O,b⟩,Z⟩:=S
   exact abW b h
section
variable {X:Cx}
def Xb (K:aC) (t:TA):TI:=λ U H R=>t U H λ v h=>∃ a,v=[.ref a]/\(∃ x,bi K h a x)/\R (FZ (bi K) a) h
def Y4 (K:aC) (t:TA):TI:=λ U H R=>t U H λ v h=>∃ a,v=[.ref a]/\(∃ x,bR K h a x)/\R (FZ (bR K) a) h
def OE:("enumerate" : Str) ≠ "__name__":=by decide +kernel
def NR:(("enumerate" : Str) == ("__debug__" : Str))=false:=by decide +kernel
def Cw {a:Expr} {p f:Pos} (n:Gl X "enumerate") (o:X.mg "enumerate" = none) (m:PA X [a] ta) (u:starEach [a] X.env=[(false,eval a X.env)]:=by rfl) :
   PI X (.Tuple elts x1 pR) (.Call (.Name "enumerate" p) [a] [] f) (Xb X.K ta):=by
 intro d s U H R I h
 refine Call_ ?_
 refine lS I n o j4 ?_ OE NR
 refine abg ?_ u rfl
 refine cV (m f d s U H _ I h) λ D S ⟨V,k,i,w,Q⟩=>?_
 obtain ⟨a,e,⟨F,t⟩,q⟩:=Q
 subst e
 cases w with
 | cons r x =>
   cases x
   obtain rfl:_=Value.ref a:=r
   obtain ⟨B,C,j,E⟩:=i.list t
   have l:a<S.heap.objs.size:=by obtain ⟨Z,e,Z⟩:=j.isList;exact aao e
   refine call_enumerate_list j.isList λ A z y G v=>abW z ?_
   refine ⟨S.heap.objs.size+1,[S.heap.objs.size+1,S.heap.objs.size],_,_,k,rfl,i.kept (t':=S.toks) v,AL (acI _) (aaB (ab8 l)) (aaB l),⟨⟨_,z⟩,y⟩,λ c g=>?_,q⟩
   have b:S.heap.objs.size<=c:=by
     simp only [aaa,aae,aa2] at g
     rcases g with rfl|rfl
     . exact abO _
     . exact aaf _
   exact i.zi b (i.cA.fresh b)
def MF {a:Expr} {p f:Pos} (n:Gl X "enumerate") (o:X.mg "enumerate" = none) (m:PA X [a] ta) (u:starEach [a] X.env=[(false,eval a X.env)]:=by rfl) :
   PI X (.Tuple elts x1 pR) (.Call (.Name "enumerate" p) [a] [] f) (Y4 X.K ta):=by
 intro d s U H R I h
 refine Call_ ?_
 refine lS I n o j4 ?_ OE NR
 refine abg ?_ u rfl
 refine cV (m f d s U H _ I h) λ D S ⟨V,k,i,w,Q⟩=>?_
 obtain ⟨a,e,⟨F,t⟩,q⟩:=Q
 subst e
 cases w with
 | cons r x =>
   cases x
   obtain rfl:_=Value.ref a:=r
   obtain ⟨B,C,j,E⟩:=i.tuple t
   have l:a<S.heap.objs.size:=j.lt
   refine tI j λ A z y v=>abW z ?_
   refine ⟨S.heap.objs.size+1,[S.heap.objs.size+1,S.heap.objs.size],_,_,k,rfl,i.kept (t':=S.toks) v,AU (acI _) (aaB (ab8 l)) (aaB l),⟨⟨_,z⟩,y⟩,λ c g=>?_,q⟩
   have b:S.heap.objs.size<=c:=by
     simp only [aaa,aae,aa2] at g
     rcases g with rfl|rfl
     . exact abO _
     . exact aaf _
   exact i.zi b (i.cA.fresh b)
end
def kc {sq:Hp->ai->aA->Prop} {a:ai} {xs:aA} {g:TG} {T:TT} {t:TE} {D:ai} {Q:Hp->Prop} {U:St} (c:Nat->aA->St->Hp->Prop) (o:c 0 [] U H) (u:∀ i acc U H,i<=xs.length->c i acc U H->sq H a xs) (z:∀ i x p acc U H,xs[i]?=some x->H p=none->c i acc U H->g (.ref p) U (upd H p (.tup [aq i,x])) λ b l=>T b l λ k h =>
     if k=true then t b h λ v j=>j D=some (.lst acc)/\acc.length<sizeLine/\c (i+1) (acc++[v]) b (upd j D (.lst (acc++[v]))) else c (i+1) acc b h) (r:∀ acc U H,c xs.length acc U H->Q H) :
   ∃ W:Nat->Nat->aA->St->Hp->Prop,(∃ m,W 0 m [] U H)/\∀ i m acc f d,W i m acc f d->((FZ sq a).stop i d/\Q d) \/
     ((FZ sq a).go i d/\∃ N:aA->St->Hp->Prop,(∀ J b h,N J b h->∃ m',m'<m/\W (i+1) m' J b h)/\∀ x n,(FZ sq a).FX i d x n->g x f n λ b l=>T b l λ k h =>
       if k=true then t b h λ y j=>j D=some (.lst acc)/\acc.length<sizeLine/\N (acc++[y]) b (upd j D (.lst (acc++[y]))) else N acc b h):=by
 refine ⟨λ i m acc U H=>m=xs.length - i/\i<=xs.length/\c i acc U H,⟨_,rfl,aaY _,o⟩,?_⟩
 rintro i m acc U H ⟨rfl,s,p⟩
 have q:=u i acc U H s p
 by_cases M:i<xs.length
 . refine .inr ⟨⟨xs,xs[i],q,by simp [M]⟩,c (i+1),λ J f d A=>⟨xs.length - (i+1),by lia,rfl,M,A⟩,λ v d y=>?_⟩
   obtain ⟨B,x,w,rfl,rfl,E⟩:=y
   exact z i x B acc U H (E xs q) w p
 . have e:i=xs.length:=by lia
   subst e
   exact .inl ⟨⟨xs,q,rfl⟩,r acc U H p⟩
end L2
namespace Tx
open PySem PySem.Builtin PySem.Builtin.Str
def len (a:Str):a.cps.toList.length=a.length:=ac0
def sl:Str:=⟨#[47]⟩
def cases (x:Str):47∉x.cps.toList\/∃ a b:Str,47∉a.cps.toList/\x.cps.toList=a.cps.toList++47::b.cps.toList:=by
 by_cases h:47∈x.cps.toList
 . obtain ⟨as,B,e,n⟩:=List.eq_append_cons_of_mem h
   exact .inr ⟨⟨as.toArray⟩,⟨B.toArray⟩,by simpa using n,by simpa using e⟩
 . exact .inl h
def strN (n:Nat):Str:=Str.ofString (toString ((n:Nat):Int))
def Good (z:Str):Prop:=1<=z.length/\z.length<=30/\NumText.AllDigits z.cps.toList/\¬ (z.cps.toList.head?=some 48/\1<z.length)
def valOf (z:Str):Int:=((NumText.digitsVal z.cps.toList:Nat):Int)
def mi:Str:=⟨#[45]⟩
def HB (z:Str):Bool:=decide (z.cps.toList.head?=some 45)
def bodyOf (z:Str):Str:=if HB z=true then Txt.slice z (some 1) none else z
def Yf (z:Str):Int:=if HB z=true then -1 else 1
def Rd (z:Str) (f:Int×Int):Prop :=
 Good (Txt.partition (bodyOf z) sl).1/\(HB z=true->valOf (Txt.partition (bodyOf z) sl).1≠0)/\f.1=Yf z * valOf (Txt.partition (bodyOf z) sl).1 /\
 (((Txt.partition (bodyOf z) sl).2.1=sl/\Good (Txt.partition (bodyOf z) sl).2.2/\2<=valOf (Txt.partition (bodyOf z) sl).2.2 /\
     Int.gcd (valOf (Txt.partition (bodyOf z) sl).1) (valOf (Txt.partition (bodyOf z) sl).2.2)=1/\f.2=valOf (Txt.partition (bodyOf z) sl).2.2) \/
   ((Txt.partition (bodyOf z) sl).2.1≠sl/\f.2=1))
def TV (t:Int):Str:=if t<0 then mi++strN t.natAbs else strN t.natAbs
def ac6 (t b:Int):Str:=if b=1 then TV t else TV t++sl++strN b.natAbs
end Tx
namespace L2
open PySem PySem.Spec PyProof.Rows Mth
variable {E:XK} {H H1:Hp} {pos':Pos} {tv:TE} {value:Expr}
section
def isStr (k:Str):au->Bool
 | .str x _=>x == k
 | _=>false
end
section
variable {P:bq} {w:bh} {K:aC} {mg:cy} {base:aU} {x qual m:Str} {st:Stmt} {dV:au} {f C:ai} {fd:FuncData} {N ps:cp} {k:Nat} {sp:Sp}
def mQ.okX (F:mQ K x qual st dV f fd) (S:az N ps (ao st)) (len:∀ vs H Q E,sp vs H Q E->vs.length=ps.length) (e:∀ (b:au) (A:Around) (outer:List Env) (s:Shared) (H:Hp) (vs:aA) (Q:VK) (E:XK),cR k (A.deeper (envOfC qual (ao st) s.heap.objs.size f b))->sp vs H Q E ->
     ∃ t,rK (fQ (CQ P w) P w K mg base N qual (ao st) f b A outer s H E) (bF st) t/\t { nx:=λ Z h=>Q .cn h,rt:=Q } (start N vs) H):ic P w K mg base (CQ P w) (k+1) f fd ps sp:=by
 obtain ⟨o,O,kV,d,p,g,b,ct,y,rfl,l,c⟩:=F.ex
 exact IY l c S len λ A outer s H vs Q E a J=>e b A outer s H vs Q E a J
def oX (P:bq) (w:bh) (K:aC) (M:cy) (base:aU) (C:ai) (m:Str) (k:Nat) (p:cp) (d:aZ) (s:Sp):Prop :=
 ∃ f fd,Meth K C m f/\Binds K fd p d/\ic P w K M base (CQ P w) k f fd p s
def fu.Hn (h:fu K C m qual st .none) (S:az N ps (ao st)) (len:∀ vs H Q E,sp vs H Q E->vs.length=ps.length) (g:∀ (kV d p:au) (c:Option ai) (b ct:au) (us:aZ),us.length=ps.length->bindArgs (W.fnOf m qual (cD st) (bF st) (ao st) .none kV d p c b ct) ⟨us,[]⟩=pure (ps.zip us)) (e:∀ (f:ai) (b:au) (A:Around) (outer:List Env) (s:Shared) (H:Hp) (vs:aA) (Q:VK) (E:XK),cR k (A.deeper (envOfC qual (ao st) s.heap.objs.size f b))->sp vs H Q E ->
     ∃ t,rK (fQ (CQ P w) P w K mg base N qual (ao st) f b A outer s H E) (bF st) t/\t { nx:=λ Z a=>Q .cn a,rt:=Q } (start N vs) H):oX P w K mg base C m (k+1) ps [] sp:=by
 obtain ⟨f,fd,M,F⟩:=h
 exact ⟨f,fd,M,F.CD g,F.okX S len λ b A outer s H vs Q E i j=>e f b A outer s H vs Q E i j⟩
end
section
variable {P:bq} {w:bh} {K:aC} {mg:cy} {base:aU} {qual m:Str} {st:Stmt} {dV:au} {f C:ai} {fd:FuncData} {N ps:cp} {k:Nat} {sp:Sp} {ds:aZ} {gj:aA}
def K8 (P:bq) (w:bh) (K:aC) (M:cy) (base:aU) (C:ai) (m q:Str) (st:Stmt) (d:au) (k:Nat) (p:cp) (s:Sp):Prop :=
 ∃ f fd,Meth K C m f/\mQ K m q st d f fd/\ic P w K M base (CQ P w) k f fd p s
def wP (P:bq) (w:bh) (K:aC) (M:cy) (base:aU) (C:ai) (m:Str) (k:Nat) (p:cp) (g:aA) (s:Sp):Prop :=
 ∃ ds,Vals g ds/\oX P w K M base C m k p ds s
def fu.Wy (h:fu K C m qual st dV) (S:az N ps (ao st)) (len:∀ vs H Q E,sp vs H Q E->vs.length=ps.length) (e:∀ (f:ai) (b:au) (A:Around) (outer:List Env) (s:Shared) (H:Hp) (vs:aA) (Q:VK) (E:XK),cR k (A.deeper (envOfC qual (ao st) s.heap.objs.size f b))->sp vs H Q E ->
     ∃ t,rK (fQ (CQ P w) P w K mg base N qual (ao st) f b A outer s H E) (bF st) t/\t { nx:=λ Z a=>Q .cn a,rt:=Q } (start N vs) H):K8 P w K mg base C m qual st dV (k+1) ps sp:=by
 obtain ⟨f,fd,M,F⟩:=h
 exact ⟨f,fd,M,F,F.okX S len λ b A outer s H vs Q E c d=>e f b A outer s H vs Q E c d⟩
def K8.Pu {T:ai} {A:aA} (h:K8 P w K mg base C m qual st (.ref T) k ps sp) (H:Bh K T A) (a:∀ i:Array au,Vals A i.toList->∃ ds,Vals gj ds/\∀ (kV d p:au) (b:Option ai) (B ct:au) (us:aZ),(us++ds).length=ps.length->∃ k,bindArgs (W.fnOf m qual (cD st) (bF st) (ao st) (.ref T) kV d p b B ct) ⟨us,[]⟩=seqItems? (.ref T) >>= k/\k (some i)=pure (ps.zip (us++ds))) :
   wP P w K mg base C m k ps gj sp:=by
 obtain ⟨f,fd,M,F,O⟩:=h
 obtain ⟨o,n,i,H,e,g⟩:=H
 obtain ⟨ds,c,a⟩:=a i g
 exact ⟨ds,c,f,fd,M,F.binds H e a,O⟩
def oX.y (D:oX P w K mg base C m k ps [] sp):wP P w K mg base C m k ps [] sp:=⟨[],.nil,D⟩
abbrev Kz:aZ:=[.type "ValueError",.type "Exception",.type "BaseException",.type "object"]
def Jv (K:aC) (C:ai) (q:Str) (st:Stmt):Prop:=∃ f fd,Ly K C f Kz "ValueError.__new__"/\mQ K "__init__" q st .none f fd
def Lo (P:bq) (w:bh) (K:aC) (m:cy) (base:aU) (C:ai) (k:Nat) (p:cp) (s:Sp):Prop :=
 ∃ f fd,Ly K C f Kz "ValueError.__new__"/\Binds K fd p []/\ic P w K m base uX k f fd p s
def Jv.QC (h:Jv K C qual st) (S:az N ps (ao st)) (len:∀ vs H Q E,sp vs H Q E->vs.length=ps.length) (g:∀ (kV d p:au) (c:Option ai) (b ct:au) (us:aZ),us.length=ps.length->bindArgs (W.fnOf "__init__" qual (cD st) (bF st) (ao st) .none kV d p c b ct) ⟨us,[]⟩=pure (ps.zip us)) (e:∀ (f:ai) (b:au) (A:Around) (outer:List Env) (s:Shared) (H:Hp) (vs:aA) (Q:VK) (E:XK),cR k (A.deeper (envOfC qual (ao st) s.heap.objs.size f b))->sp vs H Q E ->
     ∃ t,rK (fQ uX P w K mg base N qual (ao st) f b A outer s H E).Fe (bF st) t/\t { nx:=λ Z a=>Q .cn a,rt:=Q } (start N vs) H):Lo P w K mg base C (k+1) ps sp:=by
 obtain ⟨f,fd,M,F⟩:=h
 exact ⟨f,fd,M,F.CD g,F.ok S len λ b A outer s H vs Q E i j=>e f b A outer s H vs Q E i j⟩
end
section
variable {X:Cx} {C:ai} {m c:Str} {p pos apos np fc:Pos} {e o e₀:Expr} {es rest:List Expr} {ta:TE} {t:TA} {k:Nat} {ps:cp} {sp:Sp} {ds:aZ} {gj:aA} {E:XK}
def vI (a:X.calm=true) (g:X.mg c=some (.ref C)) (D:Lo X.prog X.w X.K X.mg X.base C k ps sp) (i:cR (k+1) X.A) (T:Nd X E) (h:PA X (e₀::rest) t) (e:Gl X c:=by rfl) (b:(c == ("__debug__" : Str))=false:=by decide) (d:starEach (e₀::rest) X.env=(false,eval e₀ X.env)::starEach rest X.env:=by rfl) (j:(backTo fc (starEach rest X.env)).any (·.1)=false:=by rfl) :
   PS X (.Raise (some (.Call (.Name c np) (e₀::rest) [] fc)) none pos) (Ec C E sp t):=by
 obtain ⟨f,l,q,H,F⟩:=D
 exact ES a abC g q F i H T h e b d j
def n8 {pl:Sem Bool} (b:PE X o ta) (c:yu X.K C) (D:wP X.prog X.w X.K X.mg X.base C m k ps gj sp) (g:cR k X.A) (j:Passes (CQ X.prog X.w) X E) (h:PA X (e::es) t) (p:Cq X e es:=by rfl) (J:FK X es pos:=by rfl) (i:eval (.Call (.Attribute o m apos) (e::es) [] pos) X.env=(do
     let O <- eval o X.env
     standAt apos.atName
     let (f,first) <- holding [O] (getMethod O m pl)
     callWith pos f first (backTo pos (starEach (e::es) X.env)) (backToKw pos (keywordEach [] X.env))):=by rfl) :
   PE X (.Call (.Attribute o m apos) (e::es) [] pos) (vZ C m sp gj E ta t):=by
 obtain ⟨ds,a,f,l,d,H,F⟩:=D
 exact Dr (pl:=pl) b c d F g H a j h p J i
end
def qL (C:ai) (r:fR) (H:Hp) (E:XK):Prop:=match r with
 | none=>∀ h,aD H h->E (.ref C) none h
 | some v=>∀ d h,aD H h->h d=some (.xd [("room",v)])->E (.ref C) (some d) h
def qL.plain {C:ai} (h:qL C none H E) (s:aD H H1):E (.ref C) none H1:=h H1 s
open PySem.Builtin PySem.Builtin.ObjectAttr
section
variable {K:aC} {prog:bq} {w:bh} {A:Around} {E:au->Shared->Prop} {s:Shared} {x C dx:ai} {name:Str} {v:au} {mA:cy}
def GI {t:ai} {ns:cp} {Q:Unit->Shared->Prop} (X:K.In s.heap) (H:s.heap.get? x=some (F2 C t (some dx))) (c:s.heap.Ns1 dx mA) (nx:dx≠x) (n:W.findIn K (.ref C) "__setattr__" = some (some (.builtin "object.__setattr__"))) (m:jl K C=true) (p:W.findIn K (.ref C) name=some none) (l:W.hasDictIn K C=true) (hw:PySem.Within mA ns) (hsz:ns.length<=1000) (h:∀ h',h'.get? x=some (F2 C t (some dx))->h'.Ns1 dx (λ y=>if y=name then some v else mA y)->(∀ b o,b≠dx->s.heap.get? b=some o->h'.get? b=some o)->Q () { s with heap:=h',toks:=s.toks+2 }) :
   wpAny (model prog w) A (setAttr (.ref x) name v) Q E s:=by
 obtain ⟨O,G,u⟩:=vK c
 have J:W.InstAt s.heap x (F2 C t (some dx)) C (some O):=⟨H,rfl,rfl,G⟩
 refine W.set_plain X J n (DP (s:={ s with toks:=s.toks+1 }) X J m p ?_)
 obtain ⟨r,k,F⟩:=aem l
 refine UV (aas (UV (UV (ad9 H (UV (W.Looks.here (s:={ s with toks:=s.toks+1 }) (adp X k) ?_))))))
 rw [F]
 refine aas (a:=some dx) (UV (aas (UV ?_)))
 refine wpAny_nsSet1 (s:={ s with toks:=s.toks+1 }) c λ h' L e=>?_
 obtain ⟨z,i,g,d,T,f⟩:=L.count (acz name v hw)
 refine UV (adG d (by rw [T];exact adH (aaT f (by rw [aaD,adh];lia))) ?_)
 exact aas (h h' ((e.2 _ (abA nx)).trans H) L λ b o j q=>(e.2 b j).trans q)
end
def DX (d:ai) (f:Str) (y:V):HO:=.ext λ h=>∃ u,RelV y u/\h.Ns1 d (λ z=>if z=f then some u else none)
section
variable {X:Cx} {pins:List (ai×Obj)} {U:St} {H:Hp} {s:Shared} {A:Around} {E:au->Shared->Prop}
def Ge {a C t:ai} {f:Str} {y:V} {u:au} {Q:Unit->Shared->Prop} (I:Inv X pins U H s) (e:H a=some (XO a C t none)) (c:ExcAt X.K C f) (ry:RelV y u) (h:∀ s' d,H d=none->d≠a->Inv X pins U (upd (upd H d (DX d f y)) a (XO a C t (some d))) s'->Q () s'):wpAny (model X.prog X.w) A (setAttr (.ref a) f u) Q E s:=by
 have m:s.heap.get? a=some (F2 C t none):=(I.cA a _ e).1
 have T:=aao m
 refine Kw I.pH m c.sa c.po c.no c.hd λ j l F g=>?_
 obtain ⟨od,M,L,G,D,sk,uk,S⟩:=F
 have nf:od.isFreed=false:=(Heap.get?_some_iff.mp G).2
 have i:(s.heap.push od).get? s.heap.objs.size=some od:=aaK _ nf
 have n:s.heap.objs.size≠a:=acP T
 have v:=I.laid (a:=s.heap.objs.size) (o:=DX s.heap.objs.size f y) (h':=s.heap.push od) (t':=s.toks+2) (λ b q z=>aac _ z) (aaf _)
   ⟨⟨u,ry,od,M,L,i,D,sk,uk,S⟩,⟨_,i⟩,λ N O p k=>by
     obtain ⟨u,r,o,W,Y,q3,q4⟩:=p
     exact ⟨u,r,o,W,Y,k _ q3,q4⟩⟩
 have J:upd H s.heap.objs.size (DX s.heap.objs.size f y) a=some (XO a C t none):=by rw [aB (abA n)];exact e
 have B:=v.write (x:=a) (e:=a) (o:=XO a C t (some s.heap.objs.size)) (h':=j) (t':=s.toks+2) (by rw [J];exact True.intro) (.inl rfl) (λ b q R z=>by
   by_cases w:b=s.heap.objs.size
   . subst w
     have z:(s.heap.push od).get? s.heap.objs.size=some q:=z
     rw [i] at z
     cases z
     exact G
   . refine g b q R ?_
     have z:(s.heap.push od).get? b=some q:=z
     rw [Heap.get?_push_ne _ _ _ w] at z
     exact z) ⟨_,l⟩ ⟨l,⟨_,l⟩,λ N O p k=>k _ p⟩
 exact h _ _ (I.cA.fresh (aaf _)) n B
def GM {a C t d:ai} {f g:Str} {y z:V} {u:au} {Q:Unit->Shared->Prop} (I:Inv X pins U H s) (e:H a=some (XO a C t (some d))) (l:H d=some (DX d g z)) (n:d≠a) (c:ExcAt X.K C f) (R:RelV y u) (h:∀ s',Inv X pins U (upd H d (.xd [(f,y),(g,z)])) s'->Q () s'):wpAny (model X.prog X.w) A (setAttr (.ref a) f u) Q E s:=by
 have v:s.heap.get? a=some (F2 C t (some d)):=(I.cA a _ e).1
 obtain ⟨m,J,r⟩:=(I.cA d _ l).1
 refine GI (ns:=[g]) I.pH v r n c.sa c.po c.no c.hd (acz g m (ns:=[]) (λ y D=>absurd rfl D)) (by show 1<=1000;decide) λ b N F k=>?_
 have T:∃ o,b.get? d=some o:=by obtain ⟨O,M,L,G,Z⟩:=F;exact ⟨O,G⟩
 refine h _ (I.write (x:=d) (e:=d) (o:=.xd [(f,y),(g,z)]) (h':=b) (t':=s.toks+2) (by rw [l];exact True.intro) (.inl rfl) k T ⟨_,F,λ q=>?_⟩)
 show jw (([(f,y),(g,z)]:List (Str×V)).lookup q) (if q=f then some u else if q=g then some m else none)
 by_cases i:q=f
 .
  subst i
  rw [aan rfl]
  simp only [List.lookup,adi]
  exact R
 .
  rw [aam i]
  have B:(q == f)=false:=by simpa using i
  by_cases j:q=g
  . subst j
    rw [aan rfl]
    simp only [List.lookup,B,adi]
    exact J
  . rw [aam j]
    have p:(q == g)=false:=by simpa using j
    simp only [List.lookup,B,p]
    exact trivial
def OK (K:aC) (T b:TE) (f:Str):TS:=λ D U H=>b U H λ y H1=>T U H1 λ x h=>∃ a C t,x = .ref a/\h a=some (XO a C t none)/\ExcAt K C f/\∀ d,h d=none->d≠a->D.nx U (upd (upd h d (DX d f y)) a (XO a C t (some d)))
def zA {o:Expr} {f:Str} {p:Pos} {T:TE} (g:PE X o T) (k:PE X value tv) (j:swapsWith value (some (.Attribute o f pos')) p.line X.env=pure false):PS X (.Assign [.Attribute o f pos'] value p) (OK X.K T tv f):=by
 intro pins s U H D I h
 refine acl (cV (k pins s U H _ I h) λ u S ⟨y,H1,i,R,q⟩=>cV (g pins S U H1 _ i q) λ O m ⟨x,l,b,r,a,C,t,ex,E,c,Q⟩=>?_) j
 subst ex
 obtain rfl:O=Value.ref a:=r
 exact Ge b E c R λ v e n N d=>⟨U,_,d,Q e n N⟩
def Mx (K:aC) (T b:TE) (f:Str):TS:=λ D U H=>b U H λ y H1=>T U H1 λ x h=>∃ a C t d g z,x = .ref a/\h a=some (XO a C t (some d))/\h d=some (DX d g z)/\d≠a/\ExcAt K C f/\D.nx U (upd h d (.xd [(f,y),(g,z)]))
def yQ {o:Expr} {f:Str} {p:Pos} {T:TE} (j:PE X o T) (l:PE X value tv) (k:swapsWith value (some (.Attribute o f pos')) p.line X.env=pure false):PS X (.Assign [.Attribute o f pos'] value p) (Mx X.K T tv f):=by
 intro pins s U H D I h
 refine acl (cV (l pins s U H _ I h) λ u S ⟨y,H1,i,R,q⟩=>cV (j pins S U H1 _ i q) λ O w ⟨x,m,b,r,a,C,t,v,g,z,ex,e,E,n,c,Q⟩=>?_) k
 subst ex
 obtain rfl:O=Value.ref a:=r
 exact GM b e E n c R λ A d=>⟨U,_,d,Q⟩
end
inductive qp (C:ai) (f g:Str) (vs:aA) (H:Hp) (Q:VK) (_E:XK):Prop|mk (x t v u:_) (_:vs=[.ref x,v,u]) (_:H x=some (XO x C t none)) (_:∀ dx,H dx=none->dx≠x->Q .cn (upd (upd (upd H dx (DX dx f v)) x (XO x C t (some dx))) dx (.xd [(g,u),(f,v)])))
def g9 (C:ai) (r u:V) (H:Hp) (E:XK):Prop:=∀ d h,aD H h->h d=some (.xd [("turn",u),("room",r)])->E (.ref C) (some d) h
def g9.same {C:ai} {r u:V} (h:g9 C r u H E) (s:aD H H1):g9 C r u H1 E:=λ d a S=>h d a (s.trans S)
def g9.raised {C:ai} {r u:V} (h:g9 C r u H E) (s:aD H H1):[r,u].length<=sizeLine/\∀ x t,H1 x=none->qp C "room" "turn" (.ref x::[r,u]) (upd H1 x (XO x C t none)) (λ v a=>v = .cn/\∃ d,a x=some (XO x C t d)/\E (.ref C) d (i5 a x)) E0:=by
 refine ⟨by show 2<=sizeLine;decide,λ x t i=>⟨x,t,r,u,rfl,ag,λ D f g=>⟨rfl,some D,by rw [aB (abA g)];exact ag,h D _ ?_ ?_⟩⟩⟩
 .
  intro b o c
  have n:b≠x:=λ z=>by have:=s b o c;rw [z,i] at this;cases this
  have e:(upd H1 x (XO x C t none)) b=some o:=by rw [aB n];exact s b o c
  have N:b≠D:=λ z=>by rw [z] at e;rw [e] at f;cases f
  rw [gh n,aB N,aB n,aB N]
  exact e
 . rw [gh g]
   exact ag
end L2
namespace Ord
open Bit
def w6:∀ W,W<16->parts (rooms W)=(List.range 16).filter (λ o=>decide (o &&& W=o)):=by decide +kernel
structure Dx (n:Nat) (has:Nat->Bool) (wd:Nat->Int) (wt:Nat->Bool) (b:Nat) (most heap:Int) (o:Nat):Prop where
 has:∀ r∈rooms o,r<n/\has r=true
 fT:∀ r,r<n->wt r=true->o.testBit r=b.testBit r
 most:((rooms o).length:Int)<=most
 oE:((rooms o).map wd).sum<=heap
def setOf (n:Nat) (p:Nat->Bool):Nat:=sumOf ((List.range n).filter p)
def iI (n:Nat) (p:Nat->Bool) (k:Nat):(setOf n p).testBit k=(decide (k<n) && p k):=by
 unfold setOf
 rw [mm]
 by_cases h:k<n<;>cases e:p k<;>simp [h,e]
def xO (n:Nat) (p:Nat->Bool):setOf n p<2 ^ n:=HH λ r h=>aaH.mp (aaW.mp h).1
def Eg {n:Nat} (p:Nat->Bool) (H:n<=61):rooms (setOf n p)=(List.range n).filter p :=
 A0 (λ r h=>by have:=aaH.mp (aaW.mp h).1;lia) ((adQ).filter _)
def JS {o k:Nat} (h:o<16) (H:4<=k):o.testBit k=false:=iL (m:=4) h H
structure Gh (n:Nat) (has:Nat->Bool) (wd:Nat->Int) (wt:Nat->Bool) (b:Nat) (most heap:Int) (o:Nat):Prop where
 fT:o &&& setOf n wt=b &&& setOf n wt
 most:((rooms o).length:Int)<=most
 oE:((rooms (o &&& setOf n has)).map wd).sum<=heap
section
variable {n:Nat} {has:Nat->Bool} {wd:Nat->Int} {wt:Nat->Bool} {b:Nat} {most heap:Int} {o:Nat}
def DA (c:o<2 ^ 61):o &&& setOf n has=o↔∀ r∈rooms o,r<n/\has r=true:=by
 constructor
 .
  intro e r d
  have H:=(fK.mp d).2
  rw [<- e,aa5,iI] at H
  simp only [aaq,aaS] at H
  exact H.2
 .
  intro h
  refine abk λ k=>?_
  rw [aa5,iI]
  by_cases b:k<61
  .
   cases e:o.testBit k with
   | false=>rfl
   | true =>
     obtain ⟨a,H⟩:=h k (fK.mpr ⟨b,e⟩)
     rw [aaE a,H];rfl
  . rw [iL c (by lia)];rfl
def yE:o &&& setOf n wt=b &&& setOf n wt↔∀ r,r<n->wt r=true->o.testBit r=b.testBit r:=by
 constructor
 .
  intro e r a c
  have h:=abI (λ x=>Nat.testBit x r) e
  simp only [aa5,iI,aaE a,c,Bool.and_true] at h
  exact h
 .
  intro h
  refine abk λ k=>?_
  rw [aa5,aa5,iI]
  by_cases H:k<n
  . cases e:wt k with
    | false=>simp
    | true=>rw [h k H e]
  . rw [aal H];simp
def Im (c:o<2 ^ 61):Dx n has wd wt b most heap o↔(o &&& setOf n has=o/\Gh n has wd wt b most heap o):=by
 constructor
 . rintro ⟨d,H,a,h⟩
   have e:=(DA c).mpr d
   exact ⟨e,⟨yE.mpr H,a,by rw [e];exact h⟩⟩
 . rintro ⟨e,H,a,h⟩
   rw [e] at h
   exact ⟨(DA c).mp e,yE.mp H,a,h⟩
end
open Classical in
def Ez {n:Nat} (f:n<=4) (h:Nat->Bool) (w:Nat->Int) (W:Nat->Bool) (b:Nat) (most heap:Int) (P L:Nat->Bool)
   (d:∀ o,o<16->(P o=true↔Gh n h w W b most heap o)) (c:∀ o,o<16->(L o=true↔Dx n h w W b most heap o)) :
   (parts (rooms (setOf n h))).filter P=(List.range 16).filter L:=by
 have e:setOf n h<16:=aav (xO n h) (aba (by decide) f:2 ^ n<=2 ^ 4)
 rw [w6 _ e,List.filter_filter]
 refine List.filter_congr λ o H=>?_
 have H:o<16:=aaH.mp H
 have a:o<2 ^ 61:=acq H (by decide)
 have:=(c o H).trans ((Im a).trans (ado λ Z=>(d o H).symm))
 rw [abu,aaq,aaS,this]
 exact And.comm
end Ord
namespace L2
open PySem PySem.Spec PyProof.Rows Mth
variable {H:Hp} {tm:av}
section
variable {X:Cx}
inductive Y6 (K:aC) (x:V) (lo:Option Int) (hi:Option Int) (H:Hp) (Q:VK):Prop|mk (a xs:_) (i:Nat) (_:x = .ref a) (_:bR K H a xs) (_:lo=some (i:Int)) (_:hi=none) (_:1<=i) (_:i<=xs.length) (_:∀ p,H p=none->Q (.ref p) (upd H p (.tup (xs.drop i))))
def DE:Zi X (Y6 X.K):=by
 intro p s U H x v V u L m sl Q I R e j k h
 obtain ⟨a,l,i,rfl,f,rfl,rfl,g,t,q⟩:=h
 cases R
 cases k
 cases j
 obtain ⟨B,r,d,n⟩:=I.tuple f
 have c:=r.length
 refine ⟨"tuple",_,slot_tuple_getitem.lookup,d.typeIs,getItem_tuple_from d e g (by rw [aau];lia) ?_ (by rw [aau];lia)⟩
 refine ⟨.ref s.heap.objs.size,_,I.laid (t':=s.toks) (o:=.tup (l.drop i)) (λ b O q=>aac _ q) (aaf _) ?_,rfl,q _ (I.cA.fresh (aaf _))⟩
 refine ⟨by rw [List.length_drop];lia,B.drop i,r.drop i,⟨_,aaK _ rfl,rfl,_,rfl⟩⟩
end
structure dD where
 bL:bg
 c6:Nat
 i6:bg
 failed:bg
 heap:Nat
def hG (K:aC) (H:Hp) (p:ai) (s:dD):Prop :=
 ∃ a c b,bR K H p [.ref a,aq s.c6,.ref c,.ref b,aq s.heap]/\bR K H a (s.bL.map aq)/\bR K H c (s.i6.map aq)/\bR K H b (s.failed.map aq)
def hG.same {K:aC} {e:Hp} {p:ai} {s:dD} (h:hG K H p s) (q:aD H e):hG K e p s:=by
 obtain ⟨f,i,g,a,b,c,d⟩:=h
 exact ⟨f,i,g,q.tup a,q.tup b,q.tup c,q.tup d⟩
abbrev WK:=ce×Int×Int×Int
def ap.vG (m:ap) (i:Nat):Option WK:=(m.aH[i]?).getD none
def ap.has (m:ap) (i:Nat):Bool:=(m.vG i).isSome
def ap.wd (m:ap) (i:Nat):Int:=((m.vG i).map λ z=>z.2.1).getD 0
def ap.fT (m:ap) (i:Nat):Int:=((m.vG i).map λ z=>z.2.2.1).getD 0
def ap.fails (m:ap) (i:Nat):Int:=((m.vG i).map λ z=>z.2.2.2).getD 0
def jr {m:ap} {i:Nat} (h:i<m.aH.length):m.aH[i]?=some (m.vG i):=by
 unfold ap.vG
 rw [ar h];rfl
def tP:Option WK->Bool->Nat->Nat->Prop
 | none,f,w,b=>f=false/\w=0/\b=0
 | some z,f,w,b=>(w:Int)<=z.2.2.1/\(b:Int)<=z.2.2.2/\(b=0\/(f=false/\w=0))
def gN (l:bg) (i:Nat):Nat:=(l[i]?).getD 0
def Nb {l:bg} {i:Nat} (h:i<l.length):l[i]?=some (gN l i):=by
 unfold gN
 rw [ar h];rfl
def ue {l:bg} {i:Nat} (h:i<l.length):uw (l.map aq) (i:Int)=some (aq (gN l i)):=bK (by rw [T1,Nb h];rfl)
structure gW (m:ap) (s:dD):Prop where
 lb:s.bL.length=m.rows.length
 lw:s.i6.length=m.rows.length
 lf:s.failed.length=m.rows.length
 c6:s.c6<2 ^ m.rows.length
 most:((Bit.rooms s.c6).length:Int)<=m.most
 heap:(s.heap:Int)<=m.iO
 band:∀ i,i<m.rows.length->gN s.bL i+1<(m.rows.getD i []).length
 jn:∀ i,i<m.rows.length->tP (m.vG i) (s.c6.testBit i) (gN s.i6 i) (gN s.failed i)
def ap.ws (m:ap):Nat:=Ord.setOf m.rows.length m.has
def dD.wt (s:dD) (i:Nat):Bool:=decide (0<gN s.i6 i)
def dD.held (s:dD):Nat:=Ord.setOf s.i6.length s.wt
def ap.oE (m:ap) (b:Nat):Int:=((Bit.rooms (b &&& m.ws)).map m.wd).sum
def ap.Ja (m:ap) (o:Nat) (heap:Int):Bool:=decide (((Bit.rooms o).length:Int)<=m.most) && decide (m.oE o<=heap)
def dD.F0 (m:ap) (s:dD) (o:Nat):Bool:=decide (o &&& s.held=s.c6 &&& s.held) && m.Ja o s.heap
def dD.orders (m:ap) (s:dD):bg:=(Bit.parts (Bit.rooms m.ws)).filter (s.F0 m)
def Dy {m:ap} (h:m.rows.length<=4):m.ws<16:=aav (Ord.xO _ _) (aba (by decide) h:2 ^ m.rows.length<=2 ^ 4)
section
variable (K:aC) (C:ai)
inductive AE (vs:aA) (H:Hp) (Q:VK) (_E:XK):Prop|mk (n:Nat) (_:vs=[aq n]) (_:n<2 ^ 61) (_:∀ H',aD H H'->Q (aq (Bit.rooms n).length) H')
inductive Fb (vs:aA) (H:Hp) (Q:VK) (_E:XK):Prop|mk (p l:_) (_:vs=[.ref p]) (_:bi K H p (l.map aq)) (_:(∀ r∈l,r<=1000)) (_:Q (aq (Bit.sumOf l)) H)
inductive vE (vs:aA) (H:Hp) (Q:VK) (_E:XK):Prop|mk (v z f w b:_) (_:vs=[v,.bl f,aq w,aq b]) (_:Dn K H (il z) v) (_:tP z f w b) (_:∀ H',aD H H'->Q (.bl true) H')
inductive ya (vs:aA) (H:Hp) (Q:VK) (_E:XK):Prop|mk (a fp m p s:_) (i:Nat) (_:vs=[.ref a,.ref p,aq i]) (_:aV K C H a fp m) (_:hG K H p s) (_:gW m s) (_:i<m.rows.length) (_:∀ H',aD H H'->Q (.bl true) H')
inductive zv (vs:aA) (H:Hp) (Q:VK) (_E:XK):Prop|mk (a fp m p s:_) (_:vs=[.ref a,.ref p]) (_:aV K C H a fp m) (_:hG K H p s) (_:gW m s) (_:∀ H',aD H H'->Q (.bl true) H')
inductive vh (vs:aA) (H:Hp) (Q:VK) (_E:XK):Prop|mk (a fp m p s:_) (_:vs=[.ref a,.ref p]) (_:aV K C H a fp m) (_:hG K H p s) (_:gW m s) (_:∀ H',aD H H'->Q .cn H')
inductive uZ (vs:aA) (H:Hp) (Q:VK) (_E:XK):Prop|mk (a fp m:_) (_:vs=[.ref a]) (_:aV K C H a fp m) (_:∀ H',aD H H'->Q (aq m.ws) H')
inductive Bm (vs:aA) (H:Hp) (Q:VK) (_E:XK):Prop|mk (a fp m:_) (b:Nat) (_:vs=[.ref a,aq b]) (_:aV K C H a fp m) (_:∀ H',aD H H'->Q (.int (m.oE b)) H')
inductive yh (vs:aA) (H:Hp) (Q:VK) (_E:XK):Prop|mk (p s:_) (_:vs=[.ref p]) (_:hG K H p s) (_:s.i6.length<=4) (_:∀ H',aD H H'->Q (aq s.held) H')
inductive zP (vs:aA) (H:Hp) (Q:VK) (_E:XK):Prop|mk (a fp m:_) (o:Nat) (hp:Int) (_:vs=[.ref a,aq o,.int hp]) (_:aV K C H a fp m) (_:o<2 ^ 61) (_:∀ H',aD H H'->Q (.bl (m.Ja o hp)) H')
inductive xV (vs:aA) (H:Hp) (Q:VK) (_E:XK):Prop|mk (a fp m p s:_) (_:vs=[.ref a,.ref p]) (_:aV K C H a fp m) (_:hG K H p s) (_:gW m s) (_:∀ q H',H q=none->aD H H'->H' q=some (.lst ((s.orders m).map aq))->Q (.ref q) H')
end
def Dn.jn {K:aC} {v:V} {z:WK} (h:Dn K H (il (some z)) v):∃ p v1,v = .ref p/\bR K H p [v1,.int z.2.1,.int z.2.2.1,.int z.2.2.2]/\Dn K H (dO z.1) v1:=by
 obtain ⟨p,x,rfl,d,t,R,rfl,c,T,i,rfl,e,f,j,rfl,E,g,r,rfl,a,b⟩:=h
 have b:r=[]:=b
 have e:T = .int z.2.1:=e
 have E:f = .int z.2.2.1:=E
 have a:g = .int z.2.2.2:=a
 subst e E a b
 exact ⟨p,t,rfl,d,c⟩
def C7 {n i:Nat} (ok:tm.Ok n n) (h:i<n):(tm.m2 n n).vG i=((tm.aH[i]?).getD none).map tm.ju:=by
 unfold ap.vG
 rw [(jN ok n (aaf n)).2.2.1 i h]
 cases tm.aH[i]? <;> rfl
structure Part (tm:av) (n i:Nat) (bs ws fs:bg) (b:Nat):Prop where
 lb:bs.length=i
 lw:ws.length=i
 lf:fs.length=i
 c6:b<2 ^ i
 most:((Bit.rooms b).length:Int)<=tm.bounds.1
 band:∀ j,j<i->gN bs j+1<(tm.marks.getD j []).length
 jn:∀ j,j<i->tP ((tm.m2 n n).vG j) (b.testBit j) (gN ws j) (gN fs j)
def Part.zero {n:Nat} (ok:tm.Ok n n):Part tm n 0 [] [] [] 0:=by
 refine ⟨rfl,rfl,rfl,by decide,?_,nofun,nofun⟩
 have e:(Bit.rooms 0).length=0:=by decide
 rw [e]
 exact ok.bounds.1.1
def BV {l:bg} {x j:Nat} (h:j<l.length):gN (l++[x]) j=gN l j:=by
 unfold gN
 rw [aaA h]
def BJ {l:bg} {x:Nat}:gN (l++[x]) l.length=x:=by
 unfold gN
 rw [aaG (aaf _),acN];rfl
def Part.next {n i:Nat} {bs W F:bg} {b x w f:Nat} {l:Bool} (h:Part tm n i bs W F b) (m:i<61) (p:x+1<(tm.marks.getD i []).length) (k:tP ((tm.m2 n n).vG i) l w f) (o:l=true->((Bit.rooms b).length:Int)<tm.bounds.1):Part tm n (i+1) (bs++[x]) (W++[w]) (F++[f]) (if l then b+2 ^ i else b)/\(Bit.rooms (if l then b+2 ^ i else b)).length=(Bit.rooms b).length+(if l then 1 else 0):=by
 have X:b.testBit i=false:=Bit.iL h.c6 (aaf _)
 have d:b+2 ^ i=b ||| 2 ^ i:=by
   have:=adq h.c6 1
   rw [aee] at this
   rw [acr,this,Nat.or_comm]
 have M:(if l then b+2 ^ i else b)<2 ^ (i+1):=by
   have:=h.c6
   rw [acO]
   split<;>lia
 have H:(Bit.rooms (if l then b+2 ^ i else b)).length=(Bit.rooms b).length+(if l then 1 else 0):=by
   cases l with
   | false=>rfl
   | true =>
     show (Bit.rooms (b+2 ^ i)).length=_+1
     rw [d,Bit.G6 m X]
 have a:∀ j,j<i->(if l then b+2 ^ i else b).testBit j=b.testBit j:=λ j c=>by
   cases l with
   | false=>rfl
   | true =>
     show (b+2 ^ i).testBit j=_
     rw [acr]
     exact Nat.testBit_two_pow_add_gt c b
 have C:(if l then b+2 ^ i else b).testBit i=l:=by
   cases l with
   | false=>exact X
   | true =>
     show (b+2 ^ i).testBit i=_
     rw [acr,Nat.testBit_two_pow_add_eq,X];rfl
 refine ⟨⟨by rw [aad,h.lb];rfl,by rw [aad,h.lw];rfl,by rw [aad,h.lf];rfl,M,?_,λ j c=>?_,λ j c=>?_⟩,H⟩
 .
  rw [H]
  have:=h.most
  cases l with
  | false=>exact this
  | true =>
    have:=o rfl
    show (((Bit.rooms b).length+1:Nat):Int)<=_
    lia
 .
  by_cases e:j<i
  . rw [BV (by rw [h.lb];exact e)];exact h.band j e
  . obtain rfl:j=i:=by lia
    have:gN (bs++[x]) j=x:=by rw [<- h.lb];exact BJ
    rw [this];exact p
 .
  by_cases e:j<i
  . rw [BV (by rw [h.lw];exact e),BV (by rw [h.lf];exact e),a j e];exact h.jn j e
  . obtain rfl:j=i:=by lia
    have E:gN (W++[w]) j=w:=by rw [<- h.lw];exact BJ
    have g:gN (F++[f]) j=f:=by rw [<- h.lf];exact BJ
    rw [E,g,C];exact k
theorem Part.ok {n:Nat} {bs w F:bg} {b:Nat} {d:Nat} (ok:tm.Ok n n) (h:Part tm n n bs w F b) (j:(d:Int)<=tm.bounds.2.1):gW (tm.m2 n n) ⟨bs,b,w,F,d⟩:=by
 obtain ⟨f,e,g,k⟩:=eR tm n n
 have a:(tm.m2 n n).rows.length=n:=by rw [f,OS,aax,ok.lm];lia
 refine ⟨by rw [a];exact h.lb,by rw [a];exact h.lw,by rw [a];exact h.lf,by rw [a];exact h.c6,by rw [e];exact h.most,by rw [g];exact j,λ i H=>?_,λ i H=>?_⟩
 .
  rw [a] at H
  have c:=h.band i H
  have x:i<tm.marks.length:=by rw [ok.lm];exact H
  rw [f,BO,T1,abY H,ar x]
  rw [BO,ar x] at c
  show _<(tm.row tm.marks[i]).length
  unfold av.row
  rw [OS]
  exact c
 . rw [a] at H
   exact h.jn i H
def KQ (tm:av) (n:Nat) (s:dD) (o:Nat):Prop:=Ord.Dx n (tm.m2 n n).has (tm.m2 n n).wd s.wt s.c6 tm.bounds.1 s.heap o
inductive yZ (K:aC) (vs:aA) (H:Hp) (Q:VK) (_E:XK):Prop|mk (p tm:_) (n:Nat) (c:Int) (k:Nat) (_:vs=[.ref p,.int c,aq k]) (_:iT K H p tm) (_:tm.Ok n n) (_:n<=4) (_:k<=900) (_:∀ q s H',aD H H'->hG K H' q s->gW (tm.m2 n n) s->Q (.ref q) H')
end L2
namespace Ord
open Bit
def Rt:∀ x,x<16->∀ y,y<16->x - (x &&& y)=x ^^^ (x &&& y):=by decide +kernel
def off (x y:Nat):Nat:=x - (x &&& y)
def nU {x y:Nat} (h:x<16) (H:y<16) (k:Nat):(off x y).testBit k=(x.testBit k && !y.testBit k):=by
 unfold off
 rw [Rt x h y H,Nat.testBit_xor,aa5]
 cases x.testBit k<;>cases y.testBit k<;>rfl
def Nf {x y n:Nat} (h:x<2 ^ n):off x y<2 ^ n:=aaO (Nat.sub_le _ _) h
def LO {n x:Nat} (H:n<=4) (h:x<2 ^ n):x<16:=aav h (aba (by decide) H:2 ^ n<=2 ^ 4)
theorem less {w:Nat->Int} (c:∀ r,0<=w r) {p q:Nat->Bool} (h:∀ x,p x=true->q x=true):∀ l:bg,(l.filter p).length<=(l.filter q).length/\((l.filter p).map w).sum<=((l.filter q).map w).sum
 | []=>⟨aaf _,abx _⟩
 | x::l=>by
   obtain ⟨a,b⟩:=less c h l
   have:=c x
   by_cases H:p x=true
   . rw [acE H,acE (h x H)]
     simp only [aaD,aaQ,List.sum_cons]
     lia
   .
    by_cases d:q x=true
    . rw [acF H,acE d]
      simp only [aaD,aaQ,List.sum_cons]
      lia
    . rw [acF H,acF d]
      exact ⟨a,b⟩
def BU {w:Nat->Int} (H:∀ r,0<=w r) {a b:Nat} (h:∀ x,a.testBit x=true->b.testBit x=true):(rooms a).length<=(rooms b).length/\((rooms a).map w).sum<=((rooms b).map w).sum:=less H h _
structure Hd where
 n:Nat
 has:Nat->Bool
 wd:Nat->Int
 wt:Nat->Bool
 b:Nat
 most:Int
 heap:Int
def Hd.ws (h:Hd):Nat:=setOf h.n h.has
def Hd.held (h:Hd):Nat:=setOf h.n h.wt
def Hd.oE (h:Hd) (o:Nat):Int:=((rooms (o &&& h.ws)).map h.wd).sum
def Hd.Ja (h:Hd) (o:Nat):Bool:=decide (((rooms o).length:Int)<=h.most) && decide (h.oE o<=h.heap)
def Hd.step (h:Hd) (o r:Nat):Nat:=if h.Ja (o ||| 2 ^ r) then o ||| 2 ^ r else o
def Hd.first (h:Hd):Nat:=h.b &&& h.held
def Hd.go (h:Hd) (n:Nat):Nat:=(rooms (off (n &&& h.ws) h.held)).foldl h.step h.first
def Hd.may (h:Hd) (n r:Nat):Bool:=n.testBit r && h.has r && !h.wt r
structure Hd.Ok (h:Hd):Prop where
 n4:h.n<=4
 c6:h.b<2 ^ h.n
 sub:∀ r,h.b.testBit r=true->h.has r=true
 most:((rooms h.b).length:Int)<=h.most
 wd0:∀ r,0<=h.wd r
section
variable {h:Hd} {i r o:Nat}
structure Hd.In (h:Hd) (i o:Nat):Prop where
 sub:∀ r,o.testBit r=true->r<h.n/\h.has r=true
 held:∀ r,r<h.n->h.wt r=true->o.testBit r=h.b.testBit r
 aed:∀ r,i<=r->h.wt r=false->o.testBit r=false
def Hd.YJ (h:Hd) (o:Nat):Prop:=Dx h.n h.has h.wd h.wt h.b h.most h.heap o
end
end Ord
namespace L2
open PySem PySem.Spec PyProof.Rows Mth
variable {B R xw:Int} {D:L2.Ends} {H H' H0:Hp} {UI a2 a3 a4 a5 a6 a7 a8 a9:TS} {l zs:List Int} {tm:av}
def gI (x y:Nat):Builtin.bitAnd (x:Int) (Builtin.bitNot (y:Int))=((Ord.off x y:Nat):Int):=by
 have e:Builtin.bitNot (Builtin.bitNot (y:Int))=(y:Int):=by unfold Builtin.bitNot;lia
 have n:¬ (0:Int)<=Builtin.bitNot (y:Int):=by unfold Builtin.bitNot;lia
 have p:(0:Int)<=(x:Int):=abi _
 unfold Builtin.bitAnd
 rw [aaE p,aal n]
 show (x:Int) - _=_
 rw [e,aaX,aaX]
 have:=Nat.and_le_left (n:=x) (m:=y)
 unfold Ord.off
 lia
def NY (m:ap) (s:dD):Ord.Hd:=⟨m.rows.length,m.has,m.wd,s.wt,s.c6,m.most,s.heap⟩
def Kk {n o:Nat} {s:dD} (ok:tm.Ok n n) (S:gW (tm.m2 n n) s):KQ tm n s o↔(NY (tm.m2 n n) s).YJ o:=by
 obtain ⟨f,F,a,b⟩:=eR tm n n
 have h:(tm.m2 n n).rows.length=n:=by rw [f,OS,aax,ok.lm];lia
 unfold KQ Ord.Hd.YJ NY
 rw [h,F]
def dD.may (m:ap) (s:dD) (o:Nat):Nat:=Ord.setOf m.rows.length λ r=>o.testBit r && !s.c6.testBit r && decide ((gN s.failed r:Int)<m.fails r)
def dD.iY (m:ap) (s:dD) (b i:Nat):Nat:=if s.c6.testBit i=b.testBit i then gN s.i6 i - 1 else (m.fT i).toNat
def dD.jJ (s:dD) (b o i:Nat):Nat:=if o.testBit i then gN s.failed i+1 else if b.testBit i then 0 else gN s.failed i
def dD.js (m:ap) (s:dD) (b:Nat):Int:=min m.iO ((s.heap:Int) - m.oE b+m.load)
def dD.behind (m:ap) (s:dD) (b:bg) (o O:Nat):dD :=
 ⟨b,Ord.off o O,(List.range m.rows.length).map (s.iY m (Ord.off o O)),(List.range m.rows.length).map (s.jJ (Ord.off o O) O),(s.js m (Ord.off o O)).toNat⟩
section
variable (K:aC) (C:ai)
inductive uy (vs:aA) (H:Hp) (Q:VK) (_E:XK):Prop|mk (a fp m p s:_) (o:Nat) (_:vs=[.ref a,.ref p,aq o]) (_:aV K C H a fp m) (_:hG K H p s) (_:gW m s) (_:o &&& m.ws=o) (_:∀ H',aD H H'->Q (aq (s.may m o)) H')
inductive uh (vs:aA) (H:Hp) (Q:VK) (_E:XK):Prop|mk (a fp m p s:_) (b i:Nat) (_:vs=[.ref a,.ref p,aq b,aq i]) (_:aV K C H a fp m) (_:hG K H p s) (_:gW m s) (_:i<m.rows.length) (_:(s.c6.testBit i≠b.testBit i->m.has i=true)) (_:0<=m.fT i) (_:Q (aq (s.iY m b i)) H)
inductive qx (vs:aA) (H:Hp) (Q:VK) (_E:XK):Prop|mk (p s:_) (b out i:Nat) (_:vs=[.ref p,aq b,aq out,aq i]) (_:hG K H p s) (_:i<s.failed.length) (_:Q (aq (s.jJ b out i)) H)
inductive vH (vs:aA) (H:Hp) (Q:VK) (_E:XK):Prop|mk (a fp m p s:_) (o out:Nat) (_:vs=[.ref a,.ref p,aq o,aq out]) (_:aV K C H a fp m) (_:hG K H p s) (_:gW m s) (_:(∀ i,s.c6.testBit i≠(Ord.off o out).testBit i->m.has i=true)) (_:(∀ i,0<=m.fT i)) (_:0<=s.js m (Ord.off o out)) (_:∀ q pw pf H',aD H H'->H' q=some (.tup [aq (Ord.off o out),.ref pw,.ref pf,aq (s.js m (Ord.off o out)).toNat])->H' pw=some (.tup (((List.range m.rows.length).map (s.iY m (Ord.off o out))).map aq))->H' pf=some (.tup (((List.range m.rows.length).map (s.jJ (Ord.off o out) out)).map aq))->Q (.ref q) H')
end
def NK {m:ap} {s:dD} {o:Nat} (b:m.rows.length<=4) (ok:gW m s) (c:o &&& m.ws=o) :
   Bit.sumOf ((Bit.rooms (Ord.off o s.c6)).filter λ r=>decide ((gN s.failed r:Int)<m.fails r))=s.may m o:=by
 have B:o<16:=by rw [<- c];exact aaO acg (Dy b)
 have V:s.c6<16:=Ord.LO b ok.c6
 have M:o<2 ^ m.rows.length:=by rw [<- c];exact aaO acg (Ord.xO _ _)
 refine abk λ k=>?_
 rw [Bit.mm,dD.may,Ord.iI]
 rw [abu,aaS,aaW,Bit.fK,Ord.nU B V]
 simp only [aaq,aaS]
 constructor
 .
  rintro ⟨⟨Z,h,H⟩,a⟩
  refine ⟨?_,⟨h,H⟩,a⟩
  by_cases q:k<m.rows.length
  . exact q
  . rw [Bit.iL M (by lia)] at h;cases h
 . rintro ⟨d,⟨h,H⟩,a⟩
   exact ⟨⟨by lia,h,H⟩,a⟩
def Eo {m:ap} {o r:Nat} (H:o &&& m.ws=o) (h:o.testBit r=true):r<m.rows.length/\m.has r=true:=by
 rw [<- H,aa5,ap.ws,Ord.iI] at h
 simp only [aaq,aaS] at h
 exact h.2
def l8 {m:ap} {r:Nat} (h:m.has r=true):∃ z,m.vG r=some z:=abX.mp h
def zp {f:Nat->Nat} {n i:Nat} (h:i<n):gN ((List.range n).map f) i=f i:=by
 unfold gN
 rw [T1,acX h];rfl
structure ck (m:ap) (s:dD) (o out:Nat):Prop where
 h4:m.rows.length<=4
 ok:gW m s
 UQ:(NY m s).YJ o
 Bb:o<16
 wM:out<16
 sub:∀ r,out.testBit r=true->o.testBit r=true/\s.c6.testBit r=false/\(gN s.failed r:Int)<m.fails r
 wd0:∀ r,0<=m.wd r
 HQ:∀ r,0<=m.fT r
 Xl:0<=m.iO
 Qe:0<=m.load
section
variable {m:ap} {s:dD} {o out r:Nat}
def ck.bit (t:ck m s o out) (r:Nat):(Ord.off o out).testBit r=(o.testBit r && !out.testBit r):=Ord.nU t.Bb t.wM r
def ck.KM (t:ck m s o out) (h:o.testBit r=true):r<m.rows.length/\m.has r=true:=by
 have H:r<61:=by
   by_cases q:r<61
   . exact q
   . rw [Ord.JS t.Bb (by lia)] at h;cases h
 exact t.UQ.has r (Bit.fK.mpr ⟨H,h⟩)
def ck.LR (t:ck m s o out) (h:(Ord.off o out).testBit r=true):o.testBit r=true/\out.testBit r=false:=by
 rw [t.bit] at h
 simp only [aaq,aby] at h
 exact h
theorem ck.has (t:ck m s o out) (h:s.c6.testBit r≠(Ord.off o out).testBit r):m.has r=true:=by
 cases a:(Ord.off o out).testBit r with
 | true=>exact (t.KM (t.LR a).1).2
 | false =>
   rw [a] at h
   have H:s.c6.testBit r=true:=by cases q:s.c6.testBit r with|true=>rfl|false=>exact absurd q h
   have b:r<m.rows.length:=by
     by_cases q:r<m.rows.length
     . exact q
     . rw [Bit.iL t.ok.c6 (by lia)] at H;cases H
   have:=t.ok.jn r b
   unfold ap.has
   cases e:m.vG r with
   | some z=>rfl
   | none=>rw [e] at this;rw [this.1] at H;cases H
def ck.lit (t:ck m s o out) (h:out.testBit r=true):gN s.i6 r=0/\(Ord.off o out).testBit r=false:=by
 obtain ⟨H,a,d⟩:=t.sub r h
 have b:=(t.KM H).1
 constructor
 .
  by_cases w:gN s.i6 r=0
  . exact w
  . have c:s.wt r=true:=aaE (by lia)
    have e:o.testBit r=s.c6.testBit r:=t.UQ.fT r b c
    rw [H,a] at e;cases e
 . rw [t.bit,h];simp
def ck.fits (t:ck m s o out) (f:r<m.rows.length):tP (m.vG r) ((Ord.off o out).testBit r) (s.iY m (Ord.off o out) r) (s.jJ (Ord.off o out) out r):=by
 have O:=t.ok.jn r f
 have Y:=t.HQ r
 cases e:m.vG r with
 | none =>
   rw [e] at O
   obtain ⟨b,c,a⟩:=O
   have n:m.has r=false:=by unfold ap.has;rw [e];rfl
   have H:(Ord.off o out).testBit r=false:=by
     cases q:(Ord.off o out).testBit r with
     | false=>rfl
     | true=>rw [(t.KM (t.LR q).1).2] at n;cases n
   have h:out.testBit r=false:=by
     cases q:out.testBit r with
     | false=>rfl
     | true=>rw [(t.KM (t.sub r q).1).2] at n;cases n
   refine ⟨H,?_,?_⟩
   . unfold dD.iY
     rw [b,H,aan rfl,c]
   . unfold dD.jJ
     rw [h,H,a];rfl
 | some z =>
   rw [e] at O
   obtain ⟨b,c,a⟩:=O
   have d:m.fT r=z.2.2.1:=by unfold ap.fT;rw [e];rfl
   have E:m.fails r=z.2.2.2:=by unfold ap.fails;rw [e];rfl
   refine ⟨?_,?_,?_⟩
   . unfold dD.iY
     split
     . lia
     . rw [abd Y,d];exact abx _
   .
    unfold dD.jJ
    split
    . rename_i h
      have:=(t.sub r h).2.2
      rw [E] at this
      lia
    . split<;>lia
   .
    cases h:out.testBit r with
    | true =>
      obtain ⟨L,l⟩:=t.lit h
      refine .inr ⟨l,?_⟩
      unfold dD.iY
      rw [l,(t.sub r h).2.1,aan rfl,L]
    | false =>
      cases H:(Ord.off o out).testBit r with
      | true=>exact .inl (by unfold dD.jJ;rw [h,H];rfl)
      | false =>
        have X:s.jJ (Ord.off o out) out r=gN s.failed r:=by unfold dD.jJ;rw [h,H];rfl
        rw [X]
        rcases a with q|⟨Q,g⟩
        . exact .inl q
        . refine .inr ⟨rfl,?_⟩
          unfold dD.iY
          rw [Q,H,aan rfl,g]
def ck.less (t:ck m s o out):(Bit.rooms (Ord.off o out)).length<=(Bit.rooms o).length/\((Bit.rooms (Ord.off o out)).map m.wd).sum<=((Bit.rooms o).map m.wd).sum :=
 Ord.BU t.wd0 λ Z h=>(t.LR h).1
def ck.and (t:ck m s o out):Ord.off o out &&& m.ws=Ord.off o out:=by
 refine abk λ k=>?_
 rw [aa5,ap.ws,Ord.iI]
 cases e:(Ord.off o out).testBit k with
 | false=>rfl
 | true =>
   obtain ⟨a,b⟩:=t.KM (t.LR e).1
   rw [aaE a,b];rfl
theorem ck.oE (t:ck m s o out):m.oE (Ord.off o out)=((Bit.rooms (Ord.off o out)).map m.wd).sum:=by
 unfold ap.oE
 rw [t.and]
def ck.Lq (t:ck m s o out):((Bit.rooms (Ord.off o out)).map m.wd).sum<=(s.heap:Int):=by
 have:=t.less.2
 have q:((Bit.rooms o).map m.wd).sum<=(s.heap:Int):=t.UQ.oE
 lia
def ck.Gm (t:ck m s o out):0<=s.js m (Ord.off o out):=by
 have:=t.Lq
 have:=t.Xl
 have:=t.Qe
 unfold dD.js
 rw [t.oE]
 lia
def ck.lt (t:ck m s o out):Ord.off o out<2 ^ m.rows.length:=acx _ λ k h=>by
 cases e:(Ord.off o out).testBit k with
 | false=>rfl
 | true=>have:=(t.KM (t.LR e).1).1;lia
def ck.next (t:ck m s o out) {B:bg} (l:B.length=m.rows.length) (c:∀ i,i<m.rows.length->gN B i+1<(m.rows.getD i []).length):gW m (s.behind m B o out):=by
 have H:=t.Gm
 refine ⟨l,by simp [dD.behind],by simp [dD.behind],t.lt,?_,?_,c,λ i h=>?_⟩
 .
  have a:=t.less.1
  have b:((Bit.rooms o).length:Int)<=m.most:=t.UQ.most
  show ((Bit.rooms (Ord.off o out)).length:Int)<=m.most
  lia
 .
  show (((s.js m (Ord.off o out)).toNat:Nat):Int)<=m.iO
  rw [abd H]
  unfold dD.js
  lia
 . show tP (m.vG i) ((Ord.off o out).testBit i) (gN ((List.range m.rows.length).map (s.iY m (Ord.off o out))) i) (gN ((List.range m.rows.length).map (s.jJ (Ord.off o out) out)) i)
   rw [zp h,zp h]
   exact t.fits h
end
def Mr {n:Nat} (ok:tm.Ok n n) (r:Nat):0<=(tm.m2 n n).fT r/\0<=(tm.m2 n n).wd r/\(0<=(tm.m2 n n).fails r):=by
 unfold ap.fT ap.wd ap.fails
 by_cases h:r<n
 .
  rw [C7 ok h]
  have S:r<tm.aH.length:=by rw [ok.lt];exact h
  rw [ar S]
  cases e:tm.aH[r] with
  | none=>exact ⟨abx _,abx _,abx _⟩
  | some z =>
    have q:=ok.aH z (by rw [<- e];exact aag S)
    exact ⟨q.s.1,q.w.1,q.f.1⟩
 .
  have:(tm.m2 n n).vG r=none:=by
    unfold ap.vG
    rw [List.getElem?_eq_none (by rw [(jN ok n (aaf n)).2.2.2.2.1];lia)];rfl
  rw [this]
  exact ⟨abx _,abx _,abx _⟩
abbrev Pr:=ce×ce
def fM (D:List Pr):Int×Int:=D.foldl (λ s d=>(s.1 * (d.1.2 * d.2.2)+d.1.1 * d.2.1 * s.2,s.2 * (d.1.2 * d.2.2))) (0,1)
def nV (D:List Pr) (d:Pr):fM (D++[d])=((fM D).1 * (d.1.2 * d.2.2)+d.1.1 * d.2.1 * (fM D).2,(fM D).2 * (d.1.2 * d.2.2)):=by
 unfold fM
 rw [abe];rfl
structure C9 (n k:Nat) (d:Pr):Prop where
 a:dH n d.1
 b:dH k d.2
theorem CL (D:List Pr) (h:∀ d∈D,C9 900 900 d):∀ j,j<=D.length->Bd (1802 * j+2) (fM (D.take j)).1/\Bd (1800 * j+1) (fM (D.take j)).2/\0<(fM (D.take j)).2
 | 0,_=>⟨by show Int.natAbs 0<_;decide,by show Int.natAbs 1<_;decide,by show (0:Int)<1;decide⟩
 | j+1,f=>by
   obtain ⟨a,b,c⟩:=CL D h j (by lia)
   have H:=h D[j] (aag (by lia))
   have E:D.take (j+1)=D.take j++[D[j]]:=by rw [abK,ar (by lia)];rfl
   rw [E,nV]
   generalize D[j]=d at H
   generalize fM (D.take j)=s at a b c
   have B:Bd 1800 (d.1.2 * d.2.2):=(H.a.b.mul H.b.b).mono (by decide)
   have e:Bd 1800 (d.1.1 * d.2.1):=(H.a.t.mul H.b.t).mono (by decide)
   refine ⟨?_,(b.mul B).mono (by lia),aaZ c (aaZ H.a.p H.b.p)⟩
   have x:Bd (1802 * j+2+1800) (s.1 * (d.1.2 * d.2.2)):=a.mul B
   have X:Bd (1802 * j+2+1800) (d.1.1 * d.2.1 * s.2):=(e.mul b).mono (by lia)
   exact (x.add X).mono (by lia)
def DU {D:List Pr} (h:∀ d∈D,C9 900 900 d):0<(fM D).2:=by
 have:=(CL D h D.length (aaf _)).2.2
 rw [aa1] at this
 exact this
theorem sF {n:Nat}:∀ (E D:List Pr) {k:Nat},(∀ d∈E,Bd n (d.1.2 * d.2.2))->Bd k (fM D).2->Bd (k+n * E.length) (fM (D++E)).2
 | [],D,k,_,h=>by rw [abb];exact h.mono (by lia)
 | e::E,D,k,H,h=>by
   have a:D++e::E=(D++[e])++E:=by rw [adc];rfl
   rw [a]
   have b:Bd (k+n) (fM (D++[e])).2:=by
     rw [nV]
     exact h.mul (H e aaF)
   have:=sF E (D++[e]) (λ d c=>H d (aak _ c)) b
   refine this.mono ?_
   rw [aaD,Nat.mul_succ]
   lia
def Rh {t b t' b':Int} (H:0<b) (U:0<b') (h:t * b'=t' * b):nf t b=nf t' b':=by
 have F:=iB (t:=t) H
 have G:=iB (t:=t') U
 have c:(nf t b).1 * b=t * (nf t b).2:=F.jG
 have C:(nf t' b').1 * b'=t' * (nf t' b').2:=G.jG
 have p:=F.pos
 have a:=G.pos
 have k:=F.Uu
 have K:=G.Uu
 generalize nf t b=u at c p k |-
 generalize nf t' b'=v at C a K |-
 have e:u.1 * v.2=v.1 * u.2:=by
   have f:b * b'≠0:=abQ (aaZ H U)
   refine abm f ?_
   grind
 have d:u.2 ∣ v.2:=si (q:=u.1) ⟨v.1,by rw [e,abr]⟩ k
 have D:v.2 ∣ u.2:=si (q:=v.1) ⟨u.1,by rw [<- e,abr]⟩ K
 have E:u.2=v.2:=Int.dvd_antisymm (aaP p) (aaP a) d D
 rw [<- E] at e
 exact Prod.ext (abm (abQ p) e) E
abbrev G5 (d:Pr):PyData:=.tuple [dO d.1,dO d.2]
def su (d:Pr):d7 (G5 d)=true:=by simp [G5,dO,d7]
def tj (D:List Pr):∀ e∈D.map G5,d7 e=true:=λ e h=>by
 obtain ⟨d,Z,rfl⟩:=aat.mp h
 exact su d
inductive Na (K:aC) (vs:aA) (H:Hp) (Q:VK) (_E:XK):Prop|mk (p xs ds:_) (_:vs=[.ref p]) (_:bi K H p xs) (_:bX K H (ds.map G5) xs) (_:(∀ d∈ds,C9 900 900 d)) (_:ds.length<=10) (_:Bd 4000 (fM ds).2) (_:∀ q H',aD H H'->H' q=some (.tup [.int (nf (fM ds).1 (fM ds).2).1,.int (nf (fM ds).1 (fM ds).2).2])->Q (.ref q) H')
def dQ (m:ap) (i:Nat) (airs:List ce):List Pr:=(List.range airs.length).map λ j=>(m.share i j,airs.getD j (0,1))
def gw (m:ap) (i:Nat) (airs:List ce) (w:ce) (fired:Bool):List Pr:=dQ m i airs++[(m.fG i,w)]++(if fired then [((1,1),((m.aH[i]?).getD none).map (·.1) |>.getD (0,1))] else [])
def kF (m:ap) (i:Nat) (airs:List ce) (w:ce) (fired:Bool):ce:=nf (fM (gw m i airs w fired)).1 (fM (gw m i airs w fired)).2
inductive Ev (K:aC) (C:ai) (vs:aA) (H:Hp) (Q:VK) (_E:XK):Prop|mk (a fp m:_) (i:Nat) (pa RB airs wv w fired:_) (_:vs=[.ref a,aq i,.ref pa,wv,.bl fired]) (_:aV K C H a fp m) (_:i<m.rows.length) (_:bi K H pa RB) (_:bX K H (airs.map dO) RB) (_:airs.length=m.rows.length) (_:(∀ f∈airs,dH 120 f)) (_:Dn K H (dO w) wv) (_:dH 120 w) (_:(fired=true->∃ z,m.aH[i]?=some (some z))) (_:∀ q H',aD H H'->H' q=some (.tup [.int (kF m i airs w fired).1,.int (kF m i airs w fired).2])->Q (.ref q) H')
def HK {m:ap} (w:m.Wf) (h:m.rows.length<=4) (i j:Nat):dH 605 (m.share i j):=by
 unfold ap.share
 split
 . exact (w.gD i _).mono (by lia)
 . exact (w.fV i j).mono (by decide)
def qY {m:ap} {i:Nat} {airs:List ce} {w:ce} {fired:Bool} (W:m.Wf) (o:m.rows.length<=4) (L:airs.length=m.rows.length) (p:∀ f∈airs,dH 120 f) (hw:dH 120 w) (q:fired=true->∃ z,m.aH[i]?=some (some z)) :
   (∀ d∈gw m i airs w fired,C9 900 900 d)/\(gw m i airs w fired).length<=10/\Bd 4000 (fM (gw m i airs w fired)).2:=by
 have r:∀ d∈dQ m i airs,C9 605 120 d:=λ d H=>by
   obtain ⟨j,c,rfl⟩:=aat.mp H
   have c:=aaH.mp c
   refine ⟨HK W o i j,?_⟩
   show dH 120 (airs.getD j (0,1))
   rw [BO,ar c]
   exact p _ (aag c)
 have t:(dQ m i airs).length<=4:=by unfold dQ;rw [OS,aaw];lia
 have s:C9 100 120 (m.fG i,w):=⟨W.fG i,hw⟩
 have l:Bd 1 (fM []).2:=by show Int.natAbs 1<2 ^ 1;decide
 have g:Bd (1+725 * (dQ m i airs).length) (fM (dQ m i airs)).2:=sF (n:=725) (dQ m i airs) [] (λ d H=>(r d H).a.b.mul (r d H).b.b) l
 have B:Bd (2901+220 * 1) (fM (dQ m i airs++[(m.fG i,w)])).2:=sF (n:=220) [(m.fG i,w)] (dQ m i airs) (λ d H=>by rw [aai.mp H];exact s.a.b.mul s.b.b) (g.mono (by lia))
 unfold gw
 cases fired with
 | false =>
   rw [aam aah,abb]
   refine ⟨λ d H=>?_,by rw [aad];simp only [aaD,ab3];lia,B.mono (by decide)⟩
   rcases aaR.mp H with h|h
   . exact ⟨(r d h).a.mono (by decide),(r d h).b.mono (by decide)⟩
   . rw [aai.mp h];exact ⟨s.a.mono (by decide),s.b.mono (by decide)⟩
 | true =>
   obtain ⟨z,e⟩:=q rfl
   rw [aan rfl,e]
   have O:dH 100 z.1:=W.aH z (aaz e)
   have S:C9 2 100 (((1,1),z.1):Pr):=⟨⟨by show Int.natAbs 1<2 ^ 2;decide,by show Int.natAbs 1<2 ^ 2;decide,by show (0:Int)<1;decide⟩,O⟩
   have k:Bd (3121+102 * 1) (fM ((dQ m i airs++[(m.fG i,w)])++[((1,1),z.1)])).2:=sF (n:=102) [((1,1),z.1)] _ (λ d H=>by rw [aai.mp H];exact S.a.b.mul S.b.b) B
   refine ⟨λ d H=>?_,by rw [aad,aad];simp only [aaD,ab3];lia,k.mono (by decide)⟩
   rcases aaR.mp H with h|h
   . rcases aaR.mp h with h|h
     . exact ⟨(r d h).a.mono (by decide),(r d h).b.mono (by decide)⟩
     . rw [aai.mp h];exact ⟨s.a.mono (by decide),s.b.mono (by decide)⟩
   . rw [aai.mp h];exact ⟨S.a.mono (by decide),S.b.mono (by decide)⟩
def Nn (W C:Int) (s:Int×Int):Prop:=s.1 * W=C * s.2
def Nn.next {W C c:Int} {D:List Pr} {d:Pr} (h:Nn W C (fM D)) (H:d.1.1 * d.2.1 * W=c * (d.1.2 * d.2.2)):Nn W (C+c) (fM (D++[d])):=by
 unfold Nn at *
 rw [nV]
 generalize fM D=s at h
 generalize d.1.2 * d.2.2=B at H
 generalize d.1.1 * d.2.1=A at H
 show (s.1 * B+A * s.2) * W=(C+c) * (s.2 * B)
 grind
def bI (f:Nat->Int):Nat->Int
 | 0=>0
 | t+1=>bI f t+f t
theorem tW {f g:Nat->Int}:∀ n,(∀ j,j<n->f j=g j)->bI f n=bI g n
 | 0,_=>rfl
 | n+1,h=>by
   show bI f n+f n=bI g n+g n
   rw [tW n λ j H=>h j (by lia),h n (by lia)]
theorem zM {f:Nat->Int} {a b:Int} {k:Nat->Int}:∀ n,bI (λ j=>k j * (f j * a+b)) n=bI (λ j=>k j * f j) n * a+bI k n * b
 | 0=>by show (0:Int)=0 * a+0 * b;lia
 | n+1=>by
   show bI (λ j=>k j * (f j * a+b)) n+k n * (f n * a+b)=(bI (λ j=>k j * f j) n+k n * f n) * a+(bI k n+k n) * b
   rw [zM n]
   grind
theorem Ay {fl x:Nat->Int} {i:Nat}:∀ n,bI (λ j=>(if j=i then R else fl j) * x j) n=bI (λ j=>if j=i then 0 else fl j * x j) n+(if i<n then R * x i else 0)
 | 0=>by rw [aam (by lia)];rfl
 | n+1=>by
   show bI (λ j=>(if j=i then R else fl j) * x j) n+(if n=i then R else fl n) * x n=bI (λ j=>if j=i then 0 else fl j * x j) n+(if n=i then 0 else fl n * x n)+(if i<n+1 then R * x i else 0)
   rw [Ay n]
   by_cases e:n=i
   . subst e
     rw [aan rfl,aan rfl,aam (by lia),aan (by lia)]
     skip
   . rw [aam e,aam e]
     by_cases l:i<n
     . rw [aan l,aan (by lia)];lia
     . rw [aam l,aam (by lia)];lia
theorem Bx {fl:Nat->Int} {i:Nat} (h:fl i=0):∀ n,bI (λ j=>if j=i then R else fl j) n=bI fl n+(if i<n then R else 0)
 | 0=>by rw [aam (by lia)];rfl
 | n+1=>by
   show bI (λ j=>if j=i then R else fl j) n+(if n=i then R else fl n)=bI fl n+fl n+_
   rw [Bx h n]
   by_cases e:n=i
   . subst e
     rw [aan rfl,aam (by lia),aan (by lia),h]
   . rw [aam e]
     by_cases l:i<n
     . rw [aan l,aan (by lia)];lia
     . rw [aam l,aam (by lia)];lia
def av.iE (tm:av) (i:Nat):Int:=((tm.dI[i]?).map (·.1)).getD 0
def av.eW (tm:av) (i j:Nat):Int:=if i=j then 0 else (tm.bH i j).getD 0
def Ki {n:Nat} (ok:tm.Ok n n) (i:Nat) (h:i<n):Ov 12 (tm.iE i) ((tm.m2 n n).fG i)/\(∀ j,j<n->j≠i->Ov 12 (tm.eW i j) ((tm.m2 n n).fV i j))/\Ov 12 (12 - tm.iE i - bI (tm.eW i) n) ((tm.m2 n n).own i):=by
 obtain ⟨g,p,q,r,s,G,l⟩:=jN ok n (aaf n)
 have z:i<tm.dI.length:=by rw [ok.ls];exact h
 have E:(tm.m2 n n).fG i=nf tm.dI[i].1 12:=by unfold ap.fG;rw [g i h,ar z];rfl
 have f:tm.iE i=tm.dI[i].1:=by unfold av.iE;rw [ar z];rfl
 have d:Ov 12 (tm.iE i) ((tm.m2 n n).fG i):=by rw [E,f];exact Ov.nf (by decide)
 have b:∀ j,j<n->j≠i->Ov 12 (tm.eW i j) ((tm.m2 n n).fV i j):=λ j c O=>by
   obtain ⟨K,m,Z⟩:=ok.bH i j h c (abA O)
   unfold ap.fV av.eW
   rw [G i j h c (abA O),m,aam (abA O)]
   exact Ov.nf (by decide)
 have a:Ov 12 (tm.eW i i) ((tm.m2 n n).fV i i):=by
   unfold ap.fV av.eW
   rw [l i,aan rfl]
   exact sK
 have o:(tm.m2 n n).rows.length=n:=by rw [(eR tm n n).1,OS,aax,ok.lm];lia
 have k:∀ t,t<=n->Ov 12 (12 - tm.iE i - bI (tm.eW i) t) ((tm.m2 n n).gD i t):=by
   intro t
   induction t with
   | zero =>
     intro Z
     have:=(GY (W:=12)).minus d
     have e:12 - tm.iE i - bI (tm.eW i) 0=12 - tm.iE i:=by show 12 - tm.iE i - 0=_;lia
     rw [e]
     exact this
   | succ t I =>
     intro u
     rw [ap.kA]
     have H:Ov 12 (tm.eW i t) ((tm.m2 n n).fV i t):=by
       by_cases e:t=i
       . subst e;exact a
       . exact b t (by lia) e
     have:=(I (by lia)).minus H
     have e:12 - tm.iE i - bI (tm.eW i) (t+1)=12 - tm.iE i - bI (tm.eW i) t - tm.eW i t:=by show 12 - tm.iE i - (bI (tm.eW i) t+tm.eW i t)=_;lia
     rw [e]
     exact this
 refine ⟨d,b,?_⟩
 unfold ap.own
 rw [o]
 exact k n (aaf _)
def LK {k W T:Int} {f g:ce} (h:Ov 12 k f) (H:g.1 * B=T * g.2) (e:W=12 * B):f.1 * g.1 * W=(k * T) * (f.2 * g.2):=by
 have:=h.1
 subst e
 grind
def E7 {n i:Nat} {parts:Int} {x:Nat->Int} {h:Int} {airs:List ce} {fired:Bool} (wf:(tm.m2 n n).Wf) (ok:tm.Ok n n) (n4:n<=4) (H:i<n) (S:0<parts) (V:airs.length=n) (J:∀ j,j<n->airs.getD j (0,1)=aT (x j) parts tm.scale) (X:∀ f∈airs,dH 120 f) (ow:dH 120 (aT xw parts tm.scale)) (s:fired=true->∃ z,tm.aH[i]?=some (some z)/\z.1=h) :
   kF (tm.m2 n n) i airs (aT xw parts tm.scale) fired=aT (bI (λ j=>(if j=i then 12 - tm.iE i - bI (tm.eW i) n else tm.eW i j) * x j) n+tm.iE i * xw+(if fired then 12 * parts * h else 0)) (12 * parts) tm.scale:=by
 obtain ⟨T,L,N⟩:=Ki ok i H
 have hl:(tm.m2 n n).rows.length=n:=by rw [(eR tm n n).1,OS,aax,ok.lm];lia
 obtain ⟨g1,g2,G,g4,g5,g6,g7⟩:=jN ok n (aaf n)
 have D:=dR ok.scale S
 have l:cg (12 * parts) tm.scale=12 * cg parts tm.scale:=by unfold cg;grind
 have Y:∀ j,j<n->Ov 12 (if j=i then 12 - tm.iE i - bI (tm.eW i) n else tm.eW i j) ((tm.m2 n n).share i j):=λ j M=>by
   unfold ap.share
   by_cases e:i=j
   . subst e;rw [aan rfl,aan rfl];exact N
   . rw [aam e,aam (abA e)];exact L j M (abA e)
 have C:∀ z,(aT z parts tm.scale).1 * cg parts tm.scale=cB z parts tm.scale * (aT z parts tm.scale).2:=λ z=>(iB (t:=cB z parts tm.scale) D).jG
 have rooms:∀ t,t<=n->Nn (cg (12 * parts) tm.scale) (bI (λ j=>(if j=i then 12 - tm.iE i - bI (tm.eW i) n else tm.eW i j) * cB (x j) parts tm.scale) t) (fM ((List.range t).map λ j=>(((tm.m2 n n).share i j,airs.getD j (0,1)):Pr))):=by
   intro t
   induction t with
   | zero=>intro Z;show (0:Int) * _=0 * 1;lia
   | succ t U =>
     intro ht
     rw [aaU,aab]
     refine (U (by lia)).next ?_
     show ((tm.m2 n n).share i t).1 * (airs.getD t (0,1)).1 * _=_ * (((tm.m2 n n).share i t).2 * (airs.getD t (0,1)).2)
     rw [J t (by lia)]
     exact LK (Y t (by lia)) (C _) l
 have R:=rooms n (aaf _)
 have B:dQ (tm.m2 n n) i airs=(List.range n).map λ j=>(((tm.m2 n n).share i j,airs.getD j (0,1)):Pr):=by unfold dQ;rw [V]
 rw [<- B] at R
 have r:Nn (cg (12 * parts) tm.scale) _ (fM (dQ (tm.m2 n n) i airs++[((tm.m2 n n).fG i,aT xw parts tm.scale)])):=R.next (LK T (C xw) l)
 have Q:bI (λ j=>(if j=i then 12 - tm.iE i - bI (tm.eW i) n else tm.eW i j) * cB (x j) parts tm.scale) n+tm.iE i * cB xw parts tm.scale
     = (bI (λ j=>(if j=i then 12 - tm.iE i - bI (tm.eW i) n else tm.eW i j) * x j) n+tm.iE i * xw) * (tm.scale.a * tm.scale.d)+12 * (parts * tm.scale.t * tm.scale.b):=by
   have y:bI (λ j=>(if j=i then 12 - tm.iE i - bI (tm.eW i) n else tm.eW i j) * cB (x j) parts tm.scale) n=bI (λ j=>(if j=i then 12 - tm.iE i - bI (tm.eW i) n else tm.eW i j) * (x j * (tm.scale.a * tm.scale.d)+parts * tm.scale.t * tm.scale.b)) n:=tW n λ j Z=>by unfold cB;rw [abc (x j)]
   have z0:tm.eW i i=0:=by unfold av.eW;rw [aan rfl]
   rw [y,zM,Bx z0,aan H]
   unfold cB
   grind
 have p:fired=true->∃ z,(tm.m2 n n).aH[i]?=some (some z):=λ q=>by
   obtain ⟨z,k,Z⟩:=s q
   exact ⟨tm.ju z,by rw [G i H,k];rfl⟩
 have W:=(qY (i:=i) (fired:=fired) (w:=aT xw parts tm.scale) (airs:=airs) (m:=tm.m2 n n) wf (by lia) (by lia) X ow p).1
 have O:=DU W
 have o:0<cg (12 * parts) tm.scale:=by rw [l];lia
 have F:Nn (cg (12 * parts) tm.scale) (cB (bI (λ j=>(if j=i then 12 - tm.iE i - bI (tm.eW i) n else tm.eW i j) * x j) n+tm.iE i * xw+(if fired then 12 * parts * h else 0)) (12 * parts) tm.scale) (fM (gw (tm.m2 n n) i airs (aT xw parts tm.scale) fired)):=by
   unfold gw
   cases fired with
   | false =>
     simp only [ab5,acm,abb,ab0]
     rw [Q] at r
     have E:cB (bI (λ j=>(if j=i then 12 - tm.iE i - bI (tm.eW i) n else tm.eW i j) * x j) n+tm.iE i * xw) (12 * parts) tm.scale=(bI (λ j=>(if j=i then 12 - tm.iE i - bI (tm.eW i) n else tm.eW i j) * x j) n+tm.iE i * xw) * (tm.scale.a * tm.scale.d)+12 * (parts * tm.scale.t * tm.scale.b):=by
       unfold cB;grind
     rw [E]
     exact r
   | true =>
     obtain ⟨z,k,A⟩:=s rfl
     have I:(tm.m2 n n).aH[i]?=some (some (tm.ju z)):=by rw [G i H,k];rfl
     simp only [ab2]
     rw [I]
     have K:0<tm.scale.b:=by have:=ok.scale.b0;lia
     have v:(nf (z.1 * tm.scale.a) tm.scale.b).1 * tm.scale.b=z.1 * tm.scale.a * (nf (z.1 * tm.scale.a) tm.scale.b).2:=(iB (t:=z.1 * tm.scale.a) K).jG
     have u:=r.next (d:=((1,1),nf (z.1 * tm.scale.a) tm.scale.b)) (c:=12 * parts * h * (tm.scale.a * tm.scale.d)) (by
       show 1 * (nf (z.1 * tm.scale.a) tm.scale.b).1 * cg (12 * parts) tm.scale=_ * (1 * (nf (z.1 * tm.scale.a) tm.scale.b).2)
       generalize nf (z.1 * tm.scale.a) tm.scale.b=g at v
       unfold cg
       rw [<- A]
       grind)
     rw [Q] at u
     have E:cB (bI (λ j=>(if j=i then 12 - tm.iE i - bI (tm.eW i) n else tm.eW i j) * x j) n+tm.iE i * xw+12 * parts * h) (12 * parts) tm.scale=(bI (λ j=>(if j=i then 12 - tm.iE i - bI (tm.eW i) n else tm.eW i j) * x j) n+tm.iE i * xw) * (tm.scale.a * tm.scale.d)+12 * (parts * tm.scale.t * tm.scale.b)+12 * parts * h * (tm.scale.a * tm.scale.d):=by
       unfold cB;grind
     rw [E]
     exact u
 unfold kF
 rw [aT]
 exact Rh O o F
section
variable {X:Cx}
def WD (K:aC) (t:TA):TI:=λ U H R=>t U H λ v h=>∃ a,v=[.ref a]/\(((∃ x,bi K h a x)/\R (FZ (bi K) a) h)\/((∃ x,bR K h a x)/\R (FZ (bR K) a) h))
def HE {a:Expr} {t:TA} {p g A:Pos} {E:List Expr} {J:Nat} (w:Gl X "enumerate") (x:X.mg "enumerate" = none) (v:PA X [a] t) (y:starEach [a] X.env=[(false,eval a X.env)]:=by rfl) :
   PI X (.Tuple E J A) (.Call (.Name "enumerate" p) [a] [] g) (WD X.K t):=by
 intro f s U H R I h
 refine Call_ ?_
 refine lS I w x j4 ?_ OE NR
 refine abg ?_ y rfl
 refine cV (v g f s U H _ I h) λ M S ⟨V,n,i,C,Q⟩=>?_
 obtain ⟨a,e,q⟩:=Q
 subst e
 cases C with
 | cons r D =>
   cases D
   obtain rfl:_=Value.ref a:=r
   have F:∀ c∈[S.heap.objs.size+1,S.heap.objs.size],S.heap.objs.size<=c:=λ c b=>by
     simp only [aaa,aae,aa2] at b
     rcases b with rfl|rfl
     . exact abO _
     . exact aaf _
   rcases q with ⟨⟨L,j⟩,q⟩|⟨⟨L,j⟩,q⟩
   . obtain ⟨B,G,d,o⟩:=i.list j
     have l:a<S.heap.objs.size:=by obtain ⟨Z,e,Z⟩:=d.isList;exact aao e
     refine call_enumerate_list d.isList λ u z m N k=>abW z ?_
     exact ⟨S.heap.objs.size+1,[S.heap.objs.size+1,S.heap.objs.size],_,_,n,rfl,i.kept (t':=S.toks) k,AL (acI _) (aaB (ab8 l)) (aaB l),⟨⟨_,z⟩,m⟩,λ c b=>i.zi (F c b) (i.cA.fresh (F c b)),q⟩
   . obtain ⟨B,G,d,o⟩:=i.tuple j
     have l:a<S.heap.objs.size:=d.lt
     refine tI d λ u z m k=>abW z ?_
     exact ⟨S.heap.objs.size+1,[S.heap.objs.size+1,S.heap.objs.size],_,_,n,rfl,i.kept (t':=S.toks) k,AU (acI _) (aaB (ab8 l)) (aaB l),⟨⟨_,z⟩,m⟩,λ c b=>i.zi (F c b) (i.cA.fresh (F c b)),q⟩
end
def gy (m:ap) (bs:bg) (d:Nat):List ce:=(List.range bs.length).map λ j=>(m.rows.getD j []).getD (bs.getD j 0+d) (0,1)
def ma (m:ap) (i:Nat):ce×ce×ce:=(m.bC[i]?).getD ((0,1),(0,1),(0,1))
def eI (m:ap) (i:Nat) (bs:bg) (fired:Bool):ce:=kF m i (gy m bs 0) (ma m i).2.1 fired
def eE (m:ap) (i:Nat) (bs:bg) (fired:Bool):ce:=kF m i (gy m bs 1) (ma m i).2.2 fired
inductive JE (K:aC) (C:ai) (vs:aA) (H:Hp) (Q:VK) (_E:XK):Prop|mk (a fp m:_) (i:Nat) (pb bs fired:_) (_:vs=[.ref a,aq i,.ref pb,.bl fired]) (_:aV K C H a fp m) (_:i<m.rows.length) (_:(bi K H pb (bs.map aq)\/bR K H pb (bs.map aq))) (_:bs.length=m.rows.length) (_:(∀ j,j<m.rows.length->bs.getD j 0+1<(m.rows.getD j []).length)) (_:(fired=true->∃ z,m.aH[i]?=some (some z))) (_:∀ q q1 q2 H',aD H H'->H' q=some (.tup [.ref q1,.ref q2])->H' q1=some (.tup [.int (eI m i bs fired).1,.int (eI m i bs fired).2])->H' q2=some (.tup [.int (eE m i bs fired).1,.int (eE m i bs fired).2])->Q (.ref q) H')
def oR {m:ap} {bs:bg} (w:m.Wf) (L:bs.length=m.rows.length) (a:∀ j,j<m.rows.length->bs.getD j 0+1<(m.rows.getD j []).length) {d:Nat} (c:d<=1):∀ f∈gy m bs d,dH 120 f:=λ f b=>by
 obtain ⟨j,h,rfl⟩:=aat.mp b
 have h:=aaH.mp h
 have q:=a j (by lia)
 have H:j<m.rows.length:=by lia
 rw [BO (l:=m.rows),ar H] at q |-
 have q:bs.getD j 0+1<m.rows[j].length:=q
 show dH 120 (m.rows[j].getD (bs.getD j 0+d) (0,1))
 rw [BO,ar (by lia)]
 exact (w.rows m.rows[j] (aag H) _ (aag _)).mono (by decide)
def av.kT (tm:av) (n i j:Nat):Int:=if j=i then 12 - tm.iE i - bI (tm.eW i) n else tm.eW i j
def BL {n i:Nat} (ok:tm.Ok n n) (h:i<n):0<=tm.iE i/\tm.iE i<=3:=by
 have z:i<tm.dI.length:=by rw [ok.ls];exact h
 unfold av.iE
 rw [ar z]
 exact (ok.dI tm.dI[i] (aag z)).1
def BR {n i j:Nat} (ok:tm.Ok n n) (a:i<n) (b:j<n):0<=tm.eW i j/\tm.eW i j<=3:=by
 unfold av.eW
 by_cases e:i=j
 . rw [aan e];lia
 . obtain ⟨k,c,h,H⟩:=ok.bH i j a b e
   rw [aam e,c]
   exact ⟨h,H⟩
theorem GW {n i:Nat} (ok:tm.Ok n n) (h:i<n):∀ t,t<=n->0<=bI (tm.eW i) t/\bI (tm.eW i) t<=3 * t
 | 0,_=>by show (0:Int)<=0/\(0:Int)<=_;lia
 | t+1,H=>by
   have a:=GW ok h t (by lia)
   have b:=BR (j:=t) ok h (by lia)
   show 0<=bI (tm.eW i) t+tm.eW i t/\bI (tm.eW i) t+tm.eW i t<=_
   lia
def Hj {n i:Nat} (ok:tm.Ok n n) (N:n<=4) (H:i<n):bI (tm.eW i) n<=9:=by
 have h:∀ j,j<n->0<=tm.eW i j/\tm.eW i j<=3:=λ j d=>BR ok H d
 have c:tm.eW i i=0:=by unfold av.eW;rw [aan rfl]
 have s:∀ t,t<=n->bI (tm.eW i) t+(if i<t then 3 else 0)<=3 * t:=by
   intro t
   induction t with
   | zero=>intro Z;show (0:Int)+(if i<0 then 3 else 0)<=_;rw [aam (by lia)];lia
   | succ t I =>
     intro f
     have a:=I (by lia)
     have b:=h t (by lia)
     show bI (tm.eW i) t+tm.eW i t+(if i<t+1 then 3 else 0)<=_
     by_cases e:t=i
     . subst e
       rw [aam (by lia)] at a
       rw [aan (by lia),c]
       lia
     . by_cases l:i<t
       . rw [aan l] at a;rw [aan (by lia)];lia
       . rw [aam l] at a;rw [aam (by lia)];lia
 have:=s n (aaf _)
 rw [aan H] at this
 lia
def EC {n i j:Nat} (ok:tm.Ok n n) (N:n<=4) (h:i<n) (H:j<n):0<=tm.kT n i j:=by
 unfold av.kT
 have a:=BL ok h
 have b:=Hj ok N h
 have c:=BR (j:=j) ok h H
 split<;>lia
def av.X (tm:av) (n i:Nat) (x:Nat->Int) (xw:Int):Int:=bI (λ j=>tm.kT n i j * x j) n+tm.iE i * xw
theorem wH {k x y:Nat->Int}:∀ n,(∀ j,j<n->0<=k j/\x j<=y j)->bI (λ j=>k j * x j) n<=bI (λ j=>k j * y j) n
 | 0,_=>abx _
 | n+1,h=>by
   have a:=wH n λ j H=>h j (by lia)
   have b:=h n (by lia)
   have c:=aay b.2 b.1
   show bI (λ j=>k j * x j) n+k n * x n<=bI (λ j=>k j * y j) n+k n * y n
   lia
def Cd {n i:Nat} {x y:Nat->Int} {yw:Int} (ok:tm.Ok n n) (N:n<=4) (H:i<n) (h:∀ j,j<n->x j<=y j) (hw:xw<=yw):tm.X n i x xw<=tm.X n i y yw:=by
 have a:=wH (k:=tm.kT n i) (x:=x) (y:=y) n λ j c=>⟨EC ok N H c,h j c⟩
 have b:=aay hw (BL ok H).1
 unfold av.X
 lia
def av.rE (tm:av) (j b:Nat):Int:=(tm.marks.getD j []).getD b 0
def av.xl (tm:av) (bs:bg) (d j:Nat):Int:=tm.rE j (bs.getD j 0+d)
def av.ni (tm:av) (i:Nat):Int×Int×Int:=(tm.dI[i]?).getD (0,0,0)
def av.zc (tm:av) (i:Nat):Int:=(((tm.aH[i]?).getD none).map (·.1)).getD 0
def av.sX (tm:av) (n i:Nat) (bs:bg) (d:Nat) (xw:Int) (fired:Bool):Int:=tm.X n i (tm.xl bs d) xw+(if fired then 12 * tm.zc i else 0)
structure mC (tm:av) (n:Nat) (bs:bg):Prop where
 len:bs.length=n
 lt:∀ j,j<n->bs.getD j 0+1<(tm.marks.getD j []).length
def j1 {n j b:Nat} (ok:tm.Ok n n) (a:j<n) (H:b<(tm.marks.getD j []).length):∃ h:j<tm.marks.length,∃ c:b<tm.marks[j].length,tm.rE j b=tm.marks[j][b]/\-200<=tm.rE j b/\tm.rE j b<=200:=by
 have h:j<tm.marks.length:=by rw [ok.lm];exact a
 have e:tm.marks.getD j []=tm.marks[j]:=by rw [BO,ar h];rfl
 rw [e] at H
 have E:tm.rE j b=tm.marks[j][b]:=by unfold av.rE;rw [e,BO,ar H];rfl
 refine ⟨h,H,E,?_⟩
 rw [E]
 exact (ok.rows tm.marks[j] (aag h)).bd _ (aag H)
def wu {n i d:Nat} {bs:bg} {fired:Bool} (w:(tm.m2 n n).Wf) (ok:tm.Ok n n) (N:n<=4) (f:i<n) (a:mC tm n bs) (o:d<=1) (u : -200<=xw/\xw<=200) (s:fired=true->∃ z,tm.aH[i]?=some (some z)) :
   kF (tm.m2 n n) i (gy (tm.m2 n n) bs d) (aT xw 1 tm.scale) fired=aT (tm.sX n i bs d xw fired) 12 tm.scale:=by
 have p:(tm.m2 n n).rows.length=n:=by rw [(eR tm n n).1,OS,aax,ok.lm];lia
 have r:∀ j,j<n->(tm.m2 n n).rows.getD j []=tm.row (tm.marks.getD j []):=λ j H=>by
   have X:j<tm.marks.length:=by rw [ok.lm];exact H
   rw [(eR tm n n).1,BO,T1,abY H,BO,ar X];rfl
 have g:∀ j,j<n->bs.getD j 0+1<((tm.m2 n n).rows.getD j []).length:=λ j H=>by
   rw [r j H];unfold av.row;rw [OS];exact a.lt j H
 have k:∀ j,j<n->(gy (tm.m2 n n) bs d).getD j (0,1)=aT (tm.xl bs d j) 1 tm.scale:=λ j H=>by
   have M:=a.lt j H
   unfold gy
   rw [BO,T1,acX (by rw [a.len];exact H)]
   show ((tm.m2 n n).rows.getD j []).getD (bs.getD j 0+d) (0,1)=_
   rw [r j H]
   unfold av.row av.xl av.rE
   generalize tm.marks.getD j []=l at M
   have c:bs.getD j 0+d<l.length:=by lia
   generalize bs.getD j 0+d=b at c
   rw [BO,BO,T1,ar c];rfl
 have O:=oR (m:=tm.m2 n n) (bs:=bs) w (by rw [a.len,p]) (λ j H=>g j (by lia)) o
 have t:dH 120 (aT xw 1 tm.scale):=(oF (n:=8) ok.scale (by decide) (show xw.natAbs<2 ^ 8 by lia) mE).mono (by decide)
 have S:i<tm.aH.length:=by rw [ok.lt];exact f
 have:=E7 (h:=tm.zc i) (x:=tm.xl bs d) w ok N f (by decide:(0:Int)<1) (by unfold gy;rw [OS,aaw,a.len]) k O t (λ q=>by
   obtain ⟨z,E⟩:=s q
   refine ⟨z,E,?_⟩
   unfold av.zc
   rw [E];rfl)
 rw [this]
 have e:(12:Int) * 1=12:=rfl
 rw [e]
 rfl
theorem Ik {k:Nat->Int} {c:Int}:∀ n,bI (λ j=>k j * c) n=bI k n * c
 | 0=>by show (0:Int)=0 * c;lia
 | n+1=>by
   show bI (λ j=>k j * c) n+k n * c=(bI k n+k n) * c
   rw [Ik n];grind
def KP {n i:Nat} {c:Int} (h:i<n):tm.X n i (λ Z=>c) c=12 * c:=by
 unfold av.X
 have z:tm.eW i i=0:=by unfold av.eW;rw [aan rfl]
 have e:bI (λ j=>tm.kT n i j * c) n=bI (tm.kT n i) n * c:=Ik n
 have E:bI (tm.kT n i) n=bI (tm.eW i) n+(12 - tm.iE i - bI (tm.eW i) n):=by
   have:=Bx (fl:=tm.eW i) (R:=12 - tm.iE i - bI (tm.eW i) n) (i:=i) z n
   rw [aan h] at this
   exact this
 rw [e,E]
 grind
def Xi {n i:Nat} {x:Nat->Int} {c:Int} (ok:tm.Ok n n) (N:n<=4) (H:i<n) (h:∀ j,j<n->-c<=x j/\x j<=c) (hw : -c<=xw/\xw<=c) : -(12 * c)<=tm.X n i x xw/\tm.X n i x xw<=12 * c:=by
 have a:=Cd (x:=λ Z => -c) (y:=x) (xw:=-c) ok N H (λ j d=>(h j d).1) hw.1
 have b:=Cd (x:=x) (y:=λ Z=>c) (yw:=c) ok N H (λ j d=>(h j d).2) hw.2
 rw [KP H] at a b
 lia
def JZ {n i:Nat} (ok:tm.Ok n n) (H:i<n):0<=tm.zc i/\tm.zc i<=25:=by
 have s:i<tm.aH.length:=by rw [ok.lt];exact H
 unfold av.zc
 rw [ar s]
 cases e:tm.aH[i] with
 | none=>show (0:Int)<=0/\(0:Int)<=25;lia
 | some z=>exact (ok.aH z (by rw [<- e];exact aag s)).h
def Re {n d j:Nat} {bs:bg} (ok:tm.Ok n n) (H:mC tm n bs) (c:d<=1) (h:j<n) : -200<=tm.xl bs d j/\tm.xl bs d j<=200:=by
 obtain ⟨Z,Z,Z,a,b⟩:=j1 (b:=bs.getD j 0+d) ok h (by have:=H.lt j h;lia)
 exact ⟨a,b⟩
def LM {n i d:Nat} {bs:bg} {fired:Bool} (ok:tm.Ok n n) (N:n<=4) (h:i<n) (H:mC tm n bs) (e:d<=1) (hw : -200<=xw/\xw<=200) : -3000<=tm.sX n i bs d xw fired/\tm.sX n i bs d xw fired<=3000:=by
 have a:=Xi (x:=tm.xl bs d) (c:=200) ok N h (λ j f=>Re ok H e f) hw
 have b:=JZ ok h
 unfold av.sX
 split<;>lia
def c9 {a:TS} {U:L2.St} (h:let d:L2.Ends:=D;let z:L2.St:=U;let R:TS:=a3;let r:TS:=aS a2 R;aS a r d z H):(aS a (aS a2 (a3))) D U H:=h
def eU {a:TS} {U:L2.St} (h:let d:L2.Ends:=D;let z:L2.St:=U;let b:TS:=a4;let R:TS:=aS a3 b;let r:TS:=aS a2 R;aS a r d z H):(aS a (aS a2 (aS a3 (a4)))) D U H:=h
def lN {a:TS} {U:L2.St} (h:let d:L2.Ends:=D;let z:L2.St:=U;let c:TS:=a5;let b:TS:=aS a4 c;let R:TS:=aS a3 b;let r:TS:=aS a2 R;aS a r d z H):(aS a (aS a2 (aS a3 (aS a4 (a5))))) D U H:=h
def nZ {a:TS} {U:L2.St} (h:let d:L2.Ends:=D;let z:L2.St:=U;let e:TS:=a6;let c:TS:=aS a5 e;let b:TS:=aS a4 c;let R:TS:=aS a3 b;let r:TS:=aS a2 R;aS a r d z H):(aS a (aS a2 (aS a3 (aS a4 (aS a5 (a6)))))) D U H:=h
def Gs {a:TS} {U:L2.St} (h:let d:L2.Ends:=D;let z:L2.St:=U;let f:TS:=a7;let e:TS:=aS a6 f;let c:TS:=aS a5 e;let b:TS:=aS a4 c;let R:TS:=aS a3 b;let r:TS:=aS a2 R;aS a r d z H):(aS a (aS a2 (aS a3 (aS a4 (aS a5 (aS a6 (a7))))))) D U H:=h
def GL {a:TS} {U:L2.St} (h:let d:L2.Ends:=D;let z:L2.St:=U;let g:TS:=a8;let f:TS:=aS a7 g;let e:TS:=aS a6 f;let c:TS:=aS a5 e;let b:TS:=aS a4 c;let R:TS:=aS a3 b;let r:TS:=aS a2 R;aS a r d z H):(aS a (aS a2 (aS a3 (aS a4 (aS a5 (aS a6 (aS a7 (a8)))))))) D U H:=h
def zb {a:TS} {U:L2.St} (h:let d:L2.Ends:=D;let z:L2.St:=U;let i:TS:=a9;let g:TS:=aS a8 i;let f:TS:=aS a7 g;let e:TS:=aS a6 f;let c:TS:=aS a5 e;let b:TS:=aS a4 c;let R:TS:=aS a3 b;let r:TS:=aS a2 R;aS a r d z H):(aS a (aS a2 (aS a3 (aS a4 (aS a5 (aS a6 (aS a7 (aS a8 (a9))))))))) D U H:=h
def Ei {a:TS} {U:L2.St} (h:let d:L2.Ends:=D;let z:L2.St:=U;let j:TS:=UI;let i:TS:=aS a9 j;let g:TS:=aS a8 i;let f:TS:=aS a7 g;let e:TS:=aS a6 f;let c:TS:=aS a5 e;let b:TS:=aS a4 c;let R:TS:=aS a3 b;let r:TS:=aS a2 R;aS a r d z H):(aS a (aS a2 (aS a3 (aS a4 (aS a5 (aS a6 (aS a7 (aS a8 (aS a9 (UI)))))))))) D U H:=h
def EO {g Z a A b c:TS} {U:L2.St} (h:let d:L2.Ends:=D;let z:L2.St:=U;let f:TS:=c;let e:TS:=aS b f;let R:TS:=aS A e;let r:TS:=aS a R;let X:TS:=aS Z r;let q:TS:=aS UI X;let p:TS:=aS a9 q;let o:TS:=aS a8 p;let n:TS:=aS a7 o;let m:TS:=aS a6 n;let l:TS:=aS a5 m;let k:TS:=aS a4 l;let j:TS:=aS a3 k;let i:TS:=aS a2 j;aS g i d z H):(aS g (aS a2 (aS a3 (aS a4 (aS a5 (aS a6 (aS a7 (aS a8 (aS a9 (aS UI (aS Z (aS a (aS A (aS b (c))))))))))))))) D U H:=h
def HF {A:TS} {g:TG} {x:V} {U:L2.St} (h:let d:L2.Ends:=D;let z:L2.St:=U;let r:TS:=A;g x z H λ a H2=>r d a H2):g x U H λ a H2=>A D a H2:=h
@[elab_as_elim] theorem Ga {α:Type} {motive:List α->Prop} {us:List α} (h:us.length=1) (k:∀ a,motive [a]):motive us :=
 dA h λ a _ h=>aa7 h ▸ k a
@[elab_as_elim] theorem Mo {α:Type} {motive:List α->Prop} {us:List α} (h:us.length=2) (k:∀ a b,motive [a,b]):motive us :=
 dA h λ a _ h=>dA h λ b _ h=>aa7 h ▸ k a b
@[elab_as_elim] theorem Av {α:Type} {motive:List α->Prop} {us:List α} (h:us.length=3) (k:∀ a b c,motive [a,b,c]):motive us :=
 dA h λ a _ h=>dA h λ b _ h=>dA h λ c _ h=>aa7 h ▸ k a b c
@[elab_as_elim] theorem Dm {α:Type} {motive:List α->Prop} {us:List α} (h:us.length=4) (k:∀ a b c d,motive [a,b,c,d]):motive us :=
 dA h λ a _ h=>dA h λ b _ h=>dA h λ c _ h=>dA h λ d _ h=>aa7 h ▸ k a b c d
@[elab_as_elim] theorem Eb {α:Type} {motive:List α->Prop} {us:List α} (h:us.length=5) (k:∀ a b c d e,motive [a,b,c,d,e]):motive us :=
 dA h λ a _ h=>dA h λ b _ h=>dA h λ c _ h=>dA h λ d _ h=>dA h λ e _ h=>aa7 h ▸ k a b c d e
@[elab_as_elim] theorem HW {α:Type} {motive:List α->Prop} {us:List α} (h:us.length=6) (k:∀ a b c d e f,motive [a,b,c,d,e,f]):motive us :=
 dA h λ a _ h=>dA h λ b _ h=>dA h λ c _ h=>dA h λ d _ h=>dA h λ e _ h=>dA h λ f _ h=>aa7 h ▸ k a b c d e f
@[elab_as_elim] theorem Mf {α:Type} {motive:List α->Prop} {us:List α} (h:us.length=7) (k:∀ a b c d e f g,motive [a,b,c,d,e,f,g]):motive us :=
 dA h λ a _ h=>dA h λ b _ h=>dA h λ c _ h=>dA h λ d _ h=>dA h λ e _ h=>dA h λ f _ h=>dA h λ g _ h=>aa7 h ▸ k a b c d e f g
def lc {s:Scope} {x:Str} (h:(match s.names.lookup x with|some .local=>true|some .cell=>true|_=>false)=true):Loc s x:=by
 unfold Loc
 split at h
 . rename_i e;exact .inl e
 . rename_i e;exact .inr e
 . cases h
def cR.m {j k:Nat} {A:Around} (r:cR k A) (h:j<=k:=by first|decide|lia):cR j A:=r.mono h
section
variable {P:bq} {w:bh} {K:aC} {mg:cy} {base:aU} {x qual:Str} {st:Stmt} {N ps:cp} {k:Nat} {sp:Sp} {C:ai}
def gr.cL (h:gr K mg x st) (S:az N ps (ao st)) (e:∀ (f:ai) (b:au) (A:Around) (outer:List Env) (s:Shared) (H:Hp) (vs:aA) (Q:VK) (E:XK),cR k (A.deeper (envOfC x (ao st) s.heap.objs.size f b))->sp vs H Q E ->
     ∃ t,rK (fQ uX P w K mg base N x (ao st) f b A outer s H E).Fe (bF st) t/\t { nx:=λ Z H'=>Q .cn H',rt:=Q } (start N vs) H) (len:∀ vs H Q E,sp vs H Q E->vs.length=ps.length:=by intro Z Z Z Z h;first|(cases h;subst_vars;rfl)|(obtain ⟨Z,rfl,Z⟩:=h;rfl)|(obtain ⟨Z,Z,rfl,Z⟩:=h;rfl)|(obtain ⟨Z,Z,Z,rfl,Z⟩:=h;rfl)|(obtain ⟨Z,Z,Z,Z,rfl,Z⟩:=h;rfl)|(obtain ⟨Z,Z,Z,Z,Z,rfl,Z⟩:=h;rfl)) (g:∀ (kV d p:au) (c:Option ai) (b ct:au) (us:aZ),us.length=ps.length->bindArgs (W.fnOf x x (cD st) (bF st) (ao st) .none kV d p c b ct) ⟨us,[]⟩=pure (ps.zip us):=by intro Z Z Z Z Z Z us a;first|exact Ga a λ Z=>rfl|exact Mo a λ Z Z=>rfl|exact Av a λ Z Z Z=>rfl|exact Dm a λ Z Z Z Z=>rfl|exact Eb a λ Z Z Z Z Z=>rfl|exact HW a λ Z Z Z Z Z Z=>rfl|exact Mf a λ Z Z Z Z Z Z Z=>rfl):Def P w K mg base x (k+1) ps sp:=h.def S len g e
def fu.gH {m:Str} (h:fu K C m qual st .none) (S:az N ps (ao st)) (e:∀ (f:ai) (b:au) (A:Around) (outer:List Env) (s:Shared) (H:Hp) (vs:aA) (Q:VK) (E:XK),cR k (A.deeper (envOfC qual (ao st) s.heap.objs.size f b))->sp vs H Q E ->
     ∃ t,rK (fQ uX P w K mg base N qual (ao st) f b A outer s H E).Fe (bF st) t/\t { nx:=λ Z H'=>Q .cn H',rt:=Q } (start N vs) H) (len:∀ vs H Q E,sp vs H Q E->vs.length=ps.length:=by intro Z Z Z Z h;first|(cases h;subst_vars;rfl)|(obtain ⟨Z,rfl,Z⟩:=h;rfl)|(obtain ⟨Z,Z,rfl,Z⟩:=h;rfl)|(obtain ⟨Z,Z,Z,rfl,Z⟩:=h;rfl)|(obtain ⟨Z,Z,Z,Z,rfl,Z⟩:=h;rfl)|(obtain ⟨Z,Z,Z,Z,Z,rfl,Z⟩:=h;rfl)) (g:∀ (kV d p:au) (c:Option ai) (b ct:au) (us:aZ),us.length=ps.length->bindArgs (W.fnOf m qual (cD st) (bF st) (ao st) .none kV d p c b ct) ⟨us,[]⟩=pure (ps.zip us):=by intro Z Z Z Z Z Z us a;first|exact Ga a λ Z=>rfl|exact Mo a λ Z Z=>rfl|exact Av a λ Z Z Z=>rfl|exact Dm a λ Z Z Z Z=>rfl|exact Eb a λ Z Z Z Z Z=>rfl|exact HW a λ Z Z Z Z Z Z=>rfl|exact Mf a λ Z Z Z Z Z Z Z=>rfl):hZ P w K mg base C m (k+1) ps [] sp:=h.Lu S len g e
end
inductive A3 (a b c:Prop):Prop|mk (_:a) (_:b) (_:c)
inductive A4 (a b c d:Prop):Prop|mk (_:a) (_:b) (_:c) (_:d)
inductive A5 (a b c d e:Prop):Prop|mk (_:a) (_:b) (_:c) (_:d) (_:e)
inductive A6 (a b c d e f:Prop):Prop|mk (_:a) (_:b) (_:c) (_:d) (_:e) (_:f)
inductive E2 {a b:Type} (p:a->b->Prop):Prop|mk (x:a) (y:b) (_:p x y)
inductive E3 {a b c:Type} (p:a->b->c->Prop):Prop|mk (x:a) (y:b) (z:c) (_:p x y z)
inductive E4 {a b c d:Type} (p:a->b->c->d->Prop):Prop|mk (x:a) (y:b) (z:c) (u:d) (_:p x y z u)
inductive E5 {a b c d e:Type} (p:a->b->c->d->e->Prop):Prop|mk (x:a) (y:b) (z:c) (u:d) (v:e) (_:p x y z u v)
abbrev J9 (h q:ai) (g:Int):List (Str×V):=[("hold",.ref h),("place",.ref q),("gone",.int g),("ended",.bl false)]
def qy (K:aC) (C c:ai) (H:Hp) (x:ai) (f:bZ) (m:ap) (s:dD) (g:Int):Prop :=
 ∃ d h q,H x=some (.ins c d (J9 h q g))/\aV K C H h f m/\hG K H q s/\x∉f
section
variable {K:aC} {C CW:ai} {H H':Hp} {x:ai} {fp:bZ} {m:ap} {s:dD} {g:Int}
theorem qy.same (h:qy K C CW H x fp m s g) (S:aD H H'):qy K C CW H' x fp m s g:=by
 obtain ⟨D,e,q,a,b,c,d⟩:=h
 exact ⟨D,e,q,S _ _ a,b.same S,c.same S,d⟩
def hG.ts {p:ai} (h:hG K H p s) (t:bD K H H'):hG K H' p s:=by
 obtain ⟨e,g,f,a,b,c,d⟩:=h
 exact ⟨e,g,f,t _ _ a,t _ _ b,t _ _ c,t _ _ d⟩
end
def roomF (m:ap) (s:dD) (b:Nat) (z:List Int):Option (List ce)->Nat->Option Bool
 | none,i=>if z.getD i 0∈(dX (m.rows.getD i []) (eI m i s.bL (b.testBit i)) (eE m i s.bL (b.testBit i))).map (λ n:Nat=>(n:Int)) then none else some false
 | some l,i=>if (aN (l.getD i (0,1)) (eI m i s.bL (b.testBit i)) || aN (eE m i s.bL (b.testBit i)) (l.getD i (0,1)))=true then some true
   else if z.getD i 0∈(dX (m.rows.getD i []) (l.getD i (0,1)) (l.getD i (0,1))).map (λ n:Nat=>(n:Int)) then none else some false
def ZV (K:aC) (H:Hp) (n:Nat) (v:V):Option (List ce)->Prop
 | none=>v = .cn
 | some l=>∃ p ys,v = .ref p/\bi K H p ys/\bX K H (l.map dO) ys/\l.length=n/\∀ f∈l,dH 1000 f
section
variable (K:aC) (C CW NO NF NT NB:ai)
inductive G8 (vs:aA) (H:Hp) (Q:VK) (_E:XK):Prop|mk (x dx a fp m p s:_) (_:vs=[.ref x,.ref a,.ref p]) (_:H x=some (.ins CW dx [])) (_:aV K C H a fp m) (_:hG K H p s) (_:gW m s) (_:m.Uz) (_:∀ qX H',nB [x] H H'->bD K H H'->qy K C CW H' x qX m s 0->(∀ c∈qX,H c=none)->Q .cn H')
inductive HL (vs:aA) (H:Hp) (Q:VK) (E:XK):Prop|mk (x fp m s g:_) (o out:Nat) (_:vs=[.ref x,aq o,aq out]) (_:qy K C CW H x fp m s g) (_:gW m s) (_:out<16) (_:(o∉s.orders m->qL NO none H E)) (_:(o∈s.orders m->out &&& s.may m o≠out->qL NF none H E)) (_:(o∈s.orders m->out &&& s.may m o=out->∀ H',aD H H'->Q .cn H'))
inductive G4 (vs:aA) (H:Hp) (Q:VK) (_E:XK):Prop|mk (x fp m s g:_) (i b:Nat) (_:vs=[.ref x,aq i,aq b]) (_:qy K C CW H x fp m s g) (_:gW m s) (_:i<m.rows.length) (_:(b.testBit i=true->m.has i=true)) (_:∀ q q1 q2 H',aD H H'->H' q=some (.tup [.ref q1,.ref q2])->H' q1=some (.tup [.int (eI m i s.bL (b.testBit i)).1,.int (eI m i s.bL (b.testBit i)).2])->H' q2=some (.tup [.int (eE m i s.bL (b.testBit i)).1,.int (eE m i s.bL (b.testBit i)).2])->Q (.ref q) H')
inductive N7 (vs:aA) (H:Hp) (Q:VK) (E:XK):Prop|mk (x fp m s g:_) (i:Nat) (v1 v2 v3 f1 f2 f3:_) (_:vs=[.ref x,aq i,v1,v2,v3]) (_:qy K C CW H x fp m s g) (_:Dn K H (dO f1) v1) (_:Dn K H (dO f2) v2) (_:Dn K H (dO f3) v3) (_:dH 1000 f1) (_:dH 1000 f2) (_:dH 1000 f3) (_:((aN f3 f1 || aN f2 f3)=true->g9 NT (aq i) (.int g) H E)) (_:((aN f3 f1 || aN f2 f3)=false->∀ H',aD H H'->Q .cn H'))
inductive BM (vs:aA) (H:Hp) (Q:VK) (E:XK):Prop|mk (x fp m s g:_) (o out:Nat) (pb:_) (zs:List Int) (vw ws:_) (_:vs=[.ref x,aq o,aq out,.ref pb,vw]) (_:qy K C CW H x fp m s g) (_:gW m s) (_:out<16) (_:(bi K H pb (zs.map V.int)\/bR K H pb (zs.map V.int))) (_:zs.length=m.rows.length) (_:ZV K H m.rows.length vw ws) (_:(∀ i b,i<m.rows.length->(b=true->m.has i=true)->dH 1000 (eI m i s.bL b)/\dH 1000 (eE m i s.bL b))) (_:(o∈s.orders m->out &&& s.may m o=out->ck m s o out)) (_:(o∉s.orders m->qL NO none H E)) (_:(o∈s.orders m->out &&& s.may m o≠out->qL NF none H E)) (_:(o∈s.orders m->out &&& s.may m o=out->(∀ i b,i<m.rows.length->roomF m s (Ord.off o out) zs ws i=some b->(∀ j,j<i->roomF m s (Ord.off o out) zs ws j=none)->g9 (if b=true then NT else NB) (aq i) (.int g) H E)/\((∀ i,i<m.rows.length->roomF m s (Ord.off o out) zs ws i=none)->∀ H',nB [x] H H'->bD K H H'->qy K C CW H' x fp m (s.behind m (zs.map Int.toNat) o out) (g+1)->Q .cn H')))
end
def Jb {a b:Nat} (H:a<16) (c:b<16):Ord.off a b=0↔a &&& b=a:=by
 constructor
 .
  intro h
  refine abk λ k=>?_
  have e:=Ord.nU H c k
  rw [h,Nat.zero_testBit] at e
  rw [aa5]
  cases x:a.testBit k<;>cases y:b.testBit k<;>rw [x,y] at e<;>first|rfl|cases e
 .
  intro h
  refine abk λ k=>?_
  rw [Ord.nU H c,Nat.zero_testBit]
  have e:(a &&& b).testBit k=a.testBit k:=by rw [h]
  rw [aa5] at e
  cases x:a.testBit k<;>cases y:b.testBit k<;>rw [x,y] at e<;>first|rfl|cases e
def Cu {m:ap} {s:dD} {o:Nat} (h:m.rows.length<=4):s.may m o<16:=aav (Ord.xO _ _) (aba (by decide) h:2 ^ m.rows.length<=2 ^ 4)
def Bk {m:ap} {s:dD} {o:Nat} (h:o∈s.orders m):o &&& m.ws=o:=by
 have h:=(aaW.mp h).1
 exact Bit.HU h
def wG (l:bg):(l.map aq).all oU=true:=by
 rw [abE]
 intro x h
 obtain ⟨n,Z,rfl⟩:=aat.mp h
 rfl
def KY (o:Nat) (l:bg):Jl (aq o) (l.map aq)=decide (o∈l):=by
 unfold Jl
 induction l with
 | nil=>simp
 | cons x l i =>
   rw [aaQ,abJ,i]
   show (((x:Int) == (o:Int)) || decide (o∈l))=_
   rw [abu]
   simp only [adw,abG,aaS,aaa]
   have:((x:Int)=(o:Int))↔o=x:=by lia
   rw [this]
def HS (z:Int) (l:bg):Jl (V.int z) (l.map aq)=decide (z∈l.map (λ n:Nat=>(n:Int))):=by
 unfold Jl
 induction l with
 | nil=>simp
 | cons x l i =>
   rw [aaQ,abJ,i]
   show (((x:Int) == z) || decide (z∈l.map _))=_
   rw [abu]
   simp only [adw,abG,aaS,aaQ,aaa]
   have:((x:Int)=z)↔z=(x:Int):=⟨Eq.symm,Eq.symm⟩
   rw [this]
def aV.Fx {K:aC} {C:ai} {a x:ai} {f:bZ} {m:ap} (h:aV K C H a f m) (st:∀ b o,H b=some o->b≠x->H' b=some o) (t:bD K H H') (nx:x∉f):aV K C H' a f m:=by
 obtain ⟨⟨p,k,d,l,n,V,R,S,A,rfl,y,J,u,w,F,E,N,G,I,q,r,s,D,v⟩,Q,L,M,O⟩:=h
 have g:∀ {c o},H c=some o->c∈[a,p,k,d,l,n]->H' c=some o:=λ {c o} e B=>st c o e (λ z=>nx (z ▸ B))
 exact ⟨⟨p,k,d,l,n,V,R,S,A,rfl,g y (by simp),g J (by simp),g u (by simp),g w (by simp),g F (by simp),g E (by simp),N,G,I,kg t q,iU t r,gQ t s,λ i j=>(D i j).ts t,v⟩,Q,L,M,O⟩
def za {X:Cx}:iy X (.type "tuple") (λ xs H Q=>∃ p ys,xs=[.ref p]/\(bi X.K H p ys\/bR X.K H p ys)/\∀ q H',aD H H'->bR X.K H' q ys->Q (.ref q) H'):=by
 intro a s U H xs u Q I r h
 obtain ⟨p,ys,e,c,h⟩:=h
 refine cZ a s U H xs u Q I r ⟨p,ys,e,?_⟩
 rcases c with z|z
 . exact .inl ⟨z,λ q b=>h q _ (al b) (bR.of ag)⟩
 . exact .inr ⟨z,h p H (aD.refl _) z⟩
def ED (h:∀ z∈zs,0<=z):zs.map V.int=(zs.map Int.toNat).map aq:=by
 rw [abP]
 refine List.map_congr_left λ z H=>?_
 show V.int z=V.int ((z.toNat:Nat):Int)
 rw [abd (h z H)]
def Td {i:Nat} (h:i<zs.length):zs[i]?=some (zs.getD i 0):=by rw [BO,aaM h];rfl
def DO {m:ap} {s:dD} {b:Nat} {i:Nat}:roomF m s b zs none i=if zs.getD i 0∈(dX (m.rows.getD i []) (eI m i s.bL (b.testBit i)) (eE m i s.bL (b.testBit i))).map (λ n:Nat=>(n:Int)) then none else some false:=rfl
def sJ {m:ap} {s:dD} {b:Nat} {l:List ce} {i:Nat}:roomF m s b zs (some l) i=if (aN (l.getD i (0,1)) (eI m i s.bL (b.testBit i)) || aN (eE m i s.bL (b.testBit i)) (l.getD i (0,1)))=true then some true
   else if zs.getD i 0∈(dX (m.rows.getD i []) (l.getD i (0,1)) (l.getD i (0,1))).map (λ n:Nat=>(n:Int)) then none else some false:=rfl
def Br {m:ap} {s:dD} {b:Nat} {w:Option (List ce)} {i:Nat} (h:roomF m s b zs w i=none):0<=zs.getD i 0/\(zs.getD i 0).toNat+1<(m.rows.getD i []).length:=by
 have k:∀ {r f g},zs.getD i 0∈(dX r f g).map (λ n:Nat=>(n:Int))->0<=zs.getD i 0/\(zs.getD i 0).toNat+1<r.length:=λ {r f g} H=>by
   obtain ⟨n,c,e⟩:=aat.mp H
   have:=aaH.mp (aaW.mp c).1
   lia
 cases w with
 | none =>
   rw [DO] at h
   by_cases H:zs.getD i 0∈(dX (m.rows.getD i []) (eI m i s.bL (b.testBit i)) (eE m i s.bL (b.testBit i))).map (λ n:Nat=>(n:Int))
   . exact k H
   . rw [aam H] at h;cases h
 | some l =>
   rw [sJ] at h
   by_cases a:(aN (l.getD i (0,1)) (eI m i s.bL (b.testBit i)) || aN (eE m i s.bL (b.testBit i)) (l.getD i (0,1)))=true
   . rw [aan a] at h;cases h
   . rw [aam a] at h
     by_cases H:zs.getD i 0∈(dX (m.rows.getD i []) (l.getD i (0,1)) (l.getD i (0,1))).map (λ n:Nat=>(n:Int))
     . exact k H
     . rw [aam H] at h;cases h
def rR (h H:Hp) (L:bZ) (v:aA) (m:List (List Int)):Prop :=
 ∃ J:bZ,v=J.map V.ref/\J.length=m.length/\J.Nodup/\∀ (j:Nat) p l,J[j]?=some p->m[j]?=some l->H p=some (.lst (List.map V.int l))/\p∉L/\h p=none/\∀ x∈l,-30<=x/\x<=150
section
variable {K:aC} {H0 H H1 H':Hp} {L:bZ} {vm:aA} {ms:List (List Int)}
def rR.nil:rR H0 H L [] []:=⟨[],rfl,rfl,acy,λ j p l h=>by simp at h⟩
def rR.step (h:rR H0 H L vm ms) (s:nB L H H'):rR H0 H' L vm ms:=by
 obtain ⟨J,e,l,n,f⟩:=h
 exact ⟨J,e,l,n,λ j p l a b=>⟨s _ _ (f j p l a b).1 (f j p l a b).2.1,(f j p l a b).2⟩⟩
def oQ (s:aD H H'):nB L H H':=λ b o h Z=>s b o h
def sG {a:ai} {o:HO} (h:a∈L):nB L H (upd H a o):=λ b u e n=>by
 have N:b≠a:=λ z=>n (by rw [z];exact h)
 rw [aB N];exact e
def iN {H2:Hp} (a:nB L H H1) (b:nB L H1 H2):nB L H H2:=λ c o h n=>b c o (a c o h n) n
def rR.snoc {p:ai} (h:rR H0 H1 L vm ms) (u:H1 p=none) (s:nB L H1 H) (t:H p=some (.lst (l.map V.int))) (K:p∉L) (k0:H0 p=none) (v:∀ x∈l,-30<=x/\x<=150):rR H0 H L (vm++[.ref p]) (ms++[l]):=by
 obtain ⟨J,e,w,N,f⟩:=h
 have y:p∉J:=λ z=>by
   obtain ⟨j,o,e⟩:=abp z
   have i:j<ms.length:=by lia
   have:=(f j p ms[j] (by rw [aaM o,e]) (aaM i)).1
   rw [u] at this
   cases this
 refine ⟨J++[p],by rw [e,aab];rfl,by rw [aad,aad,w];rfl,?_,λ j q r d g=>?_⟩
 . rw [List.nodup_append]
   exact ⟨N,by simp,λ a m b n z=>y (by rw [aai.mp n] at z;rw [<- z];exact m)⟩
 .
  by_cases c:j<J.length
  . rw [aaA c] at d
    rw [aaA (by lia)] at g
    have:=f j q r d g
    exact ⟨s _ _ this.1 this.2.1,this.2⟩
  .
   rw [aaG (by lia)] at d
   rw [aaG (by lia)] at g
   have C:j - J.length=0:=by
     have:=(RJ.mp d).1
     simp at this
     lia
   have k:j - ms.length=0:=by lia
   rw [C] at d
   rw [k] at g
   obtain rfl:p=q:=aaj d
   obtain rfl:l=r:=aaj g
   exact ⟨t,K,k0,v⟩
end
def LY (K:aC) (h H:Hp) (p:ai) (m:av):Prop:=∃ b c d a f e v V g A,TC K H p b c d a f e v V g A m/\rR h H [p,b,c,d,a] v m.marks
inductive CC (K:aC) (vs:aA) (H:Hp) (Q:VK) (_E:XK):Prop|mk (a:_) (ns:List Int) (_:vs=[.ref a]) (_:bi K H a (ns.map V.int)) (_:∀ p H' m n,1<=n->n<=4->av.Ok n n m->aD H H'->LY K H H' p m->Q (.ref p) H')
inductive JA (K:aC) (vs:aA) (H:Hp) (Q:VK) (_E:XK):Prop|mk (p m H0:_) (n:Nat) (c:Int) (_:vs=[.ref p,.int c]) (_:av.Ok n n m) (_:aD H0 H) (_:LY K H0 H p m) (_:∀ H' m',av.Ok n n m'->aD H0 H'->iT K H' p m'->Q (.ref p) H')
def iA (l:List Int):List Int:=(l.set 0 (-40)).set (l.length - 1) 200
def JH {n:Nat} (h:wJ n l) (f:∀ x∈l,-30<=x/\x<=150):wJ n (iA l):=by
 have E:(iA l).length=l.length:=by unfold iA;rw [abq,abq]
 have L:=h.two
 have A:∀ (i:Nat) (x:Int),(iA l)[i]?=some x->i<l.length/\((i=l.length - 1/\x=200)\/(i≠l.length - 1/\i=0/\x = -40)\/(i≠l.length - 1/\i≠0/\l[i]?=some x)):=λ i x e=>by
   have H:i<l.length:=by rw [<- E];exact (RJ.mp e).1
   refine ⟨H,?_⟩
   unfold iA at e
   by_cases c:i=l.length - 1
   . rw [<- c,abn (by rw [abq];exact H)] at e
     exact .inl ⟨c,(aaj e).symm⟩
   .
    rw [abl (by lia)] at e
    by_cases d:i=0
    . subst d
      rw [abn H] at e
      exact .inr (.inl ⟨c,rfl,(aaj e).symm⟩)
    . rw [abl (by lia)] at e
      exact .inr (.inr ⟨c,d,e⟩)
 refine ⟨by rw [E];exact L,by rw [E];exact h.most,λ i x y j k=>?_,λ x m=>?_⟩
 .
  obtain ⟨I,g⟩:=A i x j
  obtain ⟨o,C⟩:=A (i+1) y k
  rcases g with ⟨a,b⟩|⟨a,b,c⟩|⟨a,b,c⟩
  . lia
  . rcases C with ⟨a2,B⟩|⟨a2,B,C⟩|⟨a2,B,C⟩
    . lia
    . lia
    . have:=f y (aaz C);lia
  . rcases C with ⟨a2,B⟩|⟨a2,B,C⟩|⟨a2,B,C⟩
    . have:=f x (aaz c);lia
    . lia
    . exact h.Jg i x y c C
 .
  obtain ⟨i,H,e⟩:=abp m
  obtain ⟨Z,c⟩:=A i x (by rw [aaM H,e])
  rcases c with ⟨a,b⟩|⟨a,b,c⟩|⟨a,b,c⟩
  . lia
  . lia
  . have:=f x (aaz c);lia
structure Ej (K:aC) (H0 H:Hp) (L jR:bZ) (ms:List (List Int)) (i:Nat) (H':Hp):Prop where
 same:aD H0 H'
 ts:bD K (fP H L) (fP H' L)
 but:nB jR H H'
 rows:∀ (j:Nat) pk l,jR[j]?=some pk->ms[j]?=some l->H' pk=some (.lst ((if j<i then iA l else l).map V.int))
theorem Ej.put {K:aC} {L J:bZ} {m:List (List Int)} {i:Nat} {p:ai} (h:Ej K H0 H L J m i H') (w:J.Nodup) (a:J[i]?=some p) (s:m[i]?=some l) (u:H0 p=none) (N:p∉L) :
   Ej K H0 H L J m (i+1) (upd (upd H' p (.lst ((l.map V.int).set 0 (.int (-40))))) p (.lst (((l.map V.int).set 0 (.int (-40))).set (((l.map V.int).set 0 (.int (-40))).length - 1) (.int 200)))):=by
 have e:∀ o o',upd (upd H' p o) p o'=upd H' p o':=λ o o'=>by
   funext b
   by_cases z:b=p
   . rw [z,ag,ag]
   . rw [aB z,aB z,aB z]
 rw [e]
 have t:(((l.map V.int).set 0 (.int (-40))).set (((l.map V.int).set 0 (.int (-40))).length - 1) (.int 200))=(iA l).map V.int:=by
   unfold iA
   rw [abq,OS,adf,adf]
 rw [t]
 have S:=h.rows i p l a s
 refine ⟨h.same.put u,h.ts.trans ?_,λ b o v n=>?_,λ j q r d g=>?_⟩
 .
  have E:fP (upd H' p (.lst ((iA l).map V.int))) L=upd (fP H' L) p (.lst ((iA l).map V.int)):=by
    funext b
    unfold fP
    by_cases z:b=p
    . rw [z,ag,aam N];exact ag.symm
    . rw [aB z,aB z]
  rw [E]
  exact cO (lZ S N) rfl
 . rw [aB (λ z=>n (by rw [z];exact aaz a))]
   exact h.but b o v n
 .
  by_cases z:j=i
  . subst z
    obtain rfl:p=q:=aaj (a.symm.trans d)
    obtain rfl:l=r:=aaj (s.symm.trans g)
    rw [ag,aan (acf _)]
  .
   have x:q≠p:=λ y=>by
     have f:=(RJ.mp d)
     have k:=(RJ.mp a)
     obtain ⟨f,B⟩:=f
     obtain ⟨k,A⟩:=k
     exact z (by
       exact (List.getElem?_inj f w).mp (d.trans (by rw [y];exact a.symm)))
   rw [aB x,h.rows j q r d g]
   by_cases c:j<i
   . rw [aan c,aan (by lia)]
   . rw [aam c,aam (by lia)]
def Et (z:Int×Int×Int):d7 (Fi z)=true:=by simp [d7]
def Ht (z:Option (Int×Int×Int×Int)):d7 (stI z)=true:=by cases z<;>simp [stI,d7]
theorem Dh {K:aC}:∀ {J:bZ} {m:List (List Int)},J.length=m.length->(∀ (j:Nat) pk l,J[j]?=some pk->m[j]?=some l->H pk=some (.lst (List.map V.int l)))->bX K H (m.map zl) (J.map V.ref)
 | [],[],_,_=>rfl
 | pk::J,l::m,h,f=>⟨.ref pk,J.map V.ref,rfl,⟨pk,_,rfl,bi.of (f 0 pk l rfl rfl),xr l⟩,Dh (by simpa using h) λ j q r a b=>f (j+1) q r a b⟩
def Ej.told {K:aC} {p i k q c F E:ai} {J:bZ} {vs G:aA} {B:List (List Key×V)} {m:av} {n:Nat} (h:Ej K H0 H [p,i,k,q,c] J m.marks n H') (C:TC K H p i k q c F E (J.map V.ref) vs G B m) (ok:m.Ok n n) (L:J.length=n) (f:∀ (j:Nat) t l,J[j]?=some t->m.marks[j]?=some l->t∉[p,i,k,q,c]/\∀ x∈l,-30<=x/\x<=150) :
   TC K H' p i k q c F E (J.map V.ref) vs G B { m with marks:=m.marks.map iA }/\av.Ok n n { m with marks:=m.marks.map iA }:=by
 have N:∀ b∈[p,i,k,q,c],b∉J:=λ b w z=>by
   obtain ⟨j,a,e⟩:=abp z
   have s:j<m.marks.length:=by rw [ok.lm];lia
   exact (f j b m.marks[j] (by rw [aaM a,e]) (aaM s)).1 w
 have g:∀ {b o},H b=some o->b∈[p,i,k,q,c]->H' b=some o:=λ {b o} e w=>h.but b o e (N b w)
 refine ⟨⟨g C.hp (by simp),g C.eZ (by simp),g C.fj (by simp),g C.eY (by simp),g C.h9 (by simp),C.n1,C.n2,C.n3,?_,?_,?_,C.df,C.fk,h.ts _ _ C.sc,h.ts _ _ C.bo⟩,?_⟩
 .
  refine Dh (by rw [OS,ok.lm];exact L) λ j t l v u=>?_
  have a:j<n:=by rw [<- L];exact (RJ.mp v).1
  have s:j<m.marks.length:=by rw [ok.lm];exact a
  have u:(m.marks.map iA)[j]?=some l:=u
  rw [T1,ar s] at u
  obtain rfl:iA m.marks[j]=l:=aaj u
  have:=h.rows j t _ v (ar s)
  rw [aan a] at this
  exact lZ this (f j t _ v (ar s)).1
 . exact bX.ts h.ts _ (λ d y=>by obtain ⟨z,Z,rfl⟩:=aat.mp y;exact Et z) C.ds
 . exact bX.ts h.ts _ (λ d y=>by obtain ⟨z,Z,rfl⟩:=aat.mp y;exact Ht z) C.dt
 .
  refine ⟨by show (m.marks.map iA).length=n;rw [OS];exact ok.lm,ok.ls,ok.lt,λ l I=>?_,ok.dI,ok.aH,ok.bH,ok.scale,ok.bounds⟩
  obtain ⟨r,D,rfl⟩:=aat.mp (show l∈m.marks.map iA from I)
  obtain ⟨j,a,e⟩:=abp D
  have A:j<J.length:=by rw [L,<- ok.lm];exact a
  exact JH (ok.rows r D) (f j J[j] r (ar A) (by rw [ar a,e])).2
def Nu {n:Nat} (h:0<n):D3 n (-1)=some (n - 1):=by
 unfold D3
 rw [aam (by lia),aan (by lia)]
 congr 1
 lia
def Py {n:Nat} (h:0<n):D3 n 0=some 0:=by
 unfold D3
 rw [aan (by lia),aan (by lia)]
 rfl
def av.T3 (tm:av) (i:Nat) (z lo h:Int):Prop:=0<=z/\z<((tm.marks.getD i []).length:Int) - 1/\12 * tm.rE i z.toNat<=h/\lo<=12 * tm.rE i (z.toNat+1)
instance {tm:av} {i:Nat} {z lo h:Int}:Decidable (tm.T3 i z lo h):=by unfold av.T3;infer_instance
def av.s0 (tm:av) (n i:Nat) (bs:bg) (f:Bool):Int:=tm.sX n i bs 0 (tm.ni i).2.1 f
def av.s1 (tm:av) (n i:Nat) (bs:bg) (f:Bool):Int:=tm.sX n i bs 1 (tm.ni i).2.2 f
def vP {r:List ce} {f g:ce} {z:Int}:z∈(dX r f g).map (λ n:Nat=>(n:Int))↔0<=z/\z.toNat<r.length - 1/\jX r f g z.toNat=true:=by
 unfold dX jZ
 rw [aat]
 constructor
 . rintro ⟨n,a,rfl⟩
   obtain ⟨h,H⟩:=aaW.mp a
   exact ⟨by lia,by simpa using aaH.mp h,by simpa using H⟩
 . rintro ⟨b,h,H⟩
   exact ⟨z.toNat,aaW.mpr ⟨aaH.mpr h,H⟩,by lia⟩
section
variable {tm:av} {n i:Nat}
def lV (ok:tm.Ok n n) (h:i<n):(tm.m2 n n).rows.getD i []=tm.row (tm.marks.getD i []):=by
 have x:i<tm.marks.length:=by rw [ok.lm];exact h
 rw [(eR tm n n).1,BO,T1,abY h,BO,ar x];rfl
def jH {b:Nat} (h:b<l.length):(tm.row l).getD b (0,1)=aT (l.getD b 0) 1 tm.scale:=by
 unfold av.row
 rw [BO,T1,ar h,BO,ar h];rfl
def CN {A z:Int} (ok:tm.Ok n n) (h:i<n):z∈(dX ((tm.m2 n n).rows.getD i []) (aT A 12 tm.scale) (aT B 12 tm.scale)).map (λ n:Nat=>(n:Int))↔tm.T3 i z A B:=by
 rw [vP,lV ok h]
 unfold av.T3 av.rE jX
 generalize tm.marks.getD i []=l
 have E:(tm.row l).length=l.length:=by unfold av.row;rw [OS]
 rw [E]
 refine ado λ H=>?_
 have e:(z.toNat<l.length - 1)↔(z<(l.length:Int) - 1):=by lia
 rw [e]
 refine ado λ a=>?_
 rw [jH (by lia),jH (by lia),eJ ok.scale (by decide) (by decide),eJ ok.scale (by decide) (by decide)]
 simp only [aaq,aby,acB]
 lia
def AN (ok:tm.Ok n n) (h:i<n):(ma (tm.m2 n n) i).2.1=aT (tm.ni i).2.1 1 tm.scale/\(ma (tm.m2 n n) i).2.2=aT (tm.ni i).2.2 1 tm.scale/\(-200<=(tm.ni i).2.1/\(tm.ni i).2.1<=200)/\(-200<=(tm.ni i).2.2/\(tm.ni i).2.2<=200)/\(tm.ni i).2.1<=(tm.ni i).2.2:=by
 have z:i<tm.dI.length:=by rw [ok.ls];exact h
 have A:=ok.dI tm.dI[i] (aag z)
 unfold ma av.ni
 rw [(jN ok n (aaf n)).1 i h,ar z]
 refine ⟨rfl,rfl,?_⟩
 show (-200<=tm.dI[i].2.1/\tm.dI[i].2.1<=200)/\(-200<=tm.dI[i].2.2/\tm.dI[i].2.2<=200)/\tm.dI[i].2.1<=tm.dI[i].2.2
 lia
def ut (ok:tm.Ok n n) (H:i<n) (h:(tm.m2 n n).has i=true):∃ z,tm.aH[i]?=some (some z):=by
 unfold ap.has at h
 rw [C7 ok H] at h
 cases e:tm.aH[i]? with
 | none=>rw [e] at h;cases h
 | some o =>
   cases o with
   | none=>rw [e] at h;cases h
   | some z=>exact ⟨z,rfl⟩
section
variable {bs:bg} {f:Bool}
def m7 (w:(tm.m2 n n).Wf) (ok:tm.Ok n n) (N:n<=4) (h:i<n) (H:mC tm n bs) (a:f=true->(tm.m2 n n).has i=true):eI (tm.m2 n n) i bs f=aT (tm.s0 n i bs f) 12 tm.scale/\eE (tm.m2 n n) i bs f=aT (tm.s1 n i bs f) 12 tm.scale:=by
 obtain ⟨e,E,b,B,Z⟩:=AN ok h
 unfold eI eE av.s0 av.s1
 rw [e,E]
 exact ⟨wu w ok N h H (by decide) b λ q=>ut ok h (a q),wu w ok N h H (by decide) B λ q=>ut ok h (a q)⟩
def TU (ok:tm.Ok n n) (N:n<=4) (H:i<n) (h:mC tm n bs):(-3000<=tm.s0 n i bs f/\tm.s0 n i bs f<=3000)/\(-3000<=tm.s1 n i bs f/\tm.s1 n i bs f<=3000)/\tm.s0 n i bs f<=tm.s1 n i bs f:=by
 obtain ⟨Z,Z,B,c,l⟩:=AN ok H
 refine ⟨LM ok N H h (by decide) B,LM ok N H h (by decide) c,?_⟩
 have:=Cd (x:=tm.xl bs 0) (y:=tm.xl bs 1) ok N H (λ j a=>?_) l
 . unfold av.s0 av.s1 av.sX
   lia
 .
  obtain ⟨d,g,e,Z⟩:=j1 (b:=bs.getD j 0) ok a (by have:=h.lt j a;lia)
  obtain ⟨Z,k,E,Z⟩:=j1 (b:=bs.getD j 0+1) ok a (h.lt j a)
  have J:=(ok.rows tm.marks[j] (aag d)).Jg _ _ _ (ar g) (ar k)
  rw [<- e,<- E] at J
  exact aaP J
def AK {x:Int} (ok:tm.Ok n n) (h : -5000<=x) (H:x<=5000):dH 1000 (aT x 12 tm.scale):=(oF (n:=16) ok.scale (by decide) (show x.natAbs<2 ^ 16 by lia) (show Int.natAbs 12<2 ^ 16 by decide)).mono (by decide)
def ua (w:(tm.m2 n n).Wf) (ok:tm.Ok n n) (N:n<=4) (H:i<n) (h:mC tm n bs) (a:f=true->(tm.m2 n n).has i=true):dH 1000 (eI (tm.m2 n n) i bs f)/\dH 1000 (eE (tm.m2 n n) i bs f):=by
 obtain ⟨e,E⟩:=m7 w ok N H h a
 obtain ⟨b,B,Z⟩:=TU (f:=f) ok N H h
 rw [e,E]
 exact ⟨AK ok (by lia) (by lia),AK ok (by lia) (by lia)⟩
end
end
theorem aV.some {K:aC} {C:ai} {a:ai} {f:bZ} {m:ap} (h:aV K C H a f m):∀ c∈f,∃ o,H c=some o:=by
 obtain ⟨⟨p,k,i,l,n,v,V,q,A,rfl,g,j,E,d,F,e,Z⟩,Z⟩:=h
 intro c b
 simp only [aaa,aae,aa2] at b
 rcases b with rfl|rfl|rfl|rfl|rfl|rfl
 . exact ⟨_,g⟩
 . exact ⟨_,j⟩
 . exact ⟨_,E⟩
 . exact ⟨_,d⟩
 . exact ⟨_,F⟩
 . exact ⟨_,e⟩
def K7 (s:dD):PyData:=.tuple [.tuple (s.bL.map iS),iS s.c6,.tuple (s.i6.map iS),.tuple (s.failed.map iS),iS s.heap]
def hG.dn {K:aC} {p:ai} {s:dD} (h:hG K H p s):Dn K H (K7 s) (.ref p):=by
 obtain ⟨e,g,f,a,b,c,d⟩:=h
 exact fU a (bJ (fU b (jc _)) (bJ rfl (bJ (fU c (jc _)) (bJ (fU d (jc _)) (bJ rfl gq)))))
def F8 (s:dD):Df 2 (K7 s):=by
 have k:∀ l:bg,Df 1 (.tuple (l.map iS)):=λ l d h=>by
   obtain ⟨x,Z,rfl⟩:=aat.mp h
   exact trivial
 intro d h
 simp only [aaa,aae,aa2] at h
 rcases h with rfl|rfl|rfl|rfl|rfl
 . exact k _
 . exact trivial
 . exact k _
 . exact k _
 . exact trivial
def MZ {X:Cx}:iD X (compareOp .Is) (λ x y H Q=>∃ a b,x = .bl a/\y = .bl b/\Q (.bl (a == b)) H):=by
 intro p s U H x y v u Q I r R h
 obtain ⟨a,b,rfl,rfl,q⟩:=h
 cases r
 cases R
 cases a<;>cases b<;>exact aas (bY I q rfl)
end L2
namespace PySem
open Sem (wp)
mutual
def kd:PyData->Bool
 | .bool _=>true
 | .int _=>true
 | .tuple d=>AS d
 | _=>false
def AS:List PyData->Bool
 | []=>true
 | d::D=>kd d && AS D
end
mutual
def um:PyData->PyData
 | .bool b => .int (if b then 1 else 0)
 | .tuple D => .tuple (mK D)
 | d=>d
def mK:List PyData->List PyData
 | []=>[]
 | d::D=>um d::mK D
end
mutual
def xf:PyData->Nat
 | .tuple d=>wR d+1
 | _=>0
def wR:List PyData->Nat
 | []=>0
 | d::D=>max (xf d) (wR D)
end
mutual
def rh:PyData->Int
 | .int i=>hashInt i
 | .bool b=>hashInt (if b then 1 else 0)
 | .tuple d=>reduceHash (Builtin.Tuple.tupleHashOf (l9 d))
 | _=>0
def l9:List PyData->List Int
 | []=>[]
 | d::D=>rh d::l9 D
end
mutual
def rl:PyData->Nat
 | .tuple d=>mZ d+1
 | _=>1
def mZ:List PyData->Nat
 | []=>0
 | d::D=>rl d+mZ D
end
mutual
theorem wK:∀ d,kd d=true->rh (um d)=rh d
 | .bool b,_=>by simp only [um,rh]
 | .int i,_=>by simp only [um,rh]
 | .tuple D,h=>by simp only [um,rh];rw [tD D h]
 | .none,_ | .str _,_ | .list _,_ | .dict _,_=>by simp only [um]
theorem tD:∀ D,AS D=true->l9 (mK D)=l9 D
 | [],_=>rfl
 | d::D,h=>by
   rw [AS,aaq] at h
   simp only [mK,l9]
   rw [wK d h.1,tD D h.2]
end
mutual
theorem vJ:∀ d,rl (um d)=rl d
 | .bool b=>by simp only [um,rl]
 | .tuple D=>by simp only [um,rl];rw [tJ D]
 | .int _ | .none | .str _ | .list _ | .dict _=>by simp only [um]
theorem tJ:∀ D,mZ (mK D)=mZ D
 | []=>rfl
 | d::D=>by
   simp only [mK,mZ]
   rw [vJ d,tJ D]
end
mutual
theorem yp:∀ (d e:PyData),kd d=true->kd e=true->(PyData.eqv d e=true↔um d=um e)
 | .bool a,.bool b,_,_=>by cases a<;>cases b<;>simp [PyData.eqv,um]
 | .bool a,.int j,_,_=>by simp [PyData.eqv,um]
 | .int i,.bool b,_,_=>by simp [PyData.eqv,um]
 | .int i,.int j,_,_=>by simp [PyData.eqv,um]
 | .tuple xs,.tuple ys,h,k=>by
   simp only [PyData.eqv,um,PyData.tuple.injEq]
   exact zo xs ys h k
 | .bool _,.tuple _,_,_ | .int _,.tuple _,_,_ | .tuple _,.bool _,_,_ | .tuple _,.int _,_,_=>by simp [PyData.eqv,um]
theorem zo:∀ (D E:List PyData),AS D=true->AS E=true->(PyData.eqvAll D E=true↔mK D=mK E)
 | [],[],_,_=>by simp [PyData.eqvAll,mK]
 | [],_::_,_,_=>by simp [PyData.eqvAll,mK]
 | _::_,[],_,_=>by simp [PyData.eqvAll,mK]
 | d::D,e::E,h,k=>by
   rw [AS,aaq] at h k
   simp only [PyData.eqvAll,mK,aaq,ads]
   rw [yp d e h.1 k.1,zo D E h.2 k.2]
end
section
variable {prog:bq} {w:bh} {E:au->Shared->Prop}
mutual
theorem uW:∀ (d:PyData) (v:au) (as:bZ) (A:Around) (s:Shared) (Q:Int->Shared->Prop),kd d=true->Reads s.heap v d as->A.units+xf d<cLine ->
   Q (rh d) { s with toks:=s.toks+rl d }->wpAny (model prog w) A (pyHash v) Q E s
 | .int i,_,_,A,s,Q,_,x,_,h=>by cases x;exact wpAny_pyHash_int h
 | .bool b,_,_,A,s,Q,_,x,e,h=>by
   cases x
   refine W.pyHash_slot (T:="bool") rfl F.slot_bool_hash entry_int_hash (args_int_hash _) (beq_builtin_none _) (.inl rfl) ?_
   cases b
   . exact (show wpAny _ _ (do ret (<- mkInt 0)) _ _ s from UV (wpAny_mkInt (aas ⟨_,_,rfl,h⟩)))
   . exact (show wpAny _ _ (do ret (<- mkInt 1)) _ _ s from UV (wpAny_mkInt (aas ⟨_,_,rfl,h⟩)))
 | .tuple D,_,_,A,s,Q,H,x,e,h=>by
   cases x with
   | @tuple a o vs n _ _ c g j k =>
     rw [xf] at e
     refine W.pyHash_slot (T:="tuple") ⟨_,c,g⟩ F.slot_tuple_hash F.entry_tuple_hash (F.args_tuple_hash_1 _) (beq_builtin_none _) (.inr (by lia)) ?_
     show wpAny _ _ (Builtin.Tuple.tupleItemsOf (.ref a) >>= _) _ _ s
     refine UV (wpAny_tupleItemsOf c j ?_)
     refine UV ?_
     rw [<- aep]
     refine qS D vs.toList _ A.in1 s #[] _ H k (by rw [adN];lia) λ b f=>?_
     show wpAny _ _ (retInt (Builtin.Tuple.tupleHashOf b.toList)) _ _ _
     rw [f]
     exact UV (wpAny_mkInt (aas ⟨_,_,rfl,h⟩))
 | .none,_,_,_,_,_,H,_,_,_ | .str _,_,_,_,_,_,H,_,_,_ | .list _,_,_,_,_,_,H,_,_,_ | .dict _,_,_,_,_,_,H,_,_,_=>by rw [kd] at H<;>first|cases H|nofun
theorem qS:∀ (D:List PyData) (vs:aZ) (as:bZ) (A:Around) (s:Shared) (b:Array Int) (Q:Array Int->Shared->Prop),AS D=true->ReadsAll s.heap vs D as->A.units+wR D<cLine ->
   (∀ B,B.toList=b.toList++l9 D->Q B { s with toks:=s.toks+mZ D }) ->
   wpAny (model prog w) A (forIn vs b λ x r=>do let h <- pyHash x;pure PUnit.unit;pure (ForInStep.yield (r.push h))) Q E s
 | [],_,_,A,s,b,Q,_,x,_,h=>by cases x;exact aas (h b (by simp [l9]))
 | d::D,_,_,A,s,b,Q,H,x,c,h=>by
   cases x with
   | cons X e =>
     rw [AS,aaq] at H
     rw [wR] at c
     rw [List.forIn_cons]
     refine UV (UV (uW d _ _ A s _ H.1 X (by lia) ?_))
     refine UV (aas (aas ?_))
     exact qS D _ _ A { s with toks:=s.toks+rl d } _ Q H.2 e (by lia) λ B a=>by
       have:=h B (by simp [a,l9])
       rw [mZ,<- Nat.add_assoc] at this
       exact this
end
theorem qZ:∀ (n:Nat) (d:PyData) (v:au) (as:bZ) (A:Around) (s:Shared) (Q:Bool->Shared->Prop),kd d=true->xf d<=n->Reads s.heap v d as->Q true s->wpAny (model prog w) A (eqIsQuiet n v) Q E s
 | n,.int i,_,_,A,s,Q,_,_,x,h=>by cases x;rw [eqIsQuiet_byValue n rfl];exact aas h
 | n,.bool i,_,_,A,s,Q,_,_,x,h=>by cases x;rw [eqIsQuiet_byValue n rfl];exact aas h
 | 0,.tuple D,_,_,A,s,Q,_,g,_,_=>by rw [xf] at g;lia
 | n+1,.tuple D,_,_,A,s,Q,H,g,x,h=>by
   cases x with
   | @tuple a o vs m _ _ f k t l =>
     rw [xf] at g
     unfold eqIsQuiet
     refine UV (ac1 ⟨_,f,k⟩ F.slot_tuple_eq.lookup ?_)
     show wpAny _ _ (isInstance (.ref a) (.type "tuple") >>= _) _ _ s
     refine UV (wpAny_isInstance ⟨_,f,k⟩ isSubtype_tuple_tuple ?_)
     simp only [adM,ab5,acm]
     refine UV (ad8 f t ?_)
     refine UV ?_
     show wpAny _ _ (forIn vs _ _) _ _ s
     rw [<- aep]
     refine wpAny_forIn_list _ (λ rest r s'=>r.1=none/\s'=s/\∃ b W,AS b=true/\wR b<=n/\ReadsAll s.heap rest b W) _ ?_ ?_ _ _ ⟨rfl,rfl,D,_,H,by lia,l⟩
     .
      rintro v rest r s' ⟨l,rfl,b,W,c,p,q⟩
      cases q with
      | @cons _ _ e b _ _ X u =>
        rw [AS,aaq] at c
        rw [wR] at p
        refine UV (qZ n e v _ _ _ _ c.1 (by lia) X ?_)
        simp only [adM,ab5,acm]
        exact aas ⟨rfl,rfl,b,_,c.2,by lia,u⟩
     . rintro ⟨R,y⟩ s' ⟨j,rfl,Z⟩
       have j:R=none:=j
       subst j
       exact aas h
 | _,.none,_,_,_,_,_,H,_,_,_|_,.str _,_,_,_,_,_,H,_,_,_|_,.list _,_,_,_,_,_,H,_,_,_|_,.dict _,_,_,_,_,_,H,_,_,_=>by rw [kd] at H<;>first|cases H|nofun
def G9 {a b:ai} {d e:PyData} {as bs:bZ} {A:Around} {s:Shared} {Q:Bool->Shared->Prop} (r:Reads s.heap (.ref a) d as) (R:Reads s.heap (.ref b) e bs) (H:SeqAt.shaped d=true) (c:SeqAt.shaped e=true) (k:kd d=true) (K:kd e=true) (f:A.units+64<cLine)
   (h:Q (PyData.eqv d e) s):wpAny (model prog w) A (eqBool (.ref a) (.ref b)) Q E s:=by
 unfold eqBool
 try with_reducible refine ab9 ?_
 show wpAny _ _ (if (Value.ref a == Value.ref b)=true then _ else _) Q E s
 by_cases B:(Value.ref a == Value.ref b)=true
 .
  rw [aan B]
  have z:a=b:=by have:=eq_of_beq B;injection this
  subst z
  obtain rfl:=(Reads.unique r _ _ R).1
  rw [(yp d d k k).mpr rfl] at h
  exact UV (wpAny_rule (aas h))
 . rw [aam B]
   exact UV (show wpAny _ _ (compareOp .Eq (.ref a) (.ref b)) _ _ _ from SeqAt.compareEq_shaped r R H c f (abv h))
end
mutual
theorem uD {h h':aU} (f:∀ b o,h.get? b=some o->∀ n vs,o.data = .seq vs n->h'.get? b=some o):∀ (d:PyData) {v:au} {as:bZ},kd d=true->Reads h v d as->Reads h' v d as
 | _,_,_,_,.none => .none
 | _,_,_,_,.bool b => .bool b
 | _,_,_,_,.int i t => .int i t
 | _,_,_,_,.str x t => .str x t
 | _,_,_,k,.tuple a c H e => .tuple (f _ _ a _ _ H) c H (qR f _ k e)
 | _,_,_,k,.list a c H e=>by rw [kd] at k<;>first|cases k|nofun
 | _,_,_,k,.dict a c H e g=>by rw [kd] at k<;>first|cases k|nofun
theorem qR {h h':aU} (H:∀ b o,h.get? b=some o->∀ n vs,o.data = .seq vs n->h'.get? b=some o):∀ (d:List PyData) {vs:aZ} {as:bZ},AS d=true->ReadsAll h vs d as->ReadsAll h' vs d as
 | _,_,_,_,.nil => .nil
 | _,_,_,k,.cons a c => .cons (uD H _ (ad7.mp k).1 a) (qR H _ (ad7.mp k).2 c)
end
noncomputable instance:DecidableEq PyData:=λ a b=>Classical.propDecidable (a=b)
def Ou (h:aU) (k:PyData) (a:ai):Prop:=∃ d as,Reads h (.ref a) d as/\kd d=true/\SeqAt.shaped d=true/\xf d<=8/\um d=k
noncomputable def uv (prog:bq) (w:bh):HeapKind prog w PyData where
 is:=Ou
 hash:=rh
 draws:=rl
 room:=λ A=>A.units+64<cLine
 inj:=λ ⟨d,_,r,_,_,_,e⟩ ⟨D,_,R,_,_,_,i⟩=>by
   obtain rfl:=(Reads.unique r _ _ R).1
   exact e.symm.trans i
 keeps:=λ {h C k a d o B v} x p n t=>by
   obtain ⟨x,as,r,K,f,g,e⟩:=x
   refine ⟨x,as,uD (λ b O q m V l=>?_) x K r,K,f,g,e⟩
   rw [t.2 b λ z=>?_]
   . exact q
   . subst z
     rw [p] at q
     cases q
     rw [n] at l
     cases l
 pyHash:=λ {A E s k a Q} H ⟨d,as,r,K,f,g,e⟩ h=>by
   subst e
   rw [wK d K,vJ d] at h
   exact uW d _ as A s Q K r (by lia) h
 eqBool:=λ {A E s x y a b Q} H ⟨d,as,r,K,f,g,e⟩ ⟨D,W,R,c,j,u,i⟩ h=>by
   subst e i
   refine G9 r R f j K c H ?_
   have q:PyData.eqv d D=decide (um d=um D):=by
     rw [abu,ael]
     exact yp d D K c
   rw [q]
   exact h
 quiet:=λ {A E s k a Q} ⟨d,as,r,K,f,g,e⟩ h=>qZ 8 d _ as A s Q K g r h
end PySem
namespace L2
open PySem PySem.Spec PyProof.Rows Mth
variable {H H':Hp} {hi lo:Int} {out:Nat} {v:V} {U:St}
mutual
theorem DG:∀ d:PyData,kd d=true->d7 d=true
 | .bool _,_=>by simp [d7]
 | .int _,_=>by simp [d7]
 | .tuple D,h=>k7.mpr (zd D h)
 | .none,h | .str _,h | .list _,h | .dict _,h=>by rw [kd] at h<;>first|cases h|nofun
theorem zd:∀ D:List PyData,AS D=true->∀ d∈D,d7 d=true
 | [],_,d,h=>absurd h aae
 | e::D,h,d,m=>by
   rw [AS,aaq] at h
   rcases aaa.mp m with z|z
   . rw [z];exact DG e h.1
   . exact zd D h.2 d z
end
def ja (K:aC) (H:Hp) (k:PyData) (b:ai):Prop:=∃ d,Dn K H d (.ref b)/\kd d=true/\SeqAt.shaped d=true/\xf d<=8/\um d=k
theorem ja.ts {K:aC} {k:PyData} {b:ai} (s:bD K H H') (h:ja K H k b):ja K H' k b:=by
 obtain ⟨d,c,a,e,f,g⟩:=h
 exact ⟨d,Dn.ts s d (DG d a) c,a,e,f,g⟩
section
variable {X:Cx} {pins:List (ai×Obj)} {U:St} {H:Hp} {s:Shared}
def ja.is {k:PyData} {b:ai} (I:Inv X pins U H s) (h:ja X.K H k b):Ou s.heap k b:=by
 obtain ⟨d,a,c,e,f,g⟩:=h
 obtain ⟨as,r⟩:=I.reads d a rfl
 exact ⟨d,as,r,c,e,f,g⟩
end
abbrev wa:=List (PyData×ai×V)
abbrev XR:wa->List (PyData×ai×au)->Prop:=Paired λ p q=>p.1=q.1/\p.2.1=q.2.1/\RelV p.2.2 q.2.2
def DxP (P:bq) (w:bh) (a:ai) (A:wa) (h:aU):Prop:=A.length<=sizeLine/\(a == sysModules)=false/\∃ x,XR A x /\
 ∃ o e E,h.get? a=some o/\o.ExactDict/\o.data = .dict e E/\e.toList=x.map (entryOfKey (uv P w))/\(x.map (·.1)).Nodup
def zR (P:bq) (w:bh) (a:ai) (A:wa):HO:=.ext (DxP P w a A)
def Mn {P:bq} {w:bh} {h:aU} {a:ai} {A:wa} (x:DxP P w a A h):c8 P w H h a (zR P w a A):=by
 refine ⟨x,?_,λ c d ⟨z,y,X,r,o,b,E,e,q⟩ k=>⟨z,y,X,r,o,b,E,k o e,q⟩⟩
 obtain ⟨Z,Z,Z,Z,o,Z,Z,e,Z⟩:=x
 exact ⟨o,e⟩
noncomputable def kQ (a:wa) (k:PyData):fR:=(a.find? λ x=>decide (x.1=k)).map (·.2.2)
noncomputable def kn (a:wa) (k:PyData) (b:ai) (v:V):wa:=if (kQ a k).isSome then a.map λ x=>if x.1=k then (x.1,x.2.1,v) else x else a++[(k,b,v)]
def sU {a:wa} {xs:List (PyData×ai×au)} (r:XR a xs) (k:PyData):jw (kQ a k) ((atKey xs k).map (·.2)):=by
 induction r with
 | nil=>exact True.intro
 | @cons p q d Q h t i =>
   obtain ⟨H,c,b⟩:=h
   unfold kQ atKey at i |-
   rw [aa6,aa6,H]
   by_cases e:q.1=k
   . rw [aaE e];exact b
   . rw [aal e];exact i
def HI {a:wa} {xs:List (PyData×ai×au)} (r:XR a xs) (k:PyData) {b:ai} {u:au} (R:RelV v u):XR (kn a k b v) (storedH xs k b u):=by
 unfold kn storedH
 have e:(kQ a k).isSome=(atKey xs k).isSome:=by rw [(sU r k).pW,ac9]
 rw [e]
 by_cases q:(atKey xs k).isSome=true
 .
  rw [aan q,aan q]
  clear e q
  induction r with
  | nil=>exact .nil
  | @cons p q f Q h t i =>
    refine .cons ?_ i
    obtain ⟨H,c,d⟩:=h
    unfold putAt
    dsimp only
    by_cases e:q.1=k
    . rw [aan e,aan (H.trans e)];exact ⟨H,c,R⟩
    . rw [aam e,aam (λ z=>e (H.symm.trans z))];exact ⟨H,c,d⟩
 . rw [aam q,aam q]
   exact adj r ⟨rfl,rfl,R⟩
def AG (a:wa) (k:PyData) (b:ai) (v:V):(kn a k b v).length<=a.length+1:=by
 unfold kn
 split<;>simp
def I0 {a:wa} {k:PyData} {b:ai} {e:PyData×ai×V} (h:e∈kn a k b v):(∃ E∈a,E.1=e.1/\E.2.1=e.2.1)\/e=(k,b,v):=by
 unfold kn at h
 split at h
 . obtain ⟨x,H,rfl⟩:=aat.mp h
   refine .inl ⟨x,H,?_⟩
   split<;>exact ⟨rfl,rfl⟩
 . rcases aaR.mp h with z|z
   . exact .inl ⟨e,z,rfl,rfl⟩
   . exact .inr (aai.mp z)
def tR (a:wa) (k k':PyData) (b:ai) (v:V):kQ (kn a k b v) k'=if k'=k then some v else kQ a k':=by
 unfold kn
 by_cases q:(kQ a k).isSome=true
 .
  rw [aan q]
  by_cases e:k'=k
  .
   rw [aan e]
   subst e
   induction a with
   | nil=>simp [kQ] at q
   | cons x a i =>
     unfold kQ at i q |-
     rw [aaQ,aa6]
     by_cases z:x.1=k'
     . rw [aan z,aaE z];rfl
     . rw [aam z,aal z]
       rw [aa6,aal z] at q
       exact i q
  .
   rw [aam e]
   clear q
   induction a with
   | nil=>rfl
   | cons x a i =>
     unfold kQ at i |-
     rw [aaQ,aa6,aa6]
     by_cases z:x.1=k
     . rw [aan z,aal (λ y:x.1=k'=>e (y.symm.trans z))]
       exact i
     . rw [aam z]
       by_cases c:x.1=k'
       . rw [aaE c]
       . rw [aal c]
         exact i
 .
  rw [aam q]
  have q:kQ a k=none:=by simpa using q
  unfold kQ at q |-
  rw [List.find?_append]
  by_cases e:k'=k
  . rw [aan e,e]
    have z:(a.find? λ x=>decide (x.1=k))=none:=by simpa using q
    rw [z,aa6,aaE rfl]
    rfl
  . rw [aam e,aa6,aal (λ y=>e y.symm),List.find?_nil,Option.or_none]
structure jP (P:bq) (w:bh) (K:aC) (H:Hp) (a:ai) (aE:wa):Prop where
 ob:H a=some (zR P w a aE)
 keys:∀ e∈aE,ja K H e.1 e.2.1
def jP.nil {P:bq} {w:bh} {K:aC} {a:ai} (h:H a=some (zR P w a [])):jP P w K H a []:=⟨h,λ Z h=>absurd h aae⟩
def jP.fT {P:bq} {w:bh} {K:aC} {a:ai} {aE:wa} (x:jP P w K H a aE) (t:bD K H H') (e:H' a=H a):jP P w K H' a aE:=⟨e.trans x.ob,λ y h=>(x.keys y h).ts t⟩
def jP.same {P:bq} {w:bh} {K:aC} {a:ai} {aE:wa} (x:jP P w K H a aE) (s:aD H H'):jP P w K H' a aE:=⟨s _ _ x.ob,λ y h=>(x.keys y h).ts s.ts⟩
def jP.put {P:bq} {w:bh} {K:aC} {a b:ai} {A:wa} {k:PyData} (x:jP P w K H a A) (f:ja K H k b):jP P w K (upd H a (zR P w a (kn A k b v))) a (kn A k b v):=by
 have t:bD K H (upd H a (zR P w a (kn A k b v))):=cO x.ob rfl
 refine ⟨ag,λ e h=>?_⟩
 rcases I0 h with ⟨E,m,c,d⟩|rfl
 . rw [<- c,<- d];exact (x.keys E m).ts t
 . exact f.ts t
section
variable {X:Cx} {pins:List (ai×Obj)} {U:St} {H:Hp} {s:Shared} {a b:ai} {aE:wa} {k:PyData} {v:V}
def jP.dict (I:Inv X pins U H s) (x:jP X.prog X.w X.K H a aE):aE.length<=sizeLine/\(a == sysModules)=false/\∃ xs,XR aE xs/\s.heap.DictOfH (uv X.prog X.w) a xs:=by
 obtain ⟨z,y,xs,r,o,f,E,g,i,j,k,n⟩:=(show c8 X.prog X.w H s.heap a (zR X.prog X.w a aE) from I.cA a _ x.ob).1
 refine ⟨z,y,xs,r,o,f,E,g,i,j,k,λ e b=>?_,n⟩
 have all:∀ {l:wa} {m:List (PyData×ai×au)},XR l m->(∀ e∈l,ja X.K H e.1 e.2.1)->∀ x∈m,Ou s.heap x.1 x.2.1:=by
   intro l m q
   induction q with
   | nil=>intro Z x h;exact absurd h aae
   | @cons p q v Q d t u =>
     intro c x h
     rcases aaa.mp h with e|h
     . subst e
       rw [<- d.1,<- d.2.1]
       exact (c p aaF).is I
     . exact u (λ e b=>c e (aak _ b)) x h
 exact all r x.keys e b
def xc {A:Around} {P:bq} {w:bh} (h:A.units+65<cLine):(uv P w).room A.in1:=by
 show A.in1.units+64<cLine
 rw [adN]
 lia
end
def Qt (P:bq) (w:bh) (K:aC) (t ty:TE):TE:=λ U H Q=>t U H λ x c=>ty U c λ y h=>∃ a b A k v,x = .ref a/\y = .ref b/\jP P w K h a A/\ja K h k b/\kQ A k=some v/\Q v h
inductive KU (P:bq) (w:bh) (K:aC) (y:V) (x:V) (H:Hp) (Q:VK):Prop|mk (a b aE k:_) (_:x = .ref a) (_:y = .ref b) (_:jP P w K H a aE) (_:ja K H k b) (_:Q (.bl (!(kQ aE k).isSome)) H)
def SE (P:bq) (w:bh) (K:aC) (t ty T:TE):TS:=λ D U H=>T U H λ v c=>t U c λ x d=>ty U d λ y h=>∃ a b A k,x = .ref a/\y = .ref b/\jP P w K h a A/\ja K h k b/\A.length<sizeLine /\
 D.nx U (upd h a (zR P w a (kn A k b v)))
def QW (P:bq) (w:bh):TE:=λ Z H Q=>∀ p,H p=none->Q (.ref p) (upd H p (zR P w p []))
def cR.Up {k:Nat} {A:Around} (r:cR k A):A.units+65<cLine:=by have:=r.un;lia
section
variable {X:Cx} {o i e value:Expr} {pos pos':Pos} {td ty tv:TE} {P:bq} {w:bh} {K:aC}
def KO (b:X.prog=P) (hw:X.w=w):PE X (.Dict [] [] pos) (QW P w):=by
 subst b hw
 exact λ p s U H Q I h=>wpAny_Dict_empty ⟨.ref s.heap.objs.size,_,I.laid (a:=s.heap.objs.size) (o:=zR X.prog X.w s.heap.objs.size []) (t':=s.toks) (λ Z Z q=>aac _ q) (aaf _)
   (Mn ⟨aaY _,abo.mpr (abA (aaB I.big)),[],.nil,_,#[],0,aaK _ rfl,⟨rfl,rfl,rfl⟩,rfl,rfl,acy⟩),rfl,h _ (I.cA.fresh (aaf _))⟩
def Lb (q:X.prog=P) (hw:X.w=w) (n:X.K=K) (L:X.A.units+65<cLine) (C:PE X o td) (t:PE X i ty) (J:Nv i):PE X (.Subscript o i pos) (Qt P w K td ty):=by
 subst q hw n
 intro c s U H Q I h
 refine DW PySem.F.slot_dict_getitem.lookup J (cV (C c s U H _ I h) λ u V ⟨x,f,l,S,O⟩=>cV (t c V U f _ l O) λ N s2 ⟨y,j,d,T,a,b,Y,k,v,ex,E,g,B,M,R⟩=>?_)
 subst ex E
 obtain rfl:u=Value.ref a:=S
 obtain rfl:N=Value.ref b:=T
 obtain ⟨z,hd,W,r,D⟩:=g.dict d
 refine ⟨D.typeIs,?_⟩
 obtain ⟨w',hw,e⟩:=jw.some_of (v:=v) (o:=(atKey W k).map (·.2)) (by rw [<- M];exact sU r k)
 obtain ⟨p,G,m⟩:=ab6.mp hw
 refine wpAny_getItem_heap (xc L) (B.is d) D G ?_
 rw [m]
 exact ⟨v,j,d.tok _,e,R⟩
def Ew (e:X.prog=P) (hw:X.w=w) (c:X.K=K) (j:X.A.units+65<cLine):iD X (compareOp .NotIn) (KU P w K):=by
 subst e hw c
 intro p s U H x y v u Q I R m h
 obtain ⟨a,b,n,k,rfl,rfl,g,i,l⟩:=h
 obtain rfl:u=Value.ref a:=m
 obtain rfl:v=Value.ref b:=R
 obtain ⟨z,f,o,r,d⟩:=g.dict I
 refine wpAny_notIn_heap (xc j) (i.is I) f d ⟨.bl _,H,I.tok _,?_,l⟩
 have q:=(sU r k).pW
 rw [ac9] at q
 rw [q]
 rfl
def KD (Q:X.prog=P) (hw:X.w=w) (O:X.K=K) (hu:X.A.units+65<cLine) (Y:PE X o td) (T:PE X i ty) (hv:PE X value tv) (d:swapsWith value (some (.Subscript o i pos')) pos.line X.env=pure false) :
   PS X (.Assign [.Subscript o i pos'] value pos) (SE P w K td ty tv):=by
 subst Q hw O
 intro p s U H D I h
 refine wpAny_Assign_Subscript (cV (hv p s U H _ I h) λ r s1 ⟨v,j,m,rv,q1⟩=>cV (Y p s1 U j _ m q1) λ u s2 ⟨x,l,n,rx,q2⟩=>cV (T p s2 U l _ n q2) λ iv s3 ⟨y,H3,c,ry,a,b,e,k,ex,G,g,V,W,q3⟩=>?_) d
 subst ex G
 obtain rfl:u=Value.ref a:=rx
 obtain rfl:iv=Value.ref b:=ry
 obtain ⟨z,S,xs,R,C⟩:=g.dict c
 have hz:xs.length<=sizeLine:=by rw [<- acb R];exact z
 have B:(kn e k b v).length<=sizeLine:=aaT (AG e k b v) W
 refine wpAny_setItem_heap (hsz:=hz) (xc hu) (V.is c) C λ h' t d=>⟨U,_,?_,q3⟩
 obtain ⟨q,F,E,f,J,L,M,Z,N⟩:=t
 exact sM c (by rw [g.ob];exact True.intro) d ⟨q,f⟩ (Mn ⟨B,S,_,HI R k rv,q,F,E,f,J,L,M,N⟩)
end
section
variable {X:Cx}
inductive X9 (K:aC) (x:V) (y:V) (H:Hp) (Q:VK):Prop|mk (p xs:_) (_:x = .cn) (_:y = .ref p) (_:bi K H p xs) (_:(∀ v∈xs,v = .cn\/∃ a ys,v = .ref a/\bi K H a ys)) (_:Q (.bl (decide (V.cn∈xs))) H)
theorem Gy {s:Shared} {p:List (ai×Obj)} (I:Inv X p U H s) (c:X.A.units+1<cLine):∀ {xs:aA} {B:aZ},Vals xs B->(∀ v∈xs,v = .cn\/∃ a ys,v = .ref a/\bi X.K H a ys) ->
   (∀ u∈B,SeqAt.EqAt X.A.in1 s u .none (u == Value.none))/\(B.any λ u=>u == Value.none)=decide (V.cn∈xs)
 | _,_,.nil,_=>⟨λ Z h=>absurd h aae,rfl⟩
 | x::xs,u::B,.cons r t,h=>by
   obtain ⟨i,g⟩:=Gy I c t λ v f=>h v (aak _ f)
   rcases h x aaF with rfl|⟨a,ys,rfl,d⟩
   .
    obtain rfl:u=Value.none:=r
    refine ⟨λ w b=>?_,?_⟩
    . rcases aaa.mp b with e|b
      . rw [e];exact SeqAt.EqAt.same _
      . exact i w b
    . rw [abJ,aaE (show V.cn∈V.cn::xs from aaF)]
      rfl
   .
    obtain rfl:u=Value.ref a:=r
    obtain ⟨j,Z,k,Z⟩:=I.list d
    refine ⟨λ w b=>?_,?_⟩
    . rcases aaa.mp b with e|b
      . rw [e];exact SeqAt.EqAt.list_none k.isList (by rw [adN];exact c)
      . exact i w b
    . rw [abJ,g]
      have e:(V.cn∈V.ref a::xs)↔V.cn∈xs:=by simp
      rw [show (Value.ref a == Value.none)=false from rfl,Bool.false_or]
      exact (abU.mpr e).symm
def M8 (f:X.A.units+1<cLine):iD X (compareOp .In) (X9 X.K):=by
 intro a s U H x y v u Q I R k h
 obtain ⟨p,m,rfl,rfl,e,i,q⟩:=h
 obtain rfl:u=Value.ref p:=k
 obtain rfl:v=Value.none:=R
 obtain ⟨b,r,j,l⟩:=I.list e
 obtain ⟨c,d⟩:=Gy I f r i
 refine SeqAt.in_listAt (λ u=>u == Value.none) j.isList (λ w g=>c w (by simpa using g)) ⟨.bl _,H,I,rfl,?_⟩
 rw [show (b.toArray.any λ u=>u == Value.none)=(b.any λ u=>u == Value.none) by simp,d]
 exact q
inductive Mi (K:aC) (x:V) (y:V) (H:Hp) (Q:VK):Prop|mk (a b xs ys:_) (_:x = .ref a) (_:y = .ref b) (_:bR K H a xs) (_:bR K H b ys) (_:xs.length+ys.length<=sizeLine) (_:∀ q H',aD H H'->bR K H' q (xs++ys)->Q (.ref q) H')
def JU:iD X (binaryOp .Add) (Mi X.K):=by
 intro d s U H x y v u Q I r R h
 obtain ⟨a,b,m,Y,rfl,rfl,f,g,A,q⟩:=h
 by_cases i:m=[]
 .
  cases r
  cases R
  obtain ⟨B,G,C,Z⟩:=I.tuple f
  obtain ⟨O,L,F,Z⟩:=I.tuple g
  obtain ⟨⟨cls,t,data,sl⟩,l,j,n,k⟩:=id C
  obtain ⟨⟨J,o,D,E⟩,M,S,N,c⟩:=id F
  simp only at j k S c
  subst j k S c
  have w:B=[]:=G.sE.mpr i
  refine concat_meets ⟨_,l,rfl⟩ ⟨_,M,rfl⟩ adI seq_tuple_add acK acC (acA _ _)
    (tuple_addW0 a b B.toArray O.toArray n N t o sl E (by rw [w];rfl)) ⟨l,M,⟨.ref b,H,I,rfl,q b H (aD.refl _) (by rw [i];exact g)⟩⟩
 . exact DT d s U H _ _ v u Q I r R ⟨a,b,m,Y,rfl,rfl,f,g,i,A,λ e=>q a H (aD.refl _) (by rw [e,abb];exact f),λ Z p z=>q p _ (al z) (bR.of ag)⟩
def Az {K:aC} (h:X.K=K):iD X (binaryOp .Add) (Mi K):=by subst h;exact JU
end
abbrev rfs (h d:ai):List (Str×V):=[("hold",.ref h),("spreads",.ref d)]
def ft (m:ap) (i:Nat) (bs:bg) (fired:Bool):Option (bg) :=
 if dE (m.rows.getD i []) (eI m i bs fired) (eE m i bs fired)=true then some (dX (m.rows.getD i []) (eI m i bs fired) (eE m i bs fired)) else none
def fA (L:bZ) (H:Hp) (v:V):Option (bg)->Prop
 | none=>v = .cn
 | some l=>∃ q,v = .ref q/\q∉L/\H q=some (.lst (l.map aq))
def kO (i:Nat) (bs:bg) (f:Bool):PyData:=.tuple [.int i,.tuple (bs.map iS),.int (if f then 1 else 0)]
theorem At:∀ l:bg,AS (l.map iS)=true
 | []=>rfl
 | _::l=>by rw [aaQ,AS,At l];rfl
theorem wA:∀ l:bg,mK (l.map iS)=l.map iS
 | []=>rfl
 | _::l=>by rw [aaQ,mK,wA l];rfl
theorem wm:∀ l:bg,wR (l.map iS)=0
 | []=>rfl
 | _::l=>by rw [aaQ,wR,wm l];rfl
theorem AD:∀ {l r:bg},l.map iS=r.map iS->l=r
 | [],[],_=>rfl
 | [],_::_,h=>by cases h
 | _::_,[],h=>by cases h
 | a::l,b::r,h=>by
   obtain ⟨H,c⟩:=ac5 h
   have H:(a:Int)=(b:Int):=aeb H
   rw [AD c,Int.ofNat.inj H]
def Hh {i I:Nat} {bs S:bg} {f F:Bool} (h:kO i bs f=kO I S F):i=I/\bs=S/\f=F:=by
 have h:=PyData.tuple.inj h
 obtain ⟨H,h⟩:=ac5 h
 obtain ⟨a,h⟩:=ac5 h
 obtain ⟨b,Z⟩:=ac5 h
 refine ⟨Int.ofNat.inj (aeb H),AD (PyData.tuple.inj a),?_⟩
 cases f<;>cases F<;>first|rfl|(exact absurd (aeb b) (by decide))
def Iz {n:Nat} {l:bg}:Df (n+1) (.tuple (l.map iS)):=by
 intro d h
 obtain ⟨i,Z,rfl⟩:=aat.mp h
 cases n<;>exact trivial
section
variable {K:aC} {H H':Hp}
def Ha {p:ai} {l:bg} (h:bR K H p (l.map aq)):Dn K H (.tuple (l.map iS)) (.ref p):=fU h (jc l)
def CY {p b:ai} {i:Nat} {bs:bg} {f:Bool} (h:bR K H p [aq i,.ref b,.bl f]) (c:bR K H b (bs.map aq)):ja K H (kO i bs f) p:=by
 refine ⟨.tuple [.int i,.tuple (bs.map iS),.bool f],fU h (bJ rfl (bJ (Ha c) (bJ rfl gq))),?_,gc (n:=2) ?_ (by decide),?_,?_⟩
 . simp only [kd,AS,At];rfl
 .
  intro d a
  simp only [aaa,aae,aa2] at a
  rcases a with rfl|rfl|rfl
  . exact trivial
  . exact Iz
  . exact trivial
 . simp only [xf,wR,wm];decide
 . simp only [um,mK,wA];rfl
def fA.but {L f:bZ} {d:ai} {o:HO} {r:Option (bg)} (i:H d=some o) (N:∀ xs,o ≠ .lst xs) (b:∀ c u,H c=some u->c≠d->c∉L->H' c=some u) (g:∀ c∈f,c∈L) (h:fA L H v r):fA f H' v r:=by
 cases r with
 | none=>exact h
 | some l =>
   obtain ⟨q,e,n,a⟩:=h
   exact ⟨q,e,λ z=>n (g q z),b q _ a (λ z=>by rw [z,i] at a;exact N _ (aaj a)) n⟩
def fA.same {L:bZ} {r:Option (bg)} (s:aD H H') (h:fA L H v r):fA L H' v r:=by
 cases r with
 | none=>exact h
 | some l =>
   obtain ⟨q,e,n,a⟩:=h
   exact ⟨q,e,n,s _ _ a⟩
def fA.new {L:bZ} {D:ai} {r:Option (bg)} (b:H D=none) (h:fA L H v r):fA (D::L) H v r:=by
 cases r with
 | none=>exact h
 | some l =>
   obtain ⟨q,e,n,a⟩:=h
   exact ⟨q,e,λ z=>(aaa.mp z).elim (λ z=>by rw [z,b] at a;cases a) n,a⟩
end
def nu {P:bq} {w:bh} {a:ai} {A:wa} (xs:aA):zR P w a A ≠ .lst xs:=λ h=>by cases h
structure gF (P:bq) (w:bh) (K:aC) (C CR:ai) (L:bZ) (H:Hp) (x d a:ai) (fp:bZ) (m:ap) (c:Nat):Prop where
 ins:∃ dx,H x=some (.ins CR dx (rfs a d))
 hold:aV K C H a fp m
 nd:d∉fp
 U5:∃ aE,jP P w K H d aE/\aE.length<=c/\∀ i bs f v,kQ aE (kO i bs f)=some v->fA L H v (ft m i bs f)
section
variable {P:bq} {w:bh} {K:aC} {C CR:ai} {L L':bZ} {H H':Hp} {x d a:ai} {fp:bZ} {m:ap} {c:Nat}
theorem gF.same (r:gF P w K C CR L H x d a fp m c) (s:aD H H'):gF P w K C CR L H' x d a fp m c:=by
 obtain ⟨⟨D,l⟩,h,n,A,g,j,k⟩:=r
 exact ⟨⟨D,s _ _ l⟩,h.same s,n,A,g.same s,j,λ i b f v e=>(k i b f v e).same s⟩
def gF.more (r:gF P w K C CR L H x d a fp m c) {c':Nat} (h:c<=c'):gF P w K C CR L H x d a fp m c':=by
 obtain ⟨i,b,n,A,e,f,g⟩:=r
 exact ⟨i,b,n,A,e,aaT f h,g⟩
def gF.less (r:gF P w K C CR L H x d a fp m c) (h:∀ b∈L',b∈L):gF P w K C CR L' H x d a fp m c:=by
 obtain ⟨i,j,n,A,g,k,l⟩:=r
 exact ⟨i,j,n,A,g,k,λ i B f v e=>(l i B f v e).but g.ob nu (λ Z Z e Z Z=>e) h⟩
theorem gF.new (r:gF P w K C CR L H x d a fp m c) {D:ai} (h:H D=none):gF P w K C CR (D::L) H x d a fp m c:=by
 obtain ⟨i,g,n,A,j,k,l⟩:=r
 exact ⟨i,g,n,A,j,k,λ i b f v e=>(l i b f v e).new h⟩
def gF.write (r:gF P w K C CR L H x d a fp m c) {D:ai} {xs ys:aA} (h:H D=some (.lst xs)) (p:D∈L) (nf:D∉fp):gF P w K C CR L (upd H D (.lst ys)) x d a fp m c:=by
 obtain ⟨⟨l,j⟩,q,y,A,g,s,u⟩:=r
 have t:bD K H (upd H D (.lst ys)):=cO h rfl
 have B:∀ b o,H b=some o->b≠D->(upd H D (.lst ys)) b=some o:=λ b o e n=>by rw [aB n];exact e
 have nx:x≠D:=λ z=>by rw [z,h] at j;cases j
 have N:d≠D:=λ z=>by have:=g.ob;rw [z,h] at this;cases this
 exact ⟨⟨l,B _ _ j nx⟩,q.Fx B t nf,y,A,g.fT t (aB N),s,λ i k f v e=>(u i k f v e).but g.ob nu (λ b o e Z n=>B b o e λ z=>n (z ▸ p)) λ Z h=>h⟩
theorem gF.put (r:gF P w K C CR L H x d a fp m c) {A:wa} {i:Nat} {bs:bg} {f:Bool} {b:ai} (g:jP P w K H d A) (u:A.length<=c) (y:∀ i bs f v,kQ A (kO i bs f)=some v->fA L H v (ft m i bs f)) (p:ja K H (kO i bs f) b) (l:fA L H v (ft m i bs f)) :
   gF P w K C CR L (upd H d (zR P w d (kn A (kO i bs f) b v))) x d a fp m (c+1)/\nB [d] H (upd H d (zR P w d (kn A (kO i bs f) b v)))/\bD K H (upd H d (zR P w d (kn A (kO i bs f) b v)))/\fA L (upd H d (zR P w d (kn A (kO i bs f) b v))) v (ft m i bs f):=by
 obtain ⟨⟨D,k⟩,s,N,Z⟩:=r
 have B:∀ j o,H j=some o->j≠d->(upd H d (zR P w d (kn A (kO i bs f) b v))) j=some o:=λ c o e n=>by rw [aB n];exact e
 have t:bD K H (upd H d (zR P w d (kn A (kO i bs f) b v))):=cO g.ob rfl
 have nx:x≠d:=λ z=>by rw [z,g.ob] at k;cases k
 refine ⟨⟨⟨D,by rw [aB nx];exact k⟩,s.Fx B t N,N,_,g.put p,aaT (AG ..) (Nat.succ_le_succ u),λ I S F V e=>?_⟩,λ c o e n=>B c o e λ z=>n (aai.mpr z),t,l.but g.ob nu (λ c o e n Z=>B c o e n) λ Z h=>h⟩
 rw [tR] at e
 by_cases q:kO I S F=kO i bs f
 .
  rw [aan q] at e
  obtain ⟨rfl,rfl,rfl⟩:=Hh q
  cases e
  exact l.but g.ob nu (λ c o e n Z=>B c o e n) λ Z h=>h
 . rw [aam q] at e
   exact (y I S F V e).but g.ob nu (λ c o e n Z=>B c o e n) λ Z h=>h
end
def cE (rows:List (bg)):List (bg):=rows.foldl (λ C r=>C.flatMap λ c=>r.map λ b=>c++[b]) [[]]
def j7 (rows:List (bg)) (r:bg):cE (rows++[r])=(cE rows).flatMap λ c=>r.map λ b=>c++[b]:=by
 unfold cE
 rw [abe]
 rfl
theorem oY {b c:Type} {k:Nat} {f:b->List c}:∀ {l:List b},(∀ a,(f a).length<=k)->(l.flatMap f).length<=l.length * k
 | [],_=>by simp
 | a::l,h=>by
   rw [List.flatMap_cons,aad,aaD,Nat.succ_mul]
   have:=oY (l:=l) h
   have:=h a
   lia
theorem jv {rows:List (bg)} (h:∀ r∈rows,r.length<=6):∀ i,(cE (rows.take i)).length<=6 ^ i
 | 0=>by rw [List.take_zero];decide
 | i+1=>by
   by_cases hi:i<rows.length
   . rw [List.take_succ_eq_append_getElem hi,j7]
     refine aaT (oY (k:=6) λ a=>by rw [OS];exact h _ (aag hi)) ?_
     rw [acO]
     exact ad3 6 (jv h i)
   . have e:rows.take (i+1)=rows.take i:=by rw [abM (by lia),abM (by lia)]
     rw [e,acO]
     have:=jv h i
     lia
def snoc_ind {b:Type} {p:List b->Prop} (h:p []) (H:∀ l a,p l->p (l++[a])) (l:List b):p l:=by
 rw [<- List.reverse_reverse l]
 induction l.reverse with
 | nil=>exact h
 | cons a r i=>rw [List.reverse_cons];exact H _ _ i
def lD {rows:List (bg)}:∀ {c:bg},c∈cE rows↔c.length=rows.length/\∀ i,i<rows.length->c.getD i 0∈rows.getD i []:=by
 refine snoc_ind (p:=λ rows=>∀ {c:bg},c∈cE rows↔c.length=rows.length/\∀ i,i<rows.length->c.getD i 0∈rows.getD i []) ?_ ?_ rows
 .
  intro c
  constructor
  . intro h
    have:c=[]:=by simpa [cE] using h
    rw [this]
    exact ⟨rfl,λ i h=>absurd h (abN _)⟩
  . rintro ⟨h,Z⟩
    rw [ab4.mp h]
    simp [cE]
 .
  intro rows r I c
  rw [j7,adk]
  constructor
  .
   rintro ⟨a,H,h⟩
   obtain ⟨b,d,rfl⟩:=aat.mp h
   obtain ⟨l,hi⟩:=I.mp H
   refine ⟨by rw [aad,aad,l];rfl,λ i h=>?_⟩
   rw [aad,aa8] at h
   by_cases e:i<rows.length
   . rw [BO,BO,aaA (l₁:=a) (by lia),aaA e]
     have:=hi i e
     rw [BO,BO] at this
     exact this
   . have e:i=rows.length:=by lia
     subst e
     rw [BO,BO,<- l,aco,l,aco]
     exact d
  .
   rintro ⟨l,hi⟩
   rw [aad,aa8] at l hi
   have n:c≠[]:=λ z=>by rw [z] at l;simp at l
   refine ⟨c.dropLast,I.mpr ⟨by rw [List.length_dropLast,l];rfl,λ i h=>?_⟩,aat.mpr ⟨c.getLast n,?_,List.dropLast_concat_getLast n⟩⟩
   . have:=hi i (by lia)
     rw [BO,BO,aaA h] at this
     rw [BO,BO,List.getElem?_dropLast,aan (by lia)]
     exact this
   .
    have:=hi rows.length (by lia)
    rw [BO,BO,aco] at this
    rw [List.getLast_eq_getElem]
    rw [aaM (by lia)] at this
    have e:c.length - 1=rows.length:=by lia
    simp only [e]
    exact this
inductive A7 (a b c d e f g:Prop):Prop|mk (_:a) (_:b) (_:c) (_:d) (_:e) (_:f) (_:g)
def va (m:ap) (s:dD) (b i:Nat):Option (bg):=ft m i s.bL (b.testBit i)
def kJ (m:ap) (s:dD) (b:Nat):Bool:=(List.range m.rows.length).all λ i=>(va m s b i).isSome
def jt (m:ap) (s:dD) (b:Nat):List (bg):=(List.range m.rows.length).map λ i=>(va m s b i).getD []
def mn (m:ap) (s:dD) (o O:Nat):List dD:=(cE (jt m s (Ord.off o O))).map λ c=>s.behind m c o O
def gJ (m:ap) (s:dD) (o:Nat):bg:=Bit.parts (Bit.rooms (s.may m o))
def EN (m:ap) (s:dD) (o:Nat):List dD:=(gJ m s o).flatMap (mn m s o)
def Refs {b:Type} (R:ai->b->Prop) (xs:aA) (l:List b):Prop:=Paired (λ v a=>∃ p,v = .ref p/\R p a) xs l
def Refs.imp {b:Type} {R S:ai->b->Prop} {xs:aA} {l:List b} (h:Refs R xs l) (f:∀ p a,R p a->S p a):Refs S xs l:=Paired.HV h λ Z Z ⟨p,e,r⟩=>⟨p,e,f p _ r⟩
theorem Refs.nil {a:Type} {R:ai->a->Prop}:Refs R [] ([]:List a):=Paired.nil
def Refs.snoc {b:Type} {R:ai->b->Prop} {xs:aA} {l:List b} {p:ai} {a:b} (h:Refs R xs l) (r:R p a):Refs R (xs++[.ref p]) (l++[a]):=adj h ⟨p,rfl,r⟩
theorem Refs.append {b:Type} {R:ai->b->Prop}:∀ {xs ys:aA} {l r:List b},Refs R xs l->Refs R ys r->Refs R (xs++ys) (l++r)
 | _,_,_,_,Paired.nil,h=>h
 | _,_,_,_,Paired.cons a t,h=>Paired.cons a (Refs.append t h)
theorem Refs.length {a:Type} {R:ai->a->Prop} {xs:aA} {l:List a} (h:Refs R xs l):xs.length=l.length:=acb h
theorem Refs.get {b:Type} {R:ai->b->Prop}:∀ {xs:aA} {l:List b} {i:Nat} {v:V},Refs R xs l->xs[i]?=some v->∃ p a,v = .ref p/\l[i]?=some a/\R p a
 | _,_,_,_,Paired.nil,h=>by simp at h
 | _,_,0,_,Paired.cons ⟨p,e,r⟩ _,h=>by simp at h;exact ⟨p,_,by rw [<- h,e],rfl,r⟩
 | _,_,i+1,_,Paired.cons _ t,h=>by
   obtain ⟨p,a,H,c,d⟩:=Refs.get (i:=i) t (by simpa using h)
   exact ⟨p,a,H,by simpa using c,d⟩
abbrev Kj (K:aC) (H:Hp):aA->List (bg)->Prop:=Refs λ t c=>bR K H t (c.map aq)
abbrev zG (K:aC) (H:Hp):aA->List dD->Prop:=Refs (hG K H)
def Ol (m:ap) (s:dD):Prop:=∀ i b,i<m.rows.length->(b=true->m.has i=true)->dH 1000 (eI m i s.bL b)/\dH 1000 (eE m i s.bL b)
section
variable (P:bq) (w:bh) (K:aC) (C CR:ai)
inductive FG (vs:aA) (H:Hp) (Q:VK) (_E:XK):Prop|mk (a fp m:_) (i:Nat) (r v1 v2 f g:_) (_:vs=[.ref a,aq i,v1,v2]) (_:aV K C H a fp m) (_:m.rows[i]?=some r) (_:Dn K H (dO f) v1) (_:Dn K H (dO g) v2) (_:dH 1000 f) (_:dH 1000 g) (_:∀ p H',H p=none->aD H H'->H' p=some (.lst ((dX r f g).map aq))->Q (.ref p) H')
inductive Ci (vs:aA) (H:Hp) (Q:VK) (_E:XK):Prop|mk (p xs rows:_) (_:vs=[.ref p]) (_:bi K H p xs) (_:Refs (λ q (r:bg)=>bi K H q (r.map aq)) xs rows) (_:rows.length<=4) (_:(∀ r∈rows,r.length<=6)) (_:∀ q ys H',aD H H'->H' q=some (.lst ys)->Kj K H' ys (cE rows)->Q (.ref q) H')
inductive EA (vs:aA) (H:Hp) (Q:VK) (_E:XK):Prop|mk (x dx a fp m:_) (_:vs=[.ref x,.ref a]) (_:H x=some (.ins CR dx [])) (_:aV K C H a fp m) (_:x∉fp) (_:∀ d H',nB [x] H H'->bD K H H'->H d=none->gF P w K C CR [] H' x d a fp m 0->Q .cn H')
inductive EM (vs:aA) (H:Hp) (Q:VK) (_E:XK):Prop|mk (x d a fp m c:_) (i:Nat) (pb bs f L:_) (_:vs=[.ref x,aq i,.ref pb,.bl f]) (_:gF P w K C CR L H x d a fp m c) (_:(∀ b∈L,H b≠none)) (_:c<=16000000) (_:i<m.rows.length) (_:bR K H pb (bs.map aq)) (_:bs.length=m.rows.length) (_:(∀ j,j<m.rows.length->bs.getD j 0+1<(m.rows.getD j []).length)) (_:(f=true->∃ z,m.aH[i]?=some (some z))) (_:dH 1000 (eI m i bs f)) (_:dH 1000 (eE m i bs f)) (_:∀ v H',nB [d] H H'->bD K H H'->gF P w K C CR L H' x d a fp m (c+1)->fA L H' v (ft m i bs f)->Q v H')
inductive FE (vs:aA) (H:Hp) (Q:VK) (_E:XK):Prop|mk (x d a fp m c p s:_) (o:Nat) (L:_) (_:vs=[.ref x,.ref p,aq o]) (_:gF P w K C CR L H x d a fp m c) (_:(∀ b∈L,H b≠none)) (_:c<=15000000) (_:hG K H p s) (_:gW m s) (_:o &&& m.ws=o) (_:(∀ out∈gJ m s o,ck m s o out)) (_:Ol m s) (_:((∃ out∈gJ m s o,kJ m s (Ord.off o out)=false)->∀ H',nB [d] H H'->bD K H H'->gF P w K C CR L H' x d a fp m (c+64)->Q .cn H')) (_:((∀ out∈gJ m s o,kJ m s (Ord.off o out)=true)->∀ q xs H',H q=none->nB [d] H H'->bD K H H'->gF P w K C CR L H' x d a fp m (c+64)->H' q=some (.lst xs)->zG K H' xs (EN m s o)->Q (.ref q) H'))
inductive Ag (vs:aA) (H:Hp) (Q:VK) (_E:XK):Prop|mk (a fp m p s:_) (o:Nat) (_:vs=[.ref a,.ref p,aq o]) (_:aV K C H a fp m) (_:hG K H p s) (_:gW m s) (_:o &&& m.ws=o) (_:(∀ out∈gJ m s o,ck m s o out)) (_:Ol m s) (_:((∃ out∈gJ m s o,kJ m s (Ord.off o out)=false)->∀ H',aD H H'->Q .cn H')) (_:((∀ out∈gJ m s o,kJ m s (Ord.off o out)=true)->∀ q xs H',aD H H'->H' q=some (.lst xs)->zG K H' xs (EN m s o)->Q (.ref q) H'))
end
theorem Ea {L:bZ}:∀ {acc:aA} {R:List (Option (bg))},Paired (fA L H) acc R->∀ v∈acc,v = .cn\/∃ a ys,v = .ref a/\H a=some (.lst ys)
 | _,_,Paired.nil,v,h=>absurd h aae
 | _,r::_,Paired.cons a t,v,h=>by
   rcases aaa.mp h with e|h
   . subst e
     cases r with
     | none=>exact .inl a
     | some l=>obtain ⟨q,e,Z,b⟩:=a;exact .inr ⟨q,_,e,b⟩
   . exact Ea t v h
theorem uN {L:bZ}:∀ {acc:aA} {R:List (Option (bg))},Paired (fA L H) acc R->(V.cn∈acc↔none∈R)
 | _,_,Paired.nil=>by simp
 | _,r::_,Paired.cons a t=>by
   rw [aaa,aaa,uN t]
   cases r with
   | none=>have a:_=V.cn:=a;rw [a];simp
   | some l=>obtain ⟨q,e,Z⟩:=a;rw [e];simp
theorem zO {L:bZ}:∀ {acc:aA} {R:List (Option (bg))},Paired (fA L H) acc R->none∉R->Refs (λ q (r:bg)=>H q=some (.lst (r.map aq))) acc (R.map λ r=>r.getD [])
 | _,_,Paired.nil,_=>Paired.nil
 | _,r::_,Paired.cons a t,h=>by
   rw [aaa,ach] at h
   cases r with
   | none=>exact absurd rfl h.1
   | some l=>obtain ⟨q,e,Z,b⟩:=a;exact Paired.cons ⟨q,e,b⟩ (zO t h.2)
def wF {m:ap} {s:dD} {b:Nat}:none∈(List.range m.rows.length).map (va m s b)↔kJ m s b=false:=by
 unfold kJ
 rw [List.all_eq_false,aat]
 constructor
 . rintro ⟨i,hi,e⟩;exact ⟨i,hi,by rw [e];decide⟩
 . rintro ⟨i,hi,e⟩;exact ⟨i,hi,by simpa using e⟩
def Kc (m:ap) (s:dD) (b:Nat):((List.range m.rows.length).map (va m s b)).map (λ r=>r.getD [])=jt m s b:=by
 unfold jt
 rw [abP]
 rfl
def zV {m:ap} (w:m.Wf) {s:dD} {b:Nat}:∀ r∈jt m s b,r.length<=6:=λ r h=>by
 obtain ⟨i,hi,rfl⟩:=aat.mp h
 have hi:=aaH.mp hi
 have H:=w.len _ (aag hi)
 unfold va ft
 rw [BO,ar hi]
 split
 .
  have:=rg m.rows[i] (eI m i s.bL (b.testBit i)) (eE m i s.bL (b.testBit i)) (m.rows[i].length - 1)
  show (dX m.rows[i] _ _).length<=6
  unfold dX
  lia
 . exact aaY _
def nF {m:ap} (w:m.Wf) (h:m.rows.length<=4) {s:dD} {o:Nat} (O:Nat):(mn m s o O).length<=1296:=by
 unfold mn
 rw [OS]
 have l:(jt m s (Ord.off o O)).length=m.rows.length:=by unfold jt;rw [OS,aaw]
 have:=jv (zV w (s:=s) (b:=Ord.off o O)) 4
 rw [abM (by lia)] at this
 exact this
def Gq {n:Nat} (h:n<16):(Bit.rooms n).length<=8/\(Bit.parts (Bit.rooms n)).length<=16:=by
 have:∀ b:Fin 16,(Bit.rooms b.val).length<=8/\(Bit.parts (Bit.rooms b.val)).length<=16:=by decide +kernel
 exact this ⟨n,h⟩
section
variable {n:Nat} {tm:av} {s:dD}
def R1 (ok:tm.Ok n n) (N:n<=4) (S:gW (tm.m2 n n) s):mC tm n s.bL:=by
 have H:(tm.m2 n n).rows.length=n:=by rw [(eR tm n n).1,OS,aax,ok.lm];lia
 refine ⟨by rw [S.lb,H],λ j h=>?_⟩
 have:=S.band j (by lia)
 rw [lV ok h] at this
 unfold av.row at this
 rw [OS] at this
 unfold gN at this
 rw [BO]
 exact this
end
section
variable {n:Nat}
def wk {n:Nat} (h:n<16):Bit.parts (Bit.rooms n)≠[]/\∀ out∈Bit.parts (Bit.rooms n),out<16/\out &&& n=out:=by
 have:∀ b:Fin 16,Bit.parts (Bit.rooms b.val)≠[]/\∀ out∈Bit.parts (Bit.rooms b.val),out<16/\out &&& b.val=out:=by decide +kernel
 exact this ⟨n,h⟩
end
def oX.Pp {P:bq} {w:bh} {K:aC} {M:cy} {base:aU} {C:ai} {m:Str} {k:Nat} {p:cp} {c:aZ} {s:Sp} (D:oX P w K M base C m k p c s):hZ P w K M base C m k p c (λ vs H Q Z=>s vs H Q E0) :=
 let ⟨f,F,a,b,d⟩:=D;⟨f,F,a,b,d.Vi⟩
def wP.Vi {P:bq} {w:bh} {K:aC} {M:cy} {base:aU} {C:ai} {m:Str} {k:Nat} {p:cp} {g:aA} {s:Sp} (D:wP P w K M base C m k p g s):uJ P w K M base C m k p g (λ vs H Q Z=>s vs H Q E0) :=
 let ⟨d,a,b⟩:=D;⟨d,a,b.Pp⟩
def av.num (tm:av) (n:Nat) (bs:bg) (b:Nat) (c:bg) (h:Bool) (i:Nat):Int :=
 if h then min (tm.s1 n i bs (b.testBit i)) (12 * tm.rE i (c.getD i 0+1)) else max (tm.s0 n i bs (b.testBit i)) (12 * tm.rE i (c.getD i 0))
def CB {p l:Int} (h:lo<=hi) (L:0<=l) (c:l<=p):p * lo<=lo * (p - l)+hi * l/\lo * (p - l)+hi * l<=p * hi:=by
 have a:0<=(hi - lo) * l:=abL (by lia) L
 have b:0<=(hi - lo) * (p - l):=abL (by lia) (by lia)
 have e:lo * (p - l)+hi * l=p * lo+(hi - lo) * l:=by grind
 have E:lo * (p - l)+hi * l=p * hi - (hi - lo) * (p - l):=by grind
 lia
def Ir {k p x:Int} (k0:0<=k) (h:p * lo<=x/\x<=p * hi):p * (k * lo)<=k * x/\k * x<=p * (k * hi):=by
 have a:=aay h.1 k0
 have b:=aay h.2 k0
 have e:k * (p * lo)=p * (k * lo):=by grind
 have E:k * (p * hi)=p * (k * hi):=by grind
 lia
def Gr {p a b c d x y:Int} (h:p * a<=x/\x<=p * b) (g:p * c<=y/\y<=p * d):p * (a+c)<=x+y/\x+y<=p * (b+d):=by
 rw [Int.mul_add,Int.mul_add]
 lia
def yc {p x b:Int} {n:Nat} (i:0<p) (c:p<=10 ^ 9) (h:p * (-b)<=x/\x<=p * b) (a:b<=2 ^ n) (B:0<=b):Bd (n+31) x:=by
 have d:p * b<=10 ^ 9 * 2 ^ n:=adB c a B (by decide)
 have e:p * (-b) = -(p * b):=by grind
 have f:((2 ^ (n+31):Nat):Int)=2 ^ 31 * 2 ^ n:=by rw [Nat.pow_add,Int.natCast_mul,abr,adt];rfl
 have H:(0:Int)<2 ^ n:=by exact Int.pow_pos (by decide)
 have g:(10:Int) ^ 9 * 2 ^ n<2 ^ 31 * 2 ^ n:=abj (by decide) H
 show x.natAbs<2 ^ (n+31)
 lia
section
variable {tm:av} {n i:Nat}
def LL {bs:bg} {j:Nat} (ok:tm.Ok n n) (h:j<n) (H:mC tm n bs):tm.xl bs 0 j<=tm.xl bs 1 j/\(-200<=tm.xl bs 0 j/\tm.xl bs 0 j<=200)/\(-200<=tm.xl bs 1 j/\tm.xl bs 1 j<=200):=by
 obtain ⟨f,g,e,B,a⟩:=j1 (b:=bs.getD j 0) ok h (by have:=H.lt j h;lia)
 obtain ⟨Z,i,E,c,d⟩:=j1 (b:=bs.getD j 0+1) ok h (H.lt j h)
 have J:=(ok.rows tm.marks[j] (aag f)).Jg _ _ _ (ar g) (ar i)
 rw [<- e,<- E] at J
 exact ⟨aaP J,⟨B,a⟩,c,d⟩
theorem Ae {l:List Int} {c w:Int} (H:c * l.getD 0 0<=w):∀ t,t<l.length->w<=c * l.getD t 0->0<t->∃ b,b<t/\c * l.getD b 0<=w/\w<=c * l.getD (b+1) 0
 | 0,_,_,h=>absurd h (aa9 0)
 | t+1,d,hw,_=>by
   by_cases h:c * l.getD t 0<=w
   . exact ⟨t,acf t,h,hw⟩
   .
    have h':w<c * l.getD t 0:=Int.not_le.mp h
    cases t with
    | zero=>exact absurd H h
    | succ t =>
      obtain ⟨b,B,a⟩:=Ae H (t+1) (Nat.lt_of_succ_lt d) (aaP h') (Nat.succ_pos t)
      exact ⟨b,ab8 B,a⟩
end
def av.bw (tm:av) (i:Nat) (p w:Int):bg:=(List.range ((tm.marks.getD i []).length - 1)).filter λ b=>decide (12 * p * tm.rE i b<=w) && decide (w<=12 * p * tm.rE i (b+1))
def Md (tm:av) (n:Nat) (bs:bg) (b:Nat) (p:Int) (i:Nat) (w:Int):Prop:=p * tm.s0 n i bs (b.testBit i)<=w/\w<=p * tm.s1 n i bs (b.testBit i)
section
variable {tm:av} {n i b:Nat} {bs:bg} {p w:Int}
def Md.bd (h:Md tm n bs b p i w) (ok:tm.Ok n n) (N:n<=4) (d:i<n) (H:mC tm n bs) (a:0<p) (e:p<=10 ^ 9):Bd 43 w:=by
 obtain ⟨A,c,Z⟩:=TU (f:=b.testBit i) ok N d H
 refine yc (n:=12) (b:=3000) a e ⟨abt ?_ h.1,abt h.2 ?_⟩ (by decide) (by decide)
 . exact aay A.1 (aaP a)
 . exact aay c.2 (aaP a)
def NW (ok:tm.Ok n n) (a:0<p) (b:p<=10 ^ 9) (hw:Bd 43 w):dH 1000 (aT w (12 * p) tm.scale) :=
 (oF (n:=43) ok.scale (by lia) hw (show (12 * p).natAbs<2 ^ 43 by lia)).mono (by decide)
def Md.spans (h:Md tm n bs b p i w) (W:(tm.m2 n n).Wf) (ok:tm.Ok n n) (N:n<=4) (a:i<n) (H:mC tm n bs) (c:b.testBit i=true->(tm.m2 n n).has i=true) (d:0<p) :
   aN (aT w (12 * p) tm.scale) (eI (tm.m2 n n) i bs (b.testBit i))=false/\aN (eE (tm.m2 n n) i bs (b.testBit i)) (aT w (12 * p) tm.scale)=false:=by
 obtain ⟨e,E⟩:=m7 W ok N a H c
 have q:0<12 * p:=by lia
 have g:=h.1
 have G:=h.2
 rw [e,E,eJ ok.scale q (by decide),eJ ok.scale (by decide) q]
 have m:tm.s0 n i bs (b.testBit i) * (12 * p)=12 * (p * tm.s0 n i bs (b.testBit i)):=by grind
 have M:tm.s1 n i bs (b.testBit i) * (12 * p)=12 * (p * tm.s1 n i bs (b.testBit i)):=by grind
 exact ⟨aal (by lia),aal (by lia)⟩
def GD (ok:tm.Ok n n) (a:i<n) (c:0<p) {z:Nat} (b:z∈tm.bw i p w):(z:Int)∈(dX ((tm.m2 n n).rows.getD i []) (aT w (12 * p) tm.scale) (aT w (12 * p) tm.scale)).map (λ n:Nat=>(n:Int)):=by
 obtain ⟨h,H⟩:=aaW.mp b
 have h:=aaH.mp h
 simp only [aaq,aaS] at H
 have q:0<12 * p:=by lia
 rw [vP,lV ok a,aaX]
 unfold av.rE at H
 generalize tm.marks.getD i []=l at h H
 have e:(tm.row l).length=l.length:=by unfold av.row;rw [OS]
 refine ⟨abi z,by rw [e];exact h,?_⟩
 unfold jX
 rw [jH (by lia),jH (by lia),eJ ok.scale q (by decide),eJ ok.scale (by decide) q]
 have m:l.getD z 0 * (12 * p)=12 * p * l.getD z 0:=abr _ _
 have M:l.getD (z+1) 0 * (12 * p)=12 * p * l.getD (z+1) 0:=abr _ _
 simp only [aaq,aby,acB]
 lia
def Ms {z:Nat} (h:z∈tm.bw i p w):z+1<(tm.marks.getD i []).length:=by
 have:=aaH.mp (aaW.mp h).1
 lia
def NP (ok:tm.Ok n n) (H:i<n) (f:0<p) (h:tm.bw i p w=[]):dE ((tm.m2 n n).rows.getD i []) (aT w (12 * p) tm.scale) (aT w (12 * p) tm.scale)=false:=by
 have q:0<12 * p:=by lia
 have x:i<tm.marks.length:=by rw [ok.lm];exact H
 have L:2<=(tm.marks.getD i []).length:=by
   rw [BO,ar x]
   exact (ok.rows tm.marks[i] (aag x)).two
 rw [lV ok H]
 have N:∀ z,z<(tm.marks.getD i []).length - 1->¬ (12 * p * tm.rE i z<=w/\w<=12 * p * tm.rE i (z+1)):=λ z a c=>by
   have:z∈tm.bw i p w:=aaW.mpr ⟨aaH.mpr a,by simp only [aaq,aaS];exact c⟩
   rw [h] at this
   exact aae this
 unfold av.rE at N
 generalize tm.marks.getD i []=l at L N
 have e:(tm.row l).length=l.length:=by unfold av.row;rw [OS]
 unfold dE
 rw [e,jH (by lia),jH (by lia),eJ ok.scale q (by decide),eJ ok.scale (by decide) q]
 cases c:(!decide (w * 1<l.getD 0 0 * (12 * p)) && !decide (l.getD (l.length - 1) 0 * (12 * p)<w * 1)) with
 | false=>rfl
 | true =>
   simp only [aaq,aby,acB] at c
   rw [Int.mul_one,abr _ (12 * p),abr _ (12 * p)] at c
   obtain ⟨z,b,d⟩:=Ae (c:=12 * p) (ade.mp c.1) (l.length - 1) (by lia) (ade.mp c.2) (by lia)
   exact absurd d (N z b)
end
def Cc {r:List ce} {f lo H:ce} (p:0<f.2) (g:0<lo.2) (i:0<H.2) (q:0<(r.getD 0 (0,1)).2) (Q:0<(r.getD (r.length - 1) (0,1)).2) (d:aN f lo=false) (e:aN H f=false) (h:dE r f f=false):dE r lo H=false:=by
 have t:∀ {a b c:ce},0<a.2->0<b.2->0<c.2->aN a b=false->aN b c=false->aN a c=false:=λ {a b c} j k l x y=>by
   unfold aN at x y |-
   have x:=ade.mp (acp x)
   have y:=ade.mp (acp y)
   refine aal (ade.mpr ?_)
   have u:=ace x (aaP l)
   have v:=ace y (aaP j)
   have E:b.1 * a.2 * c.2=b.1 * c.2 * a.2:=by grind
   have m:c.1 * b.2 * a.2=c.1 * a.2 * b.2:=by grind
   have n:a.1 * b.2 * c.2=a.1 * c.2 * b.2:=by grind
   exact Int.le_of_mul_le_mul_right (by lia:c.1 * a.2 * b.2<=a.1 * c.2 * b.2) k
 cases c:dE r lo H with
 | false=>rfl
 | true =>
   unfold dE at c h
   simp only [aaq,aby] at c
   rw [t p g q d c.1,t Q i p c.2 e] at h
   cases h
def NX {sq:Hp->ai->aA->Prop} {a:ai} {xs:aA} {g:TG} {tb:TS} {D:Ends} (b:Nat->St->Hp->Prop) (f:b 0 U H) (k:∀ i U H,i<=xs.length->b i U H->sq H a xs) (n:∀ i x p U H,xs[i]?=some x->H p=none->b i U H->g (.ref p) U (upd H p (.tup [aq i,x])) λ d h=>tb ⟨b (i+1),D.rt,D.nx,b (i+1)⟩ d h) (j:∀ U H,b xs.length U H->D.nx U H) :
   ∃ W:Nat->Nat->St->Hp->Prop,(∃ m,W 0 m U H)/\∀ i m U H,W i m U H ->
     ((FZ sq a).stop i H/\D.nx U H)\/((FZ sq a).go i H/\∃ N:St->Hp->Prop,(∀ c H',N c H'->∃ m',m'<m/\W (i+1) m' c H')/\∀ x H',(FZ sq a).FX i H x H'->g x U H' λ d h=>tb { D with nx:=N,ct:=N,bk:=D.nx } d h):=by
 refine ⟨λ i m U H=>m=xs.length - i/\i<=xs.length/\b i U H,⟨_,rfl,aaY _,f⟩,?_⟩
 rintro i m U H ⟨rfl,hi,p⟩
 have q:=k i U H hi p
 by_cases M:i<xs.length
 . refine .inr ⟨⟨xs,xs[i],q,by simp [M]⟩,b (i+1),λ c H' o=>⟨xs.length - (i+1),by lia,rfl,M,o⟩,λ v H' y=>?_⟩
   obtain ⟨r,x,l,rfl,rfl,E⟩:=y
   exact n i x r U H (E xs q) l p
 . have e:i=xs.length:=by lia
   subst e
   exact .inl ⟨⟨xs,q,rfl⟩,j U H p⟩
def JX {X:Cx} {K:aC} {e:Expr} {f:Str} {p:Pos} {t:TE} (h:X.K=K) (a:PE X e t) (H:attributeBase e f X.env (eval e X.env)=eval e X.env):PE X (.Attribute e f p) (Qa K t f):=h ▸ bj a H
section
variable (K:aC) (C CW:ai)
inductive tG (vs:aA) (H:Hp) (Q:VK) (_E:XK):Prop|mk (x fp m s g:_) (o out:Nat) (pw ys:_) (l:List ce) (_:vs=[.ref x,aq o,aq out,.ref pw]) (_:qy K C CW H x fp m s g) (_:gW m s) (_:out<16) (_:bi K H pw ys) (_:bX K H (l.map dO) ys) (_:l.length=m.rows.length) (_:(∀ f∈l,dH 1000 f)) (_:(∀ i b,i<m.rows.length->(b=true->m.has i=true)->dH 1000 (eI m i s.bL b)/\dH 1000 (eE m i s.bL b))) (_:o∈s.orders m) (_:out &&& s.may m o=out) (_:(∀ i,(Ord.off o out).testBit i=true->m.has i=true)) (_:(∀ i,i<m.rows.length->(aN (l.getD i (0,1)) (eI m i s.bL ((Ord.off o out).testBit i)) || aN (eE m i s.bL ((Ord.off o out).testBit i)) (l.getD i (0,1)))=false)) (_:(∃ i,i<m.rows.length/\dE (m.rows.getD i []) (l.getD i (0,1)) (l.getD i (0,1))=false)) (_:∀ H',nB [x] H H'->bD K H H'->Q .cn H')
inductive EY (vs:aA) (H:Hp) (Q:VK) (_E:XK):Prop|mk (c k p:Int) (_:vs=[.int c,.int k,.int p]) (_:0<=k) (_:k<=900) (_:0<p) (_:p<=10 ^ 9) (_:∀ r H',aD H H'->0<=r->r<=p->Q (.int r) H')
inductive Gn (vs:aA) (H:Hp) (Q:VK) (_E:XK):Prop|mk (p tm:_) (n j b:Nat) (l u:Int) (_:vs=[.ref p,aq j,aq b,.int l,.int u]) (_:iT K H p tm) (_:tm.Ok n n) (_:j<n) (_:b+1<(tm.marks.getD j []).length) (_:0<=l) (_:l<=u) (_:u<=10 ^ 9) (_:Q (.int (tm.rE j b * (u - l)+tm.rE j (b+1) * l)) H)
inductive AT (vs:aA) (H:Hp) (Q:VK) (_E:XK):Prop|mk (p tm:_) (n i:Nat) (pb bs fired:_) (c u:Int) (_:vs=[.ref p,aq i,.ref pb,.bl fired,.int c,.int u]) (_:iT K H p tm) (_:tm.Ok n n) (_:n<=4) (_:i<n) (_:(bi K H pb (bs.map aq)\/bR K H pb (bs.map aq))) (_:mC tm n bs) (_:(fired=true->∃ z,tm.aH[i]?=some (some z))) (_:0<u) (_:u<=10 ^ 9) (_:∀ w H',aD H H'->u * tm.s0 n i bs fired<=w->w<=u * tm.s1 n i bs fired->Q (.int w) H')
inductive FP (vs:aA) (H:Hp) (Q:VK) (_E:XK):Prop|mk (p1 p2:_) (f g:ce) (_:vs=[.ref p1,.ref p2]) (_:bR K H p1 [.int f.1,.int f.2]) (_:bR K H p2 [.int g.1,.int g.2]) (_:dH 1000 f) (_:dH 1000 g) (_:Q (.bl (aN f g)) H)
inductive GJ (vs:aA) (H:Hp) (Q:VK) (_E:XK):Prop|mk (num parts p:_) (s:wj) (_:vs=[.int num,.int parts,.ref p]) (_:bR K H p s.vs) (_:s.Ok) (_:Bd 60 num) (_:0<parts) (_:Bd 60 parts) (_:∀ q H',aD H H'->H' q=some (.tup [.int (aT num parts s).1,.int (aT num parts s).2])->Q (.ref q) H')
inductive BC (vs:aA) (H:Hp) (Q:VK) (_E:XK):Prop|mk (p tm:_) (n:Nat) (pw:_) (ws:List Int) (u c:Int) (_:vs=[.ref p,.ref pw,.int u,.int c]) (_:iT K H p tm) (_:tm.Ok n n) (_:n<=4) (_:bi K H pw (ws.map V.int)) (_:ws.length=n) (_:0<u) (_:u<=10 ^ 9) (_:((∃ i,i<n/\tm.bw i u (ws.getD i 0)=[])->∀ H',aD H H'->Q .cn H')) (_:(∀ q H' (zs:bg),aD H H'->H' q=some (.tup (zs.map aq))->zs.length=n->(∀ i,i<n->zs.getD i 0∈tm.bw i u (ws.getD i 0))->Q (.ref q) H'))
end
inductive Wo (K:aC) (x:V) (y:V) (H:Hp) (Q:VK):Prop|mk (d ds:_) (_:Dn K H d x) (_:Dn K H (.list ds) y) (_:SeqAt.shaped d=true) (_:PyData.canLayAll0 ds=true) (_:Q (.bl (!ds.any λ e=>PyData.eqv e d)) H)
def Ny {X:Cx} (j:X.A.units+65<cLine):iD X (compareOp .NotIn) (Wo X.K):=by
 intro p s U H x y v u Q I f g h
 obtain ⟨d,D,c,e,S,i,q⟩:=h
 obtain ⟨as,r⟩:=I.reads d c f
 obtain ⟨B,R⟩:=I.reads (.list D) e g
 refine SeqAt.notIn_list_reads R r i (SeqAt.canLay_of_shaped S) ?_ ⟨.bl _,H,I,rfl,q⟩
 have a:=SeqAt.depth_of_shaped S
 have b:=Nat.min_le_right (PyData.depthAll D) d.depth
 lia
theorem Di:∀ l:List dD,PyData.canLayAll0 (l.map K7)=true
 | []=>rfl
 | s::l=>by
   show ((K7 s).canLay0 && PyData.canLayAll0 (l.map K7))=true
   rw [SeqAt.canLay_of_shaped (gc (F8 s) (by decide)),Di l];rfl
def JD {K:aC} {xs:aA} {l:List dD} (b:zG K H xs l):bX K H (l.map K7) xs:=by
 have h:Paired (λ v a=>∃ p,v = .ref p/\hG K H p a) xs l:=b
 clear b
 induction h with
 | nil=>exact gq
 | cons r _ i =>
   obtain ⟨p,rfl,c⟩:=r
   exact bJ c.dn i
def KC {a:Nat} (h:a<16) (c:Int):∃ y:Nat,Builtin.bitAnd (a:Int) c=(y:Int)/\y &&& a=y:=by
 unfold Builtin.bitAnd
 rw [aaE (show (0:Int)<=(a:Int) by lia)]
 by_cases H:0<=c
 . rw [aaE H]
   refine ⟨_,rfl,?_⟩
   rw [aaX,Nat.and_comm a,Nat.and_assoc,Nat.and_self]
 .
  rw [aal H]
  have l:=Nat.and_le_left (n:=a) (m:=(Builtin.bitNot c).toNat)
  have k:∀ a:Nat,a<16->∀ t:Nat,t<16->t &&& a=t->(a - t) &&& a=a - t:=by decide
  refine ⟨a - (a &&& (Builtin.bitNot c).toNat),?_,k a h _ (by lia) (by rw [Nat.and_comm a,Nat.and_assoc,Nat.and_self])⟩
  show (a:Int) - (((a:Int).toNat &&& (Builtin.bitNot c).toNat:Nat):Int)=_
  rw [aaX]
  lia
def Lm {o:Nat} (H:o<16) (d:out<16) (h:∀ r,out.testBit r=true->o.testBit r=true):(o:Int) - (out:Int)=((Ord.off o out:Nat):Int):=by
 have k:∀ a:Nat,a<16->∀ b:Nat,b<16->b &&& a=b->(a:Int) - (b:Int)=((Ord.off a b:Nat):Int):=by decide
 refine k o H out d (abk λ r=>?_)
 rw [aa5]
 cases c:out.testBit r with
 | false=>rfl
 | true=>rw [h r c];rfl
def Gi {m:ap} {s:dD} {o:Nat} (h:s.may m o<16) (e:out &&& s.may m o=out):out∈gJ m s o:=by
 have k:∀ b:Fin 16,∀ a:Fin 16,a.val &&& b.val=a.val->a.val∈Bit.parts (Bit.rooms b.val):=by decide +kernel
 have l:out<16:=by have:=acg (n:=out) (m:=s.may m o);lia
 exact k ⟨_,h⟩ ⟨out,l⟩ e
structure lF (tm:av) (n:Nat) (s:dD) (o out:Nat) (u:Int) (ws:List Int):Prop where
 len:ws.length=n
 P8:∀ i,i<n->Md tm n s.bL (Ord.off o out) u i (ws.getD i 0)
section
variable {tm:av} {n o out:Nat} {s:dD} {u:Int} {ws:List Int}
abbrev qI (tm:av) (u:Int) (ws:List Int):List ce:=ws.map λ w=>aT w (12 * u) tm.scale
def Ih {i:Nat} (h:i<ws.length):(qI tm u ws).getD i (0,1)=aT (ws.getD i 0) (12 * u) tm.scale:=by
 rw [BO,T1,ar h,BO,ar h];rfl
def lF.Hf (N:lF tm n s o out u ws) (ok:tm.Ok n n) (c:n<=4) (h:mC tm n s.bL) (U:0<u) (a:u<=10 ^ 9):∀ f∈qI tm u ws,dH 1000 f:=λ f H=>by
 obtain ⟨w,b,rfl⟩:=aat.mp H
 obtain ⟨i,hi,rfl⟩:=abp b
 have y:i<n:=by rw [<- N.len];exact hi
 have e:ws.getD i 0=ws[i]:=by rw [BO,ar hi];rfl
 have:=(N.P8 i y).bd ok c y h U a
 rw [e] at this
 exact NW ok U a this
def lF.in_ (N:lF tm n s o out u ws) (w:(tm.m2 n n).Wf) (ok:tm.Ok n n) (d:n<=4) (H:mC tm n s.bL) (c:∀ i,(Ord.off o out).testBit i=true->(tm.m2 n n).has i=true) (U:0<u) {i:Nat} (h:i<n) :
   (aN ((qI tm u ws).getD i (0,1)) (eI (tm.m2 n n) i s.bL ((Ord.off o out).testBit i)) || aN (eE (tm.m2 n n) i s.bL ((Ord.off o out).testBit i)) ((qI tm u ws).getD i (0,1)))=false:=by
 obtain ⟨a,b⟩:=(N.P8 i h).spans w ok d h H (c i) U
 rw [Ih (by rw [N.len];exact h),a,b];rfl
def lF.K4 (N:lF tm n s o out u ws) (w:(tm.m2 n n).Wf) (ok:tm.Ok n n) (d:n<=4) (c:mC tm n s.bL) (f:∀ i,(Ord.off o out).testBit i=true->(tm.m2 n n).has i=true) (U:0<u) (k:u<=10 ^ 9) {i:Nat} (H:i<n) (t:(tm.m2 n n).rows.length=n) (h:tm.bw i u (ws.getD i 0)=[]):dE ((tm.m2 n n).rows.getD i []) ((qI tm u ws).getD i (0,1)) ((qI tm u ws).getD i (0,1))=false/\kJ (tm.m2 n n) s (Ord.off o out)=false:=by
 have r:i<ws.length:=by rw [N.len];exact H
 have W:=NP ok H U h
 rw [Ih r]
 refine ⟨W,?_⟩
 obtain ⟨a,b⟩:=(N.P8 i H).spans w ok d H c (f i) U
 obtain ⟨E,q⟩:=ua w ok d H c (f i)
 have m:=NW ok U k ((N.P8 i H).bd ok d H c U k)
 have R:i<(tm.m2 n n).rows.length:=by rw [t];exact H
 have M:(tm.m2 n n).rows.getD i []∈(tm.m2 n n).rows:=by rw [BO,ar R];exact aag R
 have L:=w.len _ M
 have g:∀ j,j<((tm.m2 n n).rows.getD i []).length->0<(((tm.m2 n n).rows.getD i []).getD j (0,1)).2:=λ j e=>by
   rw [BO (l:=(tm.m2 n n).rows.getD i []),ar e]
   exact (w.rows _ M _ (aag e)).p
 have out:=Cc m.p E.p q.p (g 0 (by lia)) (g _ (by lia)) a b W
 unfold kJ
 refine Bool.eq_false_iff.mpr λ z=>?_
 have:=abE.mp z i (aaH.mpr R)
 unfold va ft at this
 rw [out,aam aah] at this
 cases this
def Oq (ok:tm.Ok n n) (U:0<u) {i b z:Nat} {bs:bg} {w:Int} (hw:Md tm n bs b u i w) (h:z∈tm.bw i u w):tm.T3 i (z:Int) (tm.s0 n i bs (b.testBit i)) (tm.s1 n i bs (b.testBit i)):=by
 have l:=Ms h
 have H:=(aaW.mp h).2
 simp only [aaq,aaS] at H
 refine ⟨abi z,by lia,?_,?_⟩
 .
  rw [aaX]
  have:=abt H.1 hw.2
  have e:12 * u * tm.rE i z=u * (12 * tm.rE i z):=by grind
  rw [e] at this
  exact adC this U
 .
  rw [aaX]
  have:=abt hw.1 H.2
  have e:12 * u * tm.rE i (z+1)=u * (12 * tm.rE i (z+1)):=by grind
  rw [e] at this
  exact adC this U
def lF.MW (N:lF tm n s o out u ws) (w:(tm.m2 n n).Wf) (ok:tm.Ok n n) (b:n<=4) (H:mC tm n s.bL) (a:∀ i,(Ord.off o out).testBit i=true->(tm.m2 n n).has i=true) (U:0<u) {z:bg} (l:z.length=n) (c:∀ i,i<n->z.getD i 0∈tm.bw i u (ws.getD i 0)) {i:Nat} (h:i<n):roomF (tm.m2 n n) s (Ord.off o out) (z.map λ x:Nat=>(x:Int)) (some (qI tm u ws)) i=none:=by
 have e:(z.map λ x:Nat=>(x:Int)).getD i 0=((z.getD i 0:Nat):Int):=by
   rw [BO,T1,BO]
   cases z[i]? <;> rfl
 have y:=N.in_ w ok b H a U h
 rw [sJ,y,aam aah,e,Ih (by rw [N.len];exact h),aan (GD ok h U (c i h))]
def lF.mem (N:lF tm n s o out u ws) (w:(tm.m2 n n).Wf) (ok:tm.Ok n n) (j:n<=4) (H:mC tm n s.bL) (g:∀ i,(Ord.off o out).testBit i=true->(tm.m2 n n).has i=true) (U:0<u) (d:(tm.m2 n n).rows.length=n) {a:bg} (L:a.length=n) (m:∀ i,i<n->a.getD i 0∈tm.bw i u (ws.getD i 0)) (f:out∈gJ (tm.m2 n n) s o) (k:kJ (tm.m2 n n) s (Ord.off o out)=true):s.behind (tm.m2 n n) a o out∈EN (tm.m2 n n) s o:=by
 refine adk.mpr ⟨out,f,aat.mpr ⟨a,lD.mpr ⟨?_,λ i hi=>?_⟩,rfl⟩⟩
 . unfold jt;rw [OS,aaw,d,L]
 .
  unfold jt at hi |-
  rw [OS,aaw] at hi
  have y:i<n:=by lia
  have h:=abE.mp k i (aaH.mpr hi)
  rw [BO (l:=List.map _ _),T1,acX hi,acn]
  show a.getD i 0∈(va (tm.m2 n n) s (Ord.off o out) i).getD []
  unfold va ft at h |-
  split at h
  .
   rename_i c
   rw [aan c]
   obtain ⟨E,b⟩:=m7 w ok j y H (g i)
   rw [E,b]
   have:=(CN ok y).mpr (Oq ok U (N.P8 i y) (m i y))
   obtain ⟨z,S,e⟩:=aat.mp this
   have:z=a.getD i 0:=by exact_mod_cast e
   rw [<- this]
   exact S
  . cases h
end
inductive Er (K:aC) (C CW:ai) (vs:aA) (H:Hp) (Q:VK) (_E:XK):Prop|mk (a fp p tm:_) (n:Nat) (x L9 s g pc cs:_) (k:Nat) (_:vs=[.ref a,.ref p,.ref x,.ref pc,aq k]) (_:aV K C H a fp (tm.m2 n n)) (_:x∉fp) (_:iT K (fP H [x]) p tm) (_:tm.Ok n n) (_:n<=4) (_:qy K C CW H x L9 (tm.m2 n n) s g) (_:gW (tm.m2 n n) s) (_:bi K H pc ((cs:List Int).map V.int)) (_:k<=800) (_:(∀ H',Q (.bl false) H')) (_:(∀ s' H',nB [x] H H'->bD K H H'->qy K C CW H' x L9 (tm.m2 n n) s' (g+1)->gW (tm.m2 n n) s'->Q (.bl true) H'))
end L2
namespace L2
open PySem PySem.Spec PyProof.Rows Mth
def eC {N Q:cp} {sc:Scope} (a:sc.kind = .function:=by rfl) (b:sc.isCoroutine=false:=by rfl) (c:sc.isGenerator=false:=by rfl) (d:N.Nodup:=by decide +kernel) (e:N.take Q.length=Q:=by rfl) (f:∀ x∈Q,sc.names.lookup x=some .local\/sc.names.lookup x=some .cell:=by decide +kernel) (g:∀ y∈sc.names,y.2 ≠ .free:=by decide +kernel):az N Q sc:=⟨a,b,c,d,e,f,g⟩
section
variable {X:Cx} {i:Nat} {x:Str} {pos pos':Pos} {e:Expr} {te:TE}
def jq (h:X.N.Nodup) (a:X.N[i]?=some x:=by rfl) (b:Loc X.env.scope x:=by exact lc rfl) (H:X.fn x=true\/X.env.scope.names.lookup x=some .local:=by first|exact .inl rfl|exact .inr rfl|assumption):PG X (.Name x pos) (tF i):=Ed h a b H
def pE (h:X.N.Nodup:=by dsimp only [cF];decide +kernel) (a:X.N[i]?=some x:=by rfl) (b:Loc X.env.scope x:=by exact lc rfl) (H:X.fn x=true\/X.env.scope.names.lookup x=some .local:=by first|exact .inl rfl|exact .inr rfl|assumption):PG X (.Name x pos) (tF i):=Ed h a b H
def cM (h:X.N.Nodup) (H:PE X e te) (b:X.N[i]?=some x:=by rfl) (d:Loc X.env.scope x:=by exact lc rfl) (c:swapsWith e (some (.Name x pos')) pos.line X.env=pure false:=by rfl) (a:X.fn x=true\/X.env.scope.names.lookup x=some .local:=by first|exact .inl rfl|exact .inr rfl|assumption):PS X (.Assign [.Name x pos'] e pos) (GH te (tF i)):=MO h b d H c a
end
end L2
namespace K21
open PySem PySem.Spec PyProof.Rows L2 Mth
seal PE PS rK Q9 PA PG O8 PT LU PI
def top (i:Nat):Stmt:=PySem.Challenge.pw_stoke_k21_whole_nature.main.body.getD i (.Pass ⟨0,0,0,0⟩)
abbrev YS:Stmt:=top 0
abbrev nj:Stmt:=top 2
def Al:az ["bits","room"] ["bits","room"] (ao nj):=eC
abbrev lY:Stmt:=top 3
def xL:az ["bits","room"] ["bits","room"] (ao lY):=eC
abbrev nr:Stmt:=top 4
def zK:az ["bits"] ["bits"] (ao nr):=eC
abbrev pV:Stmt:=top 5
def Be:az ["bits"] ["bits"] (ao pV):=eC
abbrev qJ:Stmt:=top 6
def kh:az ["bits","parts","room"] ["bits"] (ao qJ):=eC
abbrev pP:Stmt:=top 7
def j9:az ["rooms","bits","room"] ["rooms"] (ao pP):=eC
abbrev DZ:Stmt:=inClass (top 22) 0
abbrev BA:Stmt:=inClass (top 23) 0
abbrev fq:Stmt:=inClass (top 24) 0
def mU:az ["self","room","turn"] ["self","room","turn"] (ao fq):=eC
abbrev fh:Stmt:=inClass (top 25) 0
def nO:az ["self","room","turn"] ["self","room","turn"] (ao fh):=eC
abbrev pJ:Stmt:=top 29
def gR:az ["one","other","greater","lesser","rest"] ["one","other"] (ao pJ):=eC
abbrev nG:Stmt:=top 30
def mf:az ["top","bottom","common"] ["top","bottom"] (ao nG):=eC
abbrev BG:Stmt:=top 31
def KI:az ["one","other"] ["one","other"] (ao BG):=eC
abbrev xY:Stmt:=top 32
def Ie:az ["one","other"] ["one","other"] (ao xY):=eC
abbrev xy:Stmt:=top 33
def HP:az ["one","other"] ["one","other"] (ao xy):=eC
abbrev gp:Stmt:=top 35
def bU:az ["pairs","top","bottom","one","other","below"] ["pairs"] (ao gp):=eC
abbrev l5:Stmt:=top 36
def oA:az ["hold","room","airs","weather","fired","pairs"] ["hold","room","airs","weather","fired"] (ao l5):=eC
abbrev ql:Stmt:=top 37
def iW:az ["hold","room","bands","fired","low","high","lows","highs"] ["hold","room","bands","fired"] (ao ql):=eC
abbrev pU:Stmt:=top 38
def uT:az ["hold","room","least","greatest","marks"] ["hold","room","least","greatest"] (ao pU):=eC
abbrev tZ:Stmt:=top 39
def vX:az ["hold","room","least","greatest","marks"] ["hold","room","least","greatest"] (ao tZ):=eC
abbrev nk:Stmt:=top 41
def fD:az ["hold","state","bands","burning","waits","failed","heap","many"] ["hold","state"] (ao nk):=eC
abbrev lK:Stmt:=top 42
def fS:az ["hold","state","room","bands","burning","waits","failed","heap"] ["hold","state","room"] (ao lK):=eC
abbrev kq:Stmt:=top 43
def jD:az ["stove","fired","wait","failed","stay","fails"] ["stove","fired","wait","failed"] (ao kq):=eC
abbrev ie:Stmt:=top 44
def pK:az ["hold","state"] ["hold","state"] (ao ie):=eC
abbrev kj:Stmt:=top 45
def vj:az ["hold"] ["hold"] (ao kj):=eC
abbrev p8:Stmt:=top 46
def Ch:az ["hold","bits"] ["hold","bits"] (ao p8):=eC
abbrev lC:Stmt:=top 47
def yk:az ["state"] ["state"] (ao lC):=eC
abbrev nA:Stmt:=top 48
def zj:az ["hold","order","heap"] ["hold","order","heap"] (ao nA):=eC
abbrev kW:Stmt:=top 49
def kz:az ["hold","state","held","going_on"] ["hold","state"] (ao kW):=eC
abbrev nM:Stmt:=top 50
def A1:az ["hold","state","order"] ["hold","state","order"] (ao nM):=eC
abbrev qH:Stmt:=top 51
def tM:az ["hold","state","order","lit"] ["hold","state","order"] (ao qH):=eC
abbrev jx:Stmt:=top 52
def uj:az ["hold","state","order","out"] ["hold","state","order","out"] (ao jx):=eC
abbrev io:Stmt:=top 53
def eA:az ["hold","state","order","out","burning","waits","failed","heap"] ["hold","state","order","out"] (ao io):=eC
abbrev jB:Stmt:=top 54
def uc:az ["hold","state","burning","room"] ["hold","state","burning","room"] (ao jB):=eC
abbrev iq:Stmt:=top 55
def pY:az ["state","burning","out","room"] ["state","burning","out","room"] (ao iq):=eC
abbrev mT:Stmt:=top 57
def y9:az ["hold","state","order"] ["hold","state","order"] (ao mT):=eC
abbrev jz:Stmt:=top 58
def dU:az ["rows","choices","row","longer","choice"] ["rows"] (ao jz):=eC
abbrev gS:Stmt:=inClass (top 59) 0
def oP:az ["self","hold"] ["self","hold"] (ao gS):=eC
abbrev fe:Stmt:=inClass (top 59) 1
def bW:az ["self","state","order","states","out","burning","rows","stoves"] ["self","state","order"] (ao fe):=eC
abbrev iX:Stmt:=inClass (top 59) 2
def eT:az ["self","room","bands","fired","key","least","greatest","safe"] ["self","room","bands","fired"] (ao iX):=eC
abbrev ii:Stmt:=top 71
def pZ:az ["thing","greatest"] ["thing","greatest"] (ao ii):=eC
abbrev lL:Stmt:=top 72
def xE:az ["marks"] ["marks"] (ao lL):=eC
abbrev gL:Stmt:=top 73
def fg:az ["rows","product","marks"] ["rows"] (ao gL):=eC
abbrev f8:Stmt:=inClass (top 74) 0
def qG:az ["self","most","cap","load"] ["self","most","cap","load"] (ao f8):=eC
abbrev ia:Stmt:=inClass (top 74) 1
def jM:az ["self","marks","rows"] ["self","marks"] (ao ia):=eC
abbrev ip:Stmt:=inClass (top 74) 2
def qE:az ["self","into","of","share"] ["self","into","of","share"] (ao ip):=eC
abbrev i9:Stmt:=inClass (top 74) 3
def rJ:az ["self","room","share","low","high"] ["self","room","share","low","high"] (ao i9):=eC
abbrev fN:Stmt:=inClass (top 74) 4
def oJ:az ["self","room","heat","wood","stay","fails"] ["self","room","heat","wood","stay","fails"] (ao fN):=eC
abbrev lE:Stmt:=inClass (top 74) 5
def xZ:az ["self"] ["self"] (ao lE):=eC
abbrev jY:Stmt:=inClass (top 74) 6
def vF:az ["self","room"] ["self","room"] (ao jY):=eC
abbrev jV:Stmt:=inClass (top 74) 7
def vo:az ["self","into","of"] ["self","into","of"] (ao jV):=eC
abbrev m8:Stmt:=inClass (top 74) 8
def yH:az ["self","room"] ["self","room"] (ao m8):=eC
abbrev ku:Stmt:=inClass (top 74) 9
def vk:az ["self","room"] ["self","room"] (ao ku):=eC
abbrev gT:Stmt:=inClass (top 74) 10
def ff:az ["self","room","rest","other"] ["self","room"] (ao gT):=eC
abbrev ik:Stmt:=inClass (top 74) 11
def qK:az ["self","room"] ["self","room"] (ao ik):=eC
abbrev fE:Stmt:=inClass (top 74) 12
def gG:az ["self","room","share","former","free"] ["self","room","share","former"] (ao fE):=eC
abbrev jp:Stmt:=top 75
def o7:az ["hold","most","cap","load","like"] ["hold","most","cap","load"] (ao jp):=eC
abbrev ig:Stmt:=inClass (top 77) 0
def qB:az ["self","hold","state"] ["self","hold","state"] (ao ig):=eC
abbrev mr:Stmt:=inClass (top 77) 1
def gU:az ["self","order","out","bands","warmths","room","least","greatest"] ["self","order","out","bands","warmths"] (ao mr):=eC
abbrev ke:Stmt:=inClass (top 77) 2
def fY:az ["self","order","out","warmths","room","warmth","least","greatest"] ["self","order","out","warmths"] (ao ke):=eC
abbrev kH:Stmt:=inClass (top 77) 3
def vB:az ["self"] ["self"] (ao kH):=eC
abbrev jT:Stmt:=inClass (top 77) 4
def u8:az ["self"] ["self"] (ao jT):=eC
abbrev Hq:Stmt:=inClass (top 77) 5
abbrev lB:Stmt:=inClass (top 77) 6
def xS:az ["self","room","burning"] ["self","room","burning"] (ao lB):=eC
abbrev fJ:Stmt:=inClass (top 77) 7
def kN:az ["self","order","out"] ["self","order","out"] (ao fJ):=eC
abbrev fb:Stmt:=inClass (top 77) 8
def jS:az ["self","room","least","greatest","warmth"] ["self","room","least","greatest","warmth"] (ao fb):=eC
abbrev jA:Stmt:=top 79
def uq:az ["_law_script","_law_k"] ["_law_script","_law_k"] (ao jA):=eC
abbrev ng:Stmt:=top 80
def zu:az ["_law_cell","_law_k","_law_many"] ["_law_cell","_law_k","_law_many"] (ao ng):=eC
abbrev ln:Stmt:=top 81
def fO:az ["_law_top","_law_bottom","_law_one","_law_other","_law_rest"] ["_law_top","_law_bottom"] (ao ln):=eC
abbrev lh:Stmt:=top 82
def kC:az ["_law_cell","_law_far","_law_some"] ["_law_cell"] (ao lh):=eC
abbrev mO:Stmt:=top 83
def gd:az ["_law_num","_law_parts","_law_scale_here","_law_whole"] ["_law_num","_law_parts","_law_scale_here"] (ao mO):=eC
abbrev i0:Stmt:=top 84
def ib:az ["_law_a","_law_b","_law_c","_law_room","_law_wood","_law_stay"] ["_law_a","_law_b","_law_c","_law_room"] (ao i0):=eC
abbrev kY:Stmt:=top 85
def cu:az ["_law_script","_law_a","_law_b","_law_c","_law_many","_law_told","_law_room","_law_marks","_law_j","_law_low","_law_of"] ["_law_script"] (ao kY):=eC
abbrev lU:Stmt:=top 86
def cX:az ["_law_told","_law_bounds","_law_scale_here","_law_hold","_law_marks","_law_room","_law_sky","_law_stove","_law_of"] ["_law_told"] (ao lU):=eC
abbrev iZ:Stmt:=top 87
def bv:az ["_law_told","_law_cell","_law_k","_law_bands_here","_law_waits","_law_failed","_law_burning","_law_lit","_law_room","_law_stove","_law_wait","_law_fails"] ["_law_told","_law_cell","_law_k"] (ao iZ):=eC
abbrev nc:Stmt:=top 88
def rj:az ["_law_told","_law_cell","_law_marks"] ["_law_told","_law_cell"] (ao nc):=eC
abbrev sY:Stmt:=top 89
def Fj:az ["_law_bits","_law_room"] ["_law_bits","_law_room"] (ao sY):=eC
abbrev mV:Stmt:=top 90
def qV:az ["_law_cell","_law_k","_law_parts","_law_way"] ["_law_cell","_law_k","_law_parts"] (ao mV):=eC
abbrev p7:Stmt:=top 91
def uL:az ["_law_told","_law_room","_law_band","_law_lean_here","_law_parts","_law_marks"] ["_law_told","_law_room","_law_band","_law_lean_here","_law_parts"] (ao p7):=eC
abbrev kB:Stmt:=top 92
def bV:az ["_law_told","_law_room","_law_bands_here","_law_fired","_law_cell","_law_parts","_law_sky","_law_lean_here","_law_whole","_law_rest","_law_of","_law_part"] ["_law_told","_law_room","_law_bands_here","_law_fired","_law_cell","_law_parts"] (ao kB):=eC
abbrev mM:Stmt:=top 93
def AH:az ["_law_one","_law_other"] ["_law_one","_law_other"] (ao mM):=eC
abbrev lP:Stmt:=top 94
def eO:az ["_law_told","_law_warmths","_law_parts","_law_cell","_law_bands_here","_law_room","_law_marks","_law_num","_law_whole","_law_some"] ["_law_told","_law_warmths","_law_parts","_law_cell"] (ao lP):=eC
abbrev mP:Stmt:=top 95
def cm:az ["_law_hold","_law_told","_law_walk","_law_four","_law_k","_law_state","_law_some","_law_order","_law_out","_law_parts","_law_warmths","_law_exact","_law_room","_law_fired","_law_ends","_law_bands_here","_law_due"] ["_law_hold","_law_told","_law_walk","_law_four","_law_k"] (ao mP):=eC
abbrev DQ:Stmt:=top 96
def qg:az ["_law_script","_law_told","_law_hold","_law_walk","_law_k","_law_gone"] ["_law_script"] (ao DQ):=eC
structure Ads where
 aX:ai
 Walk:ai
 Reach:ai
 OF:ai
 V8:ai
 UY:ai
 my:ai
 iM:ai
 ZR:ai
 cP:ai
 cW:ai
 LQ:ai
 Iw:ai
 kD:ai
 wx:ai
 ij:ai
 gP:ai
 qi:ai
 lQ:ai
structure Txt (K:aC) (mg:cy) (A:Ads):Prop where
 HY:mg "Hold" = some (.ref A.aX)
 NQ:mg "Walk" = some (.ref A.Walk)
 JJ:mg "Reach" = some (.ref A.Reach)
 E1:mg "NoOrder" = some (.ref A.my)
 AY:mg "NoFailing" = some (.ref A.iM)
 Ho:mg "NoTurn" = some (.ref A.cP)
 Iy:mg "NoBand" = some (.ref A.cW)
 Jz:mg "Ended" = some (.ref A.LQ)
 HD:mg "NotOut" = some (.ref A.Iw)
 i7:mg "NOUGHT" = some (.ref A.kD)
 DJ:mg "WHOLE" = some (.ref A.wx)
 Eh:W.excIn K A.my [.type "ValueError",.type "Exception",.type "BaseException",.type "object"] "ValueError.__new__" = true
 yK:W.excIn K A.iM [.type "ValueError",.type "Exception",.type "BaseException",.type "object"] "ValueError.__new__" = true
 Lh:W.excIn K A.LQ [.type "ValueError",.type "Exception",.type "BaseException",.type "object"] "ValueError.__new__" = true
 IU:W.excIn K A.Iw [.type "ValueError",.type "Exception",.type "BaseException",.type "object"] "ValueError.__new__" = true
 AJ:W.findIn K (.ref A.cP) "turn" = some none
 uV:W.hasDictIn K A.cP=true
 BI:W.findIn K (.ref A.cP) "room" = some none
 ur:W.findIn K (.ref A.cP) "__setattr__" = some (some (.builtin "object.__setattr__"))
 oh:jl K A.cP=true
 Ce:W.findIn K (.ref A.cP) "__getattribute__" = some (some (.builtin "BaseException.__getattribute__"))
 BS:W.findIn K (.ref A.cP) "__getattr__" = some none
 Bn:W.findIn K (.ref A.cP) "__class__" = some (some (.builtin "object.__class__"))
 CA:W.mroIn K A.cP (.type "object")=some true
 CS:W.mroIn K A.cP (.type "BaseException")=some true
 CI:W.isClsIn K A.cP=true
 Ar:W.findIn K (.ref A.cW) "turn" = some none
 uF:W.hasDictIn K A.cW=true
 BD:W.findIn K (.ref A.cW) "room" = some none
 uH:W.findIn K (.ref A.cW) "__setattr__" = some (some (.builtin "object.__setattr__"))
 oB:jl K A.cW=true
 Cz:W.findIn K (.ref A.cW) "__getattribute__" = some (some (.builtin "BaseException.__getattribute__"))
 Ct:W.findIn K (.ref A.cW) "__getattr__" = some none
 BF:W.findIn K (.ref A.cW) "__class__" = some (some (.builtin "object.__class__"))
 Cb:W.mroIn K A.cW (.type "object")=some true
 Bs:W.mroIn K A.cW (.type "BaseException")=some true
 Cf:W.isClsIn K A.cW=true
 gs:W.specialIn K (.builtin "object.__class__") "__get__" = some (some (.builtin "getset_descriptor.__get__"))
 tk:W.takesIn K (.builtin "object.__class__")=some true
 vv:∃ t,mg "LEAST_MARKS" = some (.int 2 t)
 xt:∃ t,mg "MOST_BANDS" = some (.int 400 t)
 uR:∃ t,mg "MOST_BURNING" = some (.int 4 t)
 Cy:∃ t,mg "MOST_CAP" = some (.int 30 t)
 ym:∃ t,mg "MOST_FAILS" = some (.int 3 t)
 zT:∃ t,mg "MOST_LOAD" = some (.int 30 t)
 yl:∃ t,mg "MOST_MARKS" = some (.int 7 t)
 yr:∃ t,mg "MOST_ROOMS" = some (.int 4 t)
 zx:∃ t,mg "MOST_STAY" = some (.int 3 t)
 zY:∃ t,mg "MOST_WOOD" = some (.int 9 t)
 lA:BP K A.kD [.int 0,.int 1]
 Ds:BP K A.wx [.int 1,.int 1]
 aG:yu K A.aX
 DK:He K A.aX
 iG:eB K A.aX "most"
 jo:eB K A.aX "cap"
 j3:eB K A.aX "load"
 cx:eB K A.aX "mark_rows"
 eV:eB K A.aX "flows"
 cY:eB K A.aX "skies"
 dY:eB K A.aX "stoves"
 rM:fu K A.aX "__init__" "Hold.__init__" f8 (.ref A.ij)
 rG:Bh K A.ij [.int 4,.int 0,.int 0]
 rX:fu K A.aX "put_room" "Hold.put_room" ia .none
 rF:fu K A.aX "put_flow" "Hold.put_flow" ip .none
 tz:fu K A.aX "put_sky" "Hold.put_sky" i9 .none
 qj:fu K A.aX "put_stove" "Hold.put_stove" fN (.ref A.gP)
 qk:Bh K A.gP [.int 0,.int 0,.int 0]
 yI:fu K A.aX "many" "Hold.many" lE .none
 yf:fu K A.aX "marks" "Hold.marks" jY .none
 xI:fu K A.aX "share" "Hold.share" jV .none
 Bg:fu K A.aX "sky" "Hold.sky" m8 .none
 xz:fu K A.aX "stove" "Hold.stove" ku .none
 qu:fu K A.aX "own_share" "Hold.own_share" gT .none
 rY:fu K A.aX "look_for" "Hold.look_for" ik .none
 lW:fu K A.aX "look_at_share" "Hold.look_at_share" fE .none
 bx:yu K A.Walk
 KG:He K A.Walk
 dG:eB K A.Walk "hold"
 dJ:eB K A.Walk "place"
 eL:eB K A.Walk "gone"
 jF:eB K A.Walk "ended"
 rO:fu K A.Walk "__init__" "Walk.__init__" ig .none
 FT:fu K A.Walk "go" "Walk.go" mr (.ref A.qi)
 FJ:Bh K A.qi [.cn]
 xP:fu K A.Walk "leave" "Walk.leave" ke .none
 xU:fu K A.Walk "state" "Walk.state" kH .none
 wX:fu K A.Walk "turns" "Walk.turns" jT .none
 A2:fu K A.Walk "span" "Walk.span" lB .none
 lO:fu K A.Walk "look_at_order" "Walk.look_at_order" fJ .none
 kP:fu K A.Walk "look_at_warmth" "Walk.look_at_warmth" fb .none
 dF:yu K A.Reach
 GZ:He K A.Reach
 dM:eB K A.Reach "hold"
 dS:eB K A.Reach "spreads"
 qF:fu K A.Reach "__init__" "Reach.__init__" gS .none
 kM:fu K A.Reach "states_behind" "Reach.states_behind" fe .none
 uC:fu K A.Reach "spread" "Reach.spread" iX .none
 IL:Jv K A.cP "NoTurn.__init__" fq
 Hy:Jv K A.cW "NoBand.__init__" fh
 CZ:gr K mg "has_room" nj
 As:gr K mg "with_room" lY
 Cp:gr K mg "how_many" nr
 FD:gr K mg "members" pV
 EI:gr K mg "subsets" qJ
 FI:gr K mg "bits_of" pP
 Eu:gr K mg "divisor" pJ
 Cr:gr K mg "fraction" nG
 No:gr K mg "plus" BG
 Jt:gr K mg "minus" xY
 J2:gr K mg "under" xy
 pj:gr K mg "sum_of_products" gp
 AZ:gr K mg "warmth_of" l5
 EW:gr K mg "span_of" ql
 El:gr K mg "touched" pU
 Hi:gr K mg "within" tZ
 BX:gr K mg "is_state" nk
 Af:gr K mg "fits_room" lK
 xB:gr K mg "fits_stove" kq
 rT:gr K mg "look_at_state" ie
 xb:gr K mg "with_stove" kj
 FR:gr K mg "wood_of" p8
 AC:gr K mg "must_stay" lC
 BY:gr K mg "can_burn" nA
 yL:gr K mg "orders_of" kW
 Db:gr K mg "may_fail" nM
 ER:gr K mg "failing" qH
 vf:gr K mg "behind_turn" jx
 rQ:gr K mg "stoves_behind" io
 vA:gr K mg "wait_behind" jB
 sg:gr K mg "failed_behind" iq
 Cn:gr K mg "outcomes" mT
 u7:gr K mg "each_choice" jz
 sd:gr K mg "is_whole_upto" ii
 AA:gr K mg "is_rising" lL
 pT:gr K mg "bands_together" gL
 zm:JQ K mg "hold_like" jp (.ref A.lQ)
 zn:Bh K A.lQ [.cn,.cn,.cn]
 vy:gr K mg "_law_cell_at" jA
 Bl:gr K mg "_law_pick" ng
 zF:gr K mg "_law_ratio" ln
 zw:gr K mg "_law_scale" lh
 uP:gr K mg "_law_warm" mO
 tN:gr K mg "_law_stove_by" i0
 zg:gr K mg "_law_drawn" kY
 Ab:gr K mg "_law_built" lU
 tf:gr K mg "_law_state_by" iZ
 Bj:gr K mg "_law_mild" nc
 Gc:gr K mg "_law_in" sY
 Bp:gr K mg "_law_lean" mV
 EZ:gr K mg "_law_air" p7
 xA:gr K mg "_law_warmth" kB
 CT:gr K mg "_law_less" mM
 AX:gr K mg "_law_bands" lP
 CK:gr K mg "_law_turn" mP
 SU:gr K mg "law" DQ
 GK:mg "abs" = none
 Ig:mg "all" = none
 MH:mg "bool" = none
 Nh:mg "dict" = none
 gf:mg "enumerate" = none
 L4:mg "int" = none
 o5:mg "isinstance" = none
 fX:mg "len" = none
 uu:mg "list" = none
 T4:mg "max" = none
 S9:mg "min" = none
 cK:mg "range" = none
 TL:mg "sum" = none
 ji:mg "tuple" = none
 Ss:mg "zip" = none
abbrev rL (K:aC) (C:ai) (x y:Str) (s:Stmt) (v:au):Prop:=∃ f b c d e g h i j n,W.findIn K (.ref C) x=some (some (.ref f))/\W.isFn K (.ref f)=true/\K.lookup f=some ⟨b,c,.func (W.fnOf x y (cD s) (bF s) (ao s) v d e g h i j),n⟩/\W.codeIn K i y=true/\W.keepIn K (.ref f)=true
abbrev gE (K:aC) (x:Str) (s:Stmt) (v:au):Prop:=∃ f b c d e g h i j n,W.nsIn K mainGlobals x=some (some (.ref f))/\K.lookup f=some ⟨b,c,.func (W.fnOf x x (cD s) (bF s) (ao s) v d e g h i j),n⟩/\W.codeIn K i x=true/\W.keepIn K (.ref f)=true
def iF {K:aC} {C:ai} {x y:Str} {s:Stmt} {v:au} (q:rL K C x y s v):fu K C x y s v:=by
 obtain ⟨f,Z,Z,Z,Z,Z,Z,Z,Z,Z,a,b,c,d,e⟩:=q
 exact ⟨f,_,⟨a,b,e⟩,sv (st:=s) c d e⟩
def XT {K:aC} {h:aU} {m:Str->kK} (X:K.In h) (G:h.Ns mainGlobals m) {x:Str} {s:Stmt} {v:au} (q:gE K x s v):JQ K m x s v:=by
 obtain ⟨f,Z,Z,Z,Z,Z,Z,Z,Z,Z,a,c,d,e⟩:=q
 exact ⟨f,_,abH X G a,sv (st:=s) c d e⟩
def cJ {K:aC} {h:aU} {m:Str->kK} (X:K.In h) (G:h.Ns mainGlobals m) {x:Str} {s:Stmt} (q:gE K x s .none):gr K m x s:=by
 obtain ⟨f,Z,Z,Z,Z,Z,Z,Z,Z,Z,a,c,d,e⟩:=q
 exact ⟨f,_,abH X G a,NN (st:=s) c d e⟩
abbrev kq_ (K:W.Frag) (a:Addr):Prop:=W.keepIn K (.ref a)=true
abbrev kc_ (K:W.Frag) (a:Value) (x:Str):Prop:=W.codeIn K a x=true
abbrev kf_ (K:W.Frag) (a:Addr) (b:Value) (c:Option Addr) (x y:Str) (s:Stmt) (d e f:Value) (g:Option Addr) (h i:Value) (n:Array (Option Value)):Prop:=K.lookup a=some ⟨b,c,.func (W.fnOf x y (cD s) (bF s) (ao s) .none d e f g h i),n⟩
abbrev kn_ (K:W.Frag) (x:Str) (a:Addr):Prop:=W.nsIn K mainGlobals x=some (some (.ref a))
abbrev kg_ (K:W.Frag) (a:Addr) (x:Str) (b:Addr):Prop:=W.findIn K (.ref a) x=some (some (.ref b))
def txt_mk {K:aC} {h:aU} {mg:cy} (X:K.In h) (G:h.Ns mainGlobals mg)
 {a b e s t u i j v c d k l m n o p q f g r:ai}
 {y z A B C D E F H I J L M N O P Q R S T:Tok}
 {U V Y Z aa ab ac ad ae af:Option ai}
 {ag ah aj ak al am:Nat}
 {an ao ap aq ar av aw ax:Array (kK)}
 {ay az aA aB aD aE aF w aG aH aI aJ aK x aL aM:au}
 (aN:kn_ K "Hold" a)
 (aO:kn_ K "Walk" b)
 (aP:kn_ K "Reach" e)
 (dW:kn_ K "StokeError" s)
 (dX:kn_ K "NoHold" t)
 (dY:kn_ K "NoState" u)
 (aQ:kn_ K "NoOrder" i)
 (aR:kn_ K "NoFailing" j)
 (dZ:kn_ K "NoRoom" v)
 (aS:kn_ K "NoTurn" c)
 (aT:kn_ K "NoBand" d)
 (aV:kn_ K "Ended" k)
 (aW:kn_ K "NotOut" l)
 (aX:kn_ K "NOUGHT" m)
 (aY:kn_ K "WHOLE" n)
 (aZ:W.excIn K i [.type "ValueError",.type "Exception",.type "BaseException",.type "object"] "ValueError.__new__" = true)
 (a0:W.excIn K j [.type "ValueError",.type "Exception",.type "BaseException",.type "object"] "ValueError.__new__" = true)
 (a1:W.excIn K k [.type "ValueError",.type "Exception",.type "BaseException",.type "object"] "ValueError.__new__" = true)
 (a2:W.excIn K l [.type "ValueError",.type "Exception",.type "BaseException",.type "object"] "ValueError.__new__" = true)
 (a3:W.findIn K (.ref c) "turn" = some none)
 (a4:W.hasDictIn K c=true)
 (a5:W.findIn K (.ref c) "room" = some none)
 (a6:W.findIn K (.ref c) "__setattr__" = some (some (.builtin "object.__setattr__")))
 (a7:jl K c=true)
 (a8:W.findIn K (.ref c) "__getattribute__" = some (some (.builtin "BaseException.__getattribute__")))
 (a9:W.findIn K (.ref c) "__getattr__" = some none)
 (ba:W.findIn K (.ref c) "__class__" = some (some (.builtin "object.__class__")))
 (bb:W.mroIn K c (.type "object")=some true)
 (bc:W.mroIn K c (.type "BaseException")=some true)
 (bd:W.isClsIn K c=true)
 (be:W.findIn K (.ref d) "turn" = some none)
 (bf:W.hasDictIn K d=true)
 (bg:W.findIn K (.ref d) "room" = some none)
 (bh:W.findIn K (.ref d) "__setattr__" = some (some (.builtin "object.__setattr__")))
 (bi:jl K d=true)
 (bj:W.findIn K (.ref d) "__getattribute__" = some (some (.builtin "BaseException.__getattribute__")))
 (bk:W.findIn K (.ref d) "__getattr__" = some none)
 (bl:W.findIn K (.ref d) "__class__" = some (some (.builtin "object.__class__")))
 (bm:W.mroIn K d (.type "object")=some true)
 (bn:W.mroIn K d (.type "BaseException")=some true)
 (bo:W.isClsIn K d=true)
 (bp:W.specialIn K (.builtin "object.__class__") "__get__" = some (some (.builtin "getset_descriptor.__get__")))
 (bq:W.takesIn K (.builtin "object.__class__")=some true)
 (br:W.nsIn K mainGlobals "LEAST_MARKS" = some (some (.int 2 y)))
 (bs:W.nsIn K mainGlobals "MOST_BANDS" = some (some (.int 400 z)))
 (bt:W.nsIn K mainGlobals "MOST_BURNING" = some (some (.int 4 A)))
 (bu:W.nsIn K mainGlobals "MOST_CAP" = some (some (.int 30 B)))
 (bv:W.nsIn K mainGlobals "MOST_FAILS" = some (some (.int 3 C)))
 (bw:W.nsIn K mainGlobals "MOST_LOAD" = some (some (.int 30 D)))
 (bx:W.nsIn K mainGlobals "MOST_MARKS" = some (some (.int 7 E)))
 (bz:W.nsIn K mainGlobals "MOST_ROOMS" = some (some (.int 4 F)))
 (bA:W.nsIn K mainGlobals "MOST_STAY" = some (some (.int 3 H)))
 (bB:W.nsIn K mainGlobals "MOST_WOOD" = some (some (.int 9 I)))
 (bC:K.lookup m=some ⟨.type "tuple",U,.seq #[.int 0 J,.int 1 L] ag,an⟩)
 (bD:K.lookup n=some ⟨.type "tuple",V,.seq #[.int 1 M,.int 1 N] ah,ao⟩)
 (bE:W.plainGet K a Str.empty=true)
 (bF:W.hasDictIn K a=true)
 (bG:W.plainOver K a=true)
 (bH:W.findIn K (.ref a) "__setattr__" = some (some (.builtin "object.__setattr__")))
 (bI:W.makesIn K a=true)
 (bJ:kq_ K a)
 (bK:W.findIn K (.ref a) "most" = some none)
 (bL:W.findIn K (.ref a) "cap" = some none)
 (bM:W.findIn K (.ref a) "load" = some none)
 (bN:W.findIn K (.ref a) "mark_rows" = some none)
 (bO:W.findIn K (.ref a) "flows" = some none)
 (bP:W.findIn K (.ref a) "skies" = some none)
 (bQ:W.findIn K (.ref a) "stoves" = some none)
 (bR:rL K a "__init__" "Hold.__init__" f8 (.ref o))
 (bS:K.lookup o=some ⟨ay,Y,.seq #[.int 4 O,.int 0 P,.int 0 Q] aj,ap⟩)
 (bT:rL K a "put_room" "Hold.put_room" ia .none)
 (bU:rL K a "put_flow" "Hold.put_flow" ip .none)
 (bV:rL K a "put_sky" "Hold.put_sky" i9 .none)
 (bW:rL K a "put_stove" "Hold.put_stove" fN (.ref p))
 (bX:K.lookup p=some ⟨az,Z,.seq #[.int 0 R,.int 0 S,.int 0 T] ak,aq⟩)
 (bY:rL K a "many" "Hold.many" lE .none)
 (bZ:rL K a "marks" "Hold.marks" jY .none)
 (b0:rL K a "share" "Hold.share" jV .none)
 (b1:rL K a "sky" "Hold.sky" m8 .none)
 (b2:rL K a "stove" "Hold.stove" ku .none)
 (b3:rL K a "own_share" "Hold.own_share" gT .none)
 (b4:rL K a "look_for" "Hold.look_for" ik .none)
 (b5:rL K a "look_at_share" "Hold.look_at_share" fE .none)
 (b6:W.plainGet K b Str.empty=true)
 (b7:W.hasDictIn K b=true)
 (b8:W.plainOver K b=true)
 (b9:W.findIn K (.ref b) "__setattr__" = some (some (.builtin "object.__setattr__")))
 (ca:W.makesIn K b=true)
 (cb:kq_ K b)
 (cc:W.findIn K (.ref b) "hold" = some none)
 (cd:W.findIn K (.ref b) "place" = some none)
 (ce:W.findIn K (.ref b) "gone" = some none)
 (cf:W.findIn K (.ref b) "ended" = some none)
 (cg:rL K b "__init__" "Walk.__init__" ig .none)
 (ch:rL K b "go" "Walk.go" mr (.ref q))
 (ci:K.lookup q=some ⟨aA,aa,.seq #[.none] al,ar⟩)
 (cj:rL K b "leave" "Walk.leave" ke .none)
 (ck:rL K b "state" "Walk.state" kH .none)
 (cl:rL K b "turns" "Walk.turns" jT .none)
 (cm:rL K b "span" "Walk.span" lB .none)
 (cn:rL K b "look_at_order" "Walk.look_at_order" fJ .none)
 (co:rL K b "look_at_warmth" "Walk.look_at_warmth" fb .none)
 (cp:W.plainGet K e Str.empty=true)
 (cq:W.hasDictIn K e=true)
 (cr:W.plainOver K e=true)
 (cs:W.findIn K (.ref e) "__setattr__" = some (some (.builtin "object.__setattr__")))
 (ct:W.makesIn K e=true)
 (cu:kq_ K e)
 (cv:W.findIn K (.ref e) "hold" = some none)
 (cw:W.findIn K (.ref e) "spreads" = some none)
 (cx:rL K e "__init__" "Reach.__init__" gS .none)
 (cz:rL K e "states_behind" "Reach.states_behind" fe .none)
 (cA:rL K e "spread" "Reach.spread" iX .none)
 (d0:kg_ K c "__init__" f)
 (cB:kf_ K f aB ab "__init__" "NoTurn.__init__" fq aD aE aF ac w aG av)
 (cC:kc_ K w "NoTurn.__init__")
 (cD:kq_ K f)
 (cE:W.typeIn K (.ref f)=some (.type "function"))
 (cF:ss K c f Kz "ValueError.__new__" = true)
 (d1:kg_ K d "__init__" g)
 (cG:kf_ K g aH ad "__init__" "NoBand.__init__" fh aI aJ aK ae x aL aw)
 (cH:kc_ K x "NoBand.__init__")
 (cI:kq_ K g)
 (cK:W.typeIn K (.ref g)=some (.type "function"))
 (cL:ss K d g Kz "ValueError.__new__" = true)
 (cM:gE K "has_room" nj .none)
 (cN:gE K "with_room" lY .none)
 (cO:gE K "how_many" nr .none)
 (cP:gE K "members" pV .none)
 (cQ:gE K "subsets" qJ .none)
 (cR:gE K "bits_of" pP .none)
 (cS:gE K "divisor" pJ .none)
 (cT:gE K "fraction" nG .none)
 (cU:gE K "plus" BG .none)
 (cV:gE K "minus" xY .none)
 (cW:gE K "under" xy .none)
 (cX:gE K "sum_of_products" gp .none)
 (cY:gE K "warmth_of" l5 .none)
 (cZ:gE K "span_of" ql .none)
 (c0:gE K "touched" pU .none)
 (c1:gE K "within" tZ .none)
 (c2:gE K "is_state" nk .none)
 (c3:gE K "fits_room" lK .none)
 (c4:gE K "fits_stove" kq .none)
 (c5:gE K "look_at_state" ie .none)
 (c6:gE K "with_stove" kj .none)
 (c7:gE K "wood_of" p8 .none)
 (c8:gE K "must_stay" lC .none)
 (c9:gE K "can_burn" nA .none)
 (da:gE K "orders_of" kW .none)
 (db:gE K "may_fail" nM .none)
 (dc:gE K "failing" qH .none)
 (dd:gE K "behind_turn" jx .none)
 (de:gE K "stoves_behind" io .none)
 (df:gE K "wait_behind" jB .none)
 (dg:gE K "failed_behind" iq .none)
 (dh:gE K "outcomes" mT .none)
 (di:gE K "each_choice" jz .none)
 (dj:gE K "is_whole_upto" ii .none)
 (dk:gE K "is_rising" lL .none)
 (dl:gE K "bands_together" gL .none)
 (dm:gE K "hold_like" jp (.ref r))
 (dn:K.lookup r=some ⟨aM,af,.seq #[.none,.none,.none] am,ax⟩)
 (dp:gE K "_law_cell_at" jA .none)
 (dq:gE K "_law_pick" ng .none)
 (dr:gE K "_law_ratio" ln .none)
 (ds:gE K "_law_scale" lh .none)
 (dt:gE K "_law_warm" mO .none)
 (du:gE K "_law_stove_by" i0 .none)
 (dv:gE K "_law_drawn" kY .none)
 (dw:gE K "_law_built" lU .none)
 (dx:gE K "_law_state_by" iZ .none)
 (dy:gE K "_law_mild" nc .none)
 (dz:gE K "_law_in" sY .none)
 (dA:gE K "_law_lean" mV .none)
 (dB:gE K "_law_air" p7 .none)
 (dC:gE K "_law_warmth" kB .none)
 (dD:gE K "_law_less" mM .none)
 (dE:gE K "_law_bands" lP .none)
 (dF:gE K "_law_turn" mP .none)
 (dG:gE K "law" DQ .none)
 (dH:W.nsIn K mainGlobals "abs" = some none)
 (dI:W.nsIn K mainGlobals "all" = some none)
 (dJ:W.nsIn K mainGlobals "bool" = some none)
 (dK:W.nsIn K mainGlobals "dict" = some none)
 (dL:W.nsIn K mainGlobals "enumerate" = some none)
 (dM:W.nsIn K mainGlobals "int" = some none)
 (dN:W.nsIn K mainGlobals "isinstance" = some none)
 (dO:W.nsIn K mainGlobals "len" = some none)
 (dP:W.nsIn K mainGlobals "list" = some none)
 (dQ:W.nsIn K mainGlobals "max" = some none)
 (dR:W.nsIn K mainGlobals "min" = some none)
 (dS:W.nsIn K mainGlobals "range" = some none)
 (dT:W.nsIn K mainGlobals "sum" = some none)
 (dU:W.nsIn K mainGlobals "tuple" = some none)
 (dV:W.nsIn K mainGlobals "zip" = some none)
 : Txt K mg ⟨a,b,e,s,t,u,i,j,v,c,d,k,l,m,n,o,p,q,r⟩ :=
⟨abH X G aN,
abH X G aO,
abH X G aP,
abH X G aQ,
abH X G aR,
abH X G aS,
abH X G aT,
abH X G aV,
abH X G aW,
abH X G aX,
abH X G aY,
aZ,
a0,
a1,
a2,
a3,
a4,
a5,
a6,
a7,
a8,
a9,
ba,
bb,
bc,
bd,
be,
bf,
bg,
bh,
bi,
bj,
bk,
bl,
bm,
bn,
bo,
bp,
bq,
⟨_,abH X G br⟩,
⟨_,abH X G bs⟩,
⟨_,abH X G bt⟩,
⟨_,abH X G bu⟩,
⟨_,abH X G bv⟩,
⟨_,abH X G bw⟩,
⟨_,abH X G bx⟩,
⟨_,abH X G bz⟩,
⟨_,abH X G bA⟩,
⟨_,abH X G bB⟩,
Mj bC,
Mj bD,
⟨bE,bF,bG,bH⟩,
⟨bI,bJ⟩,
bK,
bL,
bM,
bN,
bO,
bP,
bQ,
iF bR,
⟨_,_,_,bS,rfl,(.cons ⟨_,rfl⟩ (.cons ⟨_,rfl⟩ (.cons ⟨_,rfl⟩ .nil)))⟩,
iF bT,
iF bU,
iF bV,
iF bW,
⟨_,_,_,bX,rfl,(.cons ⟨_,rfl⟩ (.cons ⟨_,rfl⟩ (.cons ⟨_,rfl⟩ .nil)))⟩,
iF bY,
iF bZ,
iF b0,
iF b1,
iF b2,
iF b3,
iF b4,
iF b5,
⟨b6,b7,b8,b9⟩,
⟨ca,cb⟩,
cc,
cd,
ce,
cf,
iF cg,
iF ch,
⟨_,_,_,ci,rfl,(.cons rfl .nil)⟩,
iF cj,
iF ck,
iF cl,
iF cm,
iF cn,
iF co,
⟨cp,cq,cr,cs⟩,
⟨ct,cu⟩,
cv,
cw,
iF cx,
iF cz,
iF cA,
⟨f,_,DB cF cE,sv (st:=fq) cB cC cD⟩,
⟨g,_,DB cL cK,sv (st:=fh) cG cH cI⟩,
cJ X G cM,
cJ X G cN,
cJ X G cO,
cJ X G cP,
cJ X G cQ,
cJ X G cR,
cJ X G cS,
cJ X G cT,
cJ X G cU,
cJ X G cV,
cJ X G cW,
cJ X G cX,
cJ X G cY,
cJ X G cZ,
cJ X G c0,
cJ X G c1,
cJ X G c2,
cJ X G c3,
cJ X G c4,
cJ X G c5,
cJ X G c6,
cJ X G c7,
cJ X G c8,
cJ X G c9,
cJ X G da,
cJ X G db,
cJ X G dc,
cJ X G dd,
cJ X G de,
cJ X G df,
cJ X G dg,
cJ X G dh,
cJ X G di,
cJ X G dj,
cJ X G dk,
cJ X G dl,
XT X G dm,
⟨_,_,_,dn,rfl,(.cons rfl (.cons rfl (.cons rfl .nil)))⟩,
cJ X G dp,
cJ X G dq,
cJ X G dr,
cJ X G ds,
cJ X G dt,
cJ X G du,
cJ X G dv,
cJ X G dw,
cJ X G dx,
cJ X G dy,
cJ X G dz,
cJ X G dA,
cJ X G dB,
cJ X G dC,
cJ X G dD,
cJ X G dE,
cJ X G dF,
cJ X G dG,
abf X G dH,
abf X G dI,
abf X G dJ,
abf X G dK,
abf X G dL,
abf X G dM,
abf X G dN,
abf X G dO,
abf X G dP,
abf X G dQ,
abf X G dR,
abf X G dS,
abf X G dT,
abf X G dU,
abf X G dV⟩
section
variable {P:bq} {w:bh} {K:aC} {mg:cy} {base:aU} {Ad:Ads}
def BZ {lo:Int} {n:Nat} {g:TG} {tb:TS} {D:Ends} {U:L2.St} {H:Hp} (b:Nat->L2.St->Hp->Prop) (e:b 0 U H)
   (k:∀ (bk:L2.St->Hp->Prop) (rt:VK) (i:Nat) (U:L2.St) (H:Hp),i<n->b i U H->g (.int (lo+i)) U H λ a d=>tb ⟨b (i+1),rt,bk,b (i+1)⟩ a d) (f:∀ U H,b n U H->D.nx U H) :
   ∃ W:Nat->Nat->L2.St->Hp->Prop,(∃ m,W 0 m U H)/\∀ i m U H,W i m U H ->
     ((FU lo n).stop i H/\D.nx U H)\/((FU lo n).go i H/\∃ N:L2.St->Hp->Prop,(∀ c h,N c h->∃ m',m'<m/\W (i+1) m' c h)/\∀ x h,(FU lo n).FX i H x h->g x U h λ a d=>tb { D with nx:=N,ct:=N,bk:=D.nx } a d) :=
 wc b e (λ i U H j p=>k D.nx D.rt i U H j p) f
def vQ {K:aC} {a:ai} {xs:aA} {g:TG} {tb:TS} {D:Ends} {U:L2.St} {H:Hp} (b:Nat->L2.St->Hp->Prop) (f:b 0 U H) (k:∀ i U H,i<=xs.length->b i U H->bi K H a xs)
   (l:∀ (bk:L2.St->Hp->Prop) (rt:VK) (i:Nat) (x:V) (U:L2.St) (H:Hp),xs[i]?=some x->b i U H->g x U H λ c e=>tb ⟨b (i+1),rt,bk,b (i+1)⟩ c e) (j:∀ U H,b xs.length U H->D.nx U H) :
   ∃ W:Nat->Nat->L2.St->Hp->Prop,(∃ m,W 0 m U H)/\∀ i m U H,W i m U H ->
     ((IV K a).stop i H/\D.nx U H)\/((IV K a).go i H/\∃ N:L2.St->Hp->Prop,(∀ d h,N d h->∃ m',m'<m/\W (i+1) m' d h)/\∀ x h,(IV K a).FX i H x h->g x U h λ c e=>tb { D with nx:=N,ct:=N,bk:=D.nx } c e) :=
 iQ b f k (λ i x U H n p=>l D.nx D.rt i x U H n p) j
def gM {lo:Int} {n:Nat} {g:TG} {tb:TS} {D:Ends} {U:L2.St} {H:Hp} (p:Nat->L2.St->Hp->Prop) (b:p 0 U H) (d:let G:Nat->L2.St->Hp->Prop:=λ i U H=>g (.int (lo+i)) U H λ a h=>tb { D with nx:=p (i+1),ct:=p (i+1),bk:=D.nx } a h
   ∀ (i:Nat) (U:L2.St) (H:Hp),i<n->p i U H->G i U H) (c:∀ U H,p n U H->D.nx U H):=wc (lo:=lo) (n:=n) (g:=g) (tb:=tb) (D:=D) (U:=U) (H:=H) p b d c
def qD {K:aC} {a:ai} {xs:aA} {g:TG} {tb:TS} {D:Ends} {U:L2.St} {H:Hp} (p:Nat->L2.St->Hp->Prop) (c:p 0 U H) (e:∀ i U H,i<=xs.length->p i U H->bi K H a xs) (f:let G:Nat->V->L2.St->Hp->Prop:=λ i x U H=>g x U H λ b h=>tb { D with nx:=p (i+1),ct:=p (i+1),bk:=D.nx } b h
   ∀ (i:Nat) (x:V) (U:L2.St) (H:Hp),xs[i]?=some x->p i U H->G i x U H) (d:∀ U H,p xs.length U H->D.nx U H):=iQ (K:=K) (a:=a) (xs:=xs) (g:=g) (tb:=tb) (D:=D) (U:=U) (H:=H) p c e f d
def gk {lo:Int} {n:Nat} {g:TG} {tb:TS} {D:Ends} {U:L2.St} {H:Hp} (p:Nat->L2.St->Hp->Prop) (b:p 0 U H) (d:let G:(L2.St->Hp->Prop)->VK->Nat->L2.St->Hp->Prop:=λ bk rt i U H=>g (.int (lo+i)) U H λ a h=>tb ⟨p (i+1),rt,bk,p (i+1)⟩ a h
   ∀ (bk:L2.St->Hp->Prop) (rt:VK) (i:Nat) (U:L2.St) (H:Hp),i<n->p i U H->G bk rt i U H) (c:∀ U H,p n U H->D.nx U H):=BZ (lo:=lo) (n:=n) (g:=g) (tb:=tb) (D:=D) (U:=U) (H:=H) p b d c
def Np {K:aC} {a:ai} {xs:aA} {g:TG} {tb:TS} {D:Ends} {U:L2.St} {H:Hp} (p:Nat->L2.St->Hp->Prop) (c:p 0 U H) (e:∀ i U H,i<=xs.length->p i U H->bi K H a xs) (f:let G:(L2.St->Hp->Prop)->VK->Nat->V->L2.St->Hp->Prop:=λ bk rt i x U H=>g x U H λ b h=>tb ⟨p (i+1),rt,bk,p (i+1)⟩ b h
   ∀ (bk:L2.St->Hp->Prop) (rt:VK) (i:Nat) (x:V) (U:L2.St) (H:Hp),xs[i]?=some x->p i U H->G bk rt i x U H) (d:∀ U H,p xs.length U H->D.nx U H):=vQ (K:=K) (a:=a) (xs:=xs) (g:=g) (tb:=tb) (D:=D) (U:=U) (H:=H) p c e f d
def BK (T:Txt K mg Ad):Def P w K mg base "divisor" 1 ["one","other"] M4:=by
 refine T.Eu.cL gR λ Z Z Z Z Z H V Q E v h=>?_
 obtain ⟨a,b,rfl,k⟩:=h
 refine ⟨_,(ac (cM (i:=2) gR.nd (br qm (by rfl) T.GK Ck (aa (pv 0) af)))
     (ac (cM (i:=3) gR.nd (br qm (by rfl) T.GK Ck (aa (pv 1) af)))
     (ac (yP aaN (aM lI (pv 3) ah (aR _)) (ac (cM (i:=4) gR.nd (aw fm (pv 2) (pv 3)))
     (ac (cM (i:=2) gR.nd (pv 3))
     (am (cM (i:=3) gR.nd (pv 4))))))
     (am (aI (pv 2)))))),?_⟩
 try dsimp only [eD,aP]
 try (refine eU ?_;intro Z Z Z Z Z)
 refine ⟨_,rfl,_,rfl,λ G o=>⟨_,rfl,_,rfl,λ u q=>?_⟩⟩
 refine ⟨λ m U d=>d=H/\E3 λ (g l:Int) (r:fR)=>A5 (U=[some (.int a),some (.int b),some (.int g),some (.int l),r]) (0<=g) (0<=l) (m=l.toNat) (Int.gcd g l=Int.gcd a b),
   ⟨_,rfl,G,u,none,rfl,by lia,by lia,rfl,by rw [o,q];rfl⟩,?_⟩
 rintro m U d ⟨rfl,g,l,r,rfl,f,t,rfl,e⟩
 refine ⟨_,rfl,rfl,_,rfl,?_⟩
 refine vD (λ h=>?_) (λ h=>?_)
 .
  have L:0<l:=by rw [fL] at h;lia
  refine ⟨λ c p=>p=d/\c=[some (.int a),some (.int b),some (.int l),some (.int (g % l)),some (.int (g % l))],λ c p ⟨j,n⟩=>?_,?_⟩
  . have M:=adu g (by lia:l≠0)
    have x:=ac7 g L
    exact ⟨(g % l).toNat,by lia,j,l,g % l,_,n,t,M,rfl,(LV f L).trans e⟩
  . refine ⟨_,rfl,_,rfl,_,_,rfl,rfl,L,λ r Z Z s=>?_⟩
    subst s
    exact ⟨_,rfl,_,rfl,rfl,rfl⟩
 .
  have L:l=0:=fL.mp h
  subst L
  refine ⟨_,rfl,k g ?_⟩
  rw [<- e,Rq f]
def lG (T:Txt K mg Ad):Def P w K mg base "fraction" 2 ["top","bottom"] yG:=by
 refine T.Cr.cL mf λ Z Z Z Z Z H V Q E x h=>?_
 obtain ⟨t,b,rfl,j,l,k⟩:=h
 refine ⟨_,(ac (bB (aM jm (pv 1) ah (aR _)) (am cN) aK)
     (ac (cM (i:=2) mf.nd (ak (BK T) x.m (aa (pv 0) (aa (pv 1) af))))
     (ac (lH (bB (aM oC (pv 1) ah (aR _)) (am (cM (i:=2) mf.nd (mD xa (pv 2)))) aK))
     (am (aI (cQ (aa (aw i4 (pv 0) (pv 2)) (aa (aw i4 (pv 1) (pv 2)) af)))))))),?_⟩
 try dsimp only [eD,aP]
 try (refine eU ?_;intro Z Z Z Z Z)
 refine ⟨_,rfl,rfl,_,rfl,?_⟩
 refine nW (λ e=>j (fL.mp e)) ?_
 refine ⟨_,rfl,_,rfl,t,b,rfl,λ c n=>?_⟩
 obtain ⟨y,z,F,fn⟩:=GV j n
 have B:Bd 8999 c:=(l.le (by lia)).mono (by decide)
 refine ⟨λ a d=>d=H/\∃ C,A4 (C≠0) (Bd 8999 C) (Fr t b (t.fdiv C) (b.fdiv C)) (a=[some (.int t),some (.int b),some (.int C)]),?_,?_⟩
 .
  refine ⟨_,rfl,_,_,rfl,rfl,_,rfl,?_⟩
  refine iH (λ h=>?_) (λ h=>?_)
  . exact ⟨_,rfl,_,rfl,rfl,-c,by lia,B.neg,fn h,rfl⟩
  . exact ⟨rfl,c,by lia,B,F (by lia),rfl⟩
 .
  rintro a d ⟨rfl,C,f,g,u,rfl⟩
  refine ⟨_,rfl,_,rfl,_,_,rfl,rfl,⟨f,g⟩,λ q o=>⟨_,rfl,_,rfl,_,_,rfl,rfl,⟨f,g⟩,λ r s=>⟨DR,λ p v=>?_⟩⟩⟩
  subst o s
  exact k _ _ p _ u (al v) ag
def J5 (T:Txt K mg Ad):Def P w K mg base "plus" 3 ["one","other"] (Au (λ a b c d=>a * d+c * b) K):=by
 refine T.No.cL KI λ Z Z Z Z Z H V Q E r h=>?_
 obtain ⟨s,v,a,b,c,d,rfl,f,g,i,D,j,B,l,e,k⟩:=h
 refine ⟨_,(am (aI (ak (lG T) r.m (aa (aw aJ (aw aL (aF ay (pv 0) ah) (aF ay (pv 1) ah)) (aw aL (aF ay (pv 1) ah) (aF ay (pv 0) ah))) (aa (aw aL (aF ay (pv 0) ah) (aF ay (pv 1) ah)) af))))),?_⟩
 try dsimp only [eD,aP]
 refine ⟨_,rfl,_,_,_,_,rfl,rfl,.inr f,rfl,_,rfl,_,_,_,_,rfl,rfl,.inr g,rfl,_,_,rfl,rfl,⟨_,_,j,e,by decide⟩,λ x n=>?_⟩
 refine ⟨_,rfl,_,_,_,_,rfl,rfl,.inr g,rfl,_,rfl,_,_,_,_,rfl,rfl,.inr f,rfl,_,_,rfl,rfl,⟨_,_,l,B,by decide⟩,λ X o=>⟨_,_,rfl,rfl,λ t p=>?_⟩⟩
 refine ⟨_,rfl,_,_,_,_,rfl,rfl,.inr f,rfl,_,rfl,_,_,_,_,rfl,rfl,.inr g,rfl,_,_,rfl,rfl,⟨_,_,B,e,by decide⟩,λ u q=>?_⟩
 subst n o p q
 exact ⟨_,_,rfl,abQ (aaZ i D),(B.mul e).mono (by decide),k⟩
def yS (T:Txt K mg Ad):Def P w K mg base "minus" 3 ["one","other"] (Au (λ a b c d=>a * d - c * b) K):=by
 refine T.Jt.cL Ie λ Z Z Z Z Z H V Q E r h=>?_
 obtain ⟨s,v,a,b,c,d,rfl,f,g,i,D,j,B,l,e,k⟩:=h
 refine ⟨_,(am (aI (ak (lG T) r.m (aa (aw de (aw aL (aF ay (pv 0) ah) (aF ay (pv 1) ah)) (aw aL (aF ay (pv 1) ah) (aF ay (pv 0) ah))) (aa (aw aL (aF ay (pv 0) ah) (aF ay (pv 1) ah)) af))))),?_⟩
 try dsimp only [eD,aP]
 refine ⟨_,rfl,_,_,_,_,rfl,rfl,.inr f,rfl,_,rfl,_,_,_,_,rfl,rfl,.inr g,rfl,_,_,rfl,rfl,⟨_,_,j,e,by decide⟩,λ x n=>?_⟩
 refine ⟨_,rfl,_,_,_,_,rfl,rfl,.inr g,rfl,_,rfl,_,_,_,_,rfl,rfl,.inr f,rfl,_,_,rfl,rfl,⟨_,_,l,B,by decide⟩,λ X o=>⟨_,_,rfl,rfl,λ t p=>?_⟩⟩
 refine ⟨_,rfl,_,_,_,_,rfl,rfl,.inr f,rfl,_,rfl,_,_,_,_,rfl,rfl,.inr g,rfl,_,_,rfl,rfl,⟨_,_,B,e,by decide⟩,λ u q=>?_⟩
 subst n o p q
 exact ⟨_,_,rfl,abQ (aaZ i D),(B.mul e).mono (by decide),k⟩
def fw (T:Txt K mg Ad):Def P w K mg base "under" 1 ["one","other"] (Gp K):=by
 refine T.J2.cL HP λ Z Z Z Z Z H v Q E n h=>?_
 obtain ⟨p,o,a,b,c,d,rfl,e,f,B,g,i,j,k⟩:=h
 refine ⟨_,(am (aI (gB oC (aw aL (aF ay (pv 0) ah) (aF ay (pv 1) ah)) (aw aL (aF ay (pv 1) ah) (aF ay (pv 0) ah)) (aR _)))),?_⟩
 try dsimp only [eD,aP]
 refine ⟨_,rfl,_,_,_,_,rfl,rfl,.inr e,rfl,_,rfl,_,_,_,_,rfl,rfl,.inr f,rfl,_,_,rfl,rfl,⟨_,_,B,j,by decide⟩,λ x l=>?_⟩
 refine ⟨_,rfl,_,_,_,_,rfl,rfl,.inr f,rfl,_,rfl,_,_,_,_,rfl,rfl,.inr e,rfl,_,_,rfl,rfl,⟨_,_,i,g,by decide⟩,λ X m=>⟨_,_,rfl,rfl,?_⟩⟩
 subst l m
 exact k
def c7 (T:Txt K mg Ad):Def P w K mg base "is_whole_upto" 1 ["thing","greatest"] J6:=by
 refine T.sd.cL pZ λ Z Z Z Z Z H c Q E b h=>?_
 obtain ⟨n,g,rfl,k⟩:=h
 refine ⟨_,(ac (bB (PW.pt (rq (cw (br qW (by rfl) T.o5 mH (aa (pv 0) (aa (Dj (v:=V.ty "bool") rfl T.MH LD rfl) af)))) (nH (fF (cw (br qW (by rfl) T.o5 mH (aa (pv 0) (aa (Dj (v:=V.ty "int") rfl T.L4 HN rfl) af)))))))) (am (aI iC)) aK)
     (am (aI (Ij iu iu ah (pv 0) (pv 1))))),?_⟩
 try dsimp only [eD,aP]
 refine ⟨_,rfl,_,_,_,_,_,rfl,.int n,rfl,wW K,_,rfl,gm ⟨_,rfl,_,_,_,_,_,rfl,.int n,rfl,rfl,_,rfl,gm ?_⟩⟩
 refine ⟨_,rfl,_,_,rfl,rfl,_,rfl,?_⟩
 by_cases a:(0:Int)<=n
 .
  refine qa a ⟨_,rfl,_,_,rfl,rfl,?_⟩
  have:decide (n<=g)=decide (0<=n/\n<=g):=abU.mpr ⟨λ h=>⟨a,h⟩,λ h=>h.2⟩
  show Q (V.bl (decide (n<=g))) H
  rw [this]
  exact k
 .
  refine nW a ?_
  have:decide (0<=n/\n<=g)=false:=aal λ h=>a h.1
  rw [this] at k
  exact k
def cq (T:Txt K mg Ad):hZ P w K mg base Ad.aX "many" 1 ["self"] [] (K5 K Ad.aX):=by
 refine T.yI.gH xZ λ Z Z Z Z Z H v Q E s h=>?_
 obtain ⟨a,q,m,rfl,g,k⟩:=h
 refine ⟨_,(am (aI (br bO (by rfl) T.fX dL (aa (bj (pv 0) rfl) af)))),?_⟩
 try dsimp only [eD,aP]
 obtain ⟨⟨D,y,x,z,B,V,v,M,A,rfl,f,J,b,r,F,o,N,t,u,d,j,l,i,p⟩,C,G,I,L⟩:=g
 refine ⟨_,rfl,a,_,D,_,_,rfl,f,T.aG,T.cx,pC ..,_,_,rfl,.inl (bi.of b),λ n c=>?_⟩
 have e:n=(m.rows.length:Int):=by rw [c,d.length,OS]
 rw [e]
 exact k
def bP (T:Txt K mg Ad):hZ P w K mg base Ad.aX "look_for" 3 ["self","room"] [] (AO K Ad.aX):=by
 refine T.rY.gH qK λ Z Z Z Z Z H v Q E e h=>?_
 obtain ⟨a,f,m,i,rfl,b,g,k⟩:=h
 refine ⟨_,(am (bB (fF (jI iu oC ah (pv 1) (cS (pv 0) T.aG (cq T) .nil e.m))) (am cN) aK)),?_⟩
 try dsimp only [eD,aP]
 obtain ⟨⟨d,l,j,n,o,V,v,q,A,p,c,Z⟩,Z⟩:=id b
 refine ⟨_,rfl,_,_,rfl,rfl,_,rfl,qa (by lia) ⟨_,rfl,a,d,_,rfl,c,rfl,a,f,m,rfl,b,_,_,rfl,rfl,_,rfl,?_⟩⟩
 exact fz (by lia) k
def pB (T:Txt K mg Ad):hZ P w K mg base Ad.aX "sky" 4 ["self","room"] [] (Oo K Ad.aX):=by
 refine T.Bg.gH yH λ Z Z Z Z Z H V Q E o h=>?_
 obtain ⟨a,l,m,i,z,rfl,c,e,k⟩:=h
 refine ⟨_,(ac (bf (aW (pv 0) T.aG (bP T) .nil o.m (aa (pv 1) af)))
     (am (aI (aF ay (bj (pv 0) rfl) (pv 1))))),?_⟩
 try dsimp only [eD,aP]
 obtain ⟨⟨D,L,I,M,O,W,V,X,A,G,b,J,u,y,F,t,N,B,C,r,f,s,p,x⟩,q,R,S,U⟩:=id c
 have n:i<m.rows.length:=by rw [<- q];exact (RJ.mp e).1
 obtain ⟨v,j,g⟩:=f.get (i:=i) (d:=nX z) (by rw [T1,e];rfl)
 refine ⟨_,rfl,a,D,_,rfl,b,rfl,_,rfl,a,l,m,i,rfl,c,n,?_⟩
 exact ⟨_,rfl,a,_,D,_,_,rfl,b,T.aG,T.cY,iK ..,_,rfl,_,_,_,_,rfl,rfl,.inl (bi.of F),jb j,k v g⟩
def ek (T:Txt K mg Ad):hZ P w K mg base Ad.aX "stove" 4 ["self","room"] [] (IB K Ad.aX):=by
 refine T.xz.gH vk λ Z Z Z Z Z H V Q E o h=>?_
 obtain ⟨a,F,m,i,z,rfl,c,e,k⟩:=h
 refine ⟨_,(ac (bf (aW (pv 0) T.aG (bP T) .nil o.m (aa (pv 1) af)))
     (am (aI (aF ay (bj (pv 0) rfl) (pv 1))))),?_⟩
 try dsimp only [eD,aP]
 obtain ⟨⟨D,L,I,M,O,W,V,X,A,G,b,J,t,y,u,j,N,B,C,r,s,f,p,x⟩,R,q,S,U⟩:=id c
 have n:i<m.rows.length:=by rw [<- q];exact (RJ.mp e).1
 obtain ⟨v,l,g⟩:=f.get (i:=i) (d:=il z) (by rw [T1,e];rfl)
 refine ⟨_,rfl,a,D,_,rfl,b,rfl,_,rfl,a,F,m,i,rfl,c,n,?_⟩
 exact ⟨_,rfl,a,_,D,_,_,rfl,b,T.aG,T.dY,j0 ..,_,rfl,_,_,_,_,rfl,rfl,.inl (bi.of j),jb l,k v g⟩
def fH (T:Txt K mg Ad):hZ P w K mg base Ad.aX "marks" 4 ["self","room"] [] (Gu K Ad.aX):=by
 refine T.yf.gH vF λ Z Z Z Z Z H V Q E t h=>?_
 obtain ⟨a,F,m,i,r,rfl,e,f,k⟩:=h
 refine ⟨_,(ac (bf (aW (pv 0) T.aG (bP T) .nil t.m (aa (pv 1) af)))
     (am (aI (cG gz (by rfl) T.uu oW (aa (aF ay (bj (pv 0) rfl) (pv 1)) af))))),?_⟩
 try dsimp only [eD,aP]
 obtain ⟨⟨D,S,R,U,W,vm,V,vt,A,O,c,J,l,I,C,B,N,L,M,g,y,z,u,G⟩,X,Y,q3,q4⟩:=id e
 have o:i<m.rows.length:=(RJ.mp f).1
 obtain ⟨v,n,b,x,rfl,s,j⟩:=g.get (i:=i) (d:=vC r) (by rw [T1,f];rfl)
 refine ⟨_,rfl,a,D,_,rfl,c,rfl,_,rfl,a,F,m,i,rfl,e,o,?_⟩
 exact ⟨_,rfl,a,_,D,_,_,rfl,c,T.aG,T.cx,pC ..,_,rfl,_,_,_,_,rfl,rfl,.inl (bi.of l),jb n,b,x,rfl,.inr s,λ p q=>k p x q j⟩
def i3 (T:Txt K mg Ad):hZ P w K mg base Ad.aX "own_share" 4 ["self","room"] [] (MR K Ad.aX):=by
 refine T.qu.gH ff λ Z Z Z Z Z H vs Q E l h=>?_
 obtain ⟨a,fp,m,i,rfl,G,hi,k⟩:=h
 refine ⟨_,(ac (cM (i:=2) ff.nd (ak (yS T) l.m (aa (gZ (v:=V.ref _) rfl T.DJ rfl) (aa (aF ay (aF ay (bj (pv 0) rfl) (pv 1)) ah) af))))
     (ac (dh aaN rfl (bN rfl T.cK (aa (cS (pv 0) T.aG (cq T) .nil l.m) af)) (jq (i:=3) ff.nd) (am (cM (i:=2) ff.nd (ak (yS T) l.m (aa (pv 2) (aa (zH (cT l) (bj (pv 0) rfl) (cQ (aa (pv 1) (aa (pv 3) af))) (gZ (v:=V.ref _) rfl T.i7 rfl) ⟨rfl,rfl,rfl,rfl⟩) af))))))
     (am (aI (pv 2))))),?_⟩
 try dsimp only [eD,aP]
 try (refine c9 ?_;intro Z Z Z Z)
 obtain ⟨⟨z,pm,pf,ps,pt,vm,vs,vt,aE,pG,B,jf,eZ,W,fj,eY,n1,n2,n3,dm,ds,dt,df,fk⟩,q1,q2,q3,L⟩:=id G
 have WU:i<m.bC.length:=by rw [q1];exact hi
 have X:=ar WU
 obtain ⟨v,ev,dv⟩:=ds.get (i:=i) (d:=nX m.bC[i]) (by rw [T1,X];rfl)
 obtain ⟨p0,v1,v2,v3,rfl,Y,d1,d2,d3⟩:=dv.dI
 obtain ⟨p1,rfl,Ji⟩:=d1.fr
 have R:m.bC[i].1=m.fG i:=by unfold ap.fG;rw [X];rfl
 have O:dH 100 m.bC[i].1:=R ▸ L.fG i
 refine ⟨_,rfl,a,_,z,_,_,rfl,B,T.aG,T.cY,iK ..,_,rfl,_,_,_,_,rfl,rfl,.inl (bi.of fj),jb ev,_,_,_,_,rfl,rfl,.inr Y,rfl,?_⟩
 refine ⟨Ad.wx,p1,1,1,_,_,rfl,T.Ds.at H,Ji,by decide,O.p,mE,mE,O.t.mono (by decide),O.b.mono (by decide),λ q r u H1 F M c=>?_⟩
 have e0:(q,r)=m.gD i 0:=by
   have:=F.nf (aaZ (by decide) O.p)
   rw [this]
   unfold ap.gD mR
   rw [<- R];rfl
 refine ⟨_,rfl,a,z,_,rfl,M _ _ B,rfl,a,fp,m,rfl,aV.same M G,_,rfl,by lia,by lia,?_⟩
 refine gM (lo:=0) (n:=m.rows.length) (λ j U N=>aD H N/\E2 λ (u:ai) (x:fR)=>N u=some (.tup [.int (m.gD i j).1,.int (m.gD i j).2])/\U=[some (.ref a),some (aq i),some (.ref u),x])
   ⟨M,u,none,by rw [<- e0];exact c,rfl⟩ ?_ ?_
 .
  rintro Z j U e hj ⟨s,u,x,c,rfl⟩
  have y:=(L.gD i j).mono (show 201+101 * j<=1000 by lia)
  obtain ⟨of,ot⟩:True/\True:=⟨trivial,trivial⟩
  refine ⟨_,rfl,_,rfl,a,_,z,_,_,rfl,s _ _ B,T.aG,T.eV,mj ..,_,rfl,.inr ⟨_,.inl (s _ _ W)⟩,_,rfl,_,rfl,DR,λ I yM=>?_⟩
  have S:=al (o:=.tup [aq i,.int (0+(j:Int))]) yM
  have pX:(upd e I (.tup [aq i,.int (0+(j:Int))])) I=some (.tup ((gb i j).map kV)):=by rw [ag,aap];rfl
  refine ⟨_,gO.t (S _ _ (s _ _ W)) pX,?_⟩
  have D:Dn K (upd e I (.tup [aq i,.int (0+(j:Int))])) (dO (m.fV i j)) ((gl aE (gb i j)).getD (.ref Ad.kD)):=by
    have:=(aV.same (s.trans S) G).ex
    have q:=df i j
    refine Dn.same (s.trans S) _ (De q (T.lA.fr (f:=(0,1))))
  obtain ⟨J,A,C⟩:=D.fr
  have g:=L.fV i j
  rw [A]
  refine ⟨u,J,_,_,_,_,rfl,bR.of (S _ _ c),C,y.p,g.p,y.t,y.b,g.t.mono (by decide),g.b.mono (by decide),λ q r u' H4 F s4 Nc=>?_⟩
  refine ⟨s.trans (S.trans s4),u',_,?_,rfl⟩
  have:=F.nf (aaZ y.p g.p)
  rw [Nc,ap.kA]
  unfold mR
  rw [<- this]
 . rintro U e ⟨s,u,x,c,rfl⟩
   exact ⟨_,rfl,k _ e s (hR (bR.of c))⟩
def lR (T:Txt K mg Ad):hZ P w K mg base Ad.aX "share" 5 ["self","into","of"] [] (Iv K Ad.aX):=by
 refine T.xI.gH vo λ Z Z Z Z Z H y Q E g h=>?_
 obtain ⟨a,F,m,i,j,rfl,c,n,u,k⟩:=h
 refine ⟨_,(ac (bf (aW (pv 0) T.aG (bP T) .nil g.m (aa (pv 1) af)))
     (ac (bf (aW (pv 0) T.aG (bP T) .nil g.m (aa (pv 2) af)))
     (ac (bB (aM jm (pv 1) (pv 2) (aR _)) (am (aI (aW (pv 0) T.aG (i3 T) .nil g.m (aa (pv 1) af)))) aK)
     (am (aI (zH (cT g) (bj (pv 0) rfl) (cQ (aa (pv 1) (aa (pv 2) af))) (gZ (v:=V.ref _) rfl T.i7 rfl) ⟨rfl,rfl,rfl,rfl⟩)))))),?_⟩
 try dsimp only [eD,aP]
 try (refine eU ?_;intro Z Z Z Z Z)
 obtain ⟨⟨d,pm,X,ps,pt,vm,y,vt,A,U,b,M,I,l,J,G,N,O,R,z,B,C,D,L⟩,q1,q2,q3,q4⟩:=id c
 refine ⟨_,rfl,a,d,_,rfl,b,rfl,_,rfl,a,F,m,i,rfl,c,n,⟨_,rfl,a,d,_,rfl,b,rfl,_,rfl,a,F,m,j,rfl,c,u,?_⟩⟩
 refine ⟨_,rfl,_,rfl,rfl,_,rfl,?_⟩
 by_cases W:i=j
 . subst W
   refine qa rfl ⟨_,rfl,a,d,_,rfl,b,rfl,_,rfl,a,F,m,i,rfl,c,n,λ v q S r=>k v q S ?_⟩
   rw [ap.share,aan rfl];exact r
 .
  refine nW (λ e=>W (by have:=fL.mp e;lia)) ?_
  refine ⟨_,rfl,a,_,d,_,_,rfl,b,T.aG,T.eV,mj ..,_,rfl,.inr ⟨_,.inl l⟩,_,rfl,_,rfl,DR,λ p Y=>?_⟩
  have s:=al (o:=.tup [aq i,aq j]) Y
  have x:(upd H p (.tup [aq i,aq j])) p=some (.tup ((gb i j).map kV)):=by rw [ag];rfl
  refine ⟨_,gO.t (s _ _ l) x,k _ _ s ?_⟩
  rw [ap.share,aam W]
  exact Dn.same s _ (De (D i j) (T.lA.fr (f:=(0,1))))
def gA (T:Txt K mg Ad):hZ P w K mg base Ad.aX "look_at_share" 5 ["self","room","share","former"] [] (Ls K Ad.aX):=by
 refine T.lW.gH gG λ Z Z Z Z Z H U Q E d h=>?_
 obtain ⟨a,G,m,i,v1,v2,f,g,rfl,l,L,D,z,e,o,hf,n,k⟩:=h
 refine ⟨_,(ac (cM (i:=4) gG.nd (ak (J5 T) d.m (aa (aW (pv 0) T.aG (i3 T) .nil d.m (aa (pv 1) af)) (aa (pv 3) af))))
     (am (bB (PW.pt (rq (cw (ak (fw T) d.m (aa (pv 2) (aa (gZ (v:=V.ref _) rfl T.i7 rfl) af)))) (nH (cw (ak (fw T) d.m (aa (pv 4) (aa (pv 2) af))))))) (am cN) aK))),?_⟩
 try dsimp only [eD,aP]
 obtain ⟨⟨B,pm,pf,ps,pt,vm,U,vt,aE,pG,J,jf,eZ,h9,fj,eY,n1,n2,n3,dm,ds,dt,df,fk⟩,q1,q2,q3,R⟩:=id l
 obtain ⟨x,rfl,c⟩:=D.fr
 obtain ⟨M,rfl,I⟩:=z.fr
 refine ⟨_,rfl,a,B,_,rfl,J,rfl,_,rfl,a,G,m,i,rfl,l,L,λ v W s A=>⟨_,rfl,?_⟩⟩
 obtain ⟨N,rfl,y⟩:=A.fr
 have O:dH 800 (m.own i):=(R.gD i _).mono (by lia)
 refine ⟨N,M,_,_,_,_,rfl,y,s.tup I,O.p,o.p,O.t.mono (by decide),O.b.mono (by decide),o.t.mono (by decide),o.b.mono (by decide),λ q r u X F S Y=>?_⟩
 have C:(q,r)=li (m.own i) g:=F.nf (aaZ O.p o.p)
 have j:dH 950 (li (m.own i) g):=(O.plus o).mono (by decide)
 rw [<- C] at j n
 refine ⟨_,rfl,x,Ad.kD,_,_,_,_,rfl,S.tup (s.tup c),T.lA.at _,e.t.mono (by decide),e.b.mono (by decide),mE,mE,_,rfl,nW (by lia) ?_⟩
 refine ⟨_,rfl,_,rfl,u,x,_,_,_,_,rfl,bR.of Y,S.tup (s.tup c),j.t.mono (by decide),j.b.mono (by decide),e.t.mono (by decide),e.b.mono (by decide),_,rfl,nW (acp n) (k _ (s.trans S))⟩
def og (T:Txt K mg Ad):hZ P w K mg base Ad.aX "put_flow" 6 ["self","into","of","share"] [] (yR K Ad.aX):=by
 refine T.rF.gH qE λ Z Z Z Z Z H V Q E g h=>?_
 obtain ⟨a,F,m,i,j,v,f,rfl,c,l,r,W,D,O,A,B,k⟩:=h
 refine ⟨_,(ac (bf (aW (pv 0) T.aG (bP T) .nil g.m (aa (pv 1) af)))
     (ac (bf (aW (pv 0) T.aG (bP T) .nil g.m (aa (pv 2) af)))
     (ac (bB (aM jm (pv 1) (pv 2) (aR _)) (am cN) aK)
     (ac (bf (aW (pv 0) T.aG (gA T) .nil g.m (aa (pv 1) (aa (pv 3) (aa (aW (pv 0) T.aG (lR T) .nil g.m (aa (pv 1) (aa (pv 2) af))) af)))))
     (am (xi (cT g) (bj (pv 0) rfl) (cQ (aa (pv 1) (aa (pv 2) af))) (pv 3) rfl)))))),?_⟩
 try dsimp only [eD,aP]
 try (refine lN ?_;intro Z Z Z Z Z Z)
 obtain ⟨⟨d,pm,pf,ps,pt,vm,V,vt,M,pG,b,jf,eZ,q,fj,eY,n1,n2,n3,R,U,X,N,y⟩,q1,q2,q3,G⟩:=id c
 refine ⟨_,rfl,a,d,_,rfl,b,rfl,_,rfl,a,F,m,i,rfl,c,l,⟨_,rfl,a,d,_,rfl,b,rfl,_,rfl,a,F,m,j,rfl,c,r,?_⟩⟩
 refine ⟨_,rfl,_,rfl,rfl,_,rfl,nW (λ e=>W (by have:=fL.mp e;lia)) ?_⟩
 refine ⟨_,rfl,a,d,_,rfl,b,rfl,_,rfl,_,rfl,_,rfl,a,d,_,rfl,b,rfl,_,rfl,_,rfl,a,F,m,i,j,rfl,c,l,r,λ z L S p=>?_⟩
 rw [ap.share,aam W] at p
 refine ⟨a,F,m,i,v,z,f,_,rfl,c.same S,l,Dn.same S _ D,p,O,G.fV i j,A,B,λ x I=>?_⟩
 have s:=S.trans I
 refine ⟨_,rfl,_,rfl,a,_,d,_,_,rfl,s _ _ b,T.aG,T.eV,mj ..,_,rfl,_,rfl,DR,λ u Y=>?_⟩
 have J:=al (o:=.tup [aq i,aq j]) Y
 have C:(upd x u (.tup [aq i,aq j])) u=some (.tup ((gb i j).map kV)):=by rw [ag];rfl
 have n:=s.trans J
 refine ⟨_,_,rfl,xX.t (n _ _ q) C (aaO y.len (by decide)),k _ F (FO c n b q (by lia) (by lia) (Dn.same n _ D) O)⟩
def pN (T:Txt K mg Ad):hZ P w K mg base Ad.aX "put_sky" 6 ["self","room","share","low","high"] [] (Cv K Ad.aX):=by
 refine T.tz.gH rJ λ Z Z Z Z Z H V Q E l h=>?_
 obtain ⟨a,g,m,i,G,v2,v3,f,lo,hi,rfl,e,O,q,r,u,A,n,p,j,S,U,k⟩:=h
 refine ⟨_,(ac (bf (aW (pv 0) T.aG (bP T) .nil l.m (aa (pv 1) af)))
     (ac (bB (cw (ak (fw T) l.m (aa (pv 4) (aa (pv 3) af)))) (am cN) aK)
     (ac (bf (aW (pv 0) T.aG (gA T) .nil l.m (aa (pv 1) (aa (pv 2) (aa (aF ay (aF ay (bj (pv 0) rfl) (pv 1)) ah) af)))))
     (am (i8 (cQ (aa (pv 2) (aa (pv 3) (aa (pv 4) af)))) (xN (bj (pv 0) rfl) (pv 1) set_list)))))),?_⟩
 try dsimp only [eD,aP]
 try (refine eU ?_;intro Z Z Z Z Z)
 obtain ⟨⟨D,pm,pf,X,pt,vm,V,vt,aE,pG,c,jf,eZ,h9,F,eY,n1,n2,n3,dm,x,dt,df,fk⟩,Y,q2,q3,q4⟩:=id e
 obtain ⟨B,rfl,J⟩:=r.fr
 obtain ⟨C,rfl,L⟩:=u.fr
 have W:i<m.bC.length:=by rw [Y];exact O
 have z:=ar W
 obtain ⟨v,R,M⟩:=x.get (i:=i) (d:=nX m.bC[i]) (by rw [T1,z];rfl)
 obtain ⟨p0,w1,w2,w3,rfl,I,y,e2,e3⟩:=M.dI
 have N:m.bC[i].1=m.fG i:=by unfold ap.fG;rw [z];rfl
 rw [N] at y
 refine ⟨_,rfl,a,D,_,rfl,c,rfl,_,rfl,a,g,m,i,rfl,e,O,?_⟩
 refine ⟨_,rfl,_,rfl,C,B,_,_,_,_,rfl,L,J,p.t.mono (by decide),p.b.mono (by decide),n.t.mono (by decide),n.b.mono (by decide),_,rfl,nW (acp j) ?_⟩
 refine ⟨_,rfl,a,D,_,rfl,c,rfl,_,rfl,_,rfl,_,rfl,a,_,D,_,_,rfl,c,T.aG,T.cY,iK ..,_,rfl,_,_,_,_,rfl,rfl,.inl (bi.of F),jb R,_,_,_,_,rfl,rfl,.inr I,rfl,?_⟩
 refine ⟨a,g,m,i,G,w1,f,_,rfl,e,O,q,y,A,q4.fG i,S,U,λ H2 s2=>?_⟩
 refine ⟨_,rfl,_,rfl,_,rfl,Of,λ kp yM=>?_⟩
 have s3:=al (o:=.tup [G,.ref B,.ref C]) yM
 have s:=s2.trans s3
 have hl:V.length=m.bC.length:=by rw [x.length,OS]
 refine ⟨_,rfl,a,_,D,_,_,rfl,s _ _ c,T.aG,T.cY,iK ..,_,rfl,X,V,_,i,rfl,rfl,s _ _ F,DF (by lia),k _ g (GU e s c F (Gd (bR.of ag) (Dn.same s _ q) (Dn.same s _ r) (Dn.same s _ u)) ⟨A,n,p⟩)⟩
def nT (T:Txt K mg Ad):P1 P w K mg base Ad.aX "put_stove" "Hold.put_stove" fN (.ref Ad.gP) 4 ["self","room","heat","wood","stay","fails"] (pA K Ad.aX):=by
 refine T.qj.mok oJ (λ q H Q E h=>?_) (λ f Z Z Z s H q Q E c h=>?_)
 . obtain ⟨a,e,m,i,v,f,W,d,F,rfl,Z⟩:=h
   rfl
 .
  obtain ⟨a,e,m,i,v,f,W,d,F,rfl,j,y,D,O,hf,B,C,u,k⟩:=h
  refine ⟨_,(ac (bf (aW (pv 0) T.aG (bP T) .nil c.m (aa (pv 1) af)))
    (ac (bB (cw (ak (fw T) c.m (aa (pv 2) (aa (gZ (v:=V.ref _) rfl T.i7 rfl) af)))) (am cN) aK)
    (ac (bB (fF (cw (ak (c7 T) c.m (aa (pv 3) (aa (fZ rfl T.zY) af))))) (am cN) aK)
    (ac (bB (fF (cw (ak (c7 T) c.m (aa (pv 4) (aa (fZ rfl T.zx) af))))) (am cN) aK)
    (ac (bB (fF (cw (ak (c7 T) c.m (aa (pv 5) (aa (fZ rfl T.ym) af))))) (am cN) aK)
    (am (i8 (cQ (aa (pv 2) (aa (pv 3) (aa (pv 4) (aa (pv 5) af))))) (xN (bj (pv 0) rfl) (pv 1) set_list)))))))),?_⟩
  try dsimp only [eD,aP]
  try (refine nZ ?_;intro Z Z Z Z Z Z Z)
  obtain ⟨⟨l,pm,pf,ps,G,vm,q,r,I,pG,g,jf,N,X,R,n,n1,n2,n3,L,M,x,J,U⟩,q1,q2,q3,q4⟩:=id j
  obtain ⟨p,rfl,A⟩:=D.fr
  refine ⟨_,rfl,a,l,_,rfl,g,rfl,_,rfl,a,e,m,i,rfl,j,y,?_⟩
  refine ⟨_,rfl,p,Ad.kD,_,_,_,_,rfl,A,T.lA.at _,O.t.mono (by decide),O.b.mono (by decide),mE,mE,_,rfl,nW (by lia) ?_⟩
  refine ⟨_,rfl,W,9,rfl,_,rfl,fz B ⟨_,rfl,d,3,rfl,_,rfl,fz C ⟨_,rfl,F,3,rfl,_,rfl,fz u ?_⟩⟩⟩
  refine ⟨_,rfl,_,rfl,_,rfl,_,rfl,O3,λ kp Y=>?_⟩
  have S:=al (o:=.tup [.ref p,.int W,.int d,.int F]) Y
  have hl:r.length=m.aH.length:=by rw [x.length,OS]
  exact ⟨_,rfl,a,_,l,_,_,rfl,S _ _ g,T.aG,T.dY,j0 ..,_,rfl,G,r,_,i,rfl,rfl,S _ _ n,DF (by lia),k _ e (Bz (z:=(f,W,d,F)) j S g n (fU (bR.of ag) (bJ (Dn.same S _ D) (bJ rfl (bJ rfl (bJ rfl gq))))) O)⟩
def lg (T:Txt K mg Ad):uJ P w K mg base Ad.aX "put_stove" 4 ["self","room","heat","wood","stay","fails"] [] (pA K Ad.aX) :=
 (nT T).Lu T.qk λ i H=>by
   obtain ⟨U,j,k,rfl,r,R,g⟩:=vals3 H
   exact ⟨[],.nil,λ Z Z Z Z Z Z u h=>by obtain ⟨a,b,c,d,e,f,rfl⟩:∃ a b c d e f,u=[a,b,c,d,e,f]:=HW (by simpa using h:u.length=6) λ a b c d e f=>⟨a,b,c,d,e,f,rfl⟩;exact ⟨_,rfl,rfl⟩⟩
def o6 (T:Txt K mg Ad):Def P w K mg base "bands_together" 1 ["rows"] (HM K):=by
 refine T.pT.cL fg λ Z Z Z Z Z H V Q E F h=>?_
 obtain ⟨p,X,r,rfl,o,l,C,L,k⟩:=h
 refine ⟨_,(ac (cM (i:=1) fg.nd ah)
     (ac (dh aaN rfl (dP (pv 0)) (jq (i:=2) fg.nd) (am (cM (i:=1) fg.nd (aw aL (pv 1) (aw de (br bO (by rfl) T.fX dL (aa (pv 2) af)) ah)))))
     (am (aI (pv 1))))),?_⟩
 try dsimp only [eD,aP]
 try (refine c9 ?_;intro Z Z Z Z)
 have O:X.length=r.length:=by rw [l.length,OS]
 refine ⟨_,rfl,p,rfl,⟨X,o⟩,?_⟩
 refine qD (xs:=X) (λ i U a=>a=H/\∃ (x:fR),Bd (1+3 * i) (jW (r.take i))/\U=[some (.ref p),some (.int (jW (r.take i))),x]) ⟨rfl,none,(by show Bd 1 (jW []);exact mE),rfl⟩ (λ i U a Z e=>by rw [e.1];exact o) ?_ ?_
 .
  rintro Z i x U a q ⟨rfl,y,c,rfl⟩
  have f:i<r.length:=by rw [<- O];exact (RJ.mp q).1
  obtain ⟨v,B,b,Y,rfl,J,D⟩:=l.get (i:=i) (d:=vC r[i]) (by rw [T1,ar f];rfl)
  obtain rfl:x = .ref b:=aaj (q.symm.trans B)
  have m:=L r[i] (aag f)
  have s:Y.length=r[i].length:=by rw [D.length,OS]
  refine ⟨_,rfl,_,rfl,_,_,rfl,.inr J,λ n t=>⟨_,_,rfl,rfl,λ u A=>⟨_,_,rfl,rfl,?_,λ z j=>?_⟩⟩⟩
  . exact ⟨_,3,c,(show u.natAbs<2 ^ 3 by lia),(show 1+3 * i+3<=_ by lia)⟩
  .
   have g:z=jW (r.take (i+1)):=by
     rw [j,A,t,s]
     unfold jW
     rw [abK,ar f,abe];rfl
   refine ⟨rfl,_,?_,by rw [<- g];rfl⟩
   rw [<- g,j]
   exact (c.mul (show u.natAbs<2 ^ 3 by lia)).mono (by lia)
 .
  rintro U a ⟨rfl,y,c,rfl⟩
  refine ⟨_,rfl,?_⟩
  rw [O,aa1]
  exact k
def xj (T:Txt K mg Ad):Def P w K mg base "is_rising" 2 ["marks"] (FA K):=by
 refine T.AA.cL xE λ Z Z Z Z Z H vs Q E hr h=>?_
 obtain ⟨p,X,r,rfl,j,g,M,hl,k⟩:=h
 refine ⟨_,(am (aI (br (qA rfl) (by rfl) T.Ig Bw (aa (jk ["low","high"] [] [] .nil rfl (N0 rfl T.Ss (aa (pv 0) (aa (lX xG (pv 0) (kG ah) xq) af))) (λ Z Z Z Z Z=>(eK (K:=K) (n:=2) rfl rfl (aY (pE (i:=0)) (aY (pE (i:=1)) eQ)))) (λ Z Z Z Z Z=>eM) (λ Z Z Z Z Z=>(ak (fw T) hr.m (aa (pv 0) (aa (pv 1) af))))) af)))),?_⟩
 try dsimp only [eD,aP]
 refine ⟨_,rfl,_,rfl,1,rfl,p,X,rfl,j,λ q IQ=>?_⟩
 have s:=al (o:=.lst (p5 X (some 1) none)) IQ
 rw [GP] at s |-
 have O:X.length=r.length:=by rw [g.length,OS]
 refine ⟨p,q,rfl,⟨X,s.seq j⟩,⟨X.tail,bi.of ag⟩,λ D L=>?_⟩
 have f:min X.length X.tail.length=(List.zipWith aN r r.tail).length:=by rw [List.length_zipWith,List.length_tail,List.length_tail,O]
 refine IJ (K:=K) (a:=p) (b:=q) (xs:=X) (ys:=X.tail) (λ i A U c=>A4 (aD (upd H q (.lst X.tail)) c) (c D=some (.lst A)) (A=((List.zipWith aN r r.tail).take i).map V.bl) (E2 λ B C=>U=[B,C]))
   ⟨al L,ag,rfl,none,none,rfl⟩ (λ i A U c Z e=>⟨e.1.seq (s.seq j),e.1.seq (bi.of ag)⟩) ?_ ?_
 .
  rintro i x y z A U c hx l xx ⟨S,I,rfl,B,C,rfl⟩
  rw [ac4] at l
  have J:i+1<r.length:=by rw [<- O];exact (RJ.mp l).1
  obtain ⟨u,eu,du⟩:=g.get (i:=i) (d:=dO r[i]) (by rw [T1,ar (by lia)];rfl)
  obtain rfl:x=u:=aaj (hx.symm.trans eu)
  obtain ⟨v,ev,dv⟩:=g.get (i:=i+1) (d:=dO r[i+1]) (by rw [T1,ar J];rfl)
  obtain rfl:y=v:=aaj (l.symm.trans ev)
  obtain ⟨F,rfl,g1⟩:=du.fr
  obtain ⟨G,rfl,g2⟩:=dv.fr
  have N:=M r[i] (aag _)
  have R:=M r[i+1] (aag _)
  have W:aD c (upd c z (.tup [.ref F,.ref G])):=al xx
  have Y:=s.trans (S.trans W)
  have nD:D≠z:=ax I xx
  refine ⟨z,_,rfl,bR.of ag,rfl,_,_,rfl,_,_,rfl,rfl,?_⟩
  refine ⟨_,rfl,_,rfl,F,G,_,_,_,_,rfl,Y.tup g1,Y.tup g2,N.t.mono (by decide),N.b.mono (by decide),R.t.mono (by decide),R.b.mono (by decide),?_⟩
  have hb:=Da (ar (show i<r.length by lia)) (ar J)
  refine ⟨by rw [aB nD];exact I,?_,aD.put (S.trans W) L,ag,?_,_,_,rfl⟩
  . rw [OS,aax]
    have:(7:Nat)<sizeLine:=by decide
    rw [<- f]
    lia
  . rw [abK,hb,aab]
    rfl
 . rintro A U c ⟨S,I,rfl,B,C,rfl⟩
   rw [f,aa1] at I
   exact ⟨D,_,rfl,bi.of I,k _ (s.trans S)⟩
def nS (T:Txt K mg Ad):hZ P w K mg base Ad.aX "put_room" 3 ["self","marks"] [] (AM K Ad.aX):=by
 refine T.rX.gH jM λ Z Z Z Z Z H l Q E u h=>?_
 obtain ⟨a,fp,m,p,X,r,rfl,I,h4,J,G,ho,R8,Vc,Sz,hb,k⟩:=h
 refine ⟨_,(ac (bB (aM QL (cS (pv 0) T.aG (cq T) .nil u.m) (fZ rfl T.yr) (aR _)) (am cN) aK)
     (ac (bB (fF (jI iu iu (fZ rfl T.vv) (br bO (by rfl) T.fX dL (aa (pv 1) af)) (fZ rfl T.yl))) (am cN) aK)
     (ac (bB (fF (cw (ak (xj T) u.m (aa (pv 1) af)))) (am cN) aK)
     (ac (cM (i:=2) jM.nd (aw G0 (bj (pv 0) rfl) (cH (aa (cG cZ (by rfl) T.ji hU (aa (pv 1) af)) af))))
     (ac (bB (aM Ao (ak (o6 T) u.m (aa (pv 2) af)) (fZ rfl T.xt) (aR _)) (am cN) aK)
     (ac (dW (pv 0) (pv 2) rfl)
     (ac (bf (iw aaC aaJ aaI cI (bj (pv 0) rfl) (aa (cQ (aa (gZ (v:=V.ref _) rfl T.i7 rfl) (aa (gZ (v:=V.ref _) rfl T.i7 rfl) (aa (gZ (v:=V.ref _) rfl T.i7 rfl) af)))) af)))
     (ac (bf (iw aaC aaJ aaI cI (bj (pv 0) rfl) (aa dg af)))
     (am (aI (aw de (cS (pv 0) T.aG (cq T) .nil u.m) ah))))))))))),?_⟩
 try dsimp only [eD,aP]
 try (refine zb ?_;intro Z Z Z Z Z Z Z Z Z Z)
 obtain ⟨⟨d,L,pf,M,O,j,l,Y,aE,pG,g,jf,eZ,h9,F,B,n1,n2,n3,dm,ds,dt,df,fk⟩,q1,q2,q3,q4⟩:=id I
 have OT:X.length=r.length:=by rw [G.length,OS]
 have lm:j.length=m.rows.length:=by rw [dm.length,OS]
 have ls:l.length=m.bC.length:=by rw [ds.length,OS]
 have lt:Y.length=m.aH.length:=by rw [dt.length,OS]
 have ab:(7:Nat)<sizeLine:=by decide
 refine ⟨_,rfl,a,d,_,rfl,g,rfl,a,fp,m,rfl,I,_,_,rfl,rfl,_,rfl,nW (by lia) ?_⟩
 refine ⟨_,rfl,_,_,rfl,.inl J,λ n en=>⟨_,_,rfl,rfl,_,rfl,qa (by lia) ⟨_,_,rfl,rfl,_,rfl,fz (by lia) ?_⟩⟩⟩
 refine ⟨_,rfl,p,X,r,rfl,J,G,ho,Vc,λ t S=>⟨_,rfl,?_⟩⟩
 rw [Sz]
 refine gm ?_
 refine ⟨_,rfl,a,_,d,_,_,rfl,S _ _ g,T.aG,T.cx,pC ..,_,rfl,p,X,rfl,.inl ⟨S.seq J,λ b Uw=>⟨Mb,λ y q=>?_⟩⟩⟩
 have s2:=S.trans (al (o:=.tup X) Uw)
 have R:=s2.trans (al (o:=.lst [.ref b]) q)
 refine ⟨L,y,j,[.ref b],rfl,rfl,R _ _ eZ,ag,by rw [aa8];lia,λ c A=>?_⟩
 have U:aD (upd t b (.tup X)) _:=(al (o:=.lst [.ref b]) q).trans (al (o:=.lst (j++[.ref b])) A)
 have s:=R.trans (al (o:=.lst (j++[.ref b])) A)
 have dr:Dn K (upd (upd (upd t b (.tup X)) y (.lst [.ref b])) c (.lst (j++[.ref b]))) (vC r) (.ref b):=fU (bR.of (U _ _ ag)) (bX.same s _ G)
 refine ⟨_,rfl,c,_,m.rows++[r],rfl,bi.of ag,?_,by rw [aad,aa8];lia,?_,_,_,rfl,rfl,_,rfl,nW (by lia) ?_⟩
 . rw [aab]
   exact (bX.same s _ dm).snoc dr
 .
  intro x hx
  rcases aaR.mp hx with h|h
  . have:=q4.len x h;lia
  . rw [aai.mp h];lia
 refine ⟨_,rfl,_,rfl,a,_,d,_,rfl,s _ _ g,T.aG,T.cx,lt1000 rfl,?_⟩
 have Pg:H c=none:=R.free A
 have ad:c≠a:=(ax g Pg).symm
 refine ⟨_,rfl,a,_,d,_,_,rfl,ag,T.aG,T.cY,iK ..,?_⟩
 have SS:=bM F g nofun
 have UO:=bM B g nofun
 have g1:=(aB (H:=upd (upd (upd t b (.tup X)) y (.lst [.ref b])) c (.lst (j++[.ref b]))) (o:=.ins Ad.aX d (bG "mark_rows" (.ref c) (lq m L pf M O))) SS).trans (s _ _ F)
 have g2:=(aB (H:=upd (upd (upd t b (.tup X)) y (.lst [.ref b])) c (.lst (j++[.ref b]))) (o:=.ins Ad.aX d (bG "mark_rows" (.ref c) (lq m L pf M O))) UO).trans (s _ _ B)
 refine ⟨.inl ⟨rfl,l,bi.of g1⟩,Of,λ q0 Fg=>?_⟩
 have W:=al (o:=.tup [.ref Ad.kD,.ref Ad.kD,.ref Ad.kD]) Fg
 refine ⟨M,l,_,rfl,rfl,W _ _ g1,by lia,?_⟩
 have g3:=(aB (o:=.lst (l++[.ref q0])) n3.symm).trans (W _ _ g2)
 have g4:=(aB (o:=.lst (l++[.ref q0])) SS.symm).trans (W _ _ ag)
 refine ⟨_,rfl,a,_,d,_,_,rfl,g4,T.aG,T.dY,j0 ..,.inl ⟨rfl,Y,bi.of g3⟩,O,Y,_,rfl,rfl,g3,by lia,?_⟩
 obtain ⟨qX,D⟩:=En (N:=Ad.kD) (r:=r) I s g eZ F B Pg ag dr h4 ho ⟨R8,Vc⟩ (λ H'=>T.lA.fr (f:=(0,1))) Fg
 obtain ⟨⟨wC,EJ,wV,rH,sy,Z,Z,Z,Z,Z,C,Z⟩,Z⟩:=id D.at_
 refine ⟨_,rfl,a,wC,_,rfl,C,rfl,a,qX,_,rfl,D.at_,_,_,rfl,rfl,λ z ez=>?_⟩
 have e:z=(m.rows.length:Int):=by
   rw [ez]
   show (((m.rows++[r]).length:Nat):Int) - 1=_
   rw [aad,aa8];lia
 rw [e]
 exact k _ qX D
def qv (T:Txt K mg Ad):P1 P w K mg base Ad.aX "__init__" "Hold.__init__" f8 (.ref Ad.ij) 2 ["self","most","cap","load"] (DV K Ad.aX):=by
 refine T.rM.mok qG (λ vs H Q E h=>?_) (λ f Z Z Z s H vs Q E O h=>?_)
 . obtain ⟨x,d,most,iO,load,rfl,Z⟩:=h
   rfl
 .
  obtain ⟨x,d,most,iO,load,rfl,X,jf,hm,hc,hl,k⟩:=h
  refine ⟨_,(ac (bB (fF (cw (ak (c7 T) O.m (aa (pv 1) (aa (fZ rfl T.uR) af))))) (am cN) aK)
    (ac (bB (fF (cw (ak (c7 T) O.m (aa (pv 2) (aa (fZ rfl T.Cy) af))))) (am cN) aK)
    (ac (bB (fF (cw (ak (c7 T) O.m (aa (pv 3) (aa (fZ rfl T.zT) af))))) (am cN) aK)
    (ac (dW (pv 0) (pv 1) rfl)
    (ac (dW (pv 0) (pv 2) rfl)
    (ac (dW (pv 0) (pv 3) rfl)
    (ac (dW (pv 0) (cH af) rfl)
    (ac (dW (pv 0) zy rfl)
    (ac (dW (pv 0) (cH af) rfl)
    (am (dW (pv 0) (cH af) rfl))))))))))),?_⟩
  try dsimp only [eD,aP]
  try (refine Ei ?_;intro Z Z Z Z Z Z Z Z Z Z Z)
  refine ⟨_,rfl,most,4,rfl,_,rfl,fz hm ⟨_,rfl,iO,30,rfl,_,rfl,fz hc ⟨_,rfl,load,30,rfl,_,rfl,fz hl ?_⟩⟩⟩
  have S:jg K Ad.aX x d H H []:=.start X
  refine ⟨_,rfl,_,rfl,x,_,d,_,rfl,S.at_,T.aG,T.iG,lt1000 rfl,?_⟩
  have U:=S.put (fs':=bG "most" (.int most) [])
  refine ⟨_,rfl,_,rfl,x,_,d,_,rfl,U.at_,T.aG,T.jo,lt1000 rfl,?_⟩
  have V:=U.put (fs':=bG "cap" (.int iO) (bG "most" (.int most) []))
  refine ⟨_,rfl,_,rfl,x,_,d,_,rfl,V.at_,T.aG,T.j3,lt1000 rfl,?_⟩
  have B:=V.put (fs':=bG "load" (.int load) (bG "cap" (.int iO) (bG "most" (.int most) [])))
  refine ⟨aaY _,λ p e=>?_⟩
  have A:=B.new (o:=.lst []) e
  refine ⟨_,rfl,x,_,d,_,rfl,A.at_,T.aG,T.cx,lt1000 rfl,λ c g=>?_⟩
  have i:=A.put (fs':=bG "mark_rows" (.ref p) (bG "load" (.int load) (bG "cap" (.int iO) (bG "most" (.int most) []))))
  have r:=i.new (o:=.dT []) g
  refine ⟨_,rfl,x,_,d,_,rfl,r.at_,T.aG,T.eV,lt1000 rfl,aaY _,λ y a=>?_⟩
  have t:=r.put (fs':=bG "flows" (.ref c) (bG "mark_rows" (.ref p) (bG "load" (.int load) (bG "cap" (.int iO) (bG "most" (.int most) [])))))
  have C:=t.new (o:=.lst []) a
  refine ⟨_,rfl,x,_,d,_,rfl,C.at_,T.aG,T.cY,lt1000 rfl,aaY _,λ Y F=>?_⟩
  have D:=C.put (fs':=bG "skies" (.ref y) (bG "flows" (.ref c) (bG "mark_rows" (.ref p) (bG "load" (.int load) (bG "cap" (.int iO) (bG "most" (.int most) []))))))
  have W:=D.new (o:=.lst []) F
  refine ⟨_,rfl,x,_,d,_,rfl,W.at_,T.aG,T.dY,lt1000 rfl,?_⟩
  have z:=W.put (fs':=lq (ap.new most iO load) p c y Y)
  have h1:=A.keep (u:=.ins Ad.aX d (bG "mark_rows" (.ref p) (bG "load" (.int load) (bG "cap" (.int iO) (bG "most" (.int most) []))))) ag (B.ne e)
  have j:=r.keep (u:=.ins Ad.aX d (bG "flows" (.ref c) (bG "mark_rows" (.ref p) (bG "load" (.int load) (bG "cap" (.int iO) (bG "most" (.int most) [])))))) (al (o:=.dT []) g _ _ h1) (B.ne e)
  have I:=r.keep (u:=.ins Ad.aX d (bG "flows" (.ref c) (bG "mark_rows" (.ref p) (bG "load" (.int load) (bG "cap" (.int iO) (bG "most" (.int most) [])))))) ag (i.ne g)
  have R:=λ b o (h:_=some o) (n:b≠x)=>C.keep (b:=b) (u:=.ins Ad.aX d (bG "skies" (.ref y) (bG "flows" (.ref c) (bG "mark_rows" (.ref p) (bG "load" (.int load) (bG "cap" (.int iO) (bG "most" (.int most) []))))))) h n
  have l:=R _ _ (al (o:=.lst []) a _ _ j) (B.ne e)
  have J:=R _ _ (al (o:=.lst []) a _ _ I) (i.ne g)
  have q:=R _ _ ag (t.ne a)
  have v:=λ b o (h:_=some o) (n:b≠x)=>W.keep (b:=b) (u:=.ins Ad.aX d (lq (ap.new most iO load) p c y Y)) h n
  have G:=v _ _ (al (o:=.lst []) F _ _ l) (B.ne e)
  have L:=v _ _ (al (o:=.lst []) F _ _ J) (i.ne g)
  have M:=v _ _ (al (o:=.lst []) F _ _ q) (t.ne a)
  have N:=v _ _ ag (D.ne F)
  exact k _ _ (GS z X jf G L M N (B.none e) (i.none g) (t.none a) (D.none F) (ax j a) (ax l F) (ax q F))
def ir (T:Txt K mg Ad):uJ P w K mg base Ad.aX "__init__" 2 ["self","most","cap","load"] [] (DV K Ad.aX) :=
 (qv T).Lu T.rG λ i H=>by
   obtain ⟨U,f,g,rfl,r,R,e⟩:=vals3 H
   exact ⟨[],.nil,λ Z Z Z Z Z Z u h=>by obtain ⟨a,b,c,d,rfl⟩:∃ a b c d,u=[a,b,c,d]:=Dm (by simpa using h:u.length=4) λ a b c d=>⟨a,b,c,d,rfl⟩;exact ⟨_,rfl,rfl⟩⟩
def wY (T:Txt K mg Ad):Ud P w K mg base "hold_like" jp (.ref Ad.lQ) 4 ["hold","most","cap","load"] (DC K Ad.aX):=by
 refine T.zm.dok o7 (λ V H Q E h=>?_) (λ f Z Z Z s H V Q E hr h=>?_)
 . obtain ⟨a,fp,m,x,y,z,rfl,Z⟩:=h
   rfl
 .
  obtain ⟨a,fp,m,O,g,j,rfl,hh,X,k⟩:=h
  refine ⟨_,(ac (cM (i:=4) o7.nd (zf T.DK (ir T) hr.m T.HY (aa (oS (aM qd (pv 1) dg (aR _)) (bj (pv 0) rfl) (pv 1)) (aa (oS (aM qd (pv 2) dg (aR _)) (bj (pv 0) rfl) (pv 2)) (aa (oS (aM qd (pv 3) dg (aR _)) (bj (pv 0) rfl) (pv 3)) af)))))
    (ac (dW (pv 4) (cG gz (by rfl) T.uu oW (aa (bj (pv 0) rfl) af)) rfl)
    (ac (dW (pv 4) (cG vc (by rfl) T.Nh Lz (aa (bj (pv 0) rfl) af)) rfl)
    (ac (dW (pv 4) (cG gz (by rfl) T.uu oW (aa (bj (pv 0) rfl) af)) rfl)
    (ac (dW (pv 4) (cG gz (by rfl) T.uu oW (aa (bj (pv 0) rfl) af)) rfl)
    (am (aI (pv 4)))))))),?_⟩
  try dsimp only [eD,aP]
  try (refine nZ ?_;intro Z Z Z Z Z Z Z)
  obtain ⟨⟨t,pm,pf,ps,pt,vm,V,vt,aE,pG,p,jf,eZ,h9,fj,eY,n1,n2,n3,dm,ds,dt,df,fk⟩,q1,q2,q3,q4⟩:=id hh
  refine CM (o:=O) (d:=m.most) rfl (λ Q' h=>⟨_,rfl,a,_,t,_,_,rfl,p,T.aG,T.iG,uQ ..,h⟩) ?_
  refine CM (o:=g) (d:=m.iO) rfl (λ Q' h=>⟨_,rfl,a,_,t,_,_,rfl,p,T.aG,T.jo,xR ..,h⟩) ?_
  refine CM (o:=j) (d:=m.load) rfl (λ Q' h=>⟨_,rfl,a,_,t,_,_,rfl,p,T.aG,T.j3,Aj ..,h⟩) ?_
  intro x dx l OX Ra
  have a1:upd H dx (.own x) x=none:=by rw [aB Ra.symm];exact l
  have s0:aD H (upd (upd H dx (.own x)) x (.ins Ad.aX dx [])):=(al OX).trans (al a1)
  refine ⟨x,dx,_,_,_,rfl,ag,by rw [aB Ra];exact ag,X.1,X.2.1,X.2.2,λ H1 Vw D=>⟨rfl,?_⟩⟩
  have S:aD H H1:=λ b o e=>D.but b o (s0 b o e) λ q=>by
    simp only [aaa,aae,aa2] at q
    rcases q with rfl|rfl
    . rw [l] at e;cases e
    . rw [OX] at e;cases e
  have NS:∀ b∈Vw,H b=none:=λ b X=>by
    rcases D.own b X with q|q
    . simp only [aaa,aae,aa2] at q
      rcases q with rfl|rfl
      . exact l
      . exact OX
    . exact s0.free q
  obtain ⟨⟨Y,g1,g2,W,G,Z,Z,Z,Z,Vv,NI,RV,Z⟩,Z⟩:=D.at_
  have WQ:H Y=none:=NS Y (by rw [Vv];simp)
  have WP:Y≠x:=bM RV NI nofun
  have J:jg K Ad.aX x Y H1 H1 (lq (m.with O g j) g1 g2 W G):=.start NI
  refine ⟨_,rfl,a,_,t,_,_,rfl,S _ _ p,T.aG,T.cx,pC ..,pm,vm,rfl,.inl (bi.of (S _ _ eZ)),λ r A=>?_⟩
  have B1:=J.new (o:=.lst vm) A
  refine ⟨_,rfl,x,_,Y,_,rfl,B1.at_,T.aG,T.cx,lt1000 rfl,?_⟩
  have B:=B1.put (fs':=lq (m.with O g j) r g2 W G)
  have k2:∀ b o,H b=some o->_=some o:=λ b o h=>B.st b o (S b o h) (ax h l)
  have e1:=B1.keep (u:=.ins Ad.aX Y (lq (m.with O g j) r g2 W G)) ag (J.ne A)
  refine ⟨_,rfl,a,_,t,_,_,rfl,k2 _ _ p,T.aG,T.eV,mj ..,pf,aE,rfl,k2 _ _ h9,fk.hash,λ I C=>?_⟩
  have B3:=B.new (o:=.dT aE) C
  refine ⟨_,rfl,x,_,Y,_,rfl,B3.at_,T.aG,T.eV,lt1000 rfl,?_⟩
  have M:=B3.put (fs':=lq (m.with O g j) r I W G)
  have k4:∀ b o,H b=some o->_=some o:=λ b o h=>M.st b o (S b o h) (ax h l)
  have ab:=λ b o (h:_=some o) (n:b≠x)=>B3.keep (b:=b) (u:=.ins Ad.aX Y (lq (m.with O g j) r I W G)) h n
  have N:=ab _ _ (al (o:=.dT aE) C _ _ e1) (J.ne A)
  have ae:=ab _ _ ag (B.ne C)
  refine ⟨_,rfl,a,_,t,_,_,rfl,k4 _ _ p,T.aG,T.cY,iK ..,ps,V,rfl,.inl (bi.of (k4 _ _ fj)),λ l3 v=>?_⟩
  have B5:=M.new (o:=.lst V) v
  refine ⟨_,rfl,x,_,Y,_,rfl,B5.at_,T.aG,T.cY,lt1000 rfl,?_⟩
  have B6:=B5.put (fs':=lq (m.with O g j) r I l3 G)
  have k6:∀ b o,H b=some o->_=some o:=λ b o h=>B6.st b o (S b o h) (ax h l)
  have V7:=λ b o (h:_=some o) (n:b≠x)=>B5.keep (b:=b) (u:=.ins Ad.aX Y (lq (m.with O g j) r I l3 G)) h n
  have R:=V7 _ _ (al (o:=.lst V) v _ _ N) (J.ne A)
  have aj:=V7 _ _ (al (o:=.lst V) v _ _ ae) (B.ne C)
  have U:=V7 _ _ ag (M.ne v)
  refine ⟨_,rfl,a,_,t,_,_,rfl,k6 _ _ p,T.aG,T.dY,j0 ..,pt,vt,rfl,.inl (bi.of (k6 _ _ eY)),λ l4 F=>?_⟩
  have B7:=B6.new (o:=.lst vt) F
  refine ⟨_,rfl,x,_,Y,_,rfl,B7.at_,T.aG,T.dY,lt1000 rfl,?_⟩
  have B8:=B7.put (fs':=lq (m.with O g j) r I l3 l4)
  have k8:∀ b o,H b=some o->_=some o:=λ b o h=>B8.st b o (S b o h) (ax h l)
  have Va:=λ b o (h:_=some o) (n:b≠x)=>B7.keep (b:=b) (u:=.ins Ad.aX Y (lq (m.with O g j) r I l3 l4)) h n
  have ad:=Va _ _ (al (o:=.lst vt) F _ _ R) (J.ne A)
  have an:=Va _ _ (al (o:=.lst vt) F _ _ aj) (B.ne C)
  have aH:=Va _ _ (al (o:=.lst vt) F _ _ U) (M.ne v)
  have a0:=Va _ _ ag (B6.ne F)
  have L:=K3 (m':=m.with O g j) hh p eZ h9 fj eY S ⟨rfl,rfl,rfl,rfl⟩ B8 (B8.st _ _ RV WP) ad an aH a0 (ax N v) (ax R F) (ax U F)
  refine ⟨_,rfl,k x _ _ k8 L λ c hc=>?_⟩
  simp only [aaa,aae,aa2] at hc
  rcases hc with rfl|rfl|rfl|rfl|rfl|rfl
  . exact l
  . exact WQ
  . exact S.free A
  . exact S.free (B.none C)
  . exact S.free (M.none v)
  . exact S.free (B6.none F)
def ux (T:Txt K mg Ad):Ot P w K mg base "hold_like" 4 ["hold","most","cap","load"] [.cn,.cn,.cn] (DC K Ad.aX) :=
 (wY T).WO T.zn λ i H=>by
   obtain ⟨U,c,d,rfl,r,R,b⟩:=vals3 H
   exact ⟨[U,c,d],.cons r (.cons R (.cons b .nil)),λ Z Z Z Z Z Z u h=>by obtain ⟨a,rfl⟩:∃ a,u=[a]:=Ga (by simpa using h:u.length=1) λ a=>⟨a,rfl⟩;exact ⟨_,rfl,rfl⟩⟩
def bT (T:Txt K mg Ad):Def P w K mg base "_law_cell_at" 1 ["_law_script","_law_k"] (Bf K):=by
 refine T.vy.cL uq λ Z Z Z Z Z H v Q E i h=>?_
 obtain ⟨a,N,z,rfl,d,g,k⟩:=h
 refine ⟨_,(ac (bB (aM oC (pv 1) (br bO (by rfl) T.fX dL (aa (pv 0) af)) (aR _)) (am (aI (aF ay (pv 0) (pv 1)))) aK)
     (am (aI ah))),?_⟩
 try dsimp only [eD,aP]
 refine ⟨_,rfl,_,rfl,_,_,rfl,.inl d,λ n f=>⟨_,_,rfl,rfl,_,rfl,?_⟩⟩
 rw [OS] at f
 refine iH (λ h=>?_) (λ h=>?_)
 .
  have b:z.toNat<N.length:=by lia
  have e:(N.map V.int)[z.toNat]?=some (.int (N[z.toNat]'b)):=by simp [b]
  have c:=bK e
  rw [abd g] at c
  refine ⟨_,rfl,_,rfl,_,_,_,_,rfl,rfl,.inl d,c,k _ (.inl (aag b))⟩
 . exact k 0 (.inr rfl)
def aQ (T:Txt K mg Ad):Def P w K mg base "_law_pick" 1 ["_law_cell","_law_k","_law_many"] KW:=by
 refine T.Bl.cL zu λ Z Z Z Z Z H v Q E u h=>?_
 obtain ⟨c,k,n,rfl,d,e,N,f⟩:=h
 refine ⟨_,(am (aI (aw fm (aw fm (aw aL (aw aJ (aw fm (pv 0) ah) ah) (aw aJ (aw aL (pv 1) (pv 1)) ah)) ah) (pv 2)))),?_⟩
 try dsimp only [eD,aP]
 refine ⟨_,rfl,_,_,rfl,rfl,by decide,λ y A B m=>⟨_,_,rfl,rfl,λ x o=>?_⟩⟩
 refine ⟨_,rfl,_,rfl,_,_,rfl,rfl,⟨10,10,(show k.natAbs<2 ^ 10 by lia),(show k.natAbs<2 ^ 10 by lia),by decide⟩,λ z p=>⟨_,_,rfl,rfl,λ X q=>?_⟩⟩
 have i:k * k<=1000 * 1000:=adB e e d (by decide)
 have g:0<=k * k:=abL d d
 refine ⟨_,_,rfl,rfl,⟨22,22,(show x.natAbs<2 ^ 22 by lia),(show X.natAbs<2 ^ 22 by lia),by decide⟩,λ C s=>⟨_,_,rfl,rfl,by decide,λ D j l t=>?_⟩⟩
 exact ⟨_,rfl,_,_,rfl,rfl,N,λ r a b Z=>f r a b⟩
def gu (T:Txt K mg Ad):Def P w K mg base "_law_ratio" 1 ["_law_top","_law_bottom"] GF:=by
 refine T.zF.cL fO λ Z Z Z Z Z H V Q E I h=>?_
 obtain ⟨t,b,rfl,y,n,k⟩:=h
 refine ⟨_,(ac (cM (i:=2) fO.nd (br qm (by rfl) T.GK Ck (aa (pv 0) af)))
     (ac (cM (i:=3) fO.nd (pv 1))
     (ac (yP aaN (aM Ao (pv 3) ah (aR _)) (ac (cM (i:=4) fO.nd (aw fm (pv 2) (pv 3)))
     (ac (cM (i:=2) fO.nd (pv 3))
     (am (cM (i:=3) fO.nd (pv 4))))))
     (am (aI (cQ (aa (aw i4 (pv 0) (pv 2)) (aa (aw i4 (pv 1) (pv 2)) af)))))))),?_⟩
 try dsimp only [eD,aP]
 try (refine eU ?_;intro Z Z Z Z Z)
 refine ⟨_,rfl,_,rfl,λ G v=>⟨_,rfl,?_⟩⟩
 refine ⟨λ m U c=>c=H/\E3 λ (g l:Int) (r:fR)=>A5 (U=[some (.int t),some (.int b),some (.int g),some (.int l),r]) (0<=g) (0<=l) (m=l.toNat) (Int.gcd g l=Int.gcd t b),
   ⟨_,rfl,G,b,none,rfl,by lia,by lia,rfl,by rw [v];rfl⟩,?_⟩
 rintro m U c ⟨rfl,g,l,r,rfl,j,z,rfl,e⟩
 refine ⟨_,rfl,_,_,rfl,rfl,_,rfl,?_⟩
 refine iH (λ h=>?_) (λ h=>?_)
 .
  have L:0<l:=h
  refine ⟨λ a f=>f=c/\a=[some (.int t),some (.int b),some (.int l),some (.int (g % l)),some (.int (g % l))],λ a f ⟨o,s⟩=>?_,?_⟩
  . have M:=adu g (by lia:l≠0)
    have J:=ac7 g L
    exact ⟨(g % l).toNat,by lia,o,l,g % l,_,s,z,M,rfl,(LV j L).trans e⟩
  . refine ⟨_,rfl,_,rfl,_,_,rfl,rfl,L,λ r Z Z d=>?_⟩
    subst d
    exact ⟨_,rfl,_,rfl,rfl,rfl⟩
 .
  have L:l=0:=by lia
  subst L
  have u:g=((Int.gcd t b:Nat):Int):=by rw [<- e,Rq j]
  obtain ⟨C,D,F,fn⟩:=GV (by lia:b≠0) u
  have B:Bd 8999 g:=(n.le (by lia)).mono (by decide)
  refine ⟨_,rfl,_,rfl,_,_,rfl,rfl,⟨by lia,B⟩,λ q x=>⟨_,rfl,_,rfl,_,_,rfl,rfl,⟨by lia,B⟩,λ r d=>⟨DR,λ p A=>?_⟩⟩⟩
  subst x d
  exact k _ _ p _ (F y) (al A) ag
def kX (T:Txt K mg Ad):Def P w K mg base "_law_warm" 2 ["_law_num","_law_parts","_law_scale_here"] (K9 K):=by
 refine T.uP.cL gd λ Z Z Z Z Z H V Q E x h=>?_
 obtain ⟨n,parts,p,z,rfl,a,ok,B,A,b,k⟩:=h
 refine ⟨_,(ac (cM (i:=3) gd.nd (aw aL (aw aL (pv 0) (aF ay (pv 2) ah)) (aF ay (pv 2) ah)))
     (ac (cM (i:=3) gd.nd (aw aJ (pv 3) (aw aL (aw aL (pv 1) (aF ay (pv 2) ah)) (aF ay (pv 2) ah))))
     (am (aI (ak (gu T) x.m (aa (pv 3) (aa (aw aL (aw aL (pv 1) (aF ay (pv 2) ah)) (aF ay (pv 2) ah)) af))))))),?_⟩
 try dsimp only [eD,aP]
 try (refine c9 ?_;intro Z Z Z Z)
 refine ⟨_,rfl,_,rfl,_,_,_,_,rfl,rfl,.inr a,rfl,_,_,rfl,rfl,⟨_,_,B,ok.ba,by decide⟩,λ D e=>⟨_,rfl,_,_,_,_,rfl,rfl,.inr a,rfl,_,_,rfl,rfl,⟨60,_,by rw [e];exact B.mul ok.ba,ok.bd,by decide⟩,λ G j=>?_⟩⟩
 refine ⟨_,rfl,_,rfl,_,rfl,_,_,_,_,rfl,rfl,.inr a,rfl,_,_,rfl,rfl,⟨_,_,b,ok.bt,by decide⟩,λ I c=>⟨_,rfl,_,_,_,_,rfl,rfl,.inr a,rfl,_,_,rfl,rfl,⟨60,_,by rw [c];exact b.mul ok.bt,ok.bb,by decide⟩,λ J l=>⟨_,_,rfl,rfl,λ X o=>?_⟩⟩⟩
 refine ⟨_,rfl,_,rfl,_,rfl,_,_,_,_,rfl,rfl,.inr a,rfl,_,_,rfl,rfl,⟨_,_,b,ok.bb,by decide⟩,λ L d=>⟨_,rfl,_,_,_,_,rfl,rfl,.inr a,rfl,_,_,rfl,rfl,⟨60,_,by rw [d];exact b.mul ok.bb,ok.bd,by decide⟩,λ C s=>?_⟩⟩
 have t:X=cB n parts z:=by rw [o,j,e,l,c];rfl
 have v:C=cg parts z:=by rw [s,d];rfl
 subst t v
 have f:=dR ok A
 refine ⟨_,_,rfl,f,?_,λ q r u g F S y=>k u g S ?_⟩
 . exact ((b.mul ok.bb).mul ok.bd).mono (by decide)
 .
  have:=F.nf f
  rw [y]
  unfold aT
  rw [<- this]
def rV (T:Txt K mg Ad):Def P w K mg base "_law_stove_by" 2 ["_law_a","_law_b","_law_c","_law_room"] rC:=by
 refine T.tN.cL ib λ Z Z Z Z Z H V Q E d h=>?_
 obtain ⟨a,b,c,i,rfl,F,l,k⟩:=h
 refine ⟨_,(ac (bB (aM jm (ak (aQ T) d.m (aa (pv 1) (aa (aw aJ ah (pv 3)) (aa ah af)))) ah (aR _)) (am (aI dg)) aK)
     (ac (cM (i:=4) ib.nd (ak (aQ T) d.m (aa (pv 0) (aa (aw aJ ah (pv 3)) (aa ah af)))))
     (ac (cM (i:=5) ib.nd (ak (aQ T) d.m (aa (pv 0) (aa (aw aJ ah (pv 3)) (aa ah af)))))
     (am (aI (cQ (aa (ak (aQ T) d.m (aa (pv 2) (aa (aw aJ ah (pv 3)) (aa ah af)))) (aa (pv 4) (aa (pv 5) (aa (ak (aQ T) d.m (aa (pv 1) (aa (aw aJ ah (pv 3)) (aa ah af)))) af)))))))))),?_⟩
 try dsimp only [eD,aP]
 try (refine eU ?_;intro Z Z Z Z Z)
 refine ⟨_,rfl,_,rfl,_,_,rfl,rfl,λ X t=>⟨_,_,_,rfl,by lia,by lia,by decide,λ r A n=>⟨rfl,_,rfl,?_⟩⟩⟩
 refine iH (λ h=>l) (λ h=>?_)
 refine ⟨_,rfl,_,rfl,_,_,rfl,rfl,λ I u=>⟨_,_,_,rfl,by lia,by lia,by decide,λ W B o=>?_⟩⟩
 refine ⟨_,rfl,_,rfl,_,_,rfl,rfl,λ J v=>⟨_,_,_,rfl,by lia,by lia,by decide,λ e C q=>?_⟩⟩
 refine ⟨_,rfl,_,rfl,_,_,rfl,rfl,λ L x=>⟨_,_,_,rfl,by lia,by lia,by decide,λ f D s=>?_⟩⟩
 refine ⟨_,rfl,_,rfl,_,rfl,_,rfl,_,_,rfl,rfl,λ M y=>⟨_,_,_,rfl,by lia,by lia,by decide,λ g G z=>⟨O3,λ p j=>?_⟩⟩⟩
 exact k p (f,W,e,g) ⟨⟨D,by show f<=25;lia⟩,⟨B,by show W<=9;lia⟩,⟨C,by show e<=3;lia⟩,⟨G,by show g<=3;lia⟩⟩ j
def xM (T:Txt K mg Ad):Def P w K mg base "_law_scale" 2 ["_law_cell"] IN:=by
 refine T.zw.cL kC λ Z Z Z Z Z H vs Q E hr h=>?_
 obtain ⟨c,rfl,k⟩:=h
 refine ⟨_,(ac (cM (i:=1) kC.nd (aF ay (cH (aa ah (aa ah (aa (aw oK ah ah) (aa (aw oK ah ah) (aa (aw oK ah ah) (aa (aw oK ah ah) af))))))) (ak (aQ T) hr.m (aa (pv 0) (aa ah (aa ah af))))))
     (ac (qT (yi:=2) ["_law_k"] ["_law_far","_law_cell"] [1,0] (.cons ⟨rfl,rfl,.inl rfl⟩ (.cons ⟨rfl,rfl,.inl rfl⟩ .nil)) rfl (bN rfl T.cK (aa ah af)) (λ Z Z Z Z Z=>(pE (i:=0))) (λ Z Z Z Z Z=>eM) (λ Z Z Z Z Z=>(aw aJ ah (aw fm (aw i4 (aw aJ (pv 2) (pv 0)) (aw aJ (pv 0) ah)) (pv 1)))) kC.nd (lc rfl))
     (am (aI (cQ (aa (aF ay (pv 2) ah) (aa (aF ay (pv 2) ah) (aa (aw de (aw fm (aw i4 (pv 0) ah) (aw aJ (aw aL ah (pv 1)) ah)) (pv 1)) (aa (aF ay (pv 2) ah) af))))))))),?_⟩
 try dsimp only [eD,aP]
 try (refine c9 ?_;intro Z Z Z Z)
 refine ⟨_,_,rfl,rfl,⟨by decide,by decide,by decide⟩,λ R B=>⟨_,_,rfl,rfl,⟨by decide,by decide,by decide⟩,λ g C=>⟨_,_,rfl,rfl,⟨by decide,by decide,by decide⟩,λ j F=>⟨_,_,rfl,rfl,⟨by decide,by decide,by decide⟩,λ l G=>⟨(by show 6<=sizeLine;decide),λ u L=>?_⟩⟩⟩⟩⟩
 refine ⟨_,rfl,_,_,_,rfl,by decide,by decide,by decide,λ r J M=>?_⟩
 obtain ⟨S,t,Y⟩:=zN (ns:=[1,12,R,g,j,l]) J M
 have O:1<=S/\S<=10 ^ 9:=by
   have o:R=10000:=B
   have s:g=10000:=C
   have z3:j=10000:=F
   have z4:l=1000000000:=G
   simp only [aaa,aae,aa2] at t
   lia
 refine ⟨u,_,_,_,rfl,rfl,.inl (bi.of ag),Y,?_⟩
 refine ⟨_,rfl,by decide,by decide,λ D I=>?_⟩
 have s0:aD H (upd H u (.lst [.int 1,.int 12,.int R,.int g,.int j,.int l])):=al L
 refine eP (lo:=0) (n:=3) (λ i a U f=>A4 (aD (upd H u (.lst [.int 1,.int 12,.int R,.int g,.int j,.int l])) f) (f D=some (.lst a)) (∃ (e:List Int),A3 (a=e.map V.int) (e.length=i) (∀ z∈e,1<=z/\z<=S)) (∃ v,U=[v,some (.int S),some (.int c)]))
   ⟨al I,ag,⟨[],rfl,rfl,nofun⟩,none,rfl⟩ ?_ ?_
 .
  rintro i a U f hi ⟨x,d,⟨e,rfl,X,b⟩,v,rfl⟩
  refine ⟨_,rfl,_,rfl,_,_,rfl,rfl,λ x1 B=>⟨_,rfl,_,_,rfl,rfl,λ x2 C=>⟨_,_,rfl,rfl,⟨by lia,(VA 8999 (by lia) (by lia))⟩,λ x3 F=>⟨_,rfl,_,_,rfl,rfl,by lia,λ x4 N W G=>⟨_,_,rfl,rfl,λ x5 e5=>?_⟩⟩⟩⟩⟩
  refine ⟨d,aO (by rw [OS];lia),x.put I,ag,⟨e++[x5],by rw [aab];rfl,by rw [aad,X];rfl,λ z t=>?_⟩,_,rfl⟩
  rcases aaR.mp t with q|q
  . exact b z q
  . rw [aai.mp q];lia
 .
  rintro a U f ⟨x,d,⟨e,rfl,X,b⟩,v,rfl⟩
  match e,X,b,d with
  | [A,o,s],_,b,d =>
    have g0:=b A (by simp)
    have g1:=b o (by simp)
    have g2:=b s (by simp)
    refine ⟨_,rfl,_,_,_,_,rfl,rfl,.inl (bi.of d),rfl,_,rfl,_,_,_,_,rfl,rfl,.inl (bi.of d),rfl,?_⟩
    refine ⟨_,rfl,_,_,rfl,rfl,⟨by decide,VA 8999 (by decide) (by decide)⟩,λ y1 f1=>⟨_,rfl,_,_,rfl,rfl,⟨2,31,mE,(show S.natAbs<2 ^ 31 by lia),by decide⟩,λ y2 f2=>⟨_,_,rfl,rfl,λ y3 f3=>⟨_,_,rfl,rfl,by lia,λ y4 N W f4=>⟨_,rfl,_,_,rfl,rfl,λ y f5=>?_⟩⟩⟩⟩⟩
    refine ⟨_,rfl,_,_,_,_,rfl,rfl,.inl (bi.of d),rfl,O3,λ p hp=>?_⟩
    exact k p _ ⟨A,o,y,s⟩ ⟨g0.1,by show A<=_;lia,g1.1,by show o<=_;lia,by show _<=y;lia,by show y<=_;lia,g2.1,by show s<=_;lia⟩ (s0.trans (x.trans (al hp))) ag
def yg (T:Txt K mg Ad):Def P w K mg base "_law_drawn" 3 ["_law_script"] (CC K):=by
 refine T.zg.cL cu λ _ _ _ _ _ H B Q E d h=>?_
 obtain ⟨sa,ns,rfl,hS,k⟩:=h
 refine ⟨_,(ac (cM (i:=1) cu.nd (ak (bT T) d.m (aa (pv 0) (aa ah af))))
     (ac (cM (i:=2) cu.nd (ak (bT T) d.m (aa (pv 0) (aa ah af))))
     (ac (cM (i:=3) cu.nd (ak (bT T) d.m (aa (pv 0) (aa ah af))))
     (ac (cM (i:=4) cu.nd (aF ay (cH (aa ah (aa ah (aa ah (aa ah (aa ah (aa ah af))))))) (ak (aQ T) d.m (aa (pv 1) (aa ah (aa ah af))))))
     (ac (cM (i:=5) cu.nd (@K0 _ _ _ _ _ (@kU _ _ _ _ _ _ _ _ _ bQ (cH af) (@kU _ _ _ _ _ _ _ _ _ bQ (cH af) (@kU _ _ _ _ _ _ _ _ _ bQ (cH af) (@kU _ _ _ _ _ _ _ _ _ bQ zy (@kU _ _ _ _ _ _ _ _ _ bQ (ak (xM T) d.m (aa (ak (bT T) d.m (aa (pv 0) (aa ah af))) af)) LF))))) rfl rfl (List.cons_ne_nil _ _) (acQ rfl)))
     (ac (xi (cT d) (pv 5) bQ (cQ (aa (ak (aQ T) d.m (aa (pv 1) (aa ah (aa ah af)))) (aa (ak (aQ T) d.m (aa (pv 1) (aa ah (aa ah af)))) (aa (ak (aQ T) d.m (aa (pv 1) (aa ah (aa ah af)))) af)))) rfl)
     (ac (dh aaN rfl (bN rfl T.cK (aa (pv 4) af)) (jq (i:=6) cu.nd) (ac (cM (i:=7) cu.nd (cH (aa (aw de (ak (aQ T) d.m (aa (pv 2) (aa (pv 6) (aa ah af)))) ah) af)))
     (ac (dh aaN rfl (bN rfl T.cK (aa (aw aJ ah (ak (aQ T) d.m (aa (pv 1) (aa (aw aJ ah (pv 6)) (aa (aF ay (cH (aa ah (aa ah (aa ah (aa ah af))))) (aw de (pv 4) ah)) af))))) af)) (jq (i:=8) cu.nd) (am (bf (iw aaC aaJ aaI cI (pv 7) (aa (aw aJ (aw aJ (aF ay (pv 7) (pv 8)) ah) (ak (aQ T) d.m (aa (pv 2) (aa (aw aJ (aw aJ ah (aw aL ah (pv 6))) (pv 8)) (aa ah af))))) af)))))
     (ac (bf (iw aaC aaJ aaI cI (bS (cT d) (pv 5) bQ (λ _ _=>rfl)) (aa (pv 7) af)))
     (ac (cM (i:=9) cu.nd (aw de (ak (aQ T) d.m (aa (pv 3) (aa (pv 6) (aa ah af)))) ah))
     (ac (bf (iw aaC aaJ aaI cI (bS (cT d) (pv 5) bQ (λ _ _=>rfl)) (aa (cQ (aa (ak (aQ T) d.m (aa (pv 3) (aa (aw aJ ah (pv 6)) (aa ah af)))) (aa (pv 9) (aa (aw aJ (pv 9) (ak (aQ T) d.m (aa (pv 3) (aa (aw aJ ah (pv 6)) (aa ah af))))) af)))) af)))
     (ac (bf (iw aaC aaJ aaI cI (bS (cT d) (pv 5) bQ (λ _ _=>rfl)) (aa (ak (rV T) d.m (aa (pv 1) (aa (pv 2) (aa (pv 3) (aa (pv 6) af))))) af)))
     (am (dh aaN rfl (bN rfl T.cK (aa (pv 4) af)) (jq (i:=10) cu.nd) (am (bB (aM lI (pv 10) (pv 6) (aR _)) (am (xi (cT d) (bS (cT d) (pv 5) bQ (λ _ _=>rfl)) (cQ (aa (pv 6) (aa (pv 10) af))) (ak (aQ T) d.m (aa (pv 2) (aa (aw aJ (aw aJ ah (aw aL ah (pv 6))) (pv 10)) (aa ah af)))) rfl)) aK)))))))))))
     (am (aI (pv 5)))))))))),?_⟩
 try dsimp only [eD,aP]
 try (refine GL ?_;intro _ _ _ _ _ _ _ _ _)
 refine ⟨_,rfl,sa,ns,0,rfl,hS,by decide,λ J _=>⟨_,rfl,sa,ns,1,rfl,hS,by decide,λ cb _=>⟨_,rfl,sa,ns,2,rfl,hS,by decide,λ cc _=>?_⟩⟩⟩
 refine ⟨(by show 6<=sizeLine;decide),λ l0 a3=>⟨_,rfl,J,1,6,rfl,by decide,by decide,by decide,λ r a0 a1=>?_⟩⟩
 obtain ⟨nI,a4,ea⟩:=zN (ns:=[1,1,2,2,3,4]) a0 a1
 refine ⟨l0,_,_,_,rfl,rfl,.inl (bi.of ag),ea,?_⟩
 have hn:1<=nI/\nI<=4:=by
   simp only [aaa,aae,aa2] at a4
   lia
 obtain ⟨n,rfl⟩:∃ n:Nat,nI=(n:Int):=⟨nI.toNat,by lia⟩
 have W:aD H (upd H l0 (.lst [.int 1,.int 1,.int 2,.int 2,.int 3,.int 4])):=al a3
 intro p hp
 refine ⟨aaY _,λ s eZ=>⟨aaY _,λ g fj=>⟨aaY _,λ f eY=>λ u h9=>?_⟩⟩⟩
 have SD:=al (o:=.dK []) hp
 have TF:=al (o:=.lst []) eZ
 have O4:=al (o:=.lst []) fj
 have RG:=al (o:=.lst []) eY
 have Rp:=al (o:=.dT []) h9
 have RU:=SD.trans (TF.trans (O4.trans (RG.trans Rp)))
 refine ⟨_,rfl,sa,ns,3,rfl,(W.trans RU).seq hS,by decide,λ cd _=>⟨cd,rfl,λ F H2 sc O2 s2 Ek=>?_⟩⟩
 have O7:H2 p=some (.dK []):=s2 _ _ (Rp _ _ (RG _ _ (O4 _ _ (TF _ _ ag))))
 have J7:H2 s=some (.lst []):=s2 _ _ (Rp _ _ (RG _ _ (O4 _ _ ag)))
 have K6:H2 g=some (.lst []):=s2 _ _ (Rp _ _ (RG _ _ ag))
 have La:H2 f=some (.lst []):=s2 _ _ (Rp _ _ ag)
 have JV:H2 u=some (.dT []):=s2 _ _ ag
 have a7:s≠g:=ax ag fj
 have a8:s≠f:=ax (O4 _ _ ag) eY
 have a9:g≠f:=ax ag eY
 refine ⟨O7,[(.inr "marks",.ref s),(.inr "sky",.ref g),(.inr "stoves",.ref f),(.inr "flows",.ref u),(.inr "scale",.ref F)],rfl,acQ rfl,?_⟩
 have a5:aD H H2:=(W.trans RU).trans s2
 have pn:H p=none:=W.free hp
 refine ⟨_,rfl,J,2,5,rfl,by decide,by decide,by decide,λ w0 bk bA=>⟨_,rfl,J,3,31,rfl,by decide,by decide,by decide,λ w1 bm bC=>⟨_,rfl,J,4,10,rfl,by decide,by decide,by decide,λ w2 bo bE=>⟨Of,λ A Jj=>?_⟩⟩⟩⟩
 refine ⟨_,rfl,_,_,rfl,xX.k (k:=.inr "bounds") (al Jj _ _ ag) (aaO (jy _ _) (by show 0+5<sizeLine;decide)),?_⟩
 have aX:s≠p:=bM J7 O7 nofun
 have Qm:g≠p:=bM K6 O7 nofun
 have Z5:f≠p:=bM La O7 nofun
 have aG:u≠p:=bM JV O7 (λ z=>nomatch z)
 have Qr:F≠p:=bM Ek O7 nofun
 have aj:∀ {b o o'},H2 b=some o->b≠p->(upd H2 p o') b=some o:=λ h n=>by rw [aB n];exact h
 have bn:∀ {b o},H2 b=some o->b≠p->b≠A:=λ h n=>ax (aj h n) Jj
 have an:p≠A:=ax ag Jj
 have b3:∀ {b o o1 o2 o3},H2 b=some o->b≠p->(upd (upd (upd H2 p o1) A o2) p o3) b=some o:=λ h n=>by rw [aB n,aB (bn h n)];exact aj h n
 have C0:TC K (upd (upd (upd H2 p (.dK (kx [] [(.inr "marks",.ref s),(.inr "sky",.ref g),(.inr "stoves",.ref f),(.inr "flows",.ref u),(.inr "scale",.ref F)]))) A (.tup [.int w0,.int w1,.int w2])) p
     (.dK (putK (kx [] [(.inr "marks",.ref s),(.inr "sky",.ref g),(.inr "stoves",.ref f),(.inr "flows",.ref u),(.inr "scale",.ref F)]) (.inr "bounds") (.ref A)))) p s g f u F A [] [] [] [] ⟨[],[],[],λ _ _=>none,sc,(w0,w1,w2)⟩:=by
   refine ⟨ag,b3 J7 aX,b3 K6 Qm,b3 La Z5,b3 JV aG,a7,a8,a9,rfl,rfl,rfl,λ _ _ _ _=>rfl,⟨acy,nofun⟩,bR.of (lZ (b3 Ek Qr) ?_),bR.of (lZ (by rw [aB an.symm];exact ag) ?_)⟩
   . simp only [aaa,aae,aa2,ach]
     exact ⟨Qr,bM Ek J7 nofun,bM Ek K6 nofun,bM Ek La nofun,bM Ek JV nofun⟩
   . simp only [aaa,aae,aa2,ach]
     exact ⟨an.symm,(bn J7 aX).symm,(bn K6 Qm).symm,(bn La Z5).symm,(bn JV aG).symm⟩
 have S0:aD H (upd (upd (upd H2 p (.dK (kx [] [(.inr "marks",.ref s),(.inr "sky",.ref g),(.inr "stoves",.ref f),(.inr "flows",.ref u),(.inr "scale",.ref F)]))) A (.tup [.int w0,.int w1,.int w2])) p
     (.dK (putK (kx [] [(.inr "marks",.ref s),(.inr "sky",.ref g),(.inr "stoves",.ref f),(.inr "flows",.ref u),(.inr "scale",.ref F)]) (.inr "bounds") (.ref A)))):=((a5.put pn).trans (al Jj)).put pn
 refine ⟨_,rfl,_,rfl,by lia,by lia,?_⟩
 refine gk (lo:=0) (n:=n) (λ i U G=>A3 (aD H G) (E5 λ M B D aE m=>A3 (TC K G p s g f u F A M B D aE m) (rR H G [p,s,g,f,u] M m.marks) (av.Ok n i m)) (E5 λ x6 x7 X x9 I=>U=[some (.ref sa),some (.int J),some (.int cb),some (.int cc),some (aq n),some (.ref p),x6,x7,X,x9,I]))
   ⟨S0,⟨_,_,_,_,_,C0,rR.nil,⟨rfl,rfl,rfl,nofun,nofun,nofun,λ a b h=>absurd h (abN a),O2,⟨bk,by show w0<=4;lia⟩,⟨bm,by show w1<=30;lia⟩,⟨bo,by show w2<=30;lia⟩⟩⟩,none,none,none,none,none,rfl⟩ ?_ ?_
 .
  rintro _ _ _ i U G hi ⟨S1,⟨M,B,D,aE,m,C,M1,Y⟩,x6,x7,X,x9,I,rfl⟩
  refine ⟨_,rfl,_,rfl,cb,_,61,rfl,by lia,by lia,by decide,λ r0 c0 c1=>⟨_,_,rfl,rfl,λ x0 e0=>⟨Mb,λ v S=>?_⟩⟩⟩
  refine ⟨_,rfl,_,rfl,_,_,rfl,rfl,λ y1 f1=>⟨O3,λ l1 Ph=>⟨_,rfl,_,_,rfl,rfl,λ y2 f2=>⟨l1,_,_,_,rfl,rfl,.inl (bi.of ag),JO (by lia) (by lia) f2,?_⟩⟩⟩⟩
  refine ⟨J,y1,_,rfl,by lia,by lia,(by split<;>decide),λ r1 b0 b1=>⟨_,_,rfl,rfl,λ y3 f3=>?_⟩⟩
  obtain ⟨q,rfl⟩:∃ q:Nat,y3=(q:Int):=⟨y3.toNat,by lia⟩
  have hq:1<=q/\q<=if n<=2 then 6 else 4:=by
    split at b1<;>rename_i hc<;>simp only [hc,ab2,acm]<;>lia
  have bu:q<=6:=by have:=hq.2;split at this<;>lia
  refine ⟨_,rfl,by lia,by lia,?_⟩
  have sk:aD G (upd G v (.lst [.int x0])):=al S
  have a6:v≠l1:=ax ag Ph
  refine gk (lo:=0) (n:=q) (λ j U Uf=>A3 (aD G Uf) (∃ (l:List Int),A4 (Uf v=some (.lst (l.map V.int))) (l.length=j+1) (pi l) (∀ x∈l,-30<=x/\x<=30+20 * (j:Int))) (∃ X,U=[some (.ref sa),some (.int J),some (.int cb),some (.int cc),some (aq n),some (.ref p),some (.int (0+(i:Int))),some (.ref v),X,x9,I]))
    ⟨sk.trans (al Ph),⟨[x0],by rw [aB a6];exact ag,rfl,λ a x y h1 h2=>by simp at h2,λ x hx=>by rw [aai.mp hx];lia⟩,X,rfl⟩ ?_ ?_
  .
   rintro _ _ _ j U Uf hj ⟨S2,⟨l,hk,hl,NU,yA⟩,X,rfl⟩
   have OZ:j<l.length:=by lia
   refine ⟨_,rfl,.inl ⟨rfl,_,bi.of hk⟩,_,rfl,_,rfl,v,_,_,_,rfl,rfl,.inl (bi.of hk),Ko OZ,_,_,rfl,rfl,λ u1 g1=>⟨_,rfl,_,rfl,_,_,rfl,rfl,⟨10,10,mE,(show (0+(i:Int)).natAbs<2 ^ 10 by lia),by decide⟩,λ u2 g2=>⟨_,_,rfl,rfl,λ u3 g3=>⟨_,rfl,_,_,rfl,rfl,λ u4 g4=>?_⟩⟩⟩⟩
   refine ⟨cb,u4,20,rfl,by lia,by lia,by decide,λ r2 d0 d1=>⟨_,_,rfl,rfl,λ u5 g5=>⟨v,_,_,rfl,rfl,hk,aO (by rw [OS];lia),?_⟩⟩⟩
   have bt:=yA l[j] (aag OZ)
   refine ⟨S2.put S,⟨l++[u5],by rw [ag,aab];rfl,by rw [aad,hl];rfl,Ak NU hl (by lia),λ x hx=>?_⟩,_,rfl⟩
   rcases aaR.mp hx with z|z
   . have:=yA x z;lia
   . rw [aai.mp z];lia
  .
   rintro U Uf ⟨S2,⟨l,hk,hl,NU,yA⟩,X,rfl⟩
   have C2:=C.same S2
   have uI:wJ n l:=⟨by lia,by have:=hq.2;split at this<;>rename_i hc<;>simp only [hc,ab2,acm]<;>lia,NU,λ x hx=>by have:=yA x hx;lia⟩
   have kL:v∉[p,s,g,f,u]:=by
     simp only [aaa,aae,aa2,ach]
     exact ⟨(ax C.hp S).symm,(ax C.eZ S).symm,(ax C.fj S).symm,(ax C.eY S).symm,(ax C.h9 S).symm⟩
   have IW:M.length=i:=by rw [C.dm.length,OS,Y.lm]
   have bw:B.length=i:=by rw [C.ds.length,OS,Y.ls]
   have bx:D.length=i:=by rw [C.dt.length,OS,Y.lt]
   refine ⟨_,rfl,p,_,rfl,db C2.hp,.inl ⟨rfl,_,bi.of C2.eZ⟩,_,rfl,s,M,_,rfl,rfl,C2.eZ,aO (by lia),?_⟩
   have C3:=C2.Gk (l:=l) (x:=.ref v) ⟨v,_,rfl,bi.of (lZ hk kL),xr l⟩
   refine ⟨_,rfl,_,rfl,cc,_,61,rfl,by lia,by lia,by decide,λ r3 m0 m1=>⟨_,_,rfl,rfl,λ L bs=>?_⟩⟩
   refine ⟨_,rfl,p,_,rfl,uf C3.hp,.inl ⟨rfl,_,bi.of C3.fj⟩,_,rfl,_,rfl,_,_,rfl,rfl,λ v1 h1=>⟨cc,v1,4,rfl,by lia,by lia,by decide,λ sh be bz=>⟨_,rfl,_,rfl,_,rfl,_,rfl,_,_,rfl,rfl,λ v2 h2=>⟨cc,v2,31,rfl,by lia,by lia,by decide,λ r4 n0 n1=>⟨_,_,rfl,rfl,λ O bp=>⟨Of,λ pz yJ=>?_⟩⟩⟩⟩⟩⟩
   have ab:=C3.same (al (o:=.tup [.int sh,.int L,.int O]) yJ)
   refine ⟨g,B,_,rfl,rfl,ab.fj,aO (by lia),?_⟩
   have C4:=ab.MS (l:=(sh,L,O)) (x:=.ref pz) (fU (bR.of (lZ ag (C3.LI yJ))) (bJ rfl (bJ rfl (bJ rfl gq))))
   refine ⟨_,rfl,p,_,rfl,jj C4.hp,.inl ⟨rfl,_,bi.of C4.eY⟩,_,rfl,_,rfl,_,rfl,_,rfl,?_⟩
   dsimp only [JB,List.cons_append,acR,abb]
   refine AW (a:=J) (b:=cb) (c:=cc) (i:=i) (by simp only [aap];rfl) (by lia) λ zt vq H5 pF=>?_
   have ad:=C4.same pF.same
   have a2:(upd H5 f (.lst (D++[vq]))) v=some (.lst (l.map V.int)):=by
     simp only [aaa,aae,aa2,ach] at kL
     rw [aB kL.2.2.2.1]
     refine pF.same _ _ ?_
     rw [aB kL.2.2.1]
     refine al yJ _ _ ?_
     rw [aB kL.2.1]
     exact hk
   refine ⟨f,D,_,rfl,rfl,ad.eY,aO (by lia),?_⟩
   have C5:=ad.HA (l:=zt) (x:=vq) (pF.dn λ b R=>C4.LI R)
   have bb:H s=none:=(W.trans SD).free eZ
   have bc:H g=none:=((W.trans SD).trans TF).free fj
   have bd:H f=none:=(((W.trans SD).trans TF).trans O4).free eY
   have ba:H u=none:=((((W.trans SD).trans TF).trans O4).trans RG).free h9
   have S5:aD H _:=(((((S1.trans S2).put bb).trans (al (o:=.tup [.int sh,.int L,.int O]) yJ)).put (o:=.lst (B++[.ref pz])) bc).trans pF.same).put (o:=.lst (D++[vq])) bd
   have M5:=M1.snoc S (iN (iN (iN (iN (iN (oQ S2) (sG (by simp))) (oQ (al (o:=.tup [.int sh,.int L,.int O]) yJ))) (sG (a:=g) (o:=.lst (B++[.ref pz])) (by simp))) (oQ pF.same)) (sG (a:=f) (o:=.lst (D++[vq])) (by simp))) a2 kL (S1.free S) (λ x hx=>by have:=yA x hx;lia)
   refine ⟨_,rfl,_,rfl,by lia,by lia,?_⟩
   refine gk (lo:=0) (n:=n) (λ j U H6=>A4 (aD H H6) (E2 λ aE fl=>A3 (TC K H6 p s g f u F A (M++[.ref v]) (B++[.ref pz]) (D++[vq]) aE { m with marks:=m.marks++[l],dI:=m.dI++[(sh,L,O)],aH:=m.aH++[zt],bH:=fl }) (∀ a b,a<i->b<n->a≠b->∃ k,fl a b=some k/\0<=k/\k<=3) (∀ b,b<j->i≠b->∃ k,fl i b=some k/\0<=k/\k<=3)) (rR H H6 [p,s,g,f,u] (M++[.ref v]) (m.marks++[l])) (∃ I,U=[some (.ref sa),some (.int J),some (.int cb),some (.int cc),some (aq n),some (.ref p),some (.int (0+(i:Int))),some (.ref v),X,some (.int L),I]))
     ⟨S5,⟨aE,m.bH,C5,Y.bH,λ b h=>absurd h (abN b)⟩,M5,I,rfl⟩ ?_ ?_
   .
    rintro _ _ _ j U H6 hj ⟨S6,⟨Ng,fl,C6,JP,Ks⟩,M6,I,rfl⟩
    refine ⟨_,rfl,_,rfl,rfl,_,rfl,?_⟩
    refine vD (λ h=>?_) (λ h=>?_)
    .
     have wg:i≠j:=λ e=>h (by rw [e])
     refine ⟨_,rfl,_,rfl,_,_,rfl,rfl,⟨10,10,mE,(show (0+(i:Int)).natAbs<2 ^ 10 by lia),by decide⟩,λ u1 g1=>⟨_,_,rfl,rfl,λ u2 g2=>⟨_,rfl,_,_,rfl,rfl,λ u3 g3=>⟨cb,u3,4,rfl,by lia,by lia,by decide,λ kk k0 k1=>?_⟩⟩⟩⟩
     refine ⟨_,rfl,p,_,rfl,m9 C6.hp,_,rfl,_,rfl,DR,λ kp yM=>?_⟩
     have ae:=C6.same (al (o:=.tup [.int (0+(i:Int)),.int (0+(j:Int))]) yM)
     have pX:(upd H6 kp (.tup [.int (0+(i:Int)),.int (0+(j:Int))])) kp=some (.tup ((gb i j).map kV)):=by rw [ag,aap,aap];rfl
     refine ⟨u,_,rfl,xX.t ae.h9 pX (aaO C6.fk.len (by decide)),(S6.trans (al yM)).put ba,⟨_,_,ae.fi (k:=kk) (by lia) (by lia),λ a b ha R N=>?_,λ b R N=>?_⟩,M6.step (iN (oQ (al yM)) (sG (by simp))),_,rfl⟩
     . by_cases e:a=i/\b=j
       . exact ⟨kk,aan e,k0,by lia⟩
       . obtain ⟨z,h1,h2⟩:=JP a b ha R N
         exact ⟨z,(aam e).trans h1,h2⟩
     . by_cases e:b=j
       . exact ⟨kk,aan ⟨rfl,e⟩,k0,by lia⟩
       . obtain ⟨z,h1,h2⟩:=Ks b (by lia) N
         exact ⟨z,(aam (λ y=>e y.2)).trans h1,h2⟩
    . have wg:i=j:=by have:=fL.mp h;lia
      exact ⟨S6,⟨Ng,fl,C6,JP,λ b R N=>Ks b (by lia) N⟩,M6,_,rfl⟩
   . rintro U H6 ⟨S6,⟨Ng,fl,C6,JP,Ks⟩,M6,I,rfl⟩
     refine ⟨S6,⟨_,_,_,Ng,_,C6,M6,Y.marks uI ⟨⟨be,by show sh<=3;lia⟩,⟨by show -30<=L;lia,by show O<=60;lia⟩,by show L<=O;lia,by show O<=L+30;lia⟩ pF.ok λ a b ha R N=>?_⟩,_,_,_,_,_,rfl⟩
     by_cases e:a=i
     . subst e;exact Ks b R N
     . exact JP a b (by lia) R N
 . rintro U G ⟨S1,⟨M,B,D,aE,m,C,M1,Y⟩,x6,x7,X,x9,I,rfl⟩
   exact ⟨_,rfl,k p G m n (by lia) (by lia) Y S1 ⟨s,g,f,u,F,A,M,B,D,aE,C,M1⟩⟩
def yn (T:Txt K mg Ad):Def P w K mg base "_law_built" 7 ["_law_told"] (IX K Ad.aX):=by
 refine T.Ab.cL cX λ Z Z Z Z Z H vs Q E g h=>?_
 obtain ⟨p,c,n,rfl,hT,ok,n1,n4,k⟩:=h
 refine ⟨_,(ac (cM (i:=1) cX.nd (bS (cT g) (pv 0) bQ (λ Z Z=>rfl)))
     (ac (cM (i:=2) cX.nd (bS (cT g) (pv 0) bQ (λ Z Z=>rfl)))
     (ac (cM (i:=3) cX.nd (zf T.DK (ir T) g.m T.HY (aa (aF ay (pv 1) ah) (aa (aF ay (pv 1) ah) (aa (aF ay (pv 1) ah) af)))))
     (ac (dh aaN rfl (dP (bS (cT g) (pv 0) bQ (λ Z Z=>rfl))) (jq (i:=4) cX.nd) (am (bf (aW (pv 3) T.aG (nS T) .nil g.m (aa (jk ["_law_num"] ["_law_scale_here"] [2] (.cons ⟨rfl,rfl,.inl rfl⟩ .nil) rfl (dP (pv 4)) (λ Z Z Z Z Z=>(pE (i:=0))) (λ Z Z Z Z Z=>eM) (λ Z Z Z Z Z=>(ak (kX T) g.m (aa (pv 0) (aa ah (aa (pv 1) af)))))) af)))))
     (ac (dh aaN rfl (bN rfl T.cK (aa (br bO (by rfl) T.fX dL (aa (bS (cT g) (pv 0) bQ (λ Z Z=>rfl)) af)) af)) (jq (i:=5) cX.nd) (ac (cM (i:=6) cX.nd (aF ay (bS (cT g) (pv 0) bQ (λ Z Z=>rfl)) (pv 5)))
     (ac (bf (aW (pv 3) T.aG (pN T) .nil g.m (aa (pv 5) (aa (ak (gu T) g.m (aa (aF ay (pv 6) ah) (aa ah af))) (aa (ak (kX T) g.m (aa (aF ay (pv 6) ah) (aa ah (aa (pv 2) af)))) (aa (ak (kX T) g.m (aa (aF ay (pv 6) ah) (aa ah (aa (pv 2) af)))) af))))))
     (ac (cM (i:=7) cX.nd (aF ay (bS (cT g) (pv 0) bQ (λ Z Z=>rfl)) (pv 5)))
     (ac (lH (bB (aM mq (pv 7) dg (aR _)) (am (bf (zX (pv 3) T.aG (lg T) g.m (aa (pv 5) (aa (ak (gu T) g.m (aa (aw aL (aF ay (pv 7) ah) (aF ay (pv 2) ah)) (aa (aF ay (pv 2) ah) af))) (aa (aF ay (pv 7) ah) (aa (aF ay (pv 7) ah) (aa (aF ay (pv 7) ah) af)))))))) aK))
     (am (dh aaN rfl (bN rfl T.cK (aa (br bO (by rfl) T.fX dL (aa (bS (cT g) (pv 0) bQ (λ Z Z=>rfl)) af)) af)) (jq (i:=8) cX.nd) (am (bB (aM lI (pv 8) (pv 5) (aR _)) (am (bf (aW (pv 3) T.aG (og T) .nil g.m (aa (pv 5) (aa (pv 8) (aa (ak (gu T) g.m (aa (bS (cT g) (bS (cT g) (pv 0) bQ (λ Z Z=>rfl)) (cQ (aa (pv 5) (aa (pv 8) af))) (λ Z Z=>rfl)) (aa ah af))) af)))))) aK)))))))))
     (am (aI (pv 3)))))))),?_⟩
 try dsimp only [eD,aP]
 try (refine nZ ?_;intro Z Z Z Z Z Z Z)
 obtain ⟨pm,ps,pt,pf,G,pb,vm,vs,vt,aE,C⟩:=id hT
 have hb:bR K H pb [.int c.bounds.1,.int c.bounds.2.1,.int c.bounds.2.2]:=dC.tup C.bo
 have O2:bR K H G c.scale.vs:=dC.tup C.sc
 refine ⟨_,rfl,p,_,rfl,mh C.hp,⟨_,rfl,p,_,rfl,tT C.hp,?_⟩⟩
 refine ⟨_,rfl,_,_,_,_,rfl,rfl,.inr hb,rfl,_,rfl,_,_,_,_,rfl,rfl,.inr hb,rfl,_,rfl,_,_,_,_,rfl,rfl,.inr hb,rfl,?_⟩
 intro a Dg fa OX Ra
 have a4:upd H Dg (.own a) a=none:=by rw [aB Ra.symm];exact fa
 have s0:aD H (upd (upd H Dg (.own a)) a (.ins Ad.aX Dg [])):=(al OX).trans (al a4)
 refine ⟨a,Dg,_,_,_,rfl,ag,by rw [aB Ra];exact ag,ok.bounds.1,ok.bounds.2.1,ok.bounds.2.2,λ H1 Vw D=>⟨rfl,?_⟩⟩
 obtain ⟨S1,F1⟩:=D.keep s0 (λ b hb=>by
   simp only [aaa,aae,aa2] at hb
   rcases hb with rfl|rfl
   . exact fa
   . exact OX)
 have C1:=C.same S1
 refine ⟨_,rfl,p,_,rfl,db C1.hp,pm,rfl,⟨vm,bi.of C1.eZ⟩,?_⟩
 have IW:vm.length=n:=by rw [C.dm.length,OS,ok.lm]
 refine vQ (xs:=vm) (λ i U I=>A4 (aD H I) (∃ y,aV K Ad.aX I a y (c.m1 i)/\∀ b∈y,H b=none) ((c.m1 i).rows=(c.marks.take i).map c.row) (E5 λ x4 x5 x6 x7 X=>U=[some (.ref p),some (.ref pb),some (.ref G),some (.ref a),x4,x5,x6,x7,X]))
   ⟨S1,⟨Vw,D.at_,F1⟩,rfl,none,none,none,none,none,rfl⟩ (λ i U I Z e=>bi.of (e.1 _ _ C.eZ)) ?_ ?_
 .
  rintro Z Z i x U I hx ⟨S2,⟨y,hh,hF⟩,vW,x4,x5,x6,x7,X,rfl⟩
  refine HF ?_;intro Z Z Z
  have M:i<c.marks.length:=by rw [ok.lm,<- IW];exact (RJ.mp hx).1
  have C2:=C.same S2
  obtain ⟨v,ev,pk,ws,rfl,sI,Lk⟩:=C2.dm.get (i:=i) (d:=zl c.marks[i]) (by rw [T1,ar M];rfl)
  obtain rfl:x = .ref pk:=aaj (hx.symm.trans ev)
  obtain rfl:=hV Lk
  have uI:=ok.rows c.marks[i] (aag M)
  have FV:bi K I pk (c.marks[i].map V.int):=dC.seq sI
  obtain ⟨⟨dx,Z,Z,Z,Z,Z,Z,Z,Z,Z,ha,Z⟩,Z⟩:=id hh
  have ZJ:(c.m1 i).rows.length=i:=by rw [vW,OS,aax];lia
  refine ⟨_,rfl,a,dx,_,rfl,ha,rfl,_,rfl,pk,rfl,⟨_,FV⟩,λ Dl hD=>?_⟩
  refine gK (K:=K) (a:=pk) (xs:=c.marks[i].map V.int) (λ j A U J=>A4 (aD I J) (J Dl=some (.lst A)) (bX K J ((c.marks[i].take j).map λ x=>dO (aT x 1 c.scale)) A) (∃ v,U=[v,some (.ref G)]))
    ⟨al hD,ag,rfl,none,rfl⟩ (λ j A U J Z e=>e.1.seq FV) ?_ ?_
  .
   rintro j x A U J X3 ⟨s3,iJ,d3,v,rfl⟩
   have OZ:j<c.marks[i].length:=by have:=(RJ.mp X3).1;rw [OS] at this;exact this
   have ex:x = .int c.marks[i][j]:=by
     rw [T1,ar OZ] at X3
     exact (aaj X3).symm
   subst ex
   have bc:=uI.bd c.marks[i][j] (aag OZ)
   refine ⟨_,rfl,_,rfl,_,1,G,c.scale,rfl,(S2.trans s3).tup O2,ok.scale,(show (c.marks[i][j]).natAbs<2 ^ 30 by lia),by decide,mE,λ q R s4 hq=>?_⟩
   have la:A.length=j:=by rw [d3.length,OS,aax];lia
   have Ue:bD K R (upd R Dl (.lst (A++[.ref q]))):=cO (s4 _ _ iJ) rfl
   refine ⟨s4 _ _ iJ,aO (by have:=uI.most;split at this<;>lia),(s3.trans s4).put hD,ag,?_,_,rfl⟩
   rw [abK,ar OZ,aab]
   exact (bX.ts ((aD.ts s4).trans Ue) _ (oO _ _) d3).snoc (Dn.ts Ue _ (f6 _) (hR (bR.of hq)))
  .
   rintro A U J ⟨s3,iJ,d3,v,rfl⟩
   rw [OS,aa1] at d3
   have Vc:c.marks[i].length<=7:=by have:=uI.most;split at this<;>lia
   refine ⟨a,y,c.m1 i,Dl,A,c.row c.marks[i],rfl,hh.same s3,by have:=ok.lm;lia,bi.of iJ,by unfold av.row;rw [abP];exact d3,ME ok.scale uI,by unfold av.row;rw [OS];exact uI.two,by unfold av.row;rw [OS];exact Vc,Dd ok.scale uI.Jg,?_,λ R QN D4=>?_⟩
   .
    have e:(c.m1 i).rows++[c.row c.marks[i]]=(c.marks.take (i+1)).map c.row:=by rw [vW,abK,ar M,aab];rfl
    rw [e]
    refine (GN (n:=n) rfl n4 (λ r g=>?_) ?_).2
    . refine JY ok r ?_
      obtain ⟨l,hl,rfl⟩:=aat.mp g
      exact aat.mpr ⟨l,List.mem_of_mem_take hl,rfl⟩
    . rw [OS,aax,ok.lm];lia
   .
    obtain ⟨S4,F4⟩:=D4.keep (S2.trans s3) hF
    have em:=av.Lv (ar M)
    refine ⟨S4,⟨QN,by rw [em];exact D4.at_,F4⟩,?_,_,_,_,_,_,rfl⟩
    rw [em]
    show (c.m1 i).rows++[c.row c.marks[i]]=_
    rw [vW,abK,ar M,aab];rfl
 .
  rintro U I ⟨S2,⟨y,hh,hF⟩,vW,x4,x5,x6,x7,X,rfl⟩
  rw [IW] at hh vW
  have C2:=C.same S2
  have ZJ:(c.m1 n).rows.length=n:=by rw [vW,OS,aax,ok.lm];lia
  refine ⟨_,rfl,p,_,rfl,db C2.hp,pm,vm,rfl,.inl (bi.of C2.eZ),λ r er=>?_⟩
  obtain rfl:r=(n:Int):=by rw [er,IW]
  refine ⟨_,rfl,by lia,by lia,?_⟩
  refine gk (lo:=0) (n:=n) (λ i U I=>A5 (aD H I) (∃ y,aV K Ad.aX I a y (c.m2 n i)/\∀ b∈y,H b=none) ((c.m2 n i).rows.length=n) (Tw (c.m2 n i)) (E5 λ x4 x5 x6 x7 X=>U=[some (.ref p),some (.ref pb),some (.ref G),some (.ref a),x4,x5,x6,x7,X]))
    ⟨S2,⟨y,hh,hF⟩,ZJ,⟨_,_,c.TR n,⟨λ Z=>by decide,λ Z Z=>by decide,λ Z=>rfl⟩⟩,x4,x5,x6,x7,X,rfl⟩ ?_ ?_
  .
   rintro Z Z Z i U J M ⟨S3,⟨Vl,UG,X5⟩,Pg,tw,y4,y5,y6,y7,y8,rfl⟩
   have C3:=C.same S3
   have zI:i<c.dI.length:=by rw [ok.ls];exact M
   have sC:i<c.aH.length:=by rw [ok.lt];exact M
   obtain ⟨vz,V9,pz,wz,rfl,yJ,dz⟩:=C3.ds.get (i:=i) (d:=Fi c.dI[i]) (by rw [T1,ar zI];rfl)
   obtain ⟨z1,r1,rfl,W,z2,r2,rfl,L,z3,r3,rfl,Y,e4⟩:=dz
   have e4:r3=[]:=e4
   have W:z1 = .int c.dI[i].1:=W
   have L:z2 = .int c.dI[i].2.1:=L
   have Y:z3 = .int c.dI[i].2.2:=Y
   subst W L Y e4
   have hz:bR K J pz [.int c.dI[i].1,.int c.dI[i].2.1,.int c.dI[i].2.2]:=dC.tup yJ
   have A9:=ok.dI c.dI[i] (aag zI)
   obtain ⟨⟨dx,Z,Z,Z,Z,Z,Z,Z,Z,Z,ha,Z⟩,be,lst,Z⟩:=id UG
   refine ⟨_,rfl,p,_,rfl,uf C3.hp,_,rfl,ps,vs,_,_,rfl,rfl,.inl (bi.of C3.fj),by rw [aap];exact bK V9,?_⟩
   refine ⟨_,rfl,a,dx,_,rfl,ha,rfl,_,rfl,_,rfl,pz,_,_,_,rfl,rfl,.inr hz,rfl,_,12,rfl,by decide,mE,λ q r u Hr F sr hu=>?_⟩
   refine ⟨_,rfl,pz,_,_,_,rfl,rfl,.inr (sr.tup hz),rfl,_,rfl,_,1,G,c.scale,rfl,(S3.trans sr).tup O2,ok.scale,(show (c.dI[i].2.1).natAbs<2 ^ 30 by lia),by decide,mE,λ q1 Hw sw Ji=>?_⟩
   refine ⟨_,rfl,pz,_,_,_,rfl,rfl,.inr (sw.tup (sr.tup hz)),rfl,_,rfl,_,1,G,c.scale,rfl,((S3.trans sr).trans sw).tup O2,ok.scale,(show (c.dI[i].2.2).natAbs<2 ^ 30 by lia),by decide,mE,λ q2 Hx sx Jf=>?_⟩
   have ae:=(sr.trans sw).trans sx
   have Ws:Ov 12 c.dI[i].1 (nf c.dI[i].1 12):=Ov.nf (by decide)
   have MX:∀ x:Int,-200<=x->x<=200->dH 100 (aT x 1 c.scale):=λ x h1 h2=>(oF (n:=8) ok.scale (by decide) (show x.natAbs<2 ^ 8 by lia) mE).mono (by decide)
   refine ⟨a,Vl,_,i,.ref u,.ref q1,.ref q2,nf c.dI[i].1 12,aT c.dI[i].2.1 1 c.scale,aT c.dI[i].2.2 1 c.scale,by rw [aap];rfl,UG.same ae,by lia,Dn.same (sw.trans sx) _ (Gz (by decide) F hu),Dn.same sx _ (hR (bR.of Ji)),hR (bR.of Jf),
     GG (by decide) (show (c.dI[i].1).natAbs<2 ^ 100 by lia) mE,MX _ (by lia) (by lia),MX _ (by lia) (by lia),?_,L2.Ov.nonneg (by decide) Ws A9.1.1,tw.xT (by lia) (by lia) Ws A9.1.2,λ R QN D4=>?_⟩
   . rw [tV ok.scale (by decide)]
     exact aal (by lia)
   .
    obtain ⟨S4,F4⟩:=D4.keep (S3.trans ae) X5
    have C4:=C.same S4
    have Oa:c.gx (c.m2 n i) i=(c.m2 n i).f9 i (c.nR c.dI[i]):=by unfold av.gx;rw [ar zI]
    have ab:Tw (c.gx (c.m2 n i) i):=by rw [Oa];exact tw.dI (by lia) Ws A9.1.1 A9.1.2
    have Wl:(c.gx (c.m2 n i) i).rows.length=n:=by rw [Oa];exact Pg
    have U4:aV K Ad.aX R a QN (c.gx (c.m2 n i) i):=by rw [Oa];exact D4.at_
    generalize a8:c.gx (c.m2 n i) i=N at ab Wl U4
    obtain ⟨vq,PZ,dq⟩:=C4.dt.get (i:=i) (d:=stI c.aH[i]) (by rw [T1,ar sC];rfl)
    refine ⟨_,rfl,p,_,rfl,jj C4.hp,_,rfl,pt,vt,_,_,rfl,rfl,.inl (bi.of C4.eY),by rw [aap];exact bK PZ,?_⟩
    refine ⟨λ an H5=>A5 (aD H H5) (∃ y,aV K Ad.aX H5 a y (c.b7 N i)/\∀ b∈y,H b=none) ((c.b7 N i).rows.length=n) (Tw (c.b7 N i)) (E2 λ y6 y7=>an=[some (.ref p),some (.ref pb),some (.ref G),some (.ref a),y4,some (.int (0+(i:Int))),y6,y7,y8]),?_,?_⟩
    .
     refine ⟨_,rfl,rfl,_,rfl,?_⟩
     cases Ip:c.aH[i] with
     | none =>
       rw [Ip] at dq
       have dq:vq = .cn:=dq
       subst dq
       have es:c.b7 N i=N:=by unfold av.b7;rw [ar sC,Ip]
       rw [es]
       refine fz rfl ⟨S4,⟨QN,U4,F4⟩,Wl,ab,_,_,rfl⟩
     | some z =>
       rw [Ip] at dq
       obtain ⟨pq,wq,rfl,N2,t1,r1,rfl,W,t2,r2,rfl,L,t3,r3,rfl,Y,t4,r4,rfl,e4,e5⟩:=dq
       have e5:r4=[]:=e5
       have W:t1 = .int z.1:=W
       have L:t2 = .int z.2.1:=L
       have Y:t3 = .int z.2.2.1:=Y
       have e4:t4 = .int z.2.2.2:=e4
       subst W L Y e4 e5
       have L0:bR K R pq [.int z.1,.int z.2.1,.int z.2.2.1,.int z.2.2.2]:=dC.tup N2
       have Jm:=ok.aH z (by rw [<- Ip];exact aag sC)
       have TM:bR K R G c.scale.vs:=S4.tup O2
       obtain ⟨⟨Yk,Z,Z,Z,Z,Z,Z,Z,Z,Z,a6,Z⟩,Z⟩:=id U4
       refine G2 nofun ⟨_,rfl,a,Yk,_,rfl,a6,rfl,_,rfl,_,rfl,pq,_,_,_,rfl,rfl,.inr L0,rfl,_,rfl,G,_,_,_,rfl,rfl,.inr TM,rfl,_,_,rfl,rfl,⟨10,30,(show (z.1).natAbs<2 ^ 10 by have:=Jm.h;lia),ok.scale.ba,by decide⟩,λ yy ey=>?_⟩
       have hB:0<c.scale.b:=by have:=ok.scale.b0;lia
       refine ⟨_,rfl,G,_,_,_,rfl,rfl,.inr TM,rfl,yy,c.scale.b,rfl,hB,ok.scale.bb.mono (by decide),λ q' r' u' a1 F' S Nc=>?_⟩
       refine ⟨_,rfl,pq,_,_,_,rfl,rfl,.inr (S.tup L0),rfl,_,rfl,pq,_,_,_,rfl,rfl,.inr (S.tup L0),rfl,_,rfl,pq,_,_,_,rfl,rfl,.inr (S.tup L0),rfl,?_⟩
       subst ey
       have bz:Bd 40 (z.1 * c.scale.a):=Bd.mul (m:=10) (n:=30) (show (z.1).natAbs<2 ^ 10 by have:=Jm.h;lia) ok.scale.ba
       have ob:Ov c.scale.b (z.1 * c.scale.a) (nf (z.1 * c.scale.a) c.scale.b):=Ov.nf hB
       have es:c.b7 N i=N.hJ i (c.ju z):=by unfold av.b7;rw [ar sC,Ip]
       refine ⟨a,QN,N,i,.ref u',nf (z.1 * c.scale.a) c.scale.b,z.2.1,z.2.2.1,z.2.2.2,by rw [aap];rfl,U4.same S,by lia,Gz hB F' Nc,GG hB (bz.mono (by decide)) (ok.scale.bb.mono (by decide)),L2.Ov.nonneg hB ob (abL Jm.h.1 (by have:=ok.scale.a0;lia)),Jm.w,Jm.s,Jm.f,λ H5 Xm D5=>?_⟩
       obtain ⟨S5,F5⟩:=D5.keep (S4.trans S) F4
       rw [es]
       exact ⟨S5,⟨Xm,D5.at_,F5⟩,Wl,ab.jn,_,_,rfl⟩
    .
     rintro an H5 ⟨S5,⟨Xm,ZZ,F5⟩,ad,aj,y6,y7,rfl⟩
     have C5:=C.same S5
     refine ⟨_,rfl,p,_,rfl,db C5.hp,pm,vm,rfl,.inl (bi.of C5.eZ),λ r' a3=>?_⟩
     obtain rfl:r'=(n:Int):=by rw [a3,IW]
     refine ⟨_,rfl,by lia,by lia,?_⟩
     generalize a9:c.b7 N i=m5 at ZZ ad aj
     refine gk (lo:=0) (n:=n) (λ j U H6=>A5 (aD H H6) (∃ y,aV K Ad.aX H6 a y (c.fo i m5 j)/\∀ b∈y,H b=none) ((c.fo i m5 j).rows.length=n) (Tw (c.fo i m5 j)) (∃ X,U=[some (.ref p),some (.ref pb),some (.ref G),some (.ref a),y4,some (.int (0+(i:Int))),y6,y7,X]))
       ⟨S5,⟨Xm,ZZ,F5⟩,ad,aj,_,rfl⟩ ?_ ?_
     .
      rintro Z Z Z j U H6 hj ⟨S6,⟨UH,OR,F6⟩,Ps,B,X,rfl⟩
      refine ⟨_,rfl,_,rfl,rfl,_,rfl,?_⟩
      rw [av.o9]
      generalize c.fo i m5 j=m6 at OR Ps B
      refine vD (λ h=>?_) (λ h=>?_)
      .
       have wg:i≠j:=λ e=>h (by rw [e])
       obtain ⟨O,hk,k0,k3⟩:=ok.bH i j M hj wg
       have C6:=C.same S6
       obtain ⟨⟨a2,Z,Z,Z,Z,Z,Z,Z,Z,Z,a7,Z⟩,Z⟩:=id OR
       refine ⟨_,rfl,a,a2,_,rfl,a7,rfl,_,rfl,_,rfl,_,rfl,p,_,rfl,m9 C6.hp,_,rfl,_,rfl,DR,λ kp yM=>?_⟩
       have sk:=al (o:=.tup [.int (0+(i:Int)),.int (0+(j:Int))]) yM
       have pX:(upd H6 kp (.tup [.int (0+(i:Int)),.int (0+(j:Int))])) kp=some (.tup ((gb i j).map kV)):=by rw [ag,aap,aap];rfl
       have EL:gO (upd H6 kp (.tup [.int (0+(i:Int)),.int (0+(j:Int))])) pf (.ref kp) (some (.int O)):=by
         have:=gO.t (k:=gb i j) (sk _ _ C6.h9) pX
         rw [C6.df i j (by lia) (by lia),hk] at this
         exact this
       refine ⟨pf,.int O,rfl,EL,O,12,rfl,by decide,mE,λ q' r' u' a1 F' S Nc=>?_⟩
       have ND:Ov 12 O (nf O 12):=Ov.nf (by decide)
       have sA:=sk.trans S
       refine ⟨a,UH,m6,i,j,.ref u',nf O 12,by rw [aap,aap];rfl,OR.same sA,by lia,by lia,wg,Gz (by decide) F' Nc,GG (by decide) (show O.natAbs<2 ^ 100 by lia) mE,L2.Ov.nonneg (by decide) ND k0,B.sP (by lia) (by lia) wg (by lia) ND k3,λ H7 a5 D7=>?_⟩
       obtain ⟨S7,F7⟩:=D7.keep (S6.trans sA) F6
       have ef:c.gC i m6 j=m6.fi i j (nf O 12):=by unfold av.gC;rw [aam wg.symm,hk]
       rw [ef]
       exact ⟨S7,⟨a5,D7.at_,F7⟩,Ps,B.fV wg ND k0 k3,_,rfl⟩
      . have wg:i=j:=by have:=fL.mp h;lia
        have ef:c.gC i m6 j=m6:=by unfold av.gC;rw [aan wg.symm]
        rw [ef]
        exact ⟨S6,⟨UH,OR,F6⟩,Ps,B,_,rfl⟩
     . rintro U H6 ⟨S6,⟨UH,OR,F6⟩,Ps,B,X,rfl⟩
       have L:c.m2 n (i+1)=c.fo i m5 n:=by rw [av.DI,<- a9,<- a8];rfl
       rw [L]
       exact ⟨S6,⟨UH,OR,F6⟩,Ps,B,_,_,_,_,_,rfl⟩
  . rintro U J ⟨S3,⟨Vl,UG,X5⟩,Pg,tw,y4,y5,y6,y7,y8,rfl⟩
    exact ⟨_,rfl,k a J Vl S3 UG X5 Pg tw⟩
def eG (T:Txt K mg Ad):Def P w K mg base "has_room" 1 ["bits","room"] zQ:=by
 refine T.CZ.cL Al λ Z Z Z Z Z H v Q E b h=>?_
 obtain ⟨n,r,rfl,k⟩:=h
 refine ⟨_,(am (aI (gB jm (aw fm (aw xQ (pv 0) (pv 1)) ah) ah (aR _)))),?_⟩
 try dsimp only [eD,aP]
 refine ⟨_,rfl,_,rfl,_,_,rfl,rfl,abi _,λ s a=>⟨_,_,rfl,rfl,by decide,λ m Z Z e=>⟨rfl,?_⟩⟩⟩
 rw [Dz n r a e]
 exact k
def oy (T:Txt K mg Ad):Def P w K mg base "with_room" 1 ["bits","room"] xo:=by
 refine T.As.cL xL λ Z Z Z Z Z H v Q E c h=>?_
 obtain ⟨n,r,rfl,O,k⟩:=h
 refine ⟨_,(am (aI (aw Ob (pv 0) (aw Jy ah (pv 1))))),?_⟩
 try dsimp only [eD,aP]
 refine ⟨_,rfl,_,rfl,_,_,rfl,rfl,⟨abi _,by lia,by decide⟩,λ s b=>⟨_,_,rfl,rfl,λ m a=>?_⟩⟩
 have e:s=((2 ^ r:Nat):Int):=by rw [b,aaX,Int.one_mul,adt];rfl
 rw [a,e,EX]
 exact k
def kI (T:Txt K mg Ad):Def P w K mg base "members" 2 ["bits"] CV:=by
 refine T.FD.cL Be λ Z Z Z Z Z H V Q E l h=>?_
 obtain ⟨n,rfl,j,k⟩:=h
 refine ⟨_,(am (aI (jk ["room"] ["bits"] [0] (.cons ⟨rfl,rfl,.inl rfl⟩ .nil) rfl (bN rfl T.cK (aa (N4 PySem.F.plainAttrs_int PySem.F.slot_int_bit_length PySem.F.type_int_bit_length EE (pv 0)) af)) (λ Z Z Z Z Z=>(pE (i:=0))) (λ Z Z Z Z Z=>(ki (cw (ak (eG T) l.m (aa (pv 1) (aa (pv 0) af)))))) (λ Z Z Z Z Z=>(pv 0))))),?_⟩
 try dsimp only [eD,aP]
 refine ⟨_,rfl,rfl,_,rfl,rfl,λ b o=>?_⟩
 have g:Builtin.Int.intBits (n:Int)<=61:=aci.mpr (by simpa using j)
 have N:n<2 ^ Builtin.Int.intBits (n:Int):=by
   have:=aci.mp (aaf (Builtin.Int.intBits (n:Int)))
   simpa using this
 have f:b.toNat=Builtin.Int.intBits (n:Int):=by lia
 refine ⟨b,rfl,by lia,by lia,λ D d=>?_⟩
 refine eP (λ i a U c=>A3 (c=upd H D (.lst a)) (a=((List.range i).filter n.testBit).map aq) (∃ v,U=[v,some (aq n)])) ⟨rfl,rfl,none,rfl⟩ ?_ ?_
 .
  rintro i a U c p ⟨rfl,rfl,v,rfl⟩
  refine ⟨_,rfl,_,rfl,n,i,(by show [_,_]=[_,_];rw [aap];rfl),_,rfl,?_⟩
  have e:((List.range (i+1)).filter n.testBit).map aq=((List.range i).filter n.testBit).map aq++(if n.testBit i=true then [aq i] else []):=by
    rw [aaU,abh,aab]
    by_cases q:n.testBit i=true<;>simp [q]
  by_cases q:n.testBit i=true
  .
   rw [q]
   refine jh ⟨_,rfl,ag,?_,?_,?_,_,rfl⟩
   . have:=aa4 n.testBit (List.range i)
     rw [aaw] at this
     rw [OS]
     exact aO (by lia)
   . rw [Dv]
   . rw [e,aan q,aap];rfl
  . rw [Bool.not_eq_true] at q
    rw [q]
    refine gm ⟨rfl,?_,_,rfl⟩
    rw [e,q];simp
 . rintro a U c ⟨rfl,rfl,v,rfl⟩
   refine k D _ d (al d) ?_
   rw [ag,f,Bit.Cs N g]
def ui (T:Txt K mg Ad):Def P w K mg base "subsets" 3 ["bits"] Bq:=by
 refine T.EI.cL kh λ _ _ _ _ _ H vs Q E B h=>?_
 obtain ⟨n,rfl,V,h8,k⟩:=h
 refine ⟨_,(ac (cM (i:=1) kh.nd (cH (aa ah af)))
     (ac (dh aaN rfl (dP (ak (kI T) B.m (aa (pv 0) af))) (jq (i:=2) kh.nd) (am (cM (i:=1) kh.nd (aw G0 (pv 1) (jk ["part"] ["room"] [2] (.cons ⟨rfl,rfl,.inl rfl⟩ .nil) rfl (dP (pv 1)) (λ _ _ _ _ _=>(pE (i:=0))) (λ _ _ _ _ _=>eM) (λ _ _ _ _ _=>(ak (oy T) B.m (aa (pv 0) (aa (pv 1) af)))))))))
     (am (aI (pv 1))))),?_⟩
 try dsimp only [eD,aP]
 try (refine c9 ?_;intro _ _ _ _)
 refine ⟨(by show 1<=sizeLine;decide),λ p0 L=>⟨_,rfl,n,rfl,V,λ F J eZ I C=>⟨F,rfl,⟨_,bi.of C⟩,?_⟩⟩⟩
 have S:=(al (o:=.lst [.int 0]) L).trans I
 refine iQ (K:=K) (a:=F) (xs:=(Bit.rooms n).map aq) (λ i U d=>aD J d/\E2 λ (b:ai) (v:fR)=>A3 (H b=none) (U=[some (aq n),some (.ref b),v]) (d b=some (.lst ((Bit.parts ((Bit.rooms n).take i)).map aq))))
   ⟨aD.refl _,p0,none,L,rfl,I _ _ ag⟩ (λ i U d _ ⟨s,_⟩=>bi.of (s _ _ C)) ?_ ?_
 .
  rintro i x U d W ⟨s,b,v,X,rfl,f⟩
  obtain ⟨r,t,rfl⟩:=d9 W
  have IT:i<(Bit.rooms n).length:=(RJ.mp t).1
  have M:r<61:=(Bit.fK.mp (aaz t)).1
  have O:(Bit.parts ((Bit.rooms n).take i)).length<=256:=by
    rw [(Kl n i).len,aax]
    exact aaT (aba (by decide) (by lia:min i (Bit.rooms n).length<=8)) (by decide)
  have next:Bit.parts ((Bit.rooms n).take (i+1))=Bit.parts ((Bit.rooms n).take i)++(Bit.parts ((Bit.rooms n).take i)).map (· ||| 2 ^ r):=by
    rw [di t,By]
  generalize Bit.parts ((Bit.rooms n).take i)=g at *
  refine ⟨_,rfl,_,rfl,b,rfl,⟨_,bi.of f⟩,λ D u=>?_⟩
  have N:b≠D:=ax f u
  refine gK (K:=K) (a:=b) (xs:=g.map aq) (λ j A c l=>A3 (l=upd d D (.lst A)) (A=(g.take j).map (λ p=>aq (p ||| 2 ^ r))) (∃ v,c=[v,some (aq r)])) ⟨rfl,rfl,none,rfl⟩
    (λ j A c l _ ⟨e,_,_⟩=>by subst e;exact bi.of (by rw [aB N];exact f)) ?_ ?_
  .
   rintro j y A c l Y ⟨rfl,rfl,v2,rfl⟩
   obtain ⟨p,R,rfl⟩:=d9 Y
   refine ⟨_,rfl,_,rfl,p,r,rfl,by lia,ag,?_,?_,?_,_,rfl⟩
   . rw [OS,aax];exact aO (by lia)
   . rw [Dv]
   . rw [di R,aab];rfl
  .
   rintro A c l ⟨rfl,rfl,v2,rfl⟩
   rw [OS,aa1]
   refine ⟨b,D,_,_,rfl,rfl,(by rw [aB N];exact f),ag,?_,λ q z=>?_⟩
   . rw [OS,OS];exact acd (aO (by lia))
   . have G:=al (o:=.lst (g.map λ p=>aq (p ||| 2 ^ r))) u
     have s3:=al (o:=.lst (g.map aq++g.map λ p=>aq (p ||| 2 ^ r))) z
     refine ⟨s.trans (G.trans s3),q,_,S.free (s.free (G.free z)),rfl,?_⟩
     rw [ag,next,aab,abP];rfl
 . rintro U d ⟨s,b,v,X,rfl,f⟩
   rw [OS,aa1] at f
   exact ⟨_,rfl,k b d X (S.trans s) f⟩
def qU (T:Txt K mg Ad):Def P w K mg base "how_many" 3 ["bits"] AE:=by
 refine T.Cp.cL zK λ Z Z Z Z Z H v Q E c h=>?_
 obtain ⟨n,rfl,b,k⟩:=h
 refine ⟨_,(am (aI (br bO (by rfl) T.fX dL (aa (ak (kI T) c.m (aa (pv 0) af)) af)))),?_⟩
 try dsimp only [eD,aP]
 refine ⟨_,rfl,n,rfl,b,λ p a f s d=>⟨p,_,rfl,.inl (bi.of d),λ y e=>?_⟩⟩
 rw [OS] at e
 rw [e]
 exact k a s
def nJ (T:Txt K mg Ad):Def P w K mg base "bits_of" 2 ["rooms"] (Fb K):=by
 refine T.FI.cL j9 λ Z Z Z Z Z H V Q E j h=>?_
 obtain ⟨p,l,rfl,d,g,k⟩:=h
 refine ⟨_,(ac (cM (i:=1) j9.nd ah)
     (ac (dh aaN rfl (dP (pv 0)) (jq (i:=2) j9.nd) (am (cM (i:=1) j9.nd (ak (oy T) j.m (aa (pv 1) (aa (pv 2) af))))))
     (am (aI (pv 1))))),?_⟩
 try dsimp only [eD,aP]
 try (refine c9 ?_;intro Z Z Z Z)
 refine ⟨_,rfl,p,rfl,⟨_,d⟩,?_⟩
 refine iQ (K:=K) (a:=p) (xs:=l.map aq) (λ i U b=>b=H/\∃ v,U=[some (.ref p),some (aq (Bit.sumOf (l.take i))),v]) ⟨rfl,none,rfl⟩ (λ i U b Z e=>by rw [e.1];exact d) ?_ ?_
 .
  rintro i x U b n ⟨rfl,v,rfl⟩
  obtain ⟨r,c,rfl⟩:=d9 n
  have f:Bit.sumOf (l.take (i+1))=Bit.sumOf (l.take i) ||| 2 ^ r:=by
    rw [di c]
    unfold Bit.sumOf
    rw [abe]
    rfl
  exact ⟨_,rfl,_,rfl,_,r,rfl,g r (aaz c),rfl,_,by rw [f];rfl⟩
 . rintro U b ⟨rfl,v,rfl⟩
   rw [OS,aa1]
   exact ⟨_,rfl,k⟩
def vd (T:Txt K mg Ad):Def P w K mg base "fits_stove" 1 ["stove","fired","wait","failed"] (vE K):=by
 refine T.xB.cL jD λ Z Z Z Z Z H r Q E l h=>?_
 obtain ⟨v,z,f,W,b,rfl,a,c,k⟩:=h
 refine ⟨_,(ac (bB (aM qd (pv 0) dg (aR _)) (am (aI (tp (yd (pv 1)) (tp (gB jm (pv 2) ah (aR _)) (ug (gB jm (pv 3) ah (aR _))))))) aK)
     (ac (i8 (lX DE (pv 0) (kG ah) xq) (eK (K:=K) (n:=2) rfl rfl (aY (jq (i:=4) jD.nd) (aY (jq (i:=5) jD.nd) eQ))))
     (ac (bB (PW.pt (rq (fF (jI iu iu ah (pv 2) (pv 4))) (nH (fF (jI iu iu ah (pv 3) (pv 5)))))) (am (aI iC)) aK)
     (am (aI (Sy (gB jm (pv 3) ah (aR _)) (ug (tp (yd (pv 1)) (ug (gB jm (pv 2) ah (aR _))))))))))),?_⟩
 try dsimp only [eD,aP]
 try (refine eU ?_;intro Z Z Z Z Z)
 cases z with
 | none =>
   obtain ⟨rfl,rfl,rfl⟩:=c
   have a:v = .cn:=a
   subst a
   exact ⟨_,rfl,rfl,_,rfl,qa rfl ⟨_,rfl,_,rfl,_,rfl,jh ⟨_,rfl,rfl,_,rfl,qa rfl ⟨_,rfl,rfl,blT rfl (k H (aD.refl _))⟩⟩⟩⟩
 | some z =>
   obtain ⟨p,m,rfl,g,Z⟩:=a.jn
   refine ⟨_,rfl,rfl,_,rfl,nW nofun ?_⟩
   refine ⟨_,rfl,2,rfl,p,_,2,rfl,g,rfl,rfl,by decide,(by show 2<=4;decide),λ q j=>?_⟩
   refine ⟨q,_,rfl,bR.of ag,rfl,_,_,rfl,_,_,rfl,rfl,?_⟩
   have s:=al (o:=.tup [V.int z.2.2.1,V.int z.2.2.2]) j
   obtain ⟨F,d,e⟩:=c
   refine ⟨_,rfl,_,_,rfl,rfl,_,rfl,qa (by lia) ⟨_,rfl,_,_,rfl,rfl,_,rfl,fz F ?_⟩⟩
   refine ⟨_,rfl,_,_,rfl,rfl,_,rfl,qa (by lia) ⟨_,rfl,_,_,rfl,rfl,_,rfl,fz d ?_⟩⟩
   refine ⟨_,rfl,rfl,_,rfl,?_⟩
   rcases e with rfl|⟨rfl,rfl⟩
   . exact qa rfl (k _ s)
   . refine iH (λ Z=>k _ s) (λ Z=>⟨_,rfl,_,rfl,_,rfl,jh ⟨_,rfl,rfl,blT rfl (k _ s)⟩⟩)
def wU (T:Txt K mg Ad):Def P w K mg base "fits_room" 5 ["hold","state","room"] (ya K Ad.aX):=by
 refine T.Af.cL fS λ Z Z Z Z Z H vs Q E c h=>?_
 obtain ⟨a,f,m,p,M,i,rfl,d,G,ok,b,k⟩:=h
 refine ⟨_,(ac (i8 (pv 1) (eK (K:=K) (n:=5) rfl rfl (aY (jq (i:=3) fS.nd) (aY (jq (i:=4) fS.nd) (aY (jq (i:=5) fS.nd) (aY (jq (i:=6) fS.nd) (aY (jq (i:=7) fS.nd) eQ)))))))
     (ac (bB (fF (jI iu oC ah (aF ay (pv 3) (pv 2)) (aw de (br bO (by rfl) T.fX dL (aa (aW (pv 0) T.aG (fH T) .nil c.m (aa (pv 2) af)) af)) ah))) (am (aI iC)) aK)
     (am (aI (ak (vd T) c.m (aa (aW (pv 0) T.aG (ek T) .nil c.m (aa (pv 2) af)) (aa (ak (eG T) c.m (aa (pv 4) (aa (pv 2) af))) (aa (aF ay (pv 5) (pv 2)) (aa (aF ay (pv 6) (pv 2)) af))))))))),?_⟩
 try dsimp only [eD,aP]
 try (refine c9 ?_;intro Z Z Z Z)
 obtain ⟨U,W,V,q,A,C,B⟩:=id G
 obtain ⟨⟨D,Z,Z,Z,Z,Z,Z,Z,Z,Z,e,Z⟩,X,Y,q3,L⟩:=id d
 have r:=ar b
 have g:m.rows.getD i []=m.rows[i]:=by rw [BO,r];rfl
 have F:=ok.band i b
 rw [g] at F
 have R:=L.len m.rows[i] (aag b)
 have I:=jr (m:=m) (i:=i) (by lia)
 refine ⟨_,rfl,p,_,rfl,q,rfl,_,_,rfl,_,_,rfl,_,_,rfl,_,_,rfl,_,_,rfl,rfl,?_⟩
 refine ⟨_,rfl,_,rfl,_,_,_,_,rfl,rfl,.inr A,ue (by rw [ok.lb];exact b),_,_,rfl,rfl,_,rfl,qa (by lia) ?_⟩
 refine ⟨_,rfl,a,D,_,rfl,e,rfl,_,rfl,a,f,m,i,_,rfl,d,r,λ J x u t=>⟨J,x,rfl,.inl (bi.of ag),λ y N=>⟨_,_,rfl,rfl,λ z O=>⟨_,_,rfl,rfl,_,rfl,fz ?_ ?_⟩⟩⟩⟩
 . have:=t.length
   rw [OS] at this
   lia
 have s:=al (o:=.lst x) u
 refine ⟨_,rfl,a,D,_,rfl,s _ _ e,rfl,_,rfl,a,f,m,i,_,rfl,d.same s,I,λ v l=>?_⟩
 refine ⟨_,rfl,_,rfl,M.c6,i,rfl,?_⟩
 refine ⟨_,rfl,_,rfl,_,_,_,_,rfl,rfl,.inr (s.tup C),ue (by rw [ok.lw];exact b),?_⟩
 refine ⟨_,rfl,_,rfl,_,_,_,_,rfl,rfl,.inr (s.tup B),ue (by rw [ok.lf];exact b),?_⟩
 exact ⟨v,m.vG i,_,_,_,rfl,l,ok.jn i b,λ j S=>k j (s.trans S)⟩
def yV (T:Txt K mg Ad):Def P w K mg base "is_state" 6 ["hold","state"] (zv K Ad.aX):=by
 refine T.BX.cL fD λ Z Z Z Z Z H W Q E l h=>?_
 obtain ⟨a,F,m,p,d,rfl,j,q,ok,k⟩:=h
 refine ⟨_,(ac (i8 (pv 1) (eK (K:=K) (n:=5) rfl rfl (aY (jq (i:=2) fD.nd) (aY (jq (i:=3) fD.nd) (aY (jq (i:=4) fD.nd) (aY (jq (i:=5) fD.nd) (aY (jq (i:=6) fD.nd) eQ)))))))
     (ac (cM (i:=7) fD.nd (cS (pv 0) T.aG (cq T) .nil l.m))
     (ac (bB (PW.pt (rq (aM lI (br bO (by rfl) T.fX dL (aa (pv 2) af)) (pv 7) (aR _)) (rq (aM lI (br bO (by rfl) T.fX dL (aa (pv 4) af)) (pv 7) (aR _)) (nH (aM lI (br bO (by rfl) T.fX dL (aa (pv 5) af)) (pv 7) (aR _)))))) (am (aI iC)) aK)
     (ac (bB (PW.pt (rq (aM lI (aw xQ (pv 3) (pv 7)) ah (aR _)) (nH (aM Ao (ak (qU T) l.m (aa (pv 3) af)) (bj (pv 0) rfl) (aR _))))) (am (aI iC)) aK)
     (ac (bB (fF (jI iu iu ah (pv 6) (bj (pv 0) rfl))) (am (aI iC)) aK)
     (am (aI (br (qA rfl) (by rfl) T.Ig Bw (aa (jk ["room"] ["hold","state"] [0,1] (.cons ⟨rfl,rfl,.inl rfl⟩ (.cons ⟨rfl,rfl,.inl rfl⟩ .nil)) rfl (bN rfl T.cK (aa (pv 7) af)) (λ Z Z Z Z Z=>(pE (i:=0))) (λ Z Z Z Z Z=>eM) (λ Z Z Z Z Z=>(ak (wU T) l.m (aa (pv 1) (aa (pv 2) (aa (pv 0) af)))))) af))))))))),?_⟩
 try dsimp only [eD,aP]
 try (refine nZ ?_;intro Z Z Z Z Z Z Z)
 obtain ⟨N,R,O,u,B,J,C⟩:=id q
 obtain ⟨⟨f,pm,JL,Y,Lf,vm,W,vt,aE,Z,g,Z⟩,q1,q2,q3,q4⟩:=id j
 have z:d.c6<2 ^ 61:=aav ok.c6 (aba (by decide) (by lia))
 refine ⟨_,rfl,p,_,rfl,u,rfl,_,_,rfl,_,_,rfl,_,_,rfl,_,_,rfl,_,_,rfl,rfl,?_⟩
 refine ⟨_,rfl,a,f,_,rfl,g,rfl,a,F,m,rfl,j,?_⟩
 refine ⟨_,rfl,N,_,rfl,.inr B,λ y e=>⟨_,rfl,rfl,_,rfl,fz (by rw [e,OS,ok.lb];rfl) ?_⟩⟩
 refine ⟨_,rfl,R,_,rfl,.inr J,λ y e=>⟨_,rfl,rfl,_,rfl,fz (by rw [e,OS,ok.lw];rfl) ?_⟩⟩
 refine ⟨_,rfl,O,_,rfl,.inr C,λ y e=>⟨_,rfl,rfl,_,rfl,fz (by rw [e,OS,ok.lf];rfl) ?_⟩⟩
 refine ⟨_,rfl,_,rfl,_,_,rfl,rfl,abi _,λ s G=>⟨rfl,_,rfl,fz ?_ ?_⟩⟩
 . rw [G,aaX]
   have:((d.c6:Nat):Int) / 2 ^ m.rows.length=0:=Int.ediv_eq_zero_of_lt (abi _) (by exact_mod_cast ok.c6)
   rw [this]
 refine ⟨_,rfl,d.c6,rfl,z,λ t S=>⟨_,rfl,a,_,f,_,_,rfl,S _ _ g,T.aG,T.iG,uQ ..,_,_,rfl,rfl,_,rfl,nW (by have:=ok.most;lia) ?_⟩⟩
 refine ⟨_,rfl,_,_,rfl,rfl,_,rfl,qa (by lia) ⟨_,rfl,a,_,f,_,_,rfl,S _ _ g,T.aG,T.jo,xR ..,_,_,rfl,rfl,_,rfl,fz ok.heap ?_⟩⟩
 refine ⟨_,rfl,_,rfl,by lia,by lia,λ D o=>?_⟩
 refine eP (lo:=0) (n:=m.rows.length) (λ i A U b=>A4 (aD t b) (b D=some (.lst A)) (A=(List.replicate i true).map V.bl) (∃ v,U=[v,some (.ref a),some (.ref p)])) ⟨al o,ag,rfl,none,rfl⟩ ?_ ?_
 . rintro i A U b L ⟨c,I,rfl,v,rfl⟩
   refine ⟨_,rfl,_,rfl,_,rfl,a,F,m,p,d,i,(by rw [aap];rfl),j.same (S.trans c),q.same (S.trans c),ok,L,λ X r=>⟨r _ _ I,aO (by rw [OS,abF];lia),(c.trans r).put o,ag,?_,_,rfl⟩⟩
   rw [List.replicate_succ',aab];rfl
 .
  rintro A U b ⟨c,I,rfl,v,rfl⟩
  refine ⟨D,_,rfl,bi.of I,?_⟩
  have:(List.replicate m.rows.length true).all id=true:=by
    rw [abE]
    intro x M
    exact (List.mem_replicate.mp M).2
  rw [this]
  exact k b (S.trans c)
def dZ (T:Txt K mg Ad):Def P w K mg base "look_at_state" 7 ["hold","state"] (vh K Ad.aX):=by
 refine T.rT.cL pK λ Z Z Z Z Z H v Q E d h=>?_
 obtain ⟨a,f,m,p,S,rfl,c,e,ok,k⟩:=h
 refine ⟨_,(am (bB (fF (cw (ak (yV T) d.m (aa (pv 0) (aa (pv 1) af))))) (am cN) aK)),?_⟩
 try dsimp only [eD,aP]
 exact ⟨_,rfl,_,rfl,a,f,m,p,S,rfl,c,e,ok,λ b s=>⟨_,rfl,gm (k b s)⟩⟩
def mI (T:Txt K mg Ad):Def P w K mg base "with_stove" 5 ["hold"] (uZ K Ad.aX):=by
 refine T.xb.cL vj λ Z Z Z Z Z H V Q E c h=>?_
 obtain ⟨a,F,m,rfl,g,k⟩:=h
 refine ⟨_,(am (aI (ak (nJ T) c.m (aa (jk ["room"] ["hold"] [0] (.cons ⟨rfl,rfl,.inl rfl⟩ .nil) rfl (bN rfl T.cK (aa (cS (pv 0) T.aG (cq T) .nil c.m) af)) (λ Z Z Z Z Z=>(pE (i:=0))) (λ Z Z Z Z Z=>(ki (aM mq (aW (pv 1) T.aG (ek T) .nil c.m (aa (pv 0) af)) dg (aR _)))) (λ Z Z Z Z Z=>(pv 0))) af)))),?_⟩
 try dsimp only [eD,aP]
 obtain ⟨⟨l,G,x,J,y,S,V,W,B,Z,t,Z⟩,M,N,O,R⟩:=id g
 refine ⟨_,rfl,a,l,_,rfl,t,rfl,a,F,m,rfl,g,_,rfl,by lia,by lia,λ D p=>?_⟩
 refine eP (lo:=0) (n:=m.rows.length) (λ i A U b=>A4 (aD H b) (b D=some (.lst A)) (A=((List.range i).filter m.has).map aq) (∃ v,U=[v,some (.ref a)])) ⟨al p,ag,rfl,none,rfl⟩ ?_ ?_
 .
  rintro i A U b C ⟨s,f,rfl,v,rfl⟩
  have u:=jr (m:=m) (i:=i) (by lia)
  have o:((List.range (i+1)).filter m.has).map aq=((List.range i).filter m.has).map aq++(if m.has i=true then [aq i] else []):=by
    rw [aaU,abh,aab]
    by_cases q:m.has i=true<;>simp [q]
  have L:=aa4 m.has (List.range i)
  rw [aaw] at L
  refine ⟨_,rfl,a,l,_,rfl,s _ _ t,rfl,_,rfl,a,F,m,i,_,(by rw [aap];rfl),g.same s,u,λ v d=>⟨rfl,_,rfl,?_⟩⟩
  cases e:m.vG i with
  | none =>
    rw [e] at d
    have d:v = .cn:=d
    have j:m.has i=false:=by unfold ap.has;rw [e];rfl
    refine fz d ⟨s,f,?_,_,rfl⟩
    rw [o,j];simp
  | some z =>
    rw [e] at d
    obtain ⟨I,Z,rfl,Z⟩:=d.jn
    have j:m.has i=true:=by unfold ap.has;rw [e];rfl
    refine G2 nofun ⟨_,rfl,f,aO (by rw [OS];lia),s.put p,ag,?_,_,rfl⟩
    rw [o,j,aap];rfl
 . rintro A U b ⟨s,f,rfl,v,rfl⟩
   exact ⟨D,(List.range m.rows.length).filter m.has,rfl,bi.of f,λ r c=>by have:=aaH.mp (aaW.mp c).1;lia,k b s⟩
def tE (T:Txt K mg Ad):Def P w K mg base "wood_of" 6 ["hold","bits"] (Bm K Ad.aX):=by
 refine T.FR.cL Ch λ Z Z Z Z Z H Y Q E l h=>?_
 obtain ⟨a,F,m,b,rfl,g,k⟩:=h
 refine ⟨_,(am (aI (br (Fa rfl) (by rfl) T.TL M0 (aa (jk ["room"] ["hold"] [0] (.cons ⟨rfl,rfl,.inl rfl⟩ .nil) rfl (dP (ak (kI T) l.m (aa (aw gY (pv 1) (ak (mI T) l.m (aa (pv 0) af))) af))) (λ Z Z Z Z Z=>(pE (i:=0))) (λ Z Z Z Z Z=>eM) (λ Z Z Z Z Z=>(aF (f7 (K:=K) rfl) (aW (pv 1) T.aG (ek T) .nil l.m (aa (pv 0) af)) ah))) af)))),?_⟩
 try dsimp only [eD,aP]
 obtain ⟨⟨C,pm,JL,JI,Lf,vm,Y,vt,aE,Z,J,Z⟩,q1,q2,R,q4⟩:=id g
 refine ⟨_,rfl,_,rfl,a,F,m,rfl,g,λ H1 W=>⟨_,_,rfl,rfl,λ y G=>⟨b &&& m.ws,(by rw [G,nE];rfl),?_,λ p B jE X n=>⟨p,rfl,⟨_,bi.of n⟩,λ D f=>?_⟩⟩⟩⟩
 . exact aaO acg (acq (Dy R) (by decide))
 have S:=W.trans X
 have lr:=vO (b &&& m.ws)
 have nD:p≠D:=ax n f
 refine gK (K:=K) (a:=p) (xs:=(Bit.rooms (b &&& m.ws)).map aq) (λ j A U c=>A4 (aD B c) (c D=some (.lst A)) (A=(((Bit.rooms (b &&& m.ws)).take j).map m.wd).map V.int) (∃ v,U=[v,some (.ref a)]))
   ⟨al f,ag,rfl,none,rfl⟩ (λ j A U c Z e=>bi.of (e.1 _ _ n)) ?_ ?_
 .
  rintro j x A U c M ⟨s,I,rfl,v,rfl⟩
  obtain ⟨r,d,rfl⟩:=d9 M
  have t:=(Bit.fK.mp (aaz d)).2
  rw [aa5,ap.ws,Ord.iI,aaq,aaq,aaS] at t
  obtain ⟨Z,Og,L⟩:=t
  obtain ⟨z,q⟩:=abX.mp L
  have N:=jr (m:=m) (i:=r) (by lia)
  have hj:j<(Bit.rooms (b &&& m.ws)).length:=(RJ.mp d).1
  refine ⟨_,rfl,a,C,_,rfl,(S.trans s) _ _ J,rfl,_,rfl,a,F,m,r,_,rfl,g.same (S.trans s),N,λ u o=>?_⟩
  rw [q] at o
  obtain ⟨O,v1,rfl,yJ,Z⟩:=o.jn
  refine ⟨O,_,_,_,rfl,rfl,.inr yJ,rfl,I,aO (by rw [OS,OS,aax];lia),s.put f,ag,?_,_,rfl⟩
  rw [di d,aab,aab]
  have:m.wd r=z.2.1:=by unfold ap.wd;rw [q];rfl
  show _=_++[V.int (m.wd r)]
  rw [this]
 .
  rintro A U c ⟨s,I,rfl,v,rfl⟩
  rw [OS,aa1] at I
  refine ⟨D,_,rfl,bi.of I,λ r d=>?_⟩
  rw [d]
  exact k c (S.trans s)
def wZ (T:Txt K mg Ad):Def P w K mg base "must_stay" 3 ["state"] (yh K):=by
 refine T.AC.cL yk λ Z Z Z Z Z H R Q E f h=>?_
 obtain ⟨p,s,rfl,z,J,k⟩:=h
 refine ⟨_,(am (aI (ak (nJ T) f.m (aa (jk ["room","wait"] [] [] .nil rfl (MF rfl T.gf (aa (aF ay (pv 0) ah) af)) (λ Z Z Z Z Z=>(eK (K:=K) (n:=2) rfl rfl (aY (pE (i:=0)) (aY (pE (i:=1)) eQ)))) (λ Z Z Z Z Z=>(ki (aM Ao (pv 1) ah (aR _)))) (λ Z Z Z Z Z=>(pv 0))) af)))),?_⟩
 try dsimp only [eD,aP]
 obtain ⟨M,u,O,y,C,q,F⟩:=id z
 refine ⟨_,rfl,p,_,_,_,rfl,rfl,.inr y,rfl,u,rfl,⟨_,q⟩,λ D t=>?_⟩
 refine kc (sq:=bR K) (a:=u) (xs:=s.i6.map aq) (λ i A U b=>A4 (aD H b) (b D=some (.lst A)) (A=((List.range i).filter s.wt).map aq) (E2 λ v V=>U=[v,V]))
   ⟨al t,ag,rfl,none,none,rfl⟩ (λ i A U b Z e=>e.1.tup q) ?_ ?_
 .
  rintro i x j A U b B X ⟨S,d,rfl,v,V,rfl⟩
  obtain ⟨W,c,rfl⟩:=d9 B
  have G:i<s.i6.length:=(RJ.mp c).1
  have o:gN s.i6 i=W:=by unfold gN;rw [c];rfl
  have l:aD b (upd b j (.tup [aq i,aq W])):=al X
  have N:D≠j:=ax d X
  have I:=l _ _ d
  have L:=aa4 s.wt (List.range i)
  rw [aaw] at L
  refine ⟨j,_,rfl,bR.of ag,rfl,_,_,rfl,_,_,rfl,rfl,?_⟩
  refine ⟨_,rfl,_,_,rfl,rfl,_,rfl,iH (λ h=>?_) (λ h=>?_)⟩
  . have g:s.wt i=true:=by unfold dD.wt;rw [o];exact aaE (by lia)
    refine ⟨_,rfl,I,aO (by rw [OS];lia),(S.trans l).put t,ag,?_,_,_,rfl⟩
    rw [aaU,abh,aab]
    simp [g]
  . have g:s.wt i=false:=by unfold dD.wt;rw [o];exact aal (by lia)
    refine ⟨S.trans l,I,?_,_,_,rfl⟩
    rw [aaU,abh,aab]
    simp [g]
 . rintro A U b ⟨S,d,rfl,v,V,rfl⟩
   rw [OS] at d
   exact ⟨D,(List.range s.i6.length).filter s.wt,rfl,bi.of d,λ r f=>by have:=aaH.mp (aaW.mp f).1;lia,k b S⟩
def zB (T:Txt K mg Ad):Def P w K mg base "can_burn" 7 ["hold","order","heap"] (zP K Ad.aX):=by
 refine T.BY.cL zj λ Z Z Z Z Z H v Q E d h=>?_
 obtain ⟨a,F,m,o,b,rfl,c,j,k⟩:=h
 refine ⟨_,(am (aI (tp (gB iu (ak (qU T) d.m (aa (pv 1) af)) (bj (pv 0) rfl) (aR _)) (ug (gB iu (ak (tE T) d.m (aa (pv 0) (aa (pv 1) af))) (pv 2) (aR _)))))),?_⟩
 try dsimp only [eD,aP]
 obtain ⟨⟨D,p,l,J,L,V,v,u,A,Z,i,Z⟩,q,n,r,t⟩:=id c
 refine ⟨_,rfl,o,rfl,j,λ f s=>⟨_,rfl,a,_,D,_,_,rfl,s _ _ i,T.aG,T.iG,uQ ..,_,_,rfl,rfl,_,rfl,iH (λ h=>?_) (λ h=>?_)⟩⟩
 .
  refine ⟨_,rfl,_,rfl,a,F,m,o,rfl,c.same s,λ g S=>⟨_,rfl,_,_,rfl,rfl,?_⟩⟩
  have e:m.Ja o b=decide (m.oE o<=b):=by unfold ap.Ja;rw [aaE h,Bool.true_and]
  have:=k g (s.trans S)
  rw [e] at this
  exact this
 .
  have e:m.Ja o b=false:=by unfold ap.Ja;rw [aal h,acV]
  have:=k f s
  rw [e] at this
  exact this
def oM (T:Txt K mg Ad):Def P w K mg base "orders_of" 8 ["hold","state"] (xV K Ad.aX):=by
 refine T.yL.cL kz λ Z Z Z Z Z H vs Q E c h=>?_
 obtain ⟨a,F,m,p,s,rfl,n,C,ok,k⟩:=h
 refine ⟨_,(ac (bf (ak (dZ T) c.m (aa (pv 0) (aa (pv 1) af))))
     (ac (cM (i:=2) kz.nd (ak (wZ T) c.m (aa (pv 1) af)))
     (ac (cM (i:=3) kz.nd (aw gY (aF ay (pv 1) ah) (pv 2)))
     (am (aI (jk ["order"] ["going_on","hold","held","state"] [3,0,2,1] (.cons ⟨rfl,rfl,.inl rfl⟩ (.cons ⟨rfl,rfl,.inl rfl⟩ (.cons ⟨rfl,rfl,.inl rfl⟩ (.cons ⟨rfl,rfl,.inl rfl⟩ .nil)))) rfl (dP (ak (ui T) c.m (aa (ak (mI T) c.m (aa (pv 0) af)) af))) (λ Z Z Z Z Z=>(pE (i:=0))) (λ Z Z Z Z Z=>(ki (PW.pt (tQ (aM jm (aw gY (pv 0) (pv 3)) (pv 1) (aR _)) (oG (cw (ak (zB T) c.m (aa (pv 2) (aa (pv 0) (aa (aF (f7 (K:=K) rfl) (pv 4) ah) af)))))))))) (λ Z Z Z Z Z=>(pv 0)))))))),?_⟩
 try dsimp only [eD,aP]
 try (refine eU ?_;intro Z Z Z Z Z)
 obtain ⟨pb,pw,pf,J,eb,ew,ef⟩:=id C
 obtain ⟨⟨dx,pm,JL,JI,Lf,vm,vs,vt,aE,Z,ha,Z⟩,q1,q2,O,q4⟩:=id n
 refine ⟨_,rfl,_,rfl,a,F,m,p,s,rfl,n,C,ok,λ H1 R=>?_⟩
 refine ⟨_,rfl,p,s,rfl,C.same R,by rw [ok.lw];exact O,λ H2 s2=>?_⟩
 have t:=R.trans s2
 refine ⟨_,rfl,p,_,_,_,rfl,rfl,.inr (t.tup J),rfl,_,rfl,_,_,rfl,rfl,λ go u=>?_⟩
 obtain rfl:go=((s.c6 &&& s.held:Nat):Int):=by rw [u,nE]
 have N:=Dy O
 have W:(Bit.rooms m.ws).length<=8:=by
   rw [ap.ws,Ord.Eg _ (by lia)]
   have:=aa4 m.has (List.range m.rows.length)
   rw [aaw] at this
   lia
 refine ⟨_,rfl,a,F,m,rfl,n.same t,λ H3 s3=>⟨m.ws,rfl,acq N (by decide),W,λ M V jE sm G=>⟨M,rfl,⟨_,bi.of G⟩,λ D B=>?_⟩⟩⟩
 have g:=(t.trans s3).trans sm
 have lp:(Bit.parts (Bit.rooms m.ws)).length<=16:=by
   rw [Ord.w6 _ N]
   exact aaT (aa4 _ _) (by rw [aaw];decide)
 have I:∀ o∈Bit.parts (Bit.rooms m.ws),o<16:=λ o h=>by
   rw [Ord.w6 _ N] at h
   exact aaH.mp (aaW.mp h).1
 generalize Y:Bit.parts (Bit.rooms m.ws)=f at lp I G
 refine gK (K:=K) (a:=M) (xs:=f.map aq) (λ j A U b=>A4 (aD V b) (b D=some (.lst A)) (A=((f.take j).filter (s.F0 m)).map aq) (∃ v,U=[v,some (aq (s.c6 &&& s.held)),some (.ref a),some (aq s.held),some (.ref p)]))
   ⟨al B,ag,rfl,none,rfl⟩ (λ j A U b Z e=>bi.of (e.1 _ _ G)) ?_ ?_
 .
  rintro j x A U b hx ⟨S,d,rfl,v,rfl⟩
  obtain ⟨o,L,rfl⟩:=d9 hx
  have ho:=I o (aaz L)
  have la:=aa4 (s.F0 m) (f.take j)
  rw [aax] at la
  refine ⟨_,rfl,_,rfl,_,_,rfl,rfl,λ y X=>⟨_,rfl,rfl,_,rfl,?_⟩⟩
  obtain rfl:y=((o &&& s.held:Nat):Int):=by rw [X,nE]
  have z:((f.take (j+1)).filter (s.F0 m)).map aq=((f.take j).filter (s.F0 m)).map aq++(if s.F0 m o=true then [aq o] else []):=by
    rw [di L,abh,aab]
    cases q:s.F0 m o<;>simp [q]
  refine iH (λ h=>?_) (λ h=>?_)
  .
   have h:o &&& s.held=s.c6 &&& s.held:=by have:=fL.mp h;lia
   have l:s.F0 m o=m.Ja o s.heap:=by unfold dD.F0;rw [aaE h,Bool.true_and]
   refine ⟨_,rfl,_,rfl,_,rfl,p,_,_,_,rfl,rfl,.inr ((g.trans S).tup J),rfl,a,F,m,o,_,rfl,n.same (g.trans S),acq ho (by decide),λ H5 r=>⟨_,rfl,?_⟩⟩
   cases q:m.Ja o s.heap with
   | true =>
     refine jh ⟨_,rfl,r _ _ d,aO (by rw [OS];lia),(S.trans r).put B,ag,?_,_,rfl⟩
     rw [z,l,q];rfl
   | false =>
     refine gm ⟨S.trans r,r _ _ d,?_,_,rfl⟩
     rw [z,l,q];simp
  . have h:¬ (o &&& s.held=s.c6 &&& s.held):=λ e=>h (by rw [e];rfl)
    have l:s.F0 m o=false:=by unfold dD.F0;rw [aal h,acV]
    refine gm ⟨S,d,?_,_,rfl⟩
    rw [z,l];simp
 .
  rintro A U b ⟨S,d,rfl,v,rfl⟩
  rw [OS,aa1] at d
  refine k D b (g.free B) (g.trans S) ?_
  rw [d,<- Y]
  rfl
inductive Qj (vs:aA) (H:Hp) (Q:VK) (_E:XK):Prop|mk (n r:Nat) (_:vs=[aq n,aq r]) (_:Q (.bl (n.testBit r)) H)
def Fn (T:Txt K mg Ad):Def P w K mg base "_law_in" 1 ["_law_bits","_law_room"] Qj:=by
 refine T.Gc.cL Fj λ Z Z Z Z Z H v Q E b h=>?_
 obtain ⟨n,r,rfl,k⟩:=h
 refine ⟨_,(am (aI (gB jm (aw fm (aw xQ (pv 0) (pv 1)) ah) ah (aR _)))),?_⟩
 try dsimp only [eD,aP]
 refine ⟨_,rfl,_,rfl,_,_,rfl,rfl,abi _,λ s a=>⟨_,_,rfl,rfl,by decide,λ m Z Z e=>⟨rfl,?_⟩⟩⟩
 rw [Dz n r a e]
 exact k
def rP (T:Txt K mg Ad):Def P w K mg base "_law_state_by" 2 ["_law_told","_law_cell","_law_k"] (yZ K):=by
 refine T.tf.cL bv λ Z Z Z Z Z H vs Q E j h=>?_
 obtain ⟨p,t,n,c,kk,rfl,hT,ok,n4,hk,k⟩:=h
 refine ⟨_,(ac (cM (i:=3) bv.nd (cH af))
     (ac (cM (i:=4) bv.nd (cH af))
     (ac (cM (i:=5) bv.nd (cH af))
     (ac (cM (i:=6) bv.nd ah)
     (ac (cM (i:=7) bv.nd ah)
     (ac (dh aaN rfl (bN rfl T.cK (aa (br bO (by rfl) T.fX dL (aa (bS (cT j) (pv 0) bQ (λ Z Z=>rfl)) af)) af)) (jq (i:=8) bv.nd) (ac (cM (i:=9) bv.nd (aF ay (bS (cT j) (pv 0) bQ (λ Z Z=>rfl)) (pv 8)))
     (ac (cM (i:=10) bv.nd ah)
     (ac (cM (i:=11) bv.nd ah)
     (ac (lH (bB (aM mq (pv 9) dg (aR _)) (ac (cM (i:=10) bv.nd (ak (aQ T) j.m (aa (pv 1) (aa (aw aJ (aw aJ (pv 2) ah) (pv 8)) (aa (aw aJ (aF ay (pv 9) ah) ah) af)))))
     (am (bB (PW.pt (tQ (aM jm (ak (aQ T) j.m (aa (pv 1) (aa (aw aJ (aw aJ (pv 2) ah) (pv 8)) (aa ah af)))) ah (aR _)) (oG (aM oC (pv 7) (aF ay (bS (cT j) (pv 0) bQ (λ Z Z=>rfl)) ah) (aR _))))) (ac (cM (i:=6) bv.nd (aw aJ (pv 6) (aF ay (cH (aa ah (aa ah (aa ah (aa ah af))))) (pv 8))))
     (am (cM (i:=7) bv.nd (aw aJ (pv 7) ah)))) (am (bB (aM jm (pv 10) ah (aR _)) (am (cM (i:=11) bv.nd (ak (aQ T) j.m (aa (pv 1) (aa (aw aJ (aw aJ (pv 2) ah) (pv 8)) (aa (aw aJ (aF ay (pv 9) ah) ah) af)))))) aK))))) aK))
     (ac (bf (iw aaC aaJ aaI cI (pv 3) (aa (ak (aQ T) j.m (aa (pv 1) (aa (aw aJ (pv 2) (pv 8)) (aa (aw de (br bO (by rfl) T.fX dL (aa (aF ay (bS (cT j) (pv 0) bQ (λ Z Z=>rfl)) (pv 8)) af)) ah) af)))) af)))
     (ac (bf (iw aaC aaJ aaI cI (pv 4) (aa (pv 10) af)))
     (am (bf (iw aaC aaJ aaI cI (pv 5) (aa (pv 11) af)))))))))))
     (am (aI (cQ (aa (cG cZ (by rfl) T.ji hU (aa (pv 3) af)) (aa (pv 6) (aa (cG cZ (by rfl) T.ji hU (aa (pv 4) af)) (aa (cG cZ (by rfl) T.ji hU (aa (pv 5) af)) (aa (ak (aQ T) j.m (aa (pv 1) (aa (aw aJ (pv 2) ah) (aa (aw aJ (aF ay (bS (cT j) (pv 0) bQ (λ Z Z=>rfl)) ah) ah) af)))) af)))))))))))))),?_⟩
 try dsimp only [eD,aP]
 try (refine Gs ?_;intro Z Z Z Z Z Z Z Z)
 obtain ⟨pm,ps,pt,pf,fW,pb,vm,vs,vt,aE,X⟩:=id hT
 have IW:vm.length=n:=by rw [X.dm.length,OS,ok.lm]
 have aj:bR K H pb [.int t.bounds.1,.int t.bounds.2.1,.int t.bounds.2.2]:=dC.tup X.bo
 refine ⟨IK,λ L Z2=>⟨IK,λ l So=>⟨IK,λ a UU=>?_⟩⟩⟩
 have sb:=al (o:=.lst []) Z2
 have sw:=al (o:=.lst []) So
 have sf:=al (o:=.lst []) UU
 have S0:=sb.trans (sw.trans sf)
 have M:=X.same S0
 have aG:L≠l:=ax ag So
 have an:L≠a:=ax (sw _ _ ag) UU
 have aX:l≠a:=ax ag UU
 have VY:H l=none:=sb.free So
 have a2:H a=none:=sb.free (sw.free UU)
 refine ⟨_,rfl,p,_,rfl,db M.hp,pm,vm,rfl,.inl (bi.of M.eZ),λ r er=>?_⟩
 obtain rfl:r=(n:Int):=by rw [er,IW]
 refine ⟨_,rfl,by lia,by lia,?_⟩
 refine gk (lo:=0) (n:=n) (λ i U A=>aD H A/\E3 λ (B W F:bg)=>∃ (b:Nat),A5 (A L=some (.lst (B.map aq))) (A l=some (.lst (W.map aq))) (A a=some (.lst (F.map aq))) (Part t n i B W F b) (E4 λ (v8 v9 O R:fR)=>U=[some (.ref p),some (.int c),some (aq kk),some (.ref L),some (.ref l),some (.ref a),some (aq b),some (aq (Bit.rooms b).length),v8,v9,O,R]))
   ⟨S0,[],[],[],0,sf _ _ (sw _ _ ag),sf _ _ ag,ag,Part.zero ok,none,none,none,none,rfl⟩ ?_ ?_
 .
  rintro Z Z Z i U H1 hi ⟨S,B,W,F,b,G,J,I,D,v8,v9,O,R,rfl⟩
  have M:=X.same S
  have sC:i<t.aH.length:=by rw [ok.lt];exact hi
  have xp:i<t.marks.length:=by rw [ok.lm];exact hi
  have C:=C7 ok hi
  rw [ar sC] at C
  obtain ⟨vq,PZ,dq⟩:=M.dt.get (i:=i) (d:=stI t.aH[i]) (by rw [T1,ar sC];rfl)
  refine ⟨_,rfl,p,_,rfl,jj M.hp,_,rfl,pt,vt,_,_,rfl,rfl,.inl (bi.of M.eY),by rw [aap];exact bK PZ,?_⟩
  refine ⟨λ a0 A=>A5 (aD H A) (A L=some (.lst (B.map aq))) (A l=some (.lst (W.map aq))) (A a=some (.lst (F.map aq))) (E3 λ (e:Bool) (u f':Nat)=>A3 (tP ((t.m2 n n).vG i) e u f') (e=true->((Bit.rooms b).length:Int)<t.bounds.1) (a0=[some (.ref p),some (.int c),some (aq kk),some (.ref L),some (.ref l),some (.ref a),some (aq (if e then b+2 ^ i else b)),some (aq ((Bit.rooms b).length+if e then 1 else 0)),some (.int (0+(i:Int))),some vq,some (aq u),some (aq f')])),?_,?_⟩
  .
   refine ⟨_,rfl,rfl,_,rfl,?_⟩
   cases Ip:t.aH[i] with
   | none =>
     rw [Ip] at dq C
     have dq:vq = .cn:=dq
     subst dq
     exact fz rfl ⟨S,G,J,I,false,0,0,by rw [C];exact ⟨rfl,rfl,rfl⟩,nofun,rfl⟩
   | some z =>
     rw [Ip] at dq C
     obtain ⟨pq,wq,rfl,N2,t1,r1,rfl,e1,t2,r2,rfl,e2,t3,r3,rfl,e3,t4,r4,rfl,e4,e5⟩:=dq
     have e5:r4=[]:=e5
     have e1:t1 = .int z.1:=e1
     have e2:t2 = .int z.2.1:=e2
     have e3:t3 = .int z.2.2.1:=e3
     have e4:t4 = .int z.2.2.2:=e4
     subst e1 e2 e3 e4 e5
     have L0:bR K H1 pq [.int z.1,.int z.2.1,.int z.2.2.1,.int z.2.2.2]:=dC.tup N2
     have Jm:=ok.aH z (by rw [<- Ip];exact aag sC)
     have A9:=Jm.s
     have Hf:=Jm.f
     refine G2 nofun ⟨_,rfl,_,rfl,_,_,rfl,rfl,λ x1 g1=>⟨_,rfl,_,_,rfl,rfl,λ x2 g2=>⟨_,rfl,pq,_,_,_,rfl,rfl,.inr L0,rfl,_,_,rfl,rfl,λ x3 g3=>⟨_,x2,x3,rfl,by lia,by lia,by lia,λ w0 bk bm=>?_⟩⟩⟩⟩
     obtain ⟨g,rfl⟩:∃ g:Nat,w0=(g:Int):=⟨w0.toNat,by lia⟩
     refine ⟨_,rfl,_,rfl,_,_,rfl,rfl,λ x4 g4=>⟨_,rfl,_,_,rfl,rfl,λ x5 g5=>⟨_,x5,2,rfl,by lia,by lia,by decide,λ r0 bd be=>⟨rfl,_,rfl,?_⟩⟩⟩⟩
     have II:(g:Int)<=(t.ju z).2.2.1:=by show (g:Int)<=z.2.2.1;lia
     refine iH (λ h1=>?_) (λ h1=>gm ?_)
     .
      refine ⟨_,rfl,_,rfl,p,_,rfl,mh M.hp,pb,_,_,_,rfl,rfl,.inr (S.tup aj),rfl,_,_,rfl,rfl,_,rfl,iH (λ h2=>?_) (λ h2=>?_)⟩
      .
       refine ⟨_,rfl,O3,λ q hq=>?_⟩
       have sq:=al (o:=.lst [V.int 1,V.int 2,V.int 4,V.int 8]) hq
       have bc:uw [V.int 1,V.int 2,V.int 4,V.int 8] (0+(i:Int))=some (.int ((2 ^ i:Nat):Int)):=by
         have:i=0\/i=1\/i=2\/i=3:=by lia
         rcases this with rfl|rfl|rfl|rfl<;>rfl
       refine ⟨_,rfl,q,_,_,_,rfl,rfl,.inl (bi.of ag),bc,_,_,rfl,rfl,λ y1 f1=>⟨_,rfl,_,_,rfl,rfl,λ y2 f2=>?_⟩⟩
       obtain rfl:y1=((b+2 ^ i:Nat):Int):=by rw [f1];push_cast;rfl
       obtain rfl:y2=(((Bit.rooms b).length+1:Nat):Int):=by rw [f2];push_cast;rfl
       exact ⟨S.trans sq,sq _ _ G,sq _ _ J,sq _ _ I,true,g,0,by rw [C];exact ⟨II,Hf.1,.inl rfl⟩,λ Z=>h2,rfl⟩
      . refine ⟨_,rfl,rfl,_,rfl,iH (λ hw=>⟨_,rfl,_,rfl,_,_,rfl,rfl,λ x6 g6=>⟨_,rfl,_,_,rfl,rfl,λ x7 g7=>⟨_,rfl,pq,_,_,_,rfl,rfl,.inr L0,rfl,_,_,rfl,rfl,λ x8 g8=>⟨_,x7,x8,rfl,by lia,by lia,by lia,λ fv f0 f1=>?_⟩⟩⟩⟩) (λ hw=>⟨S,G,J,I,false,g,0,by rw [C];exact ⟨II,Hf.1,.inl rfl⟩,nofun,rfl⟩)⟩
        obtain ⟨fn,rfl⟩:∃ fn:Nat,fv=(fn:Int):=⟨fv.toNat,by lia⟩
        have NL:g=0:=by have:=fL.mp hw;lia
        exact ⟨S,G,J,I,false,g,fn,by rw [C];exact ⟨II,(by show (fn:Int)<=z.2.2.2;lia),.inr ⟨rfl,NL⟩⟩,nofun,rfl⟩
     . refine ⟨_,rfl,rfl,_,rfl,iH (λ hw=>⟨_,rfl,_,rfl,_,_,rfl,rfl,λ x6 g6=>⟨_,rfl,_,_,rfl,rfl,λ x7 g7=>⟨_,rfl,pq,_,_,_,rfl,rfl,.inr L0,rfl,_,_,rfl,rfl,λ x8 g8=>⟨_,x7,x8,rfl,by lia,by lia,by lia,λ fv f0 f1=>?_⟩⟩⟩⟩) (λ hw=>⟨S,G,J,I,false,g,0,by rw [C];exact ⟨II,Hf.1,.inl rfl⟩,nofun,rfl⟩)⟩
       obtain ⟨fn,rfl⟩:∃ fn:Nat,fv=(fn:Int):=⟨fv.toNat,by lia⟩
       have NL:g=0:=by have:=fL.mp hw;lia
       exact ⟨S,G,J,I,false,g,fn,by rw [C];exact ⟨II,(by show (fn:Int)<=z.2.2.2;lia),.inr ⟨rfl,NL⟩⟩,nofun,rfl⟩
  .
   rintro a0 Y ⟨S2,ab,a3,Xd,e,u,f',a4,a8,rfl⟩
   have C2:=X.same S2
   have uI:=ok.rows t.marks[i] (aag xp)
   have l2:=uI.two
   have l7:t.marks[i].length<=7:=by have:=uI.most;split at this<;>lia
   have a1:i<61:=by lia
   have a6:=D.lb
   have a9:=D.lw
   have a7:=D.lf
   obtain ⟨v,ev,pk,bn,rfl,sI,Lk⟩:=C2.dm.get (i:=i) (d:=zl t.marks[i]) (by rw [T1,ar xp];rfl)
   obtain rfl:=hV Lk
   have FV:bi K Y pk (t.marks[i].map V.int):=dC.seq sI
   refine ⟨_,rfl,.inl ⟨rfl,_,bi.of ab⟩,_,rfl,_,rfl,_,rfl,_,_,rfl,rfl,λ x1 g1=>?_⟩
   refine ⟨_,rfl,p,_,rfl,db C2.hp,_,rfl,pm,vm,_,_,rfl,rfl,.inl (bi.of C2.eZ),(by rw [aap];exact bK ev),pk,_,rfl,.inl FV,λ y ey=>⟨_,_,rfl,rfl,λ z ez=>?_⟩⟩
   rw [OS] at ey
   refine ⟨_,x1,z,rfl,by lia,by lia,by lia,λ r r0 r1=>?_⟩
   obtain ⟨x,rfl⟩:∃ x:Nat,r=(x:Int):=⟨r.toNat,by lia⟩
   refine ⟨L,_,_,rfl,rfl,ab,aO (by rw [OS];lia),?_⟩
   have s3:upd Y L (.lst (B.map aq++[V.int (x:Int)])) L=some (.lst ((B++[x]).map aq)):=by rw [ag,aab];rfl
   have S3:aD H (upd Y L (.lst (B.map aq++[V.int (x:Int)]))):=S2.put Z2
   have VM:upd Y L (.lst (B.map aq++[V.int (x:Int)])) l=some (.lst (W.map aq)):=by rw [aB aG.symm];exact a3
   have ae:upd Y L (.lst (B.map aq++[V.int (x:Int)])) a=some (.lst (F.map aq)):=by rw [aB an.symm];exact Xd
   generalize upd Y L (.lst (B.map aq++[V.int (x:Int)]))=H3 at s3 S3 VM ae |-
   refine ⟨_,rfl,.inl ⟨rfl,_,bi.of VM⟩,_,rfl,l,_,_,rfl,rfl,VM,aO (by rw [OS];lia),?_⟩
   have N:upd H3 l (.lst (W.map aq++[aq u])) l=some (.lst ((W++[u]).map aq)):=by rw [ag,aab];rfl
   have S4:aD H (upd H3 l (.lst (W.map aq++[aq u]))):=S3.put VY
   have ad:upd H3 l (.lst (W.map aq++[aq u])) L=some (.lst ((B++[x]).map aq)):=by rw [aB aG];exact s3
   have Y2:upd H3 l (.lst (W.map aq++[aq u])) a=some (.lst (F.map aq)):=by rw [aB aX.symm];exact ae
   generalize upd H3 l (.lst (W.map aq++[aq u]))=H4 at N S4 ad Y2 |-
   refine ⟨_,rfl,.inl ⟨rfl,_,bi.of Y2⟩,_,rfl,a,_,_,rfl,rfl,Y2,aO (by rw [OS];lia),?_⟩
   obtain ⟨ba,bb⟩:=D.next (x:=x) a1 (by rw [BO,ar xp];show x+1<t.marks[i].length;lia) a4 a8
   refine ⟨S4.put a2,B++[x],W++[u],F++[f'],_,?_,?_,?_,ba,_,_,_,_,by rw [bb]⟩
   . rw [aB an];exact ad
   . rw [aB aX];exact N
   . rw [ag,aab];rfl
 .
  rintro U H1 ⟨S,B,W,F,b,G,J,I,D,v8,v9,O,R,rfl⟩
  have a6:=D.lb
  have a9:=D.lw
  have a7:=D.lf
  refine ⟨_,rfl,L,_,rfl,.inl ⟨bi.of G,λ kb a5=>?_⟩⟩
  have s1:=al (o:=.tup (B.map aq)) a5
  refine ⟨_,rfl,_,rfl,l,_,rfl,.inl ⟨bi.of (s1 _ _ J),λ kw Sf=>?_⟩⟩
  have s2:=al (o:=.tup (W.map aq)) Sf
  refine ⟨_,rfl,a,_,rfl,.inl ⟨bi.of ((s1.trans s2) _ _ I),λ kf Wq=>?_⟩⟩
  have s3:=al (o:=.tup (F.map aq)) Wq
  have S3:=S.trans (s1.trans (s2.trans s3))
  have C3:=X.same S3
  refine ⟨_,rfl,_,rfl,_,_,rfl,rfl,λ x1 g1=>?_⟩
  refine ⟨_,rfl,p,_,rfl,mh C3.hp,pb,_,_,_,rfl,rfl,.inr (S3.tup aj),rfl,_,_,rfl,rfl,λ y ey=>?_⟩
  have Nk:=ok.bounds.2.1
  refine ⟨_,x1,y,rfl,by lia,by lia,by lia,λ r r0 r1=>⟨(by show 5<=sizeLine;decide),λ q hq=>?_⟩⟩
  obtain ⟨hp,rfl⟩:∃ hp:Nat,r=(hp:Int):=⟨r.toNat,by lia⟩
  have N:aD _ _:=al (o:=.tup [.ref kb,aq b,.ref kw,.ref kf,aq hp]) hq
  exact k q ⟨B,b,W,F,hp⟩ _ (S3.trans N) ⟨kb,kw,kf,bR.of ag,bR.of (N _ _ (s3 _ _ (s2 _ _ ag))),bR.of (N _ _ (s3 _ _ ag)),bR.of (N _ _ ag)⟩ (D.ok ok (by lia))
def tL (T:Txt K mg Ad):Def P w K mg base "failing" 5 ["hold","state","order"] (uy K Ad.aX):=by
 refine T.ER.cL tM λ Z Z Z Z Z H vs Q E b h=>?_
 obtain ⟨a,fp,m,p,s,o,rfl,R,hs,ok,l,k⟩:=h
 refine ⟨_,(ac (cM (i:=3) tM.nd (aw gY (pv 2) (mD qM (aF ay (pv 1) ah))))
     (am (aI (ak (nJ T) b.m (aa (jk ["room"] ["state","hold"] [1,0] (.cons ⟨rfl,rfl,.inl rfl⟩ (.cons ⟨rfl,rfl,.inl rfl⟩ .nil)) rfl (dP (ak (kI T) b.m (aa (pv 3) af))) (λ Z Z Z Z Z=>(pE (i:=0))) (λ Z Z Z Z Z=>(ki (aM oC (aF (f7 (K:=K) rfl) (aF (f7 (K:=K) rfl) (pv 1) ah) (pv 0)) (aF (f7 (K:=K) rfl) (aW (pv 2) T.aG (ek T) .nil b.m (aa (pv 0) af)) ah) (aR _)))) (λ Z Z Z Z Z=>(pv 0))) af))))),?_⟩
 try dsimp only [eD,aP]
 obtain ⟨pb,pw,pf,J,eb,ew,ef⟩:=id hs
 obtain ⟨⟨dx,pm,JL,JI,Lf,vm,vs,vt,aE,Z,ha,Z⟩,q1,q2,t,q4⟩:=id R
 have B:o<16:=by rw [<- l];exact aaO acg (Dy t)
 have V4:s.c6<16:=Ord.LO t ok.c6
 refine ⟨_,rfl,_,rfl,p,_,_,_,rfl,rfl,.inr J,rfl,_,rfl,_,_,rfl,rfl,λ y ey=>?_⟩
 obtain rfl:y=((Ord.off o s.c6:Nat):Int):=by rw [ey];exact gI _ _
 have C:Ord.off o s.c6<2 ^ 4:=Ord.Nf (n:=4) B
 have L:=NK t ok l
 have g:∀ r∈Bit.rooms (Ord.off o s.c6),r<m.rows.length/\m.has r=true:=λ r b=>by
   have:=(Bit.fK.mp b).2
   rw [Ord.nU B V4,aaq] at this
   exact Eo l this.1
 generalize Ord.off o s.c6=z at C L g |-
 refine ⟨_,rfl,z,rfl,acq C (by decide),λ W Y jE X V=>⟨W,rfl,⟨_,bi.of V⟩,λ D O=>?_⟩⟩
 refine gK (K:=K) (a:=W) (xs:=(Bit.rooms z).map aq) (λ j A U c=>A4 (aD Y c) (c D=some (.lst A)) (A=(((Bit.rooms z).take j).filter λ r=>decide ((gN s.failed r:Int)<m.fails r)).map aq) (∃ v,U=[v,some (.ref p),some (.ref a)]))
   ⟨al O,ag,rfl,none,rfl⟩ (λ j A U c Z e=>bi.of (e.1 _ _ V)) ?_ ?_
 .
  rintro j x A U c hx ⟨S,I,rfl,v,rfl⟩
  obtain ⟨r,M,rfl⟩:=d9 hx
  obtain ⟨Og,L5⟩:=g r (aaz M)
  obtain ⟨zz,N⟩:=l8 L5
  have hz:=jr (m:=m) (i:=r) (by lia)
  have f:=X.trans S
  have la:=aa4 (λ r=>decide ((gN s.failed r:Int)<m.fails r)) ((Bit.rooms z).take j)
  have lr:=vO z
  rw [aax] at la
  have F:m.fails r=zz.2.2.2:=by unfold ap.fails;rw [N];rfl
  refine ⟨_,rfl,p,_,_,_,rfl,rfl,.inr (f.tup J),rfl,_,rfl,pf,_,_,_,rfl,rfl,.inr (f.tup ef),ue (by rw [ok.lf];exact Og),?_⟩
  refine ⟨_,rfl,a,dx,_,rfl,f _ _ ha,rfl,_,rfl,a,fp,m,r,_,rfl,R.same f,hz,λ u G=>?_⟩
  rw [N] at G
  obtain ⟨pz,v1,rfl,yJ,Z⟩:=G.jn
  have d:(((Bit.rooms z).take (j+1)).filter λ r=>decide ((gN s.failed r:Int)<m.fails r)).map aq=(((Bit.rooms z).take j).filter λ r=>decide ((gN s.failed r:Int)<m.fails r)).map aq++(if decide ((gN s.failed r:Int)<m.fails r)=true then [aq r] else []):=by
    rw [di M,abh,aab]
    by_cases q:(gN s.failed r:Int)<m.fails r<;>simp [q]
  refine ⟨pz,_,_,_,rfl,rfl,.inr yJ,rfl,_,_,rfl,rfl,_,rfl,iH (λ h=>?_) (λ h=>?_)⟩
  . refine ⟨_,rfl,I,aO (by rw [OS];lia),S.put O,ag,?_,_,rfl⟩
    rw [d,aaE (by rw [F];exact h)];rfl
  . refine ⟨S,I,?_,_,rfl⟩
    rw [d,aal (by rw [F];exact h)];simp
 .
  rintro A U c ⟨S,I,rfl,v,rfl⟩
  rw [OS,aa1] at I
  have:=k c (X.trans S)
  rw [<- L] at this
  exact ⟨D,_,rfl,bi.of I,λ r b=>by have:=(g r (aaW.mp b).1).1;lia,this⟩
def rB (T:Txt K mg Ad):Def P w K mg base "may_fail" 8 ["hold","state","order"] (uy K Ad.aX):=by
 refine T.Db.cL A1 λ Z Z Z Z Z H v Q E c h=>?_
 obtain ⟨a,f,m,p,S,o,rfl,b,d,ok,g,k⟩:=h
 refine ⟨_,(ac (bf (ak (dZ T) c.m (aa (pv 0) (aa (pv 1) af))))
     (am (aI (ak (tL T) c.m (aa (pv 0) (aa (pv 1) (aa (pv 2) af))))))),?_⟩
 try dsimp only [eD,aP]
 refine ⟨_,rfl,_,rfl,a,f,m,p,S,rfl,b,d,ok,λ j s=>?_⟩
 exact ⟨_,rfl,_,rfl,_,rfl,a,f,m,p,S,o,rfl,b.same s,d.same s,ok,g,λ e i=>k e (s.trans i)⟩
def uG (T:Txt K mg Ad):Def P w K mg base "wait_behind" 5 ["hold","state","burning","room"] (uh K Ad.aX):=by
 refine T.vA.cL uc λ Z Z Z Z Z H I Q E f h=>?_
 obtain ⟨a,F,m,p,s,b,i,rfl,l,x,ok,v,A,r,k⟩:=h
 refine ⟨_,(ac (bB (aM lI (ak (eG T) f.m (aa (aF ay (pv 1) ah) (aa (pv 3) af))) (ak (eG T) f.m (aa (pv 2) (aa (pv 3) af))) (aR _)) (am (aI (aF ay (aW (pv 0) T.aG (ek T) .nil f.m (aa (pv 3) af)) ah))) aK)
     (am (aI (br (FN rfl) (by rfl) T.T4 Od (aa ah (aa (aw de (aF ay (aF ay (pv 1) ah) (pv 3)) ah) af)))))),?_⟩
 try dsimp only [eD,aP]
 obtain ⟨W,C,X,g,R,q,S⟩:=id x
 obtain ⟨⟨n,pm,M,L,N,vm,I,vt,O,Z,t,Z⟩,q1,q2,q3,q4⟩:=id l
 refine ⟨_,rfl,p,_,_,_,rfl,rfl,.inr g,rfl,_,rfl,s.c6,i,rfl,?_⟩
 refine ⟨_,rfl,_,rfl,b,i,rfl,rfl,_,rfl,vD (λ J=>?_) (λ c=>?_)⟩
 .
  have J:¬ s.c6.testBit i=b.testBit i:=λ e=>J (by rw [e])
  obtain ⟨z,j⟩:=l8 (A J)
  have B:=jr (m:=m) (i:=i) (by lia)
  refine ⟨_,rfl,a,n,_,rfl,t,rfl,_,rfl,a,F,m,i,_,rfl,l,B,λ u D=>?_⟩
  rw [j] at D
  obtain ⟨G,v1,rfl,Y,Z⟩:=D.jn
  have o:m.fT i=z.2.2.1:=by unfold ap.fT;rw [j];rfl
  have d:aq (s.iY m b i) = .int z.2.2.1:=by
    unfold dD.iY
    rw [aam J,<- o]
    show V.int _=_
    rw [abd r]
  rw [d] at k
  exact ⟨G,_,_,_,rfl,rfl,.inr Y,rfl,k⟩
 .
  have c:s.c6.testBit i=b.testBit i:=by injection c
  refine ⟨_,rfl,p,_,_,_,rfl,rfl,.inr g,rfl,_,rfl,C,_,_,_,rfl,rfl,.inr q,ue (by rw [ok.lw];exact v),_,_,rfl,rfl,λ y U=>?_⟩
  refine ⟨0,y,rfl,?_⟩
  have d:(if y > 0 then y else 0)=((s.iY m b i:Nat):Int):=by
    unfold dD.iY
    rw [aan c]
    split<;>lia
  rw [d]
  exact k
def qo (T:Txt K mg Ad):Def P w K mg base "failed_behind" 2 ["state","burning","out","room"] (qx K):=by
 refine T.sg.cL pY λ Z Z Z Z Z H v Q E g h=>?_
 obtain ⟨p,S,b,o,i,rfl,n,f,k⟩:=h
 refine ⟨_,(ac (bB (cw (ak (eG T) g.m (aa (pv 2) (aa (pv 3) af)))) (am (aI (aw aJ (aF ay (aF ay (pv 0) ah) (pv 3)) ah))) aK)
     (ac (bB (cw (ak (eG T) g.m (aa (pv 1) (aa (pv 3) af)))) (am (aI ah)) aK)
     (am (aI (aF ay (aF ay (pv 0) ah) (pv 3)))))),?_⟩
 try dsimp only [eD,aP]
 try (refine c9 ?_;intro Z Z Z Z)
 obtain ⟨s,t,j,e,q,r,a⟩:=id n
 unfold dD.jJ at k
 refine ⟨_,rfl,_,rfl,o,i,rfl,_,rfl,?_⟩
 cases c:o.testBit i with
 | true =>
   rw [c] at k
   refine jh ⟨_,rfl,p,_,_,_,rfl,rfl,.inr e,rfl,_,rfl,j,_,_,_,rfl,rfl,.inr a,ue f,_,_,rfl,rfl,λ y l=>?_⟩
   rw [l]
   exact k
 | false =>
   rw [c] at k
   refine gm ⟨_,rfl,_,rfl,b,i,rfl,_,rfl,?_⟩
   cases d:b.testBit i with
   | true =>
     rw [d] at k
     exact jh k
   | false =>
     rw [d] at k
     exact gm ⟨_,rfl,p,_,_,_,rfl,rfl,.inr e,rfl,_,rfl,j,_,_,_,rfl,rfl,.inr a,ue f,k⟩
def jK (T:Txt K mg Ad):Def P w K mg base "stoves_behind" 7 ["hold","state","order","out"] (vH K Ad.aX):=by
 refine T.rQ.cL eA λ Z Z Z Z Z H vs Q E e h=>?_
 obtain ⟨a,F,m,p,S,o,O,rfl,d,u,ok,M,h0,L,k⟩:=h
 refine ⟨_,(ac (cM (i:=4) eA.nd (aw gY (pv 2) (mD qM (pv 3))))
     (ac (qT (yi:=5) ["room"] ["hold","state","burning"] [0,1,4] (.cons ⟨rfl,rfl,.inl rfl⟩ (.cons ⟨rfl,rfl,.inl rfl⟩ (.cons ⟨rfl,rfl,.inl rfl⟩ .nil))) rfl (bN rfl T.cK (aa (cS (pv 0) T.aG (cq T) .nil e.m) af)) (λ Z Z Z Z Z=>(pE (i:=0))) (λ Z Z Z Z Z=>eM) (λ Z Z Z Z Z=>(ak (uG T) e.m (aa (pv 1) (aa (pv 2) (aa (pv 3) (aa (pv 0) af)))))) eA.nd (lc rfl))
     (ac (qT (yi:=6) ["room"] ["state","burning","out"] [1,4,3] (.cons ⟨rfl,rfl,.inl rfl⟩ (.cons ⟨rfl,rfl,.inl rfl⟩ (.cons ⟨rfl,rfl,.inl rfl⟩ .nil))) rfl (bN rfl T.cK (aa (cS (pv 0) T.aG (cq T) .nil e.m) af)) (λ Z Z Z Z Z=>(pE (i:=0))) (λ Z Z Z Z Z=>eM) (λ Z Z Z Z Z=>(ak (qo T) e.m (aa (pv 1) (aa (pv 2) (aa (pv 3) (aa (pv 0) af)))))) eA.nd (lc rfl))
     (ac (cM (i:=7) eA.nd (br (EF rfl) (by rfl) T.S9 M3 (aa (bj (pv 0) rfl) (aa (aw aJ (aw de (aF ay (pv 1) ah) (ak (tE T) e.m (aa (pv 0) (aa (pv 4) af)))) (bj (pv 0) rfl)) af))))
     (am (aI (cQ (aa (pv 4) (aa (cG cZ (by rfl) T.ji hU (aa (pv 5) af)) (aa (cG cZ (by rfl) T.ji hU (aa (pv 6) af)) (aa (pv 7) af))))))))))),?_⟩
 try dsimp only [eD,aP]
 try (refine lN ?_;intro Z Z Z Z Z Z)
 obtain ⟨pb,pw,pf,e0,eb,ew,ef⟩:=id u
 obtain ⟨⟨l,pm,JL,JI,Lf,vm,vs,vt,aE,Z,r,Z⟩,q1,q2,q3,q4⟩:=id d
 refine ⟨_,rfl,_,rfl,_,rfl,_,_,rfl,rfl,λ y ey=>?_⟩
 obtain rfl:y=((Ord.off o O:Nat):Int):=by rw [ey];exact gI _ _
 generalize Ord.off o O=b at M L k |-
 refine ⟨_,rfl,a,l,_,rfl,r,rfl,a,F,m,rfl,d,_,rfl,by lia,by lia,λ D J=>?_⟩
 refine eP (lo:=0) (n:=m.rows.length) (λ j A U c=>A4 (aD H c) (c D=some (.lst A)) (A=((List.range j).map (S.iY m b)).map aq) (∃ v,U=[v,some (.ref a),some (.ref p),some (aq b)])) ⟨al J,ag,rfl,none,rfl⟩ ?_ ?_
 . rintro j A U c t ⟨s,x,rfl,v,rfl⟩
   refine ⟨_,rfl,_,rfl,_,rfl,_,rfl,a,F,m,p,S,b,j,(by rw [aap];rfl),d.same s,u.same s,ok,t,M j,h0 j,x,aO (by rw [OS,OS,aaw];lia),s.put J,ag,?_,_,rfl⟩
   rw [aaU,aab,aab];rfl
 rintro A U H1 ⟨s,x,rfl,v,rfl⟩
 refine ⟨_,rfl,a,l,_,rfl,s _ _ r,rfl,a,F,m,rfl,d.same s,_,rfl,by lia,by lia,λ C N=>?_⟩
 refine eP (lo:=0) (n:=m.rows.length) (λ j A U c=>A4 (aD H1 c) (c C=some (.lst A)) (A=((List.range j).map (S.jJ b O)).map aq) (∃ v,U=[v,some (.ref p),some (aq b),some (aq O)])) ⟨al N,ag,rfl,none,rfl⟩ ?_ ?_
 . rintro j A U c t ⟨f,I,rfl,v,rfl⟩
   refine ⟨_,rfl,_,rfl,_,rfl,_,rfl,p,S,b,O,j,(by rw [aap];rfl),u.same (s.trans f),by rw [ok.lf];exact t,I,aO (by rw [OS,OS,aaw];lia),f.put N,ag,?_,_,rfl⟩
   rw [aaU,aab,aab];rfl
 rintro A U H2 ⟨f,I,rfl,v,rfl⟩
 have g:=s.trans f
 refine ⟨_,rfl,a,_,l,_,_,rfl,g _ _ r,T.aG,T.jo,xR ..,?_⟩
 refine ⟨_,rfl,p,_,_,_,rfl,rfl,.inr (g.tup e0),rfl,?_⟩
 refine ⟨_,rfl,_,rfl,a,F,m,b,rfl,d.same g,λ H3 z=>?_⟩
 have G:=g.trans z
 refine ⟨_,_,rfl,rfl,λ x1 g1=>⟨_,rfl,a,_,l,_,_,rfl,G _ _ r,T.aG,T.j3,Aj ..,_,_,rfl,rfl,λ X g2=>⟨_,X,rfl,?_⟩⟩⟩
 have e2:(if X<m.iO then X else m.iO)=(((S.js m b).toNat:Nat):Int):=by
   rw [abd L]
   unfold dD.js
   split<;>lia
 rw [e2]
 refine ⟨_,rfl,_,rfl,D,_,rfl,.inl ⟨bi.of ((f.trans z) _ _ x),λ V Sf=>?_⟩⟩
 have W:aD _ _:=al (o:=.tup (((List.range m.rows.length).map (S.iY m b)).map aq)) Sf
 refine ⟨_,rfl,C,_,rfl,.inl ⟨bi.of (W _ _ (z _ _ I)),λ R Wq=>?_⟩⟩
 have Y:aD _ _:=al (o:=.tup (((List.range m.rows.length).map (S.jJ b O)).map aq)) Wq
 refine ⟨_,rfl,O3,λ q hq=>?_⟩
 have B:aD _ _:=al (o:=.tup [aq b,.ref V,.ref R,aq (S.js m b).toNat]) hq
 exact k q V R _ (((G.trans W).trans Y).trans B) ag (B _ _ (Y _ _ ag)) (B _ _ ag)
def t7 (T:Txt K mg Ad):Def P w K mg base "behind_turn" 8 ["hold","state","order","out"] (vH K Ad.aX):=by
 refine T.vf.cL uj λ Z Z Z Z Z H v Q E c h=>?_
 obtain ⟨a,f,m,p,S,o,O,rfl,b,d,ok,i,g,L,k⟩:=h
 refine ⟨_,(ac (bf (ak (dZ T) c.m (aa (pv 0) (aa (pv 1) af))))
     (am (aI (ak (jK T) c.m (aa (pv 0) (aa (pv 1) (aa (pv 2) (aa (pv 3) af)))))))),?_⟩
 try dsimp only [eD,aP]
 refine ⟨_,rfl,_,rfl,a,f,m,p,S,rfl,b,d,ok,λ r s=>?_⟩
 exact ⟨_,rfl,_,rfl,_,rfl,_,rfl,a,f,m,p,S,o,O,rfl,b.same s,d.same s,ok,i,g,L,λ q l j e n x y z=>k q l j e (s.trans n) x y z⟩
open Classical in
noncomputable def Oh (tm:av) (n:Nat) (s:dD) (o:Nat):Bool:=decide (KQ tm n s o)
open Classical in
open Classical in
open Classical in
def zr {tm:av} {n o:Nat} {s:dD}:Oh tm n s o=true↔KQ tm n s o:=by unfold Oh;exact ael
def CG {tm:av} {n:Nat} {s:dD} (ok:tm.Ok n n) (N:n<=4) (S:gW (tm.m2 n n) s):s.orders (tm.m2 n n)=(List.range 16).filter (Oh tm n s):=by
 obtain ⟨f,F,d,e⟩:=eR tm n n
 have h:(tm.m2 n n).rows.length=n:=by rw [f,OS,aax,ok.lm];lia
 have H:s.i6.length=n:=by rw [S.lw,h]
 unfold dD.orders ap.ws
 rw [h]
 refine Ord.Ez N (tm.m2 n n).has (tm.m2 n n).wd s.wt s.c6 tm.bounds.1 s.heap _ _ (λ o Z=>?_) (λ o Z=>zr)
 unfold dD.F0 ap.Ja dD.held ap.oE ap.ws
 rw [H,h,F,aaq,aaq,aaS,aaS,aaS]
 exact ⟨λ ⟨a,b,c⟩=>⟨a,b,c⟩,λ ⟨a,b,c⟩=>⟨a,b,c⟩⟩
def nv (T:Txt K mg Ad):Def P w K mg base "sum_of_products" 3 ["pairs"] (Na K):=by
 refine T.pj.cL bU λ Z Z Z Z Z H vs Q E hr h=>?_
 obtain ⟨p,X,D,rfl,M,c,v,hl,hB,k⟩:=h
 refine ⟨_,(ac (cM (i:=1) bU.nd ah)
     (ac (cM (i:=2) bU.nd ah)
     (ac (dh aaN rfl (dP (pv 0)) (eK (K:=K) (n:=2) rfl rfl (aY (jq (i:=3) bU.nd) (aY (jq (i:=4) bU.nd) eQ))) (ac (cM (i:=5) bU.nd (aw aL (aF ay (pv 3) ah) (aF ay (pv 4) ah)))
     (ac (cM (i:=1) bU.nd (aw aJ (aw aL (pv 1) (pv 5)) (aw aL (aw aL (aF ay (pv 3) ah) (aF ay (pv 4) ah)) (pv 2))))
     (am (cM (i:=2) bU.nd (aw aL (pv 2) (pv 5)))))))
     (am (aI (ak (lG T) hr.m (aa (pv 1) (aa (pv 2) af)))))))),?_⟩
 try dsimp only [eD,aP]
 try (refine eU ?_;intro Z Z Z Z Z)
 have O:X.length=D.length:=by rw [c.length,OS]
 refine ⟨_,rfl,p,rfl,⟨_,M⟩,?_⟩
 refine iQ (K:=K) (a:=p) (xs:=X) (λ i U g=>g=H/\E3 λ (V C G:fR)=>U=[some (.ref p),some (.int (fM (D.take i)).1),some (.int (fM (D.take i)).2),V,C,G]) ⟨rfl,none,none,none,rfl⟩ (λ i U g Z e=>by rw [e.1];exact M) ?_ ?_
 .
  rintro i x U g N ⟨rfl,V,C,G,rfl⟩
  have o:i<D.length:=by rw [<- O];exact (RJ.mp N).1
  obtain ⟨I,B,b3⟩:=CL D v i (by lia)
  have et:D.take (i+1)=D.take i++[D[i]]:=by rw [abK,ar o];rfl
  obtain ⟨y,ey,pq,ws,rfl,Y,S⟩:=c.get (i:=i) (d:=G5 D[i]) (by rw [T1,ar o];rfl)
  obtain rfl:x = .ref pq:=aaj (N.symm.trans ey)
  have c:=v D[i] (aag o)
  obtain ⟨w1,r1,rfl,d1,w2,r2,rfl,d2,f⟩:=S
  have f:r2=[]:=f
  subst f
  obtain ⟨z,rfl,j⟩:=Dn.fr d1
  obtain ⟨A,rfl,l⟩:=Dn.fr d2
  rw [et,nV]
  generalize D[i]=d at c j l |-
  generalize fM (D.take i)=s at I B b3 |-
  refine ⟨pq,_,rfl,Y,rfl,_,_,rfl,_,_,rfl,rfl,?_⟩
  refine ⟨_,rfl,z,_,_,_,rfl,rfl,.inr j,rfl,_,rfl,A,_,_,_,rfl,rfl,.inr l,rfl,_,_,rfl,rfl,⟨900,900,c.a.b,c.b.b,by decide⟩,λ be W=>?_⟩
  have W:be=d.1.2 * d.2.2:=W
  have J:Bd 1800 (d.1.2 * d.2.2):=c.a.b.mul c.b.b
  subst W
  have sm:1802 * i+2+1800<=100000:=by lia
  refine ⟨_,rfl,_,rfl,_,_,rfl,rfl,⟨1802 * i+2,1800,I,J,by lia⟩,λ x1 e1=>?_⟩
  refine ⟨_,rfl,z,_,_,_,rfl,rfl,.inr j,rfl,_,rfl,A,_,_,_,rfl,rfl,.inr l,rfl,_,_,rfl,rfl,⟨900,900,c.a.t,c.b.t,by decide⟩,λ x2 L=>?_⟩
  have bt:Bd 1800 x2:=by rw [L];exact c.a.t.mul c.b.t
  refine ⟨_,rfl,_,_,rfl,rfl,⟨1800,1800 * i+1,bt,B,by lia⟩,λ x3 f=>⟨_,_,rfl,rfl,λ x4 e4=>?_⟩⟩
  refine ⟨_,rfl,_,rfl,_,_,rfl,rfl,⟨1800 * i+1,1800,B,J,by lia⟩,λ x5 e5=>⟨rfl,some (.ref z),some (.ref A),some (.int (d.1.2 * d.2.2)),?_⟩⟩
  have f4:x4=s.1 * (d.1.2 * d.2.2)+d.1.1 * d.2.1 * s.2:=by rw [e4,e1,f,L]
  have f5:x5=s.2 * (d.1.2 * d.2.2):=e5
  rw [f4,f5]
  rfl
 .
  rintro U g ⟨rfl,V,C,G,rfl⟩
  rw [O,aa1]
  have OC:=DU v
  refine ⟨_,rfl,_,rfl,_,_,rfl,by lia,hB,λ q r u R F s2 hu=>k u R s2 ?_⟩
  have:=F.nf OC
  rw [hu,<- this]
def n6 (T:Txt K mg Ad):Def P w K mg base "warmth_of" 6 ["hold","room","airs","weather","fired"] (Ev K Ad.aX):=by
 refine T.AZ.cL oA λ Z Z Z Z Z H vs Q E hr h=>?_
 obtain ⟨a,fp,m,i,pa,RB,A,W,wf,F,rfl,Y,hi,B,da,la,oa,dw,ow,hz,k⟩:=h
 refine ⟨_,(ac (qT (yi:=5) ["of","air"] ["room","hold"] [1,0] (.cons ⟨rfl,rfl,.inl rfl⟩ (.cons ⟨rfl,rfl,.inl rfl⟩ .nil)) rfl (Cw rfl T.gf (aa (pv 2) af)) (λ Z Z Z Z Z=>(eK (K:=K) (n:=2) rfl rfl (aY (pE (i:=0)) (aY (pE (i:=1)) eQ)))) (λ Z Z Z Z Z=>eM) (λ Z Z Z Z Z=>(cQ (aa (aW (pv 3) T.aG (lR T) .nil hr.m (aa (pv 2) (aa (pv 0) af))) (aa (pv 1) af)))) oA.nd (lc rfl))
     (ac (bf (iw aaC aaJ aaI cI (pv 5) (aa (cQ (aa (aF ay (aW (pv 0) T.aG (pB T) .nil hr.m (aa (pv 1) af)) ah) (aa (pv 3) af))) af)))
     (ac (lH (bB (cw (pv 4)) (am (bf (iw aaC aaJ aaI cI (pv 5) (aa (cQ (aa (gZ (v:=V.ref _) rfl T.DJ rfl) (aa (aF ay (aW (pv 0) T.aG (ek T) .nil hr.m (aa (pv 1) af)) ah) af))) af)))) aK))
     (am (aI (ak (nv T) hr.m (aa (pv 5) af))))))),?_⟩
 try dsimp only [eD,aP]
 try (refine eU ?_;intro Z Z Z Z Z)
 obtain ⟨⟨dx,pm,JL,JI,Lf,vm,vs,vt,aE,pG,ha,Z⟩,q1,q2,q3,q4⟩:=id Y
 obtain ⟨Wr,Wm,aj⟩:=qY (i:=i) (fired:=F) q4 q3 la oa ow hz
 have L:RB.length=A.length:=by rw [da.length,OS]
 refine ⟨_,rfl,pa,rfl,⟨_,B⟩,λ D R=>?_⟩
 refine kc (sq:=bi K) (a:=pa) (xs:=RB) (λ j acc U b=>A4 (aD H b) (b D=some (.lst acc)) (bX K b (((List.range j).map λ j=>((m.share i j,A.getD j (0,1)):Pr)).map G5) acc) (E2 λ v0 v1=>U=[v0,v1,some (aq i),some (.ref a)]))
   ⟨al R,ag,rfl,none,none,rfl⟩ (λ j acc U b Z e=>e.1.seq B) ?_ ?_
 .
  rintro j x pp acc U b hx xx ⟨t,C,l,v0,v1,rfl⟩
  have hj:j<A.length:=by rw [<- L];exact (RJ.mp hx).1
  obtain ⟨y,ey,dy⟩:=da.get (i:=j) (d:=dO A[j]) (by rw [T1,ar hj];rfl)
  obtain rfl:x=y:=aaj (hx.symm.trans ey)
  have s:aD b (upd b pp (.tup [aq j,x])):=al xx
  have nD:D≠pp:=ax C xx
  have S2:=t.trans s
  refine ⟨pp,_,rfl,bR.of ag,rfl,_,_,rfl,_,_,rfl,rfl,?_⟩
  refine ⟨_,rfl,a,dx,_,rfl,S2 _ _ ha,rfl,_,rfl,_,rfl,a,fp,m,i,j,rfl,Y.same S2,hi,by lia,λ v g s3 dv=>?_⟩
  have r:=S2.trans s3
  refine ⟨_,rfl,DR,λ p eY=>?_⟩
  have S:aD g (upd g p (.tup [v,x])):=al eY
  have N:=r.trans S
  have o:=S _ _ (s3 _ _ (s _ _ C))
  have G:bD K (upd g p (.tup [v,x])) (upd (upd g p (.tup [v,x])) D (.lst (acc++[.ref p]))):=cO o rfl
  have IC:acc.length=j:=by rw [l.length,OS,OS,aaw]
  refine ⟨o,aO (by lia),(N).put R,ag,?_,_,_,rfl⟩
  rw [aaU,aab,aab]
  refine (bX.ts ((aD.ts ((s.trans s3).trans S)).trans G) _ (tj _) l).snoc (Dn.ts G _ (su _) ?_)
  have ea:A.getD j (0,1)=A[j]:=by rw [BO,ar hj];rfl
  show Dn K _ (G5 (m.share i j,A.getD j (0,1))) _
  rw [ea]
  exact fU (bR.of ag) (bJ (Dn.same S _ dv) (bJ (Dn.same N _ dy) gq))
 .
  rintro acc U c ⟨t,C,l,v0,v1,rfl⟩
  rw [L] at l
  have l:bX K c ((dQ m i A).map G5) acc:=l
  have IC:acc.length<=4:=by rw [l.length,OS];unfold dQ;rw [OS,aaw];lia
  have Jp:i<m.bC.length:=by lia
  have zU:=ar Jp
  have LP:m.fG i=m.bC[i].1:=by unfold ap.fG;rw [zU];rfl
  refine ⟨_,rfl,.inl ⟨rfl,_,bi.of C⟩,_,rfl,a,dx,_,rfl,t _ _ ha,rfl,_,rfl,a,fp,m,i,_,rfl,Y.same t,zU,λ v dv=>?_⟩
  obtain ⟨p0,J,U0,U6,rfl,Fg,ab,ML,an⟩:=dv.dI
  refine ⟨p0,_,_,_,rfl,rfl,.inr Fg,rfl,_,rfl,DR,λ p eY=>?_⟩
  have s:aD c (upd c p (.tup [J,W])):=al eY
  have iP:=s _ _ C
  refine ⟨D,_,_,rfl,rfl,iP,aO (by lia),?_⟩
  have G:bD K (upd c p (.tup [J,W])) (upd (upd c p (.tup [J,W])) D (.lst (acc++[.ref p]))):=cO iP rfl
  have iJ:(upd (upd c p (.tup [J,W])) D (.lst (acc++[.ref p]))) D=some (.lst (acc++[.ref p])):=ag
  have r:aD H (upd (upd c p (.tup [J,W])) D (.lst (acc++[.ref p]))):=(t.trans s).put R
  have d3:bX K (upd (upd c p (.tup [J,W])) D (.lst (acc++[.ref p]))) ((dQ m i A++[(m.fG i,wf)]).map G5) (acc++[.ref p]):=by
    rw [aab]
    refine (bX.ts ((aD.ts s).trans G) _ (tj _) l).snoc (Dn.ts G _ (su _) ?_)
    refine fU (bR.of ag) (bJ (Dn.same s _ ?_) (bJ (Dn.same (t.trans s) _ dw) gq))
    rw [LP];exact ab
  generalize (upd (upd c p (.tup [J,W])) D (.lst (acc++[.ref p])))=g at iJ r d3 |-
  refine ⟨λ M b=>aD H b/\∃ X,A3 (b D=some (.lst X)) (bX K b ((gw m i A wf F).map G5) X) (M=[some (.ref a),some (aq i),some (.ref pa),some W,some (.bl F),some (.ref D)]),?_,?_⟩
  .
   refine ⟨_,rfl,_,rfl,?_⟩
   cases F with
   | false =>
     refine gm ⟨r,_,iJ,?_,rfl⟩
     unfold gw
     rw [aam aah,abb]
     exact d3
   | true =>
     obtain ⟨z,ez⟩:=hz rfl
     refine jh ⟨_,rfl,.inl ⟨rfl,_,bi.of iJ⟩,?_⟩
     refine ⟨_,rfl,a,dx,_,rfl,r _ _ ha,rfl,_,rfl,a,fp,m,i,_,rfl,Y.same r,ez,λ u du=>?_⟩
     obtain ⟨pz,zs,rfl,yJ,t1,r1,rfl,e1,Z⟩:=du
     refine ⟨pz,_,_,_,rfl,rfl,.inr yJ,bK (j:=0) rfl,DR,λ O Y7=>?_⟩
     have S:aD g (upd g O (.tup [.ref Ad.wx,t1])):=al Y7
     have o:=S _ _ iJ
     refine ⟨D,_,_,rfl,rfl,o,aO (by rw [aad];simp only [aaD,ab3];lia),(r.trans S).put R,_,ag,?_,rfl⟩
     have I:bD K (upd g O (.tup [.ref Ad.wx,t1])) (upd (upd g O (.tup [.ref Ad.wx,t1])) D (.lst ((acc++[.ref p])++[.ref O]))):=cO o rfl
     have ad:(((m.aH[i]?).getD none).map (·.1)).getD (0,1)=z.1:=by rw [ez];rfl
     unfold gw
     rw [aan rfl,aab]
     refine (bX.ts ((aD.ts S).trans I) _ (tj _) d3).snoc (Dn.ts I _ (su _) ?_)
     show Dn K _ (G5 ((1,1),(((m.aH[i]?).getD none).map (·.1)).getD (0,1))) _
     rw [ad]
     exact fU (bR.of ag) (bJ (T.Ds.fr (f:=(1,1))) (bJ (Dn.same S _ e1) gq))
  . rintro M H4 ⟨N,X,o,d4,rfl⟩
    exact ⟨_,rfl,D,X,_,rfl,bi.of o,d4,Wr,Wm,aj,λ q H5 s5 ae=>k q H5 (N.trans s5) ae⟩
def ny (T:Txt K mg Ad):Def P w K mg base "span_of" 7 ["hold","room","bands","fired"] (JE K Ad.aX):=by
 refine T.EW.cL iW λ Z Z Z Z Z H vs Q E f h=>?_
 obtain ⟨a,O,m,i,R,B,F,rfl,L,hi,u,lb,Y,hz,k⟩:=h
 refine ⟨_,(ac (i8 (lX DE (aW (pv 0) T.aG (pB T) .nil f.m (aa (pv 1) af)) (kG ah) xq) (eK (K:=K) (n:=2) rfl rfl (aY (jq (i:=4) iW.nd) (aY (jq (i:=5) iW.nd) eQ))))
     (ac (qT (yi:=6) ["of","band"] ["hold"] [0] (.cons ⟨rfl,rfl,.inl rfl⟩ .nil) rfl (HE rfl T.gf (aa (pv 2) af)) (λ Z Z Z Z Z=>(eK (K:=K) (n:=2) rfl rfl (aY (pE (i:=0)) (aY (pE (i:=1)) eQ)))) (λ Z Z Z Z Z=>eM) (λ Z Z Z Z Z=>(aF (f7 (K:=K) rfl) (aW (pv 2) T.aG (fH T) .nil f.m (aa (pv 0) af)) (pv 1))) iW.nd (lc rfl))
     (ac (qT (yi:=7) ["of","band"] ["hold"] [0] (.cons ⟨rfl,rfl,.inl rfl⟩ .nil) rfl (HE rfl T.gf (aa (pv 2) af)) (λ Z Z Z Z Z=>(eK (K:=K) (n:=2) rfl rfl (aY (pE (i:=0)) (aY (pE (i:=1)) eQ)))) (λ Z Z Z Z Z=>eM) (λ Z Z Z Z Z=>(aF (f7 (K:=K) rfl) (aW (pv 2) T.aG (fH T) .nil f.m (aa (pv 0) af)) (aw aJ (pv 1) ah))) iW.nd (lc rfl))
     (am (aI (cQ (aa (ak (n6 T) f.m (aa (pv 0) (aa (pv 1) (aa (pv 6) (aa (pv 4) (aa (pv 3) af)))))) (aa (ak (n6 T) f.m (aa (pv 0) (aa (pv 1) (aa (pv 7) (aa (pv 5) (aa (pv 3) af)))))) af)))))))),?_⟩
 try dsimp only [eD,aP]
 try (refine eU ?_;intro Z Z Z Z Z)
 obtain ⟨⟨dx,g,JL,JI,Lf,vm,vs,vt,aE,pG,ha,Z⟩,q1,q2,q3,q4⟩:=id L
 have Jp:i<m.bC.length:=by lia
 have zU:=ar Jp
 have LP:ma m i=m.bC[i]:=by unfold ma;rw [zU];rfl
 have aH:=q4.bC m.bC[i] (aag Jp)
 have Z8:dH 120 (ma m i).2.1:=by rw [LP];exact aH.2.1.mono (by decide)
 have an:dH 120 (ma m i).2.2:=by rw [LP];exact aH.2.2.mono (by decide)
 have ae:(gy m B 0).length=m.rows.length:=by unfold gy;rw [OS,aaw,lb]
 have aj:(gy m B 1).length=m.rows.length:=by unfold gy;rw [OS,aaw,lb]
 refine ⟨_,rfl,a,dx,_,rfl,ha,rfl,_,rfl,a,O,m,i,_,rfl,L,zU,λ v dv=>?_⟩
 obtain ⟨p0,Jr,U0,U6,rfl,Fg,a1,ML,a0⟩:=dv.dI
 refine ⟨1,rfl,p0,_,1,rfl,Fg,rfl,rfl,by decide,(by show 1<=3;decide),λ q0 hq=>?_⟩
 refine ⟨q0,_,rfl,bR.of ag,rfl,_,_,rfl,_,_,rfl,rfl,?_⟩
 have M:aD H (upd H q0 (.tup ([Jr,U0,U6].drop 1))):=al hq
 generalize upd H q0 (.tup ([Jr,U0,U6].drop 1))=H0 at M |-
 have ad:Dn K H0 (dO (ma m i).2.1) U0:=by rw [LP];exact Dn.same M _ ML
 have ab:Dn K H0 (dO (ma m i).2.2) U6:=by rw [LP];exact Dn.same M _ a0
 rcases u with u|u
 .
  have u:=M.seq u
  refine ⟨_,rfl,R,rfl,.inl ⟨⟨_,u⟩,λ D hD=>?_⟩⟩
  refine kc (sq:=bi K) (a:=R) (xs:=B.map aq) (λ j acc U c=>A4 (aD H0 c) (c D=some (.lst acc)) (bX K c (((List.range j).map λ j=>(m.rows.getD j []).getD (B.getD j 0+0) (0,1)).map dO) acc) (E2 λ V t=>U=[V,t,some (.ref a)]))
    ⟨al hD,ag,rfl,none,none,rfl⟩ (λ j acc U c Z e=>e.1.seq u) ?_ ?_
  .
   rintro j x p acc U c hx xx ⟨r,kS,o,V,t,rfl⟩
   obtain ⟨b,A,rfl⟩:=d9 hx
   have hj:j<B.length:=(RJ.mp A).1
   have f:j<m.rows.length:=by lia
   have C:B.getD j 0=b:=by rw [BO,A];rfl
   have s:aD c (upd c p (.tup [aq j,aq b])):=al xx
   have l:=M.trans (r.trans s)
   have G:m.rows.getD j []=m.rows[j]:=by rw [BO,ar f];rfl
   have q:=Y j f
   rw [G,C] at q
   refine ⟨p,_,rfl,bR.of ag,rfl,_,_,rfl,_,_,rfl,rfl,?_⟩
   refine ⟨_,rfl,a,dx,_,rfl,l _ _ ha,rfl,_,rfl,a,O,m,j,_,rfl,L.same l,ar f,λ g X eZ EK=>?_⟩
   have S:aD (upd c p (.tup [aq j,aq b])) (upd (upd c p (.tup [aq j,aq b])) g (.lst X)):=al eZ
   obtain ⟨y,ey,dy⟩:=EK.get (i:=b) (d:=dO m.rows[j][b]) (by rw [T1,ar (by lia)];rfl)
   have I:=S _ _ (s _ _ kS)
   have J:bD K (upd (upd c p (.tup [aq j,aq b])) g (.lst X)) (upd (upd (upd c p (.tup [aq j,aq b])) g (.lst X)) D (.lst (acc++[y]))):=cO I rfl
   have IC:acc.length=j:=by rw [o.length,OS,OS,aaw]
   refine ⟨_,rfl,g,_,_,_,rfl,rfl,.inl (bi.of ag),bK ey,I,aO (by lia),(r.trans (s.trans S)).put hD,ag,?_,_,_,rfl⟩
   rw [aaU,aab,aab]
   refine (bX.ts ((aD.ts (s.trans S)).trans J) _ (oO _ id) (by simpa using o)).snoc (Dn.ts J _ (f6 _) ?_)
   show Dn K _ (dO ((m.rows.getD j []).getD (B.getD j 0+0) (0,1))) y
   rw [G,C,Nat.add_zero,BO,ar (by lia:b<m.rows[j].length)]
   exact Dn.same S _ dy
  rintro acc U H1 ⟨r,kS,o,V,t,rfl⟩
  rw [OS] at o
  have o:bX K H1 ((gy m B 0).map dO) acc:=o
  have Jq:=r.seq u
  have S1:=M.trans r
  refine ⟨_,rfl,R,rfl,.inl ⟨⟨_,Jq⟩,λ W iP=>?_⟩⟩
  refine kc (sq:=bi K) (a:=R) (xs:=B.map aq) (λ j acc U c=>A4 (aD H1 c) (c W=some (.lst acc)) (bX K c (((List.range j).map λ j=>(m.rows.getD j []).getD (B.getD j 0+1) (0,1)).map dO) acc) (E2 λ V t=>U=[V,t,some (.ref a)]))
    ⟨al iP,ag,rfl,none,none,rfl⟩ (λ j acc U c Z e=>e.1.seq Jq) ?_ ?_
  .
   rintro j x p iR U c hx xx ⟨Pt,My,PC,V,t,rfl⟩
   obtain ⟨b,A,rfl⟩:=d9 hx
   have hj:j<B.length:=(RJ.mp A).1
   have f:j<m.rows.length:=by lia
   have C:B.getD j 0=b:=by rw [BO,A];rfl
   have s:aD c (upd c p (.tup [aq j,aq b])):=al xx
   have l:=S1.trans (Pt.trans s)
   have G:m.rows.getD j []=m.rows[j]:=by rw [BO,ar f];rfl
   have q:=Y j f
   rw [G,C] at q
   refine ⟨p,_,rfl,bR.of ag,rfl,_,_,rfl,_,_,rfl,rfl,?_⟩
   refine ⟨_,rfl,a,dx,_,rfl,l _ _ ha,rfl,_,rfl,a,O,m,j,_,rfl,L.same l,ar f,λ g X eZ EK=>?_⟩
   have S:aD (upd c p (.tup [aq j,aq b])) (upd (upd c p (.tup [aq j,aq b])) g (.lst X)):=al eZ
   obtain ⟨y,ey,dy⟩:=EK.get (i:=b+1) (d:=dO m.rows[j][b+1]) (by rw [T1,ar (by lia)];rfl)
   have I:=S _ _ (s _ _ My)
   have J:bD K (upd (upd c p (.tup [aq j,aq b])) g (.lst X)) (upd (upd (upd c p (.tup [aq j,aq b])) g (.lst X)) W (.lst (iR++[y]))):=cO I rfl
   have IC:iR.length=j:=by rw [PC.length,OS,OS,aaw]
   refine ⟨_,rfl,_,_,rfl,rfl,λ z ez=>?_⟩
   obtain rfl:z=((b+1:Nat):Int):=by rw [ez];push_cast;rfl
   refine ⟨g,_,_,_,rfl,rfl,.inl (bi.of ag),bK ey,I,aO (by lia),(Pt.trans (s.trans S)).put iP,ag,?_,_,_,rfl⟩
   rw [aaU,aab,aab]
   refine (bX.ts ((aD.ts (s.trans S)).trans J) _ (oO _ id) (by simpa using PC)).snoc (Dn.ts J _ (f6 _) ?_)
   show Dn K _ (dO ((m.rows.getD j []).getD (B.getD j 0+1) (0,1))) y
   rw [G,C,BO,ar (by lia:b+1<m.rows[j].length)]
   exact Dn.same S _ dy
  rintro iR U H2 ⟨s,I,N,V,t,rfl⟩
  rw [OS] at N
  have N:bX K H2 ((gy m B 1).map dO) iR:=N
  have l:=S1.trans s
  refine ⟨_,rfl,_,rfl,_,rfl,_,rfl,_,rfl,a,O,m,i,D,acc,gy m B 0,_,_,F,rfl,L.same l,hi,bi.of (s _ _ kS),bX.same s _ o,ae,oR q4 lb Y (by decide),Dn.same ((r.trans s)) _ ad,Z8,hz,λ w1 H3 S WJ=>?_⟩
  have S3:=l.trans S
  refine ⟨_,rfl,_,rfl,_,rfl,_,rfl,_,rfl,a,O,m,i,W,iR,gy m B 1,_,_,F,rfl,L.same S3,hi,bi.of (S _ _ I),bX.same S _ N,aj,oR q4 lb Y (by decide),Dn.same ((r.trans s).trans S) _ ab,an,hz,λ w2 H4 s4 Vg=>⟨DR,λ q hq=>?_⟩⟩
  have s5:aD H4 (upd H4 q (.tup [.ref w1,.ref w2])):=al hq
  exact k q w1 w2 _ ((S3.trans s4).trans s5) ag (s5 _ _ (s4 _ _ WJ)) (s5 _ _ Vg)
 .
  have u:=M.tup u
  refine ⟨_,rfl,R,rfl,.inr ⟨⟨_,u⟩,λ D hD=>?_⟩⟩
  refine kc (sq:=bR K) (a:=R) (xs:=B.map aq) (λ j acc U c=>A4 (aD H0 c) (c D=some (.lst acc)) (bX K c (((List.range j).map λ j=>(m.rows.getD j []).getD (B.getD j 0+0) (0,1)).map dO) acc) (E2 λ V t=>U=[V,t,some (.ref a)]))
    ⟨al hD,ag,rfl,none,none,rfl⟩ (λ j acc U c Z e=>e.1.tup u) ?_ ?_
  .
   rintro j x p acc U c hx xx ⟨r,kS,o,V,t,rfl⟩
   obtain ⟨b,A,rfl⟩:=d9 hx
   have hj:j<B.length:=(RJ.mp A).1
   have f:j<m.rows.length:=by lia
   have C:B.getD j 0=b:=by rw [BO,A];rfl
   have s:aD c (upd c p (.tup [aq j,aq b])):=al xx
   have l:=M.trans (r.trans s)
   have G:m.rows.getD j []=m.rows[j]:=by rw [BO,ar f];rfl
   have q:=Y j f
   rw [G,C] at q
   refine ⟨p,_,rfl,bR.of ag,rfl,_,_,rfl,_,_,rfl,rfl,?_⟩
   refine ⟨_,rfl,a,dx,_,rfl,l _ _ ha,rfl,_,rfl,a,O,m,j,_,rfl,L.same l,ar f,λ g X eZ EK=>?_⟩
   have S:aD (upd c p (.tup [aq j,aq b])) (upd (upd c p (.tup [aq j,aq b])) g (.lst X)):=al eZ
   obtain ⟨y,ey,dy⟩:=EK.get (i:=b) (d:=dO m.rows[j][b]) (by rw [T1,ar (by lia)];rfl)
   have I:=S _ _ (s _ _ kS)
   have J:bD K (upd (upd c p (.tup [aq j,aq b])) g (.lst X)) (upd (upd (upd c p (.tup [aq j,aq b])) g (.lst X)) D (.lst (acc++[y]))):=cO I rfl
   have IC:acc.length=j:=by rw [o.length,OS,OS,aaw]
   refine ⟨_,rfl,g,_,_,_,rfl,rfl,.inl (bi.of ag),bK ey,I,aO (by lia),(r.trans (s.trans S)).put hD,ag,?_,_,_,rfl⟩
   rw [aaU,aab,aab]
   refine (bX.ts ((aD.ts (s.trans S)).trans J) _ (oO _ id) (by simpa using o)).snoc (Dn.ts J _ (f6 _) ?_)
   show Dn K _ (dO ((m.rows.getD j []).getD (B.getD j 0+0) (0,1))) y
   rw [G,C,Nat.add_zero,BO,ar (by lia:b<m.rows[j].length)]
   exact Dn.same S _ dy
  rintro acc U H1 ⟨r,kS,o,V,t,rfl⟩
  rw [OS] at o
  have o:bX K H1 ((gy m B 0).map dO) acc:=o
  have Jq:=r.tup u
  have S1:=M.trans r
  refine ⟨_,rfl,R,rfl,.inr ⟨⟨_,Jq⟩,λ W iP=>?_⟩⟩
  refine kc (sq:=bR K) (a:=R) (xs:=B.map aq) (λ j acc U c=>A4 (aD H1 c) (c W=some (.lst acc)) (bX K c (((List.range j).map λ j=>(m.rows.getD j []).getD (B.getD j 0+1) (0,1)).map dO) acc) (E2 λ V t=>U=[V,t,some (.ref a)]))
    ⟨al iP,ag,rfl,none,none,rfl⟩ (λ j acc U c Z e=>e.1.tup Jq) ?_ ?_
  .
   rintro j x p iR U c hx xx ⟨Pt,My,PC,V,t,rfl⟩
   obtain ⟨b,A,rfl⟩:=d9 hx
   have hj:j<B.length:=(RJ.mp A).1
   have f:j<m.rows.length:=by lia
   have C:B.getD j 0=b:=by rw [BO,A];rfl
   have s:aD c (upd c p (.tup [aq j,aq b])):=al xx
   have l:=S1.trans (Pt.trans s)
   have G:m.rows.getD j []=m.rows[j]:=by rw [BO,ar f];rfl
   have q:=Y j f
   rw [G,C] at q
   refine ⟨p,_,rfl,bR.of ag,rfl,_,_,rfl,_,_,rfl,rfl,?_⟩
   refine ⟨_,rfl,a,dx,_,rfl,l _ _ ha,rfl,_,rfl,a,O,m,j,_,rfl,L.same l,ar f,λ g X eZ EK=>?_⟩
   have S:aD (upd c p (.tup [aq j,aq b])) (upd (upd c p (.tup [aq j,aq b])) g (.lst X)):=al eZ
   obtain ⟨y,ey,dy⟩:=EK.get (i:=b+1) (d:=dO m.rows[j][b+1]) (by rw [T1,ar (by lia)];rfl)
   have I:=S _ _ (s _ _ My)
   have J:bD K (upd (upd c p (.tup [aq j,aq b])) g (.lst X)) (upd (upd (upd c p (.tup [aq j,aq b])) g (.lst X)) W (.lst (iR++[y]))):=cO I rfl
   have IC:iR.length=j:=by rw [PC.length,OS,OS,aaw]
   refine ⟨_,rfl,_,_,rfl,rfl,λ z ez=>?_⟩
   obtain rfl:z=((b+1:Nat):Int):=by rw [ez];push_cast;rfl
   refine ⟨g,_,_,_,rfl,rfl,.inl (bi.of ag),bK ey,I,aO (by lia),(Pt.trans (s.trans S)).put iP,ag,?_,_,_,rfl⟩
   rw [aaU,aab,aab]
   refine (bX.ts ((aD.ts (s.trans S)).trans J) _ (oO _ id) (by simpa using PC)).snoc (Dn.ts J _ (f6 _) ?_)
   show Dn K _ (dO ((m.rows.getD j []).getD (B.getD j 0+1) (0,1))) y
   rw [G,C,BO,ar (by lia:b+1<m.rows[j].length)]
   exact Dn.same S _ dy
  rintro iR U H2 ⟨s,I,N,V,t,rfl⟩
  rw [OS] at N
  have N:bX K H2 ((gy m B 1).map dO) iR:=N
  have l:=S1.trans s
  refine ⟨_,rfl,_,rfl,_,rfl,_,rfl,_,rfl,a,O,m,i,D,acc,gy m B 0,_,_,F,rfl,L.same l,hi,bi.of (s _ _ kS),bX.same s _ o,ae,oR q4 lb Y (by decide),Dn.same ((r.trans s)) _ ad,Z8,hz,λ w1 H3 S WJ=>?_⟩
  have S3:=l.trans S
  refine ⟨_,rfl,_,rfl,_,rfl,_,rfl,_,rfl,a,O,m,i,W,iR,gy m B 1,_,_,F,rfl,L.same S3,hi,bi.of (S _ _ I),bX.same S _ N,aj,oR q4 lb Y (by decide),Dn.same ((r.trans s).trans S) _ ab,an,hz,λ w2 H4 s4 Vg=>⟨DR,λ q hq=>?_⟩⟩
  have s5:aD H4 (upd H4 q (.tup [.ref w1,.ref w2])):=al hq
  exact k q w1 w2 _ ((S3.trans s4).trans s5) ag (s5 _ _ (s4 _ _ WJ)) (s5 _ _ Vg)
def uo (T:Txt K mg Ad):IH K Ad.cP:=⟨T.Ce,T.BS,T.Bn,T.gs,T.tk,T.CA,T.CS,T.CI⟩
def ub (T:Txt K mg Ad):IH K Ad.cW:=⟨T.Cz,T.Ct,T.BF,T.gs,T.tk,T.Cb,T.Bs,T.Cf⟩
def Ai (T:Txt K mg Ad):ExcAt K Ad.cP "room":=⟨uo T,T.uV,T.BI,T.ur,T.oh⟩
def yq (T:Txt K mg Ad):ExcAt K Ad.cP "turn":=⟨uo T,T.uV,T.AJ,T.ur,T.oh⟩
def yY (T:Txt K mg Ad):ExcAt K Ad.cW "room":=⟨ub T,T.uF,T.BD,T.uH,T.oB⟩
def xv (T:Txt K mg Ad):ExcAt K Ad.cW "turn":=⟨ub T,T.uF,T.Ar,T.uH,T.oB⟩
def BE (T:Txt K mg Ad):Lo P w K mg base Ad.cP 1 ["self","room","turn"] (qp Ad.cP "room" "turn"):=by
 refine T.IL.QC mU (λ V H Q E h=>?_) (λ Z Z Z Z Z Z U c=>Av c λ Z Z Z=>rfl) (λ f Z Z Z s H V Q E g h=>?_)
 . obtain ⟨x,t,v,u,rfl,Z⟩:=h
   rfl
 .
  obtain ⟨x,t,v,u,rfl,e,k⟩:=h
  refine ⟨_,(ac (zA (pv 0) (pv 1) rfl)
    (am (yQ (pv 0) (pv 2) rfl))),?_⟩
  try dsimp only [eD,aP]
  exact ⟨_,rfl,_,rfl,x,Ad.cP,t,rfl,e,Ai T,λ d b a=>⟨_,rfl,_,rfl,x,Ad.cP,t,d,_,_,rfl,ag,by rw [aB a];exact ag,a,yq T,k d b a⟩⟩
def Cg (T:Txt K mg Ad):Lo P w K mg base Ad.cW 1 ["self","room","turn"] (qp Ad.cW "room" "turn"):=by
 refine T.Hy.QC nO (λ V H Q E h=>?_) (λ Z Z Z Z Z Z U c=>Av c λ Z Z Z=>rfl) (λ f Z Z Z s H V Q E g h=>?_)
 . obtain ⟨x,t,v,u,rfl,Z⟩:=h
   rfl
 .
  obtain ⟨x,t,v,u,rfl,e,k⟩:=h
  refine ⟨_,(ac (zA (pv 0) (pv 1) rfl)
    (am (yQ (pv 0) (pv 2) rfl))),?_⟩
  try dsimp only [eD,aP]
  exact ⟨_,rfl,_,rfl,x,Ad.cW,t,rfl,e,yY T,λ d b a=>⟨_,rfl,_,rfl,x,Ad.cW,t,d,_,_,rfl,ag,by rw [aB a];exact ag,a,xv T,k d b a⟩⟩
def nY (T:Txt K mg Ad):hZ P w K mg base Ad.Walk "__init__" 8 ["self","hold","state"] [] (G8 K Ad.aX Ad.Walk):=by
 refine T.rO.gH qB λ Z Z Z Z Z H V Q E I h=>?_
 obtain ⟨x,D,a,F,m,p,st,rfl,L,G,J,so,yA,k⟩:=h
 refine ⟨_,(ac (bf (ak (dZ T) I.m (aa (pv 1) (aa (pv 2) af))))
     (ac (dW (pv 0) (HC (ux T) I.m (aa (pv 1) af)) rfl)
     (ac (dW (pv 0) (pv 2) rfl)
     (ac (dW (pv 0) ah rfl)
     (am (dW (pv 0) iC rfl)))))),?_⟩
 try dsimp only [eD,aP]
 try (refine lN ?_;intro Z Z Z Z Z Z)
 refine ⟨_,rfl,_,rfl,a,F,m,p,st,rfl,G,J,so,λ H1 s=>?_⟩
 refine ⟨_,rfl,a,F,m,none,none,none,rfl,G.same s,yA,λ b l f s2 N C=>?_⟩
 have S:=s.trans s2
 have r:jg K Ad.Walk x D l l []:=.start (S _ _ L)
 refine ⟨_,rfl,x,_,D,_,rfl,r.at_,T.bx,T.dG,lt1000 rfl,?_⟩
 have t:=r.put (fs':=bG "hold" (.ref b) [])
 refine ⟨_,rfl,_,rfl,x,_,D,_,rfl,t.at_,T.bx,T.dJ,lt1000 rfl,?_⟩
 have u:=t.put (fs':=bG "place" (.ref p) (bG "hold" (.ref b) []))
 refine ⟨_,rfl,x,_,D,_,rfl,u.at_,T.bx,T.eL,lt1000 rfl,?_⟩
 have v:=u.put (fs':=bG "gone" (.int 0) (bG "place" (.ref p) (bG "hold" (.ref b) [])))
 refine ⟨_,rfl,x,_,D,_,rfl,v.at_,T.bx,T.jF,lt1000 rfl,?_⟩
 have B:=v.put (fs':=bG "ended" (.bl false) (bG "gone" (.int 0) (bG "place" (.ref p) (bG "hold" (.ref b) []))))
 have A:∀ c∈f,c≠x:=λ c d z=>by
   have:=C c d
   rw [z,s _ _ L] at this
   cases this
 have e:(m.with none none none)=m:=rfl
 rw [e] at N
 refine k f _ (λ c o d n=>B.st c o (S c o d) (λ q=>n (by rw [q];exact aai.mpr rfl))) ((aD.ts S).trans B.ts) ⟨D,b,p,B.at_,?_,(J.same S).ts B.ts,λ z=>A x z rfl⟩ (λ c d=>s.free (C c d))
 obtain ⟨⟨y,O,M,R,U,vm,V,vt,W,rfl,ha,jf,eZ,h9,fj,eY,n1,n2,n3,Y,ds,dt,X,fk⟩,q1,q2,q3,q4⟩:=id N
 have g:∀ {c o},l c=some o->c∈[b,y,O,M,R,U]->_=some o:=λ {c o} e d=>B.st c o e (A c d)
 exact ⟨⟨y,O,M,R,U,vm,V,vt,W,rfl,g ha (by simp),g jf (by simp),g eZ (by simp),g h9 (by simp),g fj (by simp),g eY (by simp),n1,n2,n3,kg B.ts Y,iU B.ts ds,gQ B.ts dt,λ i j=>(X i j).ts B.ts,fk⟩,q1,q2,q3,q4⟩
def jd (T:Txt K mg Ad):hZ P w K mg base Ad.Walk "state" 1 ["self"] [] (λ vs H Q Z=>∃ x d h q g,vs=[.ref x]/\H x=some (.ins Ad.Walk d (J9 h q g))/\Q (.ref q) H):=by
 refine T.xU.gH vB λ Z Z Z Z Z H vs Q E c h=>?_
 obtain ⟨x,d,b,q,g,rfl,a,k⟩:=h
 refine ⟨_,(am (aI (bj (pv 0) rfl))),?_⟩
 try dsimp only [eD,aP]
 exact ⟨_,rfl,x,_,d,_,_,rfl,a,T.bx,T.dJ,rfl,k⟩
def sT (T:Txt K mg Ad):hZ P w K mg base Ad.Walk "turns" 1 ["self"] [] (λ vs H Q Z=>∃ x d h q g,vs=[.ref x]/\H x=some (.ins Ad.Walk d (J9 h q g))/\Q (.int g) H):=by
 refine T.wX.gH u8 λ Z Z Z Z Z H vs Q E c h=>?_
 obtain ⟨x,d,b,q,g,rfl,a,k⟩:=h
 refine ⟨_,(am (aI (bj (pv 0) rfl))),?_⟩
 try dsimp only [eD,aP]
 exact ⟨_,rfl,x,_,d,_,_,rfl,a,T.bx,T.eL,rfl,k⟩
def mG (T:Txt K mg Ad):hZ P w K mg base Ad.Walk "span" 8 ["self","room","burning"] [] (G4 K Ad.aX Ad.Walk):=by
 refine T.A2.gH xS λ Z Z Z Z Z H V Q E c h=>?_
 obtain ⟨x,F,m,S,g,i,b,rfl,⟨d,p,q,e,a,u,nx⟩,s,r,o,k⟩:=h
 refine ⟨_,(am (aI (ak (ny T) c.m (aa (bj (pv 0) rfl) (aa (pv 1) (aa (aF ay (bj (pv 0) rfl) ah) (aa (ak (eG T) c.m (aa (pv 2) (aa (pv 1) af))) af))))))),?_⟩
 try dsimp only [eD,aP]
 obtain ⟨v,D,C,f,l,B,A⟩:=id u
 obtain ⟨Z,G,I,J,L⟩:=id a
 refine ⟨_,rfl,x,_,d,_,_,rfl,e,T.bx,T.dG,rfl,_,rfl,_,rfl,x,_,d,_,_,rfl,e,T.bx,T.dJ,rfl,q,_,_,_,rfl,rfl,.inr f,rfl,_,rfl,_,rfl,b,i,rfl,?_⟩
 exact ⟨p,F,m,i,v,S.bL,b.testBit i,rfl,a,r,.inr l,s.lb,λ j t=>by have:=s.band j t;unfold gN at this;rw [BO];exact this,λ z=>by
   have:=l8 (o z)
   obtain ⟨y,n⟩:=this
   exact ⟨y,by rw [jr (by lia),n]⟩,k⟩
def gn (T:Txt K mg Ad):oX P w K mg base Ad.Walk "look_at_order" 9 ["self","order","out"] [] (HL K Ad.aX Ad.Walk Ad.my Ad.iM):=by
 refine T.lO.Hn kN (λ V H Q E h=>?_) (λ _ _ _ _ _ _ X A=>Av A λ _ _ _=>rfl) (λ f _ _ _ s H V Q E k h=>?_)
 . obtain ⟨x,F,m,S,g,o,O,rfl,_⟩:=h
   rfl
 .
  obtain ⟨x,F,m,S,g,o,O,rfl,⟨d,j,q,e,i,l,nx⟩,p,B,C,D,G⟩:=h
  refine ⟨_,(ac (bB (cw (bj (pv 0) rfl)) (am (o8 rfl abC T.Jz T.Lh (yb λ _ _ _ z=>z) (aa bQ af))) aK)
    (ac (bB (aM ou (pv 1) (ak (oM T) k.m (aa (bj (pv 0) rfl) (aa (bj (pv 0) rfl) af))) (by with_unfolding_all rfl)) (am (o8 rfl abC T.E1 T.Eh (yb λ _ _ _ z=>z) (aa bQ af))) aK)
    (am (bB (aM lI (aw gY (pv 2) (mD qM (ak (rB T) k.m (aa (bj (pv 0) rfl) (aa (bj (pv 0) rfl) (aa (pv 1) af)))))) ah (aR _)) (am (o8 rfl abC T.AY T.yK (yb λ _ _ _ z=>z) (aa bQ af))) aK)))),?_⟩
  try dsimp only [eD,aP]
  try (refine c9 ?_;intro _ _ _ _)
  obtain ⟨_,R,U,J,W⟩:=id i
  refine ⟨_,rfl,x,_,d,_,_,rfl,e,T.bx,T.jF,rfl,_,rfl,gm ?_⟩
  refine ⟨_,rfl,_,rfl,x,_,d,_,_,rfl,e,T.bx,T.dG,rfl,_,rfl,x,_,d,_,_,rfl,e,T.bx,T.dJ,rfl,j,F,m,q,S,rfl,i,l,p,λ I L M b v=>?_⟩
  refine ⟨I,_,rfl,.inl (bi.of v),rfl,wG _,_,rfl,?_⟩
  have t:(if true=true then !Jl (aq o) ((S.orders m).map aq) else Jl (aq o) ((S.orders m).map aq)) = !decide (o∈S.orders m):=by rw [aan rfl];exact abI _ (KY o _)
  rw [t]
  by_cases a:o∈S.orders m
  case neg =>
    rw [aal a]
    exact jh ⟨Mb,(C a).plain b⟩
  rw [aaE a]
  refine gm ?_
  have N:=b _ _ e
  refine ⟨_,rfl,_,rfl,x,_,d,_,_,rfl,N,T.bx,T.dG,rfl,_,rfl,x,_,d,_,_,rfl,N,T.bx,T.dJ,rfl,_,rfl,j,F,m,q,S,o,rfl,i.same b,l.same b,p,Bk a,λ r n=>?_⟩
  refine ⟨_,rfl,_,_,rfl,rfl,λ y u=>⟨rfl,_,rfl,?_⟩⟩
  obtain rfl:y=((Ord.off O (S.may m o):Nat):Int):=by rw [u];exact gI _ _
  have z:=Jb B (Cu (s:=S) (o:=o) J)
  by_cases c:O &&& S.may m o=O
  . refine fz (by rw [z.mpr c];rfl) (G a c r (b.trans n))
  . refine vD (λ _=>⟨Mb,(D a c).plain (b.trans n)⟩) (λ q=>absurd (z.mp ?_) c)
    have q:((Ord.off O (S.may m o):Nat):Int)=0:=fL.mp q
    exact_mod_cast q
def ge (T:Txt K mg Ad):oX P w K mg base Ad.Walk "look_at_warmth" 3 ["self","room","least","greatest","warmth"] [] (N7 K Ad.aX Ad.Walk Ad.cP):=by
 refine T.kP.Hn jS (λ L H Q E h=>?_) (λ Z Z Z Z Z Z Y y=>Eb y λ Z Z Z Z Z=>rfl) (λ f Z Z Z s H L Q E e h=>?_)
 . obtain ⟨x,v,m,S,g,i,V,I,J,a,d,F,rfl,Z⟩:=h
   rfl
 .
  obtain ⟨x,v,m,S,g,i,V,I,J,a,d,F,rfl,⟨D,R,q,j,U,X,nx⟩,n,r,u,O,l,o,k,A⟩:=h
  refine ⟨_,(am (bB (PW.pt (rq (cw (ak (fw T) e.m (aa (pv 4) (aa (pv 2) af)))) (nH (cw (ak (fw T) e.m (aa (pv 3) (aa (pv 4) af))))))) (am (vI rfl T.Ho (BE T) e.m (Dp λ Z Z Z z=>z) (aa (pv 1) (aa (bj (pv 0) rfl) af)))) aK)),?_⟩
  try dsimp only [eD,aP]
  obtain ⟨B,rfl,M⟩:=n.fr
  obtain ⟨G,rfl,N⟩:=r.fr
  obtain ⟨p,rfl,W⟩:=u.fr
  refine ⟨_,rfl,_,rfl,p,B,_,_,_,_,rfl,W,M,o.t,o.b,O.t,O.b,_,rfl,?_⟩
  show if aN F a=true then _ else _
  cases c:aN F a with
  | true =>
    have k:g9 Ad.cP (aq i) (.int g) H E:=k (by rw [c];rfl)
    exact jh (jh ⟨_,rfl,_,rfl,x,_,D,_,_,rfl,j,T.bx,T.eL,rfl,k.raised (aD.refl _)⟩)
  | false =>
    refine gm ⟨_,rfl,_,rfl,G,p,_,_,_,_,rfl,N,W,l.t,l.b,o.t,o.b,_,rfl,?_⟩
    show if aN d F=true then _ else _
    cases C:aN d F with
    | true =>
      have k:g9 Ad.cP (aq i) (.int g) H E:=k (by rw [c,C];rfl)
      exact jh ⟨_,rfl,_,rfl,x,_,D,_,_,rfl,j,T.bx,T.eL,rfl,k.raised (aD.refl _)⟩
    | false=>exact gm (A (by rw [c,C];rfl) H (aD.refl _))
def uA (T:Txt K mg Ad):Def P w K mg base "touched" 5 ["hold","room","least","greatest"] (FG K Ad.aX):=by
 refine T.El.cL uT λ Z Z Z Z Z H vs Q E B h=>?_
 obtain ⟨a,fp,m,i,r,v1,v2,f,F,rfl,hh,W,d1,d2,o1,o2,k⟩:=h
 refine ⟨_,(ac (cM (i:=4) uT.nd (aW (pv 0) T.aG (fH T) .nil B.m (aa (pv 1) af)))
     (am (aI (jk ["band"] ["greatest","least","marks"] [3,2,4] (.cons ⟨rfl,rfl,.inl rfl⟩ (.cons ⟨rfl,rfl,.inl rfl⟩ (.cons ⟨rfl,rfl,.inl rfl⟩ .nil))) rfl (bN rfl T.cK (aa (aw de (br bO (by rfl) T.fX dL (aa (pv 4) af)) ah) af)) (λ Z Z Z Z Z=>(pE (i:=0))) (λ Z Z Z Z Z=>(ki (PW.pt (tQ (fF (cw (ak (fw T) B.m (aa (pv 1) (aa (aF (f7 (K:=K) rfl) (pv 3) (pv 0)) af))))) (oG (fF (cw (ak (fw T) B.m (aa (aF (f7 (K:=K) rfl) (pv 3) (aw aJ (pv 0) ah)) (aa (pv 2) af)))))))))) (λ Z Z Z Z Z=>(pv 0)))))),?_⟩
 try dsimp only [eD,aP]
 obtain ⟨⟨dx,pm,pf,ps,pt,vm,vs,vt,aE,pG,ha,Z⟩,ab,lst,l4,wf⟩:=id hh
 have R:r∈m.rows:=aaz W
 have hl:=wf.len r R
 have uI:=wf.rows r R
 refine ⟨_,rfl,a,dx,_,rfl,ha,rfl,_,rfl,a,fp,m,i,r,rfl,hh,W,λ p X hp M=>?_⟩
 have S:aD H (upd H p (.lst X)):=al hp
 have G:(upd H p (.lst X)) p=some (.lst X):=ag
 have l:=bX.same S _ M
 have e1:=Dn.same S _ d1
 have e2:=Dn.same S _ d2
 generalize upd H p (.lst X)=H1 at S G l e1 e2 |-
 have lx:X.length=r.length:=by rw [M.length,OS]
 obtain ⟨p1,rfl,q1⟩:=e1.fr
 obtain ⟨p2,rfl,q2⟩:=e2.fr
 refine ⟨_,rfl,_,_,rfl,.inl (bi.of G),λ y ey=>?_⟩
 have hn:2<=r.length/\r.length<=7:=hl
 refine ⟨_,_,rfl,rfl,λ z ez=>⟨_,rfl,by lia,by lia,λ D u=>?_⟩⟩
 obtain ⟨n,en⟩:∃ n:Nat,z=(n:Int)/\n+1=r.length:=⟨r.length - 1,by lia,by lia⟩
 obtain ⟨rfl,en⟩:=en
 refine eP (lo:=0) (n:=n) (λ j A U c=>A4 (aD H1 c) (c D=some (.lst A)) (A=(jZ r f F j).map aq) (∃ v,U=[v,some (.ref p2),some (.ref p1),some (.ref p)]))
   ⟨al u,ag,rfl,none,rfl⟩ ?_ ?_
 .
  rintro j A U c hj ⟨s,I,rfl,v,rfl⟩
  have o:j<r.length:=by lia
  have O:j+1<r.length:=by lia
  obtain ⟨x,ex,Te⟩:=(bX.same s _ l).get (i:=j) (d:=dO r[j]) (by rw [T1,ar o];rfl)
  obtain ⟨x',Vb,yB⟩:=(bX.same s _ l).get (i:=j+1) (d:=dO r[j+1]) (by rw [T1,ar O];rfl)
  obtain ⟨u1,rfl,w1⟩:=Te.fr
  obtain ⟨u2,rfl,w2⟩:=yB.fr
  have N:=(uI r[j] (aag o)).mono (n:=1000) (by decide)
  have V:=(uI r[j+1] (aag O)).mono (n:=1000) (by decide)
  have J:=s.tup q1
  have L:=s.tup q2
  have g:=s _ _ G
  have q:jX r f F j=((!aN F r[j]) && !aN r[j+1] f):=by
    unfold jX
    rw [BO,BO,ar o,ar O];rfl
  have la:=rg r f F j
  refine ⟨_,rfl,_,rfl,_,rfl,_,_,_,_,rfl,rfl,.inl (bi.of g),by rw [aap];exact bK ex,p2,u1,_,_,_,_,rfl,L,w1,o2.t,o2.b,N.t,N.b,_,rfl,?_⟩
  show if (!aN F r[j])=true then _ else _
  cases C:aN F r[j] with
  | true =>
    refine gm (gm ⟨s,I,?_,_,rfl⟩)
    rw [kr,q,C];simp
  | false =>
    refine jh ⟨_,rfl,_,rfl,_,_,rfl,rfl,λ y1 Oe=>⟨_,_,_,_,rfl,rfl,.inl (bi.of g),by rw [Oe,aap];exact bK (j:=j+1) Vb,_,rfl,u2,p1,_,_,_,_,rfl,w2,J,V.t,V.b,o1.t,o1.b,_,rfl,?_⟩⟩
    show if (!aN r[j+1] f)=true then _ else _
    cases Y:aN r[j+1] f with
    | true =>
      refine gm ⟨s,I,?_,_,rfl⟩
      rw [kr,q,C,Y];simp
    | false =>
      refine jh ⟨_,rfl,I,aO (by rw [OS];lia),s.put u,ag,?_,_,rfl⟩
      rw [kr,q,C,Y,aab,aap];rfl
 .
  rintro A U c ⟨s,I,rfl,v,rfl⟩
  have e:n=r.length - 1:=by lia
  rw [e] at I
  exact k D c (S.free u) (S.trans s) I
def wl (T:Txt K mg Ad):Def P w K mg base "within" 5 ["hold","room","least","greatest"] (Fl K Ad.aX):=by
 refine T.Hi.cL vX λ Z Z Z Z Z H vs Q E l h=>?_
 obtain ⟨a,Y,m,i,r,v1,v2,f,F,rfl,A,v,I,J,O,B,k⟩:=h
 refine ⟨_,(ac (cM (i:=4) vX.nd (aW (pv 0) T.aG (fH T) .nil l.m (aa (pv 1) af)))
     (am (aI (tp (yd (ak (fw T) l.m (aa (pv 2) (aa (aF ay (pv 4) ah) af)))) (ug (yd (ak (fw T) l.m (aa (aF ay (pv 4) (mD xa ah)) (aa (pv 3) af))))))))),?_⟩
 try dsimp only [eD,aP]
 obtain ⟨⟨L,pm,pf,ps,pt,vm,vs,vt,aE,pG,ha,Z⟩,ab,lst,l4,W⟩:=id A
 have M:r∈m.rows:=aaz v
 have hl:=W.len r M
 have U:=W.rows r M
 refine ⟨_,rfl,a,L,_,rfl,ha,rfl,_,rfl,a,Y,m,i,r,rfl,A,v,λ p X hp q=>?_⟩
 have S:aD H (upd H p (.lst X)):=al hp
 have o:(upd H p (.lst X)) p=some (.lst X):=ag
 have D:=bX.same S _ q
 have y:=Dn.same S _ I
 have z:=Dn.same S _ J
 generalize upd H p (.lst X)=s at S o D y z |-
 have lx:X.length=r.length:=by rw [q.length,OS]
 obtain ⟨p1,rfl,q1⟩:=y.fr
 obtain ⟨p2,rfl,q2⟩:=z.fr
 have e:0<r.length:=by lia
 have g:r.length - 1<r.length:=by lia
 obtain ⟨x,ex,G⟩:=D.get (i:=0) (d:=dO r[0]) (by rw [T1,ar e];rfl)
 obtain ⟨x',V,yB⟩:=D.get (i:=r.length - 1) (d:=dO r[r.length - 1]) (by rw [T1,ar g];rfl)
 obtain ⟨u1,rfl,w1⟩:=G.fr
 obtain ⟨u2,rfl,w2⟩:=yB.fr
 have u:=(U r[0] (aag e)).mono (n:=1000) (by decide)
 have N:=(U r[r.length - 1] (aag g)).mono (n:=1000) (by decide)
 have R:dE r f F=((!aN f r[0]) && !aN r[r.length - 1] F):=by
   unfold dE
   rw [BO,BO,ar e,ar g];rfl
 have c:=k s S
 rw [R] at c
 refine ⟨_,rfl,_,rfl,_,_,_,_,rfl,rfl,.inl (bi.of o),bK (j:=0) ex,p1,u1,_,_,_,_,rfl,q1,w1,O.t,O.b,u.t,u.b,_,rfl,_,rfl,?_⟩
 show if (!aN f r[0])=true then _ else _
 cases C:aN f r[0] with
 | true =>
   rw [C] at c
   exact gm c
 | false =>
   rw [C] at c
   refine jh ⟨_,rfl,_,rfl,_,_,_,_,rfl,rfl,.inl (bi.of o),KE (by lia) (by rw [lx];exact V),_,rfl,u2,p2,_,_,_,_,rfl,w2,q2,N.t,N.b,B.t,B.b,_,rfl,?_⟩
   show Q (.bl (!aN r[r.length - 1] F)) s
   exact c
def zS (T:Txt K mg Ad):K8 P w K mg base Ad.Walk "go" "Walk.go" mr (.ref Ad.qi) 10 ["self","order","out","bands","warmths"] (BM K Ad.aX Ad.Walk Ad.my Ad.iM Ad.cP Ad.cW):=by
 refine T.FT.Wy gU (λ vs H Q E h=>?_) (λ f Z Z Z s H vs Q E L h=>?_)
 . obtain ⟨x,J,m,b,g,o,O,r,a,vw,ws,rfl,Z⟩:=h
   rfl
 .
  obtain ⟨x,J,m,b,g,o,O,r,a,vw,ws,rfl,hw,so,Bb,hz,lz,ad,A9,N,k1,k2,k3⟩:=h
  refine ⟨_,(ac (bf (n8 (pv 0) T.bx (gn T).y L.m (sL λ Z Z Z z=>z) (aa (pv 1) (aa (pv 2) af))))
    (ac (dh PassesOwn.leaving rfl (bN rfl T.cK (aa (cS (bj (pv 0) rfl) T.aG (cq T) .nil L.m) af)) (jq (i:=5) gU.nd) (ac (i8 (aW (pv 0) T.bx (mG T) .nil L.m (aa (pv 5) (aa (aw gY (pv 1) (mD qM (pv 2))) af))) (eK (K:=K) (n:=2) rfl rfl (aY (jq (i:=6) gU.nd) (aY (jq (i:=7) gU.nd) eQ))))
    (ac (lH (bB (aM mq (pv 4) dg (aR _)) (ac (bf (n8 (pv 0) T.bx (ge T).y L.m (sL λ Z Z Z z=>z) (aa (pv 5) (aa (pv 6) (aa (pv 7) (aa (aF ay (pv 4) (pv 5)) af))))))
    (ac (cM (i:=6) gU.nd (aF ay (pv 4) (pv 5)))
    (am (cM (i:=7) gU.nd (aF ay (pv 4) (pv 5)))))) aK))
    (am (bB (aM ou (aF ay (pv 3) (pv 5)) (ak (uA T) L.m (aa (bj (pv 0) rfl) (aa (pv 5) (aa (pv 6) (aa (pv 7) af))))) (by with_unfolding_all rfl)) (am (vI rfl T.Iy (Cg T) L.m (Dp λ Z Z Z z=>z) (aa (pv 5) (aa (bj (pv 0) rfl) af)))) aK)))))
    (ac (dW (pv 0) (aw DT (cQ (aa (cG za (by rfl) T.ji hU (aa (pv 3) af)) af)) (ak (t7 T) L.m (aa (bj (pv 0) rfl) (aa (bj (pv 0) rfl) (aa (pv 1) (aa (pv 2) af)))))) rfl)
    (am (wE (pv 0) ah Gb))))),?_⟩
  try dsimp only [eD,aP]
  try (refine eU ?_;intro Z Z Z Z Z)
  obtain ⟨D,G,q,p,hh,hs,nx⟩:=id hw
  obtain ⟨⟨UZ,Z,Z,Z,Z,Z,Z,Z,Z,Z,aj,Z⟩,q1,q2,q3,q4⟩:=id hh
  refine ⟨_,rfl,x,D,_,rfl,p,rfl,_,rfl,_,rfl,x,J,m,b,g,o,O,rfl,hw,so,Bb,k1,k2,λ ho hf H1 s1=>?_⟩
  obtain ⟨k4,k5⟩:=k3 ho hf
  have N:=N ho hf
  have NI:=s1 _ _ p
  have C:∀ i,(Ord.off o O).testBit i=true->m.has i=true:=λ i h=>(N.KM (N.LR h).1).2
  refine ⟨_,rfl,x,_,D,_,_,rfl,NI,T.bx,T.dG,rfl,G,UZ,_,rfl,s1 _ _ aj,rfl,G,J,m,rfl,hh.same s1,_,rfl,by lia,by lia,?_⟩
  refine gM (lo:=0) (n:=m.rows.length) (λ i U H'=>A3 (aD H H') (∀ j,j<i->roomF m b (Ord.off o O) a ws j=none) (E3 λ x5 x6 x7=>U=[some (.ref x),some (aq o),some (aq O),some (.ref r),some vw,x5,x6,x7]))
    ⟨s1,λ j hj=>absurd hj (abN _),none,none,none,rfl⟩ ?_ ?_
  .
   rintro Z i U H2 X ⟨B,W,x5,x6,x7,rfl⟩
   have Jd:=B _ _ p
   refine ⟨_,rfl,x,D,_,rfl,Jd,rfl,_,rfl,_,rfl,_,rfl,_,rfl,_,_,rfl,rfl,λ y ey=>?_⟩
   obtain rfl:y=((Ord.off o O:Nat):Int):=by rw [ey];exact gI _ _
   refine ⟨x,J,m,b,g,i,Ord.off o O,by rw [aap];rfl,hw.same B,so,X,C i,λ qq q1 q2 H3 s3 e0 e1 e2=>?_⟩
   refine ⟨qq,_,rfl,bR.of e0,rfl,_,_,rfl,_,_,rfl,rfl,?_⟩
   have I:=B.trans s3
   obtain ⟨Es,Me⟩:=A9 i ((Ord.off o O).testBit i) X (C i)
   have rD:=ar (show i<m.rows.length by lia)
   have Dc:m.rows.getD i []=m.rows[i]:=by rw [BO,rD];rfl
   refine ⟨λ ae H'=>aD H H'/\(E4 λ pl pg F k=>A6 (bR K H' pl [.int (F:ce).1,.int F.2]) (bR K H' pg [.int (k:ce).1,.int k.2]) (dH 1000 F) (dH 1000 k) (roomF m b (Ord.off o O) a ws i=if a.getD i 0∈(dX (m.rows.getD i []) F k).map (λ n:Nat=>(n:Int)) then none else some false) (ae=[some (.ref x),some (aq o),some (aq O),some (.ref r),some vw,some (.int (0+(i:Int))),some (.ref pl),some (.ref pg)])),?_,?_⟩
   .
    refine ⟨_,rfl,rfl,_,rfl,?_⟩
    cases ws with
    | none =>
      have e:vw = .cn:=ad
      subst e
      exact fz rfl ⟨I,q1,q2,_,_,bR.of e1,bR.of e2,Es,Me,DO,rfl⟩
    | some l =>
      obtain ⟨t,ys,rfl,hp,dl,ll,YQ⟩:=ad
      refine vD (λ Z=>?_) (λ q=>nomatch q)
      have IT:i<l.length:=by lia
      obtain ⟨v,ev,dv⟩:=(bX.same I _ dl).get (i:=i) (d:=dO (l.getD i (0,1))) (by rw [T1,ar IT,BO,ar IT];rfl)
      have OB:dH 1000 (l.getD i (0,1)):=by rw [BO,ar IT];exact YQ _ (aag IT)
      have Ww:uw ys (0+(i:Int))=some v:=by rw [aap];exact jb ev
      have L8:=I _ _ p
      refine ⟨_,rfl,x,D,_,rfl,L8,rfl,_,rfl,_,rfl,_,rfl,_,rfl,_,rfl,t,_,_,_,rfl,rfl,.inl (I.seq hp),Ww,x,J,m,b,g,i,.ref q1,.ref q2,v,_,_,_,by rw [aap];rfl,hw.same I,hR (bR.of e1),hR (bR.of e2),dv,Es,Me,OB,λ c=>?_,λ c H4 M=>?_⟩
      . have:=k4 i true X (by rw [sJ,aan c]) W
        exact this.same I
      . have S:=I.trans M
        obtain ⟨pv,rfl,ab⟩:=dv.fr
        exact ⟨_,rfl,_,rfl,t,_,_,_,rfl,rfl,.inl (S.seq hp),Ww,_,rfl,_,rfl,t,_,_,_,rfl,rfl,.inl (S.seq hp),Ww,S,pv,pv,_,_,M.tup ab,M.tup ab,OB,OB,by rw [sJ,aam (by rw [c];exact aah)],rfl⟩
   rintro ae H4 ⟨S,pl,pg,F,k,w1,w2,Km,Nw,eF,rfl⟩
   have OW:=S _ _ p
   have WW:bi K H4 r (a.map V.int)\/bR K H4 r (a.map V.int):=hz.imp S.seq S.tup
   refine ⟨_,rfl,_,rfl,r,_,_,_,rfl,rfl,WW,by rw [aap];exact jb (by rw [T1,Td (show i<a.length by lia)];rfl),?_⟩
   refine ⟨_,rfl,x,_,D,_,_,rfl,OW,T.bx,T.dG,rfl,_,rfl,_,rfl,_,rfl,G,J,m,i,m.rows[i],.ref pl,.ref pg,F,k,by rw [aap];rfl,hh.same S,rD,hR w1,hR w2,Km,Nw,λ Y H5 Z s5 ht=>?_⟩
   refine ⟨Y,_,rfl,.inl (bi.of ht),rfl,wG _,_,rfl,?_⟩
   have ei:(if true=true then !Jl (V.int (a.getD i 0)) ((dX m.rows[i] F k).map aq) else Jl (V.int (a.getD i 0)) ((dX m.rows[i] F k).map aq)) = !decide (a.getD i 0∈(dX m.rows[i] F k).map (λ n:Nat=>(n:Int))):=by rw [aan rfl];exact abI _ (HS _ _)
   rw [ei]
   rw [Dc] at eF
   have S5:=S.trans s5
   refine vD (λ hn=>?_) (λ hm=>?_)
   . have t2:g9 Ad.cW (.int (0+(i:Int))) (.int g) H E:=by
       rw [aap]
       exact k4 i false X (by rw [eF,aam hn]) W
     have t3:=t2.raised S5
     exact ⟨_,rfl,_,rfl,x,_,D,_,_,rfl,S5 _ _ p,T.bx,T.eL,rfl,t3⟩
   . refine ⟨S5,λ j hj=>?_,_,_,_,rfl⟩
     by_cases e:j<i
     . exact W j e
     . obtain rfl:j=i:=by lia
       rw [eF,aan hm]
  rintro U H2 ⟨B,W,x5,x6,x7,rfl⟩
  have Jd:=B _ _ p
  have Pc:bi K H2 r (a.map V.int)\/bR K H2 r (a.map V.int):=hz.imp B.seq B.tup
  refine ⟨_,rfl,r,_,rfl,Pc,λ A H3 s3 aE=>⟨Mb,λ Y eY=>?_⟩⟩
  have M:=al (o:=.tup [.ref A]) eY
  have e4:(upd H3 Y (.tup [.ref A])) Y=some (.tup [.ref A]):=ag
  generalize upd H3 Y (.tup [.ref A])=H4 at M e4 |-
  have S:=(B.trans s3).trans M
  have OW:=S _ _ p
  refine ⟨_,rfl,x,_,D,_,_,rfl,OW,T.bx,T.dG,rfl,_,rfl,x,_,D,_,_,rfl,OW,T.bx,T.dJ,rfl,_,rfl,_,rfl,G,J,m,q,b,o,O,rfl,hh.same S,hs.same S,so,λ i h=>N.has h,N.HQ,N.Gm,λ qt t pf H5 s5 e1 e2 e3=>?_⟩
  have S5:=S.trans s5
  refine ⟨Y,qt,_,_,rfl,rfl,bR.of (s5 _ _ e4),bR.of e1,nofun,(by show 1+4<=sizeLine;decide),nofun,λ Z pn an=>?_⟩
  have s6:=al (o:=.tup ([.ref A]++[aq (Ord.off o O),.ref t,.ref pf,aq (b.js m (Ord.off o O)).toNat])) an
  have e6:(upd H5 pn (.tup ([.ref A]++[aq (Ord.off o O),.ref t,.ref pf,aq (b.js m (Ord.off o O)).toNat]))) pn=some (.tup ([.ref A]++[aq (Ord.off o O),.ref t,.ref pf,aq (b.js m (Ord.off o O)).toNat])):=ag
  generalize upd H5 pn (.tup ([.ref A]++[aq (Ord.off o O),.ref t,.ref pf,aq (b.js m (Ord.off o O)).toNat]))=H6 at s6 e6 |-
  have S6:=S5.trans s6
  have B0:jg K Ad.Walk x D H6 H6 (J9 G q g):=.start (S6 _ _ p)
  refine ⟨_,rfl,x,_,D,_,rfl,B0.at_,T.bx,T.dJ,lt1000 rfl,?_⟩
  have B1:=B0.put (fs':=bG "place" (.ref pn) (J9 G q g))
  refine ⟨_,rfl,x,_,D,_,_,rfl,B1.at_,T.bx,T.eL,rfl,_,_,rfl,rfl,_,_,B1.at_,lt1000 rfl,?_⟩
  have R:=B1.put (fs':=bG "gone" (.int (g+1)) (bG "place" (.ref pn) (J9 G q g)))
  have nn:∀ z∈a,0<=z:=λ z Se=>by
    obtain ⟨j,hj,rfl⟩:=abp Se
    have:=(Br (W j (by lia))).1
    rw [BO,ar hj] at this
    exact this
  have pF:hG K H6 pn (b.behind m (a.map Int.toNat) o O):=by
    have aH:=s5.trans s6
    refine ⟨A,t,pf,bR.of e6,?_,bR.of (s6 _ _ e2),bR.of (s6 _ _ e3)⟩
    have:=(M.trans aH).tup aE
    rw [ED nn] at this
    exact this
  refine k5 (λ i X=>W i X) _ (λ c u hc n=>R.st c u (S6 c u hc) (λ z=>n (by rw [z];exact aai.mpr rfl))) ((aD.ts S6).trans R.ts) ⟨D,G,pn,R.at_,(hh.same S6).Fx R.st R.ts nx,pF.ts R.ts,nx⟩
def vi (T:Txt K mg Ad):wP P w K mg base Ad.Walk "go" 10 ["self","order","out","bands","warmths"] [] (BM K Ad.aX Ad.Walk Ad.my Ad.iM Ad.cP Ad.cW) :=
 (zS T).Pu T.FJ λ i H=>by
   obtain ⟨U,e,r⟩:=vals1 H
   obtain ⟨l⟩:=i
   have e:l=[U]:=e
   subst e
   exact ⟨[],.nil,λ Z Z Z Z Z Z u h=>by obtain ⟨a,b,c,d,e,rfl⟩:∃ a b c d e,u=[a,b,c,d,e]:=Eb (by simpa using h:u.length=5) λ a b c d e=>⟨a,b,c,d,e,rfl⟩;exact ⟨_,rfl,rfl⟩⟩
def zk {K:aC} {H:Hp} {p q:ai} {l:bg} {Q:VK} (h:bi K H p (l.map aq)) (a:bi K H q []) (k:Q (.bl (decide (l=[]))) H):QJ K (.ref p) (.ref q) H Q:=by
 refine ⟨.list (l.map iS),.list [],Jw h,Gv a gq,gc (n:=1) KS (by decide),gc (n:=1) (show ∀ d∈([]:List PyData),Df 0 d from nofun) (by decide),?_⟩
 have:PyData.eqv (.list (l.map iS)) (.list [])=decide (l=[]):=by cases l<;>simp [PyData.eqv,PyData.eqvAll]
 rw [this];exact k
def Am (T:Txt K mg Ad):Def P w K mg base "_law_mild" 2 ["_law_told","_law_cell"] (JA K):=by
 refine T.Bj.cL rj λ _ _ _ _ _ H G Q E X h=>?_
 obtain ⟨p,m,I,n,c,rfl,ok,O,hT,k⟩:=h
 refine ⟨_,(ac (lH (bB (aM Ao (ak (aQ T) X.m (aa (pv 1) (aa ah (aa ah af)))) ah (aR _)) (am (dh aaN rfl (dP (bS (cT X) (pv 0) bQ (λ _ _=>rfl))) (jq (i:=2) rj.nd) (ac (i8 (mD xa ah) (xN (pv 2) ah set_list))
     (am (i8 ah (xN (pv 2) (mD xa ah) set_list)))))) aK))
     (am (aI (pv 0)))),?_⟩
 try dsimp only [eD,aP]
 obtain ⟨g,D,F,B,W,pb,vm,G,vt,R,C,J,rfl,lp,nd,q⟩:=hT
 refine ⟨λ s f=>(∃ M,A3 (av.Ok n n M) (aD I f) (iT K f p M))/\∃ (v:fR),s=[some (.ref p),some (.int c),v],?_,?_⟩
 case refine_2 =>
   rintro s f ⟨⟨M,Ya,S',A⟩,v,rfl⟩
   exact ⟨_,rfl,k f M Ya S' A⟩
 refine ⟨_,rfl,c,45,3,rfl,by decide,by decide,by decide,λ r a0 a1=>⟨_,_,rfl,rfl,_,rfl,iH (λ h=>?_) (λ h=>?_)⟩⟩
 .
  have L:J.length=n:=by rw [lp,ok.lm]
  refine ⟨_,rfl,p,_,rfl,db C.hp,g,rfl,⟨_,bi.of C.eZ⟩,?_⟩
  have nl:g∉J:=λ z=>by
    obtain ⟨j,hj,e⟩:=abp z
    have JK:j<m.marks.length:=by lia
    exact (q j g m.marks[j] (by rw [aaM hj,e]) (aaM JK)).2.1 (by simp)
  refine qD (K:=K) (a:=g) (xs:=J.map V.ref) (λ i U f=>Ej K I H [p,g,D,F,B] J m.marks i f/\∃ (v:fR),U=[some (.ref p),some (.int c),v])
    ⟨⟨O,bD.refl _,λ b o hb _=>hb,λ j d l t u=>by rw [aam (abN _)];exact (q j d l t u).1⟩,none,rfl⟩ (λ i U f _ e=>bi.of (e.1.but _ _ C.eZ nl)) ?_ ?_
  .
   rintro _ i x U H1 Y ⟨M1,v,rfl⟩
   rw [T1] at Y
   obtain ⟨d,S,rfl⟩:=ab6.mp Y
   have hi:i<J.length:=(RJ.mp S).1
   have y:m.marks[i]?=some (m.marks[i]'(by lia)):=aaM _
   have r1:=M1.rows i d _ S y
   rw [aam (aa9 _)] at r1
   obtain ⟨_,nL,h0,_⟩:=q i d _ S y
   have l2:=(ok.rows _ (aaz y)).two
   have N:0<(List.map V.int (m.marks[i]'(by lia))).length:=by rw [OS];lia
   refine ⟨_,rfl,_,rfl,d,_,0,0,rfl,rfl,r1,Py N,?_⟩
   refine ⟨_,rfl,_,rfl,d,_,-1,_,rfl,rfl,ag,Nu (by rw [abq];exact N),?_⟩
   exact ⟨M1.put nd S y h0 nL,_,rfl⟩
  . rintro U H1 ⟨M1,v,rfl⟩
    rw [OS,L] at M1
    obtain ⟨C1,Km⟩:=M1.told C ok L (λ j d l t u=>⟨(q j d l t u).2.1,(q j d l t u).2.2.2⟩)
    exact ⟨⟨_,Km,M1.same,⟨g,D,F,B,W,pb,_,G,vt,R,C1⟩⟩,_,rfl⟩
 . exact ⟨⟨m,ok,O,⟨g,D,F,B,W,pb,_,G,vt,R,C⟩⟩,_,rfl⟩
def tO (T:Txt K mg Ad):Def P w K mg base "each_choice" 1 ["rows"] (Ci K):=by
 refine T.u7.cL dU λ Z Z Z Z Z H vs Q E hr h=>?_
 obtain ⟨p,X,rows,rfl,hp,t,l4,l6,k⟩:=h
 refine ⟨_,(ac (cM (i:=1) dU.nd (cH (aa (cQ af) af)))
     (ac (dh aaN rfl (dP (pv 0)) (jq (i:=2) dU.nd) (ac (cM (i:=3) dU.nd (cH af))
     (ac (dh aaN rfl (dP (pv 1)) (jq (i:=4) dU.nd) (am (bf (iw aaC adF adE ww (pv 3) (aa (jk ["band"] ["choice"] [4] (.cons ⟨rfl,rfl,.inl rfl⟩ .nil) rfl (dP (pv 2)) (λ Z Z Z Z Z=>(pE (i:=0))) (λ Z Z Z Z Z=>eM) (λ Z Z Z Z Z=>(aw (Az (K:=K) rfl) (pv 1) (cQ (aa (pv 0) af))))) af)))))
     (am (cM (i:=1) dU.nd (pv 3))))))
     (am (aI (pv 1))))),?_⟩
 try dsimp only [eD,aP]
 try (refine c9 ?_;intro Z Z Z Z)
 refine ⟨IK,λ t0 UD=>⟨Mb,λ pc W4=>?_⟩⟩
 have s0:=al (o:=.tup []) UD
 have s1:=al (o:=.lst [.ref t0]) W4
 refine ⟨_,rfl,p,rfl,⟨_,(s0.trans s1).seq hp⟩,?_⟩
 have lx:=t.length
 refine iQ (K:=K) (a:=p) (xs:=X) (λ i U d=>aD H d/\E2 λ q Y=>A3 (d q=some (.lst Y)) (Kj K d Y (cE (rows.take i))) (E3 λ (v2 v3 V:fR)=>U=[some (.ref p),some (.ref q),v2,v3,V]))
   ⟨s0.trans s1,pc,[.ref t0],ag,Refs.snoc .nil (bR.of (s1 _ _ ag)),none,none,none,rfl⟩ (λ i U d Z ⟨R,_⟩=>R.seq hp) ?_ ?_
 .
  rintro i x U H1 hx ⟨G,q,Y,I,l,v2,v3,V,rfl⟩
  obtain ⟨N,r,rfl,er,ab⟩:=t.get hx
  have hi:i<rows.length:=(RJ.mp er).1
  have r6:=l6 r (aaz er)
  have lc:=jv l6 i
  have p6:6 ^ i<=216:=by
    have:=aba (n:=6) (by decide) (show i<=3 by lia)
    lia
  have Zd:cE (rows.take (i+1))=(cE (rows.take i)).flatMap λ c=>r.map λ b=>c++[b]:=by
    rw [di er,j7]
  have L:∀ c∈cE (rows.take i),c.length<=4:=λ c h=>by
    have:=(lD.mp h).1
    rw [aax] at this
    lia
  generalize cE (rows.take i)=cs at l lc Zd L
  rw [Zd]
  clear Zd
  refine ⟨IK,λ u jE=>?_⟩
  have R:=al (o:=.lst []) jE
  refine ⟨_,rfl,q,rfl,⟨_,bi.of (R _ _ I)⟩,?_⟩
  refine iQ (K:=K) (a:=q) (xs:=Y) (λ j U d=>aD H1 d/\∃ e,A3 (d u=some (.lst e)) (Kj K d e ((cs.take j).flatMap λ c=>r.map λ b=>c++[b])) (∃ (V:fR),U=[some (.ref p),some (.ref q),some (.ref N),some (.ref u),V]))
    ⟨R,[],ag,.nil,V,rfl⟩ (λ j U d Z ⟨s,_⟩=>bi.of (s _ _ I)) ?_ ?_
  .
   rintro j y U F hy ⟨S,e,J,m,V,rfl⟩
   obtain ⟨tc,c,rfl,ec,Xj⟩:=l.get hy
   have hj:j<cs.length:=(RJ.mp ec).1
   have L5:bi K F N (r.map aq):=(G.trans S).seq ab
   have ad:bR K F tc (c.map aq):=S.tup Xj
   have lz:e.length<=216 * 6:=by
     rw [m.length]
     refine aaT (oY (k:=6) λ a=>by rw [OS];exact r6) ?_
     rw [aax]
     lia
   rw [di ec,aeh,adR]
   refine ⟨_,rfl,.inl ⟨rfl,_,bi.of J⟩,_,rfl,N,rfl,⟨_,L5⟩,λ D hD=>?_⟩
   refine gK (K:=K) (a:=N) (xs:=r.map aq) (λ b A f g=>A4 (aD F g) (g D=some (.lst A)) (Kj K g A ((r.take b).map λ x=>c++[x])) (∃ v,f=[v,some (.ref tc)]))
     ⟨al hD,ag,.nil,none,rfl⟩ (λ b A f g Z ⟨s,_,_,_⟩=>s.seq L5) ?_ ?_
   .
    rintro b z A f g hb ⟨s,M,O,v,rfl⟩
    obtain ⟨bn,eb,rfl⟩:=d9 hb
    have ae:b<r.length:=(RJ.mp eb).1
    have la:A.length<=6:=by rw [O.length,OS,aax];lia
    refine ⟨_,rfl,_,rfl,Mb,λ tb X2=>?_⟩
    have B:=al (o:=.tup [aq bn]) X2
    refine ⟨tc,tb,_,_,rfl,rfl,(s.trans B).tup ad,bR.of ag,?_,λ t5 H5 W h5=>?_⟩
    . have:=L c (aaz ec)
      exact acd (aO (by rw [OS,aa8];lia))
    . refine ⟨W _ _ (B _ _ M),aaO la (by decide),((s.trans B).trans W).put hD,ag,?_,_,rfl⟩
      rw [di eb,aab]
      have C:bD K H5 (upd H5 D (.lst (A++[.ref t5]))):=cO (W _ _ (B _ _ M)) rfl
      refine Refs.snoc (O.imp λ p a h=>C _ _ ((B.trans W).tup h)) (C _ _ ?_)
      rw [aab]
      exact h5
   .
    rintro A f g ⟨s,M,O,v,rfl⟩
    rw [OS,aa1] at O
    have la:A.length<=6:=by rw [O.length,OS];exact r6
    have UX:=s _ _ J
    refine ⟨u,D,e,A,rfl,rfl,UX,M,acd (aaO (show e.length+A.length<=1302 by lia) (by decide)),?_⟩
    have C:bD K g (upd g u (.lst (e++A))):=cO UX rfl
    exact ⟨(S.trans s).put jE,_,ag,Refs.append (m.imp λ p a h=>C _ _ (s.tup h)) (O.imp λ p a h=>C _ _ h),_,rfl⟩
  . rintro U F ⟨S,e,J,m,V,rfl⟩
    rw [l.length,aa1] at m
    exact ⟨_,rfl,G.trans S,u,e,J,m,_,_,_,rfl⟩
 . rintro U H1 ⟨G,q,Y,I,l,v2,v3,V,rfl⟩
   rw [abM (by lia)] at l
   exact ⟨_,rfl,k q Y H1 G I l⟩
def mS (T:Txt K mg Ad):hZ P w K mg base Ad.Reach "__init__" 1 ["self","hold"] [] (EA P w K Ad.aX Ad.Reach):=by
 refine T.qF.gH oP λ Z Z Z Z Z H V Q E A h=>?_
 obtain ⟨x,D,a,F,m,rfl,t,q,nx,k⟩:=h
 refine ⟨_,(ac (dW (pv 0) (pv 1) rfl)
     (am (dW (pv 0) (KO (P:=P) (w:=w) rfl rfl) rfl))),?_⟩
 try dsimp only [eD,aP]
 have l:jg K Ad.Reach x D H H []:=.start t
 refine ⟨_,rfl,_,rfl,x,_,D,_,rfl,l.at_,T.dF,T.dM,lt1000 rfl,?_⟩
 have g:=l.put (fs':=bG "hold" (.ref a) [])
 intro d j
 have p:=g.new (o:=zR P w d []) j
 refine ⟨_,rfl,x,_,D,_,rfl,p.at_,T.dF,T.dS,lt1000 rfl,?_⟩
 have B:=p.put (fs':=bG "spreads" (.ref d) (bG "hold" (.ref a) []))
 have N:d≠x:=g.ne j
 have b:H d=none:=g.none j
 refine k d _ (λ c u s n=>B.st c u s λ z=>n (aai.mpr z)) B.ts b ⟨⟨D,B.at_⟩,q.Fx B.st B.ts nx,λ z=>?_,[],jP.nil (by rw [aB N];exact ag),aaf _,λ i y f v e=>by cases e⟩
 obtain ⟨o,r⟩:=q.some d z
 rw [b] at r
 cases r
def pO (T:Txt K mg Ad):hZ P w K mg base Ad.Reach "spread" 8 ["self","room","bands","fired"] [] (EM P w K Ad.aX Ad.Reach):=by
 refine T.uC.gH eT λ Z Z Z Z Z H vs Q E p h=>?_
 obtain ⟨x,d,a,I,m,c,i,y,B,b,L,rfl,NV,hL,hc,hi,Jj,lb,hb,hf,Es,Uk,k⟩:=h
 refine ⟨_,(ac (cM (i:=4) eT.nd (cQ (aa (pv 1) (aa (pv 2) (aa (pv 3) af)))))
     (ac (lH (bB (aM (Ew (P:=P) (w:=w) (K:=K) rfl rfl rfl p.Up) (pv 4) (bj (pv 0) rfl) (by with_unfolding_all rfl)) (ac (i8 (ak (ny T) p.m (aa (bj (pv 0) rfl) (aa (pv 1) (aa (pv 2) (aa (pv 3) af))))) (eK (K:=K) (n:=2) rfl rfl (aY (jq (i:=5) eT.nd) (aY (jq (i:=6) eT.nd) eQ))))
     (ac (cM (i:=7) eT.nd (ak (wl T) p.m (aa (bj (pv 0) rfl) (aa (pv 1) (aa (pv 5) (aa (pv 6) af))))))
     (am (KD (P:=P) (w:=w) (K:=K) rfl rfl rfl p.Up (bj (pv 0) rfl) (pv 4) (oS (cw (pv 7)) (ak (uA T) p.m (aa (bj (pv 0) rfl) (aa (pv 1) (aa (pv 5) (aa (pv 6) af))))) dg) rfl)))) aK))
     (am (aI (Lb (P:=P) (w:=w) (K:=K) rfl rfl rfl p.Up (bj (pv 0) rfl) (pv 4) (λ Z Z=>rfl)))))),?_⟩
 try dsimp only [eD,aP]
 try (refine c9 ?_;intro Z Z Z Z)
 refine ⟨_,rfl,_,rfl,_,rfl,Of,λ tk UT=>?_⟩
 have g:=al (o:=.tup [aq i,.ref y,.bl b]) UT
 have r:=NV.same g
 have G:ja K (upd H tk (.tup [aq i,.ref y,.bl b])) (kO i B b) tk:=CY (bR.of ag) (g.tup Jj)
 generalize upd H tk (.tup [aq i,.ref y,.bl b])=H1 at g r G |-
 obtain ⟨⟨D,t⟩,U,nd,A,l,J,W⟩:=id r
 refine ⟨λ C j=>(E2 λ A v=>A7 (nB [d] H1 j) (bD K H1 j) (gF P w K Ad.aX Ad.Reach L j x d a I m (c+1)) (jP P w K j d A) (ja K j (kO i B b) tk) (kQ A (kO i B b)=some v) (fA L j v (ft m i B b)))/\E3 λ (v5 v6 v7:fR)=>C=[some (.ref x),some (aq i),some (.ref y),some (.bl b),some (.ref tk),v5,v6,v7],?_,?_⟩
 .
  refine ⟨_,rfl,_,rfl,x,_,D,_,_,rfl,t,T.dF,T.dS,rfl,d,tk,A,_,rfl,rfl,l,G,_,rfl,?_⟩
  cases e:kQ A (kO i B b) with
  | some v=>exact gm ⟨⟨A,v,λ Z Z h Z=>h,bD.refl _,r.more (abO _),l,G,e,W i B b v e⟩,none,none,none,rfl⟩
  | none =>
    refine jh ?_
    refine ⟨_,rfl,x,_,D,_,_,rfl,t,T.dF,T.dM,rfl,_,rfl,_,rfl,_,rfl,a,I,m,i,y,B,b,rfl,U,hi,.inr (g.tup Jj),lb,hb,hf,λ q q1 q2 H2 s2 e0 e1 e2=>?_⟩
    refine ⟨q,_,rfl,bR.of e0,rfl,_,_,rfl,_,_,rfl,rfl,?_⟩
    have N:=s2 _ _ t
    have rD:=ar hi
    have Dc:m.rows.getD i []=m.rows[i]:=by rw [BO,rD];rfl
    refine ⟨_,rfl,x,_,D,_,_,rfl,N,T.dF,T.dM,rfl,_,rfl,_,rfl,_,rfl,a,I,m,i,m.rows[i],.ref q1,.ref q2,_,_,rfl,U.same s2,rD,hR (bR.of e1),hR (bR.of e2),Es,Uk,λ H3 s3=>?_⟩
    have S:=s2.trans s3
    have L8:=S _ _ t
    have F:ft m i B b=if dE m.rows[i] (eI m i B b) (eE m i B b)=true then some (dX m.rows[i] (eI m i B b) (eE m i B b)) else none:=by unfold ft;rw [Dc]
    cases ew:dE m.rows[i] (eI m i B b) (eE m i B b) with
    | true =>
      rw [ew,aan rfl] at F
      refine ⟨_,rfl,_,rfl,jh ⟨_,rfl,x,_,D,_,_,rfl,L8,T.dF,T.dM,rfl,_,rfl,_,rfl,_,rfl,a,I,m,i,m.rows[i],.ref q1,.ref q2,_,_,rfl,U.same S,rD,hR (bR.of (s3 _ _ e1)),hR (bR.of (s3 _ _ e2)),Es,Uk,λ M H4 nt s4 ht=>?_⟩⟩
      have s:=S.trans s4
      have O:fA L H4 (.ref M) (ft m i B b):=by rw [F];exact ⟨M,rfl,λ z=>hL M z ((g.trans S).free nt),ht⟩
      obtain ⟨X,Y,u,p4⟩:=(r.same s).put (l.same s) J (λ i B f v e=>(W i B f v e).same s) (G.ts s.ts) O
      exact ⟨_,rfl,x,_,D,_,_,rfl,s _ _ t,T.dF,T.dS,rfl,_,rfl,d,tk,A,_,rfl,rfl,l.same s,G.ts s.ts,aaO (aaT J hc) (by decide),⟨_,.ref M,λ c o e n=>Y c o (s c o e) n,s.ts.trans u,X,(l.same s).put (G.ts s.ts),(G.ts s.ts).ts u,by rw [tR,aan rfl],p4⟩,_,_,_,rfl⟩
    | false =>
      rw [ew,aam aah] at F
      have O:fA L H3 .cn (ft m i B b):=by rw [F];rfl
      obtain ⟨X,Y,u,p4⟩:=(r.same S).put (l.same S) J (λ i B f v e=>(W i B f v e).same S) (G.ts S.ts) O
      exact ⟨_,rfl,_,rfl,gm ⟨_,rfl,x,_,D,_,_,rfl,L8,T.dF,T.dS,rfl,_,rfl,d,tk,A,_,rfl,rfl,l.same S,G.ts S.ts,aaO (aaT J hc) (by decide),⟨_,.cn,λ c o e n=>Y c o (S c o e) n,S.ts.trans u,X,(l.same S).put (G.ts S.ts),(G.ts S.ts).ts u,by rw [tR,aan rfl],p4⟩,_,_,_,rfl⟩⟩
 .
  rintro C H2 ⟨⟨WE,v,b2,t2,R,V,QR,ev,E6⟩,v5,v6,v7,rfl⟩
  obtain ⟨yB,N⟩:=R.ins
  refine ⟨_,rfl,x,_,yB,_,_,rfl,N,T.dF,T.dS,rfl,_,rfl,d,tk,WE,_,v,rfl,rfl,V,QR,ev,?_⟩
  exact k v H2 (λ c o e n=>b2 c o (g c o e) n) (g.ts.trans t2) R E6
def jQ (T:Txt K mg Ad):hZ P w K mg base Ad.Reach "states_behind" 9 ["self","state","order"] [] (FE P w K Ad.aX Ad.Reach):=by
 refine T.kM.gH bW λ Z Z Z Z Z H vs Q E C h=>?_
 obtain ⟨x,d,a,F,m,c,p,st,o,L,rfl,NV,hL,hc,hs,so,ow,tn,A9,k1,k2⟩:=h
 refine ⟨_,(ac (cM (i:=3) bW.nd (cH af))
     (ac (dh aaN rfl (dP (ak (ui T) C.m (aa (ak (tL T) C.m (aa (bj (pv 0) rfl) (aa (pv 1) (aa (pv 2) af)))) af))) (jq (i:=4) bW.nd) (ac (cM (i:=5) bW.nd (aw gY (pv 2) (mD qM (pv 4))))
     (ac (qT (yi:=6) ["room"] ["self","state","burning"] [0,1,5] (.cons ⟨rfl,rfl,.inl rfl⟩ (.cons ⟨rfl,rfl,.inl rfl⟩ (.cons ⟨rfl,rfl,.inl rfl⟩ .nil))) rfl (bN rfl T.cK (aa (cS (bj (pv 0) rfl) T.aG (cq T) .nil C.m) af)) (λ Z Z Z Z Z=>(pE (i:=0))) (λ Z Z Z Z Z=>eM) (λ Z Z Z Z Z=>(aW (pv 1) T.dF (pO (P:=P) (w:=w) T) .nil C.m (aa (pv 0) (aa (aF (f7 (K:=K) rfl) (pv 2) ah) (aa (ak (eG T) C.m (aa (pv 3) (aa (pv 0) af))) af))))) bW.nd (lc rfl))
     (ac (bB (aM (M8 (cT C)) dg (pv 6) (by with_unfolding_all rfl)) (am (aI dg)) aK)
     (ac (cM (i:=7) bW.nd (ak (jK T) C.m (aa (bj (pv 0) rfl) (aa (pv 1) (aa (pv 2) (aa (pv 4) af))))))
     (am (bf (iw aaC adF adE ww (pv 3) (aa (jk ["bands"] ["stoves"] [7] (.cons ⟨rfl,rfl,.inl rfl⟩ .nil) rfl (dP (ak (tO T) C.m (aa (pv 6) af))) (λ Z Z Z Z Z=>(pE (i:=0))) (λ Z Z Z Z Z=>eM) (λ Z Z Z Z Z=>(aw (Az (K:=K) rfl) (cQ (aa (pv 0) af)) (pv 1)))) af)))))))))
     (am (aI (pv 3))))),?_⟩
 try dsimp only [eD,aP]
 try (refine c9 ?_;intro Z Z Z Z)
 obtain ⟨Z,Z,Z,q3,q4⟩:=id NV.hold
 refine ⟨IK,λ f R=>?_⟩
 have s1:=al (o:=.lst []) R
 have e1:(upd H f (.lst [])) f=some (.lst []):=ag
 generalize upd H f (.lst [])=H1 at s1 e1 |-
 obtain ⟨dx,hx⟩:=NV.ins
 refine ⟨_,rfl,x,_,dx,_,_,rfl,s1 _ _ hx,T.dF,T.dM,rfl,_,rfl,_,rfl,a,F,m,p,st,o,rfl,NV.hold.same s1,hs.same s1,so,ow,λ H2 s2=>?_⟩
 have S2:=s1.trans s2
 have OY:st.may m o<16:=Cu q3
 have ol:=Gq OY
 refine ⟨st.may m o,rfl,by lia,ol.1,λ pl H3 jE s3 W=>⟨pl,rfl,⟨_,bi.of W⟩,?_⟩⟩
 have S:=S2.trans s3
 have e3:H3 f=some (.lst []):=s3 _ _ (s2 _ _ e1)
 have aH:pl≠f:=(ax (s2 _ _ e1) jE).symm
 have Vz:f∉F:=λ z=>by
   obtain ⟨u,hu⟩:=NV.hold.some f z
   rw [R] at hu;cases hu
 have P0:gF P w K Ad.aX Ad.Reach (f::L) H3 x d a F m c:=(NV.new R).same S
 obtain ⟨a2,RS,Z⟩:=P0.U5
 have aE:pl≠d:=λ z=>by rw [z,RS.ob] at W;cases W
 have Qm:f≠d:=λ z=>by rw [z,RS.ob] at e3;cases e3
 have UC:=hs.same S
 have lo:(gJ m st o).length<=16:=ol.2
 have W:H3 pl=some (.lst ((gJ m st o).map aq)):=W
 unfold EN at k2
 generalize gJ m st o=O at W lo tn k1 k2
 refine qD (K:=K) (a:=pl) (xs:=O.map aq) (λ i U H'=>A6 (nB [d,f] H3 H') (bD K H3 H') (gF P w K Ad.aX Ad.Reach (f::L) H' x d a F m (c+4 * i)) (∃ X,H' f=some (.lst X)/\zG K H' X ((O.take i).flatMap (mn m st o))) (∀ out∈O.take i,kJ m st (Ord.off o out)=true) (E4 λ (v4 v5 v6 v7:fR)=>U=[some (.ref x),some (.ref p),some (aq o),some (.ref f),v4,v5,v6,v7]))
   ⟨λ Z Z h Z=>h,bD.refl _,P0,⟨[],e3,Refs.nil⟩,λ Z h=>absurd h (by simp),none,none,none,none,rfl⟩ (λ i U H' Z ⟨b,_,_,_,_,_⟩=>bi.of (b _ _ W (by simp [aE,aH]))) ?_ ?_
 .
  rintro Z i v U H4 hv ⟨b4,t4,J,⟨X,Lw,Nx⟩,qN,v4,v5,v6,v7,rfl⟩
  obtain ⟨out,eo,rfl⟩:=d9 hv
  have hi:i<O.length:=(RJ.mp eo).1
  have Ru:=tn out (aaz eo)
  have B:∀ i,(Ord.off o out).testBit i=true->m.has i=true:=λ i h=>(Ru.KM (Ru.LR h).1).2
  refine ⟨_,rfl,_,rfl,_,rfl,_,_,rfl,rfl,λ y ey=>?_⟩
  obtain rfl:y=((Ord.off o out:Nat):Int):=by rw [ey];exact gI _ _
  obtain ⟨Yk,OW⟩:=J.ins
  obtain ⟨⟨UZ,Z,Z,Z,Z,Z,Z,Z,Z,Z,Vs,Z⟩,Z⟩:=id J.hold
  refine ⟨_,rfl,x,_,Yk,_,_,rfl,OW,T.dF,T.dM,rfl,a,UZ,_,rfl,Vs,rfl,a,F,m,rfl,J.hold,_,rfl,by lia,by lia,λ D V=>?_⟩
  have QV:hG K H4 p st:=UC.ts t4
  obtain ⟨pb,pw,pf,h0,aj,NL,a1⟩:=id QV
  obtain ⟨a3,ZB,Z⟩:=J.U5
  have nD:D≠d:=(ax ZB.ob V).symm
  have an:D∉F:=λ z=>by
    obtain ⟨u,hu⟩:=J.hold.some D z
    rw [V] at hu;cases hu
  refine eP (lo:=0) (n:=m.rows.length) (λ j A g H5=>A6 (nB [d] H4 H5) (bD K H4 H5) (gF P w K Ad.aX Ad.Reach (D::f::L) H5 x d a F m (c+4 * i+j)) (H5 D=some (.lst A)) (Paired (fA (D::f::L) H5) A ((List.range j).map (va m st (Ord.off o out)))) (∃ v,g=[v,some (.ref x),some (.ref p),some (aq (Ord.off o out))]))
    ⟨λ b u h Z=>al V b u h,(al V).ts,(J.new V).same (al V),ag,.nil,none,rfl⟩ ?_ ?_
  .
   rintro j A g H5 hj ⟨N,G,M,Rz,Y,v,rfl⟩
   obtain ⟨VG,Pf⟩:=M.ins
   obtain ⟨a4,Tq,Z⟩:=M.U5
   have la:A.length=j:=by rw [acb Y,OS,aaw]
   have JT:=N _ _ Lw (by simp [Qm])
   obtain ⟨Es,Uk⟩:=A9 j ((Ord.off o out).testBit j) hj (B j)
   refine ⟨_,rfl,x,VG,_,rfl,Pf,rfl,_,rfl,_,rfl,p,_,_,_,rfl,rfl,.inr (G _ _ h0),rfl,_,rfl,_,rfl,Ord.off o out,j,by rw [aap];rfl,?_⟩
   refine ⟨x,d,a,F,m,c+4 * i+j,j,pb,st.bL,(Ord.off o out).testBit j,D::f::L,by rw [aap];rfl,M,?_,by lia,hj,G _ _ aj,so.lb,λ j hj=>by have:=so.band j hj;unfold gN at this;rw [BO];exact this,λ z=>?_,Es,Uk,λ v6 H6 b6 t6 ad Xu=>?_⟩
   .
    intro b hb
    rcases aaa.mp hb with rfl|hb
    . rw [Rz];exact nofun
    rcases aaa.mp hb with rfl|hb
    . rw [JT];exact nofun
    . by_cases z:b=d
      . rw [z,Tq.ob];exact nofun
      . cases e:H b with
        | none=>exact absurd e (hL b hb)
        | some u=>rw [N b u (b4 b u (S b u e) (by simp only [aaa,aae,aa2,ach];exact ⟨z,ax e R⟩)) (by simp [z])];exact nofun
   . obtain ⟨z',ez⟩:=l8 (B j z)
     exact ⟨z',by rw [jr (by lia),ez]⟩
   .
    have Xc:=b6 _ _ Rz (by simp [nD])
    obtain ⟨a5,Y5,Z⟩:=ad.U5
    have ks:∀ {v r},fA (D::f::L) H6 v r->fA (D::f::L) (upd H6 D (.lst (A++[v6]))) v r:=λ h=>h.but Y5.ob nu (λ c u e Z n=>by rw [aB (λ z=>n (by simp [z]))];exact e) λ Z h=>h
    refine ⟨Xc,aO (by lia),λ b u h n=>by rw [aB (ax h V)];exact b6 b u (N b u h n) n,G.trans (t6.trans (cO Xc rfl)),ad.write Xc (by simp) an,ag,?_,_,rfl⟩
    rw [aaU,aab]
    exact adj (Paired.HV Y λ a r h=>ks (h.but Tq.ob nu (λ c u e n Z=>b6 c u e (by simp [n])) λ Z h=>h)) (ks Xu)
  .
   rintro A g H5 ⟨N,G,M,Rz,Y,v,rfl⟩
   have Hl:∀ v∈A,v = .cn\/∃ a ys,v = .ref a/\bi K H5 a ys:=λ v hv=>(Ea Y v hv).imp id λ ⟨q,ys,e,h⟩=>⟨q,ys,e,bi.of h⟩
   have JT:=N _ _ Lw (by simp [Qm])
   obtain ⟨VG,Pf⟩:=M.ins
   have B5:nB [d] H H5:=λ b u h n=>N b u (b4 b u (S b u h) (by
     simp only [aaa,aae,aa2,ach] at n |-
     exact ⟨n,ax h R⟩)) n
   have T5:bD K H H5:=S.ts.trans (t4.trans G)
   refine ⟨_,rfl,D,A,rfl,rfl,bi.of Rz,Hl,_,rfl,iH (λ hn=>?_) (λ hn=>?_)⟩
   . exact k1 ⟨out,aaz eo,wF.mp ((uN Y).mp hn)⟩ H5 B5 T5 ((M.less λ b h=>aak _ (aak _ h)).more (by lia))
   have nn:none∉(List.range m.rows.length).map (va m st (Ord.off o out)):=λ z=>hn ((uN Y).mpr z)
   have rD:=zO Y nn
   rw [Kc] at rD
   have sf:kJ m st (Ord.off o out)=true:=by
     cases e:kJ m st (Ord.off o out) with
     | true=>rfl
     | false=>exact absurd (wF.mpr e) nn
   refine ⟨_,rfl,x,_,VG,_,_,rfl,Pf,T.dF,T.dM,rfl,_,rfl,_,rfl,_,rfl,a,F,m,p,st,o,out,rfl,M.hold,QV.ts G,so,λ i h=>Ru.has h,Ru.HQ,Ru.Gm,λ qt a0 wV H6 s6 g1 g2 g3=>?_⟩
   have lr:(jt m st (Ord.off o out)).length=m.rows.length:=by unfold jt;rw [OS,aaw]
   refine ⟨_,rfl,.inl ⟨rfl,_,bi.of (s6 _ _ JT)⟩,_,rfl,D,A,jt m st (Ord.off o out),rfl,bi.of (s6 _ _ Rz),rD.imp λ q r h=>bi.of (s6 _ _ h),by lia,zV q4,λ qc ys H7 s7 ab xk=>⟨qc,rfl,⟨_,bi.of ab⟩,λ D2 iP=>?_⟩⟩
   have bl:=nF q4 q3 (s:=st) (o:=o) out
   unfold mn at bl
   rw [OS] at bl
   have eb:mn m st o out=(cE (jt m st (Ord.off o out))).map λ c=>st.behind m c o out:=rfl
   have l4:∀ c∈cE (jt m st (Ord.off o out)),c.length<=4:=λ c h=>by have:=(lD.mp h).1;lia
   generalize cE (jt m st (Ord.off o out))=cs at xk bl eb l4
   refine gK (K:=K) (a:=qc) (xs:=ys) (λ j I g l=>A4 (aD H7 l) (l D2=some (.lst I)) (zG K l I ((cs.take j).map λ c=>st.behind m c o out)) (∃ v,g=[v,some (.ref qt)]))
     ⟨al iP,ag,Refs.nil,none,rfl⟩ (λ j I g l Z ⟨s8,_,_,_⟩=>bi.of (s8 _ _ ab)) ?_ ?_
   .
    rintro j z I g l hz ⟨s8,XB,sV,v,rfl⟩
    obtain ⟨tc,cc,rfl,ec,Xj⟩:=xk.get hz
    have hj:j<cs.length:=(RJ.mp ec).1
    have la:I.length<=1296:=by rw [sV.length,OS,aax];lia
    have ZE:=s7.trans s8
    refine ⟨_,rfl,Mb,λ tb X2=>?_⟩
    have s9:=al (o:=.tup [.ref tc]) X2
    refine ⟨_,rfl,tb,qt,_,_,rfl,rfl,bR.of ag,bR.of (s9 _ _ (ZE _ _ g1)),(by show 1+4<=sizeLine;decide),λ tq Jo wD ae=>?_⟩
    have QB:=wD _ _ (s9 _ _ XB)
    have t:bD K Jo (upd Jo D2 (.lst (I++[.ref tq]))):=cO QB rfl
    have IZ:=s9.trans wD
    refine ⟨QB,aaO la (by decide),(s8.trans IZ).put iP,ag,?_,_,rfl⟩
    rw [di ec,aab]
    refine Refs.snoc (sV.imp λ p a h=>(h.same IZ).ts t) ?_
    exact ⟨tc,a0,wV,t _ _ ae,t _ _ ((s8.trans IZ).tup Xj),t _ _ ((ZE.trans IZ).tup (bR.of g2)),t _ _ ((ZE.trans IZ).tup (bR.of g3))⟩
   .
    rintro I g l ⟨s8,XB,sV,v,rfl⟩
    rw [xk.length,aa1] at sV
    rw [<- eb] at sV
    have S8:=(s6.trans s7).trans s8
    have OL:=S8 _ _ JT
    have lx:X.length<=16 * 1296:=by
      rw [Nx.length]
      refine aaT (oY (k:=1296) (nF q4 q3)) ?_
      rw [aax]
      exact ad3 1296 (aaT (Nat.min_le_right _ _) lo)
    have la:I.length<=1296:=by rw [sV.length];exact nF q4 q3 out
    refine ⟨f,D2,X,I,rfl,rfl,OL,XB,acd (aaO (show X.length+I.length<=22032 by lia) (by decide)),?_⟩
    have t:bD K l (upd l f (.lst (X++I))):=cO OL rfl
    refine ⟨λ b u h n=>?_,t4.trans (G.trans (S8.ts.trans t)),(((M.less λ b h=>aak _ h).same S8).write OL (by simp) Vz).more (by lia),⟨_,ag,?_⟩,λ Xt h'=>?_,_,_,_,_,rfl⟩
    . have n':=n
      simp only [aaa,aae,aa2,ach] at n'
      rw [aB n'.2]
      exact S8 _ _ (N _ _ (b4 b u h n) (by simp [n'.1]))
    . rw [di eo,aeh,adR]
      exact Refs.append (Nx.imp λ p a h=>(((h.ts G).same S8).ts t)) (sV.imp λ p a h=>h.ts t)
    . rw [di eo] at h'
      rcases aaR.mp h' with z|z
      . exact qN Xt z
      . rw [aai.mp z];exact sf
 .
  rintro U H4 ⟨b4,t4,J,⟨X,Lw,Nx⟩,qN,v4,v5,v6,v7,rfl⟩
  rw [OS,aa1] at Nx qN
  refine ⟨_,rfl,k2 qN f X H4 R (λ b u h n=>b4 b u (S b u h) ?_) (S.ts.trans t4) ((J.less λ b h=>aak _ h).more (by rw [OS];lia)) Lw Nx⟩
  simp only [aaa,aae,aa2,ach] at n |-
  exact ⟨n,ax h R⟩
def rm (T:Txt K mg Ad):Def P w K mg base "outcomes" 10 ["hold","state","order"] (Ag K Ad.aX):=by
 refine T.Cn.cL y9 λ Z Z Z Z Z H vs Q E i h=>?_
 obtain ⟨a,f,m,p,y,o,rfl,g,l,v,W,tn,A,U,V⟩:=h
 refine ⟨_,(ac (bf (ak (dZ T) i.m (aa (pv 0) (aa (pv 1) af))))
     (am (aI (aW (uE T.GZ (mS (P:=P) (w:=w) T) .nil i.m T.JJ (aa (pv 0) af)) T.dF (jQ (P:=P) (w:=w) T) .nil i.m (aa (pv 1) (aa (pv 2) af)))))),?_⟩
 try dsimp only [eD,aP]
 refine ⟨_,rfl,_,rfl,a,f,m,p,y,rfl,g,l,v,λ c s=>?_⟩
 refine ⟨_,rfl,λ x D j R n=>?_⟩
 have t:aD c (upd (upd c D (.own x)) x (.ins Ad.Reach D [])):=(al R).trans (al (by first|(rw [aB n];exact j)|(rw [aB n.symm];exact j)))
 have J:(upd (upd c D (.own x)) x (.ins Ad.Reach D [])) x=some (.ins Ad.Reach D []):=ag
 generalize upd (upd c D (.own x)) x (.ins Ad.Reach D [])=H2 at t J |-
 have S:=s.trans t
 have X:H x=none:=s.free j
 refine ⟨x,D,a,f,m,rfl,J,g.same S,λ z=>?_,λ d C I Y O k=>⟨rfl,?_⟩⟩
 . obtain ⟨u,r⟩:=g.some x z
   rw [X] at r;cases r
 obtain ⟨e,L⟩:=k.ins
 have F:∀ {H4},nB [d] C H4->aD H H4:=λ B b u h=>B b u (I b u (S b u h) (by simp only [aai];exact ax h X)) (by simp only [aai];exact ax (S b u h) O)
 exact ⟨x,e,_,rfl,L,rfl,_,rfl,_,rfl,x,d,a,f,m,0,p,y,o,[],rfl,k,λ b h=>absurd h aae,by lia,(l.same S).ts Y,v,W,tn,A,λ h H4 B t4 G=>U h H4 (F B),λ h q xs H4 Z B t4 G M N=>V h q xs H4 (F B) M N⟩
def Iu {tm:av} {n o out:Nat} {s:dD} (ok:tm.Ok n n) (N:n<=4) (S:gW (tm.m2 n n) s) (B:out<16) (H:o∈s.orders (tm.m2 n n)) (b:out &&& s.may (tm.m2 n n) o=out):ck (tm.m2 n n) s o out:=by
 obtain ⟨f,c,F,a⟩:=eR tm n n
 have d:(tm.m2 n n).rows.length=n:=by rw [f,OS,aax,ok.lm];lia
 rw [CG ok N S,aaW,aaH,zr,Kk ok S] at H
 refine ⟨by lia,S,H.2,H.1,B,λ r h=>?_,λ r=>(Mr ok r).2.1,λ r=>(Mr ok r).1,by rw [F];exact ok.bounds.2.1.1,by rw [a];exact ok.bounds.2.2.1⟩
 have:(out &&& s.may (tm.m2 n n) o).testBit r=true:=by rw [b];exact h
 rw [aa5] at this
 have:=(aaq _ _ ▸ this:out.testBit r=true/\(s.may (tm.m2 n n) o).testBit r=true).2
 unfold dD.may at this
 rw [Ord.iI] at this
 simp only [aaq,aby,aaS] at this
 exact ⟨this.2.1.1,this.2.1.2,this.2.2⟩
def sW (T:Txt K mg Ad):oX P w K mg base Ad.Walk "leave" 10 ["self","order","out","warmths"] [] (tG K Ad.aX Ad.Walk):=by
 refine T.xP.Hn fY (λ vs H Q E h=>?_) (λ Z Z Z Z Z Z us hl=>Dm hl λ Z Z Z Z=>rfl) (λ f Z Z Z s H vs Q E hr h=>?_)
 . obtain ⟨x,W,m,st,g,o,O,pw,Y,l,rfl,Z⟩:=h
   rfl
 .
  obtain ⟨x,W,m,st,g,o,O,pw,Y,l,rfl,hw,so,Bb,hp,dl,ll,YQ,A9,ho,hf,B,yx,Xx,k⟩:=h
  refine ⟨_,(ac (bf (n8 (pv 0) T.bx (gn T).y hr.m (sL λ Z Z Z z=>z) (aa (pv 1) (aa (pv 2) af))))
    (ac (dh PassesOwn.leaving rfl (Cw rfl T.gf (aa (pv 3) af)) (eK (K:=K) (n:=2) rfl rfl (aY (jq (i:=4) fY.nd) (aY (jq (i:=5) fY.nd) eQ))) (ac (i8 (aW (pv 0) T.bx (mG T) .nil hr.m (aa (pv 4) (aa (aw gY (pv 1) (mD qM (pv 2))) af))) (eK (K:=K) (n:=2) rfl rfl (aY (jq (i:=6) fY.nd) (aY (jq (i:=7) fY.nd) eQ))))
    (am (bf (n8 (pv 0) T.bx (ge T).y hr.m (sL λ Z Z Z z=>z) (aa (pv 4) (aa (pv 6) (aa (pv 7) (aa (pv 5) af)))))))))
    (ac (bB (cw (br (qA rfl) (by rfl) T.Ig Bw (aa (jk ["room","warmth"] ["self"] [0] (.cons ⟨rfl,rfl,.inl rfl⟩ .nil) rfl (Cw rfl T.gf (aa (pv 3) af)) (λ Z Z Z Z Z=>(eK (K:=K) (n:=2) rfl rfl (aY (pE (i:=0)) (aY (pE (i:=1)) eQ)))) (λ Z Z Z Z Z=>eM) (λ Z Z Z Z Z=>(ak (wl T) hr.m (aa (JX (K:=K) rfl (pv 2) rfl) (aa (pv 0) (aa (pv 1) (aa (pv 1) af))))))) af))) (am (o8 rfl abC T.HD T.IU (yb λ Z Z Z z=>z) (aa bQ af))) aK)
    (ac (wE (pv 0) ah Gb)
    (am (dW (pv 0) iC rfl)))))),?_⟩
  try dsimp only [eD,aP]
  try (refine lN ?_;intro Z Z Z Z Z Z)
  obtain ⟨G,hd,q,L,hh,hs,nx⟩:=id hw
  obtain ⟨⟨UZ,Z,Z,Z,Z,Z,Z,Z,Z,Z,ab,Z⟩,q1,q2,q3,q4⟩:=id hh
  refine ⟨_,rfl,x,G,_,rfl,L,rfl,_,rfl,_,rfl,x,W,m,st,g,o,O,rfl,hw,so,Bb,λ h=>absurd ho h,λ Z h=>absurd hf h,λ Z Z H1 s1=>?_⟩
  have ly:Y.length=m.rows.length:=by rw [dl.length,OS,ll]
  have gv:∀ {p:Hp},aD H p->∀ i,i<m.rows.length->∃ v,Y[i]?=some v/\Dn K p (dO (l.getD i (0,1))) v:=λ {p} S i b=>by
    have R:i<l.length:=by lia
    exact (bX.same S _ dl).get (i:=i) (d:=dO (l.getD i (0,1))) (by rw [T1,ar R,BO,ar R];rfl)
  have OB:∀ i,i<m.rows.length->dH 1000 (l.getD i (0,1)):=λ i b=>by
    have R:i<l.length:=by lia
    rw [BO,ar R];exact YQ _ (aag R)
  refine ⟨_,rfl,pw,rfl,⟨Y,s1.seq hp⟩,?_⟩
  refine NX (sq:=bi K) (xs:=Y) (λ i U p=>aD H p/\E4 λ x4 x5 x6 x7=>U=[some (.ref x),some (aq o),some (aq O),some (.ref pw),x4,x5,x6,x7]) ⟨s1,none,none,none,none,rfl⟩ (λ i U p Z ⟨s,_⟩=>s.seq hp) ?_ ?_
  .
   rintro i v r U H2 X eY ⟨C,x4,x5,x6,x7,rfl⟩
   have b:i<m.rows.length:=by rw [<- ly];exact (RJ.mp X).1
   have I:=al (o:=.tup [aq i,v]) eY
   have k3:(upd H2 r (.tup [aq i,v])) r=some (.tup [aq i,v]):=ag
   generalize upd H2 r (.tup [aq i,v])=J at I k3 |-
   have F:=C.trans I
   have L8:=F _ _ L
   refine ⟨r,_,rfl,bR.of k3,rfl,_,_,rfl,_,_,rfl,rfl,?_⟩
   refine ⟨_,rfl,x,G,_,rfl,L8,rfl,_,rfl,_,rfl,_,rfl,_,rfl,_,_,rfl,rfl,λ y ey=>?_⟩
   obtain rfl:y=((Ord.off o O:Nat):Int):=by rw [ey];exact gI _ _
   refine ⟨x,W,m,st,g,i,Ord.off o O,rfl,hw.same F,so,b,B i,λ qq q1 q2 H4 M e0 e1 e2=>?_⟩
   refine ⟨qq,_,rfl,bR.of e0,rfl,_,_,rfl,_,_,rfl,rfl,?_⟩
   have t:=F.trans M
   obtain ⟨Es,Me⟩:=A9 i ((Ord.off o O).testBit i) b (B i)
   obtain ⟨N,ev,dv⟩:=gv t i b
   obtain rfl:N=v:=aaj (ev.symm.trans X)
   refine ⟨_,rfl,x,G,_,rfl,t _ _ L,rfl,_,rfl,_,rfl,_,rfl,_,rfl,x,W,m,st,g,i,.ref q1,.ref q2,N,_,_,_,rfl,hw.same t,hR (bR.of e1),hR (bR.of e2),dv,Es,Me,OB i b,λ c=>?_,λ c H5 s5=>⟨t.trans s5,_,_,_,_,rfl⟩⟩
   rw [yx i b] at c
   cases c
  .
   rintro U H2 ⟨C,x4,x5,x6,x7,rfl⟩
   have Jd:=C _ _ L
   refine ⟨_,rfl,pw,rfl,⟨Y,C.seq hp⟩,λ D hD=>?_⟩
   refine kc (sq:=bi K) (a:=pw) (xs:=Y) (λ j A U p=>A4 (aD H2 p) (p D=some (.lst A)) (A=((List.range j).map λ j=>V.bl (dE (m.rows.getD j []) (l.getD j (0,1)) (l.getD j (0,1))))) (E2 λ v0 v1=>U=[v0,v1,some (.ref x)]))
     ⟨al hD,ag,rfl,none,none,rfl⟩ (λ i A U p Z e=>e.1.seq (C.seq hp)) ?_ ?_
   .
    rintro i v r A U J X eY ⟨I,iJ,rfl,v0,v1,rfl⟩
    have b:i<m.rows.length:=by rw [<- ly];exact (RJ.mp X).1
    have M:=al (o:=.tup [aq i,v]) eY
    have k4:(upd J r (.tup [aq i,v])) r=some (.tup [aq i,v]):=ag
    generalize upd J r (.tup [aq i,v])=H4 at M k4 |-
    have t:=C.trans (I.trans M)
    obtain ⟨N,ev,dv⟩:=gv t i b
    obtain rfl:N=v:=aaj (ev.symm.trans X)
    have Dc:m.rows[i]?=some (m.rows.getD i []):=by rw [BO,ar b];rfl
    refine ⟨r,_,rfl,bR.of k4,rfl,_,_,rfl,_,_,rfl,rfl,?_⟩
    refine ⟨_,rfl,x,_,G,_,_,rfl,t _ _ L,T.bx,T.dG,rfl,_,rfl,_,rfl,_,rfl,hd,W,m,i,_,N,N,_,_,rfl,hh.same t,Dc,dv,dv,OB i b,OB i b,λ H5 s5=>⟨s5 _ _ (M _ _ iJ),aO (by rw [OS,aaw];lia),(I.trans (M.trans s5)).put hD,ag,?_,_,_,rfl⟩⟩
    rw [aaU,aab];rfl
   .
    rintro A U J ⟨I,iJ,rfl,v0,v1,rfl⟩
    have F:=C.trans I
    refine ⟨D,(List.range Y.length).map λ j=>dE (m.rows.getD j []) (l.getD j (0,1)) (l.getD j (0,1)),rfl,by rw [abP];exact bi.of iJ,_,rfl,?_⟩
    have ea:((List.range Y.length).map λ j=>dE (m.rows.getD j []) (l.getD j (0,1)) (l.getD j (0,1))).all id=false:=by
      obtain ⟨j,hj,e⟩:=Xx
      refine Bool.eq_false_iff.mpr λ z=>?_
      have:=abE.mp z _ (aat.mpr ⟨j,aaH.mpr (by lia),rfl⟩)
      rw [e] at this
      cases this
    rw [ea]
    refine gm ?_
    have B0:jg K Ad.Walk x G J J (J9 hd q g):=.start (F _ _ L)
    refine ⟨_,rfl,x,_,G,_,_,rfl,B0.at_,T.bx,T.eL,rfl,_,_,rfl,rfl,_,_,B0.at_,lt1000 rfl,?_⟩
    have B1:=B0.put (fs':=bG "gone" (.int (g+1)) (J9 hd q g))
    refine ⟨_,rfl,x,_,G,_,rfl,B1.at_,T.bx,T.jF,lt1000 rfl,?_⟩
    have B2:=B1.put (fs':=bG "ended" (.bl true) (bG "gone" (.int (g+1)) (J9 hd q g)))
    exact k _ (λ c u hc n=>B2.st c u (F c u hc) (λ z=>n (by rw [z];exact aai.mpr rfl))) ((aD.ts F).trans B2.ts)
def yo (T:Txt K mg Ad):Def P w K mg base "_law_warm" 2 ["_law_num","_law_parts","_law_scale_here"] (GJ K):=by
 refine T.uP.cL gd λ Z Z Z Z Z H V Q E x h=>?_
 obtain ⟨n,parts,p,z,rfl,a,ok,B,A,b,k⟩:=h
 refine ⟨_,(ac (cM (i:=3) gd.nd (aw aL (aw aL (pv 0) (aF ay (pv 2) ah)) (aF ay (pv 2) ah)))
     (ac (cM (i:=3) gd.nd (aw aJ (pv 3) (aw aL (aw aL (pv 1) (aF ay (pv 2) ah)) (aF ay (pv 2) ah))))
     (am (aI (ak (gu T) x.m (aa (pv 3) (aa (aw aL (aw aL (pv 1) (aF ay (pv 2) ah)) (aF ay (pv 2) ah)) af))))))),?_⟩
 try dsimp only [eD,aP]
 try (refine c9 ?_;intro Z Z Z Z)
 refine ⟨_,rfl,_,rfl,_,_,_,_,rfl,rfl,.inr a,rfl,_,_,rfl,rfl,⟨_,_,B,ok.ba,by decide⟩,λ D e=>⟨_,rfl,_,_,_,_,rfl,rfl,.inr a,rfl,_,_,rfl,rfl,⟨90,_,by rw [e];exact B.mul ok.ba,ok.bd,by decide⟩,λ G j=>?_⟩⟩
 refine ⟨_,rfl,_,rfl,_,rfl,_,_,_,_,rfl,rfl,.inr a,rfl,_,_,rfl,rfl,⟨_,_,b,ok.bt,by decide⟩,λ I c=>⟨_,rfl,_,_,_,_,rfl,rfl,.inr a,rfl,_,_,rfl,rfl,⟨90,_,by rw [c];exact b.mul ok.bt,ok.bb,by decide⟩,λ J l=>⟨_,_,rfl,rfl,λ X o=>?_⟩⟩⟩
 refine ⟨_,rfl,_,rfl,_,rfl,_,_,_,_,rfl,rfl,.inr a,rfl,_,_,rfl,rfl,⟨_,_,b,ok.bb,by decide⟩,λ L d=>⟨_,rfl,_,_,_,_,rfl,rfl,.inr a,rfl,_,_,rfl,rfl,⟨90,_,by rw [d];exact b.mul ok.bb,ok.bd,by decide⟩,λ C s=>?_⟩⟩
 have t:X=cB n parts z:=by rw [o,j,e,l,c];rfl
 have v:C=cg parts z:=by rw [s,d];rfl
 subst t v
 have f:=dR ok A
 refine ⟨_,_,rfl,f,?_,λ q r u g F S y=>k u g S ?_⟩
 . exact ((b.mul ok.bb).mul ok.bd).mono (by decide)
 .
  have:=F.nf f
  rw [y]
  unfold aT
  rw [<- this]
def lv (T:Txt K mg Ad):Def P w K mg base "_law_lean" 2 ["_law_cell","_law_k","_law_parts"] EY:=by
 refine T.Bp.cL qV λ Z Z Z Z Z H G Q E f h=>?_
 obtain ⟨c,kk,p,rfl,d,z,D,F,k⟩:=h
 refine ⟨_,(ac (cM (i:=3) qV.nd (ak (aQ T) f.m (aa (pv 0) (aa (pv 1) (aa ah af)))))
     (ac (bB (aM oC (pv 3) ah (aR _)) (am (aI (aF ay (cH (aa ah (aa (pv 2) (aa (pv 2) af)))) (pv 3)))) aK)
     (am (aI (aw fm (aw aL (aw aJ (aw fm (pv 0) ah) (pv 1)) (aw aJ (aw aL (pv 1) (pv 1)) ah)) (aw aJ (pv 2) ah)))))),?_⟩
 try dsimp only [eD,aP]
 try (refine c9 ?_;intro Z Z Z Z)
 refine ⟨_,rfl,_,rfl,c,kk,5,rfl,d,by lia,by decide,λ W I J=>?_⟩
 refine ⟨_,rfl,_,_,rfl,rfl,_,rfl,iH (λ C=>?_) (λ C=>?_)⟩
 .
  refine ⟨_,rfl,_,rfl,Of,λ n j=>⟨_,rfl,?_⟩⟩
  obtain ⟨y,e,Y,o⟩:∃ y:Int,uw [V.int 0,V.int p,V.int p] W=some (.int y)/\0<=y/\y<=p:=by
    have:W=0\/W=1\/W=2:=by lia
    rcases this with rfl|rfl|rfl
    . exact ⟨0,rfl,by decide,by lia⟩
    . exact ⟨p,rfl,by lia,abx _⟩
    . exact ⟨p,rfl,by lia,abx _⟩
  exact ⟨n,_,_,_,rfl,rfl,.inl (bi.of ag),e,k y _ (al j) Y o⟩
 refine ⟨_,rfl,_,_,rfl,rfl,by decide,λ L A B Z=>⟨_,rfl,_,_,rfl,rfl,λ x q=>?_⟩⟩
 refine ⟨_,rfl,_,rfl,_,_,rfl,rfl,⟨10,10,(show kk.natAbs<2 ^ 10 by lia),(show kk.natAbs<2 ^ 10 by lia),by decide⟩,λ M s=>⟨_,_,rfl,rfl,λ X t=>?_⟩⟩
 have l:kk * kk<=1000 * 1000:=adB (by lia) (by lia) d (by decide)
 have g:0<=kk * kk:=abL d d
 refine ⟨_,_,rfl,rfl,⟨22,22,(show x.natAbs<2 ^ 22 by lia),(show X.natAbs<2 ^ 22 by lia),by decide⟩,λ N u=>⟨_,rfl,_,_,rfl,rfl,λ O v=>⟨_,_,rfl,rfl,by lia,λ r a b Z=>k r H (aD.refl _) a (by lia)⟩⟩⟩
def rn (T:Txt K mg Ad):Def P w K mg base "_law_less" 1 ["_law_one","_law_other"] (FP K):=by
 refine T.CT.cL AH λ Z Z Z Z Z H v Q E i h=>?_
 obtain ⟨p,d,F,g,rfl,a,c,o,O,k⟩:=h
 refine ⟨_,(am (aI (gB oC (aw aL (aF ay (pv 0) ah) (aF ay (pv 1) ah)) (aw aL (aF ay (pv 1) ah) (aF ay (pv 0) ah)) (aR _)))),?_⟩
 try dsimp only [eD,aP]
 refine ⟨_,rfl,p,_,_,_,rfl,rfl,.inr a,rfl,_,rfl,d,_,_,_,rfl,rfl,.inr c,rfl,_,_,rfl,rfl,⟨_,_,o.t,O.b,by decide⟩,λ x e=>?_⟩
 refine ⟨_,rfl,d,_,_,_,rfl,rfl,.inr c,rfl,_,rfl,p,_,_,_,rfl,rfl,.inr a,rfl,_,_,rfl,rfl,⟨_,_,O.t,o.b,by decide⟩,λ X f=>⟨_,_,rfl,rfl,?_⟩⟩
 rw [e,f]
 exact k
def tY (T:Txt K mg Ad):Def P w K mg base "_law_air" 1 ["_law_told","_law_room","_law_band","_law_lean_here","_law_parts"] (Gn K):=by
 refine T.EZ.cL uL λ Z Z Z Z Z H R Q E M h=>?_
 obtain ⟨p,t,n,j,b,l,u,rfl,I,ok,e,J,l0,lu,u9,k⟩:=h
 refine ⟨_,(ac (cM (i:=5) uL.nd (aF ay (bS (cT M) (pv 0) bQ (λ Z Z=>rfl)) (pv 1)))
     (am (aI (aw aJ (aw aL (aF ay (pv 5) (pv 2)) (aw de (pv 4) (pv 3))) (aw aL (aF ay (pv 5) (aw aJ (pv 2) ah)) (pv 3)))))),?_⟩
 try dsimp only [eD,aP]
 obtain ⟨N,ps,pt,pf,fW,Zw,O,R,vt,aE,C⟩:=id I
 obtain ⟨Y,a,W,f,g⟩:=j1 (b:=b) ok e (by lia)
 obtain ⟨Z,z,U,m,o⟩:=j1 (b:=b+1) ok e J
 obtain ⟨v,D,c,X,rfl,S,L⟩:=C.dm.get (i:=j) (d:=zl t.marks[j]) (by rw [T1,ar Y];rfl)
 obtain rfl:=hV L
 have F:bi K H c (t.marks[j].map V.int):=dC.seq S
 have B:∀ {x:Int},-1000<=x->x<=1000->Bd 10 x:=λ h1 h2=>by show Int.natAbs _<2 ^ 10;lia
 refine ⟨_,rfl,p,_,rfl,db C.hp,_,rfl,N,O,_,_,rfl,rfl,.inl (bi.of C.eZ),bK D,?_⟩
 refine ⟨_,rfl,_,rfl,c,_,_,_,rfl,rfl,.inl F,bK (by rw [T1,ar a];rfl),_,rfl,_,rfl,_,_,rfl,rfl,λ x1 q=>⟨_,_,rfl,rfl,⟨10,30,B (by rw [<- W];lia) (by rw [<- W];lia),tH (by lia) (by lia),by decide⟩,λ x2 r=>?_⟩⟩
 refine ⟨_,rfl,_,rfl,_,_,rfl,rfl,λ y G=>?_⟩
 obtain rfl:y=((b+1:Nat):Int):=by rw [G];push_cast;rfl
 refine ⟨c,_,_,_,rfl,rfl,.inl F,bK (by rw [T1,ar z];rfl),_,rfl,_,_,rfl,rfl,⟨10,30,B (by rw [<- U];lia) (by rw [<- U];lia),tH (by lia) (by lia),by decide⟩,λ x3 s=>⟨_,_,rfl,rfl,λ x4 A=>?_⟩⟩
 rw [A,r,q,s,<- W,<- U]
 exact k
def ve (T:Txt K mg Ad):Def P w K mg base "_law_warmth" 3 ["_law_told","_law_room","_law_bands_here","_law_fired","_law_cell","_law_parts"] (AT K):=by
 refine T.xA.cL bV λ Z Z Z Z Z H vs Q E v h=>?_
 obtain ⟨p,g,n,i,pb,B,F,c,u,rfl,hT,ok,n4,s,Jj,N,hz,q,A,k⟩:=h
 refine ⟨_,(ac (cM (i:=6) bV.nd (aF ay (bS (cT v) (pv 0) bQ (λ Z Z=>rfl)) (pv 1)))
     (ac (cM (i:=7) bV.nd (ak (lv T) v.m (aa (pv 4) (aa (aw aJ (aw aL ah (pv 1)) ah) (aa (pv 5) af)))))
     (ac (cM (i:=8) bV.nd (aw aL (aF ay (pv 6) ah) (aw aJ (aw aL (aF ay (pv 6) ah) (aw de (pv 5) (pv 7))) (aw aL (aF ay (pv 6) ah) (pv 7)))))
     (ac (cM (i:=9) bV.nd (aw de ah (aF ay (pv 6) ah)))
     (ac (dh aaN rfl (bN rfl T.cK (aa (br bO (by rfl) T.fX dL (aa (bS (cT v) (pv 0) bQ (λ Z Z=>rfl)) af)) af)) (jq (i:=10) bV.nd) (am (bB (aM lI (pv 10) (pv 1) (aR _)) (ac (cM (i:=11) bV.nd (bS (cT v) (bS (cT v) (pv 0) bQ (λ Z Z=>rfl)) (cQ (aa (pv 1) (aa (pv 10) af))) (λ Z Z=>rfl)))
     (ac (cM (i:=9) bV.nd (aw de (pv 9) (pv 11)))
     (ac (cM (i:=7) bV.nd (ak (lv T) v.m (aa (pv 4) (aa (aw aJ (aw aL ah (pv 1)) (pv 10)) (aa (pv 5) af)))))
     (am (cM (i:=8) bV.nd (aw aJ (pv 8) (aw aL (pv 11) (ak (tY T) v.m (aa (pv 0) (aa (pv 10) (aa (aF ay (pv 2) (pv 10)) (aa (pv 7) (aa (pv 5) af))))))))))))) aK)))
     (ac (cM (i:=7) bV.nd (ak (lv T) v.m (aa (pv 4) (aa (aw aJ (aw aL ah (pv 1)) ah) (aa (pv 5) af)))))
     (ac (cM (i:=8) bV.nd (aw aJ (pv 8) (aw aL (pv 9) (ak (tY T) v.m (aa (pv 0) (aa (pv 1) (aa (aF ay (pv 2) (pv 1)) (aa (pv 7) (aa (pv 5) af)))))))))
     (ac (bB (cw (pv 3)) (am (aI (aw aJ (pv 8) (aw aL (aw aL ah (pv 5)) (aF ay (aF ay (bS (cT v) (pv 0) bQ (λ Z Z=>rfl)) (pv 1)) ah))))) aK)
     (am (aI (pv 8))))))))))),?_⟩
 try dsimp only [eD,aP]
 try (refine zb ?_;intro Z Z Z Z Z Z Z Z Z Z)
 obtain ⟨pm,ps,pt,pf,fW,Zw,vm,vs,vt,aE,C⟩:=id hT
 have IW:vm.length=n:=by rw [C.dm.length,OS,ok.lm]
 have zI:i<g.dI.length:=by rw [ok.ls];exact s
 have A9:=ok.dI g.dI[i] (aag zI)
 have LP:g.ni i=g.dI[i]:=by unfold av.ni;rw [ar zI];rfl
 have ab:g.iE i=g.dI[i].1:=by unfold av.iE;rw [ar zI];rfl
 obtain ⟨vz,V9,O,wz,rfl,yJ,dz⟩:=C.ds.get (i:=i) (d:=Fi g.dI[i]) (by rw [T1,ar zI];rfl)
 obtain ⟨z1,r1,rfl,e1,z2,r2,rfl,e2,z3,r3,rfl,e3,e4⟩:=dz
 have e4:r3=[]:=e4
 have e1:z1 = .int g.dI[i].1:=e1
 have e2:z2 = .int g.dI[i].2.1:=e2
 have e3:z3 = .int g.dI[i].2.2:=e3
 subst e1 e2 e3 e4
 have Ze:bR K H O [.int g.dI[i].1,.int g.dI[i].2.1,.int g.dI[i].2.2]:=dC.tup yJ
 have J:∀ {x:Int},-1000<=x->x<=1000->Bd 10 x:=λ h1 h2=>by show Int.natAbs _<2 ^ 10;lia
 have Uq:∀ {l:Int},0<=l->l<=u->Bd 30 l:=λ h1 h2=>tH (by lia) (by lia)
 refine ⟨_,rfl,p,_,rfl,uf C.hp,_,rfl,ps,vs,_,_,rfl,rfl,.inl (bi.of C.fj),bK V9,?_⟩
 refine ⟨_,rfl,_,rfl,_,_,rfl,rfl,⟨3,3,mE,(show Int.natAbs _<2 ^ 3 by lia),by decide⟩,λ x0 a1=>⟨_,_,rfl,rfl,λ x1 a2=>⟨_,rfl,c,x1,u,rfl,by lia,by lia,q,A,λ l1 H1 s1 ad ae=>?_⟩⟩⟩
 have EH:=s1.tup Ze
 refine ⟨_,rfl,O,_,_,_,rfl,rfl,.inr EH,rfl,_,rfl,O,_,_,_,rfl,rfl,.inr EH,rfl,_,rfl,_,rfl,_,_,rfl,rfl,λ y1 R=>⟨_,_,rfl,rfl,⟨10,30,J (by lia) (by lia),Uq (by lia) (by lia),by decide⟩,λ y2 M=>?_⟩⟩
 refine ⟨_,rfl,O,_,_,_,rfl,rfl,.inr EH,rfl,_,rfl,_,_,rfl,rfl,⟨10,30,J (by lia) (by lia),Uq ad ae,by decide⟩,λ y3 an=>⟨_,_,rfl,rfl,λ y4 aG=>?_⟩⟩
 have NA:u * g.dI[i].2.1<=y4/\y4<=u * g.dI[i].2.2:=by
   rw [aG,M,R,an]
   exact CB (by lia) ad ae
 have aj:Bd 39 y4:=yc (n:=8) (b:=200) q A ⟨abt (aay (by lia) (aaP q)) NA.1,abt NA.2 (aay (by lia) (aaP q))⟩ (by decide) (by decide)
 refine ⟨_,_,rfl,rfl,⟨10,39,J (by lia) (by lia),aj,by decide⟩,λ w0 VY=>?_⟩
 have NL:=Ir (k:=g.dI[i].1) A9.1.1 NA
 rw [<- VY] at NL
 refine ⟨_,rfl,O,_,_,_,rfl,rfl,.inr EH,rfl,_,_,rfl,rfl,λ re Wg=>?_⟩
 have Wg:re=12 - g.iE i:=by rw [ab];exact Wg
 have C1:=C.same s1
 refine ⟨_,rfl,p,_,rfl,db C1.hp,pm,vm,rfl,.inl (bi.of C1.eZ),λ r er=>?_⟩
 obtain rfl:r=(n:Int):=by rw [er,IW]
 refine ⟨_,rfl,by lia,by lia,?_⟩
 refine gM (lo:=0) (n:=n) (λ t U H'=>aD H H'/\E4 λ w v7 G V=>(u * (g.iE i * (g.ni i).2.1+bI (λ j=>if j=i then 0 else g.eW i j * g.xl B 0 j) t)<=w/\w<=u * (g.iE i * (g.ni i).2.2+bI (λ j=>if j=i then 0 else g.eW i j * g.xl B 1 j) t))/\U=[some (.ref p),some (aq i),some (.ref pb),some (.bl F),some (.int c),some (.int u),some (.ref O),v7,some (.int w),some (.int (12 - g.iE i - bI (g.eW i) t)),G,V])
   ⟨s1,w0,some (.int l1),none,none,?_,?_⟩ ?_ ?_
 . have a0:∀ f:Nat->Int,bI f 0=0:=λ Z=>rfl
   rw [a0,a0,ab0,ab0,LP,ab]
   exact NL
 . have a0:∀ f:Nat->Int,bI f 0=0:=λ Z=>rfl
   rw [a0,Int.sub_zero,Wg];rfl
 .
  rintro Z t U H2 ht ⟨W,w,v7,G,V,hw,rfl⟩
  have C2:=C.same W
  have I:∀ f:Nat->Int,bI f (t+1)=bI f t+f t:=λ Z=>rfl
  refine ⟨_,rfl,_,rfl,rfl,_,rfl,vD (λ Jn=>?_) (λ aX=>?_)⟩
  .
   have y:t≠i:=λ e=>Jn (by rw [e,aap];rfl)
   obtain ⟨kk,hk,k0,k3⟩:=ok.bH i t s ht (abA y)
   have U9:g.eW i t=kk:=by unfold av.eW;rw [aam (abA y),hk];rfl
   refine ⟨_,rfl,p,_,rfl,m9 C2.hp,_,rfl,_,rfl,DR,λ kp yM=>?_⟩
   have sk:=al (o:=.tup [aq i,.int (0+(t:Int))]) yM
   have pX:(upd H2 kp (.tup [aq i,.int (0+(t:Int))])) kp=some (.tup ((gb i t).map kV)):=by rw [ag,aap];rfl
   have EL:gO (upd H2 kp (.tup [aq i,.int (0+(t:Int))])) pf (.ref kp) (some (.int kk)):=by
     have:=gO.t (k:=gb i t) (sk _ _ C2.h9) pX
     rw [C2.df i t (by lia) (by lia),hk] at this
     exact this
   refine ⟨pf,.int kk,rfl,EL,?_⟩
   have S3:=W.trans sk
   generalize upd H2 kp (.tup [aq i,.int (0+(t:Int))])=H3 at S3 |-
   refine ⟨_,rfl,_,rfl,_,_,rfl,rfl,λ x1 g1=>?_⟩
   refine ⟨_,rfl,_,rfl,_,_,rfl,rfl,⟨3,3,mE,(show Int.natAbs _<2 ^ 3 by lia),by decide⟩,λ x2 g2=>⟨_,rfl,_,_,rfl,rfl,λ x3 g3=>⟨_,rfl,c,x3,u,rfl,by lia,by lia,q,A,λ l H4 s4 l0 lu=>?_⟩⟩⟩
   have S:=S3.trans s4
   have Y:t<B.length:=by rw [N.len];exact ht
   have Yc:uw (B.map aq) (0+(t:Int))=some (aq (B.getD t 0)):=by rw [aap];exact bK (by rw [T1,ar Y,BO,ar Y];rfl)
   obtain ⟨m1,m2,m3⟩:=LL ok ht N
   have D:=CB m1 l0 lu
   have ba:Bd 39 (g.xl B 0 t * (u - l)+g.xl B 1 t * l):=yc (n:=8) (b:=200) q A ⟨abt (aay m2.1 (aaP q)) D.1,abt D.2 (aay m3.2 (aaP q))⟩ (by decide) (by decide)
   refine ⟨_,rfl,_,rfl,_,rfl,_,rfl,_,rfl,_,rfl,pb,_,_,_,rfl,rfl,(Jj.imp S.seq S.tup),Yc,_,rfl,_,rfl,p,g,n,t,B.getD t 0,l,u,by rw [aap];rfl,hT.same S,ok,ht,N.lt t ht,l0,lu,A,_,_,rfl,rfl,⟨10,39,J (by lia) (by lia),ba,by decide⟩,λ y1 R=>⟨_,_,rfl,rfl,λ y2 M=>?_⟩⟩
   refine ⟨S,y2,some (.int l),some (.int (0+(t:Int))),some (.int kk),?_,?_⟩
   . have:=Gr hw (Ir (k:=kk) k0 D)
     rw [I,I,aam y,aam y,U9,<- Int.add_assoc,<- Int.add_assoc,M,R]
     exact this
   . rw [I,U9,g1,<- Int.sub_sub];rfl
  .
   have y:t=i:=by have:=fL.mp aX;lia
   have U9:g.eW i t=0:=by unfold av.eW;rw [aan y.symm]
   refine ⟨W,w,v7,some (.int (0+(t:Int))),V,?_,?_⟩
   . rw [I,I,aan y,aan y,ab0,ab0]
     exact hw
   . rw [I,U9,ab0];rfl
 .
  rintro U H2 ⟨W,w,v7,G,V,hw,rfl⟩
  refine ⟨_,rfl,_,rfl,_,_,rfl,rfl,⟨3,3,mE,(show Int.natAbs _<2 ^ 3 by lia),by decide⟩,λ x2 g2=>⟨_,_,rfl,rfl,λ x3 g3=>⟨_,rfl,c,x3,u,rfl,by lia,by lia,q,A,λ l H4 s4 l0 lu=>?_⟩⟩⟩
  have S:=W.trans s4
  have Y:i<B.length:=by rw [N.len];exact s
  have Yc:uw (B.map aq) (i:Int)=some (aq (B.getD i 0)):=bK (by rw [T1,ar Y,BO,ar Y];rfl)
  obtain ⟨m1,m2,m3⟩:=LL ok s N
  have D:=CB m1 l0 lu
  have ba:Bd 39 (g.xl B 0 i * (u - l)+g.xl B 1 i * l):=yc (n:=8) (b:=200) q A ⟨abt (aay m2.1 (aaP q)) D.1,abt D.2 (aay m3.2 (aaP q))⟩ (by decide) (by decide)
  have s0:=BL ok s
  have s9:=Hj ok n4 s
  have a3:=(GW ok s n (aaf _)).1
  refine ⟨_,rfl,_,rfl,_,rfl,_,rfl,_,rfl,_,rfl,pb,_,_,_,rfl,rfl,(Jj.imp S.seq S.tup),Yc,_,rfl,_,rfl,p,g,n,i,B.getD i 0,l,u,rfl,hT.same S,ok,s,N.lt i s,l0,lu,A,_,_,rfl,rfl,⟨10,39,J (by lia) (by lia),ba,by decide⟩,λ y1 R=>⟨_,_,rfl,rfl,λ y2 M=>?_⟩⟩
  have eX:∀ d xw,g.X n i (g.xl B d) xw=g.iE i * xw+bI (λ j=>if j=i then 0 else g.eW i j * g.xl B d j) n+(12 - g.iE i - bI (g.eW i) n) * g.xl B d i:=λ d xw=>by
    unfold av.X av.kT
    rw [Ay,aan s]
    lia
  have L:=Gr hw (Ir (k:=12 - g.iE i - bI (g.eW i) n) (by lia) D)
  rw [<- eX,<- eX] at L
  have M:y2=w+(12 - g.iE i - bI (g.eW i) n) * (g.xl B 0 i * (u - l)+g.xl B 1 i * l):=by rw [M,R];rfl
  rw [<- M] at L
  refine ⟨_,rfl,_,rfl,?_⟩
  unfold av.s0 av.s1 av.sX at k
  cases F with
  | false =>
    refine gm ⟨_,rfl,k y2 H4 S ?_ ?_⟩
    . rw [aam aah,ab0];exact L.1
    . rw [aam aah,ab0];exact L.2
  | true =>
    obtain ⟨z,ez⟩:=hz rfl
    have C4:=C.same S
    obtain ⟨vq,PZ,dq⟩:=C4.dt.get (i:=i) (d:=stI (some z)) (by rw [T1,ez];rfl)
    obtain ⟨pq,wq,rfl,N2,t1,r1,rfl,h1,Z⟩:=dq
    have h1:t1 = .int z.1:=h1
    subst h1
    have eh:g.zc i=z.1:=by unfold av.zc;rw [ez];rfl
    have Jm:=(ok.aH z (aaz ez)).h
    refine jh ⟨_,rfl,_,rfl,_,_,rfl,rfl,⟨10,30,mE,Uq (aaP q) (abx _),by decide⟩,λ x6 g6=>⟨_,rfl,p,_,rfl,jj C4.hp,_,rfl,pt,vt,_,_,rfl,rfl,.inl (bi.of C4.eY),bK PZ,pq,_,_,_,rfl,rfl,.inr (dC.tup N2),bK (j:=0) rfl,_,_,rfl,rfl,⟨40,10,(by rw [g6];exact (Bd.mul (show Bd 10 12 from mE) (Uq (aaP q) (abx _)))),J (by lia) (by lia),by decide⟩,λ x7 g7=>⟨_,_,rfl,rfl,λ x8 g8=>?_⟩⟩⟩
    have e8:∀ a b:Int,u * (a+12 * z.1)=u * a+12 * u * z.1:=λ a b=>by grind
    refine k x8 H4 S ?_ ?_
    . rw [aan rfl,eh,e8 _ 0,g8,g7,g6];exact ad5 L.1 _
    . rw [aan rfl,eh,e8 _ 0,g8,g7,g6];exact ad5 L.2 _
def uK {l:List Int} {j:Nat} (h:j<l.length):uw (l.map V.int) (0+(j:Int))=some (.int l[j]):=by rw [aap];exact bK (by rw [T1,ar h];rfl)
def yt (T:Txt K mg Ad):Def P w K mg base "_law_bands" 2 ["_law_told","_law_warmths","_law_parts","_law_cell"] (BC K):=by
 refine T.AX.cL eO λ Z Z Z Z Z H vs Q E f h=>?_
 obtain ⟨p,t,n,pw,W,u,c,rfl,hT,ok,n4,OQ,lw,u0,u9,k1,k2⟩:=h
 refine ⟨_,(ac (cM (i:=4) eO.nd (cH af))
     (ac (dh aaN rfl (bN rfl T.cK (aa (br bO (by rfl) T.fX dL (aa (pv 1) af)) af)) (jq (i:=5) eO.nd) (ac (cM (i:=6) eO.nd (aF ay (bS (cT f) (pv 0) bQ (λ Z Z=>rfl)) (pv 5)))
     (ac (cM (i:=7) eO.nd (aF ay (pv 1) (pv 5)))
     (ac (cM (i:=8) eO.nd (aw aL ah (pv 2)))
     (ac (qT (yi:=9) ["_law_b"] ["_law_num","_law_whole","_law_marks"] [7,8,6] (.cons ⟨rfl,rfl,.inl rfl⟩ (.cons ⟨rfl,rfl,.inl rfl⟩ (.cons ⟨rfl,rfl,.inl rfl⟩ .nil))) rfl (bN rfl T.cK (aa (aw de (br bO (by rfl) T.fX dL (aa (pv 6) af)) ah) af)) (λ Z Z Z Z Z=>(pE (i:=0))) (λ Z Z Z Z Z=>(ki (PW.pt (tQ (aM iu (aw aL (pv 2) (aF (f7 (K:=K) rfl) (pv 3) (pv 0))) (pv 1) (aR _)) (oG (aM iu (pv 1) (aw aL (pv 2) (aF (f7 (K:=K) rfl) (pv 3) (aw aJ (pv 0) ah))) (aR _))))))) (λ Z Z Z Z Z=>(pv 0)) eO.nd (lc rfl))
     (ac (bB (aM (Ix f.units) (pv 9) (cH af) (aR _)) (am (aI dg)) aK)
     (am (bf (iw aaC aaJ aaI cI (pv 4) (aa (aF ay (pv 9) (ak (aQ T) f.m (aa (pv 3) (aa (aw aJ ah (pv 5)) (aa (br bO (by rfl) T.fX dL (aa (pv 9) af)) af))))) af))))))))))
     (am (aI (cG cZ (by rfl) T.ji hU (aa (pv 4) af)))))),?_⟩
 try dsimp only [eD,aP]
 try (refine c9 ?_;intro Z Z Z Z)
 obtain ⟨pm,ps,pt,pf,fW,Zw,vm,vs,vt,aE,C0⟩:=id hT
 refine ⟨IK,λ pl jE=>?_⟩
 have s0:=al (o:=.lst []) jE
 refine ⟨_,rfl,pw,_,rfl,.inl (s0.seq OQ),λ y ey=>?_⟩
 obtain rfl:y=(n:Int):=by rw [ey,OS,lw]
 refine ⟨_,rfl,by lia,by lia,?_⟩
 refine gM (lo:=0) (n:=n) (λ i U g=>A3 (aD H g) (∃ (e:bg),A3 (g pl=some (.lst (e.map aq))) (e.length=i) (∀ j,j<i->e.getD j 0∈t.bw j u (W.getD j 0))) (E5 λ (v5 v6 v7 v8 v9:fR)=>U=[some (.ref p),some (.ref pw),some (.int u),some (.int c),some (.ref pl),v5,v6,v7,v8,v9]))
   ⟨s0,⟨[],ag,rfl,λ j h=>absurd h (abN j)⟩,none,none,none,none,none,rfl⟩ ?_ ?_
 .
  rintro Z i U H1 hi ⟨k,⟨e,Ph,lz,zU⟩,v5,v6,v7,v8,v9,rfl⟩
  have C1:=C0.same k
  have xp:i<t.marks.length:=by rw [ok.lm];exact hi
  have R:=ok.rows t.marks[i] (aag xp)
  obtain ⟨v,ev,O,ae,rfl,sI,Lk⟩:=C1.dm.get (i:=i) (d:=zl t.marks[i]) (by rw [T1,ar xp];rfl)
  obtain rfl:=hV Lk
  have X:bi K H1 O (t.marks[i].map V.int):=dC.seq sI
  have ab:t.marks.getD i []=t.marks[i]:=by rw [BO,ar xp];rfl
  have G:∀ x,t.bw i u x=(List.range (t.marks[i].length - 1)).filter λ b=>decide (12 * u * t.marks[i].getD b 0<=x) && decide (x<=12 * u * t.marks[i].getD (b+1) 0):=λ x=>by unfold av.bw av.rE;rw [ab]
  generalize t.marks[i]=M at R X G
  have UK:i<W.length:=by lia
  have ad:W.getD i 0=W[i]:=by rw [BO,ar UK];rfl
  refine ⟨_,rfl,p,_,rfl,db C1.hp,_,rfl,pm,vm,_,_,rfl,rfl,.inl (bi.of C1.eZ),by rw [aap];exact bK ev,?_⟩
  refine ⟨_,rfl,_,rfl,pw,_,_,_,rfl,rfl,.inl (k.seq OQ),uK UK,?_⟩
  refine ⟨_,rfl,_,_,rfl,rfl,⟨4,30,mE,tH (by lia) (by lia),by decide⟩,λ x1 F=>?_⟩
  have B:Bd 34 x1:=by rw [F];exact Bd.mul (show Bd 4 12 from mE) (tH (by lia) (by lia))
  have bd:∀ {x:Int},-200<=x->x<=200->Bd 10 x:=λ h1 h2=>by show Int.natAbs _<2 ^ 10;lia
  refine ⟨_,rfl,O,_,rfl,.inl X,λ y1 Y=>⟨_,_,rfl,rfl,λ y2 f2=>?_⟩⟩
  rw [OS] at Y
  have l2:=R.two
  have l7:M.length<=7:=by have:=R.most;split at this<;>lia
  obtain ⟨L,rfl⟩:∃ L:Nat,y2=(L:Int):=⟨y2.toNat,by lia⟩
  have hL:L=M.length - 1:=by lia
  refine ⟨_,rfl,by lia,by lia,λ D hD=>?_⟩
  rw [aaX]
  refine eP (lo:=0) (n:=L) (λ j a U g=>A4 (aD H1 g) (g D=some (.lst a)) (a=(((List.range j).filter λ b=>decide (12 * u * M.getD b 0<=W[i]) && decide (W[i]<=12 * u * M.getD (b+1) 0)).map aq)) (∃ v,U=[v,some (.int W[i]),some (.int x1),some (.ref O)]))
    ⟨al hD,ag,rfl,none,rfl⟩ ?_ ?_
  .
   rintro j a U H2 hj ⟨s,I,rfl,v,rfl⟩
   have YL:j<M.length:=by lia
   have W1:j+1<M.length:=by lia
   have b0:=R.bd M[j] (aag YL)
   have b1:=R.bd M[j+1] (aag W1)
   have g0:M.getD j 0=M[j]:=by rw [BO,ar YL];rfl
   have g1:M.getD (j+1) 0=M[j+1]:=by rw [BO,ar W1];rfl
   have S:((List.range (j+1)).filter λ b=>decide (12 * u * M.getD b 0<=W[i]) && decide (W[i]<=12 * u * M.getD (b+1) 0))=((List.range j).filter λ b=>decide (12 * u * M.getD b 0<=W[i]) && decide (W[i]<=12 * u * M.getD (b+1) 0))++(if (decide (12 * u * M[j]<=W[i]) && decide (W[i]<=12 * u * M[j+1]))=true then [j] else []):=by
     rw [aaU,abh]
     congr 1
     rw [acJ,g0,g1,List.filter_nil]
   have lf:=aa4 (λ b=>decide (12 * u * M.getD b 0<=W[i]) && decide (W[i]<=12 * u * M.getD (b+1) 0)) (List.range j)
   rw [aaw] at lf
   generalize ((List.range j).filter λ b=>decide (12 * u * M.getD b 0<=W[i]) && decide (W[i]<=12 * u * M.getD (b+1) 0))=ls at S I lf |-
   refine ⟨_,rfl,_,rfl,_,rfl,O,_,_,_,rfl,rfl,.inl (s.seq X),uK YL,_,_,rfl,rfl,⟨34,10,B,bd b0.1 b0.2,by decide⟩,λ y1 Y=>?_⟩
   refine ⟨_,rfl,_,_,rfl,rfl,_,rfl,iH (λ C=>?_) (λ C=>?_)⟩
   .
    refine ⟨_,rfl,_,rfl,_,rfl,_,rfl,_,_,rfl,rfl,λ y2 f2=>?_⟩
    obtain rfl:y2=((j+1:Nat):Int):=by rw [f2];push_cast;lia
    refine ⟨O,_,_,_,rfl,rfl,.inl (s.seq X),bK (by rw [T1,ar W1];rfl),_,_,rfl,rfl,⟨34,10,B,bd b1.1 b1.2,by decide⟩,λ y3 f3=>⟨_,_,rfl,rfl,_,rfl,iH (λ A=>?_) (λ A=>?_)⟩⟩
    . have J:(decide (12 * u * M[j]<=W[i]) && decide (W[i]<=12 * u * M[j+1]))=true:=by
        rw [Y,F] at C
        rw [f3,F] at A
        rw [aaE C,aaE A];rfl
      rw [aan J] at S
      exact ⟨_,rfl,I,aO (by rw [OS];lia),s.put hD,ag,by rw [S,aab,aap];rfl,_,rfl⟩
    . have J:¬ (decide (12 * u * M[j]<=W[i]) && decide (W[i]<=12 * u * M[j+1]))=true:=by
        rw [f3,F] at A
        rw [aal A,Bool.and_false];exact aah
      rw [aam J,abb] at S
      exact ⟨s,I,by rw [S],_,rfl⟩
   . have J:¬ (decide (12 * u * M[j]<=W[i]) && decide (W[i]<=12 * u * M[j+1]))=true:=by
       rw [Y,F] at C
       rw [aal C,acV];exact aah
     rw [aam J,abb] at S
     exact ⟨s,I,by rw [S],_,rfl⟩
  rintro a U H2 ⟨s,I,rfl,v,rfl⟩
  have S2:=k.trans s
  rw [hL,<- G,<- ad] at I
  refine ⟨_,rfl,IK,λ pe Vq=>?_⟩
  have s3:=al (o:=.lst []) Vq
  have k3:(upd H2 pe (.lst [])) pe=some (.lst []):=ag
  have iJ:=s3 _ _ I
  generalize upd H2 pe (.lst [])=H3 at s3 k3 iJ |-
  have S3:=S2.trans s3
  refine zk (bi.of iJ) (bi.of k3) ⟨_,rfl,iH (λ h=>k1 ⟨i,hi,h⟩ H3 S3) (λ h=>?_)⟩
  have N:=s3 _ _ (s _ _ Ph)
  have Ky:0<(t.bw i u (W.getD i 0)).length:=aeg.mpr h
  refine ⟨_,rfl,.inl ⟨rfl,_,bi.of N⟩,_,rfl,_,rfl,_,rfl,_,_,rfl,rfl,λ x2 e2=>⟨_,rfl,D,_,rfl,.inl (bi.of iJ),λ x3 e3=>?_⟩⟩
  rw [OS] at e3
  refine ⟨c,x2,x3,rfl,by lia,by lia,by lia,λ r r0 r1=>?_⟩
  have f:r.toNat<(t.bw i u (W.getD i 0)).length:=by lia
  have hm:(t.bw i u (W.getD i 0))[r.toNat]∈t.bw i u (W.getD i 0):=aag f
  have Vh:=bK (xs:=(t.bw i u (W.getD i 0)).map aq) (j:=r.toNat) (v:=aq (t.bw i u (W.getD i 0))[r.toNat]) (by rw [T1,ar f];rfl)
  rw [abd r0] at Vh
  generalize (t.bw i u (W.getD i 0))[r.toNat]=z at hm Vh
  refine ⟨D,_,_,_,rfl,rfl,.inl (bi.of iJ),Vh,pl,_,_,rfl,rfl,N,aO (by rw [OS];lia),S3.put jE,⟨e++[z],by rw [aab];exact ag,by rw [aad,lz];rfl,λ j hj=>?_⟩,_,_,_,_,_,rfl⟩
  by_cases Oz:j<i
  . rw [BO (l:=e++[z]),aaA (by lia),<- BO]
    exact zU j Oz
  . obtain rfl:j=i:=by lia
    rw [BO (l:=e++[z]),aaG (by lia),lz,acN]
    exact hm
 . rintro U H1 ⟨k,⟨e,Ph,lz,zU⟩,v5,v6,v7,v8,v9,rfl⟩
   refine ⟨_,rfl,pl,_,rfl,.inl ⟨bi.of Ph,λ q hq=>?_⟩⟩
   exact k2 q _ e (k.trans (al hq)) ag lz zU
def vx (T:Txt K mg Ad):uJ P w K mg base Ad.Walk "go" 10 ["self","order","out","bands","warmths"] [] (λ vs H Q Z=>BM K Ad.aX Ad.Walk Ad.my Ad.iM Ad.cP Ad.cW vs H Q E0):=(vi T).Vi
def tK (T:Txt K mg Ad):hZ P w K mg base Ad.Walk "leave" 10 ["self","order","out","warmths"] [] (λ vs H Q Z=>tG K Ad.aX Ad.Walk vs H Q E0):=(sW T).Pp
def AQ (T:Txt K mg Ad):Def P w K mg base "_law_turn" 11 ["_law_hold","_law_told","_law_walk","_law_four","_law_k"] (Er K Ad.aX Ad.Walk):=by
 refine T.CK.cL cm λ Z Z Z Z Z H vs Q E c h=>?_
 obtain ⟨a,fp,p,t,n,x,L9,st,g,pc,cs,kk,rfl,hh,a7,bk,ok,C,hw,L,hc,hk,k1,k2⟩:=h
 refine ⟨_,(ac (cM (i:=5) cm.nd (cS (pv 2) T.bx (jd T) .nil c.m))
     (ac (cM (i:=6) cm.nd (ak (oM T) c.m (aa (pv 0) (aa (pv 5) af))))
     (ac (bB (aM (Ix c.units) (pv 6) (cH af) (aR _)) (am (aI iC)) aK)
     (ac (cM (i:=7) cm.nd (aF ay (pv 6) (ak (aQ T) c.m (aa (ak (bT T) c.m (aa (pv 3) (aa ah af))) (aa (pv 4) (aa (br bO (by rfl) T.fX dL (aa (pv 6) af)) af))))))
     (ac (cM (i:=8) cm.nd (aw gY (ak (rB T) c.m (aa (pv 0) (aa (pv 5) (aa (pv 7) af)))) (ak (bT T) c.m (aa (pv 3) (aa ah af)))))
     (ac (cM (i:=9) cm.nd (aw aJ ah (aw fm (ak (bT T) c.m (aa (pv 3) (aa ah af))) (aF ay (cH (aa ah (aa ah (aa (aw oK ah ah) af)))) (aw fm (pv 4) ah)))))
     (ac (cM (i:=10) cm.nd (cH af))
     (ac (cM (i:=11) cm.nd (cH af))
     (ac (dh aaN rfl (bN rfl T.cK (aa (br bO (by rfl) T.fX dL (aa (bS (cT c) (pv 1) bQ (λ Z Z=>rfl)) af)) af)) (jq (i:=12) cm.nd) (ac (cM (i:=13) cm.nd (ak (Fn T) c.m (aa (aw de (pv 7) (pv 8)) (aa (pv 12) af))))
     (ac (bf (iw aaC aaJ aaI cI (pv 10) (aa (ak (ve T) c.m (aa (pv 1) (aa (pv 12) (aa (aF ay (pv 5) ah) (aa (pv 13) (aa (ak (bT T) c.m (aa (pv 3) (aa ah af))) (aa (pv 9) af))))))) af)))
     (ac (bf (iw aaC aaJ aaI cI (pv 11) (aa (ak (yo T) c.m (aa (aF ay (pv 10) (pv 12)) (aa (aw aL ah (pv 9)) (aa (bS (cT c) (pv 1) bQ (λ Z Z=>rfl)) af)))) af)))
     (ac (cM (i:=14) cm.nd (ak (ny T) c.m (aa (pv 0) (aa (pv 12) (aa (aF ay (pv 5) ah) (aa (pv 13) af))))))
     (am (bB (PW.pt (rq (cw (ak (rn T) c.m (aa (aF ay (pv 11) (pv 12)) (aa (aF ay (pv 14) ah) af)))) (nH (cw (ak (rn T) c.m (aa (aF ay (pv 14) ah) (aa (aF ay (pv 11) (pv 12)) af))))))) (am (aI dg)) aK)))))))
     (ac (cM (i:=15) cm.nd (ak (yt T) c.m (aa (pv 1) (aa (pv 10) (aa (pv 9) (aa (ak (bT T) c.m (aa (pv 3) (aa ah af))) af))))))
     (ac (bB (aM qd (pv 15) dg (aR _)) (ac (bf (aW (pv 2) T.bx (tK T) .nil c.m (aa (pv 7) (aa (pv 8) (aa (pv 11) af)))))
     (am (aI (aF ay (cH (aa iC (aa dg af))) (cG Fc (by rfl) T.L4 HN (aa (gB mq (ak (rm T) c.m (aa (pv 0) (aa (pv 5) (aa (pv 7) af)))) dg (aR _)) af)))))) aK)
     (ac (bf (zX (pv 2) T.bx (vx T) c.m (aa (pv 7) (aa (pv 8) (aa (cG gz (by rfl) T.uu oW (aa (pv 15) af)) (aa (pv 11) af))))))
     (ac (bB (aM (MK c.units) (aF ay (cS (pv 2) T.bx (jd T) .nil c.m) ah) (pv 15) (aR _)) (am (aI dg)) aK)
     (ac (lH (bB (aM jm (aw fm (pv 4) ah) ah (aR _)) (ac (cM (i:=16) cm.nd (ak (rm T) c.m (aa (pv 0) (aa (pv 5) (aa (pv 7) af)))))
     (am (bB (PW.pt (tQ (aM mq (pv 16) dg (aR _)) (oG (aM (Ny c.Up) (cS (pv 2) T.bx (jd T) .nil c.m) (pv 16) (by with_unfolding_all rfl))))) (am (aI dg)) aK))) aK))
     (am (aI iC)))))))))))))))),?_⟩
 try dsimp only [eD,aP]
 try (refine EO ?_;intro Z Z Z Z Z Z Z Z Z Z Z Z Z Z Z Z)
 obtain ⟨Sn,hd,q,hx,bE,hs,nw⟩:=id hw
 have hT:=bk.same dC
 obtain ⟨Z,Z,Z,l4,wf⟩:=id hh
 have hl:(t.m2 n n).rows.length=n:=by rw [(eR t n n).1,OS,aax,ok.lm];lia
 have J:=R1 ok C L
 refine ⟨_,rfl,x,_,_,rfl,hx,rfl,x,Sn,hd,q,g,rfl,hx,?_⟩
 refine ⟨_,rfl,_,rfl,a,fp,_,q,st,rfl,hh,hs,L,λ po H1 np s1 h1=>?_⟩
 refine ⟨_,rfl,IK,λ pe Vq=>?_⟩
 have s2:=al (o:=.lst []) Vq
 have h2:(upd H1 pe (.lst [])) pe=some (.lst []):=ag
 generalize upd H1 pe (.lst [])=H2 at s2 h2 |-
 have S2:=s1.trans s2
 have V5:=s2 _ _ h1
 refine zk (bi.of V5) (bi.of h2) ⟨_,rfl,iH (λ h=>k1 H2) (λ h=>?_)⟩
 have Ky:0<(st.orders (t.m2 n n)).length:=aeg.mpr h
 refine ⟨_,rfl,_,rfl,pc,cs,0,rfl,S2.seq hc,by decide,λ c0 Z=>⟨_,rfl,_,rfl,po,_,rfl,.inl (bi.of V5),λ x2 e2=>?_⟩⟩
 rw [OS] at e2
 refine ⟨c0,kk,x2,rfl,by lia,by lia,by lia,λ r a0 a1=>?_⟩
 have aH:r.toNat<(st.orders (t.m2 n n)).length:=by lia
 have ho:(st.orders (t.m2 n n))[r.toNat]∈st.orders (t.m2 n n):=aag aH
 have ad:=bK (xs:=(st.orders (t.m2 n n)).map aq) (j:=r.toNat) (v:=aq (st.orders (t.m2 n n))[r.toNat]) (by rw [T1,ar aH];rfl)
 rw [abd a0] at ad
 refine ⟨po,_,_,_,rfl,rfl,.inl (bi.of V5),ad,?_⟩
 generalize (st.orders (t.m2 n n))[r.toNat]=o at ho
 have OY:st.may (t.m2 n n) o<16:=Cu l4
 refine ⟨_,rfl,_,rfl,_,rfl,a,fp,_,q,st,o,rfl,hh.same S2,hs.same S2,L,Bk ho,λ H3 s3=>?_⟩
 have S3:=S2.trans s3
 refine ⟨_,rfl,pc,cs,1,rfl,S3.seq hc,by decide,λ c1 Z=>⟨_,_,rfl,rfl,λ y ey=>?_⟩⟩
 obtain ⟨out,Vy,hf⟩:=KC OY c1
 obtain rfl:y=(out:Int):=by rw [ey];exact Vy
 have Kt:=Gi OY hf
 have wM:=((wk OY).2 out Kt).1
 have tn:=Iu ok C L wM ho hf
 have Y:∀ i,(Ord.off o out).testBit i=true->(t.m2 n n).has i=true:=λ i h=>(tn.KM (tn.LR h).1).2
 have Yn:=Lm tn.Bb tn.wM λ r h=>(tn.sub r h).1
 refine ⟨_,rfl,pc,cs,2,rfl,S3.seq hc,by decide,λ c2 Z=>?_⟩
 have bn:∃ md:Int,uw [V.int 1,V.int 12,V.int 1000000000] ((kk:Int) % 3)=some (.int md)/\0<md/\md<=10 ^ 9:=by
   have:(kk:Int) % 3=0\/(kk:Int) % 3=1\/(kk:Int) % 3=2:=by lia
   rcases this with e|e|e<;>rw [e]
   . exact ⟨1,rfl,by decide,by decide⟩
   . exact ⟨12,rfl,by decide,by decide⟩
   . exact ⟨1000000000,rfl,by decide,by decide⟩
 obtain ⟨md,bc,bt,bH⟩:=bn
 refine ⟨_,_,rfl,rfl,⟨by decide,by decide,by decide⟩,λ r9 e9=>⟨Of,λ pl jE=>?_⟩⟩
 have e9:r9=1000000000:=e9
 subst e9
 have s4:=al (o:=.lst [.int 1,.int 12,.int 1000000000]) jE
 have h4:(upd H3 pl (.lst [.int 1,.int 12,.int 1000000000])) pl=some (.lst [.int 1,.int 12,.int 1000000000]):=ag
 generalize upd H3 pl (.lst [.int 1,.int 12,.int 1000000000])=H4 at s4 h4 |-
 refine ⟨_,rfl,_,_,rfl,rfl,by decide,λ r3 Z Z er=>?_⟩
 subst er
 refine ⟨pl,_,_,_,rfl,rfl,.inl (bi.of h4),bc,_,_,rfl,rfl,bt,λ y y0 y1 Z=>⟨_,_,rfl,rfl,λ u eu=>?_⟩⟩
 have M:0<u:=by lia
 have u9:u<=10 ^ 9:=by lia
 clear eu y0 y1
 have S4:=S3.trans s4
 refine ⟨IK,λ B OQ=>⟨IK,λ k Ug=>?_⟩⟩
 have s5:=(al (o:=.lst []) OQ).trans (al (o:=.lst []) Ug)
 have k5:(upd (upd H4 B (.lst [])) k (.lst [])) B=some (.lst []):=al Ug _ _ ag
 have k6:(upd (upd H4 B (.lst [])) k (.lst [])) k=some (.lst []):=ag
 have Xz:H4 k=none:=(al OQ).free Ug
 have a6:B≠k:=ax ag Ug
 generalize upd (upd H4 B (.lst [])) k (.lst [])=H5 at s5 k5 k6 |-
 have S5:=S4.trans s5
 obtain ⟨pm,ps,pt,pf,fW,Zw,vm,vs,vt,aE,C0⟩:=id hT
 have IW:vm.length=n:=by rw [C0.dm.length,OS,ok.lm]
 obtain ⟨qb,qw,qf,q0,q1,q2,q3⟩:=id hs
 have C5:=C0.same S5
 refine ⟨_,rfl,p,_,rfl,db C5.hp,pm,vm,rfl,.inl (bi.of C5.eZ),λ y ey=>?_⟩
 obtain rfl:y=(n:Int):=by rw [ey,IW]
 refine ⟨_,rfl,by lia,by lia,?_⟩
 refine gM (lo:=0) (n:=n) (λ i U H'=>A3 (aD H4 H') (E2 λ (ws:List Int) (s:aA)=>A5 (H' B=some (.lst (ws.map V.int))) (H' k=some (.lst s)) (bX K H' ((qI t u ws).map dO) s) (ws.length=i) (∀ j,j<i->Md t n st.bL (Ord.off o out) u j (ws.getD j 0))) (E5 λ (Ut Uh UN Wz RD:fR)=>U=[some (.ref a),some (.ref p),some (.ref x),some (.ref pc),some (aq kk),some (.ref q),some (.ref po),some (aq o),some (aq out),some (.int u),some (.ref B),some (.ref k),Ut,Uh,UN,Wz,RD]))
   ⟨s5,⟨[],[],k5,k6,gq,rfl,λ j h=>absurd h (abN j)⟩,none,none,none,none,none,rfl⟩ ?_ ?_
 .
  rintro Z i U H6 O ⟨s6,⟨ws,s,UL,U7,d6,lw,Mt⟩,Ut,Uh,UN,Wz,RD,rfl⟩
  have X:=S4.trans s6
  refine ⟨_,rfl,_,rfl,_,_,rfl,rfl,λ y ey=>?_⟩
  obtain rfl:y=((Ord.off o out:Nat):Int):=by rw [ey];exact Yn
  refine ⟨_,rfl,Ord.off o out,i,by rw [aap];rfl,?_⟩
  have be:=hT.same X
  refine ⟨_,rfl,.inl ⟨rfl,_,bi.of UL⟩,_,rfl,_,rfl,_,rfl,q,_,_,_,rfl,rfl,.inr (X.tup q0),rfl,_,rfl,_,rfl,pc,cs,3,rfl,X.seq hc,by decide,λ c3 Z=>⟨_,rfl,p,t,n,i,qb,st.bL,(Ord.off o out).testBit i,c3,u,by rw [aap];rfl,be,ok,C,O,.inr (X.tup q1),J,λ z=>ut ok O (Y i z),M,u9,λ w' R S w0 w1=>?_⟩⟩
  have a4:=S _ _ UL
  have W:Md t n st.bL (Ord.off o out) u i w':=⟨w0,w1⟩
  have bw:=W.bd ok C O J M u9
  refine ⟨B,_,_,rfl,rfl,a4,aO (by rw [OS];lia),?_⟩
  have UP:bD K R (upd R B (.lst (ws.map V.int++[.int w']))):=cO a4 rfl
  have s8:=(s6.trans S).put (o:=.lst (ws.map V.int++[.int w'])) OQ
  have Y0:(upd R B (.lst (ws.map V.int++[.int w']))) B=some (.lst ((ws++[w']).map V.int)):=by rw [aab];exact ag
  have Yg:(upd R B (.lst (ws.map V.int++[.int w']))) k=some (.lst s):=by rw [aB (abA a6)];exact S _ _ U7
  have d8:=bX.ts UP _ (λ d hd=>by obtain ⟨f,Z,rfl⟩:=aat.mp hd;exact f6 f) (bX.same S _ d6)
  generalize upd R B (.lst (ws.map V.int++[.int w']))=H8 at s8 Y0 Yg d8 |-
  have S8:=S4.trans s8
  have C8:=C0.same S8
  have So:i<(ws++[w']).length:=by rw [aad,lw];exact acf i
  have ew:(ws++[w'])[i]=w':=by rw [List.getElem_append_right (by lia)];simp [lw]
  have bb:uw ((ws++[w']).map V.int) (0+(i:Int))=some (.int w'):=by rw [uK So,ew]
  refine ⟨_,rfl,.inl ⟨rfl,_,bi.of Yg⟩,_,rfl,_,rfl,B,_,_,_,rfl,rfl,.inl (bi.of Y0),bb,_,rfl,_,_,rfl,rfl,⟨4,30,mE,tH (by lia) (by lia),by decide⟩,λ z ez=>?_⟩
  have ez:z=12 * u:=ez
  subst ez
  refine ⟨_,rfl,p,_,rfl,tT C8.hp,w',12 * u,fW,t.scale,rfl,dC.tup C8.sc,ok.scale,bw.mono (by decide),by lia,(Bd.mul (show Bd 4 12 from mE) (tH (by lia) (by lia):Bd 30 u)).mono (by decide),λ D I s9 h5=>?_⟩
  have O6:=s9 _ _ Yg
  have le:=d8.length
  rw [OS,OS,lw] at le
  refine ⟨k,_,_,rfl,rfl,O6,aO (by lia),?_⟩
  have Oy:bD K I (upd I k (.lst (s++[.ref D]))):=cO O6 rfl
  have F:=(s8.trans s9).put (o:=.lst (s++[.ref D])) Xz
  have RY:(upd I k (.lst (s++[.ref D]))) B=some (.lst ((ws++[w']).map V.int)):=by rw [aB a6];exact s9 _ _ Y0
  have G3:(upd I k (.lst (s++[.ref D]))) k=some (.lst (s++[.ref D])):=ag
  have ae:bX K (upd I k (.lst (s++[.ref D]))) ((qI t u (ws++[w'])).map dO) (s++[.ref D]):=by
    unfold qI
    rw [aab,aab]
    exact bX.snoc (bX.ts Oy _ (λ d hd=>by obtain ⟨f,Z,rfl⟩:=aat.mp hd;exact f6 f) (bX.same s9 _ d8)) (Dn.ts Oy _ (f6 _) (hR (bR.of h5)))
  have an:bR K (upd I k (.lst (s++[.ref D]))) D [.int (aT w' (12 * u) t.scale).1,.int (aT w' (12 * u) t.scale).2]:=Oy _ _ (bR.of h5)
  generalize upd I k (.lst (s++[.ref D]))=Jo at F RY G3 ae an |-
  have ZW:=S4.trans F
  have RO:i<(t.m2 n n).rows.length:=by rw [hl];exact O
  refine ⟨_,rfl,_,rfl,_,rfl,q,_,_,_,rfl,rfl,.inr (ZW.tup q0),rfl,_,rfl,a,fp,_,i,qb,st.bL,(Ord.off o out).testBit i,by rw [aap];rfl,hh.same ZW,RO,.inr (ZW.tup q1),L.lb,λ j hj=>by have:=L.band j hj;unfold gN at this;rw [BO];exact this,λ z=>by
    obtain ⟨z',ez⟩:=l8 (Y i z)
    exact ⟨z',by rw [jr (by lia),ez]⟩,λ qe e1 e2 WY OV g0 g1 g2=>?_⟩
  obtain ⟨a1,a2⟩:=W.spans wf ok C O J (Y i) M
  obtain ⟨Es,Me⟩:=ua wf ok C O J (Y i)
  have MX:=NW ok M u9 bw
  have ab:uw (s++[.ref D]) (0+(i:Int))=some (.ref D):=by rw [aap];exact bK (by rw [aaG (by lia),le,acN];rfl)
  have ON:=OV _ _ G3
  have RM:=OV.tup an
  refine ⟨_,rfl,_,rfl,k,_,_,_,rfl,rfl,.inl (bi.of ON),ab,_,rfl,qe,_,_,_,rfl,rfl,.inr (bR.of g0),rfl,D,e1,_,_,rfl,RM,bR.of g1,MX,Es,_,rfl,?_⟩
  show if aN _ _=true then _ else _
  rw [a1]
  refine gm ⟨_,rfl,qe,_,_,_,rfl,rfl,.inr (bR.of g0),rfl,_,rfl,_,rfl,k,_,_,_,rfl,rfl,.inl (bi.of ON),ab,e2,D,_,_,rfl,bR.of g2,RM,Me,MX,_,rfl,?_⟩
  show if aN _ _=true then _ else _
  rw [a2]
  refine gm ⟨F.trans OV,⟨ws++[w'],s++[.ref D],OV _ _ RY,ON,bX.same OV _ ae,by rw [aad,lw];rfl,λ j hj=>?_⟩,_,_,_,_,_,rfl⟩
  by_cases Oz:j<i
  . rw [BO (l:=ws++[w']),aaA (by lia),<- BO]
    exact Mt j Oz
  . obtain rfl:j=i:=by lia
    rw [BO (l:=ws++[w']),aaG (by lia),lw,acN]
    exact W
 .
  rintro U H6 ⟨s6,⟨ws,s,UL,U7,d6,lw,Mt⟩,Ut,Uh,UN,Wz,RD,rfl⟩
  have N:lF t n st o out u ws:=⟨lw,Mt⟩
  have X:=S4.trans s6
  have a5:(qI t u ws).length=(t.m2 n n).rows.length:=by rw [OS,lw,hl]
  have ow:o &&& (t.m2 n n).ws=o:=Bk ho
  have om:=(wk OY).2
  have a9:∀ out∈gJ (t.m2 n n) st o,ck (t.m2 n n) st o out:=λ out h=>Iu ok C L (om out h).1 ho (om out h).2
  have sp:Ol (t.m2 n n) st:=λ i b O z=>ua wf ok C (by lia) J z
  refine ⟨_,rfl,_,rfl,_,rfl,_,rfl,pc,cs,3,rfl,X.seq hc,by decide,λ c4 Z=>⟨p,t,n,B,ws,u,c4,rfl,hT.same X,ok,C,bi.of UL,lw,M,u9,λ Zl R S=>?_,λ qz R G S aG lz zU=>?_⟩⟩
  .
   have S7:=X.trans S
   have bs:=S _ _ U7
   obtain ⟨j,hj,ej⟩:=Zl
   obtain ⟨bu,bz⟩:=N.K4 wf ok C J Y M u9 hj hl ej
   refine ⟨_,rfl,rfl,_,rfl,jh ?_⟩
   refine ⟨_,rfl,x,Sn,_,rfl,S7 _ _ hx,rfl,_,rfl,_,rfl,_,rfl,x,L9,_,st,g,o,out,k,s,qI t u ws,rfl,hw.same S7,L,wM,bi.of bs,bX.same S _ d6,a5,N.Hf ok C J M u9,sp,ho,hf,Y,λ i O=>N.in_ wf ok C J Y M (by lia),⟨j,by lia,bu⟩,λ H8 b8 UP=>?_⟩
   have bm:=(hh.same S7).Fx (λ b u e nb=>b8 b u e (by simpa using nb)) UP a7
   have bp:=(hs.same S7).ts UP
   refine ⟨DR,λ Ur WG=>?_⟩
   have s9:=al (o:=.lst [.bl false,.cn]) WG
   have k9:(upd H8 Ur (.lst [.bl false,.cn])) Ur=some (.lst [.bl false,.cn]):=ag
   generalize upd H8 Ur (.lst [.bl false,.cn])=I at s9 k9 |-
   refine ⟨_,rfl,_,rfl,_,rfl,a,fp,_,q,st,o,rfl,bm.same s9,bp.same s9,L,ow,a9,sp,λ Z Jo F=>?_,λ qN=>absurd (qN out Kt) (by rw [bz];exact aah)⟩
   exact ⟨rfl,.inr ⟨_,rfl,Ur,_,_,_,rfl,rfl,.inl (bi.of (F _ _ k9)),rfl,k1 _⟩⟩
  .
   have S7:=X.trans S
   refine ⟨_,rfl,rfl,_,rfl,iH (λ h=>nomatch h) λ Z=>?_⟩
   refine ⟨_,rfl,x,Sn,_,rfl,S7 _ _ hx,rfl,_,rfl,_,rfl,_,rfl,qz,_,rfl,.inr (bR.of aG),λ Ui Yj=>?_⟩
   have s8:=al (o:=.lst (G.map aq)) Yj
   have k8:(upd R Ui (.lst (G.map aq))) Ui=some (.lst (G.map aq)):=ag
   generalize upd R Ui (.lst (G.map aq))=H8 at s8 k8 |-
   have S8:=S7.trans s8
   have a8:=S.trans s8
   have ec:(G.map λ x:Nat=>(x:Int)).map Int.toNat=G:=by rw [abP];exact List.map_id' G
   refine ⟨_,rfl,x,L9,_,st,g,o,out,Ui,G.map λ x:Nat=>(x:Int),.ref k,some (qI t u ws),rfl,hw.same S8,L,wM,.inl ?_,by rw [OS,hl,lz],⟨k,s,rfl,bi.of (a8 _ _ U7),bX.same a8 _ d6,a5,N.Hf ok C J M u9⟩,sp,λ Z Z=>tn,λ h=>absurd ho h,λ Z h=>absurd hf h,λ Z Z=>⟨λ i b O e=>?_,λ Z I b9 P3 Pa=>?_⟩⟩
   . rw [abP]
     exact bi.of k8
   . have e:=(N.MW wf ok C J Y M lz zU (show i<n by lia)).symm.trans e
     cases e
   rw [ec] at Pa
   obtain ⟨aj,Z1,q9,O6,bC,a3,n9⟩:=id Pa
   obtain ⟨rb,Dk,rf,r0,r1,r2,r3⟩:=id a3
   have V3:bR K I qz (G.map aq):=P3 _ _ (s8.tup (bR.of aG))
   have dz:∀ {v:ai},bR K I v (G.map aq)->Dn K I (.tuple (G.map iS)) (.ref v):=λ h=>fU h (jc _)
   have Ym:Df 1 (.tuple (G.map iS)):=λ d hd=>by
     obtain ⟨x,Z,rfl⟩:=aat.mp hd
     exact trivial
   have Vr:gW (t.m2 n n) (st.behind (t.m2 n n) G o out):=tn.next (by rw [lz,hl]) λ i O=>by
     have yx:i<n:=by lia
     have:=Ms (zU i yx)
     rw [lV ok yx]
     unfold av.row gN
     rw [OS,<- BO]
     exact this
   refine ⟨_,rfl,x,_,_,rfl,O6,rfl,x,aj,Z1,q9,_,rfl,O6,q9,_,_,_,rfl,rfl,.inr r0,rfl,_,rfl,?_⟩
   refine Il (dz r1) (dz V3) Ym (by decide) ⟨_,rfl,gm (A:=True) ?_⟩
   refine ⟨λ ba H'=>aD I H'/\∃ (RD:fR),ba=[some (.ref a),some (.ref p),some (.ref x),some (.ref pc),some (aq kk),some (.ref q),some (.ref po),some (aq o),some (aq out),some (.int u),some (.ref B),some (.ref k),Ut,Uh,UN,some (.ref qz),RD],?_,?_⟩
   .
    refine ⟨_,rfl,_,_,rfl,rfl,by decide,λ rr Z Z Z=>⟨rfl,_,rfl,iH (λ Z=>?_) (λ Z=>⟨aD.refl _,_,rfl⟩)⟩⟩
    have Ve:=(hh.same S8).Fx (λ b u e nb=>b9 b u e (by simpa using nb)) P3 a7
    have VW:=(hs.same S8).ts P3
    refine ⟨_,rfl,_,rfl,_,rfl,a,fp,_,q,st,o,rfl,Ve,VW,L,ow,a9,sp,λ Z Jo F=>?_,λ qN pd xs Jo F bo Nx=>?_⟩
    . refine ⟨_,rfl,rfl,_,rfl,?_⟩
      refine vD (λ h=>absurd rfl h) (λ Z=>⟨F,_,rfl⟩)
    .
     have G3:=F _ _ O6
     refine ⟨_,rfl,rfl,_,rfl,?_⟩
     refine vD (λ Z=>?_) (λ h=>nomatch h)
     have hm:=N.mem wf ok C J Y M hl lz zU Kt (qN out Kt)
     refine ⟨_,rfl,x,_,_,rfl,G3,rfl,x,aj,Z1,q9,_,rfl,G3,_,rfl,_,(EN (t.m2 n n) st o).map K7,(a3.same F).dn,⟨pd,xs,rfl,bi.of bo,JD Nx⟩,gc (F8 _) (by decide),Di _,_,rfl,?_⟩
     have ea:(((EN (t.m2 n n) st o).map K7).any λ e=>PyData.eqv e (K7 (st.behind (t.m2 n n) G o out)))=true:=adl.mpr ⟨_,aat.mpr ⟨_,hm,rfl⟩,AR (F8 _)⟩
     rw [ea]
     exact gm (A:=True) ⟨F,_,rfl⟩
   rintro ba Jo ⟨F,bA,rfl⟩
   exact k2 _ Jo (λ b u e nb=>F _ _ (b9 b u (S8 b u e) nb)) (((aD.ts S8).trans P3).trans (aD.ts F)) (Pa.same F) Vr
def Mz {f:ai} {fd:FuncData} (F:KH K "law" "law" DQ f fd) (T:Txt K mg Ad):ic P w K mg base uX 12 f fd ["_law_script"] (HJ K):=by
 refine F.ok qg (λ vs H Q E h=>?_) (λ bA A outer s H vs Q E g h=>?_)
 . obtain ⟨a,N,rfl,Z⟩:=h
   rfl
 .
  obtain ⟨a,N,rfl,hS,aE,Dt,k⟩:=h
  refine ⟨_,(ac (cM (i:=1) qg.nd (ak (Am T) g.m (aa (ak (yg T) g.m (aa (pv 0) af)) (aa (ak (bT T) g.m (aa (pv 0) (aa ah af))) af))))
    (ac (cM (i:=2) qg.nd (ak (yn T) g.m (aa (pv 1) af)))
    (ac (cM (i:=3) qg.nd (uE T.KG (nY T) .nil g.m T.NQ (aa (pv 2) (aa (ak (rP T) g.m (aa (pv 1) (aa (ak (bT T) g.m (aa (pv 0) (aa ah af))) (aa ah af)))) af))))
    (ac (dh aaN rfl (bN rfl T.cK (aa (aw aJ ah (aw i4 (br bO (by rfl) T.fX dL (aa (lX xG (pv 0) (kG ah) (kG ah)) af)) ah)) af)) (jq (i:=4) qg.nd) (ac (cM (i:=5) qg.nd (ak (AQ T) g.m (aa (pv 2) (aa (pv 1) (aa (pv 3) (aa (lX xG (pv 0) (kG (aw aJ ah (aw aL ah (pv 4)))) (kG (aw aJ ah (aw aL ah (pv 4))))) (aa (pv 4) af)))))))
    (ac (bB (aM qd (pv 5) dg (aR _)) (am (aI iC)) aK)
    (ac (bB (aM MZ (pv 5) iC (aR _)) (am (aI iC)) aK)
    (am (bB (aM lI (cS (pv 3) T.bx (sT T) .nil g.m) (aw aJ (pv 4) ah) (aR _)) (am (aI iC)) aK))))))
    (am (aI iC)))))),?_⟩
  try dsimp only [eD,aP]
  try (refine lN ?_;intro Z Z Z Z Z Z)
  refine ⟨_,rfl,a,N,rfl,hS,λ p H0 aj n n1 n4 ae S0 ab=>?_⟩
  refine ⟨_,rfl,a,N,4,rfl,S0.seq hS,by decide,λ c4 Z=>⟨p,aj,H,n,c4,rfl,ae,S0,ab,λ H1 t ok S1 hT=>?_⟩⟩
  refine ⟨_,rfl,p,t,n,rfl,hT,ok,n1,n4,λ ha j Y S2 hh hF hn tw=>?_⟩
  have v:=hT.same S2
  have ZO:=(S1.trans S2).seq hS
  obtain ⟨f1,f2,f3,f4⟩:=eR t n n
  have yA:(t.m2 n n).Uz:=by unfold ap.Uz;rw [f2,f3,f4];exact ok.bounds
  refine ⟨_,rfl,_,rfl,_,rfl,a,N,4,rfl,ZO,by decide,λ c5 Z=>⟨p,t,n,c5,3,rfl,v,ok,n4,by decide,λ q C l L pF so=>?_⟩⟩
  intro x D hx jf WP
  have I:aD l (upd (upd l D (.own x)) x (.ins Ad.Walk D [])):=(al jf).trans (al (by rw [aB (abA WP)];exact hx))
  have Pf:(upd (upd l D (.own x)) x (.ins Ad.Walk D [])) x=some (.ins Ad.Walk D []):=ag
  generalize upd (upd l D (.own x)) x (.ins Ad.Walk D [])=H5 at I Pf |-
  refine ⟨x,D,ha,Y,_,q,C,rfl,Pf,(hh.same L).same I,pF.same I,so,yA,λ L9 H6 b6 a3 an a1=>⟨rfl,?_⟩⟩
  have O:aD l H6:=λ b o e=>b6 b o (I b o e) (λ z=>by rw [aai.mp z,hx] at e;cases e)
  have r:aD j H6:=L.trans O
  have x2:j x=none:=L.free hx
  have ad:x∉Y:=λ z=>by
    obtain ⟨o,e⟩:=hh.some x z
    rw [x2] at e;cases e
  refine ⟨_,rfl,5,rfl,60,rfl,a,_,rfl,r.seq ZO,λ pc W4=>⟨_,_,rfl,.inl (bi.of ag),λ c ec=>⟨_,_,rfl,rfl,⟨by decide,mE⟩,λ d ed=>⟨_,_,rfl,rfl,λ e ee=>?_⟩⟩⟩⟩
  have hc:c<=63:=by
    have:=rA (N.map V.int) (some 5) (some 60)
    rw [OS] at this
    lia
  have a2:0<=c:=by lia
  rw [adx c (by decide)] at ed
  have t0:=al (o:=.lst (p5 (N.map V.int) (some 5) (some 60))) W4
  refine ⟨e,rfl,by lia,by lia,gM (lo:=0) (n:=e.toNat) (λ i U H'=>A3 (aD j H') (∃ C,qy K Ad.aX Ad.Walk H' x L9 (t.m2 n n) C (i:Int)/\gW (t.m2 n n) C) (E2 λ (v4 v5:fR)=>U=[some (.ref a),some (.ref p),some (.ref ha),some (.ref x),v4,v5])) ⟨r.trans t0,⟨C,an.same t0,so⟩,none,none,rfl⟩ ?_ ?_⟩
  .
   rintro Z i U G hi ⟨R,⟨s7,W,S⟩,v4,v5,rfl⟩
   have bk:Bd 100 (0+(i:Int)):=VA 100 (by lia) (by lia)
   refine ⟨_,rfl,_,rfl,_,rfl,_,rfl,_,rfl,_,_,rfl,rfl,⟨3,100,mE,bk,by decide⟩,λ m1 Ux=>⟨_,_,rfl,rfl,λ M aG=>⟨_,rfl,_,rfl,_,_,rfl,rfl,⟨3,100,mE,bk,by decide⟩,λ m3 aH=>⟨_,_,rfl,rfl,λ B a0=>⟨_,rfl,a,_,rfl,R.seq ZO,λ J IQ=>?_⟩⟩⟩⟩⟩
   have t8:=al (o:=.lst (p5 (N.map V.int) (some M) (some B))) IQ
   have k8:(upd G J (.lst (p5 (N.map V.int) (some M) (some B)))) J=some (.lst ((Ll N (some M) (some B)).map V.int)):=by rw [<- Fu];exact ag
   generalize upd G J (.lst (p5 (N.map V.int) (some M) (some B)))=H8 at t8 k8 |-
   generalize Ll N (some M) (some B)=u at k8
   have X:=R.trans t8
   have Tx:aD j (fP H8 [x]):=λ b o e=>lZ (X b o e) (λ z=>by rw [aai.mp z,x2] at e;cases e)
   refine ⟨_,rfl,ha,Y,p,t,n,x,L9,s7,(i:Int),J,u,i,by rw [aap];rfl,hh.same X,ad,v.same Tx,ok,n4,W.same t8,S,bi.of k8,by lia,λ H9=>?_,λ s9 H9 b9 P3 Pa Vr=>?_⟩
   . refine ⟨_,rfl,rfl,_,rfl,iH (λ z=>nomatch z) (λ Z=>?_)⟩
     exact ⟨_,rfl,_,_,rfl,rfl,_,rfl,jh (k H9)⟩
   .
    refine ⟨_,rfl,rfl,_,rfl,iH (λ z=>nomatch z) (λ Z=>?_)⟩
    refine ⟨_,rfl,_,_,rfl,rfl,_,rfl,gm ?_⟩
    have T9:aD j H9:=λ b o e=>b9 b o (X b o e) (λ z=>by rw [aai.mp z,x2] at e;cases e)
    obtain ⟨Sn,hd,qq,ZQ,Z⟩:=id Pa
    refine ⟨_,rfl,x,_,_,rfl,ZQ,rfl,x,Sn,hd,qq,_,rfl,ZQ,_,rfl,_,_,rfl,rfl,λ y ey=>⟨rfl,_,rfl,fz (by rw [ey,aap]) ?_⟩⟩
    exact ⟨T9,⟨s9,by push_cast;exact Pa,Vr⟩,_,_,rfl⟩
  . rintro U G ⟨R,⟨s7,W,S⟩,v4,v5,rfl⟩
    exact k G
end
def walk {l:W.OpenLaw} {q:bq} {L:cp} {X:(cy)->aU->Prop} {Y:bh->aU->Prop} {d:DefRec} {K:Params->aC} (j:l.most=some 63) (p:d.params.defaults=[]) (R:d.name = "law")
   (H:∀ (w:bh) (h:aU),Y w h->(K w.params).In h)
   (F:∀ (w:bh) (m:cy) (h:aU),(K w.params).In h->h.Ns mainGlobals m->∃ A,Txt (K w.params) m A) :
   W.WalkO q L X Y l.row.toRowW d [] (λ f vs=>PySem.call f vs) :=
 L2.Ic (k:=12) (x:="_law_script") j p ⟨rfl,by decide,by decide⟩ H
   (λ w m n h c G O=>by
     obtain ⟨Z,T⟩:=F w m h c G
     obtain ⟨f,g,i,a⟩:=id T.SU
     rw [R] at O
     have e:=O.symm.trans i
     cases e
     exact ⟨g,a.MM (λ Z Z Z Z Z Z Z=>rfl),λ b Z Z=>Mz a T⟩)
end K21
namespace PySem.W.Fast
abbrev q:=True
def tw12871222902637024536:=q
def tw10731404321623976532:=q
def tw8170425815554454475:=q
def tw17800352404592185873:=q
def tw15179971924232570328:=q
def tw7017866954568737417:=q
def tw10012185389179483065:=q
def tw16540844373459529088:=q
def tw11458594955097649286:=q
def tw64819646844796405:=q
def tw6741784989238207087:=q
def tw5456607086715825896:=q
def tw1684473220406819228:=q
def tw5772347000522055292:=q
def tw6585956972523722084:=q
def tw11051392523951823814:=q
def tw8726599259439222545:=q
def tw5762276508560571043:=q
def tw16700156354234483801:=q
def tw1617315685532531663:=q
def tw8775110772108962269:=q
def tw16698066226856370266:=q
def tw1875771206953640779:=q
def tw13390454407471446525:=q
def tw6366435437663346105:=q
def tw15054043445291068389:=q
def tw3202714356093595939:=q
def tw3187985100432822941:=q
def tw7743437689810217332:=q
def tw4621457596504182701:=q
def tw4564756482335275767:=q
def tw1148898808965955228:=q
def tw7387046139116188529:=q
def tw1994168168867708794:=q
def tw10524166253805223293:=q
def tw9713418442948105923:=q
def tw11154168976864673211:=q
def tw12796374239546606766:=q
def tw8701345709849878582:=q
def tw3161091402257923993:=q
def tw8301700766181031711:=q
def tw7497560150261118390:=q
def tw6943412711976594385:=q
def tw17504055094638169518:=q
def tw16740794868683980825:=q
def tw553755615104754951:=q
def tw801790194912488683:=q
def tw2916616185400850190:=q
def tw3224878477865676127:=q
def tw11758896628090818059:=q
def tw1004114043129551800:=q
def tw829332652898384697:=q
def tw4596893829707536750:=q
def tw2669948860930948329:=q
def tw4710449953141547996:=q
def tw16149596217499793764:=q
def tw6097931984208653817:=q
def tw14566351135945384618:=q
def tw18442434720722591591:=q
def tw17560521822085853267:=q
def tw11017632983803780780:=q
def tw223671735925293414:=q
def tw14054843983761685570:=q
def tw12081293261849923537:=q
def tw17561041049269610490:=q
def tw6912974779514968943:=q
def tw12952686309868231521:=q
def tw5532359102804565697:=q
def tw9726802319699135590:=q
def tw11857723407932714340:=q
def tw9045470042798217294:=q
def tw9906446718774055867:=q
def tw6025255340335662134:=q
def tw12222421371672367842:=q
def tw2048139304627072206:=q
def tw11003553651141196889:=q
def tw7326448463682207549:=q
def tw12171888644546896912:=q
def tw16389637894076434807:=q
def tw10076800350455161775:=q
def tw6797289372802785387:=q
def tw10700051984693018025:=q
def tw15453713563396320519:=q
def tw6010722587438089123:=q
def tw11096397301311359507:=q
def tw5741973074331924534:=q
def tw2038589289452298931:=q
def tw15891085220527441205:=q
def tw8502657679272585956:=q
def tw5516570276536963876:=q
def tw1472734504162175773:=q
def tw1101031645076456324:=q
def tw4183099925289693908:=q
def tw23578361406414118:=q
def tw15299227353201670197:=q
def tw14675070325998218960:=q
def tw12614043318210179588:=q
def tw14391231899920395723:=q
def tw8729915416660911765:=q
def tw5701458417902493376:=q
def tw8942742408468558015:=q
def tw4343767648585922354:=q
def tw10422823953991762026:=q
def tw3556437186329187682:=q
def tw14879437407369867754:=q
def tw17162581534685395362:=q
def tw15695209562945509193:=q
def tw12692197565141425025:=q
def tw3955045443853279950:=q
def tw18275087893634890461:=q
def tw15812814127332023541:=q
def tw15571888276217580598:=q
def tw743132639146356081:=q
def tw7585157016623295433:=q
def tw6109572731830412937:=q
def tw13675207784047972657:=q
def tw16347685936997154836:=q
def tw13209486555542745937:=q
def tw11289614272870404918:=q
def tw9819202027391411385:=q
def tw1077580289482879768:=q
def tw2342109249853947844:=q
def tw13828626530778486771:=q
def tw5438109407212122298:=q
def tw4105068650587217429:=q
def tw4320825393841916310:=q
def tw12941151856559041222:=q
def tw6721430370537268652:=q
def tw17027568577525696193:=q
def tw9899411579896176134:=q
def tw438760859798467835:=q
def tw14803567262102505863:=q
def tw1994848393021054922:=q
def tw11108687873866141783:=q
def tw636200775211053540:=q
def tw8231422934604986350:=q
def tw3089839241577009319:=q
def tw7294403325011093368:=q
def tw18102542204751161309:=q
def tw12630566483406294607:=q
def tw10613702927603635133:=q
def tw10240164869876954451:=q
def tw17947460735788091184:=q
def tw2272046621325784345:=q
def tw12684916667046924816:=q
def tw12068911736924760628:=q
def tw15070622141065969078:=q
def tw7403414081990945992:=q
def tw12465981554978450505:=q
def tw9447307898504131094:=q
def tw5005323026567893021:=q
def tw6349852163337072508:=q
def tw5082289402034779638:=q
def tw6252930059718975824:=q
def tw44951174035262327:=q
def tw14486098174130410412:=q
def tw12621077081796504873:=q
def tw14445655526493114863:=q
def tw1776974618209570650:=q
def tw12791618851348613119:=q
def tw10528832185445117744:=q
def tw8618358100061977990:=q
def tw1875943636117682294:=q
def tw82303719157815539:=q
def tw5388520545836044528:=q
def tw18217430211004097510:=q
def tw11828667521394989898:=q
def tw14653794517926138993:=q
def tw16858437928947106037:=q
def tw4186197966069044292:=q
def tw11182302447607035831:=q
def tw11986997458360697367:=q
def tw13312314515403837313:=q
def tw11876117420879681776:=q
def tw5132509682174933314:=q
def tw13719796109230549984:=q
def tw16482361473446939667:=q
def tw2650603917702025011:=q
def tw16309642193974111774:=q
def tw15708470375379861197:=q
def tw7360805512270445126:=q
def tw6856282573573673291:=q
def tw3297860963193763037:=q
def tw6854657495819879976:=q
def tw16968398132894057259:=q
def tw975292825486321934:=q
def tw16444335810249184066:=q
def tw3373671711958154673:=q
def tw833932916000487230:=q
def tw5370323952858026164:=q
def tw11870216751920848354:=q
def tw2113282272333855031:=q
def tw14568657929141066154:=q
def tw16592688866384081280:=q
def tw4082445191283138419:=q
def tw13892205240871238309:=q
def tw7984895655490999430:=q
def tw14779173893488940240:=q
def tw17216009806409131:=q
def tw14299648839995660724:=q
def tw13786234127648243761:=q
def tw8673686951016335928:=q
def tw15501492446956112635:=q
def tw10896018838505305274:=q
def tw2623415839940548679:=q
def tw929263140073272131:=q
def tw1747831005779043029:=q
def tw18360562945197635630:=q
def tw12843601077347754042:=q
def tw7990121462124346667:=q
def tw13301502825412008381:=q
def tw18392183033691028315:=q
def tw5505988312377920280:=q
def tw17142817940057911225:=q
def tw11890975236184847468:=q
def tw2759591499680033107:=q
def tw2412378418408681179:=q
def tw14820087617811122024:=q
def tw5277890701472432594:=q
def tw1595673752774248455:=q
def tw10449977954145443825:=q
def tw3251373644677361935:=q
def tw7054839938953099824:=q
def tw6764823052120047328:=q
def tw15190047657876863733:=q
def tw4475033563516795348:=q
def tw4217995341388136533:=q
def tw16507225255365202994:=q
def tw12053180202861157680:=q
def tw8893347246896794232:=q
def tw8376324970322427348:=q
def tw16214220572921250941:=q
def tw5939408846780964245:=q
def tw8529091621163907202:=q
def tw14372389712654296258:=q
def tw2772875853849064191:=q
def tw2329503743619231560:=q
def tw10683931346114543934:=q
def tw14491461088923179920:=q
def tw13036189127930054871:=q
def tw12792243109769529600:=q
def tw11151501577319519762:=q
def tw13203720187033142316:=q
def tw3129584762261294923:=q
def tw6817470173974605819:=q
def tw17522728459890480775:=q
def tw11938201253615264234:=q
def tw12845551375209127981:=q
def tw4496695411618347727:=q
def tw1894370851649022858:=q
def tw13022629882508279829:=q
def tw8977530527176718789:=q
def tw6628471083617137383:=q
def tw4388718365002603176:=q
def tw9346791736824341492:=q
def tw13950202889717618714:=q
def tw3811097313689356176:=q
def tw2413041330301296950:=q
def tw7864618276864226649:=q
def tw17390483105523494537:=q
def tw5968178424724060571:=q
def tw16494512721887205256:=q
def tw18045273519659796219:=q
def tw2156136008022051777:=q
def tw15048424784817601612:=q
def tw7501913718026494914:=q
def tw8074660849310975605:=q
def tw7525241989920239296:=q
def tw11677255633321788268:=q
def tw7403519001024189126:=q
def tw5501907989185390902:=q
def tw5185905613157100911:=q
def tw18421955069740413779:=q
def tw1685463553678156959:=q
def tw1343113199840484263:=q
def tw10580018104000932062:=q
def tw17423347890007600587:=q
def tw2430001870497517420:=q
def tw16452451073193908313:=q
def tw11842635838869153655:=q
def tw6021411137624020861:=q
def tw62441561673614188:=q
def tw9670006261199367420:=q
def tw13037760346224515808:=q
def tw17425968390644308124:=q
def tw11612994352339165830:=q
def tw861535530561365581:=q
def tw17071085994456459154:=q
def tw13206099552309734272:=q
def tw11047892076337622557:=q
def tw16265928367620681308:=q
def tw13432979232134619119:=q
def tw11009930177271061261:=q
def tw13381253720341064511:=q
def tw9813656350236492367:=q
def tw7445382750419405467:=q
def tw2553099009618430249:=q
def tw8789497905597255591:=q
def tw8172320888240991758:=q
def tw5931781657610829675:=q
def tw5260873466922524566:=q
def tw3330763396935765479:=q
def tw18289285670612565806:=q
def tw16326933363019714135:=q
def tw13126106115569442755:=q
def tw12954976160529823106:=q
def tw12645885369601153299:=q
def tw8836315261577159034:=q
def tw5045509184209560255:=q
def tw16087312817491112684:=q
def tw17428736854023870914:=q
def tw12601843300882587875:=q
def tw15031471401556682783:=q
def tw18037179407067079400:=q
def tw11118081831656187721:=q
def tw13229270150928097570:=q
def tw3474279401044411483:=q
def tw15939239189982634701:=q
def tw1385722744123289198:=q
def tw6674982918488187225:=q
def tw6078275232296427763:=q
def tw16650079072124765079:=q
def tw475781436275601449:=q
def tw3649265165475159311:=q
def tw11523421225570153887:=q
def tw13415658103583384561:=q
def tw12235547004404575445:=q
def tw5958961661101141742:=q
def tw4346471932496294614:=q
def tw12764017710388055233:=q
def tw1490270723253544841:=q
def tw683507408278858152:=q
def tw10514685631427967470:=q
def tw4791424175304861723:=q
def tw13204014362288286408:=q
def tw16796990762969403612:=q
def tw14443779011549130143:=q
def tw15261335108879124529:=q
def tw13524506325099380809:=q
def tw18421799863303923869:=q
def tw10175769028257466774:=q
def tw7093881394009490110:=q
def tw11766258679289248845:=q
def tw8804011321457836460:=q
def tw15439101934362559526:=q
def tw10235426197970385432:=q
def tw12523530327447320085:=q
def tw9617662643294198888:=q
def tw16420068071102209150:=q
def tw16890401638142053463:=q
def tw6938480062960075446:=q
def tw4920071495707741355:=q
def tw5801770160800072748:=q
def tw10662752458411088420:=q
def tw16950631318628976590:=q
def tw14660324371714668777:=q
def tw17487920684269555562:=q
def tw6496547643026200220:=q
def tw563359225248670654:=q
def tw9812354035178315426:=q
def tw727602112135028441:=q
def tw11866969416563279833:=q
def tw5958405599812831158:=q
def tw8672401533203519800:=q
def tw17073664964668706544:=q
def tw1665636619688453136:=q
def tw18006398399459802142:=q
def tw10261172840759633186:=q
def tw7746807843538870820:=q
def tw7017798713175716843:=q
def tw5365226425756955331:=q
def tw14179553303167054155:=q
def tw1248183258876372940:=q
def tw11254192794934563395:=q
def tw2246869151876640183:=q
def tw20905289431990603:=q
def tw16188875394616887385:=q
def tw12582471511404194440:=q
def tw7999964073855227190:=q
def tw7543930675896130076:=q
def tw17434305933554706978:=q
def tw16478013005201536138:=q
def tw14688192589458776436:=q
def tw590727729517924843:=q
def tw6640987734119784194:=q
def tw80150762870149386:=q
def tw14382511617807657465:=q
def tw7819860231285444383:=q
def tw5774621196868066036:=q
def tw10182262244720769042:=q
def tw1198258343207407643:=q
def tw8187919500548965019:=q
def tw17499691224462654988:=q
def tw3312117750794766060:=q
def tw13778661226823010554:=q
def tw7282905329448189774:=q
def tw18381509657222978034:=q
def tw14514053618918318801:=q
def tw16710337426419003746:=q
def tw13719615457520102755:=q
def tw2504259338697316159:=q
def tw999254823558284267:=q
def tw2943185930161342864:=q
def tw17431742091951711421:=q
def tw1512755207108148024:=q
def tw3698554576146621772:=q
def tw8410742419862683431:=q
def tw7308896758134662144:=q
def tw13072136238870314176:=q
def tw13208725035169099783:=q
def tw2968604487470180351:=q
def tw13185811790867091650:=q
def tw12707457824717821027:=q
def tw7272931903171553681:=q
def tw3302644693363869633:=q
def tw18359127711801064108:=q
def tw15144672843964283443:=q
def tw6285224599562701653:=q
def tw2273396304136702429:=q
def tw14607919581468356195:=q
def tw13704203462319759886:=q
def tw13493259642334552975:=q
def tw11869676072288510143:=q
def tw8985483551942988712:=q
def tw16398867529872011244:=q
def tw244636286106233133:=q
def tw6161157855930667465:=q
def tw5666969004160080526:=q
def tw13228127274794312807:=q
def tw1347997782757707533:=q
def tw1227712803650304874:=q
def tw6991299429310844562:=q
def tw1284362466661749593:=q
def tw12589480646836745299:=q
def tw1057153230270701648:=q
def tw13538793232174513927:=q
def tw11575596631825531819:=q
def tw10279998286011499040:=q
def tw14975473719954366169:=q
def tw14482925620433148457:=q
def tw18044059976244376346:=q
def tw11077055916341058123:=q
def tw14291964665498723628:=q
def tw11092721245302681736:=q
def tw9822281032663272536:=q
def tw501729715162991938:=q
def tw12949816882733411869:=q
def tw1218141836756173672:=q
def tw12408364756879925799:=q
def tw12049033606570938440:=q
def tw15943544319377605982:=q
def tw16102713152632424040:=q
def tw13984295658243927510:=q
def tw12870660951227011264:=q
def tw1670932176413292852:=q
def tw861456204124246328:=q
def tw7922684983562694743:=q
def tw13758015948905209325:=q
def tw13490823151045682079:=q
def tw2779153245082946405:=q
def tw12705298922757496847:=q
def tw9278407050496902636:=q
def tw17532705440323271988:=q
def tw15973871600912349428:=q
def tw15870965850851201355:=q
def tw10283665851113385389:=q
def tw9229980693132448507:=q
def tw16928239297922070540:=q
def tw12708690920396196581:=q
def tw11841067420703116729:=q
def tw7912289978897846651:=q
def tw6795671724029046246:=q
def tw13582884043893788032:=q
def tw5269819154385132657:=q
def tw661590496478052548:=q
def tw17440490033876491858:=q
def tw11939964907188029517:=q
def tw6598002214082715104:=q
def tw13440067550242452493:=q
def tw12444483664174603259:=q
def tw13534869209988458689:=q
def tw15872462925984063727:=q
def tw14916083336324369847:=q
def tw14767432211981035574:=q
def tw11500896665031376323:=q
def tw5278283566486890013:=q
def tw2819078854960082804:=q
def tw2377097630609721363:=q
def tw13102627531821638309:=q
def tw15972071467743265334:=q
def tw15954663994310698211:=q
def tw5412976830915093410:=q
def tw12734410524616194806:=q
def tw857334216344225462:=q
def tw6428341786996058520:=q
def tw5949709372130235179:=q
def tw18034504606577233080:=q
def tw15417371325763446706:=q
def tw12258919333498190440:=q
def tw6860655925249053116:=q
def tw2586961481291244909:=q
def tw1767980411443626518:=q
def tw18343540424633194250:=q
def tw14278611830650174222:=q
def tw6135817458863996687:=q
def tw8452847651582349141:=q
def tw18269917415320210943:=q
def tw13958984058171387499:=q
def tw11195499116233737119:=q
def tw9987664776870449788:=q
def tw78269893605671571:=q
def tw6865335355738392871:=q
def tw5198631812845794348:=q
def tw5214892546717269054:=q
def tw14862259009608670806:=q
def tw1911077675975385760:=q
def tw8009196820315736244:=q
def tw10487153700151572246:=q
def tw16957767302619278217:=q
def tw7879518532352140349:=q
def tw4636929682768470557:=q
def tw8178740416466623776:=q
def tw16190861201716979448:=q
def tw11352399809638062153:=q
def tw7528768769986142484:=q
def tw6111663642005768908:=q
def tw13131928952487926680:=q
def tw585630150651306505:=q
def tw5245815699963842981:=q
def tw334133288317702338:=q
def tw2186488757801461846:=q
def tw95704606828671016:=q
def tw7989815864782073937:=q
def tw7376726545332524511:=q
def tw6679723855099817436:=q
def tw6019713173780603185:=q
def tw5962151017209289255:=q
def tw4889378505100840541:=q
def tw18263626137346730839:=q
def tw1785100298537305984:=q
def tw15647253980321993654:=q
def tw14166047866913396856:=q
def tw12384174786991986680:=q
def tw5299551763336318055:=q
def tw4006535188122284895:=q
def tw15028361129606320215:=q
def tw15024341948389514193:=q
def tw11363415629186070452:=q
def tw6474879753511514782:=q
def tw14441058380562076600:=q
def tw13169347106775766795:=q
def tw12827200727735574696:=q
def tw6778541868651069727:=q
def tw9782084867623255668:=q
def tw9488558758423118715:=q
def tw8660466359956167765:=q
def tw8632550568400112521:=q
def tw6056070779285255045:=q
def tw5500004528919812681:=q
def tw3855987780856934555:=q
def tw2898627505738762015:=q
def tw2420357118920014679:=q
def tw2233635652108517742:=q
def tw2032706418813212959:=q
def tw15634464808492185890:=q
def tw14793049950111446157:=q
def tw1217573775128591347:=q
def tw10312215445045022061:=q
def tw10212363076223351954:=q
def tw7747144070896257112:=q
def tw4756075643886169547:=q
def tw7518594276197564289:=q
def tw5353013691402668592:=q
def tw5198563761367087183:=q
def tw4656756230176167070:=q
def tw2960642629575684841:=q
def tw17584414789431166418:=q
def tw16129087129174585581:=q
def tw17821592207471154761:=q
def tw12659640354069984317:=q
def tw14955474892719192055:=q
def tw12025556386884157765:=q
def tw7719600442220597312:=q
def tw6030129913531283278:=q
def tw5849715403698899780:=q
def tw5818189328844038823:=q
def tw4930113208219132612:=q
def tw4371947241560205347:=q
def tw3852765921009984016:=q
def tw3458902638463253669:=q
def tw3234515197541004981:=q
def tw313371259632274139:=q
def tw17693925565651605410:=q
def tw17399838381594069891:=q
def tw17249841425986264150:=q
def tw16625562426855090746:=q
def tw15930760272458803540:=q
def tw15838529075824027017:=q
def tw15270226453213403330:=q
def tw12033621763188968784:=q
def tw11472991965166701498:=q
def tw10719205587628983702:=q
def tw10612431373395645910:=q
def tw9441991993456015100:=q
def tw8068902404960263763:=q
def tw7996510953979338704:=q
def tw6139722220018550658:=q
def tw5916455887466282460:=q
def tw4491431138985003277:=q
def tw3171723247878510441:=q
def tw2496665781542100308:=q
def tw1947892720826136426:=q
def tw18259082334307335074:=q
def tw17321607256653597459:=q
def tw15840398523380325090:=q
def tw14387258067342683745:=q
def tw14328486093291849246:=q
def tw14219258337516245697:=q
def tw12981288736723253046:=q
def tw12096228906167934783:=q
def tw11189842228158469207:=q
def tw10723718661333080913:=q
def tw10516044877198851427:=q
def tw16222733378594040807:=q
def tw10389603507074521823:=q
def tw9090039469709105111:=q
def tw7464504235428280488:=q
def tw17085369003382108139:=q
def tw17951722411650001794:=q
def tw13799451750256207604:=q
def tw8390005153959463466:=q
def tw8084623702947441238:=q
def tw5926570125115559620:=q
def tw5721112973297533615:=q
def tw5619725498843801128:=q
def tw3996663567253473848:=q
def tw2878626813112876001:=q
def tw18241190828886751887:=q
def tw16141520370890960448:=q
def tw15197304691192437436:=q
def tw15165921882802919842:=q
def tw14578512704882413278:=q
def tw1184407923815451361:=q
def tw10947417351531680429:=q
def tw10550338202671511614:=q
def tw10209572750312013933:=q
def tw9725856167450989702:=q
def tw8939893979034504536:=q
def tw7949149319243648350:=q
def tw7887139685491820900:=q
def tw7692874469320638523:=q
def tw7212315708018545643:=q
def tw6966005399699380667:=q
def tw5553498133344992198:=q
def tw5300711241830093896:=q
def tw4878545881606004244:=q
def tw4430355264493708741:=q
def tw2572673156967801166:=q
def tw2490521025368408214:=q
def tw16190160298161987319:=q
def tw16102562342489285538:=q
def tw15747936635264164459:=q
def tw14419176209811002070:=q
def tw13178434352874162650:=q
def tw10735837834341800805:=q
def tw10516455004913676681:=q
def tw10428674871179429791:=q
def tw5464927155216793844:=q
def tw9997795906297198999:=q
def tw9968669547650362584:=q
def tw9935376746957690777:=q
def tw9918509992303736824:=q
def tw9914363979124107338:=q
def tw978644673031291921:=q
def tw9784539301611931653:=q
def tw9777660166569447196:=q
def tw9714553819091063257:=q
def tw9495492130202294833:=q
def tw9494657826142251768:=q
def tw9293976426268808008:=q
def tw92697591733183982:=q
def tw9249309422294847555:=q
def tw9234207655761125279:=q
def tw9051740909603587648:=q
def tw9012315840681397472:=q
def tw9006256745134623700:=q
def tw891816978762868157:=q
def tw888297624360026176:=q
def tw8840392054671209579:=q
def tw8809575666306282410:=q
def tw8689966806621209239:=q
def tw8475017000985801531:=q
def tw8422857410568914347:=q
def tw8410552756656894934:=q
def tw830538907625101611:=q
def tw8298640001900062337:=q
def tw8269086626323360836:=q
def tw8200469479471066937:=q
def tw8198664230935798712:=q
def tw8106924369876172197:=q
def tw8087626782276674721:=q
def tw8054376446013835369:=q
def tw8012074071727063459:=q
def tw8001354763192304534:=q
def tw7875865104236740648:=q
def tw7732701091263920601:=q
def tw7713284418767923956:=q
def tw7630473750208650623:=q
def tw7305856780806195828:=q
def tw7223900264558156757:=q
def tw7214000861631971928:=q
def tw7126553622362787119:=q
def tw7126078791593407117:=q
def tw7078976193638111946:=q
def tw6974794119295048428:=q
def tw6808056941416429905:=q
def tw677578096763693670:=q
def tw6689652467886273861:=q
def tw6549648842178452732:=q
def tw6505752408428131321:=q
def tw6446790649009521050:=q
def tw6166691942488566520:=q
def tw613152461120938096:=q
def tw6088151599983014274:=q
def tw5944948913105984065:=q
def tw5938622938835140285:=q
def tw5781153876313716002:=q
def tw5553876117328482503:=q
def tw5414050214235106059:=q
def tw5397539577153964802:=q
def tw5228653832467248428:=q
def tw5161309157854635814:=q
def tw5143261398791954869:=q
def tw5142020944703473648:=q
def tw5111651295886293640:=q
def tw5063649836475117974:=q
def tw495698949399029992:=q
def tw4924456879648159582:=q
def tw492301662178104443:=q
def tw485928951475020320:=q
def tw4817399969679617361:=q
def tw4799612794699520611:=q
def tw4762916706726523660:=q
def tw4715689868604292188:=q
def tw4594994749868898308:=q
def tw4252689216370744838:=q
def tw422117938516232603:=q
def tw4040667240864664681:=q
def tw4031525985680194701:=q
def tw4023811522488616957:=q
def tw3992657252110891304:=q
def tw3720880176138216908:=q
def tw3699747013987546486:=q
def tw3638318343623894615:=q
def tw3610355527518858853:=q
def tw3505657435054653862:=q
def tw3474520745492160197:=q
def tw3348770637602908111:=q
def tw3325303568767062094:=q
def tw3273316061333726377:=q
def tw3240908358892957991:=q
def tw32104375967653586:=q
def tw3138893950738935043:=q
def tw3109623333510384984:=q
def tw3034441144599531961:=q
def tw3027177474781070689:=q
def tw298690583883321873:=q
def tw2725052201690644280:=q
def tw2688692162355615855:=q
def tw2611791373508896872:=q
def tw2556549768867335239:=q
def tw2532302869919058016:=q
def tw2461731230097664214:=q
def tw2241961060017958929:=q
def tw2210319141087130062:=q
def tw2155694629387472382:=q
def tw2009421568745144259:=q
def tw1906278412236541977:=q
def tw1897186896767168700:=q
def tw1877264066163184358:=q
def tw18380293549156231463:=q
def tw18183208208821668214:=q
def tw18159621979784048700:=q
def tw18144371348841077508:=q
def tw18118895237194986046:=q
def tw18098509851897306366:=q
def tw17949037940156168374:=q
def tw17916294391494083444:=q
def tw17747675206025484946:=q
def tw17730174792670225200:=q
def tw17694731434089333621:=q
def tw17639388621308944317:=q
def tw17525510554402194085:=q
def tw17455228205336652257:=q
def tw17397038163925074379:=q
def tw17284684421883368395:=q
def tw17276844542512783306:=q
def tw1726468149063235537:=q
def tw17175453505574488181:=q
def tw17122241961318241769:=q
def tw17059532464083569777:=q
def tw17058833315717625637:=q
def tw16919955089041114654:=q
def tw16625815646304279879:=q
def tw16529078148698508711:=q
def tw16505165636732630769:=q
def tw16446638620992902907:=q
def tw1634120681840755495:=q
def tw16336285676992670378:=q
def tw1632133618912643091:=q
def tw16146895151979575268:=q
def tw16138812851452656633:=q
def tw16123313939612005616:=q
def tw16099494391807537764:=q
def tw16078154841060857855:=q
def tw16077394966617044282:=q
def tw16061768576550416145:=q
def tw15880069237875907700:=q
def tw15658996423139048299:=q
def tw15383287527849910084:=q
def tw1517373086845175893:=q
def tw15162761134748938240:=q
def tw14919238416411195860:=q
def tw14849850923836649073:=q
def tw14746541265283029396:=q
def tw14425369758872273104:=q
def tw14334207363797163565:=q
def tw14298967414690925117:=q
def tw14287642916619039670:=q
def tw14187416549286425238:=q
def tw13958838953796487490:=q
def tw13934001196451116200:=q
def tw13840248731159418523:=q
def tw13819497365910026586:=q
def tw13805914831658193591:=q
def tw13623810133950183983:=q
def tw13437763906364021353:=q
def tw13129717180376104041:=q
def tw13043340737402295787:=q
def tw13022539745094725944:=q
def tw12973032597448205845:=q
def tw12947975306927370979:=q
def tw1290715436507173585:=q
def tw12629519507731615881:=q
def tw12501672814881990539:=q
def tw12370543437488736702:=q
def tw12341537713997654237:=q
def tw12324669025378233962:=q
def tw12282132413816040838:=q
def tw12239685611156964573:=q
def tw12171749047656604201:=q
def tw12171273000269388589:=q
def tw12077375166115609761:=q
def tw12061613206293606475:=q
def tw12035930623930735249:=q
def tw11947470320220095800:=q
def tw11729540309149751146:=q
def tw11696338224866232356:=q
def tw11619769967498320724:=q
def tw11419204572037977441:=q
def tw11415980795571242274:=q
def tw11401602066322956751:=q
def tw11330079742528129480:=q
def tw11291381316710665726:=q
def tw11157537410938087702:=q
def tw11124943014758510892:=q
def tw11021991270788627851:=q
def tw10885971983900147898:=q
def tw10878336578178449896:=q
def tw10865133877741808909:=q
def tw1064102049978731227:=q
def tw10612810476838104358:=q
def tw10596161350822106572:=q
def tw10585648298046720940:=q
def tw10576208845473291767:=q
def tw10495271852594373162:=q
def tw1047461870530909133:=q
def tw10081975753877958405:=q
def tw10028691310389912587:=q
end PySem.W.Fast
open PySem PySem.W PyProof.Rows
set_option maxRecDepth 100000 in
set_option maxHeartbeats 0 in
theorem PySem.Challenge.cw_stoke_k21_whole_nature_holds : PySem.Challenge.rw_stoke_k21_whole_nature.Holds := by
 w_on; o_law; k_head; (case hw => w_witness2)
 k_fill
 refine K21.walk (l:=PySem.Challenge.rw_stoke_k21_whole_nature) rfl rfl rfl (fun w h Y => PySem.W.kIn_of Y) ?F
 case F =>
   intro w mg h KX G
   refine' ⟨_,K21.txt_mk KX G ..⟩
   iterate 2 (all_goals try first | exact ⟨_,_,_,_,_,_,_,_,_,_,by k_is,by k_is,by k_is,by k_is,by k_is⟩ | exact ⟨_,_,_,_,_,_,_,_,_,_,by k_is,by k_is,by k_is,by k_is⟩ | ((try delta K21.kq_); (try delta K21.kc_); (try delta K21.kf_); (try delta K21.kn_); (try delta K21.kg_); first | k_is | k_exc | kernel_rfl))
